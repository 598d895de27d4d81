import PyProof.Rows.All
import Wide.All
import OpenK.AllK
import Wide.FinOn
import Lean
import PyProof.EqAt
import PyProof.EqKinds
import PyProof.TupleCall
import PySem.Challenge.RW_thingyard_k43_asked_in_order
set_option Elab.async false
set_option linter.all false
set_option maxRecDepth 100000
noncomputable section
namespace L2
open PySem PySem.Spec PyProof.Rows
noncomputable abbrev Key:=Sum Int Str
noncomputable def zCf:Key->Value->Bool
 | .inl k,v=>Value.isInt k v
 | .inr x,v=>Value.isStrOf x v
noncomputable def zPF (w:World):Key->Int
 | .inl k=>hashInt k
 | .inr x=>hashStr w x
theorem qH:∀ {k:Key}{v:Value},zCf k v=true->(∃ i t,k=Sum.inl i/\v=Value.int i t)\/(∃ x t,k=Sum.inr x/\v=Value.str x t)
 | .inl i,v,h=>by
  obtain⟨t,e⟩:=Value.isInt_shape (k:=i) (v:=v) h
  exact .inl ⟨i,t,rfl,e⟩
 | .inr x,v,h=>by
  obtain⟨t,e⟩:=Value.isStrOf_shape (x:=x) (v:=v) h
  exact .inr ⟨x,t,rfl,e⟩
theorem zII (i:Int) (t:Tok):zCf (.inl i) (.int i t)=true:=by simp[zCf,Value.isInt]
theorem zJI (x:Str) (t:Tok):zCf (.inr x) (.str x t)=true:=by simp[zCf,Value.isStrOf]
theorem zNC (a b:Int):decide ((Sum.inl a:Key)=Sum.inl b)=(a == b):=by
 by_cases e:a=b
 ·subst e;simp
 ·have h:¬ (Sum.inl a:Key)=Sum.inl b:=fun q=>e (Sum.inl.inj q)
  rw[decide_eq_false h]
  exact (beq_eq_false_iff_ne.mpr e).symm
theorem zMt (a b:Str):decide ((Sum.inr a:Key)=Sum.inr b)=decide (a=b):=by
 by_cases e:a=b
 ·subst e;simp
 ·have h:¬ (Sum.inr a:Key)=Sum.inr b:=fun q=>e (Sum.inr.inj q)
  rw[decide_eq_false h,decide_eq_false e]
theorem zM9 (a:Int) (b:Str):decide ((Sum.inl a:Key)=Sum.inr b)=false:=decide_eq_false (fun q=>nomatch q)
theorem zNU (a:Str) (b:Int):decide ((Sum.inr a:Key)=Sum.inl b)=false:=decide_eq_false (fun q=>nomatch q)
noncomputable def jP (prog:Program) (w:World):PySem.KeyKind prog w Key where
 is:=zCf
 hash:=zPF w
 inj:=fun v a b ha hb=>by
  rcases qH ha with ⟨i,t,rfl,rfl⟩ | ⟨x,t,rfl,rfl⟩
  ·rcases qH hb with ⟨j,u,rfl,e⟩ | ⟨y,u,rfl,e⟩
   ·injection e with e1 _;rw[e1]
   ·exact nomatch e
  ·rcases qH hb with ⟨j,u,rfl,e⟩ | ⟨y,u,rfl,e⟩
   ·exact nomatch e
   ·injection e with e1 _;rw[e1]
 byValue:=fun k v h=>by
  rcases qH h with ⟨i,t,rfl,rfl⟩ | ⟨x,t,rfl,rfl⟩<;>rfl
 pyHash:=fun hv h=>by
  rcases qH hv with ⟨i,t,rfl,rfl⟩ | ⟨x,t,rfl,rfl⟩
  ·exact wpAny_pyHash_int h
  ·exact wpAny_pyHash_str h
 eqBool:=fun hu hv h=>by
  rcases qH hu with ⟨i,t,rfl,rfl⟩ | ⟨x,t,rfl,rfl⟩
  ·rcases qH hv with ⟨j,u,rfl,rfl⟩ | ⟨y,u,rfl,rfl⟩
   ·rw[zNC] at h;exact wpAny_eqBool_int h
   ·rw[zM9] at h;exact SeqAt.EqAt.int_str i t y u _ _ _ _ h
  ·rcases qH hv with ⟨j,u,rfl,rfl⟩ | ⟨y,u,rfl,rfl⟩
   ·rw[zNU] at h;exact SeqAt.EqAt.str_int x t j u _ _ _ _ h
   ·rw[zMt] at h;exact wpAny_eqBool_str h
 «strs» := fun k x t v h=>by
  rcases qH h with ⟨i,u,rfl,e⟩ | ⟨y,u,rfl,e⟩
  ·exact nomatch e
  ·injection e with e1 _
   subst e1
   cases v<;>rfl
theorem zGg (prog:Program) (w:World) (i:Int) (t:Tok):(jP prog w).is (.inl i) (.int i t)=true:=zII i t
theorem zGk (prog:Program) (w:World) (x:Str) (t:Tok):(jP prog w).is (.inr x) (.str x t)=true:=zJI x t
end L2
namespace L2
open PySem PySem.Spec PyProof.Rows
inductive V where
 | non | bl (b:Bool) | int (i:Int) | str (x:Str) | byt (b:Array UInt8) | flt (b:UInt64) | ref (a:Addr) | ty (n:String)
 deriving DecidableEq
noncomputable def zh:V->Value->Prop
 | .non,u=>u=Value.none
 | .bl b,u=>u=Value.bool b
 | .int i,u=>∃ t,u=Value.int i t
 | .str x,u=>∃ t,u=Value.str x t
 | .byt b,u=>∃ t,u=Value.bytes b t
 | .flt b,u=>∃ t,u=Value.float b t
 | .ref a,u=>u=Value.ref a
 | .ty n,u=>u=Value.type n
noncomputable abbrev zd:List V->List Value->Prop:=Paired zh
theorem zd.length {xs:List V}{us:List Value} (r:zd xs us):xs.length=us.length:=Paired.length r
theorem zd.get:∀ {xs:List V}{us:List Value}{i:Nat}{x:V},zd xs us->xs[i]? = some x->∃ u,us[i]? = some u/\zh x u
 | _,_,_,_,.nil,e=>by simp at e
 | _,_,0,_,.cons r _,e=>by simp at e;subst e;exact⟨_,rfl,r⟩
 | _,_,i+1,x,.cons _ t,e=>by
  obtain⟨u,h1,h2⟩:=zd.get (i:=i) (x:=x) t (by simpa using e)
  exact⟨u,by simpa using h1,h2⟩
theorem zd.set {x:V}{u:Value} (r:zh x u):∀ {xs:List V}{us:List Value} (i:Nat),zd xs us->zd (xs.set i x) (us.set i u)
 | _,_,_,.nil=>.nil
 | _,_,0,.cons _ t=>.cons r t
 | _,_,i+1,.cons q t=>.cons q (zd.set r i t)
theorem zd.append:∀ {xs ys:List V}{us ws:List Value},zd xs us->zd ys ws->zd (xs++ys) (us++ws)
 | _,_,_,_,.nil,s=>s
 | _,_,_,_,.cons r t,s=>.cons r (zd.append t s)
theorem zd.take:∀ {xs:List V}{us:List Value} (n:Nat),zd xs us->zd (xs.take n) (us.take n)
 | _,_,0,_=>.nil
 | _,_,_+1,.nil=>.nil
 | _,_,n+1,.cons r t=>.cons r (zd.take n t)
theorem zd.drop:∀ {xs:List V}{us:List Value} (n:Nat),zd xs us->zd (xs.drop n) (us.drop n)
 | _,_,0,r=>r
 | _,_,_+1,.nil=>.nil
 | _,_,n+1,.cons _ t=>zd.drop n t
noncomputable def QG:Option V->Option Value->Prop
 | some v,some u=>zh v u
 | none,none=>True
 | _,_=>False
noncomputable def KV {κ:Type}:List (κ×V)->List (κ×Value)->Prop:=Paired fun (p:κ×V) (q:κ×Value)=>p.1=q.1/\zh p.2 q.2
noncomputable def kV:Key->V
 | .inl i=>.int i
 | .inr x=>.str x
inductive HO where
 | lst (xs:List V)
 | tup (xs:List V)
 | dK (kvs:List (Key×V)) | dT (kvs:List (List Key×V))
 | set (S:Int->Bool) (n:Nat)
 | ins (C dx:Addr) (fs:List (Str×V))
 | own (x:Addr)
 | xd (fs:List (Str×V))
 | met (f x:Addr)
 | rng (lo hi:Int)
 | frz (o:Obj) (u:HO)
 | tbl (ps:Array Value)
 | ext (φ:Heap->Prop)
noncomputable abbrev Hp:=Addr->Option HO
noncomputable def upd (H:Hp) (a:Addr) (o:HO):Hp:=fun b=>if b=a then some o else H b
theorem jU {H:Hp}{a:Addr}{o:HO}:upd H a o a=some o:=by unfold upd;rw[if_pos rfl]
theorem zf {H:Hp}{a b:Addr}{o:HO} (h:b≠a):upd H a o b=H b:=by unfold upd;rw[if_neg h]
theorem zOU {H:Hp}{a b:Addr}{o u:HO} (h:H a=some o) (h':H b=some u) (d:o≠u):a≠b:=by
 intro e;subst e;rw[h] at h';exact d (Option.some.inj h')
theorem ZX {H:Hp}{a b:Addr}{o:HO} (h:H a=some o) (h':H b=none):a≠b:=by
 intro e;subst e;rw[h] at h';cases h'
section
variable (P:Program) (w:World)
noncomputable def je (H:Hp) (h:Heap) (a:Addr):HO->Prop
 | .lst xs=>xs.length <= sizeLine/\∃ (its:List Value) (n:Nat),zd xs its/\h.get? a=some { cls:=.type "list",data:=.seq its.toArray n }
 | .tup xs=>xs.length <= sizeLine/\∃ its:List Value,zd xs its/\IsTup h a its.toArray
 | .dK kvs=>kvs.length <= sizeLine/\(a == sysModules)=false/\∃ vs,KV kvs vs/\h.DictOf (jP P w) a vs
 | .dT kvs=>kvs.length <= sizeLine/\(a == sysModules)=false/\∃ xs:List (List Key×Addr×Value),
   Paired (fun (p:List Key×V) (q:List Key×Addr×Value)=>p.1=q.1/\H q.2.1=some (.tup (p.1.map kV))/\zh p.2 q.2.2) kvs xs /\
   ∃ o es ep,h.get? a=some o/\o.ExactDict/\o.data=.dict es ep/\es.toList=xs.map (entryOfKey (tupleKind (jP P w)))/\(xs.map (·.1)).Nodup
 | .set S n=>h.SetOf (intKind P w) a S n
 | .ins C dx fs=>H dx=some (.own a)/\fs.length <= 1000/\dx≠a/\h.get? a=some (PySem.W.instObj C dx) /\
   ∃ mA,h.Ns1 dx mA/\(∀ f,QG (fs.lookup f) (mA f))/\PySem.Within mA (fs.map (·.1))
 | .own _=>∃ o,h.get? a=some o
 | .xd fs=>∃ mA,h.Ns1 a mA/\∀ f,QG (fs.lookup f) (mA f)
 | .rng lo hi=>∃ t u v,h.get? a=some { cls:=.type "range",data:=.fields #[.int lo t,.int hi u,.int 1 v] }
 | .frz o u=>h.get? a=some o/\je H h a u
 | .tbl ps=>h.get? a=some { cls:=.none,data:=.fields ps }
 | .met f x=>h.get? a=some (PySem.W.methodObj (.ref f) (.ref x))
 | .ext φ=>φ h/\(∃ o,h.get? a=some o)/\∀ h1 h2:Heap,φ h1->(∀ o,h1.get? a=some o->h2.get? a=some o)->φ h2
noncomputable def HOk (H:Hp) (h:Heap):Prop:=∀ a o,H a=some o->je P w H h a o
end
section
variable {P:Program}{w:World}{H H':Hp}{h h':Heap}{a:Addr}{o:HO}
theorem je.lt (x:je P w H h a o):a < h.objs.size:=by
 cases o with
 | lst xs=>obtain⟨_,_,_,_,e⟩:=x;exact Heap.lt_size e
 | tup xs=>obtain⟨_,_,_,p⟩:=x;exact p.lt
 | dK kvs=>obtain⟨_,_,_,_,o,_,_,e,_⟩:=x;exact Heap.lt_size e
 | dT kvs=>obtain⟨_,_,_,_,o,_,_,e,_⟩:=x;exact Heap.lt_size e
 | set S n=>obtain⟨o,_,_,_,e,_⟩:=x;exact Heap.lt_size e
 | ins C dx fs=>obtain⟨_,_,_,e,_⟩:=x;exact Heap.lt_size e
 | own y=>obtain⟨_,e⟩:=x;exact Heap.lt_size e
 | xd fs=>obtain⟨_,⟨_,_,_,e,_⟩,_⟩:=x;exact Heap.lt_size e
 | rng lo hi=>obtain⟨_,_,_,e⟩:=x;exact Heap.lt_size e
 | frz ob u=>obtain⟨e,_⟩:=x;exact Heap.lt_size e
 | tbl ps=>exact Heap.lt_size (show h.get? a=some _ from x)
 | met f y=>exact Heap.lt_size (show h.get? a=some _ from x)
 | ext φ=>obtain⟨_,⟨_,e⟩,_⟩:=x;exact Heap.lt_size e
theorem Paired.mapP {α β:Type}{F G:α->β->Prop}:∀ {l₁:List α}{l₂:List β},Paired F l₁ l₂->(∀ a b,F a b->G a b)->Paired G l₁ l₂
 | _,_,.nil,_=>.nil
 | _,_,.cons r t,f=>.cons (f _ _ r) (Paired.mapP t f)
theorem je.stay (x:je P w H h a o) (k:∀ b u,(b=a\/H b=some (.own a))->h.get? b=some u->h'.get? b=some u)
  (ho:∀ b,H b=some (.own a)->H' b=some (.own a)) (ht:∀ b xs,H b=some (.tup xs)->H' b=some (.tup xs)):je P w H' h' a o:=by
 induction o with
 | lst xs=>obtain⟨z,its,n,r,e⟩:=x;exact⟨z,its,n,r,k _ _ (.inl rfl) e⟩
 | tup xs=>obtain⟨z,its,r,ob,e,c⟩:=x;exact⟨z,its,r,ob,k _ _ (.inl rfl) e,c⟩
 | dK kvs=>obtain⟨z,y,vs,r,ob,es,ep,e,c⟩:=x;exact⟨z,y,vs,r,ob,es,ep,k _ _ (.inl rfl) e,c⟩
 | dT kvs =>
  obtain⟨z,y,xs,r,ob,es,ep,e,c⟩:=x
  exact⟨z,y,xs,Paired.mapP r fun p q z=>⟨z.1,ht _ _ z.2.1,z.2.2⟩,ob,es,ep,k _ _ (.inl rfl) e,c⟩
 | set S n=>obtain⟨ob,es,ep,t,e,c⟩:=x;exact⟨ob,es,ep,t,k _ _ (.inl rfl) e,c⟩
 | ins C dx fs =>
  obtain⟨d,z,ne,e,mA,⟨od,es,ep,e2,c⟩,r⟩:=x
  exact⟨ho _ d,z,ne,k _ _ (.inl rfl) e,mA,⟨od,es,ep,k _ _ (.inr d) e2,c⟩,r⟩
 | own y=>obtain⟨ob,e⟩:=x;exact⟨ob,k _ _ (.inl rfl) e⟩
 | xd fs=>obtain⟨mA,⟨od,es,ep,e,c⟩,r⟩:=x;exact⟨mA,⟨od,es,ep,k _ _ (.inl rfl) e,c⟩,r⟩
 | rng lo hi=>obtain⟨t,u,v,e⟩:=x;exact⟨t,u,v,k _ _ (.inl rfl) e⟩
 | frz ob u ih=>obtain⟨e,q⟩:=x;exact⟨k _ _ (.inl rfl) e,ih q⟩
 | tbl ps =>
  have e:h.get? a=some { cls:=.none,data:=.fields ps }:=x
  show h'.get? a=some { cls:=.none,data:=.fields ps }
  exact k a _ (.inl rfl) e
 | met f y =>
  have e:h.get? a=some (PySem.W.methodObj (.ref f) (.ref y)):=x
  show h'.get? a=some (PySem.W.methodObj (.ref f) (.ref y))
  exact k a _ (.inl rfl) e
 | ext φ=>obtain⟨p,⟨o,e⟩,st⟩:=x;exact⟨st _ _ p fun o q=>k _ _ (.inl rfl) q,⟨o,k _ _ (.inl rfl) e⟩,st⟩
theorem HOk.lt (x:HOk P w H h) (e:H a=some o):a < h.objs.size:=(x a o e).lt
theorem HOk.fresh (x:HOk P w H h) (e:h.objs.size <= a):H a=none:=by
 cases q:H a with
 | none=>rfl
 | some u=>exact absurd (Nat.lt_of_lt_of_le (x.lt q) e) (Nat.lt_irrefl _)
theorem HOk.kept (x:HOk P w H h) (k:∀ b u,h.get? b=some u->h'.get? b=some u):HOk P w H h':=fun a o e =>
 (x a o e).stay (fun b u _ q=>k b u q) (fun _ q=>q) fun _ _ q=>q
theorem HOk.laid (x:HOk P w H h) (k:∀ b u,h.get? b=some u->h'.get? b=some u) (hp:h.objs.size <= a) (new:je P w (upd H a o) h' a o):HOk P w (upd H a o) h':=fun b u e=>by
 have hn:=x.fresh hp
 by_cases hb:b=a
 ·subst hb;rw[jU] at e;cases e;exact new
 ·rw[zf hb] at e
  exact (x b u e).stay (fun c v _ q=>k c v q) (fun c q=>by rw[zf (ZX q hn)];exact q) fun c xs q=>by rw[zf (ZX q hn)];exact q
end
noncomputable def Rd (H:Hp) (a:Addr) (u:HO):Prop:=H a=some u\/∃ o,H a=some (.frz o u)
theorem Rd.ok {P:Program}{w:World}{H:Hp}{h:Heap}{a:Addr}{u:HO} (r:Rd H a u) (x:HOk P w H h):je P w H h a u:=by
 rcases r with r | ⟨o,r⟩
 ·exact x a u r
 ·obtain⟨_,q⟩:=x a _ r
  exact q
noncomputable def Mut:Option HO->Prop
 | some (.lst _)=>True
 | some (.dK _)=>True
 | some (.dT _)=>True
 | some (.set _ _)=>True
 | some (.ins _ _ _)=>True
 | some (.ext _)=>True
 | _=>False
section
variable {P:Program}{w:World}{H:Hp}{h h':Heap}{x e:Addr}{o':HO}
theorem HOk.write (ok:HOk P w H h) (mu:Mut (H x)) (he:e=x\/H e=some (.own x)) (k:∀ b u,b≠e->h.get? b=some u->h'.get? b=some u) (heo:∃ u,h'.get? e=some u)
  (new:je P w (upd H x o') h' x o'):HOk P w (upd H x o') h':=fun b u q=>by
 have nown:∀ c y,H c=some (.own y)->c≠x:=fun c y r z=>by subst z;rw[r] at mu;exact mu
 have ntup:∀ c xs,H c=some (.tup xs)->c≠x:=fun c xs r z=>by subst z;rw[r] at mu;exact mu
 by_cases hb:b=x
 ·subst hb;rw[jU] at q;cases q;exact new
 ·rw[zf hb] at q
  by_cases hbe:b=e
  ·have q':H b=some (.own x):=by
    rcases he with z | z
    ·exact absurd (hbe.trans z) hb
    ·rw[hbe];exact z
   rw[q] at q';cases q'
   obtain⟨v,hv⟩:=heo
   exact⟨v,by rw[hbe];exact hv⟩
  ·refine (ok b u q).stay (fun c v hc r=>k c v ?_ r) (fun c r=>by rw[zf (nown c b r)];exact r) fun c xs r=>by rw[zf (ntup c xs r)];exact r
   rcases hc with rfl | hc
   ·exact hbe
   ·rintro rfl
    rcases he with z | z
    ·exact nown c b hc z
    ·rw[hc] at z;cases z;exact hb rfl
end
structure Un (fs ex:List Addr) (H H':Hp) (h h':Heap):Prop where
 keep:∀ b o,h.get? b=some o->H b=none->b∉fs->b∉ex->h'.get? b=some o
 slot:∀ b o,h.get? b=some o->H b=none->b∈fs->b∉ex->∃ sl,h'.get? b=some { o with slots:=sl }
 free:∀ b o,h.get? b=some o->H b=none->b∉ex->H' b=none
 there:∀ b o,h.get? b=some o->b∉ex->∃ o',h'.get? b=some o'
 tups:∀ b xs,H b=some (.tup xs)->H' b=some (.tup xs)
 frzs:∀ b o u,H b=some (.frz o u)->H' b=some (.frz o u)
 tbls:∀ b ps,H b=some (.tbl ps)->∃ more,H' b=some (.tbl (ps++more))
section
variable {fs fs' ex ex':List Addr}{H H1 H2:Hp}{h h1 h2 h':Heap}{a x e:Addr}{o:HO}
theorem Un.any (u:Un fs ex H H1 h h1) {b:Addr}{ob:Obj} (q:h.get? b=some ob) (n:H b=none) (hx:b∉ex):∃ sl,h1.get? b=some { ob with slots:=sl }:=by
 by_cases hb:b∈fs
 ·exact u.slot b ob q n hb hx
 ·exact⟨ob.slots,u.keep b ob q n hb hx⟩
theorem Un.kept (k:∀ b u,h.get? b=some u->h'.get? b=some u):Un fs ex H H h h' :=
 ⟨fun b ob q _ _ _=>k b ob q,fun b ob q _ _ _=>⟨ob.slots,k b ob q⟩,fun _ _ _ n _=>n,fun b ob q _=>⟨ob,k b ob q⟩,fun _ _ q=>q,fun _ _ _ q=>q,fun _ ps q=>⟨#[],by rw[q];simp⟩⟩
theorem Un.refl:Un fs ex H H h h:=Un.kept fun _ _ q=>q
theorem Un.laid (k:∀ b u,h.get? b=some u->h'.get? b=some u) (hp:h.objs.size <= a) (hn:H a=none):Un fs ex H (upd H a o) h h' where
 keep:=fun b u q _ _ _=>k b u q
 slot:=fun b u q _ _ _=>⟨u.slots,k b u q⟩
 free:=fun b u q n _=>by rw[zf (Nat.ne_of_lt (Nat.lt_of_lt_of_le (Heap.lt_size q) hp))];exact n
 there:=fun b u q _=>⟨u,k b u q⟩
 tups:=fun b xs q=>by rw[zf (ZX q hn)];exact q
 frzs:=fun b u xs q=>by rw[zf (ZX q hn)];exact q
 tbls:=fun b ps q=>⟨#[],by rw[zf (ZX q hn),q];simp⟩
theorem Un.write (mu:Mut (H x)) (he:e=x\/H e=some (.own x)) (k:∀ b u,b≠e->h.get? b=some u->h'.get? b=some u) (heo:∃ u,h'.get? e=some u):Un fs ex H (upd H x o) h h':=by
 have hx:∀ b,H b=none->b≠x:=fun b n z=>by subst z;rw[n] at mu;exact mu
 have hb:∀ b,H b=none->b≠e:=fun b n z=>by
  subst z
  rcases he with r | r
  ·exact hx b n r
  ·rw[n] at r;cases r
 have hm:∀ b u,H b=some u -> ¬ Mut (some u)->b≠x:=fun b u q nm z=>by subst z;rw[q] at mu;exact nm mu
 refine⟨fun b u q n _ _=>k b u (hb b n) q,fun b u q n _ _=>⟨u.slots,k b u (hb b n) q⟩,fun b u q n _=>by rw[zf (hx b n)];exact n,fun b u q _=>?_,
  fun b xs q=>by rw[zf (hm b _ q fun z=>z)];exact q,fun b u xs q=>by rw[zf (hm b _ q fun z=>z)];exact q,fun b ps q=>⟨#[],by rw[zf (hm b _ q fun z=>z),q];simp⟩⟩
 by_cases hbe:b=e
 ·subst hbe;exact heo
 ·exact⟨u,k b u hbe q⟩
end
noncomputable def trk (h:Heap) (H:Hp):List Addr:=(List.range h.objs.size).filter fun a=>(H a).isSome
noncomputable def zBI (h:Heap) (H:Hp):Heap:=PySem.W.hideAll h (trk h H)
theorem zIV (h:Heap) (H:Hp):(zBI h H).objs.size=h.objs.size:=PySem.W.hideAll_size _ _
theorem zJW {h:Heap}{H:Hp}{b:Addr}{o:Obj} (e:h.get? b=some o) (n:H b=none):(zBI h H).get? b=some o :=
 PySem.W.hideAll_get _ e fun hm=>by
  have q:(H b).isSome=true:=(List.mem_filter.mp hm).2
  rw[n] at q;simp at q
theorem zLz {h:Heap}{H:Hp}{b:Addr}{o:Obj} (e:(zBI h H).get? b=some o):h.get? b=some o/\H b=none:=by
 have e':h.get? b=some o:=PySem.W.of_hideAll (trk h H) e
 refine⟨e',?_⟩
 cases q:H b with
 | none=>rfl
 | some x =>
  have hm:b∈trk h H:=List.mem_filter.mpr ⟨List.mem_range.mpr (Heap.lt_size e'),by simp[q]⟩
  have z:(zBI h H).get? b=none:=PySem.W.hideAll_none (trk h H) hm
  rw[z] at e;cases e
noncomputable def zL7 (g h:Heap) (L:Addr):List (Addr×Obj):=(List.range h.objs.size).filterMap fun a=>if a=L\/(g.get? a).isSome=true then none else (h.get? a).map fun o=>(a,o)
noncomputable def jY (g h:Heap) (L d:Addr):List (Addr×Obj):=(zL7 g h L).filter fun p=>decide (p.1≠d)
end L2
namespace L2
open PySem PySem.Spec PyProof.Rows
structure Mod (K:PySem.W.Frag) (mg:Str->Option Value) (base:Heap):Prop where
 kin:K.In base
 glob:base.Ns mainGlobals mg
 blt:∃ mb,base.Ns builtinsNs mb/\∀ x:Str,x ≠ "__name__" -> mb x=bootBuiltins x
 nolimit:base.NoLimit
structure Cx where
 prog:Program
 w:World
 K:PySem.W.Frag
 mg:Str->Option Value
 base:Heap
 A:Around
 N:List Str
 s₀:Shared
 H₀:Hp
 env:Env
 outer:List Env
 stack:List Env
 ex:List Addr
 fn:Str->Bool
 calm:Bool
 pn:List (Addr×Obj)
 xe:Value->Shared->Prop
noncomputable def frs (l:List Env):List Addr:=l.filterMap (·.frame)
noncomputable abbrev Cx.fs (X:Cx):List Addr:=frs X.outer
noncomputable def Vis (sc:Scope) (x:Str):Prop:=sc.names.lookup x=some .local\/sc.names.lookup x=some .cell\/sc.names.lookup x=some .free
noncomputable def Loc (sc:Scope) (x:Str):Prop:=sc.names.lookup x=some .local\/sc.names.lookup x=some .cell
noncomputable def zO9 (env:Env) (h:Heap) (m:Str->Option Value) (x:Str) (u:Value):Prop :=
 (env.kindOf x=some .local/\m x=some u)\/((env.kindOf x=some .cell\/env.kindOf x=some .free)/\∃ c,env.cells.lookup x=some c/\h.IsCell c (some u))
structure Cx.Ok (X:Cx):Prop where
 mod:Mod X.K X.mg X.base
 kind:X.env.scope.kind=.function
 glob:X.env.globals=mainGlobals
 blt:X.env.builtins=builtinsNs
 above:X.s₀.heap.objs.size <= X.env.locals
 inj:∀ x y c,X.env.cells.lookup x=some c->X.env.cells.lookup y=some c->x=y
 has:∀ x,(X.env.kindOf x=some .cell\/X.env.kindOf x=some .free)->∃ c,X.env.cells.lookup x=some c
 cab:∀ x c,X.fn x=true->X.env.cells.lookup x=some c->X.s₀.heap.objs.size <= c
 hd:X.calm=true->X.A.handled=none
 frames:X.A.frames=some X.stack
 stk:X.stack=X.outer\/(X.stack=X.env::X.outer/\X.env.frame=some X.env.locals)
 exf:∀ b∈X.ex,b≠X.env.locals/\∀ x c,X.env.cells.lookup x=some c->c≠b
 bs:∀ b o,X.base.get? b=some o->X.s₀.heap.get? b=some o/\X.H₀ b=none
 bsz:X.base.objs.size <= X.s₀.heap.objs.size
 noex:∀ b o,X.base.get? b=some o->b∉X.ex
 exfs:∀ b∈X.ex,b∉X.fs
 funs:X.s₀.heap.FunFrames X.base X.outer
 frf:∀ b∈X.fs,X.H₀ b=none
structure Inv (X:Cx) (pins:List (Addr×Obj)) (σ:List (Option V)) (H:Hp) (s:Shared):Prop where
 ok:X.Ok
 os:s.os=X.s₀.os
 bare:AllBare s.gens
 base:Un X.fs X.ex X.H₀ H X.s₀.heap s.heap
 loc:∃ m,s.heap.Ns X.env.locals m/\∀ (i:Nat) (x:Str) (v:V),X.N[i]? = some x->σ[i]? = some (some v)->Vis X.env.scope x->∃ u,zh v u/\zO9 X.env s.heap m x u
 cell:∀ x c,X.env.cells.lookup x=some c->∃ v,s.heap.IsCell c v
 free:H X.env.locals=none
 freeC:∀ x c,X.env.cells.lookup x=some c->H c=none
 pin:∀ p∈X.pn++pins,s.heap.get? p.1=some p.2/\H p.1=none/\p.1≠X.env.locals/\p.1∉X.fs/\∀ v,p.2.data≠.cell v
 hok:HOk X.prog X.w H s.heap
 len:σ.length=X.N.length
 tk:0 < s.toks
section
variable {X:Cx}{pins:List (Addr×Obj)}{σ:List (Option V)}{H H':Hp}{s:Shared}{h':Heap}
theorem Cx.Ok.nofr (ok:X.Ok) {b:Addr}{o:Obj} (e:X.base.get? b=some o):b∉X.fs:=fun hb=>by
 have:=(ok.funs.mem hb).1
 rw[e] at this;cases this
theorem Inv.bs (I:Inv X pins σ H s):∀ b o,X.base.get? b=some o->s.heap.get? b=some o/\H b=none:=fun b o e =>
 ⟨I.base.keep b o (I.ok.bs b o e).1 (I.ok.bs b o e).2 (I.ok.nofr e) (I.ok.noex b o e),I.base.free b o (I.ok.bs b o e).1 (I.ok.bs b o e).2 (I.ok.noex b o e)⟩
theorem Inv.bk (I:Inv X pins σ H s):∀ b o,X.base.get? b=some o->s.heap.get? b=some o:=fun b o e=>(I.bs b o e).1
theorem Inv.mod (I:Inv X pins σ H s):Mod X.K X.mg X.base:=I.ok.mod
theorem Inv.kIn (I:Inv X pins σ H s):X.K.In s.heap:=I.ok.mod.kin.keeps I.bk
theorem Inv.fr (I:Inv X pins σ H s):∃ m,Fr X.base X.env.locals s.heap m :=
 let ⟨m,hn,_⟩:=I.loc
 ⟨m,hn,I.bk,Nat.le_trans I.ok.bsz I.ok.above⟩
theorem Inv.lt (I:Inv X pins σ H s):X.env.locals < s.heap.objs.size:=let ⟨_,hn,_⟩:=I.loc;hn.lt
theorem Inv.sz (I:Inv X pins σ H s):X.s₀.heap.objs.size <= s.heap.objs.size:=Nat.le_trans I.ok.above (Nat.le_of_lt I.lt)
theorem Inv.nofs (I:Inv X pins σ H s) {a:Addr} (h:s.heap.objs.size <= a):a∉X.fs:=fun hb=>by
 obtain⟨_,o,ho,_⟩:=I.ok.funs.mem hb
 exact absurd (Nat.lt_of_lt_of_le (Heap.lt_size ho) (Nat.le_trans I.sz h)) (Nat.lt_irrefl _)
theorem Inv.cne (I:Inv X pins σ H s):∀ x c,X.env.cells.lookup x=some c->c≠X.env.locals:=fun x c e z=>by
 obtain⟨v,o,ho,hd⟩:=I.cell x c e
 obtain⟨m,⟨o',es,ep,ho',hd',_⟩,_⟩:=I.loc
 rw[z,ho'] at ho;cases ho;rw[hd'] at hd;cases hd
theorem Inv.funs (I:Inv X pins σ H s):s.heap.FunFrames X.base X.outer:=by
 have all:∀ (l:List Env),(∀ b∈frs l,b∈X.fs)->X.s₀.heap.FunFrames X.base l->s.heap.FunFrames X.base l:=by
  intro l
  induction l with
  | nil=>intro _ _;trivial
  | cons env r ih =>
   intro hs hl
   obtain⟨hk,⟨L,o,hf,hn,ho,hd⟩,hr⟩:=hl
   have hL:L∈X.fs:=hs L (by unfold frs;rw[List.filterMap_cons,hf];exact List.mem_cons_self)
   obtain⟨sl,e⟩:=I.base.slot L o ho (I.ok.frf L hL) hL fun z=>I.ok.exfs L z hL
   exact⟨hk,⟨L,_,hf,hn,e,hd⟩,ih (fun b hb=>hs b (by unfold frs;rw[List.filterMap_cons,hf];exact List.mem_cons_of_mem _ hb)) hr⟩
 exact all X.outer (fun _ hb=>hb) I.ok.funs
theorem Inv.stack (I:Inv X pins σ H s):s.heap.FunFrames X.base X.stack:=by
 rcases I.ok.stk with e | ⟨e,hf⟩
 ·rw[e];exact I.funs
 ·rw[e]
  obtain⟨m,hn,_⟩:=I.loc
  refine .cons (by rw[I.ok.kind];decide) hf hn ?_ I.funs
  exact Heap.get?_none_of_le (Nat.le_trans I.ok.bsz I.ok.above)
theorem Inv.stkSub (I:Inv X pins σ H s):∀ b∈frs X.stack,b∈X.env.locals::X.fs:=fun b hb=>by
 rcases I.ok.stk with e | ⟨e,hf⟩
 ·rw[e] at hb;exact List.mem_cons_of_mem _ hb
 ·rw[e] at hb
  unfold frs at hb
  rw[List.filterMap_cons,hf] at hb
  exact hb
theorem Inv.stkFree (I:Inv X pins σ H s):∀ b∈frs X.stack,H b=none:=fun b hb=>by
 rcases List.mem_cons.mp (I.stkSub b hb) with e | hb
 ·rw[e];exact I.free
 ·obtain⟨_,o,ho,_⟩:=I.ok.funs.mem hb
  exact I.base.free b o ho (I.ok.frf b hb) fun z=>I.ok.exfs b z hb
theorem Inv.step {g':Array GenState}{t':Nat}{d':Drawn}{ch:List Addr} (I:Inv X pins σ H s)
  (hch:∀ b∈ch,(b∈X.ex\/X.s₀.heap.objs.size <= b)/\b≠X.env.locals/\(∀ x c,X.env.cells.lookup x=some c->c≠b)/\∀ p∈X.pn++pins,p.1≠b)
  (keep:∀ b o,b≠X.env.locals->b∉X.fs->b∉ch->s.heap.get? b=some o->H b=none->h'.get? b=some o)
  (slot:∀ b o,b≠X.env.locals->b∈X.fs->b∉ch->s.heap.get? b=some o->H b=none->∃ sl,h'.get? b=some { o with slots:=sl }) (free:∀ b o,b∉ch->s.heap.get? b=some o->H b=none->H' b=none)
  (there:∀ b o,b∉ch->s.heap.get? b=some o->∃ o',h'.get? b=some o')
  (tups:∀ b xs,H b=some (.tup xs)->H' b=some (.tup xs)) (frzs:∀ b o u,H b=some (.frz o u)->H' b=some (.frz o u)) (tbls:∀ b ps,H b=some (.tbl ps)->∃ more,H' b=some (.tbl (ps++more)))
  (ns:∀ m,s.heap.Ns X.env.locals m->h'.Ns X.env.locals m) (hok:HOk X.prog X.w H' h') (hg:AllBare g') (ht:0 < t':=by first | exact Nat.succ_pos _ | assumption | exact Inv.tk (by assumption) | omega) :
  Inv X pins σ H' { s with heap:=h',gens:=g',drawn:=d',toks:=t' }:=by
 have neL:∀ b o,X.s₀.heap.get? b=some o->b≠X.env.locals:=fun b o e=>Nat.ne_of_lt (Nat.lt_of_lt_of_le (Heap.lt_size e) I.ok.above)
 have neC:∀ b o,X.s₀.heap.get? b=some o->b∉X.ex->b∉ch:=fun b o e hx hb=>by
  rcases (hch b hb).1 with z | z
  ·exact hx z
  ·exact absurd (Nat.lt_of_lt_of_le (Heap.lt_size e) z) (Nat.lt_irrefl _)
 have cellK:∀ x c,X.env.cells.lookup x=some c->∀ v,s.heap.IsCell c v->h'.IsCell c v:=fun x c e v ⟨o,ho,hd⟩=>by
  have nch:c∉ch:=fun z=>(hch c z).2.2.1 x c e rfl
  by_cases hc:c∈X.fs
  ·obtain⟨sl,q⟩:=slot c o (I.cne x c e) hc nch ho (I.freeC x c e)
   exact⟨_,q,hd⟩
  ·exact⟨o,keep c o (I.cne x c e) hc nch ho (I.freeC x c e),hd⟩
 refine⟨I.ok,I.os,hg,⟨fun b o e n hb hx=>?_,fun b o e n hb hx=>?_,fun b o e n hx=>?_,fun b o e hx=>?_,fun b xs e=>tups b xs (I.base.tups b xs e),fun b o xs e=>frzs b o xs (I.base.frzs b o xs e),fun b ps e=>?_⟩,?_,fun x c e=>?_,?_,fun x c e=>?_,fun p hp=>?_,hok,I.len,ht⟩
 ·exact keep b o (neL b o e) hb (neC b o e hx) (I.base.keep b o e n hb hx) (I.base.free b o e n hx)
 ·obtain⟨sl,e1⟩:=I.base.slot b o e n hb hx
  obtain⟨sl',e2⟩:=slot b _ (neL b o e) hb (neC b o e hx) e1 (I.base.free b o e n hx)
  exact⟨sl',e2⟩
 ·obtain⟨o',e1⟩:=I.base.there b o e hx
  exact free b o' (neC b o e hx) e1 (I.base.free b o e n hx)
 ·obtain⟨o',e1⟩:=I.base.there b o e hx
  exact there b o' (neC b o e hx) e1
 ·obtain⟨m1,e1⟩:=I.base.tbls b ps e
  obtain⟨m2,e2⟩:=tbls b _ e1
  exact⟨m1++m2,by rw[e2,Array.append_assoc]⟩
 ·obtain⟨m,hn,hl⟩:=I.loc
  refine⟨m,ns m hn,fun i x v e1 e2 e3=>?_⟩
  obtain⟨u,r,l⟩:=hl i x v e1 e2 e3
  refine⟨u,r,?_⟩
  rcases l with l | ⟨k,c,e,z⟩
  ·exact .inl l
  ·exact .inr ⟨k,c,e,cellK x c e _ z⟩
 ·obtain⟨v,z⟩:=I.cell x c e
  exact⟨v,cellK x c e v z⟩
 ·obtain⟨m,⟨o,_,_,ho,_⟩,_⟩:=I.loc
  exact free _ o (fun z=>(hch _ z).2.1 rfl) ho I.free
 ·obtain⟨v,o,ho,hd⟩:=I.cell x c e
  exact free c o (fun z=>(hch c z).2.2.1 x c e rfl) ho (I.freeC x c e)
 ·obtain⟨e,n,ne,nf,d⟩:=I.pin p hp
  have nch:p.1∉ch:=fun z=>(hch p.1 z).2.2.2 p hp rfl
  exact⟨keep p.1 p.2 ne nf nch e n,free p.1 p.2 nch e n,ne,nf,d⟩
theorem Inv.un {t':Nat} (I:Inv X pins σ H s) (u:Un X.fs [] H H' s.heap h') (hok:HOk X.prog X.w H' h') (ht:0 < t':=by first | exact Nat.succ_pos _ | assumption | exact Inv.tk (by assumption) | omega):Inv X pins σ H' { s with heap:=h',toks:=t' }:=by
 obtain⟨m,⟨o,es,ep,ho,r⟩,_⟩:=id I.loc
 obtain⟨sl,hL⟩:=u.any ho I.free (by simp)
 exact I.step (g':=s.gens) (d':=s.drawn) (ch:=[]) (fun _ z=>nomatch z) (fun b o _ hb _ e n=>u.keep b o e n hb (by simp)) (fun b o _ hb _ e n=>u.slot b o e n hb (by simp)) (fun b o _ e n=>u.free b o e n (by simp)) (fun b o _ e=>u.there b o e (by simp)) u.tups u.frzs u.tbls (fun m' hm=>by
  obtain⟨o',es',ep',ho',r'⟩:=hm
  rw[ho] at ho';cases ho'
  exact⟨_,es',ep',hL,r'⟩) hok I.bare ht
theorem Inv.call {g':Array GenState}{t':Nat}{d':Drawn}{ch:List Addr} (I:Inv X pins σ H s) (u:Un (frs X.stack) ch H H' s.heap h') (hok:HOk X.prog X.w H' h') (hg:AllBare g')
  (hch:∀ b∈ch,(b∈X.ex\/X.s₀.heap.objs.size <= b)/\b≠X.env.locals/\(∀ x c,X.env.cells.lookup x=some c->c≠b)/\∀ p∈X.pn++pins,p.1≠b) (ht:0 < t':=by first | exact Nat.succ_pos _ | assumption | exact Inv.tk (by assumption) | omega) :
  Inv X pins σ H' { s with heap:=h',gens:=g',drawn:=d',toks:=t' }:=by
 obtain⟨m,⟨o,es,ep,ho,r⟩,_⟩:=id I.loc
 obtain⟨sl,hL⟩:=u.any ho I.free fun z=>(hch _ z).2.1 rfl
 exact I.step (ch:=ch) hch (fun b o hL hb hc e n=>u.keep b o e n (fun z=>(List.mem_cons.mp (I.stkSub b z)).elim hL hb) hc) (fun b o _ _ hc e n=>u.any e n hc) (fun b o hc e n=>u.free b o e n hc) (fun b o hc e=>u.there b o e hc) u.tups u.frzs u.tbls (fun m' hm=>by
  obtain⟨o',es',ep',ho',r'⟩:=hm
  rw[ho] at ho';cases ho'
  exact⟨_,es',ep',hL,r'⟩) hok hg ht
theorem Inv.turned {t':Nat}{it:Addr} (I:Inv X pins σ H s) (k:∀ b o,b≠it->s.heap.get? b=some o->h'.get? b=some o) (hn:H it=none) (hL:it≠X.env.locals)
  (h1:it∈X.ex\/X.s₀.heap.objs.size <= it) (h2:∀ x c,X.env.cells.lookup x=some c->c≠it) (h3:∀ p∈X.pn++pins,p.1≠it) (ht:0 < t':=by first | exact Nat.succ_pos _ | assumption | exact Inv.tk (by assumption) | omega):Inv X pins σ H { s with heap:=h',toks:=t' }:=by
 have nit:∀ b u,H b=some u->b≠it:=fun b u e z=>by rw[z,hn] at e;cases e
 refine I.step (g':=s.gens) (d':=s.drawn) (ch:=[it]) (fun b hb=>?_) (fun b o _ _ hc e _=>k b o (fun z=>hc (by simp[z])) e) (fun b o _ _ hc e _=>⟨o.slots,k b o (fun z=>hc (by simp[z])) e⟩) (fun _ _ _ _ n=>n)
  (fun b o hc e=>⟨o,k b o (fun z=>hc (by simp[z])) e⟩) (fun _ _ e=>e) (fun _ _ _ e=>e) (fun b ps e=>⟨#[],by rw[e];simp⟩) (fun m hm=>?_) (fun b u e=>?_) I.bare ht
 ·have e:b=it:=by simpa using hb
  subst e
  exact⟨h1,hL,h2,h3⟩
 ·obtain⟨o,es,ep,ho,r⟩:=hm
  exact⟨o,es,ep,k _ o (Ne.symm hL) ho,r⟩
 ·refine (I.hok b u e).stay (fun c v hc q=>k c v ?_ q) (fun _ q=>q) fun _ _ q=>q
  rcases hc with z | z
  ·rw[z];exact nit b u e
  ·exact nit c _ z
theorem Inv.tok (I:Inv X pins σ H s) (t:Nat) (ht:0 < t:=by first | exact Nat.succ_pos _ | assumption | exact Inv.tk (by assumption) | omega):Inv X pins σ H { s with toks:=t }:=I.un (h':=s.heap) (t':=t) Un.refl I.hok ht
theorem Inv.kept {t':Nat} (I:Inv X pins σ H s) (k:∀ b u,s.heap.get? b=some u->h'.get? b=some u) (ht:0 < t':=by first | exact Nat.succ_pos _ | assumption | exact Inv.tk (by assumption) | omega):Inv X pins σ H { s with heap:=h',toks:=t' }:=I.un (Un.kept k) (I.hok.kept k) ht
theorem Inv.laid {a:Addr}{o:HO}{t':Nat} (I:Inv X pins σ H s) (k:∀ b u,s.heap.get? b=some u->h'.get? b=some u) (hp:s.heap.objs.size <= a) (new:je X.prog X.w (upd H a o) h' a o) (ht:0 < t':=by first | exact Nat.succ_pos _ | assumption | exact Inv.tk (by assumption) | omega) :
  Inv X pins σ (upd H a o) { s with heap:=h',toks:=t' }:=I.un (Un.laid k hp (I.hok.fresh hp)) (I.hok.laid k hp new) ht
theorem Inv.write {x e:Addr}{o:HO}{t':Nat} (I:Inv X pins σ H s) (mu:Mut (H x)) (he:e=x\/H e=some (.own x)) (k:∀ b u,b≠e->s.heap.get? b=some u->h'.get? b=some u) (heo:∃ u,h'.get? e=some u)
  (new:je X.prog X.w (upd H x o) h' x o) (ht:0 < t':=by first | exact Nat.succ_pos _ | assumption | exact Inv.tk (by assumption) | omega):Inv X pins σ (upd H x o) { s with heap:=h',toks:=t' }:=I.un (Un.write mu he k heo) (I.hok.write mu he k heo new) ht
theorem Inv.weak {σ':List (Option V)} (I:Inv X pins σ H s) (hl:σ'.length=σ.length) (w:∀ (i:Nat) v,σ'[i]? = some (some v)->σ[i]? = some (some v)):Inv X pins σ' H s :=
 ⟨I.ok,I.os,I.bare,I.base,let ⟨m,hn,hl'⟩:=I.loc;⟨m,hn,fun i x v e1 e2 e3=>hl' i x v e1 (w i v e2) e3⟩,I.cell,I.free,I.freeC,I.pin,I.hok,hl.trans I.len,I.tk⟩
theorem Inv.pins_of {pins':List (Addr×Obj)} (I:Inv X pins σ H s) (h:∀ p∈pins',s.heap.get? p.1=some p.2/\H p.1=none/\p.1≠X.env.locals/\p.1∉X.fs/\∀ v,p.2.data≠.cell v):Inv X pins' σ H s :=
 ⟨I.ok,I.os,I.bare,I.base,I.loc,I.cell,I.free,I.freeC,fun p hp=>(List.mem_append.mp hp).elim (fun z=>I.pin p (List.mem_append_left _ z)) (h p),I.hok,I.len,I.tk⟩
theorem zGa {N:List Str} (hN:N.Nodup) {i j:Nat}{x:Str} (a:N[i]? = some x) (b:N[j]? = some x):i=j:=by
 obtain⟨h1,e1⟩:=List.getElem?_eq_some_iff.mp a
 obtain⟨h2,e2⟩:=List.getElem?_eq_some_iff.mp b
 exact (List.getElem_inj hN).mp (e1.trans e2.symm)
theorem zE4 {M:Model}{A:Around}{E:Value->Shared->Prop}{i:Nat}{x:Str}{v:V}{u:Value}{Q:Unit->Shared->Prop} (I:Inv X pins σ H s) (hN:X.N.Nodup) (hi:X.N[i]? = some x) (hx:Loc X.env.scope x) (r:zh v u)
  (h:∀ s',Inv X pins (σ.set i (some v)) H s'->(∃ a,Heap.SameBut a s.heap s'.heap/\(a=X.env.locals\/X.env.cells.lookup x=some a))->Q () s') (hf:X.fn x=true\/X.env.scope.names.lookup x=some .local:=by first | exact .inl rfl | exact .inr rfl | assumption):wpAny M A (storeName X.env x u) Q E s:=by
 obtain⟨m,hn,hl⟩:=id I.loc
 have hcls:(X.env.scope.kind == .class || (X.env.scope.kind == .module && X.env.locals != X.env.globals))=false:=by rw[I.ok.kind];rfl
 have hiσ:i < σ.length:=by rw[I.len];exact (List.getElem?_eq_some_iff.mp hi).1
 have cne:=I.cne
 have tracked:∀ {a:Addr}{h':Heap},(∃ o,s.heap.get? a=some o/\H a=none)->Heap.SameBut a s.heap h'->HOk X.prog X.w H h':=fun {a h'} ha hs b ob e=>by
  obtain⟨_,_,hfree⟩:=ha
  refine (I.hok b ob e).stay (fun c w' hc q=>(hs.2 c ?_).trans q) (fun _ q=>q) fun _ _ q=>q
  rintro rfl
  rcases hc with rfl | hc
  ·rw[hfree] at e;cases e
  ·rw[hfree] at hc;cases hc
 rcases hx with hk | hk
 ·refine wpAny_storeName_local hk hn (fun h' hn' hs=>?_) hcls
  obtain⟨oL,_,_,hoL,_⟩:=id hn
  refine h _ ⟨I.ok,I.os,I.bare,⟨fun b o e n hb hx=>?_,fun b o e n hb hx=>?_,I.base.free,fun b o e hx=>?_,I.base.tups,I.base.frzs,I.base.tbls⟩,⟨_,hn',fun j y v' e1 e2 e3=>?_⟩,fun y c e=>?_,I.free,I.freeC,fun p hp=>?_,tracked ⟨oL,hoL,I.free⟩ hs,by simpa using I.len,Nat.succ_pos _⟩ ⟨_,hs,.inl rfl⟩
  ·exact (hs.2 b (Nat.ne_of_lt (Nat.lt_of_lt_of_le (Heap.lt_size e) I.ok.above))).trans (I.base.keep b o e n hb hx)
  ·obtain⟨sl,e1⟩:=I.base.slot b o e n hb hx
   exact⟨sl,(hs.2 b (Nat.ne_of_lt (Nat.lt_of_lt_of_le (Heap.lt_size e) I.ok.above))).trans e1⟩
  ·obtain⟨o',e1⟩:=I.base.there b o e hx
   exact⟨o',(hs.2 b (Nat.ne_of_lt (Nat.lt_of_lt_of_le (Heap.lt_size e) I.ok.above))).trans e1⟩
  ·by_cases hj:j=i
   ·subst hj
    rw[hi] at e1;cases e1
    rw[List.getElem?_set_self hiσ] at e2
    cases e2
    exact⟨u,r,.inl ⟨hk,by simp⟩⟩
   ·rw[List.getElem?_set_ne (Ne.symm hj)] at e2
    obtain⟨u',r',q⟩:=hl j y v' e1 e2 e3
    refine⟨u',r',?_⟩
    rcases q with ⟨k,e⟩ | ⟨k,c,e,z⟩
    ·refine .inl ⟨k,?_⟩
     have:y≠x:=fun e=>hj (zGa hN e1 (e ▸ hi))
     simp[this,e]
    ·exact .inr ⟨k,c,e,z.sameBut hs (cne y c e)⟩
  ·obtain⟨w',z⟩:=I.cell y c e
   exact⟨w',z.sameBut hs (cne y c e)⟩
  ·obtain⟨e,n,ne,nf,d⟩:=I.pin p hp
   exact⟨(hs.2 p.1 ne).trans e,n,ne,nf,d⟩
 ·have hfn:X.fn x=true:=by
   rcases hf with z | z
   ·exact z
   ·rw[z] at hk;cases hk
  obtain⟨c,hc⟩:=I.ok.has x (.inl hk)
  obtain⟨w',z⟩:=I.cell x c hc
  refine wpAny_storeName_cell I.ok.kind hk hc z (fun h' hc' hs=>?_)
  obtain⟨oc,hoc,hocd⟩:=id z
  refine h { s with heap:=h' } ⟨I.ok,I.os,I.bare,⟨fun b o e n hb hx=>?_,fun b o e n hb hx=>?_,I.base.free,fun b o e hx=>?_,I.base.tups,I.base.frzs,I.base.tbls⟩,⟨m,hn.sameBut hs (Ne.symm (cne x c hc)),fun j y v' e1 e2 e3=>?_⟩,fun y c' e=>?_,I.free,I.freeC,fun p hp=>?_,tracked ⟨oc,hoc,I.freeC x c hc⟩ hs,by simpa using I.len,I.tk⟩ ⟨c,hs,.inr hc⟩
  ·exact (hs.2 b (Nat.ne_of_lt (Nat.lt_of_lt_of_le (Heap.lt_size e) (I.ok.cab x c hfn hc)))).trans (I.base.keep b o e n hb hx)
  ·obtain⟨sl,e1⟩:=I.base.slot b o e n hb hx
   exact⟨sl,(hs.2 b (Nat.ne_of_lt (Nat.lt_of_lt_of_le (Heap.lt_size e) (I.ok.cab x c hfn hc)))).trans e1⟩
  ·obtain⟨o',e1⟩:=I.base.there b o e hx
   exact⟨o',(hs.2 b (Nat.ne_of_lt (Nat.lt_of_lt_of_le (Heap.lt_size e) (I.ok.cab x c hfn hc)))).trans e1⟩
  ·by_cases hj:j=i
   ·subst hj
    rw[hi] at e1;cases e1
    rw[List.getElem?_set_self hiσ] at e2
    cases e2
    exact⟨u,r,.inr ⟨.inl hk,c,hc,hc'⟩⟩
   ·rw[List.getElem?_set_ne (Ne.symm hj)] at e2
    obtain⟨u',r',q⟩:=hl j y v' e1 e2 e3
    refine⟨u',r',?_⟩
    rcases q with q | ⟨k,c',e,z'⟩
    ·exact .inl q
    ·refine .inr ⟨k,c',e,z'.sameBut hs ?_⟩
     rintro rfl
     exact hj (zGa hN e1 (I.ok.inj _ _ _ e hc ▸ hi))
  ·by_cases hcc:c'=c
   ·subst hcc;exact⟨_,hc'⟩
   ·obtain⟨w2,z2⟩:=I.cell y c' e
    exact⟨w2,z2.sameBut hs hcc⟩
  ·obtain⟨e,n,ne,nf,d⟩:=I.pin p hp
   refine⟨(hs.2 p.1 ?_).trans e,n,ne,nf,d⟩
   intro q
   rw[q,hoc] at e
   have q':oc=p.2:=Option.some.inj e
   exact d w' (by rw[<- q'];exact hocd)
theorem zDP {M:Model}{A:Around}{E:Value->Shared->Prop}{i:Nat}{x:Str}{v:V}{u:Value}{Q:Unit->Shared->Prop} (I:Inv X pins σ H s) (hN:X.N.Nodup) (hi:X.N[i]? = some x) (hx:Loc X.env.scope x) (r:zh v u)
  (h:∀ s',Inv X pins (σ.set i (some v)) H s'->Q () s') (hf:X.fn x=true\/X.env.scope.names.lookup x=some .local:=by first | exact .inl rfl | exact .inr rfl | assumption):wpAny M A (storeName X.env x u) Q E s :=
 zE4 I hN hi hx r (fun s' I' _=>h s' I') hf
theorem Inv.call' {s':Shared}{ch:List Addr} (I:Inv X pins σ H s) (ho:s'.os=s.os) (u:Un (frs X.stack) ch H H' s.heap s'.heap) (hok:HOk X.prog X.w H' s'.heap) (hg:AllBare s'.gens)
  (hch:∀ b∈ch,(b∈X.ex\/X.s₀.heap.objs.size <= b)/\b≠X.env.locals/\(∀ x c,X.env.cells.lookup x=some c->c≠b)/\∀ p∈X.pn++pins,p.1≠b) (ht:0 < s'.toks):Inv X pins σ H' s':=by
 obtain⟨h',g',d',t',o'⟩:=s'
 have e:o'=s.os:=ho
 subst e
 exact I.call (g':=g') (t':=t') (d':=d') u hok hg hch ht
end
noncomputable abbrev XK:=Value->Option Addr->Hp->Prop
noncomputable abbrev St:=List (Option V)
noncomputable abbrev VK:=V->Hp->Prop
noncomputable abbrev TE:=St->Hp->VK->Prop
noncomputable abbrev TT:=St->Hp->(Bool->Hp->Prop)->Prop
noncomputable abbrev TA:=St->Hp->(List V->Hp->Prop)->Prop
structure QD where
 nx:St->Hp->Prop
 rt:VK
 bk:St->Hp->Prop:=fun _ _=>False
 ct:St->Hp->Prop:=fun _ _=>False
noncomputable abbrev TS:=QD->St->Hp->Prop
noncomputable def EP (X:Cx) (pins:List (Addr×Obj)) (σ:St) (Q:VK) (u:Value) (s':Shared):Prop:=∃ v H',Inv X pins σ H' s'/\zh v u/\Q v H'
noncomputable def TP (X:Cx) (pins:List (Addr×Obj)) (σ:St) (Q:Bool->Hp->Prop) (b:Bool) (s':Shared):Prop:=∃ H',Inv X pins σ H' s'/\Q b H'
noncomputable def AP (X:Cx) (pins:List (Addr×Obj)) (σ:St) (Q:List V->Hp->Prop) (us:List Value) (s':Shared):Prop:=∃ vs H',Inv X pins σ H' s'/\zd vs us/\Q vs H'
noncomputable def SP (X:Cx) (pins:List (Addr×Obj)) (D:QD) (f:Flow) (s':Shared):Prop :=
 match f with
 | .next=>∃ σ' H',Inv X pins σ' H' s'/\D.nx σ' H'
 | .brk=>∃ σ' H',Inv X pins σ' H' s'/\D.bk σ' H'
 | .cont=>∃ σ' H',Inv X pins σ' H' s'/\D.ct σ' H'
 | .ret u=>∃ v σ' H',Inv X pins σ' H' s'/\zh v u/\D.rt v H'
noncomputable def PE (X:Cx) (e:Expr) (t:TE):Prop :=
 ∀ (pins:List (Addr×Obj)) (s:Shared) (σ:St) (H:Hp) (Q:VK),Inv X pins σ H s->t σ H Q->wpAny (model X.prog X.w) X.A (eval e X.env) (EP X pins σ Q) X.xe s
noncomputable def PT (X:Cx) (e:Expr) (t:TT):Prop :=
 ∀ (pins:List (Addr×Obj)) (s:Shared) (σ:St) (H:Hp) (Q:Bool->Hp->Prop),Inv X pins σ H s->t σ H Q->wpAny (model X.prog X.w) X.A (isTrue e X.env (eval e X.env)) (TP X pins σ Q) X.xe s
noncomputable def PW (X:Cx) (e:Expr) (t:TT):Prop :=
 ∀ (whole:Sem Value) (pins:List (Addr×Obj)) (s:Shared) (σ:St) (H:Hp) (Q:Bool->Hp->Prop),Inv X pins σ H s->t σ H Q->wpAny (model X.prog X.w) X.A (isTrue e X.env whole) (TP X pins σ Q) X.xe s
theorem PW.pt {X:Cx}{e:Expr}{t:TT} (h:PW X e t):PT X e t:=h _
noncomputable def PA (X:Cx) (es:List Expr) (t:TA):Prop :=
 ∀ (pos:Pos) (pins:List (Addr×Obj)) (s:Shared) (σ:St) (H:Hp) (Q:List V->Hp->Prop),Inv X pins σ H s->t σ H Q->wpAny (model X.prog X.w) X.A (spliced (backTo pos (starEach es X.env))) (AP X pins σ Q) X.xe s
noncomputable def PS (X:Cx) (st:Stmt) (t:TS):Prop :=
 ∀ (pins:List (Addr×Obj)) (s:Shared) (σ:St) (H:Hp) (D:QD),Inv X pins σ H s->t D σ H->wpAny (model X.prog X.w) X.A (exec st X.env) (SP X pins D) X.xe s
noncomputable def PSs (X:Cx) (st:List Stmt) (t:TS):Prop :=
 ∀ (pins:List (Addr×Obj)) (s:Shared) (σ:St) (H:Hp) (D:QD),Inv X pins σ H s->t D σ H->wpAny (model X.prog X.w) X.A (execs st X.env) (SP X pins D) X.xe s
theorem thn {α:Type}{t:Sem α}{Q Q':α->Shared->Prop}{M:Model}{A:Around}{E:Value->Shared->Prop}{s:Shared} (h:wpAny M A t Q E s) (hQ:∀ a s,Q a s->Q' a s):wpAny M A t Q' E s:=wpAny_mono h hQ fun _ _ x=>x
end L2
namespace L2
open PySem PySem.Spec PyProof.Rows
section
variable {X:Cx}
noncomputable def zMd (i:Nat):TE:=fun σ H Q=>∃ v,σ[i]? = some (some v)/\Q v H
noncomputable def tC (v:V):TE:=fun _ H Q=>Q v H
theorem zMn {i:Nat}{x:Str}{pos:Pos} (hN:X.N[i]? = some x) (hv:Vis X.env.scope x) (hd:(x == ("__debug__" : Str))=false:=by decide) (hcd:(x == ("__classdict__" : Str))=false:=by decide):PE X (.Name x pos) (zMd i):=by
 intro pins s σ H Q I h
 obtain⟨v,e,h⟩:=h
 obtain⟨m,hn,hl⟩:=I.loc
 obtain⟨u,r,l⟩:=hl i x v hN e hv
 have fin:EP X pins σ Q u s:=⟨v,H,I,r,h⟩
 rcases l with ⟨hk,hm⟩ | ⟨hk,c,hc,hcell⟩
 ·exact wpAny_Name (wpAny_loadName_local I.ok.kind hk hn hm fin) hd
 ·rcases hk with hk | hk
  ·exact wpAny_Name (wpAny_loadName_cell I.ok.kind hk hc hcell fin) hd
  ·exact wpAny_Name (wpAny_loadName_free I.ok.kind hk hc hcell fin hcd) hd
theorem zNA {i j pos}:PE X (.Constant (.int i) j pos) (tC (.int i)):=fun _ _ _ H _ I h=>wpAny_Constant_int ⟨.int i,H,I.tok _,⟨_,rfl⟩,h⟩
theorem zOL {b j pos}:PE X (.Constant (.bool b) j pos) (tC (.bl b)):=fun _ _ _ H _ I h=>Constant_bool ⟨.bl b,H,I,rfl,h⟩
theorem zN4 {j pos}:PE X (.Constant .none j pos) (tC .non):=fun _ _ _ H _ I h=>Constant_none ⟨.non,H,I,rfl,h⟩
theorem zH4 {x j pos}:PE X (.Constant (.str x) j pos) (tC (.str x)):=fun _ _ _ H _ I h=>Calls.Constant_str ⟨.str x,H,I.tok _,⟨_,rfl⟩,h⟩
noncomputable def Gl (X:Cx) (x:Str):Prop:=X.env.kindOf x=some .globalImplicit
theorem zEi {E:Value->Shared->Prop}{pins:List (Addr×Obj)}{s:Shared}{σ:St}{H:Hp}{x:Str}{u:Value}{pos:Pos}{Q:Value->Shared->Prop} (I:Inv X pins σ H s) (hg:Gl X x) (hm:X.mg x=some u) (h:Q u s)
  (hd:(x == ("__debug__" : Str))=false:=by decide):wpAny (model X.prog X.w) X.A (eval (.Name x pos) X.env) Q E s :=
 Calls.Name_function_global I.ok.kind hg (Calls.loadGlobal_global (by rw[I.ok.glob];exact I.mod.glob.keeps I.bk) hm h) hd
theorem Jy {E:Value->Shared->Prop}{pins:List (Addr×Obj)}{s:Shared}{σ:St}{H:Hp}{x:Str}{u:Value}{pos:Pos}{Q:Value->Shared->Prop} (I:Inv X pins σ H s) (hg:Gl X x) (hm:X.mg x=none) (hv:bootBuiltins x=some u) (h:Q u s)
  (hn:x ≠ "__name__" := by decide) (hd:(x == ("__debug__" : Str))=false:=by decide):wpAny (model X.prog X.w) X.A (eval (.Name x pos) X.env) Q E s:=by
 obtain⟨mb,h1,h2⟩:=I.mod.blt
 exact Calls.Name_function_global I.ok.kind hg (Calls.loadGlobal_builtin (by rw[I.ok.glob];exact I.mod.glob.keeps I.bk) hm (by rw[I.ok.blt];exact h1.keeps I.bk) ((h2 x hn).trans hv) h) hd
theorem zMA {x:Str}{v:V}{u:Value}{pos:Pos} (hg:Gl X x) (hm:X.mg x=some u) (r:zh v u) (hd:(x == ("__debug__" : Str))=false:=by decide):PE X (.Name x pos) (tC v) :=
 fun _ _ _ H _ I h=>zEi I hg hm ⟨v,H,I,r,h⟩ hd
theorem zK5 {x:Str}{v:V}{u:Value}{pos:Pos} (hg:Gl X x) (hm:X.mg x=none) (hv:bootBuiltins x=some u) (r:zh v u) (hn:x ≠ "__name__" := by decide) (hd:(x == ("__debug__" : Str))=false:=by decide):PE X (.Name x pos) (tC v) :=
 fun _ _ _ H _ I h=>Jy I hg hm hv ⟨v,H,I,r,h⟩ hn hd
variable {a b:Expr}{ta tb:TE}{pos:Pos}
noncomputable def PC (X:Cx) (op:CmpOp) (a b:Expr) (t:TE):Prop :=
 ∀ (pins:List (Addr×Obj)) (s:Shared) (σ:St) (H:Hp) (Q:VK),Inv X pins σ H s->t σ H Q ->
  wpAny (model X.prog X.w) X.A (eval a X.env) (fun v s₁=>wpAny (model X.prog X.w) X.A (eval b X.env) (fun u s₂=>wpAny (model X.prog X.w) X.A (compareOp op v u) (EP X pins σ Q) X.xe s₂) X.xe s₁) X.xe s
theorem zJs (b:Expr) {op:CmpOp} (h:op≠.In) (h2:op≠.NotIn):behindInMarks op b=false:=by
 have e1:(op == CmpOp.In)=false:=by cases op<;>first | rfl | exact absurd rfl h
 have e2:(op == CmpOp.NotIn)=false:=by cases op<;>first | rfl | exact absurd rfl h2
 cases b<;>simp[behindInMarks,e1,e2]
noncomputable def zB6 (ta:TE):TE:=fun σ H Q=>ta σ H fun x H1=>Q (.bl (decide (x=.non))) H1
theorem zh.none_iff {x:V}{v:Value} (r:zh x v):(v == Value.none)=decide (x=.non):=by
 cases x with
 | non=>cases r;rfl
 | bl _=>cases r;rfl
 | int _=>obtain⟨t,rfl⟩:=r;rfl
 | str _=>obtain⟨t,rfl⟩:=r;rfl
 | byt _=>obtain⟨t,rfl⟩:=r;rfl
 | flt _=>obtain⟨t,rfl⟩:=r;rfl
 | ref _=>cases r;rfl
 | ty _=>cases r;rfl
theorem zNY {j pos'} (ha:PE X a ta):PC X .Is a (.Constant .none j pos') (zB6 ta):=by
 intro pins s σ H Q I h
 refine thn (ha pins s σ H _ I h) fun v s1 ⟨x,H1,I1,r1,q1⟩=>?_
 exact Constant_none (is_none_gen ⟨.bl _,H1,I1,by rw[r1.none_iff];rfl,q1⟩)
noncomputable def tB (t:TE):TT:=fun σ H Q=>t σ H fun x H1=>∃ c,x=.bl c/\Q c H1
theorem zM3 {op:CmpOp}{t:TE} (h:PC X op a b t) (h1:behindInMarks op b=false:=by first | exact zJs _ (by decide) (by decide) | rfl):PT X (.Compare a [op] [b] pos) (tB t):=by
 intro pins s σ H Q I hw
 refine wpAny_isTrue_Compare1 (thn (h pins s σ H _ I hw) fun v s1 h1=>thn h1 fun u s2 h2=>thn h2 fun c s3 ⟨x,H1,I1,r1,q1⟩=>?_) h1
 obtain⟨d,rfl,q⟩:=q1
 cases r1
 exact wpAny_truthy_bool ⟨H1,I1,q⟩
variable {tA tB':TT}{jY:List Expr}
noncomputable def zAg (t u:TT):TT:=fun σ H Q=>t σ H fun c H1=>if c=true then u σ H1 Q else Q false H1
noncomputable def tOr (t u:TT):TT:=fun σ H Q=>t σ H fun c H1=>if c=true then Q true H1 else u σ H1 Q
noncomputable def zBF (t:TT):TT:=fun σ H Q=>t σ H fun c H1=>Q (!c) H1
theorem zLM (ha:PT X a tA):PW X (.BoolOp .And [a] pos) tA:=by
 intro wh pins s σ H Q I h
 refine isTrue_and (thn (ha pins s σ H Q I h) fun c s1 e=>?_)
 cases c with
 | true=>exact isTrue_and_nil e
 | false=>exact e
theorem zMl (ha:PT X a tA):PW X (.BoolOp .Or [a] pos) tA:=by
 intro wh pins s σ H Q I h
 refine isTrue_or (thn (ha pins s σ H Q I h) fun c s1 e=>?_)
 cases c with
 | false=>exact isTrue_or_nil e
 | true=>exact e
theorem zNX (ha:PT X a tA) (hb:PW X (.BoolOp .And (b::jY) pos) tB'):PW X (.BoolOp .And (a::b::jY) pos) (zAg tA tB'):=by
 intro wh pins s σ H Q I h
 refine isTrue_and (thn (ha pins s σ H _ I h) fun c s1 ⟨H1,I1,q1⟩=>?_)
 cases c with
 | true=>exact hb wh pins s1 σ H1 Q I1 q1
 | false=>exact⟨H1,I1,q1⟩
theorem zOk (ha:PT X a tA) (hb:PW X (.BoolOp .Or (b::jY) pos) tB'):PW X (.BoolOp .Or (a::b::jY) pos) (tOr tA tB'):=by
 intro wh pins s σ H Q I h
 refine isTrue_or (thn (ha pins s σ H _ I h) fun c s1 ⟨H1,I1,q1⟩=>?_)
 cases c with
 | true=>exact⟨H1,I1,q1⟩
 | false=>exact hb wh pins s1 σ H1 Q I1 q1
theorem zN7 (ha:PT X a tA):PT X (.UnaryOp .Not a pos) (zBF tA):=by
 intro pins s σ H Q I h
 exact isTrue_not (ha pins s σ H (fun c H1=>Q (!c) H1) I h)
noncomputable def zOJ (ta tb:TE):TE:=fun σ H Q=>ta σ H fun x H1=>∃ c,x=.bl c/\if c=true then tb σ H1 Q else Q (.bl false) H1
theorem zNm {op}{t:TE} (h:PE X a t):PE X (.BoolOp op [a] pos) t:=fun pins s σ H Q I hw=>BoolOp_one (h pins s σ H Q I hw)
theorem zNT (ha:PE X a ta) (hb:PE X (.BoolOp .And (b::jY) pos) tb):PE X (.BoolOp .And (a::b::jY) pos) (zOJ ta tb):=by
 intro pins s σ H Q I h
 refine BoolOp_and (thn (ha pins s σ H _ I h) fun v s1 ⟨x,H1,I1,r1,q1⟩=>?_)
 obtain⟨c,rfl,q1⟩:=q1
 cases r1
 refine wpAny_truthy_bool ?_
 cases c with
 | true=>exact hb pins s1 σ H1 Q I1 q1
 | false=>exact⟨.bl false,H1,I1,rfl,q1⟩
end
end L2
namespace L2
open PySem PySem.Spec PyProof.Rows
noncomputable def SqL (K:PySem.W.Frag) (H:Hp) (a:Addr) (xs:List V):Prop :=
 Rd H a (.lst xs) \/
  ∃ (o:Obj) (its:Array Value) (n:Nat),K.lookup a=some o/\o.cls=.type "list" /\ o.dict=none/\o.data=.seq its n/\its.size <= sizeLine/\zd xs its.toList
noncomputable def SqT (K:PySem.W.Frag) (H:Hp) (a:Addr) (xs:List V):Prop :=
 Rd H a (.tup xs) \/
  ∃ (o:Obj) (its:Array Value) (n:Nat),K.lookup a=some o/\o.cls=.type "tuple" /\ o.data=.seq its n/\its.size <= sizeLine/\zd xs its.toList
noncomputable def zPA:Value->Option V
 | .none=>some .non
 | .bool b=>some (.bl b)
 | .int i _=>some (.int i)
 | .str x _=>some (.str x)
 | .bytes b _=>some (.byt b)
 | .float b _=>some (.flt b)
 | .ref a=>some (.ref a)
 | .type n=>some (.ty n)
 | _=>none
theorem zh.abs {x:V}{u:Value} (r:zh x u):zPA u=some x:=by
 cases x with
 | non=>cases r;rfl
 | bl _=>cases r;rfl
 | int _=>obtain⟨t,rfl⟩:=r;rfl
 | str _=>obtain⟨t,rfl⟩:=r;rfl
 | byt _=>obtain⟨t,rfl⟩:=r;rfl
 | flt _=>obtain⟨t,rfl⟩:=r;rfl
 | ref _=>cases r;rfl
 | ty _=>cases r;rfl
theorem zh.inj {x y:V}{u:Value} (r:zh x u) (q:zh y u):x=y:=Option.some.inj (r.abs.symm.trans q.abs)
theorem zd.inj:∀ {xs ys:List V}{us:List Value},zd xs us->zd ys us->xs=ys
 | _,_,_,.nil,.nil=>rfl
 | _,_,_,.cons r t,.cons r' t'=>by rw[r.inj r',zd.inj t t']
section
variable {X:Cx}{pins:List (Addr×Obj)}{σ:St}{H:Hp}{s:Shared}{a:Addr}{xs ys:List V}
theorem SqL.of {K:PySem.W.Frag} (h:H a=some (.lst xs)):SqL K H a xs:=.inl (.inl h)
theorem SqT.of {K:PySem.W.Frag} (h:H a=some (.tup xs)):SqT K H a xs:=.inl (.inl h)
theorem Inv.list (I:Inv X pins σ H s) (h:SqL X.K H a xs):∃ its:List Value,zd xs its/\PlainL s.heap a its.toArray/\xs.length <= sizeLine:=by
 rcases h with h | ⟨o,its,n,hk,hc,hd,hs,hz,r⟩
 ·obtain⟨z,its,n,r,e⟩:=h.ok I.hok
  exact⟨its,r,⟨_,n,e,rfl,rfl,rfl⟩,z⟩
 ·refine⟨its.toList,r,⟨o,n,I.kIn a o hk,hc,hd,by simpa using hs⟩,?_⟩
  have e:=r.length
  simp only[Array.length_toList] at e
  omega
theorem Inv.tuple (I:Inv X pins σ H s) (h:SqT X.K H a xs):∃ its:List Value,zd xs its/\IsTup s.heap a its.toArray/\xs.length <= sizeLine:=by
 rcases h with h | ⟨o,its,n,hk,hc,hs,hz,r⟩
 ·obtain⟨z,its,r,p⟩:=h.ok I.hok
  exact⟨its,r,p,z⟩
 ·refine⟨its.toList,r,⟨o,I.kIn a o hk,hc,n,by simpa using hs⟩,?_⟩
  have e:=r.length
  simp only[Array.length_toList] at e
  omega
theorem Inv.list_inj (I:Inv X pins σ H s) (h:SqL X.K H a xs) (h':SqL X.K H a ys):xs=ys:=by
 obtain⟨its,r,⟨o,n,e,_,_,d⟩,_⟩:=I.list h
 obtain⟨its',r',⟨o',n',e',_,_,d'⟩,_⟩:=I.list h'
 rw[e] at e';cases e'
 rw[d] at d'
 injection d' with d1 _
 have:its=its':=by simpa using congrArg Array.toList d1
 subst this
 exact r.inj r'
theorem Inv.tuple_inj (I:Inv X pins σ H s) (h:SqT X.K H a xs) (h':SqT X.K H a ys):xs=ys:=by
 obtain⟨its,r,⟨o,e,_,n,d⟩,_⟩:=I.tuple h
 obtain⟨its',r',⟨o',e',_,n',d'⟩,_⟩:=I.tuple h'
 rw[e] at e';cases e'
 rw[d] at d'
 injection d' with d1 _
 have:its=its':=by simpa using congrArg Array.toList d1
 subst this
 exact r.inj r'
end
noncomputable abbrev Cx.wish (X:Cx) (E:Value->Shared->Prop):Cx:={ X with xe:=E }
noncomputable abbrev Cx.nox (X:Cx):Cx:=X.wish fun _ _=>False
theorem Cx.Ok.wish {X:Cx} (ok:X.Ok) (E:Value->Shared->Prop):(X.wish E).Ok :=
 ⟨ok.mod,ok.kind,ok.glob,ok.blt,ok.above,ok.inj,ok.has,ok.cab,ok.hd,ok.frames,ok.stk,ok.exf,ok.bs,ok.bsz,ok.noex,ok.exfs,ok.funs,ok.frf⟩
theorem Cx.Ok.unwish {X:Cx}{E:Value->Shared->Prop} (ok:(X.wish E).Ok):X.Ok :=
 ⟨ok.mod,ok.kind,ok.glob,ok.blt,ok.above,ok.inj,ok.has,ok.cab,ok.hd,ok.frames,ok.stk,ok.exf,ok.bs,ok.bsz,ok.noex,ok.exfs,ok.funs,ok.frf⟩
section
variable {X:Cx}{pins:List (Addr×Obj)}{σ:St}{H:Hp}{s:Shared}{E:Value->Shared->Prop}
theorem Inv.wish (I:Inv X pins σ H s) (E:Value->Shared->Prop):Inv (X.wish E) pins σ H s:=⟨I.ok.wish E,I.os,I.bare,I.base,I.loc,I.cell,I.free,I.freeC,I.pin,I.hok,I.len,I.tk⟩
theorem Inv.unwish (I:Inv (X.wish E) pins σ H s):Inv X pins σ H s:=⟨I.ok.unwish,I.os,I.bare,I.base,I.loc,I.cell,I.free,I.freeC,I.pin,I.hok,I.len,I.tk⟩
theorem SP.unwish {D:QD}{f:Flow}{s':Shared} (h:SP (X.wish E) pins D f s'):SP X pins D f s':=by
 cases f with
 | next=>obtain⟨σ',H',I,q⟩:=h;exact⟨σ',H',I.unwish,q⟩
 | brk=>obtain⟨σ',H',I,q⟩:=h;exact⟨σ',H',I.unwish,q⟩
 | cont=>obtain⟨σ',H',I,q⟩:=h;exact⟨σ',H',I.unwish,q⟩
 | ret u=>obtain⟨v,σ',H',I,r,q⟩:=h;exact⟨v,σ',H',I.unwish,r,q⟩
theorem PSs.nox {st:List Stmt}{t:TS} (h:PSs X.nox st t):PSs X st t:=fun pins s σ H D I hw =>
 wpAny_mono (h pins s σ H D (I.wish _) hw) (fun _ _ q=>q.unwish) fun _ _ z=>False.elim z
end
section
variable {X:Cx}{st:Stmt}{jY:List Stmt}{t u:TS}{e:Expr}{te:TE}{pos:Pos}
noncomputable def zOr:TS:=fun D σ H=>D.nx σ H
noncomputable def zNN (t u:TS):TS:=fun D σ H=>t { D with nx:=u D } σ H
theorem zLg:PSs X [] zOr:=fun _ _ σ H _ I h=>wpAny_execs_nil ⟨σ,H,I,h⟩
theorem zJ6 (h1:PS X st t) (h2:PSs X jY u):PSs X (st::jY) (zNN t u):=by
 intro pins s σ H D I h
 refine wpAny_execs_cons (thn (h1 pins s σ H { D with nx:=u D } I h) fun f s1 q=>?_)
 cases f with
 | next =>
  obtain⟨σ',H',I',q⟩:=q
  exact h2 pins s1 σ' H' D I' q
 | ret v=>exact q
 | brk=>exact q
 | cont=>exact q
theorem zL2 (h1:PS X st t):PSs X [st] t:=by
 intro pins s σ H D I h
 refine wpAny_execs_cons (thn (h1 pins s σ H D I h) fun f s1 q=>?_)
 cases f with
 | next=>exact wpAny_execs_nil q
 | ret v=>exact q
 | brk=>exact q
 | cont=>exact q
theorem Inv.quiet {pins:List (Addr×Obj)}{σ:St}{H:Hp}{s:Shared} (I:Inv X pins σ H s):interactive X.env=false:=by simp[interactive,I.ok.kind]
noncomputable def zOQ (te:TE):TS:=fun D σ H=>te σ H fun _ H1=>D.nx σ H1
theorem zLv (he:PE X e te) (hs:swapsWith e none pos.line X.env=pure false:=by rfl):PS X (.Expr e pos) (zOQ te):=by
 intro pins s σ H D I h
 exact wpAny_Expr_any (thn (he pins s σ H _ I h) fun v s1 ⟨x,H1,I1,r1,q1⟩=>⟨σ,H1,I1,q1⟩) I.quiet hs
noncomputable def zPW (te:TE):TS:=fun D σ H=>te σ H D.rt
theorem zNP (he:PE X e te):PS X (.Return (some e) pos) (zPW te):=by
 intro pins s σ H D I h
 exact wpAny_Return_some (thn (he pins s σ H _ I h) fun v s1 ⟨x,H1,I1,r1,q1⟩=>⟨x,σ,H1,I1,r1,q1⟩)
noncomputable def zO3 (c:TT) (t u:TS):TS:=fun D σ H=>c σ H fun b H1=>if b=true then t D σ H1 else u D σ H1
theorem zOl {c:Expr}{a b:List Stmt}{tc:TT} (hc:PT X c tc) (ha:PSs X a t) (hb:PSs X b u):PS X (.If c a b pos) (zO3 tc t u):=by
 intro pins s σ H D I h
 refine wpAny_If (thn (hc pins s σ H _ I h) fun d s1 ⟨H1,I1,q1⟩=>?_)
 cases d with
 | true=>exact ha pins s1 σ H1 D I1 q1
 | false=>exact hb pins s1 σ H1 D I1 q1
noncomputable def zN0:TS:=fun _ _ _=>False
theorem zKo:PS X st zN0:=fun _ _ _ _ _ _ h=>h.elim
end
noncomputable abbrev TG:=V->St->Hp->(St->Hp->Prop)->Prop
noncomputable def PG (X:Cx) (target:Expr) (t:TG):Prop :=
 ∀ (pins:List (Addr×Obj)) (s:Shared) (σ:St) (H:Hp) (v:V) (u:Value) (Q:St->Hp->Prop),Inv X pins σ H s->zh v u->t v σ H Q ->
  wpAny (model X.prog X.w) X.A (assign target X.env u) (fun _ s'=>∃ σ' H',Inv X pins σ' H' s'/\Q σ' H') X.xe s
noncomputable abbrev zKh:=V->V->V->Hp->(Hp->Prop)->Prop
noncomputable def zOC (X:Cx) (t:zKh):Prop :=
 ∀ (pins:List (Addr×Obj)) (s:Shared) (σ:St) (H:Hp) (o i v:V) (ov iv u:Value) (Q:Hp->Prop),Inv X pins σ H s->zh o ov->zh i iv->zh v u->t o i v H Q ->
  wpAny (model X.prog X.w) X.A (setItem ov iv u) (fun _ s'=>∃ H',Inv X pins σ H' s'/\Q H') X.xe s
noncomputable abbrev TIp:=V->V->Hp->VK->Prop
noncomputable def PIp (X:Cx) (op:Operator) (t:TIp):Prop :=
 ∀ (pins:List (Addr×Obj)) (s:Shared) (σ:St) (H:Hp) (x y:V) (v u:Value) (Q:VK),Inv X pins σ H s->zh x v->zh y u->t x y H Q ->
  wpAny (model X.prog X.w) X.A (inplaceOp op v u) (EP X pins σ Q) X.xe s
section
variable {X:Cx}{pos:Pos}
noncomputable def zq (i:Nat):TG:=fun v σ H Q=>Q (σ.set i (some v)) H
theorem zLR {i:Nat}{x:Str} (hN:X.N.Nodup) (hi:X.N[i]? = some x) (hx:Loc X.env.scope x) (hf:X.fn x=true\/X.env.scope.names.lookup x=some .local:=by first | exact .inl rfl | exact .inr rfl | assumption):PG X (.Name x pos) (zq i):=by
 intro pins s σ H v u Q I r h
 exact wpAny_assign_Name (zDP I hN hi hx r (fun s' I'=>⟨_,H,I',h⟩) hf)
noncomputable def zPM (to ti:TE) (t:zKh):TG:=fun v σ H Q=>to σ H fun o H1=>ti σ H1 fun i H2=>t o i v H2 fun H3=>Q σ H3
theorem zNb {o i:Expr}{to ti:TE}{t:zKh} (ho:PE X o to) (hi:PE X i ti) (hs:zOC X t)
  (ha:∀ v,assign (.Subscript o i pos) X.env v=(do
   let ov <- holding [v] (eval o X.env)
   let iv <- holding [v,ov] (eval i X.env)
   standAt pos
   holding [v,ov,iv] (setItem ov iv v)
   release [v,ov,iv] []):=by intro _;rfl):PG X (.Subscript o i pos) (zPM to ti t):=by
 intro pins s σ H v u Q I r h
 rw[ha]
 refine wpAny_bind (wpAny_holding (thn (ho pins s σ H _ I h) fun ov s1 ⟨x,H1,I1,r1,q1⟩=>?_))
 refine wpAny_bind (wpAny_holding (thn (hi pins s1 σ H1 _ I1 q1) fun iv s2 ⟨y,H2,I2,r2,q2⟩=>?_))
 refine wpAny_bind (wpAny_standAt (wpAny_bind (wpAny_holding (thn (hs pins s2 σ H2 x y v ov iv u _ I2 r1 r2 r q2) fun _ s3 ⟨H3,I3,q3⟩=>?_))))
 exact wpAny_release ⟨σ,H3,I3,q3⟩
noncomputable def zHU (te:TE) (g:TG):TS:=fun D σ H=>te σ H fun x H1=>g x σ H1 D.nx
theorem zNR {tg e:Expr}{te:TE}{g:TG} (he:PE X e te) (hg:PG X tg g) (hs:swapsWithSole [tg] e pos.line X.env=pure false:=by rfl) (hw:swappedStores [tg] e X.env=pure none:=by rfl)
  (h1:(assignEach [tg] X.env).map (·.2)=[assign tg X.env]:=by rfl):PS X (.Assign [tg] e pos) (zHU te g):=by
 intro pins s σ H D I h
 refine wpAny_Assign_stores (thn (he pins s σ H _ I h) fun v s1 ⟨x,H1,I1,r1,q1⟩=>?_) hs hw
 rw[h1]
 exact thn (hg pins s1 σ H1 x v _ I1 r1 q1) fun _ s2 q=>q
theorem zN5 {i:Nat}{x:Str}{e:Expr}{te:TE}{pos':Pos} (hN:X.N.Nodup) (hi:X.N[i]? = some x) (hx:Loc X.env.scope x) (he:PE X e te) (hs:swapsWith e (some (.Name x pos')) pos.line X.env=pure false:=by rfl) (hf:X.fn x=true\/X.env.scope.names.lookup x=some .local:=by first | exact .inl rfl | exact .inr rfl | assumption) :
  PS X (.Assign [.Name x pos'] e pos) (zHU te (zq i)):=by
 intro pins s σ H D I h
 refine wpAny_Assign_Name (thn (he pins s σ H _ I h) fun v s1 ⟨y,H1,I1,r1,q1⟩=>?_) hs
 exact zDP I1 hN hi hx r1 (fun s2 I2=>⟨_,H1,I2,q1⟩) hf
noncomputable def ipI (f:Int->Int->Int):TIp:=fun x y H Q=>∃ i j,x=.int i/\y=.int j/\Q (.int (f i j)) H
theorem zM7:PIp X .Add (ipI fun i j=>i+j):=by
 intro pins s σ H x y v u Q I r1 r2 h
 obtain⟨i,j,e1,e2,q⟩:=h
 subst e1;subst e2
 obtain⟨t,rfl⟩:=r1
 obtain⟨t',rfl⟩:=r2
 exact iadd_int ⟨.int _,H,I.tok _,⟨_,rfl⟩,q⟩
end
section
variable {X:Cx}{pos:Pos}
noncomputable def zN3 (c:TT) (tb:TS):TS:=fun D σ H=>∃ W:Nat->St->Hp->Prop,(∃ m,W m σ H)/\∀ m σ H,W m σ H ->
 c σ H fun b H1=>if b=true then ∃ N:St->Hp->Prop,(∀ σ' H',N σ' H'->∃ m',m' < m/\W m' σ' H')/\tb { D with nx:=N,ct:=N,bk:=D.nx } σ H1 else D.nx σ H1
theorem zKB {c:Expr}{body:List Stmt}{tc:TT}{tb:TS} (hp:PassesOwn (model X.prog X.w) X.A X.env X.xe) (hc:PT X c tc) (hb:PSs X body tb):PS X (.While c body [] pos) (zN3 tc tb):=by
 intro pins s σ H D I h
 obtain⟨W,⟨m0,w0⟩,turn⟩:=h
 refine wpAny_While (codeAny_whileLoop (fun n s'=>∃ σ' H',Inv X pins σ' H' s'/\W n σ' H') ?_ m0 ⟨σ,H,I,w0⟩)
 rintro n s1 ⟨σ1,H1,I1,w1⟩
 refine wpAny_passesOwn hp (thn (hc pins s1 σ1 H1 _ I1 (turn n σ1 H1 w1)) fun b s2 ⟨H2,I2,q2⟩=>?_)
 cases b with
 | true =>
  obtain⟨N,hN,q2⟩:=q2
  rw[if_pos rfl]
  refine wpAny_passesOwn hp (thn (hb pins s2 σ1 H2 _ I2 q2) fun f s3 q3=>?_)
  cases f with
  | next =>
   obtain⟨σ3,H3,I3,n3⟩:=q3
   obtain⟨m',hm,w3⟩:=hN σ3 H3 n3
   exact⟨m',hm,σ3,H3,I3,w3⟩
  | cont =>
   obtain⟨σ3,H3,I3,n3⟩:=q3
   obtain⟨m',hm,w3⟩:=hN σ3 H3 n3
   exact⟨m',hm,σ3,H3,I3,w3⟩
  | brk=>exact q3
  | ret v=>exact q3
 | false =>
  rw[if_neg Bool.false_ne_true]
  exact wpAny_execs_nil ⟨σ1,H2,I2,q2⟩
end
structure It where
 go:Nat->Hp->Prop
 yld:Nat->Hp->V->Hp->Prop
 stop:Nat->Hp->Prop
noncomputable def zBS (X:Cx) (pins:List (Addr×Obj)) (H:Hp) (b:Addr):Prop :=
 H b=none/\b≠X.env.locals/\b∉X.fs/\(b∈X.ex\/X.s₀.heap.objs.size <= b)/\(∀ x c,X.env.cells.lookup x=some c->c≠b)/\∀ p∈X.pn++pins,p.1≠b
theorem Inv.fpOk {X:Cx}{pins:List (Addr×Obj)}{σ:St}{H H':Hp}{s:Shared}{b:Addr} (I:Inv X pins σ H s) (hb:s.heap.objs.size <= b) (hn:H' b=none):zBS X pins H' b:=by
 refine⟨hn,Nat.ne_of_gt (Nat.lt_of_lt_of_le I.lt hb),I.nofs hb,.inr (Nat.le_trans I.sz hb),fun x c e z=>?_,fun p hp z=>?_⟩
 ·obtain⟨v,q⟩:=I.cell x c e
  exact absurd (Nat.lt_of_lt_of_le q.lt (by rw[z];exact hb)) (Nat.lt_irrefl _)
 ·exact absurd (Nat.lt_of_lt_of_le (Heap.lt_size (I.pin p hp).1) (by rw[z];exact hb)) (Nat.lt_irrefl _)
structure zAd (P:Program) (w:World) (K:PySem.W.Frag) (tg:Expr) (J:It) (fp:List Addr) (it:Addr) (tn:Nat->Heap->Prop):Prop where
 mem:it∈fp
 obj:∀ i h,tn i h->∀ b∈fp,∃ o,h.get? b=some o/\∀ v,o.data≠.cell v
 keep:∀ i h h',tn i h->(∀ b∈fp,∀ o,h.get? b=some o->h'.get? b=some o)->tn i h'
 item:∀ (X:Cx),X.prog=P->X.w=w->X.K=K->X.calm=true->∀ (i:Nat) (pins:List (Addr×Obj)) (s:Shared) (σ:St) (H:Hp) (E:Value->Shared->Prop),Inv X pins σ H s->(∀ b∈fp,zBS X pins H b)->tn i s.heap->J.go i H ->
  wpAny (model P w) X.A (pyNext (.ref it)) (fun r s1=>∃ u,r=some u /\
   wpAny (model P w) X.A (letOwnedTupleGo tg (.ref it) u) (fun _ s2=>∃ x H',Inv X pins σ H' s2/\zh x u/\J.yld i H x H'/\tn (i+1) s2.heap/\∀ b∈fp,H' b=none) E s1) E s
 done:∀ (X:Cx),X.prog=P->X.w=w->X.K=K->X.calm=true->∀ (i:Nat) (pins:List (Addr×Obj)) (s:Shared) (σ:St) (H:Hp) (E:Value->Shared->Prop),Inv X pins σ H s->(∀ b∈fp,zBS X pins H b)->tn i s.heap->J.stop i H ->
  wpAny (model P w) X.A (pyNext (.ref it)) (fun r s1=>r=none/\Inv X pins σ H s1) E s
 self:∀ (A:Around) (i:Nat) (s:Shared) (Q:Value->Shared->Prop) (E:Value->Shared->Prop),tn i s.heap->Q (.ref it) s->wpAny (model P w) A (pyIter (.ref it)) Q E s
noncomputable abbrev TI:=St->Hp->(It->Hp->Prop)->Prop
noncomputable def PIE (X:Cx) (pins:List (Addr×Obj)) (σ:St) (tg:Expr) (R:It->Hp->Prop) (itv:Value) (s2:Shared):Prop :=
 ∃ (it:Addr) (fp:List Addr) (tn:Nat->Heap->Prop) (J:It) (H':Hp),itv=.ref it/\Inv X pins σ H' s2/\zAd X.prog X.w X.K tg J fp it tn/\tn 0 s2.heap/\(∀ b∈fp,zBS X pins H' b)/\R J H'
noncomputable def PI (X:Cx) (tg iter:Expr) (wi:TI):Prop :=
 ∀ (pins:List (Addr×Obj)) (s:Shared) (σ:St) (H:Hp) (R:It->Hp->Prop),Inv X pins σ H s->wi σ H R ->
  wpAny (model X.prog X.w) X.A (eval iter X.env) (fun v s1=>wpAny (model X.prog X.w) X.A (pyIter v) (PIE X pins σ tg R) X.xe s1) X.xe s
theorem zAS {M:Model}{A:Around}{E:Value->Shared->Prop}{s:Shared}{tg:Expr}{it:Addr}{u:Value}{o:Obj}{n:String}{vs:Array Value}{Q:Unit->Shared->Prop} (ho:s.heap.get? it=some o) (hc:o.cls=.type n) (hd:o.data=.fields vs)
  (hn:["enumerate","zip","dict_itemiterator","dict_reverseitemiterator","odict_iterator","itertools.zip_longest","itertools.pairwise"].contains n=false) (hQ:Q () s):wpAny M A (letOwnedTupleGo tg (.ref it) u) Q E s:=by
 unfold letOwnedTupleGo
 cases tg<;>first
  | exact wpAny_pure hQ
  | (cases u<;>first
      | exact wpAny_pure hQ
      | (refine wpAny_bind (wpAny_load ho ?_)
         rw[hc,hd]
         show wpAny M A (if (["enumerate","zip","dict_itemiterator","dict_reverseitemiterator","odict_iterator","itertools.zip_longest","itertools.pairwise"].contains n && vs[0]? == some (rawInt _))=true then _ else _) Q E s
         rw[if_neg (by intro h;rw[hn,Bool.false_and] at h;cases h)]
         exact wpAny_pure hQ))
noncomputable def Itl (K:PySem.W.Frag) (a:Addr):It :=
 ⟨fun i H=>∃ xs x,SqL K H a xs/\xs[i]? = some x,fun i H x H'=>H'=H/\∀ xs,SqL K H a xs->xs[i]? = some x,fun i H=>∃ xs,SqL K H a xs/\xs.length <= i⟩
noncomputable def Itt (K:PySem.W.Frag) (a:Addr):It :=
 ⟨fun i H=>∃ xs x,SqT K H a xs/\xs[i]? = some x,fun i H x H'=>H'=H/\∀ xs,SqT K H a xs->xs[i]? = some x,fun i H=>∃ xs,SqT K H a xs/\xs.length <= i⟩
noncomputable def Itr (lo:Int) (n:Nat):It:=⟨fun i _=>i < n,fun i H x H'=>H'=H/\x=.int (lo+i),fun i _=>n <= i⟩
theorem zIX {P:Program}{w:World}{K:PySem.W.Frag}{tg:Expr} (a it:Addr):zAd P w K tg (Itl K a) [it] it (fun i h=>h.IsListIter it a i) where
 mem:=by simp
 obj:=fun i h st b hb=>by
  have e:b=it:=by simpa using hb
  subst e
  obtain⟨o,e,c,d⟩:=st
  exact⟨o,e,fun v z=>by rw[d] at z;cases z⟩
 keep:=fun i h h' st k=>st.at fun o e=>k it (by simp) o e
 item:=by
  intro X hP hw hK hc i pins s σ H E I hf st hg
  subst hP hw hK
  obtain⟨xs,x,hq,hx⟩:=hg
  obtain⟨its,rv,p,hz⟩:=I.list hq
  obtain⟨u,hu,ru⟩:=rv.get hx
  obtain⟨f0,f1,f2,f3,f4,f5⟩:=hf it (by simp)
  refine wpAny_pyNext_list_item st p.isList (x:=u) (by simpa using hu) fun h' st' sb=>?_
  have I1:Inv X pins σ H { s with heap:=h' }:=I.turned (t':=s.toks) (fun b o hb e=>(sb.2 b hb).trans e) f0 f1 f3 f4 f5
  obtain⟨o,e,c,d⟩:=id st'
  exact⟨u,rfl,zAS (s:={ s with heap:=h' }) e c d (by decide) ⟨x,H,I1,ru,⟨rfl,fun ys hy=>by rw[I.list_inj hy hq];exact hx⟩,st',fun b hb=>(hf b hb).1⟩⟩
 done:=by
  intro X hP hw hK hc i pins s σ H E I hf st hg
  subst hP hw hK
  obtain⟨xs,hq,hx⟩:=hg
  obtain⟨its,rv,p,hz⟩:=I.list hq
  obtain⟨f0,f1,f2,f3,f4,f5⟩:=hf it (by simp)
  have hl:=rv.length
  exact wpAny_pyNext_list_end (I.ok.hd hc) st p.isList (by simp;omega) fun h' eb=>⟨rfl,I.turned (t':=s.toks) (fun b o hb e=>eb b o hb e) f0 f1 f3 f4 f5⟩
 self:=fun _ _ _ _ _ st h=>wpAny_pyIter_listiter st h
theorem zHb {P:Program}{w:World}{K:PySem.W.Frag}{tg:Expr} (a it:Addr):zAd P w K tg (Itt K a) [it] it (fun i h=>h.IsTupleIter it a i) where
 mem:=by simp
 obj:=fun i h st b hb=>by
  have e:b=it:=by simpa using hb
  subst e
  obtain⟨o,e,c,d⟩:=st
  exact⟨o,e,fun v z=>by rw[d] at z;cases z⟩
 keep:=fun i h h' st k=>st.at fun o e=>k it (by simp) o e
 item:=by
  intro X hP hw hK hc i pins s σ H E I hf st hg
  subst hP hw hK
  obtain⟨xs,x,hq,hx⟩:=hg
  obtain⟨its,rv,p,hz⟩:=I.tuple hq
  obtain⟨u,hu,ru⟩:=rv.get hx
  obtain⟨f0,f1,f2,f3,f4,f5⟩:=hf it (by simp)
  refine wpAny_pyNext_tuple_item st (show s.heap.IsTuple a its.toArray from p) (x:=u) (by simpa using hu) fun h' st' sb=>?_
  have I1:Inv X pins σ H { s with heap:=h' }:=I.turned (t':=s.toks) (fun b o hb e=>(sb.2 b hb).trans e) f0 f1 f3 f4 f5
  obtain⟨o,e,c,d⟩:=id st'
  exact⟨u,rfl,zAS (s:={ s with heap:=h' }) e c d (by decide) ⟨x,H,I1,ru,⟨rfl,fun ys hy=>by rw[I.tuple_inj hy hq];exact hx⟩,st',fun b hb=>(hf b hb).1⟩⟩
 done:=by
  intro X hP hw hK hc i pins s σ H E I hf st hg
  subst hP hw hK
  obtain⟨xs,hq,hx⟩:=hg
  obtain⟨its,rv,p,hz⟩:=I.tuple hq
  obtain⟨f0,f1,f2,f3,f4,f5⟩:=hf it (by simp)
  have hl:=rv.length
  exact wpAny_pyNext_tuple_end (I.ok.hd hc) st (show s.heap.IsTuple a its.toArray from p) (by simp;omega) fun h' eb=>⟨rfl,I.turned (t':=s.toks) (fun b o hb e=>eb b o hb e) f0 f1 f3 f4 f5⟩
 self:=fun _ _ _ _ _ st h=>wpAny_pyIter_tupleiter st h
theorem zHV {P:Program}{w:World}{K:PySem.W.Frag}{tg:Expr} (it:Addr) (lo:Int) (n:Nat):zAd P w K tg (Itr lo n) [it] it (fun i h=>IsRangeIter h it (lo+(i:Nat) * 1) ((n:Int) - (i:Nat)) 1) where
 mem:=by simp
 obj:=fun i h st b hb=>by
  have e:b=it:=by simpa using hb
  subst e
  exact⟨_,st,fun v z=>by
   have z':Data.fields _=Data.cell v:=z
   cases z'⟩
 keep:=fun i h h' st k=>k it (by simp) _ st
 item:=by
  intro X hP hw hK hc i pins s σ H E I hf st hg
  subst hP hw hK
  obtain⟨f0,f1,f2,f3,f4,f5⟩:=hf it (by simp)
  have W:=Walks.range (prog:=X.prog) (w:=X.w) (I.ok.hd hc) it lo 1 n
  refine wpAny_with_toks (n:=1) I.tk (W.item i s _ _ hg st fun v h' tk hv st' kk htk=>?_)
  obtain⟨t,rfl⟩:=hv
  have I1:Inv X pins σ H { s with heap:=h',toks:=tk }:=I.turned (fun b o hb e=>kk b o (by simpa using hb) e) f0 f1 f3 f4 f5
  refine⟨_,rfl,zAS (s:={ s with heap:=h',toks:=tk }) (n := "range_iterator") st' rfl rfl (by decide) ⟨.int (lo+i),H,I1,⟨t,?_⟩,⟨rfl,rfl⟩,st',fun b hb=>(hf b hb).1⟩⟩
  rw[Int.mul_one]
 done:=by
  intro X hP hw hK hc i pins s σ H E I hf st hg
  subst hP hw hK
  obtain⟨f0,f1,f2,f3,f4,f5⟩:=hf it (by simp)
  exact wpAny_pyNext_range_end (I.ok.hd hc) st (by have:n <= i:=hg;omega) fun h' eb=>⟨rfl,I.turned (t':=s.toks) (fun b o hb e=>eb b o hb e) f0 f1 f3 f4 f5⟩
 self:=fun _ _ _ _ _ st h=>wpAny_pyIter_rangeiter st h
end L2
namespace L2
open PySem PySem.Spec PyProof.Rows
section
variable {X:Cx}{tg:Expr}
noncomputable def zOY (K:PySem.W.Frag) (tl:TE):TI:=fun σ H R=>tl σ H fun x H1=>∃ a,x=.ref a/\(∃ xs,SqL K H1 a xs)/\R (Itl K a) H1
noncomputable def zPS (K:PySem.W.Frag) (tl:TE):TI:=fun σ H R=>tl σ H fun x H1=>∃ a,x=.ref a/\(∃ xs,SqT K H1 a xs)/\R (Itt K a) H1
theorem zL5 {l:Expr}{tl:TE} (hl:PE X l tl):PI X tg l (zOY X.K tl):=by
 intro pins s σ H R I h
 refine thn (hl pins s σ H _ I h) fun v s1 ⟨x,H1,I1,r1,q1⟩=>?_
 obtain⟨a,e,⟨xs,hq⟩,q⟩:=q1
 subst e
 cases r1
 obtain⟨its,rv,p,hz⟩:=I1.list hq
 refine wpAny_pyIter_list p.isList ?_
 refine⟨s1.heap.objs.size,[s1.heap.objs.size],_,_,H1,rfl,I1.kept (t':=s1.toks) fun b o e=>Heap.get?_push_of_some _ e,zIX a _,⟨_,Heap.get?_push_size _ rfl,rfl,rfl⟩,fun b hb=>?_,q⟩
 have e:b=s1.heap.objs.size:=by simpa using hb
 subst e
 exact I1.fpOk (Nat.le_refl _) (I1.hok.fresh (Nat.le_refl _))
theorem zMu {l:Expr}{tl:TE} (hl:PE X l tl):PI X tg l (zPS X.K tl):=by
 intro pins s σ H R I h
 refine thn (hl pins s σ H _ I h) fun v s1 ⟨x,H1,I1,r1,q1⟩=>?_
 obtain⟨a,e,⟨xs,hq⟩,q⟩:=q1
 subst e
 cases r1
 obtain⟨its,rv,p,hz⟩:=I1.tuple hq
 refine wpAny_pyIter_tuple (show s1.heap.IsTuple a its.toArray from p) ?_
 refine⟨s1.heap.objs.size,[s1.heap.objs.size],_,_,H1,rfl,I1.kept (t':=s1.toks) fun b o e=>Heap.get?_push_of_some _ e,zHb a _,⟨_,Heap.get?_push_size _ rfl,rfl,rfl⟩,fun b hb=>?_,q⟩
 have e:b=s1.heap.objs.size:=by simpa using hb
 subst e
 exact I1.fpOk (Nat.le_refl _) (I1.hok.fresh (Nat.le_refl _))
theorem zJ7 {pins:List (Addr×Obj)}{σ:St}{H:Hp}{s:Shared}{R:It->Hp->Prop}{E:Value->Shared->Prop}{lo hi:Int}{t u v:Tok}{tk:Nat} (I:Inv X pins σ H s) (h1:-(2 ^ 62) <= lo) (h2:lo < 2 ^ 62) (h3:-(2 ^ 62) <= hi) (h4:hi < 2 ^ 62)
  (q:R (Itr lo (hi - lo).toNat) H) (htk:0 < tk:=by first | exact Nat.succ_pos _ | assumption | exact Inv.tk (by assumption) | omega):wpAny (model X.prog X.w) X.A (pyIter (.ref s.heap.objs.size)) (PIE X pins σ tg R) E { s with heap:=s.heap.push { cls:=.type "range",data:=.fields #[.int lo t,.int hi u,.int 1 v] },toks:=tk }:=by
 refine wpAny_pyIter_range (IsRange.new ..) (small_one h1 h2 h3 h4) ?_
 have I1:Inv X pins σ H { s with heap:=s.heap.push { cls:=.type "range",data:=.fields #[.int lo t,.int hi u,.int 1 v] },toks:=tk }:=I.kept fun b o e=>Heap.get?_push_of_some _ e
 refine⟨(s.heap.push { cls:=.type "range",data:=.fields #[.int lo t,.int hi u,.int 1 v] }).objs.size,[(s.heap.push { cls:=.type "range",data:=.fields #[.int lo t,.int hi u,.int 1 v] }).objs.size],_,_,H,rfl,
  I1.kept (t':=tk) fun b o e=>Heap.get?_push_of_some _ e,zHV _ lo (hi - lo).toNat,?_,fun b hb=>?_,q⟩
 ·have e1:lo+((0:Nat):Int) * 1=lo:=by simp
  have e2:(((hi - lo).toNat:Nat):Int) - ((0:Nat):Int)=Builtin.Range.rangeSize lo hi 1:=by rw[rangeSize_one];split<;>omega
  show IsRangeIter _ _ (lo+((0:Nat):Int) * 1) ((((hi - lo).toNat:Nat):Int) - ((0:Nat):Int)) 1
  rw[e1,e2]
  exact Heap.get?_push_size _ rfl
 ·have e:b=(s.heap.push { cls:=.type "range",data:=.fields #[.int lo t,.int hi u,.int 1 v] }).objs.size:=by simpa using hb
  subst e
  exact I1.fpOk (Nat.le_refl _) (I1.hok.fresh (Nat.le_refl _))
noncomputable def zOW (ta:TA):TI:=fun σ H R=>ta σ H fun vs H1=>∃ j:Int,vs=[.int j] /\ -(2 ^ 62) <= j/\j < 2 ^ 62/\R (Itr 0 j.toNat) H1
theorem zIg {a:Expr}{ta:TA}{p pos:Pos} (hg:Gl X "range") (hm:X.mg "range" = none) (ha:PA X [a] ta) (hs:starEach [a] X.env=[(false,eval a X.env)]:=by rfl):PI X tg (.Call (.Name "range" p) [a] [] pos) (zOW ta):=by
 intro pins s σ H R I h
 refine Call_ (Jy I hg hm boot_range (PyProof.Rows.callWith_type1 (thn (ha pos pins s σ H _ I h) fun us s1 ⟨vs,H1,I1,r1,q1⟩=>?_) hs rfl))
 obtain⟨j,e,q1,q2,q⟩:=q1
 subst e
 cases r1 with
 | cons r rr =>
  cases rr
  obtain⟨t,rfl⟩:=r
  exact call_range_1 (zJ7 I1 (by omega) (by omega) q1 q2 (by simpa using q))
noncomputable def zO7 (wi:TI) (g:TG) (tb:TS):TS:=fun D σ H=>wi σ H fun J H1=>∃ W:Nat->Nat->St->Hp->Prop,(∃ m,W 0 m σ H1)/\∀ i m σ H,W i m σ H ->
 (J.stop i H/\D.nx σ H)\/(J.go i H/\∃ N:St->Hp->Prop,(∀ σ' H',N σ' H'->∃ m',m' < m/\W (i+1) m' σ' H')/\∀ x H',J.yld i H x H'->g x σ H' fun σ2 H2=>tb { D with nx:=N,ct:=N,bk:=D.nx } σ2 H2)
noncomputable def QK (fp:List Addr) (h:Heap):List (Addr×Obj):=fp.filterMap fun b=>(h.get? b).map fun o=>(b,o)
theorem Jd {fp:List Addr}{h:Heap}{b:Addr}{o:Obj} (hb:b∈fp) (e:h.get? b=some o):(b,o)∈QK fp h:=List.mem_filterMap.mpr ⟨b,hb,by rw[e];rfl⟩
theorem zEu {fp:List Addr}{h:Heap}{p:Addr×Obj} (hp:p∈QK fp h):p.1∈fp/\h.get? p.1=some p.2:=by
 obtain⟨b,hb,e⟩:=List.mem_filterMap.mp hp
 cases q:h.get? b with
 | none=>rw[q] at e;cases e
 | some o =>
  rw[q] at e
  have e':(b,o)=p:=Option.some.inj e
  subst e'
  exact⟨hb,q⟩
theorem Inv.pinned {pins:List (Addr×Obj)}{σ:St}{H:Hp}{s:Shared}{fp:List Addr} (I:Inv X pins σ H s) (hf:∀ b∈fp,zBS X pins H b) (ho:∀ b∈fp,∃ o,s.heap.get? b=some o/\∀ v,o.data≠.cell v):Inv X (pins++QK fp s.heap) σ H s :=
 I.pins_of fun p hp=>(List.mem_append.mp hp).elim (fun z=>I.pin p (List.mem_append_right _ z)) fun z=>by
  obtain⟨hb,e⟩:=zEu z
  obtain⟨f0,f1,f2,_⟩:=hf p.1 hb
  obtain⟨o,e',d⟩:=ho p.1 hb
  rw[e] at e';cases e'
  exact⟨e,f0,f1,f2,d⟩
theorem Inv.unpinned {pins pl:List (Addr×Obj)}{σ:St}{H:Hp}{s:Shared} (I:Inv X (pins++pl) σ H s):Inv X pins σ H s:=I.pins_of fun p hp=>I.pin p (List.mem_append_right _ (List.mem_append_left _ hp))
theorem zNc {iter:Expr}{body:List Stmt}{wi:TI}{g:TG}{tb:TS}{pos:Pos} (hp:PassesOwn (model X.prog X.w) X.A X.env X.xe) (hc:X.calm=true) (hi:PI X tg iter wi) (hg:PG X tg g) (hb:PSs X body tb)
  (hs:∀ x,foldedSetIterable iter X.env x=pure x:=by intro _;rfl):PS X (.For tg iter body [] pos) (zO7 wi g tb):=by
 intro pins s σ H D I h
 refine wpAny_For (thn (hi pins s σ H _ I h) fun v s1 h1=>thn h1 fun itv s2 h2=>?_) hs
 obtain⟨it,fp,tn,J,H2,e,I2,T,st2,f2,W,⟨m0,w0⟩,turn⟩:=h2
 subst e
 have stat:∀ {H':Hp},(∀ b∈fp,H' b=none)->∀ b∈fp,zBS X pins H' b:=fun hn b hb=>⟨hn b hb,(f2 b hb).2⟩
 refine codeAny_forLoop_any (fun n s'=>∃ i σ' H',Inv X pins σ' H' s'/\tn i s'.heap/\(∀ b∈fp,H' b=none)/\W i n σ' H') ?_ m0 ⟨0,σ,H2,I2,st2,fun b hb=>(f2 b hb).1,w0⟩
 rintro n s3 ⟨i,σ3,H3,I3,st3,fr3,w3⟩
 rcases turn i n σ3 H3 w3 with ⟨stop,qn⟩ | ⟨go,N,hN,step⟩
 ·refine wpAny_passesOwn hp (thn (T.done X rfl rfl rfl hc i pins s3 σ3 H3 X.xe I3 (stat fr3) st3 stop) fun r s4 ⟨hr,I4⟩=>?_)
  subst hr
  exact wpAny_execs_nil ⟨σ3,H3,I4,qn⟩
 ·refine wpAny_passesOwn hp (thn (T.item X rfl rfl rfl hc i pins s3 σ3 H3 X.xe I3 (stat fr3) st3 go) fun r s4 ⟨u,hr,h4⟩=>?_)
  subst hr
  refine wpAny_passesOwn hp (thn h4 fun _ s5 ⟨x,H5,I5,r5,y5,st5,fr5⟩=>?_)
  have I5':=I5.pinned (stat fr5) (T.obj _ _ st5)
  refine wpAny_passesOwn hp (thn (hg _ s5 σ3 H5 x u _ I5' r5 (step x H5 y5)) fun _ s6 ⟨σ6,H6,I6,q6⟩=>?_)
  refine wpAny_passesOwn hp (thn (hb _ s6 σ6 H6 _ I6 q6) fun f s7 q7=>?_)
  have again:∀ {σ7:St}{H7:Hp},Inv X (pins++QK fp s5.heap) σ7 H7 s7->N σ7 H7->∃ m,m < n/\∃ i σ' H',Inv X pins σ' H' s7/\tn i s7.heap/\(∀ b∈fp,H' b=none)/\W i m σ' H':=fun {σ7 H7} I7 n7=>by
   obtain⟨m',hm,w7⟩:=hN σ7 H7 n7
   refine⟨m',hm,i+1,σ7,H7,I7.unpinned,T.keep _ _ _ st5 fun b hb o e=>(I7.pin (b,o) (List.mem_append_right _ (List.mem_append_right _ (Jd hb e)))).1,fun b hb=>?_,w7⟩
   obtain⟨o,e,d⟩:=T.obj _ _ st5 b hb
   exact (I7.pin (b,o) (List.mem_append_right _ (List.mem_append_right _ (Jd hb e)))).2.1
  cases f with
  | next=>obtain⟨σ7,H7,I7,n7⟩:=q7;exact again I7 n7
  | cont=>obtain⟨σ7,H7,I7,n7⟩:=q7;exact again I7 n7
  | brk=>obtain⟨σ7,H7,I7,q7⟩:=q7;exact⟨σ7,H7,I7.unpinned,q7⟩
  | ret v=>obtain⟨x7,σ7,H7,I7,r7,q7⟩:=q7;exact⟨x7,σ7,H7,I7.unpinned,r7,q7⟩
end
end L2
namespace L2
open PySem PySem.Spec PyProof.Rows
noncomputable abbrev R2:=V->V->Hp->VK->Prop
noncomputable def OpR (X:Cx) (f:Value->Value->Sem Value) (r:R2):Prop :=
 ∀ (pins:List (Addr×Obj)) (s:Shared) (σ:St) (H:Hp) (x y:V) (v u:Value) (Q:VK),Inv X pins σ H s->zh x v->zh y u->r x y H Q ->
  wpAny (model X.prog X.w) X.A (f v u) (EP X pins σ Q) X.xe s
noncomputable def j5 (X:Cx) (f:Value) (r:List V->Hp->VK->Prop):Prop :=
 ∀ (pins:List (Addr×Obj)) (s:Shared) (σ:St) (H:Hp) (xs:List V) (us:List Value) (Q:VK),Inv X pins σ H s->zd xs us->r xs H Q ->
  wpAny (model X.prog X.w) X.A (call f us) (EP X pins σ Q) X.xe s
noncomputable def zPH (X:Cx) (r:V->Hp->(Bool->Hp->Prop)->Prop):Prop :=
 ∀ (pins:List (Addr×Obj)) (s:Shared) (σ:St) (H:Hp) (x:V) (v:Value) (Q:Bool->Hp->Prop),Inv X pins σ H s->zh x v->r x H Q ->
  wpAny (model X.prog X.w) X.A (truthy v) (TP X pins σ Q) X.xe s
noncomputable def tOp (r:R2) (ta tb:TE):TE:=fun σ H Q=>ta σ H fun x H1=>tb σ H1 fun y H2=>r x y H2 Q
noncomputable def rI (C:Int->Int->Prop) (g:Int->Int->V):R2:=fun x y H Q=>∃ i j,x=.int i/\y=.int j/\C i j/\Q (g i j) H
noncomputable def rI0 (g:Int->Int->V):R2:=fun x y H Q=>∃ i j,x=.int i/\y=.int j/\Q (g i j) H
section
variable {X:Cx}{a b c:Expr}{ta tb tc:TE}{pos:Pos}
theorem zKM (ha:PE X a ta) (hb:PE X b tb) {pins:List (Addr×Obj)}{s:Shared}{σ:St}{H:Hp}{R:V->V->Hp->Prop} (I:Inv X pins σ H s)
  (h:ta σ H fun x H1=>tb σ H1 fun y H2=>R x y H2) {Q:Value->Shared->Prop}{f:Value->Value->Sem Value}
  (hf:∀ v u s2 x y H2,Inv X pins σ H2 s2->zh x v->zh y u->R x y H2->wpAny (model X.prog X.w) X.A (f v u) Q X.xe s2) :
  wpAny (model X.prog X.w) X.A (eval a X.env) (fun v s₁=>wpAny (model X.prog X.w) X.A (eval b X.env) (fun u s₂=>wpAny (model X.prog X.w) X.A (f v u) Q X.xe s₂) X.xe s₁) X.xe s:=by
 refine thn (ha pins s σ H _ I h) fun v s1 ⟨x,H1,I1,r1,q1⟩=>?_
 refine thn (hb pins s1 σ H1 _ I1 q1) fun u s2 ⟨y,H2,I2,r2,q2⟩=>?_
 exact hf v u s2 x y H2 I2 r1 r2 q2
theorem zOS {op:Operator}{r:R2} (ho:OpR X (binaryOp op) r) (ha:PE X a ta) (hb:PE X b tb):PE X (.BinOp a op b pos) (tOp r ta tb):=by
 intro pins s σ H Q I h
 exact wpAny_BinOp (zKM ha hb I h fun v u s2 x y H2 I2 rx ry q=>ho pins s2 σ H2 x y v u Q I2 rx ry q)
theorem opI {f:Value->Value->Sem Value}{C:Int->Int->Prop}{g:Int->Int->Int}
  (rule:∀ (i j:Int) (t u:Tok) (s:Shared) (Q:Value->Shared->Prop) (E:Value->Shared->Prop),C i j->Q (.int (g i j) s.toks) { s with toks:=s.toks+1 }->wpAny (model X.prog X.w) X.A (f (.int i t) (.int j u)) Q E s) :
  OpR X f (rI C fun i j=>.int (g i j)):=by
 intro pins s σ H x y v u Q I rx ry h
 obtain⟨i,j,rfl,rfl,hc,q⟩:=h
 obtain⟨t,rfl⟩:=rx
 obtain⟨t',rfl⟩:=ry
 exact rule i j t t' s _ _ hc ⟨.int (g i j),H,I.tok _,⟨_,rfl⟩,q⟩
theorem zMZ {f:Value->Value->Sem Value}{g:Int->Int->Int}
  (rule:∀ (i j:Int) (t u:Tok) (s:Shared) (Q:Value->Shared->Prop) (E:Value->Shared->Prop),Q (.int (g i j) s.toks) { s with toks:=s.toks+1 }->wpAny (model X.prog X.w) X.A (f (.int i t) (.int j u)) Q E s) :
  OpR X f (rI0 fun i j=>.int (g i j)):=by
 intro pins s σ H x y v u Q I rx ry h
 obtain⟨i,j,rfl,rfl,q⟩:=h
 obtain⟨t,rfl⟩:=rx
 obtain⟨t',rfl⟩:=ry
 exact rule i j t t' s _ _ ⟨.int (g i j),H,I.tok _,⟨_,rfl⟩,q⟩
theorem zNx {f:Value->Value->Sem Value}{g:Int->Int->Bool}
  (rule:∀ (i j:Int) (t u:Tok) (s:Shared) (Q:Value->Shared->Prop) (E:Value->Shared->Prop),Q (.bool (g i j)) s->wpAny (model X.prog X.w) X.A (f (.int i t) (.int j u)) Q E s) :
  OpR X f (rI0 fun i j=>.bl (g i j)):=by
 intro pins s σ H x y v u Q I rx ry h
 obtain⟨i,j,rfl,rfl,q⟩:=h
 obtain⟨t,rfl⟩:=rx
 obtain⟨t',rfl⟩:=ry
 exact rule i j t t' s _ _ ⟨.bl (g i j),H,I,rfl,q⟩
noncomputable def zPE (i j:Int):Prop:=0 < j/\j < 1073741824
noncomputable def zHS (i j:Int):Prop:=(-(2 ^ 64) < i/\i < 2 ^ 64)\/(-(2 ^ 64) < j/\j < 2 ^ 64)
theorem zHS.ok {i j:Int} (h:zHS i j):IntMulOk i j:=by
 rcases h with ⟨h1,h2⟩ | ⟨h1,h2⟩
 ·exact .of_left (intBits_le_64 h1 h2)
 ·exact .of_right (intBits_le_64 h1 h2)
theorem zMU:OpR X (binaryOp .Add) (rI0 fun i j=>.int (i+j)):=zMZ fun _ _ _ _ _ _ _ q=>add_int q
theorem zNH:OpR X (binaryOp .Sub) (rI0 fun i j=>.int (i - j)):=zMZ fun _ _ _ _ _ _ _ q=>sub_int q
theorem zMP:OpR X (binaryOp .Mult) (rI zHS fun i j=>.int (i * j)):=opI fun _ _ _ _ _ _ _ hc q=>mul_int q hc.ok
theorem zLi:OpR X (binaryOp .FloorDiv) (rI zPE fun i j=>.int (i / j)):=opI fun i j _ _ _ _ _ hc q=>by
 have h1:(0:Int) < j:=hc.1
 have h2:j < 1073741824:=hc.2
 exact floordiv_int (by omega) (by rw[Int.fdiv_eq_ediv_of_nonneg i (by omega)];exact q) (.inl (PyProof.noPylong_small (by omega)))
theorem zND:OpR X (binaryOp .Mod) (rI (fun _ j=>0 < j) fun i j=>.int (i % j)):=opI fun i j _ _ _ _ _ hc q=>by
 have h1:(0:Int) < j:=hc
 exact mod_int' (by omega) (by rw[Int.fmod_eq_emod_of_nonneg i (by omega)];exact q)
end
noncomputable def zEP:V->V->Bool
 | .non,.non=>true | .non,.int _=>true | .int _,.non=>true | .non,.bl _=>true | .bl _,.non=>true | .non,.str _=>true | .str _,.non=>true
 | .int _,.int _=>true | .bl _,.bl _=>true | .str _,.str _=>true | .byt _,.byt _=>true
 | .int _,.str _=>true | .str _,.int _=>true | .bl _,.str _=>true | .str _,.bl _=>true
 | _,_=>false
noncomputable def rEq:R2:=fun x y H Q=>zEP x y=true/\Q (.bl (decide (x=y))) H
noncomputable def rNe:R2:=fun x y H Q=>zEP x y=true/\Q (.bl (!decide (x=y))) H
theorem zG3 {i j:Int}:decide (V.int i=V.int j)=(i == j):=by
 rw[Bool.eq_iff_iff]
 simp
theorem zIZ {i j:Bool}:decide (V.bl i=V.bl j)=(i == j):=by
 rw[Bool.eq_iff_iff]
 simp
theorem zG8 {i j:Str}:decide (V.str i=V.str j)=(i == j):=by
 rw[Bool.eq_iff_iff]
 simp
theorem zG5 {i j:Array UInt8}:decide (V.byt i=V.byt j)=(i.toList == j.toList):=by
 rw[Bool.eq_iff_iff]
 cases i
 cases j
 simp
section
variable {X:Cx}{a b c:Expr}{ta tb tc:TE}{pos:Pos}
theorem jO {pins:List (Addr×Obj)}{σ:St}{H:Hp}{s:Shared}{Q:VK}{k k':Bool} (I:Inv X pins σ H s) (q:Q (.bl k) H) (e:k=k'):EP X pins σ Q (.bool k') s:=by
 subst e
 exact⟨.bl k,H,I,rfl,q⟩
theorem zOO:OpR X (compareOp .Eq) rEq:=by
 intro pins s σ H x y v u Q I rx ry h
 obtain⟨hs,q⟩:=h
 cases x with
 | non =>
  cases rx
  cases y with
  | non=>cases ry;exact PySem.EqNone.eq_none_none (jO I q (by simp))
  | bl j=>cases ry;exact PySem.EqNone.eq_none_bool (jO I q (by simp))
  | int j=>obtain⟨t',rfl⟩:=ry;exact PySem.EqNone.eq_none_int (jO I q (by simp))
  | str j=>obtain⟨t',rfl⟩:=ry;exact PySem.EqNone.eq_none_str (jO I q (by simp))
  | _=>exact absurd (show false=true from hs) Bool.false_ne_true
 | bl i =>
  cases rx
  cases y with
  | non=>cases ry;exact PySem.EqNone.eq_bool_none (jO I q (by simp))
  | bl j=>cases ry;exact eq_bool (jO I q zIZ)
  | str j=>obtain⟨t',rfl⟩:=ry;exact PySem.EqMixed.eq_bool_str (jO I q (by simp))
  | _=>exact absurd (show false=true from hs) Bool.false_ne_true
 | int i =>
  obtain⟨t,rfl⟩:=rx
  cases y with
  | non=>cases ry;exact PySem.EqNone.eq_int_none (jO I q (by simp))
  | int j=>obtain⟨t',rfl⟩:=ry;exact eq_int (jO I q zG3)
  | str j=>obtain⟨t',rfl⟩:=ry;exact PySem.EqMixed.eq_int_str (jO I q (by simp))
  | _=>exact absurd (show false=true from hs) Bool.false_ne_true
 | str i =>
  obtain⟨t,rfl⟩:=rx
  cases y with
  | non=>cases ry;exact PySem.EqNone.eq_str_none (jO I q (by simp))
  | bl j=>cases ry;exact PySem.EqMixed.eq_str_bool (jO I q (by simp))
  | int j=>obtain⟨t',rfl⟩:=ry;exact PySem.EqMixed.eq_str_int (jO I q (by simp))
  | str j=>obtain⟨t',rfl⟩:=ry;exact eq_str (jO I q zG8)
  | _=>exact absurd (show false=true from hs) Bool.false_ne_true
 | byt i =>
  obtain⟨t,rfl⟩:=rx
  cases y with
  | byt j=>obtain⟨t',rfl⟩:=ry;exact PySem.W.eq_bytes (jO I q zG5)
  | _=>exact absurd (show false=true from hs) Bool.false_ne_true
 | _=>cases y<;>exact absurd (show false=true from hs) Bool.false_ne_true
theorem zOV:OpR X (compareOp .NotEq) rNe:=by
 intro pins s σ H x y v u Q I rx ry h
 obtain⟨hs,q⟩:=h
 cases x with
 | non =>
  cases rx
  cases y with
  | non=>cases ry;exact PySem.EqNone.ne_none_none (jO I q (by simp))
  | bl j=>cases ry;exact PySem.EqNone.ne_none_bool (jO I q (by simp))
  | int j=>obtain⟨t',rfl⟩:=ry;exact PySem.EqNone.ne_none_int (jO I q (by simp))
  | str j=>obtain⟨t',rfl⟩:=ry;exact PySem.EqNone.ne_none_str (jO I q (by simp))
  | _=>exact absurd (show false=true from hs) Bool.false_ne_true
 | bl i =>
  cases rx
  cases y with
  | non=>cases ry;exact PySem.EqNone.ne_bool_none (jO I q (by simp))
  | bl j=>cases ry;exact ne_bool (jO I q (congrArg not zIZ))
  | str j=>obtain⟨t',rfl⟩:=ry;exact PySem.EqMixed.ne_bool_str (jO I q (by simp))
  | _=>exact absurd (show false=true from hs) Bool.false_ne_true
 | int i =>
  obtain⟨t,rfl⟩:=rx
  cases y with
  | non=>cases ry;exact PySem.EqNone.ne_int_none (jO I q (by simp))
  | int j=>obtain⟨t',rfl⟩:=ry;exact ne_int (jO I q (congrArg not zG3))
  | str j=>obtain⟨t',rfl⟩:=ry;exact PySem.EqMixed.ne_int_str (jO I q (by simp))
  | _=>exact absurd (show false=true from hs) Bool.false_ne_true
 | str i =>
  obtain⟨t,rfl⟩:=rx
  cases y with
  | non=>cases ry;exact PySem.EqNone.ne_str_none (jO I q (by simp))
  | bl j=>cases ry;exact PySem.EqMixed.ne_str_bool (jO I q (by simp))
  | int j=>obtain⟨t',rfl⟩:=ry;exact PySem.EqMixed.ne_str_int (jO I q (by simp))
  | str j=>obtain⟨t',rfl⟩:=ry;exact ne_str (jO I q (congrArg not zG8))
  | _=>exact absurd (show false=true from hs) Bool.false_ne_true
 | byt i =>
  obtain⟨t,rfl⟩:=rx
  cases y with
  | byt j=>obtain⟨t',rfl⟩:=ry;exact PySem.W.ne_bytes (jO I q (congrArg not zG5))
  | _=>exact absurd (show false=true from hs) Bool.false_ne_true
 | _=>cases y<;>exact absurd (show false=true from hs) Bool.false_ne_true
theorem zOm:OpR X (compareOp .Lt) (rI0 fun i j=>.bl (decide (i < j))):=zNx fun _ _ _ _ _ _ _ q=>lt_int q
theorem zOx:OpR X (compareOp .Gt) (rI0 fun i j=>.bl (decide (j < i))):=zNx fun _ _ _ _ _ _ _ q=>gt_int q
theorem zJM:OpR X (compareOp .Lt) (fun x y H Q=>∃ i j,x=.str i/\y=.str j/\Q (.bl (decide (i.cps.toList < j.cps.toList))) H):=by
 intro pins s σ H x y v u Q I rx ry h
 obtain⟨i,j,rfl,rfl,q⟩:=h
 obtain⟨t,rfl⟩:=rx
 obtain⟨t',rfl⟩:=ry
 exact lt_str (jO I q rfl)
theorem zIB:OpR X (compareOp .In) (fun x y H Q=>∃ i j,x=.str i/\y=.str j/\Q (.bl (!(Builtin.Str.occurrences j i 0 j.length 1).isEmpty)) H):=by
 intro pins s σ H x y v u Q I rx ry h
 obtain⟨i,j,rfl,rfl,q⟩:=h
 obtain⟨t,rfl⟩:=rx
 obtain⟨t',rfl⟩:=ry
 exact in_str (jO I q rfl)
theorem zF7:OpR X (compareOp .NotIn) (fun x y H Q=>∃ i j,x=.str i/\y=.str j/\Q (.bl (!(!(Builtin.Str.occurrences j i 0 j.length 1).isEmpty))) H):=by
 intro pins s σ H x y v u Q I rx ry h
 obtain⟨i,j,rfl,rfl,q⟩:=h
 obtain⟨t,rfl⟩:=rx
 obtain⟨t',rfl⟩:=ry
 exact notIn_str (jO I q rfl)
theorem OpR.or {f:Value->Value->Sem Value}{r r':R2} (h:OpR X f r) (h':OpR X f r'):OpR X f (fun x y H Q=>r x y H Q\/r' x y H Q):=by
 intro pins s σ H x y v u Q I rx ry q
 rcases q with q | q
 ·exact h pins s σ H x y v u Q I rx ry q
 ·exact h' pins s σ H x y v u Q I rx ry q
theorem jX (b:Expr) {op:CmpOp} (h:op≠.In:=by decide) (h2:op≠.NotIn:=by decide):behindInMarks op b=false:=by
 have e1:(op == CmpOp.In)=false:=by cases op<;>first | rfl | exact absurd rfl h
 have e2:(op == CmpOp.NotIn)=false:=by cases op<;>first | rfl | exact absurd rfl h2
 cases b<;>simp[behindInMarks,e1,e2]
theorem zL3 {op:CmpOp}{r:R2} (ho:OpR X (compareOp op) r) (ha:PE X a ta) (hb:PE X b tb) (hm:behindInMarks op b=false):PE X (.Compare a [op] [b] pos) (tOp r ta tb):=by
 intro pins s σ H Q I h
 exact wpAny_Compare1 (zKM ha hb I h fun v u s2 x y H2 I2 rx ry q=>ho pins s2 σ H2 x y v u Q I2 rx ry q) hm
noncomputable def zOu (t:TE):TT:=fun σ H Q=>t σ H fun x H'=>∃ k,x=.bl k/\Q k H'
theorem zL1 {op:CmpOp}{r:R2} (ho:OpR X (compareOp op) r) (ha:PE X a ta) (hb:PE X b tb) (hm:behindInMarks op b=false):PT X (.Compare a [op] [b] pos) (zOu (tOp r ta tb)):=by
 intro pins s σ H Q I h
 refine wpAny_isTrue_Compare1 (thn (ha pins s σ H _ I h) fun v s1 ⟨x,H1,I1,r1,q1⟩=>thn (hb pins s1 σ H1 _ I1 q1) fun u s2 ⟨y,H2,I2,r2,q2⟩ =>
  thn (ho pins s2 σ H2 x y v u _ I2 r1 r2 q2) fun c s3 ⟨z,H3,I3,r3,k,e,q3⟩=>?_) hm
 subst e
 cases r3
 exact wpAny_truthy_bool ⟨H3,I3,q3⟩
noncomputable def zNS (K:PySem.W.Frag) (x:V) (H:Hp) (k:Bool):Prop :=
 match x with
 | .non=>k=false
 | .bl b=>k=b
 | .int i=>k=(i != 0)
 | .str y=>y.length <= sizeLine/\k=((y.length:Int) != 0)
 | .byt y=>y.size <= sizeLine/\k=((y.size:Int) != 0)
 | .ref p=>(∃ xs,SqL K H p xs/\k = !xs.isEmpty)\/(∃ xs,SqT K H p xs/\k = !xs.isEmpty)\/∃ kvs,H p=some (.dK kvs)/\k = !kvs.isEmpty
 | _=>False
theorem zHv {κ:Type}{kvs:List (κ×V)}{vs:List (κ×Value)} (r:KV kvs vs):(!vs.isEmpty) = !kvs.isEmpty:=by
 cases r<;>rfl
theorem zD8 {xs:List V}{its:List Value} (r:zd xs its):(!its.toArray.isEmpty) = !xs.isEmpty:=by
 cases r<;>simp
theorem zAB:(sizeLine:Nat) < 2 ^ 63:=by rw[sizeLine_eq];decide
theorem zM2:zPH X (fun x H Q=>∃ k,zNS X.K x H k/\Q k H):=by
 intro pins s σ H x v Q I rx h
 obtain⟨k,e,q⟩:=h
 have hl:=zAB
 have hs:sizeLine=16777216:=sizeLine_eq
 cases x with
 | non =>
  cases rx
  have e':k=false:=e
  subst e'
  exact truthy_none ⟨H,I,q⟩
 | bl b =>
  cases rx
  have e':k=b:=e
  subst e'
  exact wpAny_truthy_bool ⟨H,I,q⟩
 | int i =>
  obtain⟨t,rfl⟩:=rx
  have e':k=(i != 0):=e
  subst e'
  exact PySem.P.truthy_int ⟨H,I,q⟩
 | str y =>
  obtain⟨t,rfl⟩:=rx
  obtain⟨hy,e'⟩:y.length <= sizeLine/\k=((y.length:Int) != 0):=e
  subst e'
  exact PySem.P.truthy_str (by omega) ⟨H,I.tok _,q⟩
 | byt y =>
  obtain⟨t,rfl⟩:=rx
  obtain⟨hy,e'⟩:y.size <= sizeLine/\k=((y.size:Int) != 0):=e
  subst e'
  exact PySem.W.truthy_bytes (by omega) ⟨H,I.tok _,q⟩
 | ref p =>
  cases rx
  have e':(∃ xs,SqL X.K H p xs/\k = !xs.isEmpty)\/(∃ xs,SqT X.K H p xs/\k = !xs.isEmpty)\/∃ kvs,H p=some (.dK kvs)/\k = !kvs.isEmpty:=e
  rcases e' with ⟨xs,hx,e'⟩ | ⟨xs,hx,e'⟩ | ⟨kvs,hx,e'⟩
  ·subst e'
   obtain⟨its,r,pl,hz⟩:=I.list hx
   have hlen:=r.length
   exact wpAny_truthy_list pl.isList (by simp only[List.size_toArray];omega) ⟨H,I.tok _,by rw[zD8 r];exact q⟩
  ·subst e'
   obtain⟨its,r,pl,hz⟩:=I.tuple hx
   have hlen:=r.length
   exact truthy_tuple pl (by simp only[List.size_toArray];omega) ⟨H,I.tok _,by rw[zD8 r];exact q⟩
  ·subst e'
   obtain⟨hz,hS,vs,r,m⟩:kvs.length <= sizeLine/\(p == sysModules)=false/\∃ vs,KV kvs vs/\s.heap.DictOf (jP X.prog X.w) p vs:=I.hok p _ hx
   have hlen:kvs.length=vs.length:=Paired.length r
   exact wpAny_truthy_dict hS m (by omega) ⟨H,I.tok _,by rw[zHv r];exact q⟩
 | _=>exact (show False from e).elim
theorem zKI (ha:PE X a ta) (he:∀ whole,isTrue a X.env whole=(do let v <- whole;standAt a.pos;holding [v] (truthy v))) :
  PT X a (fun σ H Q=>ta σ H fun x H'=>∃ k,zNS X.K x H' k/\Q k H'):=by
 intro pins s σ H Q I h
 exact isTrue_plain (thn (ha pins s σ H _ I h) fun v s1 ⟨x,H1,I1,r1,q1⟩=>zM2 pins s1 σ H1 x v Q I1 r1 q1) (he _)
theorem zH0:OpR X (binaryOp .Add) (fun x y H Q=>∃ i j,x=.str i/\y=.str j/\i.length+j.length <= sizeLine/\Q (.str (i++j)) H):=by
 intro pins s σ H x y v u Q I rx ry h
 obtain⟨i,j,rfl,rfl,hz,q⟩:=h
 obtain⟨t,rfl⟩:=rx
 obtain⟨t',rfl⟩:=ry
 exact wpAny_with_toks (n:=1) I.tk (add_str (fun t' tk htk=>⟨.str (i++j),H,I.tok _ htk,⟨_,rfl⟩,q⟩) hz)
theorem zGe:OpR X (inplaceOp .Add) (fun x y H Q=>∃ i j,x=.str i/\y=.str j/\i.length+j.length <= sizeLine/\Q (.str (i++j)) H):=by
 intro pins s σ H x y v u Q I rx ry h
 obtain⟨i,j,rfl,rfl,hz,q⟩:=h
 obtain⟨t,rfl⟩:=rx
 obtain⟨t',rfl⟩:=ry
 exact wpAny_with_toks (n:=1) I.tk (iadd_str (fun t' tk htk=>⟨.str (i++j),H,I.tok _ htk,⟨_,rfl⟩,q⟩) hz)
theorem QW {x:V}{us:List Value} (r:zd [x] us):∃ u,us=[u]/\zh x u:=by
 cases r with
 | cons r1 r2=>cases r2;exact⟨_,rfl,r1⟩
theorem zOa {x y:V}{us:List Value} (r:zd [x,y] us):∃ u w',us=[u,w']/\zh x u/\zh y w':=by
 cases r with
 | cons r1 r2 =>
  cases r2 with
  | cons r3 r4=>cases r4;exact⟨_,_,rfl,r1,r3⟩
theorem zI1:j5 X (.type "int") (fun xs H Q=>(∃ i,xs=[.int i]/\Q (.int i) H)\/∃ k,xs=[.bl k]/\Q (.int (if k then 1 else 0)) H):=by
 intro pins s σ H xs us Q I r h
 rcases h with ⟨i,rfl,q⟩ | ⟨k,rfl,q⟩
 ·obtain⟨u,rfl,t,rfl⟩:=QW r
  exact call_int_int ⟨.int i,H,I,⟨_,rfl⟩,q⟩
 ·obtain⟨u,rfl,r1⟩:=QW r
  cases r1
  exact call_int_bool ⟨.int (if k then 1 else 0),H,I.tok _,⟨_,rfl⟩,q⟩
end
end L2
namespace L2
open PySem PySem.Spec PyProof.Rows
structure zC2 (h:Heap) (x dx C:Addr) (mA:Str->Option Value):Prop where
 obj:h.get? x=some (PySem.W.instObj C dx)
 ns:h.Ns1 dx mA
 ne:dx≠x
theorem zI9 {h:Heap}{dx:Addr}{mA:Str->Option Value} (n:h.Ns1 dx mA):∃ od,h.get? dx=some od/\∀ name,PySem.W.lookIn name od=some (mA name):=by
 obtain⟨o,es,ep,ho,hd,hk,_,hm⟩:=n
 refine⟨o,ho,fun name=>?_⟩
 have e:=hm name
 unfold nsFind findBy at e
 rw[<- Array.find?_toList] at e
 unfold PySem.W.lookIn
 rw[hd]
 dsimp only
 split
 ·rename_i y q
  rw[q] at e
  exact congrArg some e
 ·rename_i q
  rw[q] at e
  have a:es.toList.any (·.refKey)=false:=by
   rw[List.any_eq_false]
   intro y hy
   obtain⟨z,t,hkey⟩:=hk y (Array.mem_toList_iff.mp hy)
   simp[DictEntry.refKey,hkey]
  have a':¬ es.toList.any (·.refKey)=true:=by rw[a];exact Bool.false_ne_true
  rw[if_neg a']
  exact congrArg some e
theorem zC2.look {h:Heap}{x dx C:Addr}{mA:Str->Option Value} (I:zC2 h x dx C mA):∃ od,PySem.W.InstAt h x (PySem.W.instObj C dx) C (some od)/\∀ name,PySem.W.lookIn name od=some (mA name) :=
 let ⟨od,ho,hl⟩:=zI9 I.ns
 ⟨od,⟨I.obj,rfl,rfl,ho⟩,hl⟩
section
variable {prog:Program}{w:World}{A:Around}{E:Value->Shared->Prop}{s:Shared}{K:PySem.W.Frag}{x dx C f:Addr}{mA:Str->Option Value}{name:Str}{v:Value}
theorem zLr {expr:Bool}{Q:Value->Shared->Prop} (X:K.In s.heap) (I:zC2 s.heap x dx C mA) (hg:PySem.W.plainGet K C name=true) (hh:PySem.W.hasDictIn K C=true)
  (ha:PySem.W.findIn K (.ref C) name=some none) (hv:mA name=some v) (hv':PySem.W.handedIn v=true) (h:Q v { s with toks:=s.toks+1 }) :
  wpAny (model prog w) A (getAttr (.ref x) name expr) Q E s:=by
 obtain⟨od,J,hl⟩:=I.look
 exact PySem.W.get_value X J (PySem.W.plainGet_of hg).1 (PySem.W.findObj_own hh ha rfl (by rw[hl,hv])) hv' h
theorem zJQ {pl:Sem Bool}{Q:Value×List Value->Shared->Prop} (X:K.In s.heap) (I:zC2 s.heap x dx C mA) (hg:PySem.W.plainGet K C name=true)
  (hf:PySem.W.findIn K (.ref C) name=some (some (.ref f))) (ht:PySem.W.isFn K (.ref f)=true) (hv:mA name=none) (h:Q (.ref f,[.ref x]) s) :
  wpAny (model prog w) A (getMethod (.ref x) name pl) Q E s:=by
 obtain⟨od,J,hl⟩:=I.look
 exact PySem.W.method_fn X J (PySem.W.plainGet_of hg).1 (PySem.W.plainGet_of hg).2 hf (beq_iff_eq.mp ht) (by show (PySem.W.lookIn name od).map (·.isSome)=some false;rw[hl,hv];rfl) h
theorem zLu {ns:List Str}{Q:Unit->Shared->Prop} (X:K.In s.heap) (I:zC2 s.heap x dx C mA)
  (hs:PySem.W.findIn K (.ref C) "__setattr__" = some (some (.builtin "object.__setattr__"))) (hp:PySem.W.plainOver K C=true) (ht:PySem.W.takerIn K C name=some none) (hh:PySem.W.hasDictIn K C=true)
  (hw:PySem.Within mA ns) (hsz:ns.length <= sizeLine)
  (h:∀ h',zC2 h' x dx C (fun y=>if y=name then some v else mA y)->Heap.SameBut dx s.heap h'->Q () { s with heap:=h',toks:=s.toks+2 }) :
  wpAny (model prog w) A (setAttr (.ref x) name v) Q E s:=by
 obtain⟨od,J,hl⟩:=I.look
 refine PySem.W.set_plain X J hs (PySem.W.osa_open (s:={ s with toks:=s.toks+1 }) (r:=none) X J hp ht fun b=>?_)
 obtain⟨cd,hc,hd'⟩:=PySem.W.any_some hh
 have hx:s.heap.get? x=some ⟨.ref C,some dx,.plain,#[]⟩:=I.obj
 refine wpAny_bind (wpAny_pure (wpAny_bind (wpAny_bind (wpAny_loadPart hx (wpAny_bind (PySem.W.Looks.here (s:={ s with toks:=s.toks+1 }) (PySem.W.looks_clsIn X hc) ?_))))))
 rw[hd']
 refine wpAny_pure (a:=some dx) (wpAny_bind (wpAny_pure (wpAny_bind ?_)))
 refine wpAny_nsSet1 (s:={ s with toks:=s.toks+1 }) I.ns fun h' hn2 hs2=>?_
 obtain⟨oD,esD,epD,hoD,hdD,hcD⟩:=hn2.count (PySem.Within.cons name v hw)
 refine wpAny_bind (wpAny_lookBehind hoD (by rw[hdD];exact pastItsLine_dict (Nat.le_trans hcD (by rw[List.length_cons];omega))) ?_)
 exact wpAny_pure (h _ ⟨(hs2.2 _ (Ne.symm I.ne)).trans I.obj,hn2,I.ne⟩ hs2)
theorem zJR {R:Result->Shared->Prop}{vs:List Value}{kw:List (Str×Value)} (X:K.In s.heap) (hm:PySem.W.makesIn K C=true)
  (hi:PySem.W.findIn K (.ref C) "__init__" = some (some (.ref f))) (hf:PySem.W.typeIn K (.ref f)=some (.type "function"))
  (h:codeAny (model prog w) (A.under (.builtin "type.__call__" ⟨.ref C::vs,kw⟩)) (.call (.ref f) ⟨.ref (s.heap.objs.size+1)::vs,kw⟩) (PySem.W.InitBack (s.heap.objs.size+1) R)
   { s with heap:=(s.heap.push PySem.W.emptyDict).push (PySem.W.instObj C s.heap.objs.size) }) :
  codeAny (model prog w) A (.call (.ref C) ⟨vs,kw⟩) R s:=by
 obtain⟨hh,g,d,t,os⟩:=s
 exact PySem.W.make_core (PySem.W.makes_of X hm) (PySem.W.looks_findIn X hi) (fun self=>PySem.W.bind_fn X self hf) (.inl rfl) h
end
noncomputable def q9 (f:Str) (v:V):List (Str×V)->List (Str×V)
 | []=>[(f,v)]
 | (g,x)::r=>if g=f then (g,v)::r else (g,x)::q9 f v r
theorem zAh (f g:Str) (v:V):∀ fs:List (Str×V),(q9 f v fs).lookup g=if g=f then some v else fs.lookup g
 | []=>by
  show List.lookup g [(f,v)]=_
  by_cases h:g=f
  ·have hb:(g == f)=true:=beq_iff_eq.mpr h
   simp only[List.lookup,hb,if_pos h]
  ·have hb:(g == f)=false:=beq_eq_false_iff_ne.mpr h
   simp only[List.lookup,hb,if_neg h]
 | (k,x)::r=>by
  have ih:=zAh f g v r
  rw[show q9 f v ((k,x)::r)=(if k=f then (k,v)::r else (k,x)::q9 f v r) from rfl]
  by_cases hk:k=f
  ·rw[if_pos hk]
   by_cases h:g=k
   ·have hb:(g == k)=true:=beq_iff_eq.mpr h
    simp only[List.lookup,hb,if_pos (h.trans hk)]
   ·have hb:(g == k)=false:=beq_eq_false_iff_ne.mpr h
    simp only[List.lookup,hb,if_neg (fun e:g=f=>h (e.trans hk.symm))]
  ·rw[if_neg hk]
   by_cases h:g=k
   ·have hb:(g == k)=true:=beq_iff_eq.mpr h
    simp only[List.lookup,hb,if_neg (fun e:g=f=>hk (h.symm.trans e))]
   ·have hb:(g == k)=false:=beq_eq_false_iff_ne.mpr h
    simp only[List.lookup,hb]
    exact ih
theorem zCY (f:Str) (v:V):∀ fs:List (Str×V),f∈(q9 f v fs).map (·.1)/\∀ g,g∈fs.map (·.1)->g∈(q9 f v fs).map (·.1)
 | []=>⟨by simp[q9],fun g h=>by simp at h⟩
 | (k,x)::r=>by
  obtain⟨i1,i2⟩:=zCY f v r
  rw[show q9 f v ((k,x)::r)=(if k=f then (k,v)::r else (k,x)::q9 f v r) from rfl]
  by_cases hk:k=f
  ·rw[if_pos hk]
   subst hk
   exact⟨by simp,fun g h=>by simpa using h⟩
  ·rw[if_neg hk]
   refine⟨?_,fun g h=>?_⟩
   ·rw[List.map_cons]
    exact List.mem_cons_of_mem _ i1
   ·rw[List.map_cons] at h ⊢
    rcases List.mem_cons.mp h with e | e
    ·exact List.mem_cons.mpr (.inl e)
    ·exact List.mem_cons_of_mem _ (i2 g e)
theorem zCy (f:Str) (v:V):∀ fs:List (Str×V),(q9 f v fs).length <= fs.length+1
 | []=>by simp[q9]
 | (k,x)::r=>by
  have ih:=zCy f v r
  rw[show q9 f v ((k,x)::r)=(if k=f then (k,v)::r else (k,x)::q9 f v r) from rfl]
  by_cases hk:k=f
  ·rw[if_pos hk,List.length_cons,List.length_cons];omega
  ·rw[if_neg hk,List.length_cons,List.length_cons];omega
theorem QG.some_of {v:V}{o:Option Value} (r:QG (some v) o):∃ u,o=some u/\zh v u:=by
 cases o with
 | none=>exact (show False from r).elim
 | some u=>exact⟨u,rfl,r⟩
theorem QG.none_of {o:Option Value} (r:QG none o):o=none:=by
 cases o with
 | none=>rfl
 | some u=>exact (show False from r).elim
theorem zIT {v:V}{u:Value} (r:zh v u):PySem.W.handedIn u=true:=by
 cases v with
 | non=>cases (show u=Value.none from r);rfl
 | bl b=>cases (show u=Value.bool b from r);rfl
 | int i=>obtain⟨t,e⟩:=(show ∃ t,u=Value.int i t from r);cases e;rfl
 | str x=>obtain⟨t,e⟩:=(show ∃ t,u=Value.str x t from r);cases e;rfl
 | byt b=>obtain⟨t,e⟩:=(show ∃ t,u=Value.bytes b t from r);cases e;rfl
 | flt b=>obtain⟨t,e⟩:=(show ∃ t,u=Value.float b t from r);cases e;rfl
 | ref a=>cases (show u=Value.ref a from r);rfl
 | ty n=>cases (show u=Value.type n from r);rfl
section
variable {P:Program}{w:World}{H H':Hp}{h h':Heap}{a C dx:Addr}{fs fs':List (Str×V)}
theorem zCg (hok:HOk P w H h) (e:H a=some (.ins C dx fs)):∃ mA,zC2 h a dx C mA/\(∀ f,QG (fs.lookup f) (mA f))/\PySem.Within mA (fs.map (·.1))/\fs.length <= 1000/\H dx=some (.own a):=by
 obtain⟨d,z,ne,ob,mA,n,r,q⟩:=(show je P w H h a (.ins C dx fs) from hok a _ e)
 exact⟨mA,⟨ob,n,ne⟩,r,q,z,d⟩
end
structure Cls (K:PySem.W.Frag) (C:Addr):Prop where
 pg:PySem.W.plainGet K C Str.empty=true
 hd:PySem.W.hasDictIn K C=true
 po:PySem.W.plainOver K C=true
 sa:PySem.W.findIn K (.ref C) "__setattr__" = some (some (.builtin "object.__setattr__"))
theorem Cls.get {K:PySem.W.Frag}{C:Addr} (c:Cls K C) (f:Str):PySem.W.plainGet K C f=true:=c.pg
noncomputable def JN (K:PySem.W.Frag) (C:Addr) (f:Str):Prop:=PySem.W.findIn K (.ref C) f=some none
theorem JN.taker {K:PySem.W.Frag}{C:Addr}{f:Str} (n:JN K C f):PySem.W.takerIn K C f=some none:=by
 unfold PySem.W.takerIn
 rw[show PySem.W.findIn K (.ref C) f=some none from n]
 rfl
structure Con (K:PySem.W.Frag) (C:Addr) (f:Str) (v:V) (u:Value):Prop where
 at_:PySem.W.findIn K (.ref C) f=some (some u)
 rel:zh v u
 get:PySem.W.specialIn K u "__get__" = some none
 cp:PySem.W.copiedNames.contains f=false
structure zHk (K:PySem.W.Frag) (C:Addr) (m:Str) (f:Addr):Prop where
 at_:PySem.W.findIn K (.ref C) m=some (some (.ref f))
 fn:PySem.W.isFn K (.ref f)=true
 kp:PySem.W.keepIn K (.ref f)=true
section
variable {X:Cx}{pins:List (Addr×Obj)}{σ:St}{H:Hp}{s:Shared}{a C dx:Addr}{fs:List (Str×V)}{f:Str}{v:V}{A:Around}{E:Value->Shared->Prop}
theorem zDo {b:Bool}{Q:Value->Shared->Prop} (I:Inv X pins σ H s) (e:H a=some (.ins C dx fs)) (c:Cls X.K C) (n:JN X.K C f) (l:fs.lookup f=some v)
  (h:∀ u s',Inv X pins σ H s'->zh v u->Q u s'):wpAny (model X.prog X.w) A (getAttr (.ref a) f b) Q E s:=by
 obtain⟨mA,O,r,_,_,_⟩:=zCg I.hok e
 obtain⟨u,hu,ru⟩:=QG.some_of (v:=v) (o:=mA f) (by rw[<- l];exact r f)
 exact zLr I.kIn O (c.get f) c.hd n hu (zIT ru) (h u _ (I.tok _) ru)
theorem zEA {m:Str}{g:Addr}{pl:Sem Bool}{Q:Value×List Value->Shared->Prop} (I:Inv X pins σ H s) (e:H a=some (.ins C dx fs)) (c:Cls X.K C) (k:zHk X.K C m g) (l:fs.lookup m=none)
  (h:Q (.ref g,[.ref a]) s):wpAny (model X.prog X.w) A (getMethod (.ref a) m pl) Q E s:=by
 obtain⟨mA,O,r,_,_,_⟩:=zCg I.hok e
 have hn:mA m=none:=QG.none_of (by rw[<- l];exact r m)
 exact zJQ I.kIn O (c.get m) k.at_ k.fn hn h
theorem zDS {y:V}{u:Value}{Q:Unit->Shared->Prop} (I:Inv X pins σ H s) (e:H a=some (.ins C dx fs)) (c:Cls X.K C) (n:JN X.K C f) (hl:fs.length < 1000) (ry:zh y u)
  (h:∀ s',Inv X pins σ (upd H a (.ins C dx (q9 f y fs))) s'->Q () s'):wpAny (model X.prog X.w) A (setAttr (.ref a) f u) Q E s:=by
 obtain⟨mA,O,r,wi,_,ho⟩:=zCg I.hok e
 have hz:(fs.map (·.1)).length <= sizeLine:=by rw[List.length_map,sizeLine_eq];omega
 refine zLu I.kIn O c.sa c.po n.taker c.hd wi hz fun h' O' sb=>h _ ?_
 have hd:∃ o,h'.get? dx=some o:=let ⟨o,_,_,e',_⟩:=O'.ns;⟨o,e'⟩
 refine I.write (x:=a) (e:=dx) (by rw[e];exact True.intro) (.inr ho) (fun b q hb z=>(sb.2 b hb).trans z) hd ?_
 refine⟨by rw[zf O.ne];exact ho,?_,O.ne,O'.obj,_,O'.ns,fun g=>?_,fun g hg=>?_⟩
 ·have:=zCy f y fs;omega
 ·show QG ((q9 f y fs).lookup g) (if g=f then some u else mA g)
  rw[zAh]
  by_cases q:g=f
  ·rw[if_pos q,if_pos q];exact ry
  ·rw[if_neg q,if_neg q];exact r g
 ·by_cases q:g=f
  ·rw[q];exact (zCY f y fs).1
  ·refine (zCY f y fs).2 g (wi g fun z=>hg ?_)
   show (if g=f then some u else mA g)=none
   rw[if_neg q];exact z
theorem Inv.made (I:Inv X pins σ H s):Inv X pins σ (upd (upd H s.heap.objs.size (.own (s.heap.objs.size+1))) (s.heap.objs.size+1) (.ins C s.heap.objs.size []))
  { s with heap:=(s.heap.push PySem.W.emptyDict).push (PySem.W.instObj C s.heap.objs.size) }:=by
 have e1:(s.heap.push PySem.W.emptyDict).get? s.heap.objs.size=some PySem.W.emptyDict:=Heap.get?_push_size s.heap rfl
 have e2:((s.heap.push PySem.W.emptyDict).push (PySem.W.instObj C s.heap.objs.size)).get? (s.heap.objs.size+1)=some (PySem.W.instObj C s.heap.objs.size):=by
  have:=Heap.get?_push_size (s.heap.push PySem.W.emptyDict) (o:=PySem.W.instObj C s.heap.objs.size) rfl
  rwa [Heap.size_push] at this
 have e3:(s.heap.push PySem.W.emptyDict).Ns s.heap.objs.size (fun _=>none):=⟨PySem.W.emptyDict,#[],_,e1,rfl,(fun e he=>absurd he (by simp)),fun _=>rfl⟩
 have I1:=I.laid (a:=s.heap.objs.size) (o:=.own (s.heap.objs.size+1)) (h':=s.heap.push PySem.W.emptyDict) (t':=s.toks) (fun b u q=>Heap.get?_push_of_some _ q) (Nat.le_refl _) ⟨_,e1⟩
 refine I1.laid (a:=s.heap.objs.size+1) (o:=.ins C s.heap.objs.size []) (t':=s.toks) (fun b u q=>Heap.get?_push_of_some _ q) (Nat.le_of_eq (Heap.size_push _ _)) ?_
 have ne:s.heap.objs.size≠s.heap.objs.size+1:=Nat.ne_of_lt (Nat.lt_succ_self _)
 refine⟨by rw[zf ne,jU],Nat.zero_le _,ne,e2,fun _=>none,(Heap.Ns1.of_empty e3).at fun o q=>Heap.get?_push_of_some _ q,fun _=>True.intro,fun y hy=>absurd rfl hy⟩
theorem zLj {prog:Program}{w:World}{env:Env}{e:Expr}{f:Str}{pos:Pos}{s:Shared}{Q:Value->Shared->Prop} (hb:attributeBase e f env (eval e env)=eval e env)
  (h:wpAny (model prog w) A (eval e env) (fun o s₁=>wpAny (model prog w) A (getAttr o f true) Q E s₁) E s):wpAny (model prog w) A (eval (.Attribute e f pos) env) Q E s :=
 Attribute_any_ h (by rw[arm_eval_Attribute,hb])
end
noncomputable def zPT (K:PySem.W.Frag) (ta:TE) (f:Str):TE:=fun σ H Q=>ta σ H fun x H1=>∃ a C dx fs v,x=.ref a/\H1 a=some (.ins C dx fs)/\Cls K C/\JN K C f/\fs.lookup f=some v/\Q v H1
noncomputable def Qy (K:PySem.W.Frag) (ta tv:TE) (f:Str):TS:=fun D σ H=>tv σ H fun y H1=>ta σ H1 fun x H2=>∃ a C dx fs,x=.ref a/\H2 a=some (.ins C dx fs)/\Cls K C/\JN K C f/\fs.length < 1000 /\
 D.nx σ (upd H2 a (.ins C dx (q9 f y fs)))
noncomputable def zPC (X:Cx) (op:Operator) (rd:V->V->Hp->VK->Prop):Prop :=
 ∀ (pins:List (Addr×Obj)) (s:Shared) (σ:St) (H:Hp) (x y:V) (u v:Value) (Q:VK),Inv X pins σ H s->zh x u->zh y v->rd x y H Q->wpAny (model X.prog X.w) X.A (inplaceOp op u v) (EP X pins σ Q) X.xe s
noncomputable def Zk (K:PySem.W.Frag) (ta tv:TE) (rd:V->V->Hp->VK->Prop) (f:Str):TS:=fun D σ H=>ta σ H fun x H1=>∃ a C dx fs v,x=.ref a/\H1 a=some (.ins C dx fs)/\Cls K C/\JN K C f/\fs.lookup f=some v /\
 tv σ H1 fun y H2=>rd v y H2 fun z H3=>∃ dx' fs',H3 a=some (.ins C dx' fs')/\fs'.length < 1000/\D.nx σ (upd H3 a (.ins C dx' (q9 f z fs')))
section
variable {X:Cx}{o e value:Expr}{f:Str}{pos pos' tpos:Pos}{ta tv:TE}
theorem zMW (he:PE X e ta) (hb:attributeBase e f X.env (eval e X.env)=eval e X.env):PE X (.Attribute e f pos) (zPT X.K ta f):=by
 intro pins s σ H Q I h
 refine zLj hb (thn (he pins s σ H _ I h) fun u s1 ⟨x,H1,I1,rx,a,C,dx,fs,v,ex,ea,c,n,l,q⟩=>?_)
 subst ex
 obtain rfl:u=Value.ref a:=rx
 exact zDo I1 ea c n l fun u' s2 I2 ru=>⟨v,H1,I2,ru,q⟩
theorem zNf (ha:PE X o ta) (hv:PE X value tv) (hs:swapsWith value (some (.Attribute o f pos')) pos.line X.env=pure false):PS X (.Assign [.Attribute o f pos'] value pos) (Qy X.K ta tv f):=by
 intro pins s σ H D I h
 refine plainObj_wpAny_Assign_Attribute (thn (hv pins s σ H _ I h) fun u s1 ⟨y,H1,I1,ry,q⟩=>thn (ha pins s1 σ H1 _ I1 q) fun ov s2 ⟨x,H2,I2,rx,a,C,dx,fs,ex,ea,c,n,l,q2⟩=>?_) hs
 subst ex
 obtain rfl:ov=Value.ref a:=rx
 exact zDS I2 ea c n l ry fun s3 I3=>⟨σ,_,I3,q2⟩
theorem zI7 {op:Operator}{rd:V->V->Hp->VK->Prop} (ha:PE X o ta) (hv:PE X value tv) (hop:zPC X op rd):PS X (.AugAssign (.Attribute o f tpos) op value pos) (Zk X.K ta tv rd f):=by
 intro pins s σ H D I h
 refine wpAny_AugAssign_AttributeAny (thn (ha pins s σ H _ I h) fun ov s1 ⟨x,H1,I1,rx,a,C,dx,fs,v,ex,ea,c,n,l,q⟩=>?_)
 subst ex
 obtain rfl:ov=Value.ref a:=rx
 refine zDo I1 ea c n l fun u s2 I2 ru=>thn (hv pins s2 σ H1 _ I2 q) fun w3 s3 ⟨y,H2,I3,ry,q3⟩=>thn (hop pins s3 σ H2 v y u w3 _ I3 ru ry q3) fun w4 s4 ⟨z,H3,I4,rz,dx',fs',ea',l',q4⟩=>?_
 exact zDS I4 ea' c n l' rz fun s5 I5=>⟨σ,_,I5,q4⟩
end
section
variable {X:Cx}{pins:List (Addr×Obj)}{σ:St}{H:Hp}{s:Shared}{A:Around}{E:Value->Shared->Prop}{Q:Value->Shared->Prop}{c:Value}{b:Bool}
inductive Q2 (K:PySem.W.Frag) (H:Hp):V->Value->Prop where
 | non:Q2 K H .non (.type "NoneType")
 | bl (x:Bool):Q2 K H (.bl x) (.type "bool")
 | int (i:Int):Q2 K H (.int i) (.type "int")
 | str (x:Str):Q2 K H (.str x) (.type "str")
 | flt (x:UInt64):Q2 K H (.flt x) (.type "float")
 | lst {a:Addr}{xs:List V} (e:H a=some (.lst xs)):Q2 K H (.ref a) (.type "list")
 | frz {a:Addr}{o:Obj}{xs:List V} (e:H a=some (.frz o (.lst xs))):Q2 K H (.ref a) (.type "list")
 | tup {a:Addr}{xs:List V} (e:H a=some (.tup xs)):Q2 K H (.ref a) (.type "tuple")
 | dK {a:Addr}{kvs:List (Key×V)} (e:H a=some (.dK kvs)):Q2 K H (.ref a) (.type "dict")
 | dT {a:Addr}{kvs:List (List Key×V)} (e:H a=some (.dT kvs)):Q2 K H (.ref a) (.type "dict")
 | ins {a C dx:Addr}{fs:List (Str×V)} (e:H a=some (.ins C dx fs)) (cl:Cls K C) (ha:PySem.W.findIn K (.ref C) "__class__" = some (some (.builtin "object.__class__")))
   (hn:PySem.W.specialIn K (.builtin "object.__class__") "__get__" = some (some (.builtin "getset_descriptor.__get__"))) (htk:PySem.W.takesIn K (.builtin "object.__class__")=some true)
   (hm:PySem.W.mroIn K C (.type "object")=some true):Q2 K H (.ref a) (.ref C)
theorem zIC {x:V}{u t:Value} (I:Inv X pins σ H s) (rx:zh x u) (ty:Q2 X.K H x t) (e:PySem.W.kitOne X.K t c=some b) (h:∀ tk,Q (.bool b) { s with toks:=tk }) :
  wpAny (model X.prog X.w) A (call (.builtin "isinstance") [u,c]) Q E s:=by
 cases ty with
 | non=>cases (show u=Value.none from rx);exact PySem.W.kia_one PySem.W.kitx_none I.kIn True.intro e (fun z=>nomatch z) h
 | bl y=>cases (show u=Value.bool y from rx);exact PySem.W.kia_one PySem.W.kitx_bool I.kIn True.intro e (fun z=>nomatch z) h
 | int i=>obtain⟨t,q⟩:=(show ∃ t,u=Value.int i t from rx);cases q;exact PySem.W.kia_one PySem.W.kitx_int I.kIn True.intro e (fun z=>nomatch z) h
 | str y=>obtain⟨t,q⟩:=(show ∃ t,u=Value.str y t from rx);cases q;exact PySem.W.kia_one PySem.W.kitx_str I.kIn True.intro e (fun z=>nomatch z) h
 | flt y=>obtain⟨t,q⟩:=(show ∃ t,u=Value.float y t from rx);cases q;exact PySem.W.kia_one PySem.W.kitx_float I.kIn True.intro e (fun z=>nomatch z) h
 | @lst a xs ea =>
  cases (show u=Value.ref a from rx)
  obtain⟨_,_,n,_,h1⟩:=(show je X.prog X.w H s.heap a (.lst xs) from I.hok a _ ea)
  exact PySem.W.kia_one PySem.W.kitx_list I.kIn ⟨_,h1,rfl⟩ e (fun z=>nomatch z) h
 | @frz a ob xs ea =>
  cases (show u=Value.ref a from rx)
  obtain⟨_,_,_,n,_,h1⟩:=(show je X.prog X.w H s.heap a (.frz ob (.lst xs)) from I.hok a _ ea)
  exact PySem.W.kia_one PySem.W.kitx_list I.kIn ⟨_,h1,rfl⟩ e (fun z=>nomatch z) h
 | @tup a xs ea =>
  cases (show u=Value.ref a from rx)
  obtain⟨_,_,_,p⟩:=(show je X.prog X.w H s.heap a (.tup xs) from I.hok a _ ea)
  obtain⟨o,h1,h2,_⟩:=p
  exact PySem.W.kia_one PySem.W.kitx_tuple I.kIn ⟨o,h1,h2⟩ e (fun z=>nomatch z) h
 | @dK a kvs ea =>
  cases (show u=Value.ref a from rx)
  obtain⟨_,_,vs,_,p⟩:=(show je X.prog X.w H s.heap a (.dK kvs) from I.hok a _ ea)
  obtain⟨o,es,ep,h1,h2,_⟩:=p
  exact PySem.W.kia_one PySem.W.kitx_dict I.kIn ⟨o,h1,h2.1⟩ e (fun z=>nomatch z) h
 | @dT a kvs ea =>
  cases (show u=Value.ref a from rx)
  obtain⟨_,_,xs,_,o,es,ep,h1,h2,_⟩:=(show je X.prog X.w H s.heap a (.dT kvs) from I.hok a _ ea)
  exact PySem.W.kia_one PySem.W.kitx_dict I.kIn ⟨o,h1,h2.1⟩ e (fun z=>nomatch z) h
 | @ins a C dx fs ea cl ha hn htk hm =>
  cases (show u=Value.ref a from rx)
  obtain⟨mA,O,_⟩:=zCg I.hok ea
  obtain⟨od,J,_⟩:=O.look
  exact PySem.W.kia_one (PySem.W.kitx_own (cl.get _) cl.hd ha hn htk hm) I.kIn J e (fun z=>nomatch z) h
end
end L2
namespace L2
open PySem PySem.Spec PyProof.Rows
structure zy (k:Nat) (A:Around):Prop where
 hd:A.handled=none
 dp:A.depth+3 * k+5 < recursionLimit
 un:A.units+16 * k+200 < cLine
theorem zy.mono {j k:Nat}{A:Around} (r:zy k A) (h:j <= k):zy j A:=⟨r.hd,by have:=r.dp;omega,by have:=r.un;omega⟩
theorem zy.deeper {k:Nat}{A:Around} (r:zy (k+1) A) (env:Env):zy k (A.deeper env) :=
 ⟨r.hd,by have:=r.dp;show A.depth+1+3 * k+5 < _;omega,by have:=r.un;show A.units+3+16 * k+200 < _;omega⟩
theorem zHj {A:Around}{C:Addr}{us:List Value}{kw:List (Str×Value)}:(A.under (.builtin "type.__call__" ⟨.ref C::us,kw⟩)).depth=A.depth+1:=by
 first | rfl | simp[Around.under,Code.weight,Code.isCreation,Code.isGuard,Code.isCaller,Code.frames,Code.isFrame,guardIds]
theorem zHZ {A:Around}{C:Addr}{us:List Value}{kw:List (Str×Value)}:(A.under (.builtin "type.__call__" ⟨.ref C::us,kw⟩)).units=A.units+1:=by
 first | rfl | simp[Around.under,Code.cUnits,Code.frames,Code.isFrame]
theorem zy.make {k:Nat}{A:Around} (r:zy (k+1) A) (C:Addr) (us:List Value) (kw:List (Str×Value)):zy k (A.under (.builtin "type.__call__" ⟨.ref C::us,kw⟩)) :=
 ⟨r.hd,by have:=r.dp;rw[zHj];omega,by have:=r.un;rw[zHZ];omega⟩
theorem zy.depth {k:Nat}{A:Around} (r:zy k A):A.depth < recursionLimit:=by have:=r.dp;omega
theorem zy.units {k:Nat}{A:Around} (r:zy k A):A.units+64 < cLine:=by have:=r.un;omega
theorem zy.units0 {k:Nat}{A:Around} (r:zy k A):A.units < cLine:=by have:=r.un;omega
noncomputable def zNr:TA:=fun _ H Q=>Q [] H
noncomputable def zHy (ta:TE) (tr:TA):TA:=fun σ H Q=>ta σ H fun x H1=>tr σ H1 fun xs H2=>Q (x::xs) H2
section
variable {X:Cx}{e:Expr}{es:List Expr}{te:TE}{t:TA}{pos:Pos}
theorem zFs:PA X [] zNr:=fun _ _ _ _ H Q I h=>Calls.spliced_nil ⟨[],H,I,.nil,h⟩
theorem zEe (ha:PE X e te) (hr:PA X es t) (hs:starEach (e::es) X.env=(false,eval e X.env)::starEach es X.env:=by rfl):PA X (e::es) (zHy te t):=by
 intro pos pins s σ H Q I h
 rw[hs]
 show wpAny _ _ (spliced ((false,eval e X.env)::backTo pos (starEach es X.env))) _ _ s
 refine Calls.spliced_cons (thn (ha pins s σ H _ I h) fun u s1 ⟨x,H1,I1,r1,q1⟩=>?_)
 exact thn (hr pos pins s1 σ H1 _ I1 q1) fun us s2 ⟨xs,H2,I2,r2,q2⟩=>⟨x::xs,H2,I2,.cons r1 r2,q2⟩
noncomputable def zPD (t:TA):TE:=fun σ H Q=>t σ H fun xs H1=>xs.length <= sizeLine/\∀ p,H1 p=none->Q (.ref p) (upd H1 p (.tup xs))
noncomputable def zPJ (t:TA):TE:=fun σ H Q=>t σ H fun xs H1=>xs.length <= sizeLine/\∀ p,H1 p=none->Q (.ref p) (upd H1 p (.lst xs))
theorem zM4 {x1} (h:PA X es t):PE X (.Tuple es x1 pos) (zPD t):=by
 intro pins s σ H Q I hq
 refine wpAny_Tuple_spliced (thn (h pos pins s σ H _ I hq) fun us s1 ⟨xs,H1,I1,r,z,q⟩=>⟨by rw[<- r.length];exact z,?_⟩)
 have hf:H1 s1.heap.objs.size=none:=I1.hok.fresh (Nat.le_refl _)
 refine⟨.ref s1.heap.objs.size,upd H1 s1.heap.objs.size (.tup xs),I1.laid (t':=s1.toks) (fun b u e=>Heap.get?_push_of_some _ e) (Nat.le_refl _) ?_,rfl,q _ hf⟩
 exact⟨z,us,r,⟨_,Heap.get?_push_size _ rfl,rfl,_,rfl⟩⟩
theorem zNn (h:PA X es t):PE X (.List es pos) (zPJ t):=by
 intro pins s σ H Q I hq
 refine wpAny_List_spliced (thn (h pos pins s σ H _ I hq) fun us s1 ⟨xs,H1,I1,r,z,q⟩=>⟨by rw[<- r.length];exact z,?_⟩)
 have hf:H1 s1.heap.objs.size=none:=I1.hok.fresh (Nat.le_refl _)
 refine⟨.ref s1.heap.objs.size,upd H1 s1.heap.objs.size (.lst xs),I1.laid (t':=s1.toks) (fun b u e=>Heap.get?_push_of_some _ e) (Nat.le_refl _) ?_,rfl,q _ hf⟩
 exact⟨z,us,0,r,Heap.get?_push_size _ rfl⟩
end
noncomputable abbrev Sp:=List V->Hp->VK->XK->Prop
noncomputable abbrev CXT:=List Env->Hp->Shared->XK->Value->Shared->Prop
structure zC1 (P:Program) (w:World) (K:PySem.W.Frag) (mg:Str->Option Value) (base:Heap) (A:Around) (outer:List Env) (s:Shared) (H:Hp):Prop where
 frames:A.frames=some outer
 mod:Mod K mg base
 bs:∀ b o,base.get? b=some o->s.heap.get? b=some o/\H b=none
 bsz:base.objs.size <= s.heap.objs.size
 funs:s.heap.FunFrames base outer
 frf:∀ b∈frs outer,H b=none
 hok:HOk P w H s.heap
 bare:AllBare s.gens
noncomputable def CE (outer:List Env) (P:Program) (w:World) (H:Hp) (s:Shared) (Q:VK) (u:Value) (s':Shared):Prop :=
 ∃ v H',s'.os=s.os/\AllBare s'.gens/\Un (frs outer) [] H H' s.heap s'.heap/\HOk P w H' s'.heap/\zh v u/\Q v H'
noncomputable def CR (CX:CXT) (outer:List Env) (P:Program) (w:World) (H:Hp) (s:Shared) (Q:VK) (E:XK) (r:Result) (s':Shared):Prop :=
 match r with
 | .ok (.ret u)=>CE outer P w H s Q u s'
 | .ok _=>False
 | .error e=>CX outer H s E e s'
structure jW (P:Program) (w:World) (K:PySem.W.Frag) (mg:Str->Option Value) (base:Heap) (CX:CXT) (k:Nat) (f:Addr) (fd:FuncData) (ps:List Str) (sp:Sp):Prop where
 len:∀ vs H Q E,sp vs H Q E->vs.length=ps.length
 run:∀ (A:Around) (outer:List Env) (s:Shared) (H:Hp) (args:Args) (us:List Value) (vs:List V) (Q:VK) (E:XK),zy k A->zC1 P w K mg base A outer s H->(0 < s.toks\/∃ p∈ps,fd.scope.names.lookup p=some .local)->BindsTo s fd args (ps.zip us)->zd vs us->sp vs H Q E ->
  codeAny (model P w) A (.call (.ref f) args) (CR CX outer P w H s Q E) s
theorem jW.imp {P:Program}{w:World}{K:PySem.W.Frag}{mg:Str->Option Value}{base:Heap}{CX:CXT}{k:Nat}{f:Addr}{fd:FuncData}{ps:List Str}{sp sp':Sp} (F:jW P w K mg base CX k f fd ps sp)
  (h:∀ vs H Q E,sp' vs H Q E->sp vs H Q E):jW P w K mg base CX k f fd ps sp' :=
 ⟨fun vs H Q E q=>F.len vs H Q E (h _ _ _ _ q),fun A outer s H args us vs Q E hr he ht hb hv hs=>F.run A outer s H args us vs Q E hr he ht hb hv (h _ _ _ _ hs)⟩
theorem zC1.make {P:Program}{w:World}{K:PySem.W.Frag}{mg:Str->Option Value}{base:Heap}{A:Around}{outer:List Env}{s:Shared}{H:Hp} (e:zC1 P w K mg base A outer s H) (C:Addr) (us:List Value) (kw:List (Str×Value)) :
  zC1 P w K mg base (A.under (.builtin "type.__call__" ⟨.ref C::us,kw⟩)) outer s H:=⟨by first | exact e.frames | (simpa [Around.under,Code.envs,Code.isFrame,pushEnvs] using e.frames),e.mod,e.bs,e.bsz,e.funs,e.frf,e.hok,e.bare⟩
section
variable {X:Cx}{pins:List (Addr×Obj)}{σ:St}{H:Hp}{s s':Shared}
theorem Inv.env0 (I:Inv X pins σ H s):zC1 X.prog X.w X.K X.mg X.base X.A X.stack s H :=
 ⟨I.ok.frames,I.ok.mod,I.bs,Nat.le_trans I.ok.bsz I.sz,I.stack,I.stkFree,I.hok,I.bare⟩
theorem Inv.after {Q:VK}{u:Value} (I:Inv X pins σ H s) (h:CE X.stack X.prog X.w H s Q u s') (ht:0 < s'.toks):EP X pins σ Q u s':=by
 obtain⟨v,H',os,bare,un,hok,r,q⟩:=h
 obtain⟨hh,g,d,t,os'⟩:=s'
 obtain rfl:os'=s.os:=os
 exact⟨v,H',I.call (h':=hh) (g':=g) (d':=d) (t':=t) (ch:=[]) un hok bare (fun b z=>absurd z (by simp)) ht,r,q⟩
end
noncomputable def zHz (sp:Sp) (dvs:List V) (E:XK) (t:TA):TE:=fun σ H Q=>t σ H fun vs H1=>sp (vs++dvs) H1 Q E
noncomputable def zK0 (C:Addr) (m:Str) (sp:Sp) (dvs:List V) (E:XK) (ta:TE) (t:TA):TE:=fun σ H Q=>ta σ H fun x H1=>∃ a dx fs,x=.ref a/\H1 a=some (.ins C dx fs)/\fs.lookup m=none /\
 t σ H1 fun vs H2=>sp (x::(vs++dvs)) H2 Q E
noncomputable def zON (C:Addr) (sp:Sp) (dvs:List V) (E:XK) (t:TA):TE:=fun σ H Q=>t σ H fun vs H1=>∀ x dx,H1 x=none->H1 dx=none->dx≠x ->
 sp (.ref x::(vs++dvs)) (upd (upd H1 dx (.own x)) x (.ins C dx [])) (fun v H2=>v=.non/\Q (.ref x) H2) E
noncomputable def QQ (K:PySem.W.Frag) (fd:FuncData) (ps:List Str) (ds:List Value):Prop :=
 ∀ (s:Shared) (us:List Value),K.In s.heap->(us++ds).length=ps.length->BindsTo s fd ⟨us,[]⟩ (ps.zip (us++ds))
theorem QQ.all {K:PySem.W.Frag}{fd:FuncData}{ps:List Str} (h:∀ us:List Value,us.length=ps.length->bindArgs fd ⟨us,[]⟩=pure (ps.zip us)):QQ K fd ps []:=fun s us _ hl=>by
 rw[List.append_nil] at hl ⊢
 exact .of_eq (h us hl)
noncomputable def qa (CX:CXT) (X:Cx) (E:XK):Prop:=∀ (pins:List (Addr×Obj)) (σ:St) (H:Hp) (s:Shared) (e:Value) (s':Shared),Inv X pins σ H s->CX X.stack H s E e s'->X.xe e s'
section
variable {X:Cx}{CX:CXT}{k:Nat}{f C:Addr}{fd:FuncData}{ps:List Str}{sp:Sp}{dvs:List V}{ds:List Value}{E:XK}{x m:Str}{p pos apos:Pos}{e o:Expr}{es:List Expr}{ta:TE}{t:TA}
theorem zDY {pins:List (Addr×Obj)}{σ:St}{H:Hp}{s:Shared}{Q:VK}{us:List Value}{vs:List V} (F:jW X.prog X.w X.K X.mg X.base CX k f fd ps sp) (hr:zy k X.A) (hb:QQ X.K fd ps ds) (hd:zd dvs ds) (hx:qa CX X E)
  (I:Inv X pins σ H s) (r:zd vs us) (h:sp (vs++dvs) H Q E):wpAny (model X.prog X.w) X.A (call (.ref f) us) (EP X pins σ Q) X.xe s:=by
 have r2:zd (vs++dvs) (us++ds):=r.append hd
 have hl:(us++ds).length=ps.length:=by rw[<- r2.length];exact F.len _ _ _ _ h
 refine wpAny_call (codeAny_mono (codeAny_toks_of (n:=1) I.tk (F.run X.A X.stack s H ⟨us,[]⟩ (us++ds) (vs++dvs) Q E hr I.env0 (.inl I.tk) (hb s us I.kIn hl) r2 h)) fun r s' ⟨htk,hq⟩=>?_)
 cases r with
 | error e=>exact hx pins σ H s e s' I hq
 | ok fl =>
  cases fl with
  | ret u=>exact I.after hq htk
  | next=>exact False.elim hq
  | brk=>exact False.elim hq
  | cont=>exact False.elim hq
theorem zMI (F:jW X.prog X.w X.K X.mg X.base CX k f fd ps sp) (hr:zy k X.A) (hg:Gl X x) (hm:X.mg x=some (.ref f)) (hk:PySem.W.keepIn X.K (.ref f)=true) (hb:QQ X.K fd ps ds) (hd:zd dvs ds) (hx:qa CX X E)
  (ha:PA X (e::es) t) (hdb:(x == ("__debug__" : Str))=false:=by decide) (he:starEach (e::es) X.env=(false,eval e X.env)::starEach es X.env:=by rfl) (hpl:(backTo pos (starEach es X.env)).any (·.1)=false:=by rfl) :
  PE X (.Call (.Name x p) (e::es) [] pos) (zHz sp dvs E t):=by
 intro pins s σ H Q I h
 refine wpAny_Call_Name_kw (zEi I hg hm ?_ hdb)
 refine PySem.W.callWith_K (h₀:=X.base) I.ok.mod.kin hk (thn (ha pos pins s σ H _ I h) fun us s1 ⟨vs,H1,I1,r,q⟩=>⟨I1.kIn,?_⟩) he hpl
 exact zDY F hr hb hd hx I1 r q
theorem zLA {pl:Sem Bool} (he:PE X o ta) (c:Cls X.K C) (hm:zHk X.K C m f) (F:jW X.prog X.w X.K X.mg X.base CX k f fd ps sp) (hr:zy k X.A) (hb:QQ X.K fd ps ds) (hd:zd dvs ds) (hx:qa CX X E) (ha:PA X (e::es) t)
  (hst:starEach (e::es) X.env=(false,eval e X.env)::starEach es X.env:=by rfl) (hpl:(backTo pos (starEach es X.env)).any (·.1)=false:=by rfl)
  (ht:eval (.Call (.Attribute o m apos) (e::es) [] pos) X.env=(do
   let ov <- eval o X.env
   standAt apos.atName
   let (f,first) <- holding [ov] (getMethod ov m pl)
   callWith pos f first (backTo pos (starEach (e::es) X.env)) (backToKw pos (keywordEach [] X.env))):=by rfl) :
  PE X (.Call (.Attribute o m apos) (e::es) [] pos) (zK0 C m sp dvs E ta t):=by
 intro pins s σ H Q I h
 refine PySem.W.methodCall_KW (pl:=pl) (thn (he pins s σ H _ I h) fun u s1 ⟨x,H1,I1,rx,a,dx,fs,ex,ea,l,q⟩=>?_) ht
 subst ex
 obtain rfl:u=Value.ref a:=rx
 refine zEA I1 ea c hm l ?_
 refine PySem.W.callWith_K (first:=[.ref a]) (h₀:=X.base) I.ok.mod.kin hm.kp (thn (ha pos pins s1 σ H1 _ I1 q) fun us s2 ⟨vs,H2,I2,r,q2⟩=>⟨I2.kIn,?_⟩) hst hpl
 exact zDY (us:=.ref a::us) (vs:=.ref a::vs) F hr hb hd hx I2 (.cons rfl r) q2
theorem zKb {pl:Sem Bool} (he:PE X o ta) (c:Cls X.K C) (hm:zHk X.K C m f) (F:jW X.prog X.w X.K X.mg X.base CX k f fd ps sp) (hr:zy k X.A) (hb:QQ X.K fd ps ds) (hd:zd dvs ds) (hx:qa CX X E)
  (ht:eval (.Call (.Attribute o m apos) [] [] pos) X.env=(do
   let ov <- eval o X.env
   standAt apos.atName
   let (f,first) <- holding [ov] (getMethod ov m pl)
   callWith pos f first (backTo pos (starEach [] X.env)) (backToKw pos (keywordEach [] X.env))):=by rfl) :
  PE X (.Call (.Attribute o m apos) [] [] pos) (zK0 C m sp dvs E ta zNr):=by
 intro pins s σ H Q I h
 refine PySem.W.methodCall_KW (pl:=pl) (thn (he pins s σ H _ I h) fun u s1 ⟨x,H1,I1,rx,a,dx,fs,ex,ea,l,q⟩=>?_) ht
 subst ex
 obtain rfl:u=Value.ref a:=rx
 refine zEA I1 ea c hm l ?_
 exact PySem.W.callWith_K0 (first:=[.ref a]) I1.kIn hm.kp (zDY (us:=[.ref a]) (vs:=[.ref a]) F hr hb hd hx I1 (.cons rfl .nil) q)
structure Mk (K:PySem.W.Frag) (C f:Addr):Prop where
 makes:PySem.W.makesIn K C=true
 init:PySem.W.findIn K (.ref C) "__init__" = some (some (.ref f))
 fn:PySem.W.isFn K (.ref f)=true
 kp:PySem.W.keepIn K (.ref C)=true
theorem zKE {pins:List (Addr×Obj)}{σ:St}{H:Hp}{s:Shared}{Q:VK}{us:List Value}{vs:List V} (M:Mk X.K C f) (F:jW X.prog X.w X.K X.mg X.base CX k f fd ps sp) (hr:zy (k+1) X.A) (hb:QQ X.K fd ps ds) (hd:zd dvs ds)
  (hx:qa CX X E) (I:Inv X pins σ H s) (r:zd vs us)
  (h:∀ x dx,H x=none->H dx=none->dx≠x->sp (.ref x::(vs++dvs)) (upd (upd H dx (.own x)) x (.ins C dx [])) (fun v H2=>v=.non/\Q (.ref x) H2) E) :
  wpAny (model X.prog X.w) X.A (call (.ref C) us) (EP X pins σ Q) X.xe s:=by
 have hq:=h (s.heap.objs.size+1) s.heap.objs.size (I.hok.fresh (Nat.le_succ _)) (I.hok.fresh (Nat.le_refl _)) (Nat.ne_of_lt (Nat.lt_succ_self _))
 have I2:=Inv.made (C:=C) I
 have r2:zd (V.ref (s.heap.objs.size+1)::(vs++dvs)) (Value.ref (s.heap.objs.size+1)::(us++ds)):=.cons rfl (r.append hd)
 have hl:(Value.ref (s.heap.objs.size+1)::us++ds).length=ps.length:=by
  have e:=r2.length
  rw[F.len _ _ _ _ hq] at e
  exact e.symm
 refine wpAny_call (zJR (f:=f) I.kIn M.makes M.init (beq_iff_eq.mp M.fn) (codeAny_mono (codeAny_toks_of (n:=1) I2.tk (F.run _ X.stack _ _ ⟨Value.ref (s.heap.objs.size+1)::us,[]⟩ (Value.ref (s.heap.objs.size+1)::(us++ds)) _ _ E (hr.make C us [])
  (I2.env0.make C us []) (.inl I2.tk) (hb _ (Value.ref (s.heap.objs.size+1)::us) I2.kIn hl) r2 hq)) fun r s' ⟨htk,hq'⟩=>?_))
 cases r with
 | error e=>exact hx pins σ _ _ e s' I2 hq'
 | ok fl =>
  cases fl with
  | ret u =>
   obtain⟨v,H',I3,rv,ev,q3⟩:=I2.after hq' htk
   subst ev
   exact⟨rv,⟨V.ref (s.heap.objs.size+1),H',I3,rfl,q3⟩⟩
  | next=>exact False.elim hq'
  | brk=>exact False.elim hq'
  | cont=>exact False.elim hq'
theorem zME (M:Mk X.K C f) (F:jW X.prog X.w X.K X.mg X.base CX k f fd ps sp) (hr:zy (k+1) X.A) (hg:Gl X x) (hm:X.mg x=some (.ref C)) (hb:QQ X.K fd ps ds) (hd:zd dvs ds) (hx:qa CX X E)
  (ha:PA X (e::es) t) (hdb:(x == ("__debug__" : Str))=false:=by decide) (he:starEach (e::es) X.env=(false,eval e X.env)::starEach es X.env:=by rfl) (hpl:(backTo pos (starEach es X.env)).any (·.1)=false:=by rfl) :
  PE X (.Call (.Name x p) (e::es) [] pos) (zON C sp dvs E t):=by
 intro pins s σ H Q I h
 refine wpAny_Call_Name_kw (zEi I hg hm ?_ hdb)
 refine PySem.W.callWith_K (h₀:=X.base) I.ok.mod.kin M.kp (thn (ha pos pins s σ H _ I h) fun us s1 ⟨vs,H1,I1,r,q⟩=>⟨I1.kIn,?_⟩) he hpl
 exact zKE M F hr hb hd hx I1 r q
end
section
variable {X:Cx}{CX:CXT}{k:Nat}{f C:Addr}{fd:FuncData}{ps ks:List Str}{sp:Sp}{E:XK}{x m:Str}{p pos apos kpos:Pos}{e o:Expr}{es:List Expr}{kws:List Keyword}{te ta:TE}{t tk:TA}{nm:Option Str}
structure zPZ (K:PySem.W.Frag) (fd:FuncData) (ps ks:List Str) (g:List Value->List Value->List Value) (gV:List V->List V->List V):Prop where
 to:∀ (s:Shared) (us ws:List Value),K.In s.heap->(g us ws).length=ps.length->BindsTo s fd ⟨us,ks.zip ws⟩ (ps.zip (g us ws))
 rel:∀ {vs:List V}{us:List Value}{zs:List V}{ws:List Value},zd vs us->zd zs ws->zd (gV vs zs) (g us ws)
variable {g:List Value->List Value->List Value}{gV:List V->List V->List V}
end
structure jC (N P:List Str) (sc:Scope):Prop where
 kind:sc.kind=.function
 co:sc.isCoroutine=false
 gen:sc.isGenerator=false
 nd:N.Nodup
 pre:N.take P.length=P
 par:∀ x∈P,sc.names.lookup x=some .local\/sc.names.lookup x=some .cell
 nofree:∀ y∈sc.names,y.2≠.free
theorem zE8 {kindOf:Str->Option NameKind}{x:Str}:∀ {binds:List (Str×Value)}{m:Str->Option Value},(∀ v,(x,v)∉binds)->bindL kindOf binds m x=m x
 | [],_,_=>rfl
 | (n,v)::r,m,h=>by
  unfold bindL
  rw[zE8 fun w hw=>h w (List.mem_cons_of_mem _ hw)]
  split
  ·have:x≠n:=by rintro rfl;exact h v List.mem_cons_self
   simp[this]
  ·rfl
theorem zEs {kindOf:Str->Option NameKind}{x:Str}:∀ {binds:List (Str×Value)}{m:Str->Option Value},(∀ v,(x,v)∉binds)->bindC kindOf binds m x=m x
 | [],_,_=>rfl
 | (n,v)::r,m,h=>by
  unfold bindC
  rw[zEs fun w hw=>h w (List.mem_cons_of_mem _ hw)]
  split
  ·rfl
  ·have:x≠n:=by rintro rfl;exact h v List.mem_cons_self
   simp[this]
theorem zE1 {kindOf:Str->Option NameKind}{x:Str}{v:Value}:∀ {P:List Str}{vs:List Value}{i:Nat}{m:Str->Option Value},P.Nodup->P[i]? = some x->vs[i]? = some v->kindOf x=some .local ->
  bindL kindOf (P.zip vs) m x=some v
 | [],_,_,_,_,h,_,_=>by simp at h
 | _::_,[],_,_,_,_,h,_=>by simp at h
 | p::P,w::vs,0,m,nd,h1,h2,hk=>by
  simp at h1 h2;subst h1;subst h2
  show bindL kindOf ((p,w)::P.zip vs) m p=_
  unfold bindL
  rw[zE8 fun v hv=>(List.nodup_cons.mp nd).1 (List.of_mem_zip hv).1,if_pos hk]
  simp
 | p::P,w::vs,i+1,m,nd,h1,h2,hk=>by
  show bindL kindOf ((p,w)::P.zip vs) m x=_
  unfold bindL
  exact zE1 (i:=i) (List.nodup_cons.mp nd).2 (by simpa using h1) (by simpa using h2) hk
theorem zFE {kindOf:Str->Option NameKind}{x:Str}{v:Value}:∀ {P:List Str}{vs:List Value}{i:Nat}{m:Str->Option Value},P.Nodup->P[i]? = some x->vs[i]? = some v->kindOf x≠some .local ->
  bindC kindOf (P.zip vs) m x=some v
 | [],_,_,_,_,h,_,_=>by simp at h
 | _::_,[],_,_,_,_,h,_=>by simp at h
 | p::P,w::vs,0,m,nd,h1,h2,hk=>by
  simp at h1 h2;subst h1;subst h2
  show bindC kindOf ((p,w)::P.zip vs) m p=_
  unfold bindC
  rw[zEs fun v hv=>(List.nodup_cons.mp nd).1 (List.of_mem_zip hv).1,if_neg hk]
  simp
 | p::P,w::vs,i+1,m,nd,h1,h2,hk=>by
  show bindC kindOf ((p,w)::P.zip vs) m x=_
  unfold bindC
  exact zFE (i:=i) (List.nodup_cons.mp nd).2 (by simpa using h1) (by simpa using h2) hk
noncomputable def Zr (N:List Str) (vs:List V):St:=vs.map some++List.replicate (N.length - vs.length) none
noncomputable def Qa (CX:CXT) (P:Program) (w:World) (K:PySem.W.Frag) (mg:Str->Option Value) (base:Heap) (N:List Str) (qual:Str) (scope:Scope) (f:Addr) (cd:Value) (A:Around) (outer:List Env) (s:Shared) (H:Hp) (E:XK):Cx where
 prog:=P
 w:=w
 K:=K
 mg:=mg
 base:=base
 A:=A.deeper (envOfC qual scope s.heap.objs.size f cd)
 N:=N
 s₀:=s
 H₀:=H
 env:=envOfC qual scope s.heap.objs.size f cd
 outer:=outer
 stack:=envOfC qual scope s.heap.objs.size f cd::outer
 ex:=[]
 calm:=true
 fn:=fun _=>true
 pn:=[]
 xe:=fun e s'=>wpAny (model P w) (A.deeper (envOfC qual scope s.heap.objs.size f cd)) (leaving (envOfC qual scope s.heap.objs.size f cd) e) (fun _ s''=>CX outer H s E e s'') (fun e' s''=>CX outer H s E e' s'') s'
theorem zGP {sc:Scope}{n:Nat}{x:Str} (h:sc.names.lookup x=some .cell):∃ c,(cellsFrom n sc.names []).lookup x=some c:=by
 have q:=PySem.W.cellsFrom_some sc.names n [] (.inl h)
 exact Option.isSome_iff_exists.mp q
theorem zAe {M:Model}{A:Around}{E:Value->Shared->Prop}{s₀:Shared}{env:Env} (f:Str×Value->PUnit->Sem (ForInStep PUnit)) (hf:∀ n v u,f (n,v) u=(do storeName env n v;pure (.yield ⟨⟩))) (hk:env.scope.kind=.function) :
  ∀ (binds:List (Str×Value)) (m cm:Str->Option Value) (s:Shared) (Q:PUnit->Shared->Prop),InCallC s₀ env.locals m env.cells cm s ->
   (∀ x∈binds,env.kindOf x.1=some .local\/(env.kindOf x.1=some .cell/\(env.cells.lookup x.1).isSome=true)) ->
   (∀ s',InCallC s₀ env.locals (bindL env.kindOf binds m) env.cells (bindC env.kindOf binds cm) s'->((0 < s.toks\/∃ b∈binds,env.kindOf b.1=some .local)->0 < s'.toks)->Q ⟨⟩ s')->wpAny M A (forIn binds ⟨⟩ f) Q E s
 | [],m,cm,s,Q,x,_,h=>by
  rw[List.forIn_nil]
  exact wpAny_pure (h s x fun z=>z.elim id fun ⟨b,hb,_⟩=>absurd hb (by simp))
 | (n,v)::r,m,cm,s,Q,x,hkind,h=>by
  rw[List.forIn_cons,hf]
  have hr:∀ y∈r,env.kindOf y.1=some .local\/(env.kindOf y.1=some .cell/\(env.cells.lookup y.1).isSome=true):=fun y hy=>hkind y (List.mem_cons_of_mem _ hy)
  rcases hkind (n,v) List.mem_cons_self with hl | ⟨hl,hc⟩
  ·refine wpAny_bind (wpAny_bind (wpAny_storeName_local hl x.toInCall.ns (fun h' hn' hs'=>wpAny_pure (zAe f hf hk r (fun y=>if y=n then some v else m y) cm _ Q ⟨⟨?_,hn',fun b o e=>?_,x.toInCall.fresh⟩,fun k c hc=>?_,x.apart,x.above⟩ hr fun s'' x'' ht=>h s'' ?_ fun _=>ht (.inl (Nat.succ_pos _)))) (by rw[hk];rfl)))
   ·obtain⟨h₁,tk,rfl⟩:=x.toInCall.same
    exact⟨h',_,rfl⟩
   ·exact hs'.extBut b o (Nat.ne_of_lt (Nat.lt_of_lt_of_le (Heap.lt_size e) x.toInCall.fresh)) (x.toInCall.keep b o e)
   ·exact (x.cell k c hc).sameBut hs' (Nat.ne_of_gt (x.above k c (PySem.mem_of_lookup hc)))
   ·unfold bindL bindC;rw[if_pos hl,if_pos hl];exact x''
  ·obtain⟨c,hc⟩:=Option.isSome_iff_exists.mp hc
   have hnl:¬ env.kindOf n=some .local:=by rw[hl];decide
   refine wpAny_bind (wpAny_bind (wpAny_with_toks (n:=s.toks) (Nat.le_refl _) (stCC x hk hl hc fun s' x' hle=>wpAny_pure (zAe f hf hk r m _ s' Q x' hr fun s'' x'' ht=>h s'' ?_ fun z=>ht ?_))))
   ·unfold bindL bindC;rw[if_neg hnl,if_neg hnl];exact x''
   ·rcases z with z | ⟨b,hb,hbl⟩
    ·exact .inl (Nat.lt_of_lt_of_le z hle)
    ·rcases List.mem_cons.mp hb with rfl | hb
     ·exact absurd hbl hnl
     ·exact .inr ⟨b,hb,hbl⟩
theorem zGx {M:Model}{A:Around}{E:Value->Shared->Prop}{s:Shared}{scope:Scope}{globals:Addr}{binds:List (Str×Value)}{qual:Str}{func:Option Addr}{code:Value}{builtins:Addr}{Q:Env->Shared->Prop}
  (hk:scope.kind=.function)
  (hkind:∀ x∈binds,scope.names.lookup x.1=some .local\/(scope.names.lookup x.1=some .cell/\((cellsFrom (s.heap.objs.size+1) scope.names []).lookup x.1).isSome=true))
  (hQ:∀ env,env=newEnv scope s.heap.objs.size globals (cellsFrom (s.heap.objs.size+1) scope.names []) qual func code none builtins ->
   ∀ s',InCallC s env.locals (bindL env.kindOf binds fun _=>none) env.cells (bindC env.kindOf binds fun _=>none) s'->((0 < s.toks\/∃ b∈binds,scope.names.lookup b.1=some .local)->0 < s'.toks)->Q env s') :
  wpAny M A (newFunctionEnv scope globals [] binds qual func code none builtins) Q E s:=by
 simp only[newFunctionEnv,Option.isSome_none,Bool.false_eq_true,if_false]
 refine wpAny_bind (wpAny_alloc ?_)
 refine wpAny_bind (wpAny_layCells _ (fun name kind cells=>by cases hkc:kind == NameKind.cell<;>simp[hkc]) _ _ _ _ ?_)
 have ok:=cellsFrom_ok scope.names (s.heap.push { cls:=.type "frame",data:=.dict #[] }) (s.heap.objs.size+1) [] ⟨fun _ _ hm=>(nomatch hm),List.Pairwise.nil⟩ (by rw[Heap.size_push];exact Nat.le_refl _)
 rw[Heap.size_push] at ok
 rw[show ({ s with heap:=s.heap.push { cls:=.type "frame",data:=.dict #[] } }:Shared).heap.objs.size=s.heap.objs.size+1 from Heap.size_push ..]
 refine wpAny_bind (zAe (s₀:=s) (env:=newEnv scope s.heap.objs.size globals (cellsFrom (s.heap.objs.size+1) scope.names []) qual func code none builtins)
  _ (fun _ _ _=>rfl) hk binds (fun _=>none) (fun _=>none) _ _
  ⟨⟨⟨_,_,rfl⟩,(Heap.Ns.new s.heap (.type "frame")).keeps (pushCells_keeps _ _),fun b o e=>pushCells_keeps _ _ b o (Heap.get?_push_of_some _ e),Nat.le_refl _⟩,
   fun n c hc=>(ok.empty n c (PySem.mem_of_lookup hc)).1,ok.apart,fun n c hm=>(ok.empty n c hm).2⟩
  hkind fun s' x ht=>wpAny_pure (hQ _ rfl s' x ht))
theorem zEx {CX:CXT}{P:Program}{w:World}{K:PySem.W.Frag}{mg:Str->Option Value}{base:Heap}{N ps:List Str}{qual:Str}{scope:Scope}{f:Addr}{cd:Value}{A:Around}{outer:List Env}{s s1:Shared}{H:Hp}{E:XK}{us:List Value}{vs:List V}
  (S:jC N ps scope) (hd:A.handled=none) (e0:zC1 P w K mg base A outer s H) (hl:vs.length=ps.length) (r:zd vs us)
  (x:InCallC s s.heap.objs.size (bindL (envOfC qual scope s.heap.objs.size f cd).kindOf (ps.zip us) fun _=>none) (cellsFrom (s.heap.objs.size+1) scope.names []) (bindC (envOfC qual scope s.heap.objs.size f cd).kindOf (ps.zip us) fun _=>none) s1) (ht:0 < s1.toks) :
  Inv (Qa CX P w K mg base N qual scope f cd A outer s H E) [] (Zr N vs) H s1:=by
 have hpl:ps.length <= N.length:=by have:=congrArg List.length S.pre;rw[List.length_take] at this;omega
 obtain⟨h1,tk,rfl,hk⟩:=x.done
 have noA:∀ b:Addr,b∉(Qa CX P w K mg base N qual scope f cd A outer s H E).ex:=fun b z=>absurd (show b∈([]:List Addr) from z) (by simp)
 refine⟨⟨e0.mod,S.kind,rfl,rfl,Nat.le_refl _,fun y z c h1 h2=>?_,fun y hy=>?_,fun y c _ h=>?_,fun _=>hd,Around.frames_deeper e0.frames,.inr ⟨rfl,rfl⟩,fun b z=>absurd z (noA b),e0.bs,e0.bsz,fun b _ _=>noA b,fun b z=>absurd z (noA b),e0.funs,e0.frf⟩,
  rfl,e0.bare,Un.kept hk,⟨_,x.toInCall.ns,fun i y v h1 h2 h3=>?_⟩,fun y c h=>⟨_,x.cell y c h⟩,e0.hok.fresh (Nat.le_refl _),fun y c h=>?_,fun p hp=>absurd (show p∈([]:List (Addr×Obj)) from hp) (by simp),e0.hok.kept hk,?_,ht⟩
 ·exact name_of_addr x.apart (PySem.mem_of_lookup h1) (PySem.mem_of_lookup h2)
 ·have hy:scope.names.lookup y=some .cell\/scope.names.lookup y=some .free:=hy
  rcases hy with hy | hy
  ·exact zGP hy
  ·exact absurd rfl (S.nofree _ (PySem.mem_of_lookup hy))
 ·exact Nat.le_of_lt (x.above y c (PySem.mem_of_lookup h))
 ·have hi:i < vs.length:=by
   unfold Zr at h2
   by_cases hi:i < vs.length
   ·exact hi
   ·rw[List.getElem?_append_right (by simpa using hi)] at h2
    rw[List.getElem?_replicate] at h2
    split at h2<;>cases h2
  have ha:vs[i]? = some v:=by
   unfold Zr at h2
   rw[List.getElem?_append_left (by simpa using hi),List.getElem?_map] at h2
   cases e:vs[i]? with
   | none=>rw[e] at h2;cases h2
   | some a=>rw[e] at h2;cases h2;rfl
  obtain⟨u,hu,rv⟩:=r.get ha
  have hp:ps[i]? = some y:=by
   rw[<- S.pre,List.getElem?_take_of_lt (by omega)];exact h1
  have ndP:ps.Nodup:=by rw[<- S.pre];exact S.nd.sublist (List.take_sublist _ _)
  refine⟨u,rv,?_⟩
  rcases S.par y (List.mem_of_getElem? hp) with k | k
  ·exact .inl ⟨k,zE1 ndP hp hu k⟩
  ·obtain⟨c,e⟩:=zGP (n:=s.heap.objs.size+1) k
   refine .inr ⟨.inl k,c,e,?_⟩
   have q:=x.cell y c e
   rw[zFE ndP hp hu (by show scope.names.lookup y≠_;rw[k];decide)] at q
   exact q
 ·exact e0.hok.fresh (Nat.le_of_lt (x.above y c (PySem.mem_of_lookup h)))
 ·unfold Zr
  show _=N.length
  rw[List.length_append,List.length_map,List.length_replicate]
  omega
theorem zOF {CX:CXT}{P:Program}{w:World}{K:PySem.W.Frag}{mg:Str->Option Value}{base:Heap}{k:Nat}{f:Addr}{name qual:Str}{params:Arguments}{body:List Stmt}{scope:Scope}{dV kV doc pm cdv ct oc:Value}{an od:Option Addr}
  {osl:Array (Option Value)}{N ps:List Str}{sp:Sp} (lk:K.lookup f=some ⟨oc,od,.func (PySem.W.fnOf name qual params body scope dV kV doc pm an cdv ct),osl⟩) (hcd:PySem.W.codeIn K cdv qual=true) (S:jC N ps scope)
  (len:∀ vs H Q E,sp vs H Q E->vs.length=ps.length)
  (hbody:∀ (A:Around) (outer:List Env) (s:Shared) (H:Hp) (vs:List V) (Q:VK) (E:XK),zy k (A.deeper (envOfC qual scope s.heap.objs.size f cdv))->sp vs H Q E ->
   ∃ t,PSs (Qa CX P w K mg base N qual scope f cdv A outer s H E) body t/\t { nx:=fun _ H'=>Q .non H',rt:=Q } (Zr N vs) H) :
  jW P w K mg base CX (k+1) f (PySem.W.fnOf name qual params body scope dV kV doc pm an cdv ct) ps sp:=by
 refine⟨len,fun A outer s H args us vs Q E hr e0 htk hb r hsp=>?_⟩
 have hl:=len _ _ _ _ hsp
 have KX:K.In s.heap:=e0.mod.kin.keeps fun b o e=>(e0.bs b o e).1
 have lim:s.heap.NoLimit:=e0.mod.nolimit.keeps fun b o e=>(e0.bs b o e).1
 have hkind:∀ y∈ps.zip us,scope.names.lookup y.1=some .local\/(scope.names.lookup y.1=some .cell/\((cellsFrom (s.heap.objs.size+1) scope.names []).lookup y.1).isSome=true):=fun ⟨n,v⟩ hy=>by
  rcases S.par n (List.of_mem_zip hy).1 with q | q
  ·exact .inl q
  ·exact .inr ⟨q,PySem.W.cellsFrom_some _ _ _ (.inl q)⟩
 refine codeAny_call_function hr.depth (KX _ _ lk) rfl S.co S.gen rfl (PySem.W.codeRec_of KX hcd) (hb _ _ _ _ ?_)
 refine zGx S.kind hkind fun env he s1 x htk1=>?_
 subst he
 refine⟨lim.keeps x.toInCall.keep,codeAny_func ?_⟩
 obtain⟨t,ht,hq⟩:=hbody A outer s H vs Q E (hr.deeper _) hsp
 have I:Inv (Qa CX P w K mg base N qual scope f cdv A outer s H E) [] (Zr N vs) H s1:=zEx S hr.hd e0 hl r x (htk1 (htk.imp id fun ⟨p,hp,hpl⟩=>by
  obtain⟨i,hi,e⟩:=List.mem_iff_getElem.mp hp
  have hu:i < us.length:=by rw[<- r.length,hl];exact hi
  exact⟨(p,us[i]),List.mem_iff_getElem.mpr ⟨i,by rw[List.length_zip];omega,by rw[List.getElem_zip,e]⟩,hpl⟩))
 refine wpAny_mono (ht [] s1 (Zr N vs) H _ I hq) (fun fl s' hs=>?_) fun e s' hs=>hs
 have fin:∀ {σ':St}{H':Hp}{v:V}{u:Value},Inv (Qa CX P w K mg base N qual scope f cdv A outer s H E) [] σ' H' s'->zh v u->Q v H'->CE outer P w H s Q u s' :=
  fun {σ' H' v u} J rv q=>⟨v,H',J.os,J.bare,J.base,J.hok,rv,q⟩
 cases fl with
 | ret u =>
  obtain⟨v,σ',H',J,rv,q⟩:=hs
  exact fin J rv q
 | next =>
  obtain⟨σ',H',J,q⟩:=hs
  exact fin (v:=V.non) (u:=Value.none) J rfl q
 | brk =>
  obtain⟨_,_,_,q⟩:=hs
  exact False.elim q
 | cont =>
  obtain⟨_,_,_,q⟩:=hs
  exact False.elim q
end L2
namespace L2
open PySem PySem.Spec PyProof.Rows
section
variable {X:Cx}{x:Str}{p pos:Pos}{e:Expr}{es:List Expr}{t:TA}{id T:String}{r:List V->Hp->VK->Prop}
noncomputable def tCB (r:List V->Hp->VK->Prop) (t:TA):TE:=fun σ H Q=>t σ H fun vs H1=>r vs H1 Q
theorem zGR (hc:j5 X (.builtin id) r) (hg:Gl X x) (hm:X.mg x=none) (hv:bootBuiltins x=some (.builtin id)) (ha:PA X (e::es) t) (hn:x ≠ "__name__" := by decide) (hdb:(x == ("__debug__" : Str))=false:=by decide)
  (he:starEach (e::es) X.env=(false,eval e X.env)::starEach es X.env:=by rfl) (hpl:(backTo pos (starEach es X.env)).any (·.1)=false:=by rfl):PE X (.Call (.Name x p) (e::es) [] pos) (tCB r t):=by
 intro pins s σ H Q I h
 refine wpAny_Call_Name_kw (Jy I hg hm hv ?_ hn hdb)
 exact PyProof.Rows.callWith_builtin1 (thn (ha pos pins s σ H _ I h) fun us s1 ⟨vs,H1,I1,r1,q1⟩=>hc pins s1 σ H1 vs us Q I1 r1 q1) he hpl
theorem zIa (hc:j5 X (.type T) r) (hg:Gl X x) (hm:X.mg x=none) (hv:bootBuiltins x=some (.type T)) (ha:PA X (e::es) t) (hn:x ≠ "__name__" := by decide) (hdb:(x == ("__debug__" : Str))=false:=by decide)
  (he:starEach (e::es) X.env=(false,eval e X.env)::starEach es X.env:=by rfl) (hpl:(backTo pos (starEach es X.env)).any (·.1)=false:=by rfl):PE X (.Call (.Name x p) (e::es) [] pos) (tCB r t):=by
 intro pins s σ H Q I h
 refine wpAny_Call_Name_kw (Jy I hg hm hv ?_ hn hdb)
 exact PyProof.Rows.callWith_type1 (thn (ha pos pins s σ H _ I h) fun us s1 ⟨vs,H1,I1,r1,q1⟩=>hc pins s1 σ H1 vs us Q I1 r1 q1) he hpl
end
end L2
namespace HT
open PySem PyProof.Rows
section
variable {prog:Program}{w:World}{A:Around}{E:Value->Shared->Prop}{s:Shared}
theorem zK6 {t b:Addr}{vs ws:List Value}{Q:Value->Shared->Prop} (ht:IsTup s.heap t vs.toArray) (hb:IsTup s.heap b ws.toArray) (hv:vs≠[])
  (h1:ws=[]->Q (.ref t) s) (h2:ws≠[]->Q (.ref s.heap.objs.size) { s with heap:=s.heap.push { cls:=.type "tuple",data:=.seq (vs++ws).toArray } })
  (hsz:vs.length+ws.length <= sizeLine):wpAny (model prog w) A (binaryOp .Add (.ref t) (.ref b)) Q E s:=by
 obtain⟨⟨cls,dd,data,sl⟩,ho,hc,n,hd⟩:=id ht
 obtain⟨⟨cls2,dd2,data2,sl2⟩,ho2,hc2,n2,hd2⟩:=id hb
 simp only at hc hd hc2 hd2
 subst hc hd hc2 hd2
 have e:vs.toArray++ws.toArray=(vs++ws).toArray:=by simp
 by_cases hw:ws=[]
 ·exact concat_meets ⟨_,ho,rfl⟩ ⟨_,ho2,rfl⟩ noFill_tuple_add seq_tuple_add PySem.F.slot_tuple_add PySem.F.entry_tuple_add (PySem.F.args_tuple_add_2 _ _)
   (tuple_addW1 t b vs.toArray ws.toArray n n2 dd dd2 sl sl2 (by simpa using hv) (by simp[hw])) ⟨ho,ho2,h1 hw⟩
 ·refine concat_meets ⟨_,ho,rfl⟩ ⟨_,ho2,rfl⟩ noFill_tuple_add seq_tuple_add PySem.F.slot_tuple_add PySem.F.entry_tuple_add (PySem.F.args_tuple_add_2 _ _)
   (tuple_addW2 t b vs.toArray ws.toArray n n2 dd dd2 sl sl2 (by simpa using hv) (by simpa using hw) (by rw[List.size_toArray,List.size_toArray];exact hsz)) ⟨ho,ho2,?_⟩
  rw[e]
  exact h2 hw
noncomputable def sIx (n d:Nat):Option Int->Nat
 | none=>d
 | some v=>if v < 0 then (v+(n:Int)).toNat else min v.toNat n
theorem zFh (n d:Nat) (hd:d <= n) (o:Option Int):sIx n d o <= n:=by
 cases o with
 | none=>exact hd
 | some v =>
  show (if v < 0 then (v+(n:Int)).toNat else min v.toNat n) <= n
  by_cases hv:v < 0
  ·rw[if_pos hv];omega
  ·rw[if_neg hv];exact Nat.min_le_right _ _
theorem zEf (v:Int) (n d:Nat):(if v < 0 then max (v+(n:Int)) 0 else min v (n:Int))=((sIx n d (some v):Nat):Int):=by
 show (if v < 0 then max (v+(n:Int)) 0 else min v (n:Int))=(((if v < 0 then (v+(n:Int)).toNat else min v.toNat n):Nat):Int)
 by_cases hv:v < 0
 ·simp only[if_pos hv];omega
 ·simp only[if_neg hv];omega
theorem zHp (lo hi:Option Int) (n:Nat):Builtin.Slice.sliceAdjust lo hi 1 (n:Int)=(((sIx n 0 lo:Nat):Int),((sIx n n hi:Nat):Int)):=by
 have h1:¬ ((1:Int) < 0):=by omega
 unfold Builtin.Slice.sliceAdjust
 simp only[h1,if_false]
 refine Prod.ext ?_ ?_
 ·cases lo with
  | none=>rfl
  | some v=>exact zEf v n 0
 ·cases hi with
  | none=>rfl
  | some v=>exact zEf v n n
theorem zHK (i j:Nat):Builtin.Slice.slicePlaces (i:Int) (j:Int) 1=j - i:=by
 unfold Builtin.Slice.slicePlaces
 have h1:(1:Int) > 0:=by omega
 simp only[h1,if_true,Int.ediv_one]
 split<;>omega
theorem zDZ {v:Value}{o:Option Int}{Q:Option Int->Shared->Prop} (p:IsPart v o) (h:Q o s):wpAny (model prog w) A (Builtin.Slice.slicePartIndex v) Q E s:=by
 cases p with
 | none=>exact slicePart_none h
 | int i t=>exact slicePart_int h
theorem zC8 {sl:Addr}{vl vu:Value}{lo hi:Option Int}{n:Nat}{Q:Int×Int×Nat->Shared->Prop} (hs:s.heap.IsSliceOf sl vl vu .none) (pl:IsPart vl lo) (pu:IsPart vu hi)
  (h:Q (((sIx n 0 lo:Nat):Int),1,sIx n n hi - sIx n 0 lo) s):wpAny (model prog w) A (Builtin.Slice.sliceApplied (.ref sl) (pure (n:Int))) Q E s:=by
 obtain⟨os,hos,hcs,hds⟩:=id hs
 unfold Builtin.Slice.sliceApplied Builtin.Slice.sliceFields
 refine wpAny_bind (wpAny_bind (wpAny_field hos hds (x:=vl) rfl (wpAny_bind (wpAny_field hos hds (x:=vu) rfl (wpAny_bind (wpAny_field hos hds (x:=.none) rfl (wpAny_pure ?_)))))))
 refine wpAny_bind (slicePart_none ?_)
 show wpAny _ _ (if ((1:Int) == 0)=true then _ else _) _ _ s
 rw[if_neg (by decide)]
 refine wpAny_bind (zDZ pl (wpAny_bind (zDZ pu (wpAny_bind (wpAny_pure ?_)))))
 show wpAny _ _ (match Builtin.Slice.sliceAdjust lo hi 1 (n:Int) with | (lo,hi)=>pure (lo,(1:Int),Builtin.Slice.slicePlaces lo hi 1)) _ _ s
 rw[zHp lo hi n]
 show wpAny _ _ (pure (((sIx n 0 lo:Nat):Int),(1:Int),Builtin.Slice.slicePlaces ((sIx n 0 lo:Nat):Int) ((sIx n n hi:Nat):Int) 1)) _ _ s
 rw[zHK]
 exact wpAny_pure h
theorem zKZ (xs:Array Value) (i k:Nat):((List.range k).filterMap fun (m:Nat)=>xs[((i:Int)+(m:Int) * 1).toNat]?).toArray=((xs.toList.drop i).take k).toArray:=by
 have e:(fun (m:Nat)=>xs[((i:Int)+(m:Int) * 1).toNat]?)=fun m=>xs[i+m]? := by
  funext m
  have:((i:Int)+(m:Int) * 1).toNat=i+m:=by omega
  rw[this]
 rw[e]
 have:=pick_run xs i k
 rw[List.filterMap_map] at this
 have e2:((fun x=>xs[x]?) ∘ fun x=>i+x)=fun m=>xs[i+m]? := rfl
 rw[e2] at this
 rw[this]
theorem zCt {t sl:Addr}{items:Array Value}{vl vu:Value}{lo hi:Option Int}{Q:Value->Shared->Prop} (ht:IsTup s.heap t items) (hs:s.heap.IsSliceOf sl vl vu .none) (pl:IsPart vl lo) (pu:IsPart vu hi)
  (hw:¬ (sIx items.size 0 lo=0/\sIx items.size items.size hi=items.size))
  (h:Q (.ref s.heap.objs.size) { s with heap:=s.heap.push { cls:=.type "tuple",data:=.seq ((items.toList.drop (sIx items.size 0 lo)).take (sIx items.size items.size hi - sIx items.size 0 lo)).toArray } })
  (hsz:items.size <= sizeLine):wpAny (model prog w) A (getItem (.ref t) (.ref sl)) Q E s:=by
 have htake:sizeOk (.seq ((items.toList.drop (sIx items.size 0 lo)).take (sIx items.size items.size hi - sIx items.size 0 lo)).toArray):=by
  show ((items.toList.drop (sIx items.size 0 lo)).take (sIx items.size items.size hi - sIx items.size 0 lo)).toArray.size <= sizeLine
  rw[List.size_toArray,List.length_take,List.length_drop,Array.length_toList]
  omega
 have hj:sIx items.size items.size hi <= items.size:=zFh _ _ (Nat.le_refl _) hi
 obtain⟨os,hos,hcs,hds⟩:=id hs
 have hTs:s.TypeIs (.ref sl) "slice" := ⟨os,hos,hcs⟩
 unfold getItem
 try with_reducible refine wpAny_holding ?_
 first | refine wpAny_bind (wpAny_pure ?_) | skip
 refine wpAny_bind (wpAny_sequenceKey ht.typeIs (by decide) ?_)
 refine wpAny_bind (wpAny_callSpecial?_slot (name:=Str.ofString "__getitem__") ht.typeIs PyProof.Rows.slot_tuple_getitem
  (wpAny_call_entry PyProof.Rows.slot_tuple_getitem ht.typeIs entry_tuple_getitem ?_ (args_tuple_getitem _ _)))
 show wpAny _ _ (Builtin.Tuple.tupleItemsOf (.ref t) >>= _) _ _ s
 refine wpAny_bind (tupleItemsOf_ ht ?_)
 refine wpAny_bind (wpAny_typeOf hTs ?_)
 rw[if_pos (by decide)]
 refine wpAny_bind (zC8 hs pl pu ?_)
 have hno:¬ ((((sIx items.size 0 lo:Nat):Int) == 0 && (1:Int) == 1 && (sIx items.size items.size hi - sIx items.size 0 lo) == items.size)=true):=by
  intro q
  rw[Bool.and_eq_true,Bool.and_eq_true] at q
  have q1:((sIx items.size 0 lo:Nat):Int)=0:=eq_of_beq q.1.1
  have q2:sIx items.size items.size hi - sIx items.size 0 lo=items.size:=eq_of_beq q.2
  exact hw ⟨by omega,by omega⟩
 show wpAny _ _ (if (((sIx items.size 0 lo:Nat):Int) == 0 && (1:Int) == 1 && (sIx items.size items.size hi - sIx items.size 0 lo) == items.size)=true then _ else _) _ _ s
 rw[if_neg hno,zKZ]
 first
  | exact wpAny_bind (m:=Builtin.Tuple.tupleExact _) (wpAny_newObj_type (wpAny_pure ⟨_,rfl,wpAny_pure h⟩) htake)
  | exact wpAny_bind (m:=Builtin.Tuple.tupleExact _) (wpAny_newObj_type (wpAny_bind (wpAny_pure (wpAny_pure ⟨_,rfl,wpAny_pure h⟩))) htake)
  | exact wpAny_bind (wpAny_bind (m:=Builtin.Tuple.tupleExact _) (wpAny_newObj_type (wpAny_pure (wpAny_pure ⟨_,rfl,wpAny_pure h⟩)) htake))
  | exact wpAny_bind (wpAny_bind (m:=Builtin.Tuple.tupleExact _) (wpAny_newObj_type (wpAny_pure ⟨_,rfl,wpAny_pure h⟩) htake))
end
end HT
namespace L2
open PySem PySem.Spec PyProof.Rows
noncomputable abbrev TO:=St->Hp->(Option Int->Hp->Prop)->Prop
noncomputable def PO (X:Cx) (e:Option Expr) (t:TO):Prop :=
 ∀ (pins:List (Addr×Obj)) (s:Shared) (σ:St) (H:Hp) (Q:Option Int->Hp->Prop),Inv X pins σ H s->t σ H Q ->
  wpAny (model X.prog X.w) X.A (evalPart e X.env) (fun u s'=>∃ o H',Inv X pins σ H' s'/\IsPart u o/\Q o H') X.xe s
noncomputable def zK9:TO:=fun _ H Q=>Q none H
noncomputable def zHI (t:TE):TO:=fun σ H Q=>t σ H fun x H1=>∃ i,x=.int i/\Q (some i) H1
section
variable {X:Cx}{e:Expr}{te:TE}{lo hi:Option Expr}{tl th:TO}{pos p2:Pos}
theorem zLB:PO X none zK9:=by
 intro pins s σ H Q I h
 rw[evalPart_none]
 exact wpAny_pure ⟨none,H,I,.none,h⟩
theorem zLn (h:PE X e te):PO X (some e) (zHI te):=by
 intro pins s σ H Q I hw
 rw[evalPart_some]
 refine thn (h pins s σ H _ I hw) fun u s1 ⟨x,H1,I1,r1,q1⟩=>?_
 obtain⟨i,rfl,q⟩:=q1
 obtain⟨t,rfl⟩:=r1
 exact⟨some i,H1,I1,.int i t,q⟩
noncomputable def SlR (X:Cx) (r:V->Option Int->Option Int->Hp->VK->Prop):Prop :=
 ∀ (pins:List (Addr×Obj)) (s:Shared) (σ:St) (H:Hp) (x:V) (v vl vu:Value) (lo hi:Option Int) (sl:Addr) (Q:VK),Inv X pins σ H s->zh x v->s.heap.IsSliceOf sl vl vu .none->IsPart vl lo->IsPart vu hi->r x lo hi H Q ->
  ∃ T id,typeLookup (.type T) "__getitem__" = pure (some (.builtin id))/\s.TypeIs v T/\wpAny (model X.prog X.w) X.A (getItem v (.ref sl)) (EP X pins σ Q) X.xe s
noncomputable def tSl (r:V->Option Int->Option Int->Hp->VK->Prop) (te:TE) (tl th:TO):TE:=fun σ H Q=>te σ H fun x H1=>tl σ H1 fun l H2=>th σ H2 fun u H3=>r x l u H3 Q
theorem zJm {r:V->Option Int->Option Int->Hp->VK->Prop} (hr:SlR X r) (he:PE X e te) (hl:PO X lo tl) (hu:PO X hi th):PE X (.Subscript e (.Slice lo hi none p2) pos) (tSl r te tl th):=by
 intro pins s σ H Q I h
 refine Subscript_ (thn (he pins s σ H _ I h) fun v s1 ⟨x,H1,I1,r1,q1⟩=>?_)
 refine wpAny_Slice (thn (hl pins s1 σ H1 _ I1 q1) fun vl s2 ⟨l,H2,I2,pl,q2⟩=>thn (hu pins s2 σ H2 _ I2 q2) fun vu s3 ⟨u,H3,I3,pu,q3⟩=>?_)
 rw[evalPart_none]
 refine wpAny_pure ?_
 have I4:Inv X pins σ H3 { s3 with heap:=s3.heap.push { cls:=.type "slice",data:=.fields #[vl,vu,.none] } }:=I3.kept (t':=s3.toks) fun b ob q=>Heap.get?_push_of_some _ q
 obtain⟨T,id,hT,ht,hg⟩:=hr pins { s3 with heap:=s3.heap.push { cls:=.type "slice",data:=.fields #[vl,vu,.none] } } σ H3 x v vl vu l u s3.heap.objs.size Q I4 r1 (Heap.IsSliceOf.new ..) pl pu q3
 show wpAny (model X.prog X.w) X.A (subscriptTail e (.Slice lo hi none p2) v (.ref s3.heap.objs.size)) (EP X pins σ Q) X.xe { s3 with heap:=s3.heap.push { cls:=.type "slice",data:=.fields #[vl,vu,.none] } }
 exact tail_any (ops:=[.ref s3.heap.objs.size,v]) ht hT hg (by with_unfolding_all rfl)
noncomputable def zAW (xs:List V) (lo hi:Option Int):List V:=(xs.drop (HT.sIx xs.length 0 lo)).take (HT.sIx xs.length xs.length hi - HT.sIx xs.length 0 lo)
theorem zCx (xs:List V) (lo hi:Option Int):(zAW xs lo hi).length <= xs.length:=by
 unfold zAW
 rw[List.length_take,List.length_drop]
 omega
noncomputable def zO8 (K:PySem.W.Frag):V->Option Int->Option Int->Hp->VK->Prop:=fun x lo hi H Q=>∃ a xs,x=.ref a/\SqT K H a xs /\
 ¬ (HT.sIx xs.length 0 lo=0/\HT.sIx xs.length xs.length hi=xs.length)/\∀ p,H p=none->Q (.ref p) (upd H p (.tup (zAW xs lo hi)))
theorem zNF:SlR X (zO8 X.K):=by
 intro pins s σ H x v vl vu lo hi sl Q I rx hs pl pu h
 obtain⟨a,xs,rfl,hx,hw,q⟩:=h
 cases rx
 obtain⟨its,r,ht,hz⟩:=I.tuple hx
 have hlen:its.toArray.size=xs.length:=by rw[List.size_toArray];exact r.length.symm
 refine⟨"tuple",_,PyProof.Rows.slot_tuple_getitem.lookup,ht.typeIs,?_⟩
 refine HT.zCt ht hs pl pu (by rw[hlen];exact hw) ?_ (by rw[hlen];exact hz)
 rw[hlen]
 refine⟨.ref s.heap.objs.size,_,I.laid (t':=s.toks) (o:=.tup (zAW xs lo hi)) (fun b ob q=>Heap.get?_push_of_some _ q) (Nat.le_refl _) ?_,rfl,q _ (I.hok.fresh (Nat.le_refl _))⟩
 exact⟨Nat.le_trans (zCx xs lo hi) hz,_,(r.drop (HT.sIx xs.length 0 lo)).take (HT.sIx xs.length xs.length hi - HT.sIx xs.length 0 lo),IsTup.new _ _⟩
noncomputable def zKv (K:PySem.W.Frag):R2:=fun x y H Q=>∃ a b xs ys,x=.ref a/\y=.ref b/\SqT K H a xs/\SqT K H b ys/\xs≠[]/\xs.length+ys.length <= sizeLine /\
 (ys=[]->Q (.ref a) H)/\(ys≠[]->∀ p,H p=none->Q (.ref p) (upd H p (.tup (xs++ys))))
theorem zd.nil_iff {xs:List V}{us:List Value} (r:zd xs us):us=[]↔xs=[]:=by
 cases r with
 | nil=>simp
 | cons _ _=>simp
theorem zl:OpR X (binaryOp .Add) (zKv X.K):=by
 intro pins s σ H x y v u Q I rx ry h
 obtain⟨a,b,xs,ys,rfl,rfl,ha,hb,hx,hz,q1,q2⟩:=h
 cases rx
 cases ry
 obtain⟨its,r1,p1,_⟩:=I.tuple ha
 obtain⟨its2,r2,p2,_⟩:=I.tuple hb
 refine HT.zK6 p1 p2 (fun z=>hx (r1.nil_iff.mp z)) (fun z=>⟨.ref a,H,I,rfl,q1 (r2.nil_iff.mp z)⟩) (fun z=>?_) (by rw[<- r1.length,<- r2.length];exact hz)
 refine⟨.ref s.heap.objs.size,_,I.laid (t':=s.toks) (o:=.tup (xs++ys)) (fun b ob q=>Heap.get?_push_of_some _ q) (Nat.le_refl _) ?_,rfl,q2 (fun w=>z (r2.nil_iff.mpr w)) _ (I.hok.fresh (Nat.le_refl _))⟩
 exact⟨by rw[List.length_append];exact hz,_,r1.append r2,IsTup.new _ _⟩
end
end L2
namespace L2
open PySem PySem.Spec PyProof.Rows
noncomputable def ixN (n:Nat) (i:Int):Option Nat:=if 0 <= i then (if i < n then some i.toNat else none) else if -(n:Int) <= i then some (i+n).toNat else none
noncomputable def atI {α:Type} (xs:List α) (i:Int):Option α:=(ixN xs.length i).bind fun j=>xs[j]?
theorem zGu {n:Nat}{i:Int}{j:Nat} (h:ixN n i=some j):seqIndex? i n=some j/\j < n /\ -(n:Int) <= i/\i < n:=by
 unfold ixN at h
 by_cases h0:0 <= i
 ·rw[if_pos h0] at h
  by_cases h1:i < n
  ·rw[if_pos h1] at h
   have e:i.toNat=j:=Option.some.inj h
   exact⟨by rw[seqIndex_of h0 h1,e],by omega,by omega,h1⟩
  ·rw[if_neg h1] at h;cases h
 ·rw[if_neg h0] at h
  by_cases h1:-(n:Int) <= i
  ·rw[if_pos h1] at h
   have e:(i+n).toNat=j:=Option.some.inj h
   exact⟨by rw[seqIndex_neg (by omega) h1,e],by omega,h1,by omega⟩
  ·rw[if_neg h1] at h;cases h
theorem zEL {α:Type}{xs:List α}{i:Int}{v:α} (h:atI xs i=some v):∃ j,seqIndex? i xs.length=some j/\xs[j]? = some v/\j < xs.length /\ -(xs.length:Int) <= i/\i < xs.length:=by
 unfold atI at h
 cases e:ixN xs.length i with
 | none=>rw[e] at h;cases h
 | some j =>
  rw[e] at h
  obtain⟨h1,h2,h3,h4⟩:=zGu e
  exact⟨j,h1,h,h2,h3,h4⟩
noncomputable def zGs (b:Expr):Prop:=∀ o i,subscripted b false o i=operate [o,i] (getItem o i)
noncomputable def IxR (X:Cx) (r:R2):Prop :=
 ∀ (value slice:Expr) (pins:List (Addr×Obj)) (s:Shared) (σ:St) (H:Hp) (x y:V) (v u:Value) (Q:VK),Inv X pins σ H s->zh x v->zh y u->r x y H Q ->
  subscripted slice false v u=operate [v,u] (getItem v u)->wpAny (model X.prog X.w) X.A (subscriptTail value slice v u) (EP X pins σ Q) X.xe s
noncomputable def MtR (X:Cx) (id:String) (r:V->List V->Hp->VK->Prop):Prop :=
 ∀ (pins:List (Addr×Obj)) (s:Shared) (σ:St) (H:Hp) (x:V) (xs:List V) (v:Value) (us:List Value) (Q:VK),Inv X pins σ H s->zh x v->zd xs us->r x xs H Q ->
  wpAny (model X.prog X.w) X.A (call (.builtin id) (v::us)) (EP X pins σ Q) X.xe s
section
variable {X:Cx}{a b:Expr}{ta tb:TE}{pos:Pos}
theorem IxR.or {r r':R2} (h:IxR X r) (h':IxR X r'):IxR X (fun x y H Q=>r x y H Q\/r' x y H Q):=by
 intro value slice pins s σ H x y v u Q I rx ry q hs
 rcases q with q | q
 ·exact h value slice pins s σ H x y v u Q I rx ry q hs
 ·exact h' value slice pins s σ H x y v u Q I rx ry q hs
theorem zOw {r:R2} (hr:IxR X r) (ha:PE X a ta) (hb:PE X b tb) (hs:zGs b):PE X (.Subscript a b pos) (tOp r ta tb):=by
 intro pins s σ H Q I h
 exact Subscript_ (zKM ha hb I h fun v u s2 x y H2 I2 rx ry q=>hr a b pins s2 σ H2 x y v u Q I2 rx ry q (hs _ _))
noncomputable def zPL (K:PySem.W.Frag):R2:=fun x y H Q=>∃ p xs i v,x=.ref p/\y=.int i/\SqL K H p xs/\atI xs i=some v/\Q v H
noncomputable def zO5 (K:PySem.W.Frag):R2:=fun x y H Q=>∃ p xs i v,x=.ref p/\y=.int i/\SqT K H p xs/\atI xs i=some v/\Q v H
noncomputable def zPG:R2:=fun x y H Q=>∃ z i c,x=.str z/\y=.int i/\z.length <= sizeLine/\atI z.cps.toList i=some c/\Q (.str ⟨#[c]⟩) H
theorem zK4:IxR X (zPL X.K):=by
 intro value slice pins s σ H x y v u Q I rx ry h hs
 obtain⟨p,xs,i,z,rfl,rfl,hq,he,q⟩:=h
 cases rx
 obtain⟨t,rfl⟩:=ry
 obtain⟨its,r,pl,hz⟩:=I.list hq
 obtain⟨j,h1,h2,h3,h4,h5⟩:=zEL he
 obtain⟨w,ew,rw'⟩:=r.get h2
 have hl:=r.length
 have hn:=zAB
 have fin:EP X pins σ Q w s:=⟨z,H,I,rw',q⟩
 by_cases h0:0 <= i
 ·have hj:i.toNat=j:=by
   rw[seqIndex_of h0 h5] at h1
   exact Option.some.inj h1
  exact item_listR pl.isList h0 (by omega) (by rw[hj];simpa using ew) fin hs
 ·have hj:(i+(its.toArray.size:Int)).toNat=j:=by
   rw[seqIndex_neg (by omega) h4] at h1
   rw[List.size_toArray,<- hl]
   exact Option.some.inj h1
  exact subscriptTail_builtinR (x:=w) pl.isList.typeIs slot_list_getitem.lookup
   (wpAny_getItem_list_neg (Q:=fun r s'=>r=w/\EP X pins σ Q r s') pl.isList (by omega) (by rw[List.size_toArray]<;>omega) (by omega) (by rw[hj];simpa using ew) ⟨rfl,fin⟩) hs
theorem zMR:IxR X (zO5 X.K):=by
 intro value slice pins s σ H x y v u Q I rx ry h hs
 obtain⟨p,xs,i,z,rfl,rfl,hq,he,q⟩:=h
 cases rx
 obtain⟨t,rfl⟩:=ry
 obtain⟨its,r,pl,hz⟩:=I.tuple hq
 obtain⟨j,h1,h2,h3,h4,h5⟩:=zEL he
 obtain⟨w,ew,rw'⟩:=r.get h2
 have hl:=r.length
 have hn:=zAB
 have fin:EP X pins σ Q w s:=⟨z,H,I,rw',q⟩
 exact subscriptTail_builtinR (x:=w) pl.typeIs slot_tuple_getitem.lookup
  (getItem_tuple (j:=j) (Q:=fun r s'=>r=w/\EP X pins σ Q r s') pl (by omega) (by omega) (by rw[List.size_toArray,<- hl];exact h1) (by simpa using ew) ⟨rfl,fin⟩) hs
theorem zNJ:IxR X zPG:=by
 intro value slice pins s σ H x y v u Q I rx ry h hs
 obtain⟨z,i,c,rfl,rfl,hz,he,q⟩:=h
 obtain⟨t,rfl⟩:=rx
 obtain⟨t',rfl⟩:=ry
 obtain⟨j,h1,h2,h3,h4,h5⟩:=zEL he
 have hl:z.cps.toList.length=z.length:=by simp[Str.length]
 rw[hl] at h1 h4 h5
 have hn:=zAB
 exact tail_any (typeIs_str s z t) slot_str_getitem.lookup (getItem_str (c:=c) (by
  have e1:decide (i < -(2 ^ 63:Int))=false:=decide_eq_false (by omega)
  have e2:decide (i ≥ 2 ^ 63)=false:=decide_eq_false (by omega)
  rw[e1,e2,Bool.or_false]) (by rw[h1];simpa using h2) ⟨.str ⟨#[c]⟩,H,I.tok _,⟨_,rfl⟩,q⟩) hs
theorem zHq (its:List Value) (n j:Nat) (u:Value):Obj.mapSeq (·.setIfInBounds j u) { cls:=.type "list",data:=.seq its.toArray n }={ cls:=.type "list",data:=.seq (its.set j u).toArray n }:=by
 simp[Obj.mapSeq]
theorem Inv.lst {pins:List (Addr×Obj)}{σ:St}{H:Hp}{s:Shared}{p:Addr}{xs:List V} (I:Inv X pins σ H s) (h:H p=some (.lst xs)) :
  ∃ (its:List Value) (n:Nat),zd xs its/\s.heap.get? p=some { cls:=.type "list",data:=.seq its.toArray n }/\xs.length <= sizeLine:=by
 obtain⟨z,its,n,r,e⟩:=I.hok p _ h
 exact⟨its,n,r,e,z⟩
theorem Inv.lstUpd {pins:List (Addr×Obj)}{σ:St}{H:Hp}{s:Shared}{p:Addr}{xs ys:List V}{its its':List Value}{n n':Nat}{f:Obj->Obj} (I:Inv X pins σ H s) (h:H p=some (.lst xs))
  (ho:s.heap.get? p=some { cls:=.type "list",data:=.seq its.toArray n }) (hf:f { cls:=.type "list",data:=.seq its.toArray n }={ cls:=.type "list",data:=.seq its'.toArray n' }) (r:zd ys its') (hz:ys.length <= sizeLine) (t:Nat) (ht:0 < t:=by first | exact Nat.succ_pos _ | assumption | exact Inv.tk (by assumption) | omega) :
  Inv X pins σ (upd H p (.lst ys)) { s with heap:=s.heap.update p f,toks:=t }:=by
 have e:(s.heap.update p f).get? p=some { cls:=.type "list",data:=.seq its'.toArray n' }:=by
  rw[Heap.get?_update_self f ho (by rw[hf]<;>rfl),hf]
 refine I.write (x:=p) (e:=p) (by rw[h];trivial) (.inl rfl) (fun b u hb q=>(Heap.get?_update_other _ _ (Ne.symm hb)).trans q) ⟨_,e⟩ ?_
 exact⟨hz,its',n',r,e⟩
noncomputable def zOj:V->V->V->Hp->(Hp->Prop)->Prop:=fun o i v H Q=>∃ p xs k j,o=.ref p/\i=.int k/\H p=some (.lst xs)/\ixN xs.length k=some j/\Q (upd H p (.lst (xs.set j v)))
theorem zKQ:zOC X zOj:=by
 intro pins s σ H o i v ov iv u Q I ro ri rv h
 obtain⟨p,xs,k,j,rfl,rfl,hp,hj,q⟩:=h
 cases ro
 obtain⟨t,rfl⟩:=ri
 obtain⟨its,n,r,ho,hz⟩:=I.lst hp
 obtain⟨h1,h2,h3,h4⟩:=zGu hj
 have hl:=r.length
 have hn:=zAB
 have I':Inv X pins σ (upd H p (.lst (xs.set j v))) { s with heap:=s.heap.update p (Obj.mapSeq (·.setIfInBounds j u)) } :=
  I.lstUpd hp ho (zHq its n j u) (r.set rv j) (by rw[List.length_set];exact hz) s.toks
 by_cases h0:0 <= k
 ·have hk:k.toNat=j:=by
   rw[seqIndex_of h0 h4] at h1
   exact Option.some.inj h1
  exact PySem.W.ki_setAt ho h0 (by omega) (by rw[List.size_toArray,<- hl];exact h4) (by rw[hk];exact⟨_,I',q⟩)
 ·have hk:(k+(its.toArray.size:Int)).toNat=j:=by
   rw[seqIndex_neg (by omega) h3] at h1
   rw[List.size_toArray,<- hl]
   exact Option.some.inj h1
  exact PySem.W.ki_setBack ho (by omega) (by rw[List.size_toArray,<- hl];exact h3) (by omega) (by rw[hk];exact⟨_,I',q⟩)
theorem zGZ (lo hi:Option Int) (n:Nat):(sliceBounds lo hi none n).1=((HT.sIx n 0 lo:Nat):Int)/\(sliceBounds lo hi none n).2.1=((HT.sIx n n hi:Nat):Int)/\(sliceBounds lo hi none n).2.2=1:=by
 refine⟨?_,?_,rfl⟩
 ·cases lo with
  | none=>simp[sliceBounds,HT.sIx]
  | some i =>
   simp only[sliceBounds,HT.sIx,Option.getD_none,show (1:Int) > 0 by decide,if_true]
   by_cases h:i < 0
   ·simp only[h,if_true]<;>omega
   ·simp only[h,if_false]<;>omega
 ·cases hi with
  | none=>simp[sliceBounds,HT.sIx]
  | some i =>
   simp only[sliceBounds,HT.sIx,Option.getD_none,show (1:Int) > 0 by decide,if_true]
   by_cases h:i < 0
   ·simp only[h,if_true]<;>omega
   ·simp only[h,if_false]<;>omega
theorem zFR (its:List Value) (lo hi:Option Int):slicePick its.toArray lo hi none=((its.drop (HT.sIx its.length 0 lo)).take (HT.sIx its.length its.length hi - HT.sIx its.length 0 lo)).toArray:=by
 obtain⟨h1,h2,h3⟩:=zGZ lo hi its.toArray.size
 unfold slicePick
 rw[h1,h2,h3]
 simp only[sliceRange_one,pick_run,List.size_toArray]<;>rfl
noncomputable def zPO (K:PySem.W.Frag):V->Option Int->Option Int->Hp->VK->Prop:=fun x lo hi H Q=>∃ a xs,x=.ref a/\SqL K H a xs/\∀ p,H p=none->Q (.ref p) (upd H p (.lst (zAW xs lo hi)))
theorem zLc:SlR X (zPO X.K):=by
 intro pins s σ H x v vl vu lo hi sl Q I rx hs pl pu h
 obtain⟨a,xs,rfl,hx,q⟩:=h
 cases rx
 obtain⟨its,r,ht,hz⟩:=I.list hx
 have hlen:=r.length
 refine⟨"list",_,slot_list_getitem.lookup,ht.isList.typeIs,?_⟩
 refine wpAny_getItem_list_slice ht.isList hs pl pu .none (by simp) ?_ (by rw[List.size_toArray]<;>omega)
 rw[zFR,<- hlen]
 refine⟨.ref s.heap.objs.size,_,I.laid (t':=s.toks) (o:=.lst (zAW xs lo hi)) (fun b ob q=>Heap.get?_push_of_some _ q) (Nat.le_refl _) ?_,rfl,q _ (I.hok.fresh (Nat.le_refl _))⟩
 exact⟨Nat.le_trans (zCx xs lo hi) hz,_,0,(r.drop (HT.sIx xs.length 0 lo)).take (HT.sIx xs.length xs.length hi - HT.sIx xs.length 0 lo),Heap.get?_push_size _ rfl⟩
noncomputable def yr:V->Bool
 | .non=>true
 | .bl _=>true
 | .int _=>true
 | .str _=>true
 | _=>false
noncomputable def eqV:V->V->Bool
 | .non,.non=>true
 | .bl a,.bl b=>a == b
 | .bl a,.int b=>(if a then 1 else 0) == b
 | .int a,.bl b=>a == (if b then 1 else 0)
 | .int a,.int b=>a == b
 | .str a,.str b=>a == b
 | _,_=>false
theorem zMi {A:Around}{s:Shared}{y x:V}{u v:Value} (ry:zh y u) (rx:zh x v) (fy:yr y=true) (fx:yr x=true):SeqAt.EqAt A s u v (eqV y x):=by
 cases y with
 | non =>
  cases ry
  cases x with
  | non=>cases rx;exact SeqAt.EqAt.same _
  | bl b=>cases rx;exact SeqAt.EqAt.none_bool b
  | int b=>obtain⟨t,rfl⟩:=rx;exact SeqAt.EqAt.none_int b t
  | str b=>obtain⟨t,rfl⟩:=rx;exact SeqAt.EqAt.none_str b t
  | _=>exact absurd (show false=true from fx) Bool.false_ne_true
 | bl a =>
  cases ry
  cases x with
  | non=>cases rx;exact SeqAt.EqAt.bool_none a
  | bl b=>cases rx;exact SeqAt.EqAt.bool_bool a b
  | int b=>obtain⟨t,rfl⟩:=rx;exact SeqAt.EqAt.bool_int a b t
  | str b=>obtain⟨t,rfl⟩:=rx;exact SeqAt.EqAt.bool_str a b t
  | _=>exact absurd (show false=true from fx) Bool.false_ne_true
 | int a =>
  obtain⟨t',rfl⟩:=ry
  cases x with
  | non=>cases rx;exact SeqAt.EqAt.int_none a t'
  | bl b=>cases rx;exact SeqAt.EqAt.int_bool a t' b
  | int b=>obtain⟨t,rfl⟩:=rx;exact SeqAt.EqAt.int_int a t' b t
  | str b=>obtain⟨t,rfl⟩:=rx;exact SeqAt.EqAt.int_str a t' b t
  | _=>exact absurd (show false=true from fx) Bool.false_ne_true
 | str a =>
  obtain⟨t',rfl⟩:=ry
  cases x with
  | non=>cases rx;exact SeqAt.EqAt.str_none a t'
  | bl b=>cases rx;exact SeqAt.EqAt.str_bool a t' b
  | int b=>obtain⟨t,rfl⟩:=rx;exact SeqAt.EqAt.str_int a t' b t
  | str b=>obtain⟨t,rfl⟩:=rx;exact SeqAt.EqAt.str_str a t' b t
  | _=>exact absurd (show false=true from fx) Bool.false_ne_true
 | _=>exact absurd (show false=true from fy) Bool.false_ne_true
noncomputable def eqU (x:V) (u:Value):Bool:=match u with
 | .none=>eqV .non x
 | .bool b=>eqV (.bl b) x
 | .int i _=>eqV (.int i) x
 | .str z _=>eqV (.str z) x
 | _=>false
theorem zIk {x y:V}{u:Value} (r:zh y u) (f:yr y=true):eqU x u=eqV y x:=by
 cases y with
 | non=>cases r;rfl
 | bl b=>cases r;rfl
 | int i=>obtain⟨t,rfl⟩:=r;rfl
 | str z=>obtain⟨t,rfl⟩:=r;rfl
 | _=>exact absurd (show false=true from f) Bool.false_ne_true
theorem zA7 {x:V}:∀ {xs:List V}{us:List Value},zd xs us->xs.all yr=true->us.any (eqU x)=xs.any fun y=>eqV y x
 | _,_,.nil,_=>rfl
 | y::xs,u::us,.cons r t,f=>by
  rw[List.all_cons,Bool.and_eq_true] at f
  rw[List.any_cons,List.any_cons,zIk r f.1,zA7 t f.2]
theorem Jp {A:Around}{s:Shared}{x:V}{v:Value} (rx:zh x v) (fx:yr x=true):∀ {xs:List V}{us:List Value},zd xs us->xs.all yr=true->∀ u∈us,SeqAt.EqAt A s u v (eqU x u)
 | _,_,.nil,_=>fun u hu=>by cases hu
 | y::xs,u::us,.cons r t,f=>fun u' hu=>by
  rw[List.all_cons,Bool.and_eq_true] at f
  rcases List.mem_cons.mp hu with rfl | hu
  ·rw[zIk r f.1];exact zMi r rx f.1 fx
  ·exact Jp rx fx t f.2 u' hu
noncomputable def inV (x:V) (xs:List V):Bool:=xs.any fun y=>eqV y x
noncomputable def rIn (K:PySem.W.Frag) (neg:Bool):R2:=fun x y H Q=>∃ p xs,y=.ref p/\(SqL K H p xs\/SqT K H p xs)/\yr x=true/\xs.all yr=true/\Q (.bl (if neg then !inV x xs else inV x xs)) H
theorem zH5:OpR X (compareOp .In) (rIn X.K false):=by
 intro pins s σ H x y v u Q I rx ry h
 obtain⟨p,xs,rfl,hq,fx,fs,q⟩:=h
 cases ry
 rcases hq with hq | hq
 ·obtain⟨its,r,pl,hz⟩:=I.list hq
  refine SeqAt.in_listAt (eqU x) pl.isList (fun w hw=>Jp rx fx r fs w (by simpa using hw)) ⟨.bl _,H,I,rfl,?_⟩
  rw[show its.toArray.any (eqU x)=its.any (eqU x) by simp,zA7 r fs]
  exact q
 ·obtain⟨its,r,pl,hz⟩:=I.tuple hq
  refine SeqAt.in_tupleAt (eqU x) pl (fun w hw=>Jp rx fx r fs w (by simpa using hw)) ⟨.bl _,H,I,rfl,?_⟩
  rw[show its.toArray.any (eqU x)=its.any (eqU x) by simp,zA7 r fs]
  exact q
theorem zFp:OpR X (compareOp .NotIn) (rIn X.K true):=by
 intro pins s σ H x y v u Q I rx ry h
 obtain⟨p,xs,rfl,hq,fx,fs,q⟩:=h
 cases ry
 rcases hq with hq | hq
 ·obtain⟨its,r,pl,hz⟩:=I.list hq
  refine SeqAt.notIn_listAt (eqU x) pl.isList (fun w hw=>Jp rx fx r fs w (by simpa using hw)) ⟨.bl _,H,I,rfl,?_⟩
  rw[show its.toArray.any (eqU x)=its.any (eqU x) by simp,zA7 r fs]
  exact q
 ·obtain⟨its,r,pl,hz⟩:=I.tuple hq
  refine SeqAt.notIn_tupleAt (eqU x) pl (fun w hw=>Jp rx fx r fs w (by simpa using hw)) ⟨.bl _,H,I,rfl,?_⟩
  rw[show its.toArray.any (eqU x)=its.any (eqU x) by simp,zA7 r fs]
  exact q
theorem zFr:j5 X (.builtin "len") (fun xs H Q=>∃ p ys,xs=[.ref p]/\(SqL X.K H p ys\/SqT X.K H p ys)/\Q (.int ys.length) H):=by
 intro pins s σ H xs us Q I r h
 obtain⟨p,ys,rfl,hq,q⟩:=h
 obtain⟨u,rfl,rx⟩:=QW r
 cases rx
 have hn:=zAB
 rcases hq with hq | hq
 ·obtain⟨its,r',pl,hz⟩:=I.list hq
  have hlen:=r'.length
  exact Calls.call_len_list pl.isList (by simp only[List.size_toArray]<;>omega) ⟨.int ys.length,H,I.tok _,⟨s.toks+1,by rw[List.size_toArray,hlen]⟩,q⟩
 ·obtain⟨its,r',pl,hz⟩:=I.tuple hq
  have hlen:=r'.length
  exact len_tuple pl (by simp only[List.size_toArray]<;>omega) ⟨.int ys.length,H,I.tok _,⟨s.toks+1,by rw[List.size_toArray,hlen]⟩,q⟩
theorem zF8:j5 X (.builtin "len") (fun xs H Q=>∃ z,xs=[.str z]/\z.length <= sizeLine/\Q (.int z.length) H):=by
 intro pins s σ H xs us Q I r h
 obtain⟨z,rfl,hz,q⟩:=h
 obtain⟨u,rfl,t,rfl⟩:=QW r
 have hn:=zAB
 exact len_str (by omega) ⟨.int z.length,H,I.tok _,⟨_,rfl⟩,q⟩
theorem j5.or {f:Value}{r r':List V->Hp->VK->Prop} (h:j5 X f r) (h':j5 X f r'):j5 X f (fun xs H Q=>r xs H Q\/r' xs H Q):=by
 intro pins s σ H xs us Q I rs q
 rcases q with q | q
 ·exact h pins s σ H xs us Q I rs q
 ·exact h' pins s σ H xs us Q I rs q
theorem zF0:j5 X (.type "list") (fun xs H Q=>∃ p ys,xs=[.ref p]/\(SqL X.K H p ys\/SqT X.K H p ys)/\∀ l,H l=none->Q (.ref l) (upd H l (.lst ys))):=by
 intro pins s σ H xs us Q I r h
 obtain⟨p,ys,rfl,hq,q⟩:=h
 obtain⟨u,rfl,rx⟩:=QW r
 cases rx
 have fin:∀ (its:List Value),zd ys its->ys.length <= sizeLine->∀ (h':Heap) (c':Nat),(∀ b o',s.heap.get? b=some o'->h'.get? b=some o') ->
   h'.get? s.heap.objs.size=some { cls:=.type "list",dict:=none,data:=.seq its.toArray c',slots:=#[] }->EP X pins σ Q (.ref s.heap.objs.size) { s with heap:=h' }:=fun its r' hz h' c' kp e =>
  ⟨.ref s.heap.objs.size,_,I.laid (t':=s.toks) kp (Nat.le_refl _) (show je X.prog X.w _ h' _ (.lst ys) from ⟨hz,its,c',r',e⟩),rfl,q _ (I.hok.fresh (Nat.le_refl _))⟩
 rcases hq with hq | hq
 ·obtain⟨its,r',pl,hz⟩:=I.list hq
  have hlen:=r'.length
  obtain⟨o,ho,hc,n,hd⟩:=pl.isList
  exact call_list_seq p (.inl rfl) ho hc hd (fun h' c' kp e=>fin its r' hz h' c' kp e) (by simp only[List.size_toArray]<;>omega)
 ·obtain⟨its,r',pl,hz⟩:=I.tuple hq
  have hlen:=r'.length
  obtain⟨o,ho,hc,n,hd⟩:=pl
  exact call_list_seq p (.inr rfl) ho hc hd (fun h' c' kp e=>fin its r' hz h' c' kp e) (by simp only[List.size_toArray]<;>omega)
theorem zFH:j5 X (.type "tuple") (fun xs H Q=>∃ p ys,xs=[.ref p]/\((SqL X.K H p ys/\∀ l,H l=none->Q (.ref l) (upd H l (.tup ys)))\/(SqT X.K H p ys/\Q (.ref p) H))):=by
 intro pins s σ H xs us Q I r h
 obtain⟨p,ys,rfl,h⟩:=h
 obtain⟨u,rfl,rx⟩:=QW r
 cases rx
 rcases h with ⟨hq,q⟩ | ⟨hq,q⟩
 ·obtain⟨its,r',pl,hz⟩:=I.list hq
  have hlen:=r'.length
  refine call_tuple_list pl.isList (fun h' kp=>?_) (by simp only[List.size_toArray]<;>omega)
  have I1:Inv X pins σ H { s with heap:=h' }:=I.kept (t':=s.toks) kp
  have I2:Inv X pins σ (upd H h'.objs.size (.tup ys)) { s with heap:=h'.push { cls:=.type "tuple",data:=.seq its.toArray } } :=
   I1.laid (t':=s.toks) (fun b o e=>Heap.get?_push_of_some _ e) (Nat.le_refl _) (show je X.prog X.w _ _ _ (.tup ys) from ⟨hz,its,r',IsTup.new _ _⟩)
  exact⟨.ref h'.objs.size,_,I2,rfl,q _ (I1.hok.fresh (Nat.le_refl _))⟩
 ·obtain⟨its,r',pl,hz⟩:=I.tuple hq
  exact call_tuple_same pl ⟨.ref p,H,I,rfl,q⟩
noncomputable def tyV (K:PySem.W.Frag) (T:String) (x:V) (H:Hp):Prop:=match x with
 | .str _=>T = "str"
 | .int _=>T = "int"
 | .ref p=>(T = "list" /\ ∃ xs,SqL K H p xs)\/(T = "tuple" /\ ∃ o,K.lookup p=some o/\o.cls=.type "tuple" /\ o.dict=none) \/
   (T = "dict" /\ ((∃ kvs,H p=some (.dK kvs))\/∃ kvs,H p=some (.dT kvs)))\/(T = "set" /\ ∃ S n,H p=some (.set S n))
 | _=>False
theorem zFw {pins:List (Addr×Obj)}{σ:St}{H:Hp}{s:Shared}{T:String}{x:V}{v:Value} (I:Inv X pins σ H s) (r:zh x v) (ty:tyV X.K T x H) :
  s.TypeIs v T/\∀ a,v=.ref a->∃ ob,s.heap.get? a=some ob/\ob.dict=none:=by
 cases x with
 | str z =>
  obtain⟨t,rfl⟩:=r
  cases (show T = "str" from ty)
  exact⟨typeIs_str s z t,fun _ e=>nomatch e⟩
 | int i =>
  obtain⟨t,rfl⟩:=r
  cases (show T = "int" from ty)
  exact⟨typeIs_int s i t,fun _ e=>nomatch e⟩
 | ref p =>
  cases r
  rcases ty with ⟨rfl,xs,hq⟩ | ⟨rfl,o,hk,hc,hd⟩ | ⟨rfl,hk⟩ | ⟨rfl,S,n,hk⟩
  ·obtain⟨its,_,pl,_⟩:=I.list hq
   refine⟨pl.isList.typeIs,fun a e=>?_⟩
   cases e
   obtain⟨o,n,e,c,hd,_⟩:=pl
   exact⟨o,e,hd⟩
  ·refine⟨⟨o,I.kIn p o hk,hc⟩,fun a e=>?_⟩
   cases e
   exact⟨o,I.kIn _ o hk,hd⟩
  ·have z:∃ o,s.heap.get? p=some o/\o.ExactDict:=by
    rcases hk with ⟨kvs,hk⟩ | ⟨kvs,hk⟩
    ·obtain⟨_,_,_,_,o,_,_,e,ex,_⟩:=I.hok p _ hk
     exact⟨o,e,ex⟩
    ·obtain⟨_,_,_,_,o,_,_,e,ex,_⟩:=I.hok p _ hk
     exact⟨o,e,ex⟩
   obtain⟨o,e,ex⟩:=z
   refine⟨⟨o,e,ex.1⟩,fun a e2=>?_⟩
   cases e2
   exact⟨o,e,ex.2.1⟩
  ·obtain⟨o,_,_,_,e,ex,_⟩:=I.hok p _ hk
   refine⟨⟨o,e,ex.1⟩,fun a e2=>?_⟩
   cases e2
   exact⟨o,e,ex.2.1⟩
 | _=>exact False.elim ty
noncomputable def zO6 (K:PySem.W.Frag) (T:String) (r:V->List V->Hp->VK->Prop) (to:TE):TE:=fun σ H Q=>to σ H fun x H1=>tyV K T x H1/\r x [] H1 Q
noncomputable def tBM (K:PySem.W.Frag) (T:String) (r:V->List V->Hp->VK->Prop) (to:TE) (t:TA):TE:=fun σ H Q=>to σ H fun x H1=>tyV K T x H1/\t σ H1 fun xs H2=>r x xs H2 Q
variable {o e:Expr}{es:List Expr}{to:TE}{t:TA}{name:Str}{apos cpos:Pos}{T id:String}{r:V->List V->Hp->VK->Prop}
theorem zMw (pa:PlainAttrs T) (slot:Slot T name id) (hty:typeOf (.builtin id)=pure (.type "method_descriptor")) (hm:MtR X id r) (ho:PE X o to)
  (hbase:attributeBase o name X.env (eval o X.env)=eval o X.env:=by rfl) (hline:(apos.endLine == cpos.line)=true:=by rfl):PE X (.Call (.Attribute o name apos) [] [] cpos) (zO6 X.K T r to):=by
 intro pins s σ H Q I h
 refine wpAny_Call_method0_late hbase hline (thn (ho pins s σ H _ I h) fun v s1 ⟨x,H1,I1,r1,ty,q1⟩=>?_)
 obtain⟨h1,h2⟩:=zFw I1 r1 ty
 exact⟨T,id,pa,slot,hty,h1,h2,Calls.callWith_builtin rfl (PySem.evalArgs_none (hm pins s1 σ H1 x [] v [] Q I1 r1 .nil q1))⟩
theorem zKu (pa:PlainAttrs T) (slot:Slot T name id) (hty:typeOf (.builtin id)=pure (.type "method_descriptor")) (hm:MtR X id r) (ho:PE X o to) (ha:PA X (e::es) t)
  (hbase:attributeBase o name X.env (eval o X.env)=eval o X.env:=by rfl)
  (hfew:((backTo cpos (starEach (e::es) X.env)).all (fun x=>!x.1) && (backToKw cpos (keywordEach [] X.env)).all (fun x=>x.1.isSome)
   && decide ((e::es).length+([]:List Keyword).length+(if ([]:List Keyword).isEmpty then 0 else 1) < 30))=true:=by rfl)
  (hline:(apos.endLine == cpos.line)=true:=by rfl) (hs:starEach (e::es) X.env=(false,eval e X.env)::starEach es X.env:=by rfl) (hplain:(backTo cpos (starEach es X.env)).any (·.1)=false:=by rfl) :
  PE X (.Call (.Attribute o name apos) (e::es) [] cpos) (tBM X.K T r to t):=by
 intro pins s σ H Q I h
 refine wpAny_Call_method_late hbase hfew hline rfl (thn (ho pins s σ H _ I h) fun v s1 ⟨x,H1,I1,r1,ty,q1⟩=>?_)
 obtain⟨h1,h2⟩:=zFw I1 r1 ty
 refine⟨T,id,pa,slot,hty,h1,h2,?_⟩
 have hA:=ha cpos pins s1 σ H1 _ I1 q1
 rw[hs] at hA ⊢
 refine Calls.callWith_builtin (by show (false || (backTo cpos (starEach es X.env)).any (·.1))=false;rw[hplain]<;>rfl) (Calls.evalArgs_plain ?_)
 exact thn hA fun us s2 ⟨vs,H2,I2,r2,q2⟩=>hm pins s2 σ H2 x vs v us Q I2 r1 r2 q2
end
end L2
namespace L2
open PySem PySem.Spec PyProof.Rows
noncomputable def MtM (X:Cx) (id:String) (r:V->List V->Hp->VK->Prop):Prop :=
 ∀ (pins:List (Addr×Obj)) (s:Shared) (σ:St) (H:Hp) (x:V) (xs:List V) (v:Value) (us:List Value) (Q:VK),Inv X pins σ H s->zh x v->zd xs us->r x xs H Q ->
  wpAny (model X.prog X.w) X.A (call (.builtin id) (v::us)) (EP X pins σ Q) X.xe s
theorem zd.one:∀ {x:V}{us:List Value},zd [x] us->∃ u,us=[u]/\zh x u
 | _,_,.cons r .nil=>⟨_,rfl,r⟩
theorem zd.zero:∀ {us:List Value},zd [] us->us=[]
 | _,.nil=>rfl
theorem zd.dropLast {xs:List V}{us:List Value} (h:zd xs us):zd xs.dropLast us.dropLast:=by
 induction h with
 | nil=>exact .nil
 | cons r t ih =>
  cases t with
  | nil=>exact .nil
  | cons q t'=>exact .cons r ih
theorem zd.rep {xs:List V}{us:List Value} (h:zd xs us):∀ k:Nat,zd (List.replicate k xs).flatten (List.replicate k us).flatten
 | 0=>.nil
 | k+1=>by
  rw[List.replicate_succ,List.replicate_succ,List.flatten_cons,List.flatten_cons]
  exact zd.append h (zd.rep h k)
theorem zHa {α:Type} (l:List α):l.eraseIdx (l.length - 1)=l.dropLast:=by
 induction l with
 | nil=>rfl
 | cons a r ih =>
  cases r with
  | nil=>rfl
  | cons b r =>
   have e:(a::b::r).length - 1=((b::r).length - 1)+1:=by
    have h1:(a::b::r).length=r.length+2:=rfl
    have h2:(b::r).length=r.length+1:=rfl
    omega
   rw[e,List.eraseIdx_cons_succ,ih]
   all_goals rfl
theorem zFA (its:List Value):∀ (k:Nat) (acc:List Value),
  List.foldl (fun x1 x2=>x1++x2) acc.toArray (List.replicate k its.toArray)=(acc++(List.replicate k its).flatten).toArray
 | 0,acc=>by simp
 | k+1,acc=>by
  have e:acc.toArray++its.toArray=(acc++its).toArray:=by simp
  have e2:(acc++its)++(List.replicate k its).flatten=acc++(List.replicate (k+1) its).flatten:=by
   rw[List.replicate_succ,List.flatten_cons,List.append_assoc]
  rw[<- e2,<- zFA its k (acc++its),<- e,List.replicate_succ,List.foldl_cons]
section
variable {X:Cx}{pins:List (Addr×Obj)}{σ:St}{H:Hp}{s:Shared}{l b:Addr}{xs ys zs:List V}
theorem Inv.lset {its its':List Value}{n:Nat}{f:Array Value->Array Value}{t':Nat} (I:Inv X pins σ H s) (hH:H l=some (.lst xs))
  (e:s.heap.get? l=some { cls:=.type "list",data:=.seq its.toArray n }) (hf:f its.toArray=its'.toArray) (hv:zd ys its') (hz:ys.length <= sizeLine) (ht:0 < t':=by first | exact Nat.succ_pos _ | assumption | exact Inv.tk (by assumption) | omega) :
  Inv X pins σ (upd H l (.lst ys)) { s with heap:=s.heap.update l (Obj.mapSeq f),toks:=t' }:=by
 have q:=PySem.IsL.update e f
 rw[hf] at q
 refine I.write (x:=l) (e:=l) (by rw[hH];exact trivial) (.inl rfl) (fun b' u hb hu=>(Heap.get?_update_other s.heap (Obj.mapSeq f) (Ne.symm hb)).trans hu) ⟨_,q⟩ ?_
 exact⟨hz,its',_,hv,q⟩
theorem Inv.lnew {its:List Value}{t':Nat} (I:Inv X pins σ H s) (hv:zd ys its) (hz:ys.length <= sizeLine) (ht:0 < t':=by first | exact Nat.succ_pos _ | assumption | exact Inv.tk (by assumption) | omega) :
  Inv X pins σ (upd H s.heap.objs.size (.lst ys)) { s with heap:=s.heap.push { cls:=.type "list",data:=.seq its.toArray },toks:=t' } :=
 I.laid (fun _ _ q=>Heap.get?_push_of_some _ q) (Nat.le_refl _) ⟨hz,its,0,hv,Heap.get?_push_size _ rfl⟩
theorem Inv.fresh (I:Inv X pins σ H s):H s.heap.objs.size=none:=I.hok.fresh (Nat.le_refl _)
theorem Inv.lstM (I:Inv X pins σ H s) (hH:H l=some (.lst xs)):xs.length <= sizeLine/\∃ (its:List Value) (n:Nat),zd xs its/\xs.length=its.length/\s.heap.get? l=some { cls:=.type "list",data:=.seq its.toArray n }:=by
 obtain⟨z,its,n,r,e⟩:=I.hok l _ hH
 exact⟨z,its,n,r,r.length,e⟩
theorem zJZ {n:Nat} (h:n <= sizeLine):Builtin.List.listTooLong n=false:=by
 unfold Builtin.List.listTooLong
 exact decide_eq_false (by omega)
end
section
variable {X:Cx}
noncomputable def zGt:V->List V->Hp->VK->Prop:=fun x vs H Q=>∃ l xs y,x=.ref l/\vs=[y]/\H l=some (.lst xs)/\xs.length < sizeLine/\Q .non (upd H l (.lst (xs++[y])))
theorem Zu:MtM X "list.append" zGt:=by
 intro pins s σ H x vs v us Q I rx rv h
 obtain⟨l,xs,y,rfl,rfl,hH,hz,q⟩:=h
 cases rx
 obtain⟨u,rfl,ru⟩:=rv.one
 obtain⟨z,its,n,r,hl,e⟩:=I.lstM hH
 refine call_meets F.slot_list_append ⟨_,e,rfl⟩ F.entry_list_append (F.args_list_append_2 _ _) (PySem.list_append l its.toArray n u (by rw[List.size_toArray];omega)) ⟨e,?_⟩
 refine⟨.non,_,I.lset (its':=its++[u]) hH e (by simp) (r.append (.cons ru .nil)) ?_,rfl,q⟩
 rw[List.length_append,List.length_singleton]
 omega
noncomputable def zNW:V->List V->Hp->VK->Prop:=fun x vs H Q=>∃ l xs y,x=.ref l/\vs=[]/\H l=some (.lst xs)/\xs[xs.length - 1]? = some y/\Q y (upd H l (.lst xs.dropLast))
theorem zIK:MtM X "list.pop" zNW:=by
 intro pins s σ H x vs v us Q I rx rv h
 obtain⟨l,xs,y,rfl,rfl,hH,hy,q⟩:=h
 cases rx
 have hus:=rv.zero
 subst hus
 obtain⟨z,its,n,r,hl,e⟩:=I.lstM hH
 obtain⟨u,hu,ru⟩:=r.get hy
 have hy':its.toArray[its.toArray.size - 1]? = some u:=by
  show its.toArray[its.length - 1]? = some u
  rw[<- Array.getElem?_toList,<- hl]
  exact hu
 refine call_meets F.slot_list_pop ⟨_,e,rfl⟩ F.entry_list_pop (F.args_list_pop_1 _) (MeetsSeq.list_pop_last l its.toArray n u hy' (by rw[List.size_toArray];omega)) ⟨e,?_⟩
 refine⟨y,_,I.lset (its':=its.dropLast) hH e ?_ r.dropLast ?_,ru,q⟩
 ·show its.toArray.eraseIdxIfInBounds (its.toArray.size - 1)=its.dropLast.toArray
  rw[List.size_toArray,List.eraseIdxIfInBounds_toArray,zHa]
 ·rw[List.length_dropLast]
  omega
noncomputable def zPP:R2:=fun x y H Q=>∃ l b xs zs,x=.ref l/\y=.ref b/\H l=some (.lst xs)/\H b=some (.lst zs)/\xs.length+zs.length <= sizeLine/\∀ p,H p=none->Q (.ref p) (upd H p (.lst (xs++zs)))
theorem zN6:OpR X (binaryOp .Add) zPP:=by
 intro pins s σ H x y v u Q I rx ry h
 obtain⟨l,b,xs,zs,rfl,rfl,hH,hB,hz,q⟩:=h
 cases rx
 cases ry
 obtain⟨z,its,n,r,hl,e⟩:=I.lstM hH
 obtain⟨z2,its2,n2,r2,hl2,e2⟩:=I.lstM hB
 refine PySem.P.add_list e e2 ?_ (by rw[List.size_toArray,List.size_toArray];omega)
 have ea:its.toArray++its2.toArray=(its++its2).toArray:=by simp
 rw[ea]
 exact⟨.ref _,_,I.lnew (t':=s.toks) (r.append r2) (by rw[List.length_append];omega),rfl,q _ I.fresh⟩
noncomputable def zNG:R2:=fun x y H Q=>∃ l k xs,x=.ref l/\y=.int k/\H l=some (.lst xs) /\ -(2 ^ 63) <= k/\k < 2 ^ 63/\xs.length * k.toNat <= sizeLine /\
 ∀ p,H p=none->Q (.ref p) (upd H p (.lst (List.replicate k.toNat xs).flatten))
theorem zMC {α:Type} (xs:List α) (k:Nat):(List.replicate k xs).flatten.length=k * xs.length:=by
 induction k with
 | zero=>simp
 | succ k ih=>rw[List.replicate_succ,List.flatten_cons,List.length_append,ih,Nat.succ_mul,Nat.add_comm]
theorem zNK:OpR X (binaryOp .Mult) zNG:=by
 intro pins s σ H x y v u Q I rx ry h
 obtain⟨l,k,xs,rfl,rfl,hH,h1,h2,hz,q⟩:=h
 cases rx
 obtain⟨t,rfl⟩:=ry
 obtain⟨z,its,n,r,hl,e⟩:=I.lstM hH
 have hlen:its.toArray.size * k.toNat <= sizeLine:=by rw[List.size_toArray,<- hl];exact hz
 have hcap:¬ its.toArray.size * k.toNat > (2 ^ 63 - 1) / 8:=by
  have:(sizeLine:Nat) <= (2 ^ 63 - 1) / 8:=by decide
  omega
 have hfit:¬ (!Builtin.List.listFitsIndex k)=true:=by
  rw[fitsIndex_both h1 h2]
  exact Bool.false_ne_true
 have hlong:¬ Builtin.List.listTooLong (its.toArray.size * k.toNat)=true:=by
  rw[zJZ hlen]
  exact Bool.false_ne_true
 have hnew:List.foldl (fun x1 x2=>x1++x2) #[] (List.replicate (if its.toArray.isEmpty=true then 0 else k.toNat) its.toArray)=(List.replicate k.toNat its).flatten.toArray:=by
  have f0:∀ m:Nat,List.foldl (fun x1 x2=>x1++x2) #[] (List.replicate m its.toArray)=(List.replicate m its).flatten.toArray:=fun m=>by
   have:=zFA its m []
   rw[List.nil_append] at this
   exact this
  rw[f0]
  cases its with
  | nil=>simp
  | cons a r'=>rw[if_neg (by simp)]
 refine wpAny_binaryOp_repeat_ref (T := "list") (U := "int") (by decide) ⟨_,e,rfl⟩ (fun s'=>typeIs_int s' k t) noFill_list_mul F.fills_int_mul F.slot_int_rmul repeat_list F.slot_int_index.lookup
  (call_meets F.slot_int_rmul (typeIs_int s k t) F.entry_int_rmul (F.args_int_rmul_2 _ _) (int___rmul___int_list k t l its.toArray n)
   ⟨e,rfl,⟨_,e,rfl⟩,call_meets F.slot_list_mul ⟨_,e,rfl⟩ F.entry_list_mul (F.args_list_mul_2 _ _) (AutoListH.list___mul___list_int_3 l its.toArray n k t hfit hcap hlong) ⟨e,?_⟩⟩)
 rw[hnew]
 exact⟨.ref _,_,I.lnew (t':=s.toks) (r.rep k.toNat) (by rw[zMC,Nat.mul_comm];exact hz),rfl,q _ I.fresh⟩
end
section
variable {prog:Program}{w:World}{A:Around}{E:Value->Shared->Prop}{s:Shared}
set_option maxRecDepth 100000 in
end
end L2
namespace L2
open PySem PySem.Spec PyProof.Rows
section
variable {κ:Type} [DecidableEq κ]
noncomputable def Ze (kvs:List (κ×V)) (k:κ):Option V:=(kvs.find? fun kv=>decide (kv.1=k)).map (·.2)
noncomputable def ZW (kvs:List (κ×V)) (k:κ) (v:V):List (κ×V) :=
 if (kvs.any fun kv=>decide (kv.1=k))=true then kvs.map (fun kv=>if kv.1=k then (kv.1,v) else kv) else kvs++[(k,v)]
theorem zBR {p:κ×V}{r:List (κ×V)}{k:κ} (e:p.1=k):Ze (p::r) k=some p.2:=by simp[Ze,List.find?_cons,e]
theorem zBa {p:κ×V}{r:List (κ×V)}{k:κ} (e:¬ p.1=k):Ze (p::r) k=Ze r k:=by simp[Ze,List.find?_cons,e]
theorem zF1 (k:κ):∀ kvs:List (κ×V),(kvs.any fun kv=>decide (kv.1=k))=(Ze kvs k).isSome
 | []=>rfl
 | p::r=>by
  rw[List.any_cons]
  by_cases e:p.1=k
  ·simp only[zBR e,decide_eq_true e,Bool.true_or,Option.isSome_some]
  ·rw[zBa e,decide_eq_false e,Bool.false_or];exact zF1 k r
theorem zCz (kvs:List (κ×V)) (k:κ) (v:V):(ZW kvs k v).length <= kvs.length+1:=by
 unfold ZW
 split
 ·rw[List.length_map];omega
 ·rw[List.length_append,List.length_cons,List.length_nil];omega
theorem QG.isSome_eq {o:Option V}{u:Option Value} (r:QG o u):o.isSome=u.isSome:=by
 cases o with
 | none=>cases u with
  | none=>rfl
  | some _=>exact (show False from r).elim
 | some _=>cases u with
  | none=>exact (show False from r).elim
  | some _=>rfl
theorem KV.val {kvs:List (κ×V)}{vs:List (κ×Value)} (r:KV kvs vs) (k:κ):QG (Ze kvs k) (valueAt vs k):=by
 unfold KV at r
 induction r with
 | nil=>exact True.intro
 | @cons p q ps qs h t ih =>
  obtain⟨h1,h2⟩:=h
  by_cases e:p.1=k
  ·have e':q.1=k:=h1.symm.trans e
   have b:valueAt (q::qs) k=some q.2:=by simp[valueAt,List.find?_cons,e']
   rw[zBR e,b];exact h2
  ·have e':¬ q.1=k:=fun z=>e (h1.trans z)
   have b:valueAt (q::qs) k=valueAt qs k:=by simp[valueAt,List.find?_cons,e']
   rw[zBa e,b];exact ih
theorem KV.any {kvs:List (κ×V)}{vs:List (κ×Value)} (r:KV kvs vs) (k:κ):(kvs.any fun kv=>decide (kv.1=k))=vs.any fun kv=>decide (kv.1=k):=by
 unfold KV at r
 induction r with
 | nil=>rfl
 | cons h t ih=>rw[List.any_cons,List.any_cons,ih,h.1]
theorem KV.repl {kvs:List (κ×V)}{vs:List (κ×Value)} (r:KV kvs vs) (k:κ) {y:V}{u:Value} (ry:zh y u) :
  KV (kvs.map fun kv=>if kv.1=k then (kv.1,y) else kv) (vs.map fun kv=>if kv.1=k then (kv.1,u) else kv):=by
 unfold KV at r ⊢
 induction r with
 | nil=>exact .nil
 | @cons p q ps qs h t ih =>
  rw[List.map_cons,List.map_cons]
  refine .cons ?_ ih
  obtain⟨h1,h2⟩:=h
  by_cases e:p.1=k
  ·rw[if_pos e,if_pos (h1.symm.trans e)];exact⟨h1,ry⟩
  ·rw[if_neg e,if_neg (fun z=>e (h1.trans z))];exact⟨h1,h2⟩
theorem KV.put {kvs:List (κ×V)}{vs:List (κ×Value)} (r:KV kvs vs) (k:κ) {y:V}{u:Value} (ry:zh y u):KV (ZW kvs k y) (stored vs k u):=by
 unfold ZW stored
 rw[r.any k]
 by_cases e:(vs.any fun kv=>decide (kv.1=k))=true
 ·rw[if_pos e,if_pos e];exact r.repl k ry
 ·rw[if_neg e,if_neg e];exact Paired.snoc r ⟨rfl,ry⟩
theorem KV.keys {kvs:List (κ×V)}{vs:List (κ×Value)} (r:KV kvs vs):kvs.map (·.1)=vs.map (·.1):=by
 unfold KV at r
 induction r with
 | nil=>rfl
 | cons h t ih=>rw[List.map_cons,List.map_cons,ih,h.1]
theorem KV.length {kvs:List (κ×V)}{vs:List (κ×Value)} (r:KV kvs vs):kvs.length=vs.length:=Paired.length r
end
theorem zCl {P:Program}{w:World}{k:Key}{u:Value} (r:zh (kV k) u):(jP P w).is k u=true:=by
 cases k with
 | inl i=>obtain⟨t,e⟩:=(show ∃ t,u=Value.int i t from r);subst e;exact zGg P w i t
 | inr x=>obtain⟨t,e⟩:=(show ∃ t,u=Value.str x t from r);subst e;exact zGk P w x t
theorem zFC {P:Program}{w:World}:∀ {ks:List Key}{us:List Value},zd (ks.map kV) us->ItemsAre (jP P w) ks us
 | [],_,r=>by rw[List.map_nil] at r;cases r;exact .nil
 | k::ks,_,r=>by
  rw[List.map_cons] at r
  cases r with
  | cons h t=>exact .cons (zCl h) (zFC t)
noncomputable abbrev KT (H:Hp):List (List Key×V)->List (List Key×Addr×Value)->Prop:=Paired fun p q=>p.1=q.1/\H q.2.1=some (.tup (p.1.map kV))/\zh p.2 q.2.2
theorem KT.val {H:Hp}{kvs:List (List Key×V)}{xs:List (List Key×Addr×Value)} (r:KT H kvs xs) (k:List Key):QG (Ze kvs k) ((atKey xs k).map (·.2)):=by
 induction r with
 | nil=>exact True.intro
 | @cons p q ps qs h t ih =>
  obtain⟨h1,_,h2⟩:=h
  by_cases e:p.1=k
  ·have e':q.1=k:=h1.symm.trans e
   have b:atKey (q::qs) k=some q.2:=by simp[atKey,List.find?_cons,e']
   rw[zBR e,b];exact h2
  ·have e':¬ q.1=k:=fun z=>e (h1.trans z)
   have b:atKey (q::qs) k=atKey qs k:=by simp[atKey,List.find?_cons,e']
   rw[zBa e,b];exact ih
theorem KT.repl {H:Hp}{kvs:List (List Key×V)}{xs:List (List Key×Addr×Value)} (r:KT H kvs xs) (k:List Key) {y:V}{u:Value} (ry:zh y u) :
  KT H (kvs.map fun kv=>if kv.1=k then (kv.1,y) else kv) (xs.map (putAt k u)):=by
 induction r with
 | nil=>exact .nil
 | @cons p q ps qs h t ih =>
  rw[List.map_cons,List.map_cons]
  refine .cons ?_ ih
  obtain⟨h1,h2,h3⟩:=h
  unfold putAt
  by_cases e:p.1=k
  ·rw[if_pos e,if_pos (h1.symm.trans e)];exact⟨h1,h2,ry⟩
  ·rw[if_neg e,if_neg (fun z=>e (h1.trans z))];exact⟨h1,h2,h3⟩
theorem KT.put {H:Hp}{kvs:List (List Key×V)}{xs:List (List Key×Addr×Value)} (r:KT H kvs xs) (k:List Key) {b:Addr}{y:V}{u:Value} (hb:H b=some (.tup (k.map kV))) (ry:zh y u) :
  KT H (ZW kvs k y) (storedH xs k b u):=by
 have e:(kvs.any fun kv=>decide (kv.1=k))=(atKey xs k).isSome:=by
  rw[zF1,(r.val k).isSome_eq,Option.isSome_map]
 unfold ZW storedH
 rw[e]
 by_cases q:(atKey xs k).isSome=true
 ·rw[if_pos q,if_pos q];exact r.repl k ry
 ·rw[if_neg q,if_neg q];exact Paired.snoc r ⟨rfl,hb,ry⟩
theorem KT.keeps {H H':Hp}{kvs:List (List Key×V)}{xs:List (List Key×Addr×Value)} (r:KT H kvs xs) (ht:∀ b ys,H b=some (.tup ys)->H' b=some (.tup ys)):KT H' kvs xs :=
 Paired.mapP r fun _ _ z=>⟨z.1,ht _ _ z.2.1,z.2.2⟩
section
variable {P:Program}{w:World}{H:Hp}{h:Heap}{a:Addr}
theorem zKz {u:HO} (ok:HOk P w H h) (e:Rd H a u):je P w H h a u:=e.ok ok
theorem zCn {kvs:List (Key×V)} (ok:HOk P w H h) (e:Rd H a (.dK kvs)):kvs.length <= sizeLine/\(a == sysModules)=false/\∃ vs,KV kvs vs/\h.DictOf (jP P w) a vs :=
 show je P w H h a (.dK kvs) from zKz ok e
theorem zBJ {kvs:List (Key×V)} (ok:HOk P w H h) (e:H a=some (.dK kvs)):kvs.length <= sizeLine/\(a == sysModules)=false/\∃ vs,KV kvs vs/\h.DictOf (jP P w) a vs:=zCn ok (.inl e)
theorem zCQ {ks:List Key} (ok:HOk P w H h) (e:H a=some (.tup (ks.map kV))):(tupleKind (jP P w)).is h ks a:=by
 obtain⟨_,its,r,o,h1,h2,n,h3⟩:=(show je P w H h a (.tup (ks.map kV)) from ok a _ e)
 exact⟨o,its.toArray,n,h1,h2,h3,by simpa using zFC r⟩
theorem zDu {kvs:List (List Key×V)} (ok:HOk P w H h) (e:Rd H a (.dT kvs)):kvs.length <= sizeLine/\(a == sysModules)=false /\
  ∃ xs,KT H kvs xs/\h.DictOfH (tupleKind (jP P w)) a xs:=by
 obtain⟨z,y,xs,r,o,es,ep,h1,h2,h3,h4,h5⟩:=(show je P w H h a (.dT kvs) from zKz ok e)
 refine⟨z,y,xs,r,o,es,ep,h1,h2,h3,h4,fun x hx=>?_,h5⟩
 have all:∀ {l:List (List Key×V)}{m:List (List Key×Addr×Value)},KT H l m->∀ x∈m,(tupleKind (jP P w)).is h x.1 x.2.1:=by
  intro l m q
  induction q with
  | nil=>intro x hx;exact nomatch hx
  | @cons p q ps qs hq t ih =>
   intro x hx
   rcases List.mem_cons.mp hx with e | hx
   ·subst e
    exact zCQ ok (by rw[<- hq.1];exact hq.2.1)
   ·exact ih x hx
 exact all r x hx
theorem zOi {kvs:List (List Key×V)} (ok:HOk P w H h) (e:H a=some (.dT kvs)):kvs.length <= sizeLine/\(a == sysModules)=false /\
  ∃ xs,KT H kvs xs/\h.DictOfH (tupleKind (jP P w)) a xs:=zDu ok (.inl e)
end
noncomputable def zAY (H:Hp) (a:Addr) (y:V) (r:Option V):Prop :=
 (∃ kvs k,Rd H a (.dK kvs)/\y=kV k/\r=Ze kvs k)\/∃ kvs k b,Rd H a (.dT kvs)/\y=.ref b/\H b=some (.tup (k.map kV))/\r=Ze kvs k
noncomputable def zGV (H:Hp) (a:Addr) (y v:V) (H':Hp):Prop :=
 (∃ kvs k,H a=some (.dK kvs)/\y=kV k/\kvs.length < sizeLine/\H'=upd H a (.dK (ZW kvs k v))) \/
 ∃ kvs k b,H a=some (.dT kvs)/\y=.ref b/\H b=some (.tup (k.map kV))/\kvs.length < sizeLine/\H'=upd H a (.dT (ZW kvs k v))
theorem zAY.k {H:Hp}{a:Addr}{kvs:List (Key×V)}{k:Key} (e:H a=some (.dK kvs)):zAY H a (kV k) (Ze kvs k):=.inl ⟨kvs,k,.inl e,rfl,rfl⟩
theorem zGV.k {H:Hp}{a:Addr}{kvs:List (Key×V)}{k:Key}{v:V} (e:H a=some (.dK kvs)) (hl:kvs.length < sizeLine):zGV H a (kV k) v (upd H a (.dK (ZW kvs k v))):=.inl ⟨kvs,k,e,rfl,hl,rfl⟩
section
variable {X:Cx}{pins:List (Addr×Obj)}{σ:St}{H:Hp}{s:Shared}{a:Addr}{y v:V}{u r:Value}{o:Option V}{A:Around}{E:Value->Shared->Prop}
theorem Inv.big (I:Inv X pins σ H s):sysModules < s.heap.objs.size:=by
 have h:mainGlobals < s.heap.objs.size:=(I.mod.glob.keeps I.bk).lt
 exact Nat.lt_trans (by decide) h
theorem zIF {Q:Value->Shared->Prop} (hu:A.units+1 < cLine) (I:Inv X pins σ H s) (g:zAY H a y (some v)) (ry:zh y u) (h:∀ w' s',Inv X pins σ H s'->zh v w'->Q w' s') :
  wpAny (model X.prog X.w) A (getItem (.ref a) u) Q E s:=by
 rcases g with ⟨kvs,k,e,ey,l⟩ | ⟨kvs,k,b,e,ey,eb,l⟩
 ·subst ey
  obtain⟨z,hd,vs,rel,dd⟩:=zCn I.hok e
  obtain⟨w',hw,rw'⟩:=QG.some_of (v:=v) (o:=valueAt vs k) (by rw[l];exact rel.val k)
  exact wpAny_getItem_of (zCl ry) dd.mapOf hw (h w' _ (I.tok _) rw')
 ·subst ey
  cases (show u=Value.ref b from ry)
  obtain⟨z,hd,xs,rel,dd⟩:=zDu I.hok e
  obtain⟨w',hw,rw'⟩:=QG.some_of (v:=v) (o:=(atKey xs k).map (·.2)) (by rw[l];exact rel.val k)
  obtain⟨p,hp,hp2⟩:=Option.map_eq_some_iff.mp hw
  refine wpAny_getItem_heap (tupleKind_room_in1 hu) (zCQ I.hok eb) dd hp ?_
  rw[hp2]
  exact h w' _ (I.tok _) rw'
theorem zO0 {Q:Value->Shared->Prop} (hu:A.units+1 < cLine) (I:Inv X pins σ H s) (g:zAY H a y o) (ry:zh y u) (h:∀ s',Inv X pins σ H s'->Q (.bool o.isSome) s') :
  wpAny (model X.prog X.w) A (compareOp .In u (.ref a)) Q E s:=by
 rcases g with ⟨kvs,k,e,ey,l⟩ | ⟨kvs,k,b,e,ey,eb,l⟩
 ·subst ey
  obtain⟨z,hd,vs,rel,dd⟩:=zCn I.hok e
  refine wpAny_in_of (zCl ry) hd dd.mapOf ?_
  rw[<- (rel.val k).isSome_eq,<- l]
  exact h _ (I.tok _)
 ·subst ey
  cases (show u=Value.ref b from ry)
  obtain⟨z,hd,xs,rel,dd⟩:=zDu I.hok e
  refine wpAny_in_heap (tupleKind_room_in1 hu) (zCQ I.hok eb) hd dd ?_
  have q:=(rel.val k).isSome_eq
  rw[Option.isSome_map] at q
  rw[<- q,<- l]
  exact h _ (I.tok _)
theorem zLU {Q:Value->Shared->Prop} (hu:A.units+1 < cLine) (I:Inv X pins σ H s) (g:zAY H a y o) (ry:zh y u) (h:∀ s',Inv X pins σ H s'->Q (.bool (!o.isSome)) s') :
  wpAny (model X.prog X.w) A (compareOp .NotIn u (.ref a)) Q E s:=by
 rcases g with ⟨kvs,k,e,ey,l⟩ | ⟨kvs,k,b,e,ey,eb,l⟩
 ·subst ey
  obtain⟨z,hd,vs,rel,dd⟩:=zCn I.hok e
  refine wpAny_notIn_of (zCl ry) hd dd.mapOf ?_
  rw[<- (rel.val k).isSome_eq,<- l]
  exact h _ (I.tok _)
 ·subst ey
  cases (show u=Value.ref b from ry)
  obtain⟨z,hd,xs,rel,dd⟩:=zDu I.hok e
  refine wpAny_notIn_heap (tupleKind_room_in1 hu) (zCQ I.hok eb) hd dd ?_
  have q:=(rel.val k).isSome_eq
  rw[Option.isSome_map] at q
  rw[<- q,<- l]
  exact h _ (I.tok _)
theorem zHH {h':Heap}{t':Nat}{ob:HO} (I:Inv X pins σ H s) (mu:Mut (H a)) (hs:Heap.SameBut a s.heap h') (he:∃ q,h'.get? a=some q) (new:je X.prog X.w (upd H a ob) h' a ob) (ht:0 < t':=by first | exact Nat.succ_pos _ | assumption | exact Inv.tk (by assumption) | omega) :
  Inv X pins σ (upd H a ob) { s with heap:=h',toks:=t' } :=
 I.write (x:=a) (e:=a) mu (.inl rfl) (fun b q hb z=>(hs.2 b hb).trans z) he new
theorem zFz {P:Program}{w:World}{H':Hp}{h':Heap}{kvs:List (Key×V)}{vs:List (Key×Value)} (z:kvs.length <= sizeLine) (hd:(a == sysModules)=false) (rel:KV kvs vs) (dd:h'.DictOf (jP P w) a vs) :
  je P w H' h' a (.dK kvs):=⟨z,hd,vs,rel,dd⟩
theorem zIt {H':Hp}{Q:Unit->Shared->Prop} (hu:A.units+1 < cLine) (I:Inv X pins σ H s) (g:zGV H a y v H') (ry:zh y u) (rv:zh v r) (h:∀ s',Inv X pins σ H' s'->Q () s') :
  wpAny (model X.prog X.w) A (setItem (.ref a) u r) Q E s:=by
 rcases g with ⟨kvs,k,e,ey,l,eH⟩ | ⟨kvs,k,b,e,ey,eb,l,eH⟩
 ·subst ey eH
  obtain⟨z,hd,vs,rel,dd⟩:=zBJ I.hok e
  have hz:vs.length <= sizeLine:=by rw[<- rel.length];exact z
  have hl:(ZW kvs k v).length <= sizeLine:=by have:=zCz kvs k v;omega
  refine wpAny_setItem_pairs (hsz:=hz) (zCl ry) dd fun h' dd' hs=>h _ ?_
  have he:∃ q,h'.get? a=some q:=let ⟨q,_,_,hq,_⟩:=dd';⟨q,hq⟩
  exact zHH I (by rw[e];exact True.intro) hs he (zFz hl hd (rel.put k rv) dd')
 ·subst ey eH
  cases (show u=Value.ref b from ry)
  obtain⟨z,hd,xs,rel,dd⟩:=zOi I.hok e
  have hz:xs.length <= sizeLine:=by rw[<- Paired.length rel];exact z
  have hl:(ZW kvs k v).length <= sizeLine:=by have:=zCz kvs k v;omega
  refine wpAny_setItem_heap (hsz:=hz) (tupleKind_room_in1 hu) (zCQ I.hok eb) dd fun h' dd' hs=>h _ ?_
  obtain⟨q,es,ep,hq,h2,h3,h4,_,h5⟩:=dd'
  refine zHH I (by rw[e];exact True.intro) hs ⟨q,hq⟩ ⟨hl,hd,_,(rel.put k eb rv).keeps fun c ys ec=>?_,q,es,ep,hq,h2,h3,h4,h5⟩
  rw[zf (zOU ec e (fun z=>nomatch z))]
  exact ec
end
section
variable {X:Cx}{pins:List (Addr×Obj)}{σ:St}{H:Hp}{s:Shared}{a:Addr}{kvs:List (Key×V)}{k:Key}{u:Value}{A:Around}{E:Value->Shared->Prop}
theorem zOs {Q:Value->Shared->Prop} (I:Inv X pins σ H s) (e:Rd H a (.dK kvs)) (h:∀ t s',Inv X pins σ H s'->Q (.int kvs.length t) s'):wpAny (model X.prog X.w) A (call (.builtin "len") [.ref a]) Q E s:=by
 obtain⟨z,hd,vs,rel,dd⟩:=zCn I.hok e
 refine call_len_dict hd dd (by rw[<- rel.length];rw[sizeLine_eq] at z;omega) ?_
 rw[<- rel.length]
 exact h _ _ (I.tok _)
end
theorem zGh {X:Cx}{pins:List (Addr×Obj)}{σ:St}{H:Hp}{s:Shared}{a:Addr}{y:V}{o:Option V} (I:Inv X pins σ H s) (g:zAY H a y o):s.TypeIs (.ref a) "dict" := by
 rcases g with ⟨kvs,k,e,_,_⟩ | ⟨kvs,k,b,e,_,_,_⟩
 ·obtain⟨_,_,vs,_,dd⟩:=zCn I.hok e
  exact dd.typeIs
 ·obtain⟨_,_,xs,_,dd⟩:=zDu I.hok e
  exact dd.typeIs
noncomputable def zOP (td ty tv:TE):TS:=fun D σ H=>tv σ H fun v H1=>td σ H1 fun x H2=>ty σ H2 fun y H3=>∃ a H4,x=.ref a/\zGV H3 a y v H4/\D.nx σ H4
section
variable {X:Cx}{o i e value:Expr}{pos pos' tpos:Pos}{td ty tv:TE}
theorem zK7 (hu:X.A.units+1 < cLine) (ho:PE X o td) (hi:PE X i ty) (hv:PE X value tv) (hs:swapsWith value (some (.Subscript o i pos')) pos.line X.env=pure false) :
  PS X (.Assign [.Subscript o i pos'] value pos) (zOP td ty tv):=by
 intro pins s σ H D I h
 refine wpAny_Assign_Subscript (thn (hv pins s σ H _ I h) fun r s1 ⟨v,H1,I1,rv,q1⟩=>thn (ho pins s1 σ H1 _ I1 q1) fun u s2 ⟨x,H2,I2,rx,q2⟩=>thn (hi pins s2 σ H2 _ I2 q2) fun iv s3 ⟨y,H3,I3,ry,a,H4,ex,g,q3⟩=>?_) hs
 subst ex
 obtain rfl:u=Value.ref a:=rx
 exact zIt hu I3 g ry rv fun s4 I4=>⟨σ,H4,I4,q3⟩
end
theorem zJb {P:Program}{w:World}{H:Hp} (h:Heap) (hb:sysModules < h.objs.size):je P w H (h.push { cls:=.type "dict",data:=.dict #[] }) h.objs.size (.dK []) :=
 ⟨Nat.zero_le _,beq_eq_false_iff_ne.mpr (Ne.symm (Nat.ne_of_lt hb)),[],.nil,Heap.DictOf.new h⟩
noncomputable def zNh:TE:=fun _ H Q=>∀ p,H p=none->Q (.ref p) (upd H p (.dK []))
section
variable {X:Cx}{pos:Pos}
theorem zJP:PE X (.Dict [] [] pos) zNh:=fun pins s σ H Q I h =>
 wpAny_Dict_empty ⟨.ref s.heap.objs.size,_,I.laid (a:=s.heap.objs.size) (o:=.dK []) (t':=s.toks) (fun _ _ q=>Heap.get?_push_of_some _ q) (Nat.le_refl _) (zJb s.heap I.big),rfl,h _ (I.hok.fresh (Nat.le_refl _))⟩
end
structure M1 (X:Cx) (o:Expr) (m:Str) (apos:Pos) (e:Expr) (cpos:Pos):Prop where
 base:attributeBase o m X.env (eval o X.env)=eval o X.env
 few:((backTo cpos (starEach [e] X.env)).all (fun x=>!x.1) && (backToKw cpos (keywordEach [] X.env)).all (fun x=>x.1.isSome)
  && decide (([e]:List Expr).length+([]:List Keyword).length+(if ([]:List Keyword).isEmpty then 0 else 1) < 30))=true
 line:(apos.endLine == cpos.line)=true
 trees:backTo cpos (starEach [e] X.env)=[(false,eval e X.env)]
structure M2 (X:Cx) (o:Expr) (m:Str) (apos:Pos) (e f:Expr) (cpos:Pos):Prop where
 base:attributeBase o m X.env (eval o X.env)=eval o X.env
 few:((backTo cpos (starEach [e,f] X.env)).all (fun x=>!x.1) && (backToKw cpos (keywordEach [] X.env)).all (fun x=>x.1.isSome)
  && decide (([e,f]:List Expr).length+([]:List Keyword).length+(if ([]:List Keyword).isEmpty then 0 else 1) < 30))=true
 line:(apos.endLine == cpos.line)=true
 trees:backTo cpos (starEach [e,f] X.env)=[(false,eval e X.env),(false,eval f X.env)]
end L2
namespace Att
open PySem PySem.W PySem.Calls PyProof.Rows
theorem zDt {P:Params}{h:Heap}:∀ (ns:List Int) (vs:List Value),WellAll P h vs (ns.map WData.int)->IntsAre vs ns:=by
 intro ns
 induction ns with
 | nil =>
  intro vs w
  rw[List.map_nil] at w
  cases w
  exact .nil
 | cons n ns ih =>
  intro vs w
  rw[List.map_cons] at w
  cases w with
  | cons a b =>
   cases a
   exact .cons _ _ (ih _ b)
theorem zJA {l:OpenLaw}{n:Nat} (hn:l.most=some n) {P:Params}{h:Heap}{args:List WData}{vals:List Value}
  (hpre:l.row.toRowW.claim.pre args=true) (hwl:WellAll P h vals args) :
  ∃ a vs ns,vals=[Value.ref a]/\args=[WData.list (ns.map WData.int)]/\h.get? a=some { cls:=.type "list",data:=.seq vs.toArray }/\IntsAre vs ns/\ns.length <= n:=by
 have hsh:WShape.hasAll [] args [.list .int]=true:=(pre_splitW hpre).1
 have hc:l.pre.holds [] { args:=args }=true:=(pre_splitW hpre).2
 obtain⟨d,r,rfl,h1,h2⟩:=hasAllW_cons hsh
 obtain rfl:=hasAllW_nil h2
 obtain⟨xs,rfl,h3⟩:=hasW_list h1
 obtain⟨ns,rfl⟩:=items_int h3
 have hlen:ns.length <= n:=by
  unfold OpenLaw.pre at hc
  have h4:(WTm.not (.lt (.lit (.int (n:Int))) (.len (.arg 0)))).holds [] { args:=[.list (ns.map .int)] }=true:=by
   have h4:=(holds_andW hc).1
   rw[hn] at h4
   exact h4
  have h5:=condW_of h4 (w_not (w_lt w_lit (w_len_list (w_arg rfl))))
  rw[List.length_map] at h5
  refine Nat.le_of_not_lt fun q=>?_
  have q':(n:Int) < ((ns.length:Nat):Int):=by omega
  first
   | (rw[decide_eq_true q'] at h5;exact absurd h5 (by decide))
   | (simp at h5;omega)
 cases hwl with
 | cons w1 w2 =>
  cases w2
  cases w1 with
  | list ho hall=>exact⟨_,_,ns,rfl,rfl,ho,zDt ns _ hall,hlen⟩
theorem zIQ (l:OpenLaw) (args:List WData):l.row.toRowW.claim.post args (.bool true) args=true :=
 postW_of (r:=l.row.toRowW) (X:=(true == true))
  (show WShape.has [] (.bool true) .bool=true by first | rfl | decide | simp[WShape.has,WShape.arms,WShape.armsAll])
  (show (WTm.eq .res (.lit (.bool true))).value [] { args:=args,res:=some (.bool true),after:=args }=some (.bool (true == true)) from w_eq_bool (w_res rfl) w_lit) rfl
theorem zGi {l:OpenLaw}{n:Nat}{q:Program}{loose:List Str}{XP:(Str->Option Value)->Heap->Prop}{YP:World->Heap->Prop}{d:DefRec}
  (hn:l.most=some n) (hdf:d.params.defaults=[])
  (call:∀ (w:World) (s₀ s₁:Shared) (mg mb:Str->Option Value) (fa:Addr) (o:Obj) (pm cd doc:Value) (a:Addr) (vs:List Value) (ns:List Int),
   Ground q loose [] XP w s₀ mg mb s₁.heap->YP w s₁.heap ->
   s₁.heap.get? fa=some o->o.data=.func (docDef d.name d.params d.body d.scope pm cd doc)->s₁.heap.CodeRec cd d.name->mg d.name=some (.ref fa) ->
   s₁.heap.get? a=some { cls:=.type "list",data:=.seq vs.toArray }->IntsAre vs ns->ns.length <= n->s₁.gens = #[] ->
   codeAny (model l.prog w) callerA (.call (.ref fa) ⟨[.ref a],[]⟩) (fun r s'=>r=.ok (.ret (.bool true))/\OldK s₁.heap s'.heap/\s'.os=s₁.os/\AllBare s'.gens) s₁) :
  WalkO q loose XP YP l.row.toRowW d [] (fun f vs=>PySem.call f vs):=by
 intro w s₀ s₁ mg mb G Y fa o pm cd doc dV kV ho hd hcd hD hmg hg args vals as hpre hlay hrd hwl hlo
 obtain rfl:dV=.none:=Dflts.none hD hdf
 obtain rfl:kV=.none:=Dflts.noKw hD
 obtain⟨a,vs,ns,rfl,rfl,hobj,hints,hlen⟩:=zJA hn hpre hwl
 refine enter_call (codeAny_mono (call w s₀ s₁ mg mb fa o pm cd doc a vs ns G Y ho (fd_plain hd) hcd hmg hobj hints hlen hg) fun r s' hq=>?_)
 obtain⟨rfl,h2,h3,h4⟩:=hq
 exact⟨.inl ⟨.bool true,.bool true,[],rfl,fun _=>rfl,.bool true,zIQ l _,fun _=>⟨List.Pairwise.nil,fun _ hm=>(nomatch hm)⟩⟩,h2,h3,h4⟩
end Att
namespace L2
open PySem PySem.Spec PyProof.Rows
theorem zFB:∀ {vs:List Value}{ns:List Int},IntsAre vs ns->zd (ns.map V.int) vs
 | _,_,.nil=>.nil
 | _,_,.cons n t h=>.cons ⟨t,rfl⟩ (zFB h)
noncomputable def zGJ (H:Hp):Prop:=∀ b,H b=none\/∃ o xs,H b=some (.frz o (.lst xs))
theorem zJT {P:Program}{w:World}{K:PySem.W.Frag}{mg mb:Str->Option Value}{CX:CXT}{k:Nat}{fa a:Addr}{fd:FuncData}{x:Str}{sp:Sp}{s₁:Shared}{vs:List Value}{ns:List Int}
  (KX:K.In s₁.heap) (hns:s₁.heap.Ns mainGlobals mg) (hb:s₁.heap.Ns builtinsNs mb) (hbb:∀ x:Str,x ≠ "__name__" -> mb x=bootBuiltins x) (hlim:s₁.heap.NoLimit) (hg:s₁.gens = #[])
  (ha:s₁.heap.get? a=some { cls:=.type "list",data:=.seq vs.toArray }) (hi:IntsAre vs ns) (hl:ns.length <= sizeLine) (hr:zy k callerA)
  (F:∀ base:Heap,K.In base->base.Ns mainGlobals mg->jW P w K mg base CX k fa fd [x] sp) (hT:fd.scope.names.lookup x=some .local) (hbind:∀ (s:Shared) (u:Value),BindsTo s fd ⟨[u],[]⟩ [(x,u)])
  (hsp:∀ H:Hp,zGJ H->SqL K H a (ns.map V.int)->sp [.ref a] H (fun v _=>v=.bl true) fun _ _ _=>False)
  (hCX:∀ H e s',CX [] H s₁ (fun _ _ _=>False) e s'->False) :
  codeAny (model P w) callerA (.call (.ref fa) ⟨[.ref a],[]⟩) (fun r s'=>r=.ok (.ret (.bool true))/\OldK s₁.heap s'.heap/\s'.os=s₁.os/\AllBare s'.gens) s₁:=by
 have rv:=zFB hi
 have lenV:=hi.length
 have core:∀ H:Hp,zGJ H->SqL K H a (ns.map V.int)->HOk P w H s₁.heap->(∀ b,H b≠none->b=a)->(H a≠none->K.lookup a=none) ->
   codeAny (model P w) callerA (.call (.ref fa) ⟨[.ref a],[]⟩) (fun r s'=>r=.ok (.ret (.bool true))/\OldK s₁.heap s'.heap/\s'.os=s₁.os/\AllBare s'.gens) s₁:=by
  intro H hO hS hok hA hK
  have base_of:∀ {b:Addr}{o:Obj},s₁.heap.get? b=some o->H b=none->(zBI s₁.heap H).get? b=some o:=fun e n=>zJW e n
  have noA:∀ {b:Addr}{o:Obj}{es:Array DictEntry}{ep:Nat},s₁.heap.get? b=some o->o.data=.dict es ep->H b=none:=fun {b o es ep} e d=>by
   cases q:H b with
   | none=>rfl
   | some u =>
    have e':b=a:=hA b (by rw[q];simp)
    subst e'
    rw[ha] at e;cases e
    have d':Data.seq vs.toArray _=Data.dict es ep:=d
    cases d'
  have nsK:∀ {b:Addr}{m:Str->Option Value},s₁.heap.Ns b m->(zBI s₁.heap H).Ns b m:=fun {b m} ⟨o,es,ep,e,d,r⟩=>⟨o,es,ep,base_of e (noA e d),d,r⟩
  have hKb:K.In (zBI s₁.heap H):=fun b o e=>base_of (KX b o e) (by
   cases q:H b with
   | none=>rfl
   | some u =>
    have e':b=a:=hA b (by rw[q];simp)
    subst e'
    rw[hK (by rw[q];simp)] at e;cases e)
  have hM:Mod K mg (zBI s₁.heap H):=⟨hKb,nsK hns,⟨mb,nsK hb,hbb⟩,let ⟨mc,h1,h2⟩:=hlim;⟨mc,nsK h1,h2⟩⟩
  have e0:zC1 P w K mg (zBI s₁.heap H) callerA [] s₁ H:=⟨rfl,hM,fun b o e=>zLz e,Nat.le_of_eq (zIV _ _),trivial,fun b hb=>absurd (show b∈([]:List Addr) from hb) (by simp),hok,.of_eq hg⟩
  refine codeAny_mono ((F _ hKb (nsK hns)).run callerA [] s₁ H ⟨[.ref a],[]⟩ [.ref a] [.ref a] _ _ hr e0 (.inr ⟨x,List.mem_singleton.mpr rfl,hT⟩) (hbind s₁ (.ref a)) (.cons rfl .nil) (hsp H hO hS)) fun r s' h=>?_
  cases r with
  | error e=>exact (hCX H e s' h).elim
  | ok fl =>
   cases fl with
   | next=>exact False.elim h
   | brk=>exact False.elim h
   | cont=>exact False.elim h
   | ret u =>
    obtain⟨v,H',os,bare,un,hok',r',q⟩:=h
    have q':v=.bl true:=q
    subst q'
    obtain rfl:u=Value.bool true:=r'
    refine⟨rfl,OldK.of_keep fun b o e=>?_,os,bare⟩
    cases q:H b with
    | none=>exact un.keep b o e q (by intro z;exact absurd (show b∈([]:List Addr) from z) (by simp)) (by simp)
    | some u =>
     rcases hO b with z | ⟨ob,xs,z⟩
     ·rw[q] at z;cases z
     ·have z2:=un.frzs b ob _ z
      obtain⟨e1,_⟩:=hok b _ z
      obtain⟨e2,_⟩:=hok' b _ z2
      rw[e] at e1;cases e1
      exact e2
 cases hk:K.lookup a with
 | some o =>
  have e:=KX a o hk
  rw[ha] at e
  cases e
  refine core (fun _=>none) (fun _=>.inl rfl) (.inr ⟨_,vs.toArray,_,hk,rfl,rfl,rfl,by rw[List.size_toArray,lenV];exact hl,by simpa using rv⟩) (fun b u z=>by have z':(none:Option HO)=some u:=z;cases z') (fun b z=>absurd rfl z) fun z=>absurd rfl z
 | none =>
  refine core (fun b=>if b=a then some (.frz { cls:=.type "list",data:=.seq vs.toArray } (.lst (ns.map V.int))) else none) (fun b=>?_) (.inl (.inr ⟨{ cls:=.type "list",data:=.seq vs.toArray },if_pos rfl⟩)) (fun b u z=>?_) (fun b z=>?_) fun _=>hk
  ·by_cases hb:b=a
   ·exact .inr ⟨_,_,if_pos hb⟩
   ·exact .inl (if_neg hb)
  ·by_cases hb:b=a
   ·have z':=(if_pos hb).symm.trans z
    cases z'
    subst hb
    exact⟨ha,by rw[List.length_map];exact hl,vs,_,rv,ha⟩
   ·have z':=(if_neg hb).symm.trans z
    cases z'
  ·by_cases hb:b=a
   ·exact hb
   ·exact absurd (if_neg hb) z
end L2
namespace L2
open PySem PySem.Spec PyProof.Rows
theorem zLL {l:PySem.W.OpenLaw}{n k:Nat}{q:Program}{loose:List Str}{XP:(Str->Option Value)->Heap->Prop}{YP:World->Heap->Prop}{d:DefRec}{K:Params->PySem.W.Frag}{CX:World->CXT}{sp:World->Sp}{x:Str}
  (hn:l.most=some n) (hn2:n <= sizeLine) (hdf:d.params.defaults=[]) (hr:zy k callerA)
  (hY:∀ (w:World) (h:Heap),YP w h->(K w.params).In h)
  (F:∀ (w:World) (mg:Str->Option Value) (fa:Addr) (h:Heap),(K w.params).In h->h.Ns mainGlobals mg->mg d.name=some (.ref fa) ->
   ∃ fd:FuncData,(∀ (s:Shared) (u:Value),BindsTo s fd ⟨[u],[]⟩ [(x,u)])/\fd.scope.names.lookup x=some .local /\
    ∀ base:Heap,(K w.params).In base->base.Ns mainGlobals mg->jW l.prog w (K w.params) mg base (CX w) k fa fd [x] (sp w))
  (hsp:∀ (w:World) (H:Hp) (a:Addr) (ns:List Int),ns.length <= n->zGJ H->SqL (K w.params) H a (ns.map V.int)->sp w [.ref a] H (fun v _=>v=.bl true) fun _ _ _=>False)
  (hCX:∀ (w:World) (H:Hp) (s:Shared) (e:Value) (s':Shared),CX w [] H s (fun _ _ _=>False) e s'->False) :
  PySem.W.WalkO q loose XP YP l.row.toRowW d [] (fun f vs=>PySem.call f vs):=by
 refine Att.zGi hn hdf fun w s₀ s₁ mg mb fa o pm cd doc a vs ns G Y ho hd hcd hmg hobj hints hlen hg=>?_
 have KX:=hY w _ Y
 obtain⟨fd,hb,hT,hF⟩:=F w mg fa _ KX G.T.g hmg
 exact zJT KX G.T.g G.T.b G.T.builtins G.T.nolimit hg hobj hints (Nat.le_trans hlen hn2) hr hF hT hb (fun H hO hS=>hsp w H a ns hlen hO hS) fun H e s'=>hCX w H s₁ e s'
end L2
namespace L2
open PySem PySem.Spec PyProof.Rows
noncomputable def Zj (s:Stmt) (j:Nat):Stmt:=match s with
 | .ClassDef _ _ _ body _ _ _ _ _ _ _=>body.getD j (.Pass ⟨0,0,0,0⟩)
 | _=>.Pass ⟨0,0,0,0⟩
noncomputable def jT (s:Stmt):Arguments:=match s with
 | .FunctionDef _ a _ _ _ _ _ _ _ _=>a
 | _=>{ posonlyargs:=[],args:=[],vararg:=none,kwonlyargs:=[],kw_defaults:=[],kwarg:=none,defaults:=[] }
noncomputable def zx (s:Stmt):List Stmt:=match s with
 | .FunctionDef _ _ b _ _ _ _ _ _ _=>b
 | _=>[]
noncomputable def zL (s:Stmt):Scope:=match s with
 | .FunctionDef _ _ _ _ _ _ sc _ _ _=>sc
 | _=>{ kind:=.function,names:=[],isGenerator:=false,isCoroutine:=false }
noncomputable abbrev CX0:CXT:=fun _ _ _ _ _ _=>False
noncomputable abbrev E0:XK:=fun _ _ _=>False
theorem QS {X:Cx}:qa CX0 X E0:=fun _ _ _ _ _ _ _ h=>h.elim
structure Fun (K:PySem.W.Frag) (x qual:Str) (st:Stmt) (f:Addr) (fd:FuncData):Prop where
 ex:∃ (oc:Value) (od:Option Addr) (kV doc pm:Value) (an:Option Addr) (cdv ct:Value) (osl:Array (Option Value)),
  fd=PySem.W.fnOf x qual (jT st) (zx st) (zL st) .none kV doc pm an cdv ct/\K.lookup f=some ⟨oc,od,.func fd,osl⟩/\PySem.W.codeIn K cdv qual=true
 kp:PySem.W.keepIn K (.ref f)=true
section
variable {P:Program}{w:World}{K:PySem.W.Frag}{mg:Str->Option Value}{base:Heap}
theorem Fun.ok {x qual:Str}{st:Stmt}{f:Addr}{fd:FuncData}{N ps:List Str}{k:Nat}{sp:Sp} (F:Fun K x qual st f fd) (S:jC N ps (zL st)) (len:∀ vs H Q E,sp vs H Q E->vs.length=ps.length)
  (hbody:∀ (cdv:Value) (A:Around) (outer:List Env) (s:Shared) (H:Hp) (vs:List V) (Q:VK) (E:XK),zy k (A.deeper (envOfC qual (zL st) s.heap.objs.size f cdv))->sp vs H Q E ->
   ∃ t,PSs (Qa CX0 P w K mg base N qual (zL st) f cdv A outer s H E).nox (zx st) t/\t { nx:=fun _ H'=>Q .non H',rt:=Q } (Zr N vs) H):jW P w K mg base CX0 (k+1) f fd ps sp:=by
 obtain⟨oc,od,kV,doc,pm,an,cdv,ct,osl,rfl,lk,hcd⟩:=F.ex
 refine zOF lk hcd S len fun A outer s H vs Q E hr hsp=>?_
 obtain⟨t,h,q⟩:=hbody cdv A outer s H vs Q E hr hsp
 exact⟨t,h.nox,q⟩
theorem Fun.binds {x qual:Str}{st:Stmt}{f:Addr}{fd:FuncData}{ps:List Str} (F:Fun K x qual st f fd)
  (h:∀ (kV doc pm:Value) (an:Option Addr) (cdv ct:Value) (us:List Value),us.length=ps.length->bindArgs (PySem.W.fnOf x qual (jT st) (zx st) (zL st) .none kV doc pm an cdv ct) ⟨us,[]⟩=pure (ps.zip us)):QQ K fd ps []:=by
 obtain⟨oc,od,kV,doc,pm,an,cdv,ct,osl,rfl,lk,hcd⟩:=F.ex
 exact .all (h kV doc pm an cdv ct)
theorem j7 {x qual:Str}{st:Stmt}{f:Addr}{oc:Value}{od an:Option Addr}{osl:Array (Option Value)}{kV doc pm cdv ct:Value} (l:K.lookup f=some ⟨oc,od,.func (PySem.W.fnOf x qual (jT st) (zx st) (zL st) .none kV doc pm an cdv ct),osl⟩)
  (c:PySem.W.codeIn K cdv qual=true) (k:PySem.W.keepIn K (.ref f)=true):Fun K x qual st f (PySem.W.fnOf x qual (jT st) (zx st) (zL st) .none kV doc pm an cdv ct):=⟨⟨oc,od,kV,doc,pm,an,cdv,ct,osl,rfl,l,c⟩,k⟩
end
theorem zHh {A:Around}{k:Nat} (hr:zy k A):A.units+1 < cLine:=Nat.lt_of_le_of_lt (Nat.add_le_add_left (by decide:1 <= 64) _) hr.units
theorem zEM {A B:Prop} (h:B):if false=true then A else B:=by
 rw[if_neg Bool.false_ne_true]
 exact h
theorem zEd {A B:Prop} (h:A):if true=true then A else B:=by
 rw[if_pos rfl]
 exact h
end L2
namespace L2
open PySem PySem.Spec PyProof.Rows
section
variable {X:Cx}
theorem zI8:j5 X (.builtin "len") (fun xs H Q=>∃ a kvs,xs=[V.ref a]/\H a=some (.dK kvs)/\Q (.int kvs.length) H):=by
 intro pins s σ H xs us Q I r h
 obtain⟨a,kvs,rfl,ha,q⟩:=h
 obtain⟨u,rfl,ru⟩:=QW r
 cases ru
 exact zOs I (.inl ha) fun t s' I'=>⟨.int kvs.length,H,I',⟨t,rfl⟩,q⟩
end
end L2
set_option maxHeartbeats 4000000
namespace L2
open PySem PySem.Spec PyProof.Rows
noncomputable abbrev zm (X:Cx) (vars:List Str) (scope:Scope) (cl:List (Str×Addr)) (C:Addr) (fp:List Addr) (s₂:Shared) (H₂:Hp):Cx where
 prog:=X.prog
 w:=X.w
 K:=X.K
 mg:=X.mg
 base:=X.base
 A:=X.A
 N:=X.N++vars
 s₀:=s₂
 H₀:=H₂
 env:=compEnvC scope cl C X.env
 outer:=X.stack
 stack:=X.stack
 ex:=fp
 fn:=fun _=>false
 calm:=X.calm
 pn:=[]
 xe:=fun _ _=>False
noncomputable def zA4 (cells:List (Str×Addr)):List (Str×Addr)->Prop
 | []=>True
 | p::r=>cells.lookup p.1=some p.2/\zA4 cells r
theorem zA4.get {cells:List (Str×Addr)}:∀ {cl:List (Str×Addr)}{x:Str}{c:Addr},zA4 cells cl->cl.lookup x=some c->cells.lookup x=some c
 | [],_,_,_,e=>by simp at e
 | (y,d)::r,x,c,h,e=>by
  cases hx:x == y with
  | true =>
   simp only[List.lookup_cons,hx] at e
   have e1:x=y:=eq_of_beq hx
   subst e1
   rw[<- e]
   exact h.1
  | false =>
   simp only[List.lookup_cons,hx] at e
   exact zA4.get h.2 e
noncomputable def okK (on:List (Str×NameKind)) (vars:List Str) (cl:List (Str×Addr)) (x:Str):NameKind->Bool
 | .local=>x == (".0" : Str) || vars.contains x
 | .cell=>false
 | .free=>(cl.lookup x).isSome && (on.lookup x == some .cell || on.lookup x == some .free)
 | _=>true
structure jV (X:Cx) (vars:List Str) (scope:Scope) (cl:List (Str×Addr)):Prop where
 kind:scope.kind=.function
 clos:closureFor scope X.env=pure cl
 dis:(vars.all fun x=>!X.N.contains x)=true
 zero:X.N.contains (".0" : Str)=false
 names:∀ y∈scope.names,y.2=.local->scope.names.lookup y.1=some .local
 cells:zA4 X.env.cells cl
 ok:(scope.names.all fun p=>okK X.env.scope.names vars cl p.1 p.2)=true
theorem Qw {env:Env}{x:Str}:∀ {names:List (Str×NameKind)},
  (names.map fun (n,k)=>if (k == NameKind.free && env.scope.kind == .function && env.kindOf n == some .cell) then (n,NameKind.cell) else (n,k)).lookup x =
   (names.lookup x).map fun k=>if (k == NameKind.free && env.scope.kind == .function && env.kindOf x == some .cell) then NameKind.cell else k
 | []=>rfl
 | (n,k)::r=>by
  have ih:=@Qw env x r
  show List.lookup x ((if (k == NameKind.free && env.scope.kind == .function && env.kindOf n == some .cell)=true then (n,NameKind.cell) else (n,k))::_)=_
  cases hx:x == n with
  | true =>
   have e:x=n:=eq_of_beq hx
   subst e
   by_cases hc:(k == NameKind.free && env.scope.kind == .function && env.kindOf x == some .cell)=true
   ·rw[if_pos hc];simp only[List.lookup_cons,hx,Option.map_some,if_pos hc]
   ·rw[if_neg hc];simp only[List.lookup_cons,hx,Option.map_some,if_neg hc]
  | false =>
   by_cases hc:(k == NameKind.free && env.scope.kind == .function && env.kindOf n == some .cell)=true
   ·rw[if_pos hc];simp only[List.lookup_cons,hx];exact ih
   ·rw[if_neg hc];simp only[List.lookup_cons,hx];exact ih
section
variable {X:Cx}{vars:List Str}{scope:Scope}{cl:List (Str×Addr)}{C D:Addr}{fp:List Addr}{s₂:Shared}{H:Hp}{pins:List (Addr×Obj)}{σ:St}
theorem jV.okAt (S:jV X vars scope cl) {x:Str}{k:NameKind} (h:scope.names.lookup x=some k):okK X.env.scope.names vars cl x k=true:=by
 have:=List.all_eq_true.mp S.ok (x,k) (PySem.mem_of_lookup h)
 exact this
theorem jV.noCell (S:jV X vars scope cl):∀ y∈scope.names,y.2≠.cell:=fun y hy e=>by
 have h:=List.all_eq_true.mp S.ok y hy
 rw[e] at h
 exact absurd (show false=true from h) Bool.false_ne_true
theorem jV.freeOf (S:jV X vars scope cl) {x:Str} (h:(compEnvC scope cl C X.env).kindOf x=some .cell\/(compEnvC scope cl C X.env).kindOf x=some .free):scope.names.lookup x=some .free:=by
 have e:(compEnvC scope cl C X.env).kindOf x=(scope.names.lookup x).map fun k=>if (k == NameKind.free && X.env.scope.kind == .function && X.env.kindOf x == some .cell) then NameKind.cell else k:=Qw
 rw[e] at h
 cases q:scope.names.lookup x with
 | none=>rw[q] at h;simp at h
 | some k =>
  rw[q] at h
  by_cases hk:k=.free
  ·rw[hk]
  ·have hb:(k == NameKind.free)=false:=by simpa using hk
   simp only[Option.map_some,hb,Bool.false_and,Bool.false_eq_true,if_false,Option.some.injEq] at h
   rcases h with h | h
   ·subst h
    exact absurd rfl (S.noCell (x,.cell) (PySem.mem_of_lookup q))
   ·exact absurd h hk
theorem jV.localOf (S:jV X vars scope cl) {x:Str} (h:(compEnvC scope cl C X.env).kindOf x=some .local):scope.names.lookup x=some .local:=by
 have e:(compEnvC scope cl C X.env).kindOf x=(scope.names.lookup x).map fun k=>if (k == NameKind.free && X.env.scope.kind == .function && X.env.kindOf x == some .cell) then NameKind.cell else k:=Qw
 rw[e] at h
 cases q:scope.names.lookup x with
 | none=>rw[q] at h;simp at h
 | some k =>
  rw[q] at h
  simp only[Option.map_some,Option.some.injEq] at h
  split at h
  ·cases h
  ·rw[h]
theorem zHN (I:Inv X pins σ H s₂) (S:jV X vars scope cl) (hf:∀ b∈fp,zBS X pins H b) (hob:∀ b∈fp,∃ o,s₂.heap.get? b=some o)
  {h₁:Heap}{tk:Nat} (hD:s₂.heap.objs.size <= D) (hC:s₂.heap.objs.size <= C) (hDC:D≠C) {oD:Obj} (eD:h₁.get? D=some oD) (cD:∀ v,oD.data≠.cell v) {m:Str->Option Value} (hn:h₁.Ns C m)
  (old:∀ b o,s₂.heap.get? b=some o->h₁.get? b=some o) (ht:0 < tk:=by first | exact Nat.succ_pos _ | assumption | exact Inv.tk (by assumption) | omega) :
  Inv (zm X vars scope cl C fp s₂ H) [(D,oD)] (σ++List.replicate vars.length none) H { s₂ with heap:=h₁,toks:=tk }:=by
 have fpst:∀ b∈fp,b∉frs X.stack:=fun b hb z=>by
  rcases List.mem_cons.mp (I.stkSub b z) with e | e
  ·exact (hf b hb).2.1 e
  ·exact (hf b hb).2.2.1 e
 have cget:∀ x c,cl.lookup x=some c->X.env.cells.lookup x=some c:=fun x c e=>S.cells.get e
 have fpl:∀ b∈fp,b < s₂.heap.objs.size:=fun b hb=>by
  obtain⟨o,e⟩:=hob b hb
  exact Heap.lt_size e
 have ok:(zm X vars scope cl C fp s₂ H).Ok:=by
  refine⟨I.ok.mod,S.kind,I.ok.glob,I.ok.blt,hC,fun x y c h1 h2=>I.ok.inj x y c (cget x c h1) (cget y c h2),fun x hx=>?_,fun x c h _=>absurd (show false=true from h) Bool.false_ne_true,I.ok.hd,I.ok.frames,.inl rfl,
   fun b hb=>⟨Nat.ne_of_lt (Nat.lt_of_lt_of_le (fpl b hb) hC),fun x c e z=>(hf b hb).2.2.2.2.1 x c (cget x c e) z⟩,I.bs,Nat.le_trans I.ok.bsz I.sz,fun b o e hb=>?_,fpst,I.stack,I.stkFree⟩
  ·have q:=S.okAt (S.freeOf (C:=C) hx)
   have q1:((cl.lookup x).isSome && (X.env.scope.names.lookup x == some .cell || X.env.scope.names.lookup x == some .free))=true:=q
   rw[Bool.and_eq_true] at q1
   exact Option.isSome_iff_exists.mp q1.1
  ·rcases (hf b hb).2.2.2.1 with z | z
   ·exact I.ok.noex b o e z
   ·exact absurd (Nat.lt_of_lt_of_le (Heap.lt_size e) (Nat.le_trans I.ok.bsz z)) (Nat.lt_irrefl _)
 have nst:D∉frs X.stack:=fun z=>by
  rcases List.mem_cons.mp (I.stkSub D z) with e | e
  ·exact absurd (Nat.lt_of_lt_of_le (e ▸ I.lt) hD) (Nat.lt_irrefl _)
  ·exact I.nofs hD e
 refine⟨ok,rfl,I.bare,Un.kept old,⟨m,hn,fun i x v h1 h2 h3=>?_⟩,fun x c e=>?_,I.hok.fresh hC,fun x c e=>I.freeC x c (cget x c e),fun p hp=>?_,I.hok.kept old,?_,ht⟩
 ·have hlen:=I.len
  have h1':(X.N++vars)[i]? = some x:=h1
  by_cases hi:i < σ.length
  ·rw[List.getElem?_append_left (by omega)] at h1'
   rw[List.getElem?_append_left hi] at h2
   have inN:X.N.contains x=true:=by
    rw[List.contains_iff_exists_mem_beq]
    exact⟨x,List.mem_of_getElem? h1',by simp⟩
   have hk:(compEnvC scope cl C X.env).kindOf x=some .cell\/(compEnvC scope cl C X.env).kindOf x=some .free:=by
    rcases h3 with h3 | h3
    ·have q:=S.okAt (S.localOf (C:=C) h3)
     have q1:(x == (".0" : Str) || vars.contains x)=true:=q
     rw[Bool.or_eq_true] at q1
     rcases q1 with q1 | q1
     ·have e0:x=(".0" : Str):=eq_of_beq q1
      rw[e0,S.zero] at inN
      cases inN
     ·have q2:=List.all_eq_true.mp S.dis x (by simpa using q1)
      rw[inN] at q2
      cases q2
    ·exact h3
   have q:=S.okAt (S.freeOf (C:=C) hk)
   have q1:((cl.lookup x).isSome && (X.env.scope.names.lookup x == some .cell || X.env.scope.names.lookup x == some .free))=true:=q
   rw[Bool.and_eq_true,Bool.or_eq_true] at q1
   obtain⟨c,hc⟩:=Option.isSome_iff_exists.mp q1.1
   have ho:X.env.scope.names.lookup x=some .cell\/X.env.scope.names.lookup x=some .free:=by
    rcases q1.2 with z | z
    ·exact .inl (eq_of_beq z)
    ·exact .inr (eq_of_beq z)
   obtain⟨m0,_,hl⟩:=I.loc
   obtain⟨u,r,l⟩:=hl i x v h1' h2 (.inr ho)
   refine⟨u,r,.inr ⟨hk,c,hc,?_⟩⟩
   rcases l with ⟨l1,_⟩ | ⟨_,c',e',o,eo,ed⟩
   ·have l2:X.env.scope.names.lookup x=some .local:=l1
    rcases ho with z | z
    ·rw[l2] at z;cases z
    ·rw[l2] at z;cases z
   ·rw[cget x c hc] at e'
    cases e'
    exact⟨o,old _ _ eo,ed⟩
  ·rw[List.getElem?_append_right (by omega),List.getElem?_replicate] at h2
   split at h2<;>cases h2
 ·obtain⟨v,o,eo,ed⟩:=I.cell x c (cget x c e)
  exact⟨v,o,old _ _ eo,ed⟩
 ·have e:p=(D,oD):=by simpa using hp
  subst e
  exact⟨eD,I.hok.fresh hD,hDC,nst,cD⟩
 ·show (σ++List.replicate vars.length none).length=(X.N++vars).length
  rw[List.length_append,List.length_append,List.length_replicate,I.len]
end
noncomputable def QJ (X:Cx) (ifs:List Expr) (t:TT):Prop :=
 ∀ (pins:List (Addr×Obj)) (s:Shared) (σ:St) (H:Hp) (Q:Bool->Hp->Prop),Inv X pins σ H s->t σ H Q ->
  wpAny (model X.prog X.w) X.A (forIn ifs true fun c r=>if r=true then do let ok <- isTrue c X.env (eval c X.env);pure (ForInStep.yield ok) else pure (ForInStep.yield r)) (TP X pins σ Q) X.xe s
noncomputable def yX:TT:=fun _ H Q=>Q true H
theorem zKm {X:Cx}:QJ X [] yX:=fun _ _ _ H _ I h=>wpAny_tests_nil ⟨H,I,h⟩
theorem zKA {X:Cx}{c:Expr}{t:TT} (h:PT X c t):QJ X [c] t:=fun pins s σ H Q I hw=>wpAny_tests_one (h pins s σ H Q I hw)
noncomputable def Wk (σ σ':St):Prop:=σ.length=σ'.length/\∀ (i:Nat) v,σ[i]? = some (some v)->σ'[i]? = some (some v)
noncomputable def zFX (n:Nat) (wi:TI) (g:TG) (ti:TT) (te:TE):TE:=fun σ H Q=>wi σ H fun J H1=>∃ W:Nat->Nat->List V->Hp->Prop,(∃ m,W 0 m [] H1)/\∀ i m ys H2,W i m ys H2->ys.length <= sizeLine /\
 ((J.stop i H2/\∀ D,H2 D=none->Q (.ref D) (upd H2 D (.lst ys))) \/
  (J.go i H2/\∀ x H3,J.yld i H2 x H3->g x (σ++List.replicate n none) H3 fun σ2 H4=>Wk (σ++List.replicate n none) σ2/\ti σ2 H4 fun b H5 =>
   if b=true then te σ2 H5 fun y H6=>∃ m',m' < m/\W (i+1) m' (ys++[y]) H6 else ∃ m',m' < m/\W (i+1) m' ys H5))
theorem Inv.track {X:Cx}{pins:List (Addr×Obj)}{σ:St}{H:Hp}{s:Shared}{D:Addr}{o:HO} (I:Inv X pins σ H s) (hD:X.s₀.heap.objs.size <= D) (hn:H D=none) (hL:D≠X.env.locals)
  (hcl:∀ x c,X.env.cells.lookup x=some c->c≠D) (hp:∀ p∈X.pn++pins,p.1≠D) (new:je X.prog X.w (upd H D o) s.heap D o):Inv X pins σ (upd H D o) s:=by
 have ne:∀ {b u},H b=some u->b≠D:=fun e z=>by rw[z,hn] at e;cases e
 refine⟨I.ok,I.os,I.bare,⟨I.base.keep,I.base.slot,fun b ob e n hx=>?_,I.base.there,fun b xs e=>?_,fun b ob u e=>?_,fun b ps e=>?_⟩,I.loc,I.cell,?_,fun x c e=>?_,fun p hp'=>?_,fun b u e=>?_,I.len,I.tk⟩
 ·rw[zf (Nat.ne_of_lt (Nat.lt_of_lt_of_le (Heap.lt_size e) hD))]
  exact I.base.free b ob e n hx
 ·have q:=I.base.tups b xs e
  rw[zf (ne q)];exact q
 ·have q:=I.base.frzs b ob u e
  rw[zf (ne q)];exact q
 ·obtain⟨mo,q⟩:=I.base.tbls b ps e
  exact⟨mo,by rw[zf (ne q)];exact q⟩
 ·rw[zf (Ne.symm hL)];exact I.free
 ·rw[zf (hcl x c e)];exact I.freeC x c e
 ·obtain⟨e1,e2,e3,e4,e5⟩:=I.pin p hp'
  exact⟨e1,by rw[zf (hp p hp')];exact e2,e3,e4,e5⟩
 ·by_cases hb:b=D
  ·subst hb;rw[jU] at e;cases e;exact new
  ·rw[zf hb] at e
   exact (I.hok b u e).stay (fun _ _ _ q=>q) (fun c q=>by rw[zf (ne q)];exact q) fun c xs q=>by rw[zf (ne q)];exact q
noncomputable abbrev zBZ (us:List Value) (n:Nat):Obj:={ cls:=.type "list",data:=.seq us.toArray n }
section
variable {X:Cx}{vars:List Str}{scope:Scope}{cl:List (Str×Addr)}{C D it:Addr}{fp:List Addr}{s₂:Shared}{H₂:Hp}{tg elt iter:Expr}{ifs:List Expr}{pos:Pos}{J:It}{tn:Nat->Heap->Prop}
 {g:TG}{ti:TT}{te:TE}{R:Result->Shared->Prop}
theorem zId (hc:X.calm=true) (T:zAd X.prog X.w X.K tg J fp it tn) (hg:PG (zm X vars scope cl C fp s₂ H₂) tg g) (hi:QJ (zm X vars scope cl C fp s₂ H₂) ifs ti) (he:PE (zm X vars scope cl C fp s₂ H₂) elt te)
  {σ0:St} (W:Nat->Nat->List V->Hp->Prop) {F:List V->Hp->Prop} (hD0:s₂.heap.objs.size <= D) (hDC:D≠C) (hDs:D∉frs X.stack) (hDc:∀ x c,cl.lookup x=some c->c≠D)
  (hS:∀ b∈fp,b≠C/\b∉frs X.stack/\(∀ x c,cl.lookup x=some c->c≠b)/\D≠b)
  (turn:∀ i m ys H2,W i m ys H2->ys.length <= sizeLine/\((J.stop i H2/\F ys H2) \/
   (J.go i H2/\∀ x H3,J.yld i H2 x H3->g x σ0 H3 fun σ2 H4=>Wk σ0 σ2/\ti σ2 H4 fun b H5 =>
    if b=true then te σ2 H5 fun y H6=>∃ m',m' < m/\W (i+1) m' (ys++[y]) H6 else ∃ m',m' < m/\W (i+1) m' ys H5)))
  (hR:∀ s' ys us n H2,Inv (zm X vars scope cl C fp s₂ H₂) [(D,zBZ us n)] σ0 H2 s'->zd ys us->ys.length <= sizeLine->F ys H2->R (.ok .next) s')
  {s:Shared}{m0:Nat}{n0:Nat}{H0:Hp} (I0:Inv (zm X vars scope cl C fp s₂ H₂) [(D,zBZ [] n0)] σ0 H0 s) (st0:tn 0 s.heap) (f0:∀ b∈fp,H0 b=none) (w0:W 0 m0 [] H0) :
  codeAny (model X.prog X.w) X.A (.compLoop (.ListComp elt [⟨tg,iter,ifs,0⟩] scope pos) 0 (.ref it) (.ref D) (compEnvC scope cl C X.env)) R s:=by
 have stat:∀ {H':Hp}{o:Obj},(∀ b∈fp,H' b=none)->∀ b∈fp,zBS (zm X vars scope cl C fp s₂ H₂) [(D,o)] H' b:=fun {H' o} hn b hb =>
  ⟨hn b hb,(hS b hb).1,(hS b hb).2.1,.inl hb,(hS b hb).2.2.1,fun p hp=>by
   have e:p=(D,o):=by simpa using hp
   subst e
   exact (hS b hb).2.2.2⟩
 refine codeAny_loop rfl (fun n s=>∃ i ys us nn H',Inv (zm X vars scope cl C fp s₂ H₂) [(D,zBZ us nn)] σ0 H' s/\zd ys us/\tn i s.heap/\(∀ b∈fp,H' b=none)/\W i n ys H') (fun n s hI=>?_) m0 ⟨0,[],[],n0,H0,I0,.nil,st0,f0,w0⟩
 show wpAny _ X.A ((compTurn (.ListComp elt [⟨tg,iter,ifs,0⟩] scope pos) 0 (.ref it) (.ref D) (compEnvC scope cl C X.env)).onRaise (fun x=>do noteFrame x (compEnvC scope cl C X.env);theTreesLotGoes x)) _ _ s
 refine wpAny_noted ?_
 rw[compTurn_list]
 obtain⟨i,ys,us,nn,H',I,rv,st,fr,w⟩:=hI
 obtain⟨hz,tt⟩:=turn i n ys H' w
 refine wpAny_bind (wpAny_standAt (wpAny_bind ?_))
 rcases tt with ⟨stop,q⟩ | ⟨go,q⟩
 ·refine wpAny_mono (T.done (zm X vars scope cl C fp s₂ H₂) rfl rfl rfl hc i _ s σ0 H' _ I (stat fr) st stop) (fun r s1 ⟨hr,I1⟩=>?_) (fun _ _ e=>e)
  subst hr
  exact wpAny_pure (hR s1 ys us nn H' I1 rv hz q)
 ·refine wpAny_mono (T.item (zm X vars scope cl C fp s₂ H₂) rfl rfl rfl hc i _ s σ0 H' _ I (stat fr) st go) (fun r s1 ⟨u,hr,h1⟩=>?_) (fun _ _ e=>e)
  subst hr
  refine wpAny_bind (wpAny_mono h1 (fun _ s2 ⟨x,H3,I3,r3,y3,st3,fr3⟩=>?_) (fun _ _ e=>e))
  have I3':=I3.pinned (stat fr3) (T.obj _ _ st3)
  refine wpAny_bind (wpAny_mono (hg _ s2 σ0 H3 x u _ I3' r3 (q x H3 y3)) (fun _ s3 ⟨σ4,H4,I4,wk,q4⟩=>?_) (fun _ _ f=>False.elim f))
  refine wpAny_bind (wpAny_mono (hi _ s3 σ4 H4 _ I4 q4) (fun b s4 ⟨H5,I5,q5⟩=>?_) (fun _ _ f=>False.elim f))
  have back:∀ {s7:Shared}{H7:Hp}{o:Obj},Inv (zm X vars scope cl C fp s₂ H₂) ((D,o)::QK fp s2.heap) σ4 H7 s7->tn (i+1) s7.heap/\∀ b∈fp,H7 b=none:=fun {s7 H7 o} I7=>by
   refine⟨T.keep _ _ _ st3 fun b hb ob e=>(I7.pin (b,ob) (List.mem_append_right _ (List.mem_cons_of_mem _ (Jd hb e)))).1,fun b hb=>?_⟩
   obtain⟨ob,e,d⟩:=T.obj _ _ st3 b hb
   exact (I7.pin (b,ob) (List.mem_append_right _ (List.mem_cons_of_mem _ (Jd hb e)))).2.1
  have one:∀ {s7:Shared}{H7:Hp}{o:Obj},Inv (zm X vars scope cl C fp s₂ H₂) ((D,o)::QK fp s2.heap) σ4 H7 s7->Inv (zm X vars scope cl C fp s₂ H₂) [(D,o)] σ0 H7 s7:=fun {s7 H7 o} I7 =>
   (I7.pins_of (pins':=[(D,o)]) fun p hp=>by
    have e:p=(D,o):=by simpa using hp
    subst e
    exact I7.pin (D,o) (List.mem_append_right _ List.mem_cons_self)).weak wk.1 wk.2
  cases b with
  | false =>
   obtain⟨m',hm,w'⟩:=q5
   obtain⟨b1,b2⟩:=back I5
   exact wpAny_pure ⟨rfl,m',hm,i+1,ys,us,nn,H5,one I5,rv,b1,b2,w'⟩
  | true =>
   refine wpAny_bind (wpAny_bind (wpAny_mono (he _ s4 σ4 H5 _ I5 q5) (fun v s5 ⟨y,H6,I6,r6,q6⟩=>?_) (fun _ _ f=>False.elim f)))
   obtain⟨m',hm,w'⟩:=q6
   obtain⟨eD,nD,_,_,_⟩:=I6.pin (D,zBZ us nn) (List.mem_append_right _ List.mem_cons_self)
   have hul:us.toArray.size <= sizeLine:=by rw[List.size_toArray,<- rv.length];exact hz
   refine wpAny_bind (wpAny_list_append_plain (hsz:=hul) ⟨nn,eD⟩ fun h' hp hs=>wpAny_pure (wpAny_pure ⟨rfl,?_⟩))
   obtain⟨n',hp⟩:=hp
   have hp':h'.get? D=some (zBZ (us++[v]) n'):=by rw[hp];simp
   have I7:Inv (zm X vars scope cl C fp s₂ H₂) (QK fp s2.heap) σ4 H6 { s5 with heap:=h',toks:=s5.toks }:=by
    refine Inv.turned (it:=D) (I6.pins_of (pins':=QK fp s2.heap) fun p hp=>I6.pin p (List.mem_append_right _ (List.mem_cons_of_mem _ hp))) (fun b o hb e=>(hs.2 b hb).trans e) nD hDC (.inr hD0) (fun x c e=>hDc x c e) fun p hp=>?_
    have hp2:p∈QK fp s2.heap:=by simpa using hp
    exact Ne.symm (hS p.1 (zEu hp2).1).2.2.2
   have I8:Inv (zm X vars scope cl C fp s₂ H₂) ((D,zBZ (us++[v]) n')::QK fp s2.heap) σ4 H6 { s5 with heap:=h',toks:=s5.toks }:=I7.pins_of fun p hp=>by
    rcases List.mem_cons.mp hp with rfl | hp
    ·exact⟨hp',nD,hDC,hDs,fun v z=>by cases z⟩
    ·exact I7.pin p (List.mem_append_right _ hp)
   obtain⟨b1,b2⟩:=back I8
   exact⟨m',hm,i+1,ys++[y],us++[v],n',H6,one I8,rv.append (.cons r6 .nil),b1,b2,w'⟩
end
section
variable {X:Cx}{vars:List Str}{scope:Scope}{cl:List (Str×Addr)}{tg elt iter:Expr}{ifs:List Expr}{pos:Pos}{wi:TI}{g:TG}{ti:TT}{te:TE}
theorem zDv (hc:X.calm=true) (S:jV X vars scope cl) (hg:∀ C fp s₂ H₂,PG (zm X vars scope cl C fp s₂ H₂) tg g) (ht:∀ C fp s₂ H₂,QJ (zm X vars scope cl C fp s₂ H₂) ifs ti)
  (he:∀ C fp s₂ H₂,PE (zm X vars scope cl C fp s₂ H₂) elt te) {pins:List (Addr×Obj)}{σ:St}{s2:Shared}{E:Value->Shared->Prop}{F:Addr->Hp->Prop}{RR:Value->Addr->Result->Shared->Prop}{itv:Value}
  (h2:PIE X pins σ tg (fun J H1=>∃ W:Nat->Nat->List V->Hp->Prop,(∃ m,W 0 m [] H1)/\∀ i m ys H2,W i m ys H2->ys.length <= sizeLine /\
   ((J.stop i H2/\∀ D,H2 D=none->F D (upd H2 D (.lst ys))) \/
    (J.go i H2/\∀ x H3,J.yld i H2 x H3->g x (σ++List.replicate vars.length none) H3 fun σ2 H4=>Wk (σ++List.replicate vars.length none) σ2/\ti σ2 H4 fun b H5 =>
     if b=true then te σ2 H5 fun y H6=>∃ m',m' < m/\W (i+1) m' (ys++[y]) H6 else ∃ m',m' < m/\W (i+1) m' ys H5))) itv s2)
  (hRR:∀ D C s' H',(∃ m,s'.heap.Ns C m)->C≠X.env.locals->(∀ x c,X.env.cells.lookup x=some c->c≠C)->Inv X pins σ H' s'->(∀ (h':Heap),Heap.SameBut C s'.heap h'->∀ (s'':Shared),s''={ s' with heap:=h' }->Inv X pins σ H' s'') ->
   (∀ (σ':St) (s3:Shared),Inv X pins σ' H' s3->(∃ a,Heap.SameBut a s'.heap s3.heap/\(a=X.env.locals\/∃ x,X.env.cells.lookup x=some a))->∀ (h':Heap),Heap.SameBut C s3.heap h'->Inv X pins σ' H' { s3 with heap:=h' }) ->
   F D H'->RR (.ref D) C (.ok .next) s') :
  wpAny (model X.prog X.w) X.A (newList []) (fun acc s₃=>wpAny (model X.prog X.w) X.A (newFunctionEnv scope X.env.globals cl [] X.env.qual none .none (some X.env)) (fun cenv s₄ =>
   codeAny (model X.prog X.w) X.A (.compStart (.ListComp elt [⟨tg,iter,ifs,0⟩] scope pos) 0 itv acc { cenv with scope:=relabel scope X.env }) (RR acc cenv.locals) s₄) E s₃) E s2:=by
 obtain⟨it,fp,tn,J,H2,e,I2,T,st2,f2,W,⟨m0,w0⟩,turn⟩:=h2
 subst e
 refine wpAny_newObj_type (wpAny_newFunctionEnv S.noCell (by intro y hy;simp at hy) (fun h₁ hns₁ hsb₁=>?_) S.kind)
 dsimp only at hns₁ hsb₁ ⊢
 generalize hH2:s2.heap.push { cls:=.type "list",dict:=none,data:=.seq ([]:List Value).toArray }=P2 at hns₁ hsb₁ ⊢
 have hC:P2.objs.size=s2.heap.objs.size+1:=by rw[<- hH2,Heap.size_push]
 have hDC:s2.heap.objs.size≠P2.objs.size:=by rw[hC];exact Nat.ne_of_lt (Nat.lt_succ_self _)
 have hCle:s2.heap.objs.size <= P2.objs.size:=by rw[hC];exact Nat.le_succ _
 have below:∀ b,b < s2.heap.objs.size->b≠P2.objs.size/\b≠s2.heap.objs.size:=fun b hb=>⟨by rw[hC];exact Nat.ne_of_lt (Nat.lt_succ_of_lt hb),Nat.ne_of_lt hb⟩
 have old:∀ b o,s2.heap.get? b=some o->h₁.get? b=some o:=fun b o e=>hsb₁.extBut b o (below b (Heap.lt_size e)).1 (Heap.get?_push_of_some _ (hH2 ▸ Heap.get?_push_of_some _ e))
 have hacc:h₁.get? s2.heap.objs.size=some (zBZ [] 0):=hsb₁.extBut _ _ hDC (Heap.get?_push_of_some _ (hH2 ▸ Heap.get?_push_size _ rfl))
 have hst₁:tn 0 h₁:=T.keep _ _ _ st2 fun b _ o e=>old b o e
 have hob:∀ b∈fp,∃ o,s2.heap.get? b=some o:=fun b hb=>by
  obtain⟨o,e,_⟩:=T.obj _ _ st2 b hb
  exact⟨o,e⟩
 have fpl:∀ b∈fp,b < s2.heap.objs.size:=fun b hb=>by
  obtain⟨o,e⟩:=hob b hb
  exact Heap.lt_size e
 have cget:∀ x c,cl.lookup x=some c->X.env.cells.lookup x=some c:=fun x c e=>S.cells.get e
 have celt:∀ x c,X.env.cells.lookup x=some c->c < s2.heap.objs.size:=fun x c e=>by
  obtain⟨v,q⟩:=I2.cell x c e
  exact q.lt
 have pint:∀ p∈X.pn++pins,p.1 < s2.heap.objs.size:=fun p hp=>Heap.lt_size (I2.pin p hp).1
 have fpst:∀ b∈fp,b∉frs X.stack:=fun b hb z=>by
  rcases List.mem_cons.mp (I2.stkSub b z) with e | e
  ·exact (f2 b hb).2.1 e
  ·exact (f2 b hb).2.2.1 e
 have nst:s2.heap.objs.size∉frs X.stack:=fun z=>by
  rcases List.mem_cons.mp (I2.stkSub _ z) with e | e
  ·exact absurd (e ▸ I2.lt) (Nat.lt_irrefl _)
  ·exact I2.nofs (Nat.le_refl _) e
 have CL:P2.objs.size≠X.env.locals:=fun z=>absurd (Nat.lt_of_lt_of_le (z ▸ I2.lt) hCle) (Nat.lt_irrefl _)
 have CC:∀ x c,X.env.cells.lookup x=some c->c≠P2.objs.size:=fun x c e=>Nat.ne_of_lt (Nat.lt_of_lt_of_le (celt x c e) hCle)
 have CP:∀ p∈X.pn++pins,p.1≠P2.objs.size:=fun p hp=>Nat.ne_of_lt (Nat.lt_of_lt_of_le (pint p hp) hCle)
 have loop:∀ s₃:Shared,s₃={ s2 with heap:=h₁,toks:=s2.toks+([]:List (Str×Value)).length } ->
   codeAny (model X.prog X.w) X.A (.compLoop (.ListComp elt [⟨tg,iter,ifs,0⟩] scope pos) 0 (.ref it) (.ref s2.heap.objs.size) (compEnvC scope cl P2.objs.size X.env)) (RR (.ref s2.heap.objs.size) P2.objs.size) s₃:=by
  rintro s₃ rfl
  have I0:Inv (zm X vars scope cl P2.objs.size fp s2 H2) [(s2.heap.objs.size,zBZ [] 0)] (σ++List.replicate vars.length none) H2 { s2 with heap:=h₁,toks:=s2.toks+([]:List (Str×Value)).length } :=
   zHN I2 S f2 hob (Nat.le_refl _) hCle hDC hacc (fun v z=>by cases z) hns₁ old
  refine zId hc T (hg _ _ _ _) (ht _ _ _ _) (he _ _ _ _) (D:=s2.heap.objs.size) W (F:=fun ys H'=>∀ D,H' D=none->F D (upd H' D (.lst ys))) (Nat.le_refl _) hDC nst (fun x c e=>Nat.ne_of_lt (celt x c (cget x c e)))
   (fun b hb=>⟨(below b (fpl b hb)).1,fpst b hb,fun x c e z=>(f2 b hb).2.2.2.2.1 x c (cget x c e) z,Nat.ne_of_gt (fpl b hb)⟩) turn ?_ I0 hst₁ (fun b hb=>(f2 b hb).1) w0
  intro s' ys us n H' I' rv hz q
  obtain⟨eD,nD,_,_,_⟩:=I'.pin (s2.heap.objs.size,zBZ us n) (List.mem_append_right _ List.mem_cons_self)
  have J1:Inv X pins σ H' s':=I2.call' I'.os I'.base I'.hok I'.bare (fun b hb=>⟨(f2 b hb).2.2.2.1,(f2 b hb).2.1,(f2 b hb).2.2.2.2.1,(f2 b hb).2.2.2.2.2⟩) I'.tk
  have J2:Inv X pins σ (upd H' s2.heap.objs.size (.lst ys)) s':=J1.track I2.sz nD (fun z=>absurd (z ▸ I2.lt) (Nat.lt_irrefl _)) (fun x c e=>Nat.ne_of_lt (celt x c e)) (fun p hp=>Nat.ne_of_lt (pint p hp)) ⟨hz,us,n,rv,eD⟩
  have nC:upd H' s2.heap.objs.size (.lst ys) P2.objs.size=none:=by
   rw[zf (Ne.symm hDC)]
   exact I'.free
  refine hRR _ _ s' _ ?_ CL CC J2 (fun h' hs s'' e=>?_) (fun σ' s3 I3 _ h' hs=>?_) (q _ nD)
  ·obtain⟨m,hn,_⟩:=I'.loc
   exact⟨m,hn⟩
  ·subst e
   exact J2.turned (t':=s'.toks) (it:=P2.objs.size) (fun b o hb e=>(hs.2 b hb).trans e) nC CL (.inr (Nat.le_trans I2.sz hCle)) CC CP
  ·exact I3.turned (t':=s3.toks) (it:=P2.objs.size) (fun b o hb e=>(hs.2 b hb).trans e) nC CL (.inr (Nat.le_trans I2.sz hCle)) CC CP
 exact codeAny_compStart_list (loop _ rfl) (T.self _ 0 _ _ _ hst₁ (loop _ rfl))
theorem zEN (hc:X.calm=true) (S:jV X vars scope cl) (hi:PI X tg iter wi) (hg:∀ C fp s₂ H₂,PG (zm X vars scope cl C fp s₂ H₂) tg g) (ht:∀ C fp s₂ H₂,QJ (zm X vars scope cl C fp s₂ H₂) ifs ti)
  (he:∀ C fp s₂ H₂,PE (zm X vars scope cl C fp s₂ H₂) elt te) (hs:∀ x,foldedSetIterable iter X.env x=pure x:=by intro _;rfl):PE X (.ListComp elt [⟨tg,iter,ifs,0⟩] scope pos) (zFX vars.length wi g ti te):=by
 intro pins s σ H Q I h
 rw[eval_ListComp]
 refine wpAny_comprehension_free (use:=none) rfl hs S.clos S.kind S.names (thn (hi pins s σ H _ I h) fun v s1 h1=>thn h1 fun itv s2 h2=>?_)
 refine zDv hc S hg ht he (F:=fun D H'=>Q (.ref D) H') h2 fun D C s' H' hn hCL hCC J2 J3 _ q=>?_
 obtain⟨m,hn⟩:=hn
 exact⟨m,hn,fun h' hs'=>⟨.ref D,H',J3 h' hs' _ rfl,rfl,q⟩⟩
theorem zHf {i:Nat}{y:Str}{py spos:Pos} (hc:X.calm=true) (S:jV X vars scope cl) (hN:X.N.Nodup) (hiy:X.N[i]? = some y) (hy:Loc X.env.scope y) (hi:PI X tg iter wi)
  (hg:∀ C fp s₂ H₂,PG (zm X vars scope cl C fp s₂ H₂) tg g) (ht:∀ C fp s₂ H₂,QJ (zm X vars scope cl C fp s₂ H₂) ifs ti)
  (he:∀ C fp s₂ H₂,PE (zm X vars scope cl C fp s₂ H₂) elt te) (hs:∀ x,foldedSetIterable iter X.env x=pure x:=by intro _;rfl)
  (hsw:swapsWith (.ListComp elt [⟨tg,iter,ifs,0⟩] scope pos) (some (.Name y py)) spos.line X.env=pure true:=by rfl)
  (hf:X.fn y=true\/X.env.scope.names.lookup y=some .local:=by first | exact .inl rfl | exact .inr rfl | assumption) :
  PS X (.Assign [.Name y py] (.ListComp elt [⟨tg,iter,ifs,0⟩] scope pos) spos) (zHU (zFX vars.length wi g ti te) (zq i)):=by
 intro pins s σ H D0 I h
 rw[exec_Assign_Name_used _ _ _ _ hsw]
 refine wpAny_bind (wpAny_standAt (wpAny_bind ?_))
 show wpAny _ X.A (do let _ <- comprehension (.ListComp elt [⟨tg,iter,ifs,0⟩] scope pos) scope X.env _ (newList []) false (eval iter X.env) (some (assign (.Name y py) X.env))) _ _ s
 refine wpAny_bind (wpAny_mono (wpAny_comprehension_free (use:=some (assign (.Name y py) X.env)) (Q:=fun _ s'=>SP X pins D0 .next s') rfl hs S.clos S.kind S.names
  (thn (hi pins s σ H _ I h) fun v s1 h1=>thn h1 fun itv s2 h2=>?_)) (fun _ s' hq=>wpAny_pure (wpAny_pure hq)) fun _ _ e=>e)
 refine zDv hc S hg ht he (F:=fun D H'=>D0.nx (σ.set i (some (.ref D))) H') h2 fun D C s' H' hn hCL hCC J2 _ J4 q=>?_
 obtain⟨m,hn⟩:=hn
 show wpAny _ X.A (assign (.Name y py) X.env (.ref D)) _ _ _
 refine wpAny_assign_Name (zE4 J2 hN hiy hy (v:=.ref D) rfl (fun s3 I3 ⟨a,hsb,ha⟩=>?_) hf)
 have hCa:C≠a:=by
  rcases ha with rfl | ha
  ·exact hCL
  ·exact Ne.symm (hCC y a ha)
 refine⟨m,hn.sameBut hsb hCa,fun h' hs'=>⟨σ.set i (some (.ref D)),H',J4 _ s3 I3 ⟨a,hsb,?_⟩ h' hs',q⟩⟩
 rcases ha with rfl | ha
 ·exact .inl rfl
 ·exact .inr ⟨y,ha⟩
end
end L2
namespace L2
open PySem PySem.Spec PyProof.Rows
noncomputable def Its (z:Str):It:=⟨fun i _=>i < z.length,fun i H x H'=>H'=H/\∃ c,z.cps[i]? = some c/\x=.str ⟨#[c]⟩,fun i _=>z.length <= i⟩
theorem zIR {P:Program}{w:World}{K:PySem.W.Frag}{tg:Expr} (it:Addr) (z:Str) (t:Tok):zAd P w K tg (Its z) [it] it (fun i h=>h.IsStrIter it "str_ascii_iterator" z t i) where
 mem:=by simp
 obj:=fun i h st b hb=>by
  have e:b=it:=by simpa using hb
  subst e
  obtain⟨o,e,c,d⟩:=st
  exact⟨o,e,fun v z=>by rw[d] at z;cases z⟩
 keep:=fun i h h' st k=>let ⟨o,ho,r⟩:=st;⟨o,k it (by simp) o ho,r⟩
 item:=by
  intro X hP hw hK hc i pins s σ H E I hf st hg
  subst hP hw hK
  obtain⟨f0,f1,f2,f3,f4,f5⟩:=hf it (by simp)
  have hlt:i < z.cps.size:=hg
  refine wpAny_pyNext_ascii_item st (c:=z.cps[i]) (by simp[hlt]) fun h' st' sb=>?_
  have I1:Inv X pins σ H { s with heap:=h',toks:=s.toks+1 }:=I.turned (fun b o hb e=>(sb.2 b hb).trans e) f0 f1 f3 f4 f5
  obtain⟨o,e,c,d⟩:=id st'
  exact⟨_,rfl,zAS (s:={ s with heap:=h',toks:=s.toks+1 }) e c d (by decide) ⟨.str ⟨#[z.cps[i]]⟩,H,I1,⟨_,rfl⟩,⟨rfl,z.cps[i],by simp[hlt],rfl⟩,st',fun b hb=>(hf b hb).1⟩⟩
 done:=by
  intro X hP hw hK hc i pins s σ H E I hf st hg
  subst hP hw hK
  obtain⟨f0,f1,f2,f3,f4,f5⟩:=hf it (by simp)
  have hle:z.cps.size <= i:=hg
  exact wpAny_pyNext_ascii_end (I.ok.hd hc) st (by simp[hle]) fun h' eb=>⟨rfl,I.turned (t':=s.toks) (fun b o hb e=>eb b o hb e) f0 f1 f3 f4 f5⟩
 self:=fun _ _ _ _ _ st h=>wpAny_pyIter_striter_ascii st h
theorem zIE {P:Program}{w:World}{K:PySem.W.Frag}{tg:Expr} (it:Addr) (z:Str) (t:Tok):zAd P w K tg (Its z) [it] it (fun i h=>h.IsStrIter it "str_iterator" z t i) where
 mem:=by simp
 obj:=fun i h st b hb=>by
  have e:b=it:=by simpa using hb
  subst e
  obtain⟨o,e,c,d⟩:=st
  exact⟨o,e,fun v z=>by rw[d] at z;cases z⟩
 keep:=fun i h h' st k=>let ⟨o,ho,r⟩:=st;⟨o,k it (by simp) o ho,r⟩
 item:=by
  intro X hP hw hK hc i pins s σ H E I hf st hg
  subst hP hw hK
  obtain⟨f0,f1,f2,f3,f4,f5⟩:=hf it (by simp)
  have hlt:i < z.cps.size:=hg
  refine wpAny_pyNext_wide_item st (c:=z.cps[i]) (by simp[hlt]) fun h' st' sb=>?_
  have I1:Inv X pins σ H { s with heap:=h',toks:=s.toks+1 }:=I.turned (fun b o hb e=>(sb.2 b hb).trans e) f0 f1 f3 f4 f5
  obtain⟨o,e,c,d⟩:=id st'
  exact⟨_,rfl,zAS (s:={ s with heap:=h',toks:=s.toks+1 }) e c d (by decide) ⟨.str ⟨#[z.cps[i]]⟩,H,I1,⟨_,rfl⟩,⟨rfl,z.cps[i],by simp[hlt],rfl⟩,st',fun b hb=>(hf b hb).1⟩⟩
 done:=by
  intro X hP hw hK hc i pins s σ H E I hf st hg
  subst hP hw hK
  obtain⟨f0,f1,f2,f3,f4,f5⟩:=hf it (by simp)
  have hle:z.cps.size <= i:=hg
  exact wpAny_pyNext_wide_end (I.ok.hd hc) st (by simp[hle]) fun h' eb=>⟨rfl,I.turned (t':=s.toks) (fun b o hb e=>eb b o hb e) f0 f1 f3 f4 f5⟩
 self:=fun _ _ _ _ _ st h=>wpAny_pyIter_striter_wide st h
noncomputable def zO1 (tl:TE):TI:=fun σ H R=>tl σ H fun x H1=>∃ z,x=.str z/\R (Its z) H1
theorem zNw {X:Cx}{tg l:Expr}{tl:TE} (hl:PE X l tl):PI X tg l (zO1 tl):=by
 intro pins s σ H R I h
 refine thn (hl pins s σ H _ I h) fun v s1 ⟨x,H1,I1,r1,q1⟩=>?_
 obtain⟨z,e,q⟩:=q1
 subst e
 obtain⟨t,rfl⟩:=r1
 have fin:∀ b∈[s1.heap.objs.size],zBS X pins H1 b:=fun b hb=>by
  have e:b=s1.heap.objs.size:=by simpa using hb
  subst e
  exact I1.fpOk (Nat.le_refl _) (I1.hok.fresh (Nat.le_refl _))
 cases ha:z.cps.all (· < 128)
 ·refine wpAny_pyIter_wide ha ?_
  exact⟨s1.heap.objs.size,[s1.heap.objs.size],_,Its z,H1,rfl,I1.kept (t':=s1.toks) fun b o e=>Heap.get?_push_of_some _ e,zIE _ z t,⟨_,Heap.get?_push_size _ rfl,rfl,rfl⟩,fin,q⟩
 ·refine wpAny_pyIter_ascii ha ?_
  exact⟨s1.heap.objs.size,[s1.heap.objs.size],_,Its z,H1,rfl,I1.kept (t':=s1.toks) fun b o e=>Heap.get?_push_of_some _ e,zIR _ z t,⟨_,Heap.get?_push_size _ rfl,rfl,rfl⟩,fin,q⟩
section
variable {X:Cx}
noncomputable def zEp (z:Str) (lo hi:Option Int):Str:=⟨((z.cps.toList.drop (HT.sIx z.length 0 lo)).take (HT.sIx z.length z.length hi - HT.sIx z.length 0 lo)).toArray⟩
theorem zGX (lo hi:Option Int) (n:Nat):Builtin.Str.strSliceIndices lo hi 1 n=(List.range (HT.sIx n n hi - HT.sIx n 0 lo)).map fun k=>HT.sIx n 0 lo+k:=by
 have clip:∀ v:Int,max 0 (min (if v < 0 then v+(n:Int) else v) (n:Int))=((HT.sIx n 0 (some v):Nat):Int)/\max 0 (min (if v < 0 then v+(n:Int) else v) (n:Int))=((HT.sIx n n (some v):Nat):Int):=fun v=>by
  unfold HT.sIx
  by_cases hv:v < 0
  ·simp only[if_pos hv];omega
  ·simp only[if_neg hv];omega
 have key:∀ a b:Nat,sliceRange (a:Int) (b:Int) 1=(List.range (b - a)).map fun k=>a+k:=fun a b=>by
  unfold sliceRange
  have hc:(if (1:Int) > 0 then (if (a:Int) < (b:Int) then ((b:Int) - a+1 - 1) / 1 else 0) else (if (a:Int) > (b:Int) then ((a:Int) - b - 1 - 1) / (-1) else 0)).toNat=b - a:=by
   rw[if_pos (by decide)]
   by_cases h:(a:Int) < (b:Int)
   ·rw[if_pos h,Int.ediv_one];omega
   ·rw[if_neg h];omega
  dsimp only
  rw[hc]
  refine List.map_congr_left fun k _=>?_
  omega
 unfold Builtin.Str.strSliceIndices
 cases lo with
 | none =>
  cases hi with
  | none=>exact key 0 n
  | some v =>
   simp only[show (1:Int) > 0 by decide,if_true]
   rw[(clip v).2]
   exact key 0 _
 | some u =>
  cases hi with
  | none =>
   simp only[show (1:Int) > 0 by decide,if_true]
   rw[(clip u).1]
   exact key _ n
  | some v =>
   simp only[show (1:Int) > 0 by decide,if_true]
   rw[(clip u).1,(clip v).2]
   exact key _ _
theorem zMG {α:Type} (xs:Array α) (a m:Nat):((List.range m).map fun k=>a+k).filterMap (xs[·]?)=(xs.toList.drop a).take m:=by
 rw[List.filterMap_map]
 induction m generalizing a with
 | zero=>simp
 | succ m ih =>
  rw[List.range_succ,List.filterMap_append,ih,List.take_succ]
  congr 1
  simp only[List.filterMap_cons,List.filterMap_nil,Function.comp]
  rw[List.getElem?_drop,Array.getElem?_toList]
  cases xs[a+m]?<;>rfl
theorem zIy (z:Str) (lo hi:Option Int):Txt.slice z lo hi=zEp z lo hi:=by
 have h1:=HT.zFh z.length 0 (Nat.zero_le _) lo
 have h2:=HT.zFh z.length z.length (Nat.le_refl _) hi
 unfold Txt.slice zEp
 rw[zGX,zMG]
 split
 ·rename_i h
  rw[List.length_map,List.length_range] at h
  have h3:HT.sIx z.length z.length hi - HT.sIx z.length 0 lo=z.length:=by
   have h':=(Bool.and_eq_true_iff.mp h).2
   exact eq_of_beq h'
  have e1:HT.sIx z.length 0 lo=0:=by omega
  rw[h3,e1,List.drop_zero]
  have hl:z.cps.toList.length=z.length:=by simp[Str.length]
  rw[List.take_of_length_le (by omega)]
 ·rfl
noncomputable def zO2:V->Option Int->Option Int->Hp->VK->Prop:=fun x lo hi H Q=>∃ z,x=.str z/\z.length <= sizeLine/\Q (.str (zEp z lo hi)) H
theorem zMq:SlR X zO2:=by
 intro pins s σ H x v vl vu lo hi sl Q I rx hs pl pu h
 obtain⟨z,rfl,hz,q⟩:=h
 obtain⟨t,rfl⟩:=rx
 refine⟨"str",_,F.slot_str_getitem.lookup,typeIs_str _ _ _,wpAny_with_toks (n:=1) I.tk ?_⟩
 obtain⟨o,ho,hc,hd⟩:=hs
 have fin:(Txt.slice z lo hi).length <= sizeLine/\∀ t' k,1 <= ({ s with toks:=k }:Shared).toks->EP X pins σ Q (.str (Txt.slice z lo hi) t') { s with toks:=k } :=
  ⟨Nat.le_trans (Txt.slice_le z lo hi) hz,fun t' k hk=>⟨.str (Txt.slice z lo hi),H,I.tok k hk,⟨_,rfl⟩,by rw[zIy];exact q⟩⟩
 cases pl with
 | none =>
  cases pu with
  | none=>exact wpAny_getItem_str_slice (l:=none) (u:=none) (st:=none) ⟨o,ho,hc,hd⟩ rfl (post_val_or_str fin)
  | int j uj=>exact wpAny_getItem_str_slice (l:=none) (u:=some (j,uj)) (st:=none) ⟨o,ho,hc,hd⟩ rfl (post_val_or_str fin)
 | int i ui =>
  cases pu with
  | none=>exact wpAny_getItem_str_slice (l:=some (i,ui)) (u:=none) (st:=none) ⟨o,ho,hc,hd⟩ rfl (post_val_or_str fin)
  | int j uj=>exact wpAny_getItem_str_slice (l:=some (i,ui)) (u:=some (j,uj)) (st:=none) ⟨o,ho,hc,hd⟩ rfl (post_val_or_str fin)
theorem zBW {ys:List Str}:∀ {us:List Value},zd (ys.map V.str) us->StrsAre us ys:=by
 induction ys with
 | nil=>intro us r;rw[List.map_nil] at r;cases r;exact .nil
 | cons y ys ih =>
  intro us r
  rw[List.map_cons] at r
  cases r with
  | cons r1 r2 =>
   obtain⟨t,e⟩:=r1
   subst e
   exact .cons y t (ih r2)
noncomputable def zFY (K:PySem.W.Frag):V->List V->Hp->VK->Prop:=fun x vs H Q=>∃ z p ys,x=.str z/\vs=[.ref p]/\(SqL K H p (ys.map V.str)\/SqT K H p (ys.map V.str))/\(ys.map (·.length)).sum+ys.length * z.length <= 16777216/\Q (.str (Txt.join z ys)) H
theorem zLE:MtR X "str.join" (zFY X.K):=by
 intro pins s σ H x vs v us Q I rx rv h
 obtain⟨z,p,ys,rfl,rfl,hq,hz,q⟩:=h
 obtain⟨t,rfl⟩:=rx
 obtain⟨u,rfl,ru⟩:=QW rv
 cases ru
 rcases hq with hq | hq
 ·obtain⟨its,r,pl,_⟩:=I.list hq
  exact wpAny_with_toks (n:=1) I.tk (join_list pl.isList (by simpa using zBW r) hz fun t' k hk=>⟨.str (Txt.join z ys),H,I.tok k hk,⟨_,rfl⟩,q⟩)
 ·obtain⟨its,r,pl,_⟩:=I.tuple hq
  exact wpAny_with_toks (n:=1) I.tk (join_tuple pl (by simpa using zBW r) hz fun t' k hk=>⟨.str (Txt.join z ys),H,I.tok k hk,⟨_,rfl⟩,q⟩)
end
end L2
namespace L2
open PySem PySem.Spec PyProof.Rows PySem.Builtin.Str
section
variable {X:Cx}
theorem zHo:OpR X (binaryOp .Mult) (fun x y H Q=>∃ z n,x=.str z/\y=.int n/\MulOk z n/\Q (.str (Txt.mul z n)) H):=by
 intro pins s σ H x y v u Q I rx ry h
 obtain⟨z,n,rfl,rfl,hm,q⟩:=h
 obtain⟨t,rfl⟩:=rx
 obtain⟨t',rfl⟩:=ry
 exact wpAny_with_toks (n:=1) I.tk (SB.mul hm fun t' k hk=>⟨.str _,H,I.tok k hk,⟨_,rfl⟩,q⟩)
theorem zKG {bs:List Bool}:∀ {us:List Value},zd (bs.map V.bl) us->us=bs.map Value.bool:=by
 induction bs with
 | nil=>intro us r;rw[List.map_nil] at r;cases r;rfl
 | cons b bs ih =>
  intro us r
  rw[List.map_cons] at r
  cases r with
  | cons r1 r2=>rw[ih r2];cases r1;rfl
theorem zEm (bs:List Bool):((List.range bs.length).all fun i=>bs.getD i false)=bs.all id:=by
 induction bs with
 | nil=>rfl
 | cons b bs ih =>
  rw[List.length_cons,List.range_succ_eq_map,List.all_cons,List.all_map,List.all_cons,<- ih]
  rfl
noncomputable def zML (K:PySem.W.Frag):List V->Hp->VK->Prop:=fun xs H Q=>∃ (p:Addr) (bs:List Bool),xs=[.ref p]/\SqL K H p (bs.map V.bl)/\Q (.bl (bs.all id)) H
theorem zJe (hc:X.calm=true):j5 X (.builtin "all") (zML X.K):=by
 intro pins s σ H xs us Q I r h
 obtain⟨p,bs,rfl,hq,q⟩:=h
 obtain⟨u,rfl,ru⟩:=QW r
 cases ru
 obtain⟨its,rv,pl,hz⟩:=I.list hq
 have e:=zKG rv
 subst e
 obtain⟨o,ho,ho2⟩:=pl.isList
 have hlt:p < s.heap.objs.size:=Heap.lt_size ho
 refine wpAny_with_toks (n:=1) I.tk (call_all_walk (wpAny_pyIter_list pl.isList ?_))
 refine⟨s.heap.objs.size,_,_,_,_,_,fun i=>bs.getD i false,rfl,Walks.list (show X.A.in1.handled=none from I.ok.hd hc) s.heap.objs.size p (Nat.ne_of_lt hlt) (bs.map Value.bool).toArray,⟨⟨_,Heap.get?_push_size _ rfl,rfl,rfl⟩,pl.isList.push _⟩,?_,fun h' tk hk htk=>?_⟩
 ·intro i v s' Q' E' hP hQ
  have hP':(bs.map Value.bool)[i]? = some v:=by simpa using hP
  rw[List.getElem?_map] at hP'
  cases hb:bs[i]? with
  | none=>rw[hb] at hP';cases hP'
  | some b =>
   rw[hb] at hP'
   cases hP'
   have e:bs.getD i false=b:=by simp[List.getD,hb]
   dsimp only at hQ
   rw[e] at hQ
   exact wpAny_truthy_bool hQ
 ·have hk':∀ b o,s.heap.get? b=some o->h'.get? b=some o:=fun b o e=>hk b o (by simpa using Nat.ne_of_lt (Heap.lt_size e)) (Heap.get?_push_of_some _ e)
  refine⟨.bl (bs.all id),H,I.kept hk' htk,?_,q⟩
  show Value.bool _=Value.bool _
  rw[<- zEm]
  simp
end
mutual
inductive qS (K:PySem.W.Frag) (H:Hp):V->PyData->Prop
 | non:qS K H .non .none
 | bl (b:Bool):qS K H (.bl b) (.bool b)
 | int (i:Int):qS K H (.int i) (.int i)
 | str (x:Str):qS K H (.str x) (.str x)
 | lst {p:Addr}{xs:List V}{ds:List PyData}:SqL K H p xs->Z3 K H xs ds->qS K H (.ref p) (.list ds)
 | tup {p:Addr}{xs:List V}{ds:List PyData}:SqT K H p xs->Z3 K H xs ds->qS K H (.ref p) (.tuple ds)
inductive Z3 (K:PySem.W.Frag) (H:Hp):List V->List PyData->Prop
 | nil:Z3 K H [] []
 | cons {v:V}{d:PyData}{vs:List V}{ds:List PyData}:qS K H v d->Z3 K H vs ds->Z3 K H (v::vs) (d::ds)
end
section
variable {X:Cx}{pins:List (Addr×Obj)}{σ:St}{H:Hp}{s:Shared}
mutual
theorem qS.reads (I:Inv X pins σ H s):∀ {v:V}{d:PyData}{u:Value},qS X.K H v d->zh v u->∃ as,Reads s.heap u d as
 | _,_,_,.non,r=>by cases r;exact⟨_,.none⟩
 | _,_,_,.bl b,r=>by cases r;exact⟨_,.bool b⟩
 | _,_,_,.int i,r=>by obtain⟨t,rfl⟩:=r;exact⟨_,.int i t⟩
 | _,_,_,.str x,r=>by obtain⟨t,rfl⟩:=r;exact⟨_,.str x t⟩
 | _,_,_,.lst hq ha,r=>by
  cases r
  obtain⟨its,rv,⟨o,n,e,hc,hd,hs⟩,_⟩:=I.list hq
  obtain⟨as,ra⟩:=Z3.reads I ha rv
  exact⟨_,.list e hc hs (by simpa using ra)⟩
 | _,_,_,.tup hq ha,r=>by
  cases r
  obtain⟨its,rv,⟨o,e,hc,n,hs⟩,_⟩:=I.tuple hq
  obtain⟨as,ra⟩:=Z3.reads I ha rv
  exact⟨_,.tuple e hc hs (by simpa using ra)⟩
theorem Z3.reads (I:Inv X pins σ H s):∀ {vs:List V}{ds:List PyData}{us:List Value},Z3 X.K H vs ds->zd vs us->∃ as,ReadsAll s.heap us ds as
 | _,_,_,.nil,r=>by cases r;exact⟨_,.nil⟩
 | _,_,_,.cons h t,r=>by
  cases r with
  | cons r1 r2 =>
   obtain⟨as,ra⟩:=qS.reads I h r1
   obtain⟨bs,rb⟩:=Z3.reads I t r2
   exact⟨_,.cons ra rb⟩
end
end
section
variable {X:Cx}
noncomputable def zJw (K:PySem.W.Frag) (neg:Bool):R2:=fun x y H Q=>∃ d e,qS K H x d/\qS K H y e/\SeqAt.shaped d=true/\SeqAt.shaped e=true/\Q (.bl (if neg then !PyData.eqv d e else PyData.eqv d e)) H
theorem zM5 {k:Nat} (hr:zy k X.A):OpR X (compareOp .Eq) (zJw X.K false):=by
 intro pins s σ H x y v u Q I rx ry h
 obtain⟨d,e,hd,he,sd,se,q⟩:=h
 obtain⟨as,ra⟩:=hd.reads I rx
 obtain⟨bs,rb⟩:=he.reads I ry
 exact eq_dataH ra rb sd se hr.units ⟨.bl _,H,I,rfl,q⟩
theorem zM8 {k:Nat} (hr:zy k X.A):OpR X (compareOp .NotEq) (zJw X.K true):=by
 intro pins s σ H x y v u Q I rx ry h
 obtain⟨d,e,hd,he,sd,se,q⟩:=h
 obtain⟨as,ra⟩:=hd.reads I rx
 obtain⟨bs,rb⟩:=he.reads I ry
 exact ne_dataH ra rb sd se hr.units ⟨.bl _,H,I,rfl,q⟩
where RelC:V->Value->Prop:=fun c cv=>(∃ n,c=.ty n/\cv=.type n)\/∃ a,c=.ref a/\cv=.ref a
end
end L2
namespace L2
open PySem PySem.Spec PyProof.Rows
section
variable {X:Cx}
noncomputable def zMS:R2:=fun x y H Q=>match x,y with
 | .int i,.int j=>Q (.int (i+j)) H
 | .str a,.str b=>a.length+b.length <= sizeLine/\Q (.str (a++b)) H
 | .ref l,.ref b=>∃ xs zs,H l=some (.lst xs)/\H b=some (.lst zs)/\xs.length+zs.length <= sizeLine/\∀ p,H p=none->Q (.ref p) (upd H p (.lst (xs++zs)))
 | _,_=>False
theorem jB:OpR X (binaryOp .Add) zMS:=by
 intro pins s σ H x y v u Q I rx ry h
 cases x with
 | int i =>
  cases y with
  | int j=>exact zMU pins s σ H _ _ v u Q I rx ry ⟨i,j,rfl,rfl,h⟩
  | _=>exact False.elim h
 | str a =>
  cases y with
  | str b=>exact zH0 pins s σ H _ _ v u Q I rx ry ⟨a,b,rfl,rfl,h⟩
  | _=>exact False.elim h
 | ref l =>
  cases y with
  | ref b =>
   obtain⟨xs,zs,h1,h2,h3,h4⟩:=h
   exact zN6 pins s σ H _ _ v u Q I rx ry ⟨l,b,xs,zs,rfl,rfl,h1,h2,h3,h4⟩
  | _=>exact False.elim h
 | _=>exact False.elim h
noncomputable def zNt:R2:=fun x y H Q=>match x,y with
 | .int i,.int j=>Q (.int (i - j)) H
 | _,_=>False
theorem zOM:OpR X (binaryOp .Sub) zNt:=by
 intro pins s σ H x y v u Q I rx ry h
 cases x with
 | int i =>
  cases y with
  | int j=>exact zNH pins s σ H _ _ v u Q I rx ry ⟨i,j,rfl,rfl,h⟩
  | _=>exact False.elim h
 | _=>exact False.elim h
noncomputable def zNk:R2:=fun x y H Q=>match x,y with
 | .int i,.int j=>zHS i j/\Q (.int (i * j)) H
 | .str z,.int n=>MulOk z n/\Q (.str (Txt.mul z n)) H
 | _,_=>False
theorem zOq:OpR X (binaryOp .Mult) zNk:=by
 intro pins s σ H x y v u Q I rx ry h
 cases x with
 | int i =>
  cases y with
  | int j=>exact zMP pins s σ H _ _ v u Q I rx ry ⟨i,j,rfl,rfl,h⟩
  | _=>exact False.elim h
 | str z =>
  cases y with
  | int n=>exact zHo pins s σ H _ _ v u Q I rx ry ⟨z,n,rfl,rfl,h⟩
  | _=>exact False.elim h
 | _=>exact False.elim h
noncomputable def zNv:R2:=fun x y H Q=>match x,y with
 | .int i,.int j=>0 < j/\Q (.int (i % j)) H
 | _,_=>False
theorem qT:OpR X (binaryOp .Mod) zNv:=by
 intro pins s σ H x y v u Q I rx ry h
 cases x with
 | int i =>
  cases y with
  | int j=>exact zND pins s σ H _ _ v u Q I rx ry ⟨i,j,rfl,rfl,h⟩
  | _=>exact False.elim h
 | _=>exact False.elim h
noncomputable def zMm:R2:=fun x y H Q=>match x,y with
 | .int i,.int j=>(0 < j/\j < 1073741824)/\Q (.int (i / j)) H
 | _,_=>False
theorem ZE:OpR X (binaryOp .FloorDiv) zMm:=by
 intro pins s σ H x y v u Q I rx ry h
 cases x with
 | int i =>
  cases y with
  | int j=>exact zLi pins s σ H _ _ v u Q I rx ry ⟨i,j,rfl,rfl,h⟩
  | _=>exact False.elim h
 | _=>exact False.elim h
noncomputable def uLt:R2:=fun x y H Q=>match x,y with
 | .int i,.int j=>Q (.bl (decide (i < j))) H
 | .str i,.str j=>Q (.bl (decide (i.cps.toList < j.cps.toList))) H
 | _,_=>False
theorem zO4:OpR X (compareOp .Lt) uLt:=by
 intro pins s σ H x y v u Q I rx ry h
 cases x with
 | int i =>
  cases y with
  | int j=>exact zOm pins s σ H _ _ v u Q I rx ry ⟨i,j,rfl,rfl,h⟩
  | _=>exact False.elim h
 | str i =>
  cases y with
  | str j=>exact zJM pins s σ H _ _ v u Q I rx ry ⟨i,j,rfl,rfl,h⟩
  | _=>exact False.elim h
 | _=>exact False.elim h
noncomputable def uGt:R2:=fun x y H Q=>match x,y with
 | .int i,.int j=>Q (.bl (decide (j < i))) H
 | _,_=>False
theorem zFo:OpR X (compareOp .Gt) uGt:=by
 intro pins s σ H x y v u Q I rx ry h
 cases x with
 | int i =>
  cases y with
  | int j=>exact zOx pins s σ H _ _ v u Q I rx ry ⟨i,j,rfl,rfl,h⟩
  | _=>exact False.elim h
 | _=>exact False.elim h
noncomputable def uIn (K:PySem.W.Frag) (neg:Bool):R2:=fun x y H Q=>match x,y with
 | .str i,.str j=>Q (.bl (xor neg (!(Builtin.Str.occurrences j i 0 j.length 1).isEmpty))) H
 | x,.ref p=>∃ xs,(SqL K H p xs\/SqT K H p xs)/\yr x=true/\xs.all yr=true/\Q (.bl (xor neg (inV x xs))) H
 | _,_=>False
theorem zPK:OpR X (compareOp .In) (uIn X.K false):=by
 intro pins s σ H x y v u Q I rx ry h
 cases y with
 | str j =>
  cases x with
  | str i =>
   have h':Q (.bl (xor false (!(Builtin.Str.occurrences j i 0 j.length 1).isEmpty))) H:=h
   rw[Bool.false_xor] at h'
   exact zIB pins s σ H _ _ v u Q I rx ry ⟨i,j,rfl,rfl,h'⟩
  | _=>exact False.elim h
 | ref p =>
  have h':∃ xs,(SqL X.K H p xs\/SqT X.K H p xs)/\yr x=true/\xs.all yr=true/\Q (.bl (xor false (inV x xs))) H:=by cases x<;>exact h
  obtain⟨xs,h1,h2,h3,h4⟩:=h'
  rw[Bool.false_xor] at h4
  exact zH5 pins s σ H _ _ v u Q I rx ry ⟨p,xs,rfl,h1,h2,h3,h4⟩
 | _=>cases x<;>exact False.elim h
theorem zLP:OpR X (compareOp .NotIn) (uIn X.K true):=by
 intro pins s σ H x y v u Q I rx ry h
 cases y with
 | str j =>
  cases x with
  | str i =>
   have h':Q (.bl (xor true (!(Builtin.Str.occurrences j i 0 j.length 1).isEmpty))) H:=h
   rw[Bool.true_xor] at h'
   exact zF7 pins s σ H _ _ v u Q I rx ry ⟨i,j,rfl,rfl,h'⟩
  | _=>exact False.elim h
 | ref p =>
  have h':∃ xs,(SqL X.K H p xs\/SqT X.K H p xs)/\yr x=true/\xs.all yr=true/\Q (.bl (xor true (inV x xs))) H:=by cases x<;>exact h
  obtain⟨xs,h1,h2,h3,h4⟩:=h'
  rw[Bool.true_xor] at h4
  exact zFp pins s σ H _ _ v u Q I rx ry ⟨p,xs,rfl,h1,h2,h3,h4⟩
 | _=>cases x<;>exact False.elim h
noncomputable def uIx (K:PySem.W.Frag):R2:=fun x y H Q=>match x,y with
 | .str z,.int i=>∃ c,z.length <= sizeLine/\atI z.cps.toList i=some c/\Q (.str ⟨#[c]⟩) H
 | .ref p,.int i=>∃ xs v,(SqL K H p xs\/SqT K H p xs)/\atI xs i=some v/\Q v H
 | _,_=>False
theorem zPY:IxR X (uIx X.K):=by
 intro value slice pins s σ H x y v u Q I rx ry h hs
 cases x with
 | str z =>
  cases y with
  | int i =>
   obtain⟨c,h1,h2,h3⟩:=h
   exact zNJ value slice pins s σ H _ _ v u Q I rx ry ⟨z,i,c,rfl,rfl,h1,h2,h3⟩ hs
  | _=>exact False.elim h
 | ref p =>
  cases y with
  | int i =>
   obtain⟨xs,c,h1 | h1,h2,h3⟩:=h
   ·exact zK4 value slice pins s σ H _ _ v u Q I rx ry ⟨p,xs,i,c,rfl,rfl,h1,h2,h3⟩ hs
   ·exact zMR value slice pins s σ H _ _ v u Q I rx ry ⟨p,xs,i,c,rfl,rfl,h1,h2,h3⟩ hs
  | _=>exact False.elim h
 | _=>exact False.elim h
noncomputable def uSl (K:PySem.W.Frag):V->Option Int->Option Int->Hp->VK->Prop:=fun x lo hi H Q=>match x with
 | .str z=>z.length <= sizeLine/\Q (.str (zEp z lo hi)) H
 | .ref a=>(∃ xs,SqL K H a xs/\∀ p,H p=none->Q (.ref p) (upd H p (.lst (zAW xs lo hi)))) \/
   (∃ xs,SqT K H a xs /\ ¬ (HT.sIx xs.length 0 lo=0/\HT.sIx xs.length xs.length hi=xs.length)/\∀ p,H p=none->Q (.ref p) (upd H p (.tup (zAW xs lo hi))))
 | _=>False
theorem zAc:SlR X (uSl X.K):=by
 intro pins s σ H x v vl vu lo hi sl Q I rx hs pl pu h
 cases x with
 | str z=>exact zMq pins s σ H _ v vl vu lo hi sl Q I rx hs pl pu ⟨z,rfl,h⟩
 | ref a =>
  rcases h with ⟨xs,h1,h2⟩ | ⟨xs,h1,h2,h3⟩
  ·exact zLc pins s σ H _ v vl vu lo hi sl Q I rx hs pl pu ⟨a,xs,rfl,h1,h2⟩
  ·exact zNF pins s σ H _ v vl vu lo hi sl Q I rx hs pl pu ⟨a,xs,rfl,h1,h2,h3⟩
 | _=>exact False.elim h
noncomputable def zNd (K:PySem.W.Frag):List V->Hp->VK->Prop:=fun xs H Q=>match xs with
 | [.str z]=>z.length <= sizeLine/\Q (.int z.length) H
 | [.ref p]=>∃ ys,(SqL K H p ys\/SqT K H p ys)/\Q (.int ys.length) H
 | _=>False
theorem zOf:j5 X (.builtin "len") (zNd X.K):=by
 intro pins s σ H xs us Q I r h
 match xs,h with
 | [.str z],h=>exact zF8 pins s σ H _ us Q I r ⟨z,rfl,h⟩
 | [.ref p],h =>
  obtain⟨ys,h1,h2⟩:=h
  exact zFr pins s σ H _ us Q I r ⟨p,ys,rfl,h1,h2⟩
theorem zLq:PIp X .Add (fun x y H Q=>match x,y with | .int i,.int j=>Q (.int (i+j)) H | .str a,.str b=>a.length+b.length <= sizeLine/\Q (.str (a++b)) H | _,_=>False):=by
 intro pins s σ H x y v u Q I rx ry h
 cases x with
 | int i =>
  cases y with
  | int j=>exact zM7 pins s σ H _ _ v u Q I rx ry ⟨i,j,rfl,rfl,h⟩
  | _=>exact False.elim h
 | str a =>
  cases y with
  | str b=>exact zGe pins s σ H _ _ v u Q I rx ry ⟨a,b,rfl,rfl,h⟩
  | _=>exact False.elim h
 | _=>exact False.elim h
end
theorem J7:bootBuiltins "len" = some (.builtin "len"):=by decide +kernel
theorem zNI:bootBuiltins "all" = some (.builtin "all"):=by decide +kernel
theorem QX:bootBuiltins "isinstance" = some (.builtin "isinstance"):=by decide +kernel
theorem zOA:bootBuiltins "str" = some (.type "str"):=by decide +kernel
theorem zNa:bootBuiltins "int" = some (.type "int"):=by decide +kernel
theorem zHC:bootBuiltins "list" = some (.type "list"):=by decide +kernel
theorem zBO:bootBuiltins "tuple" = some (.type "tuple"):=by decide +kernel
theorem zGw:bootBuiltins "dict" = some (.type "dict"):=by decide +kernel
structure Has (P:Program) (w:World) (K:PySem.W.Frag) (mg:Str->Option Value) (base:Heap) (x:Str) (k:Nat) (ps:List Str) (sp:Sp):Prop where
 ex:∃ f fd,jW P w K mg base CX0 k f fd ps sp/\QQ K fd ps []/\PySem.W.keepIn K (.ref f)=true/\mg x=some (.ref f)
section
variable {X:Cx}{k kk:Nat}{x:Str}{ps:List Str}{sp:Sp}{e:Expr}{es:List Expr}{t:TA}{p pos:Pos}
theorem zJ4 (h:Has X.prog X.w X.K X.mg X.base x k ps sp) (hr:zy kk X.A) (hk:k <= kk) (hg:Gl X x) (ha:PA X (e::es) t) (hx:qa CX0 X E0:=by exact QS) (hdb:(x == ("__debug__" : Str))=false:=by decide)
  (he:starEach (e::es) X.env=(false,eval e X.env)::starEach es X.env:=by rfl) (hpl:(backTo pos (starEach es X.env)).any (·.1)=false:=by rfl) :
  PE X (.Call (.Name x p) (e::es) [] pos) (zHz sp [] E0 t):=by
 obtain⟨f,fd,F,b,kp,m⟩:=h.ex
 exact zMI F (hr.mono hk) hg m kp b .nil hx ha hdb he hpl
structure zDI (mg:Str->Option Value) (x:Str) (v:V):Prop where
 ex:∃ u,mg x=some u/\zh v u
theorem zKD {v:V} (h:zDI X.mg x v) (hg:Gl X x) (hd:(x == ("__debug__" : Str))=false:=by decide):PE X (.Name x pos) (tC v):=by
 obtain⟨u,m,r⟩:=h.ex
 exact zMA hg m r hd
end
noncomputable def zKk:V->Value->Bool
 | .non,.none=>true
 | .bl a,.bool b=>a == b
 | .int i,.int j _=>i == j
 | .str x,.str y _=>x == y
 | _,_=>false
theorem zG2:∀ {v:V}{u:Value},zKk v u=true->zh v u
 | .non,.none,_=>rfl
 | .bl a,.bool b,h=>by
  have e:a=b:=eq_of_beq h
  rw[e];rfl
 | .int i,.int j t,h=>by
  have e:i=j:=eq_of_beq h
  rw[e];exact⟨t,rfl⟩
 | .str x,.str y t,h=>by
  have e:x=y:=eq_of_beq h
  rw[e];exact⟨t,rfl⟩
theorem zAA {K:PySem.W.Frag}{A B:String}{b:Bool} (h:(if (Value.type A == Value.type B)=true then some true else if PySem.W.kitMeta B=true then (PySem.fastBuiltinMro A).map (·.contains (Value.type B)) else none)=some b):PySem.W.kitOne K (.type A) (.type B)=some b:=h
end L2
namespace TX
open PySem
noncomputable def sp (y:Nat):Nat:=if y=10 then 32 else y
end TX
namespace TS
open PySem PyProof.Rows
variable {prog:Program}{w:World}{A:Around}{E:Value->Shared->Prop}{s:Shared}{a₀:Array Keyed}{κ:KeyKind}
structure SG (a₀:Array Keyed) (st:SortSt):Prop where
 pm:(arrOf st).Perm a₀
 kd:kindOf st=oneType'
 fl:failedOf st=none
noncomputable def Ri (κ:KeyKind) (xs:Array Keyed) (lo k:Nat):Prop:=∀ i j,i <= j->j < k->κ.kle (KK κ xs (lo+i)) (KK κ xs (lo+j))
structure zPa (a₀:Array Keyed) (lo hi:Nat) (st st':SortSt):Prop where
 ok:SG a₀ st'
 out:∀ k,k < lo\/hi <= k->(arrOf st')[k]? = (arrOf st)[k]?
 pd:pendingOf st'=pendingOf st
noncomputable def kyo (κ:KeyKind) (p:Keyed):κ.α:=(κ.keyOf p.1).getD κ.dflt
noncomputable def zOB (κ:KeyKind) (p:Keyed):Prop:=∃ a,κ.keyOf p.1=some a
noncomputable def byd (left:Bool) (key:Keyed) (arr:Array Keyed) (base i:Nat):StateT SortSt Sem (Option Bool):=do
 let x <- elem' arr (base+i)
 if left then lt' x key else return (<- lt' key x).map (!·)
noncomputable def gl3 (left:Bool) (key:Keyed) (arr:Array Keyed) (base n lo hi:Nat):StateT SortSt Sem (Option Nat):=do
 let mut lo:=lo
 let mut hi:=hi
 for _ in [0:n] do
  if lo ≥ hi then break
  let m:=lo+(hi - lo) / 2
  let some more <- byd left key arr base m | return none
  if more then lo:=m+1 else hi:=m
 return some hi
noncomputable def gl1 (left:Bool) (key:Keyed) (arr:Array Keyed) (base n hint:Nat):StateT SortSt Sem (Option Nat):=do
 let mut lastofs:=0
 let mut ofs:=1
 for _ in [0:n] do
  if ofs ≥ n - hint then break
  let some more <- byd left key arr base (hint+ofs) | return none
  if !more then break
  lastofs:=ofs
  ofs:=2 * ofs+1
 gl3 left key arr base n (hint+lastofs+1) (hint+min ofs (n - hint))
structure MI (R:Keyed->Keyed->Prop) (l ra rb out:List Keyed):Prop where
 pm:(out++ra++rb).Perm l
 so:out.Pairwise R
 oa:∀ x,x∈out->∀ y,y∈ra->R x y
 ob:∀ x,x∈out->∀ y,y∈rb->R x y
 sa:ra.Pairwise R
 sb:rb.Pairwise R
structure zPb (st st':SortSt):Prop where
 kd:kindOf st'=kindOf st
 ar:arrOf st'=arrOf st
 pd:pendingOf st'=pendingOf st
 fl:failedOf st'=failedOf st
noncomputable def kl (κ:KeyKind) (p q:Keyed):Prop:=κ.kle (kyo κ p) (kyo κ q)
structure MG (κ:KeyKind) (x y:Array Keyed):Prop where
 kx:∀ p,p∈x.toList->zOB κ p
 ky:∀ p,p∈y.toList->zOB κ p
 rx:Ri κ x 0 x.size
 ry:Ri κ y 0 y.size
 nx:1 <= x.size
 ny:1 <= y.size
 fst:∀ p q,y[0]? = some p->x[0]? = some q->kl κ p q
 lst:∀ p q,y[y.size - 1]? = some p->x[x.size - 1]? = some q->kl κ p q
noncomputable abbrev H7:=Option (Array Keyed)×Nat×Nat×Array Keyed×Nat×Nat×Nat
noncomputable abbrev H6:=Option (Array Keyed)×Nat×Nat×Array Keyed×Nat×Nat
noncomputable abbrev H5:=Option (Array Keyed)×Nat×Nat×Array Keyed×Nat
noncomputable def zNp (κ:KeyKind) (xs:Array Keyed):List (Nat×Nat×Nat)->Nat->Nat->Prop
 | [],lo,hi=>lo=hi
 | r::t,lo,hi=>r.1=lo/\1 <= r.2.1/\Ri κ xs lo r.2.1/\zNp κ xs t (lo+r.2.1) hi
structure PR (κ:KeyKind) (a₀:Array Keyed) (lo:Nat) (st:SortSt):Prop where
 ok:SG a₀ st
 rn:zNp κ (arrOf st) (pendingOf st).toList 0 lo
end TS
namespace M
noncomputable abbrev T:=List Nat
inductive Kd where
 | str | int | bool | list | tuple | dict
 deriving DecidableEq
inductive D where
 | non | bl (b:Bool) | int (i:Int) | str (x:T) | tup (ds:List D) | ro (ds:List D) | ref (i:Nat) | ty (n:Kd)
mutual
noncomputable def D.decEq:(a b:D)->Decidable (a=b)
 | .non,.non=>isTrue rfl
 | .bl a,.bl b=>if h:a=b then isTrue (by rw[h]) else isFalse (fun e=>h (D.bl.inj e))
 | .int a,.int b=>if h:a=b then isTrue (by rw[h]) else isFalse (fun e=>h (D.int.inj e))
 | .str a,.str b=>if h:a=b then isTrue (by rw[h]) else isFalse (fun e=>h (D.str.inj e))
 | .ref a,.ref b=>if h:a=b then isTrue (by rw[h]) else isFalse (fun e=>h (D.ref.inj e))
 | .ty a,.ty b=>if h:a=b then isTrue (by rw[h]) else isFalse (fun e=>h (D.ty.inj e))
 | .tup a,.tup b=>match D.decEqs a b with
  | isTrue h=>isTrue (by rw[h])
  | isFalse h=>isFalse (fun e=>h (D.tup.inj e))
 | .ro a,.ro b=>match D.decEqs a b with
  | isTrue h=>isTrue (by rw[h])
  | isFalse h=>isFalse (fun e=>h (D.ro.inj e))
 | .non,.bl _ | .non,.int _ | .non,.str _ | .non,.tup _ | .non,.ro _ | .non,.ref _ | .non,.ty _=>isFalse (fun e=>nomatch e)
 | .bl _,.non | .bl _,.int _ | .bl _,.str _ | .bl _,.tup _ | .bl _,.ro _ | .bl _,.ref _ | .bl _,.ty _=>isFalse (fun e=>nomatch e)
 | .int _,.non | .int _,.bl _ | .int _,.str _ | .int _,.tup _ | .int _,.ro _ | .int _,.ref _ | .int _,.ty _=>isFalse (fun e=>nomatch e)
 | .str _,.non | .str _,.bl _ | .str _,.int _ | .str _,.tup _ | .str _,.ro _ | .str _,.ref _ | .str _,.ty _=>isFalse (fun e=>nomatch e)
 | .tup _,.non | .tup _,.bl _ | .tup _,.int _ | .tup _,.str _ | .tup _,.ro _ | .tup _,.ref _ | .tup _,.ty _=>isFalse (fun e=>nomatch e)
 | .ro _,.non | .ro _,.bl _ | .ro _,.int _ | .ro _,.str _ | .ro _,.tup _ | .ro _,.ref _ | .ro _,.ty _=>isFalse (fun e=>nomatch e)
 | .ref _,.non | .ref _,.bl _ | .ref _,.int _ | .ref _,.str _ | .ref _,.tup _ | .ref _,.ro _ | .ref _,.ty _=>isFalse (fun e=>nomatch e)
 | .ty _,.non | .ty _,.bl _ | .ty _,.int _ | .ty _,.str _ | .ty _,.tup _ | .ty _,.ro _ | .ty _,.ref _=>isFalse (fun e=>nomatch e)
noncomputable def D.decEqs:(a b:List D)->Decidable (a=b)
 | [],[]=>isTrue rfl
 | [],_::_=>isFalse (fun e=>nomatch e)
 | _::_,[]=>isFalse (fun e=>nomatch e)
 | a::r,b::t=>match D.decEq a b,D.decEqs r t with
  | isTrue h,isTrue k=>isTrue (by rw[h,k])
  | isFalse h,_=>isFalse (fun e=>h (List.cons.inj e).1)
  | _,isFalse k=>isFalse (fun e=>k (List.cons.inj e).2)
end
instance:DecidableEq D:=D.decEq
inductive O where
 | lst (xs:List D) | dct (kvs:List (D×D)) | fdc (kvs:List (D×D)) | ins (c:Nat) (fs:List (Option D))
 deriving DecidableEq
noncomputable abbrev S:=List O
noncomputable abbrev St:=List (Option D)
inductive R (α:Type) where
 | ok (a:α) (s:S) | exc (e:D) (s:S) | no
noncomputable def R.bind {α β:Type}:R α->(α->S->R β)->R β
 | .ok a s,f=>f a s
 | .exc e s,_=>.exc e s
 | .no,_=>.no
@[simp] theorem R.bind_ok {α β:Type} (a:α) (s:S) (f:α->S->R β):(R.ok a s).bind f=f a s:=rfl
@[simp] theorem R.bind_no {α β:Type} (f:α->S->R β):(R.no:R α).bind f=.no:=rfl
@[simp] theorem R.bind_exc {α β:Type} (e:D) (s:S) (f:α->S->R β):(R.exc e s:R α).bind f=.exc e s:=rfl
section
variable {α β:Type}{c:Prop} [Decidable c]
@[simp] theorem R.bind_ite (a b:R α) (f:α->S->R β):(if c then a else b).bind f=if c then a.bind f else b.bind f:=by split<;>rfl
@[simp] theorem R.ite_ok (a b:α) (s:S):(if c then R.ok a s else R.ok b s)=R.ok (if c then a else b) s:=by split<;>rfl
@[simp] theorem D.ite_bl (a b:Bool):(if c then D.bl a else D.bl b)=D.bl (if c then a else b):=by split<;>rfl
@[simp] theorem D.ite_int (a b:Int):(if c then D.int a else D.int b)=D.int (if c then a else b):=by split<;>rfl
@[simp] theorem D.ite_str (a b:T):(if c then D.str a else D.str b)=D.str (if c then a else b):=by split<;>rfl
@[simp] theorem D.ite_tup (a b:List D):(if c then D.tup a else D.tup b)=D.tup (if c then a else b):=by split<;>rfl
@[simp] theorem St.ite_some (a b:D):(if c then some a else some b)=some (if c then a else b):=by split<;>rfl
@[simp] theorem St.ite_cons (a b:Option D) (r t:St):(if c then a::r else b::t)=(if c then a else b)::(if c then r else t):=by split<;>rfl
end
noncomputable abbrev EM:=St->S->R D
noncomputable abbrev TM:=St->S->R Bool
noncomputable abbrev AM:=St->S->R (List D)
noncomputable def SZ:Nat:=16777216
@[simp] noncomputable def zB (i:Nat):EM:=fun σ s=>match σ[i]? with
 | some (some d)=>.ok d s
 | _=>.no
@[simp] noncomputable def eC (d:D):EM:=fun _ s=>.ok d s
@[simp] noncomputable def eOp (f:D->D->S->R D) (a b:EM):EM:=fun σ s=>(a σ s).bind fun x s=>(b σ s).bind fun y s=>f x y s
@[simp] noncomputable def eUn (f:D->S->R D) (a:EM):EM:=fun σ s=>(a σ s).bind fun x s=>f x s
@[simp] noncomputable def zI:AM:=fun _ s=>.ok [] s
@[simp] noncomputable def zD (a:EM) (r:AM):AM:=fun σ s=>(a σ s).bind fun x s=>(r σ s).bind fun xs s=>.ok (x::xs) s
@[simp] noncomputable def qV (a:AM):EM:=fun σ s=>(a σ s).bind fun xs s=>if xs.length <= SZ then .ok (.tup xs) s else .no
@[simp] noncomputable def alloc (o:O) (s:S):R D:=.ok (.ref s.length) (s++[o])
@[simp] noncomputable def yZ (a:AM):EM:=fun σ s=>(a σ s).bind fun xs s=>if xs.length <= SZ then alloc (.lst xs) s else .no
@[simp] noncomputable def jN (s:S) (i:Nat):Option (List D):=match s[i]? with
 | some (.lst xs)=>some xs
 | _=>none
@[simp] noncomputable def zU:D->D->S->R D
 | .int i,.int j,s=>.ok (.int (i+j)) s
 | .str a,.str b,s=>if a.length+b.length <= SZ then .ok (.str (a++b)) s else .no
 | .tup a,.tup b,s=>if a≠[]/\a.length+b.length <= SZ then .ok (.tup (a++b)) s else .no
 | .ref i,.ref j,s=>match s[i]?,s[j]? with
  | some (.lst xs),some (.lst ys)=>if xs.length+ys.length <= SZ then alloc (.lst (xs++ys)) s else .no
  | _,_=>.no
 | _,_,_=>.no
@[simp] noncomputable def zKy:D->D->S->R D
 | .int i,.int j,s=>.ok (.int (i - j)) s
 | _,_,_=>.no
noncomputable def yp (i:Int):Bool:=decide (i.natAbs < 18446744073709551616)
@[simp] noncomputable def j4:D->D->S->R D
 | .int i,.int j,s=>if yp i || yp j then .ok (.int (i * j)) s else .no
 | .str a,.int n,s=>if 0 <= n/\n.natAbs <= 1000000/\a.length * n.natAbs <= 1000000 then .ok (.str (List.replicate n.toNat a).flatten) s else .no
 | .ref p,.int n,s=>match jN s p with
  | some xs=>if n.natAbs <= 1000/\xs.length * n.natAbs <= 1000000 then alloc (.lst (List.replicate n.toNat xs).flatten) s else .no
  | none=>.no
 | _,_,_=>.no
@[simp] noncomputable def qJ:D->D->S->R D
 | .int i,.int j,s=>if 0 < j/\j.natAbs < 1073741824 then .ok (.int (i / j)) s else .no
 | _,_,_=>.no
@[simp] noncomputable def jM:D->D->S->R D
 | .int i,.int j,s=>if 0 < j then .ok (.int (i % j)) s else .no
 | _,_,_=>.no
noncomputable abbrev CM:=D->D->S->R Bool
@[simp] noncomputable def cLt:CM
 | .int i,.int j,s=>.ok (decide (i < j)) s
 | .str a,.str b,s=>.ok (decide (a < b)) s
 | _,_,_=>.no
@[simp] noncomputable def cGt:CM
 | .int i,.int j,s=>.ok (decide (j < i)) s
 | _,_,_=>.no
inductive P where
 | non | bl (b:Bool) | int (i:Int) | str (x:T) | tup (ps:List P) | lst (ps:List P)
mutual
noncomputable def P.eqv:P->P->Bool
 | .non,.non=>true
 | .bl a,.bl b=>a == b
 | .int a,.int b=>a == b
 | .bl a,.int b=>(if a then 1 else 0) == b
 | .int a,.bl b=>a == (if b then 1 else 0)
 | .str a,.str b=>a == b
 | .tup a,.tup b=>P.eqvs a b
 | .lst a,.lst b=>P.eqvs a b
 | _,_=>false
noncomputable def P.eqvs:List P->List P->Bool
 | [],[]=>true
 | a::r,b::t=>P.eqv a b && P.eqvs r t
 | _,_=>false
end
mutual
noncomputable def P.dep:P->Nat
 | .tup ps=>P.deps ps+1
 | .lst ps=>P.deps ps+1
 | _=>0
noncomputable def P.deps:List P->Nat
 | []=>0
 | p::ps=>max (P.dep p) (P.deps ps)
end
noncomputable def yw (g:Nat->Option P):D->Option P
 | .non=>some .non
 | .bl b=>some (.bl b)
 | .int i=>some (.int i)
 | .str x=>some (.str x)
 | .tup ds=>(all ds).map .tup
 | .ro ds=>(all ds).map .lst
 | .ref i=>g i
 | .ty _=>none
where all:List D->Option (List P)
 | []=>some []
 | d::ds=>match yw g d,all ds with
  | some p,some ps=>some (p::ps)
  | _,_=>none
noncomputable def toP:Nat->S->D->Option P
 | 0,_=>yw fun _=>none
 | n+1,s=>yw fun i=>match jN s i with
  | some xs=>(yw.all (fun j=>toP n s (.ref j)) xs).map .lst
  | none=>none
noncomputable def JV:Nat:=9
noncomputable def yx (k:D) (kvs:List (D×D)):Option D:=kvs.lookup k
noncomputable def dEq (s:S) (ws:List (D×D)):List (D×D)->Option Bool
 | []=>some true
 | (k,v)::r=>match yx k ws with
  | none=>some false
  | some w=>match toP 8 s v,toP 8 s w,dEq s ws r with
   | some p,some q,some b=>if P.dep p <= 64/\P.dep q <= 64 then some (P.eqv p q && b) else none
   | _,_,_=>none
noncomputable def zDm (x y:D) (s:S):R Bool:=match x,y with
 | .ref i,.ref j=>match s[i]?,s[j]? with
  | some (.dct ks),some (.dct ws)=>if ks.length=ws.length then (match dEq s ws ks with | some b=>.ok b s | none=>.no) else .ok false s
  | _,_=>.no
 | _,_=>.no
@[simp] noncomputable def eqD (x y:D) (s:S):R Bool:=match x,y with
 | .str a,.str b=>.ok (decide (a=b)) s
 | .int a,.int b=>.ok (decide (a=b)) s
 | .bl a,.bl b=>.ok (decide (a=b)) s
 | .non,.non=>.ok true s
 | x,y=>match toP JV s x,toP JV s y with
  | some p,some q=>if P.dep p <= 64/\P.dep q <= 64 then .ok (P.eqv p q) s else .no
  | _,_=>zDm x y s
@[simp] noncomputable def cEq:CM:=fun x y s=>eqD x y s
@[simp] noncomputable def cNe:CM:=fun x y s=>(eqD x y s).bind fun b s=>.ok (!b) s
noncomputable def zB0 (a:T):T->Bool
 | []=>a.isEmpty
 | c::r=>a.isPrefixOf (c::r) || zB0 a r
noncomputable def flat:D->Bool
 | .non=>true
 | .bl _=>true
 | .int _=>true
 | .str _=>true
 | _=>false
noncomputable def eqF:D->D->Bool
 | .non,.non=>true
 | .bl a,.bl b=>a == b
 | .int a,.int b=>a == b
 | .bl a,.int b=>(if a then 1 else 0) == b
 | .int a,.bl b=>a == (if b then 1 else 0)
 | .str a,.str b=>a == b
 | _,_=>false
noncomputable def Qm (x:D) (xs:List D):Bool:=xs.any fun y=>eqF y x
noncomputable def yt:D->Bool
 | .int _=>true
 | .str _=>true
 | _=>false
@[simp] noncomputable def inD (x y:D) (s:S):R Bool:=match y with
 | .str b=>match x with
  | .str a=>.ok (zB0 a b) s
  | _=>.no
 | .tup ys=>if flat x && ys.all flat then .ok (Qm x ys) s else .no
 | .ro ys=>if flat x && ys.all flat then .ok (Qm x ys) s else .no
 | .ref i=>match s[i]? with
  | some (.lst ys)=>if flat x && ys.all flat then .ok (Qm x ys) s else .no
  | some (.dct kvs)=>if yt x then .ok (yx x kvs).isSome s else .no
  | some (.fdc kvs)=>if yt x then .ok (yx x kvs).isSome s else .no
  | _=>.no
 | _=>.no
@[simp] noncomputable def cIn:CM:=fun x y s=>inD x y s
@[simp] noncomputable def ZI:CM:=fun x y s=>(inD x y s).bind fun b s=>.ok (!b) s
@[simp] noncomputable def QE (c:CM) (a b:EM):EM:=fun σ s=>(a σ s).bind fun x s=>(b σ s).bind fun y s=>(c x y s).bind fun k s=>.ok (.bl k) s
@[simp] noncomputable def jA (c:CM) (a b:EM):TM:=fun σ s=>(a σ s).bind fun x s=>(b σ s).bind fun y s=>c x y s
@[simp] noncomputable def zKs:D->Bool
 | .non=>true
 | _=>false
@[simp] noncomputable def zB6 (a:EM):TM:=fun σ s=>(a σ s).bind fun x s=>.ok (zKs x) s
@[simp] noncomputable def Jc:D->S->R Bool
 | .non,s=>.ok false s
 | .bl b,s=>.ok b s
 | .int i,s=>.ok (decide (i≠0)) s
 | .str x,s=>if x.length <= SZ then .ok (!x.isEmpty) s else .no
 | .tup ds,s=>.ok (!ds.isEmpty) s
 | .ro ds,s=>.ok (!ds.isEmpty) s
 | .ref i,s=>match s[i]? with
  | some (.lst xs)=>.ok (!xs.isEmpty) s
  | some (.dct kvs)=>.ok (!kvs.isEmpty) s
  | _=>.no
 | .ty _,_=>.no
@[simp] noncomputable def zC6 (a:EM):TM:=fun σ s=>(a σ s).bind Jc
@[simp] noncomputable def zBF (a:TM):TM:=fun σ s=>(a σ s).bind fun b s=>.ok (!b) s
@[simp] noncomputable def zAg (a b:TM):TM:=fun σ s=>(a σ s).bind fun k s=>if k then b σ s else .ok false s
@[simp] noncomputable def tOr (a b:TM):TM:=fun σ s=>(a σ s).bind fun k s=>if k then .ok true s else b σ s
@[simp] noncomputable def asB:D->S->R Bool
 | .bl b,s=>.ok b s
 | _,_=>.no
@[simp] noncomputable def zGD (a b:EM):EM:=fun σ s=>(a σ s).bind fun x s=>(asB x s).bind fun k s=>if k then b σ s else .ok (.bl false) s
noncomputable def ixN (n:Nat) (i:Int):Option Nat:=if 0 <= i then (if i < n then some i.toNat else none) else if -(n:Int) <= i then some (i+n).toNat else none
noncomputable def atI {α:Type} (xs:List α) (i:Int):Option α:=(ixN xs.length i).bind fun j=>xs[j]?
@[simp] noncomputable def zR:D->D->S->R D
 | .str x,.int i,s=>if x.length <= SZ then (match atI x i with | some c=>.ok (.str [c]) s | none=>.no) else .no
 | .tup xs,.int i,s=>match atI xs i with | some d=>.ok d s | none=>.no
 | .ro xs,.int i,s=>match atI xs i with | some d=>.ok d s | none=>.no
 | .ref p,k,s=>match s[p]? with
  | some (.lst xs)=>(match k with | .int i=>(match atI xs i with | some d=>.ok d s | none=>.no) | _=>.no)
  | some (.dct kvs)=>if yt k then (match yx k kvs with | some d=>.ok d s | none=>.no) else .no
  | some (.fdc kvs)=>if yt k then (match yx k kvs with | some d=>.ok d s | none=>.no) else .no
  | _=>.no
 | _,_,_=>.no
noncomputable def sIx (n d:Nat):Option Int->Nat
 | none=>d
 | some v=>(if v < 0 then max (v+(n:Int)) 0 else min v (n:Int)).toNat
noncomputable def cut {α:Type} (xs:List α) (lo hi:Option Int):List α:=(xs.drop (sIx xs.length 0 lo)).take (sIx xs.length xs.length hi - sIx xs.length 0 lo)
noncomputable abbrev OM:=St->S->R (Option Int)
@[simp] noncomputable def QR:OM:=fun _ s=>.ok none s
@[simp] noncomputable def yB (a:EM):OM:=fun σ s=>(a σ s).bind fun x s=>match x with | .int i=>.ok (some i) s | _=>.no
@[simp] noncomputable def slD (x:D) (lo hi:Option Int) (s:S):R D:=match x with
 | .str z=>if z.length <= SZ then .ok (.str (cut z lo hi)) s else .no
 | .tup xs=>if sIx xs.length 0 lo=0/\sIx xs.length xs.length hi=xs.length then .no else .ok (.tup (cut xs lo hi)) s
 | .ro xs=>alloc (.lst (cut xs lo hi)) s
 | .ref p=>match jN s p with
  | some xs=>alloc (.lst (cut xs lo hi)) s
  | none=>.no
 | _=>.no
@[simp] noncomputable def eSl (a:EM) (lo hi:OM):EM:=fun σ s=>(a σ s).bind fun x s=>(lo σ s).bind fun l s=>(hi σ s).bind fun h s=>slD x l h s
noncomputable abbrev F:=List D->S->R D
@[simp] noncomputable def zT (f:F) (a:AM):EM:=fun σ s=>(a σ s).bind fun xs s=>f xs s
@[simp] noncomputable def zBK (k:Kd) (x:D) (s:S):Bool:=match x with
 | .str _=>(match k with | .str=>true | _=>false)
 | .ro _=>(match k with | .list=>true | _=>false)
 | .ref p=>match s[p]? with
  | some (.lst _)=>(match k with | .list=>true | _=>false)
  | some (.dct _)=>(match k with | .dict=>true | _=>false)
  | _=>false
 | _=>false
@[simp] noncomputable def eM (k:Kd) (f:D->F) (o:EM) (a:AM):EM:=fun σ s=>(o σ s).bind fun x s=>if zBK k x s then (a σ s).bind fun xs s=>f x xs s else .no
@[simp] noncomputable def qU (c:Nat) (f:F) (o:EM) (a:AM):EM:=fun σ s=>(o σ s).bind fun x s=>match x with
 | .ref p=>(match s[p]? with
  | some (.ins c' _)=>if c'=c then (a σ s).bind fun xs s=>f (x::xs) s else .no
  | _=>.no)
 | _=>.no
@[simp] noncomputable def zD6 (c:Nat) (n:Nat) (f:F) (a:AM):EM:=fun σ s=>(a σ s).bind fun xs s=>(f (.ref s.length::xs) (s++[.ins c (List.replicate n none)])).bind fun d s'=>if d=.non then .ok (.ref s.length) s' else .no
@[simp] noncomputable def qG (c:Nat) (i:Nat) (o:EM):EM:=fun σ s=>(o σ s).bind fun x s=>match x with
 | .ref p=>(match s[p]? with
  | some (.ins c' fs)=>if c'=c then (match fs[i]? with | some (some d)=>.ok d s | _=>.no) else .no
  | _=>.no)
 | _=>.no
@[simp] noncomputable def QH:F
 | [.str x],s=>if x.length <= SZ then .ok (.int x.length) s else .no
 | [.tup xs],s=>.ok (.int xs.length) s
 | [.ro xs],s=>.ok (.int xs.length) s
 | [.ref p],s=>match s[p]? with
  | some (.lst xs)=>.ok (.int xs.length) s
  | some (.dct kvs)=>.ok (.int kvs.length) s
  | _=>.no
 | _,_=>.no
@[simp] noncomputable def QN (n:Kd) (x:D) (s:S):R Bool:=match x with
 | .non=>.ok false s
 | .bl _=>.ok (match n with | .bool=>true | .int=>true | _=>false) s
 | .int _=>.ok (match n with | .int=>true | _=>false) s
 | .str _=>.ok (match n with | .str=>true | _=>false) s
 | .tup _=>.ok (match n with | .tuple=>true | _=>false) s
 | .ro _=>.ok (match n with | .list=>true | _=>false) s
 | .ty _=>.no
 | .ref p=>match s[p]? with
  | some (.lst _)=>.ok (match n with | .list=>true | _=>false) s
  | some (.dct _)=>.ok (match n with | .dict=>true | _=>false) s
  | _=>.no
@[simp] noncomputable def zAV:F
 | [x,.ty n],s=>(QN n x s).bind fun b s=>.ok (.bl b) s
 | _,_=>.no
noncomputable def zAN:List D->Option (List Bool)
 | []=>some []
 | .bl b::r=>(zAN r).map (b :: ·)
 | _::_=>none
noncomputable def JL:List D->Option (List T)
 | []=>some []
 | .str x::r=>(JL r).map (x :: ·)
 | _::_=>none
noncomputable def zDQ (xs:List D) (s:S):R D:=match zAN xs with
 | some bs=>.ok (.bl (bs.all id)) s
 | none=>.no
@[simp] noncomputable def zPd (k:List D->S->R D):F
 | [.tup xs],s=>k xs s
 | [.ro xs],s=>k xs s
 | [.ref p],s=>match jN s p with
  | some xs=>k xs s
  | none=>.no
 | _,_=>.no
noncomputable def JH (x:T):List T->T
 | []=>[]
 | [y]=>y
 | y::r=>y++x++JH x r
noncomputable def yu (x:T) (xs:List D) (s:S):R D:=match JL xs with
 | some ys=>if (ys.map List.length).sum+ys.length * x.length <= SZ then .ok (.str (JH x ys)) s else .no
 | none=>.no
@[simp] noncomputable def zDH:F
 | [.int i],s=>.ok (.int i) s
 | [.bl b],s=>.ok (.int (if b then 1 else 0)) s
 | _,_=>.no
@[simp] noncomputable def zHL:F
 | [.tup xs],s=>alloc (.lst xs) s
 | [.ro xs],s=>alloc (.lst xs) s
 | [.ref p],s=>match s[p]? with
  | some (.lst xs)=>alloc (.lst xs) s
  | some (.dct kvs)=>alloc (.lst (kvs.map (·.1))) s
  | _=>.no
 | _,_=>.no
@[simp] noncomputable def zFe:F
 | [.ref p],s=>match s[p]? with
  | some (.dct kvs)=>alloc (.dct kvs) s
  | _=>.no
 | _,_=>.no
@[simp] noncomputable def J5:F
 | [.tup xs],s=>.ok (.tup xs) s
 | [.ref p],s=>match jN s p with
  | some xs=>.ok (.tup xs) s
  | none=>.no
 | _,_=>.no
@[simp] noncomputable def ZK:D->F
 | .ref p,[y],s=>match s[p]? with
  | some (.lst xs)=>if xs.length < SZ then .ok .non (s.set p (.lst (xs++[y]))) else .no
  | _=>.no
 | _,_,_=>.no
@[simp] noncomputable def zCN:D->F
 | .ref p,[],s=>match s[p]? with
  | some (.lst xs)=>(match xs.getLast? with | some y=>.ok y (s.set p (.lst xs.dropLast)) | none=>.no)
  | _=>.no
 | _,_,_=>.no
noncomputable def Zp (k v:D) (kvs:List (D×D)):List (D×D):=if (kvs.any fun p=>decide (p.1=k))=true then kvs.map fun p=>if p.1=k then (p.1,v) else p else kvs++[(k,v)]
noncomputable def Jx:List D->Option (List (D×D))
 | []=>some []
 | .tup [k,v]::r=>if yt k then (Jx r).map ((k,v) :: ·) else none
 | _::_=>none
noncomputable def zKw (ps:List (D×D)):List (D×D):=ps.foldl (fun a p=>Zp p.1 p.2 a) []
@[simp] noncomputable def zB8:F
 | [.ref p],s=>match s[p]? with
  | some (.lst xs)=>(match Jx xs with | some ps=>if ps.length <= 1000 then alloc (.dct (zKw ps)) s else .no | none=>.no)
  | _=>.no
 | _,_=>.no
@[simp] noncomputable def zDe:EM:=fun _ s=>alloc (.dct []) s
where insT' (x:T):List T->List T
 | []=>[x]
 | y::r=>if y < x then y::insT' x r else x::y::r
noncomputable abbrev Gd:=List (Nat×O)
noncomputable def zj (g:Gd) (s:S):Bool:=g.all fun p=>decide (s[p.1]? = some p.2)
noncomputable abbrev IM:=St->S->R (List D×Gd)
@[simp] noncomputable def itD:D->S->R (List D×Gd)
 | .str x,s=>if x.length <= SZ then .ok (x.map fun c=>.str [c],[]) s else .no
 | .tup ds,s=>.ok (ds,[]) s
 | .ro ds,s=>.ok (ds,[]) s
 | .ref i,s=>match s[i]? with
  | some (.lst xs)=>.ok (xs,[(i,.lst xs)]) s
  | _=>.no
 | _,_=>.no
@[simp] noncomputable def iE (a:EM):IM:=fun σ s=>(a σ s).bind itD
noncomputable def jp (lo hi:Int):List D:=(List.range (hi - lo).toNat).map fun (k:Nat)=>.int (lo+k)
@[simp] noncomputable def jl (a:EM):IM:=fun σ s=>(a σ s).bind fun x s=>match x with
 | .int j=>if j.natAbs < 4611686018427387904 then .ok (jp 0 j,[]) s else .no
 | _=>.no
@[simp] noncomputable def zGU (a:EM):IM:=fun σ s=>(a σ s).bind fun x s=>match x with
 | .tup ds=>.ok (ds.reverse,[]) s
 | _=>.no
@[simp] noncomputable def zDs (a:EM):IM:=fun σ s=>(a σ s).bind fun x s=>match x with
 | .ref i=>(match s[i]? with | some (.lst xs)=>.ok (xs.reverse,[(i,.lst xs)]) s | _=>.no)
 | _=>.no
@[simp] noncomputable def zA8 (x:T):D->S->R D
 | .ref p,s=>(match jN s p with | some xs=>yu x xs.reverse s | none=>.no)
 | _,_=>.no
@[simp] noncomputable def zCd (a:EM):IM:=fun σ s=>(a σ s).bind fun x s=>match x with
 | .ref i=>(match s[i]? with | some (.fdc kvs)=>.ok (kvs.map (·.1),[]) s | _=>.no)
 | _=>.no
noncomputable abbrev GM:=D->St->Option St
@[simp] noncomputable def zq (i:Nat):GM:=fun d σ=>some (σ.set i (some d))
noncomputable abbrev GMs:=List D->St->Option St
@[simp] noncomputable def zPc (g:GM) (r:GMs):GMs:=fun ds σ=>match ds with
 | []=>none
 | d::ds=>match g d σ with
  | some σ'=>r ds σ'
  | none=>none
noncomputable def yq (g:Gd) (f:D->S->R (Option D)):List D->S->R (List D)
 | [],s=>.ok [] s
 | x::xs,s=>(f x s).bind fun o s=>if zj g s then (yq g f xs s).bind fun ys s=>.ok (match o with | some y=>y::ys | none=>ys) s else .no
@[simp] noncomputable def yX:TM:=fun _ s=>.ok true s
@[simp] noncomputable def qm (n:Nat) (tg:GM) (c:TM) (e:EM) (σ:St):D->S->R (Option D):=fun x s=>match tg x (σ++List.replicate n none) with
 | none=>.no
 | some σ'=>(c σ' s).bind fun b s=>if b then (e σ' s).bind fun d s=>.ok (some d) s else .ok none s
noncomputable def qY (n:Nat) (it:IM) (tg:GM) (c:TM) (e:EM):AM:=fun σ s=>(it σ s).bind fun p s=>if p.1.length <= SZ/\zj p.2 s=true then yq p.2 (qm n tg c e σ) p.1 s else .no
@[simp] noncomputable def y4 (n:Nat) (it:IM) (tg:GM) (c:TM) (e:EM):EM:=fun σ s=>(qY n it tg c e σ s).bind fun ys s=>alloc (.lst ys) s
@[simp] noncomputable def JO (k:List D->S->R D) (n:Nat) (it:IM) (tg:GM) (c:TM) (e:EM):EM:=fun σ s=>(qY n it tg c e σ s).bind k
inductive RS where
 | nx (σ:St) (s:S) | rt (d:D) (s:S) | bk (σ:St) (s:S) | ct (σ:St) (s:S) | exc (e:D) (σ:St) (s:S) | no
noncomputable abbrev SM:=St->S->RS
noncomputable def R.stm {α:Type} (r:R α) (σ:St) (f:α->S->RS):RS:=match r with
 | .ok a s=>f a s
 | .exc e s=>.exc e σ s
 | .no=>.no
@[simp] theorem R.stm_ok {α:Type} (a:α) (s:S) (σ:St) (f:α->S->RS):(R.ok a s).stm σ f=f a s:=rfl
@[simp] theorem R.stm_no {α:Type} (σ:St) (f:α->S->RS):(R.no:R α).stm σ f=.no:=rfl
noncomputable def RS.then (r:RS) (f:SM):RS:=match r with
 | .nx σ s=>f σ s
 | r=>r
@[simp] theorem RS.then_nx (σ:St) (s:S) (f:SM):(RS.nx σ s).then f=f σ s:=rfl
@[simp] theorem RS.then_rt (d:D) (s:S) (f:SM):(RS.rt d s).then f=.rt d s:=rfl
@[simp] theorem RS.then_no (f:SM):RS.no.then f=.no:=rfl
@[simp] theorem RS.then_bk (σ:St) (s:S) (f:SM):(RS.bk σ s).then f=.bk σ s:=rfl
section
variable {α:Type}{c:Prop} [Decidable c]
@[simp] theorem R.stm_ite (a b:R α) (σ:St) (f:α->S->RS):(if c then a else b).stm σ f=if c then a.stm σ f else b.stm σ f:=by split<;>rfl
@[simp] theorem RS.ite_nx (a b:St) (s:S):(if c then RS.nx a s else RS.nx b s)=RS.nx (if c then a else b) s:=by split<;>rfl
@[simp] theorem RS.ite_rt (a b:D) (s:S):(if c then RS.rt a s else RS.rt b s)=RS.rt (if c then a else b) s:=by split<;>rfl
@[simp] theorem RS.then_ite (a b:RS) (f:SM):(if c then a else b).then f=if c then a.then f else b.then f:=by split<;>rfl
end
@[simp] theorem RS.then_exc (e:D) (σ:St) (s:S) (f:SM):(RS.exc e σ s).then f=.exc e σ s:=rfl
@[simp] theorem R.stm_exc {α:Type} (e:D) (s:S) (σ:St) (f:α->S->RS):(R.exc e s:R α).stm σ f=.exc e σ s:=rfl
@[simp] theorem RS.then_ct (σ:St) (s:S) (f:SM):(RS.ct σ s).then f=.ct σ s:=rfl
@[simp] noncomputable def ZB:SM:=fun σ s=>.nx σ s
@[simp] noncomputable def QO:SM:=fun _ _=>.no
@[simp] noncomputable def zQ (a b:SM):SM:=fun σ s=>(a σ s).then b
@[simp] noncomputable def jx (e:EM):SM:=fun σ s=>(e σ s).stm σ fun _ s=>.nx σ s
@[simp] noncomputable def j6 (e:EM):SM:=fun σ s=>(e σ s).stm σ fun d s=>.rt d s
@[simp] noncomputable def zo (i:Nat) (e:EM):SM:=fun σ s=>(e σ s).stm σ fun d s=>.nx (σ.set i (some d)) s
@[simp] noncomputable def zBG:D->D->S->R D
 | .int i,.int j,s=>.ok (.int (i+j)) s
 | .str a,.str b,s=>if a.length+b.length <= SZ then .ok (.str (a++b)) s else .no
 | _,_,_=>.no
@[simp] noncomputable def Jr (c:Nat) (i:Nat) (x y:D) (s:S):R Unit:=match x with
 | .ref p=>(match s[p]? with
  | some (.ins c' fs)=>if c'=c then .ok () (s.set p (.ins c (fs.set i (some y)))) else .no
  | _=>.no)
 | _=>.no
@[simp] noncomputable def Qy (c:Nat) (i:Nat) (o e:EM):SM:=fun σ s=>(e σ s).stm σ fun y s=>(o σ s).stm σ fun x s=>(Jr c i x y s).stm σ fun _ s=>.nx σ s
@[simp] noncomputable def zCR (c:Nat) (i:Nat) (x:D) (s:S):R D:=match x with
 | .ref p=>(match s[p]? with
  | some (.ins c' fs)=>if c'=c then (match fs[i]? with | some (some d)=>.ok d s | _=>.no) else .no
  | _=>.no)
 | _=>.no
@[simp] noncomputable def Zk (f:D->D->S->R D) (c:Nat) (i:Nat) (o e:EM):SM:=fun σ s=>(o σ s).stm σ fun x s=>(zCR c i x s).stm σ fun v s=>(e σ s).stm σ fun y s=>(f v y s).stm σ fun z s=>(Jr c i x z s).stm σ fun _ s=>.nx σ s
@[simp] noncomputable def QV (x k y:D) (s:S):R Unit:=match x with
 | .ref p=>(match s[p]? with
  | some (.lst xs)=>(match k with
   | .int i=>(match ixN xs.length i with | some j=>.ok () (s.set p (.lst (xs.set j y))) | none=>.no)
   | _=>.no)
  | some (.dct kvs)=>if yt k && decide (kvs.length < SZ) then .ok () (s.set p (.dct (Zp k y kvs))) else .no
  | _=>.no)
 | _=>.no
@[simp] noncomputable def zC5 (o k e:EM):SM:=fun σ s=>(e σ s).stm σ fun y s=>(o σ s).stm σ fun x s=>(k σ s).stm σ fun k s=>(QV x k y s).stm σ fun _ s=>.nx σ s
@[simp] noncomputable def sIf (c:TM) (a b:SM):SM:=fun σ s=>(c σ s).stm σ fun k s=>if k then a σ s else b σ s
noncomputable def yR (g:Gd) (f:D->SM):List D->SM
 | [],σ,s=>.nx σ s
 | x::xs,σ,s=>match f x σ s with
  | .nx σ s=>if zj g s then yR g f xs σ s else .no
  | .ct σ s=>if zj g s then yR g f xs σ s else .no
  | .bk σ s=>.nx σ s
  | r=>r
@[simp] noncomputable def ym (tg:GM) (b:SM):D->SM:=fun x σ s=>match tg x σ with
 | some σ'=>b σ' s
 | none=>.no
@[simp] noncomputable def Zn (it:IM) (tg:GM) (b:SM):SM:=fun σ s=>(it σ s).stm σ fun p s=>if zj p.2 s=true then yR p.2 (ym tg b) p.1 σ s else .no
@[simp] noncomputable def thaw (i:Nat) (kvs:List (D×D)):RS->RS
 | .nx σ s=>if s[i]? = some (.fdc kvs) then .nx σ (s.set i (.dct kvs)) else .no
 | .bk σ s=>if s[i]? = some (.fdc kvs) then .bk σ (s.set i (.dct kvs)) else .no
 | .ct σ s=>if s[i]? = some (.fdc kvs) then .ct σ (s.set i (.dct kvs)) else .no
 | .rt d s=>if s[i]? = some (.fdc kvs) then .rt d (s.set i (.dct kvs)) else .no
 | _=>.no
@[simp] noncomputable def zGM (i:Nat) (b:SM):SM:=fun σ s=>match σ[i]? with
 | some (some (.ref p))=>(match s[p]? with
  | some (.dct kvs)=>thaw p kvs (b σ (s.set p (.fdc kvs)))
  | _=>.no)
 | _=>.no
@[simp] noncomputable def zHg (i:Nat):RS->RS
 | .nx σ s=>.nx (σ.set i none) s
 | .bk σ s=>.bk (σ.set i none) s
 | .ct σ s=>.ct (σ.set i none) s
 | .rt d s=>.rt d s
 | _=>.no
@[simp] noncomputable def zFa (i:Nat) (b:SM):SM:=fun σ s=>zHg i (b (σ.set i none) s)
noncomputable def qM:Nat->TM->SM->SM
 | 0,_,_,_,_=>.no
 | n+1,c,b,σ,s=>(c σ s).stm σ fun k s=>if k then (match b σ s with
  | .nx σ s=>qM n c b σ s
  | .ct σ s=>qM n c b σ s
  | .bk σ s=>.nx σ s
  | r=>r) else .nx σ s
noncomputable def zGb:Nat:=1000000000000
@[simp] noncomputable def zDc (c:TM) (b:SM):SM:=fun σ s=>qM zGb c b σ s
noncomputable def RS.out (r:RS):R D:=match r with
 | .rt d s=>.ok d s
 | .nx _ s=>.ok .non s
 | .exc e _ s=>.exc e s
 | _=>.no
@[simp] theorem RS.out_rt (d:D) (s:S):(RS.rt d s).out=.ok d s:=rfl
@[simp] theorem RS.out_nx (σ:St) (s:S):(RS.nx σ s).out=.ok .non s:=rfl
@[simp] theorem RS.out_no:RS.no.out=.no:=rfl
@[simp] theorem RS.out_exc (e:D) (σ:St) (s:S):(RS.exc e σ s).out=.exc e s:=rfl
@[simp] theorem RS.out_ite {c:Prop} [Decidable c] (a b:RS):(if c then a else b).out=if c then a.out else b.out:=by split<;>rfl
@[simp] noncomputable def fn (n:Nat) (b:SM):F:=fun xs s=>(b (xs.map some++List.replicate (n - xs.length) none) s).out
noncomputable def D.cl (n:Nat):D->Bool
 | .ref i=>decide (i < n)
 | .tup ds=>all ds
 | .ro ds=>all ds
 | _=>true
where all:List D->Bool
 | []=>true
 | d::ds=>D.cl n d && all ds
noncomputable def O.cl (n:Nat):O->Bool
 | .lst xs=>D.cl.all n xs
 | .dct kvs=>kvs.all fun p=>D.cl n p.1 && D.cl n p.2
 | .fdc kvs=>kvs.all fun p=>D.cl n p.1 && D.cl n p.2
 | .ins _ fs=>fs.all fun o=>match o with | some d=>D.cl n d | none=>true
noncomputable def clS (n:Nat) (s:S):Bool:=s.all (O.cl n)
noncomputable def D.ren (e:List Nat):D->D
 | .ref i=>.ref (e.getD i i)
 | .tup ds=>.tup (all ds)
 | .ro ds=>.ro (all ds)
 | d=>d
where all:List D->List D
 | []=>[]
 | d::ds=>D.ren e d::all ds
noncomputable def O.ren (e:List Nat):O->O
 | .lst xs=>.lst (D.ren.all e xs)
 | .dct kvs=>.dct (kvs.map fun p=>(D.ren e p.1,D.ren e p.2))
 | .fdc kvs=>.fdc (kvs.map fun p=>(D.ren e p.1,D.ren e p.2))
 | .ins c fs=>.ins c (fs.map (Option.map (D.ren e)))
end M
namespace M
structure Emb (n:Nat) (e:List Nat) (S' S1:S):Prop where
 len:e.length=S'.length
 nd:e.Nodup
 le:n <= S'.length
 old:∀ i,i < n->e[i]? = some i
 obj:∀ (i:Nat) o,S'[i]? = some o->∃ j,e[i]? = some j/\S1[j]? = some (O.ren e o)/\O.cl S'.length o=true
noncomputable def jn (n:Nat) (f q:F):Prop:=∀ ds S,ds.length=n->clS S.length S=true->D.cl.all S.length ds=true ->
 q ds S=.no\/∃ d S' S1 e,q ds S=.ok d S'/\f ds S=.ok (D.ren e d) S1/\Emb S.length e S' S1/\D.cl S'.length d=true
section
variable {e:List Nat}
mutual
theorem D.ren_id (h:∀ i,e.getD i i=i):∀ d:D,D.ren e d=d
 | .non=>rfl
 | .bl _=>rfl
 | .int _=>rfl
 | .str _=>rfl
 | .ty _=>rfl
 | .ref i=>by show D.ref (e.getD i i)=_;rw[h]
 | .tup ds=>by show D.tup (D.ren.all e ds)=_;rw[D.rens_id h]
 | .ro ds=>by show D.ro (D.ren.all e ds)=_;rw[D.rens_id h]
theorem D.rens_id (h:∀ i,e.getD i i=i):∀ ds:List D,D.ren.all e ds=ds
 | []=>rfl
 | d::ds=>by show D.ren e d::D.ren.all e ds=_;rw[D.ren_id h,D.rens_id h]
end
theorem O.ren_id (h:∀ i,e.getD i i=i) (o:O):O.ren e o=o:=by
 cases o with
 | lst xs=>show O.lst _=_;rw[D.rens_id h]
 | dct kvs =>
  show O.dct (kvs.map fun p=>(D.ren e p.1,D.ren e p.2))=_
  have:(fun p:D×D=>(D.ren e p.1,D.ren e p.2))=id:=by funext p;rw[D.ren_id h,D.ren_id h];rfl
  rw[this,List.map_id]
 | fdc kvs =>
  show O.fdc (kvs.map fun p=>(D.ren e p.1,D.ren e p.2))=_
  have:(fun p:D×D=>(D.ren e p.1,D.ren e p.2))=id:=by funext p;rw[D.ren_id h,D.ren_id h];rfl
  rw[this,List.map_id]
 | ins c fs =>
  show O.ins c (fs.map (Option.map (D.ren e)))=_
  have:Option.map (D.ren e)=id:=by funext o;cases o with | none=>rfl | some d=>show some _=_;rw[D.ren_id h];rfl
  rw[this,List.map_id]
theorem zDy (n i:Nat):(List.range n).getD i i=i:=by
 rw[List.getD_eq_getElem?_getD]
 by_cases h:i < n
 ·rw[List.getElem?_range h];rfl
 ·rw[List.getElem?_eq_none (by simp;omega)];rfl
end
section
variable {e:List Nat}{n:Nat}
mutual
theorem D.ren_old (h:∀ i,i < n->e[i]? = some i):∀ d:D,D.cl n d=true->D.ren e d=d
 | .non,_=>rfl
 | .bl _,_=>rfl
 | .int _,_=>rfl
 | .str _,_=>rfl
 | .ty _,_=>rfl
 | .ref i,c=>by
  have hi:i < n:=of_decide_eq_true c
  show D.ref (e.getD i i)=_
  rw[List.getD_eq_getElem?_getD,h i hi];rfl
 | .tup ds,c=>by show D.tup (D.ren.all e ds)=_;rw[D.rens_old h ds c]
 | .ro ds,c=>by show D.ro (D.ren.all e ds)=_;rw[D.rens_old h ds c]
theorem D.rens_old (h:∀ i,i < n->e[i]? = some i):∀ ds:List D,D.cl.all n ds=true->D.ren.all e ds=ds
 | [],_=>rfl
 | d::ds,c=>by
  have c':(D.cl n d && D.cl.all n ds)=true:=c
  rw[Bool.and_eq_true] at c'
  show D.ren e d::D.ren.all e ds=_
  rw[D.ren_old h d c'.1,D.rens_old h ds c'.2]
end
theorem O.ren_old (h:∀ i,i < n->e[i]? = some i) (o:O) (c:O.cl n o=true):O.ren e o=o:=by
 cases o with
 | lst xs=>show O.lst _=_;rw[D.rens_old h xs c]
 | dct kvs =>
  show O.dct (kvs.map fun p=>(D.ren e p.1,D.ren e p.2))=_
  congr 1
  conv=>rhs;rw[<- List.map_id kvs]
  refine List.map_congr_left fun p hp=>?_
  have c1:=List.all_eq_true.mp c p hp
  rw[Bool.and_eq_true] at c1
  rw[D.ren_old h _ c1.1,D.ren_old h _ c1.2];rfl
 | fdc kvs =>
  show O.fdc (kvs.map fun p=>(D.ren e p.1,D.ren e p.2))=_
  congr 1
  conv=>rhs;rw[<- List.map_id kvs]
  refine List.map_congr_left fun p hp=>?_
  have c1:=List.all_eq_true.mp c p hp
  rw[Bool.and_eq_true] at c1
  rw[D.ren_old h _ c1.1,D.ren_old h _ c1.2];rfl
 | ins cc fs =>
  show O.ins cc (fs.map (Option.map (D.ren e)))=_
  congr 1
  conv=>rhs;rw[<- List.map_id fs]
  refine List.map_congr_left fun p hp=>?_
  cases p with
  | none=>rfl
  | some d =>
   have c1:=List.all_eq_true.mp c (some d) hp
   show some _=some _
   rw[D.ren_old h d c1]
mutual
theorem D.cl_mono {m:Nat} (h:n <= m):∀ d:D,D.cl n d=true->D.cl m d=true
 | .non,_=>rfl
 | .bl _,_=>rfl
 | .int _,_=>rfl
 | .str _,_=>rfl
 | .ty _,_=>rfl
 | .ref i,c=>decide_eq_true (Nat.lt_of_lt_of_le (of_decide_eq_true c) h)
 | .tup ds,c=>D.cls_mono h ds c
 | .ro ds,c=>D.cls_mono h ds c
theorem D.cls_mono {m:Nat} (h:n <= m):∀ ds:List D,D.cl.all n ds=true->D.cl.all m ds=true
 | [],_=>rfl
 | d::ds,c=>by
  have c':(D.cl n d && D.cl.all n ds)=true:=c
  rw[Bool.and_eq_true] at c'
  show (D.cl m d && D.cl.all m ds)=true
  rw[D.cl_mono h d c'.1,D.cls_mono h ds c'.2];rfl
end
theorem O.cl_mono {m:Nat} (h:n <= m) (o:O) (c:O.cl n o=true):O.cl m o=true:=by
 cases o with
 | lst xs=>exact D.cls_mono h xs c
 | dct kvs =>
  refine List.all_eq_true.mpr fun p hp=>?_
  have c1:=List.all_eq_true.mp c p hp
  rw[Bool.and_eq_true] at c1 ⊢
  exact⟨D.cl_mono h _ c1.1,D.cl_mono h _ c1.2⟩
 | fdc kvs =>
  refine List.all_eq_true.mpr fun p hp=>?_
  have c1:=List.all_eq_true.mp c p hp
  rw[Bool.and_eq_true] at c1 ⊢
  exact⟨D.cl_mono h _ c1.1,D.cl_mono h _ c1.2⟩
 | ins cc fs =>
  refine List.all_eq_true.mpr fun p hp=>?_
  have c1:=List.all_eq_true.mp c p hp
  cases p with
  | none=>rfl
  | some d=>exact D.cl_mono h d c1
theorem zGz {S:M.S} (h:clS n S=true) {i:Nat}{o:O} (e:S[i]? = some o):O.cl n o=true:=List.all_eq_true.mp h o (List.mem_of_getElem? e)
end
theorem zKF {S S' g:M.S} (hn:S.length <= S'.length) (c:clS S'.length S'=true):Emb S.length (List.range S'.length) S' (S'++g) :=
 ⟨by simp,List.nodup_range,hn,fun i hi=>by rw[List.getElem?_range (by omega)],fun i o q=>by
  have hi:i < S'.length:=(List.getElem?_eq_some_iff.mp q).1
  exact⟨i,by rw[List.getElem?_range hi],by rw[List.getElem?_append_left hi,O.ren_id (zDy _),q],zGz c q⟩⟩
theorem zLs {S g:M.S}{o:O}{j:Nat} (c:clS S.length S=true) (co:O.cl S.length o=true) (hj:(S++g)[j]? = some o) (hle:S.length <= j):Emb S.length (List.range S.length++[j]) (S++[o]) (S++g):=by
 have old:∀ i,i < S.length->(List.range S.length++[j])[i]? = some i:=fun i hi=>by
  rw[List.getElem?_append_left (by simpa using hi),List.getElem?_range hi]
 refine⟨by simp,?_,by simp,old,fun i ob q=>?_⟩
 ·rw[List.nodup_append]
  refine⟨List.nodup_range,by simp,fun a ha b hb=>?_⟩
  have h1:=List.mem_range.mp ha
  have h2:b=j:=by simpa using hb
  omega
 ·by_cases hi:i < S.length
  ·rw[List.getElem?_append_left hi] at q
   have cq:=zGz c q
   exact⟨i,old i hi,by rw[List.getElem?_append_left hi,O.ren_old old ob cq,q],O.cl_mono (by simp) ob cq⟩
  ·rw[List.getElem?_append_right (by omega)] at q
   have hz:i - S.length=0:=by
    cases hz:i - S.length with
    | zero=>rfl
    | succ k=>rw[hz] at q;simp at q
   rw[hz] at q
   simp at q
   subst q
   refine⟨j,?_,by rw[O.ren_old old o co,hj],O.cl_mono (by simp) o co⟩
   rw[List.getElem?_append_right (by simp;omega)]
   simp[hz]
theorem jn.pure {n:Nat}{f q:F} (h:∀ ds S,ds.length=n->clS S.length S=true->D.cl.all S.length ds=true->q ds S=.no\/∃ d g,q ds S=.ok d S/\f ds S=.ok d (S++g)/\D.cl S.length d=true):jn n f q:=fun ds S hl c ca=>by
 rcases h ds S hl c ca with e | ⟨d,g,e1,e2,e3⟩
 ·exact .inl e
 ·exact .inr ⟨d,S,S++g,List.range S.length,e1,by rw[D.ren_id (zDy _)];exact e2,zKF (Nat.le_refl _) c,e3⟩
theorem jn.new {n:Nat}{f q:F} (h:∀ ds S,ds.length=n->clS S.length S=true->D.cl.all S.length ds=true->q ds S=.no\/∃ o j g,q ds S=alloc o S/\f ds S=.ok (.ref j) (S++g)/\(S++g)[j]? = some o/\S.length <= j/\O.cl S.length o=true):jn n f q:=fun ds S hl c ca=>by
 rcases h ds S hl c ca with e | ⟨o,j,g,e1,e2,e3,e4,e5⟩
 ·exact .inl e
 ·refine .inr ⟨.ref S.length,S++[o],S++g,List.range S.length++[j],e1,?_,zLs c e5 e3 e4,?_⟩
  ·rw[e2]
   show R.ok (D.ref j) _=R.ok (D.ref ((List.range S.length++[j]).getD S.length S.length)) _
   rw[List.getD_eq_getElem?_getD,List.getElem?_append_right (by simp)]
   simp
  ·show decide (S.length < (S++[o]).length)=true
   simp
noncomputable def chS (m:F):F:=fun ds s=>@dite (R D) (∃ d g,m ds s=.ok d (s++g)/\D.cl s.length d=true) (Classical.propDecidable _) (fun h=>.ok h.choose s) (fun _=>.no)
theorem zDn {n:Nat} (m:F):jn n m (chS m):=jn.pure fun ds S hl c ca=>by
 unfold chS
 by_cases h:∃ d g,m ds S=.ok d (S++g)/\D.cl S.length d=true
 ·obtain⟨g,e,k⟩:=h.choose_spec
  exact .inr ⟨h.choose,g,by rw[dif_pos h],e,k⟩
 ·exact .inl (by rw[dif_neg h])
theorem zAr {m:F}{ds:List D}{s g:S}{d:D} (e:m ds s=.ok d (s++g)) (k:D.cl s.length d=true):chS m ds s=.ok d s:=by
 have h:∃ d g,m ds s=.ok d (s++g)/\D.cl s.length d=true:=⟨d,g,e,k⟩
 obtain⟨g',e',_⟩:=h.choose_spec
 have e2:d=h.choose:=by
  have e3:=e.symm.trans e'
  injection e3
 unfold chS
 rw[dif_pos h,<- e2]
end M
namespace M
theorem zFF {g:Gd}{f:D->S->R (Option D)}{s:S}{h:D->D} (hg:zj g s=true):∀ {xs:List D},(∀ x∈xs,f x s=.ok (some (h x)) s)->yq g f xs s=.ok (xs.map h) s
 | [],_=>rfl
 | x::xs,e=>by
  show (f x s).bind _=_
  rw[e x List.mem_cons_self,R.bind_ok,if_pos hg,zFF hg fun y hy=>e y (List.mem_cons_of_mem _ hy)]
  rfl
theorem Ju {g:Gd}{f:D->S->R (Option D)}{s:S}{p:D->Bool}{h:D->D} (hg:zj g s=true):∀ {xs:List D},(∀ x∈xs,f x s=.ok (if p x then some (h x) else none) s)->yq g f xs s=.ok ((xs.filter p).map h) s
 | [],_=>rfl
 | x::xs,e=>by
  show (f x s).bind _=_
  rw[e x List.mem_cons_self,R.bind_ok,if_pos hg,Ju hg fun y hy=>e y (List.mem_cons_of_mem _ hy),R.bind_ok]
  cases hp:p x<;>simp[hp]
theorem zDD {n:Nat}{it:IM}{tg:GM}{e:EM}{σ:St}{s:S}{xs:List D}{g:Gd} (h:D->D) (hi:it σ s=.ok (xs,g) s) (hl:xs.length <= SZ) (hg:zj g s=true) (he:∀ x∈xs,qm n tg yX e σ x s=.ok (some (h x)) s):qY n it tg yX e σ s=.ok (xs.map h) s:=by
 unfold qY
 rw[hi,R.bind_ok,if_pos ⟨hl,hg⟩]
 exact zFF hg he
theorem zGf {n:Nat}{it:IM}{tg:GM}{c:TM}{e:EM}{σ:St}{s:S}{xs:List D}{g:Gd} (p:D->Bool) (h:D->D) (hi:it σ s=.ok (xs,g) s) (hl:xs.length <= SZ) (hg:zj g s=true) (he:∀ x∈xs,qm n tg c e σ x s=.ok (if p x then some (h x) else none) s):qY n it tg c e σ s=.ok ((xs.filter p).map h) s:=by
 unfold qY
 rw[hi,R.bind_ok,if_pos ⟨hl,hg⟩]
 exact Ju hg he
theorem zBE {n:Nat}{it:IM}{tg:GM}{e:EM}{σ:St}{s:S}{lo hi:Int} (h:Nat->D) (hit:it σ s=.ok (jp lo hi,[]) s) (hl:(hi - lo).toNat <= SZ) (he:∀ k:Nat,k < (hi - lo).toNat->qm n tg yX e σ (.int (lo+k)) s=.ok (some (h k)) s) :
  qY n it tg yX e σ s=.ok ((List.range (hi - lo).toNat).map h) s:=by
 have:=zDD (n:=n) (tg:=tg) (e:=e) (fun d=>match d with | .int i=>h (i - lo).toNat | d=>d) hit (by simpa [jp] using hl) rfl fun x hx=>by
  obtain⟨k,hk,rfl⟩:=List.mem_map.mp hx
  have e:(lo+(k:Int) - lo).toNat=k:=by omega
  rw[he k (List.mem_range.mp hk)]
  show R.ok (some (h k)) s=R.ok (some (h (lo+(k:Int) - lo).toNat)) s
  rw[e]
 rw[this]
 unfold jp
 rw[List.map_map]
 have e2:∀ k:Nat,(lo+(k:Int) - lo).toNat=k:=fun k=>by omega
 have e3:((fun d=>match d with | .int i=>h (i - lo).toNat | d=>d) ∘ fun (k:Nat)=>D.int (lo+k))=h:=by
  funext k
  show h (lo+(k:Int) - lo).toNat=h k
  rw[e2]
 rw[e3]
theorem zJC {α:Type} (f:α->Bool) (xs:List α):zAN (xs.map fun x=>.bl (f x))=some (xs.map f):=by
 induction xs with
 | nil=>rfl
 | cons x xs ih=>show (zAN (xs.map fun x=>D.bl (f x))).map _=_;rw[ih];rfl
theorem all_map {α:Type} (f:α->Bool) (xs:List α) (s:S):zDQ (xs.map fun x=>.bl (f x)) s=.ok (.bl (xs.all f)) s:=by
 unfold zDQ
 rw[zJC]
 simp[List.all_map]
theorem zJE {α:Type} (xs:List α) (lo hi:Option Int):(cut xs lo hi).length <= xs.length:=by
 unfold cut
 rw[List.length_take,List.length_drop];omega
theorem zNq {α:Type} (xs:List α) {k:Int} (h:0 <= k):cut xs none (some k)=xs.take k.toNat:=by
 unfold cut sIx
 have:¬ k < 0:=by omega
 simp only[List.drop_zero,if_neg this,Nat.sub_zero]
 by_cases hk:k <= xs.length
 ·rw[show (min k (xs.length:Int)).toNat=k.toNat by omega]
 ·rw[List.take_of_length_le (by omega),List.take_of_length_le (by omega)]
theorem zI6 {α:Type} (xs:List α) {k:Int} (h:0 <= k):cut xs (some k) none=xs.drop k.toNat:=by
 unfold cut sIx
 have:¬ k < 0:=by omega
 simp only[if_neg this]
 by_cases hk:k <= xs.length
 ·rw[show (min k (xs.length:Int)).toNat=k.toNat by omega,List.take_of_length_le (by rw[List.length_drop];omega)]
 ·rw[List.drop_of_length_le (by omega),List.drop_of_length_le (by omega)];simp
theorem zFG {α:Type} (f:α->T) (xs:List α):JL (xs.map fun x=>.str (f x))=some (xs.map f):=by
 induction xs with
 | nil=>rfl
 | cons x xs ih=>show (JL (xs.map fun x=>D.str (f x))).map _=_;rw[ih];rfl
theorem zIY (xs:List T):JL (xs.map .str)=some xs:=by
 have:=zFG (fun x:T=>x) xs
 rwa [List.map_id'] at this
theorem zBo (xs:List T):JH [] xs=xs.flatten:=by
 induction xs with
 | nil=>rfl
 | cons x xs ih =>
  cases xs with
  | nil=>simp[JH]
  | cons y ys=>show x++[]++JH [] (y::ys)=_;rw[ih];simp
theorem zGA {α β:Type} (f:α->β) (xs:List α):(xs.map fun x=>[f x]).flatten=xs.map f:=by
 induction xs with
 | nil=>rfl
 | cons x xs ih=>rw[List.map_cons,List.flatten_cons,ih];rfl
theorem zKS {α:Type} (f:α->Nat) (xs:List α):((xs.map fun x=>[f x]).map List.length).sum=xs.length:=by
 induction xs with
 | nil=>rfl
 | cons x xs ih=>rw[List.map_cons,List.map_cons,List.sum_cons,ih,List.length_cons];show 1+xs.length=xs.length+1;omega
theorem zEw {α:Type} (f:α->Nat) (xs:List α) (s:S) (h:xs.length <= SZ):yu [] (xs.map fun x=>.str [f x]) s=.ok (.str (xs.map f)) s:=by
 unfold yu
 rw[zFG]
 dsimp only
 rw[if_pos,zBo,zGA]
 rw[zKS]
 simpa using h
theorem zHF (n:Nat):∀ ts:List T,D.cl.all n (ts.map .str)=true
 | []=>rfl
 | _::ts=>by
  show (D.cl n (.str _) && D.cl.all n (ts.map .str))=true
  rw[zHF n ts];rfl
theorem zGY (x:T):∀ ts:List T,Qm (.str x) (ts.map .str)=ts.contains x
 | []=>rfl
 | t::ts=>by
  have:=zGY x ts
  unfold Qm at this ⊢
  rw[List.map_cons,List.any_cons,this,List.contains_cons]
  simp[eqF,BEq.comm (a:=t)]
theorem zIp (ts:List T):(ts.map D.str).all flat=true:=by
 rw[List.all_map];exact List.all_eq_true.mpr fun _ _=>rfl
theorem zAz {α:Type}{xs:List α}{k:Int} (h0:0 <= k) (h:k < xs.length) (d:α):atI xs k=some (xs.getD k.toNat d):=by
 unfold atI ixN
 rw[if_pos h0,if_pos h]
 have hk:k.toNat < xs.length:=by omega
 simp[List.getD_eq_getElem?_getD,hk]
theorem jk {S:M.S}{p:Nat}{o:O} (e:S[p]? = some o) (g:M.S):(S++g)[p]? = some o:=by
 rw[List.getElem?_append_left (List.getElem?_eq_some_iff.mp e).1]
 exact e
noncomputable def y7:List T:=[[111,102],[105,102],[105,115],[116,104,101,110],[101,108,115,101],[101,97,99,104],[100,111],[105,116],[98,97,99,107],[102,105,114,115,116],[114,101,115,116],[99,111,117,110,116],[115,111,114,116,101,100],[102,97,105,108],[108,105,110,101],[109,111,114,101]]
theorem zFn {n:Nat}{it:IM}{tg:GM}{c:TM}{e:EM}{σ:St}{s s1:S}{xs:List D}{g:Gd} (p:D->Bool) (h:D->D) (hi:it σ s=.ok (xs,g) s1) (hl:xs.length <= SZ) (hg:zj g s1=true) (he:∀ x∈xs,qm n tg c e σ x s1=.ok (if p x then some (h x) else none) s1):qY n it tg c e σ s=.ok ((xs.filter p).map h) s1:=by
 unfold qY
 rw[hi,R.bind_ok,if_pos ⟨hl,hg⟩]
 exact Ju hg he
theorem zHW {n:Nat}{it:IM}{tg:GM}{c:TM}{e:EM}{σ:St}{s s1:S}{ts:List T}{g:Gd} (p:T->Bool) (hi:it σ s=.ok (ts.map .str,g) s1) (hl:ts.length <= SZ) (hg:zj g s1=true) (he:∀ x∈ts,qm n tg c e σ (.str x) s1=.ok (if p x then some (.str x) else none) s1):qY n it tg c e σ s=.ok ((ts.filter p).map .str) s1:=by
 rw[zFn (fun d=>match d with | .str y=>p y | _=>false) id hi (by simpa using hl) hg fun d hd=>by
  obtain⟨y,hy,rfl⟩:=List.mem_map.mp hd
  exact he y hy]
 rw[List.map_id,List.filter_map]
 rfl
theorem zAR {g:Gd}{f:D->SM} (I:Nat->St->S->Prop):∀ (xs:List D) (i:Nat) (σ:St) (s:S),I i σ s->(∀ (j:Nat) x,xs[j]? = some x->∀ σ s,I (i+j) σ s->∃ σ' s',f x σ s=.nx σ' s'/\zj g s'=true/\I (i+j+1) σ' s')->∃ σ' s',yR g f xs σ s=.nx σ' s'/\I (i+xs.length) σ' s'
 | [],i,σ,s,h,_=>⟨σ,s,rfl,h⟩
 | x::xs,i,σ,s,h,e=>by
  obtain⟨σ1,s1,e1,hg,h1⟩:=e 0 x rfl σ s h
  obtain⟨σ2,s2,e2,h2⟩:=zAR I xs (i+1) σ1 s1 h1 fun j y hy σ s hI=>by
   have:=e (j+1) y (by simpa using hy) σ s (by rw[show i+(j+1)=i+1+j by omega];exact hI)
   rwa [show i+(j+1)+1=i+1+j+1 by omega] at this
  refine⟨σ2,s2,?_,by rw[List.length_cons,show i+(xs.length+1)=i+1+xs.length by omega];exact h2⟩
  show (match f x σ s with | .nx σ s=>if zj g s then yR g f xs σ s else .no | .ct σ s=>if zj g s then yR g f xs σ s else .no | .bk σ s=>.nx σ s | r=>r)=_
  rw[e1]
  dsimp only
  rw[if_pos hg,e2]
theorem zJG (g:Nat->Option P):∀ ts:List T,yw.all g (ts.map .str)=some (ts.map P.str)
 | []=>rfl
 | t::ts=>by
  show (match yw g (.str t),yw.all g (ts.map .str) with | some p,some ps=>some (p::ps) | _,_=>none)=_
  rw[zJG g ts]
  rfl
theorem zFD:∀ ts:List T,P.deps (ts.map P.str)=0
 | []=>by simp[P.deps]
 | t::ts=>by simp[P.deps,P.dep,zFD ts]
theorem zEv:∀ ts us:List T,P.eqvs (ts.map P.str) (us.map P.str)=decide (ts=us)
 | [],[]=>by simp[P.eqvs]
 | [],u::us=>by simp[P.eqvs]
 | t::ts,[]=>by simp[P.eqvs]
 | t::ts,u::us=>by
  simp only[List.map_cons,P.eqvs,P.eqv,zEv ts us]
  by_cases h:t=u<;>by_cases h2:ts=us<;>simp[h,h2]
end M
namespace L2
open PySem PySem.Spec PyProof.Rows
noncomputable def ofT (x:M.T):Str:=⟨x.toArray⟩
theorem jw (x:M.T):(ofT x).length=x.length:=by simp[ofT,Str.length]
theorem J9 (x:M.T):(ofT x).cps.toList=x:=by simp[ofT]
theorem zET {x y:M.T} (h:ofT x=ofT y):x=y:=by rw[<- J9 x,h,J9]
theorem zGv (x y:M.T):ofT x++ofT y=ofT (x++y):=by
 show (⟨x.toArray++y.toArray⟩:Str)=_
 simp[ofT]
noncomputable abbrev okT (x:M.T):Prop:=x.all (fun c=>decide (c < 1114112))=true
theorem zCb {x y:M.T} (h:okT x) (k:okT y):okT (x++y):=by show (x++y).all _=true;rw[List.all_append,h,k];rfl
theorem zCj {x y:M.T} (h:okT x) (k:∀ c∈y,c∈x):okT y:=List.all_eq_true.mpr fun c hc=>List.all_eq_true.mp h c (k c hc)
theorem Z9:M.SZ=sizeLine:=by rw[sizeLine_eq];rfl
noncomputable def JW (K:PySem.W.Frag) (H:Hp) (a:Addr) (xs:List V):Prop :=
 (∃ o,H a=some (.frz o (.lst xs))) \/
  ∃ (o:Obj) (its:Array Value) (n:Nat),K.lookup a=some o/\o.cls=.type "list" /\ o.dict=none/\o.data=.seq its n/\its.size <= sizeLine/\zd xs its.toList
theorem JW.sq {K:PySem.W.Frag}{H:Hp}{a:Addr}{xs:List V} (h:JW K H a xs):SqL K H a xs:=by
 rcases h with ⟨o,h⟩ | h
 ·exact .inl (.inr ⟨o,h⟩)
 ·exact .inr h
structure Le (H H':Hp):Prop where
 tups:∀ b xs,H b=some (.tup xs)->H' b=some (.tup xs)
 frzs:∀ b o u,H b=some (.frz o u)->H' b=some (.frz o u)
theorem Le.refl (H:Hp):Le H H:=⟨fun _ _ h=>h,fun _ _ _ h=>h⟩
theorem Le.trans {H H1 H2:Hp} (a:Le H H1) (b:Le H1 H2):Le H H2:=⟨fun c xs h=>b.tups c xs (a.tups c xs h),fun c o u h=>b.frzs c o u (a.frzs c o u h)⟩
theorem Le.new {H:Hp}{p:Addr} (h:H p=none) (o:HO):Le H (upd H p o) :=
 ⟨fun b xs q=>by rw[zf (ZX q h)];exact q,fun b o u q=>by rw[zf (ZX q h)];exact q⟩
theorem Le.put {H:Hp}{p:Addr} (h:Mut (H p)) (o:HO):Le H (upd H p o) :=
 ⟨fun b xs q=>by rw[zf (fun z=>by subst z;rw[q] at h;exact h)];exact q,fun b o u q=>by rw[zf (fun z=>by subst z;rw[q] at h;exact h)];exact q⟩
theorem Le.rol {K:PySem.W.Frag}{H H':Hp}{a:Addr}{xs:List V} (e:Le H H') (h:JW K H a xs):JW K H' a xs:=by
 rcases h with ⟨o,h⟩ | h
 ·exact .inl ⟨o,e.frzs _ _ _ h⟩
 ·exact .inr h
theorem Le.sqT {K:PySem.W.Frag}{H H':Hp}{a:Addr}{xs:List V} (e:Le H H') (h:SqT K H a xs):SqT K H' a xs:=by
 rcases h with (h | ⟨o,h⟩) | h
 ·exact .inl (.inl (e.tups _ _ h))
 ·exact .inl (.inr ⟨o,e.frzs _ _ _ h⟩)
 ·exact .inr h
noncomputable def qb:M.Kd->String
 | .str => "str" | .int => "int" | .bool => "bool" | .list => "list" | .tuple => "tuple" | .dict => "dict"
noncomputable def zN (K:PySem.W.Frag) (ρ:List Addr) (H:Hp):M.D->V->Prop
 | .non,v=>v=.non
 | .bl b,v=>v=.bl b
 | .int i,v=>v=.int i
 | .str x,v=>v=.str (ofT x)/\okT x
 | .ty n,v=>v=.ty (qb n)
 | .ref i,v=>∃ a,v=.ref a/\ρ[i]? = some a
 | .tup ds,v=>∃ a xs,v=.ref a/\SqT K H a xs/\all ds xs
 | .ro ds,v=>∃ a xs,v=.ref a/\JW K H a xs/\all ds xs
where all:List M.D->List V->Prop
 | [],xs=>xs=[]
 | d::ds,xs=>∃ y ys,xs=y::ys/\zN K ρ H d y/\all ds ys
noncomputable abbrev zO (K:PySem.W.Frag) (ρ:List Addr) (H:Hp):List M.D->List V->Prop:=zN.all K ρ H
theorem Q5 {ρ ρ':List Addr} (h:ρ <+: ρ') {i:Nat}{a:Addr} (e:ρ[i]? = some a):ρ'[i]? = some a:=by
 obtain⟨t,rfl⟩:=h
 rw[List.getElem?_append_left (List.getElem?_eq_some_iff.mp e).1]
 exact e
section
variable {K:PySem.W.Frag}{ρ ρ':List Addr}{H H':Hp}
mutual
theorem zN.mono (hρ:ρ <+: ρ') (le:Le H H'):∀ {d:M.D}{v:V},zN K ρ H d v->zN K ρ' H' d v
 | .non,_,h=>h
 | .bl _,_,h=>h
 | .int _,_,h=>h
 | .str _,_,h=>h
 | .ty _,_,h=>h
 | .ref _,_,⟨a,e,h⟩=>⟨a,e,Q5 hρ h⟩
 | .tup _,_,⟨a,xs,e,h,r⟩=>⟨a,xs,e,le.sqT h,zO.mono hρ le r⟩
 | .ro _,_,⟨a,xs,e,h,r⟩=>⟨a,xs,e,le.rol h,zO.mono hρ le r⟩
theorem zO.mono (hρ:ρ <+: ρ') (le:Le H H'):∀ {ds:List M.D}{xs:List V},zO K ρ H ds xs->zO K ρ' H' ds xs
 | [],_,h=>h
 | _::_,_,⟨y,ys,e,h,r⟩=>⟨y,ys,e,zN.mono hρ le h,zO.mono hρ le r⟩
end
theorem zO.length:∀ {ds:List M.D}{xs:List V},zO K ρ H ds xs->ds.length=xs.length
 | [],_,h=>by cases h;rfl
 | _::_,_,⟨_,_,e,_,r⟩=>by subst e;rw[List.length_cons,List.length_cons,zO.length r]
theorem zO.get:∀ {ds:List M.D}{xs:List V}{i:Nat}{d:M.D},zO K ρ H ds xs->ds[i]? = some d->∃ v,xs[i]? = some v/\zN K ρ H d v
 | [],_,_,_,_,e=>by simp at e
 | _::_,_,0,_,⟨y,_,e1,h,_⟩,e=>by subst e1;simp at e;subst e;exact⟨y,rfl,h⟩
 | _::_,_,i+1,d,⟨_,ys,e1,_,r⟩,e=>by
  subst e1
  obtain⟨v,h1,h2⟩:=zO.get (i:=i) (d:=d) r (by simpa using e)
  exact⟨v,by simpa using h1,h2⟩
theorem zO.app:∀ {ds es:List M.D}{xs ys:List V},zO K ρ H ds xs->zO K ρ H es ys->zO K ρ H (ds++es) (xs++ys)
 | [],_,_,_,h,k=>by cases h;exact k
 | _::_,_,_,_,⟨y,ys,e,h,r⟩,k=>by subst e;exact⟨y,_,rfl,h,zO.app r k⟩
theorem zO.take:∀ {ds:List M.D}{xs:List V} (n:Nat),zO K ρ H ds xs->zO K ρ H (ds.take n) (xs.take n)
 | _,_,0,_=>rfl
 | [],_,_+1,h=>by cases h;rfl
 | _::_,_,n+1,⟨y,ys,e,h,r⟩=>by subst e;exact⟨y,_,rfl,h,zO.take n r⟩
theorem zO.drop:∀ {ds:List M.D}{xs:List V} (n:Nat),zO K ρ H ds xs->zO K ρ H (ds.drop n) (xs.drop n)
 | _,_,0,h=>h
 | [],_,_+1,h=>by cases h;rfl
 | _::_,_,n+1,⟨y,ys,e,h,r⟩=>by subst e;exact zO.drop n r
theorem zO.set {d:M.D}{v:V} (hd:zN K ρ H d v):∀ {ds:List M.D}{xs:List V} (n:Nat),zO K ρ H ds xs->zO K ρ H (ds.set n d) (xs.set n v)
 | [],_,_,h=>by cases h;rfl
 | _::_,_,0,⟨y,ys,e,h,r⟩=>by subst e;exact⟨v,ys,rfl,hd,r⟩
 | _::_,_,n+1,⟨y,ys,e,h,r⟩=>by subst e;exact⟨y,_,rfl,h,zO.set hd n r⟩
theorem zO.rev {ds:List M.D}{xs:List V} (h:zO K ρ H ds xs):zO K ρ H ds.reverse xs.reverse:=by
 induction ds generalizing xs with
 | nil=>cases h;rfl
 | cons d ds ih =>
  obtain⟨y,ys,e,h1,r⟩:=h
  subst e
  rw[List.reverse_cons,List.reverse_cons]
  exact (ih r).app ⟨y,[],rfl,h1,rfl⟩
theorem zO.dropLast {ds:List M.D}{xs:List V} (h:zO K ρ H ds xs):zO K ρ H ds.dropLast xs.dropLast:=by
 rw[List.dropLast_eq_take,List.dropLast_eq_take,h.length]
 exact h.take _
end
section
variable {K:PySem.W.Frag}{ρ ρ':List Addr}{H H':Hp}{ds es:List M.D}{xs ys:List V}
theorem zN.all.mono (h:zN.all K ρ H ds xs) (hρ:ρ <+: ρ') (le:Le H H'):zN.all K ρ' H' ds xs:=zO.mono hρ le h
theorem zN.all.length (h:zN.all K ρ H ds xs):ds.length=xs.length:=zO.length h
theorem zN.all.app (h:zN.all K ρ H ds xs) (k:zN.all K ρ H es ys):zN.all K ρ H (ds++es) (xs++ys):=zO.app h k
end
noncomputable def Zc:M.D->Key->Prop
 | .int i,k=>k=.inl i
 | .str x,k=>k=.inr (ofT x)/\okT x
 | _,_=>False
noncomputable abbrev Tab:=Nat->Option (Addr×List Str)
structure zB4 (K:PySem.W.Frag) (ρ:List Addr) (H:Hp) (N:List Str) (fs:List (Option M.D)) (gs:List (Str×V)):Prop where
 len:fs.length=N.length
 nd:(gs.map (·.1)).Nodup
 within:∀ f∈gs.map (·.1),f∈N
 get:∀ (i:Nat) (f:Str) (d:M.D),N[i]? = some f->fs[i]? = some (some d)->∃ v,gs.lookup f=some v/\zN K ρ H d v
noncomputable def ObR (K:PySem.W.Frag) (Θ:Tab) (ρ:List Addr) (H:Hp) (a:Addr):M.O->Prop
 | .lst ds=>∃ xs,H a=some (.lst xs)/\zO K ρ H ds xs
 | .dct kvs=>∃ ks,H a=some (.dK ks)/\Paired (fun (p:M.D×M.D) (q:Key×V)=>Zc p.1 q.1/\zN K ρ H p.2 q.2) kvs ks
 | .fdc kvs=>∃ o ks,H a=some (.frz o (.dK ks))/\Paired (fun (p:M.D×M.D) (q:Key×V)=>Zc p.1 q.1/\zN K ρ H p.2 q.2) kvs ks
 | .ins c fs=>∃ C dx gs N,H a=some (.ins C dx gs)/\Θ c=some (C,N)/\zB4 K ρ H N fs gs
structure zW (K:PySem.W.Frag) (Θ:Tab) (ρ:List Addr) (S:M.S) (H:Hp):Prop where
 len:ρ.length=S.length
 nd:ρ.Nodup
 obj:∀ (i:Nat) (o:M.O),S[i]? = some o->∃ a,ρ[i]? = some a/\ObR K Θ ρ H a o
structure jI (K:PySem.W.Frag) (ρ:List Addr) (H:Hp) (σ':M.St) (σ:St):Prop where
 len:σ'.length=σ.length
 get:∀ (i:Nat) (d:M.D),σ'[i]? = some (some d)->∃ v,σ[i]? = some (some v)/\zN K ρ H d v
section
variable {K:PySem.W.Frag}{Θ:Tab}{ρ ρ':List Addr}{H H':Hp}{S:M.S}
theorem jI.mono {σ':M.St}{σ:St} (h:jI K ρ H σ' σ) (hρ:ρ <+: ρ') (le:Le H H'):jI K ρ' H' σ' σ :=
 ⟨h.len,fun i d e=>let ⟨v,h1,h2⟩:=h.get i d e;⟨v,h1,h2.mono hρ le⟩⟩
theorem jI.set {σ':M.St}{σ:St}{d:M.D}{v:V} (h:jI K ρ H σ' σ) (hd:zN K ρ H d v) (i:Nat):jI K ρ H (σ'.set i (some d)) (σ.set i (some v)):=by
 refine⟨by rw[List.length_set,List.length_set,h.len],fun j e q=>?_⟩
 by_cases hj:i=j
 ·subst hj
  by_cases hl:i < σ'.length
  ·rw[List.getElem?_set_self hl] at q
   cases q
   exact⟨v,by rw[List.getElem?_set_self (h.len ▸ hl)],hd⟩
  ·rw[List.getElem?_eq_none (by rw[List.length_set];omega)] at q
   cases q
 ·rw[List.getElem?_set_ne hj] at q
  rw[List.getElem?_set_ne hj]
  exact h.get j e q
theorem jI.more {σ':M.St}{σ:St} (h:jI K ρ H σ' σ) (n:Nat):jI K ρ H (σ'++List.replicate n none) (σ++List.replicate n none):=by
 refine⟨by simp[h.len],fun i d q=>?_⟩
 by_cases hl:i < σ'.length
 ·rw[List.getElem?_append_left hl] at q
  rw[List.getElem?_append_left (h.len ▸ hl)]
  exact h.get i d q
 ·rw[List.getElem?_append_right (by omega),List.getElem?_replicate] at q
  split at q<;>cases q
theorem zW.tracked (h:zW K Θ ρ S H) {a:Addr} (m:a∈ρ):∃ o,H a=some o:=by
 obtain⟨i,hi,e⟩:=List.mem_iff_getElem.mp m
 have hl:i < S.length:=h.len ▸ hi
 obtain⟨a',e1,r⟩:=h.obj i S[i] (by simp[hl])
 rw[List.getElem?_eq_getElem hi,e] at e1
 cases e1
 cases q:S[i] with
 | lst ds=>rw[q] at r;obtain⟨xs,e2,_⟩:=r;exact⟨_,e2⟩
 | dct kvs=>rw[q] at r;obtain⟨xs,e2,_⟩:=r;exact⟨_,e2⟩
 | fdc kvs=>rw[q] at r;obtain⟨o,xs,e2,_⟩:=r;exact⟨_,e2⟩
 | ins c fs=>rw[q] at r;obtain⟨_,_,_,_,e2,_⟩:=r;exact⟨_,e2⟩
theorem zW.fresh (h:zW K Θ ρ S H) {p:Addr} (hp:H p=none):p∉ρ:=fun m=>by
 obtain⟨o,e⟩:=h.tracked m
 rw[hp] at e;cases e
theorem ObR.stay {a:Addr}{o:M.O} (h:ObR K Θ ρ H a o) (hρ:ρ <+: ρ') (le:Le H H') (e:H' a=H a):ObR K Θ ρ' H' a o:=by
 cases o with
 | lst ds=>obtain⟨xs,e1,r⟩:=h;exact⟨xs,e.trans e1,r.mono hρ le⟩
 | dct kvs=>obtain⟨ks,e1,r⟩:=h;exact⟨ks,e.trans e1,Paired.mapP r fun p q z=>⟨z.1,z.2.mono hρ le⟩⟩
 | fdc kvs=>obtain⟨o,ks,e1,r⟩:=h;exact⟨o,ks,e.trans e1,Paired.mapP r fun p q z=>⟨z.1,z.2.mono hρ le⟩⟩
 | ins c fs =>
  obtain⟨C,dx,gs,N,e1,e2,r⟩:=h
  exact⟨C,dx,gs,N,e.trans e1,e2,r.len,r.nd,r.within,fun i f d h1 h2=>let ⟨v,k1,k2⟩:=r.get i f d h1 h2;⟨v,k1,k2.mono hρ le⟩⟩
theorem zW.stay (h:zW K Θ ρ S H) (le:Le H H') (e:∀ a∈ρ,H' a=H a):zW K Θ ρ S H' :=
 ⟨h.len,h.nd,fun i o q=>let ⟨a,h1,h2⟩:=h.obj i o q;⟨a,h1,h2.stay (List.prefix_refl _) le (e a (List.mem_of_getElem? h1))⟩⟩
theorem zW.aside (h:zW K Θ ρ S H) {p:Addr} (hp:H p=none) (o:HO):zW K Θ ρ S (upd H p o) :=
 h.stay (Le.new hp o) fun a m=>zf (fun z=>h.fresh hp (z ▸ m))
theorem zW.alloc (h:zW K Θ ρ S H) {p:Addr} (hp:H p=none) {o:M.O}{u:HO} (r:ObR K Θ (ρ++[p]) (upd H p u) p o):zW K Θ (ρ++[p]) (S++[o]) (upd H p u):=by
 refine⟨by simp[h.len],?_,fun i ob q=>?_⟩
 ·rw[List.nodup_append]
  refine⟨h.nd,by simp,fun a ha b hb=>?_⟩
  have hb':b=p:=by simpa using hb
  rw[hb']
  exact fun z=>h.fresh hp (z ▸ ha)
 ·by_cases hl:i < S.length
  ·rw[List.getElem?_append_left hl] at q
   obtain⟨a,h1,h2⟩:=h.obj i ob q
   refine⟨a,Q5 (List.prefix_append _ _) h1,h2.stay (List.prefix_append _ _) (Le.new hp u) (zf fun z=>h.fresh hp (z ▸ List.mem_of_getElem? h1))⟩
  ·rw[List.getElem?_append_right (by omega)] at q
   have hi:i - S.length=0:=by
    cases hz:i - S.length with
    | zero=>rfl
    | succ k=>rw[hz] at q;simp at q
   rw[hi] at q
   simp at q
   subst q
   refine⟨p,?_,r⟩
   rw[List.getElem?_append_right (by rw[h.len];omega),h.len,hi]
   rfl
theorem Js {α:Type}{ρ:List α} (hN:ρ.Nodup) {i j:Nat}{x:α} (a:ρ[i]? = some x) (b:ρ[j]? = some x):i=j:=by
 induction ρ generalizing i j with
 | nil=>simp at a
 | cons y r ih =>
  rw[List.nodup_cons] at hN
  cases i with
  | zero =>
   cases j with
   | zero=>rfl
   | succ j =>
    simp at a b
    subst a
    exact absurd (List.mem_of_getElem? b) hN.1
  | succ i =>
   cases j with
   | zero =>
    simp at a b
    subst b
    exact absurd (List.mem_of_getElem? a) hN.1
   | succ j =>
    simp at a b
    rw[ih hN.2 a b]
theorem zKi {α:Type}{l:List α} (h:∀ (i j:Nat) x,l[i]? = some x->l[j]? = some x->i=j):l.Nodup:=by
 induction l with
 | nil=>exact List.nodup_nil
 | cons y r ih =>
  refine List.nodup_cons.mpr ⟨fun m=>?_,ih fun i j x a b=>?_⟩
  ·obtain⟨j,hj,e⟩:=List.mem_iff_getElem.mp m
   have:=h 0 (j+1) y (by simp) (by simp[e,hj])
   omega
  ·have:=h (i+1) (j+1) x (by simpa using a) (by simpa using b)
   omega
theorem zH2 {α:Type}{l:List α} (hN:l.Nodup) {i j:Nat} (hi:i < l.length) (hj:j < l.length) (e:l[i]=l[j]):i=j :=
 Js hN (x:=l[i]) (by simp[hi]) (by rw[e];simp[hj])
theorem zW.put (h:zW K Θ ρ S H) {i:Nat}{a:Addr} (ha:ρ[i]? = some a) {o:M.O}{u:HO} (mu:Mut (H a)) (r:ObR K Θ ρ (upd H a u) a o):zW K Θ ρ (S.set i o) (upd H a u):=by
 refine⟨by simp[h.len],h.nd,fun j ob q=>?_⟩
 by_cases hj:i=j
 ·subst hj
  by_cases hl:i < S.length
  ·rw[List.getElem?_set_self hl] at q
   cases q
   exact⟨a,ha,r⟩
  ·rw[List.getElem?_eq_none (by rw[List.length_set];omega)] at q
   cases q
 ·rw[List.getElem?_set_ne hj] at q
  obtain⟨b,h1,h2⟩:=h.obj j ob q
  refine⟨b,h1,h2.stay (List.prefix_refl _) (Le.put mu u) (zf fun z=>?_)⟩
  subst z
  exact hj (Js h.nd ha h1)
end
noncomputable def zF {α β:Type} (K:PySem.W.Frag) (Θ:Tab) (Rl:List Addr->Hp->α->β->Prop) (ρ:List Addr) (H:Hp):M.R α->(β->Hp->Prop)->Prop
 | .ok a S',Q=>∀ ρ' H' b,ρ <+: ρ'->Le H H'->zW K Θ ρ' S' H'->Rl ρ' H' a b->Q b H'
 | .exc _ _,_=>False
 | .no,_=>False
noncomputable abbrev rB:List Addr->Hp->Bool->Bool->Prop:=fun _ _ a b=>a=b
noncomputable abbrev rO:List Addr->Hp->Option Int->Option Int->Prop:=fun _ _ a b=>a=b
section
variable {K:PySem.W.Frag}{Θ:Tab}{ρ ρ':List Addr}{H H':Hp}{S:M.S}{α β γ δ:Type}{Rl:List Addr->Hp->α->β->Prop}{Rk:List Addr->Hp->γ->δ->Prop}{Q:β->Hp->Prop}{Q':δ->Hp->Prop}
theorem zF.weak {r:M.R α} (h:zF K Θ Rl ρ H r Q) (hρ:ρ <+: ρ') (le:Le H H'):zF K Θ Rl ρ' H' r Q:=by
 cases r with
 | ok a s=>exact fun ρ2 H2 b p l=>h ρ2 H2 b (hρ.trans p) (le.trans l)
 | exc e s=>exact h
 | no=>exact h
theorem zF.bind {r:M.R α}{f:α->M.S->M.R γ} (h:zF K Θ Rk ρ H (r.bind f) Q')
  (k:∀ ρ' H' a b S',ρ <+: ρ'->Le H H'->zW K Θ ρ' S' H'->Rl ρ' H' a b->zF K Θ Rk ρ' H' (f a S') Q'->Q b H'):zF K Θ Rl ρ H r Q:=by
 cases r with
 | ok a s=>exact fun ρ2 H2 b p l rp rl=>k ρ2 H2 a b s p l rp rl (zF.weak h p l)
 | exc e s=>exact h
 | no=>exact h
theorem zF.here {a:α}{b:β} (h:zF K Θ Rl ρ H (.ok a S) Q) (rp:zW K Θ ρ S H) (rl:Rl ρ H a b):Q b H:=h ρ H b (List.prefix_refl _) (Le.refl _) rp rl
end
noncomputable def RdE (K:PySem.W.Frag) (Θ:Tab) (m:M.EM):TE:=fun σ H Q=>∃ ρ σ' S,jI K ρ H σ' σ/\zW K Θ ρ S H/\zF K Θ (zN K) ρ H (m σ' S) Q
noncomputable def RdT (K:PySem.W.Frag) (Θ:Tab) (m:M.TM):TT:=fun σ H Q=>∃ ρ σ' S,jI K ρ H σ' σ/\zW K Θ ρ S H/\zF K Θ rB ρ H (m σ' S) Q
noncomputable def RdA (K:PySem.W.Frag) (Θ:Tab) (m:M.AM):TA:=fun σ H Q=>∃ ρ σ' S,jI K ρ H σ' σ/\zW K Θ ρ S H/\zF K Θ (zO K) ρ H (m σ' S) Q
noncomputable def RdO (K:PySem.W.Frag) (Θ:Tab) (m:M.OM):TO:=fun σ H Q=>∃ ρ σ' S,jI K ρ H σ' σ/\zW K Θ ρ S H/\zF K Θ rO ρ H (m σ' S) Q
noncomputable abbrev ME (X:Cx) (Θ:Tab) (e:Expr) (m:M.EM):Prop:=PE X e (RdE X.K Θ m)
@[irreducible] noncomputable def WE (X:Cx) (Θ:Tab) (e:Expr) (m:M.EM):Prop:=ME X Θ e m
noncomputable abbrev MT (X:Cx) (Θ:Tab) (e:Expr) (m:M.TM):Prop:=PT X e (RdT X.K Θ m)
@[irreducible] noncomputable def WT (X:Cx) (Θ:Tab) (e:Expr) (m:M.TM):Prop:=MT X Θ e m
noncomputable abbrev MW (X:Cx) (Θ:Tab) (e:Expr) (m:M.TM):Prop:=PW X e (RdT X.K Θ m)
@[irreducible] noncomputable def WW (X:Cx) (Θ:Tab) (e:Expr) (m:M.TM):Prop:=MW X Θ e m
noncomputable abbrev MA (X:Cx) (Θ:Tab) (es:List Expr) (m:M.AM):Prop:=PA X es (RdA X.K Θ m)
@[irreducible] noncomputable def WA (X:Cx) (Θ:Tab) (es:List Expr) (m:M.AM):Prop:=MA X Θ es m
noncomputable abbrev MO (X:Cx) (Θ:Tab) (e:Option Expr) (m:M.OM):Prop:=PO X e (RdO X.K Θ m)
@[irreducible] noncomputable def WO (X:Cx) (Θ:Tab) (e:Option Expr) (m:M.OM):Prop:=MO X Θ e m
theorem PE.imp {X:Cx}{e:Expr}{t t':TE} (h:PE X e t) (i:∀ σ H Q,t' σ H Q->t σ H Q):PE X e t':=fun pins s σ H Q I q=>h pins s σ H Q I (i σ H Q q)
theorem PT.imp {X:Cx}{e:Expr}{t t':TT} (h:PT X e t) (i:∀ σ H Q,t' σ H Q->t σ H Q):PT X e t':=fun pins s σ H Q I q=>h pins s σ H Q I (i σ H Q q)
theorem PW.imp {X:Cx}{e:Expr}{t t':TT} (h:PW X e t) (i:∀ σ H Q,t' σ H Q->t σ H Q):PW X e t':=fun wh pins s σ H Q I q=>h wh pins s σ H Q I (i σ H Q q)
theorem PA.imp {X:Cx}{es:List Expr}{t t':TA} (h:PA X es t) (i:∀ σ H Q,t' σ H Q->t σ H Q):PA X es t':=fun pos pins s σ H Q I q=>h pos pins s σ H Q I (i σ H Q q)
theorem PO.imp {X:Cx}{e:Option Expr}{t t':TO} (h:PO X e t) (i:∀ σ H Q,t' σ H Q->t σ H Q):PO X e t':=fun pins s σ H Q I q=>h pins s σ H Q I (i σ H Q q)
noncomputable def ze:Expr->Bool
 | .Starred _ _=>false
 | _=>true
theorem jS {e:Expr}{es:List Expr}{env:Env} (h:ze e=true):starEach (e::es) env=(false,eval e env)::starEach es env:=by
 cases e<;>first | rfl | cases h
theorem yl {env:Env}{pos:Pos}:∀ {es:List Expr},es.all ze=true->(backTo pos (starEach es env)).any (·.1)=false
 | [],_=>rfl
 | e::es,h=>by
  rw[List.all_cons,Bool.and_eq_true] at h
  rw[jS h.1]
  show (false || (backTo pos (starEach es env)).any (·.1))=false
  rw[yl h.2];rfl
theorem zF5 {env:Env}{pos:Pos}:∀ {es:List Expr},es.all ze=true->(backTo pos (starEach es env)).all (fun x=>!x.1)=true
 | [],_=>rfl
 | e::es,h=>by
  rw[List.all_cons,Bool.and_eq_true] at h
  rw[jS h.1]
  show (true && (backTo pos (starEach es env)).all (fun x=>!x.1))=true
  rw[zF5 h.2];rfl
theorem zFu {env:Env}{pos:Pos}{es:List Expr} (h:es.all ze=true) (hl:es.length < 30):((backTo pos (starEach es env)).all (fun x=>!x.1) && (backToKw pos (keywordEach [] env)).all (fun x=>x.1.isSome)
  && decide (es.length+([]:List Keyword).length+(if ([]:List Keyword).isEmpty then 0 else 1) < 30))=true:=by
 rw[zF5 h,Bool.true_and,Bool.and_eq_true]
 exact⟨rfl,decide_eq_true (by simpa using hl)⟩
section
variable {X:Cx}{Θ:Tab}{a b c:Expr}{pos:Pos}{ma mb mc:M.EM}{ta tb:M.TM}{jY:List Expr}
theorem zNQ (i:Nat) {x:Str} (hN:X.N[i]? = some x:=by rfl) (hv:Vis X.env.scope x:=by first | exact Or.inl rfl | exact Or.inr (Or.inl rfl) | exact Or.inr (Or.inr rfl)) (hd:(x == ("__debug__" : Str))=false:=by decide)
  (hcd:(x == ("__classdict__" : Str))=false:=by decide):ME X Θ (.Name x pos) (M.zB i):=(zMn hN hv hd hcd).imp fun σ H Q ⟨ρ,σ',S,st,rp,h⟩=>by
 unfold M.zB at h
 split at h
 ·rename_i d e
  obtain⟨v,e1,r⟩:=st.get i d e
  exact⟨v,e1,h.here rp r⟩
 ·exact h.elim
theorem zFv (i:Nat) {x:Str} (hN:X.N[i]? = some x:=by rfl) (hv:Vis X.env.scope x:=by first | exact Or.inl rfl | exact Or.inr (Or.inl rfl) | exact Or.inr (Or.inr rfl)) (hd:(x == ("__debug__" : Str))=false:=by decide)
  (hcd:(x == ("__classdict__" : Str))=false:=by decide):WE X Θ (.Name x pos) (M.zB i):=by with_unfolding_all exact zNQ i (x:=x) hN hv hd hcd
theorem zCk {e:Expr}{v:V}{d:M.D} (h:PE X e (tC v)) (r:∀ ρ H,zN X.K ρ H d v):ME X Θ e (M.eC d):=h.imp fun σ H Q ⟨ρ,σ',S,st,rp,h⟩=>h.here rp (r ρ H)
theorem zMX {i:Int}{j:Nat}:ME X Θ (.Constant (.int i) j pos) (M.eC (.int i)):=zCk zNA fun _ _=>rfl
theorem zE {i:Int}{j:Nat}:WE X Θ (.Constant (.int i) j pos) (M.eC (.int i)):=by with_unfolding_all exact zMX (i:=i) (j:=j)
theorem zOR {k:Bool}{j:Nat}:ME X Θ (.Constant (.bool k) j pos) (M.eC (.bl k)):=zCk zOL fun _ _=>rfl
theorem zEk {k:Bool}{j:Nat}:WE X Θ (.Constant (.bool k) j pos) (M.eC (.bl k)):=by with_unfolding_all exact zOR (k:=k) (j:=j)
theorem zMj {j:Nat}:ME X Θ (.Constant .none j pos) (M.eC .non):=zCk zN4 fun _ _=>rfl
theorem zBM {j:Nat}:WE X Θ (.Constant .none j pos) (M.eC .non):=by with_unfolding_all exact zMj (j:=j)
theorem zMf {y:M.T}{x:Str}{j:Nat} (h:x=ofT y) (ok:okT y):ME X Θ (.Constant (.str x) j pos) (M.eC (.str y)):=zCk zH4 fun _ _=>by rw[h];exact⟨rfl,ok⟩
theorem zKU {y:M.T}{x:Str}{j:Nat} (h:x=ofT y) (ok:okT y):WE X Θ (.Constant (.str x) j pos) (M.eC (.str y)):=by with_unfolding_all exact zMf (y:=y) (x:=x) (j:=j) h ok
theorem zKg {x:Str}{v:V}{d:M.D} (h:zDI X.mg x v) (hg:Gl X x) (r:∀ ρ H,zN X.K ρ H d v) (hd:(x == ("__debug__" : Str))=false:=by decide):ME X Θ (.Name x pos) (M.eC d):=zCk (zKD h hg hd) r
theorem zDj {x:Str}{v:V}{d:M.D} (h:zDI X.mg x v) (hg:Gl X x) (r:∀ ρ H,zN X.K ρ H d v) (hd:(x == ("__debug__" : Str))=false:=by decide):WE X Θ (.Name x pos) (M.eC d):=by with_unfolding_all exact zKg (x:=x) (v:=v) (d:=d) h hg r hd
theorem zOK (n:M.Kd) {x:Str} (hg:Gl X x) (hm:X.mg x=none) (hv:bootBuiltins x=some (.type (qb n))) (hn:x ≠ "__name__" := by decide) (hd:(x == ("__debug__" : Str))=false:=by decide):ME X Θ (.Name x pos) (M.eC (.ty n)) :=
 zCk (zK5 (v:=.ty (qb n)) hg hm hv rfl hn hd) fun _ _=>rfl
theorem zCp (n:M.Kd) {x:Str} (hg:Gl X x) (hm:X.mg x=none) (hv:bootBuiltins x=some (.type (qb n))) (hn:x ≠ "__name__" := by decide) (hd:(x == ("__debug__" : Str))=false:=by decide):WE X Θ (.Name x pos) (M.eC (.ty n)):=by with_unfolding_all exact zOK n (x:=x) hg hm hv hn hd
noncomputable def Ad2 (K:PySem.W.Frag) (Θ:Tab) (f:M.D->M.D->M.S->M.R M.D) (r:R2):Prop:=∀ ρ H S x y X Y Q,zW K Θ ρ S H->zN K ρ H x X->zN K ρ H y Y->zF K Θ (zN K) ρ H (f x y S) Q->r X Y H Q
noncomputable def AdC (K:PySem.W.Frag) (Θ:Tab) (f:M.CM) (r:R2):Prop:=∀ ρ H S x y X Y (Q:VK),zW K Θ ρ S H->zN K ρ H x X->zN K ρ H y Y->zF K Θ rB ρ H (f x y S) (fun b H'=>Q (.bl b) H')->r X Y H Q
noncomputable def AdN (K:PySem.W.Frag) (Θ:Tab) (f:M.F) (r:List V->Hp->VK->Prop):Prop:=∀ ρ H S xs Xs Q,zW K Θ ρ S H->zO K ρ H xs Xs->zF K Θ (zN K) ρ H (f xs S) Q->r Xs H Q
noncomputable def AdM (K:PySem.W.Frag) (Θ:Tab) (f:M.D->M.F) (r:V->List V->Hp->VK->Prop):Prop :=
 ∀ ρ H S x xs X Xs Q,zW K Θ ρ S H->zN K ρ H x X->zO K ρ H xs Xs->zF K Θ (zN K) ρ H (f x xs S) Q->r X Xs H Q
theorem zOd {op:Operator}{f:M.D->M.D->M.S->M.R M.D}{r:R2} (ho:OpR X (binaryOp op) r) (ad:Ad2 X.K Θ f r) (ha:ME X Θ a ma) (hb:ME X Θ b mb):ME X Θ (.BinOp a op b pos) (M.eOp f ma mb) :=
 (zOS ho ha hb).imp fun σ H Q ⟨ρ,σ',S,st,rp,h⟩=>⟨ρ,σ',S,st,rp,zF.bind h fun ρ1 H1 x X1 S1 p1 l1 rp1 rx h1=>⟨ρ1,σ',S1,st.mono p1 l1,rp1,
  zF.bind h1 fun ρ2 H2 y Y S2 p2 l2 rp2 ry h2=>ad ρ2 H2 S2 x y X1 Y Q rp2 (rx.mono p2 l2) ry h2⟩⟩
theorem zK {op:Operator}{f:M.D->M.D->M.S->M.R M.D}{r:R2} (ho:OpR X (binaryOp op) r) (ad:Ad2 X.K Θ f r) (ha:WE X Θ a ma) (hb:WE X Θ b mb):WE X Θ (.BinOp a op b pos) (M.eOp f ma mb):=by with_unfolding_all exact zOd (op:=op) (f:=f) (r:=r) ho ad ha hb
noncomputable def zGC:Expr->Bool
 | .Slice _ _ _ _=>false
 | .Tuple _ _ _=>false
 | _=>true
theorem zKY {b:Expr} (h:zGC b=true):zGs b:=fun o i=>by
 cases b<;>first | rfl | cases h
theorem zOp {f:M.D->M.D->M.S->M.R M.D}{r:R2} (ho:IxR X r) (ad:Ad2 X.K Θ f r) (ha:ME X Θ a ma) (hb:ME X Θ b mb) (hs:zGC b=true:=by rfl):ME X Θ (.Subscript a b pos) (M.eOp f ma mb) :=
 (zOw ho ha hb (zKY hs)).imp fun σ H Q ⟨ρ,σ',S,st,rp,h⟩=>⟨ρ,σ',S,st,rp,zF.bind h fun ρ1 H1 x X1 S1 p1 l1 rp1 rx h1=>⟨ρ1,σ',S1,st.mono p1 l1,rp1,
  zF.bind h1 fun ρ2 H2 y Y S2 p2 l2 rp2 ry h2=>ad ρ2 H2 S2 x y X1 Y Q rp2 (rx.mono p2 l2) ry h2⟩⟩
theorem zc {f:M.D->M.D->M.S->M.R M.D}{r:R2} (ho:IxR X r) (ad:Ad2 X.K Θ f r) (ha:WE X Θ a ma) (hb:WE X Θ b mb) (hs:zGC b=true:=by rfl):WE X Θ (.Subscript a b pos) (M.eOp f ma mb):=by with_unfolding_all exact zOp (f:=f) (r:=r) ho ad ha hb hs
theorem zMs {op:CmpOp}{f:M.CM}{r:R2} (ho:OpR X (compareOp op) r) (ad:AdC X.K Θ f r) (ha:ME X Θ a ma) (hb:ME X Θ b mb) (hm:behindInMarks op b=false):ME X Θ (.Compare a [op] [b] pos) (M.QE f ma mb) :=
 (zL3 ho ha hb hm).imp fun σ H Q ⟨ρ,σ',S,st,rp,h⟩=>⟨ρ,σ',S,st,rp,zF.bind h fun ρ1 H1 x X1 S1 p1 l1 rp1 rx h1=>⟨ρ1,σ',S1,st.mono p1 l1,rp1,
  zF.bind h1 fun ρ2 H2 y Y S2 p2 l2 rp2 ry h2=>ad ρ2 H2 S2 x y X1 Y Q rp2 (rx.mono p2 l2) ry (zF.bind h2 fun ρ3 H3 k k' S3 p3 l3 rp3 e h3=>by cases e;exact h3.here rp3 rfl)⟩⟩
theorem zBV {op:CmpOp}{f:M.CM}{r:R2} (ho:OpR X (compareOp op) r) (ad:AdC X.K Θ f r) (ha:WE X Θ a ma) (hb:WE X Θ b mb) (hm:behindInMarks op b=false):WE X Θ (.Compare a [op] [b] pos) (M.QE f ma mb):=by with_unfolding_all exact zMs (op:=op) (f:=f) (r:=r) ho ad ha hb hm
theorem zMk {op:CmpOp}{f:M.CM}{r:R2} (ho:OpR X (compareOp op) r) (ad:AdC X.K Θ f r) (ha:ME X Θ a ma) (hb:ME X Θ b mb) (hm:behindInMarks op b=false):MT X Θ (.Compare a [op] [b] pos) (M.jA f ma mb) :=
 (zL1 ho ha hb hm).imp fun σ H Q ⟨ρ,σ',S,st,rp,h⟩=>⟨ρ,σ',S,st,rp,zF.bind h fun ρ1 H1 x X1 S1 p1 l1 rp1 rx h1=>⟨ρ1,σ',S1,st.mono p1 l1,rp1,
  zF.bind h1 fun ρ2 H2 y Y S2 p2 l2 rp2 ry h2=>ad ρ2 H2 S2 x y X1 Y _ rp2 (rx.mono p2 l2) ry (by
   revert h2
   cases f x y S2 with
   | ok k s=>exact fun h2 ρ3 H3 k' p3 l3 rp3 e=>⟨k',rfl,h2 ρ3 H3 k' p3 l3 rp3 e⟩
   | exc e s=>exact fun h2=>h2
   | no=>exact fun h2=>h2)⟩⟩
theorem zr {op:CmpOp}{f:M.CM}{r:R2} (ho:OpR X (compareOp op) r) (ad:AdC X.K Θ f r) (ha:WE X Θ a ma) (hb:WE X Θ b mb) (hm:behindInMarks op b=false):WT X Θ (.Compare a [op] [b] pos) (M.jA f ma mb):=by with_unfolding_all exact zMk (op:=op) (f:=f) (r:=r) ho ad ha hb hm
theorem zNy {K:PySem.W.Frag}{ρ:List Addr}{H:Hp}{x:M.D}{v:V} (r:zN K ρ H x v):decide (v=.non)=M.zKs x:=by
 cases x with
 | non=>cases r;rfl
 | bl b=>cases r;rfl
 | int b=>cases r;rfl
 | str b=>obtain⟨rfl,_⟩:=r;rfl
 | ty b=>cases r;rfl
 | ref i=>obtain⟨_,rfl,_⟩:=r;rfl
 | tup i=>obtain⟨_,_,rfl,_⟩:=r;rfl
 | ro i=>obtain⟨_,_,rfl,_⟩:=r;rfl
theorem zMK {j pos'} (ha:ME X Θ a ma):MT X Θ (.Compare a [.Is] [.Constant .none j pos'] pos) (M.zB6 ma):=(zM3 (zNY ha)).imp fun σ H Q ⟨ρ,σ',S,st,rp,h⟩=>⟨ρ,σ',S,st,rp,zF.bind h fun ρ1 H1 x X1 S1 p1 l1 rp1 rx h1=>⟨_,rfl,by
 rw[zNy rx];exact h1.here rp1 rfl⟩⟩
theorem zGO {j pos'} (ha:WE X Θ a ma):WT X Θ (.Compare a [.Is] [.Constant .none j pos'] pos) (M.zB6 ma):=by with_unfolding_all exact zMK (j:=j) (pos':=pos') ha
theorem zH1 (ha:MT X Θ a ta):MW X Θ (.BoolOp .And [a] pos) ta:=zLM ha
theorem zCM (ha:WT X Θ a ta):WW X Θ (.BoolOp .And [a] pos) ta:=by with_unfolding_all exact zH1 ha
theorem zIs (ha:MT X Θ a ta):MW X Θ (.BoolOp .Or [a] pos) ta:=zMl ha
theorem zAa (ha:WT X Θ a ta):WW X Θ (.BoolOp .Or [a] pos) ta:=by with_unfolding_all exact zIs ha
theorem zOD (ha:MT X Θ a ta) (hb:MW X Θ (.BoolOp .And (b::jY) pos) tb):MW X Θ (.BoolOp .And (a::b::jY) pos) (M.zAg ta tb) :=
 (zNX ha hb).imp fun σ H Q ⟨ρ,σ',S,st,rp,h⟩=>⟨ρ,σ',S,st,rp,zF.bind h fun ρ1 H1 k k' S1 p1 l1 rp1 e h1=>by
  cases e
  cases k with
  | true=>exact zEd ⟨ρ1,σ',S1,st.mono p1 l1,rp1,h1⟩
  | false=>exact zEM (zF.here (b:=false) h1 rp1 rfl)⟩
theorem zGQ (ha:WT X Θ a ta) (hb:WW X Θ (.BoolOp .And (b::jY) pos) tb):WW X Θ (.BoolOp .And (a::b::jY) pos) (M.zAg ta tb):=by with_unfolding_all exact zOD ha hb
theorem zOH (ha:MT X Θ a ta) (hb:MW X Θ (.BoolOp .Or (b::jY) pos) tb):MW X Θ (.BoolOp .Or (a::b::jY) pos) (M.tOr ta tb) :=
 (zOk ha hb).imp fun σ H Q ⟨ρ,σ',S,st,rp,h⟩=>⟨ρ,σ',S,st,rp,zF.bind h fun ρ1 H1 k k' S1 p1 l1 rp1 e h1=>by
  cases e
  cases k with
  | true=>exact zEd (zF.here (b:=true) h1 rp1 rfl)
  | false=>exact zEM ⟨ρ1,σ',S1,st.mono p1 l1,rp1,h1⟩⟩
theorem zCc (ha:WT X Θ a ta) (hb:WW X Θ (.BoolOp .Or (b::jY) pos) tb):WW X Θ (.BoolOp .Or (a::b::jY) pos) (M.tOr ta tb):=by with_unfolding_all exact zOH ha hb
theorem zMa (ha:MT X Θ a ta):MT X Θ (.UnaryOp .Not a pos) (M.zBF ta):=(zN7 ha).imp fun σ H Q ⟨ρ,σ',S,st,rp,h⟩=>⟨ρ,σ',S,st,rp,zF.bind h fun ρ1 H1 k k' S1 p1 l1 rp1 e h1=>by
 cases e;exact zF.here (b:=!k) h1 rp1 rfl⟩
theorem zBC (ha:WT X Θ a ta):WT X Θ (.UnaryOp .Not a pos) (M.zBF ta):=by with_unfolding_all exact zMa ha
theorem zNz {op} (ha:ME X Θ a ma):ME X Θ (.BoolOp op [a] pos) ma:=zNm ha
theorem zJ5 {op} (ha:WE X Θ a ma):WE X Θ (.BoolOp op [a] pos) ma:=by with_unfolding_all exact zNz (op:=op) ha
theorem zMz {K:PySem.W.Frag}{γ δ:Type}{Rk:List Addr->Hp->γ->δ->Prop}{ρ:List Addr}{H:Hp}{x:M.D}{v:V}{S:M.S}{f:Bool->M.S->M.R γ}{Q:δ->Hp->Prop} (r:zN K ρ H x v) (h:zF K Θ Rk ρ H ((M.asB x S).bind f) Q):∃ k,v=.bl k/\zF K Θ Rk ρ H (f k S) Q:=by
 cases x with
 | bl b=>cases r;exact⟨b,rfl,h⟩
 | _=>exact h.elim
theorem zN1 (ha:ME X Θ a ma) (hb:ME X Θ (.BoolOp .And (b::jY) pos) mb):ME X Θ (.BoolOp .And (a::b::jY) pos) (M.zGD ma mb) :=
 (zNT ha hb).imp fun σ H Q ⟨ρ,σ',S,st,rp,h⟩=>⟨ρ,σ',S,st,rp,zF.bind h fun ρ1 H1 x X1 S1 p1 l1 rp1 rx h1=>by
  obtain⟨k,e,h2⟩:=zMz rx h1
  refine⟨k,e,?_⟩
  cases k with
  | true=>exact zEd ⟨ρ1,σ',S1,st.mono p1 l1,rp1,h2⟩
  | false=>exact zEM (zF.here (b:=V.bl false) h2 rp1 rfl)⟩
theorem zF6 (ha:WE X Θ a ma) (hb:WE X Θ (.BoolOp .And (b::jY) pos) mb):WE X Θ (.BoolOp .And (a::b::jY) pos) (M.zGD ma mb):=by with_unfolding_all exact zN1 ha hb
theorem zDR:MA X Θ [] M.zI:=zFs.imp fun σ H Q ⟨ρ,σ',S,st,rp,h⟩=>zF.here (b:=[]) h rp rfl
theorem zH:WA X Θ [] M.zI:=by with_unfolding_all exact zDR
theorem zCa {e:Expr}{es:List Expr}{r:M.AM} (ha:ME X Θ e ma) (hr:MA X Θ es r) (hs:ze e=true:=by rfl):MA X Θ (e::es) (M.zD ma r) :=
 (zEe ha hr (jS hs)).imp fun σ H Q ⟨ρ,σ',S,st,rp,h⟩=>⟨ρ,σ',S,st,rp,zF.bind h fun ρ1 H1 x X1 S1 p1 l1 rp1 rx h1=>⟨ρ1,σ',S1,st.mono p1 l1,rp1,
  zF.bind h1 fun ρ2 H2 ys Ys S2 p2 l2 rp2 ry h2=>h2.here rp2 ⟨X1,Ys,rfl,rx.mono p2 l2,ry⟩⟩⟩
theorem zC {e:Expr}{es:List Expr}{r:M.AM} (ha:WE X Θ e ma) (hr:WA X Θ es r) (hs:ze e=true:=by rfl):WA X Θ (e::es) (M.zD ma r):=by with_unfolding_all exact zCa (e:=e) (es:=es) (r:=r) ha hr hs
theorem zMx {es:List Expr}{r:M.AM}{x1} (hr:MA X Θ es r):ME X Θ (.Tuple es x1 pos) (M.qV r):=(zM4 hr).imp fun σ H Q ⟨ρ,σ',S,st,rp,h⟩=>⟨ρ,σ',S,st,rp,zF.bind h fun ρ1 H1 xs Xs S1 p1 l1 rp1 rx h1=>by
 by_cases hl:xs.length <= M.SZ
 ·rw[if_pos hl] at h1
  rw[Z9,rx.length] at hl
  exact⟨hl,fun p hp=>h1 ρ1 _ _ (List.prefix_refl _) (Le.new hp _) (rp1.aside hp _) ⟨p,Xs,rfl,SqT.of jU,rx.mono (List.prefix_refl _) (Le.new hp _)⟩⟩
 ·rw[if_neg hl] at h1
  exact h1.elim⟩
theorem jc {es:List Expr}{r:M.AM}{x1} (hr:WA X Θ es r):WE X Θ (.Tuple es x1 pos) (M.qV r):=by with_unfolding_all exact zMx (es:=es) (r:=r) (x1:=x1) hr
theorem zF.alloc {K:PySem.W.Frag}{ρ:List Addr}{H:Hp}{S:M.S}{ds:List M.D}{xs:List V}{Q:VK} (h:zF K Θ (zN K) ρ H (M.alloc (.lst ds) S) Q) (rp:zW K Θ ρ S H) (r:zO K ρ H ds xs) {p:Addr} (hp:H p=none):Q (.ref p) (upd H p (.lst xs)) :=
 h (ρ++[p]) _ _ (List.prefix_append _ _) (Le.new hp _) (rp.alloc hp ⟨xs,jU,r.mono (List.prefix_append _ _) (Le.new hp _)⟩) ⟨p,rfl,by rw[<- rp.len];simp⟩
theorem zMv {es:List Expr}{r:M.AM} (hr:MA X Θ es r):ME X Θ (.List es pos) (M.yZ r):=(zNn hr).imp fun σ H Q ⟨ρ,σ',S,st,rp,h⟩=>⟨ρ,σ',S,st,rp,zF.bind h fun ρ1 H1 xs Xs S1 p1 l1 rp1 rx h1=>by
 by_cases hl:xs.length <= M.SZ
 ·rw[if_pos hl] at h1
  rw[Z9,rx.length] at hl
  exact⟨hl,fun p hp=>h1.alloc rp1 rx hp⟩
 ·rw[if_neg hl] at h1
  exact h1.elim⟩
theorem qq {es:List Expr}{r:M.AM} (hr:WA X Θ es r):WE X Θ (.List es pos) (M.yZ r):=by with_unfolding_all exact zMv (es:=es) (r:=r) hr
theorem zLp:MO X Θ none M.QR:=zLB.imp fun σ H Q ⟨ρ,σ',S,st,rp,h⟩=>zF.here (b:=none) h rp rfl
theorem Qc:WO X Θ none M.QR:=by with_unfolding_all exact zLp
theorem zLd (ha:ME X Θ a ma):MO X Θ (some a) (M.yB ma):=(zLn ha).imp fun σ H Q ⟨ρ,σ',S,st,rp,h⟩=>⟨ρ,σ',S,st,rp,zF.bind h fun ρ1 H1 x X1 S1 p1 l1 rp1 rx h1=>by
 cases x with
 | int i=>cases rx;exact⟨i,rfl,zF.here (b:=some i) h1 rp1 rfl⟩
 | _=>exact h1.elim⟩
theorem qB (ha:WE X Θ a ma):WO X Θ (some a) (M.yB ma):=by with_unfolding_all exact zLd ha
theorem zOg {lo hi:Option Expr}{p2:Pos}{ml mh:M.OM}{r:V->Option Int->Option Int->Hp->VK->Prop} (hr:SlR X r) (ad:∀ ρ H S x X1 l u Q,zW X.K Θ ρ S H->zN X.K ρ H x X1->zF X.K Θ (zN X.K) ρ H (M.slD x l u S) Q->r X1 l u H Q) (ha:ME X Θ a ma) (hl:MO X Θ lo ml) (hh:MO X Θ hi mh) :
  ME X Θ (.Subscript a (.Slice lo hi none p2) pos) (M.eSl ma ml mh):=(zJm hr ha hl hh).imp fun σ H Q ⟨ρ,σ',S,st,rp,h⟩=>⟨ρ,σ',S,st,rp,zF.bind h fun ρ1 H1 x X1 S1 p1 l1 rp1 rx h1=>⟨ρ1,σ',S1,st.mono p1 l1,rp1,
  zF.bind h1 fun ρ2 H2 l l' S2 p2 l2 rp2 e2 h2=>by
   cases e2
   exact⟨ρ2,σ',S2,st.mono (p1.trans p2) (l1.trans l2),rp2,zF.bind h2 fun ρ3 H3 u u' S3 p3 l3 rp3 e3 h3=>by
    cases e3
    exact ad ρ3 H3 S3 x X1 l u Q rp3 (rx.mono (p2.trans p3) (l2.trans l3)) h3⟩⟩⟩
theorem Zh {lo hi:Option Expr}{p2:Pos}{ml mh:M.OM}{r:V->Option Int->Option Int->Hp->VK->Prop} (hr:SlR X r) (ad:∀ ρ H S x X1 l u Q,zW X.K Θ ρ S H->zN X.K ρ H x X1->zF X.K Θ (zN X.K) ρ H (M.slD x l u S) Q->r X1 l u H Q) (ha:WE X Θ a ma) (hl:WO X Θ lo ml) (hh:WO X Θ hi mh) :
  WE X Θ (.Subscript a (.Slice lo hi none p2) pos) (M.eSl ma ml mh):=by with_unfolding_all exact zOg (lo:=lo) (hi:=hi) (p2:=p2) (ml:=ml) (mh:=mh) (r:=r) hr ad ha hl hh
theorem zJg {x:Str}{p:Pos}{id:String}{e:Expr}{es:List Expr}{f:M.F}{r:List V->Hp->VK->Prop}{m:M.AM} (hc:j5 X (.builtin id) r) (ad:AdN X.K Θ f r) (hg:Gl X x) (hm:X.mg x=none) (hv:bootBuiltins x=some (.builtin id)) (ha:MA X Θ (e::es) m)
  (hn:x ≠ "__name__" := by decide) (hdb:(x == ("__debug__" : Str))=false:=by decide) (he:ze e=true:=by rfl) (hpl:es.all ze=true:=by rfl) :
  ME X Θ (.Call (.Name x p) (e::es) [] pos) (M.zT f m):=(zGR hc hg hm hv ha hn hdb (jS he) (yl hpl)).imp fun σ H Q ⟨ρ,σ',S,st,rp,h⟩=>⟨ρ,σ',S,st,rp,zF.bind h fun ρ1 H1 xs Xs S1 p1 l1 rp1 rx h1=>ad ρ1 H1 S1 xs Xs Q rp1 rx h1⟩
theorem qZ {x:Str}{p:Pos}{id:String}{e:Expr}{es:List Expr}{f:M.F}{r:List V->Hp->VK->Prop}{m:M.AM} (hc:j5 X (.builtin id) r) (ad:AdN X.K Θ f r) (hg:Gl X x) (hm:X.mg x=none) (hv:bootBuiltins x=some (.builtin id)) (ha:WA X Θ (e::es) m)
  (hn:x ≠ "__name__" := by decide) (hdb:(x == ("__debug__" : Str))=false:=by decide) (he:ze e=true:=by rfl) (hpl:es.all ze=true:=by rfl) :
  WE X Θ (.Call (.Name x p) (e::es) [] pos) (M.zT f m):=by with_unfolding_all exact zJg (x:=x) (p:=p) (id:=id) (e:=e) (es:=es) (f:=f) (r:=r) (m:=m) hc ad hg hm hv ha hn hdb he hpl
theorem zIb {x:Str}{p:Pos}{T:String}{e:Expr}{es:List Expr}{f:M.F}{r:List V->Hp->VK->Prop}{m:M.AM} (hc:j5 X (.type T) r) (ad:AdN X.K Θ f r) (hg:Gl X x) (hm:X.mg x=none) (hv:bootBuiltins x=some (.type T)) (ha:MA X Θ (e::es) m)
  (hn:x ≠ "__name__" := by decide) (hdb:(x == ("__debug__" : Str))=false:=by decide) (he:ze e=true:=by rfl) (hpl:es.all ze=true:=by rfl) :
  ME X Θ (.Call (.Name x p) (e::es) [] pos) (M.zT f m):=(zIa hc hg hm hv ha hn hdb (jS he) (yl hpl)).imp fun σ H Q ⟨ρ,σ',S,st,rp,h⟩=>⟨ρ,σ',S,st,rp,zF.bind h fun ρ1 H1 xs Xs S1 p1 l1 rp1 rx h1=>ad ρ1 H1 S1 xs Xs Q rp1 rx h1⟩
theorem Zi {x:Str}{p:Pos}{T:String}{e:Expr}{es:List Expr}{f:M.F}{r:List V->Hp->VK->Prop}{m:M.AM} (hc:j5 X (.type T) r) (ad:AdN X.K Θ f r) (hg:Gl X x) (hm:X.mg x=none) (hv:bootBuiltins x=some (.type T)) (ha:WA X Θ (e::es) m)
  (hn:x ≠ "__name__" := by decide) (hdb:(x == ("__debug__" : Str))=false:=by decide) (he:ze e=true:=by rfl) (hpl:es.all ze=true:=by rfl) :
  WE X Θ (.Call (.Name x p) (e::es) [] pos) (M.zT f m):=by with_unfolding_all exact zIb (x:=x) (p:=p) (T:=T) (e:=e) (es:=es) (f:=f) (r:=r) (m:=m) hc ad hg hm hv ha hn hdb he hpl
theorem zHD {K:PySem.W.Frag}{ρ:List Addr}{H:Hp}{S:M.S}{k:M.Kd}{x:M.D}{v:V} (rp:zW K Θ ρ S H) (r:zN K ρ H x v) (h:M.zBK k x S=true):tyV K (qb k) v H:=by
 cases x with
 | str z=>obtain⟨rfl,_⟩:=r;cases k<;>first | rfl | cases h
 | ro ds =>
  obtain⟨a,xs,rfl,q,_⟩:=r
  cases k<;>first | exact .inl ⟨rfl,xs,q.sq⟩ | cases h
 | ref i =>
  obtain⟨a,rfl,e⟩:=r
  cases q:S[i]? with
  | none=>simp[M.zBK,q] at h
  | some o =>
   cases o with
   | lst xs =>
    obtain⟨b,e1,zs,e2,_⟩:=rp.obj _ _ q
    rw[e] at e1;cases e1
    cases k<;>first | exact .inl ⟨rfl,zs,SqL.of e2⟩ | simp[M.zBK,q] at h
   | dct xs =>
    obtain⟨b,e1,zs,e2,_⟩:=rp.obj _ _ q
    rw[e] at e1;cases e1
    cases k<;>first | exact .inr (.inr (.inl ⟨rfl,.inl ⟨zs,e2⟩⟩)) | simp[M.zBK,q] at h
   | fdc _=>simp[M.zBK,q] at h
   | ins c fs=>simp[M.zBK,q] at h
 | _=>cases h
theorem zPN {k:M.Kd}{T:String}{f:M.D->M.F}{r:V->List V->Hp->VK->Prop}{o e:Expr}{es:List Expr}{mo:M.EM}{m:M.AM}{name:Str}{apos cpos:Pos}{id:String} (pa:PlainAttrs T) (slot:Slot T name id) (hty:typeOf (.builtin id)=pure (.type "method_descriptor")) (hm:MtR X id r) (ad:AdM X.K Θ f r) (hT:T=qb k) (ho:ME X Θ o mo) (ha:MA X Θ (e::es) m)
  (hbase:attributeBase o name X.env (eval o X.env)=eval o X.env:=by rfl)
  (hfew:(e::es).length < 30:=by exact Nat.le_of_ble_eq_true rfl) (hline:(apos.endLine == cpos.line)=true:=by rfl) (hs:ze e=true:=by rfl) (hplain:es.all ze=true:=by rfl) :
  ME X Θ (.Call (.Attribute o name apos) (e::es) [] cpos) (M.eM k f mo m):=(zKu pa slot hty hm ho ha hbase (zFu (by rw[List.all_cons,hs,hplain];rfl) hfew) hline (jS hs) (yl hplain)).imp fun σ H Q ⟨ρ,σ',S,st,rp,h⟩=>⟨ρ,σ',S,st,rp,zF.bind h fun ρ1 H1 x X1 S1 p1 l1 rp1 rx h1=>by
 cases ht:M.zBK k x S1 with
 | false=>rw[ht] at h1;exact h1.elim
 | true =>
  rw[ht] at h1
  exact⟨hT ▸ zHD rp1 rx ht,ρ1,σ',S1,st.mono p1 l1,rp1,zF.bind h1 fun ρ2 H2 xs Xs S2 p2 l2 rp2 rxs h2=>ad ρ2 H2 S2 x xs X1 Xs Q rp2 (rx.mono p2 l2) rxs h2⟩⟩
theorem Jv {k:M.Kd}{T:String}{f:M.D->M.F}{r:V->List V->Hp->VK->Prop}{o e:Expr}{es:List Expr}{mo:M.EM}{m:M.AM}{name:Str}{apos cpos:Pos}{id:String} (pa:PlainAttrs T) (slot:Slot T name id) (hty:typeOf (.builtin id)=pure (.type "method_descriptor")) (hm:MtR X id r) (ad:AdM X.K Θ f r) (hT:T=qb k) (ho:WE X Θ o mo) (ha:WA X Θ (e::es) m)
  (hbase:attributeBase o name X.env (eval o X.env)=eval o X.env:=by rfl)
  (hfew:(e::es).length < 30:=by exact Nat.le_of_ble_eq_true rfl) (hline:(apos.endLine == cpos.line)=true:=by rfl) (hs:ze e=true:=by rfl) (hplain:es.all ze=true:=by rfl) :
  WE X Θ (.Call (.Attribute o name apos) (e::es) [] cpos) (M.eM k f mo m):=by with_unfolding_all exact zPN (k:=k) (T:=T) (f:=f) (r:=r) (o:=o) (e:=e) (es:=es) (mo:=mo) (m:=m) (name:=name) (apos:=apos) (cpos:=cpos) (id:=id) pa slot hty hm ad hT ho ha hbase hfew hline hs hplain
theorem zOZ {k:M.Kd}{T:String}{f:M.D->M.F}{r:V->List V->Hp->VK->Prop}{o:Expr}{mo:M.EM}{name:Str}{apos cpos:Pos}{id:String} (pa:PlainAttrs T) (slot:Slot T name id) (hty:typeOf (.builtin id)=pure (.type "method_descriptor")) (hm:MtR X id r) (ad:AdM X.K Θ f r) (hT:T=qb k) (ho:ME X Θ o mo)
  (hbase:attributeBase o name X.env (eval o X.env)=eval o X.env:=by rfl) (hline:(apos.endLine == cpos.line)=true:=by rfl) :
  ME X Θ (.Call (.Attribute o name apos) [] [] cpos) (M.eM k f mo M.zI):=(zMw pa slot hty hm ho hbase hline).imp fun σ H Q ⟨ρ,σ',S,st,rp,h⟩=>⟨ρ,σ',S,st,rp,zF.bind h fun ρ1 H1 x X1 S1 p1 l1 rp1 rx h1=>by
 cases ht:M.zBK k x S1 with
 | false=>rw[ht] at h1;exact h1.elim
 | true =>
  rw[ht] at h1
  exact⟨hT ▸ zHD rp1 rx ht,ad ρ1 H1 S1 x [] X1 [] Q rp1 rx rfl h1⟩⟩
theorem zHE {k:M.Kd}{T:String}{f:M.D->M.F}{r:V->List V->Hp->VK->Prop}{o:Expr}{mo:M.EM}{name:Str}{apos cpos:Pos}{id:String} (pa:PlainAttrs T) (slot:Slot T name id) (hty:typeOf (.builtin id)=pure (.type "method_descriptor")) (hm:MtR X id r) (ad:AdM X.K Θ f r) (hT:T=qb k) (ho:WE X Θ o mo)
  (hbase:attributeBase o name X.env (eval o X.env)=eval o X.env:=by rfl) (hline:(apos.endLine == cpos.line)=true:=by rfl) :
  WE X Θ (.Call (.Attribute o name apos) [] [] cpos) (M.eM k f mo M.zI):=by with_unfolding_all exact zOZ (k:=k) (T:=T) (f:=f) (r:=r) (o:=o) (mo:=mo) (name:=name) (apos:=apos) (cpos:=cpos) (id:=id) pa slot hty hm ad hT ho hbase hline
end
end L2
namespace L2
open PySem PySem.Spec PyProof.Rows
noncomputable def zi (K:PySem.W.Frag) (Θ:Tab) (ρ:List Addr) (H:Hp):M.RS->QD->Prop
 | .nx σ1 S1,D=>∀ ρ' H' σ,ρ <+: ρ'->Le H H'->zW K Θ ρ' S1 H'->jI K ρ' H' σ1 σ->D.nx σ H'
 | .rt d S1,D=>∀ ρ' H' v,ρ <+: ρ'->Le H H'->zW K Θ ρ' S1 H'->zN K ρ' H' d v->D.rt v H'
 | .bk σ1 S1,D=>∀ ρ' H' σ,ρ <+: ρ'->Le H H'->zW K Θ ρ' S1 H'->jI K ρ' H' σ1 σ->D.bk σ H'
 | .ct σ1 S1,D=>∀ ρ' H' σ,ρ <+: ρ'->Le H H'->zW K Θ ρ' S1 H'->jI K ρ' H' σ1 σ->D.ct σ H'
 | .exc _ _ _,_=>False
 | .no,_=>False
noncomputable def RdS (K:PySem.W.Frag) (Θ:Tab) (m:M.SM):TS:=fun D σ H=>∃ ρ σ' S,jI K ρ H σ' σ/\zW K Θ ρ S H/\zi K Θ ρ H (m σ' S) D
noncomputable abbrev MS (X:Cx) (Θ:Tab) (st:Stmt) (m:M.SM):Prop:=PS X st (RdS X.K Θ m)
@[irreducible] noncomputable def WS (X:Cx) (Θ:Tab) (st:Stmt) (m:M.SM):Prop:=MS X Θ st m
noncomputable abbrev MSs (X:Cx) (Θ:Tab) (st:List Stmt) (m:M.SM):Prop:=PSs X st (RdS X.K Θ m)
@[irreducible] noncomputable def WSs (X:Cx) (Θ:Tab) (st:List Stmt) (m:M.SM):Prop:=MSs X Θ st m
theorem PS.imp {X:Cx}{e:Stmt}{t t':TS} (h:PS X e t) (i:∀ D σ H,t' D σ H->t D σ H):PS X e t':=fun pins s σ H D I q=>h pins s σ H D I (i D σ H q)
theorem PSs.imp {X:Cx}{e:List Stmt}{t t':TS} (h:PSs X e t) (i:∀ D σ H,t' D σ H->t D σ H):PSs X e t':=fun pins s σ H D I q=>h pins s σ H D I (i D σ H q)
section
variable {K:PySem.W.Frag}{Θ:Tab}{ρ ρ':List Addr}{H H':Hp}{S:M.S}{α β:Type}{Rl:List Addr->Hp->α->β->Prop}{Q:β->Hp->Prop}{D D':QD}
theorem zi.weak {r:M.RS} (h:zi K Θ ρ H r D) (hρ:ρ <+: ρ') (le:Le H H'):zi K Θ ρ' H' r D:=by
 cases r with
 | nx a s=>exact fun ρ2 H2 b p l=>h ρ2 H2 b (hρ.trans p) (le.trans l)
 | rt a s=>exact fun ρ2 H2 b p l=>h ρ2 H2 b (hρ.trans p) (le.trans l)
 | bk a s=>exact fun ρ2 H2 b p l=>h ρ2 H2 b (hρ.trans p) (le.trans l)
 | ct a s=>exact fun ρ2 H2 b p l=>h ρ2 H2 b (hρ.trans p) (le.trans l)
 | exc e a s=>exact h
 | no=>exact h
theorem zi.stm {r:M.R α}{σ:M.St}{f:α->M.S->M.RS} (h:zi K Θ ρ H (r.stm σ f) D)
  (k:∀ ρ' H' a b S',ρ <+: ρ'->Le H H'->zW K Θ ρ' S' H'->Rl ρ' H' a b->zi K Θ ρ' H' (f a S') D->Q b H'):zF K Θ Rl ρ H r Q:=by
 cases r with
 | ok a s=>exact fun ρ2 H2 b p l rp rl=>k ρ2 H2 a b s p l rp rl (zi.weak h p l)
 | exc e s=>exact h
 | no=>exact h
theorem zi.nx {σ1:M.St}{σ:St} (h:zi K Θ ρ H (.nx σ1 S) D) (rp:zW K Θ ρ S H) (st:jI K ρ H σ1 σ):D.nx σ H:=h ρ H σ (List.prefix_refl _) (Le.refl _) rp st
theorem zi.rt {d:M.D}{v:V} (h:zi K Θ ρ H (.rt d S) D) (rp:zW K Θ ρ S H) (r:zN K ρ H d v):D.rt v H:=h ρ H v (List.prefix_refl _) (Le.refl _) rp r
end
section
variable {X:Cx}{Θ:Tab}{e:Expr}{pos:Pos}{m:M.EM}{st:Stmt}{jY:List Stmt}{ms mr:M.SM}
theorem zL0:MSs X Θ [] M.ZB:=zLg.imp fun D σ H ⟨ρ,σ',S,st,rp,h⟩=>h.nx rp st
theorem qC:WSs X Θ [] M.ZB:=by with_unfolding_all exact zL0
theorem zK8 (h:MS X Θ st ms):MSs X Θ [st] ms:=zL2 h
theorem zJ (h:WS X Θ st ms):WSs X Θ [st] ms:=by with_unfolding_all exact zK8 h
theorem zJ9 (h1:MS X Θ st ms) (h2:MSs X Θ jY mr):MSs X Θ (st::jY) (M.zQ ms mr):=(zJ6 h1 h2).imp fun D σ H ⟨ρ,σ',S,st,rp,h⟩=>⟨ρ,σ',S,st,rp,by
 have h':zi X.K Θ ρ H ((ms σ' S).then mr) D:=h
 revert h'
 cases ms σ' S with
 | nx a s=>exact fun h' ρ2 H2 σ2 p l rp2 st2=>⟨ρ2,a,s,st2,rp2,zi.weak h' p l⟩
 | rt a s=>exact fun h'=>h'
 | bk a s=>exact fun h'=>h'
 | ct a s=>exact fun h'=>h'
 | exc e a s=>exact fun h'=>h'
 | no=>exact fun h'=>h'⟩
theorem zM (h1:WS X Θ st ms) (h2:WSs X Θ jY mr):WSs X Θ (st::jY) (M.zQ ms mr):=by with_unfolding_all exact zJ9 h1 h2
theorem zLK (he:ME X Θ e m) (hs:swapsWith e none pos.line X.env=pure false:=by rfl):MS X Θ (.Expr e pos) (M.jx m):=(zLv he hs).imp fun D σ H ⟨ρ,σ',S,st,rp,h⟩=>⟨ρ,σ',S,st,rp,zi.stm h fun ρ1 H1 x X1 S1 p1 l1 rp1 rx h1=>h1.nx rp1 (st.mono p1 l1)⟩
theorem jR (he:WE X Θ e m) (hs:swapsWith e none pos.line X.env=pure false:=by rfl):WS X Θ (.Expr e pos) (M.jx m):=by with_unfolding_all exact zLK he hs
theorem zMc (he:ME X Θ e m):MS X Θ (.Return (some e) pos) (M.j6 m):=(zNP he).imp fun D σ H ⟨ρ,σ',S,st,rp,h⟩=>⟨ρ,σ',S,st,rp,zi.stm h fun ρ1 H1 x X1 S1 p1 l1 rp1 rx h1=>h1.rt rp1 rx⟩
theorem jD (he:WE X Θ e m):WS X Θ (.Return (some e) pos) (M.j6 m):=by with_unfolding_all exact zMc he
theorem zMo {i:Nat}{x:Str}{pos':Pos} (hN:X.N.Nodup) (hi:X.N[i]? = some x) (hx:Loc X.env.scope x) (he:ME X Θ e m) (hs:swapsWith e (some (.Name x pos')) pos.line X.env=pure false:=by kernel_rfl) (hf:X.fn x=true\/X.env.scope.names.lookup x=some .local:=by first | exact .inl rfl | exact .inr rfl | assumption) :
  MS X Θ (.Assign [.Name x pos'] e pos) (M.zo i m):=(zN5 hN hi hx he hs hf).imp fun D σ H ⟨ρ,σ',S,st,rp,h⟩=>⟨ρ,σ',S,st,rp,zi.stm h fun ρ1 H1 x X1 S1 p1 l1 rp1 rx h1=>h1.nx rp1 ((st.mono p1 l1).set rx i)⟩
theorem zw {i:Nat}{x:Str}{pos':Pos} (hN:X.N.Nodup) (hi:X.N[i]? = some x) (hx:Loc X.env.scope x) (he:WE X Θ e m) (hs:swapsWith e (some (.Name x pos')) pos.line X.env=pure false:=by kernel_rfl) (hf:X.fn x=true\/X.env.scope.names.lookup x=some .local:=by first | exact .inl rfl | exact .inr rfl | assumption) :
  WS X Θ (.Assign [.Name x pos'] e pos) (M.zo i m):=by with_unfolding_all exact zMo (i:=i) (x:=x) (pos':=pos') hN hi hx he hs hf
theorem zOz {c:Expr}{a b:List Stmt}{tc:M.TM}{ma mb:M.SM} (hc:MT X Θ c tc) (ha:MSs X Θ a ma) (hb:MSs X Θ b mb):MS X Θ (.If c a b pos) (M.sIf tc ma mb):=(zOl hc ha hb).imp fun D σ H ⟨ρ,σ',S,st,rp,h⟩=>⟨ρ,σ',S,st,rp,zi.stm h fun ρ1 H1 k k' S1 p1 l1 rp1 ek h1=>by
 cases ek
 cases k with
 | true=>exact zEd ⟨ρ1,σ',S1,st.mono p1 l1,rp1,h1⟩
 | false=>exact zEM ⟨ρ1,σ',S1,st.mono p1 l1,rp1,h1⟩⟩
theorem jJ {c:Expr}{a b:List Stmt}{tc:M.TM}{ma mb:M.SM} (hc:WT X Θ c tc) (ha:WSs X Θ a ma) (hb:WSs X Θ b mb):WS X Θ (.If c a b pos) (M.sIf tc ma mb):=by with_unfolding_all exact zOz (c:=c) (a:=a) (b:=b) (tc:=tc) (ma:=ma) (mb:=mb) hc ha hb
theorem zJ2:MS X Θ st (fun _ _=>.no):=zKo.imp fun D σ H ⟨ρ,σ',S,st,rp,h⟩=>h.elim
end
noncomputable def RdG (K:PySem.W.Frag) (Θ:Tab) (js:List Nat) (g:M.GM):TG:=fun v σ H Q=>∃ ρ σ' S d,jI K ρ H σ' σ/\zW K Θ ρ S H/\zN K ρ H d v/\∃ σ1,g d σ'=some σ1 /\
 ∀ H' σ2,Le H H'->zW K Θ ρ S H'->jI K ρ H' σ1 σ2->σ2.length=σ.length->(∀ j,j∉js->σ2[j]? = σ[j]?)->Q σ2 H'
noncomputable abbrev MG (X:Cx) (Θ:Tab) (js:List Nat) (tg:Expr) (g:M.GM):Prop:=PG X tg (RdG X.K Θ js g)
@[irreducible] noncomputable def WG (X:Cx) (Θ:Tab) (js:List Nat) (tg:Expr) (g:M.GM):Prop:=MG X Θ js tg g
theorem PG.imp {X:Cx}{e:Expr}{t t':TG} (h:PG X e t) (i:∀ v σ H Q,t' v σ H Q->t v σ H Q):PG X e t':=fun pins s σ H v u Q I r q=>h pins s σ H v u Q I r (i v σ H Q q)
theorem zLV {X:Cx}{Θ:Tab}{pos:Pos}{i:Nat}{x:Str} (hN:X.N.Nodup) (hi:X.N[i]? = some x) (hx:Loc X.env.scope x) (hf:X.fn x=true\/X.env.scope.names.lookup x=some .local:=by first | exact .inl rfl | exact .inr rfl | assumption) :
  MG X Θ [i] (.Name x pos) (M.zq i):=(zLR hN hi hx hf).imp fun v σ H Q ⟨ρ,σ',S,d,st,rp,rv,σ1,e,h⟩=>by
 cases e
 exact h H _ (Le.refl _) rp (st.set rv i) (by rw[List.length_set]) fun j hj=>List.getElem?_set_ne (fun z=>hj (by rw[z];simp))
theorem qQ {X:Cx}{Θ:Tab}{pos:Pos}{i:Nat}{x:Str} (hN:X.N.Nodup) (hi:X.N[i]? = some x) (hx:Loc X.env.scope x) (hf:X.fn x=true\/X.env.scope.names.lookup x=some .local:=by first | exact .inl rfl | exact .inr rfl | assumption) :
  WG X Θ [i] (.Name x pos) (M.zq i):=by with_unfolding_all exact zLV (X:=X) (Θ:=Θ) (pos:=pos) (i:=i) (x:=x) hN hi hx hf
structure ItR (K:PySem.W.Frag) (Θ:Tab) (ρ:List Addr) (H:Hp) (J:It) (xs:List M.D) (g:M.Gd):Prop where
 go:∀ (i:Nat) ρ' S' H',ρ <+: ρ'->Le H H'->zW K Θ ρ' S' H'->M.zj g S'=true->i < xs.length->J.go i H'
 yld:∀ (i:Nat) ρ' S' H' v H2,ρ <+: ρ'->Le H H'->zW K Θ ρ' S' H'->M.zj g S'=true->i < xs.length->J.yld i H' v H2->∃ d,xs[i]? = some d/\zN K ρ' H2 d v/\Le H' H2/\zW K Θ ρ' S' H2
 stop:∀ ρ' S' H',ρ <+: ρ'->Le H H'->zW K Θ ρ' S' H'->M.zj g S'=true->J.stop xs.length H'
noncomputable def RdI (K:PySem.W.Frag) (Θ:Tab) (m:M.IM):TI:=fun σ H R=>∃ ρ σ' S,jI K ρ H σ' σ/\zW K Θ ρ S H /\
 zF K Θ (fun ρ' H' (p:List M.D×M.Gd) (J:It)=>ItR K Θ ρ' H' J p.1 p.2) ρ H ((m σ' S).bind fun p s=>if M.zj p.2 s then .ok p s else .no) R
noncomputable abbrev MI (X:Cx) (Θ:Tab) (tg iter:Expr) (m:M.IM):Prop:=PI X tg iter (RdI X.K Θ m)
@[irreducible] noncomputable def WI (X:Cx) (Θ:Tab) (tg iter:Expr) (m:M.IM):Prop:=MI X Θ tg iter m
theorem PI.imp {X:Cx}{tg e:Expr}{t t':TI} (h:PI X tg e t) (i:∀ σ H R,t' σ H R->t σ H R):PI X tg e t':=fun pins s σ H R I q=>h pins s σ H R I (i σ H R q)
theorem PI.or {X:Cx}{tg e:Expr}{t t':TI} (h:PI X tg e t) (h':PI X tg e t'):PI X tg e (fun σ H R=>t σ H R\/t' σ H R):=fun pins s σ H R I q=>by
 rcases q with q | q
 ·exact h pins s σ H R I q
 ·exact h' pins s σ H R I q
section
variable {X:Cx}{Θ:Tab}{tg e:Expr}{m:M.EM}
theorem zKL {K:PySem.W.Frag}{ρ:List Addr}{H:Hp}{i:Nat}{a:Addr}{ds:List M.D} (ha:ρ[i]? = some a):ItR K Θ ρ H (Itl K a) ds [(i,.lst ds)]:=by
 have key:∀ {ρ':List Addr}{S':M.S}{H':Hp},ρ <+: ρ'->zW K Θ ρ' S' H'->M.zj [(i,.lst ds)] S'=true->∃ zs,H' a=some (.lst zs)/\zO K ρ' H' ds zs:=fun {ρ' S' H'} p rp g=>by
  have g':S'[i]? = some (M.O.lst ds):=by simpa [M.zj] using g
  obtain⟨b,e1,zs,e2,r⟩:=rp.obj i _ g'
  rw[Q5 p ha] at e1;cases e1
  exact⟨zs,e2,r⟩
 refine⟨fun j ρ' S' H' p l rp g hj=>?_,fun j ρ' S' H' v H2 p l rp g hj y=>?_,fun ρ' S' H' p l rp g=>?_⟩
 ·obtain⟨zs,e,r⟩:=key p rp g
  obtain⟨v,e1,_⟩:=r.get (i:=j) (d:=ds[j]) (by simp[hj])
  exact⟨zs,v,SqL.of e,e1⟩
 ·obtain⟨zs,e,r⟩:=key p rp g
  obtain⟨v',e1,rv⟩:=r.get (i:=j) (d:=ds[j]) (by simp[hj])
  obtain⟨rfl,y2⟩:=y
  have y3:=y2 zs (SqL.of e)
  rw[e1] at y3;cases y3
  exact⟨ds[j],by simp[hj],rv,Le.refl _,rp⟩
 ·obtain⟨zs,e,r⟩:=key p rp g
  exact⟨zs,SqL.of e,Nat.le_of_eq r.length.symm⟩
theorem zNE {K:PySem.W.Frag}{ρ:List Addr}{H:Hp}{a:Addr}{ds:List M.D}{xs:List V} (hq:JW K H a xs) (r:zO K ρ H ds xs):ItR K Θ ρ H (Itl K a) ds []:=by
 refine⟨fun j ρ' S' H' p l rp g hj=>?_,fun j ρ' S' H' v H2 p l rp g hj y=>?_,fun ρ' S' H' p l rp g=>?_⟩
 ·obtain⟨v,e1,_⟩:=r.get (i:=j) (d:=ds[j]) (by simp[hj])
  exact⟨xs,v,(l.rol hq).sq,e1⟩
 ·obtain⟨v',e1,rv⟩:=(r.mono p l).get (i:=j) (d:=ds[j]) (by simp[hj])
  obtain⟨rfl,y2⟩:=y
  have y3:=y2 xs (l.rol hq).sq
  rw[e1] at y3;cases y3
  exact⟨ds[j],by simp[hj],rv,Le.refl _,rp⟩
 ·exact⟨xs,(l.rol hq).sq,Nat.le_of_eq r.length.symm⟩
theorem zLb {K:PySem.W.Frag}{ρ:List Addr}{H:Hp}{a:Addr}{ds:List M.D}{xs:List V} (hq:SqT K H a xs) (r:zO K ρ H ds xs):ItR K Θ ρ H (Itt K a) ds []:=by
 refine⟨fun j ρ' S' H' p l rp g hj=>?_,fun j ρ' S' H' v H2 p l rp g hj y=>?_,fun ρ' S' H' p l rp g=>?_⟩
 ·obtain⟨v,e1,_⟩:=r.get (i:=j) (d:=ds[j]) (by simp[hj])
  exact⟨xs,v,l.sqT hq,e1⟩
 ·obtain⟨v',e1,rv⟩:=(r.mono p l).get (i:=j) (d:=ds[j]) (by simp[hj])
  obtain⟨rfl,y2⟩:=y
  have y3:=y2 xs (l.sqT hq)
  rw[e1] at y3;cases y3
  exact⟨ds[j],by simp[hj],rv,Le.refl _,rp⟩
 ·exact⟨xs,l.sqT hq,Nat.le_of_eq r.length.symm⟩
theorem zK3 {K:PySem.W.Frag}{ρ:List Addr}{H:Hp}{x:M.T} (ok:okT x):ItR K Θ ρ H (Its (ofT x)) (x.map fun c=>.str [c]) []:=by
 refine⟨fun j ρ' S' H' p l rp g hj=>?_,fun j ρ' S' H' v H2 p l rp g hj y=>?_,fun ρ' S' H' p l rp g=>?_⟩
 ·rw[List.length_map] at hj
  show j < (ofT x).length
  rw[jw];exact hj
 ·obtain⟨rfl,c,hc,rfl⟩:=y
  have hc':x[j]? = some c:=by simpa [ofT] using hc
  exact⟨.str [c],by rw[List.getElem?_map,hc'];rfl,⟨rfl,zCj ok fun d hd=>by rw[List.mem_singleton.mp hd];exact List.mem_of_getElem? hc'⟩,Le.refl _,rp⟩
 ·show (ofT x).length <= _
  rw[jw,List.length_map];exact Nat.le_refl _
theorem zJH {K:PySem.W.Frag}{ρ:List Addr}{H:Hp}{lo hi:Int}:ItR K Θ ρ H (Itr lo (hi - lo).toNat) (M.jp lo hi) []:=by
 refine⟨fun j ρ' S' H' p l rp g hj=>?_,fun j ρ' S' H' v H2 p l rp g hj y=>?_,fun ρ' S' H' p l rp g=>?_⟩
 ·show j < _
  simpa [M.jp] using hj
 ·obtain⟨rfl,rfl⟩:=y
  have hj':j < (hi - lo).toNat:=by simpa [M.jp] using hj
  exact⟨.int (lo+j),by unfold M.jp;rw[List.getElem?_map,List.getElem?_range hj'];rfl,rfl,Le.refl _,rp⟩
 ·show _ <= _
  simp[M.jp]
theorem zPB (he:ME X Θ e m):MI X Θ tg e (M.iE m):=(PI.or (zL5 he) (PI.or (zMu he) (zNw he))).imp fun σ H R ⟨ρ,σ',S,st,rp,h⟩=>by
 have h':zF X.K Θ _ ρ H (((m σ' S).bind M.itD).bind fun p s=>if M.zj p.2 s then .ok p s else .no) R:=h
 clear h
 cases hm:m σ' S with
 | no=>rw[hm] at h';exact h'.elim
 | exc a s=>rw[hm] at h';exact h'.elim
 | ok d S1 =>
  rw[hm] at h'
  have go:∀ {Q:VK},(∀ ρ1 H1 v,ρ <+: ρ1->Le H H1->zW X.K Θ ρ1 S1 H1->zN X.K ρ1 H1 d v->Q v H1)->RdE X.K Θ m σ H Q:=fun q=>⟨ρ,σ',S,st,rp,by rw[hm];exact q⟩
  cases d with
  | str x =>
   refine .inr (.inr (go fun ρ1 H1 v p l rp1 rv=>?_))
   have h2:zF X.K Θ _ ρ H ((if x.length <= M.SZ then .ok (x.map fun c=>M.D.str [c],[]) S1 else M.R.no).bind fun p s=>if M.zj p.2 s then .ok p s else .no) R:=h'
   by_cases hl:x.length <= M.SZ
   ·rw[if_pos hl] at h2
    exact⟨ofT x,rv.1,h2 ρ1 H1 _ p l rp1 (zK3 rv.2)⟩
   ·rw[if_neg hl] at h2
    exact h2.elim
  | tup ds =>
   refine .inr (.inl (go fun ρ1 H1 v p l rp1 rv=>?_))
   obtain⟨a,xs,rfl,hq,r⟩:=rv
   exact⟨a,rfl,⟨xs,hq⟩,h' ρ1 H1 _ p l rp1 (zLb hq r)⟩
  | ro ds =>
   refine .inl (go fun ρ1 H1 v p l rp1 rv=>?_)
   obtain⟨a,xs,rfl,hq,r⟩:=rv
   exact⟨a,rfl,⟨xs,hq.sq⟩,h' ρ1 H1 _ p l rp1 (zNE hq r)⟩
  | ref i =>
   have h2:zF X.K Θ _ ρ H ((match S1[i]? with
    | some (.lst xs)=>M.R.ok (xs,[(i,M.O.lst xs)]) S1
    | _=>.no).bind fun p s=>if M.zj p.2 s then .ok p s else .no) R:=h'
   cases q:S1[i]? with
   | none=>rw[q] at h2;exact h2.elim
   | some o =>
    rw[q] at h2
    cases o with
    | lst xs =>
     refine .inl (go fun ρ1 H1 v p l rp1 rv=>?_)
     obtain⟨a,rfl,e1⟩:=rv
     obtain⟨b,e2,zs,e3,r⟩:=rp1.obj i _ q
     rw[e1] at e2;cases e2
     have hg:M.zj [(i,M.O.lst xs)] S1=true:=by simp[M.zj,q]
     have h3:zF X.K Θ _ ρ H (if M.zj [(i,M.O.lst xs)] S1 then M.R.ok (xs,[(i,M.O.lst xs)]) S1 else .no) R:=h2
     rw[if_pos hg] at h3
     exact⟨a,rfl,⟨zs,SqL.of e3⟩,h3 ρ1 H1 _ p l rp1 (zKL e1)⟩
    | dct kvs=>exact h2.elim
    | fdc _=>exact h2.elim
    | ins c fs=>exact h2.elim
  | non=>exact h'.elim
  | bl b=>exact h'.elim
  | int b=>exact h'.elim
  | ty b=>exact h'.elim
theorem zGL (he:WE X Θ e m):WI X Θ tg e (M.iE m):=by with_unfolding_all exact zPB he
theorem zH8 {p pos:Pos} (hg:Gl X "range") (hm:X.mg "range" = none) (he:ME X Θ e m) (hs:ze e=true:=by rfl):MI X Θ tg (.Call (.Name "range" p) [e] [] pos) (M.jl m) :=
 (zIg hg hm (zCa he zDR hs) (jS hs)).imp fun σ H R ⟨ρ,σ',S,st,rp,h⟩=>⟨ρ,σ',S,st,rp,by
  have h':zF X.K Θ _ ρ H (((m σ' S).bind fun x s=>match x with
   | .int j=>if j.natAbs < 4611686018427387904 then M.R.ok (M.jp 0 j,([]:M.Gd)) s else .no
   | _=>.no).bind fun p s=>if M.zj p.2 s then .ok p s else .no) R:=h
  show zF X.K Θ _ ρ H ((m σ' S).bind fun x s=>(M.R.ok [] s).bind fun xs s=>.ok (x::xs) s) _
  cases hm:m σ' S with
  | no=>rw[hm] at h';exact h'.elim
  | exc a s=>rw[hm] at h';exact h'.elim
  | ok d S1 =>
   rw[hm] at h'
   intro ρ1 H1 vs p l rp1 rv
   obtain⟨v,ys,rfl,rv,hy⟩:=rv
   cases hy
   cases d with
   | int j =>
    cases rv
    have h2:zF X.K Θ _ ρ H ((if j.natAbs < 4611686018427387904 then M.R.ok (M.jp 0 j,([]:M.Gd)) S1 else .no).bind fun p s=>if M.zj p.2 s then .ok p s else .no) R:=h'
    by_cases hj:j.natAbs < 4611686018427387904
    ·rw[if_pos hj] at h2
     refine⟨j,rfl,by omega,by omega,?_⟩
     have:=h2 ρ1 H1 _ p l rp1 (zJH (lo:=0) (hi:=j))
     rw[Int.sub_zero] at this
     exact this
    ·rw[if_neg hj] at h2
     exact h2.elim
   | _=>exact h'.elim⟩
theorem ZC {p pos:Pos} (hg:Gl X "range") (hm:X.mg "range" = none) (he:WE X Θ e m) (hs:ze e=true:=by rfl):WI X Θ tg (.Call (.Name "range" p) [e] [] pos) (M.jl m):=by with_unfolding_all exact zH8 (p:=p) (pos:=pos) hg hm he hs
end
section
variable {X:Cx}{Θ:Tab}{pos:Pos}
theorem zJu {c:Expr}{body:List Stmt}{tc:M.TM}{mb:M.SM} (hp:PassesOwn (model X.prog X.w) X.A X.env X.xe) (hc:MT X Θ c tc) (hb:MSs X Θ body mb):MS X Θ (.While c body [] pos) (M.zDc tc mb) :=
 (zKB hp hc hb).imp fun D σ H ⟨ρ,σ',S,st,rp,h⟩=>by
  refine⟨fun k σ2 H2=>∃ ρ2 σ2' S2,jI X.K ρ2 H2 σ2' σ2/\zW X.K Θ ρ2 S2 H2/\zi X.K Θ ρ2 H2 (M.qM k tc mb σ2' S2) D,⟨M.zGb,ρ,σ',S,st,rp,h⟩,?_⟩
  rintro k σ2 H2 ⟨ρ2,σ2',S2,st2,rp2,h2⟩
  cases k with
  | zero=>exact h2.elim
  | succ k =>
   refine⟨ρ2,σ2',S2,st2,rp2,zi.stm h2 fun ρ3 H3 b b' S3 p3 l3 rp3 eb h3=>?_⟩
   cases eb
   cases b with
   | false=>exact zEM (zi.nx (σ:=σ2) h3 rp3 (st2.mono p3 l3))
   | true =>
    refine zEd ⟨fun σ4 H4=>∃ ρ4 σ4' S4,jI X.K ρ4 H4 σ4' σ4/\zW X.K Θ ρ4 S4 H4/\zi X.K Θ ρ4 H4 (M.qM k tc mb σ4' S4) D,fun σ4 H4 q=>⟨k,Nat.lt_succ_self k,q⟩,ρ3,σ2',S3,st2.mono p3 l3,rp3,?_⟩
    have h4:zi X.K Θ ρ3 H3 (match mb σ2' S3 with
     | .nx σ s=>M.qM k tc mb σ s
     | .ct σ s=>M.qM k tc mb σ s
     | .bk σ s=>.nx σ s
     | r=>r) D:=h3
    revert h4
    cases mb σ2' S3 with
    | nx a s=>exact fun h4 ρ4 H4 σ4 p4 l4 rp4 st4=>⟨ρ4,a,s,st4,rp4,zi.weak h4 p4 l4⟩
    | ct a s=>exact fun h4 ρ4 H4 σ4 p4 l4 rp4 st4=>⟨ρ4,a,s,st4,rp4,zi.weak h4 p4 l4⟩
    | bk a s=>exact fun h4=>h4
    | rt a s=>exact fun h4=>h4
    | exc e a s=>exact fun h4=>h4
    | no=>exact fun h4=>h4
theorem zHi {c:Expr}{body:List Stmt}{tc:M.TM}{mb:M.SM} (hp:PassesOwn (model X.prog X.w) X.A X.env X.xe) (hc:WT X Θ c tc) (hb:WSs X Θ body mb):WS X Θ (.While c body [] pos) (M.zDc tc mb):=by with_unfolding_all exact zJu (c:=c) (body:=body) (tc:=tc) (mb:=mb) hp hc hb
theorem zOT {K:PySem.W.Frag}{g:M.GM}{js:List Nat}{mb:M.SM}{xs:List M.D}{gd:M.Gd}{J:It}{ρ1:List Addr}{H1:Hp}{σ:St}{σ':M.St}{S1:M.S}{D:QD} (itr:ItR K Θ ρ1 H1 J xs gd) (st:jI K ρ1 H1 σ' σ) (rp1:zW K Θ ρ1 S1 H1) (hgd:M.zj gd S1=true) (h2:zi K Θ ρ1 H1 (M.yR gd (M.ym g mb) xs σ' S1) D) :
  ∃ W:Nat->Nat->St->Hp->Prop,(∃ m,W 0 m σ H1)/\∀ i m σ H,W i m σ H ->
   (J.stop i H/\D.nx σ H)\/(J.go i H/\∃ N:St->Hp->Prop,(∀ σ' H',N σ' H'->∃ m',m' < m/\W (i+1) m' σ' H')/\∀ x H',J.yld i H x H'->RdG K Θ js g x σ H' fun σ2 H2=>RdS K Θ mb { D with nx:=N,ct:=N,bk:=D.nx } σ2 H2):=by
 refine⟨fun i k σ2 H2=>∃ ρ2 σ2' S2,ρ1 <+: ρ2/\Le H1 H2/\jI K ρ2 H2 σ2' σ2/\zW K Θ ρ2 S2 H2/\M.zj gd S2=true/\k=xs.length - i/\i <= xs.length/\zi K Θ ρ2 H2 (M.yR gd (M.ym g mb) (xs.drop i) σ2' S2) D,
  ⟨xs.length,ρ1,σ',S1,List.prefix_refl _,Le.refl _,st,rp1,hgd,rfl,Nat.zero_le _,h2⟩,?_⟩
 rintro i k σ2 H2 ⟨ρ2,σ2',S2,p2,l2,st2,rp2,g2,rfl,hi2,h3⟩
 by_cases hlt:i < xs.length
 ·refine .inr ⟨itr.go i ρ2 S2 H2 p2 l2 rp2 g2 hlt,fun σ3 H3=>∃ ρ3 σ3' S3,ρ1 <+: ρ3/\Le H1 H3/\jI K ρ3 H3 σ3' σ3/\zW K Θ ρ3 S3 H3/\M.zj gd S3=true/\zi K Θ ρ3 H3 (M.yR gd (M.ym g mb) (xs.drop (i+1)) σ3' S3) D,
   fun σ3 H3 ⟨ρ3,σ3',S3,a1,a2,a3,a4,a5,a6⟩=>⟨xs.length - (i+1),by omega,ρ3,σ3',S3,a1,a2,a3,a4,a5,rfl,hlt,a6⟩,fun x H' y=>?_⟩
  obtain⟨d,ed,rd,ld,rpd⟩:=itr.yld i ρ2 S2 H2 x H' p2 l2 rp2 g2 hlt y
  have edr:xs.drop i=d::xs.drop (i+1):=by
   obtain⟨_,e⟩:=List.getElem?_eq_some_iff.mp ed
   rw[List.drop_eq_getElem_cons hlt,e]
  rw[edr] at h3
  have h4:zi K Θ ρ2 H2 (match (match g d σ2' with | some σ'=>mb σ' S2 | none=>M.RS.no) with
   | .nx σ s=>if M.zj gd s then M.yR gd (M.ym g mb) (xs.drop (i+1)) σ s else .no
   | .ct σ s=>if M.zj gd s then M.yR gd (M.ym g mb) (xs.drop (i+1)) σ s else .no
   | .bk σ s=>.nx σ s
   | r=>r) D:=h3
  cases hgq:g d σ2' with
  | none=>rw[hgq] at h4;exact h4.elim
  | some σ1 =>
   rw[hgq] at h4
   refine⟨ρ2,σ2',S2,d,st2.mono (List.prefix_refl _) ld,rpd,rd,σ1,hgq,fun H'' σ3 le3 rp3 st3 _ _=>⟨ρ2,σ1,S2,st3,rp3,?_⟩⟩
   have h5:=zi.weak h4 (List.prefix_refl _) (ld.trans le3)
   have h6:zi K Θ ρ2 H'' (match mb σ1 S2 with
    | .nx σ s=>if M.zj gd s then M.yR gd (M.ym g mb) (xs.drop (i+1)) σ s else .no
    | .ct σ s=>if M.zj gd s then M.yR gd (M.ym g mb) (xs.drop (i+1)) σ s else .no
    | .bk σ s=>.nx σ s
    | r=>r) D:=h5
   have more:∀ (a:M.St) (s:M.S),zi K Θ ρ2 H'' (if M.zj gd s then M.yR gd (M.ym g mb) (xs.drop (i+1)) a s else .no) D->∀ ρ4 H4 σ4,ρ2 <+: ρ4->Le H'' H4->zW K Θ ρ4 s H4->jI K ρ4 H4 a σ4 ->
     ∃ ρ3 σ3' S3,ρ1 <+: ρ3/\Le H1 H4/\jI K ρ3 H4 σ3' σ4/\zW K Θ ρ3 S3 H4/\M.zj gd S3=true/\zi K Θ ρ3 H4 (M.yR gd (M.ym g mb) (xs.drop (i+1)) σ3' S3) D:=fun a s h7 ρ4 H4 σ4 p4 l4 rp4 st4=>by
    by_cases hs:M.zj gd s=true
    ·rw[if_pos hs] at h7
     exact⟨ρ4,a,s,p2.trans p4,l2.trans (ld.trans (le3.trans l4)),st4,rp4,hs,zi.weak h7 p4 l4⟩
    ·rw[if_neg hs] at h7;exact h7.elim
   revert h6
   cases mb σ1 S2 with
   | nx a s=>exact fun h6=>more a s h6
   | ct a s=>exact fun h6=>more a s h6
   | bk a s=>exact fun h6=>h6
   | rt a s=>exact fun h6=>h6
   | exc e a s=>exact fun h6=>h6
   | no=>exact fun h6=>h6
 ·have e:i=xs.length:=by omega
  subst e
  rw[List.drop_length] at h3
  exact .inl ⟨itr.stop ρ2 S2 H2 p2 l2 rp2 g2,zi.nx (σ:=σ2) h3 rp2 st2⟩
theorem zMN {tg iter:Expr}{body:List Stmt}{it:M.IM}{g:M.GM}{js:List Nat}{mb:M.SM} (hp:PassesOwn (model X.prog X.w) X.A X.env X.xe) (hc:X.calm=true) (hi:MI X Θ tg iter it) (hg:MG X Θ js tg g) (hb:MSs X Θ body mb)
  (hs:∀ x,foldedSetIterable iter X.env x=pure x:=by intro _;rfl):MS X Θ (.For tg iter body [] pos) (M.Zn it g mb) :=
 (zNc hp hc hi hg hb hs).imp fun D σ H ⟨ρ,σ',S,st,rp,h⟩=>⟨ρ,σ',S,st,rp,by
  have h':zi X.K Θ ρ H ((it σ' S).stm σ' fun p s=>if M.zj p.2 s=true then M.yR p.2 (M.ym g mb) p.1 σ' s else .no) D:=h
  cases hit:it σ' S with
  | no=>rw[hit] at h';exact h'.elim
  | exc a s=>rw[hit] at h';exact h'.elim
  | ok p S1 =>
   rw[hit] at h'
   obtain⟨xs,gd⟩:=p
   show zF X.K Θ _ ρ H (if M.zj gd S1 then M.R.ok (xs,gd) S1 else .no) _
   have h2:zi X.K Θ ρ H (if M.zj gd S1=true then M.yR gd (M.ym g mb) xs σ' S1 else .no) D:=h'
   by_cases hgd:M.zj gd S1=true
   case neg=>rw[if_neg hgd] at h2;exact h2.elim
   rw[if_pos hgd] at h2
   rw[if_pos hgd]
   intro ρ1 H1 J p1 l1 rp1 (itr:ItR X.K Θ ρ1 H1 J xs gd)
   exact zOT itr (st.mono p1 l1) rp1 hgd (zi.weak h2 p1 l1)⟩
theorem J6 {tg iter:Expr}{body:List Stmt}{it:M.IM}{g:M.GM}{js:List Nat}{mb:M.SM} (hp:PassesOwn (model X.prog X.w) X.A X.env X.xe) (hc:X.calm=true) (hi:WI X Θ tg iter it) (hg:WG X Θ js tg g) (hb:WSs X Θ body mb)
  (hs:∀ x,foldedSetIterable iter X.env x=pure x:=by intro _;rfl):WS X Θ (.For tg iter body [] pos) (M.Zn it g mb):=by with_unfolding_all exact zMN (tg:=tg) (iter:=iter) (body:=body) (it:=it) (g:=g) (js:=js) (mb:=mb) hp hc hi hg hb hs
theorem zMp {K:PySem.W.Frag}{n:Nat}{it:M.IM}{g:M.GM}{js:List Nat}{tc:M.TM}{me:M.EM}{σ:St}{σ':M.St}{S:M.S}{ρ:List Addr}{H:Hp}{R:List V->Hp->Prop} (st:jI K ρ H σ' σ) (rp:zW K Θ ρ S H) (hj:∀ j∈js,σ.length <= j)
  (h:zF K Θ (zO K) ρ H (M.qY n it g tc me σ' S) R) :
  RdI K Θ it σ H fun J H1=>∃ W:Nat->Nat->List V->Hp->Prop,(∃ m,W 0 m [] H1)/\∀ i m ys H2,W i m ys H2->ys.length <= sizeLine /\
   ((J.stop i H2/\R ys H2) \/
    (J.go i H2/\∀ x H3,J.yld i H2 x H3->RdG K Θ js g x (σ++List.replicate n none) H3 fun σ2 H4=>Wk (σ++List.replicate n none) σ2/\RdT K Θ tc σ2 H4 fun b H5 =>
     if b=true then RdE K Θ me σ2 H5 fun y H6=>∃ m',m' < m/\W (i+1) m' (ys++[y]) H6 else ∃ m',m' < m/\W (i+1) m' ys H5)):=by
 refine⟨ρ,σ',S,st,rp,?_⟩
 have h':zF K Θ (zO K) ρ H ((it σ' S).bind fun p s=>if p.1.length <= M.SZ/\M.zj p.2 s=true then M.yq p.2 (M.qm n g tc me σ') p.1 s else .no) R:=h
 cases hit:it σ' S with
 | no=>rw[hit] at h';exact h'.elim
 | exc a s=>rw[hit] at h';exact h'.elim
 | ok p S1 =>
  rw[hit] at h'
  obtain⟨xs,gd⟩:=p
  show zF K Θ _ ρ H (if M.zj gd S1 then M.R.ok (xs,gd) S1 else .no) _
  have h2:zF K Θ (zO K) ρ H (if xs.length <= M.SZ/\M.zj gd S1=true then M.yq gd (M.qm n g tc me σ') xs S1 else .no) R:=h'
  by_cases hgd:xs.length <= M.SZ/\M.zj gd S1=true
  case neg=>rw[if_neg hgd] at h2;exact h2.elim
  rw[if_pos hgd] at h2
  rw[if_pos hgd.2]
  intro ρ1 H1 J p1 l1 rp1 (itr:ItR K Θ ρ1 H1 J xs gd)
  refine⟨fun i k ys H2=>∃ ρ2 S2 ds,ρ1 <+: ρ2/\Le H1 H2/\zW K Θ ρ2 S2 H2/\M.zj gd S2=true/\zO K ρ2 H2 ds ys/\ds.length <= i/\k=xs.length - i/\i <= xs.length/\zF K Θ (zO K) ρ2 H2 ((M.yq gd (M.qm n g tc me σ') (xs.drop i) S2).bind fun es s=>.ok (ds++es) s) R,
   ⟨xs.length,ρ1,S1,[],List.prefix_refl _,Le.refl _,rp1,hgd.2,rfl,Nat.le_refl _,rfl,Nat.zero_le _,?_⟩,?_⟩
  ·have h3:=zF.weak h2 p1 l1
   revert h3
   show zF K Θ (zO K) ρ1 H1 (M.yq gd (M.qm n g tc me σ') xs S1) R->_
   rw[List.drop_zero]
   cases M.yq gd (M.qm n g tc me σ') xs S1 with
   | ok a s=>exact fun h3=>h3
   | exc e s=>exact fun h3=>h3
   | no=>exact fun h3=>h3
  rintro i k ys H2 ⟨ρ2,S2,ds,p2,l2,rp2,g2,rds,hdl,rfl,hi2,h3⟩
  refine⟨by rw[<- rds.length,<- Z9];omega,?_⟩
  by_cases hlt:i < xs.length
  ·refine .inr ⟨itr.go i ρ2 S2 H2 p2 l2 rp2 g2 hlt,fun x H3 y=>?_⟩
   obtain⟨d,ed,rd,ld,rpd⟩:=itr.yld i ρ2 S2 H2 x H3 p2 l2 rp2 g2 hlt y
   have edr:xs.drop i=d::xs.drop (i+1):=by
    obtain⟨_,e⟩:=List.getElem?_eq_some_iff.mp ed
    rw[List.drop_eq_getElem_cons hlt,e]
   rw[edr] at h3
   have h4:zF K Θ (zO K) ρ2 H2 (((match g d (σ'++List.replicate n none) with
     | none=>M.R.no
     | some σ1=>(tc σ1 S2).bind fun b s=>if b then (me σ1 s).bind fun d s=>.ok (some d) s else .ok none s).bind fun o s =>
      if M.zj gd s then (M.yq gd (M.qm n g tc me σ') (xs.drop (i+1)) s).bind fun ys s=>.ok (match o with | some y=>y::ys | none=>ys) s else .no).bind fun es s=>.ok (ds++es) s) R:=h3
   cases hgq:g d (σ'++List.replicate n none) with
   | none=>rw[hgq] at h4;exact h4.elim
   | some σ1 =>
    rw[hgq] at h4
    refine⟨ρ2,σ'++List.replicate n none,S2,d,((st.mono (p1.trans p2) (l1.trans (l2.trans ld))).more n),rpd,rd,σ1,hgq,fun H4 σ2 le4 rp4 st4 hl4 hj4=>⟨⟨hl4.symm,fun j v e=>?_⟩,ρ2,σ1,S2,st4,rp4,?_⟩⟩
    ·by_cases hjj:j∈js
     ·rw[List.getElem?_append_right (hj j hjj),List.getElem?_replicate] at e
      split at e<;>cases e
     ·rw[hj4 j hjj];exact e
    ·have h5:=zF.weak h4 (List.prefix_refl _) (ld.trans le4)
     dsimp only at h5
     cases htc:tc σ1 S2 with
     | no=>rw[htc] at h5;exact h5.elim
     | exc a s=>rw[htc] at h5;exact h5.elim
     | ok b S3 =>
      rw[htc] at h5
      intro ρ5 H5 b' p5 l5 rp5 eb
      cases eb
      have next:∀ (o:Option M.D) (s:M.S) (ρ6:List Addr) (H6:Hp) (zs:List V),ρ2 <+: ρ6->Le H4 H6->zW K Θ ρ6 s H6->zO K ρ6 H6 (match o with | some y=>ds++[y] | none=>ds) zs ->
        zF K Θ (zO K) ρ6 H6 ((if M.zj gd s then (M.yq gd (M.qm n g tc me σ') (xs.drop (i+1)) s).bind fun ys s=>.ok (match o with | some y=>y::ys | none=>ys) s else .no).bind fun es s=>.ok (ds++es) s) R ->
        ∃ m',m' < xs.length - i/\∃ ρ2 S2 es,ρ1 <+: ρ2/\Le H1 H6/\zW K Θ ρ2 S2 H6/\M.zj gd S2=true/\zO K ρ2 H6 es zs/\es.length <= i+1/\m'=xs.length - (i+1)/\i+1 <= xs.length /\
         zF K Θ (zO K) ρ2 H6 ((M.yq gd (M.qm n g tc me σ') (xs.drop (i+1)) S2).bind fun fs s=>.ok (es++fs) s) R:=fun o s ρ6 H6 zs p6 l6 rp6 rz h6=>by
       by_cases hs:M.zj gd s=true
       case neg=>rw[if_neg hs] at h6;exact h6.elim
       rw[if_pos hs] at h6
       refine⟨xs.length - (i+1),by omega,ρ6,s,_,p2.trans p6,l2.trans (ld.trans (le4.trans l6)),rp6,hs,rz,?_,rfl,hlt,?_⟩
       ·cases o<;>simp<;>omega
       ·revert h6
        cases M.yq gd (M.qm n g tc me σ') (xs.drop (i+1)) s with
        | ok a s2 =>
         intro h6
         cases o with
         | none=>exact h6
         | some y =>
          show zF K Θ (zO K) ρ6 H6 (.ok (ds++[y]++a) s2) R
          rw[List.append_assoc]
          exact h6
        | exc e s=>exact fun h6=>h6
        | no=>exact fun h6=>h6
      cases b with
      | false=>exact zEM (next none S3 ρ5 H5 ys p5 l5 rp5 (rds.mono p5 (ld.trans (le4.trans l5))) (zF.weak h5 p5 l5))
      | true =>
       refine zEd ⟨ρ5,σ1,S3,st4.mono p5 l5,rp5,?_⟩
       have h6:=zF.weak h5 p5 l5
       cases hme:me σ1 S3 with
       | no =>
        have h7:zF K Θ (zO K) ρ5 H5 ((((me σ1 S3).bind fun d s=>M.R.ok (some d) s).bind fun o s=>if M.zj gd s then (M.yq gd (M.qm n g tc me σ') (xs.drop (i+1)) s).bind fun ys s=>.ok (match o with | some y=>y::ys | none=>ys) s else .no).bind fun es s=>.ok (ds++es) s) R:=h6
        rw[hme] at h7;exact h7.elim
       | exc a s =>
        have h7:zF K Θ (zO K) ρ5 H5 ((((me σ1 S3).bind fun d s=>M.R.ok (some d) s).bind fun o s=>if M.zj gd s then (M.yq gd (M.qm n g tc me σ') (xs.drop (i+1)) s).bind fun ys s=>.ok (match o with | some y=>y::ys | none=>ys) s else .no).bind fun es s=>.ok (ds++es) s) R:=h6
        rw[hme] at h7;exact h7.elim
       | ok y S6 =>
        have h7:zF K Θ (zO K) ρ5 H5 ((((me σ1 S3).bind fun d s=>M.R.ok (some d) s).bind fun o s=>if M.zj gd s then (M.yq gd (M.qm n g tc me σ') (xs.drop (i+1)) s).bind fun ys s=>.ok (match o with | some y=>y::ys | none=>ys) s else .no).bind fun es s=>.ok (ds++es) s) R:=h6
        rw[hme] at h7
        intro ρ6 H6 v p6 l6 rp6 rv
        exact next (some y) S6 ρ6 H6 (ys++[v]) (p5.trans p6) (l5.trans l6) rp6 ((rds.mono (p5.trans p6) (ld.trans (le4.trans (l5.trans l6)))).app ⟨v,[],rfl,rv,rfl⟩) (zF.weak h7 p6 l6)
  ·have e:i=xs.length:=by omega
   subst e
   rw[List.drop_length] at h3
   refine .inl ⟨itr.stop ρ2 S2 H2 p2 l2 rp2 g2,?_⟩
   have h4:zF K Θ (zO K) ρ2 H2 (.ok (ds++[]) S2) R:=h3
   rw[List.append_nil] at h4
   exact h4.here rp2 rds
end
end L2
namespace L2
open PySem PySem.Spec PyProof.Rows
section
variable {X:Cx}{Θ:Tab}{pos:Pos}{vars:List Str}{scope:Scope}{cl:List (Str×Addr)}{tg elt iter:Expr}{ifs:List Expr}{it:M.IM}{g:M.GM}{js:List Nat}{tc:M.TM}{me:M.EM}
theorem zCo {pins:List (Addr×Obj)}{s:Shared}{σ:St}{H:Hp} (I:Inv X pins σ H s) (hj:∀ j∈js,X.N.length <= j) {ρ:List Addr}{σ':M.St}{S:M.S} (st:jI X.K ρ H σ' σ) (rp:zW X.K Θ ρ S H) {Q:VK}{n:Nat}
  (h:zF X.K Θ (zO X.K) ρ H (M.qY n it g tc me σ' S) fun ys H2=>∀ D,H2 D=none->Q (.ref D) (upd H2 D (.lst ys))) :
  zFX n (RdI X.K Θ it) (RdG X.K Θ js g) (RdT X.K Θ tc) (RdE X.K Θ me) σ H Q:=zMp st rp (fun j hjj=>by rw[I.len];exact hj j hjj) h
theorem zLQ (hc:X.calm=true) (C:jV X vars scope cl) (hi:MI X Θ tg iter it) (hg:∀ C fp s₂ H₂,MG (zm X vars scope cl C fp s₂ H₂) Θ js tg g) (ht:∀ C fp s₂ H₂,QJ (zm X vars scope cl C fp s₂ H₂) ifs (RdT X.K Θ tc))
  (he:∀ C fp s₂ H₂,ME (zm X vars scope cl C fp s₂ H₂) Θ elt me) (hj':(js.all fun j=>decide (X.N.length <= j))=true) (hs:∀ x,foldedSetIterable iter X.env x=pure x:=by intro _;rfl):ME X Θ (.ListComp elt [⟨tg,iter,ifs,0⟩] scope pos) (M.y4 vars.length it g tc me):=by
 intro pins s σ H Q I ⟨ρ,σ',S,st,rp,h⟩
 have hj:∀ j∈js,X.N.length <= j:=fun j hjj=>of_decide_eq_true (List.all_eq_true.mp hj' j hjj)
 exact zEN hc C hi hg ht he hs pins s σ H Q I (zCo I hj st rp (zF.bind h fun ρ1 H1 ds ys S1 p1 l1 rp1 r1 h1 D hD=>h1.alloc rp1 r1 hD))
theorem zBy (hc:X.calm=true) (C:jV X vars scope cl) (hi:WI X Θ tg iter it) (hg:∀ C fp s₂ H₂,WG (zm X vars scope cl C fp s₂ H₂) Θ js tg g) (ht:∀ C fp s₂ H₂,QJ (zm X vars scope cl C fp s₂ H₂) ifs (RdT X.K Θ tc))
  (he:∀ C fp s₂ H₂,WE (zm X vars scope cl C fp s₂ H₂) Θ elt me) (hj':(js.all fun j=>decide (X.N.length <= j))=true) (hs:∀ x,foldedSetIterable iter X.env x=pure x:=by intro _;rfl):WE X Θ (.ListComp elt [⟨tg,iter,ifs,0⟩] scope pos) (M.y4 vars.length it g tc me):=by with_unfolding_all exact zLQ hc C hi hg ht he hj' hs
theorem zHQ {i:Nat}{y:Str}{py spos:Pos} (hc:X.calm=true) (C:jV X vars scope cl) (hN:X.N.Nodup) (hiy:X.N[i]? = some y) (hy:Loc X.env.scope y) (hi:MI X Θ tg iter it) (hg:∀ C fp s₂ H₂,MG (zm X vars scope cl C fp s₂ H₂) Θ js tg g) (ht:∀ C fp s₂ H₂,QJ (zm X vars scope cl C fp s₂ H₂) ifs (RdT X.K Θ tc))
  (he:∀ C fp s₂ H₂,ME (zm X vars scope cl C fp s₂ H₂) Θ elt me) (hj':(js.all fun j=>decide (X.N.length <= j))=true) (hs:∀ x,foldedSetIterable iter X.env x=pure x:=by intro _;rfl)
  (hsw:swapsWith (.ListComp elt [⟨tg,iter,ifs,0⟩] scope pos) (some (.Name y py)) spos.line X.env=pure true:=by rfl)
  (hf:X.fn y=true\/X.env.scope.names.lookup y=some .local:=by first | exact .inl rfl | exact .inr rfl | assumption) :
  MS X Θ (.Assign [.Name y py] (.ListComp elt [⟨tg,iter,ifs,0⟩] scope pos) spos) (M.zo i (M.y4 vars.length it g tc me)):=by
 intro pins s σ H D I ⟨ρ,σ',S,st,rp,h⟩
 have hj:∀ j∈js,X.N.length <= j:=fun j hjj=>of_decide_eq_true (List.all_eq_true.mp hj' j hjj)
 refine zHf hc C hN hiy hy hi hg ht he hs hsw hf pins s σ H D I (zCo I hj st rp ?_)
 have h':zi X.K Θ ρ H (((M.qY vars.length it g tc me σ' S).bind fun ys s=>M.alloc (.lst ys) s).stm σ' fun d s=>.nx (σ'.set i (some d)) s) D:=h
 cases hm:M.qY vars.length it g tc me σ' S with
 | no=>rw[hm] at h';exact h'.elim
 | exc a s=>rw[hm] at h';exact h'.elim
 | ok ds S1 =>
  rw[hm] at h'
  intro ρ1 H1 ys p1 l1 rp1 r1 E hE
  have h2:zi X.K Θ ρ H (.nx (σ'.set i (some (.ref S1.length))) (S1++[.lst ds])) D:=h'
  have rp2:zW X.K Θ (ρ1++[E]) (S1++[.lst ds]) (upd H1 E (.lst ys)):=rp1.alloc hE ⟨ys,jU,r1.mono (List.prefix_append _ _) (Le.new hE _)⟩
  exact h2 (ρ1++[E]) _ _ (p1.trans (List.prefix_append _ _)) (l1.trans (Le.new hE _)) rp2 (((st.mono p1 l1).mono (List.prefix_append _ _) (Le.new hE _)).set (show zN X.K (ρ1++[E]) (upd H1 E (.lst ys)) (.ref S1.length) (.ref E) from ⟨E,rfl,by rw[<- rp1.len];simp⟩) i)
theorem zB3 {i:Nat}{y:Str}{py spos:Pos} (hc:X.calm=true) (C:jV X vars scope cl) (hN:X.N.Nodup) (hiy:X.N[i]? = some y) (hy:Loc X.env.scope y) (hi:WI X Θ tg iter it) (hg:∀ C fp s₂ H₂,WG (zm X vars scope cl C fp s₂ H₂) Θ js tg g) (ht:∀ C fp s₂ H₂,QJ (zm X vars scope cl C fp s₂ H₂) ifs (RdT X.K Θ tc))
  (he:∀ C fp s₂ H₂,WE (zm X vars scope cl C fp s₂ H₂) Θ elt me) (hj':(js.all fun j=>decide (X.N.length <= j))=true) (hs:∀ x,foldedSetIterable iter X.env x=pure x:=by intro _;rfl)
  (hsw:swapsWith (.ListComp elt [⟨tg,iter,ifs,0⟩] scope pos) (some (.Name y py)) spos.line X.env=pure true:=by rfl)
  (hf:X.fn y=true\/X.env.scope.names.lookup y=some .local:=by first | exact .inl rfl | exact .inr rfl | assumption) :
  WS X Θ (.Assign [.Name y py] (.ListComp elt [⟨tg,iter,ifs,0⟩] scope pos) spos) (M.zo i (M.y4 vars.length it g tc me)):=by with_unfolding_all exact zHQ (i:=i) (y:=y) (py:=py) (spos:=spos) hc C hN hiy hy hi hg ht he hj' hs hsw hf
noncomputable def AdK (K:PySem.W.Frag) (Θ:Tab) (k:List M.D->M.S->M.R M.D) (r:List V->Hp->VK->Prop):Prop:=∀ ρ H S ds ys p Q,zW K Θ ρ S H->zO K ρ H ds ys->SqL K H p ys->zF K Θ (zN K) ρ H (k ds S) Q->r [.ref p] H Q
theorem zJa {x:Str}{p:Pos}{id:String}{pos2:Pos}{k:List M.D->M.S->M.R M.D}{r:List V->Hp->VK->Prop} (hcr:j5 X (.builtin id) r) (ad:AdK X.K Θ k r) (hgl:Gl X x) (hm:X.mg x=none) (hv:bootBuiltins x=some (.builtin id))
  (hc:X.calm=true) (C:jV X vars scope cl) (hi:MI X Θ tg iter it) (hg:∀ C fp s₂ H₂,MG (zm X vars scope cl C fp s₂ H₂) Θ js tg g) (ht:∀ C fp s₂ H₂,QJ (zm X vars scope cl C fp s₂ H₂) ifs (RdT X.K Θ tc))
  (he:∀ C fp s₂ H₂,ME (zm X vars scope cl C fp s₂ H₂) Θ elt me) (hj':(js.all fun j=>decide (X.N.length <= j))=true) (hs:∀ x,foldedSetIterable iter X.env x=pure x:=by intro _;rfl)
  (hn:x ≠ "__name__" := by decide) (hdb:(x == ("__debug__" : Str))=false:=by decide)
  :
  ME X Θ (.Call (.Name x p) [.ListComp elt [⟨tg,iter,ifs,0⟩] scope pos] [] pos2) (M.JO k vars.length it g tc me):=by
 intro pins s σ H Q I ⟨ρ,σ',S,st,rp,h⟩
 have hj:∀ j∈js,X.N.length <= j:=fun j hjj=>of_decide_eq_true (List.all_eq_true.mp hj' j hjj)
 refine zGR hcr hgl hm hv (zEe (zEN (g:=RdG X.K Θ js g) (ti:=RdT X.K Θ tc) (te:=RdE X.K Θ me) hc C hi hg ht he hs) zFs (jS rfl)) hn hdb (jS rfl) rfl pins s σ H Q I ?_
 show zFX vars.length _ _ _ _ σ H (fun x H1=>r [x] H1 Q)
 refine zCo I hj st rp (zF.bind h fun ρ1 H1 ds ys S1 p1 l1 rp1 r1 h1 D hD=>?_)
 exact ad ρ1 _ S1 ds ys D Q (rp1.aside hD _) (r1.mono (List.prefix_refl _) (Le.new hD _)) (SqL.of jU) (zF.weak h1 (List.prefix_refl _) (Le.new hD _))
theorem zHr {x:Str}{p:Pos}{id:String}{pos2:Pos}{k:List M.D->M.S->M.R M.D}{r:List V->Hp->VK->Prop} (hcr:j5 X (.builtin id) r) (ad:AdK X.K Θ k r) (hgl:Gl X x) (hm:X.mg x=none) (hv:bootBuiltins x=some (.builtin id))
  (hc:X.calm=true) (C:jV X vars scope cl) (hi:WI X Θ tg iter it) (hg:∀ C fp s₂ H₂,WG (zm X vars scope cl C fp s₂ H₂) Θ js tg g) (ht:∀ C fp s₂ H₂,QJ (zm X vars scope cl C fp s₂ H₂) ifs (RdT X.K Θ tc))
  (he:∀ C fp s₂ H₂,WE (zm X vars scope cl C fp s₂ H₂) Θ elt me) (hj':(js.all fun j=>decide (X.N.length <= j))=true) (hs:∀ x,foldedSetIterable iter X.env x=pure x:=by intro _;rfl)
  (hn:x ≠ "__name__" := by decide) (hdb:(x == ("__debug__" : Str))=false:=by decide)
  :
  WE X Θ (.Call (.Name x p) [.ListComp elt [⟨tg,iter,ifs,0⟩] scope pos] [] pos2) (M.JO k vars.length it g tc me):=by with_unfolding_all exact zJa (x:=x) (p:=p) (id:=id) (pos2:=pos2) (k:=k) (r:=r) hcr ad hgl hm hv hc C hi hg ht he hj' hs hn hdb
theorem zJh {y:M.T}{z:Str}{j:Nat}{p apos cpos:Pos} (hz:z=ofT y) (hc:X.calm=true) (C:jV X vars scope cl) (hi:MI X Θ tg iter it) (hg:∀ C fp s₂ H₂,MG (zm X vars scope cl C fp s₂ H₂) Θ js tg g) (ht:∀ C fp s₂ H₂,QJ (zm X vars scope cl C fp s₂ H₂) ifs (RdT X.K Θ tc))
  (he:∀ C fp s₂ H₂,ME (zm X vars scope cl C fp s₂ H₂) Θ elt me) (hj':(js.all fun j=>decide (X.N.length <= j))=true) (ad:∀ ρ H S ds ys p Q,zW X.K Θ ρ S H->zO X.K ρ H ds ys->SqL X.K H p ys->zF X.K Θ (zN X.K) ρ H (M.yu y ds S) Q->zFY X.K (.str (ofT y)) [.ref p] H Q) (hs:∀ x,foldedSetIterable iter X.env x=pure x:=by intro _;rfl)
  (hline:(apos.endLine == cpos.line)=true:=by rfl)
  :
  ME X Θ (.Call (.Attribute (.Constant (.str z) j p) "join" apos) [.ListComp elt [⟨tg,iter,ifs,0⟩] scope pos] [] cpos) (M.JO (M.yu y) vars.length it g tc me):=by
 intro pins s σ H Q I ⟨ρ,σ',S,st,rp,h⟩
 have hj:∀ j∈js,X.N.length <= j:=fun j hjj=>of_decide_eq_true (List.all_eq_true.mp hj' j hjj)
 subst hz
 refine zKu PySem.F.plainAttrs_str PySem.F.slot_str_join PySem.F.type_str_join zLE zH4 (zEe (zEN (g:=RdG X.K Θ js g) (ti:=RdT X.K Θ tc) (te:=RdE X.K Θ me) hc C hi hg ht he hs) zFs (jS rfl)) rfl (zFu rfl (show 1 < 30 by decide)) hline (jS rfl) rfl pins s σ H Q I ?_
 refine⟨rfl,zCo I hj st rp (zF.bind h fun ρ1 H1 ds ys S1 p1 l1 rp1 r1 h1 D hD=>?_)⟩
 exact ad ρ1 _ S1 ds ys D Q (rp1.aside hD _) (r1.mono (List.prefix_refl _) (Le.new hD _)) (SqL.of jU) (zF.weak h1 (List.prefix_refl _) (Le.new hD _))
theorem zEE {y:M.T}{z:Str}{j:Nat}{p apos cpos:Pos} (hz:z=ofT y) (hc:X.calm=true) (C:jV X vars scope cl) (hi:WI X Θ tg iter it) (hg:∀ C fp s₂ H₂,WG (zm X vars scope cl C fp s₂ H₂) Θ js tg g) (ht:∀ C fp s₂ H₂,QJ (zm X vars scope cl C fp s₂ H₂) ifs (RdT X.K Θ tc))
  (he:∀ C fp s₂ H₂,WE (zm X vars scope cl C fp s₂ H₂) Θ elt me) (hj':(js.all fun j=>decide (X.N.length <= j))=true) (ad:∀ ρ H S ds ys p Q,zW X.K Θ ρ S H->zO X.K ρ H ds ys->SqL X.K H p ys->zF X.K Θ (zN X.K) ρ H (M.yu y ds S) Q->zFY X.K (.str (ofT y)) [.ref p] H Q) (hs:∀ x,foldedSetIterable iter X.env x=pure x:=by intro _;rfl)
  (hline:(apos.endLine == cpos.line)=true:=by rfl)
  :
  WE X Θ (.Call (.Attribute (.Constant (.str z) j p) "join" apos) [.ListComp elt [⟨tg,iter,ifs,0⟩] scope pos] [] cpos) (M.JO (M.yu y) vars.length it g tc me):=by with_unfolding_all exact zJh (y:=y) (z:=z) (j:=j) (p:=p) (apos:=apos) (cpos:=cpos) hz hc C hi hg ht he hj' ad hs hline
end
noncomputable def SpM (K:PySem.W.Frag) (Θ:Tab) (n:Nat) (f:M.F):Sp:=fun vs H Q _=>∃ ρ ds S,ds.length=n/\zO K ρ H ds vs/\zW K Θ ρ S H/\zF K Θ (zN K) ρ H (f ds S) Q
noncomputable def Qe (m:M.AM) (n:Nat):Prop:=∀ σ s xs s',m σ s=.ok xs s'->xs.length=n
theorem jF:Qe M.zI 0:=fun σ s xs s' h=>by cases h;rfl
theorem zS {a:M.EM}{r:M.AM}{n:Nat} (h:Qe r n):Qe (M.zD a r) (n+1):=fun σ s xs s' e=>by
 have e':((a σ s).bind fun x s=>(r σ s).bind fun xs s=>M.R.ok (x::xs) s)=.ok xs s':=e
 cases ha:a σ s with
 | no=>rw[ha] at e';cases e'
 | exc a s=>rw[ha] at e';cases e'
 | ok d S1 =>
  rw[ha] at e'
  have e2:((r σ S1).bind fun xs s=>M.R.ok (d::xs) s)=.ok xs s':=e'
  cases hr:r σ S1 with
  | no=>rw[hr] at e2;cases e2
  | exc a s=>rw[hr] at e2;cases e2
  | ok ds S2 =>
   rw[hr] at e2
   cases e2
   rw[List.length_cons,h _ _ _ _ hr]
section
variable {X:Cx}{Θ:Tab}{pos p:Pos}{x:Str}{ps:List Str}{e:Expr}{es:List Expr}{f:M.F}{m:M.AM}{k kk n:Nat}
theorem zLX (h:Has X.prog X.w X.K X.mg X.base x k ps (SpM X.K Θ n f)) (hr:zy kk X.A) (hk:k <= kk) (hg:Gl X x) (ha:MA X Θ (e::es) m) (ar:Qe m n) (hx:qa CX0 X E0:=by exact QS) (hdb:(x == ("__debug__" : Str))=false:=by decide)
  (he:ze e=true:=by rfl) (hpl:es.all ze=true:=by rfl):ME X Θ (.Call (.Name x p) (e::es) [] pos) (M.zT f m) :=
 (zJ4 h hr hk hg ha hx hdb (jS he) (yl hpl)).imp fun σ H Q ⟨ρ,σ',S,st,rp,h⟩=>⟨ρ,σ',S,st,rp,by
  have h':zF X.K Θ (zN X.K) ρ H ((m σ' S).bind fun xs s=>f xs s) Q:=h
  cases hm:m σ' S with
  | no=>rw[hm] at h';exact h'.elim
  | exc a s=>rw[hm] at h';exact h'.elim
  | ok ds S1 =>
   rw[hm] at h'
   intro ρ1 H1 vs p1 l1 rp1 r1
   rw[List.append_nil]
   exact⟨ρ1,ds,S1,ar _ _ _ _ hm,r1,rp1,zF.weak h' p1 l1⟩⟩
theorem jd (h:Has X.prog X.w X.K X.mg X.base x k ps (SpM X.K Θ n f)) (hr:zy kk X.A) (hk:k <= kk) (hg:Gl X x) (ha:WA X Θ (e::es) m) (ar:Qe m n) (hx:qa CX0 X E0:=by exact QS) (hdb:(x == ("__debug__" : Str))=false:=by decide)
  (he:ze e=true:=by rfl) (hpl:es.all ze=true:=by rfl):WE X Θ (.Call (.Name x p) (e::es) [] pos) (M.zT f m):=by with_unfolding_all exact zLX h hr hk hg ha ar hx hdb he hpl
end
section
variable {K:PySem.W.Frag}{Θ:Tab}{ρ ρ':List Addr}{H:Hp}{e:List Nat}
mutual
theorem zN.unren (hρ:∀ (i j:Nat) a,e[i]? = some j->ρ[j]? = some a->ρ'[i]? = some a):∀ {d:M.D}{v:V},M.D.cl e.length d=true->zN K ρ H (M.D.ren e d) v->zN K ρ' H d v
 | .non,_,_,h=>h
 | .bl _,_,_,h=>h
 | .int _,_,_,h=>h
 | .str _,_,_,h=>h
 | .ty _,_,_,h=>h
 | .ref i,_,c,⟨a,h1,h2⟩=>by
  have hi:i < e.length:=of_decide_eq_true c
  refine⟨a,h1,hρ i (e.getD i i) a ?_ h2⟩
  rw[List.getD_eq_getElem?_getD,List.getElem?_eq_getElem hi];rfl
 | .tup _,_,c,⟨a,xs,h1,h2,h3⟩=>⟨a,xs,h1,h2,zO.unren hρ c h3⟩
 | .ro _,_,c,⟨a,xs,h1,h2,h3⟩=>⟨a,xs,h1,h2,zO.unren hρ c h3⟩
theorem zO.unren (hρ:∀ (i j:Nat) a,e[i]? = some j->ρ[j]? = some a->ρ'[i]? = some a):∀ {ds:List M.D}{xs:List V},M.D.cl.all e.length ds=true->zO K ρ H (M.D.ren.all e ds) xs->zO K ρ' H ds xs
 | [],_,_,h=>h
 | d::ds,_,c,⟨y,ys,h1,h2,h3⟩=>by
  have c':(M.D.cl e.length d && M.D.cl.all e.length ds)=true:=c
  rw[Bool.and_eq_true] at c'
  exact⟨y,ys,h1,zN.unren hρ c'.1 h2,zO.unren hρ c'.2 h3⟩
end
theorem ObR.unren (hρ:∀ (i j:Nat) a,e[i]? = some j->ρ[j]? = some a->ρ'[i]? = some a) {a:Addr}{o:M.O} (c:M.O.cl e.length o=true) (h:ObR K Θ ρ H a (M.O.ren e o)):ObR K Θ ρ' H a o:=by
 cases o with
 | lst ds=>obtain⟨xs,h1,h2⟩:=h;exact⟨xs,h1,zO.unren hρ c h2⟩
 | dct kvs =>
  obtain⟨ks,h1,h2⟩:=h
  refine⟨ks,h1,?_⟩
  have c':∀ p∈kvs,(M.D.cl e.length p.1 && M.D.cl e.length p.2)=true:=List.all_eq_true.mp c
  clear h1
  revert h2 c'
  clear c
  induction kvs generalizing ks with
  | nil=>intro h2 c';cases h2;exact .nil
  | cons p kvs ih =>
   intro h2 c'
   rw[List.map_cons] at h2
   cases h2 with
   | cons r1 r2 =>
    have c1:=c' p List.mem_cons_self
    rw[Bool.and_eq_true] at c1
    refine .cons ⟨?_,zN.unren hρ c1.2 r1.2⟩ (ih _ r2 (fun q hq=>c' q (List.mem_cons_of_mem _ hq)))
    have hk:=r1.1
    revert hk
    cases p.1<;>exact fun hk=>hk
 | fdc kvs =>
  obtain⟨o,ks,h1,h2⟩:=h
  refine⟨o,ks,h1,?_⟩
  have c':∀ p∈kvs,(M.D.cl e.length p.1 && M.D.cl e.length p.2)=true:=List.all_eq_true.mp c
  clear h1
  revert h2 c'
  clear c
  induction kvs generalizing ks with
  | nil=>intro h2 c';cases h2;exact .nil
  | cons p kvs ih =>
   intro h2 c'
   rw[List.map_cons] at h2
   cases h2 with
   | cons r1 r2 =>
    have c1:=c' p List.mem_cons_self
    rw[Bool.and_eq_true] at c1
    refine .cons ⟨?_,zN.unren hρ c1.2 r1.2⟩ (ih _ r2 (fun q hq=>c' q (List.mem_cons_of_mem _ hq)))
    have hk:=r1.1
    revert hk
    cases p.1<;>exact fun hk=>hk
 | ins cc fs =>
  obtain⟨C,dx,gs,N,h1,h2,h3⟩:=h
  refine⟨C,dx,gs,N,h1,h2,by rw[<- h3.len];simp,h3.nd,h3.within,fun i f d q1 q2=>?_⟩
  obtain⟨v,k1,k2⟩:=h3.get i f (M.D.ren e d) q1 (by rw[List.getElem?_map,q2];rfl)
  refine⟨v,k1,zN.unren hρ ?_ k2⟩
  have:=List.all_eq_true.mp c (some d) (List.mem_of_getElem? q2)
  exact this
theorem zF.gc {S S' S1:M.S}{d:M.D}{Q:VK} (em:M.Emb S.length e S' S1) (cd:M.D.cl S'.length d=true) (rp:zW K Θ ρ S H) (h:zF K Θ (zN K) ρ H (.ok d S') Q):zF K Θ (zN K) ρ H (.ok (M.D.ren e d) S1) Q:=by
 intro ρ1 H1 v p1 l1 rp1 r1
 have hlt:∀ {i j:Nat},e[i]? = some j->j < ρ1.length:=fun {i j} q=>by
  have hi:i < S'.length:=by rw[<- em.len];exact (List.getElem?_eq_some_iff.mp q).1
  obtain⟨j',q1,q2,_⟩:=em.obj i S'[i] (by simp[hi])
  rw[q] at q1;cases q1
  rw[rp1.len];exact (List.getElem?_eq_some_iff.mp q2).1
 have hρ:∀ (i j:Nat) a,e[i]? = some j->ρ1[j]? = some a->(e.map fun j=>ρ1.getD j 0)[i]? = some a:=fun i j a q1 q2=>by
  rw[List.getElem?_map,q1,Option.map_some,List.getD_eq_getElem?_getD,q2];rfl
 refine h (e.map fun j=>ρ1.getD j 0) H1 v ?_ l1 ⟨by rw[List.length_map,em.len],?_,fun i o q=>?_⟩ (zN.unren hρ (by rw[em.len];exact cd) r1)
 ·refine List.prefix_iff_getElem?.mpr fun i hi=>?_
  have hi':i < S.length:=rp.len ▸ hi
  exact hρ i i _ (em.old i hi') (Q5 p1 (List.getElem?_eq_getElem hi))
 ·refine zKi fun i j x a b=>?_
  rw[List.getElem?_map] at a b
  cases ei:e[i]? with
  | none=>rw[ei] at a;cases a
  | some k =>
   cases ej:e[j]? with
   | none=>rw[ej] at b;cases b
   | some l =>
    rw[ei,Option.map_some,List.getD_eq_getElem?_getD,List.getElem?_eq_getElem (hlt ei)] at a
    rw[ej,Option.map_some,List.getD_eq_getElem?_getD,List.getElem?_eq_getElem (hlt ej)] at b
    have e1:ρ1[k]'(hlt ei)=x:=by simpa using a
    have e2:ρ1[l]'(hlt ej)=x:=by simpa using b
    have e3:=zH2 rp1.nd (hlt ei) (hlt ej) (e1.trans e2.symm)
    subst e3
    exact Js em.nd ei ej
 ·obtain⟨j,q1,q2,q3⟩:=em.obj i o q
  obtain⟨a,q4,q5⟩:=rp1.obj j _ q2
  exact⟨a,hρ i j a q1 q4,ObR.unren hρ (by rw[em.len];exact q3) q5⟩
end
section
variable {K:PySem.W.Frag}{Θ:Tab}{ρ:List Addr}{H:Hp}
mutual
theorem zN.cl:∀ {d:M.D}{v:V},zN K ρ H d v->M.D.cl ρ.length d=true
 | .non,_,_=>rfl
 | .bl _,_,_=>rfl
 | .int _,_,_=>rfl
 | .str _,_,_=>rfl
 | .ty _,_,_=>rfl
 | .ref _,_,⟨a,_,h2⟩=>decide_eq_true (List.getElem?_eq_some_iff.mp h2).1
 | .tup _,_,⟨_,_,_,_,h⟩=>zO.cl h
 | .ro _,_,⟨_,_,_,_,h⟩=>zO.cl h
theorem zO.cl:∀ {ds:List M.D}{xs:List V},zO K ρ H ds xs->M.D.cl.all ρ.length ds=true
 | [],_,_=>rfl
 | d::ds,_,⟨_,_,_,h1,h2⟩=>by
  show (M.D.cl ρ.length d && M.D.cl.all ρ.length ds)=true
  rw[zN.cl h1,zO.cl h2];rfl
end
theorem zW.cl {S:M.S} (rp:zW K Θ ρ S H):M.clS S.length S=true:=by
 refine List.all_eq_true.mpr fun o ho=>?_
 obtain⟨i,hi,rfl⟩:=List.mem_iff_getElem.mp ho
 obtain⟨a,h1,h2⟩:=rp.obj i S[i] (by simp[hi])
 rw[<- rp.len]
 revert h2
 cases S[i] with
 | lst ds=>exact fun ⟨xs,_,r⟩=>r.cl
 | dct kvs =>
  intro ⟨ks,_,r⟩
  refine List.all_eq_true.mpr fun p hp=>?_
  have:∀ {kvs:List (M.D×M.D)}{ks:List (Key×V)},Paired (fun (p:M.D×M.D) (q:Key×V)=>Zc p.1 q.1/\zN K ρ H p.2 q.2) kvs ks->p∈kvs->(M.D.cl ρ.length p.1 && M.D.cl ρ.length p.2)=true:=by
   intro kvs ks r hp
   induction r with
   | nil=>cases hp
   | cons r1 r2 ih =>
    rcases List.mem_cons.mp hp with rfl | hp
    ·rw[r1.2.cl,Bool.and_true]
     have hk:=r1.1
     revert hk
     cases p.1<;>first | exact fun _=>rfl | exact fun hk=>hk.elim
    ·exact ih hp
  exact this r hp
 | fdc kvs =>
  intro ⟨_,ks,_,r⟩
  refine List.all_eq_true.mpr fun p hp=>?_
  have:∀ {kvs:List (M.D×M.D)}{ks:List (Key×V)},Paired (fun (p:M.D×M.D) (q:Key×V)=>Zc p.1 q.1/\zN K ρ H p.2 q.2) kvs ks->p∈kvs->(M.D.cl ρ.length p.1 && M.D.cl ρ.length p.2)=true:=by
   intro kvs ks r hp
   induction r with
   | nil=>cases hp
   | cons r1 r2 ih =>
    rcases List.mem_cons.mp hp with rfl | hp
    ·rw[r1.2.cl,Bool.and_true]
     have hk:=r1.1
     revert hk
     cases p.1<;>first | exact fun _=>rfl | exact fun hk=>hk.elim
    ·exact ih hp
  exact this r hp
 | ins c fs =>
  intro ⟨C,dx,gs,N,_,_,r⟩
  refine List.all_eq_true.mpr fun od hod=>?_
  cases od with
  | none=>rfl
  | some d =>
   obtain⟨j,hj,ej⟩:=List.mem_iff_getElem.mp hod
   have hN:j < N.length:=r.len ▸ hj
   obtain⟨v,_,rv⟩:=r.get j N[j] d (by simp[hN]) (by rw[List.getElem?_eq_getElem hj,ej])
   exact rv.cl
end
section
variable {P:Program}{w:World}{K:PySem.W.Frag}{mg:Str->Option Value}{base:Heap}{Θ:Tab}
theorem zCP {ρ:List Addr}{H:Hp}{ds:List M.D}{vs:List V} (r:zO K ρ H ds vs) (N:List Str):jI K ρ H (ds.map some++List.replicate (N.length - ds.length) none) (Zr N vs):=by
 have hl:=r.length
 refine⟨by simp[Zr,hl],fun i d q=>?_⟩
 unfold Zr
 by_cases hi:i < ds.length
 ·rw[List.getElem?_append_left (by simpa using hi),List.getElem?_map] at q
  cases e:ds[i]? with
  | none=>rw[e] at q;cases q
  | some d' =>
   rw[e] at q
   cases q
   obtain⟨v,e1,rv⟩:=r.get e
   refine⟨v,?_,rv⟩
   rw[List.getElem?_append_left (by simp;omega),List.getElem?_map,e1];rfl
 ·rw[List.getElem?_append_right (by simp;omega),List.getElem?_replicate] at q
  split at q<;>cases q
theorem zOy {x qual:Str}{st:Stmt}{f:Addr}{fd:FuncData}{N ps:List Str}{k:Nat}{b:M.SM}{q:M.F} (F:Fun K x qual st f fd) (Sc:jC N ps (zL st)) (rf:M.jn ps.length (M.fn N.length b) q)
  (hbody:∀ (cdv:Value) (A:Around) (outer:List Env) (s:Shared) (H:Hp) (E:XK),zy k (A.deeper (envOfC qual (zL st) s.heap.objs.size f cdv)) ->
   MSs (Qa CX0 P w K mg base N qual (zL st) f cdv A outer s H E).nox Θ (zx st) b):jW P w K mg base CX0 (k+1) f fd ps (SpM K Θ ps.length q):=by
 refine F.ok (k:=k) Sc (fun vs H Q E h=>?_) (fun cdv A outer s H vs Q E hr h=>?_)
 ·obtain⟨ρ,ds,S,hl,r,_⟩:=h
  rw[<- r.length,hl]
 ·obtain⟨ρ,ds,S,hl,r,rp,h⟩:=h
  refine⟨_,hbody cdv A outer s H E hr,ρ,_,S,zCP r N,rp,?_⟩
  rcases rf ds S hl rp.cl (rp.len ▸ r.cl) with e | ⟨d,S',S1,em,e1,e2,emb,cd⟩
  ·rw[e] at h;exact h.elim
  ·rw[e1] at h
   have h2:=zF.gc emb cd rp h
   have e3:(b (ds.map some++List.replicate (N.length - ds.length) none) S).out=.ok (M.D.ren em d) S1:=e2
   show zi K Θ ρ H (b (ds.map some++List.replicate (N.length - ds.length) none) S) _
   revert e3
   cases b (ds.map some++List.replicate (N.length - ds.length) none) S with
   | rt a s=>intro e3;cases e3;exact h2
   | nx a s =>
    intro e3
    have e4:M.R.ok M.D.non s=.ok (M.D.ren em d) S1:=e3
    injection e4 with e5 e6
    subst e6
    rw[<- e5] at h2
    exact fun ρ1 H1 σ1 p1 l1 rp1 _=>h2 ρ1 H1 .non p1 l1 rp1 rfl
   | bk a s=>intro e3;cases e3
   | ct a s=>intro e3;cases e3
   | exc e a s=>intro e3;cases e3
   | no=>intro e3;cases e3
theorem QA {x qual:Str}{st:Stmt}{f:Addr}{fd:FuncData}{N ps:List Str}{k:Nat}{b:M.SM}{q:M.F} (F:Fun K x qual st f fd) (Sc:jC N ps (zL st)) (rf:M.jn ps.length (M.fn N.length b) q)
  (hbody:∀ (cdv:Value) (A:Around) (outer:List Env) (s:Shared) (H:Hp) (E:XK),zy k (A.deeper (envOfC qual (zL st) s.heap.objs.size f cdv)) ->
   WSs (Qa CX0 P w K mg base N qual (zL st) f cdv A outer s H E).nox Θ (zx st) b):jW P w K mg base CX0 (k+1) f fd ps (SpM K Θ ps.length q):=by with_unfolding_all exact zOy (x:=x) (qual:=qual) (st:=st) (f:=f) (fd:=fd) (N:=N) (ps:=ps) (k:=k) (b:=b) (q:=q) F Sc rf hbody
end
end L2
namespace L2
open PySem PySem.Spec PyProof.Rows
section
variable {K:PySem.W.Frag}{Θ:Tab}
theorem zN8:Ad2 K Θ M.zKy zNt:=by
 intro ρ H S x y X Y Q rp rx ry h
 cases x with
 | int i =>
  cases y with
  | int j=>cases rx;cases ry;exact zF.here (b:=V.int (i - j)) h rp rfl
  | _=>exact h.elim
 | _=>exact h.elim
theorem zFg {i:Int} (h:M.yp i=true):-(2 ^ 64) < i/\i < 2 ^ 64:=by
 have h':i.natAbs < 18446744073709551616:=of_decide_eq_true h
 exact⟨by omega,by omega⟩
theorem yO:Ad2 K Θ M.qJ zMm:=by
 intro ρ H S x y X Y Q rp rx ry h
 cases x with
 | int i =>
  cases y with
  | int j =>
   cases rx;cases ry
   have h':zF K Θ (zN K) ρ H (if 0 < j/\j.natAbs < 1073741824 then M.R.ok (M.D.int (i / j)) S else .no) Q:=h
   by_cases hc:0 < j/\j.natAbs < 1073741824
   ·rw[if_pos hc] at h';exact⟨⟨hc.1,by omega⟩,zF.here (b:=V.int (i / j)) h' rp rfl⟩
   ·rw[if_neg hc] at h';exact h'.elim
  | _=>exact h.elim
 | _=>exact h.elim
theorem jt:Ad2 K Θ M.jM zNv:=by
 intro ρ H S x y X Y Q rp rx ry h
 cases x with
 | int i =>
  cases y with
  | int j =>
   cases rx;cases ry
   have h':zF K Θ (zN K) ρ H (if 0 < j then M.R.ok (M.D.int (i % j)) S else .no) Q:=h
   by_cases hc:0 < j
   ·rw[if_pos hc] at h';exact⟨hc,zF.here (b:=V.int (i % j)) h' rp rfl⟩
   ·rw[if_neg hc] at h';exact h'.elim
  | _=>exact h.elim
 | _=>exact h.elim
theorem Zy {ρ:List Addr}{S:M.S}{H:Hp} (rp:zW K Θ ρ S H) {i:Nat}{a:Addr} (ha:ρ[i]? = some a) {xs:List M.D} (q:S[i]? = some (.lst xs)):∃ zs,H a=some (.lst zs)/\zO K ρ H xs zs:=by
 obtain⟨b,e1,zs,e2,r⟩:=rp.obj i _ q
 rw[ha] at e1;cases e1
 exact⟨zs,e2,r⟩
theorem zu:Ad2 K Θ M.zU (fun x y H Q=>zMS x y H Q\/zKv K x y H Q):=by
 intro ρ H S x y X Y Q rp rx ry h
 cases x with
 | int i =>
  cases y with
  | int j=>cases rx;cases ry;exact .inl (zF.here (b:=V.int (i+j)) h rp rfl)
  | _=>exact h.elim
 | str a =>
  cases y with
  | str b =>
   obtain⟨rfl,oka⟩:=rx
   obtain⟨rfl,okb⟩:=ry
   have h':zF K Θ (zN K) ρ H (if a.length+b.length <= M.SZ then M.R.ok (M.D.str (a++b)) S else .no) Q:=h
   by_cases hc:a.length+b.length <= M.SZ
   ·rw[if_pos hc] at h'
    refine .inl ⟨by rw[jw,jw,<- Z9];exact hc,?_⟩
    rw[zGv]
    exact zF.here (b:=V.str (ofT (a++b))) h' rp ⟨rfl,zCb oka okb⟩
   ·rw[if_neg hc] at h';exact h'.elim
  | _=>exact h.elim
 | tup a =>
  cases y with
  | tup b =>
   obtain⟨l,xs,rfl,hq,r⟩:=rx
   obtain⟨l',ys,rfl,hq',r'⟩:=ry
   have h':zF K Θ (zN K) ρ H (if a≠[]/\a.length+b.length <= M.SZ then M.R.ok (M.D.tup (a++b)) S else .no) Q:=h
   by_cases hc:a≠[]/\a.length+b.length <= M.SZ
   ·rw[if_pos hc] at h'
    refine .inr ⟨l,l',xs,ys,rfl,rfl,hq,hq',fun z=>hc.1 ?_,by rw[<- r.length,<- r'.length,<- Z9];exact hc.2,fun hy=>?_,fun hy p hp=>?_⟩
    ·subst z
     have:=r.length
     exact List.length_eq_zero_iff.mp this
    ·subst hy
     have hb:b=[]:=List.length_eq_zero_iff.mp r'.length
     subst hb
     rw[List.append_nil] at h'
     exact zF.here h' rp ⟨l,xs,rfl,hq,r⟩
    ·exact h' ρ _ _ (List.prefix_refl _) (Le.new hp _) (rp.aside hp _) ⟨p,_,rfl,SqT.of jU,(r.app r').mono (List.prefix_refl _) (Le.new hp _)⟩
   ·rw[if_neg hc] at h';exact h'.elim
  | _=>exact h.elim
 | ref i =>
  cases y with
  | ref j =>
   obtain⟨a,rfl,ea⟩:=rx
   obtain⟨b,rfl,eb⟩:=ry
   have h':zF K Θ (zN K) ρ H (match S[i]?,S[j]? with
    | some (.lst xs),some (.lst ys)=>if xs.length+ys.length <= M.SZ then M.alloc (.lst (xs++ys)) S else .no
    | _,_=>.no) Q:=h
   split at h'
   ·rename_i xs ys q1 q2
    obtain⟨zs,e1,r1⟩:=Zy rp ea q1
    obtain⟨ws,e2,r2⟩:=Zy rp eb q2
    by_cases hc:xs.length+ys.length <= M.SZ
    ·rw[if_pos hc] at h'
     exact .inl ⟨zs,ws,e1,e2,by rw[<- r1.length,<- r2.length,<- Z9];exact hc,fun p hp=>h'.alloc rp (r1.app r2) hp⟩
    ·rw[if_neg hc] at h';exact h'.elim
   ·exact h'.elim
  | _=>exact h.elim
 | _=>exact h.elim
theorem zOn:AdC K Θ M.cLt uLt:=by
 intro ρ H S x y X Y Q rp rx ry h
 cases x with
 | int i =>
  cases y with
  | int j=>cases rx;cases ry;exact zF.here (b:=decide (i < j)) h rp rfl
  | _=>exact h.elim
 | str a =>
  cases y with
  | str b =>
   obtain⟨rfl,_⟩:=rx
   obtain⟨rfl,_⟩:=ry
   show Q (.bl (decide ((ofT a).cps.toList < (ofT b).cps.toList))) H
   rw[J9,J9]
   exact zF.here (b:=decide (a < b)) h rp rfl
  | _=>exact h.elim
 | _=>exact h.elim
theorem zD9:AdC K Θ M.cGt uGt:=by
 intro ρ H S x y X Y Q rp rx ry h
 cases x with
 | int i =>
  cases y with
  | int j=>cases rx;cases ry;exact zF.here (b:=decide (j < i)) h rp rfl
  | _=>exact h.elim
 | _=>exact h.elim
theorem zEZ {ρ:List Addr}{H:Hp}{ds:List M.D}{xs:List V}{i:Int}{d:M.D} (r:zO K ρ H ds xs) (e:M.atI ds i=some d):∃ v,atI xs i=some v/\zN K ρ H d v:=by
 unfold M.atI at e
 cases q:M.ixN ds.length i with
 | none=>rw[q] at e;cases e
 | some j =>
  rw[q] at e
  obtain⟨v,e1,rv⟩:=r.get (i:=j) e
  have q':ixN xs.length i=some j:=by rw[<- r.length];exact q
  exact⟨v,by unfold atI;rw[q'];exact e1,rv⟩
end
end L2
namespace L2
open PySem PySem.Spec PyProof.Rows
section
variable {K:PySem.W.Frag}{Θ:Tab}
theorem zNo {X:Cx}{a:Expr}{ma:M.EM} (ha:ME X Θ a ma) (he:∀ whole,isTrue a X.env whole=(do let v <- whole;standAt a.pos;holding [v] (truthy v)):=by intro _;rfl):MT X Θ a (M.zC6 ma) :=
 (zKI ha he).imp fun σ H Q ⟨ρ,σ',S,st,rp,h⟩=>⟨ρ,σ',S,st,rp,zF.bind h fun ρ1 H1 x X1 S1 p1 l1 rp1 rx h1=>by
  cases x with
  | non=>cases rx;exact⟨false,rfl,zF.here (b:=false) h1 rp1 rfl⟩
  | bl b=>cases rx;exact⟨b,rfl,zF.here (b:=b) h1 rp1 rfl⟩
  | int i=>cases rx;exact⟨_,rfl,zF.here (b:=(i != 0)) h1 rp1 (by show decide (i≠0)=(i != 0);by_cases hi:i=0<;>simp[hi])⟩
  | str z =>
   obtain⟨rfl,_⟩:=rx
   by_cases hz:z.length <= M.SZ
   ·simp only[M.Jc,if_pos hz] at h1
    refine⟨_,⟨by rw[jw,<- Z9];exact hz,rfl⟩,zF.here (b:=(((ofT z).length:Int) != 0)) h1 rp1 ?_⟩
    show (!z.isEmpty)=_
    rw[jw]
    cases z<;>simp<;>omega
   ·simp only[M.Jc,if_neg hz] at h1;exact h1.elim
  | tup ds =>
   obtain⟨l,xs,rfl,hq,r⟩:=rx
   refine⟨_,.inr (.inl ⟨xs,hq,rfl⟩),zF.here (b:=!xs.isEmpty) h1 rp1 ?_⟩
   show (!ds.isEmpty)=_
   have:=r.length
   cases ds<;>cases xs<;>first | rfl | cases this
  | ro ds =>
   obtain⟨l,xs,rfl,hq,r⟩:=rx
   refine⟨_,.inl ⟨xs,hq.sq,rfl⟩,zF.here (b:=!xs.isEmpty) h1 rp1 ?_⟩
   show (!ds.isEmpty)=_
   have:=r.length
   cases ds<;>cases xs<;>first | rfl | cases this
  | ref p =>
   obtain⟨a,rfl,ea⟩:=rx
   cases q:S1[p]? with
   | none=>simp[M.Jc,q] at h1;exact h1.elim
   | some o =>
    cases o with
    | lst xs =>
     simp only[M.Jc,q] at h1
     obtain⟨zs,e1,r⟩:=Zy rp1 ea q
     refine⟨_,.inl ⟨zs,SqL.of e1,rfl⟩,zF.here (b:=!zs.isEmpty) h1 rp1 ?_⟩
     show (!xs.isEmpty)=_
     have:=r.length
     cases xs<;>cases zs<;>first | rfl | cases this
    | dct kvs =>
     simp only[M.Jc,q] at h1
     obtain⟨b,e1,zs,e2,r⟩:=rp1.obj _ _ q
     rw[ea] at e1;cases e1
     refine⟨_,.inr (.inr ⟨zs,e2,rfl⟩),zF.here (b:=!zs.isEmpty) h1 rp1 ?_⟩
     cases r<;>rfl
    | fdc _=>simp[M.Jc,q] at h1;exact h1.elim
    | ins c fs=>simp[M.Jc,q] at h1;exact h1.elim
  | ty n=>exact h1.elim⟩
theorem zA9 {X:Cx}{a:Expr}{ma:M.EM} (ha:WE X Θ a ma) (he:∀ whole,isTrue a X.env whole=(do let v <- whole;standAt a.pos;holding [v] (truthy v)):=by intro _;rfl):WT X Θ a (M.zC6 ma):=by with_unfolding_all exact zNo (X:=X) (a:=a) (ma:=ma) ha he
inductive TyM (K:PySem.W.Frag) (H:Hp):V->String->Prop where
 | of {x:V}{A:String} (h:Q2 K H x (.type A)):TyM K H x A
 | sqT {a:Addr}{xs:List V} (h:SqT K H a xs):TyM K H (.ref a) "tuple"
 | sqL {a:Addr}{xs:List V} (h:SqL K H a xs):TyM K H (.ref a) "list"
noncomputable def zKq (K:PySem.W.Frag):List V->Hp->VK->Prop:=fun xs H Q=>∃ x n A b,xs=[x,.ty n]/\TyM K H x A/\PySem.W.kitOne K (.type A) (.type n)=some b/\Q (.bl b) H
theorem zBQ {X:Cx}:j5 X (.builtin "isinstance") (zKq X.K):=by
 intro pins s σ H xs us Q I r h
 obtain⟨x,n,A,b,rfl,ty,e,q⟩:=h
 obtain⟨u,w',rfl,ru,rc⟩:=zOa r
 cases rc
 cases ty with
 | of h=>exact wpAny_with_toks (n:=1) I.tk (zIC I ru h e fun tk hk=>⟨.bl b,H,I.tok tk hk,rfl,q⟩)
 | sqT h =>
  cases ru
  obtain⟨its,_,⟨o,h1,h2,_⟩,_⟩:=I.tuple h
  exact wpAny_with_toks (n:=1) I.tk (PySem.W.kia_one PySem.W.kitx_tuple I.kIn ⟨o,h1,h2⟩ e (fun z=>nomatch z) fun tk hk=>⟨.bl b,H,I.tok tk hk,rfl,q⟩)
 | sqL h =>
  cases ru
  obtain⟨its,_,⟨o,n,h1,h2,_⟩,_⟩:=I.list h
  exact wpAny_with_toks (n:=1) I.tk (PySem.W.kia_one PySem.W.kitx_list I.kIn ⟨o,h1,h2⟩ e (fun z=>nomatch z) fun tk hk=>⟨.bl b,H,I.tok tk hk,rfl,q⟩)
theorem zLO (n:M.Kd):PySem.W.kitOne K (.type "NoneType") (.type (qb n))=some false/\PySem.W.kitOne K (.type "bool") (.type (qb n))=some (match n with | .bool=>true | .int=>true | _=>false) /\
  PySem.W.kitOne K (.type "int") (.type (qb n))=some (match n with | .int=>true | _=>false)/\PySem.W.kitOne K (.type "str") (.type (qb n))=some (match n with | .str=>true | _=>false) /\
  PySem.W.kitOne K (.type "tuple") (.type (qb n))=some (match n with | .tuple=>true | _=>false)/\PySem.W.kitOne K (.type "list") (.type (qb n))=some (match n with | .list=>true | _=>false) /\
  PySem.W.kitOne K (.type "dict") (.type (qb n))=some (match n with | .dict=>true | _=>false):=by
 cases n<;>exact⟨zAA (by decide +kernel),zAA (by decide +kernel),zAA (by decide +kernel),zAA (by decide +kernel),zAA (by decide +kernel),zAA (by decide +kernel),zAA (by decide +kernel)⟩
theorem zD3:AdN K Θ M.zAV (zKq K):=by
 intro ρ H S xs Xs Q rp rx h
 match xs,rx,h with
 | [x,.ty n],rx,h =>
  obtain⟨v,_,rfl,rv,_,_,rfl,rfl,rfl⟩:=rx
  obtain⟨k1,k2,k3,k4,k5,k6,k7⟩:=zLO (K:=K) n
  have fin:∀ {A:String}{b:Bool},M.QN n x S=.ok b S->TyM K H v A->PySem.W.kitOne K (.type A) (.type (qb n))=some b->zKq K [v,.ty (qb n)] H Q:=fun {A b} e ty k=>by
   have h':zF K Θ (zN K) ρ H ((M.QN n x S).bind fun b s=>.ok (.bl b) s) Q:=h
   rw[e] at h'
   exact⟨v,qb n,A,b,rfl,ty,k,zF.here (b:=V.bl b) h' rp rfl⟩
  cases x with
  | non=>cases rv;exact fin rfl (.of .non) k1
  | bl b=>cases rv;exact fin rfl (.of (.bl b)) k2
  | int i=>cases rv;exact fin rfl (.of (.int i)) k3
  | str z=>obtain⟨rfl,_⟩:=rv;exact fin rfl (.of (.str _)) k4
  | tup ds=>obtain⟨l,ys,rfl,hq,r⟩:=rv;exact fin rfl (.sqT hq) k5
  | ro ds=>obtain⟨l,ys,rfl,hq,r⟩:=rv;exact fin rfl (.sqL hq.sq) k6
  | ty m=>exact h.elim
  | ref p =>
   obtain⟨a,rfl,ea⟩:=rv
   cases q:S[p]? with
   | none=>simp[M.zAV,M.QN,q] at h;exact h.elim
   | some o =>
    cases o with
    | lst xs =>
     obtain⟨zs,e1,r⟩:=Zy rp ea q
     refine fin ?_ (.sqL (SqL.of e1)) k6
     simp only[M.QN,q]<;>(cases n<;>rfl)
    | dct kvs =>
     obtain⟨b,e1,zs,e2,r⟩:=rp.obj _ _ q
     rw[ea] at e1;cases e1
     refine fin ?_ (.of (.dK e2)) k7
     simp only[M.QN,q]<;>(cases n<;>rfl)
    | fdc _=>simp[M.zAV,M.QN,q] at h;exact h.elim
    | ins c fs=>simp[M.zAV,M.QN,q] at h;exact h.elim
 | [_,.non],_,h=>exact h.elim
 | [_,.bl _],_,h=>exact h.elim
 | [_,.int _],_,h=>exact h.elim
 | [_,.str _],_,h=>exact h.elim
 | [_,.tup _],_,h=>exact h.elim
 | [_,.ro _],_,h=>exact h.elim
 | [_,.ref _],_,h=>exact h.elim
 | [],_,h=>exact h.elim
 | [_],_,h=>exact h.elim
 | _::b::_::_,_,h=>cases b<;>exact h.elim
noncomputable def ofP:M.P->PyData
 | .non=>.none
 | .bl b=>.bool b
 | .int i=>.int i
 | .str x=>.str (ofT x)
 | .tup ps=>.tuple (all ps)
 | .lst ps=>.list (all ps)
where all:List M.P->List PyData
 | []=>[]
 | p::ps=>ofP p::all ps
theorem zGo (x y:M.T):(ofT x == ofT y)=(x == y):=by
 by_cases h:x=y
 ·subst h;simp
 ·rw[beq_eq_false_iff_ne.mpr h,beq_eq_false_iff_ne.mpr fun e=>h (zET e)]
mutual
theorem zEg:∀ p q:M.P,PyData.eqv (ofP p) (ofP q)=M.P.eqv p q
 | .non,.non=>rfl
 | .non,.bl _=>rfl
 | .non,.int _=>rfl
 | .non,.str _=>rfl
 | .non,.tup _=>rfl
 | .non,.lst _=>rfl
 | .bl _,.non=>rfl
 | .bl _,.bl _=>rfl
 | .bl _,.int _=>rfl
 | .bl _,.str _=>rfl
 | .bl _,.tup _=>rfl
 | .bl _,.lst _=>rfl
 | .int _,.non=>rfl
 | .int _,.bl _=>rfl
 | .int _,.int _=>rfl
 | .int _,.str _=>rfl
 | .int _,.tup _=>rfl
 | .int _,.lst _=>rfl
 | .str _,.non=>rfl
 | .str _,.bl _=>rfl
 | .str _,.int _=>rfl
 | .str x,.str y=>zGo x y
 | .str _,.tup _=>rfl
 | .str _,.lst _=>rfl
 | .tup _,.non=>rfl
 | .tup _,.bl _=>rfl
 | .tup _,.int _=>rfl
 | .tup _,.str _=>rfl
 | .tup ps,.tup qs=>zC4 ps qs
 | .tup _,.lst _=>rfl
 | .lst _,.non=>rfl
 | .lst _,.bl _=>rfl
 | .lst _,.int _=>rfl
 | .lst _,.str _=>rfl
 | .lst _,.tup _=>rfl
 | .lst ps,.lst qs=>zC4 ps qs
theorem zC4:∀ ps qs:List M.P,PyData.eqvAll (ofP.all ps) (ofP.all qs)=M.P.eqvs ps qs
 | [],[]=>rfl
 | [],_::_=>rfl
 | _::_,[]=>rfl
 | p::ps,q::qs=>by
  show (PyData.eqv (ofP p) (ofP q) && PyData.eqvAll (ofP.all ps) (ofP.all qs))=(M.P.eqv p q && M.P.eqvs ps qs)
  rw[zEg p q,zC4 ps qs]
end
mutual
theorem zAy:∀ p:M.P,PyData.depth (ofP p)=M.P.dep p
 | .non=>rfl
 | .bl _=>rfl
 | .int _=>rfl
 | .str _=>rfl
 | .tup ps=>by show PyData.depthAll (ofP.all ps)+1=M.P.deps ps+1;rw[zDG ps]
 | .lst ps=>by show PyData.depthAll (ofP.all ps)+1=M.P.deps ps+1;rw[zDG ps]
theorem zDG:∀ ps:List M.P,PyData.depthAll (ofP.all ps)=M.P.deps ps
 | []=>rfl
 | p::ps=>by show max (PyData.depth (ofP p)) (PyData.depthAll (ofP.all ps))=max (M.P.dep p) (M.P.deps ps);rw[zAy p,zDG ps]
end
section
variable {ρ:List Addr}{H:Hp}
mutual
theorem zHc {g:Nat->Option M.P} (hg:∀ i p v,g i=some p->zN K ρ H (.ref i) v->qS K H v (ofP p)/\(ofP p).canLay0=true):∀ {d:M.D}{p:M.P}{v:V},M.yw g d=some p->zN K ρ H d v->qS K H v (ofP p)/\(ofP p).canLay0=true
 | .non,_,_,e,r=>by cases e;cases r;exact⟨.non,rfl⟩
 | .bl _,_,_,e,r=>by cases e;cases r;exact⟨.bl _,rfl⟩
 | .int _,_,_,e,r=>by cases e;cases r;exact⟨.int _,rfl⟩
 | .str x,_,_,e,r=>by
  cases e
  obtain⟨rfl,ok⟩:=r
  refine⟨.str _,?_⟩
  show PyData.strOk (ofT x)=true
  unfold PyData.strOk ofT
  have ok':x.all (fun c=>decide (c < 1114112))=true:=ok
  simpa using ok'
 | .tup ds,_,_,e,r=>by
  obtain⟨l,xs,rfl,hq,rr⟩:=r
  have e':(M.yw.all g ds).map M.P.tup=some _:=e
  cases q:M.yw.all g ds with
  | none=>rw[q] at e';cases e'
  | some ps =>
   rw[q] at e'
   cases e'
   obtain⟨h1,h2⟩:=zDh hg q rr
   exact⟨.tup hq h1,h2⟩
 | .ro ds,_,_,e,r=>by
  obtain⟨l,xs,rfl,hq,rr⟩:=r
  have e':(M.yw.all g ds).map M.P.lst=some _:=e
  cases q:M.yw.all g ds with
  | none=>rw[q] at e';cases e'
  | some ps =>
   rw[q] at e'
   cases e'
   obtain⟨h1,h2⟩:=zDh hg q rr
   exact⟨.lst hq.sq h1,h2⟩
 | .ref i,_,_,e,r=>hg i _ _ e r
 | .ty _,_,_,e,_=>by cases e
theorem zDh {g:Nat->Option M.P} (hg:∀ i p v,g i=some p->zN K ρ H (.ref i) v->qS K H v (ofP p)/\(ofP p).canLay0=true):∀ {ds:List M.D}{ps:List M.P}{xs:List V},M.yw.all g ds=some ps->zO K ρ H ds xs->Z3 K H xs (ofP.all ps)/\PyData.canLayAll0 (ofP.all ps)=true
 | [],_,_,e,r=>by cases e;cases r;exact⟨.nil,rfl⟩
 | d::ds,_,_,e,r=>by
  obtain⟨y,ys,rfl,r1,r2⟩:=r
  have e':(match M.yw g d,M.yw.all g ds with | some p,some ps=>some (p::ps) | _,_=>none)=some _:=e
  cases q1:M.yw g d with
  | none=>rw[q1] at e';cases e'
  | some p =>
   cases q2:M.yw.all g ds with
   | none=>rw[q1,q2] at e';cases e'
   | some ps =>
    rw[q1,q2] at e'
    cases e'
    obtain⟨h1,h2⟩:=zHc hg q1 r1
    obtain⟨h3,h4⟩:=zDh hg q2 r2
    refine⟨.cons h1 h3,?_⟩
    show (PyData.canLay0 (ofP p) && PyData.canLayAll0 (ofP.all ps))=true
    rw[h2,h4];rfl
end
theorem zCL {S:M.S} (rp:zW K Θ ρ S H):∀ (n:Nat) {d:M.D}{p:M.P}{v:V},M.toP n S d=some p->zN K ρ H d v->qS K H v (ofP p)/\(ofP p).canLay0=true
 | 0,_,_,_,e,r=>zHc (fun i p v e _=>by cases e) e r
 | n+1,_,_,_,e,r=>zHc (fun i p v e r=>by
   obtain⟨a,rfl,ea⟩:=r
   have e':(match M.jN S i with | some xs=>(M.yw.all (fun j=>M.toP n S (.ref j)) xs).map M.P.lst | none=>none)=some p:=e
   cases q:S[i]? with
   | none=>simp[M.jN,q] at e'
   | some o =>
    cases o with
    | lst xs =>
     simp only[M.jN,q] at e'
     obtain⟨zs,e1,rr⟩:=Zy rp ea q
     cases q2:M.yw.all (fun j=>M.toP n S (.ref j)) xs with
     | none=>rw[q2] at e';cases e'
     | some ps =>
      rw[q2] at e'
      cases e'
      obtain⟨h1,h2⟩:=zDh (fun j p v e r=>zCL rp n e r) q2 rr
      exact⟨.lst (SqL.of e1) h1,h2⟩
    | dct kvs=>simp[M.jN,q] at e'
    | fdc _=>simp[M.jN,q] at e'
    | ins c fs=>simp[M.jN,q] at e') e r
end
noncomputable abbrev DR (K:PySem.W.Frag) (ρ:List Addr) (H:Hp):List (M.D×M.D)->List (Key×V)->Prop:=Paired fun p q=>Zc p.1 q.1/\zN K ρ H p.2 q.2
theorem zC9 {d e:M.D}{a b:Key} (ha:Zc d a) (hb:Zc e b):(a=b)=(d=e):=by
 cases d with
 | int i =>
  cases ha
  cases e with
  | int j=>cases hb;exact propext ⟨fun z=>by cases z;rfl,fun z=>by cases z;rfl⟩
  | str y=>obtain⟨rfl,_⟩:=hb;exact propext ⟨fun z=>(nomatch z),fun z=>(nomatch z)⟩
  | _=>exact hb.elim
 | str x =>
  obtain⟨rfl,_⟩:=ha
  cases e with
  | int j=>cases hb;exact propext ⟨fun z=>(nomatch z),fun z=>(nomatch z)⟩
  | str y=>obtain⟨rfl,_⟩:=hb;exact propext ⟨fun z=>by rw[zET (Sum.inr.inj z)],fun z=>by cases z;rfl⟩
  | _=>exact hb.elim
 | _=>exact ha.elim
theorem Je {ρ:List Addr}{H:Hp}{d:M.D}{v:V} (h:M.yt d=true) (r:zN K ρ H d v):∃ k,Zc d k/\v=kV k:=by
 cases d with
 | int i=>cases r;exact⟨.inl i,rfl,rfl⟩
 | str x=>obtain⟨rfl,ok⟩:=r;exact⟨.inr (ofT x),⟨rfl,ok⟩,rfl⟩
 | _=>cases h
section
variable {ρ:List Addr}{H:Hp}{kvs:List (M.D×M.D)}{ks:List (Key×V)}{d:M.D}{k:Key}
theorem DR.val (r:DR K ρ H kvs ks) (hk:Zc d k):match M.yx d kvs with | some e=>∃ v,Ze ks k=some v/\zN K ρ H e v | none=>Ze ks k=none:=by
 induction r with
 | nil=>exact rfl
 | @cons p q ps qs h t ih =>
  have e:=zC9 h.1 hk
  by_cases hd:p.1=d
  ·have hq:q.1=k:=e.mpr hd
   rw[zBR hq,M.yx,List.lookup_cons,beq_iff_eq.mpr hd.symm]
   exact⟨_,rfl,h.2⟩
  ·have hq:¬ q.1=k:=fun z=>hd (e.mp z)
   rw[zBa hq,M.yx,List.lookup_cons,beq_eq_false_iff_ne.mpr (Ne.symm hd)]
   exact ih
theorem DR.any (r:DR K ρ H kvs ks) (hk:Zc d k):(ks.any fun kv=>decide (kv.1=k))=kvs.any fun kv=>decide (kv.1=d):=by
 induction r with
 | nil=>rfl
 | @cons p q ps qs h t ih =>
  rw[List.any_cons,List.any_cons,ih]
  congr 1
  exact decide_eq_decide.mpr (zC9 h.1 hk ▸ Iff.rfl)
theorem DR.put (r:DR K ρ H kvs ks) (hk:Zc d k) {e:M.D}{v:V} (rv:zN K ρ H e v):DR K ρ H (M.Zp d e kvs) (ZW ks k v):=by
 unfold M.Zp ZW
 rw[r.any hk]
 by_cases ha:(kvs.any fun kv=>decide (kv.1=d))=true
 ·rw[if_pos ha,if_pos ha]
  clear ha
  induction r with
  | nil=>exact .nil
  | @cons p q ps qs h t ih =>
   rw[List.map_cons,List.map_cons]
   refine .cons ?_ ih
   have eq:=zC9 h.1 hk
   by_cases hd:p.1=d
   ·rw[if_pos hd,if_pos (eq.mpr hd)];exact⟨h.1,rv⟩
   ·rw[if_neg hd,if_neg fun z=>hd (eq.mp z)];exact h
 ·rw[if_neg ha,if_neg ha]
  exact Paired.snoc r ⟨hk,rv⟩
end
theorem Jq {ρ:List Addr}{S:M.S}{H:Hp} (rp:zW K Θ ρ S H) {i:Nat}{a:Addr} (ha:ρ[i]? = some a) {kvs:List (M.D×M.D)} (q:S[i]? = some (.dct kvs)):∃ ks,H a=some (.dK ks)/\DR K ρ H kvs ks:=by
 obtain⟨b,e1,zs,e2,r⟩:=rp.obj i _ q
 rw[ha] at e1;cases e1
 exact⟨zs,e2,r⟩
theorem zIn {ρ:List Addr}{S:M.S}{H:Hp} (rp:zW K Θ ρ S H) {i:Nat}{a:Addr} (ha:ρ[i]? = some a) {kvs:List (M.D×M.D)} (q:S[i]? = some (.fdc kvs)):∃ o ks,H a=some (.frz o (.dK ks))/\DR K ρ H kvs ks:=by
 obtain⟨b,e1,o,zs,e2,r⟩:=rp.obj i _ q
 rw[ha] at e1;cases e1
 exact⟨o,zs,e2,r⟩
inductive JK (K:PySem.W.Frag) (H:Hp) (kb:List (Key×V)):List (Key×V)->Bool->Prop where
 | nil:JK K H kb [] true
 | miss {k:Key}{v:V}{r:List (Key×V)} (h:Ze kb k=none):JK K H kb ((k,v)::r) false
 | hit {k:Key}{v y:V}{r:List (Key×V)}{d e:PyData}{b:Bool} (h:Ze kb k=some y) (hd:qS K H v d) (he:qS K H y e) (sd:SeqAt.shaped d=true) (se:SeqAt.shaped e=true) (t:JK K H kb r b):JK K H kb ((k,v)::r) (PyData.eqv d e && b)
noncomputable def zKX (neg:Bool) (K:PySem.W.Frag):R2:=fun x y H Q=>∃ a b ka kb r,x=.ref a/\y=.ref b/\H a=some (.dK ka)/\H b=some (.dK kb)/\(ka.length=kb.length->JK K H kb ka r)/\Q (.bl (if neg then !(ka.length == kb.length && r) else (ka.length == kb.length && r))) H
theorem zEl {X:Cx}{pins:List (Addr×Obj)}{σ:St}{H:Hp}{s:Shared}{A:Around} (I:Inv X pins σ H s) (hu:A.units+64 < cLine) {kb:List (Key×V)}{vb:List (Key×Value)} (rb:KV kb vb):∀ {ka:List (Key×V)}{va:List (Key×Value)}{r:Bool},KV ka va->JK X.K H kb ka r->PySem.W.KeqHits A s vb va r
 | _,_,_,ra,.nil=>by cases ra;exact .nil
 | _,_,_,ra,.miss h=>by
  cases ra with
  | @cons p q ps qs h1 t =>
   obtain⟨k,v⟩:=q
   have hk:_=k:=h1.1
   have hv:=rb.val k
   rw[<- hk,h] at hv
   refine .miss ?_
   rw[<- hk]
   cases q2:valueAt vb _ with
   | none=>rfl
   | some w=>rw[q2] at hv;exact hv.elim
 | _,_,_,ra,.hit h hd he sd se t=>by
  cases ra with
  | @cons p q ps qs h1 t1 =>
   obtain⟨k,v⟩:=q
   have hk:_=k:=h1.1
   have hv:=rb.val k
   rw[<- hk,h] at hv
   cases q2:valueAt vb k with
   | none=>rw[hk,q2] at hv;exact hv.elim
   | some w =>
    rw[hk,q2] at hv
    obtain⟨as,r1⟩:=hd.reads I h1.2
    obtain⟨bs,r2⟩:=he.reads I hv
    exact .hit q2 (SeqAt.eqAt_reads _ _ A s _ _ as bs r1 r2 (SeqAt.canLay_of_shaped sd) (SeqAt.canLay_of_shaped se) (SeqAt.room_of_shaped sd hu)) (zEl I hu rb t1 t)
theorem zNL {X:Cx}{k:Nat} (hr:zy k X.A):OpR X (compareOp .Eq) (zKX false X.K):=by
 intro pins s σ H x y v u Q I rx ry h
 obtain⟨a,b,ka,kb,r,rfl,rfl,ha,hb,hh,q⟩:=h
 cases rx;cases ry
 obtain⟨za,la,va,ra,da⟩:=zBJ I.hok ha
 obtain⟨zb,lb,vb,rb,db⟩:=zBJ I.hok hb
 refine PySem.W.keq_eq la lb da db hr.units0 (fun e=>zEl I (by show X.A.units+1+64 < _;have:=hr.un;omega) rb ra (hh (by rw[ra.length,rb.length];exact e))) ⟨.bl _,H,I,rfl,?_⟩
 rw[<- ra.length,<- rb.length]
 exact q
theorem zM0 {X:Cx}{k:Nat} (hr:zy k X.A):OpR X (compareOp .NotEq) (zKX true X.K):=by
 intro pins s σ H x y v u Q I rx ry h
 obtain⟨a,b,ka,kb,r,rfl,rfl,ha,hb,hh,q⟩:=h
 cases rx;cases ry
 obtain⟨za,la,va,ra,da⟩:=zBJ I.hok ha
 obtain⟨zb,lb,vb,rb,db⟩:=zBJ I.hok hb
 refine PySem.W.keq_ne la lb da db hr.units0 (fun e=>zEl I (by show X.A.units+1+64 < _;have:=hr.un;omega) rb ra (hh (by rw[ra.length,rb.length];exact e))) ⟨.bl _,H,I,rfl,?_⟩
 rw[<- ra.length,<- rb.length]
 exact q
theorem zFq {ρ:List Addr}{H:Hp}{S:M.S} (rp:zW K Θ ρ S H) {ws:List (M.D×M.D)}{kb:List (Key×V)} (rb:DR K ρ H ws kb):∀ {ks:List (M.D×M.D)}{ka:List (Key×V)}{b:Bool},DR K ρ H ks ka->M.dEq S ws ks=some b->JK K H kb ka b
 | _,_,_,.nil,e=>by cases e;exact .nil
 | (k,v)::ks,(kk,vv)::ka,b,.cons h t,e=>by
  have hv:=DR.val rb h.1
  unfold M.dEq at e
  cases q:M.yx k ws with
  | none =>
   rw[q] at e hv
   cases e
   exact .miss hv
  | some w =>
   rw[q] at e hv
   obtain⟨y,hy,ry⟩:=hv
   dsimp only at e
   cases q1:M.toP 8 S v with
   | none=>rw[q1] at e;cases e
   | some p1 =>
    cases q2:M.toP 8 S w with
    | none=>rw[q1,q2] at e;cases e
    | some p2 =>
     cases q3:M.dEq S ws ks with
     | none=>rw[q1,q2,q3] at e;cases e
     | some b' =>
      rw[q1,q2,q3] at e
      dsimp only at e
      by_cases hc:M.P.dep p1 <= 64/\M.P.dep p2 <= 64
      ·rw[if_pos hc] at e
       cases e
       obtain⟨d1,c1⟩:=zCL rp _ q1 h.2
       obtain⟨d2,c2⟩:=zCL rp _ q2 ry
       rw[<- zEg]
       refine .hit hy d1 d2 ?_ ?_ (zFq rp rb t q3)
       ·unfold SeqAt.shaped;rw[c1,Bool.true_and,zAy];exact decide_eq_true hc.1
       ·unfold SeqAt.shaped;rw[c2,Bool.true_and,zAy];exact decide_eq_true hc.2
      ·rw[if_neg hc] at e;cases e
theorem zGT {ρ:List Addr}{H:Hp}{S:M.S}{x y:M.D}{X1 Y:V}{Q':Bool->Hp->Prop} (rp:zW K Θ ρ S H) (rx:zN K ρ H x X1) (ry:zN K ρ H y Y) (h:zF K Θ rB ρ H (M.zDm x y S) Q') :
  ∃ a b ka kb r,X1=.ref a/\Y=.ref b/\H a=some (.dK ka)/\H b=some (.dK kb)/\(ka.length=kb.length->JK K H kb ka r)/\Q' (ka.length == kb.length && r) H:=by
 unfold M.zDm at h
 split at h
 ·rename_i i j
  split at h
  ·rename_i ks ws e1 e2
   obtain⟨a,rfl,ha⟩:=rx
   obtain⟨b,rfl,hb⟩:=ry
   obtain⟨ka,h1,r1⟩:=Jq rp ha e1
   obtain⟨kb,h2,r2⟩:=Jq rp hb e2
   have l1:=Paired.length r1
   have l2:=Paired.length r2
   split at h
   ·rename_i hl
    split at h
    ·rename_i bb q
     refine⟨a,b,ka,kb,bb,rfl,rfl,h1,h2,fun _=>zFq rp r2 r1 q,?_⟩
     rw[show (ka.length == kb.length)=true by rw[beq_iff_eq];omega,Bool.true_and]
     exact zF.here (b:=bb) h rp rfl
    ·exact h.elim
   ·rename_i hl
    refine⟨a,b,ka,kb,false,rfl,rfl,h1,h2,fun e=>absurd (by omega) hl,?_⟩
    rw[Bool.and_false]
    exact zF.here (b:=false) h rp rfl
  ·exact h.elim
 ·exact h.elim
noncomputable def zHl (K:PySem.W.Frag) (neg:Bool):R2:=fun x y H Q=>(zEP x y=true/\Q (.bl (if neg then !decide (x=y) else decide (x=y))) H)\/zJw K neg x y H Q\/zKX neg K x y H Q
theorem jz {X:Cx}{k:Nat} (hr:zy k X.A):OpR X (compareOp .Eq) (zHl X.K false):=by
 intro pins s σ H x y v u Q I rx ry h
 rcases h with h | h | h
 ·exact zOO pins s σ H x y v u Q I rx ry h
 ·exact zM5 hr pins s σ H x y v u Q I rx ry h
 ·exact zNL hr pins s σ H x y v u Q I rx ry h
theorem zOE {X:Cx}{k:Nat} (hr:zy k X.A):OpR X (compareOp .NotEq) (zHl X.K true):=by
 intro pins s σ H x y v u Q I rx ry h
 rcases h with h | h | h
 ·exact zOV pins s σ H x y v u Q I rx ry h
 ·exact zM8 hr pins s σ H x y v u Q I rx ry h
 ·exact zM0 hr pins s σ H x y v u Q I rx ry h
theorem zG6 {ρ:List Addr}{H:Hp}{S:M.S}{x y:M.D}{X1 Y:V}{Q':Bool->Hp->Prop} (rp:zW K Θ ρ S H) (rx:zN K ρ H x X1) (ry:zN K ρ H y Y) (h:zF K Θ rB ρ H (M.eqD x y S) Q') :
  (zEP X1 Y=true/\Q' (decide (X1=Y)) H)\/(∃ d e,qS K H X1 d/\qS K H Y e/\SeqAt.shaped d=true/\SeqAt.shaped e=true/\Q' (PyData.eqv d e) H)\/∃ a b ka kb r,X1=.ref a/\Y=.ref b/\H a=some (.dK ka)/\H b=some (.dK kb)/\(ka.length=kb.length->JK K H kb ka r)/\Q' (ka.length == kb.length && r) H:=by
 have gen:∀ {p q:M.P},M.toP M.JV S x=some p->M.toP M.JV S y=some q->M.P.dep p <= 64/\M.P.dep q <= 64->Q' (M.P.eqv p q) H->∃ d e,qS K H X1 d/\qS K H Y e/\SeqAt.shaped d=true/\SeqAt.shaped e=true/\Q' (PyData.eqv d e) H:=fun {p q} e1 e2 hd hq=>by
  obtain⟨d1,c1⟩:=zCL rp _ e1 rx
  obtain⟨d2,c2⟩:=zCL rp _ e2 ry
  refine⟨_,_,d1,d2,?_,?_,by rw[zEg];exact hq⟩
  ·unfold SeqAt.shaped;rw[c1,Bool.true_and,zAy];exact decide_eq_true hd.1
  ·unfold SeqAt.shaped;rw[c2,Bool.true_and,zAy];exact decide_eq_true hd.2
 have jY:zF K Θ rB ρ H (match M.toP M.JV S x,M.toP M.JV S y with
   | some p,some q=>if M.P.dep p <= 64/\M.P.dep q <= 64 then M.R.ok (M.P.eqv p q) S else .no
   | _,_=>M.zDm x y S) Q'->(∃ d e,qS K H X1 d/\qS K H Y e/\SeqAt.shaped d=true/\SeqAt.shaped e=true/\Q' (PyData.eqv d e) H)\/∃ a b ka kb r,X1=.ref a/\Y=.ref b/\H a=some (.dK ka)/\H b=some (.dK kb)/\(ka.length=kb.length->JK K H kb ka r)/\Q' (ka.length == kb.length && r) H:=fun h'=>by
  cases e1:M.toP M.JV S x with
  | none=>rw[e1] at h';exact .inr (zGT rp rx ry h')
  | some p =>
   cases e2:M.toP M.JV S y with
   | none=>rw[e1,e2] at h';exact .inr (zGT rp rx ry h')
   | some q =>
    rw[e1,e2] at h'
    dsimp only at h'
    by_cases hc:M.P.dep p <= 64/\M.P.dep q <= 64
    ·rw[if_pos hc] at h';exact .inl <| gen e1 e2 hc (zF.here (b:=M.P.eqv p q) h' rp rfl)
    ·rw[if_neg hc] at h';exact h'.elim
 have sc:∀ {b:Bool},zEP X1 Y=true->decide (X1=Y)=b->M.eqD x y S=.ok b S->(zEP X1 Y=true/\Q' (decide (X1=Y)) H):=fun {b} h1 h2 h3=>by
  rw[h3] at h
  rw[h2]
  exact⟨h1,zF.here (b:=b) h rp rfl⟩
 cases x with
 | str a =>
  cases y with
  | str b =>
   obtain⟨rfl,_⟩:=rx
   obtain⟨rfl,_⟩:=ry
   refine .inl (sc rfl ?_ rfl)
   by_cases hab:a=b
   ·subst hab;simp
   ·rw[decide_eq_false hab,decide_eq_false fun e=>hab (zET (V.str.inj e))]
  | _=>exact .inr (jY h)
 | int a =>
  cases y with
  | int b =>
   cases rx;cases ry
   refine .inl (sc rfl ?_ rfl)
   by_cases hab:a=b
   ·subst hab;simp
   ·rw[decide_eq_false hab,decide_eq_false fun e=>hab (V.int.inj e)]
  | _=>exact .inr (jY h)
 | bl a =>
  cases y with
  | bl b =>
   cases rx;cases ry
   refine .inl (sc rfl ?_ rfl)
   by_cases hab:a=b
   ·subst hab;simp
   ·rw[decide_eq_false hab,decide_eq_false fun e=>hab (V.bl.inj e)]
  | _=>exact .inr (jY h)
 | non =>
  cases y with
  | non=>cases rx;cases ry;exact .inl (sc rfl rfl rfl)
  | _=>exact .inr (jY h)
 | _=>exact .inr (jY h)
theorem qX:AdC K Θ M.cEq (zHl K false):=by
 intro ρ H S x y X1 Y Q rp rx ry h
 rcases zG6 rp rx ry h with h | ⟨d,e,h1,h2,h3,h4,h5⟩ | ⟨a,b,ka,kb,r,h⟩
 ·exact .inl h
 ·exact .inr (.inl ⟨d,e,h1,h2,h3,h4,h5⟩)
 ·exact .inr (.inr ⟨a,b,ka,kb,r,h⟩)
theorem zOX:AdC K Θ M.cNe (zHl K true):=by
 intro ρ H S x y X1 Y Q rp rx ry h
 have h':zF K Θ rB ρ H (M.eqD x y S) (fun b H'=>Q (.bl (!b)) H'):=zF.bind h fun ρ1 H1 b b' S1 p1 l1 rp1 e h1=>by cases e;exact zF.here (b:=!b) h1 rp1 rfl
 rcases zG6 rp rx ry h' with h | ⟨d,e,h1,h2,h3,h4,h5⟩ | ⟨a,b,ka,kb,r,h⟩
 ·exact .inl h
 ·exact .inr (.inl ⟨d,e,h1,h2,h3,h4,h5⟩)
 ·exact .inr (.inr ⟨a,b,ka,kb,r,h⟩)
end
end L2
namespace L2
open PySem PySem.Spec PyProof.Rows
section
variable {K:PySem.W.Frag}{Θ:Tab}
theorem zAu (n d:Nat) (o:Option Int):M.sIx n d o=HT.sIx n d o:=by
 cases o with
 | none=>rfl
 | some v =>
  have:=HT.zEf v n d
  show (if v < 0 then max (v+(n:Int)) 0 else min v (n:Int)).toNat=_
  rw[this];simp
theorem zEY {x:M.T}{lo hi:Option Int}:∀ c∈M.cut x lo hi,c∈x:=fun c hc=>List.mem_of_mem_drop (List.mem_of_mem_take hc)
theorem zEO {ρ:List Addr}{H:Hp}{ds:List M.D}{xs:List V} (r:zO K ρ H ds xs) (lo hi:Option Int):zO K ρ H (M.cut ds lo hi) (zAW xs lo hi):=by
 unfold M.cut zAW
 rw[zAu,zAu,r.length]
 exact (r.drop _).take _
theorem JJ:∀ ρ H S x X1 l u Q,zW K Θ ρ S H->zN K ρ H x X1->zF K Θ (zN K) ρ H (M.slD x l u S) Q->uSl K X1 l u H Q:=by
 intro ρ H S x X1 l u Q rp rx h
 cases x with
 | str z =>
  obtain⟨rfl,ok⟩:=rx
  by_cases hz:z.length <= M.SZ
  ·simp only[M.slD,if_pos hz] at h
   refine⟨by rw[jw,<- Z9];exact hz,zF.here h rp ⟨?_,zCj ok zEY⟩⟩
   show V.str (zEp (ofT z) l u)=V.str (ofT (M.cut z l u))
   unfold zEp M.cut ofT
   have e:(⟨z.toArray⟩:Str).length=z.length:=by simp[Str.length]
   rw[e,zAu,zAu]
  ·simp only[M.slD,if_neg hz] at h;exact h.elim
 | tup ds =>
  obtain⟨a,xs,rfl,hq,r⟩:=rx
  by_cases hc:M.sIx ds.length 0 l=0/\M.sIx ds.length ds.length u=ds.length
  ·simp only[M.slD,if_pos hc] at h;exact h.elim
  ·simp only[M.slD,if_neg hc] at h
   refine .inr ⟨xs,hq,?_,fun p hp=>h ρ _ _ (List.prefix_refl _) (Le.new hp _) (rp.aside hp _) ⟨p,_,rfl,SqT.of jU,(zEO r l u).mono (List.prefix_refl _) (Le.new hp _)⟩⟩
   rw[zAu,zAu,r.length] at hc
   exact hc
 | ro ds =>
  obtain⟨a,xs,rfl,hq,r⟩:=rx
  exact .inl ⟨xs,hq.sq,fun p hp=>zF.alloc h rp (zEO r l u) hp⟩
 | ref p =>
  obtain⟨a,rfl,ea⟩:=rx
  cases q:S[p]? with
  | none=>simp[M.slD,M.jN,q] at h;exact h.elim
  | some o =>
   cases o with
   | lst xs =>
    simp only[M.slD,M.jN,q] at h
    obtain⟨zs,e1,r⟩:=Zy rp ea q
    exact .inl ⟨zs,SqL.of e1,fun p hp=>zF.alloc h rp (zEO r l u) hp⟩
   | dct kvs=>simp[M.slD,M.jN,q] at h;exact h.elim
   | fdc _=>simp[M.slD,M.jN,q] at h;exact h.elim
   | ins c fs=>simp[M.slD,M.jN,q] at h;exact h.elim
 | _=>exact h.elim
theorem zE6 {ρ:List Addr}{H:Hp}:∀ {ds:List M.D}{ys:List V}{bs:List Bool},M.zAN ds=some bs->zO K ρ H ds ys->ys=bs.map V.bl
 | [],_,_,e,r=>by cases e;cases r;rfl
 | .bl b::ds,_,_,e,r=>by
  obtain⟨y,ys,rfl,r1,r2⟩:=r
  cases r1
  have e':(M.zAN ds).map (b :: ·)=some _:=e
  cases q:M.zAN ds with
  | none=>rw[q] at e';cases e'
  | some cs=>rw[q] at e';cases e';rw[zE6 q r2];rfl
 | .non::_,_,_,e,_=>by cases e
 | .int _::_,_,_,e,_=>by cases e
 | .str _::_,_,_,e,_=>by cases e
 | .tup _::_,_,_,e,_=>by cases e
 | .ro _::_,_,_,e,_=>by cases e
 | .ref _::_,_,_,e,_=>by cases e
 | .ty _::_,_,_,e,_=>by cases e
theorem zLN:AdK K Θ M.zDQ (zML K):=by
 intro ρ H S ds ys p Q rp r hq h
 cases e:M.zAN ds with
 | none=>simp only[M.zDQ,e] at h;exact h.elim
 | some bs =>
  simp only[M.zDQ,e] at h
  have:=zE6 e r
  subst this
  exact⟨p,bs,rfl,hq,zF.here (b:=V.bl (bs.all id)) h rp rfl⟩
theorem zB9 {ρ:List Addr}{H:Hp}:∀ {ds:List M.D}{ys:List V}{ts:List M.T},M.JL ds=some ts->zO K ρ H ds ys->ys=(ts.map ofT).map V.str/\∀ t∈ts,okT t
 | [],_,_,e,r=>by cases e;cases r;exact⟨rfl,fun t h=>by cases h⟩
 | .str x::ds,_,_,e,r=>by
  obtain⟨y,ys,rfl,r1,r2⟩:=r
  obtain⟨rfl,ok⟩:=r1
  have e':(M.JL ds).map (x :: ·)=some _:=e
  cases q:M.JL ds with
  | none=>rw[q] at e';cases e'
  | some cs =>
   rw[q] at e'
   cases e'
   obtain⟨h1,h2⟩:=zB9 q r2
   refine⟨by rw[h1];rfl,fun t ht=>?_⟩
   rcases List.mem_cons.mp ht with rfl | ht
   ·exact ok
   ·exact h2 t ht
 | .non::_,_,_,e,_=>by cases e
 | .int _::_,_,_,e,_=>by cases e
 | .bl _::_,_,_,e,_=>by cases e
 | .tup _::_,_,_,e,_=>by cases e
 | .ro _::_,_,_,e,_=>by cases e
 | .ref _::_,_,_,e,_=>by cases e
 | .ty _::_,_,_,e,_=>by cases e
theorem zEt (x:M.T):∀ (ys:List M.T) (acc:M.T),((ys.map ofT).foldl (fun acc p=>acc++(ofT x).cps++p.cps) acc.toArray)=(acc++(ys.map (x ++ ·)).flatten).toArray
 | [],acc=>by simp
 | y::ys,acc=>by
  rw[List.map_cons,List.foldl_cons]
  have e:acc.toArray++(ofT x).cps++(ofT y).cps=(acc++x++y).toArray:=by simp[ofT]
  rw[e,zEt x ys]
  simp
theorem zDq (x y:M.T):∀ ys:List M.T,M.JH x (y::ys)=y++(ys.map (x ++ ·)).flatten
 | []=>by simp[M.JH]
 | z::ys=>by
  show y++x++M.JH x (z::ys)=_
  rw[zDq x z ys];simp
theorem zGy (x:M.T) (ys:List M.T):Txt.join (ofT x) (ys.map ofT)=ofT (M.JH x ys):=by
 cases ys with
 | nil=>rfl
 | cons y ys =>
  show (⟨(((y::ys).map ofT).drop 1).foldl (fun acc p=>acc++(ofT x).cps++p.cps) (((y::ys).map ofT).headD Str.empty).cps⟩:Str)=_
  rw[zDq,List.map_cons,List.drop_one,List.tail_cons]
  have:=zEt x ys y
  show (⟨(ys.map ofT).foldl _ y.toArray⟩:Str)=_
  rw[this];rfl
theorem zDJ {x:M.T} (hx:okT x):∀ {ys:List M.T},(∀ t∈ys,okT t)->okT (M.JH x ys)
 | [],_=>rfl
 | [y],h=>h y (by simp)
 | y::z::ys,h=>zCb (zCb (h y (by simp)) hx) (zDJ hx fun t ht=>h t (List.mem_cons_of_mem _ ht))
theorem zG7 (ts:List M.T):((ts.map ofT).map (·.length)).sum=(ts.map List.length).sum:=by
 rw[List.map_map]
 exact congrArg List.sum (List.map_congr_left fun t _=>jw t)
theorem zGc {y:M.T} (hy:okT y):∀ ρ H S ds ys p Q,zW K Θ ρ S H->zO K ρ H ds ys->(SqL K H p ys\/SqT K H p ys)->zF K Θ (zN K) ρ H (M.yu y ds S) Q->zFY K (.str (ofT y)) [.ref p] H Q:=by
 intro ρ H S ds ys p Q rp r hq h
 cases e:M.JL ds with
 | none=>simp only[M.yu,e] at h;exact h.elim
 | some ts =>
  obtain⟨rfl,ok⟩:=zB9 e r
  by_cases hz:(ts.map List.length).sum+ts.length * y.length <= M.SZ
  ·simp only[M.yu,e,if_pos hz] at h
   refine⟨ofT y,p,ts.map ofT,rfl,rfl,hq,?_,?_⟩
   ·rw[zG7,List.length_map,jw];exact hz
   ·rw[zGy];exact zF.here h rp ⟨rfl,zDJ hy ok⟩
  ·simp only[M.yu,e,if_neg hz] at h;exact h.elim
end
end L2
namespace L2
open PySem PySem.Spec PyProof.Rows
section
variable {K:PySem.W.Frag}{Θ:Tab}
theorem zBl (a:M.T):∀ (n:Nat) (acc:Array Nat),(List.replicate n a.toArray).foldl (· ++ ·) acc=acc++((List.replicate n a).flatten).toArray
 | 0,acc=>by simp
 | n+1,acc=>by
  rw[List.replicate_succ,List.foldl_cons,zBl a n,List.replicate_succ,List.flatten_cons]
  simp
theorem zL6 (a:M.T) (n:Int) (h0:0 <= n):Txt.mul (ofT a) n=ofT (List.replicate n.toNat a).flatten:=by
 unfold Txt.mul
 by_cases h1:n < 1
 ·have e:n.toNat=0:=by omega
  rw[if_pos h1,e];rfl
 ·rw[if_neg h1]
  by_cases h2:(n == 1 || (ofT a).length == 0)=true
  ·rw[if_pos h2]
   rw[Bool.or_eq_true] at h2
   rcases h2 with h2 | h2
   ·have e:n=1:=eq_of_beq h2
    subst e
    simp
   ·have e:a.length=0:=by rw[<- jw];exact eq_of_beq h2
    have e2:a=[]:=List.length_eq_zero_iff.mp e
    subst e2
    simp[ofT]
  ·rw[if_neg h2]
   have:=zBl a n.toNat #[]
   show (⟨(List.replicate n.toNat a.toArray).foldl (· ++ ·) #[]⟩:Str)=_
   rw[this];simp[ofT]
theorem zMr (a:M.T) (n:Int) (h0:0 <= n) (h1:n <= 1000000) (h2:a.length * n.toNat <= 1000000):MulOk (ofT a) n:=by
 refine⟨?_,fun h3 _=>?_,fun h3 _=>?_⟩
 ·rw[Bool.or_eq_false_iff]
  exact⟨decide_eq_false (by omega),decide_eq_false (by omega)⟩
 ·rw[jw]
  have hn:1 <= n.toNat:=by omega
  have ha:a.length <= 1000000:=Nat.le_trans (Nat.le_mul_of_pos_right _ (by omega)) h2
  have hd:(1000000:Int) <= (2 ^ 63 - 1) / n:=Int.le_ediv_of_mul_le (by omega) (by omega)
  omega
 ·rw[jw]
  unfold Builtin.Str.tooLong
  exact decide_eq_false (by rw[sizeLine_eq];omega)
noncomputable def zKx:R2:=fun x y H Q=>zNk x y H Q\/zNG x y H Q
theorem Qf {X:Cx}:OpR X (binaryOp .Mult) zKx:=OpR.or zOq zNK
theorem zO.flat {ρ:List Addr}{H:Hp}{ds:List M.D}{xs:List V} (h:zO K ρ H ds xs):∀ n:Nat,zO K ρ H (List.replicate n ds).flatten (List.replicate n xs).flatten
 | 0=>rfl
 | n+1=>by
  rw[List.replicate_succ,List.replicate_succ,List.flatten_cons,List.flatten_cons]
  exact zO.app h (zO.flat h n)
theorem Qh:Ad2 K Θ M.j4 zKx:=by
 intro ρ H S x y X Y Q rp rx ry h
 cases x with
 | int i =>
  cases y with
  | int j =>
   cases rx;cases ry
   have h':zF K Θ (zN K) ρ H (if (M.yp i || M.yp j)=true then M.R.ok (M.D.int (i * j)) S else .no) Q:=h
   by_cases hc:(M.yp i || M.yp j)=true
   ·rw[if_pos hc] at h'
    refine .inl ⟨?_,zF.here (b:=V.int (i * j)) h' rp rfl⟩
    rw[Bool.or_eq_true] at hc
    rcases hc with hc | hc
    ·exact .inl (zFg hc)
    ·exact .inr (zFg hc)
   ·rw[if_neg hc] at h';exact h'.elim
  | _=>exact h.elim
 | str a =>
  cases y with
  | int n =>
   obtain⟨rfl,oka⟩:=rx
   cases ry
   have h':zF K Θ (zN K) ρ H (if 0 <= n/\n.natAbs <= 1000000/\a.length * n.natAbs <= 1000000 then M.R.ok (M.D.str (List.replicate n.toNat a).flatten) S else .no) Q:=h
   by_cases hc:0 <= n/\n.natAbs <= 1000000/\a.length * n.natAbs <= 1000000
   ·rw[if_pos hc] at h'
    have hn:n.natAbs=n.toNat:=by omega
    refine .inl ⟨zMr a n hc.1 (by omega) (by rw[<- hn];exact hc.2.2),?_⟩
    show Q (.str (Txt.mul (ofT a) n)) H
    rw[zL6 a n hc.1]
    refine zF.here h' rp ⟨rfl,zCj oka fun c hc=>?_⟩
    obtain⟨l,hl,hcl⟩:=List.mem_flatten.mp hc
    rw[(List.mem_replicate.mp hl).2] at hcl
    exact hcl
   ·rw[if_neg hc] at h';exact h'.elim
  | _=>exact h.elim
 | ref p =>
  cases y with
  | int n =>
   cases ry
   have h':zF K Θ (zN K) ρ H (match M.jN S p with | some xs=>if n.natAbs <= 1000/\xs.length * n.natAbs <= 1000000 then M.alloc (.lst (List.replicate n.toNat xs).flatten) S else .no | none=>.no) Q:=h
   cases q:S[p]? with
   | none=>simp only[M.jN,q] at h';exact h'.elim
   | some o =>
    cases o with
    | lst ds =>
     simp only[M.jN,q] at h'
     obtain⟨a,rfl,ea⟩:=rx
     obtain⟨zs,e1,r⟩:=Zy rp ea q
     by_cases hc:n.natAbs <= 1000/\ds.length * n.natAbs <= 1000000
     ·rw[if_pos hc] at h'
      have hn:n.toNat <= n.natAbs:=by omega
      refine .inr ⟨a,n,zs,rfl,rfl,e1,by omega,by omega,?_,fun p hp=>zF.alloc h' rp (zO.flat r n.toNat) hp⟩
      have hm:=Nat.mul_le_mul_left ds.length hn
      rw[<- r.length,sizeLine_eq]
      omega
     ·rw[if_neg hc] at h';exact h'.elim
    | dct _=>simp only[M.jN,q] at h';exact h'.elim
    | fdc _=>simp only[M.jN,q] at h';exact h'.elim
    | ins _ _=>simp only[M.jN,q] at h';exact h'.elim
  | _=>exact h.elim
 | _=>exact h.elim
noncomputable def zN2 (K:PySem.W.Frag):R2:=fun x y H Q=>uIx K x y H Q\/∃ a v,x=.ref a/\zAY H a y (some v)/\Q v H
theorem jQ {X:Cx}{k:Nat} (hr:zy k X.A):IxR X (zN2 X.K):=by
 refine IxR.or zPY ?_
 intro value slice pins s σ H x y v u Q I rx ry h hs
 obtain⟨a,w',rfl,g,q⟩:=h
 cases rx
 exact tail_any (zGh I g) PySem.F.slot_dict_getitem.lookup (zIF (zHh hr) I g ry fun w2 s3 I3 rw'=>⟨w',H,I3,rw',q⟩) hs
noncomputable def zKt (K:PySem.W.Frag):List V->Hp->VK->Prop:=fun xs H Q=>zNd K xs H Q\/∃ a kvs,xs=[V.ref a]/\H a=some (.dK kvs)/\Q (.int kvs.length) H
theorem Zs {X:Cx}:j5 X (.builtin "len") (zKt X.K):=j5.or zOf zI8
theorem z7:Ad2 K Θ M.zR (zN2 K):=by
 intro ρ H S x y X Y Q rp rx ry h
 cases x with
 | str a =>
  cases y with
  | int i =>
   obtain⟨rfl,oka⟩:=rx
   cases ry
   have h':zF K Θ (zN K) ρ H (if a.length <= M.SZ then (match M.atI a i with | some c=>M.R.ok (M.D.str [c]) S | none=>.no) else .no) Q:=h
   by_cases hc:a.length <= M.SZ
   ·rw[if_pos hc] at h'
    cases q:M.atI a i with
    | none=>rw[q] at h';exact h'.elim
    | some c =>
     rw[q] at h'
     refine .inl ⟨c,by rw[jw,<- Z9];exact hc,?_,zF.here (b:=V.str (ofT [c])) h' rp ⟨rfl,zCj oka fun d hd=>by
      have e:d=c:=by simpa using hd
      rw[e]
      unfold M.atI at q
      cases qi:M.ixN a.length i with
      | none=>rw[qi] at q;cases q
      | some j=>rw[qi] at q;exact List.mem_of_getElem? q⟩⟩
     rw[J9];exact q
   ·rw[if_neg hc] at h';exact h'.elim
  | _=>exact h.elim
 | tup ds =>
  cases y with
  | int i =>
   obtain⟨l,xs,rfl,hq,r⟩:=rx
   cases ry
   have h':zF K Θ (zN K) ρ H (match M.atI ds i with | some d=>M.R.ok d S | none=>.no) Q:=h
   cases q:M.atI ds i with
   | none=>rw[q] at h';exact h'.elim
   | some d =>
    rw[q] at h'
    obtain⟨v,e1,rv⟩:=zEZ r q
    exact .inl ⟨xs,v,.inr hq,e1,zF.here h' rp rv⟩
  | _=>exact h.elim
 | ro ds =>
  cases y with
  | int i =>
   obtain⟨l,xs,rfl,hq,r⟩:=rx
   cases ry
   have h':zF K Θ (zN K) ρ H (match M.atI ds i with | some d=>M.R.ok d S | none=>.no) Q:=h
   cases q:M.atI ds i with
   | none=>rw[q] at h';exact h'.elim
   | some d =>
    rw[q] at h'
    obtain⟨v,e1,rv⟩:=zEZ r q
    exact .inl ⟨xs,v,.inl hq.sq,e1,zF.here h' rp rv⟩
  | _=>exact h.elim
 | ref p =>
  obtain⟨a,rfl,ea⟩:=rx
  cases q:S[p]? with
  | none=>simp[M.zR,q] at h;exact h.elim
  | some o =>
   cases o with
   | lst xs =>
    cases y with
    | int i =>
     cases ry
     obtain⟨zs,e1,r⟩:=Zy rp ea q
     cases q2:M.atI xs i with
     | none=>simp[M.zR,q,q2] at h;exact h.elim
     | some d =>
      simp[M.zR,q,q2] at h
      obtain⟨v,e2,rv⟩:=zEZ r q2
      exact .inl ⟨zs,v,.inl (SqL.of e1),e2,zF.here h rp rv⟩
    | _=>simp[M.zR,q] at h;exact h.elim
   | dct kvs =>
    by_cases hk:M.yt y=true
    case neg=>simp[M.zR,q,hk] at h;exact h.elim
    obtain⟨ks,e1,r⟩:=Jq rp ea q
    obtain⟨k,h1,rfl⟩:=Je hk ry
    have hv:=r.val h1
    cases q2:M.yx y kvs with
    | none=>simp[M.zR,q,hk,q2] at h;exact h.elim
    | some d =>
     simp[M.zR,q,hk,q2] at h
     rw[q2] at hv
     obtain⟨v,e2,rv⟩:=hv
     refine .inr ⟨a,v,rfl,?_,zF.here h rp rv⟩
     rw[<- e2]
     exact zAY.k e1
   | fdc kvs =>
    by_cases hk:M.yt y=true
    case neg=>simp[M.zR,q,hk] at h;exact h.elim
    obtain⟨fo,ks,e1,r⟩:=zIn rp ea q
    obtain⟨k,h1,rfl⟩:=Je hk ry
    have hv:=r.val h1
    cases q2:M.yx y kvs with
    | none=>simp[M.zR,q,hk,q2] at h;exact h.elim
    | some d =>
     simp[M.zR,q,hk,q2] at h
     rw[q2] at hv
     obtain⟨v,e2,rv⟩:=hv
     refine .inr ⟨a,v,rfl,?_,zF.here h rp rv⟩
     rw[<- e2]
     exact (.inl ⟨ks,k,.inr ⟨fo,e1⟩,rfl,rfl⟩)
   | ins c fs=>simp[M.zR,q] at h;exact h.elim
 | _=>exact h.elim
theorem J0:AdN K Θ M.QH (zKt K):=by
 intro ρ H S xs Xs Q rp rx h
 match xs,rx,h with
 | [.str a],rx,h =>
  obtain⟨_,_,rfl,⟨rfl,_⟩,rfl⟩:=rx
  have h':zF K Θ (zN K) ρ H (if a.length <= M.SZ then M.R.ok (M.D.int a.length) S else .no) Q:=h
  by_cases hc:a.length <= M.SZ
  ·rw[if_pos hc] at h'
   refine .inl ⟨by rw[jw,<- Z9];exact hc,?_⟩
   rw[jw]
   exact zF.here (b:=V.int a.length) h' rp rfl
  ·rw[if_neg hc] at h';exact h'.elim
 | [.tup ds],rx,h =>
  obtain⟨_,_,rfl,⟨l,ys,rfl,hq,r⟩,rfl⟩:=rx
  exact .inl ⟨ys,.inr hq,by rw[<- r.length];exact zF.here (b:=V.int ds.length) h rp rfl⟩
 | [.ro ds],rx,h =>
  obtain⟨_,_,rfl,⟨l,ys,rfl,hq,r⟩,rfl⟩:=rx
  exact .inl ⟨ys,.inl hq.sq,by rw[<- r.length];exact zF.here (b:=V.int ds.length) h rp rfl⟩
 | [.ref p],rx,h =>
  obtain⟨_,_,rfl,⟨a,rfl,ea⟩,rfl⟩:=rx
  cases q:S[p]? with
  | none=>simp[M.QH,q] at h;exact h.elim
  | some o =>
   cases o with
   | lst xs =>
    simp[M.QH,q] at h
    obtain⟨zs,e1,r⟩:=Zy rp ea q
    exact .inl ⟨zs,.inl (SqL.of e1),by rw[<- r.length];exact zF.here (b:=V.int xs.length) h rp rfl⟩
   | dct kvs =>
    simp[M.QH,q] at h
    obtain⟨ks,e1,r⟩:=Jq rp ea q
    exact .inr ⟨a,ks,rfl,e1,by rw[<- Paired.length r];exact zF.here (b:=V.int kvs.length) h rp rfl⟩
   | fdc _=>simp[M.QH,q] at h;exact h.elim
   | ins c fs=>simp[M.QH,q] at h;exact h.elim
 | [.non],_,h=>exact h.elim
 | [.bl _],_,h=>exact h.elim
 | [.int _],_,h=>exact h.elim
 | [.ty _],_,h=>exact h.elim
 | [],_,h=>exact h.elim
 | a::_::_,_,h=>cases a<;>exact h.elim
noncomputable def zGG (K:PySem.W.Frag) (neg:Bool):R2:=fun x y H Q=>uIn K neg x y H Q\/∃ a o,y=.ref a/\zAY H a x o/\Q (.bl (xor neg o.isSome)) H
theorem zDw {X:Cx}{k:Nat} (hr:zy k X.A):OpR X (compareOp .In) (zGG X.K false):=by
 refine OpR.or zPK ?_
 intro pins s σ H x y v u Q I rx ry h
 obtain⟨a,o,rfl,g,q⟩:=h
 cases ry
 exact zO0 (zHh hr) I g rx fun s' I'=>⟨.bl o.isSome,H,I',rfl,by rw[Bool.false_xor] at q;exact q⟩
theorem zCD {X:Cx}{k:Nat} (hr:zy k X.A):OpR X (compareOp .NotIn) (zGG X.K true):=by
 refine OpR.or zLP ?_
 intro pins s σ H x y v u Q I rx ry h
 obtain⟨a,o,rfl,g,q⟩:=h
 cases ry
 exact zLU (zHh hr) I g rx fun s' I'=>⟨.bl (!o.isSome),H,I',rfl,by rw[Bool.true_xor] at q;exact q⟩
theorem zF9 {ρ:List Addr}{H:Hp}{d:M.D}{v:V} (r:zN K ρ H d v):yr v=M.flat d:=by
 cases d with
 | non=>cases r;rfl
 | bl _=>cases r;rfl
 | int _=>cases r;rfl
 | str _=>obtain⟨rfl,_⟩:=r;rfl
 | ty _=>cases r;rfl
 | ref _=>obtain⟨_,rfl,_⟩:=r;rfl
 | tup _=>obtain⟨_,_,rfl,_⟩:=r;rfl
 | ro _=>obtain⟨_,_,rfl,_⟩:=r;rfl
theorem zL8 {ρ:List Addr}{H:Hp}{d e:M.D}{v u:V} (r:zN K ρ H d v) (q:zN K ρ H e u):eqV v u=M.eqF d e:=by
 cases d with
 | non =>
  cases r
  cases e with
  | str _=>obtain⟨rfl,_⟩:=q;rfl
  | ref _=>obtain⟨_,rfl,_⟩:=q;rfl
  | tup _=>obtain⟨_,_,rfl,_⟩:=q;rfl
  | ro _=>obtain⟨_,_,rfl,_⟩:=q;rfl
  | _=>cases q;rfl
 | bl _ =>
  cases r
  cases e with
  | str _=>obtain⟨rfl,_⟩:=q;rfl
  | ref _=>obtain⟨_,rfl,_⟩:=q;rfl
  | tup _=>obtain⟨_,_,rfl,_⟩:=q;rfl
  | ro _=>obtain⟨_,_,rfl,_⟩:=q;rfl
  | _=>cases q;rfl
 | int _ =>
  cases r
  cases e with
  | str _=>obtain⟨rfl,_⟩:=q;rfl
  | ref _=>obtain⟨_,rfl,_⟩:=q;rfl
  | tup _=>obtain⟨_,_,rfl,_⟩:=q;rfl
  | ro _=>obtain⟨_,_,rfl,_⟩:=q;rfl
  | _=>cases q;rfl
 | str x =>
  obtain⟨rfl,_⟩:=r
  cases e with
  | str y=>obtain⟨rfl,_⟩:=q;exact zGo x y
  | ref _=>obtain⟨_,rfl,_⟩:=q;rfl
  | tup _=>obtain⟨_,_,rfl,_⟩:=q;rfl
  | ro _=>obtain⟨_,_,rfl,_⟩:=q;rfl
  | _=>cases q;rfl
 | ty _=>cases r;rfl
 | ref _=>obtain⟨_,rfl,_⟩:=r;rfl
 | tup _=>obtain⟨_,_,rfl,_⟩:=r;rfl
 | ro _=>obtain⟨_,_,rfl,_⟩:=r;rfl
theorem zE7 {ρ:List Addr}{H:Hp}:∀ {ds:List M.D}{xs:List V},zO K ρ H ds xs->xs.all yr=ds.all M.flat
 | [],_,r=>by cases r;rfl
 | _::_,_,⟨y,ys,e,r1,r2⟩=>by subst e;rw[List.all_cons,List.all_cons,zF9 r1,zE7 r2]
theorem zFm {ρ:List Addr}{H:Hp}{x:M.D}{v:V} (rx:zN K ρ H x v):∀ {ds:List M.D}{xs:List V},zO K ρ H ds xs->inV v xs=M.Qm x ds
 | [],_,r=>by cases r;rfl
 | _::_,_,⟨y,ys,e,r1,r2⟩=>by
  subst e
  unfold inV M.Qm
  rw[List.any_cons,List.any_cons,zL8 r1 rx]
  have:=zFm rx r2
  unfold inV M.Qm at this
  rw[this]
theorem zDB (a:M.T):∀ b:M.T,M.zB0 a b=true ↔ ∃ i,i+a.length <= b.length/\(b.drop i).take a.length=a
 | []=>by
  simp only[M.zB0,List.isEmpty_iff]
  constructor
  ·rintro rfl;exact⟨0,by simp,by simp⟩
  ·rintro ⟨i,h,e⟩
   simp at h
   exact h.2
 | c::r=>by
  simp only[M.zB0,Bool.or_eq_true,zDB a r]
  constructor
  ·rintro (h | ⟨i,h,e⟩)
   ·have:=List.isPrefixOf_iff_prefix.mp h
    exact⟨0,by simpa using this.length_le,by simpa using (List.prefix_iff_eq_take.mp this).symm⟩
   ·exact⟨i+1,by simp;omega,by simpa using e⟩
  ·rintro ⟨i,h,e⟩
   cases i with
   | zero=>left;exact List.isPrefixOf_iff_prefix.mpr (List.prefix_iff_eq_take.mpr (by simpa using e.symm))
   | succ i=>right;exact⟨i,by simp at h;omega,by simpa using e⟩
theorem zIc (a b:M.T) (i:Nat):StrLaws.At (ofT b) (ofT a) (ofT b).length i↔(i+a.length <= b.length/\(b.drop i).take a.length=a):=by
 unfold StrLaws.At Builtin.Str.subAt
 rw[jw,jw]
 refine and_congr_right fun _=>?_
 rw[beq_iff_eq]
 constructor
 ·intro h
  have:=congrArg Array.toList h
  simpa [ofT,List.extract_eq_take_drop] using this
 ·intro h
  apply Array.ext'
  simpa [ofT,List.extract_eq_take_drop] using h
theorem zLf (a b:M.T):(!(Builtin.Str.occurrences (ofT b) (ofT a) 0 (ofT b).length 1).isEmpty)=M.zB0 a b:=by
 rcases StrLaws.occ_head (ofT b) (ofT a) 1 (by decide) with ⟨e,h⟩ | ⟨i,r,e,h,_⟩
 ·rw[e]
  have:¬ M.zB0 a b=true:=fun q=>by
   obtain⟨i,q⟩:=(zDB a b).mp q
   exact h i ((zIc a b i).mpr q)
  simpa using this
 ·rw[e]
  have:=(zDB a b).mpr ⟨i,(zIc a b i).mp h⟩
  simp[this]
theorem zG9 {neg:Bool}{ρ:List Addr}{H:Hp}{S:M.S}{x y:M.D}{X1 Y:V}{Q:VK} (rp:zW K Θ ρ S H) (rx:zN K ρ H x X1) (ry:zN K ρ H y Y) (h:zF K Θ rB ρ H (M.inD x y S) (fun b H'=>Q (.bl (xor neg b)) H')):zGG K neg X1 Y H Q:=by
 have seq:∀ {ds:List M.D}{xs:List V}{a:Addr},(SqL K H a xs\/SqT K H a xs)->zO K ρ H ds xs->zF K Θ rB ρ H (if (M.flat x && ds.all M.flat)=true then M.R.ok (M.Qm x ds) S else .no) (fun b H'=>Q (.bl (xor neg b)) H')->uIn K neg X1 (.ref a) H Q:=fun {ds xs a} hq r h'=>by
  by_cases hc:(M.flat x && ds.all M.flat)=true
  ·rw[if_pos hc] at h'
   rw[Bool.and_eq_true,<- zF9 rx,<- zE7 r] at hc
   have:=zF.here (b:=M.Qm x ds) h' rp rfl
   rw[<- zFm rx r] at this
   have g:∃ xs,(SqL K H a xs\/SqT K H a xs)/\yr X1=true/\xs.all yr=true/\Q (.bl (xor neg (inV X1 xs))) H:=⟨xs,hq,hc.1,hc.2,this⟩
   cases X1<;>exact g
  ·rw[if_neg hc] at h';exact h'.elim
 cases y with
 | str b =>
  cases x with
  | str a =>
   obtain⟨rfl,_⟩:=rx
   obtain⟨rfl,_⟩:=ry
   refine .inl ?_
   show Q (.bl (xor neg (!(Builtin.Str.occurrences (ofT b) (ofT a) 0 (ofT b).length 1).isEmpty))) H
   rw[zLf]
   exact zF.here (b:=M.zB0 a b) h rp rfl
  | _=>exact h.elim
 | tup ds =>
  obtain⟨l,xs,rfl,hq,r⟩:=ry
  exact .inl (seq (.inr hq) r h)
 | ro ds =>
  obtain⟨l,xs,rfl,hq,r⟩:=ry
  exact .inl (seq (.inl hq.sq) r h)
 | ref p =>
  obtain⟨a,rfl,ea⟩:=ry
  cases q:S[p]? with
  | none=>simp[M.inD,q] at h;exact h.elim
  | some o =>
   cases o with
   | lst ds =>
    obtain⟨zs,e1,r⟩:=Zy rp ea q
    refine .inl (seq (.inl (SqL.of e1)) r ?_)
    simp only[M.inD,q] at h
    exact h
   | dct kvs =>
    by_cases hk:M.yt x=true
    case neg=>simp[M.inD,q,hk] at h;exact h.elim
    simp only[M.inD,q,if_pos hk] at h
    obtain⟨ks,e1,r⟩:=Jq rp ea q
    obtain⟨k,h1,rfl⟩:=Je hk rx
    have hv:=r.val h1
    refine .inr ⟨a,Ze ks k,rfl,zAY.k e1,?_⟩
    have e2:(Ze ks k).isSome=(M.yx x kvs).isSome:=by
     cases q2:M.yx x kvs with
     | none=>rw[q2] at hv;rw[hv];rfl
     | some d=>rw[q2] at hv;obtain⟨v,e2,_⟩:=hv;rw[e2];rfl
    rw[e2]
    exact zF.here (b:=(M.yx x kvs).isSome) h rp rfl
   | fdc kvs =>
    by_cases hk:M.yt x=true
    case neg=>simp[M.inD,q,hk] at h;exact h.elim
    simp only[M.inD,q,if_pos hk] at h
    obtain⟨fo,ks,e1,r⟩:=zIn rp ea q
    obtain⟨k,h1,rfl⟩:=Je hk rx
    have hv:=r.val h1
    refine .inr ⟨a,Ze ks k,rfl,(.inl ⟨ks,k,.inr ⟨fo,e1⟩,rfl,rfl⟩),?_⟩
    have e2:(Ze ks k).isSome=(M.yx x kvs).isSome:=by
     cases q2:M.yx x kvs with
     | none=>rw[q2] at hv;rw[hv];rfl
     | some d=>rw[q2] at hv;obtain⟨v,e2,_⟩:=hv;rw[e2];rfl
    rw[e2]
    exact zF.here (b:=(M.yx x kvs).isSome) h rp rfl
   | ins c fs=>simp[M.inD,q] at h;exact h.elim
 | _=>exact h.elim
theorem zFb:AdC K Θ M.cIn (zGG K false):=by
 intro ρ H S x y X1 Y Q rp rx ry h
 refine zG9 rp rx ry ?_
 have h':zF K Θ rB ρ H (M.inD x y S) (fun b H'=>Q (.bl b) H'):=h
 revert h'
 cases M.inD x y S with
 | ok b s=>exact fun h' ρ1 H1 b' p l rp1 e=>by cases e;rw[Bool.false_xor];exact h' ρ1 H1 b p l rp1 rfl
 | exc e s=>exact fun h'=>h'
 | no=>exact fun h'=>h'
theorem zDL:AdC K Θ M.ZI (zGG K true):=by
 intro ρ H S x y X1 Y Q rp rx ry h
 exact zG9 rp rx ry (zF.bind h fun ρ1 H1 b b' S1 p1 l1 rp1 e h1=>by cases e;rw[Bool.true_xor];exact zF.here (b:=!b) h1 rp1 rfl)
theorem zNu {X:Cx}{e:Expr}{m:M.TM} (h:MW X Θ e m):MT X Θ e m:=PW.pt h
theorem Jw {X:Cx}{e:Expr}{m:M.TM} (h:WW X Θ e m):WT X Θ e m:=by with_unfolding_all exact zNu (X:=X) (e:=e) (m:=m) h
theorem Q9 {X:Cx}:QJ X [] (RdT X.K Θ M.yX):=fun pins s σ H Q I ⟨ρ,σ',S,st,rp,h⟩=>zKm pins s σ H Q I (zF.here (b:=true) h rp rfl)
theorem zIM {X:Cx}{c:Expr}{t:M.TM} (h:WT X Θ c t):QJ X [c] (RdT X.K Θ t):=zKA (by with_unfolding_all exact h)
theorem zGI {ρ:List Addr}{H:Hp}:∀ ns:List Int,zO K ρ H (ns.map .int) (ns.map V.int)
 | []=>rfl
 | n::ns=>⟨_,_,rfl,rfl,zGI ns⟩
theorem zNi {f:M.F} (ht:∀ ns:List Int,ns.length <= 63->∃ s,f [.ro (ns.map .int)] []=.ok (.bl true) s) {H:Hp}{a:Addr}{ns:List Int}{E:XK} (hl:ns.length <= 63) (hO:zGJ H) (hS:SqL K H a (ns.map V.int)):SpM K Θ 1 f [.ref a] H (fun v _=>v=.bl true) E:=by
 obtain⟨s,e⟩:=ht ns hl
 refine⟨[],[.ro (ns.map .int)],[],rfl,⟨_,_,rfl,⟨a,ns.map V.int,rfl,?_,zGI ns⟩,rfl⟩,⟨rfl,List.nodup_nil,fun i o q=>by simp at q⟩,?_⟩
 ·rcases hS with (h | h) | h
  ·rcases hO a with z | ⟨o,xs,z⟩
   ·rw[h] at z;cases z
   ·rw[h] at z;cases z
  ·exact .inl h
  ·exact .inr h
 ·rw[e]
  exact fun ρ' H' b _ _ _ r=>r
end
section
variable {P:Program}{w:World}{K:PySem.W.Frag}{mg:Str->Option Value}{base:Heap}{Θ:Tab}
theorem zNV {x qual:Str}{st:Stmt}{f:Addr}{fd:FuncData}{N ps:List Str}{k:Nat}{b:M.SM} (F:Fun K x qual st f fd) (Sc:jC N ps (zL st))
  (hbody:∀ (cdv:Value) (A:Around) (outer:List Env) (s:Shared) (H:Hp) (E:XK),zy k (A.deeper (envOfC qual (zL st) s.heap.objs.size f cdv)) ->
   MSs (Qa CX0 P w K mg base N qual (zL st) f cdv A outer s H E).nox Θ (zx st) b):jW P w K mg base CX0 (k+1) f fd ps (SpM K Θ ps.length (M.fn N.length b)):=by
 refine F.ok (k:=k) Sc (fun vs H Q E h=>?_) (fun cdv A outer s H vs Q E hr h=>?_)
 ·obtain⟨ρ,ds,S,hl,r,_⟩:=h
  rw[<- r.length,hl]
 ·obtain⟨ρ,ds,S,hl,r,rp,h⟩:=h
  refine⟨_,hbody cdv A outer s H E hr,ρ,_,S,zCP r N,rp,?_⟩
  have h':zF K Θ (zN K) ρ H (b (ds.map some++List.replicate (N.length - ds.length) none) S).out Q:=h
  show zi K Θ ρ H (b (ds.map some++List.replicate (N.length - ds.length) none) S) _
  revert h'
  cases b (ds.map some++List.replicate (N.length - ds.length) none) S with
  | rt a s=>exact fun h'=>h'
  | nx a s=>exact fun h' ρ1 H1 σ1 p1 l1 rp1 _=>h' ρ1 H1 .non p1 l1 rp1 rfl
  | bk a s=>exact fun h'=>h'.elim
  | ct a s=>exact fun h'=>h'.elim
  | exc e a s=>exact fun h'=>h'
  | no=>exact fun h'=>h'
theorem yJ {x qual:Str}{st:Stmt}{f:Addr}{fd:FuncData}{N ps:List Str}{k:Nat}{b:M.SM} (F:Fun K x qual st f fd) (Sc:jC N ps (zL st))
  (hbody:∀ (cdv:Value) (A:Around) (outer:List Env) (s:Shared) (H:Hp) (E:XK),zy k (A.deeper (envOfC qual (zL st) s.heap.objs.size f cdv)) ->
   WSs (Qa CX0 P w K mg base N qual (zL st) f cdv A outer s H E).nox Θ (zx st) b):jW P w K mg base CX0 (k+1) f fd ps (SpM K Θ ps.length (M.fn N.length b)):=by with_unfolding_all exact zNV (x:=x) (qual:=qual) (st:=st) (f:=f) (fd:=fd) (N:=N) (ps:=ps) (k:=k) (b:=b) F Sc hbody
end
end L2
namespace L2
open PySem PySem.Spec PyProof.Rows PySem.Builtin.Str
section
variable {K:PySem.W.Frag}{Θ:Tab}
theorem Jl {ρ:List Addr}{H:Hp}{S:M.S}{p:Nat}{X:V}{ds:List M.D} (rp:zW K Θ ρ S H) (rx:zN K ρ H (.ref p) X) (e:S[p]? = some (.lst ds)):∃ a xs,X=.ref a/\ρ[p]? = some a/\H a=some (.lst xs)/\zO K ρ H ds xs:=by
 obtain⟨a,rfl,ha⟩:=rx
 obtain⟨b,hb,xs,hx,r⟩:=rp.obj p _ e
 rw[ha] at hb;cases hb
 exact⟨a,xs,rfl,ha,hx,r⟩
theorem Jh {H:Hp}{a:Addr}{xs:List V} (h:H a=some (.lst xs)):Mut (H a):=by rw[h];trivial
theorem Z1:AdM K Θ M.ZK zGt:=by
 intro ρ H S x xs X Xs Q rp rx rxs h
 unfold M.ZK at h
 split at h
 ·rename_i p y
  obtain⟨Y,r,rfl,ry,rfl⟩:=rxs
  split at h
  ·rename_i ds e
   obtain⟨a,zs,rfl,ha,hx,rz⟩:=Jl rp rx e
   split at h
   ·rename_i hl
    have le:=Le.put (Jh hx) (.lst (zs++[Y]))
    refine⟨a,zs,Y,rfl,rfl,hx,by rw[<- Z9,<- rz.length];exact hl,?_⟩
    exact h ρ _ _ (List.prefix_refl _) le (rp.put ha (Jh hx) ⟨_,jU,(rz.mono (List.prefix_refl _) le).app ⟨_,_,rfl,ry.mono (List.prefix_refl _) le,rfl⟩⟩) rfl
   ·exact h.elim
  ·exact h.elim
 ·exact h.elim
theorem zJJ:AdM K Θ M.zCN zNW:=by
 intro ρ H S x xs X Xs Q rp rx rxs h
 unfold M.zCN at h
 split at h
 ·rename_i p
  cases rxs
  split at h
  ·rename_i ds e
   obtain⟨a,zs,rfl,ha,hx,rz⟩:=Jl rp rx e
   split at h
   ·rename_i y hy
    rw[List.getLast?_eq_getElem?] at hy
    obtain⟨Y,hY,ry⟩:=rz.get hy
    have le:=Le.put (Jh hx) (.lst zs.dropLast)
    exact⟨a,zs,Y,rfl,rfl,hx,by rw[<- rz.length];exact hY,h ρ _ _ (List.prefix_refl _) le (rp.put ha (Jh hx) ⟨_,jU,rz.dropLast.mono (List.prefix_refl _) le⟩) (ry.mono (List.prefix_refl _) le)⟩
   ·exact h.elim
  ·exact h.elim
 ·exact h.elim
end
end L2
namespace L2
open PySem PySem.Spec PyProof.Rows PySem.Builtin.Str
section
variable {K:PySem.W.Frag}{Θ:Tab}
theorem zMQ:AdN K Θ M.zDH (fun xs H Q=>(∃ i,xs=[.int i]/\Q (.int i) H)\/∃ k,xs=[.bl k]/\Q (.int (if k then 1 else 0)) H):=by
 intro ρ H S xs Xs Q rp rxs h
 unfold M.zDH at h
 split at h
 ·obtain⟨Y,r,rfl,ry,rfl⟩:=rxs
  cases ry
  exact .inl ⟨_,rfl,zF.here h rp rfl⟩
 ·obtain⟨Y,r,rfl,ry,rfl⟩:=rxs
  cases ry
  exact .inr ⟨_,rfl,zF.here h rp rfl⟩
 ·exact h.elim
end
end L2
namespace L2
open PySem PySem.Spec PyProof.Rows
section
variable {Θ:Tab}
theorem PS.or {X:Cx}{st:Stmt}{t t':TS} (h:PS X st t) (h':PS X st t'):PS X st (fun D σ H=>t D σ H\/t' D σ H):=fun pins s σ H D I q=>by
 rcases q with q | q
 ·exact h pins s σ H D I q
 ·exact h' pins s σ H D I q
theorem zDb {H:Hp}{a:Addr}{ks:List (Key×V)} (h:H a=some (.dK ks)):Mut (H a):=by rw[h];trivial
theorem zMg {X:Cx}{o i e:Expr}{mo mi me:M.EM}{pos pos':Pos}{n:Nat} (hr:zy n X.A) (ho:ME X Θ o mo) (hi:ME X Θ i mi) (he:ME X Θ e me)
  (ha:∀ v,assign (.Subscript o i pos') X.env v=(do
   let ov <- holding [v] (eval o X.env)
   let iv <- holding [v,ov] (eval i X.env)
   standAt pos'
   holding [v,ov,iv] (setItem ov iv v)
   release [v,ov,iv] []):=by intro _;rfl)
  (hs:swapsWithSole [.Subscript o i pos'] e pos.line X.env=pure false:=by rfl) (hw:swappedStores [.Subscript o i pos'] e X.env=pure none:=by rfl) (h1:(assignEach [.Subscript o i pos'] X.env).map (·.2)=[assign (.Subscript o i pos') X.env]:=by rfl)
  (hs2:swapsWith e (some (.Subscript o i pos')) pos.line X.env=pure false:=by rfl):MS X Θ (.Assign [.Subscript o i pos'] e pos) (M.zC5 mo mi me) :=
 (PS.or (zNR he (zNb ho hi zKQ ha) hs hw h1) (zK7 (by have:=hr.units;omega) ho hi he hs2)).imp fun D σ H ⟨ρ,σ',S,st,rp,h⟩=>by
  have h0:zi X.K Θ ρ H ((me σ' S).stm σ' fun y s=>(mo σ' s).stm σ' fun x s=>(mi σ' s).stm σ' fun k s=>(M.QV x k y s).stm σ' fun _ s=>.nx σ' s) D:=h
  clear h
  cases hE:me σ' S with
  | no=>rw[hE] at h0;exact h0.elim
  | exc a s=>rw[hE] at h0;exact h0.elim
  | ok y S1 =>
   rw[hE,M.R.stm_ok] at h0
   cases hO:mo σ' S1 with
   | no=>rw[hO] at h0;exact h0.elim
   | exc a s=>rw[hO] at h0;exact h0.elim
   | ok x S2 =>
    rw[hO,M.R.stm_ok] at h0
    cases hI:mi σ' S2 with
    | no=>rw[hI] at h0;exact h0.elim
    | exc a s=>rw[hI] at h0;exact h0.elim
    | ok k S3 =>
     rw[hI,M.R.stm_ok] at h0
     cases x with
     | ref p =>
      cases q:S3[p]? with
      | none=>simp only[M.QV,q] at h0;exact h0.elim
      | some ob =>
       cases ob with
       | lst xs =>
        cases k with
        | int j =>
         cases hj:M.ixN xs.length j with
         | none=>simp only[M.QV,q,hj] at h0;exact h0.elim
         | some j' =>
          simp only[M.QV,q,hj,M.R.stm_ok] at h0
          refine .inl ⟨ρ,σ',S,st,rp,?_⟩
          rw[hE]
          intro ρ1 H1 Y p1 l1 rp1 ry
          refine⟨ρ1,σ',S1,st.mono p1 l1,rp1,?_⟩
          rw[hO]
          intro ρ2 H2 Xv p2 l2 rp2 rx
          refine⟨ρ2,σ',S2,st.mono (p1.trans p2) (l1.trans l2),rp2,?_⟩
          rw[hI]
          intro ρ3 H3 Kv p3 l3 rp3 rk
          obtain⟨a,zs,rfl,ha,hx,rz⟩:=Jl rp3 (rx.mono p3 l3) q
          cases rk
          have le:=Le.put (Jh hx) (.lst (zs.set j' Y))
          refine⟨a,zs,j,j',rfl,rfl,hx,by rw[<- rz.length];exact hj,?_⟩
          exact h0 ρ3 _ σ (p1.trans (p2.trans p3)) (l1.trans (l2.trans (l3.trans le))) (rp3.put ha (Jh hx) ⟨_,jU,zO.set (ry.mono (p2.trans p3) (l2.trans (l3.trans le))) j' (rz.mono (List.prefix_refl _) le)⟩) (st.mono (p1.trans (p2.trans p3)) (l1.trans (l2.trans (l3.trans le))))
        | _=>simp only[M.QV,q] at h0;exact h0.elim
       | dct kvs =>
        cases hk:(M.yt k && decide (kvs.length < M.SZ)) with
        | false=>simp only[M.QV,q,hk] at h0;exact h0.elim
        | true =>
         have hk2:(if (M.yt k && decide (kvs.length < M.SZ))=true then M.R.ok () (S3.set p (.dct (M.Zp k y kvs))) else .no)=M.R.ok () (S3.set p (.dct (M.Zp k y kvs))):=if_pos hk
         simp only[M.QV,q,hk2,M.R.stm_ok] at h0
         rw[Bool.and_eq_true] at hk
         refine .inr ⟨ρ,σ',S,st,rp,?_⟩
         rw[hE]
         intro ρ1 H1 Y p1 l1 rp1 ry
         refine⟨ρ1,σ',S1,st.mono p1 l1,rp1,?_⟩
         rw[hO]
         intro ρ2 H2 Xv p2 l2 rp2 rx
         refine⟨ρ2,σ',S2,st.mono (p1.trans p2) (l1.trans l2),rp2,?_⟩
         rw[hI]
         intro ρ3 H3 Kv p3 l3 rp3 rk
         obtain⟨a,rfl,ea⟩:=rx.mono p3 l3
         obtain⟨b,e1,ks,e2,r⟩:=rp3.obj _ _ q
         rw[ea] at e1;cases e1
         obtain⟨kk,hkk,rfl⟩:=Je hk.1 rk
         have le:=Le.put (zDb e2) (.dK (ZW ks kk Y))
         refine⟨a,_,rfl,zGV.k e2 (by rw[<- Paired.length r,<- Z9];exact of_decide_eq_true hk.2),?_⟩
         have r':DR X.K ρ3 (upd H3 a (.dK (ZW ks kk Y))) kvs ks:=Paired.mapP r fun a b z=>⟨z.1,z.2.mono (List.prefix_refl _) le⟩
         exact h0 ρ3 _ σ (p1.trans (p2.trans p3)) (l1.trans (l2.trans (l3.trans le))) (rp3.put ea (zDb e2) ⟨_,jU,DR.put r' hkk (ry.mono (p2.trans p3) (l2.trans (l3.trans le)))⟩) (st.mono (p1.trans (p2.trans p3)) (l1.trans (l2.trans (l3.trans le))))
       | fdc _=>simp only[M.QV,q] at h0;exact h0.elim
       | ins c fs=>simp only[M.QV,q] at h0;exact h0.elim
     | _=>exact h0.elim
theorem zF3 {X:Cx}{o i e:Expr}{mo mi me:M.EM}{pos pos':Pos}{n:Nat} (hr:zy n X.A) (ho:WE X Θ o mo) (hi:WE X Θ i mi) (he:WE X Θ e me)
  (ha:∀ v,assign (.Subscript o i pos') X.env v=(do
   let ov <- holding [v] (eval o X.env)
   let iv <- holding [v,ov] (eval i X.env)
   standAt pos'
   holding [v,ov,iv] (setItem ov iv v)
   release [v,ov,iv] []):=by intro _;rfl)
  (hs:swapsWithSole [.Subscript o i pos'] e pos.line X.env=pure false:=by rfl) (hw:swappedStores [.Subscript o i pos'] e X.env=pure none:=by rfl) (h1:(assignEach [.Subscript o i pos'] X.env).map (·.2)=[assign (.Subscript o i pos') X.env]:=by rfl)
  (hs2:swapsWith e (some (.Subscript o i pos')) pos.line X.env=pure false:=by rfl):WS X Θ (.Assign [.Subscript o i pos'] e pos) (M.zC5 mo mi me):=by with_unfolding_all exact zMg (X:=X) (o:=o) (i:=i) (e:=e) (mo:=mo) (mi:=mi) (me:=me) (pos:=pos) (pos':=pos') (n:=n) hr ho hi he ha hs hw h1 hs2
end
end L2
namespace L2
open PySem PySem.Spec PyProof.Rows
section
variable {K:PySem.W.Frag}{Θ:Tab}
theorem zFx:∀ {xs:List V}{us:List Value},xs.length=us.length->(∀ (j:Nat) u,us[j]? = some u->∃ x,xs[j]? = some x/\zh x u)->zd xs us
 | [],[],_,_=>.nil
 | [],_::_,h,_=>by simp at h
 | _::_,[],h,_=>by simp at h
 | x::xs,u::us,h,k=>by
  obtain⟨y,e,r⟩:=k 0 u rfl
  cases e
  exact .cons r (zFx (by simpa using h) fun j u hu=>by
   obtain⟨y,e,r⟩:=k (j+1) u (by simpa using hu)
   exact⟨y,by simpa using e,r⟩)
theorem zNZ {P:Program}{w:World}{k:Key}{v:Value} (h:(jP P w).is k v=true):zh (kV k) v:=by
 rcases qH (k:=k) (v:=v) h with ⟨i,t,rfl,rfl⟩ | ⟨x,t,rfl,rfl⟩
 ·exact⟨t,rfl⟩
 ·exact⟨t,rfl⟩
noncomputable def zH7 (K:PySem.W.Frag):List V->Hp->VK->Prop:=fun xs H Q=>(∃ p ys,xs=[.ref p]/\(SqL K H p ys\/SqT K H p ys)/\∀ l,H l=none->Q (.ref l) (upd H l (.lst ys))) \/
 ∃ p ks,xs=[.ref p]/\H p=some (.dK ks)/\∀ l,H l=none->Q (.ref l) (upd H l (.lst (ks.map fun kv=>kV kv.1)))
theorem zHO {X:Cx}{k:Nat} (hr:zy k X.A):j5 X (.type "list") (zH7 X.K):=by
 intro pins s σ H xs us Q I r h
 rcases h with h | ⟨p,ks,rfl,hp,q⟩
 ·exact zF0 pins s σ H xs us Q I r h
 ·obtain⟨u,rfl,ru⟩:=QW r
  cases ru
  obtain⟨z,lo,vs,rv,dd⟩:=zBJ I.hok hp
  obtain⟨ep,da⟩:=dd.dictAt
  have hl:=rv.length
  refine wpAny_with_toks (n:=1) I.tk (PySem.W.kdl_call (PySem.W.kdl_dict lo) hr.hd da (by omega) fun h' tk acc c' keep hS it htk=>?_)
  obtain⟨hsz,hit⟩:=it
  refine⟨.ref s.heap.objs.size,_,I.laid (t':=tk) (o:=.lst (ks.map fun kv=>kV kv.1)) keep (Nat.le_refl _) ⟨by rw[List.length_map];exact z,acc.toList,c',zFx (by simp;omega) fun j u hu=>?_,by simpa using hS⟩ htk,rfl,q _ (I.hok.fresh (Nat.le_refl _))⟩
  obtain⟨k,x,e,hk⟩:=hit j u (by simpa using hu)
  have hj:j < ks.length:=by have:=(List.getElem?_eq_some_iff.mp e).1;omega
  have ek:(ks.map (·.1))[j]? = some k:=by rw[rv.keys,List.getElem?_map,e];rfl
  refine⟨kV k,?_,zNZ hk⟩
  rw[List.getElem?_map] at ek ⊢
  cases q2:ks[j]? with
  | none=>rw[q2] at ek;cases ek
  | some kv=>rw[q2] at ek;cases ek;rfl
theorem zFt {ρ:List Addr}{H:Hp}:∀ {kvs:List (M.D×M.D)}{ks:List (Key×V)},DR K ρ H kvs ks->zO K ρ H (kvs.map (·.1)) (ks.map fun kv=>kV kv.1)
 | _,_,.nil=>rfl
 | (d,_)::_,(k,_)::_,.cons h t=>by
  refine⟨_,_,rfl,?_,zFt t⟩
  have h1:Zc d k:=h.1
  cases d with
  | int i=>cases h1;rfl
  | str x=>obtain⟨rfl,ok⟩:=h1;exact⟨rfl,ok⟩
  | _=>exact h1.elim
theorem zLD:AdN K Θ M.zHL (zH7 K):=by
 intro ρ H S xs Xs Q rp rxs h
 unfold M.zHL at h
 split at h
 ·obtain⟨Y,r,rfl,⟨a,zs,rfl,hq,rz⟩,rfl⟩:=rxs
  exact .inl ⟨a,zs,rfl,.inr hq,fun p hp=>zF.alloc h rp rz hp⟩
 ·obtain⟨Y,r,rfl,⟨a,zs,rfl,hq,rz⟩,rfl⟩:=rxs
  exact .inl ⟨a,zs,rfl,.inl hq.sq,fun p hp=>zF.alloc h rp rz hp⟩
 ·rename_i p
  obtain⟨Y,r,rfl,ry,rfl⟩:=rxs
  split at h
  ·rename_i ds e
   obtain⟨a,zs,rfl,ha,hx,rz⟩:=Jl rp ry e
   exact .inl ⟨a,zs,rfl,.inl (SqL.of hx),fun p hp=>zF.alloc h rp rz hp⟩
  ·rename_i kvs e
   obtain⟨a,rfl,ha⟩:=ry
   obtain⟨ks,e2,r⟩:=Jq rp ha e
   exact .inr ⟨a,ks,rfl,e2,fun p hp=>zF.alloc h rp (zFt r) hp⟩
  ·exact h.elim
 ·exact h.elim
noncomputable def zIl:List V->Hp->VK->Prop:=fun xs H Q=>∃ p ks,xs=[.ref p]/\H p=some (.dK ks)/\∀ l,H l=none->Q (.ref l) (upd H l (.dK ks))
theorem zHJ {X:Cx}:j5 X (.type "dict") zIl:=by
 intro pins s σ H xs us Q I r h
 obtain⟨p,ks,rfl,hp,q⟩:=h
 obtain⟨u,rfl,ru⟩:=QW r
 cases ru
 obtain⟨z,lo,vs,rv,dd⟩:=zBJ I.hok hp
 refine PySem.kt_call_dict lo dd (by rw[<- rv.length];exact z) fun h' dd' sb=>?_
 have lo2:(s.heap.objs.size == sysModules)=false:=by have:=I.big;exact beq_eq_false_iff_ne.mpr (Nat.ne_of_gt this)
 exact⟨.ref s.heap.objs.size,_,I.laid (t':=s.toks) (o:=.dK ks) (fun b o e=>(sb.2 b (Nat.ne_of_lt (Heap.lt_size e))).trans (Heap.get?_push_of_some _ e)) (Nat.le_refl _) (zFz z lo2 rv dd'),rfl,q _ (I.hok.fresh (Nat.le_refl _))⟩
theorem zCS {ρ:List Addr}{H:Hp}{S:M.S}{kvs:List (M.D×M.D)}{ks:List (Key×V)}{Q:VK} (h:zF K Θ (zN K) ρ H (M.alloc (.dct kvs) S) Q) (rp:zW K Θ ρ S H) (r:DR K ρ H kvs ks) {p:Addr} (hp:H p=none):Q (.ref p) (upd H p (.dK ks)) :=
 h (ρ++[p]) _ _ (List.prefix_append _ _) (Le.new hp _) (rp.alloc hp ⟨ks,jU,Paired.mapP r fun _ _ z=>⟨z.1,z.2.mono (List.prefix_append _ _) (Le.new hp _)⟩⟩) ⟨p,rfl,by rw[<- rp.len];simp⟩
theorem zLy:AdN K Θ M.zFe zIl:=by
 intro ρ H S xs Xs Q rp rxs h
 unfold M.zFe at h
 split at h
 ·rename_i p
  obtain⟨Y,r,rfl,ry,rfl⟩:=rxs
  split at h
  ·rename_i kvs e
   obtain⟨a,rfl,ha⟩:=ry
   obtain⟨ks,e2,r⟩:=Jq rp ha e
   exact⟨a,ks,rfl,e2,fun p hp=>zCS h rp r hp⟩
  ·exact h.elim
 ·exact h.elim
theorem zK2 {X:Cx}{pos:Pos}:ME X Θ (.Dict [] [] pos) M.zDe:=zJP.imp fun σ H Q ⟨ρ,σ',S,st,rp,h⟩=>fun p hp=>zCS (kvs:=[]) h rp .nil hp
theorem zEz {X:Cx}{pos:Pos}:WE X Θ (.Dict [] [] pos) M.zDe:=by with_unfolding_all exact zK2 (X:=X) (pos:=pos)
end
end L2
namespace L2
open PySem PySem.Spec PyProof.Rows
section
variable {P:Program}{w:World}{A:Around}{E:Value->Shared->Prop}{s:Shared}
noncomputable def zPR (h:Heap) (z TI TO:Addr) (f0:Value) (b:Bool):Prop:=h.get? z=some { cls:=.type "zip",dict:=none,data:=.fields #[f0,.bool b,.bool false,.ref TI,.ref TO],slots:=#[] }
structure ZSt (z TI TO i1 i2 l1 l2:Addr) (xs ys:Array Value) (i:Nat) (h:Heap):Prop where
 zp:∃ f0 b,zPR h z TI TO f0 b/\((i=0/\f0=.none)\/∃ (T:Addr) (o:Obj),f0=rawInt T/\h.get? T=some o)
 ti:IsPair h TI (.ref i1) (.ref i2)
 to:∃ a b,IsPair h TO a b
 n1:h.IsTupleIter i1 l1 i
 n2:h.IsTupleIter i2 l2 i
 t1:h.IsTuple l1 xs
 t2:h.IsTuple l2 ys
structure ZLp (lo z TO i1 i2 S:Addr) (xs ys:List Value) (h0 h:Heap) (ps:List Addr):Prop where
 its:∀ (j:Nat) p,ps[j]? = some p->lo <= p/\∃ x y,xs[j]? = some x/\ys[j]? = some y/\IsPair h p x y
 keep:∀ b o,b≠S->b≠z->b≠TO->b≠i1->b≠i2->h0.get? b=some o->h.get? b=some o
 nd:ps.Nodup
end
end L2
namespace L2
open PySem PySem.Spec PyProof.Rows
inductive zKe:Hp->List (V×V)->List V->Hp->Prop
 | nil (H:Hp):zKe H [] [] H
 | cons {H H':Hp}{a:Addr}{x y:V}{r:List (V×V)}{zs:List V} (h:H a=none) (t:zKe (upd H a (.tup [x,y])) r zs H'):zKe H ((x,y)::r) (.ref a::zs) H'
end L2
namespace L2
open PySem PySem.Spec PyProof.Rows
section
variable {K:PySem.W.Frag}{Θ:Tab}
theorem zKn:Ad2 K Θ M.zBG (fun x y H Q=>match x,y with | .int i,.int j=>Q (.int (i+j)) H | .str a,.str b=>a.length+b.length <= sizeLine/\Q (.str (a++b)) H | _,_=>False):=by
 intro ρ H S x y X Y Q rp rx ry h
 cases x with
 | int i =>
  cases y with
  | int j=>cases rx;cases ry;exact zF.here (b:=V.int (i+j)) h rp rfl
  | _=>exact h.elim
 | str a =>
  cases y with
  | str b =>
   obtain⟨rfl,oa⟩:=rx
   obtain⟨rfl,ob⟩:=ry
   have h':zF K Θ (zN K) ρ H (if a.length+b.length <= M.SZ then M.R.ok (M.D.str (a++b)) S else .no) Q:=h
   by_cases hc:a.length+b.length <= M.SZ
   ·rw[if_pos hc] at h'
    refine⟨by rw[jw,jw,<- Z9];exact hc,?_⟩
    rw[zGv]
    exact zF.here h' rp ⟨rfl,zCb oa ob⟩
   ·rw[if_neg hc] at h';exact h'.elim
  | _=>exact h.elim
 | _=>exact h.elim
noncomputable def zK1 (K:PySem.W.Frag):List V->Hp->VK->Prop:=fun xs H Q=>∃ p ys,xs=[.ref p]/\((SqL K H p ys/\∀ l,H l=none->Q (.ref l) (upd H l (.tup ys)))\/(SqT K H p ys/\Q (.ref p) H))
theorem zCv {X:Cx}:j5 X (.type "tuple") (zK1 X.K):=zFH
theorem zGW:AdN K Θ M.J5 (zK1 K):=by
 intro ρ H S xs Xs Q rp rxs h
 unfold M.J5 at h
 split at h
 ·rename_i ds
  obtain⟨Y,r,rfl,ry,rfl⟩:=rxs
  obtain⟨a,zs,rfl,hq,rz⟩:=id ry
  exact⟨a,zs,rfl,.inr ⟨hq,zF.here h rp ry⟩⟩
 ·rename_i p
  obtain⟨Y,r,rfl,ry,rfl⟩:=rxs
  split at h
  ·rename_i ds e
   have e':S[p]? = some (.lst ds):=by
    unfold M.jN at e
    split at e
    ·rename_i ds' e1;cases e;exact e1
    ·cases e
   obtain⟨a,zs,rfl,ha,hx,rz⟩:=Jl rp ry e'
   exact⟨a,zs,rfl,.inl ⟨SqL.of hx,fun l hl=>h ρ _ _ (List.prefix_refl _) (Le.new hl _) (rp.aside hl _) ⟨l,zs,rfl,.inl (.inl jU),rz.mono (List.prefix_refl _) (Le.new hl _)⟩⟩⟩
  ·exact h.elim
 ·exact h.elim
end
end L2
namespace L2
open PySem PySem.Spec PyProof.Rows
structure QI (K:PySem.W.Frag) (Θ:Tab) (c:Nat) (C:Addr) (N:List Str):Prop where
 tab:Θ c=some (C,N)
 cl:Cls K C
 no:∀ f∈N,JN K C f
 few:N.length < 999
 nd:N.Nodup
theorem JA {α:Type}{Pr:α->Prop}{a:α}{l:List α} (h:Pr a) (k:∀ x∈l,Pr x):∀ x∈a::l,Pr x:=fun x hx=>(List.mem_cons.mp hx).elim (fun e=>by rw[e];exact h) (k x)
theorem zIL {X:Cx}{Θ:Tab}{st:Stmt}:MS X Θ st M.QO:=zJ2
theorem JM {X:Cx}{Θ:Tab}{st:Stmt}:WS X Θ st M.QO:=by with_unfolding_all exact zIL (X:=X) (Θ:=Θ) (st:=st)
structure JB (P:Program) (w:World) (K:PySem.W.Frag) (mg:Str->Option Value) (base:Heap) (C:Addr) (m:Str) (k:Nat) (ps:List Str) (sp:Sp):Prop where
 ex:∃ f fd,jW P w K mg base CX0 k f fd ps sp/\QQ K fd ps []/\zHk K C m f
structure zJd (P:Program) (w:World) (K:PySem.W.Frag) (mg:Str->Option Value) (base:Heap) (C:Addr) (x:Str) (k:Nat) (ps:List Str) (sp:Sp):Prop where
 ex:∃ f fd,jW P w K mg base CX0 k f fd ps sp/\QQ K fd ps []/\Mk K C f/\mg x=some (.ref C)
theorem zE0 {α:Type} [DecidableEq α]:∀ {l N:List α},l.Nodup->(∀ x∈l,x∈N)->l.length <= N.length
 | [],_,_,_=>Nat.zero_le _
 | a::l,N,h,k=>by
  have ha:=k a List.mem_cons_self
  have hn:=List.nodup_cons.mp h
  have h1:l.length <= (N.erase a).length:=zE0 hn.2 fun x hx=>(List.mem_erase_of_ne (show x≠a from fun e=>hn.1 (by rw[<- e];exact hx))).mpr (k x (List.mem_cons_of_mem _ hx))
  rw[List.length_erase_of_mem ha] at h1
  have h2:=List.length_pos_of_mem ha
  rw[List.length_cons]
  omega
theorem zDC (f:Str) (v:V):∀ fs:List (Str×V),∀ g,g∈(q9 f v fs).map (·.1)->g=f\/g∈fs.map (·.1)
 | [],g,h=>by
  have h':g∈[f]:=h
  exact .inl (by simpa using h')
 | (k,x)::r,g,h=>by
  rw[show q9 f v ((k,x)::r)=(if k=f then (k,v)::r else (k,x)::q9 f v r) from rfl] at h
  by_cases hk:k=f
  ·rw[if_pos hk] at h
   exact .inr h
  ·rw[if_neg hk,List.map_cons] at h
   rcases List.mem_cons.mp h with e | h
   ·exact .inr (by rw[e];simp)
   ·rcases zDC f v r g h with e | e
    ·exact .inl e
    ·exact .inr (List.mem_cons_of_mem _ e)
theorem zIz (f:Str) (v:V):∀ fs:List (Str×V),(fs.map (·.1)).Nodup->((q9 f v fs).map (·.1)).Nodup
 | [],_=>by show [f].Nodup;simp
 | (k,x)::r,h=>by
  rw[List.map_cons,List.nodup_cons] at h
  rw[show q9 f v ((k,x)::r)=(if k=f then (k,v)::r else (k,x)::q9 f v r) from rfl]
  by_cases hk:k=f
  ·rw[if_pos hk,List.map_cons,List.nodup_cons];exact h
  ·rw[if_neg hk,List.map_cons,List.nodup_cons]
   refine⟨fun m=>?_,zIz f v r h.2⟩
   rcases zDC f v r k m with e | e
   ·exact hk e
   ·exact h.1 e
theorem zDW {f:Str}:∀ {gs:List (Str×V)},f∉gs.map (·.1)->gs.lookup f=none
 | [],_=>rfl
 | (g,x)::r,h=>by
  rw[List.map_cons,List.mem_cons,not_or] at h
  have hb:(f == g)=false:=beq_eq_false_iff_ne.mpr h.1
  rw[List.lookup_cons,hb]
  exact zDW h.2
section
variable {K:PySem.W.Frag}{Θ:Tab}{ρ:List Addr}{H:Hp}
theorem zB4.few {N:List Str}{fs:List (Option M.D)}{gs:List (Str×V)} (r:zB4 K ρ H N fs gs):gs.length <= N.length:=by
 have:=zE0 r.nd r.within
 rwa [List.length_map] at this
theorem zB4.put {H':Hp}{N:List Str}{fs:List (Option M.D)}{gs:List (Str×V)}{i:Nat}{f:Str}{d:M.D}{v:V} (r:zB4 K ρ H N fs gs) (hN:N.Nodup) (hi:N[i]? = some f) (le:Le H H') (rv:zN K ρ H' d v):zB4 K ρ H' N (fs.set i (some d)) (q9 f v gs):=by
 refine⟨by rw[List.length_set];exact r.len,zIz f v gs r.nd,fun g hg=>?_,fun j g e hj he=>?_⟩
 ·rcases zDC f v gs g hg with z | z
  ·rw[z];exact List.mem_of_getElem? hi
  ·exact r.within g z
 ·rw[zAh]
  by_cases hij:i=j
  ·subst hij
   rw[hi] at hj;cases hj
   rw[if_pos rfl]
   have hl:i < fs.length:=by rw[r.len];exact (List.getElem?_eq_some_iff.mp hi).1
   rw[List.getElem?_set_self hl] at he
   cases he
   exact⟨v,rfl,rv⟩
  ·rw[List.getElem?_set_ne hij] at he
   have hne:¬ g=f:=fun z=>hij (Js hN (by rw[hi]) (by rw[hj,z]))
   rw[if_neg hne]
   obtain⟨u,e1,e2⟩:=r.get j g e hj he
   exact⟨u,e1,e2.mono (List.prefix_refl _) le⟩
theorem zDf {S:M.S}{p c:Nat}{a C:Addr}{N:List Str}{fs:List (Option M.D)} (cm:QI K Θ c C N) (rp:zW K Θ ρ S H) (ha:ρ[p]? = some a) (e:S[p]? = some (.ins c fs)):∃ dx gs,H a=some (.ins C dx gs)/\zB4 K ρ H N fs gs:=by
 obtain⟨b,hb,C',dx,gs,N',h1,h2,h3⟩:=rp.obj p _ e
 rw[ha] at hb;cases hb
 rw[cm.tab] at h2;cases h2
 exact⟨dx,gs,h1,h3⟩
theorem zGr {a C dx:Addr}{gs:List (Str×V)} (h:H a=some (.ins C dx gs)):Mut (H a):=by rw[h];trivial
theorem zGE {S:M.S}{c i:Nat}{C:Addr}{N:List Str}{f:Str}{x:M.D}{X1:V}{Q:VK} (cm:QI K Θ c C N) (hi:N[i]? = some f) (rp:zW K Θ ρ S H) (rx:zN K ρ H x X1) (h:zF K Θ (zN K) ρ H (M.zCR c i x S) Q) :
  ∃ a dx fs v,X1=.ref a/\H a=some (.ins C dx fs)/\fs.lookup f=some v/\Q v H:=by
 unfold M.zCR at h
 split at h
 ·rename_i p
  split at h
  ·rename_i c' fs e
   split at h
   ·rename_i hc
    subst hc
    split at h
    ·rename_i d ed
     obtain⟨a,rfl,ha⟩:=rx
     obtain⟨dx,gs,h1,h3⟩:=zDf cm rp ha e
     obtain⟨v,e1,rv⟩:=h3.get i f d hi ed
     exact⟨a,dx,gs,v,rfl,h1,e1,zF.here h rp rv⟩
    ·exact h.elim
   ·exact h.elim
  ·exact h.elim
 ·exact h.elim
theorem zM6 {X:Cx}{c i:Nat}{C:Addr}{N:List Str}{f:Str}{e:Expr}{m:M.EM}{pos:Pos} (cm:QI X.K Θ c C N) (hi:N[i]? = some f) (he:ME X Θ e m) (hb:attributeBase e f X.env (eval e X.env)=eval e X.env:=by rfl):ME X Θ (.Attribute e f pos) (M.qG c i m) :=
 (zMW he hb).imp fun σ H Q ⟨ρ,σ',S,st,rp,h⟩=>⟨ρ,σ',S,st,rp,zF.bind h fun ρ1 H1 x X1 S1 p1 l1 rp1 rx h1=>by
  obtain⟨a,dx,fs,v,e1,e2,e3,q⟩:=zGE cm hi rp1 rx h1
  exact⟨a,C,dx,fs,v,e1,e2,cm.cl,cm.no f (List.mem_of_getElem? hi),e3,q⟩⟩
theorem jh {X:Cx}{c i:Nat}{C:Addr}{N:List Str}{f:Str}{e:Expr}{m:M.EM}{pos:Pos} (cm:QI X.K Θ c C N) (hi:N[i]? = some f) (he:WE X Θ e m) (hb:attributeBase e f X.env (eval e X.env)=eval e X.env:=by rfl):WE X Θ (.Attribute e f pos) (M.qG c i m):=by with_unfolding_all exact zM6 (X:=X) (c:=c) (i:=i) (C:=C) (N:=N) (f:=f) (e:=e) (m:=m) (pos:=pos) cm hi he hb
theorem zFk {S:M.S}{c i:Nat}{C:Addr}{N:List Str}{f:Str}{x y:M.D}{X1 Y:V}{σ1:M.St}{σ:St}{D:QD} (cm:QI K Θ c C N) (hi:N[i]? = some f) (rp:zW K Θ ρ S H) (st:jI K ρ H σ1 σ) (rx:zN K ρ H x X1) (ry:zN K ρ H y Y) (h:zi K Θ ρ H ((M.Jr c i x y S).stm σ1 fun _ s=>.nx σ1 s) D) :
  ∃ a dx fs,X1=.ref a/\H a=some (.ins C dx fs)/\fs.length < 1000/\D.nx σ (upd H a (.ins C dx (q9 f Y fs))):=by
 unfold M.Jr at h
 split at h
 ·rename_i p
  split at h
  ·rename_i c' fs e
   split at h
   ·rename_i hc
    subst hc
    obtain⟨a,rfl,ha⟩:=rx
    obtain⟨dx,gs,h1,h3⟩:=zDf cm rp ha e
    have le:=Le.put (zGr h1) (.ins C dx (q9 f Y gs))
    refine⟨a,dx,gs,rfl,h1,by have:=h3.few;have:=cm.few;omega,?_⟩
    exact h ρ _ σ (List.prefix_refl _) le (rp.put ha (zGr h1) ⟨C,dx,_,N,jU,cm.tab,h3.put cm.nd hi le (ry.mono (List.prefix_refl _) le)⟩) (st.mono (List.prefix_refl _) le)
   ·exact h.elim
  ·exact h.elim
 ·exact h.elim
theorem zMT {X:Cx}{c i:Nat}{C:Addr}{N:List Str}{f:Str}{o e:Expr}{mo m:M.EM}{pos pos':Pos} (cm:QI X.K Θ c C N) (hi:N[i]? = some f) (ho:ME X Θ o mo) (he:ME X Θ e m) (hs:swapsWith e (some (.Attribute o f pos')) pos.line X.env=pure false:=by kernel_rfl):MS X Θ (.Assign [.Attribute o f pos'] e pos) (M.Qy c i mo m) :=
 (zNf ho he hs).imp fun D σ H ⟨ρ,σ',S,st,rp,h⟩=>⟨ρ,σ',S,st,rp,zi.stm h fun ρ1 H1 y Y S1 p1 l1 rp1 ry h1=>⟨ρ1,σ',S1,st.mono p1 l1,rp1,zi.stm h1 fun ρ2 H2 x X1 S2 p2 l2 rp2 rx h2=>by
  obtain⟨a,dx,fs,e1,e2,e3,q⟩:=zFk cm hi rp2 (st.mono (p1.trans p2) (l1.trans l2)) rx (ry.mono p2 l2) h2
  exact⟨a,C,dx,fs,e1,e2,cm.cl,cm.no f (List.mem_of_getElem? hi),e3,q⟩⟩⟩
theorem ZY {X:Cx}{c i:Nat}{C:Addr}{N:List Str}{f:Str}{o e:Expr}{mo m:M.EM}{pos pos':Pos} (cm:QI X.K Θ c C N) (hi:N[i]? = some f) (ho:WE X Θ o mo) (he:WE X Θ e m) (hs:swapsWith e (some (.Attribute o f pos')) pos.line X.env=pure false:=by kernel_rfl):WS X Θ (.Assign [.Attribute o f pos'] e pos) (M.Qy c i mo m):=by with_unfolding_all exact zMT (X:=X) (c:=c) (i:=i) (C:=C) (N:=N) (f:=f) (o:=o) (e:=e) (mo:=mo) (m:=m) (pos:=pos) (pos':=pos') cm hi ho he hs
theorem zI2 {X:Cx}{c i:Nat}{C:Addr}{N:List Str}{f:Str}{o e:Expr}{mo m:M.EM}{op:Operator}{g:M.D->M.D->M.S->M.R M.D}{r:R2}{pos pos':Pos} (cm:QI X.K Θ c C N) (hi:N[i]? = some f) (ho:ME X Θ o mo) (he:ME X Θ e m) (hop:PIp X op r) (ad:Ad2 X.K Θ g r):MS X Θ (.AugAssign (.Attribute o f pos') op e pos) (M.Zk g c i mo m) :=
 (zI7 ho he hop).imp fun D σ H ⟨ρ,σ',S,st,rp,h⟩=>⟨ρ,σ',S,st,rp,zi.stm h fun ρ1 H1 x X1 S1 p1 l1 rp1 rx h1=>by
  have h1':zi X.K Θ ρ1 H1 ((M.zCR c i x S1).stm σ' fun v s=>(m σ' s).stm σ' fun y s=>(g v y s).stm σ' fun z s=>(M.Jr c i x z s).stm σ' fun _ s=>.nx σ' s) D:=h1
  have hp:∃ a dx fs v,X1=.ref a/\H1 a=some (.ins C dx fs)/\fs.lookup f=some v/\∃ ρ2 σ2 S2 d,jI X.K ρ2 H1 σ2 σ/\zW X.K Θ ρ2 S2 H1/\zN X.K ρ2 H1 d v/\zN X.K ρ2 H1 x X1/\zi X.K Θ ρ2 H1 ((m σ2 S2).stm σ2 fun y s=>(g d y s).stm σ2 fun z s=>(M.Jr c i x z s).stm σ2 fun _ s=>.nx σ2 s) D:=by
   have h2:zF X.K Θ (zN X.K) ρ1 H1 (M.zCR c i x S1) (fun v H2=>H2=H1->∃ ρ2 σ2 S2 d,jI X.K ρ2 H1 σ2 σ/\zW X.K Θ ρ2 S2 H1/\zN X.K ρ2 H1 d v/\zN X.K ρ2 H1 x X1/\zi X.K Θ ρ2 H1 ((m σ2 S2).stm σ2 fun y s=>(g d y s).stm σ2 fun z s=>(M.Jr c i x z s).stm σ2 fun _ s=>.nx σ2 s) D) :=
    zi.stm h1' fun ρ2 H2 d v S2 p2 l2 rp2 rv h3 e=>by
     subst e
     exact⟨ρ2,σ',S2,d,st.mono (p1.trans p2) (l1.trans l2),rp2,rv,rx.mono p2 l2,h3⟩
   obtain⟨a,dx,fs,v,e1,e2,e3,q⟩:=zGE cm hi rp1 rx h2
   exact⟨a,dx,fs,v,e1,e2,e3,q rfl⟩
  obtain⟨a,dx,fs,v,e1,e2,e3,ρ2,σ2,S2,d,st2,rp2,rv,rx2,h4⟩:=hp
  refine⟨a,C,dx,fs,v,e1,e2,cm.cl,cm.no f (List.mem_of_getElem? hi),e3,ρ2,σ2,S2,st2,rp2,zi.stm h4 fun ρ3 H3 y Y S3 p3 l3 rp3 ry h5=>ad ρ3 H3 S3 d y v Y _ rp3 (rv.mono p3 l3) ry (zi.stm h5 fun ρ4 H4 z Z S4 p4 l4 rp4 rz h6=>?_)⟩
  obtain⟨a',dx',fs',f1,f2,f3,q⟩:=zFk cm hi rp4 (st2.mono (p3.trans p4) (l3.trans l4)) (rx2.mono (p3.trans p4) (l3.trans l4)) rz h6
  rw[e1] at f1
  cases f1
  exact⟨dx',fs',f2,f3,q⟩⟩
theorem zGd {X:Cx}{c i:Nat}{C:Addr}{N:List Str}{f:Str}{o e:Expr}{mo m:M.EM}{op:Operator}{g:M.D->M.D->M.S->M.R M.D}{r:R2}{pos pos':Pos} (cm:QI X.K Θ c C N) (hi:N[i]? = some f) (ho:WE X Θ o mo) (he:WE X Θ e m) (hop:PIp X op r) (ad:Ad2 X.K Θ g r):WS X Θ (.AugAssign (.Attribute o f pos') op e pos) (M.Zk g c i mo m):=by with_unfolding_all exact zI2 (X:=X) (c:=c) (i:=i) (C:=C) (N:=N) (f:=f) (o:=o) (e:=e) (mo:=mo) (m:=m) (op:=op) (g:=g) (r:=r) (pos:=pos) (pos':=pos') cm hi ho he hop ad
theorem zCw {N:List Str}{fs:List (Option M.D)}{gs:List (Str×V)}{m:Str} (r:zB4 K ρ H N fs gs) (hm:m∉N):gs.lookup m=none:=zDW fun z=>hm (r.within m z)
theorem zLY {X:Cx}{c k kk n:Nat}{C:Addr}{N ps:List Str}{name:Str}{o e:Expr}{es:List Expr}{mo:M.EM}{m:M.AM}{f:M.F}{pos apos:Pos}{pl:Sem Bool} (cm:QI X.K Θ c C N) (h:JB X.prog X.w X.K X.mg X.base C name k ps (SpM X.K Θ (n+1) f)) (hr:zy kk X.A) (hk:k <= kk) (hm:name∉N) (ho:ME X Θ o mo) (ha:MA X Θ (e::es) m) (ar:Qe m n) (hx:qa CX0 X E0:=by exact QS)
  (he:ze e=true:=by rfl) (hpl:es.all ze=true:=by rfl)
  (ht:eval (.Call (.Attribute o name apos) (e::es) [] pos) X.env=(do
   let ov <- eval o X.env
   standAt apos.atName
   let (f,first) <- holding [ov] (getMethod ov name pl)
   callWith pos f first (backTo pos (starEach (e::es) X.env)) (backToKw pos (keywordEach [] X.env))):=by rfl):ME X Θ (.Call (.Attribute o name apos) (e::es) [] pos) (M.qU c f mo m):=by
 obtain⟨g,fd,F,b,mt⟩:=h.ex
 refine (zLA ho cm.cl mt F (hr.mono hk) b .nil hx ha (jS he) (yl hpl) ht).imp fun σ H Q ⟨ρ,σ',S,st,rp,h⟩=>⟨ρ,σ',S,st,rp,zF.bind h fun ρ1 H1 x X1 S1 p1 l1 rp1 rx h1=>?_⟩
 cases x with
 | ref p =>
  have h1':zF X.K Θ (zN X.K) ρ1 H1 (match S1[p]? with | some (.ins c' _)=>if c'=c then (m σ' S1).bind fun xs s=>f (.ref p::xs) s else .no | _=>.no) Q:=h1
  cases q:S1[p]? with
  | none=>rw[q] at h1';exact h1'.elim
  | some ob =>
   rw[q] at h1'
   cases ob with
   | ins c' fs =>
    by_cases hc:c'=c
    ·subst hc
     have h2:zF X.K Θ (zN X.K) ρ1 H1 (if c'=c' then (m σ' S1).bind fun xs s=>f (.ref p::xs) s else .no) Q:=h1'
     rw[if_pos rfl] at h2
     obtain⟨a,rfl,ha'⟩:=id rx
     obtain⟨dx,gs,e1,e2⟩:=zDf cm rp1 ha' q
     refine⟨a,dx,gs,rfl,e1,zCw e2 hm,ρ1,σ',S1,st.mono p1 l1,rp1,?_⟩
     cases hM:m σ' S1 with
     | no=>rw[hM] at h2;exact h2.elim
     | exc a s=>rw[hM] at h2;exact h2.elim
     | ok ds S2 =>
      rw[hM] at h2
      intro ρ2 H2 vs p2 l2 rp2 r2
      rw[List.append_nil]
      exact⟨ρ2,.ref p::ds,S2,by rw[List.length_cons,ar _ _ _ _ hM],⟨_,_,rfl,rx.mono p2 l2,r2⟩,rp2,zF.weak h2 p2 l2⟩
    ·have h2:zF X.K Θ (zN X.K) ρ1 H1 (if c'=c then (m σ' S1).bind fun xs s=>f (.ref p::xs) s else .no) Q:=h1'
     rw[if_neg hc] at h2
     exact h2.elim
   | lst _=>exact h1'.elim
   | dct _=>exact h1'.elim
   | fdc _=>exact h1'.elim
 | _=>exact h1.elim
theorem j0 {X:Cx}{c k kk n:Nat}{C:Addr}{N ps:List Str}{name:Str}{o e:Expr}{es:List Expr}{mo:M.EM}{m:M.AM}{f:M.F}{pos apos:Pos}{pl:Sem Bool} (cm:QI X.K Θ c C N) (h:JB X.prog X.w X.K X.mg X.base C name k ps (SpM X.K Θ (n+1) f)) (hr:zy kk X.A) (hk:k <= kk) (hm:name∉N) (ho:WE X Θ o mo) (ha:WA X Θ (e::es) m) (ar:Qe m n) (hx:qa CX0 X E0:=by exact QS)
  (he:ze e=true:=by rfl) (hpl:es.all ze=true:=by rfl)
  (ht:eval (.Call (.Attribute o name apos) (e::es) [] pos) X.env=(do
   let ov <- eval o X.env
   standAt apos.atName
   let (f,first) <- holding [ov] (getMethod ov name pl)
   callWith pos f first (backTo pos (starEach (e::es) X.env)) (backToKw pos (keywordEach [] X.env))):=by rfl):WE X Θ (.Call (.Attribute o name apos) (e::es) [] pos) (M.qU c f mo m):=by with_unfolding_all exact zLY (X:=X) (c:=c) (k:=k) (kk:=kk) (n:=n) (C:=C) (N:=N) (ps:=ps) (name:=name) (o:=o) (e:=e) (es:=es) (mo:=mo) (m:=m) (f:=f) (pos:=pos) (apos:=apos) (pl:=pl) cm h hr hk hm ho ha ar hx he hpl ht
theorem zJk {X:Cx}{c k kk:Nat}{C:Addr}{N ps:List Str}{name:Str}{o:Expr}{mo:M.EM}{f:M.F}{pos apos:Pos}{pl:Sem Bool} (cm:QI X.K Θ c C N) (h:JB X.prog X.w X.K X.mg X.base C name k ps (SpM X.K Θ 1 f)) (hr:zy kk X.A) (hk:k <= kk) (hm:name∉N) (ho:ME X Θ o mo) (hx:qa CX0 X E0:=by exact QS)
  (ht:eval (.Call (.Attribute o name apos) [] [] pos) X.env=(do
   let ov <- eval o X.env
   standAt apos.atName
   let (f,first) <- holding [ov] (getMethod ov name pl)
   callWith pos f first (backTo pos (starEach [] X.env)) (backToKw pos (keywordEach [] X.env))):=by rfl):ME X Θ (.Call (.Attribute o name apos) [] [] pos) (M.qU c f mo M.zI):=by
 obtain⟨g,fd,F,b,mt⟩:=h.ex
 refine (zKb ho cm.cl mt F (hr.mono hk) b .nil hx ht).imp fun σ H Q ⟨ρ,σ',S,st,rp,h⟩=>⟨ρ,σ',S,st,rp,zF.bind h fun ρ1 H1 x X1 S1 p1 l1 rp1 rx h1=>?_⟩
 cases x with
 | ref p =>
  have h1':zF X.K Θ (zN X.K) ρ1 H1 (match S1[p]? with | some (.ins c' _)=>if c'=c then f [.ref p] S1 else .no | _=>.no) Q:=h1
  cases q:S1[p]? with
  | none=>rw[q] at h1';exact h1'.elim
  | some ob =>
   rw[q] at h1'
   cases ob with
   | ins c' fs =>
    by_cases hc:c'=c
    ·subst hc
     have h2:zF X.K Θ (zN X.K) ρ1 H1 (if c'=c' then f [.ref p] S1 else .no) Q:=h1'
     rw[if_pos rfl] at h2
     obtain⟨a,rfl,ha'⟩:=id rx
     obtain⟨dx,gs,e1,e2⟩:=zDf cm rp1 ha' q
     exact⟨a,dx,gs,rfl,e1,zCw e2 hm,ρ1,[.ref p],S1,rfl,⟨_,_,rfl,rx,rfl⟩,rp1,h2⟩
    ·have h2:zF X.K Θ (zN X.K) ρ1 H1 (if c'=c then f [.ref p] S1 else .no) Q:=h1'
     rw[if_neg hc] at h2
     exact h2.elim
   | lst _=>exact h1'.elim
   | dct _=>exact h1'.elim
   | fdc _=>exact h1'.elim
 | _=>exact h1.elim
theorem zHn {X:Cx}{c k kk:Nat}{C:Addr}{N ps:List Str}{name:Str}{o:Expr}{mo:M.EM}{f:M.F}{pos apos:Pos}{pl:Sem Bool} (cm:QI X.K Θ c C N) (h:JB X.prog X.w X.K X.mg X.base C name k ps (SpM X.K Θ 1 f)) (hr:zy kk X.A) (hk:k <= kk) (hm:name∉N) (ho:WE X Θ o mo) (hx:qa CX0 X E0:=by exact QS)
  (ht:eval (.Call (.Attribute o name apos) [] [] pos) X.env=(do
   let ov <- eval o X.env
   standAt apos.atName
   let (f,first) <- holding [ov] (getMethod ov name pl)
   callWith pos f first (backTo pos (starEach [] X.env)) (backToKw pos (keywordEach [] X.env))):=by rfl):WE X Θ (.Call (.Attribute o name apos) [] [] pos) (M.qU c f mo M.zI):=by with_unfolding_all exact zJk (X:=X) (c:=c) (k:=k) (kk:=kk) (C:=C) (N:=N) (ps:=ps) (name:=name) (o:=o) (mo:=mo) (f:=f) (pos:=pos) (apos:=apos) (pl:=pl) cm h hr hk hm ho hx ht
theorem zLk {X:Cx}{c k kk n nf:Nat}{C:Addr}{N ps:List Str}{x:Str}{e:Expr}{es:List Expr}{m:M.AM}{f:M.F}{pos p:Pos} (cm:QI X.K Θ c C N) (h:zJd X.prog X.w X.K X.mg X.base C x k ps (SpM X.K Θ (n+1) f)) (hr:zy kk X.A) (hk:k+1 <= kk) (hn:N.length=nf) (hg:Gl X x) (ha:MA X Θ (e::es) m) (ar:Qe m n) (hx:qa CX0 X E0:=by exact QS) (hdb:(x == ("__debug__" : Str))=false:=by decide)
  (he:ze e=true:=by rfl) (hpl:es.all ze=true:=by rfl):ME X Θ (.Call (.Name x p) (e::es) [] pos) (M.zD6 c nf f m):=by
 obtain⟨g,fd,F,b,mk,hmg⟩:=h.ex
 refine (zME mk F (hr.mono hk) hg hmg b .nil hx ha hdb (jS he) (yl hpl)).imp fun σ H Q ⟨ρ,σ',S,st,rp,h⟩=>⟨ρ,σ',S,st,rp,?_⟩
 have h':zF X.K Θ (zN X.K) ρ H ((m σ' S).bind fun xs s=>(f (.ref s.length::xs) (s++[.ins c (List.replicate nf none)])).bind fun d s'=>if d=.non then .ok (.ref s.length) s' else .no) Q:=h
 cases hM:m σ' S with
 | no=>rw[hM] at h';exact h'.elim
 | exc a s=>rw[hM] at h';exact h'.elim
 | ok ds S1 =>
  rw[hM,M.R.bind_ok] at h'
  intro ρ1 H1 vs p1 l1 rp1 r1 y dx hy hdx hne
  rw[List.append_nil]
  have l2:Le H1 (upd H1 dx (.own y)):=Le.new hdx _
  have rp2:=rp1.aside hdx (.own y)
  have hy2:upd H1 dx (.own y) y=none:=by rw[zf (Ne.symm hne)];exact hy
  have l3:Le (upd H1 dx (.own y)) (upd (upd H1 dx (.own y)) y (.ins C dx [])):=Le.new hy2 _
  have pre:ρ1 <+: ρ1++[y]:=List.prefix_append _ _
  have rp3:zW X.K Θ (ρ1++[y]) (S1++[.ins c (List.replicate nf none)]) (upd (upd H1 dx (.own y)) y (.ins C dx [])):=by
   refine rp2.alloc hy2 ⟨C,dx,[],N,jU,cm.tab,by rw[List.length_replicate];exact hn.symm,List.nodup_nil,(fun f hf=>nomatch hf),fun i f d _ q=>?_⟩
   rw[List.getElem?_replicate] at q
   split at q<;>cases q
  have hlast:(ρ1++[y])[S1.length]? = some y:=by rw[<- rp1.len];simp
  refine⟨ρ1++[y],.ref S1.length::ds,_,by rw[List.length_cons,ar _ _ _ _ hM],⟨_,_,rfl,⟨y,rfl,hlast⟩,r1.mono pre (l2.trans l3)⟩,rp3,?_⟩
  refine zF.bind (zF.weak h' (p1.trans pre) (l1.trans (l2.trans l3))) fun ρ4 H4 d v S4 p4 l4 rp4 rv h4=>?_
  by_cases hd:d=.non
  ·subst hd
   rw[if_pos rfl] at h4
   cases rv
   exact⟨rfl,zF.here h4 rp4 ⟨y,rfl,Q5 p4 hlast⟩⟩
  ·rw[if_neg hd] at h4
   exact h4.elim
theorem zIe {X:Cx}{c k kk n nf:Nat}{C:Addr}{N ps:List Str}{x:Str}{e:Expr}{es:List Expr}{m:M.AM}{f:M.F}{pos p:Pos} (cm:QI X.K Θ c C N) (h:zJd X.prog X.w X.K X.mg X.base C x k ps (SpM X.K Θ (n+1) f)) (hr:zy kk X.A) (hk:k+1 <= kk) (hn:N.length=nf) (hg:Gl X x) (ha:WA X Θ (e::es) m) (ar:Qe m n) (hx:qa CX0 X E0:=by exact QS) (hdb:(x == ("__debug__" : Str))=false:=by decide)
  (he:ze e=true:=by rfl) (hpl:es.all ze=true:=by rfl):WE X Θ (.Call (.Name x p) (e::es) [] pos) (M.zD6 c nf f m):=by with_unfolding_all exact zLk (X:=X) (c:=c) (k:=k) (kk:=kk) (n:=n) (nf:=nf) (C:=C) (N:=N) (ps:=ps) (x:=x) (e:=e) (es:=es) (m:=m) (f:=f) (pos:=pos) (p:=p) cm h hr hk hn hg ha ar hx hdb he hpl
end
end L2
namespace L2
open PySem PySem.Spec PyProof.Rows
section
variable {P:Program}{w:World}{A:Around}{E:Value->Shared->Prop}{s:Shared}
theorem zHP:typeLookup (.type "list_reverseiterator") "__len__" = pure none:=by rw[typeLookup_type,builtinLookup_eq_fast];kernel_rfl
theorem zJY:typeLookup (.type "list_reverseiterator") "__length_hint__" = pure (some (.builtin "list_reverseiterator.__length_hint__")):=by rw[typeLookup_type,builtinLookup_eq_fast];kernel_rfl
theorem zJV {I l:Addr}{i:Int}{R:Bool->Shared->Prop} (h:s.heap.IsRevIter I l i) (q:R false s):wpAny (model P w) A (Builtin.List.listLengthHint (.ref I)) R E s:=by
 unfold Builtin.List.listLengthHint
 refine wpAny_bind (wpAny_specialOf h.typeIs zHP ?_)
 show wpAny (model P w) _ (specialOf (Value.ref I) (Str.ofString "__length_hint__") >>= _) _ _ _
 refine wpAny_bind (wpAny_specialOf h.typeIs zJY ?_)
 generalize hid:("list_reverseiterator.__length_hint__" : String)=id0
 wp_delta
 rw[show splitId id0=some ("list_reverseiterator","__length_hint__") from by subst hid;decide +kernel]
 subst hid
 refine wpAny_bind (wpAny_isInstance (T := "list_reverseiterator") (b:=true) h.typeIs (by rw[isSubtype_type];kernel_rfl) ?_)
 refine wpAny_ite_split (fun hab=>absurd hab (by decide)) (fun _=>?_)
 refine wpAny_ite_split (fun _=>?_) (fun hab=>absurd (by decide +kernel) hab)
 refine wpAny_ite_split (fun hab=>absurd hab (by decide +kernel)) (fun _=>?_)
 exact wpAny_pure q
end
theorem zFV:PySem.Slot "reversed" "__init__" "object.__init__" :=
 .of (owner := "object") (n := "__init__") (by rw[typeLookup_type,builtinLookup_eq_fast];kernel_rfl) (by decide +kernel) (by decide +kernel) (by decide +kernel)
  (by first | exact .inl (by decide +kernel) | exact .inr (by decide +kernel)) (by rw[isSubtype_type];kernel_rfl)
theorem zHx:TypeCalled "reversed" "reversed.__new__" "object.__init__" :=
 ⟨by decide +kernel,by decide +kernel,⟨_,_,PySem.F.mro_reversed⟩,PySem.F.made_reversed,by decide +kernel,PySem.F.sub_reversed_self,zFV⟩
theorem Zf:PySem.Slot "reversed" "__next__" "reversed.__next__" :=
 .of (owner := "reversed") (n := "__next__") (by rw[typeLookup_type,builtinLookup_eq_fast];kernel_rfl) (by decide +kernel) (by decide +kernel) (by decide +kernel)
  (by first | exact .inl (by decide +kernel) | exact .inr (by decide +kernel)) (by rw[isSubtype_type];kernel_rfl)
theorem zBk:PySem.Slot "reversed" "__iter__" "reversed.__iter__" :=
 .of (owner := "reversed") (n := "__iter__") (by rw[typeLookup_type,builtinLookup_eq_fast];kernel_rfl) (by decide +kernel) (by decide +kernel) (by decide +kernel)
  (by first | exact .inl (by decide +kernel) | exact .inr (by decide +kernel)) (by rw[isSubtype_type];kernel_rfl)
theorem zE2:Manifest.owners.lookup (String.ofList ['d','e','s','r','e','v','e','r'].reverse)=some Manifest.sig_reversed:=by kernel_rfl
theorem zBm (a:Value):argsOk "reversed.__next__" ⟨[a],[]⟩:=by
 unfold argsOk;rw[signature?_of (id := "reversed.__next__") (n:=['_','_','t','x','e','n','_','_']) (o:=['d','e','s','r','e','v','e','r']) (by kernel_rfl) zE2];kernel_rfl
theorem zFS (a:Value):argsOk "reversed.__iter__" ⟨[a],[]⟩:=by
 unfold argsOk;rw[signature?_of (id := "reversed.__iter__") (n:=['_','_','r','e','t','i','_','_']) (o:=['d','e','s','r','e','v','e','r']) (by kernel_rfl) zE2];kernel_rfl
theorem zAx:entryFor table "reversed.__next__" = some Builtin.«reversed.__next__» := entryFor_of_tree (by kernel_rfl)
theorem zEV:entryFor table "reversed.__iter__" = some Builtin.«dict_keyiterator.__iter__» :=
 entryFor_alias (id' := "dict_keyiterator.__iter__") (by kernel_rfl) (by first | rfl | decide +kernel | (unfold String.splitOn;simp +decide [String.splitOnAux])) (by decide +kernel) (by kernel_rfl)
theorem zHR:typeLookup (.type "tuple") "__reversed__" = pure none:=by rw[typeLookup_type,builtinLookup_eq_fast];kernel_rfl
noncomputable def zAM (h:Heap) (a t:Addr) (i:Int):Prop:=h.get? a=some { cls:=.type "reversed",dict:=none,data:=.fields #[.ref t,rawInt i],slots:=#[] }
section
variable {P:Program}{w:World}{A:Around}{E:Value->Shared->Prop}{s:Shared}
theorem zAM.typeIs {a t:Addr}{i:Int} (x:zAM s.heap a t i):s.TypeIs (.ref a) "reversed" := ⟨_,x,rfl⟩
theorem zJB (t:Addr) (xs:Array Value):Meets (Builtin.«reversed.__new__» ⟨[.type "reversed",.ref t],[]⟩) (fun _ R s=>IsTup s.heap t xs/\(xs.size:Int) < 2 ^ 63/\R (.ok (.ret (.ref s.heap.objs.size))) { s with heap:=s.heap.push { cls:=.type "reversed",data:=.fields #[.ref t,rawInt ((xs.size:Int) - 1)] },toks:=s.toks+1+1 }) :=
 .of_wp fun prog w A R s h=>by
  obtain⟨ht,hz,h⟩:=h
  unfold Builtin.«reversed.__new__»
  refine wpAny_bind (wpAny_of_eq (newClass_reversed _) ?_)
  try dsimp only
  refine wpAny_bind (wpAny_of_eq (a:=()) (by first | rfl | kernel_rfl) ?_)
  refine wpAny_bind (wpAny_of_eq (a:=()) (by first | rfl | kernel_rfl) ?_)
  try dsimp only
  refine wpAny_bind (wpAny_specialOf ht.typeIs zHR ?_)
  try dsimp only
  refine wpAny_bind (wpAny_bind (wpAny_isInstance (T := "tuple") (b:=false) ht.typeIs (by rw[isSubtype_type];kernel_rfl) ?_))
  refine wpAny_ite_split (fun hab=>absurd hab (by decide)) (fun _=>?_)
  refine wpAny_bind (wpAny_specialOf ht.typeIs PySem.F.slot_tuple_getitem.lookup ?_)
  refine wpAny_ite_split (fun _=>?_) (fun hab=>absurd (by decide +kernel) hab)
  refine wpAny_pure ?_
  refine wpAny_ite_split (fun hab=>absurd hab (by decide)) (fun _=>?_)
  refine wpAny_bind (len_tuple ht hz ?_)
  refine wpAny_bind (m:=asInt? _) (wpAny_pure ?_)
  refine wpAny_bind (m:=Builtin.SmallTypes.newRecord _ _) ?_
  show wpAny (model prog w) _ (newObj (.type "reversed") (.fields #[.ref t,rawInt ((xs.size:Int) - 1)])) _ _ _
  exact wpAny_newObj_type (wpAny_pure ⟨_,rfl,h⟩)
theorem zBs {t:Addr}{xs:Array Value}{Q:Value->Shared->Prop} (ht:IsTup s.heap t xs) (hz:(xs.size:Int) < 2 ^ 63)
  (q:Q (.ref s.heap.objs.size) { s with heap:=s.heap.push { cls:=.type "reversed",data:=.fields #[.ref t,rawInt ((xs.size:Int) - 1)] },toks:=s.toks+1+1 }):wpAny (model P w) A (call (.type "reversed") [.ref t]) Q E s:=by
 refine callType_new zHx (by decide) (PySem.F.typeCall_reversed_1 _) (PySem.F.newCall_reversed_1 _) (fun obj=>PySem.F.args_object_init_2 obj _) PySem.F.entry_reversed_new (zJB t xs) ⟨ht,hz,?_⟩
 exact⟨⟨_,Heap.get?_push_size _ rfl,rfl⟩,q⟩
theorem zJf {it t:Addr}{i:Nat}{xs:Array Value}{x:Value}{Q:Option Value->Shared->Prop} (hit:zAM s.heap it t (i:Int)) (ht:IsTup s.heap t xs) (hi:i < 2 ^ 62) (hx:xs[i]? = some x)
  (q:∀ h',zAM h' it t ((i:Int) - 1)->Heap.SameBut it s.heap h'->Q (some x) { s with heap:=h',toks:=s.toks+1 }):wpAny (model P w) A (pyNext (.ref it)) Q E s:=by
 unfold pyNext
 refine wpAny_bind (wpAny_attempt (wpAny_callSpecial?_slot (name:=Str.ofString "__next__") hit.typeIs Zf
  (wpAny_call_entry Zf hit.typeIs zAx ?_ (zBm _))))
 unfold Builtin.«reversed.__next__»
 refine wpAny_bind (wpAny_of_eq (a:=(Value.ref it,[])) rfl ?_)
 try dsimp only
 refine wpAny_bind (wpAny_field hit rfl (x:=.ref t) rfl ?_)
 refine wpAny_bind (wpAny_field hit rfl (x:=rawInt (i:Int)) rfl ?_)
 show wpAny (model P w) _ (if (i:Int) < 0 then _ else _) _ _ s
 rw[if_neg (by omega)]
 refine wpAny_bind (wpAny_specialOf ht.typeIs PySem.F.slot_tuple_getitem.lookup ?_)
 refine wpAny_ite_split (fun hab=>absurd hab (by decide)) (fun _=>?_)
 refine wpAny_bind (wpAny_mkInt ?_)
 have lt:i < xs.size:=by
  rcases Nat.lt_or_ge i xs.size with h | h
  ·exact h
  ·rw[Array.getElem?_eq_none h] at hx;cases hx
 refine wpAny_bind (wpAny_attempt (PyProof.Rows.getItem_tuple (s:={ s with toks:=s.toks+1 }) ht (by omega) (by omega) (j:=i) (by unfold seqIndex?;simp;omega) hx ?_))
 refine wpAny_bind (wpAny_field (s:={ s with toks:=s.toks+1 }) hit rfl (x:=rawInt (i:Int)) rfl ?_)
 refine wpAny_bind (wpAny_setField_rec (s:={ s with toks:=s.toks+1 }) hit (by simp) fun h' hz' hs'=>?_)
 exact wpAny_pure ⟨x,rfl,wpAny_pure (q h' hz' hs')⟩
theorem zLZ {it t:Addr}{Q:Option Value->Shared->Prop} (hh:A.handled=none) (hit:zAM s.heap it t (-1))
  (q:∀ h',Heap.ExtBut it s.heap h'->Q none { s with heap:=h' }):wpAny (model P w) A (pyNext (.ref it)) Q E s:=by
 unfold pyNext
 refine wpAny_bind (wpAny_attempt (wpAny_callSpecial?_slot (name:=Str.ofString "__next__") hit.typeIs Zf
  (wpAny_call_entry Zf hit.typeIs zAx ?_ (zBm _))))
 unfold Builtin.«reversed.__next__»
 refine wpAny_bind (wpAny_of_eq (a:=(Value.ref it,[])) rfl ?_)
 try dsimp only
 refine wpAny_bind (wpAny_field hit rfl (x:=.ref t) rfl ?_)
 refine wpAny_bind (wpAny_field hit rfl (x:=rawInt (-1)) rfl ?_)
 show wpAny (model P w) _ (if (-1:Int) < 0 then _ else _) _ _ s
 rw[if_pos (by decide)]
 refine wpAny_bind (wpAny_rule ?_)
 refine wpAny_bind ?_
 show wpAny (model P w) _ (setField (.ref it) 1 (rawInt (-1)) >>= fun _=>setField (.ref it) 0 .none) _ _ s
 refine wpAny_bind (wpAny_setField_rec hit (by simp) fun h1 z1 s1=>?_)
 refine wpAny_setField_rec (s:={ s with heap:=h1 }) z1 (by simp) fun h2 z2 s2=>?_
 first
 | show wpAny (model P w) _ (newExc (.type "StopIteration") [] >>= _) _ _ _
 | (refine wpAny_bind ?_;show wpAny (model P w) _ (newExc (.type "StopIteration") [] >>= _) _ _ _)
 refine wpAny_bind ?_
 simp only[newExc,newTuple]
 refine wpAny_bind (wpAny_newObj_type ?_ (by size_fits))
 refine wpAny_bind (m:=firstArgMember _ _) (wpAny_of_eq (a:=Value.none) (by first | rfl | (simp only[firstArgMember];rfl)) ?_)
 refine wpAny_newObj_type ?_ (by size_fits)
 simp only[raiseNew]
 refine wpAny_bind (wpAny_handled ?_)
 first | rw[show A.in1.handled=none from hh] | rw[hh]
 refine wpAny_bind (wpAny_pure (wpAny_throw ?_))
 refine wpAny_bind (wpAny_isInstance (T := "StopIteration") (b:=true) ⟨_,Heap.get?_push_size _ rfl,rfl⟩ isSubtype_stop ?_)
 exact wpAny_pure (q _ (((s1.extBut.trans s2.extBut).push _).push _))
theorem zFy {it t:Addr}{i:Int}{Q:Value->Shared->Prop} (hit:zAM s.heap it t i) (h:Q (.ref it) s):wpAny (model P w) A (pyIter (.ref it)) Q E s:=by
 refine wpAny_pyIter_slot hit.typeIs zBk (wpAny_call_entry zBk hit.typeIs zEV ?_ (zFS _))
 show wpAny (model P w) _ (ret (.ref it)) _ _ s
 exact wpAny_pure ⟨_,rfl,"reversed",_,hit.typeIs,Zf.lookup,h⟩
end
theorem zIh {xs:List Value}{acc:Array Value} (h:ItemsOf (fun i v=>xs.toArray[xs.toArray.size - 1 - i]? = some v) acc xs.length):acc=xs.reverse.toArray:=by
 apply Array.toList_inj.mp
 apply List.ext_getElem?
 intro j
 rcases Nat.lt_or_ge j xs.length with hj | hj
 ·have e:acc[j]? = some (acc[j]'(by rw[h.1];exact hj)):=Array.getElem?_eq_getElem _
  have e2:=h.2 j _ e
  rw[Array.getElem?_toList,e,<- e2,List.getElem?_reverse hj]
  simp
 ·rw[List.getElem?_eq_none (by rw[Array.length_toList,h.1];exact hj),List.getElem?_eq_none (by simpa using hj)]
section
variable {Θ:Tab}
theorem zAT:bootBuiltins "reversed" = some (.type "reversed"):=by decide +kernel
end
end L2
namespace L2
open PySem PySem.Spec PyProof.Rows
noncomputable def SIt (b:Bool) (h:Heap) (it a:Addr) (i:Nat):Prop:=match b with | true=>h.IsListIter it a i | false=>h.IsTupleIter it a i
section
variable {P:Program}{w:World}{A:Around}{E:Value->Shared->Prop}{s:Shared}
structure ZAt (b1 b2:Bool) (z TI TO i1 i2 l1 l2:Addr) (i:Nat) (h:Heap):Prop where
 zp:IsZip h z TI TO .none
 ti:IsPair h TI (.ref i1) (.ref i2)
 to:∃ a b,IsPair h TO a b
 n1:SIt b1 h i1 l1 i
 n2:SIt b2 h i2 l2 i
end
end L2
namespace L2
open PySem PySem.Spec PyProof.Rows
section
variable {P:Program}{w:World}{A:Around}{E:Value->Shared->Prop}{s:Shared}
set_option maxHeartbeats 4000000 in
end
end L2
namespace L2
open PySem PySem.Spec PyProof.Rows
theorem Inv.swapD {X:Cx}{pins:List (Addr×Obj)}{σ:St}{H:Hp}{s:Shared}{a:Addr}{u0 u1:HO} (I:Inv X pins σ H s) (e:H a=some u0) (n1:∀ xs,u0≠.tup xs) (n2:∀ o u,X.H₀ a≠some (.frz o u)) (n3:∀ ps,u0≠.tbl ps) (n4:∀ x,u0≠.own x)
  (new:je X.prog X.w (upd H a u1) s.heap a u1):Inv X pins σ (upd H a u1) s:=by
 have nn:∀ {b},H b=none->b≠a:=fun z q=>by rw[q,e] at z;cases z
 refine⟨I.ok,I.os,I.bare,⟨I.base.keep,I.base.slot,fun b ob q n hx=>?_,I.base.there,fun b xs q=>?_,fun b ob u q=>?_,fun b ps q=>?_⟩,I.loc,I.cell,?_,fun x c q=>?_,fun p hp'=>?_,fun b u q=>?_,I.len,I.tk⟩
 ·have z:=I.base.free b ob q n hx
  rw[zf (nn z)];exact z
 ·have z:=I.base.tups b xs q
  rw[zf (fun w=>by rw[w,e] at z;cases z;exact n1 xs rfl)];exact z
 ·have z:=I.base.frzs b ob u q
  rw[zf (fun w=>by rw[w] at q;exact n2 _ _ q)];exact z
 ·obtain⟨mo,z⟩:=I.base.tbls b ps q
  exact⟨mo,by rw[zf (fun w=>by rw[w,e] at z;cases z;exact n3 _ rfl)];exact z⟩
 ·rw[zf (nn I.free)];exact I.free
 ·rw[zf (nn (I.freeC x c q))];exact I.freeC x c q
 ·obtain⟨e1,e2,e3,e4,e5⟩:=I.pin p hp'
  exact⟨e1,by rw[zf (nn e2)];exact e2,e3,e4,e5⟩
 ·by_cases hb:b=a
  ·subst hb;rw[jU] at q;cases q;exact new
  ·rw[zf hb] at q
   exact (I.hok b u q).stay (fun _ _ _ q=>q) (fun c z=>by rw[zf (fun w=>by rw[w,e] at z;cases z;exact n4 _ rfl)];exact z) fun c xs z=>by rw[zf (fun w=>by rw[w,e] at z;cases z;exact n1 _ rfl)];exact z
theorem Inv.dict_base {X:Cx}{pins:List (Addr×Obj)}{σ:St}{H:Hp}{s:Shared}{a:Addr}{kvs:List (Key×V)} (I:Inv X pins σ H s) (e:H a=some (.dK kvs)):∀ o u,X.H₀ a≠some (.frz o u):=fun o u q=>by
 have z:=I.base.frzs a o u q
 rw[e] at z;cases z
theorem Inv.freeze {X:Cx}{pins:List (Addr×Obj)}{σ:St}{H:Hp}{s:Shared}{a:Addr}{kvs:List (Key×V)} (I:Inv X pins σ H s) (e:H a=some (.dK kvs)) :
  ∃ o vs ep,KV kvs vs/\(∀ h:Heap,h.get? a=some o->h.DictAt (jP X.prog X.w) a vs ep)/\s.heap.get? a=some o/\Inv X pins σ (upd H a (.frz o (.dK kvs))) s:=by
 have x:=I.hok a _ e
 obtain⟨z,hd,vs,rel,o,es,ep,ho,r⟩:=id x
 refine⟨o,vs,ep,rel,fun h q=>⟨o,es,q,r⟩,ho,I.swapD e (fun _ q=>nomatch q) (I.dict_base e) (fun _ q=>nomatch q) (fun _ q=>nomatch q) ⟨ho,z,hd,vs,rel,o,es,ep,ho,r⟩⟩
theorem Inv.thaw {X:Cx}{pins:List (Addr×Obj)}{σ:St}{H:Hp}{s:Shared}{a:Addr}{o:Obj}{kvs:List (Key×V)} (I:Inv X pins σ H s) (e:H a=some (.frz o (.dK kvs))) (n2:∀ o u,X.H₀ a≠some (.frz o u)):Inv X pins σ (upd H a (.dK kvs)) s:=by
 obtain⟨_,z,hd,vs,rel,dd⟩:=(show je X.prog X.w H s.heap a (.frz o (.dK kvs)) from I.hok a _ e)
 exact I.swapD e (fun _ q=>nomatch q) n2 (fun _ q=>nomatch q) (fun _ q=>nomatch q) ⟨z,hd,vs,rel,dd⟩
theorem zOo {P:Program}{w:World}{k:Key}{u:Value} (h:(jP P w).is k u=true):zh (kV k) u:=by
 rcases qH h with ⟨i,t,rfl,rfl⟩ | ⟨x,t,rfl,rfl⟩
 ·exact⟨t,rfl⟩
 ·exact⟨t,rfl⟩
theorem zNj {kvs:List (Key×V)}{vs:List (Key×Value)}{i:Nat}{p:Key×V} (h:KV kvs vs) (e:kvs[i]? = some p):∃ q,vs[i]? = some q/\p.1=q.1/\zh p.2 q.2:=by
 unfold KV at h
 induction h generalizing i with
 | nil=>simp at e
 | cons h t ih =>
  cases i with
  | zero=>cases e;exact⟨_,rfl,h⟩
  | succ n =>
   obtain⟨q,hq,r⟩:=ih (by simpa using e)
   exact⟨q,by simpa using hq,r⟩
section
variable {K:PySem.W.Frag}{Θ:Tab}{ρ:List Addr}{H H':Hp}
mutual
theorem zN.move (hT:∀ b xs,SqT K H b xs->SqT K H' b xs) (hR:∀ b xs,JW K H b xs->JW K H' b xs):∀ {d:M.D}{v:V},zN K ρ H d v->zN K ρ H' d v
 | .non,_,h=>h
 | .bl _,_,h=>h
 | .int _,_,h=>h
 | .str _,_,h=>h
 | .ty _,_,h=>h
 | .ref _,_,h=>h
 | .tup _,_,⟨a,xs,e,h,r⟩=>⟨a,xs,e,hT a xs h,zO.move hT hR r⟩
 | .ro _,_,⟨a,xs,e,h,r⟩=>⟨a,xs,e,hR a xs h,zO.move hT hR r⟩
theorem zO.move (hT:∀ b xs,SqT K H b xs->SqT K H' b xs) (hR:∀ b xs,JW K H b xs->JW K H' b xs):∀ {ds:List M.D}{xs:List V},zO K ρ H ds xs->zO K ρ H' ds xs
 | [],_,h=>h
 | _::_,_,⟨y,ys,e,h,r⟩=>⟨y,ys,e,zN.move hT hR h,zO.move hT hR r⟩
end
section
variable {a:Addr}{o:Obj}{ks:List (Key×V)} (ha:H a=some (.frz o (.dK ks)))
include ha
theorem zIJ:∀ b xs,SqT K H b xs->SqT K (upd H a (.dK ks)) b xs:=fun b xs h=>by
 rcases h with (h | ⟨o',h⟩) | h
 ·exact .inl (.inl (by rw[zf (fun z=>by rw[z,ha] at h;cases h)];exact h))
 ·exact .inl (.inr ⟨o',by rw[zf (fun z=>by rw[z,ha] at h;cases h)];exact h⟩)
 ·exact .inr h
theorem zI3:∀ b xs,JW K H b xs->JW K (upd H a (.dK ks)) b xs:=fun b xs h=>by
 rcases h with ⟨o',h⟩ | h
 ·exact .inl ⟨o',by rw[zf (fun z=>by rw[z,ha] at h;cases h)];exact h⟩
 ·exact .inr h
theorem zN.thaw {d:M.D}{v:V} (r:zN K ρ H d v):zN K ρ (upd H a (.dK ks)) d v:=zN.move (zIJ ha) (zI3 ha) r
theorem jI.thaw {σ':M.St}{σ:St} (h:jI K ρ H σ' σ):jI K ρ (upd H a (.dK ks)) σ' σ :=
 ⟨h.len,fun i d e=>let ⟨v,h1,h2⟩:=h.get i d e;⟨v,h1,zN.thaw ha h2⟩⟩
theorem ObR.thaw {b:Addr}{ob:M.O} (nb:b≠a) (h:ObR K Θ ρ H b ob):ObR K Θ ρ (upd H a (.dK ks)) b ob:=by
 have e:=zf (H:=H) (o:=.dK ks) nb
 cases ob with
 | lst ds=>obtain⟨xs,e1,r⟩:=h;exact⟨xs,e.trans e1,zO.move (zIJ ha) (zI3 ha) r⟩
 | dct kvs=>obtain⟨ks,e1,r⟩:=h;exact⟨ks,e.trans e1,Paired.mapP r fun p q z=>⟨z.1,zN.thaw ha z.2⟩⟩
 | fdc kvs=>obtain⟨o',ks',e1,r⟩:=h;exact⟨o',ks',e.trans e1,Paired.mapP r fun p q z=>⟨z.1,zN.thaw ha z.2⟩⟩
 | ins c fs =>
  obtain⟨C,dx,gs,N,e1,e2,r⟩:=h
  exact⟨C,dx,gs,N,e.trans e1,e2,r.len,r.nd,r.within,fun i f d h1 h2=>let ⟨v,k1,k2⟩:=r.get i f d h1 h2;⟨v,k1,zN.thaw ha k2⟩⟩
theorem zW.thaw {S:M.S}{i:Nat}{kvs:List (M.D×M.D)} (h:zW K Θ ρ S H) (hi:ρ[i]? = some a) (r:Paired (fun (p:M.D×M.D) (q:Key×V)=>Zc p.1 q.1/\zN K ρ (upd H a (.dK ks)) p.2 q.2) kvs ks):zW K Θ ρ (S.set i (.dct kvs)) (upd H a (.dK ks)):=by
 refine⟨by simp[h.len],h.nd,fun j ob q=>?_⟩
 by_cases hj:i=j
 ·subst hj
  by_cases hl:i < S.length
  ·rw[List.getElem?_set_self hl] at q
   cases q
   exact⟨a,hi,ks,jU,r⟩
  ·rw[List.getElem?_eq_none (by rw[List.length_set];omega)] at q
   cases q
 ·rw[List.getElem?_set_ne hj] at q
  obtain⟨b,h1,h2⟩:=h.obj j ob q
  exact⟨b,h1,ObR.thaw ha (fun z=>hj (Js h.nd hi (z ▸ h1))) h2⟩
end
theorem zIW {α β:Type}{R:α->β->Prop}{xs:List α}{ys:List β}{i:Nat}{y:β} (h:Paired R xs ys) (e:ys[i]? = some y):∃ x,xs[i]? = some x/\R x y:=by
 induction h generalizing i with
 | nil=>simp at e
 | cons h t ih =>
  cases i with
  | zero=>cases e;exact⟨_,rfl,h⟩
  | succ n =>
   obtain⟨q,hq,r⟩:=ih (by simpa using e)
   exact⟨q,by simpa using hq,r⟩
theorem Zc.rel {d:M.D}{k:Key} (h:Zc d k):zN K ρ H d (kV k):=by
 cases d with
 | int i=>cases h;rfl
 | str x=>obtain⟨rfl,ok⟩:=h;exact⟨rfl,ok⟩
 | _=>exact h.elim
end
noncomputable def zKr (H₀:Hp) (D:QD):QD where
 nx:=fun σ H=>∃ a o ks,H a=some (.frz o (.dK ks))/\(∀ o u,H₀ a≠some (.frz o u))/\D.nx σ (upd H a (.dK ks))
 rt:=fun v H=>∃ a o ks,H a=some (.frz o (.dK ks))/\(∀ o u,H₀ a≠some (.frz o u))/\D.rt v (upd H a (.dK ks))
 bk:=fun σ H=>∃ a o ks,H a=some (.frz o (.dK ks))/\(∀ o u,H₀ a≠some (.frz o u))/\D.bk σ (upd H a (.dK ks))
 ct:=fun σ H=>∃ a o ks,H a=some (.frz o (.dK ks))/\(∀ o u,H₀ a≠some (.frz o u))/\D.ct σ (upd H a (.dK ks))
theorem zLw {X:Cx}{st:Stmt}{t:TS} (h:PS X st t):PS X st fun D σ H=>t (zKr X.H₀ D) σ H:=fun pins s σ H D I q=>thn (h pins s σ H _ I q) fun f s1 z=>by
 cases f with
 | next=>obtain⟨σ1,H1,I1,a,o,ks,e,n,d⟩:=z;exact⟨σ1,_,I1.thaw e n,d⟩
 | brk=>obtain⟨σ1,H1,I1,a,o,ks,e,n,d⟩:=z;exact⟨σ1,_,I1.thaw e n,d⟩
 | cont=>obtain⟨σ1,H1,I1,a,o,ks,e,n,d⟩:=z;exact⟨σ1,_,I1.thaw e n,d⟩
 | ret u=>obtain⟨v,σ1,H1,I1,r,a,o,ks,e,n,d⟩:=z;exact⟨v,σ1,_,I1.thaw e n,r,d⟩
section
variable {X:Cx}{Θ:Tab}
theorem zIH {K:PySem.W.Frag}{H₀:Hp}{ρ:List Addr}{H:Hp}{i:Nat}{a:Addr}{o:Obj}{kvs:List (M.D×M.D)}{ks:List (Key×V)}{r:M.RS}{D:QD} (hi:ρ[i]? = some a) (ha:H a=some (.dK ks)) (n:∀ o u,H₀ a≠some (.frz o u)) (pr:Paired (fun (p:M.D×M.D) (q:Key×V)=>Zc p.1 q.1/\zN K ρ H p.2 q.2) kvs ks)
  (h:zi K Θ ρ H (M.thaw i kvs r) D):zi K Θ ρ (upd H a (.frz o (.dK ks))) r (zKr H₀ D):=by
 have key:∀ {ρ':List Addr}{H':Hp}{S:M.S},ρ <+: ρ'->Le (upd H a (.frz o (.dK ks))) H'->zW K Θ ρ' S H'->H' a=some (.frz o (.dK ks))/\Le H (upd H' a (.dK ks))/\zW K Θ ρ' (S.set i (.dct kvs)) (upd H' a (.dK ks)):=fun {ρ' H' S} p l rp=>by
  have e:=l.frzs a o (.dK ks) jU
  have le:Le H (upd H' a (.dK ks)):=by
   refine⟨fun b xs q=>?_,fun b ob u q=>?_⟩
   ·have nb:b≠a:=fun z=>by rw[z,ha] at q;cases q
    rw[zf nb]
    exact l.tups b xs (by rw[zf nb];exact q)
   ·have nb:b≠a:=fun z=>by rw[z,ha] at q;cases q
    rw[zf nb]
    exact l.frzs b ob u (by rw[zf nb];exact q)
  exact⟨e,le,rp.thaw e (Q5 p hi) (Paired.mapP pr fun x y z=>⟨z.1,z.2.mono p le⟩)⟩
 cases r with
 | nx σ1 S1 =>
  intro ρ' H' σ p l rp st
  obtain⟨e,le,rp'⟩:=key p l rp
  have h':zi K Θ ρ H (if S1[i]? = some (.fdc kvs) then .nx σ1 (S1.set i (.dct kvs)) else .no) D:=h
  split at h'
  ·exact⟨a,o,ks,e,n,h' ρ' _ σ p le rp' (jI.thaw e st)⟩
  ·exact h'.elim
 | bk σ1 S1 =>
  intro ρ' H' σ p l rp st
  obtain⟨e,le,rp'⟩:=key p l rp
  have h':zi K Θ ρ H (if S1[i]? = some (.fdc kvs) then .bk σ1 (S1.set i (.dct kvs)) else .no) D:=h
  split at h'
  ·exact⟨a,o,ks,e,n,h' ρ' _ σ p le rp' (jI.thaw e st)⟩
  ·exact h'.elim
 | ct σ1 S1 =>
  intro ρ' H' σ p l rp st
  obtain⟨e,le,rp'⟩:=key p l rp
  have h':zi K Θ ρ H (if S1[i]? = some (.fdc kvs) then .ct σ1 (S1.set i (.dct kvs)) else .no) D:=h
  split at h'
  ·exact⟨a,o,ks,e,n,h' ρ' _ σ p le rp' (jI.thaw e st)⟩
  ·exact h'.elim
 | rt d S1 =>
  intro ρ' H' v p l rp rv
  obtain⟨e,le,rp'⟩:=key p l rp
  have h':zi K Θ ρ H (if S1[i]? = some (.fdc kvs) then .rt d (S1.set i (.dct kvs)) else .no) D:=h
  split at h'
  ·exact⟨a,o,ks,e,n,h' ρ' _ v p le rp' (zN.thaw e rv)⟩
  ·exact h'.elim
 | exc e σ1 S1=>exact h
 | no=>exact h
end
end L2
namespace L2
open PySem PySem.Spec PyProof.Rows
noncomputable def Itv (K:PySem.W.Frag) (a:Addr) (xs:List V):It :=
 ⟨fun i H=>SqT K H a xs/\∃ x,xs.reverse[i]? = some x,fun i H x H'=>H'=H/\xs.reverse[i]? = some x,fun i H=>SqT K H a xs/\xs.length <= i⟩
theorem zJv {P:Program}{w:World}{K:PySem.W.Frag}{tg:Expr} (a it:Addr) (xs:List V) (hz:xs.length < 2 ^ 62):zAd P w K tg (Itv K a xs) [it] it (fun i h=>i <= xs.length/\zAM h it a ((xs.length:Int) - 1 - (i:Int))) where
 mem:=by simp
 obj:=fun i h st b hb=>by
  have e:b=it:=by simpa using hb
  subst e
  exact⟨_,st.2,fun v z=>nomatch z⟩
 keep:=fun i h h' st k=>⟨st.1,k it (by simp) _ st.2⟩
 item:=by
  intro X hP hw hK hc i pins s σ H E I hf st hg
  subst hP hw hK
  obtain⟨hq,x,hx⟩:=hg
  obtain⟨its,rv,p,_⟩:=I.tuple hq
  have hl:=rv.length
  have hi:i < xs.length:=by have:=(List.getElem?_eq_some_iff.mp hx).1;rwa [List.length_reverse] at this
  have hx2:xs[xs.length - 1 - i]? = some x:=by rw[List.getElem?_reverse hi] at hx;exact hx
  obtain⟨u,hu,ru⟩:=rv.get hx2
  obtain⟨f0,f1,f2,f3,f4,f5⟩:=hf it (by simp)
  have e:(xs.length:Int) - 1 - (i:Int)=((xs.length - 1 - i:Nat):Int):=by omega
  have hit:=st.2
  rw[e] at hit
  refine zJf hit p (by omega) (x:=u) (by simpa using hu) fun h' hit' sb=>?_
  have e2:((xs.length - 1 - i:Nat):Int) - 1=(xs.length:Int) - 1 - ((i+1:Nat):Int):=by omega
  rw[e2] at hit'
  have I1:Inv X pins σ H { s with heap:=h',toks:=s.toks+1 }:=I.turned (t':=s.toks+1) (fun b o hb e=>sb.extBut b o hb e) f0 f1 f3 f4 f5
  exact⟨u,rfl,zAS (s:={ s with heap:=h',toks:=s.toks+1 }) hit' rfl rfl (by decide) ⟨x,H,I1,ru,⟨rfl,hx⟩,⟨hi,hit'⟩,fun b hb=>(hf b hb).1⟩⟩
 done:=by
  intro X hP hw hK hc i pins s σ H E I hf st hg
  subst hP hw hK
  obtain⟨hq,hx⟩:=hg
  obtain⟨f0,f1,f2,f3,f4,f5⟩:=hf it (by simp)
  have e:(xs.length:Int) - 1 - (i:Int) = -1:=by have:=st.1;omega
  have hit:=st.2
  rw[e] at hit
  exact zLZ (I.ok.hd hc) hit fun h' eb=>⟨rfl,I.turned (t':=s.toks) (fun b o hb e=>eb b o hb e) f0 f1 f3 f4 f5⟩
 self:=fun _ _ _ _ _ st h=>zFy st.2 h
noncomputable def zPV (K:PySem.W.Frag) (ta:TA):TI:=fun σ H R=>ta σ H fun vs H1=>∃ a xs,vs=[.ref a]/\SqT K H1 a xs/\R (Itv K a xs) H1
theorem zMy {X:Cx}{a:Expr}{ta:TA}{p pos:Pos}{tg:Expr} (hg:Gl X "reversed") (hm:X.mg "reversed" = none) (ha:PA X [a] ta) (hsa:ze a=true):PI X tg (.Call (.Name "reversed" p) [a] [] pos) (zPV X.K ta):=by
 intro pins s σ H R I h
 refine Call_ (Jy I hg hm zAT (PyProof.Rows.callWith_type1 (thn (ha pos pins s σ H _ I h) fun us s1 ⟨vs,H1,I1,r1,q1⟩=>?_) (jS hsa) (yl (by simp))))
 obtain⟨a',xs,rfl,hq,q⟩:=q1
 obtain⟨u1,rfl,e1⟩:∃ u1,us=[u1]/\u1=.ref a':=by
  cases r1 with
  | cons c1 t1=>cases t1;exact⟨_,rfl,c1⟩
 subst e1
 obtain⟨its,rv,p,hz⟩:=I1.tuple hq
 have hl:=rv.length
 rw[sizeLine_eq] at hz
 refine zBs p (by simp;omega) ?_
 have g:zAM (s1.heap.push { cls:=.type "reversed",data:=.fields #[.ref a',rawInt ((its.toArray.size:Int) - 1)] }) s1.heap.objs.size a' ((its.toArray.size:Int) - 1):=Heap.get?_push_size _ rfl
 refine zFy g ⟨s1.heap.objs.size,[s1.heap.objs.size],_,_,H1,rfl,I1.kept (t':=s1.toks+1+1) fun b o e=>Heap.get?_push_of_some _ e,zJv a' _ xs (by rw[hl];omega),⟨Nat.zero_le _,?_⟩,fun b hb=>?_,q⟩
 ·have e:((its.toArray.size:Int) - 1)=(xs.length:Int) - 1 - ((0:Nat):Int):=by rw[List.size_toArray,hl];omega
  rw[<- e]
  exact g
 ·have e:b=s1.heap.objs.size:=by simpa using hb
  subst e
  exact I1.fpOk (Nat.le_refl _) (I1.hok.fresh (Nat.le_refl _))
section
variable {Θ:Tab}
theorem zLJ {K:PySem.W.Frag}{ρ:List Addr}{H:Hp}{a:Addr}{ds:List M.D}{xs:List V} (hq:SqT K H a xs) (r:zO K ρ H ds xs):ItR K Θ ρ H (Itv K a xs) ds.reverse []:=by
 have rr:=r.rev
 refine⟨fun j ρ' S' H' p l rp g hj=>?_,fun j ρ' S' H' v H2 p l rp g hj y=>?_,fun ρ' S' H' p l rp g=>?_⟩
 ·obtain⟨v,e1,_⟩:=rr.get (i:=j) (d:=ds.reverse[j]) (List.getElem?_eq_getElem hj)
  exact⟨l.sqT hq,v,e1⟩
 ·obtain⟨v',e1,rv⟩:=(rr.mono p l).get (i:=j) (d:=ds.reverse[j]) (List.getElem?_eq_getElem hj)
  obtain⟨rfl,y2⟩:=y
  rw[e1] at y2;cases y2
  exact⟨ds.reverse[j],List.getElem?_eq_getElem hj,rv,Le.refl _,rp⟩
 ·exact⟨l.sqT hq,by rw[List.length_reverse,r.length];exact Nat.le_refl _⟩
theorem zGl {X:Cx}{tg e:Expr}{m:M.EM}{p pos:Pos} (hg:Gl X "reversed") (hm:X.mg "reversed" = none) (he:ME X Θ e m) (hs:ze e=true:=by rfl):MI X Θ tg (.Call (.Name "reversed" p) [e] [] pos) (M.zGU m) :=
 (zMy hg hm (zCa he zDR hs) hs).imp fun σ H R ⟨ρ,σ',S,st,rp,h⟩=>⟨ρ,σ',S,st,rp,by
  have h':zF X.K Θ _ ρ H (((m σ' S).bind fun x s=>match x with
   | .tup ds=>M.R.ok (ds.reverse,([]:M.Gd)) s
   | _=>.no).bind fun p s=>if M.zj p.2 s then .ok p s else .no) R:=h
  show zF X.K Θ _ ρ H ((m σ' S).bind fun x s=>(M.R.ok [] s).bind fun xs s=>.ok (x::xs) s) _
  cases hm:m σ' S with
  | no=>rw[hm] at h';exact h'.elim
  | exc a s=>rw[hm] at h';exact h'.elim
  | ok d S1 =>
   rw[hm] at h'
   intro ρ1 H1 vs p l rp1 rv
   obtain⟨v,ys,rfl,rv,hy⟩:=rv
   cases hy
   cases d with
   | tup ds =>
    obtain⟨a,xs,rfl,hq,r⟩:=rv
    exact⟨a,xs,rfl,hq,h' ρ1 H1 _ p l rp1 (zLJ hq r)⟩
   | _=>exact h'.elim⟩
theorem zFT {X:Cx}{tg e:Expr}{m:M.EM}{p pos:Pos} (hg:Gl X "reversed") (hm:X.mg "reversed" = none) (he:WE X Θ e m) (hs:ze e=true:=by rfl):WI X Θ tg (.Call (.Name "reversed" p) [e] [] pos) (M.zGU m):=by with_unfolding_all exact zGl (X:=X) (tg:=tg) (e:=e) (m:=m) (p:=p) (pos:=pos) hg hm he hs
end
end L2
namespace L2
open PySem PySem.Spec PyProof.Rows
noncomputable def Itk (a:Addr) (o:Obj) (kvs:List (Key×V)):It :=
 ⟨fun i H=>H a=some (.frz o (.dK kvs))/\∃ p,kvs[i]? = some p,fun i H v H'=>H'=H/\∃ p,kvs[i]? = some p/\v=kV p.1,fun i H=>H a=some (.frz o (.dK kvs))/\kvs.length <= i⟩
theorem zIP {P:Program}{w:World}{K:PySem.W.Frag}{tg:Expr} (a it:Addr) (o:Obj) (kvs:List (Key×V)) (vs:List (Key×Value)) (ep:Nat) (rel:KV kvs vs) (hd:∀ h:Heap,h.get? a=some o->h.DictAt (jP P w) a vs ep) :
  zAd P w K tg (Itk a o kvs) [it] it (fun i h=>h.IsKeyIter it a i vs.length ep) where
 mem:=by simp
 obj:=fun i h st b hb=>by
  have z:b=it:=by simpa using hb
  subst z
  obtain⟨o,e,c,d⟩:=st
  exact⟨o,e,fun v z=>by rw[d] at z;cases z⟩
 keep:=fun i h h' st k=>st.at fun o e=>k it (by simp) o e
 item:=by
  intro X hP hw hK hc i pins s σ H E I hf st hg
  subst hP hw hK
  obtain⟨ha,p,hp⟩:=hg
  obtain⟨go,_⟩:=(show je X.prog X.w H s.heap a (.frz o (.dK kvs)) from I.hok a _ ha)
  obtain⟨q,hq,r1,r2⟩:=zNj rel hp
  obtain⟨k,v⟩:=q
  obtain⟨f0,f1,f2,f3,f4,f5⟩:=hf it (by simp)
  refine wpAny_pyNext_dict_item st (hd _ go) hq fun key h' hk st' sb=>?_
  have I1:Inv X pins σ H { s with heap:=h' }:=I.turned (t':=s.toks) (fun b o hb e=>sb.extBut b o hb e) f0 f1 f3 f4 f5
  obtain⟨o',e,c,d⟩:=id st'
  exact⟨key,rfl,zAS (s:={ s with heap:=h' }) e c d (by decide) ⟨kV p.1,H,I1,by rw[r1];exact zOo hk,⟨rfl,p,hp,rfl⟩,st',fun b hb=>(hf b hb).1⟩⟩
 done:=by
  intro X hP hw hK hc i pins s σ H E I hf st hg
  subst hP hw hK
  obtain⟨ha,hl⟩:=hg
  obtain⟨go,_⟩:=(show je X.prog X.w H s.heap a (.frz o (.dK kvs)) from I.hok a _ ha)
  obtain⟨f0,f1,f2,f3,f4,f5⟩:=hf it (by simp)
  have el:kvs.length=vs.length:=Paired.length rel
  exact wpAny_pyNext_dict_end (I.ok.hd hc) st (hd _ go) (List.getElem?_eq_none (by omega)) fun h' eb=>⟨rfl,I.turned (t':=s.toks) (fun b o hb e=>eb b o hb e) f0 f1 f3 f4 f5⟩
 self:=fun _ _ _ _ _ st h=>wpAny_pyIter_keyiter st h
noncomputable def zPX (te:TE):TI:=fun σ H R=>te σ H fun v H1=>∃ a o kvs,v=.ref a/\H1 a=some (.frz o (.dK kvs))/\R (Itk a o kvs) H1
theorem zNl {X:Cx}{pins:List (Addr×Obj)}{σ:St}{H:Hp}{s:Shared}{a:Addr}{o:Obj}{kvs:List (Key×V)} (I:Inv X pins σ H s) (e:H a=some (.frz o (.dK kvs))) :
  (a == sysModules)=false/\∃ vs ep,KV kvs vs/\(∀ h:Heap,h.get? a=some o->h.DictAt (jP X.prog X.w) a vs ep)/\s.heap.get? a=some o:=by
 obtain⟨go,z,hd,vs,rel,o',es,ep,ho,r⟩:=(show je X.prog X.w H s.heap a (.frz o (.dK kvs)) from I.hok a _ e)
 rw[go] at ho;cases ho
 exact⟨hd,vs,ep,rel,fun h q=>⟨o,es,q,r⟩,go⟩
theorem zLC {X:Cx}{pins:List (Addr×Obj)}{σ:St}{H:Hp}{s:Shared}{a:Addr}{o:Obj}{kvs:List (Key×V)}{tg:Expr}{R:It->Hp->Prop}{E:Value->Shared->Prop} (I:Inv X pins σ H s) (e:H a=some (.frz o (.dK kvs))) (q:R (Itk a o kvs) H) :
  wpAny (model X.prog X.w) X.A (pyIter (.ref a)) (PIE X pins σ tg R) E s:=by
 obtain⟨hd,vs,ep,rel,hD,go⟩:=zNl I e
 refine wpAny_pyIter_dict hd (hD _ go) ?_
 refine⟨s.heap.objs.size,[s.heap.objs.size],_,_,H,rfl,I.kept (t':=s.toks) (fun b ob e=>Heap.get?_push_of_some _ e),zIP a _ o kvs vs ep rel hD,⟨_,Heap.get?_push_size _ rfl,rfl,rfl⟩,fun b hb=>?_,q⟩
 have zb:b=s.heap.objs.size:=by simpa using hb
 subst zb
 exact I.fpOk (Nat.le_refl _) (I.hok.fresh (Nat.le_refl _))
theorem zJn {X:Cx}{tg e:Expr}{te:TE} (he:PE X e te):PI X tg e (zPX te):=by
 intro pins s σ H R I h
 refine thn (he pins s σ H _ I h) fun v s1 ⟨x,H1,I1,r1,q1⟩=>?_
 obtain⟨a,o,kvs,rfl,ha,q⟩:=q1
 obtain rfl:v=Value.ref a:=r1
 exact zLC I1 ha q
section
variable {K:PySem.W.Frag}{Θ:Tab}{ρ:List Addr}{H:Hp}
theorem zKl {a:Addr}{o:Obj}{kvs:List (M.D×M.D)}{ks:List (Key×V)} (ha:H a=some (.frz o (.dK ks))) (r:Paired (fun (p:M.D×M.D) (q:Key×V)=>Zc p.1 q.1/\zN K ρ H p.2 q.2) kvs ks):ItR K Θ ρ H (Itk a o ks) (kvs.map (·.1)) []:=by
 have el:kvs.length=ks.length:=Paired.length r
 refine⟨fun j ρ' S' H' p l rp g hj=>?_,fun j ρ' S' H' v H2 p l rp g hj y=>?_,fun ρ' S' H' p l rp g=>?_⟩
 ·rw[List.length_map,el] at hj
  exact⟨l.frzs _ _ _ ha,ks[j],by simp[hj]⟩
 ·obtain⟨rfl,q,hk,rfl⟩:=y
  obtain⟨x,hx,r1,r2⟩:=zIW r hk
  exact⟨x.1,by rw[List.getElem?_map,hx];rfl,Zc.rel r1,Le.refl _,rp⟩
 ·exact⟨l.frzs _ _ _ ha,by rw[List.length_map,el];exact Nat.le_refl _⟩
end
section
variable {X:Cx}{Θ:Tab}
theorem zMH {tg e:Expr}{m:M.EM} (he:ME X Θ e m):MI X Θ tg e (M.zCd m):=(zJn he).imp fun σ H R ⟨ρ,σ',S,st,rp,h⟩=>⟨ρ,σ',S,st,rp,by
 have h':zF X.K Θ _ ρ H (((m σ' S).bind fun x s=>match x with
  | .ref i=>(match s[i]? with | some (.fdc kvs)=>M.R.ok (kvs.map fun p:M.D×M.D=>p.1,([]:M.Gd)) s | _=>.no)
  | _=>.no).bind fun p s=>if M.zj p.2 s then .ok p s else .no) R:=h
 clear h
 cases hm:m σ' S with
 | no=>rw[hm] at h';exact h'.elim
 | exc a s=>rw[hm] at h';exact h'.elim
 | ok d S1 =>
  rw[hm] at h'
  intro ρ1 H1 v p l rp1 rv
  cases d with
  | ref i =>
   obtain⟨a,rfl,hi⟩:=rv
   have h2:zF X.K Θ _ ρ H ((match S1[i]? with | some (.fdc kvs)=>M.R.ok (kvs.map fun p:M.D×M.D=>p.1,([]:M.Gd)) S1 | _=>.no).bind fun p s=>if M.zj p.2 s then .ok p s else .no) R:=h'
   cases q:S1[i]? with
   | none=>rw[q] at h2;exact h2.elim
   | some ob =>
    rw[q] at h2
    cases ob with
    | fdc kvs =>
     obtain⟨b,hb',o,ks,ha,pr⟩:=rp1.obj i _ q
     rw[hi] at hb';cases hb'
     exact⟨a,o,ks,rfl,ha,h2 ρ1 H1 _ p l rp1 (zKl ha pr)⟩
    | lst xs=>exact h2.elim
    | dct _=>exact h2.elim
    | ins c fs=>exact h2.elim
  | _=>exact h'.elim⟩
theorem zIw {tg e:Expr}{m:M.EM} (he:WE X Θ e m):WI X Θ tg e (M.zCd m):=by with_unfolding_all exact zMH (tg:=tg) (e:=e) (m:=m) he
theorem zMY {i:Nat}{stm:Stmt}{mb:M.SM} (hb:MS X Θ stm mb):MS X Θ stm (M.zGM i mb):=by
 intro pins s σ H D I ⟨ρ,σ',S,st,rp,h⟩
 have h':zi X.K Θ ρ H (match σ'[i]? with
  | some (some (.ref p))=>(match S[p]? with
   | some (.dct kvs)=>M.thaw p kvs (mb σ' (S.set p (.fdc kvs)))
   | _=>.no)
  | _=>.no) D:=h
 clear h
 split at h'
 ·rename_i p e
  split at h'
  ·rename_i kvs q
   obtain⟨v,e1,a,rfl,hi⟩:=st.get i _ e
   obtain⟨b,hb',ks,ha,pr⟩:=rp.obj p _ q
   rw[hi] at hb';cases hb'
   obtain⟨o,vs',ep,rel',hD,go,I2⟩:=I.freeze ha
   have n:=I.dict_base ha
   have le:Le H (upd H a (.frz o (.dK ks))):=Le.put (zDb ha) _
   have pr':=Paired.mapP pr fun x y z=>(⟨z.1,z.2.mono (List.prefix_refl _) le⟩:Zc x.1 y.1/\zN X.K ρ (upd H a (.frz o (.dK ks))) x.2 y.2)
   exact zLw hb pins s σ _ D I2 ⟨ρ,σ',S.set p (.fdc kvs),st.mono (List.prefix_refl _) le,rp.put (o:=.fdc kvs) hi (zDb ha) ⟨o,ks,jU,pr'⟩,zIH hi ha n pr h'⟩
  ·exact h'.elim
 ·exact h'.elim
theorem zKJ {i:Nat}{stm:Stmt}{mb:M.SM} (hb:WS X Θ stm mb):WS X Θ stm (M.zGM i mb):=by with_unfolding_all exact zMY (i:=i) (stm:=stm) (mb:=mb) hb
end
end L2
namespace L2
open PySem PySem.Spec PyProof.Rows
section
variable {P:Program}{w:World}{A:Around}{E:Value->Shared->Prop}{s:Shared}
theorem zF2:typeLookup (.type "list") "keys" = pure none:=by rw[typeLookup_type,builtinLookup_eq_fast];kernel_rfl
theorem zER {a:Addr}{o:Obj}{xs:Array Value}{k:Nat}{Q:Option Value->Shared->Prop} (hx:s.heap.get? a=some o) (hc:o.cls=.type "list") (hdat:o.data=.seq xs k) (hd:o.dict=none) (hA:A.handled=none)
  (h:∀ h' tk,(∀ b ob,s.heap.get? b=some ob->h'.get? b=some ob)->Q none { s with heap:=h',toks:=tk }):wpAny (model P w) A (getAttr? (.ref a) "keys") Q E s:=by
 obtain⟨c,dct,dat,sl⟩:=o
 simp only at hc hdat hd
 subst hc hdat hd
 obtain⟨hp,g,d,tk,os⟩:=s
 have hT:∀ tk',(⟨hp,g,d,tk',os⟩:Shared).TypeIs (.ref a) "list" := fun _=>⟨_,hx,rfl⟩
 have f1:=sub_AttributeError
 have f3:=PySem.F.slot_list_getattribute.lookup
 have f4:=PySem.F.slot_list_getattribute.bind (.ref a)
 have f5:=am_list_getattr_none
 unfold getAttr? getAttrBy? getAttrBy
 repeat (any_goals (first | assumption | exact hT _ | ((with_reducible show wpAny _ _ (call (Value.builtin "list.__getattribute__") _ _) _ _ _);refine call_meets PySem.F.slot_list_getattribute (hT _) am_entry_list_getattribute (PySem.F.args_list_getattribute_2 _ _) (meets_getattribute_miss_list a xs k sl "keys" _ zF2 (by decide +kernel) (by size_fits)) ⟨hx,hA,fun h' tk' e hx'=>?_⟩) | wp_step))
 obtain⟨t',u',he⟩:=hx'.there
 show wpAny _ _ (getattributeRaised _ _ _ _ _ _ _) _ _ _
 unfold getattributeRaised
 repeat (any_goals (first | assumption | wp_step))
 exact h _ _ hx'.keeps
theorem QL:entryFor table "dict.update.loop" = some Builtin.«dict.update.loop» := entryFor_of_tree (by kernel_rfl)
theorem qu:plainId "dict.update.loop" = true:=by decide +kernel
noncomputable def zBU (h:Heap) (a:Addr) (its:List Value):Prop:=∃ o n,h.get? a=some o/\o.cls=.type "tuple" /\ o.data=.seq its.toArray n
theorem zBU.at {h h':Heap}{a:Addr}{its:List Value} (x:zBU h a its) (e:∀ o,h.get? a=some o->h'.get? a=some o):zBU h' a its:=by
 obtain⟨o,n,ho,r⟩:=x
 exact⟨o,n,e _ ho,r⟩
noncomputable abbrev Pq:=Addr×Key×Value×Value
noncomputable def stL (qs:List Pq):List (Key×Value):=qs.foldl (fun acc q=>stored acc q.2.1 q.2.2.2) []
theorem zJq (qs:List Pq) (q:Pq):stL (qs++[q])=stored (stL qs) q.2.1 q.2.2.2:=by
 unfold stL;rw[List.foldl_append];rfl
theorem zIx (kvs:List (Key×Value)) (k:Key) (v:Value):(stored kvs k v).length <= kvs.length+1:=by
 unfold stored;split<;>simp
theorem zIu (qs:List Pq):(stL qs).length <= qs.length:=by
 have:∀ (qs:List Pq) (acc:List (Key×Value)),(qs.foldl (fun acc q=>stored acc q.2.1 q.2.2.2) acc).length <= acc.length+qs.length:=by
  intro qs
  induction qs with
  | nil=>intro acc;simp
  | cons q qs ih =>
   intro acc
   have h1:=ih (stored acc q.2.1 q.2.2.2)
   have h2:=zIx acc q.2.1 q.2.2.2
   simp only[List.foldl_cons,List.length_cons]
   omega
 have:=this qs []
 simpa [stL] using this
theorem zID {R:Result->Shared->Prop}{I:Addr}{fp wr:List Addr}{G:Array GenState->Array GenState->Prop}{qs:List Pq}{Pv:Nat->Value->Prop}{St:Nat->Shared->Prop} (W:WalksS P w A.in1 I fp wr G qs.length Pv St) (D:Addr) (hD:D∉fp) (hv:∀ i v,Pv i v->∃ q,qs[i]? = some q/\v=.ref q.1)
  (hq:∀ q∈qs,q.1∉D::wr/\(jP P w).is q.2.1 q.2.2.1=true) (hb:qs.length <= sizeLine) :
  ∀ (k i:Nat) (s:Shared) (j:Tok) (jj:Int),qs.length - i=k->i <= qs.length->St i s->s.heap.DictOf (jP P w) D (stL (qs.take i))->(∀ q∈qs,zBU s.heap q.1 [q.2.2.1,q.2.2.2])->(∀ s',Moved (D::wr) G s s'->s'.heap.DictOf (jP P w) D (stL qs)->R (.ok (.ret .none)) s') ->
   codeAny (model P w) A (.builtin "dict.update.loop" ⟨[.ref D,.ref I,.int jj j,.none],[]⟩) R s:=by
 have nw:D∉wr:=fun h=>hD (W.sub _ h)
 have sb:∀ b∈wr,b∈D::wr:=fun b hb=>List.mem_cons_of_mem _ hb
 intro k
 induction k with
 | zero =>
  intro i s j jj hk hi st hS ht hR
  have e:i=qs.length:=by omega
  subst e
  rw[List.take_length] at hS
  refine codeAny_builtin QL ?_
  rw[Around.under_plainId qu _]
  show wpAny (model P w) A.in1 (pyNext (.ref I) >>= _) _ _ s
  refine wpAny_bind (W.done s _ _ st fun s' hm=>?_)
  show wpAny (model P w) A.in1 (Builtin.Dict.addKeywords D [] >>= _) _ _ s'
  refine wpAny_bind (wpAny_pure (wpAny_pure (hR s' (hm.mono sb) ?_)))
  obtain⟨o,es,ep,ho,r⟩:=hS
  exact⟨o,es,ep,hm.heap D _ nw ho,r⟩
 | succ k ih =>
  intro i s j jj hk hi st hS ht hR
  have lt:i < qs.length:=by omega
  refine codeAny_builtin QL ?_
  rw[Around.under_plainId qu _]
  show wpAny (model P w) A.in1 (pyNext (.ref I) >>= _) _ _ s
  refine wpAny_bind (W.item i s _ _ lt st fun v s' hP st' hm=>?_)
  obtain⟨q,ex,rfl⟩:=hv i v hP
  have hmem:q∈qs:=List.mem_of_getElem? ex
  obtain⟨hnq,hkq⟩:=hq q hmem
  have hS1:s'.heap.DictOf (jP P w) D (stL (qs.take i)):=by
   obtain⟨o,es,ep,ho,r⟩:=hS
   exact⟨o,es,ep,hm.heap D _ nw ho,r⟩
  have ht1:∀ q∈qs,zBU s'.heap q.1 [q.2.2.1,q.2.2.2]:=fun q' h'=>(ht q' h').at fun o ho=>hm.heap _ _ (fun z=>(hq q' h').1 (sb _ z)) ho
  obtain⟨o,n,ho,hc,hd⟩:=ht1 q hmem
  refine wpAny_bind (wpAny_holding ?_)
  refine wpAny_bind (wpAny_tryCatch ?_)
  unfold Builtin.Dict.pairItems
  refine wpAny_bind (wpAny_typeOf (T := "tuple") ⟨o,ho,hc⟩ ?_)
  rw[if_pos (by decide)]
  refine wpAny_bind (wpAny_seqItems ho hd ?_)
  refine wpAny_pure ?_
  show wpAny (model P w) A.in1 (holding [q.2.2.1,q.2.2.2] (dictSet D q.2.2.1 q.2.2.2)) _ _ s'
  refine wpAny_holding ?_
  have room:(stL (qs.take i)).length <= sizeLine:=by
   have:=zIu (qs.take i)
   rw[List.length_take] at this
   omega
  refine wpAny_dictSet_pairs hkq hS1 (fun h' hS2 hs=>?_) room
  have e3:stored (stL (qs.take i)) q.2.1 q.2.2.2=stL (qs.take (i+1)):=by
   rw[List.take_succ,ex,Option.toList_some,zJq]
  rw[e3] at hS2
  refine wpAny_pure ⟨plainId_quiet qu _,ih (i+1) _ _ _ (by omega) lt (W.frame _ s' _ _ st' (Nat.le_succ _) fun b hb o e=>?_) hS2 (fun q' h'=>(ht1 q' h').at fun o ho=>?_) fun s2 hm2 hS4=>?_⟩
  ·rw[hs.2 b (fun h:b=D=>hD (by rw[<- h];exact hb))];exact e
  ·rw[hs.2 _ (fun h:_=D=>(hq q' h').1 (by rw[h];exact List.mem_cons_self))];exact ho
  ·refine hR s2 (Moved.trans W.gtrans ((hm.mono sb).then_heap (Nat.le_succ _) fun b o hb e=>?_) hm2) hS4
   rw[hs.2 b (fun h:b=D=>hb (by rw[h];exact List.mem_cons_self))];exact e
end
end L2
namespace L2
open PySem PySem.Spec PyProof.Rows
section
variable {P:Program}{w:World}{A:Around}{E:Value->Shared->Prop}{s:Shared}
theorem zDk {l:Addr}{its:List Value}{qs:List Pq}{Q:Value->Shared->Prop} (hh:A.handled=none) {ol:Obj}{nl:Nat} (gl:s.heap.get? l=some ol) (cl:ol.cls=.type "list") (dl:ol.data=.seq its.toArray nl) (el:ol.dict=none) (hn:its.length=qs.length) (hi:∀ (i:Nat) (v:Value),its[i]? = some v->∃ q,qs[i]? = some q/\v=.ref q.1)
  (hq:∀ q∈qs,(jP P w).is q.2.1 q.2.2.1=true/\zBU s.heap q.1 [q.2.2.1,q.2.2.2]) (hb:qs.length <= sizeLine)
  (h:∀ (h':Heap) (tk:Nat),h'.DictOf (jP P w) s.heap.objs.size (stL qs)->(∀ b o,s.heap.get? b=some o->h'.get? b=some o)->Q (.ref s.heap.objs.size) { s with heap:=h',toks:=tk }) :
  wpAny (model P w) A (call (.type "dict") [.ref l]) Q E s:=by
 refine callType_codes (Q₁:=fun obj s₁=>obj=.ref s.heap.objs.size/\s₁={ s with heap:=s.heap.push { cls:=.type "dict",data:=.dict #[] } }) PySem.F.kt_called_dict (PySem.F.kt_typeCall_dict_1 _) PySem.F.entry_dict_init (PySem.kt_code_dict_new _ ⟨rfl,rfl⟩) ?_
 rintro obj s₁ ⟨rfl,rfl⟩
 have hnew:(s.heap.push { cls:=.type "dict",data:=.dict #[] }).DictOf (jP P w) s.heap.objs.size []:=Heap.DictOf.new s.heap
 have gl1:(s.heap.push { cls:=.type "dict",data:=.dict #[] }).get? l=some ol:=Heap.get?_push_of_some _ gl
 have lt:l < s.heap.objs.size:=Heap.lt_size gl
 refine⟨hnew.typeIs,PySem.F.args_dict_init_2 _ _,?_⟩
 unfold Builtin.«dict.__init__»
 refine wpAny_bind ?_
 unfold Builtin.Dict.selfAndRest
 refine wpAny_bind (wpAny_notOrdered_dict hnew.typeIs ?_)
 show wpAny _ _ (pure (s.heap.objs.size,[Value.ref l])) _ _ _
 refine wpAny_pure ?_
 show wpAny _ _ (Builtin.Dict.updateFrom "dict.__init__" s.heap.objs.size (.ref l) [] .none) _ _ _
 unfold Builtin.Dict.updateFrom
 refine wpAny_bind (wpAny_typeOf (T := "list") ⟨ol,gl1,cl⟩ ?_)
 rw[if_pos (by decide)]
 refine wpAny_bind (zER gl1 cl dl el hh fun h1 tk1 kp1=>?_)
 have k1:∀ b o,s.heap.get? b=some o->h1.get? b=some o:=fun b o e=>kp1 _ _ (Heap.get?_push_of_some _ e)
 have gd1:h1.DictOf (jP P w) s.heap.objs.size []:=by
  obtain⟨o,es,ep,ho,r⟩:=hnew
  exact⟨o,es,ep,kp1 _ _ ho,r⟩
 have hl1:h1.IsList l its.toArray:=⟨ol,k1 _ _ gl,cl,nl,dl⟩
 rw[if_pos (by rfl)]
 refine wpAny_bind (wpAny_rule ?_)
 refine wpAny_bind (wpAny_pyIter_list (s:={ s with heap:=h1,toks:=tk1 }) hl1 ?_)
 refine wpAny_pure ⟨plainId_quiet qu _,?_⟩
 have lt1:s.heap.objs.size < h1.objs.size:=by
  obtain⟨o,es,ep,ho,r⟩:=gd1
  exact Heap.lt_size ho
 have nf:s.heap.objs.size∉[h1.objs.size,l]:=by
  intro hm
  rcases List.mem_cons.mp hm with e | hm
  ·exact absurd e (Nat.ne_of_lt lt1)
  ·exact absurd (List.mem_singleton.mp hm) (Nat.ne_of_gt lt)
 have W:=(Walks.list (prog:=P) (w:=w) (A:=A.in1.in1) hh h1.objs.size l (Nat.ne_of_lt (Nat.lt_trans lt lt1)) its.toArray).toS
 have ez:its.toArray.size=qs.length:=by rw[List.size_toArray];exact hn
 rw[ez] at W
 refine zID W s.heap.objs.size nf (fun i v hv=>hi i v (by simpa using hv)) (fun q hm=>⟨fun z=>?_,(hq q hm).1⟩) hb qs.length 0 _ _ _ (by omega) (Nat.zero_le _) ⟨⟨_,Heap.get?_push_size _ rfl,rfl,rfl⟩,hl1.push _⟩ (gd1.push _) (fun q hm=>(hq q hm).2.at fun o ho=>Heap.get?_push_of_some _ (k1 _ _ ho)) fun s' hm hS'=>?_
 ·obtain⟨o,n,ho,_⟩:=(hq q hm).2
  have l1:=Heap.lt_size ho
  rcases List.mem_cons.mp z with e | z
  ·exact absurd e (Nat.ne_of_lt l1)
  ·exact absurd (List.mem_singleton.mp z) (Nat.ne_of_lt (Nat.lt_trans l1 lt1))
 ·rw[Moved.eq_with hm]
  refine⟨rfl,h _ _ hS' fun b o e=>hm.heap b o (fun hmem=>?_) (Heap.get?_push_of_some _ (k1 _ _ e))⟩
  have hc:=Heap.lt_size e
  rcases List.mem_cons.mp hmem with e' | hmem
  ·exact Nat.ne_of_lt hc e'
  ·exact Nat.ne_of_lt (Nat.lt_trans hc lt1) (List.mem_singleton.mp hmem)
end
end L2
namespace L2
open PySem PySem.Spec PyProof.Rows
noncomputable abbrev zHX (K:PySem.W.Frag) (H:Hp):Key×V->V->Prop:=fun p y=>∃ t,y=.ref t/\SqT K H t [kV p.1,p.2]
noncomputable def zFc (ps:List (Key×V)):List (Key×V):=ps.foldl (fun a p=>ZW a p.1 p.2) []
noncomputable def zIv (K:PySem.W.Frag):List V->Hp->VK->Prop:=fun xs H Q=>∃ p ys ps,xs=[.ref p]/\SqL K H p ys/\ys.length <= 1000/\Paired (zHX K H) ps ys/\∀ l,H l=none->Q (.ref l) (upd H l (.dK (zFc ps)))
noncomputable abbrev QP:Key×V->Pq->Prop:=fun p q=>p.1=q.2.1/\zh p.2 q.2.2.2
theorem zGS {X:Cx}{pins:List (Addr×Obj)}{σ:St}{H:Hp}{s:Shared} (I:Inv X pins σ H s):∀ {ps:List (Key×V)}{ys:List V}{its:List Value},Paired (zHX X.K H) ps ys->zd ys its ->
  ∃ qs:List Pq,its.length=qs.length/\(∀ (i:Nat) (v:Value),its[i]? = some v->∃ q,qs[i]? = some q/\v=.ref q.1)/\(∀ q∈qs,(jP X.prog X.w).is q.2.1 q.2.2.1=true/\zBU s.heap q.1 [q.2.2.1,q.2.2.2])/\Paired QP ps qs
 | [],_,_,.nil,.nil=>⟨[],rfl,fun i v e=>by simp at e,fun q h=>absurd h List.not_mem_nil,Paired.nil⟩
 | p::ps,_,_,.cons hp tp,.cons hv tv=>by
  obtain⟨qs,h1,h2,h3,h4⟩:=zGS I tp tv
  obtain⟨t,rfl,hq⟩:=hp
  obtain⟨us,ru,⟨o,e1,e2,n,e3⟩,_⟩:=I.tuple hq
  obtain⟨ku,vu,rfl,rk,rv⟩:∃ ku vu,us=[ku,vu]/\zh (kV p.1) ku/\zh p.2 vu:=by
   cases ru with
   | cons a b=>cases b with
    | cons c d=>cases d;exact⟨_,_,rfl,a,c⟩
  refine⟨(t,p.1,ku,vu)::qs,by simp[h1],fun i v e=>?_,fun q h=>?_,.cons ⟨rfl,rv⟩ h4⟩
  ·cases i with
   | zero=>cases e;exact⟨_,rfl,hv⟩
   | succ i=>exact h2 i v e
  ·rcases List.mem_cons.mp h with rfl | h
   ·exact⟨zCl rk,o,n,e1,e2,e3⟩
   ·exact h3 q h
theorem zLH {ps:List (Key×V)}{qs:List Pq} (h:Paired QP ps qs):∀ {kvs:List (Key×V)}{vs:List (Key×Value)},KV kvs vs->KV (ps.foldl (fun a p=>ZW a p.1 p.2) kvs) (qs.foldl (fun acc q=>stored acc q.2.1 q.2.2.2) vs):=by
 induction h with
 | nil=>exact fun r=>r
 | @cons p q _ _ h t ih =>
  intro kvs vs r
  have e:KV (ZW kvs p.1 p.2) (stored vs q.2.1 q.2.2.2):=by rw[<- h.1];exact r.put p.1 h.2
  exact ih e
theorem zHw {X:Cx}{k:Nat} (hr:zy k X.A):j5 X (.type "dict") (zIv X.K):=by
 intro pins s σ H xs us Q I r h
 obtain⟨p,ys,ps,rfl,hp,hz,pr,q⟩:=h
 obtain⟨u,rfl,ru⟩:=QW r
 cases ru
 obtain⟨its,rv,⟨o,n,e1,e2,e3,e4⟩,_⟩:=I.list hp
 obtain⟨qs,h1,h2,h3,h4⟩:=zGS I pr rv
 have hl:=rv.length
 have lo2:(s.heap.objs.size == sysModules)=false:=by have:=I.big;exact beq_eq_false_iff_ne.mpr (Nat.ne_of_gt this)
 have kv:=zLH h4 (.nil:KV ([]:List (Key×V)) [])
 have z:(zFc ps).length <= sizeLine:=by
  have a:=kv.length
  have b:=zIu qs
  unfold stL at b
  unfold zFc
  rw[sizeLine_eq]
  omega
 refine wpAny_with_toks (n:=1) I.tk (zDk hr.hd e1 e2 e4 e3 h1 h2 h3 (by rw[sizeLine_eq];omega) fun h' tk dd' kp htk=>?_)
 exact⟨.ref s.heap.objs.size,_,I.laid (t':=tk) (o:=.dK (zFc ps)) kp (Nat.le_refl _) (zFz z lo2 kv dd') htk,rfl,q _ (I.hok.fresh (Nat.le_refl _))⟩
section
variable {K:PySem.W.Frag}{Θ:Tab}
theorem zE5 {ρ:List Addr}{H:Hp}:∀ {ds:List M.D}{ys:List V}{kvs:List (M.D×M.D)},M.Jx ds=some kvs->zO K ρ H ds ys->∃ ps,Paired (zHX K H) ps ys/\DR K ρ H kvs ps
 | [],_,_,e,r=>by cases e;cases r;exact⟨[],.nil,.nil⟩
 | d::ds,_,kvs,e,r=>by
  unfold M.Jx at e
  split at e
  ·rename_i z;cases z
  ·rename_i k v r' z
   cases z
   obtain⟨Y,r2,rfl,ry,r3⟩:=r
   split at e
   ·rename_i hk
    cases q:M.Jx ds with
    | none=>rw[q] at e;cases e
    | some kvs' =>
     rw[q] at e
     cases e
     obtain⟨ps,h1,h2⟩:=zE5 q r3
     obtain⟨t,zs,rfl,hq,rz⟩:=ry
     obtain⟨Y1,r4,rfl,ry1,Y2,r5,rfl,ry2,rfl⟩:=rz
     obtain⟨kk,hkk,rfl⟩:=Je hk ry1
     exact⟨(kk,Y2)::ps,.cons ⟨t,rfl,hq⟩ h1,.cons ⟨hkk,ry2⟩ h2⟩
   ·cases e
  ·cases e
theorem zL4 {ρ:List Addr}{H:Hp}{kvs:List (M.D×M.D)}{ps:List (Key×V)} (h:DR K ρ H kvs ps):∀ {acc:List (M.D×M.D)}{ac:List (Key×V)},DR K ρ H acc ac->DR K ρ H (kvs.foldl (fun a p=>M.Zp p.1 p.2 a) acc) (ps.foldl (fun a p=>ZW a p.1 p.2) ac):=by
 unfold DR at h
 induction h with
 | nil=>exact fun r=>r
 | cons h1 t ih=>exact fun r=>ih (DR.put r h1.1 h1.2)
theorem zKH:AdN K Θ M.zB8 (zIv K):=by
 intro ρ H S xs Xs Q rp rxs h
 unfold M.zB8 at h
 split at h
 ·rename_i p
  obtain⟨Y,r,rfl,ry,rfl⟩:=rxs
  split at h
  ·rename_i ds e
   obtain⟨a,zs,rfl,ha,hx,rz⟩:=Jl rp ry e
   split at h
   ·rename_i kvs et
    obtain⟨ps,h1,h2⟩:=zE5 et rz
    split at h
    ·rename_i hl
     have l1:=Paired.length h1
     have l2:=Paired.length h2
     exact⟨a,zs,ps,rfl,SqL.of hx,by omega,h1,fun p hp=>zCS h rp (zL4 h2 .nil) hp⟩
    ·exact h.elim
   ·exact h.elim
  ·exact h.elim
 ·exact h.elim
end
noncomputable abbrev zA6 (X:Cx) (N:List Str):Cx:={ X with N:=N }
theorem zGN {α:Type}{σ:List (Option α)}{i j:Nat}{v:α} (h:(σ.set i none)[j]? = some (some v)):j≠i/\σ[j]? = some (some v):=by
 by_cases e:i=j
 ·subst e
  by_cases hl:i < σ.length
  ·rw[List.getElem?_set_self hl] at h;cases h
  ·rw[List.getElem?_eq_none (by rw[List.length_set];omega)] at h;cases h
 ·rw[List.getElem?_set_ne e] at h
  exact⟨fun z=>e z.symm,h⟩
theorem Inv.renamed {X:Cx}{N:List Str}{i:Nat}{pins:List (Addr×Obj)}{σ:St}{H:Hp}{s:Shared} (I:Inv X pins σ H s) (hl:N.length=X.N.length) (hN:∀ j,j≠i->N[j]? = X.N[j]?):Inv (zA6 X N) pins (σ.set i none) H s where
 ok:=⟨I.ok.mod,I.ok.kind,I.ok.glob,I.ok.blt,I.ok.above,I.ok.inj,I.ok.has,I.ok.cab,I.ok.hd,I.ok.frames,I.ok.stk,I.ok.exf,I.ok.bs,I.ok.bsz,I.ok.noex,I.ok.exfs,I.ok.funs,I.ok.frf⟩
 os:=I.os
 bare:=I.bare
 base:=I.base
 loc:=by
  obtain⟨m,h1,h2⟩:=I.loc
  refine⟨m,h1,fun j x v hj hv=>?_⟩
  obtain⟨ne,hv'⟩:=zGN hv
  exact h2 j x v (by rw[<- hN j ne];exact hj) hv'
 cell:=I.cell
 free:=I.free
 freeC:=I.freeC
 pin:=I.pin
 hok:=I.hok
 len:=by rw[List.length_set,I.len];exact hl.symm
 tk:=I.tk
noncomputable abbrev zOh (i:Nat) (D:QD):QD:=⟨fun σ H=>D.nx (σ.set i none) H,D.rt,fun σ H=>D.bk (σ.set i none) H,fun σ H=>D.ct (σ.set i none) H⟩
theorem zLI {X:Cx}{i:Nat}{st:Stmt}{t:TS}{N:List Str} (hl:N.length=X.N.length) (hN:∀ j,j≠i->N[j]? = X.N[j]?) (h:PS (zA6 X N) st t):PS X st fun D σ H=>t (zOh i D) (σ.set i none) H:=fun pins s σ H D I q=>thn (h pins s _ H _ (I.renamed hl hN) q) fun f s1 z=>by
 have back:∀ {σ1:St}{H1:Hp},Inv (zA6 X N) pins σ1 H1 s1->Inv X pins (σ1.set i none) H1 s1:=fun J=>Inv.renamed (X:=zA6 X N) (N:=X.N) (i:=i) J hl.symm fun j ne=>(hN j ne).symm
 cases f with
 | next=>obtain⟨σ1,H1,I1,d⟩:=z;exact⟨_,H1,back I1,d⟩
 | brk=>obtain⟨σ1,H1,I1,d⟩:=z;exact⟨_,H1,back I1,d⟩
 | cont=>obtain⟨σ1,H1,I1,d⟩:=z;exact⟨_,H1,back I1,d⟩
 | ret u=>obtain⟨v,σ1,H1,I1,r,d⟩:=z;exact⟨v,_,H1,back I1,r,d⟩
theorem jI.forget {K:PySem.W.Frag}{ρ:List Addr}{H:Hp}{σ':M.St}{σ:St} (h:jI K ρ H σ' σ) (i:Nat):jI K ρ H (σ'.set i none) (σ.set i none):=⟨by rw[List.length_set,List.length_set];exact h.len,fun j d e=>by
 obtain⟨ne,e'⟩:=zGN e
 obtain⟨v,h1,h2⟩:=h.get j d e'
 exact⟨v,by rw[List.getElem?_set_ne (Ne.symm ne)];exact h1,h2⟩⟩
theorem zDV {N N':List Str}{i:Nat} (h:N'=N.set i ""):N'.length=N.length/\∀ j,j≠i->N'[j]? = N[j]? := by
 subst h
 exact⟨List.length_set,fun j ne=>List.getElem?_set_ne (Ne.symm ne)⟩
theorem zLF {X:Cx}{Θ:Tab}{i:Nat}{stm:Stmt}{mb:M.SM}{N:List Str} (hN:N=X.N.set i "") (hb:MS (zA6 X N) Θ stm mb):MS X Θ stm (M.zFa i mb) :=
 (zLI (zDV hN).1 (zDV hN).2 hb).imp fun D σ H ⟨ρ,σ',S,st,rp,h⟩=>⟨ρ,σ'.set i none,S,st.forget i,rp,by
  have h':zi X.K Θ ρ H (M.zHg i (mb (σ'.set i none) S)) D:=h
  cases q:mb (σ'.set i none) S with
  | nx σ1 S1=>rw[q] at h';exact fun ρ1 H1 σv p l rp1 st1=>h' ρ1 H1 _ p l rp1 (st1.forget i)
  | bk σ1 S1=>rw[q] at h';exact fun ρ1 H1 σv p l rp1 st1=>h' ρ1 H1 _ p l rp1 (st1.forget i)
  | ct σ1 S1=>rw[q] at h';exact fun ρ1 H1 σv p l rp1 st1=>h' ρ1 H1 _ p l rp1 (st1.forget i)
  | rt d S1=>rw[q] at h';exact fun ρ1 H1 σv p l rp1 st1=>h' ρ1 H1 _ p l rp1 st1
  | exc e a s=>rw[q] at h';exact h'
  | no=>rw[q] at h';exact h'⟩
theorem zIA {X:Cx}{Θ:Tab}{i:Nat}{stm:Stmt}{mb:M.SM}{N:List Str} (hN:N=X.N.set i "") (hb:WS (zA6 X N) Θ stm mb):WS X Θ stm (M.zFa i mb):=by with_unfolding_all exact zLF (X:=X) (Θ:=Θ) (i:=i) (stm:=stm) (mb:=mb) (N:=N) hN hb
end L2
namespace L2
open PySem PySem.Spec PyProof.Rows
noncomputable abbrev zC0 (X:Cx) (pins:List (Addr×Obj)) (σ:St) (H:Hp) (s:Shared):Prop:=Inv X pins σ H { s with toks:=s.toks+1 }
noncomputable def PE0 (X:Cx) (e:Expr) (t:TE):Prop :=
 ∀ (pins:List (Addr×Obj)) (s:Shared) (σ:St) (H:Hp) (Q:VK),zC0 X pins σ H s->t σ H Q->wpAny (model X.prog X.w) X.A (eval e X.env) (EP X pins σ Q) X.xe s
noncomputable def PA0 (X:Cx) (es:List Expr) (t:TA):Prop :=
 ∀ (pos:Pos) (pins:List (Addr×Obj)) (s:Shared) (σ:St) (H:Hp) (Q:List V->Hp->Prop),zC0 X pins σ H s->t σ H Q->wpAny (model X.prog X.w) X.A (spliced (backTo pos (starEach es X.env))) (AP X pins σ Q) X.xe s
noncomputable def PS0 (X:Cx) (st:Stmt) (t:TS):Prop :=
 ∀ (pins:List (Addr×Obj)) (s:Shared) (σ:St) (H:Hp) (D:QD),zC0 X pins σ H s->t D σ H->wpAny (model X.prog X.w) X.A (exec st X.env) (SP X pins D) X.xe s
noncomputable def zBz (X:Cx) (st:List Stmt) (t:TS):Prop :=
 ∀ (pins:List (Addr×Obj)) (s:Shared) (σ:St) (H:Hp) (D:QD),zC0 X pins σ H s->t D σ H->wpAny (model X.prog X.w) X.A (execs st X.env) (SP X pins D) X.xe s
theorem PE0.imp {X:Cx}{e:Expr}{t t':TE} (h:PE0 X e t) (i:∀ σ H Q,t' σ H Q->t σ H Q):PE0 X e t':=fun pins s σ H Q I q=>h pins s σ H Q I (i σ H Q q)
theorem PA0.imp {X:Cx}{e:List Expr}{t t':TA} (h:PA0 X e t) (i:∀ σ H Q,t' σ H Q->t σ H Q):PA0 X e t':=fun po pins s σ H Q I q=>h po pins s σ H Q I (i σ H Q q)
theorem PS0.imp {X:Cx}{e:Stmt}{t t':TS} (h:PS0 X e t) (i:∀ D σ H,t' D σ H->t D σ H):PS0 X e t':=fun pins s σ H D I q=>h pins s σ H D I (i D σ H q)
theorem zBz.imp {X:Cx}{e:List Stmt}{t t':TS} (h:zBz X e t) (i:∀ D σ H,t' D σ H->t D σ H):zBz X e t':=fun pins s σ H D I q=>h pins s σ H D I (i D σ H q)
section
variable {X:Cx}{pos p:Pos}
theorem zLt {i:Int}{j:Nat}:PE0 X (.Constant (.int i) j pos) (tC (.int i)):=fun _ _ _ H _ I h=>wpAny_Constant_int ⟨.int i,H,I,⟨_,rfl⟩,h⟩
theorem zJl {E:Value->Shared->Prop}{pins:List (Addr×Obj)}{s:Shared}{σ:St}{H:Hp}{x:Str}{u:Value}{Q:Value->Shared->Prop} (I:zC0 X pins σ H s) (hg:Gl X x) (hm:X.mg x=some u) (h:Q u s)
  (hd:(x == ("__debug__" : Str))=false:=by decide):wpAny (model X.prog X.w) X.A (eval (.Name x pos) X.env) Q E s :=
 Calls.Name_function_global I.ok.kind hg (Calls.loadGlobal_global (by rw[I.ok.glob];exact I.mod.glob.keeps I.bk) hm h) hd
theorem zL9 {E:Value->Shared->Prop}{pins:List (Addr×Obj)}{s:Shared}{σ:St}{H:Hp}{i:Nat}{x:Str}{v:V}{Q:Value->Shared->Prop} (I:zC0 X pins σ H s) (hN:X.N[i]? = some x) (hv:Vis X.env.scope x) (e:σ[i]? = some (some v)) (h:∀ u,zh v u->Q u s)
  (hd:(x == ("__debug__" : Str))=false:=by decide) (hcd:(x == ("__classdict__" : Str))=false:=by decide):wpAny (model X.prog X.w) X.A (eval (.Name x pos) X.env) Q E s:=by
 obtain⟨m,hn,hl⟩:=I.loc
 obtain⟨u,r,l⟩:=hl i x v hN e hv
 rcases l with ⟨hk,hm⟩ | ⟨hk,c,hc,hcell⟩
 ·exact wpAny_Name (wpAny_loadName_local I.ok.kind hk hn hm (h u r)) hd
 ·rcases hk with hk | hk
  ·exact wpAny_Name (wpAny_loadName_cell I.ok.kind hk hc hcell (h u r)) hd
  ·exact wpAny_Name (wpAny_loadName_free I.ok.kind hk hc hcell (h u r) hcd) hd
theorem zLh {i:Nat}{x:Str}{es:List Expr}{t:TA} (hN:X.N[i]? = some x) (hv:Vis X.env.scope x) (hr:PA0 X es t) (hd:(x == ("__debug__" : Str))=false:=by decide) (hcd:(x == ("__classdict__" : Str))=false:=by decide):PA0 X (.Name x p::es) (zHy (zMd i) t):=by
 intro pos pins s σ H Q I h
 rw[jS (e:=.Name x p) (es:=es) (env:=X.env) rfl]
 show wpAny _ _ (spliced ((false,eval (.Name x p) X.env)::backTo pos (starEach es X.env))) _ _ s
 obtain⟨v,e,h⟩:=h
 refine Calls.spliced_cons (zL9 I hN hv e (fun u r=>?_) hd hcd)
 exact thn (hr pos pins s σ H _ I h) fun us s2 ⟨xs,H2,I2,r2,q2⟩=>⟨v::xs,H2,I2,.cons r r2,q2⟩
theorem zKC {e:Expr}{es:List Expr}{te:TE}{t:TA} (ha:PE0 X e te) (hr:PA X es t) (hs:starEach (e::es) X.env=(false,eval e X.env)::starEach es X.env:=by rfl):PA0 X (e::es) (zHy te t):=by
 intro pos pins s σ H Q I h
 rw[hs]
 show wpAny _ _ (spliced ((false,eval e X.env)::backTo pos (starEach es X.env))) _ _ s
 refine Calls.spliced_cons (thn (ha pins s σ H _ I h) fun u s1 ⟨x,H1,I1,r1,q1⟩=>?_)
 exact thn (hr pos pins s1 σ H1 _ I1 q1) fun us s2 ⟨xs,H2,I2,r2,q2⟩=>⟨x::xs,H2,I2,.cons r1 r2,q2⟩
theorem zJz {k kk:Nat}{x:Str}{ps:List Str}{sp:Sp}{e:Expr}{es:List Expr}{t:TA} (h:Has X.prog X.w X.K X.mg X.base x k ps sp) (hr:zy kk X.A) (hk:k <= kk) (hg:Gl X x) (ha:PA0 X (e::es) t) (hx:qa CX0 X E0:=by exact QS) (hdb:(x == ("__debug__" : Str))=false:=by decide)
  (he:starEach (e::es) X.env=(false,eval e X.env)::starEach es X.env:=by rfl) (hpl:(backTo pos (starEach es X.env)).any (·.1)=false:=by rfl) :
  PE0 X (.Call (.Name x p) (e::es) [] pos) (zHz sp [] E0 t):=by
 obtain⟨f,fd,F,b,kp,m⟩:=h.ex
 intro pins s σ H Q I h
 refine wpAny_Call_Name_kw (zJl I hg m ?_ hdb)
 refine PySem.W.callWith_K (h₀:=X.base) I.ok.mod.kin kp (thn (ha pos pins s σ H _ I h) fun us s1 ⟨vs,H1,I1,r,q⟩=>⟨I1.kIn,?_⟩) he hpl
 exact zDY F (hr.mono hk) b .nil hx I1 r q
theorem zMF {i:Nat}{x:Str}{e:Expr}{te:TE}{pos':Pos} (hN:X.N.Nodup) (hi:X.N[i]? = some x) (hx:Loc X.env.scope x) (he:PE0 X e te) (hs:swapsWith e (some (.Name x pos')) pos.line X.env=pure false:=by rfl) (hf:X.fn x=true\/X.env.scope.names.lookup x=some .local:=by first | exact .inl rfl | exact .inr rfl | assumption) :
  PS0 X (.Assign [.Name x pos'] e pos) (zHU te (zq i)):=by
 intro pins s σ H D I h
 refine wpAny_Assign_Name (thn (he pins s σ H _ I h) fun v s1 ⟨y,H1,I1,r1,q1⟩=>?_) hs
 exact zDP I1 hN hi hx r1 (fun s2 I2=>⟨_,H1,I2,q1⟩) hf
theorem zJL {st:Stmt}{jY:List Stmt}{t u:TS} (h1:PS0 X st t) (h2:PSs X jY u):zBz X (st::jY) (zNN t u):=by
 intro pins s σ H D I h
 refine wpAny_execs_cons (thn (h1 pins s σ H { D with nx:=u D } I h) fun f s1 q=>?_)
 cases f with
 | next =>
  obtain⟨σ',H',I',q⟩:=q
  exact h2 pins s1 σ' H' D I' q
 | brk=>exact q
 | cont=>exact q
 | ret v=>exact q
end
section
variable {X:Cx}{Θ:Tab}{pos p:Pos}{a b:Expr}{ma mb:M.EM}
noncomputable abbrev ME0 (X:Cx) (Θ:Tab) (e:Expr) (m:M.EM):Prop:=PE0 X e (RdE X.K Θ m)
@[irreducible] noncomputable def WE0 (X:Cx) (Θ:Tab) (e:Expr) (m:M.EM):Prop:=ME0 X Θ e m
noncomputable abbrev MA0 (X:Cx) (Θ:Tab) (es:List Expr) (m:M.AM):Prop:=PA0 X es (RdA X.K Θ m)
@[irreducible] noncomputable def WA0 (X:Cx) (Θ:Tab) (es:List Expr) (m:M.AM):Prop:=MA0 X Θ es m
noncomputable abbrev MS0 (X:Cx) (Θ:Tab) (st:Stmt) (m:M.SM):Prop:=PS0 X st (RdS X.K Θ m)
@[irreducible] noncomputable def WS0 (X:Cx) (Θ:Tab) (st:Stmt) (m:M.SM):Prop:=MS0 X Θ st m
noncomputable abbrev zJ1 (X:Cx) (Θ:Tab) (st:List Stmt) (m:M.SM):Prop:=zBz X st (RdS X.K Θ m)
@[irreducible] noncomputable def zM1 (X:Cx) (Θ:Tab) (st:List Stmt) (m:M.SM):Prop:=zJ1 X Θ st m
theorem zLl {i:Int}{j:Nat}:ME0 X Θ (.Constant (.int i) j pos) (M.eC (.int i)):=zLt.imp fun σ H Q ⟨ρ,σ',S,st,rp,h⟩=>zF.here h rp rfl
theorem zIm {i:Int}{j:Nat}:WE0 X Θ (.Constant (.int i) j pos) (M.eC (.int i)):=by with_unfolding_all exact zLl (i:=i) (j:=j)
theorem zLW (i:Nat) {x:Str}{es:List Expr}{r:M.AM} (hr:MA0 X Θ es r) (hN:X.N[i]? = some x:=by rfl) (hv:Vis X.env.scope x:=by first | exact Or.inl rfl | exact Or.inr (Or.inl rfl) | exact Or.inr (Or.inr rfl)) (hd:(x == ("__debug__" : Str))=false:=by decide)
  (hcd:(x == ("__classdict__" : Str))=false:=by decide):MA0 X Θ (.Name x p::es) (M.zD (M.zB i) r):=(zLh hN hv hr hd hcd).imp fun σ H Q ⟨ρ,σ',S,st,rp,h⟩=>by
 have h':zF X.K Θ (zO X.K) ρ H ((M.zB i σ' S).bind fun x s=>(r σ' s).bind fun xs s=>.ok (x::xs) s) Q:=h
 unfold M.zB at h'
 cases e:σ'[i]? with
 | none=>rw[e] at h';exact h'.elim
 | some od =>
  cases od with
  | none=>rw[e] at h';exact h'.elim
  | some d =>
   rw[e] at h'
   obtain⟨v,e1,rv⟩:=st.get i d e
   exact⟨v,e1,ρ,σ',S,st,rp,zF.bind h' fun ρ2 H2 ys Ys S2 p2 l2 rp2 ry h2=>h2.here rp2 ⟨v,Ys,rfl,rv.mono p2 l2,ry⟩⟩
theorem zJK (i:Nat) {x:Str}{es:List Expr}{r:M.AM} (hr:WA0 X Θ es r) (hN:X.N[i]? = some x:=by rfl) (hv:Vis X.env.scope x:=by first | exact Or.inl rfl | exact Or.inr (Or.inl rfl) | exact Or.inr (Or.inr rfl)) (hd:(x == ("__debug__" : Str))=false:=by decide)
  (hcd:(x == ("__classdict__" : Str))=false:=by decide):WA0 X Θ (.Name x p::es) (M.zD (M.zB i) r):=by with_unfolding_all exact zLW i (x:=x) (es:=es) (r:=r) hr hN hv hd hcd
theorem zJS {e:Expr}{es:List Expr}{r:M.AM} (ha:ME0 X Θ e ma) (hr:MA X Θ es r) (hs:ze e=true:=by rfl):MA0 X Θ (e::es) (M.zD ma r) :=
 (zKC ha hr (jS hs)).imp fun σ H Q ⟨ρ,σ',S,st,rp,h⟩=>⟨ρ,σ',S,st,rp,zF.bind h fun ρ1 H1 x X1 S1 p1 l1 rp1 rx h1=>⟨ρ1,σ',S1,st.mono p1 l1,rp1,
  zF.bind h1 fun ρ2 H2 ys Ys S2 p2 l2 rp2 ry h2=>h2.here rp2 ⟨X1,Ys,rfl,rx.mono p2 l2,ry⟩⟩⟩
theorem zEC {e:Expr}{es:List Expr}{r:M.AM} (ha:WE0 X Θ e ma) (hr:WA X Θ es r) (hs:ze e=true:=by rfl):WA0 X Θ (e::es) (M.zD ma r):=by with_unfolding_all exact zJS (e:=e) (es:=es) (r:=r) ha hr hs
theorem zJU {x:Str}{ps:List Str}{e:Expr}{es:List Expr}{f:M.F}{m:M.AM}{k kk n:Nat} (h:Has X.prog X.w X.K X.mg X.base x k ps (SpM X.K Θ n f)) (hr:zy kk X.A) (hk:k <= kk) (hg:Gl X x) (ha:MA0 X Θ (e::es) m) (ar:Qe m n) (hx:qa CX0 X E0:=by exact QS) (hdb:(x == ("__debug__" : Str))=false:=by decide)
  (he:ze e=true:=by rfl) (hpl:es.all ze=true:=by rfl):ME0 X Θ (.Call (.Name x p) (e::es) [] pos) (M.zT f m) :=
 (zJz h hr hk hg ha hx hdb (jS he) (yl hpl)).imp fun σ H Q ⟨ρ,σ',S,st,rp,h⟩=>⟨ρ,σ',S,st,rp,by
  have h':zF X.K Θ (zN X.K) ρ H ((m σ' S).bind fun xs s=>f xs s) Q:=h
  cases hm:m σ' S with
  | no=>rw[hm] at h';exact h'.elim
  | exc a s=>rw[hm] at h';exact h'.elim
  | ok ds S1 =>
   rw[hm] at h'
   intro ρ1 H1 vs p1 l1 rp1 r1
   rw[List.append_nil]
   exact⟨ρ1,ds,S1,ar _ _ _ _ hm,r1,rp1,zF.weak h' p1 l1⟩⟩
theorem zDl {x:Str}{ps:List Str}{e:Expr}{es:List Expr}{f:M.F}{m:M.AM}{k kk n:Nat} (h:Has X.prog X.w X.K X.mg X.base x k ps (SpM X.K Θ n f)) (hr:zy kk X.A) (hk:k <= kk) (hg:Gl X x) (ha:WA0 X Θ (e::es) m) (ar:Qe m n) (hx:qa CX0 X E0:=by exact QS) (hdb:(x == ("__debug__" : Str))=false:=by decide)
  (he:ze e=true:=by rfl) (hpl:es.all ze=true:=by rfl):WE0 X Θ (.Call (.Name x p) (e::es) [] pos) (M.zT f m):=by with_unfolding_all exact zJU (x:=x) (ps:=ps) (e:=e) (es:=es) (f:=f) (m:=m) (k:=k) (kk:=kk) (n:=n) h hr hk hg ha ar hx hdb he hpl
theorem zLo {i:Nat}{x:Str}{e:Expr}{m:M.EM}{pos':Pos} (hN:X.N.Nodup) (hi:X.N[i]? = some x) (hx:Loc X.env.scope x) (he:ME0 X Θ e m) (hs:swapsWith e (some (.Name x pos')) pos.line X.env=pure false:=by kernel_rfl) (hf:X.fn x=true\/X.env.scope.names.lookup x=some .local:=by first | exact .inl rfl | exact .inr rfl | assumption) :
  MS0 X Θ (.Assign [.Name x pos'] e pos) (M.zo i m):=(zMF hN hi hx he hs hf).imp fun D σ H ⟨ρ,σ',S,st,rp,h⟩=>⟨ρ,σ',S,st,rp,zi.stm h fun ρ1 H1 x X1 S1 p1 l1 rp1 rx h1=>h1.nx rp1 ((st.mono p1 l1).set rx i)⟩
theorem zIo {i:Nat}{x:Str}{e:Expr}{m:M.EM}{pos':Pos} (hN:X.N.Nodup) (hi:X.N[i]? = some x) (hx:Loc X.env.scope x) (he:WE0 X Θ e m) (hs:swapsWith e (some (.Name x pos')) pos.line X.env=pure false:=by kernel_rfl) (hf:X.fn x=true\/X.env.scope.names.lookup x=some .local:=by first | exact .inl rfl | exact .inr rfl | assumption) :
  WS0 X Θ (.Assign [.Name x pos'] e pos) (M.zo i m):=by with_unfolding_all exact zLo (i:=i) (x:=x) (e:=e) (m:=m) (pos':=pos') hN hi hx he hs hf
theorem zIr {st:Stmt}{jY:List Stmt}{ms mr:M.SM} (h1:MS0 X Θ st ms) (h2:MSs X Θ jY mr):zJ1 X Θ (st::jY) (M.zQ ms mr):=(zJL h1 h2).imp fun D σ H ⟨ρ,σ',S,st,rp,h⟩=>⟨ρ,σ',S,st,rp,by
 have h':zi X.K Θ ρ H ((ms σ' S).then mr) D:=h
 revert h'
 cases ms σ' S with
 | nx a s=>exact fun h' ρ2 H2 σ2 p l rp2 st2=>⟨ρ2,a,s,st2,rp2,zi.weak h' p l⟩
 | rt a s=>exact fun h'=>h'
 | bk a s=>exact fun h'=>h'
 | ct a s=>exact fun h'=>h'
 | exc e a s=>exact fun h'=>h'
 | no=>exact fun h'=>h'⟩
theorem zGj {st:Stmt}{jY:List Stmt}{ms mr:M.SM} (h1:WS0 X Θ st ms) (h2:WSs X Θ jY mr):zM1 X Θ (st::jY) (M.zQ ms mr):=by with_unfolding_all exact zIr (st:=st) (jY:=jY) (ms:=ms) (mr:=mr) h1 h2
end
theorem zBz.nox {X:Cx}{st:List Stmt}{t:TS} (h:zBz X.nox st t):zBz X st t:=fun pins s σ H D I hw =>
 wpAny_mono (h pins s σ H D (I.wish _) hw) (fun _ _ q=>q.unwish) fun _ _ z=>False.elim z
noncomputable abbrev fdL (fd:FuncData) (x:Str):FuncData:={ fd with scope:={ fd.scope with names:=[(x,.local)] } }
theorem zOI {P:Program}{w:World}{K:PySem.W.Frag}{mg:Str->Option Value}{base:Heap}{Θ:Tab}{x qual y:Str}{st:Stmt}{f:Addr}{fd:FuncData}{N:List Str}{k:Nat}{b:M.SM} (F:Fun K x qual st f fd) (S:jC N [y] (zL st))
  (hbody:∀ (cdv:Value) (A:Around) (outer:List Env) (s:Shared) (H:Hp) (E:XK),zy k (A.deeper (envOfC qual (zL st) s.heap.objs.size f cdv)) ->
   zJ1 (Qa CX0 P w K mg base N qual (zL st) f cdv A outer s H E).nox Θ (zx st) b):jW P w K mg base CX0 (k+1) f (fdL fd y) [y] (SpM K Θ 1 (M.fn N.length b)):=by
 obtain⟨oc,od,kV,doc,pm,an,cdv,ct,osl,rfl,lk,hcd⟩:=F.ex
 refine⟨fun vs H Q E h=>?_,fun A outer s H args us vs Q E hr e0 _ hb r hsp=>?_⟩
 ·obtain⟨ρ,ds,S,hl,r,_⟩:=h
  rw[<- r.length,hl];rfl
 ·obtain⟨ρ,ds,S0,hl,rd,rp,h⟩:=hsp
  have hlv:vs.length=([y]:List Str).length:=by rw[<- rd.length,hl];rfl
  have KX:K.In s.heap:=e0.mod.kin.keeps fun b o e=>(e0.bs b o e).1
  have lim:s.heap.NoLimit:=e0.mod.nolimit.keeps fun b o e=>(e0.bs b o e).1
  have hkind:∀ z∈([y]:List Str).zip us,(zL st).names.lookup z.1=some .local\/((zL st).names.lookup z.1=some .cell/\((cellsFrom (s.heap.objs.size+1) (zL st).names []).lookup z.1).isSome=true):=fun ⟨n,v⟩ hy=>by
   rcases S.par n (List.of_mem_zip hy).1 with q | q
   ·exact .inl q
   ·exact .inr ⟨q,PySem.W.cellsFrom_some _ _ _ (.inl q)⟩
  refine codeAny_call_function hr.depth (KX _ _ lk) rfl S.co S.gen rfl (PySem.W.codeRec_of KX hcd) (hb _ _ _ _ ?_)
  refine zGx S.kind hkind fun env he s1 x htk1=>?_
  subst he
  refine⟨lim.keeps x.toInCall.keep,codeAny_func ?_⟩
  have x2:InCallC s s.heap.objs.size (bindL (envOfC qual (zL st) s.heap.objs.size f cdv).kindOf (([y]:List Str).zip us) fun _=>none) (cellsFrom (s.heap.objs.size+1) (zL st).names []) (bindC (envOfC qual (zL st) s.heap.objs.size f cdv).kindOf (([y]:List Str).zip us) fun _=>none) { s1 with toks:=s1.toks+1 }:=by
   obtain⟨⟨⟨h1,tk,e1⟩,a2,a3,a4⟩,a5,a6,a7⟩:=x
   subst e1
   exact⟨⟨⟨h1,_,rfl⟩,a2,a3,a4⟩,a5,a6,a7⟩
  have I:zC0 (Qa CX0 P w K mg base N qual (zL st) f cdv A outer s H E) [] (Zr N vs) H s1:=zEx S hr.hd e0 hlv r x2 (Nat.succ_pos _)
  have hq:RdS K Θ b { nx:=fun _ H'=>Q .non H',rt:=Q } (Zr N vs) H:=by
   refine⟨ρ,_,S0,zCP rd N,rp,?_⟩
   have h':zF K Θ (zN K) ρ H (b (ds.map some++List.replicate (N.length - ds.length) none) S0).out Q:=h
   revert h'
   cases b (ds.map some++List.replicate (N.length - ds.length) none) S0 with
   | rt a s=>exact fun h'=>h'
   | nx a s=>exact fun h' ρ1 H1 σ1 p1 l1 rp1 _=>h' ρ1 H1 .non p1 l1 rp1 rfl
   | bk a s=>exact fun h'=>h'.elim
   | ct a s=>exact fun h'=>h'.elim
   | exc e a s=>exact fun h'=>h'
   | no=>exact fun h'=>h'
  refine wpAny_mono ((hbody cdv A outer s H E (hr.deeper _)).nox [] s1 (Zr N vs) H _ I hq) (fun fl s' hs=>?_) fun e s' hs=>hs
  have fin:∀ {σ':St}{H':Hp}{v:V}{u:Value},Inv (Qa CX0 P w K mg base N qual (zL st) f cdv A outer s H E) [] σ' H' s'->zh v u->Q v H'->CE outer P w H s Q u s' :=
   fun {σ' H' v u} J rv q=>⟨v,H',J.os,J.bare,J.base,J.hok,rv,q⟩
  cases fl with
  | ret u =>
   obtain⟨v,σ',H',J,rv,q⟩:=hs
   exact fin J rv q
  | next =>
   obtain⟨σ',H',J,q⟩:=hs
   exact fin (v:=V.non) (u:=Value.none) J rfl q
  | brk=>obtain⟨_,_,_,q⟩:=hs;exact False.elim q
  | cont=>obtain⟨_,_,_,q⟩:=hs;exact False.elim q
theorem zMJ {P:Program}{w:World}{K:PySem.W.Frag}{mg:Str->Option Value}{base:Heap}{Θ:Tab}{x qual y:Str}{st:Stmt}{f:Addr}{fd:FuncData}{N:List Str}{k:Nat}{b:M.SM} (F:Fun K x qual st f fd) (S:jC N [y] (zL st))
  (hbody:∀ (cdv:Value) (A:Around) (outer:List Env) (s:Shared) (H:Hp) (E:XK),zy k (A.deeper (envOfC qual (zL st) s.heap.objs.size f cdv)) ->
   zM1 (Qa CX0 P w K mg base N qual (zL st) f cdv A outer s H E).nox Θ (zx st) b):jW P w K mg base CX0 (k+1) f (fdL fd y) [y] (SpM K Θ 1 (M.fn N.length b)):=by with_unfolding_all exact zOI (P:=P) (w:=w) (K:=K) (mg:=mg) (base:=base) (Θ:=Θ) (x:=x) (qual:=qual) (y:=y) (st:=st) (f:=f) (fd:=fd) (N:=N) (k:=k) (b:=b) F S hbody
end L2
namespace L2
open PySem PySem.Spec PyProof.Rows PySem.Builtin.Str
noncomputable def Itw (K:PySem.W.Frag) (a:Addr) (n:Nat):It :=
 ⟨fun i H=>∃ xs,SqL K H a xs/\xs.length=n/\∃ x,xs.reverse[i]? = some x,fun i H x H'=>H'=H/\∀ xs,SqL K H a xs->xs.reverse[i]? = some x,fun i H=>(∃ xs,SqL K H a xs/\xs.length=n)/\n <= i⟩
theorem zKf {P:Program}{w:World}{K:PySem.W.Frag}{tg:Expr} (a it:Addr) (n:Nat) (hne:a≠it):zAd P w K tg (Itw K a n) [it] it (fun i h=>i <= n/\h.IsRevIter it a ((n:Int) - 1 - (i:Int))) where
 mem:=by simp
 obj:=fun i h st b hb=>by
  have e:b=it:=by simpa using hb
  subst e
  obtain⟨o,e,c,d⟩:=st.2
  exact⟨o,e,fun v z=>by rw[d] at z;cases z⟩
 keep:=fun i h h' st k=>⟨st.1,st.2.at fun o e=>k it (by simp) o e⟩
 item:=by
  intro X hP hw hK hc i pins s σ H E I hf st hg
  subst hP hw hK
  obtain⟨xs,hq,hn,x,hx⟩:=hg
  obtain⟨its,rv,p,_⟩:=I.list hq
  have hl:=rv.length
  have hi:i < xs.length:=by have:=(List.getElem?_eq_some_iff.mp hx).1;rwa [List.length_reverse] at this
  have hx2:xs[xs.length - 1 - i]? = some x:=by rw[List.getElem?_reverse hi] at hx;exact hx
  obtain⟨u,hu,ru⟩:=rv.get hx2
  obtain⟨f0,f1,f2,f3,f4,f5⟩:=hf it (by simp)
  have e:(n:Int) - 1 - (i:Int)=((xs.length - 1 - i:Nat):Int):=by omega
  have hit:=st.2
  rw[e] at hit
  refine wpAny_pyNext_rev_item hit p.isList (x:=u) (by simpa using hu) fun h' hit' sb=>?_
  have e2:((xs.length - 1 - i:Nat):Int) - 1=(n:Int) - 1 - ((i+1:Nat):Int):=by omega
  rw[e2] at hit'
  have I1:Inv X pins σ H { s with heap:=h' }:=I.turned (t':=s.toks) (fun b o hb e=>sb.extBut b o hb e) f0 f1 f3 f4 f5
  obtain⟨o,eo,co,dd⟩:=id hit'
  refine⟨u,rfl,zAS (s:={ s with heap:=h' }) eo co dd (by decide) ⟨x,H,I1,ru,⟨rfl,fun ys hy=>?_⟩,⟨by omega,hit'⟩,fun b hb=>(hf b hb).1⟩⟩
  rw[I.list_inj hy hq];exact hx
 done:=by
  intro X hP hw hK hc i pins s σ H E I hf st hg
  subst hP hw hK
  obtain⟨_,hx⟩:=hg
  obtain⟨f0,f1,f2,f3,f4,f5⟩:=hf it (by simp)
  have e:(n:Int) - 1 - (i:Int) = -1:=by have:=st.1;omega
  have hit:=st.2
  rw[e] at hit
  exact wpAny_pyNext_rev_end (I.ok.hd hc) hit fun h' eb=>⟨rfl,I.turned (t':=s.toks) (fun b o hb e=>eb b o hb e) f0 f1 f3 f4 f5⟩
 self:=fun _ _ _ _ _ st h=>wpAny_pyIter_revIter st.2 h
noncomputable def zPQ (K:PySem.W.Frag) (ta:TA):TI:=fun σ H R=>ta σ H fun vs H1=>∃ a xs,vs=[.ref a]/\SqL K H1 a xs/\R (Itw K a xs.length) H1
theorem zNO {X:Cx}{a:Expr}{ta:TA}{p pos:Pos}{tg:Expr} (hg:Gl X "reversed") (hm:X.mg "reversed" = none) (ha:PA X [a] ta) (hsa:ze a=true):PI X tg (.Call (.Name "reversed" p) [a] [] pos) (zPQ X.K ta):=by
 intro pins s σ H R I h
 refine Call_ (Jy I hg hm zAT (PyProof.Rows.callWith_type1 (thn (ha pos pins s σ H _ I h) fun us s1 ⟨vs,H1,I1,r1,q1⟩=>?_) (jS hsa) (yl (by simp))))
 obtain⟨a',xs,rfl,hq,q⟩:=q1
 obtain⟨u1,rfl,e1⟩:∃ u1,us=[u1]/\u1=.ref a':=by
  cases r1 with
  | cons c1 t1=>cases t1;exact⟨_,rfl,c1⟩
 subst e1
 obtain⟨its,rv,p,hz⟩:=I1.list hq
 have hl:=rv.length
 have lp:a' < s1.heap.objs.size:=by obtain⟨o,e,_⟩:=p.isList;exact Heap.lt_size e
 refine call_reversed_list p.isList ?_
 have g:(s1.heap.push (revObj a' ((its.toArray.size:Int) - 1))).IsRevIter s1.heap.objs.size a' ((its.toArray.size:Int) - 1):=⟨_,Heap.get?_push_size _ rfl,rfl,rfl⟩
 refine wpAny_pyIter_revIter g ⟨s1.heap.objs.size,[s1.heap.objs.size],_,_,H1,rfl,I1.kept (t':=s1.toks) fun b o e=>Heap.get?_push_of_some _ e,zKf a' _ xs.length (Nat.ne_of_lt lp),⟨Nat.zero_le _,?_⟩,fun b hb=>?_,q⟩
 ·have e:((its.toArray.size:Int) - 1)=(xs.length:Int) - 1 - ((0:Nat):Int):=by rw[List.size_toArray,hl];omega
  rw[<- e]
  exact g
 ·have e:b=s1.heap.objs.size:=by simpa using hb
  subst e
  exact I1.fpOk (Nat.le_refl _) (I1.hok.fresh (Nat.le_refl _))
section
variable {Θ:Tab}
theorem zMB {K:PySem.W.Frag}{ρ:List Addr}{H:Hp}{i:Nat}{a:Addr}{ds:List M.D} (ha:ρ[i]? = some a):ItR K Θ ρ H (Itw K a ds.length) ds.reverse [(i,.lst ds)]:=by
 have key:∀ {ρ':List Addr}{S':M.S}{H':Hp},ρ <+: ρ'->zW K Θ ρ' S' H'->M.zj [(i,.lst ds)] S'=true->∃ zs,H' a=some (.lst zs)/\zO K ρ' H' ds zs:=fun {ρ' S' H'} p rp g=>by
  have g':S'[i]? = some (M.O.lst ds):=by simpa [M.zj] using g
  obtain⟨b,e1,zs,e2,r⟩:=rp.obj i _ g'
  rw[Q5 p ha] at e1;cases e1
  exact⟨zs,e2,r⟩
 refine⟨fun j ρ' S' H' p l rp g hj=>?_,fun j ρ' S' H' v H2 p l rp g hj y=>?_,fun ρ' S' H' p l rp g=>?_⟩
 ·obtain⟨zs,e,r⟩:=key p rp g
  obtain⟨v,e1,_⟩:=r.rev.get (i:=j) (d:=ds.reverse[j]) (List.getElem?_eq_getElem hj)
  exact⟨zs,SqL.of e,r.length.symm,v,e1⟩
 ·obtain⟨zs,e,r⟩:=key p rp g
  obtain⟨v',e1,rv⟩:=r.rev.get (i:=j) (d:=ds.reverse[j]) (List.getElem?_eq_getElem hj)
  obtain⟨rfl,y2⟩:=y
  have y3:=y2 zs (SqL.of e)
  rw[e1] at y3;cases y3
  exact⟨ds.reverse[j],List.getElem?_eq_getElem hj,rv,Le.refl _,rp⟩
 ·obtain⟨zs,e,r⟩:=key p rp g
  exact⟨⟨zs,SqL.of e,r.length.symm⟩,by rw[List.length_reverse];exact Nat.le_refl _⟩
theorem zFi {X:Cx}{tg e:Expr}{m:M.EM}{p pos:Pos} (hg:Gl X "reversed") (hm:X.mg "reversed" = none) (he:ME X Θ e m) (hs:ze e=true:=by rfl):MI X Θ tg (.Call (.Name "reversed" p) [e] [] pos) (M.zDs m) :=
 (zNO hg hm (zCa he zDR hs) hs).imp fun σ H R ⟨ρ,σ',S,st,rp,h⟩=>⟨ρ,σ',S,st,rp,by
  have h':zF X.K Θ _ ρ H (((m σ' S).bind fun x s=>match x with
   | .ref i=>(match s[i]? with | some (.lst xs)=>M.R.ok (xs.reverse,[(i,M.O.lst xs)]) s | _=>.no)
   | _=>.no).bind fun p s=>if M.zj p.2 s then .ok p s else .no) R:=h
  show zF X.K Θ _ ρ H ((m σ' S).bind fun x s=>(M.R.ok [] s).bind fun xs s=>.ok (x::xs) s) _
  cases hm:m σ' S with
  | no=>rw[hm] at h';exact h'.elim
  | exc a s=>rw[hm] at h';exact h'.elim
  | ok d S1 =>
   rw[hm] at h'
   intro ρ1 H1 vs p l rp1 rv
   obtain⟨v,ys,rfl,rv,hy⟩:=rv
   cases hy
   cases d with
   | ref i =>
    have h2:zF X.K Θ _ ρ H ((match S1[i]? with | some (.lst xs)=>M.R.ok (xs.reverse,[(i,M.O.lst xs)]) S1 | _=>.no).bind fun p s=>if M.zj p.2 s then .ok p s else .no) R:=h'
    cases q:S1[i]? with
    | none=>rw[q] at h2;exact h2.elim
    | some o =>
     rw[q] at h2
     cases o with
     | lst xs =>
      obtain⟨a,rfl,e1⟩:=rv
      obtain⟨b,e2,zs,e3,r⟩:=rp1.obj i _ q
      rw[e1] at e2;cases e2
      have hg:M.zj [(i,M.O.lst xs)] S1=true:=by simp[M.zj,q]
      have h3:zF X.K Θ _ ρ H (if M.zj [(i,M.O.lst xs)] S1 then M.R.ok (xs.reverse,[(i,M.O.lst xs)]) S1 else .no) R:=h2
      rw[if_pos hg] at h3
      refine⟨a,zs,rfl,SqL.of e3,?_⟩
      rw[<- r.length]
      exact h3 ρ1 H1 _ p l rp1 (zMB e1)
     | dct kvs=>exact h2.elim
     | fdc _=>exact h2.elim
     | ins c fs=>exact h2.elim
   | _=>exact h'.elim⟩
theorem zEa {X:Cx}{tg e:Expr}{m:M.EM}{p pos:Pos} (hg:Gl X "reversed") (hm:X.mg "reversed" = none) (he:WE X Θ e m) (hs:ze e=true:=by rfl):WI X Θ tg (.Call (.Name "reversed" p) [e] [] pos) (M.zDs m):=by with_unfolding_all exact zFi (X:=X) (tg:=tg) (e:=e) (m:=m) (p:=p) (pos:=pos) hg hm he hs
end
section
variable {P:Program}{w:World}{A:Around}{E:Value->Shared->Prop}{s:Shared}
theorem zGm {I l:Addr}{its:Array Value}{Q:List Value->Shared->Prop} (hh:A.handled=none) (hne:l≠I) (lI:I < s.heap.objs.size) (ll:l < s.heap.objs.size) (hit:s.heap.IsRevIter I l ((its.size:Int) - 1)) (hl:s.heap.IsList l its) (hn:its.size <= sizeLine)
  (q:∀ h' tk acc,s.toks <= tk->(∀ b o,b≠I->s.heap.get? b=some o->h'.get? b=some o)->ItemsOf (fun i v=>its[its.size - 1 - i]? = some v) acc its.size->Q acc.toList { s with heap:=h',toks:=tk }):wpAny (model P w) A (collect (.ref I)) Q E s:=by
 have W:=Walks.listRev (prog:=P) (w:=w) (A:=A.in1) hh I l hne its
 have hSf:s.heap.objs.size∉[I,l]:=fun hm=>by
  rcases List.mem_cons.mp hm with e | hm
  ·exact Nat.lt_irrefl _ (e ▸ lI)
  ·exact Nat.lt_irrefl _ (List.mem_singleton.mp hm ▸ ll)
 have hSI:s.heap.objs.size≠I:=Nat.ne_of_gt lI
 unfold collect
 refine wpAny_bind (wpAny_runValue (codeAny_builtin PySem.F.entry_proto_collect ?_))
 rw[Around.under_plainId PySem.F.plain_proto_collect _]
 show wpAny _ A.in1 (newList [] >>= fun l=>again (.builtin "list.__iadd__" ⟨[l,.ref I],[]⟩)) _ _ s
 refine wpAny_bind (wpAny_newObj_type ?_)
 refine wpAny_pure ⟨plainId_quiet PySem.F.plain_list_iadd _,codeAny_builtin PySem.F.entry_list_iadd ?_⟩
 rw[Around.under_plainId PySem.F.plain_list_iadd _]
 have st0:(0:Nat) <= its.size/\s.heap.IsRevIter I l ((its.size:Int) - 1 - ((0:Nat):Int))/\s.heap.IsList l its:=⟨Nat.zero_le _,by simpa using hit,hl⟩
 have st1:=W.frame 0 s.heap (s.heap.push { cls:=.type "list",data:=.seq ([]:List Value).toArray }) st0 fun b _ o e=>Heap.get?_push_of_some _ e
 have hS₁:(s.heap.push { cls:=.type "list",data:=.seq ([]:List Value).toArray }).get? s.heap.objs.size=some { cls:=.type "list",data:=.seq ([]:List Value).toArray }:=Heap.get?_push_size _ rfl
 have h1:Builtin.List.listSameRef (.ref s.heap.objs.size) (.ref I)=false:=by simp[Builtin.List.listSameRef,hSI]
 have t1:(Value.type "list_reverseiterator" == Value.type "list")=false:=by decide
 have t2:(Value.type "list_reverseiterator" == Value.type "tuple")=false:=by decide
 show wpAny _ A.in1 (Builtin.List.listExtendWith (.ref s.heap.objs.size) (.ref I) (.ref s.heap.objs.size)) _ _ _
 unfold Builtin.List.listExtendWith
 refine wpAny_bind (wpAny_typeOf (Heap.IsRevIter.typeIs st1.2.1) ?_)
 simp only[h1,t1,t2,Bool.or_false,Bool.false_eq_true,if_false]
 refine wpAny_bind (W.self 0 _ _ _ st1 ?_)
 refine wpAny_bind (wpAny_holding (zJV st1.2.1 ?_))
 rw[if_neg (by decide)]
 refine wpAny_pure ⟨plainId_quiet PySem.F.plain_extend_loop _,codeAny_extend_loopS W.toS hn _ hSf _ its.size 0 _ _ _ rfl (Nat.zero_le _) st1 hS₁ (ItemsOf.nil _) fun s' acc' c' hm hS' hacc=>?_⟩
 show wpAny _ A (load s.heap.objs.size >>= _) _ _ s'
 refine wpAny_bind (wpAny_load hS' (wpAny_pure ?_))
 rw[Moved.eq_with hm]
 refine q s'.heap s'.toks acc' hm.toks (fun b o hb e=>hm.heap b o (fun hmem=>?_) (Heap.get?_push_of_some _ e)) hacc
 rcases List.mem_cons.mp hmem with e' | hmem
 ·exact Nat.ne_of_lt (Heap.lt_size e) e'
 ·exact hb (List.mem_singleton.mp hmem)
theorem zJt {I l:Addr}{its:List Value}{ys:List Str}{x:Str}{t:Tok}{Q:Value->Shared->Prop} (hh:A.handled=none) (hne:l≠I) (lI:I < s.heap.objs.size) (ll:l < s.heap.objs.size) (hit:s.heap.IsRevIter I l ((its.toArray.size:Int) - 1)) (hl:s.heap.IsList l its.toArray) (hs:StrsAre its ys) (hn:its.length <= sizeLine) (hz:(ys.map (·.length)).sum+ys.length * x.length <= 16777216)
  (q:∀ h' t' tk,(∀ b o,b≠I->s.heap.get? b=some o->h'.get? b=some o)->Q (.str (Txt.join x ys.reverse) t') { s with heap:=h',toks:=tk }):wpAny (model P w) A (call (.builtin "str.join") [.str x t,.ref I]) Q E s:=by
 refine wpAny_call (codeAny_call_builtin PySem.F.slot_str_join.plain PySem.F.entry_str_join (PySem.F.slot_str_join.check _ _ _ _ _ _ _ _ (typeIs_str _ _ _) (PySem.F.args_str_join_2 _ _) ?_))
 rw[join_tree_other]
 refine wpAny_bind (wpAny_typeOf (Heap.IsRevIter.typeIs hit) ?_)
 show wpAny _ A.in1 ((pyIter (.ref I)).tryCatch _ >>= fun it=>collect it >>= fun items=>joinTail x items) _ _ s
 refine wpAny_bind (wpAny_tryCatch (wpAny_pyIter_revIter hit ?_))
 refine wpAny_bind (zGm (A:=A.in1) hh hne lI ll hit hl (by rw[List.size_toArray];exact hn) fun h' tk acc htk kk hacc=>?_)
 have ea:acc=its.reverse.toArray:=zIh (by simpa using hacc)
 obtain⟨lv,hv,ht⟩:=strsAre_values hs
 have el:acc.toList=strValues lv.reverse:=by
  rw[ea]
  show its.reverse=_
  rw[hv];unfold strValues;rw[List.map_reverse]
 rw[el]
 have em:lv.reverse.map (·.1)=ys.reverse:=by rw[<- ht,List.map_reverse]
 have hok:JoinOk x (lv.reverse.map (·.1))=true:=by
  rw[em]
  refine joinOk_of ?_
  rw[List.map_reverse,List.sum_reverse,List.length_reverse]
  exact hz
 unfold JoinOk at hok
 rw[Bool.not_eq_true'] at hok
 have g:Gives (joinTail x (strValues lv.reverse)) (joinMade x lv.reverse):=by
  have g0:=gives_joinTail x lv.reverse hok
  generalize lv.reverse=l at *
  cases l with
  | nil=>exact g0
  | cons p r=>cases r with
   | nil=>exact g0
   | cons q r'=>exact g0
 refine g P w A (wants Q E) _ (post_join lv.reverse ⟨joinFit_length hok,fun t' k=>?_⟩)
 rw[em]
 exact q h' t' k kk
end
section
variable {X:Cx}{Θ:Tab}{k:Nat}
noncomputable def zJc (K:PySem.W.Frag) (x:Str):V->Hp->VK->Prop:=fun v H Q=>∃ p,∃ ys:List Str,v=.ref p/\SqL K H p (ys.map V.str)/\(ys.map (·.length)).sum+ys.length * x.length <= 16777216/\Q (.str (Txt.join x ys.reverse)) H
theorem zHY {z:Str}{j:Nat}{p pz pos2 apos cpos:Pos}{a:Expr}{ta:TE} (hr:zy k X.A) (hgz:Gl X "reversed") (hmz:X.mg "reversed" = none) (ha:PE X a ta) (hsa:ze a=true:=by rfl) (hline:(apos.endLine == cpos.line)=true:=by rfl) :
  PE X (.Call (.Attribute (.Constant (.str z) j p) "join" apos) [.Call (.Name "reversed" pz) [a] [] pos2] [] cpos) (fun σ H Q=>ta σ H fun v H1=>zJc X.K z v H1 Q):=by
 intro pins s σ H Q I h
 refine wpAny_Call_method_late rfl rfl hline rfl (Calls.Constant_str ?_)
 have I0:Inv X pins σ H { s with toks:=s.toks+1 }:=I.tok _
 obtain⟨h1,h2⟩:=zFw (T := "str") I0 (show zh (.str z) (.str z s.toks) from ⟨_,rfl⟩) rfl
 refine⟨"str","str.join",PySem.F.plainAttrs_str,PySem.F.slot_str_join,PySem.F.type_str_join,h1,h2,?_⟩
 refine Calls.callWith_builtin rfl (Calls.evalArgs_plain ?_)
 show wpAny _ _ (spliced [(false,eval (.Call (.Name "reversed" pz) [a] [] pos2) X.env)]) _ _ _
 refine Calls.spliced_cons ?_
 refine Call_ (Jy I0 hgz hmz zAT (PyProof.Rows.callWith_type1 ?_ (jS hsa) (yl (by simp))))
 rw[jS (e:=a) (es:=[]) hsa]
 refine Calls.spliced_cons (thn (ha pins _ σ H _ I0 h) fun u s1 ⟨v,H1,I1,r1,q1⟩=>Calls.spliced_nil ?_)
 obtain⟨l,ys,rfl,hq,hz,q⟩:=q1
 cases r1
 obtain⟨its,rv,pl,hzl⟩:=I1.list hq
 have hl:=rv.length
 have ll:l < s1.heap.objs.size:=by obtain⟨o,e,_⟩:=pl.isList;exact Heap.lt_size e
 refine call_reversed_list pl.isList ?_
 have g:(s1.heap.push (revObj l ((its.toArray.size:Int) - 1))).IsRevIter s1.heap.objs.size l ((its.toArray.size:Int) - 1):=⟨_,Heap.get?_push_size _ rfl,rfl,rfl⟩
 have n1:(s1.heap.push (revObj l ((its.toArray.size:Int) - 1))).objs.size=s1.heap.objs.size+1:=Heap.size_push ..
 refine Calls.spliced_nil ?_
 refine wpAny_with_toks (n:=1) (show 1 <= _ from I1.tk) (zJt (I:=s1.heap.objs.size) (l:=l) (its:=its) (ys:=ys) hr.hd (Nat.ne_of_lt ll) (by show s1.heap.objs.size < (s1.heap.push _).objs.size;rw[n1];exact Nat.lt_succ_self _) (by show l < (s1.heap.push _).objs.size;rw[n1];exact Nat.lt_succ_of_lt ll) g (pl.isList.push _) (zBW rv) (by rw[<- hl];exact hzl) hz fun h' t' tk kk htk=>?_)
 exact⟨.str (Txt.join z ys.reverse),H1,I1.kept (t':=tk) (fun b o e=>kk b o (Nat.ne_of_lt (Heap.lt_size e)) (Heap.get?_push_of_some _ e)) htk,⟨_,rfl⟩,q⟩
theorem zHe {y:M.T}{z:Str}{j:Nat}{p pz pos2 apos cpos:Pos}{a:Expr}{m:M.EM} (hzy:z=ofT y) (hy:okT y) (hr:zy k X.A) (hgz:Gl X "reversed") (hmz:X.mg "reversed" = none) (ha:ME X Θ a m) (hsa:ze a=true:=by rfl) (hline:(apos.endLine == cpos.line)=true:=by rfl) :
  ME X Θ (.Call (.Attribute (.Constant (.str z) j p) "join" apos) [.Call (.Name "reversed" pz) [a] [] pos2] [] cpos) (M.eUn (M.zA8 y) m) :=
 (zHY hr hgz hmz ha hsa hline).imp fun σ H Q ⟨ρ,σ',S,st,rp,h⟩=>⟨ρ,σ',S,st,rp,zF.bind h fun ρ1 H1 x X1 S1 p1 l1 rp1 rx h1=>by
  subst hzy
  cases x with
  | ref i =>
   obtain⟨ad,rfl,ea⟩:=rx
   have h2:zF X.K Θ (zN X.K) ρ1 H1 (match M.jN S1 i with | some xs=>M.yu y xs.reverse S1 | none=>.no) Q:=h1
   cases q:S1[i]? with
   | none=>simp[M.jN,q] at h2;exact h2.elim
   | some o =>
    cases o with
    | lst ds =>
     simp only[M.jN,q] at h2
     obtain⟨zs,e1,r⟩:=Zy rp1 ea q
     cases e:M.JL ds.reverse with
     | none=>simp only[M.yu,e] at h2;exact h2.elim
     | some ts =>
      obtain⟨ez,ok⟩:=zB9 e r.rev
      have ez2:zs=(ts.reverse.map ofT).map V.str:=by
       have:=congrArg List.reverse ez
       rw[List.reverse_reverse] at this
       rw[this,List.map_reverse,List.map_reverse]
      by_cases hz:(ts.map List.length).sum+ts.length * y.length <= M.SZ
      ·simp only[M.yu,e,if_pos hz] at h2
       refine⟨ad,ts.reverse.map ofT,rfl,SqL.of (by rw[<- ez2];exact e1),?_,?_⟩
       ·rw[zG7,List.length_map,jw,List.map_reverse,List.sum_reverse,List.length_reverse];exact hz
       ·rw[<- List.map_reverse,List.reverse_reverse,zGy];exact zF.here h2 rp1 ⟨rfl,zDJ hy ok⟩
      ·simp only[M.yu,e,if_neg hz] at h2;exact h2.elim
    | dct kvs=>simp[M.jN,q] at h2;exact h2.elim
    | fdc _=>simp[M.jN,q] at h2;exact h2.elim
    | ins c fs=>simp[M.jN,q] at h2;exact h2.elim
  | non=>exact h1.elim
  | bl _=>exact h1.elim
  | int _=>exact h1.elim
  | str _=>exact h1.elim
  | tup _=>exact h1.elim
  | ro _=>exact h1.elim
  | ty _=>exact h1.elim⟩
theorem zGK {y:M.T}{z:Str}{j:Nat}{p pz pos2 apos cpos:Pos}{a:Expr}{m:M.EM} (hzy:z=ofT y) (hy:okT y) (hr:zy k X.A) (hgz:Gl X "reversed") (hmz:X.mg "reversed" = none) (ha:WE X Θ a m) (hsa:ze a=true:=by rfl) (hline:(apos.endLine == cpos.line)=true:=by rfl) :
  WE X Θ (.Call (.Attribute (.Constant (.str z) j p) "join" apos) [.Call (.Name "reversed" pz) [a] [] pos2] [] cpos) (M.eUn (M.zA8 y) m):=by with_unfolding_all exact zHe (y:=y) (z:=z) (j:=j) (p:=p) (pz:=pz) (pos2:=pos2) (apos:=apos) (cpos:=cpos) (a:=a) (m:=m) hzy hy hr hgz hmz ha hsa hline
end
end L2
set_option maxHeartbeats 4000000
namespace M
noncomputable section
noncomputable def QT:SM :=
  (j6 (eOp zR (eC (.str [97,98,99,100,101,102,103,104,105,106,107,108,109,110,111,112,113,114,115,116,117,118,119,120,121,122])) (eOp jM (zB 0) (eC (.int 26)))))
noncomputable def zBi:F:=fn 1 QT
noncomputable def QF (c:Int):Nat:=97+(c % 26).toNat
noncomputable def abc:T:=[97,98,99,100,101,102,103,104,105,106,107,108,109,110,111,112,113,114,115,116,117,118,119,120,121,122]
theorem zMb (c:Int):atI abc (c % 26)=some (QF c):=by
 have a:=Int.emod_nonneg c (show (26:Int)≠0 by decide)
 have b:=Int.emod_lt_of_pos c (show (0:Int) < 26 by decide)
 rw[zAz a (by show _ < ((26:Nat):Int);exact b) 0]
 unfold QF
 have:∀ n:Nat,n < 26->abc.getD n 0=97+n:=by decide
 rw[this _ (by omega)]
theorem zG0 (c:Int):97 <= QF c/\QF c <= 122:=by
 have a:=Int.emod_nonneg c (show (26:Int)≠0 by decide)
 have b:=Int.emod_lt_of_pos c (show (0:Int) < 26 by decide)
 unfold QF
 omega
noncomputable def jL:F
 | [.int c],s=>.ok (.str [QF c]) s
 | _,_=>.no
theorem zEI:jn 1 zBi jL:=jn.pure fun ds S hl c ca=>by
 match ds,hl with
 | [a],_ =>
  cases a with
  | int c =>
   have e:=zMb c
   unfold abc at e
   have z:(26:Nat) <= SZ:=by decide
   exact .inr ⟨.str [QF c],[],rfl,by simp[zBi,QT,e,z],rfl⟩
  | _=>exact .inl rfl
noncomputable def qh:SM :=
  (zo 2 (JO (yu []) 1 (jl (eC (.int 8))) (zq 5) yX (zT jL (zD (eOp jM (eOp j4 (eOp zU (eOp qJ (zB 0) (eC (.int 468))) (eOp j4 (zB 5) (eC (.int 977)))) (eC (.int 48271))) (eC (.int 7919))) zI))))
noncomputable def qA:SM :=
  (zo 3 (eOp zR (yZ (zD (eC (.int 1)) (zD (eC (.int 2)) (zD (eC (.int 3)) (zD (eC (.int 4)) (zD (eC (.int 6)) (zD (eC (.int 8)) zI))))))) (eOp jM (eOp qJ (zB 0) (eC (.int 26))) (eC (.int 6)))))
noncomputable def j8:SM :=
  (sIf (jA cEq (eOp jM (eOp qJ (zB 0) (eC (.int 156))) (eC (.int 3))) (eC (.int 0)))
  (j6 (eSl (zB 2) QR (yB (eOp zU (zB 1) (eC (.int 1))))))
  ZB)
noncomputable def qk:SM :=
  (zo 4 (eOp jM (eOp qJ (zB 0) (eC (.int 468))) (zB 3)))
noncomputable def qe:SM :=
  (sIf (jA cEq (eOp jM (eOp qJ (zB 0) (eC (.int 156))) (eC (.int 3))) (eC (.int 1)))
  (j6 (eOp zU (eOp zU (eSl (zB 2) QR (yB (zB 4))) (zT jL (zD (eOp zU (zB 0) (zB 1)) zI))) (eSl (zB 2) (yB (eOp zU (zB 4) (eC (.int 1)))) (yB (zB 3)))))
  ZB)
noncomputable def yN:SM :=
  (j6 (eOp zU (zT jL (zD (eOp zU (zB 0) (zB 1)) zI)) (eSl (zB 2) (yB (zB 1)) (yB (eOp zU (zB 1) (eOp jM (eOp zU (zB 3) (zB 1)) (eC (.int 8))))))))
noncomputable def Qo:SM:=(zQ qh (zQ qA (zQ j8 (zQ qk (zQ qe yN)))))
noncomputable def zDi:F:=fn 5 Qo
noncomputable def ZU (c:Int):T:=(List.range 8).map fun (j:Nat)=>QF ((c / 468+j * 977) * 48271 % 7919)
noncomputable def qo (c:Int):Int:=([1,2,3,4,6,8]:List Int).getD (c / 26 % 6).toNat 1
noncomputable def plT (c k:Int):T:=if c / 156 % 3=0 then cut (ZU c) none (some (k+1)) else if c / 156 % 3=1 then cut (ZU c) none (some (c / 468 % qo c))++[QF (c+k)]++cut (ZU c) (some (c / 468 % qo c+1)) (some (qo c)) else [QF (c+k)]++cut (ZU c) (some k) (some (k+(qo c+k) % 8))
noncomputable def zAb (x:T):Prop:=∀ ch∈x,97 <= ch/\ch <= 122
theorem zBP {x y:T} (h:zAb x) (k:zAb y):zAb (x++y):=fun ch hc=>(List.mem_append.mp hc).elim (h ch) (k ch)
theorem zDE (c:Int):zAb [QF c]:=fun ch hc=>by rw[List.mem_singleton.mp hc];exact zG0 c
theorem zAO (c:Int):zAb (ZU c):=fun ch hc=>by
 obtain⟨j,_,rfl⟩:=List.mem_map.mp hc
 exact zG0 _
theorem zEY {x:T}{lo hi:Option Int}{ch:Nat} (h:ch∈cut x lo hi):ch∈x:=by
 unfold cut at h
 exact List.mem_of_mem_drop (List.mem_of_mem_take h)
theorem zBD {x:T} (h:zAb x) (lo hi:Option Int):zAb (cut x lo hi):=fun ch hc=>h ch (zEY hc)
theorem zE9 (c:Int):(ZU c).length=8:=by simp[ZU]
theorem zMD (c k:Int):zAb (plT c k):=by
 unfold plT
 split
 ·exact zBD (zAO c) _ _
 ·split
  ·exact zBP (zBP (zBD (zAO c) _ _) (zDE _)) (zBD (zAO c) _ _)
  ·exact zBP (zDE _) (zBD (zAO c) _ _)
theorem zNs (c k:Int):(plT c k).length <= 17:=by
 unfold plT
 have h:=fun lo hi=>zJE (ZU c) lo hi
 have b:=zE9 c
 split
 ·have:=h none (some (k+1));omega
 ·split
  ·have h1:=h none (some (c / 468 % qo c))
   have h2:=h (some (c / 468 % qo c+1)) (some (qo c))
   simp only[List.length_append,List.length_singleton];omega
  ·have h1:=h (some k) (some (k+(qo c+k) % 8))
   simp only[List.length_append,List.length_singleton];omega
theorem zLa (c:Int):atI ([.int 1,.int 2,.int 3,.int 4,.int 6,.int 8]:List D) (c / 26 % 6)=some (.int (qo c))/\0 < qo c/\qo c <= 8:=by
 have a:=Int.emod_nonneg (c / 26) (show (6:Int)≠0 by decide)
 have b:=Int.emod_lt_of_pos (c / 26) (show (0:Int) < 6 by decide)
 unfold qo
 rw[zAz a (by show _ < ((6:Nat):Int);exact b) (.int 1)]
 generalize hn:(c / 26 % 6).toNat=n
 have hn6:n < 6:=by omega
 have:∀ n:Nat,n < 6->([.int 1,.int 2,.int 3,.int 4,.int 6,.int 8]:List D).getD n (.int 1)=.int (([1,2,3,4,6,8]:List Int).getD n 1)/\0 < ([1,2,3,4,6,8]:List Int).getD n 1/\([1,2,3,4,6,8]:List Int).getD n 1 <= 8:=by decide
 have:=this n hn6
 exact⟨by rw[this.1],this.2⟩
noncomputable def yC:F
 | [.int c,.int k],s=>.ok (.str (plT c k)) s
 | _,_=>.no
theorem zPI (c k:Int) (S:M.S) (r:SM):(qh [some (.int c),some (.int k),none,none,none] S).then r=r [some (.int c),some (.int k),some (.str (ZU c)),none,none] S:=by
 have s1:yp 977=true:=by decide
 have s2:yp 48271=true:=by decide
 have hc:qY 1 (jl (eC (.int 8))) (zq 5) yX (zT jL (zD (eOp jM (eOp j4 (eOp zU (eOp qJ (zB 0) (eC (.int 468))) (eOp j4 (zB 5) (eC (.int 977)))) (eC (.int 48271))) (eC (.int 7919))) zI)) [some (.int c),some (.int k),none,none,none] S=.ok ((List.range 8).map fun (j:Nat)=>.str [QF ((c / 468+j * 977) * 48271 % 7919)]) S:=by
  have:=zBE (n:=1) (it:=jl (eC (.int 8))) (tg:=zq 5) (e:=zT jL (zD (eOp jM (eOp j4 (eOp zU (eOp qJ (zB 0) (eC (.int 468))) (eOp j4 (zB 5) (eC (.int 977)))) (eC (.int 48271))) (eC (.int 7919))) zI)) (σ:=[some (.int c),some (.int k),none,none,none]) (s:=S) (lo:=0) (hi:=8) (fun (j:Nat)=>.str [QF ((c / 468+j * 977) * 48271 % 7919)]) (by simp) (by decide) fun j hj=>by
   simp[jL,s1,s2]
  exact this
 have hj:=zEw (fun (j:Nat)=>QF ((c / 468+j * 977) * 48271 % 7919)) (List.range 8) S (by decide)
 simp[qh,hc,hj,ZU]
theorem zDO:jn 2 zDi yC:=jn.pure fun ds S hl c ca=>by
 match ds,hl with
 | [a,b],_ =>
  cases a with
  | int c =>
   cases b with
   | int k =>
    obtain⟨h1,h2,h3⟩:=zLa c
    refine .inr ⟨.str (plT c k),[.lst [.int 1,.int 2,.int 3,.int 4,.int 6,.int 8]],rfl,?_,rfl⟩
    show ((qh [some (.int c),some (.int k),none,none,none] S).then (zQ qA (zQ j8 (zQ qk (zQ qe yN))))).out=_
    rw[zPI]
    have z6:(6:Nat) <= SZ:=by decide
    have z8:(8:Nat) <= SZ:=by decide
    have b8:=zE9 c
    have h:=fun lo hi=>zJE (ZU c) lo hi
    have hn:(qo c).natAbs < 1073741824:=by omega
    unfold plT
    by_cases e0:c / 156 % 3=0
    ·simp[qA,j8,z6,z8,h1,e0,b8]
    ·by_cases e1:c / 156 % 3=1
     ·have l1:=h none (some (c / 468 % qo c))
      have l2:=h (some (c / 468 % qo c+1)) (some (qo c))
      have z1:(cut (ZU c) none (some (c / 468 % qo c))).length+1 <= SZ:=by unfold SZ;omega
      have z2:(cut (ZU c) none (some (c / 468 % qo c))).length+1+(cut (ZU c) (some (c / 468 % qo c+1)) (some (qo c))).length <= SZ:=by unfold SZ;omega
      simp[qA,j8,qk,qe,z6,z8,h1,e1,b8,h2,jL,z1]
      exact z2
     ·have l1:=h (some k) (some (k+(qo c+k) % 8))
      have z1:1+(cut (ZU c) (some k) (some (k+(qo c+k) % 8))).length <= SZ:=by unfold SZ;omega
      simp[qA,j8,qk,qe,yN,z6,z8,h1,e0,e1,b8,h2,jL,z1]
   | _=>exact .inl rfl
  | _=>exact .inl rfl
noncomputable def qg:SM :=
  (zo 1 (yZ (zD (eC (.str [111,102])) (zD (eC (.str [105,102])) (zD (eC (.str [105,115])) (zD (eC (.str [116,104,101,110])) (zD (eC (.str [101,108,115,101])) (zD (eC (.str [101,97,99,104])) (zD (eC (.str [100,111])) (zD (eC (.str [105,116])) (zD (eC (.str [98,97,99,107])) (zD (eC (.str [102,105,114,115,116])) (zD (eC (.str [114,101,115,116])) (zD (eC (.str [99,111,117,110,116])) (zD (eC (.str [115,111,114,116,101,100])) zI)))))))))))))))
noncomputable def qj:SM :=
  (zo 1 (eOp zU (zB 1) (yZ (zD (eC (.str [102,97,105,108])) (zD (eC (.str [108,105,110,101])) (zD (eC (.str [109,111,114,101])) zI))))))
noncomputable def ql:SM :=
  (zo 2 (yZ zI))
noncomputable def j9:SM :=
  (Zn (jl (eC (.int 8))) (zq 3)
  (zQ (zo 4 (zT yC (zD (zB 0) (zD (zB 3) zI))))
  (zQ (Zn (jl (eC (.int 26))) (zq 5)
  (sIf (tOr (jA cIn (zB 4) (zB 1)) (jA cIn (zB 4) (zB 2)))
  (zo 4 (eOp zU (zT jL (zD (eOp zU (zB 0) (zB 5)) zI)) (eSl (zB 4) (yB (eC (.int 1))) QR)))
  ZB))
  (jx (eM .list ZK (zB 2) (zD (zB 4) zI))))))
noncomputable def yP:SM :=
  (j6 (zB 2))
noncomputable def Qk:SM:=(zQ qg (zQ qj (zQ ql (zQ j9 yP))))
noncomputable def zDz:F:=fn 6 Qk
noncomputable def zFZ (c:Int) (N:List T) (w:T) (j:Nat):T:=if y7.contains w=true\/N.contains w=true then QF (c+j)::w.drop 1 else w
noncomputable def QU (c:Int) (k:Nat) (N:List T) (j:Nat):T:=(List.range j).foldl (zFZ c N) (plT c k)
noncomputable def qp (c:Int):Nat->List T
 | 0=>[]
 | k+1=>qp c k++[QU c k (qp c k) 26]
theorem zE3 (c:Int) (k:Nat) (N:List T) (j:Nat):QU c k N (j+1)=zFZ c N (QU c k N j) j:=by
 unfold QU
 rw[List.range_succ,List.foldl_append]
 rfl
theorem zEr (c:Int) (k:Nat) (N:List T):∀ j,zAb (QU c k N j)/\(QU c k N j).length <= 17
 | 0=>⟨zMD c k,zNs c k⟩
 | j+1=>by
  obtain⟨h1,h2⟩:=zEr c k N j
  rw[zE3]
  unfold zFZ
  split
  ·refine⟨zBP (x:=[QF (c+j)]) (zDE _) fun ch hc=>h1 ch (List.mem_of_mem_drop hc),?_⟩
   simp only[List.length_cons,List.length_drop]
   omega
  ·exact⟨h1,h2⟩
theorem zEy (c:Int):∀ k,∀ t∈qp c k,zAb t/\t.length <= 17
 | 0,t,h=>by cases h
 | k+1,t,h=>by
  unfold qp at h
  rcases List.mem_append.mp h with h | h
  ·exact zEy c k t h
  ·rw[List.mem_singleton.mp h];exact zEr c k _ 26
theorem zBY (c:Int):∀ k,(qp c k).length=k
 | 0=>rfl
 | k+1=>by rw[qp,List.length_append,zBY c k];rfl
noncomputable def y6:F
 | [.int c],s=>alloc (.lst ((qp c 8).map .str)) s
 | _,_=>.no
noncomputable abbrev zMh:SM:=sIf (tOr (jA cIn (zB 4) (zB 1)) (jA cIn (zB 4) (zB 2)))
  (zo 4 (eOp zU (zT jL (zD (eOp zU (zB 0) (zB 5)) zI)) (eSl (zB 4) (yB (eC (.int 1))) QR)))
  ZB
noncomputable abbrev nb1:SM:=zo 4 (zT yC (zD (zB 0) (zD (zB 3) zI)))
noncomputable abbrev nb2:SM:=Zn (jl (eC (.int 26))) (zq 5) zMh
noncomputable abbrev nb3:SM:=jx (eM .list ZK (zB 2) (zD (zB 4) zI))
noncomputable abbrev zIG:SM:=zQ nb1 (zQ nb2 nb3)
theorem zOt:j9=Zn (jl (eC (.int 8))) (zq 3) zIG:=rfl
theorem zGF {s:M.S}{p:Nat}{ts:List T} (e:s[p]? = some (.lst (ts.map .str))) (x:T):inD (.str x) (.ref p) s=.ok (ts.contains x) s:=by
 simp only[inD,e]
 rw[if_pos (by rw[zIp];rfl),zGY]
theorem zOc {c:Int}{k:Nat}{K N:List T}{s:M.S}{p q:Nat} (hp:s[p]? = some (.lst (y7.map .str))) (hq:s[q]? = some (.lst (N.map .str))) (v5:Option D) :
  ∃ v5',∀ r,zQ nb2 r [some (.int c),some (.ref p),some (.ref q),some (.int (k:Nat)),some (.str (plT c k)),v5] s=r [some (.int c),some (.ref p),some (.ref q),some (.int (k:Nat)),some (.str (QU c k N 26)),v5'] s:=by
 obtain⟨σ',s',e,h1,v5',h2⟩:=zAR (g:=[]) (f:=ym (zq 5) zMh) (fun j σ s'=>s'=s/\∃ v5:Option D,σ=[some (.int c),some (.ref p),some (.ref q),some (.int (k:Nat)),some (.str (QU c k N j)),v5]) (jp 0 26) 0 [some (.int c),some (.ref p),some (.ref q),some (.int (k:Nat)),some (.str (plT c k)),v5] s ⟨rfl,v5,rfl⟩ fun j d hd σ s' ⟨es,v5,eσ⟩=>by
  subst es eσ
  have hd':d=.int (j:Int):=by
   unfold jp at hd
   rw[List.getElem?_map] at hd
   cases q2:(List.range ((26:Int) - 0).toNat)[j]? with
   | none=>rw[q2] at hd;cases hd
   | some m =>
    rw[q2] at hd
    have:=(List.getElem?_eq_some_iff.mp q2).2
    rw[List.getElem_range] at this
    subst this
    simp at hd
    exact hd.symm
  subst hd'
  rw[Nat.zero_add,zE3]
  have hl:=(zEr c k N j).2
  have i1:=zGF hp (QU c k N j)
  have i2:=zGF hq (QU c k N j)
  generalize QU c k N j=w at *
  refine⟨_,s',?_,rfl,rfl,some (.int (j:Int)),rfl⟩
  have z1:w.length <= SZ:=by unfold SZ;omega
  have z2:1+(w.drop 1).length <= SZ:=by rw[List.length_drop];unfold SZ;omega
  have c1:cut w (some 1) none=w.drop 1:=by rw[zI6 _ (by decide)];rfl
  unfold zFZ
  by_cases a1:y7.contains w=true
  ·simp[-inD,-List.contains_eq_mem,i1,a1,jL,z1,c1]
   simpa using z2
  ·by_cases a2:N.contains w=true
   ·simp[-inD,-List.contains_eq_mem,i1,i2,a1,a2,jL,z1,c1]
    simpa using z2
   ·simp[-inD,-List.contains_eq_mem,i1,i2,a1,a2]
 subst h1 h2
 refine⟨v5',fun r=>?_⟩
 have hg:∀ s,zj [] s=true:=fun _=>rfl
 have q1:(26:Int).natAbs < 4611686018427387904:=by decide
 show ((Zn _ _ _ _ _).then r)=_
 simp only[Zn,jl,eC,R.bind_ok,q1,if_true,R.stm_ok,hg,e,RS.then_nx]
 rfl
theorem zC3:jn 1 zDz y6:=jn.new fun ds S hl c ca=>by
 match ds,hl with
 | [a],_ =>
  cases a with
  | int c =>
   have z13:(13:Nat) <= SZ:=by decide
   have z3:(3:Nat) <= SZ:=by decide
   have z16:(16:Nat) <= SZ:=by decide
   have z0:(0:Nat) <= SZ:=by decide
   have e3:∀ r,(qg [some (.int c),none,none,none,none,none] S).then (zQ qj (zQ ql r))=r [some (.int c),some (.ref (S.length+2)),some (.ref (S.length+3)),none,none,none] (S++[.lst ((y7.take 13).map .str),.lst ((y7.drop 13).map .str),.lst (y7.map .str),.lst []]):=fun r=>by
    simp[qg,qj,ql,z13,z3,z16,z0,y7]
   generalize hA:O.lst ((y7.take 13).map .str)=A at *
   generalize hB:O.lst ((y7.drop 13).map .str)=B at *
   obtain⟨σ',s',e,h1,v3,v4,v5,h2⟩:=zAR (g:=[]) (f:=ym (zq 3) zIG) (fun k σ s'=>s'=S++[A,B,.lst (y7.map .str),.lst ((qp c k).map .str)]/\∃ v3 v4 v5:Option D,σ=[some (.int c),some (.ref (S.length+2)),some (.ref (S.length+3)),v3,v4,v5]) (jp 0 8) 0 [some (.int c),some (.ref (S.length+2)),some (.ref (S.length+3)),none,none,none] (S++[A,B,.lst (y7.map .str),.lst []]) ⟨rfl,_,_,_,rfl⟩ fun k d hd σ s' ⟨es,v3,v4,v5,eσ⟩=>by
    subst es eσ
    have hk8:k < 8:=by have:=(List.getElem?_eq_some_iff.mp hd).1;simpa [jp] using this
    have hd':d=.int (k:Int):=by
     have:∀ k:Nat,k < 8->(jp 0 8)[k]? = some (.int (k:Int)):=by decide
     rw[this k hk8] at hd
     cases hd;rfl
    subst hd'
    rw[Nat.zero_add]
    obtain⟨v5',ei⟩:=zOc (c:=c) (k:=k) (K:=y7) (N:=qp c k) (s:=S++[A,B,.lst (y7.map .str),.lst ((qp c k).map .str)]) (p:=S.length+2) (q:=S.length+3) (by simp) (by simp) v5
    refine⟨[some (.int c),some (.ref (S.length+2)),some (.ref (S.length+3)),some (.int (k:Int)),some (.str (QU c k (qp c k) 26)),v5'],S++[A,B,.lst (y7.map .str),.lst ((qp c (k+1)).map .str)],?_,rfl,rfl,_,_,_,rfl⟩
    show zQ nb1 (zQ nb2 nb3) [some (.int c),some (.ref (S.length+2)),some (.ref (S.length+3)),some (.int (k:Int)),v4,v5] _=_
    have b1:∀ (r:SM) (s:M.S),zQ nb1 r [some (.int c),some (.ref (S.length+2)),some (.ref (S.length+3)),some (.int (k:Int)),v4,v5] s=r [some (.int c),some (.ref (S.length+2)),some (.ref (S.length+3)),some (.int (k:Int)),some (.str (plT c k)),v5] s:=fun r s=>by
     simp[yC]
    rw[b1,ei]
    have zn:(qp c k).length < SZ:=by rw[zBY];unfold SZ;omega
    simp[zn,qp]
   refine .inr ⟨.lst ((qp c 8).map .str),S.length+3,[A,B,.lst (y7.map .str),.lst ((qp c 8).map .str)],rfl,?_,by simp,by omega,zHF _ _⟩
   show ((qg [some (.int c),none,none,none,none,none] S).then (zQ qj (zQ ql (zQ j9 yP)))).out=_
   rw[e3]
   subst h1 h2
   have e4:∀ r,(j9 [some (.int c),some (.ref (S.length+2)),some (.ref (S.length+3)),none,none,none] (S++[A,B,.lst (y7.map .str),.lst []])).then r=r [some (.int c),some (.ref (S.length+2)),some (.ref (S.length+3)),v3,v4,v5] (S++[A,B,.lst (y7.map .str),.lst ((qp c 8).map .str)]):=fun r=>by
    rw[zOt]
    have hg:∀ s,zj [] s=true:=fun _=>rfl
    have q1:(8:Int).natAbs < 4611686018427387904:=by decide
    simp only[Zn,jl,eC,R.bind_ok,q1,if_true,R.stm_ok,hg,e,RS.then_nx]
    rfl
   show ((j9 _ _).then _).out=_
   rw[e4]
   simp[yP]
  | _=>exact .inl rfl
noncomputable def Zt:SM :=
  (zo 2 (yZ zI))
noncomputable def Z0:SM :=
  (zo 3 (eC (.str [])))
noncomputable def Zz:SM :=
  (Zn (iE (zB 0)) (zq 4)
  (sIf (jA cEq (eOp zR (zB 4) (eC (.int 0))) (eC (.str [116,101,120,116])))
  (zo 3 (eOp zU (zB 3) (eOp zR (zB 4) (eC (.int 1)))))
  (sIf (jA ZI (eOp zR (zB 4) (eC (.int 1))) (zB 1))
  (j6 (qV (zD (qV (zD (eC (.str [97,115,107,115])) (zD (eOp zR (zB 4) (eC (.int 1))) zI))) (zD (zB 2) zI))))
  (zQ (zo 3 (eOp zU (zB 3) (eOp zR (zB 1) (eOp zR (zB 4) (eC (.int 1))))))
  (zo 2 (eOp zU (zB 2) (y4 1 (iE (yZ (zD (eOp zR (zB 4) (eC (.int 1))) zI))) (zq 5) (jA ZI (zB 5) (zB 2)) (zB 5))))))))
noncomputable def q0:SM :=
  (sIf (jA cGt (zT QH (zD (zB 3) zI)) (eC (.int 900)))
  (j6 (qV (zD (qV (zD (eC (.str [102,97,105,108,115])) (zD (eC (.str [116,111,111,32,108,111,110,103])) zI))) (zD (zB 2) zI))))
  ZB)
noncomputable def q8:SM :=
  (j6 (qV (zD (qV (zD (eC (.str [116,101,120,116])) (zD (zB 3) zI))) (zD (zB 2) zI))))
noncomputable def zBT:SM:=(zQ Zt (zQ Z0 (zQ Zz (zQ q0 q8))))
noncomputable def zHM:F:=fn 5 zBT
noncomputable abbrev JZ:F:=zHM
noncomputable def ZP (kvs:List (T×T)) (x:T):Option T:=kvs.lookup x
noncomputable def pd (p:T×T):D×D:=(.str p.1,.str p.2)
theorem zAw (x:T):∀ kvs:List (T×T),yx (.str x) (kvs.map pd)=(ZP kvs x).map .str
 | []=>rfl
 | (k,v)::kvs=>by
  have ih:=zAw x kvs
  unfold yx ZP at *
  rw[List.map_cons,List.lookup_cons,List.lookup_cons]
  show (match D.str x == D.str k with | true=>_ | false=>_)=_
  by_cases e:x=k
  ·subst e;simp[pd]
  ·have h1:(D.str x == D.str k)=false:=by simpa using e
   have h2:(x == k)=false:=by simpa using e
   rw[h1,h2]
   exact ih
theorem zHG {ans:List (T×T)}{x v:T} (h:ZP ans x=some v):(x,v)∈ans:=by
 obtain⟨l1,l2,e,_⟩:=List.lookup_eq_some_iff.mp h
 rw[e];simp
noncomputable abbrev zHT:T:=[116,101,120,116]
noncomputable abbrev zNM:T:=[116,104,105,110,103]
noncomputable abbrev zCi:T:=[97,115,107,115]
noncomputable abbrev zAs:T:=[102,97,105,108,115]
noncomputable abbrev zCq:T:=[116,111,111,32,108,111,110,103]
noncomputable abbrev qK:T:=[106,111,105,110]
noncomputable abbrev zHI:T:=[112,97,114,116]
noncomputable def zv (r:T×T):D:=.tup [.str r.1,.str r.2]
inductive Pt where
 | txt (t:T) | thing (n:T)
noncomputable def Pt.d:Pt->D
 | .txt t=>.tup [.str [116,101,120,116],.str t]
 | .thing n=>.tup [.str [116,104,105,110,103],.str n]
noncomputable def Pt.t:Pt->T
 | .txt t=>t
 | .thing n=>n
theorem zDg {S:M.S}{a:Nat}{ans:List (T×T)} (ha:S[a]? = some (.dct (ans.map pd))) (x:T):inD (.str x) (.ref a) S=.ok (ZP ans x).isSome S:=by
 simp only[inD,ha]
 rw[if_pos (show yt (.str x)=true from rfl),zAw,Option.isSome_map]
theorem zH3 {S:M.S}{a:Nat}{ans:List (T×T)} (ha:S[a]? = some (.dct (ans.map pd))) {x v:T} (h:ZP ans x=some v):zR (.ref a) (.str x) S=.ok (.str v) S:=by
 have hd:yx (.str x) (ans.map pd)=some (.str v):=by rw[zAw,h];rfl
 simp only[zR,ha,hd]
 rfl
theorem at0 (x:D) (r:List D):atI (x::r) 0=some x:=by simp[atI,ixN]
theorem at1 (x y:D) (r:List D):atI (x::y::r) 1=some y:=by
 unfold atI ixN
 rw[if_pos (by decide),if_pos (by simp only[List.length_cons];omega)]
 rfl
noncomputable def zAX (u:List T) (n:T):List T:=u++(if u.contains n=true then [] else [n])
noncomputable def yU (ans:List (T×T)):List Pt->T->List T->(T×T)×List T
 | [],t,u=>if 900 < t.length then ((zAs,zCq),u) else ((zHT,t),u)
 | .txt x::r,t,u=>yU ans r (t++x) u
 | .thing n::r,t,u=>match ZP ans n with
  | none=>((zCi,n),u)
  | some v=>yU ans r (t++v) (zAX u n)
theorem zC7 (u:List T) (n:T):(zAX u n).length <= u.length+1:=by
 unfold zAX
 split<;>simp
theorem zEj (ans:List (T×T)):∀ (ps:List Pt) (t:T) (u:List T),(yU ans ps t u).2.length <= u.length+ps.length
 | [],t,u=>by unfold yU;split<;>simp
 | .txt x::r,t,u=>by
  have:=zEj ans r (t++x) u
  unfold yU
  rw[List.length_cons];omega
 | .thing n::r,t,u=>by
  unfold yU
  rw[List.length_cons]
  split
  ·dsimp only;omega
  ·rename_i v _
   have:=zEj ans r (t++v) (zAX u n)
   have:=zC7 u n
   omega
noncomputable abbrev Q6:SM:=(sIf (jA cEq (eOp zR (zB 4) (eC (.int 0))) (eC (.str [116,101,120,116])))
  (zo 3 (eOp zU (zB 3) (eOp zR (zB 4) (eC (.int 1)))))
  (sIf (jA ZI (eOp zR (zB 4) (eC (.int 1))) (zB 1))
  (j6 (qV (zD (qV (zD (eC (.str [97,115,107,115])) (zD (eOp zR (zB 4) (eC (.int 1))) zI))) (zD (zB 2) zI))))
  (zQ (zo 3 (eOp zU (zB 3) (eOp zR (zB 1) (eOp zR (zB 4) (eC (.int 1))))))
  (zo 2 (eOp zU (zB 2) (y4 1 (iE (yZ (zD (eOp zR (zB 4) (eC (.int 1))) zI))) (zq 5) (jA ZI (zB 5) (zB 2)) (zB 5)))))))
theorem zMV:Zz=Zn (iE (zB 0)) (zq 4) Q6:=rfl
theorem zKc {W:M.S}{l:Nat}{u:List T} (hl:W[l]? = some (.lst (u.map .str))) (hu:u.length <= 1000) (n:T) (v0 v1 v3:Option D) :
  ∃ (l':Nat) (h:M.S),(zo 2 (eOp zU (zB 2) (y4 1 (iE (yZ (zD (eOp zR (zB 4) (eC (.int 1))) zI))) (zq 5) (jA ZI (zB 5) (zB 2)) (zB 5)))) [v0,v1,some (.ref l),v3,some (Pt.thing n).d] W=.nx [v0,v1,some (.ref l'),v3,some (Pt.thing n).d] (W++h)/\(W++h)[l']? = some (.lst ((zAX u n).map .str)):=by
 have z1:(1:Nat) <= SZ:=by decide
 have hl1:=jk hl [.lst [.str n]]
 have i1:=zGF hl1 n
 have hc:qY 1 (iE (yZ (zD (eOp zR (zB 4) (eC (.int 1))) zI))) (zq 5) (jA ZI (zB 5) (zB 2)) (zB 5) [v0,v1,some (.ref l),v3,some (Pt.thing n).d] W=.ok (([n].filter fun x=>!u.contains x).map .str) (W++[.lst [.str n]]):=by
  refine zHW (g:=[(W.length,.lst [.str n])]) (fun x=>!u.contains x) ?_ z1 ?_ fun x hx=>?_
  ·simp[Pt.d,at1,z1]
  ·simp[zj]
  ·rw[List.mem_singleton.mp hx]
   cases q:u.contains n<;>simp[-inD,-List.contains_eq_mem,i1,q]
 have ex:([n].filter fun x=>!u.contains x)=if u.contains n=true then [] else [n]:=by
  cases q:u.contains n<;>simp[-List.contains_eq_mem,q]
 rw[ex] at hc
 unfold zAX
 have xl:(if u.contains n=true then [] else [n]).length <= 1:=by split<;>simp
 generalize (if u.contains n=true then [] else [n])=x at *
 have hl2:(W++[.lst [.str n]]++[.lst (x.map .str)])[l]? = some (.lst (u.map .str)):=jk hl1 _
 have hl3:(W++[O.lst [.str n]]++[.lst (x.map .str)])[(W++[O.lst [.str n]]).length]? = some (.lst (x.map .str)):=List.getElem?_concat_length
 have zz:u.length+x.length <= SZ:=by unfold SZ;omega
 refine⟨(W++[O.lst [.str n]]++[O.lst (x.map .str)]).length,[O.lst [.str n]]++[.lst (x.map .str)]++[.lst ((u++x).map .str)],?_,?_⟩
 ·have ea:W++([.lst [.str n]]++[.lst (x.map .str)]++[.lst ((u++x).map .str)])=W++[O.lst [.str n]]++[.lst (x.map .str)]++[.lst ((u++x).map .str)]:=by simp
  rw[ea]
  simp only[zo,eOp,zB,List.getElem?_cons_zero,List.getElem?_cons_succ,R.bind_ok,y4,hc,alloc,zU,hl2,hl3,List.length_map,zz,if_true,<- List.map_append,R.stm_ok,List.set_cons_zero,List.set_cons_succ]
 ·have ea:W++([.lst [.str n]]++[.lst (x.map .str)]++[.lst ((u++x).map .str)])=W++[O.lst [.str n]]++[.lst (x.map .str)]++[.lst ((u++x).map .str)]:=by simp
  rw[ea,List.getElem?_concat_length]
section
variable {S:M.S}{p a:Nat}{ans:List (T×T)}{qs:List Pt}
theorem zDM (hp:S[p]? = some (.lst (qs.map Pt.d))) (ha:S[a]? = some (.dct (ans.map pd))) (hv:∀ q∈ans,q.2.length <= 900):∀ (ps:List Pt) (t:T) (u:List T) (l:Nat) (g:M.S) (v4:Option D),(∀ q∈ps,q.t.length <= 900)->(S++g)[l]? = some (.lst (u.map .str))->t.length+900 * ps.length <= 100000->u.length+ps.length <= 100 ->
  ∃ l' g',((yR [(p,.lst (qs.map Pt.d))] (ym (zq 4) Q6) (ps.map Pt.d) [some (.ref p),some (.ref a),some (.ref l),some (.str t),v4] (S++g)).then (zQ q0 q8)).out=.ok (.tup [zv (yU ans ps t u).1,.ref l']) (S++g')/\(S++g')[l']? = some (.lst ((yU ans ps t u).2.map .str))
 | [],t,u,l,g,v4,_,hl,ht,hu=>by
  have z2:(2:Nat) <= SZ:=by decide
  have zt:t.length <= SZ:=by unfold SZ;omega
  refine⟨l,g,?_,?_⟩
  ·show ((zQ q0 q8) [some (.ref p),some (.ref a),some (.ref l),some (.str t),v4] (S++g)).out=_
   unfold yU
   by_cases h:900 < t.length
   ·have h':(900:Int) < (t.length:Int):=by omega
    simp[q0,q8,zt,h,h',z2,zv,RS.out]
   ·have h':¬ (900:Int) < (t.length:Int):=by omega
    simp[q0,q8,zt,h,h',z2,zv,RS.out]
  ·unfold yU
   split<;>exact hl
 | .txt x::ps,t,u,l,g,v4,hq,hl,ht,hu=>by
  have hx:x.length <= 900:=hq _ List.mem_cons_self
  rw[List.length_cons] at ht hu
  obtain⟨l',g',e,k⟩:=zDM hp ha hv ps (t++x) u l g (some (Pt.txt x).d) (fun q h=>hq q (List.mem_cons_of_mem _ h)) hl (by rw[List.length_append];omega) (by omega)
  refine⟨l',g',?_,k⟩
  have zt:t.length+x.length <= SZ:=by unfold SZ;omega
  have hg:zj [(p,.lst (qs.map Pt.d))] (S++g)=true:=by simp[zj,jk hp g]
  have e1:ym (zq 4) Q6 (Pt.txt x).d [some (.ref p),some (.ref a),some (.ref l),some (.str t),v4] (S++g)=.nx [some (.ref p),some (.ref a),some (.ref l),some (.str (t++x)),some (Pt.txt x).d] (S++g):=by
   simp[Pt.d,at0,at1,zt]
  rw[List.map_cons,yR,e1]
  dsimp only
  rw[if_pos hg]
  exact e
 | .thing n::ps,t,u,l,g,v4,hq,hl,ht,hu=>by
  have z2:(2:Nat) <= SZ:=by decide
  rw[List.length_cons] at ht hu
  have ha':=jk ha g
  have i1:=zDg ha' n
  unfold yU
  cases q:ZP ans n with
  | none =>
   rw[q] at i1
   refine⟨l,g,?_,hl⟩
   have e1:ym (zq 4) Q6 (Pt.thing n).d [some (.ref p),some (.ref a),some (.ref l),some (.str t),v4] (S++g)=.rt (.tup [zv (zCi,n),.ref l]) (S++g):=by
    simp[Pt.d,at0,at1,-inD,i1,z2,zv]
   rw[List.map_cons,yR,e1]
   rfl
  | some v =>
   rw[q] at i1
   have hvl:v.length <= 900:=hv _ (zHG q)
   have zt:t.length+v.length <= SZ:=by unfold SZ;omega
   have x1:=zH3 ha' q
   obtain⟨l2,h,e2,k2⟩:=zKc hl (by omega) n (some (.ref p)) (some (.ref a)) (some (.str (t++v)))
   have al:=zC7 u n
   obtain⟨l',g',e,k⟩:=zDM hp ha hv ps (t++v) (zAX u n) l2 (g++h) (some (Pt.thing n).d) (fun q h=>hq q (List.mem_cons_of_mem _ h)) (by rw[<- List.append_assoc];exact k2) (by rw[List.length_append];omega) (by omega)
   refine⟨l',g',?_,k⟩
   have hg:zj [(p,.lst (qs.map Pt.d))] (S++(g++h))=true:=by simp[zj,jk hp (g++h)]
   have e1:ym (zq 4) Q6 (Pt.thing n).d [some (.ref p),some (.ref a),some (.ref l),some (.str t),v4] (S++g)=.nx [some (.ref p),some (.ref a),some (.ref l2),some (.str (t++v)),some (Pt.thing n).d] (S++(g++h)):=by
    rw[<- List.append_assoc,<- e2]
    have o0:∀ s,zR (Pt.thing n).d (.int 0) s=.ok (.str zNM) s:=fun s=>by simp[Pt.d,at0]
    have o1:∀ s,zR (Pt.thing n).d (.int 1) s=.ok (.str n) s:=fun s=>by simp[Pt.d,at1]
    have c1:(jA cEq (eOp zR (zB 4) (eC (.int 0))) (eC (.str [116,101,120,116]))) [some (.ref p),some (.ref a),some (.ref l),some (.str t),some (Pt.thing n).d] (S++g)=.ok false (S++g):=by
     simp only[jA,eOp,zB,eC,List.getElem?_cons_zero,List.getElem?_cons_succ,R.bind_ok,o0]
     simp
    have c2:(jA ZI (eOp zR (zB 4) (eC (.int 1))) (zB 1)) [some (.ref p),some (.ref a),some (.ref l),some (.str t),some (Pt.thing n).d] (S++g)=.ok false (S++g):=by
     simp only[jA,eOp,zB,eC,List.getElem?_cons_zero,List.getElem?_cons_succ,R.bind_ok,o1,ZI,i1]
     rfl
    have s1:(zo 3 (eOp zU (zB 3) (eOp zR (zB 1) (eOp zR (zB 4) (eC (.int 1)))))) [some (.ref p),some (.ref a),some (.ref l),some (.str t),some (Pt.thing n).d] (S++g)=.nx [some (.ref p),some (.ref a),some (.ref l),some (.str (t++v)),some (Pt.thing n).d] (S++g):=by
     simp only[zo,eOp,zB,eC,List.getElem?_cons_zero,List.getElem?_cons_succ,R.bind_ok,o1,x1,zU,zt,if_true,R.stm_ok,List.set_cons_zero,List.set_cons_succ]
    show Q6 [some (.ref p),some (.ref a),some (.ref l),some (.str t),some (Pt.thing n).d] (S++g)=_
    simp only[Q6,sIf,c1,c2,R.stm_ok,Bool.false_eq_true,if_false,zQ,s1,RS.then_nx]
   rw[List.map_cons,yR,e1]
   dsimp only
   rw[if_pos hg]
   exact e
theorem zNe (hp:S[p]? = some (.lst (qs.map Pt.d))) (ha:S[a]? = some (.dct (ans.map pd))) (hv:∀ q∈ans,q.2.length <= 900) (hq:∀ q∈qs,q.t.length <= 900) (hl:qs.length <= 50) :
  ∃ l g,JZ [.ref p,.ref a] S=.ok (.tup [zv (yU ans qs [] []).1,.ref l]) (S++g)/\(S++g)[l]? = some (.lst ((yU ans qs [] []).2.map .str)):=by
 obtain⟨l',g',e,k⟩:=zDM hp ha hv qs [] [] S.length [.lst []] none hq (by simp) (by simp;omega) (by simp;omega)
 refine⟨l',g',?_,k⟩
 rw[<- e]
 have z0:(0:Nat) <= SZ:=by decide
 have hg:zj [(p,.lst (qs.map Pt.d))] (S++[.lst []])=true:=by simp[zj,jk hp [O.lst []]]
 have hp':=jk hp [O.lst []]
 show (zQ Zt (zQ Z0 (zQ Zz (zQ q0 q8))) [some (.ref p),some (.ref a),none,none,none] S).out=_
 rw[zMV]
 simp only[zQ,Zt,Z0,zo,yZ,zI,R.bind_ok,List.length_nil,z0,if_true,alloc,R.stm_ok,RS.then_nx,eC,List.set_cons_zero,List.set_cons_succ,Zn,iE,zB,List.getElem?_cons_zero,itD,hp',hg]
end
noncomputable def yQ:SM :=
  (Qy 4 0 (zB 0) (zB 2))
noncomputable def yY:SM :=
  (Qy 4 1 (zB 0) (zB 3))
noncomputable def yT:SM :=
  (Qy 4 2 (zB 0) zDe)
noncomputable def yV:SM :=
  (Qy 4 3 (zB 0) (eC (.int 0)))
noncomputable def yS:SM :=
  (Qy 4 4 (zB 0) (yZ zI))
noncomputable def yW:SM :=
  (Qy 4 5 (zB 0) (yZ (zD (qV (zD (eC (.str [112,97,114,116])) (zD (zB 1) (zD (eC .non) zI)))) zI)))
noncomputable def ya:SM :=
  (Qy 4 6 (zB 0) (eC .non))
noncomputable def y8:SM:=(zQ yQ (zQ yY (zQ yT (zQ yV (zQ yS (zQ yW ya))))))
noncomputable def JS:F:=fn 4 y8
noncomputable abbrev qw:F:=JS
noncomputable def Wk (S:M.S) (st:D) (a:Nat) (us:List (D×D)) (k:Int) (tx td:List D) (en:D) (g:M.S):M.S :=
 S++(.ins 4 [some st,some (.ref a),some (.ref (S.length+1)),some (.int k),some (.ref (S.length+2)),some (.ref (S.length+3)),some en]::.dct us::.lst tx::.lst td::g)
section
variable {S:M.S}{st:D}{a:Nat}{us us':List (D×D)}{k k':Int}{tx tx' td td':List D}{en en':D}{g:M.S}
theorem wk0:(Wk S st a us k tx td en g)[S.length]? = some (.ins 4 [some st,some (.ref a),some (.ref (S.length+1)),some (.int k),some (.ref (S.length+2)),some (.ref (S.length+3)),some en]):=by simp[Wk]
theorem wk1:(Wk S st a us k tx td en g)[S.length+1]? = some (.dct us):=by simp[Wk]
theorem wk2:(Wk S st a us k tx td en g)[S.length+2]? = some (.lst tx):=by simp[Wk]
theorem wk3:(Wk S st a us k tx td en g)[S.length+3]? = some (.lst td):=by simp[Wk]
theorem wkO {p:Nat}{o:O} (h:S[p]? = some o):(Wk S st a us k tx td en g)[p]? = some o:=jk h _
theorem ws0:(Wk S st a us k tx td en g).set S.length (.ins 4 [some st,some (.ref a),some (.ref (S.length+1)),some (.int k'),some (.ref (S.length+2)),some (.ref (S.length+3)),some en'])=Wk S st a us k' tx td en' g:=by
 unfold Wk;rw[List.set_append_right _ _ (Nat.le_refl _),Nat.sub_self];rfl
theorem ws1:(Wk S st a us k tx td en g).set (S.length+1) (.dct us')=Wk S st a us' k tx td en g:=by
 unfold Wk;rw[List.set_append_right _ _ (by omega),show S.length+1 - S.length=1 by omega];rfl
theorem ws2:(Wk S st a us k tx td en g).set (S.length+2) (.lst tx')=Wk S st a us k tx' td en g:=by
 unfold Wk;rw[List.set_append_right _ _ (by omega),show S.length+2 - S.length=2 by omega];rfl
theorem ws3:(Wk S st a us k tx td en g).set (S.length+3) (.lst td')=Wk S st a us k tx td' en g:=by
 unfold Wk;rw[List.set_append_right _ _ (by omega),show S.length+3 - S.length=3 by omega];rfl
theorem zIf (h:M.S):Wk S st a us k tx td en g++h=Wk S st a us k tx td en (g++h):=by simp[Wk]
end
theorem zLx (S:M.S) (tree:D) (st:D) (a:Nat):qw [.ref S.length,tree,st,.ref a] (S++[.ins 4 (List.replicate 7 none)])=.ok .non (Wk S st a [] 0 [] [.tup [.str [112,97,114,116],tree,.non]] .non []):=by
 have z3:(3:Nat) <= SZ:=by decide
 have z1:(1:Nat) <= SZ:=by decide
 have z0:(0:Nat) <= SZ:=by decide
 simp[JS,y8,yQ,yY,yT,yV,yS,yW,ya,z3,z1,z0,Wk,RS.out]
noncomputable def QC:SM :=
  (Qy 4 6 (zB 0) (qV (zD (eC (.str [102,97,105,108,115])) (zD (zB 1) zI))))
noncomputable def Qz:F:=fn 2 QC
noncomputable abbrev ZM:F:=Qz
section
variable {S:M.S}{st:D}{a:Nat}{us:List (D×D)}{k:Int}{tx td:List D}{en:D}{g:M.S}
theorem zLT (w:T):ZM [.ref S.length,.str w] (Wk S st a us k tx td en g)=.ok .non (Wk S st a us k tx td (zv (zAs,w)) g):=by
 have z2:(2:Nat) <= SZ:=by decide
 simp[Qz,QC,wk0,z2,ws0,zv,RS.out]
end
noncomputable def yL:SM :=
  (sIf (jA cGt (zT QH (zD (zB 1) zI)) (eC (.int 900)))
  (jx (qU 4 ZM (zB 0) (zD (eC (.str [116,111,111,32,108,111,110,103])) zI)))
  (jx (eM .list ZK (qG 4 4 (zB 0)) (zD (zB 1) zI))))
noncomputable def yK:F:=fn 2 yL
noncomputable abbrev jq:F:=yK
section
variable {S:M.S}{st:D}{a:Nat}{us:List (D×D)}{k:Int}{tx td:List D}{en:D}{g:M.S}
theorem zEU (t:T) (ht:t.length <= 900) (hx:tx.length <= 100):jq [.ref S.length,.str t] (Wk S st a us k tx td en g)=.ok .non (Wk S st a us k (tx++[.str t]) td en g):=by
 have z1:t.length <= SZ:=by unfold SZ;omega
 have z2:tx.length < SZ:=by unfold SZ;omega
 have h:¬ (900:Int) < (t.length:Int):=by omega
 simp[yK,yL,z1,h,ht,wk0,wk2,z2,ws2,RS.out]
theorem zIj (t:T) (ht:900 < t.length) (hz:t.length <= 100000):jq [.ref S.length,.str t] (Wk S st a us k tx td en g)=.ok .non (Wk S st a us k tx td (zv (zAs,zCq)) g):=by
 have z1:t.length <= SZ:=by unfold SZ;omega
 have h:(900:Int) < (t.length:Int):=by omega
 have hf:=zLT (S:=S) (st:=st) (a:=a) (us:=us) (k:=k) (tx:=tx) (td:=td) (en:=en) (g:=g) zCq
 simp[yK,yL,z1,h,wk0,-Qz,hf,RS.out]
end
noncomputable def yD:SM :=
  (sIf (jA cEq (eOp zR (zB 1) (eC (.int 0))) (eC (.str [116,101,120,116])))
  (j6 (eOp zR (zB 1) (eC (.int 1))))
  ZB)
noncomputable def ZH:SM :=
  (sIf (jA cEq (eOp zR (zB 1) (eC (.int 0))) (eC (.str [108,105,110,101])))
  (j6 (eC (.str [10])))
  ZB)
noncomputable def ZO:SM :=
  (sIf (jA cEq (eOp zR (zB 1) (eC (.int 0))) (eC (.str [105,116])))
  (j6 (zB 2))
  ZB)
noncomputable def ZQ:SM :=
  (j6 (qG 4 0 (zB 0)))
noncomputable def yv:SM:=(zQ yD (zQ ZH (zQ ZO ZQ)))
noncomputable def Zm:F:=fn 3 yv
noncomputable abbrev yo:F:=Zm
section
variable {S:M.S}{st:D}{a:Nat}{us:List (D×D)}{k:Int}{tx td:List D}{en:D}{g:M.S}
theorem zLS (t:T):yo [.ref S.length,(Pt.txt t).d,.non] (Wk S st a us k tx td en g)=.ok (.str t) (Wk S st a us k tx td en g):=by
 simp[Zm,yv,yD,Pt.d,at0,at1,RS.out]
end
noncomputable def j3:SM :=
  (sIf (jA cIn (zB 1) (qG 4 1 (zB 0)))
  (zQ (zC5 (qG 4 2 (zB 0)) (zB 1) (eC (.bl true)))
  (jx (qU 4 jq (zB 0) (zD (eOp zR (qG 4 1 (zB 0)) (zB 1)) zI))))
  (Qy 4 6 (zB 0) (qV (zD (eC (.str [97,115,107,115])) (zD (zB 1) zI)))))
noncomputable def j2:F:=fn 2 j3
noncomputable abbrev ji:F:=j2
section
variable {S:M.S}{st:D}{a:Nat}{us:List (D×D)}{k:Int}{tx td:List D}{en:D}{g:M.S}{ans:List (T×T)}
theorem zJp (ha:S[a]? = some (.dct (ans.map pd))) {x v:T} (h:ZP ans x=some v) (hv:v.length <= 900) (hx:tx.length <= 100) (hu:us.length <= 100):ji [.ref S.length,.str x] (Wk S st a us k tx td en g)=.ok .non (Wk S st a (Zp (.str x) (.bl true) us) k (tx++[.str v]) td en g):=by
 have hi:=zDg (wkO (st:=st) (a:=a) (us:=us) (k:=k) (tx:=tx) (td:=td) (en:=en) (g:=g) ha) x
 rw[h] at hi
 have hg:=fun us=>zH3 (wkO (st:=st) (a:=a) (us:=us) (k:=k) (tx:=tx) (td:=td) (en:=en) (g:=g) ha) h
 have z:us.length < SZ:=by unfold SZ;omega
 have hc:=zEU (S:=S) (st:=st) (a:=a) (us:=Zp (.str x) (.bl true) us) (k:=k) (tx:=tx) (td:=td) (en:=en) (g:=g) v hv hx
 simp[j2,j3,wk0,wk1,-inD,hi,-zR,hg,yt,z,ws1,-yK,hc,RS.out]
theorem zJy (ha:S[a]? = some (.dct (ans.map pd))) {x:T} (h:ZP ans x=none):ji [.ref S.length,.str x] (Wk S st a us k tx td en g)=.ok .non (Wk S st a us k tx td (zv (zCi,x)) g):=by
 have hi:=zDg (wkO (st:=st) (a:=a) (us:=us) (k:=k) (tx:=tx) (td:=td) (en:=en) (g:=g) ha) x
 rw[h] at hi
 have z2:(2:Nat) <= SZ:=by decide
 simp[j2,j3,wk0,-inD,hi,z2,ws0,zv,RS.out]
end
noncomputable def Zo:SM :=
  (Zn (zGU (zB 1)) (zq 3)
  (jx (eM .list ZK (qG 4 5 (zB 0)) (zD (qV (zD (eC (.str [112,97,114,116])) (zD (zB 3) (zD (zB 2) zI)))) zI))))
noncomputable def Qt:F:=fn 4 Zo
noncomputable abbrev jr:F:=Qt
section
variable {S:M.S}{st:D}{a:Nat}{us:List (D×D)}{k:Int}{tx td:List D}{en:D}{g:M.S}
noncomputable def ptD (p:D):D:=.tup [.str [112,97,114,116],p,.non]
noncomputable abbrev zEX:SM:=(jx (eM .list ZK (qG 4 5 (zB 0)) (zD (qV (zD (eC (.str [112,97,114,116])) (zD (zB 3) (zD (zB 2) zI)))) zI)))
theorem zGB (w1:Option D):∀ (ps:List D) (td:List D) (v:Option D),td.length+ps.length <= 100->∃ v',yR [] (ym (zq 3) zEX) ps [some (.ref S.length),w1,some .non,v] (Wk S st a us k tx td en g)=.nx [some (.ref S.length),w1,some .non,v'] (Wk S st a us k tx (td++ps.map ptD) en g)
 | [],td,v,_=>⟨v,by simp[yR]⟩
 | p::ps,td,v,h=>by
  rw[List.length_cons] at h
  have z:td.length < SZ:=by unfold SZ;omega
  have z3:(3:Nat) <= SZ:=by decide
  have hg:∀ s,zj [] s=true:=fun _=>rfl
  obtain⟨v',e⟩:=zGB w1 ps (td++[ptD p]) (some p) (by simp;omega)
  refine⟨v',?_⟩
  have e1:ym (zq 3) zEX p [some (.ref S.length),w1,some .non,v] (Wk S st a us k tx td en g)=.nx [some (.ref S.length),w1,some .non,some p] (Wk S st a us k tx (td++[ptD p]) en g):=by
   simp[wk0,wk3,z,z3,ws3,ptD]
  rw[yR,e1]
  dsimp only
  rw[if_pos (hg _),e]
  simp
theorem zNB (ps:List D) (h:td.length+ps.length <= 100):jr [.ref S.length,.tup ps,.non] (Wk S st a us k tx td en g)=.ok .non (Wk S st a us k tx (td++ps.reverse.map ptD) en g):=by
 have hg:∀ s,zj [] s=true:=fun _=>rfl
 obtain⟨v',e⟩:=zGB (S:=S) (st:=st) (a:=a) (us:=us) (k:=k) (tx:=tx) (en:=en) (g:=g) (some (.tup ps)) ps.reverse td none (by rw[List.length_reverse];exact h)
 show (Zn (zGU (zB 1)) (zq 3) zEX [some (.ref S.length),some (.tup ps),some .non,none] (Wk S st a us k tx td en g)).out=_
 simp only[Zn,zGU,zB,List.getElem?_cons_zero,List.getElem?_cons_succ,R.bind_ok,R.stm_ok,hg,if_true,e]
 rfl
end
noncomputable def yA:SM :=
  (zQ (zo 3 (eOp zR (zB 1) (eC (.int 0))))
  (sIf (jA cEq (zB 3) (eC (.str [106,111,105,110])))
  (zQ (jx (eM .list ZK (qG 4 5 (zB 0)) (zD (qV (zD (eC (.str [106,111,105,110])) (zD (eOp zKy (zT QH (zD (zB 1) zI)) (eC (.int 1))) zI))) zI)))
  (jx (qU 4 jr (zB 0) (zD (eSl (zB 1) (yB (eC (.int 1))) QR) (zD (zB 2) zI)))))
  (sIf (jA cEq (zB 3) (eC (.str [105,102])))
  (zQ (jx (eM .list ZK (qG 4 5 (zB 0)) (zD (qV (zD (eC (.str [105,102])) (zD (zB 1) (zD (zB 2) zI)))) zI)))
  (jx (qU 4 jr (zB 0) (zD (eSl (zB 1) (yB (eC (.int 1))) (yB (eC (.int 3)))) (zD (zB 2) zI)))))
  (sIf (jA cEq (zB 3) (eC (.str [101,97,99,104])))
  (zQ (jx (eM .list ZK (qG 4 5 (zB 0)) (zD (qV (zD (eC (.str [101,97,99,104])) (zD (eOp zR (zB 1) (eC (.int 2))) zI))) zI)))
  (jx (qU 4 jr (zB 0) (zD (eSl (zB 1) (yB (eC (.int 1))) (yB (eC (.int 2)))) (zD (zB 2) zI)))))
  (zQ (jx (eM .list ZK (qG 4 5 (zB 0)) (zD (qV (zD (zB 3) zI)) zI)))
  (jx (qU 4 jr (zB 0) (zD (eSl (zB 1) (yB (eC (.int 1))) QR) (zD (zB 2) zI)))))))))
noncomputable def ZJ:F:=fn 4 yA
noncomputable abbrev yE:F:=ZJ
section
variable {S:M.S}{st:D}{a:Nat}{us:List (D×D)}{k:Int}{tx td:List D}{en:D}{g:M.S}
theorem zKR (ps:List D) (h:td.length+ps.length <= 50) (hp:1 <= ps.length):yE [.ref S.length,.tup (.str qK::ps),.non] (Wk S st a us k tx td en g)=.ok .non (Wk S st a us k tx (td++[.tup [.str qK,.int (ps.length:Int)]]++ps.reverse.map ptD) en g):=by
 have z:td.length < SZ:=by unfold SZ;omega
 have z2:(2:Nat) <= SZ:=by decide
 have hput:=zNB (S:=S) (st:=st) (a:=a) (us:=us) (k:=k) (tx:=tx) (td:=td++[.tup [.str qK,.int (ps.length:Int)]]) (en:=en) (g:=g) ps (by simp;omega)
 have c1:cut (D.str qK::ps) (some 1) none=ps:=by rw[zI6 _ (by decide)];rfl
 have c2:¬ (sIx (ps.length+1) 0 (some 1)=0):=by unfold sIx;simp;omega
 have e1:((ps.length:Int)+1) - 1=(ps.length:Int):=by omega
 simp[ZJ,yA,at0,wk0,wk3,z,z2,ws3,c1,c2,e1,-Qt,hput,RS.out]
end
noncomputable def jb:SM :=
  (zQ (Zk zBG 4 3 (zB 0) (eC (.int 1)))
  (sIf (jA cGt (qG 4 3 (zB 0)) (eC (.int 500)))
  (jx (qU 4 ZM (zB 0) (zD (eC (.str [116,111,111,32,109,117,99,104])) zI)))
  (sIf (jA cIn (eOp zR (zB 1) (eC (.int 0))) (qV (zD (eC (.str [116,101,120,116])) (zD (eC (.str [108,105,110,101])) (zD (eC (.str [105,116])) (zD (eC (.str [115,116,101,109])) zI))))))
  (jx (qU 4 jq (zB 0) (zD (qU 4 yo (zB 0) (zD (zB 1) (zD (zB 2) zI))) zI)))
  (sIf (jA cEq (eOp zR (zB 1) (eC (.int 0))) (eC (.str [116,104,105,110,103])))
  (jx (qU 4 ji (zB 0) (zD (eOp zR (zB 1) (eC (.int 1))) zI)))
  (sIf (jA cEq (eOp zR (zB 1) (eC (.int 0))) (eC (.str [107,105,110])))
  (jx (qU 4 ji (zB 0) (zD (eOp zU (eOp zU (eOp zR (zB 1) (eC (.int 1))) (eC (.str [46]))) (qG 4 0 (zB 0))) zI)))
  (jx (qU 4 yE (zB 0) (zD (zB 1) (zD (zB 2) zI)))))))))
noncomputable def zDU:F:=fn 3 jb
noncomputable abbrev ju:F:=zDU
section
variable {S:M.S}{st:D}{a:Nat}{us:List (D×D)}{k:Int}{tx td:List D}{en:D}{g:M.S}{ans:List (T×T)}
theorem JI (b:D) (r:SM):(Zk zBG 4 3 (zB 0) (eC (.int 1)) [some (.ref S.length),some b,some .non] (Wk S st a us k tx td .non g)).then r=r [some (.ref S.length),some b,some .non] (Wk S st a us (k+1) tx td .non g):=by
 simp[wk0,ws0]
theorem zIN (t:T) (ht:t.length <= 900) (hx:tx.length <= 100) (hk:k <= 400):ju [.ref S.length,(Pt.txt t).d,.non] (Wk S st a us k tx td .non g)=.ok .non (Wk S st a us (k+1) (tx++[.str t]) td .non g):=by
 have z4:(4:Nat) <= SZ:=by decide
 have h5:¬ 500 < k+1:=by omega
 have h1:=zLS (S:=S) (st:=st) (a:=a) (us:=us) (k:=k+1) (tx:=tx) (td:=td) (en:=.non) (g:=g) t
 have h2:=zEU (S:=S) (st:=st) (a:=a) (us:=us) (k:=k+1) (tx:=tx) (td:=td) (en:=.non) (g:=g) t ht hx
 show (jb [some (.ref S.length),some (Pt.txt t).d,some .non] (Wk S st a us k tx td .non g)).out=_
 unfold jb
 show (((Zk zBG 4 3 (zB 0) (eC (.int 1)) [some (.ref S.length),some (Pt.txt t).d,some .non] (Wk S st a us k tx td .non g)).then _).out)=_
 rw[JI]
 simp only[Pt.d] at h1 ⊢
 simp[wk0,h5,at0,flat,Qm,eqF,z4,-Zm,-yK,h1,h2,RS.out]
theorem zHs (ha:S[a]? = some (.dct (ans.map pd))) {n:T} (q:ZP ans n=none) (hk:k <= 400):ju [.ref S.length,(Pt.thing n).d,.non] (Wk S st a us k tx td .non g)=.ok .non (Wk S st a us (k+1) tx td (zv (zCi,n)) g):=by
 have z4:(4:Nat) <= SZ:=by decide
 have h5:¬ 500 < k+1:=by omega
 have h1:=zJy (S:=S) (st:=st) (a:=a) (us:=us) (k:=k+1) (tx:=tx) (td:=td) (en:=.non) (g:=g) ha q
 show (jb [some (.ref S.length),some (Pt.thing n).d,some .non] (Wk S st a us k tx td .non g)).out=_
 unfold jb
 show (((Zk zBG 4 3 (zB 0) (eC (.int 1)) [some (.ref S.length),some (Pt.thing n).d,some .non] (Wk S st a us k tx td .non g)).then _).out)=_
 rw[JI]
 simp only[Pt.d]
 simp[wk0,h5,at0,at1,flat,Qm,eqF,z4,-j2,h1,RS.out]
theorem zHd (ha:S[a]? = some (.dct (ans.map pd))) {n v:T} (q:ZP ans n=some v) (hv:v.length <= 900) (hx:tx.length <= 100) (hu:us.length <= 100) (hk:k <= 400):ju [.ref S.length,(Pt.thing n).d,.non] (Wk S st a us k tx td .non g)=.ok .non (Wk S st a (Zp (.str n) (.bl true) us) (k+1) (tx++[.str v]) td .non g):=by
 have z4:(4:Nat) <= SZ:=by decide
 have h5:¬ 500 < k+1:=by omega
 have h1:=zJp (S:=S) (st:=st) (a:=a) (us:=us) (k:=k+1) (tx:=tx) (td:=td) (en:=.non) (g:=g) ha q hv hx hu
 show (jb [some (.ref S.length),some (Pt.thing n).d,some .non] (Wk S st a us k tx td .non g)).out=_
 unfold jb
 show (((Zk zBG 4 3 (zB 0) (eC (.int 1)) [some (.ref S.length),some (Pt.thing n).d,some .non] (Wk S st a us k tx td .non g)).then _).out)=_
 rw[JI]
 simp only[Pt.d]
 simp[wk0,h5,at0,at1,flat,Qm,eqF,z4,-j2,h1,RS.out]
theorem zHt (ps:List D) (h:td.length+ps.length <= 50) (hp:1 <= ps.length) (hk:k <= 400):ju [.ref S.length,.tup (.str qK::ps),.non] (Wk S st a us k tx td .non g)=.ok .non (Wk S st a us (k+1) tx (td++[.tup [.str qK,.int (ps.length:Int)]]++ps.reverse.map ptD) .non g):=by
 have z4:(4:Nat) <= SZ:=by decide
 have h5:¬ 500 < k+1:=by omega
 have hi:=zKR (S:=S) (st:=st) (a:=a) (us:=us) (k:=k+1) (tx:=tx) (td:=td) (en:=.non) (g:=g) ps h hp
 show (jb [some (.ref S.length),some (.tup (.str qK::ps)),some .non] (Wk S st a us k tx td .non g)).out=_
 unfold jb
 show (((Zk zBG 4 3 (zB 0) (eC (.int 1)) [some (.ref S.length),some (.tup (.str qK::ps)),some .non] (Wk S st a us k tx td .non g)).then _).out)=_
 rw[JI]
 simp[wk0,h5,at0,flat,Qm,eqF,z4,-ZJ,hi,RS.out]
end
noncomputable def qy:SM :=
  (zQ (zo 2 (y4 1 (jl (zB 1)) (zq 3) yX (eM .list zCN (qG 4 4 (zB 0)) zI)))
  (jx (qU 4 jq (zB 0) (zD (eUn (zA8 []) (zB 2)) zI))))
noncomputable def zCE:F:=fn 3 qy
noncomputable abbrev jm:F:=zCE
section
variable {S:M.S}{st:D}{a:Nat}{us:List (D×D)}{k:Int}{td:List D}{g:M.S}
theorem zMO (w1 w2:Option D):∀ (ys ds:List D),ds.length=ys.length->yq [] (qm 1 (zq 3) yX (eM .list zCN (qG 4 4 (zB 0)) zI) [some (.ref S.length),w1,w2]) ds (Wk S st a us k ys.reverse td .non g)=.ok ys (Wk S st a us k [] td .non g)
 | [],[],_=>rfl
 | [],_::_,h=>by cases h
 | _::_,[],h=>by cases h
 | y::ys,d::ds,h=>by
  have ih:=zMO w1 w2 ys ds (by simpa using h)
  have hg:∀ s,zj [] s=true:=fun _=>rfl
  have e1:qm 1 (zq 3) yX (eM .list zCN (qG 4 4 (zB 0)) zI) [some (.ref S.length),w1,w2] d (Wk S st a us k (ys.reverse++[y]) td .non g)=.ok (some y) (Wk S st a us k ys.reverse td .non g):=by
   simp[wk0,wk2,ws2]
  rw[List.reverse_cons,yq,e1,R.bind_ok,if_pos (hg _),ih]
  rfl
theorem zKT (xs:List T) (hl:(xs.map List.length).sum <= 100000) (s:M.S) {p:Nat} (hp:s[p]? = some (.lst (xs.map D.str).reverse)):zA8 [] (.ref p) s=.ok (.str xs.flatten) s:=by
 have e:jN s p=some (xs.map D.str).reverse:=by simp[jN,hp]
 have z:(xs.map List.length).sum+xs.length * 0 <= SZ:=by unfold SZ;omega
 simp only[zA8,e,List.reverse_reverse]
 unfold yu
 rw[zIY]
 dsimp only
 rw[List.length_nil,if_pos z,zBo]
theorem zHB (xs:List T) (hn:xs.length <= 50) (hl:(xs.map List.length).sum <= 100000) (r:R D):(jq [.ref S.length,.str xs.flatten] (Wk S st a us k [] td .non (g++[.lst (xs.map D.str).reverse]))=r)->(∀ d s,r=.ok d s->d=.non)->(∃ d s,r=.ok d s)->jm [.ref S.length,.int (xs.length:Int)] (Wk S st a us k (xs.map .str) td .non g)=r:=by
 intro h hd ⟨d,s,hr⟩
 have hd':=hd d s hr
 subst hr
 subst hd'
 have q1:(xs.length:Int).natAbs < 4611686018427387904:=by omega
 have hp:=zMO (S:=S) (st:=st) (a:=a) (us:=us) (k:=k) (td:=td) (g:=g) (some (.int (xs.length:Int))) none (xs.map D.str).reverse (jp 0 (xs.length:Int)) (by simp[jp])
 rw[List.reverse_reverse] at hp
 have z:(jp 0 (xs.length:Int)).length <= SZ:=by simp only[jp,List.length_map,List.length_range];unfold SZ;omega
 have hc:qY 1 (jl (zB 1)) (zq 3) yX (eM .list zCN (qG 4 4 (zB 0)) zI) [some (.ref S.length),some (.int (xs.length:Int)),none] (Wk S st a us k (xs.map .str) td .non g)=.ok (xs.map D.str).reverse (Wk S st a us k [] td .non g):=by
  unfold qY
  simp only[jl,zB,List.getElem?_cons_zero,List.getElem?_cons_succ,R.bind_ok,q1,if_true]
  rw[if_pos ⟨z,rfl⟩]
  exact hp
 have hj:=zKT xs hl (Wk S st a us k [] td .non (g++[.lst (xs.map D.str).reverse])) (p:=(Wk S st a us k [] td .non g).length) (by rw[<- zIf,List.getElem?_concat_length])
 show (qy [some (.ref S.length),some (.int (xs.length:Int)),none] (Wk S st a us k (xs.map .str) td .non g)).out=_
 unfold qy
 simp only[zQ,zo,y4,hc,R.bind_ok,alloc,R.stm_ok,List.set_cons_zero,List.set_cons_succ,RS.then_nx,zIf,jx,qU,zB,List.getElem?_cons_zero,List.getElem?_cons_succ,wk0,if_true,zD,zI,eUn,hj,h]
 rfl
theorem zKa (xs:List T) (hn:xs.length <= 50) (hl:xs.flatten.length <= 900):jm [.ref S.length,.int (xs.length:Int)] (Wk S st a us k (xs.map .str) td .non g)=.ok .non (Wk S st a us k [.str xs.flatten] td .non (g++[.lst (xs.map D.str).reverse])):=by
 have hs:(xs.map List.length).sum <= 100000:=by rw[<- List.length_flatten];omega
 have h2:=zEU (S:=S) (st:=st) (a:=a) (us:=us) (k:=k) (tx:=[]) (td:=td) (en:=.non) (g:=g++[.lst (xs.map D.str).reverse]) xs.flatten hl (by simp)
 exact zHB xs hn hs _ h2 (fun d s e=>by cases e;rfl) ⟨_,_,rfl⟩
theorem zI0 (xs:List T) (hn:xs.length <= 50) (h9:900 < xs.flatten.length) (hl:xs.flatten.length <= 100000):jm [.ref S.length,.int (xs.length:Int)] (Wk S st a us k (xs.map .str) td .non g)=.ok .non (Wk S st a us k [] td (zv (zAs,zCq)) (g++[.lst (xs.map D.str).reverse])):=by
 have hs:(xs.map List.length).sum <= 100000:=by rw[<- List.length_flatten];omega
 have h2:=zIj (S:=S) (st:=st) (a:=a) (us:=us) (k:=k) (tx:=[]) (td:=td) (en:=.non) (g:=g++[.lst (xs.map D.str).reverse]) xs.flatten h9 hl
 exact zHB xs hn hs _ h2 (fun d s e=>by cases e;rfl) ⟨_,_,rfl⟩
end
noncomputable def Zg:SM :=
  (zQ (zDc (zAg (zB6 (qG 4 6 (zB 0))) (jA cGt (zT QH (zD (qG 4 5 (zB 0)) zI)) (eC (.int 0))))
  (zQ (zo 1 (eM .list zCN (qG 4 5 (zB 0)) zI))
  (sIf (jA cEq (eOp zR (zB 1) (eC (.int 0))) (eC (.str [112,97,114,116])))
  (jx (qU 4 ju (zB 0) (zD (eOp zR (zB 1) (eC (.int 1))) (zD (eOp zR (zB 1) (eC (.int 2))) zI))))
  (sIf (jA cEq (eOp zR (zB 1) (eC (.int 0))) (eC (.str [106,111,105,110])))
  (jx (qU 4 jm (zB 0) (zD (eOp zR (zB 1) (eC (.int 1))) zI)))
  (sIf (jA cEq (eOp zR (zB 1) (eC (.int 0))) (eC (.str [105,102])))
  QO
  (sIf (jA cEq (eOp zR (zB 1) (eC (.int 0))) (eC (.str [101,97,99,104])))
  QO
  (sIf (jA cEq (eOp zR (zB 1) (eC (.int 0))) (eC (.str [114,111,117,110,100])))
  QO
  QO)))))))
  (zQ (sIf (zB6 (qG 4 6 (zB 0)))
  (j6 (qV (zD (eC (.str [116,101,120,116])) (zD (eOp zR (qG 4 4 (zB 0)) (eC (.int 0))) zI))))
  ZB)
  (j6 (qG 4 6 (zB 0)))))
noncomputable def zFU:F:=fn 2 Zg
noncomputable abbrev y0:F:=zFU
noncomputable abbrev yF:TM:=zAg (zB6 (qG 4 6 (zB 0))) (jA cGt (zT QH (zD (qG 4 5 (zB 0)) zI)) (eC (.int 0)))
noncomputable abbrev zFj:SM:=zo 1 (eM .list zCN (qG 4 5 (zB 0)) zI)
noncomputable abbrev zD4:SM :=
  (sIf (jA cEq (eOp zR (zB 1) (eC (.int 0))) (eC (.str [112,97,114,116])))
  (jx (qU 4 ju (zB 0) (zD (eOp zR (zB 1) (eC (.int 1))) (zD (eOp zR (zB 1) (eC (.int 2))) zI))))
  (sIf (jA cEq (eOp zR (zB 1) (eC (.int 0))) (eC (.str [106,111,105,110])))
  (jx (qU 4 jm (zB 0) (zD (eOp zR (zB 1) (eC (.int 1))) zI)))
  (sIf (jA cEq (eOp zR (zB 1) (eC (.int 0))) (eC (.str [105,102])))
  QO
  (sIf (jA cEq (eOp zR (zB 1) (eC (.int 0))) (eC (.str [101,97,99,104])))
  QO
  (sIf (jA cEq (eOp zR (zB 1) (eC (.int 0))) (eC (.str [114,111,117,110,100])))
  QO
  QO)))))
noncomputable abbrev ZG:SM:=zQ zFj zD4
noncomputable abbrev zCU:SM:=(zQ (sIf (zB6 (qG 4 6 (zB 0)))
  (j6 (qV (zD (eC (.str [116,101,120,116])) (zD (eOp zR (qG 4 4 (zB 0)) (eC (.int 0))) zI))))
  ZB)
  (j6 (qG 4 6 (zB 0))))
theorem zNg:Zg=zQ (zDc yF ZG) zCU:=rfl
section
variable {S:M.S}{st:D}{a:Nat}{us:List (D×D)}{k:Int}{tx td:List D}{en:D}{g:M.S}{ans:List (T×T)}
theorem zLG (n:Nat) (v:Option D):qM (n+1) yF ZG [some (.ref S.length),v] (Wk S st a us k tx [] .non g)=.nx [some (.ref S.length),v] (Wk S st a us k tx [] .non g):=by
 have ht:yF [some (.ref S.length),v] (Wk S st a us k tx [] .non g)=.ok false (Wk S st a us k tx [] .non g):=by
  simp[wk0,wk3]
 rw[qM,ht]
 simp
theorem zJj (n:Nat) (v:Option D) (r:T×T):qM (n+1) yF ZG [some (.ref S.length),v] (Wk S st a us k tx td (zv r) g)=.nx [some (.ref S.length),v] (Wk S st a us k tx td (zv r) g):=by
 have ht:yF [some (.ref S.length),v] (Wk S st a us k tx td (zv r) g)=.ok false (Wk S st a us k tx td (zv r) g):=by
  simp[wk0,zv]
 rw[qM,ht]
 simp
theorem Jm {x:D}{s':M.S} (n:Nat) (v:Option D) (hd:zD4 [some (.ref S.length),some x] (Wk S st a us k tx td .non g)=.nx [some (.ref S.length),some x] s'):qM (n+1) yF ZG [some (.ref S.length),v] (Wk S st a us k tx (td++[x]) .non g)=qM n yF ZG [some (.ref S.length),some x] s':=by
 have ht:yF [some (.ref S.length),v] (Wk S st a us k tx (td++[x]) .non g)=.ok true (Wk S st a us k tx (td++[x]) .non g):=by
  have:(0:Int) < (td.length:Int)+1:=by omega
  simp[wk0,wk3,this]
 have hp:zFj [some (.ref S.length),v] (Wk S st a us k tx (td++[x]) .non g)=.nx [some (.ref S.length),some x] (Wk S st a us k tx td .non g):=by
  simp[wk0,wk3,ws3]
 rw[qM,ht,R.stm_ok,if_pos rfl]
 show (match ((zFj [some (.ref S.length),v] (Wk S st a us k tx (td++[x]) .non g)).then zD4) with | .nx σ s=>qM n yF ZG σ s | .ct σ s=>qM n yF ZG σ s | .bk σ s=>.nx σ s | r=>r)=_
 rw[hp,RS.then_nx,hd]
theorem at2 (x y z:D):atI [x,y,z] 2=some z:=rfl
theorem zCh {p:D}{s':M.S} (hb:ju [.ref S.length,p,.non] (Wk S st a us k tx td .non g)=.ok .non s'):zD4 [some (.ref S.length),some (ptD p)] (Wk S st a us k tx td .non g)=.nx [some (.ref S.length),some (ptD p)] s':=by
 have a1:=at1 (.str zHI) p [.non]
 unfold ptD
 simp[at0,a1,at2,wk0,hb]
theorem zG1 {n:Int}{s':M.S} (hb:jm [.ref S.length,.int n] (Wk S st a us k tx td .non g)=.ok .non s'):zD4 [some (.ref S.length),some (.tup [.str qK,.int n])] (Wk S st a us k tx td .non g)=.nx [some (.ref S.length),some (.tup [.str qK,.int n])] s':=by
 have a1:=at1 (.str qK) (.int n) []
 simp[at0,a1,wk0,hb]
noncomputable def Fin (S:M.S) (st:D) (a:Nat) (r:(T×T)×List T) (s:M.S):Prop :=
 ∃ us k tx td g,us.map (fun p:D×D=>p.1)=r.2.map D.str/\((s=Wk S st a us k [.str r.1.2] [] .non g/\r.1.1=zHT)\/s=Wk S st a us k tx td (zv r.1) g)
theorem zES {r:(T×T)×List T}{s:M.S} (h:Fin S st a r s) (n:Nat) (v:Option D):((qM (n+1) yF ZG [some (.ref S.length),v] s).then zCU).out=.ok (zv r.1) s:=by
 have z2:(2:Nat) <= SZ:=by decide
 obtain⟨us,k,tx,td,g,_,⟨rfl,e⟩ | rfl⟩:=h
 ·rw[zLG]
  obtain⟨⟨tag,t⟩,used⟩:=r
  dsimp only at e
  subst e
  simp[wk0,wk2,at0,z2,zv,RS.out]
 ·rw[zJj]
  simp[wk0,zv,RS.out]
noncomputable def usD (used:List T):List (D×D):=used.map fun x=>(D.str x,D.bl true)
theorem zEn (used:List T):(usD used).map (fun p:D×D=>p.1)=used.map D.str:=by unfold usD;rw[List.map_map];rfl
theorem zMe (t:T) (used:List T):Zp (.str t) (.bl true) (usD used)=usD (zAX used t):=by
 have ha:((usD used).any fun p=>decide (p.1=.str t))=used.contains t:=by
  unfold usD
  rw[List.any_map,List.contains_eq_any_beq]
  congr 1
  funext x
  simp only[Function.comp]
  by_cases h:x=t
  ·subst h;simp
  ·have h2:(t == x)=false:=by simpa using fun z:t=x=>h z.symm
   rw[h2];simp[h]
 unfold Zp zAX
 rw[ha]
 by_cases h:used.contains t=true
 ·rw[if_pos h,if_pos h,List.append_nil]
  unfold usD
  rw[List.map_map]
  refine List.map_congr_left fun x hx=>?_
  simp only[Function.comp]
  split<;>rfl
 ·rw[if_neg h,if_neg h]
  unfold usD
  rw[List.map_append]
  rfl
theorem zB2 (ha:S[a]? = some (.dct (ans.map pd))) (hv:∀ q∈ans,q.2.length <= 900) (m:Nat) (hm:m <= 50):∀ (ps:List Pt) (xs u:List T) (k:Int) (v:Option D) (n:Nat),(∀ q∈ps,q.t.length <= 900)->xs.length+ps.length=m->(∀ x∈xs,x.length <= 900)->u.length <= xs.length->k <= xs.length+1 ->
  ∃ s',((qM (n+2+ps.length) yF ZG [some (.ref S.length),v] (Wk S st a (usD u) k (xs.map .str) ([.tup [.str qK,.int (m:Int)]]++(ps.map Pt.d).reverse.map ptD) .non [])).then zCU).out=.ok (zv (yU ans ps xs.flatten u).1) s'/\Fin S st a (yU ans ps xs.flatten u) s'
 | [],xs,u,k,v,n,_,hn,hx,hu,hk=>by
  have hn':xs.length=m:=by simpa using hn
  subst hn'
  have hfl:∀ xs:List T,(∀ x∈xs,x.length <= 900)->xs.flatten.length <= 900 * xs.length:=fun xs=>by
   induction xs with
   | nil=>intro _;simp
   | cons x xs ih =>
    intro h
    have h1:=h x List.mem_cons_self
    have h2:=ih fun y hy=>h y (List.mem_cons_of_mem _ hy)
    rw[List.flatten_cons,List.length_append,List.length_cons]
    omega
  have hf:=hfl xs hx
  show ∃ s',((qM (n+1+1) yF ZG [some (.ref S.length),v] (Wk S st a (usD u) k (xs.map .str) ([]++[.tup [.str qK,.int (xs.length:Int)]]) .non [])).then zCU).out=_/\_
  unfold yU
  by_cases h9:900 < xs.flatten.length
  ·rw[if_pos h9]
   have hj:=zI0 (S:=S) (st:=st) (a:=a) (us:=usD u) (k:=k) (td:=[]) (g:=[]) xs hm h9 (by omega)
   rw[Jm _ _ (zG1 hj)]
   have f:Fin S st a ((zAs,zCq),u) (Wk S st a (usD u) k [] [] (zv (zAs,zCq)) ([]++[.lst (xs.map D.str).reverse])):=⟨_,_,_,_,_,zEn u,.inr rfl⟩
   exact⟨_,zES f _ _,f⟩
  ·rw[if_neg h9]
   have hj:=zKa (S:=S) (st:=st) (a:=a) (us:=usD u) (k:=k) (td:=[]) (g:=[]) xs hm (by omega)
   rw[Jm _ _ (zG1 hj)]
   have f:Fin S st a ((zHT,xs.flatten),u) (Wk S st a (usD u) k [.str xs.flatten] [] .non ([]++[.lst (xs.map D.str).reverse])):=⟨_,k,[],[],_,zEn u,.inl ⟨rfl,rfl⟩⟩
   exact⟨_,zES f _ _,f⟩
 | .txt x::ps,xs,u,k,v,n,hq,hn,hx,hu,hk=>by
  rw[List.length_cons] at hn ⊢
  have hxl:x.length <= 900:=hq _ List.mem_cons_self
  have hb:=zIN (S:=S) (st:=st) (a:=a) (us:=usD u) (k:=k) (tx:=xs.map .str) (td:=[.tup [.str qK,.int (m:Int)]]++(ps.map Pt.d).reverse.map ptD) (g:=[]) x hxl (by rw[List.length_map];omega) (by omega)
  obtain⟨s',e,f⟩:=zB2 ha hv m hm ps (xs++[x]) u (k+1) (some (ptD (Pt.txt x).d)) n (fun q h=>hq q (List.mem_cons_of_mem _ h)) (by simp;omega) (fun y hy=>by
   rcases List.mem_append.mp hy with h | h
   ·exact hx y h
   ·rw[List.mem_singleton.mp h];exact hxl) (by simp;omega) (by simp;omega)
  have ef:(xs++[x]).flatten=xs.flatten++x:=by simp
  rw[ef] at e f
  unfold yU
  refine⟨s',?_,f⟩
  rw[<- e]
  have et:[D.tup [.str qK,.int (m:Int)]]++((Pt.txt x::ps).map Pt.d).reverse.map ptD=([D.tup [.str qK,.int (m:Int)]]++(ps.map Pt.d).reverse.map ptD)++[ptD (Pt.txt x).d]:=by simp
  rw[et,show n+2+(ps.length+1)=(n+2+ps.length)+1 by omega,Jm _ _ (zCh hb),List.map_append]
  rfl
 | .thing y::ps,xs,u,k,v,n,hq,hn,hx,hu,hk=>by
  rw[List.length_cons] at hn ⊢
  have et:[D.tup [.str qK,.int (m:Int)]]++((Pt.thing y::ps).map Pt.d).reverse.map ptD=([D.tup [.str qK,.int (m:Int)]]++(ps.map Pt.d).reverse.map ptD)++[ptD (Pt.thing y).d]:=by simp
  rw[et,show n+2+(ps.length+1)=(n+2+ps.length)+1 by omega]
  unfold yU
  cases q:ZP ans y with
  | none =>
   have hb:=zHs (S:=S) (st:=st) (a:=a) (us:=usD u) (k:=k) (tx:=xs.map .str) (td:=[.tup [.str qK,.int (m:Int)]]++(ps.map Pt.d).reverse.map ptD) (g:=[]) ha q (by omega)
   rw[Jm _ _ (zCh hb)]
   have f:Fin S st a ((zCi,y),u) (Wk S st a (usD u) (k+1) (xs.map .str) ([.tup [.str qK,.int (m:Int)]]++(ps.map Pt.d).reverse.map ptD) (zv (zCi,y)) []):=⟨_,_,_,_,_,zEn u,.inr rfl⟩
   rw[show n+2+ps.length=(n+1+ps.length)+1 by omega]
   exact⟨_,zES f _ _,f⟩
  | some x =>
   have hxl:x.length <= 900:=hv _ (zHG q)
   have hb:=zHd (S:=S) (st:=st) (a:=a) (us:=usD u) (k:=k) (tx:=xs.map .str) (td:=[.tup [.str qK,.int (m:Int)]]++(ps.map Pt.d).reverse.map ptD) (g:=[]) ha q hxl (by rw[List.length_map];omega) (by unfold usD;rw[List.length_map];omega) (by omega)
   rw[zMe] at hb
   have al:=zC7 u y
   obtain⟨s',e,f⟩:=zB2 ha hv m hm ps (xs++[x]) (zAX u y) (k+1) (some (ptD (Pt.thing y).d)) n (fun q h=>hq q (List.mem_cons_of_mem _ h)) (by simp;omega) (fun y hy=>by
    rcases List.mem_append.mp hy with h | h
    ·exact hx y h
    ·rw[List.mem_singleton.mp h];exact hxl) (by simp;omega) (by simp;omega)
   have ef:(xs++[x]).flatten=xs.flatten++x:=by simp
   rw[ef] at e f
   refine⟨s',?_,f⟩
   rw[Jm _ _ (zCh hb)]
   dsimp only
   rw[<- e,List.map_append]
   rfl
theorem zJx (ha:S[a]? = some (.dct (ans.map pd))) (hv:∀ q∈ans,q.2.length <= 900) (ps:List Pt) (hq:∀ q∈ps,q.t.length <= 900) (h1:1 <= ps.length) (h2:ps.length <= 49) :
  ∃ s',y0 [.ref S.length] (Wk S st a [] 0 [] [ptD (.tup (.str qK::ps.map Pt.d))] .non [])=.ok (zv (yU ans ps [] []).1) s'/\Fin S st a (yU ans ps [] []) s':=by
 have hb:=zHt (S:=S) (st:=st) (a:=a) (us:=[]) (k:=0) (tx:=[]) (td:=[]) (g:=[]) (ps.map Pt.d) (by simp;omega) (by rw[List.length_map];exact h1) (by decide)
 rw[List.length_map] at hb
 obtain⟨s',e,f⟩:=zB2 (S:=S) (st:=st) (a:=a) ha hv ps.length (by omega) ps [] [] (0+1) (some (ptD (.tup (.str qK::ps.map Pt.d)))) (999999999999 - 2 - ps.length) hq (by simp) (by simp) (by simp) (by simp)
 refine⟨s',?_,f⟩
 show (Zg [some (.ref S.length),none] _).out=_
 rw[zNg]
 show ((qM zGb yF ZG [some (.ref S.length),none] (Wk S st a [] 0 [] ([]++[ptD (.tup (.str qK::ps.map Pt.d))]) .non [])).then zCU).out=_
 have hf:zGb=(999999999999 - 2 - ps.length)+2+ps.length+1:=by unfold zGb;omega
 rw[hf,Jm _ _ (zCh hb)]
 exact e
end
noncomputable def Jz:SM :=
  (zQ (zo 3 (zD6 4 7 qw (zD (zB 0) (zD (zB 1) (zD (zB 2) zI)))))
  (zQ (zo 4 (qU 4 y0 (zB 3) zI))
  (j6 (qV (zD (zB 4) (zD (zT zHL (zD (qG 4 2 (zB 3)) zI)) zI))))))
noncomputable def zJN:F:=fn 5 Jz
noncomputable abbrev ZV:F:=zJN
theorem zIi {S:M.S}{st:D}{a:Nat}{tree:D}{r:(T×T)×List T}{s':M.S} (h:y0 [.ref S.length] (Wk S st a [] 0 [] [ptD tree] .non [])=.ok (zv r.1) s') (f:Fin S st a r s') :
  ∃ l g,ZV [tree,st,.ref a] S=.ok (.tup [zv r.1,.ref l]) (S++g)/\(S++g)[l]? = some (.lst (r.2.map D.str)):=by
 have z2:(2:Nat) <= SZ:=by decide
 have hi:=zLx S tree st a
 obtain⟨us,k,tx,td,g,hk,hs⟩:=f
 obtain⟨tx',td',en,rfl⟩:∃ tx td en,s'=Wk S st a us k tx td en g:=by
  rcases hs with ⟨e,_⟩ | e
  ·exact⟨_,_,_,e⟩
  ·exact⟨_,_,_,e⟩
 refine⟨S.length+4+g.length,.ins 4 [some st,some (.ref a),some (.ref (S.length+1)),some (.int k),some (.ref (S.length+2)),some (.ref (S.length+3)),some en]::.dct us::.lst tx'::.lst td'::(g++[.lst (r.2.map D.str)]),?_,?_⟩
 ·have hl:(Wk S st a us k tx' td' en g).length=S.length+4+g.length:=by simp[Wk];omega
  have e1:(zo 3 (zD6 4 7 qw (zD (zB 0) (zD (zB 1) (zD (zB 2) zI))))) [some tree,some st,some (.ref a),none,none] S=.nx [some tree,some st,some (.ref a),some (.ref S.length),none] (Wk S st a [] 0 [] [ptD tree] .non []):=by
   simp only[zo,zD6,zD,zI,zB,List.getElem?_cons_zero,List.getElem?_cons_succ,R.bind_ok,hi,if_true,R.stm_ok,List.set_cons_zero,List.set_cons_succ]
   rfl
  have e2:(zo 4 (qU 4 y0 (zB 3) zI)) [some tree,some st,some (.ref a),some (.ref S.length),none] (Wk S st a [] 0 [] [ptD tree] .non [])=.nx [some tree,some st,some (.ref a),some (.ref S.length),some (zv r.1)] (Wk S st a us k tx' td' en g):=by
   simp[wk0,h]
  show (Jz [some tree,some st,some (.ref a),none,none] S).out=_
  unfold Jz
  show ((((zo 3 _) [some tree,some st,some (.ref a),none,none] S).then _).out)=_
  rw[e1,RS.then_nx]
  show ((((zo 4 _) [some tree,some st,some (.ref a),some (.ref S.length),none] (Wk S st a [] 0 [] [ptD tree] .non [])).then _).out)=_
  rw[e2,RS.then_nx]
  have e3:Wk S st a us k tx' td' en g++[.lst (r.2.map D.str)]=S++(.ins 4 [some st,some (.ref a),some (.ref (S.length+1)),some (.int k),some (.ref (S.length+2)),some (.ref (S.length+3)),some en]::.dct us::.lst tx'::.lst td'::(g++[.lst (r.2.map D.str)])):=by simp[Wk]
  rw[<- e3]
  simp[wk0,wk1,hk,hl,z2,RS.out]
 ·rw[List.getElem?_append_right (by omega),show S.length+4+g.length - S.length=g.length+1+1+1+1 by omega]
  simp
noncomputable def Ql:SM :=
  (j6 (eOp jM (eOp j4 (eOp zU (zB 0) (eOp j4 (eC (.int 7919)) (zB 1))) (eC (.int 48271))) (eC (.int 2147483647))))
noncomputable def zCV:F:=fn 2 Ql
noncomputable def mix (c k:Int):Int:=(c+7919 * k) * 48271 % 2147483647
noncomputable def Zw:F
 | [.int c,.int k],s=>.ok (.int (mix c k)) s
 | _,_=>.no
theorem zFP:jn 2 zCV Zw:=jn.pure fun ds S hl c ca=>by
 match ds,hl with
 | [a,b],_ =>
  cases a with
  | int c =>
   cases b with
   | int k =>
    have h1:yp 7919=true:=by decide
    have h2:yp 48271=true:=by decide
    exact .inr ⟨_,[],rfl,by simp[zCV,Ql,h1,h2,mix],rfl⟩
   | _=>exact .inl rfl
  | _=>exact .inl rfl
noncomputable def ZL:SM :=
  (zQ (sIf (jA cLt (zB 1) (zT QH (zD (zB 0) zI)))
  (j6 (zT Zw (zD (eOp zR (zB 0) (zB 1)) (zD (zB 1) zI))))
  ZB)
  (j6 (eC (.int 0))))
noncomputable def Q4:F:=fn 2 ZL
noncomputable def zCZ (xs:List D) (k:Int):Option Int:=if k < xs.length then (match xs.getD k.toNat .non with | .int i=>some (mix i k) | _=>none) else some 0
noncomputable def zX:F
 | [.ro xs,.int k],s=>if 0 <= k then (match zCZ xs k with | some i=>.ok (.int i) s | none=>.no) else .no
 | _,_=>.no
theorem zDp:jn 2 Q4 zX:=jn.pure fun ds S hl c ca=>by
 match ds,hl with
 | [a,b],_ =>
  cases a with
  | ro xs =>
   cases b with
   | int k =>
    by_cases h0:0 <= k
    ·have s1:yp 48271=true:=by decide
     have s2:yp 7919=true:=by decide
     by_cases h:k < (xs.length:Int)
     ·have ea:=zAz h0 h (D.non)
      cases hd:xs.getD k.toNat .non with
      | int i =>
       have hc:zCZ xs k=some (mix i k):=by unfold zCZ;rw[if_pos h,hd]
       exact .inr ⟨_,[],by simp[zX,h0,hc];rfl,by simp[Q4,ZL,h,ea,-List.getD_eq_getElem?_getD,hd,Zw],rfl⟩
      | _=>exact .inl (by simp[zX,h0,zCZ,h,-List.getD_eq_getElem?_getD,hd])
     ·exact .inr ⟨.int 0,[],by simp[zX,h0,zCZ,h],by simp[Q4,ZL,h],rfl⟩
    ·exact .inl (by simp[zX,h0])
   | _=>exact .inl rfl
  | _=>exact .inl rfl
noncomputable def Za (ns:List Int) (k:Nat):Int:=if k < ns.length then mix (ns.getD k 0) k else 0
theorem zA3 (ns:List Int) (k:Nat) (s:M.S):zX [.ro (ns.map .int),.int (k:Int)] s=.ok (.int (Za ns k)) s:=by
 have h0:(0:Int) <= (k:Int):=by omega
 simp only[zX,h0,if_true]
 unfold zCZ Za
 by_cases h:k < ns.length
 ·have h':(k:Int) < ((ns.map D.int).length:Int):=by rw[List.length_map];omega
  rw[if_pos h',if_pos h]
  have:(ns.map D.int).getD (k:Int).toNat .non=.int (ns.getD k 0):=by
   rw[Int.toNat_natCast,List.getD_eq_getElem?_getD,List.getElem?_map,List.getD_eq_getElem?_getD,List.getElem?_eq_getElem h]
   rfl
  rw[this]
 ·have h':¬ (k:Int) < ((ns.map D.int).length:Int):=by rw[List.length_map];omega
  rw[if_neg h',if_neg h]
noncomputable def Z7:SM :=
  (zQ (zo 1 (eC (.str [32,33,35,36,38,39,40,41,42,43,44,45,46,47,48,49,50,51,52,53,54,55,56,57,58,59,60,61,62,63,64,65,66,67,68,69,70,71,72,73,74,75,76,77,78,79,80,81,82,83,84,85,86,87,88,89,90,91,92,93,94,95,96])))
  (zQ (zo 1 (eOp zU (zB 1) (eC (.str [97,98,99,100,101,102,103,104,105,106,107,108,109,110,111,112,113,114,115,116,117,118,119,120,121,122,123,124,125,126]))))
  (j6 (eOp zR (zB 1) (eOp jM (zB 0) (eC (.int 93)))))))
noncomputable def Q8:F:=fn 2 Z7
noncomputable def qr:F:=chS Q8
theorem zD2:jn 1 Q8 qr:=zDn _
noncomputable def zFd:T:=[32,33,35,36,38,39,40,41,42,43,44,45,46,47,48,49,50,51,52,53,54,55,56,57,58,59,60,61,62,63,64,65,66,67,68,69,70,71,72,73,74,75,76,77,78,79,80,81,82,83,84,85,86,87,88,89,90,91,92,93,94,95,96]++[97,98,99,100,101,102,103,104,105,106,107,108,109,110,111,112,113,114,115,116,117,118,119,120,121,122,123,124,125,126]
noncomputable def sgN (c:Int):Nat:=zFd.getD (c % 93).toNat 0
theorem zLe (c:Int) (S:M.S):qr [.int c] S=.ok (.str [sgN c]) S:=by
 have a:=Int.emod_nonneg c (show (93:Int)≠0 by decide)
 have b:=Int.emod_lt_of_pos c (show (0:Int) < 93 by decide)
 have e:atI zFd (c % 93)=some (sgN c):=zAz (xs:=zFd) a (show c % 93 < ((93:Nat):Int) from b) 0
 have z1:(93:Nat) <= SZ:=by decide
 refine zAr (g:=[]) ?_ rfl
 rw[List.append_nil]
 unfold zFd at e
 have z2:(63:Nat)+30 <= SZ:=by decide
 simp only[Q8,Z7,fn,List.map_cons,List.map_nil,List.length_cons,List.length_nil,List.replicate,List.cons_append,List.nil_append,zQ,zo,eC,R.stm_ok,List.set_cons_succ,List.set_cons_zero,RS.then_nx,eOp,zB,List.getElem?_cons_succ,List.getElem?_cons_zero,R.bind_ok,zU,j6,jM]
 simp only[List.cons_append,List.nil_append] at e
 simp[e,z1,RS.out]
noncomputable def QB:SM :=
  (j6 (JO (yu []) 1 (jl (zB 1)) (zq 2) yX (zT qr (zD (eOp zU (eOp jM (eOp j4 (eOp zU (zB 0) (eOp j4 (zB 2) (eC (.int 977)))) (eC (.int 48271))) (eC (.int 7919))) (eOp j4 (eOp jM (eOp qJ (zB 0) (eC (.int 93))) (eC (.int 2))) (zB 2))) zI))))
noncomputable def Q1:F:=fn 2 QB
noncomputable def yi:F:=chS Q1
theorem zDT:jn 2 Q1 yi:=zDn _
noncomputable def zCe (c:Int) (n:Nat):T:=(List.range n).map fun (k:Nat)=>sgN ((c+k * 977) * 48271 % 7919+c / 93 % 2 * k)
theorem zGp (c:Int) (n:Nat) (hn:n <= 60) (S:M.S):yi [.int c,.int (n:Int)] S=.ok (.str (zCe c n)) S/\(zCe c n).length <= 60:=by
 have s1:yp 977=true:=by decide
 have s2:yp 48271=true:=by decide
 have a:=Int.emod_nonneg (c / 93) (show (2:Int)≠0 by decide)
 have b:=Int.emod_lt_of_pos (c / 93) (show (0:Int) < 2 by decide)
 have s3:yp (c / 93 % 2)=true:=by unfold yp;rw[decide_eq_true_iff];omega
 have q1:n < 4611686018427387904:=by omega
 have hc:qY 1 (jl (zB 1)) (zq 2) yX (zT qr (zD (eOp zU (eOp jM (eOp j4 (eOp zU (zB 0) (eOp j4 (zB 2) (eC (.int 977)))) (eC (.int 48271))) (eC (.int 7919))) (eOp j4 (eOp jM (eOp qJ (zB 0) (eC (.int 93))) (eC (.int 2))) (zB 2))) zI)) [some (.int c),some (.int (n:Int))] S=.ok ((List.range n).map fun (k:Nat)=>.str [sgN ((c+k * 977) * 48271 % 7919+c / 93 % 2 * k)]) S:=by
  have:=zBE (n:=1) (it:=jl (zB 1)) (tg:=zq 2) (e:=zT qr (zD (eOp zU (eOp jM (eOp j4 (eOp zU (zB 0) (eOp j4 (zB 2) (eC (.int 977)))) (eC (.int 48271))) (eC (.int 7919))) (eOp j4 (eOp jM (eOp qJ (zB 0) (eC (.int 93))) (eC (.int 2))) (zB 2))) zI)) (σ:=[some (.int c),some (.int (n:Int))]) (s:=S) (lo:=0) (hi:=(n:Int)) (fun (k:Nat)=>.str [sgN ((c+k * 977) * 48271 % 7919+c / 93 % 2 * k)]) (by simp[q1]) (by unfold SZ;omega) fun k hk=>by
   simp[zLe,s1,s2,s3]
  simpa using this
 have hj:=zEw (fun (k:Nat)=>sgN ((c+k * 977) * 48271 % 7919+c / 93 % 2 * k)) (List.range n) S (by rw[List.length_range];unfold SZ;omega)
 refine⟨?_,by unfold zCe;simp;omega⟩
 refine zAr (g:=[]) ?_ rfl
 rw[List.append_nil]
 unfold zCe
 simp[Q1,QB,hc,hj]
noncomputable def yf:SM :=
  (zQ (sIf (jA cEq (eOp jM (zB 0) (eC (.int 5))) (eC (.int 0)))
  (j6 (qV (zD (eC (.str [116,101,120,116])) (zD (zT yi (zD (eOp qJ (zB 0) (eC (.int 35))) (zD (eOp jM (eOp qJ (zB 0) (eC (.int 5))) (eC (.int 7))) zI))) zI))))
  ZB)
  (zQ (sIf (jA cEq (eOp jM (zB 0) (eC (.int 5))) (eC (.int 1)))
  (j6 (qV (zD (eC (.str [116,104,105,110,103])) (zD (eOp zU (eOp zU (eOp zR (zB 1) (eOp jM (eOp qJ (zB 0) (eC (.int 5))) (eC (.int 8)))) (eC (.str [46]))) (eOp zR (zB 1) (eOp jM (eOp qJ (zB 0) (eC (.int 40))) (eC (.int 8))))) zI))))
  ZB)
  (j6 (qV (zD (eC (.str [116,104,105,110,103])) (zD (eOp zR (zB 1) (eOp jM (eOp qJ (zB 0) (eC (.int 5))) (eC (.int 8)))) zI))))))
noncomputable def ZN:F:=fn 2 yf
noncomputable def yh:F:=chS ZN
theorem zDX:jn 2 ZN yh:=zDn _
theorem Q0 {ts:List T}{k:Int} (h0:0 <= k) (h:k < ts.length):atI (ts.map D.str) k=some (.str (ts.getD k.toNat [])):=by
 rw[zAz (d:=.str []) h0 (by simpa using h),List.getD_eq_getElem?_getD,List.getD_eq_getElem?_getD,List.getElem?_map]
 cases ts[k.toNat]?<;>rfl
theorem Q3 {N:List T} (h:∀ t∈N,t.length <= 17) (i:Nat):(N.getD i []).length <= 17:=by
 rw[List.getD_eq_getElem?_getD]
 cases q:N[i]? with
 | none=>simp
 | some t=>exact h t (List.mem_of_getElem? q)
theorem zLm {N:List T} (hN:N.length=8) (h:∀ t∈N,t.length <= 17) {S:M.S}{p:Nat} (hp:S[p]? = some (.lst (N.map .str))) (c:Int):∃ P:Pt,yh [.int c,.ref p] S=.ok P.d S/\P.t.length <= 60:=by
 have z2:(2:Nat) <= SZ:=by decide
 have a0:=Int.emod_nonneg (c / 5) (show (8:Int)≠0 by decide)
 have a1:=Int.emod_lt_of_pos (c / 5) (show (0:Int) < 8 by decide)
 have b0:=Int.emod_nonneg (c / 40) (show (8:Int)≠0 by decide)
 have b1:=Int.emod_lt_of_pos (c / 40) (show (0:Int) < 8 by decide)
 have x1:=Q0 (ts:=N) a0 (by omega)
 have x2:=Q0 (ts:=N) b0 (by omega)
 have l1:=Q3 h (c / 5 % 8).toNat
 have l2:=Q3 h (c / 40 % 8).toNat
 generalize N.getD (c / 5 % 8).toNat []=f at *
 generalize N.getD (c / 40 % 8).toNat []=g at *
 have c0:=Int.emod_nonneg (c / 5) (show (7:Int)≠0 by decide)
 have c1:=Int.emod_lt_of_pos (c / 5) (show (0:Int) < 7 by decide)
 have tx:=zGp (c / 35) (c / 5 % 7).toNat (by omega) S
 rw[show (((c / 5 % 7).toNat:Nat):Int)=c / 5 % 7 by omega] at tx
 have m1:f.length+1 <= SZ:=by unfold SZ;omega
 have m2:f.length+1+g.length <= SZ:=by unfold SZ;omega
 by_cases e0:c % 5=0
 ·refine⟨.txt (zCe (c / 35) (c / 5 % 7).toNat),zAr (g:=[]) ?_ rfl,tx.2⟩
  rw[List.append_nil]
  simp[ZN,yf,e0,tx.1,z2,Pt.d,RS.out]
 ·by_cases e1:c % 5=1
  ·refine⟨.thing (f++[46]++g),zAr (g:=[]) ?_ rfl,by simp[Pt.t];omega⟩
   rw[List.append_nil]
   simp[ZN,yf,e1,hp,x1,x2,m1,m2,z2,Pt.d,RS.out]
  ·refine⟨.thing f,zAr (g:=[]) ?_ rfl,by simp[Pt.t];omega⟩
   rw[List.append_nil]
   simp[ZN,yf,e0,e1,hp,x1,z2,Pt.d,RS.out]
noncomputable def qN:SM :=
  (zo 2 (eOp zR (zB 1) (eOp jM (eOp qJ (zB 0) (eC (.int 6))) (eC (.int 8)))))
noncomputable def qP:SM :=
  (zo 3 (eOp zR (zB 1) (eOp jM (eOp qJ (zB 0) (eC (.int 48))) (eC (.int 8)))))
noncomputable def j1:SM :=
  (zo 4 (yZ (zD (zB 2) (zD (eOp zU (eOp zU (zB 2) (eC (.str [46]))) (zB 3)) (zD (eC (.str [])) (zD (eOp zU (eOp zU (eOp zU (eOp zU (eC (.str [32,32])) (zB 3)) (eC (.str [10]))) (zB 2)) (eC (.str [32]))) (zD (eOp zU (eOp zU (eOp zU (eOp zU (zB 2) (eC (.str [32]))) (zB 3)) (eC (.str [32]))) (zB 2)) zI)))))))
noncomputable def qx:SM :=
  (zo 4 (eOp zU (zB 4) (yZ (zD (zT yi (zD (eOp qJ (zB 0) (eC (.int 384))) (zD (eOp jM (eOp qJ (zB 0) (eC (.int 6))) (eC (.int 31))) zI))) zI))))
noncomputable def qz:SM :=
  (j6 (eOp zR (zB 4) (eOp jM (zB 0) (eC (.int 6)))))
noncomputable def QY:SM:=(zQ qN (zQ qP (zQ j1 (zQ qx qz))))
noncomputable def J8:F:=fn 5 QY
noncomputable def jo:F:=chS J8
theorem zCr:jn 2 J8 jo:=zDn _
theorem zIq {N:List T} (hN:N.length=8) (h:∀ t∈N,t.length <= 17) {S:M.S}{p:Nat} (hp:S[p]? = some (.lst (N.map .str))) (c:Int):∃ t,jo [.int c,.ref p] S=.ok (.str t) S/\t.length <= 60:=by
 have a0:=Int.emod_nonneg (c / 6) (show (8:Int)≠0 by decide)
 have a1:=Int.emod_lt_of_pos (c / 6) (show (0:Int) < 8 by decide)
 have b0:=Int.emod_nonneg (c / 48) (show (8:Int)≠0 by decide)
 have b1:=Int.emod_lt_of_pos (c / 48) (show (0:Int) < 8 by decide)
 have x1:=Q0 (ts:=N) a0 (by omega)
 have x2:=Q0 (ts:=N) b0 (by omega)
 have l1:=Q3 h (c / 6 % 8).toNat
 have l2:=Q3 h (c / 48 % 8).toNat
 generalize N.getD (c / 6 % 8).toNat []=f at *
 generalize N.getD (c / 48 % 8).toNat []=g at *
 have c0:=Int.emod_nonneg (c / 6) (show (31:Int)≠0 by decide)
 have c1:=Int.emod_lt_of_pos (c / 6) (show (0:Int) < 31 by decide)
 have tx:=fun s=>zGp (c / 384) (c / 6 % 31).toNat (by omega) s
 rw[show (((c / 6 % 31).toNat:Nat):Int)=c / 6 % 31 by omega] at tx
 generalize hu:zCe (c / 384) (c / 6 % 31).toNat=u at *
 have lu:=(tx S).2
 have tx':=fun s=>(tx s).1
 have k0:=Int.emod_nonneg c (show (6:Int)≠0 by decide)
 have k1:=Int.emod_lt_of_pos c (show (0:Int) < 6 by decide)
 have z5:(5:Nat) <= SZ:=by decide
 have z1:(1:Nat) <= SZ:=by decide
 have z6:(6:Nat) <= SZ:=by decide
 have e1:∀ r,(qN [some (.int c),some (.ref p),none,none,none] S).then (zQ qP r)=r [some (.int c),some (.ref p),some (.str f),some (.str g),none] S:=fun r=>by
  simp[qN,qP,hp,x1,x2]
 have m1:f.length+1 <= SZ:=by unfold SZ;omega
 have m2:f.length+1+g.length <= SZ:=by unfold SZ;omega
 have m3:g.length+1+1 <= SZ:=by unfold SZ;omega
 have m4:g.length+1+1+1 <= SZ:=by unfold SZ;omega
 have m5:g.length+f.length+1+1+1 <= SZ:=by unfold SZ;omega
 have zz:∀ n,n <= 200->n <= SZ:=fun n h=>by unfold SZ;omega
 have e3:j1 [some (.int c),some (.ref p),some (.str f),some (.str g),none] S=.nx [some (.int c),some (.ref p),some (.str f),some (.str g),some (.ref S.length)] (S++[.lst [.str f,.str (f++[46]++g),.str [],.str ([32,32]++g++[10]++f++[32]),.str (f++[32]++g++[32]++f)]]):=by
  have w1:=zz (f.length+1) (by omega)
  simp only[j1,zo,yZ,zD,zI,zB,eOp,eC,List.getElem?_cons_zero,List.getElem?_cons_succ,R.bind_ok,zU,List.length_append,List.length_cons,List.length_nil]
  rw[if_pos (zz _ (by omega))]
  simp only[R.bind_ok,List.length_append,List.length_cons,List.length_nil]
  rw[if_pos (zz _ (by omega))]
  simp only[R.bind_ok,List.length_append,List.length_cons,List.length_nil]
  rw[if_pos (zz _ (by omega))]
  simp only[R.bind_ok,List.length_append,List.length_cons,List.length_nil]
  rw[if_pos (zz _ (by omega))]
  simp only[R.bind_ok,List.length_append,List.length_cons,List.length_nil]
  rw[if_pos (zz _ (by omega))]
  simp only[R.bind_ok,List.length_append,List.length_cons,List.length_nil]
  rw[if_pos (zz _ (by omega))]
  simp only[R.bind_ok,List.length_append,List.length_cons,List.length_nil]
  rw[if_pos (zz _ (by omega))]
  simp only[R.bind_ok,List.length_append,List.length_cons,List.length_nil]
  rw[if_pos (zz _ (by omega))]
  simp only[R.bind_ok,List.length_append,List.length_cons,List.length_nil]
  rw[if_pos (zz _ (by omega))]
  simp only[R.bind_ok,List.length_append,List.length_cons,List.length_nil]
  rw[if_pos (zz _ (by omega))]
  simp only[R.bind_ok,List.length_append,List.length_cons,List.length_nil]
  rw[if_pos (zz _ (by omega))]
  rfl
 generalize hL:[D.str f,.str (f++[46]++g),.str [],.str ([32,32]++g++[10]++f++[32]),.str (f++[32]++g++[32]++f)]=L at *
 have hLl:L.length=5:=by rw[<- hL];rfl
 have pick:∀ t,atI (L++[.str u]) (c % 6)=some (.str t)->jo [.int c,.ref p] S=.ok (.str t) S:=fun t e=>by
  refine zAr (g:=[.lst L,.lst [.str u],.lst (L++[.str u])]) ?_ rfl
  show ((qN [some (.int c),some (.ref p),none,none,none] S).then (zQ qP (zQ j1 (zQ qx qz)))).out=_
  rw[e1]
  show ((j1 _ _).then _).out=_
  rw[e3]
  simp[qx,qz,tx',z1,z6,hLl,e,RS.out]
 rw[<- hL] at pick
 have:c % 6=0\/c % 6=1\/c % 6=2\/c % 6=3\/c % 6=4\/c % 6=5:=by omega
 rcases this with e | e | e | e | e | e<;>rw[e] at pick
 ·exact⟨_,pick _ rfl,by omega⟩
 ·exact⟨_,pick _ rfl,by simp;omega⟩
 ·exact⟨_,pick _ rfl,by simp⟩
 ·exact⟨_,pick _ rfl,by simp;omega⟩
 ·exact⟨_,pick _ rfl,by simp;omega⟩
 ·exact⟨_,pick _ rfl,lu⟩
noncomputable def Jn:SM :=
  (zo 1 (zT y6 (zD (zT zX (zD (zB 0) (zD (eC (.int 0)) zI))) zI)))
noncomputable def Jf:SM :=
  (zo 2 (eOp zU (eC (.int 2)) (eOp jM (zT zX (zD (zB 0) (zD (eC (.int 1)) zI))) (eC (.int 11)))))
noncomputable def Jk:SM :=
  (zFa 6 (zo 3 (y4 1 (jl (zB 2)) (zq 11) yX (zT yh (zD (zT zX (zD (zB 0) (zD (eOp zU (eC (.int 3)) (zB 11)) zI))) (zD (zB 1) zI))))))
noncomputable def Ji:SM :=
  (zo 4 (eOp zU (y4 1 (zDs (zB 3)) (zq 11) (jA cEq (eOp zR (zB 11) (eC (.int 0))) (eC (.str [116,104,105,110,103]))) (eOp zR (zB 11) (eC (.int 1)))) (yZ (zD (eOp zU (eOp zU (eOp zR (zB 1) (eC (.int 0))) (eC (.str [46]))) (eOp zR (zB 1) (eC (.int 0)))) (zD (eOp zR (zB 1) (eC (.int 7))) zI)))))
noncomputable def zAm:SM :=
  (zo 5 zDe)
noncomputable def Jo:SM :=
  (Zn (jl (zT QH (zD (zB 4) zI))) (zq 6)
  (zQ (zo 7 (zT zX (zD (zB 0) (zD (eOp zU (eC (.int 15)) (zB 6)) zI))))
  (sIf (zAg (jA cGt (eOp jM (zB 7) (eC (.int 8))) (eC (.int 0))) (jA ZI (eOp zR (zB 4) (zB 6)) (zB 5)))
  (zC5 (zB 5) (eOp zR (zB 4) (zB 6)) (eOp j4 (zT jo (zD (eOp qJ (zB 7) (eC (.int 8))) (zD (zB 1) zI))) (eOp zU (eC (.int 1)) (eOp j4 (eC (.int 30)) (zT zDH (zD (QE cEq (eOp jM (zT zX (zD (zB 0) (zD (eC (.int 2)) zI))) (eC (.int 5))) (eC (.int 1))) zI))))))
  ZB)))
noncomputable def zA5:SM :=
  (zGM 5 (zo 5 (zT zB8 (zD (y4 1 (zCd (zB 5)) (zq 11) yX (qV (zD (zB 11) (zD (eSl (eOp zR (zB 5) (zB 11)) QR (yB (eC (.int 900)))) zI)))) zI))))
noncomputable def Jj:SM :=
  (zo 8 (zT JZ (zD (zB 3) (zD (zB 5) zI))))
noncomputable def Jg:SM :=
  (zo 9 (zT zFe (zD (zB 5) zI)))
noncomputable def Jt:SM :=
  (zo 10 (zT ZV (zD (zT J5 (zD (eOp zU (yZ (zD (eC (.str [106,111,105,110])) zI)) (zB 3)) zI)) (zD (eC .non) (zD (zB 9) zI)))))
noncomputable def JC:SM :=
  (sIf (tOr (zBF (zC6 (zT zAV (zD (zB 10) (zD (eC (.ty .tuple)) zI))))) (tOr (jA cNe (zT QH (zD (zB 10) zI)) (eC (.int 2))) (zBF (zC6 (zT zAV (zD (eOp zR (zB 10) (eC (.int 0))) (zD (eC (.ty .tuple)) zI)))))))
  (j6 (eC (.bl false)))
  ZB)
noncomputable def Q7:SM :=
  (sIf (tOr (zBF (zC6 (zT zAV (zD (eOp zR (zB 10) (eC (.int 1))) (zD (eC (.ty .list)) zI))))) (zBF (zC6 (JO zDQ 1 (iE (eOp zR (zB 10) (eC (.int 0)))) (zq 11) yX (zT zAV (zD (zB 11) (zD (eC (.ty .str)) zI)))))))
  (j6 (eC (.bl false)))
  ZB)
noncomputable def JF:SM :=
  (j6 (zGD (QE cEq (zB 10) (zB 8)) (zGD (QE cEq (zB 9) (zB 5)) (QE cEq (zT ZV (zD (zT J5 (zD (eOp zU (yZ (zD (eC (.str [106,111,105,110])) zI)) (zB 3)) zI)) (zD (eC .non) (zD (zB 9) zI)))) (zB 8)))))
noncomputable def zHm:SM:=(zQ Jn (zQ Jf (zQ Jk (zQ Ji (zQ zAm (zQ Jo (zQ zA5 (zQ Jj (zQ Jg (zQ Jt (zQ JC (zQ Q7 JF))))))))))))
noncomputable def zHu:F:=fn 11 zHm
noncomputable def zEo (k v:T) (kvs:List (T×T)):List (T×T):=if (kvs.any fun p=>decide (p.1=k))=true then kvs.map fun p=>if p.1=k then (p.1,v) else p else kvs++[(k,v)]
theorem zG4 (k v:T) (kvs:List (T×T)):Zp (.str k) (.str v) (kvs.map pd)=(zEo k v kvs).map pd:=by
 unfold Zp zEo
 have e:((kvs.map pd).any fun p=>decide (p.1=.str k))=kvs.any fun p=>decide (p.1=k):=by
  rw[List.any_map]
  congr 1
  funext p
  simp[pd]
 rw[e]
 split
 ·rw[List.map_map,List.map_map]
  apply List.map_congr_left
  intro p _
  simp only[Function.comp,pd]
  by_cases h:p.1=k<;>simp[h]
 ·rw[List.map_append];rfl
noncomputable def qv (kvs:List (T×T)):List T:=kvs.map (·.1)
theorem zH9 {k v:T}{kvs:List (T×T)} (h:(qv kvs).Nodup):(qv (zEo k v kvs)).Nodup:=by
 unfold zEo
 split
 ·have:qv (kvs.map fun p=>if p.1=k then (p.1,v) else p)=qv kvs:=by
   unfold qv
   rw[List.map_map]
   apply List.map_congr_left
   intro p _
   simp only[Function.comp]
   split<;>rfl
  rw[this];exact h
 ·rename_i hn
  unfold qv
  rw[List.map_append,List.nodup_append]
  refine⟨h,by simp,fun a ha b hb=>?_⟩
  simp at hb
  subst hb
  intro e
  subst e
  obtain⟨p,hp,e⟩:=List.mem_map.mp ha
  exact hn (List.any_eq_true.mpr ⟨p,hp,by simp[e]⟩)
theorem zBN {kvs:List (T×T)} (hn:(qv kvs).Nodup) {p:T×T} (h:p∈kvs):ZP kvs p.1=some p.2:=by
 induction kvs with
 | nil=>cases h
 | cons q kvs ih =>
  obtain⟨k,v⟩:=q
  unfold qv at hn ih
  rw[List.map_cons,List.nodup_cons] at hn
  unfold ZP at ih ⊢
  rw[List.lookup_cons]
  rcases List.mem_cons.mp h with h | h
  ·subst h;simp
  ·have hne:(p.1 == k)=false:=by
    simp only[beq_eq_false_iff_ne,ne_eq]
    exact fun e=>hn.1 (by have hm:p.1∈kvs.map (fun x=>x.1):=List.mem_map_of_mem h;rw[e] at hm;exact hm)
   rw[hne]
   exact ih hn.2 h
theorem zH6 {kvs:List (T×T)} (hn:(qv kvs).Nodup) (s:M.S):∀ l:List (T×T),(∀ p∈l,p∈kvs)->dEq s (kvs.map pd) (l.map pd)=some true
 | [],_=>rfl
 | p::l,h=>by
  have ih:=zH6 hn s l fun q hq=>h q (List.mem_cons_of_mem _ hq)
  have hg:=zBN hn (h p List.mem_cons_self)
  have hd:yx (.str p.1) (kvs.map pd)=some (.str p.2):=by rw[zAw,hg];rfl
  show dEq s (kvs.map pd) ((.str p.1,.str p.2)::l.map pd)=_
  unfold dEq
  rw[hd,ih]
  have ht:toP 8 s (.str p.2)=some (.str p.2):=rfl
  simp[ht,P.dep,P.eqv]
theorem zIS {kvs:List (T×T)} (hn:(qv kvs).Nodup) {s:M.S}{i j:Nat} (hi:s[i]? = some (.dct (kvs.map pd))) (hj:s[j]? = some (.dct (kvs.map pd))):eqD (.ref i) (.ref j) s=.ok true s:=by
 have h:∀ k:Nat,s[k]? = some (.dct (kvs.map pd))->toP JV s (.ref k)=none:=fun k e=>by
  show (match jN s k with | some xs=>(yw.all (fun j=>toP 8 s (.ref j)) xs).map P.lst | none=>none)=_
  have:jN s k=none:=by simp[jN,e]
  rw[this]
 simp only[eqD,h i hi,h j hj,zDm,hi,hj]
 rw[if_pos trivial,zH6 hn s kvs fun _ h=>h]
theorem zEh {k v:T}{kvs:List (T×T)} (h:ZP kvs k=none):zEo k v kvs=kvs++[(k,v)]:=by
 unfold zEo
 rw[if_neg]
 intro hc
 obtain⟨p,hp,e⟩:=List.any_eq_true.mp hc
 have e:=of_decide_eq_true e
 unfold ZP at h
 rw[List.lookup_eq_none_iff] at h
 have:=h p hp
 rw[e] at this
 simp at this
theorem zHA:∀ (l acc:List (T×T)),(qv (acc++l)).Nodup->(l.map pd).foldl (fun a p=>Zp p.1 p.2 a) (acc.map pd)=(acc++l).map pd
 | [],acc,_=>by simp
 | p::l,acc,h=>by
  have e:acc++p::l=(acc++[p])++l:=by simp
  rw[e] at h
  have ih:=zHA l (acc++[p]) h
  rw[e,<- ih,List.map_cons,List.foldl_cons]
  have hn:ZP acc p.1=none:=by
   unfold ZP
   rw[List.lookup_eq_none_iff]
   intro q hq
   unfold qv at h
   rw[List.map_append,List.map_append,List.nodup_append] at h
   have h1:=h.1
   rw[List.nodup_append] at h1
   have:=h1.2.2 q.1 (List.mem_map_of_mem hq) p.1 (by simp)
   simpa using fun z:p.1=q.1=>this z.symm
  have:Zp (pd p).1 (pd p).2 (acc.map pd)=(acc++[p]).map pd:=by
   show Zp (.str p.1) (.str p.2) (acc.map pd)=_
   rw[zG4,zEh hn]
  rw[this]
theorem zF4:∀ l:List (T×T),Jx (l.map fun p=>.tup [.str p.1,.str p.2])=some (l.map pd)
 | []=>rfl
 | p::l=>by
  have ih:=zF4 l
  rw[List.map_cons]
  unfold Jx
  rw[if_pos (show yt (.str p.1)=true from rfl),ih]
  rfl
theorem zGq {s:M.S}{l l':Nat}{us:List T} (r:T×T) (h:s[l]? = some (.lst (us.map .str))) (h':s[l']? = some (.lst (us.map .str))):eqD (.tup [zv r,.ref l]) (.tup [zv r,.ref l']) s=.ok true s:=by
 have hh:∀ k:Nat,s[k]? = some (.lst (us.map .str))->toP JV s (.tup [zv r,.ref k])=some (.tup [.tup [.str r.1,.str r.2],.lst (us.map P.str)]):=fun k e=>by
  have e1:toP JV s (.ref k)=some (.lst (us.map P.str)):=by
   show (match jN s k with | some xs=>(yw.all (fun j=>toP 8 s (.ref j)) xs).map P.lst | none=>none)=_
   have:jN s k=some (us.map .str):=by simp[jN,e]
   rw[this]
   show (yw.all _ (us.map .str)).map P.lst=_
   rw[zJG];rfl
  show (match (some (P.tup [.str r.1,.str r.2])),(match toP JV s (.ref k),(some ([]:List P)) with | some p,some ps=>some (p::ps) | _,_=>none) with | some p,some ps=>some (p::ps) | _,_=>none).map P.tup=_
  rw[e1]
  rfl
 simp only[eqD,hh l h,hh l' h']
 have q:P.eqvs (us.map P.str) (us.map P.str)=true:=by rw[zEv];simp
 simp[P.dep,P.deps,zFD,P.eqv,P.eqvs,q]
noncomputable def Pt.isT:Pt->Bool
 | .txt _=>false
 | .thing _=>true
theorem zIU {S:M.S}{a:Nat}{ans:List (T×T)} (ha:S[a]? = some (.dct (ans.map pd))) (hv:∀ q∈ans,q.2.length <= 900) (ps:List Pt) (hq:∀ q∈ps,q.t.length <= 900) (h1:1 <= ps.length) (h2:ps.length <= 49) :
  ∃ l g,ZV [.tup (.str qK::ps.map Pt.d),.non,.ref a] S=.ok (.tup [zv (yU ans ps [] []).1,.ref l]) (S++g)/\(S++g)[l]? = some (.lst ((yU ans ps [] []).2.map .str)):=by
 obtain⟨s',e,f⟩:=zJx (S:=S) (st:=.non) ha hv ps hq h1 h2
 exact zIi e f
noncomputable abbrev R0 (ns:List Int):D:=.ro (ns.map .int)
section
variable {N:List T}{ns:List Int}
theorem zOb (hN:N.length=8) (h17:∀ t∈N,t.length <= 17) {m:Nat} (hm:m <= 12):∃ ps:List Pt,ps.length=m/\(∀ q∈ps,q.t.length <= 60)/\Jk [some (R0 ns),some (.ref 0),some (.int (m:Int)),none,none,none,none,none,none,none,none] [.lst (N.map .str)]=.nx [some (R0 ns),some (.ref 0),some (.int (m:Int)),some (.ref 1),none,none,none,none,none,none,none] [.lst (N.map .str),.lst (ps.map Pt.d)]:=by
 obtain⟨f,hf⟩:=Classical.axiomOfChoice fun k:Nat=>zLm hN h17 (S:=[.lst (N.map .str)]) (p:=0) rfl (Za ns (3+k))
 refine⟨(List.range m).map f,by simp,fun q hq=>?_,?_⟩
 ·obtain⟨k,_,rfl⟩:=List.mem_map.mp hq
  exact (hf k).2
 have q1:(m:Int).natAbs < 4611686018427387904:=by omega
 have hc:qY 1 (jl (zB 2)) (zq 11) yX (zT yh (zD (zT zX (zD (zB 0) (zD (eOp zU (eC (.int 3)) (zB 11)) zI))) (zD (zB 1) zI))) [some (R0 ns),some (.ref 0),some (.int (m:Int)),none,none,none,none,none,none,none,none] [.lst (N.map .str)]=.ok ((List.range ((m:Int) - 0).toNat).map fun k=>(f k).d) [.lst (N.map .str)]:=by
  refine zBE _ (by simp only[jl,zB,List.getElem?_cons_succ,List.getElem?_cons_zero,R.bind_ok,q1,if_true]) (by unfold SZ;omega) fun k hk=>?_
  have ck:∀ s,zX [R0 ns,.int (3+(k:Int))] s=.ok (.int (Za ns (3+k))) s:=fun s=>by
   have:=zA3 ns (3+k) s
   rwa [show ((3+k:Nat):Int)=3+(k:Int) by omega] at this
  simp only[qm,zq,List.cons_append,List.nil_append,List.replicate,List.set_cons_succ,List.set_cons_zero,yX,R.bind_ok,if_true,zT,zD,zI,zB,List.getElem?_cons_succ,List.getElem?_cons_zero,eOp,eC,Int.zero_add,zU,ck,(hf k).1]
 have e0:((m:Int) - 0).toNat=m:=by omega
 rw[e0] at hc
 simp only[Jk,zFa,List.set_cons_zero,List.set_cons_succ,zo,y4,hc,R.bind_ok,alloc,R.stm_ok,zHg,List.map_map]
 rfl
theorem zOG (hN:N.length=8) (h17:∀ t∈N,t.length <= 17) {ps:List Pt} (hp:ps.length <= 12) (hq:∀ q∈ps,q.t.length <= 60) {m:Int}:∃ (told:List T) (o1 o2:O),told.length <= 14/\Ji [some (R0 ns),some (.ref 0),some (.int m),some (.ref 1),none,none,none,none,none,none,none] [.lst (N.map .str),.lst (ps.map Pt.d)]=.nx [some (R0 ns),some (.ref 0),some (.int m),some (.ref 1),some (.ref 4),none,none,none,none,none,none] [.lst (N.map .str),.lst (ps.map Pt.d),o1,o2,.lst (told.map .str)]:=by
 have hc:qY 1 (zDs (zB 3)) (zq 11) (jA cEq (eOp zR (zB 11) (eC (.int 0))) (eC (.str [116,104,105,110,103]))) (eOp zR (zB 11) (eC (.int 1))) [some (R0 ns),some (.ref 0),some (.int m),some (.ref 1),none,none,none,none,none,none,none] [.lst (N.map .str),.lst (ps.map Pt.d)]=.ok (((ps.reverse.filter Pt.isT).map Pt.t).map .str) [.lst (N.map .str),.lst (ps.map Pt.d)]:=by
  have:=zGf (n:=1) (it:=zDs (zB 3)) (tg:=zq 11) (c:=jA cEq (eOp zR (zB 11) (eC (.int 0))) (eC (.str [116,104,105,110,103]))) (e:=eOp zR (zB 11) (eC (.int 1))) (σ:=[some (R0 ns),some (.ref 0),some (.int m),some (.ref 1),none,none,none,none,none,none,none]) (s:=[.lst (N.map .str),.lst (ps.map Pt.d)]) (xs:=(ps.map Pt.d).reverse) (g:=[(1,.lst (ps.map Pt.d))]) (fun d=>match d with | .tup (.str x::_)=>decide (x=[116,104,105,110,103]) | _=>false) (fun d=>match d with | .tup [_,y]=>y | d=>d) (by simp) (by simp;unfold SZ;omega) (by simp[zj]) fun d hd=>by
    rw[List.mem_reverse] at hd
    obtain⟨q,_,rfl⟩:=List.mem_map.mp hd
    cases q with
    | txt t=>simp[Pt.d,at0,at1]
    | thing t=>simp[Pt.d,at0,at1]
  rw[this]
  congr 1
  rw[<- List.map_reverse,List.filter_map,List.map_map,List.map_map]
  have e1:((fun d=>match d with | D.tup (.str x::_)=>decide (x=[116,104,105,110,103]) | _=>false) ∘ Pt.d)=Pt.isT:=by
   funext q
   cases q<;>rfl
  rw[e1]
  apply List.map_congr_left
  intro q _
  cases q<;>rfl
 have tl:((ps.reverse.filter Pt.isT).map Pt.t).length <= 12:=by
  rw[List.length_map]
  have:=List.length_filter_le Pt.isT ps.reverse
  rw[List.length_reverse] at this
  omega
 generalize (ps.reverse.filter Pt.isT).map Pt.t=ts at *
 have l0:=Q3 h17 0
 have l7:=Q3 h17 7
 have n0:=Q0 (ts:=N) (k:=0) (by decide) (by omega)
 have n7:=Q0 (ts:=N) (k:=7) (by decide) (by omega)
 have n0':atI (N.map D.str) 0=some (.str (N.getD 0 [])):=n0
 have n7':atI (N.map D.str) 7=some (.str (N.getD 7 [])):=n7
 generalize N.getD 0 []=a at *
 generalize N.getD 7 []=b at *
 have m1:a.length+1 <= SZ:=by unfold SZ;omega
 have m2:(a++[46]).length+a.length <= SZ:=by rw[List.length_append];unfold SZ;simp;omega
 have z2:(2:Nat) <= SZ:=by decide
 have z3:ts.length+2 <= SZ:=by unfold SZ;omega
 refine⟨ts++[a++[46]++a,b],.lst (ts.map .str),.lst [.str (a++[46]++a),.str b],by simp;omega,?_⟩
 simp only[Ji,zo,eOp,y4,hc,R.bind_ok,alloc,yZ,zD,zI,zB,eC,List.getElem?_cons_zero,List.getElem?_cons_succ,List.cons_append,List.nil_append,zR,n0',n7',zU,List.length_cons,List.length_nil,m1,m2,z2,if_true,List.length_map]
 rw[if_pos z3]
 simp
noncomputable abbrev zCm:SM:=(zQ (zo 7 (zT zX (zD (zB 0) (zD (eOp zU (eC (.int 15)) (zB 6)) zI))))
  (sIf (zAg (jA cGt (eOp jM (zB 7) (eC (.int 8))) (eC (.int 0))) (jA ZI (eOp zR (zB 4) (zB 6)) (zB 5)))
  (zC5 (zB 5) (eOp zR (zB 4) (zB 6)) (eOp j4 (zT jo (zD (eOp qJ (zB 7) (eC (.int 8))) (zD (zB 1) zI))) (eOp zU (eC (.int 1)) (eOp j4 (eC (.int 30)) (zT zDH (zD (QE cEq (eOp jM (zT zX (zD (zB 0) (zD (eC (.int 2)) zI))) (eC (.int 5))) (eC (.int 1))) zI))))))
  ZB))
theorem zOe:Jo=Zn (jl (zT QH (zD (zB 4) zI))) (zq 6) zCm:=rfl
noncomputable def zDx (ans:List (T×T)):Prop:=(qv ans).Nodup/\∀ p∈ans,p.2.length <= 1860
theorem zJO (hN:N.length=8) (h17:∀ t∈N,t.length <= 17) {o0 o1 o2:O}{told:List T}{ans:List (T×T)} (hg:zDx ans) (hal:ans.length <= 50) {m:Int}{v6 v7:Option D}{j:Nat} (hj:j < told.length) :
  ∃ (ans':List (T×T)) (v7':Option D),zDx ans'/\ans'.length <= ans.length+1/\ym (zq 6) zCm (.int (j:Int)) [some (R0 ns),some (.ref 0),some (.int m),some (.ref 1),some (.ref 4),some (.ref 5),v6,v7,none,none,none] [.lst (N.map .str),o0,o1,o2,.lst (told.map .str),.dct (ans.map pd)]=.nx [some (R0 ns),some (.ref 0),some (.int m),some (.ref 1),some (.ref 4),some (.ref 5),some (.int (j:Int)),v7',none,none,none] [.lst (N.map .str),o0,o1,o2,.lst (told.map .str),.dct (ans'.map pd)]:=by
 have hc:=fun s=>zA3 ns (15+j) s
 rw[show ((15+j:Nat):Int)=15+(j:Int) by omega] at hc
 have h2:=fun s=>zA3 ns 2 s
 have h2':∀ s,zX [R0 ns,.int 2] s=.ok (.int (Za ns 2)) s:=h2
 generalize Za ns (15+j)=w at *
 generalize Za ns 2=c2 at *
 have tj:=Q0 (ts:=told) (k:=(j:Int)) (by omega) (by omega)
 generalize told.getD (j:Int).toNat []=tl at *
 obtain⟨y,hy,hyl⟩:=zIq hN h17 (S:=[.lst (N.map .str),o0,o1,o2,.lst (told.map .str),.dct (ans.map pd)]) (p:=0) rfl (w / 8)
 generalize hS:([.lst (N.map .str),o0,o1,o2,.lst (told.map .str),.dct (ans.map pd)]:M.S)=S at *
 have g0:S[0]? = some (.lst (N.map .str)):=by rw[<- hS];rfl
 have g4:S[4]? = some (.lst (told.map .str)):=by rw[<- hS];rfl
 have g5:S[5]? = some (.dct (ans.map pd)):=by rw[<- hS];rfl
 have i1:=zDg g5 tl
 have x4:zR (.ref 4) (.int (j:Int)) S=.ok (.str tl) S:=by simp only[zR,g4,tj]
 have b1:ym (zq 6) zCm (.int (j:Int)) [some (R0 ns),some (.ref 0),some (.int m),some (.ref 1),some (.ref 4),some (.ref 5),v6,v7,none,none,none] S=(sIf (zAg (jA cGt (eOp jM (zB 7) (eC (.int 8))) (eC (.int 0))) (jA ZI (eOp zR (zB 4) (zB 6)) (zB 5)))
  (zC5 (zB 5) (eOp zR (zB 4) (zB 6)) (eOp j4 (zT jo (zD (eOp qJ (zB 7) (eC (.int 8))) (zD (zB 1) zI))) (eOp zU (eC (.int 1)) (eOp j4 (eC (.int 30)) (zT zDH (zD (QE cEq (eOp jM (zT zX (zD (zB 0) (zD (eC (.int 2)) zI))) (eC (.int 5))) (eC (.int 1))) zI))))))
  ZB) [some (R0 ns),some (.ref 0),some (.int m),some (.ref 1),some (.ref 4),some (.ref 5),some (.int (j:Int)),some (.int w),none,none,none] S:=by
  show ((zo 7 (zT zX (zD (zB 0) (zD (eOp zU (eC (.int 15)) (zB 6)) zI)))) [some (R0 ns),some (.ref 0),some (.int m),some (.ref 1),some (.ref 4),some (.ref 5),some (.int (j:Int)),v7,none,none,none] S).then _=_
  have:(zo 7 (zT zX (zD (zB 0) (zD (eOp zU (eC (.int 15)) (zB 6)) zI)))) [some (R0 ns),some (.ref 0),some (.int m),some (.ref 1),some (.ref 4),some (.ref 5),some (.int (j:Int)),v7,none,none,none] S=.nx [some (R0 ns),some (.ref 0),some (.int m),some (.ref 1),some (.ref 4),some (.ref 5),some (.int (j:Int)),some (.int w),none,none,none] S:=by
   simp only[zo,zT,zD,zI,zB,eOp,eC,List.getElem?_cons_zero,List.getElem?_cons_succ,R.bind_ok,zU,hc,R.stm_ok,List.set_cons_zero,List.set_cons_succ]
  rw[this,RS.then_nx]
 rw[b1]
 have m8:(0:Int) < 8:=by decide
 by_cases hw8:0 < w % 8
 case neg =>
  refine⟨ans,some (.int w),hg,Nat.le_succ _,?_⟩
  rw[hS]
  simp[hw8]
 cases q:ZP ans tl with
 | some v =>
  rw[q] at i1
  refine⟨ans,some (.int w),hg,Nat.le_succ _,?_⟩
  rw[hS]
  simp[hw8,-zR,x4,-inD,i1]
 | none =>
  rw[q] at i1
  have e30:∃ n:Nat,n <= 31/\(1+30 * (if decide (c2 % 5=1)=true then (1:Int) else 0))=(n:Int):=by
   by_cases h:c2 % 5=1
   ·exact⟨31,by omega,by simp[h]⟩
   ·exact⟨1,by omega,by simp[h]⟩
  obtain⟨n,hn,en⟩:=e30
  have vl:(List.replicate n y).flatten.length <= 1860:=by
   rw[List.length_flatten,List.map_replicate,List.sum_replicate_nat]
   have:=Nat.mul_le_mul hn hyl
   omega
  have ok:0 <= (n:Int)/\(n:Int).natAbs <= 1000000/\y.length * (n:Int).natAbs <= 1000000:=by
   rw[Int.natAbs_natCast]
   have:=Nat.mul_le_mul hyl hn
   omega
  have ev:(eOp j4 (zT jo (zD (eOp qJ (zB 7) (eC (.int 8))) (zD (zB 1) zI))) (eOp zU (eC (.int 1)) (eOp j4 (eC (.int 30)) (zT zDH (zD (QE cEq (eOp jM (zT zX (zD (zB 0) (zD (eC (.int 2)) zI))) (eC (.int 5))) (eC (.int 1))) zI))))) [some (R0 ns),some (.ref 0),some (.int m),some (.ref 1),some (.ref 4),some (.ref 5),some (.int (j:Int)),some (.int w),none,none,none] S=.ok (.str (List.replicate n y).flatten) S:=by
   have d8:(0:Int) < 8/\(8:Int).natAbs < 1073741824:=by decide
   have m5:(0:Int) < 5:=by decide
   have s30:yp 30=true:=by decide
   simp only[eOp,zT,zD,zI,zB,eC,List.getElem?_cons_zero,List.getElem?_cons_succ,R.bind_ok,qJ,d8,and_self,if_true,hy,QE,h2',jM,m5,cEq,eqD,zDH,j4,s30,Bool.true_or,zU,en,ok,Int.toNat_natCast]
  refine⟨ans++[(tl,(List.replicate n y).flatten)],some (.int w),⟨?_,?_⟩,by simp,?_⟩
  ·have:=zH9 (k:=tl) (v:=(List.replicate n y).flatten) hg.1
   rwa [zEh q] at this
  ·intro p hp
   rcases List.mem_append.mp hp with hp | hp
   ·exact hg.2 p hp
   ·rw[List.mem_singleton.mp hp];exact vl
  ·have zk:ans.length < SZ:=by unfold SZ;omega
   have pn:Zp (.str tl) (.str (List.replicate n y).flatten) (ans.map pd)=(ans++[(tl,(List.replicate n y).flatten)]).map pd:=by rw[zG4,zEh q]
   generalize (List.replicate n y).flatten=V at *
   have st:S.set 5 (.dct ((ans++[(tl,V)]).map pd))=[.lst (N.map .str),o0,o1,o2,.lst (told.map .str),.dct ((ans++[(tl,V)]).map pd)]:=by rw[<- hS];rfl
   have t1:(zAg (jA cGt (eOp jM (zB 7) (eC (.int 8))) (eC (.int 0))) (jA ZI (eOp zR (zB 4) (zB 6)) (zB 5))) [some (R0 ns),some (.ref 0),some (.int m),some (.ref 1),some (.ref 4),some (.ref 5),some (.int (j:Int)),some (.int w),none,none,none] S=.ok true S:=by
    simp[hw8,-zR,x4,-inD,i1]
   have t2:(eOp zR (zB 4) (zB 6)) [some (R0 ns),some (.ref 0),some (.int m),some (.ref 1),some (.ref 4),some (.ref 5),some (.int (j:Int)),some (.int w),none,none,none] S=.ok (.str tl) S:=by
    simp only[eOp,zB,List.getElem?_cons_zero,List.getElem?_cons_succ,R.bind_ok,x4]
   have t3:(zB 5) [some (R0 ns),some (.ref 0),some (.int m),some (.ref 1),some (.ref 4),some (.ref 5),some (.int (j:Int)),some (.int w),none,none,none] S=.ok (.ref 5) S:=rfl
   have t4:QV (.ref 5) (.str tl) (.str V) S=.ok () (S.set 5 (.dct ((ans++[(tl,V)]).map pd))):=by
    rw[<- pn]
    simp[QV,g5,yt,zk]
   simp only[sIf,t1,R.stm_ok,if_true,zC5,ev,t3,t2,t4,st]
end
noncomputable def Zl (ans:List (T×T)):List (T×T):=ans.map fun p=>(p.1,p.2.take 900)
section
variable {N:List T}{ns:List Int}
theorem zOv {ans:List (T×T)} (hg:zDx ans) (hal:ans.length <= 50) {o0 o1 o2 o3 o4:O}{v2 v6 v7:Option D}:∃ o6:O,zA5 [some (R0 ns),some (.ref 0),v2,some (.ref 1),some (.ref 4),some (.ref 5),v6,v7,none,none,none] [o0,o1,o2,o3,o4,.dct (ans.map pd)]=.nx [some (R0 ns),some (.ref 0),v2,some (.ref 1),some (.ref 4),some (.ref 7),v6,v7,none,none,none] [o0,o1,o2,o3,o4,.dct (ans.map pd),o6,.dct ((Zl ans).map pd)]:=by
 have z2:(2:Nat) <= SZ:=by decide
 have kn:(qv (Zl ans)).Nodup:=by
  have:qv (Zl ans)=qv ans:=by unfold qv Zl;rw[List.map_map];rfl
  rw[this];exact hg.1
 have hc:qY 1 (zCd (zB 5)) (zq 11) yX (qV (zD (zB 11) (zD (eSl (eOp zR (zB 5) (zB 11)) QR (yB (eC (.int 900)))) zI))) [some (R0 ns),some (.ref 0),v2,some (.ref 1),some (.ref 4),some (.ref 5),v6,v7,none,none,none] [o0,o1,o2,o3,o4,.fdc (ans.map pd)]=.ok ((Zl ans).map fun p=>.tup [.str p.1,.str p.2]) [o0,o1,o2,o3,o4,.fdc (ans.map pd)]:=by
  have:=zDD (n:=1) (it:=zCd (zB 5)) (tg:=zq 11) (e:=qV (zD (zB 11) (zD (eSl (eOp zR (zB 5) (zB 11)) QR (yB (eC (.int 900)))) zI))) (σ:=[some (R0 ns),some (.ref 0),v2,some (.ref 1),some (.ref 4),some (.ref 5),v6,v7,none,none,none]) (s:=[o0,o1,o2,o3,o4,.fdc (ans.map pd)]) (xs:=(ans.map pd).map (·.1)) (g:=[]) (fun d=>match d with | .str x=>.tup [.str x,.str (((ZP ans x).getD []).take 900)] | d=>d) (by simp) (by simp;unfold SZ;omega) rfl fun x hx=>by
    obtain⟨q,hq,rfl⟩:=List.mem_map.mp hx
    obtain⟨p,hp,rfl⟩:=List.mem_map.mp hq
    have hgt:=zBN hg.1 hp
    have hl:=hg.2 p hp
    have zp:p.2.length <= SZ:=by unfold SZ;omega
    have hd:yx (.str p.1) (ans.map pd)=some (.str p.2):=by rw[zAw,hgt];rfl
    have c9:cut p.2 none (some 900)=p.2.take 900:=zNq _ (by decide)
    show qm 1 (zq 11) yX _ _ (.str p.1) _=_
    simp[yt,hd,zp,c9,z2,pd,hgt]
  rw[this]
  congr 1
  unfold Zl
  rw[List.map_map,List.map_map,List.map_map]
  apply List.map_congr_left
  intro p hp
  have hgt:=zBN hg.1 hp
  simp only[Function.comp,pd,hgt,Option.getD_some]
 have hp:=zF4 (Zl ans)
 have hu:zKw ((Zl ans).map pd)=(Zl ans).map pd:=zHA (Zl ans) [] kn
 have l1:((Zl ans).map pd).length <= 1000:=by simp[Zl];omega
 refine⟨.lst ((Zl ans).map fun p=>.tup [.str p.1,.str p.2]),?_⟩
 show (zGM 5 (zo 5 (zT zB8 (zD (y4 1 (zCd (zB 5)) (zq 11) yX (qV (zD (zB 11) (zD (eSl (eOp zR (zB 5) (zB 11)) QR (yB (eC (.int 900)))) zI)))) zI)))) _ _=_
 simp only[zGM,List.getElem?_cons_zero,List.getElem?_cons_succ,List.set_cons_zero,List.set_cons_succ,zo,zT,zD,zI,y4,hc,R.bind_ok,alloc,List.cons_append,List.nil_append,List.length_cons,List.length_nil,zB8,hp,hu]
 rw[if_pos l1]
 simp[-List.length_map]
theorem zJr (ns:List Int) (hl:ns.length <= 63):∃ s,zHu [.ro (ns.map .int)] []=.ok (.bl true) s:=by
 obtain⟨N,hNd⟩:∃ N,N=qp (Za ns 0) 8:=⟨_,rfl⟩
 have hN:N.length=8:=by rw[hNd];exact zBY _ 8
 have h17:∀ t∈N,t.length <= 17:=fun t ht=>(zEy (Za ns 0) 8 t (by rw[<- hNd];exact ht)).2
 have ca0:∀ s,zX [R0 ns,.int 0] s=.ok (.int (Za ns 0)) s:=fun s=>zA3 ns 0 s
 have ca1:∀ s,zX [R0 ns,.int 1] s=.ok (.int (Za ns 1)) s:=fun s=>zA3 ns 1 s
 have e1:Jn [some (R0 ns),none,none,none,none,none,none,none,none,none,none] []=.nx [some (R0 ns),some (.ref 0),none,none,none,none,none,none,none,none,none] [.lst (N.map .str)]:=by
  simp only[Jn,zo,zT,zD,zI,zB,eC,List.getElem?_cons_zero,R.bind_ok,ca0,y6,<- hNd,alloc,R.stm_ok,List.set_cons_zero,List.set_cons_succ]
  rfl
 have b0:=Int.emod_nonneg (Za ns 1) (show (11:Int)≠0 by decide)
 have b1:=Int.emod_lt_of_pos (Za ns 1) (show (0:Int) < 11 by decide)
 obtain⟨m,hm⟩:∃ m:Nat,2+Za ns 1 % 11=(m:Int):=⟨(2+Za ns 1 % 11).toNat,by omega⟩
 have e2:∀ s,Jf [some (R0 ns),some (.ref 0),none,none,none,none,none,none,none,none,none] s=.nx [some (R0 ns),some (.ref 0),some (.int (m:Int)),none,none,none,none,none,none,none,none] s:=fun s=>by
  have m11:(0:Int) < 11:=by decide
  simp only[Jf,zo,eOp,zT,zD,zI,zB,eC,List.getElem?_cons_zero,R.bind_ok,ca1,jM,m11,if_true,zU,hm,R.stm_ok,List.set_cons_zero,List.set_cons_succ]
 obtain⟨ps,pl,pq,e3⟩:=zOb (ns:=ns) hN h17 (m:=m) (by omega)
 obtain⟨told,o1,o2,tl,e4⟩:=zOG (ns:=ns) hN h17 (ps:=ps) (by omega) pq (m:=(m:Int))
 have e5:zAm [some (R0 ns),some (.ref 0),some (.int (m:Int)),some (.ref 1),some (.ref 4),none,none,none,none,none,none] [.lst (N.map .str),.lst (ps.map Pt.d),o1,o2,.lst (told.map .str)]=.nx [some (R0 ns),some (.ref 0),some (.int (m:Int)),some (.ref 1),some (.ref 4),some (.ref 5),none,none,none,none,none] [.lst (N.map .str),.lst (ps.map Pt.d),o1,o2,.lst (told.map .str),.dct (([]:List (T×T)).map pd)]:=rfl
 obtain⟨ans,v6,v7,hg,hal,e6⟩:∃ (ans:List (T×T)) (v6 v7:Option D),zDx ans/\ans.length <= 50/\Jo [some (R0 ns),some (.ref 0),some (.int (m:Int)),some (.ref 1),some (.ref 4),some (.ref 5),none,none,none,none,none] [.lst (N.map .str),.lst (ps.map Pt.d),o1,o2,.lst (told.map .str),.dct (([]:List (T×T)).map pd)]=.nx [some (R0 ns),some (.ref 0),some (.int (m:Int)),some (.ref 1),some (.ref 4),some (.ref 5),v6,v7,none,none,none] [.lst (N.map .str),.lst (ps.map Pt.d),o1,o2,.lst (told.map .str),.dct (ans.map pd)]:=by
  obtain⟨σ',s',e,ans,v6,v7,hg,hal,h1,h2⟩:=zAR (g:=[]) (f:=ym (zq 6) zCm) (fun j σ s=>∃ (ans:List (T×T)) (v6 v7:Option D),zDx ans/\ans.length <= j/\σ=[some (R0 ns),some (.ref 0),some (.int (m:Int)),some (.ref 1),some (.ref 4),some (.ref 5),v6,v7,none,none,none]/\s=[.lst (N.map .str),.lst (ps.map Pt.d),o1,o2,.lst (told.map .str),.dct (ans.map pd)]) (jp 0 (told.length:Int)) 0 [some (R0 ns),some (.ref 0),some (.int (m:Int)),some (.ref 1),some (.ref 4),some (.ref 5),none,none,none,none,none] [.lst (N.map .str),.lst (ps.map Pt.d),o1,o2,.lst (told.map .str),.dct (([]:List (T×T)).map pd)] ⟨[],none,none,⟨List.nodup_nil,by simp⟩,Nat.le_refl _,rfl,rfl⟩ fun j d hd σ s ⟨ans,v6,v7,hg,hal,e1,e2⟩=>by
   subst e1 e2
   have hjl:j < told.length:=by have:=(List.getElem?_eq_some_iff.mp hd).1;simpa [jp] using this
   have hd':d=.int (j:Int):=by
    unfold jp at hd
    rw[List.getElem?_map] at hd
    cases q2:(List.range ((told.length:Int) - 0).toNat)[j]? with
    | none=>rw[q2] at hd;cases hd
    | some m =>
     rw[q2] at hd
     have:=(List.getElem?_eq_some_iff.mp q2).2
     rw[List.getElem_range] at this
     subst this
     simp at hd
     exact hd.symm
   subst hd'
   obtain⟨ans',v7',hg',hl',e⟩:=zJO (ns:=ns) hN h17 (o0:=.lst (ps.map Pt.d)) (o1:=o1) (o2:=o2) (told:=told) hg (by omega) (m:=(m:Int)) (v6:=v6) (v7:=v7) hjl
   exact⟨_,_,e,rfl,ans',_,v7',hg',by omega,rfl,rfl⟩
  have lr:(jp 0 (told.length:Int)).length=told.length:=by simp[jp]
  refine⟨ans,v6,v7,hg,by omega,?_⟩
  subst h1 h2
  rw[zOe]
  have hgd:∀ s,zj [] s=true:=fun _=>rfl
  have q1:(told.length:Int).natAbs < 4611686018427387904:=by omega
  simp only[Zn,jl,zT,QH,zD,zI,zB,List.getElem?_cons_zero,List.getElem?_cons_succ,R.bind_ok,List.length_map,q1,if_true,R.stm_ok,hgd,e]
 obtain⟨o6,e7⟩:=zOv (ns:=ns) hg hal (o0:=.lst (N.map .str)) (o1:=.lst (ps.map Pt.d)) (o2:=o1) (o3:=o2) (o4:=.lst (told.map .str)) (v2:=some (.int (m:Int))) (v6:=v6) (v7:=v7)
 have hv9:∀ q∈Zl ans,q.2.length <= 900:=fun q hq=>by
  obtain⟨p,_,rfl⟩:=List.mem_map.mp hq
  dsimp only
  rw[List.length_take];omega
 have kn:(qv (Zl ans)).Nodup:=by
  have:qv (Zl ans)=qv ans:=by unfold qv Zl;rw[List.map_map];rfl
  rw[this];exact hg.1
 generalize Zl ans=A at *
 generalize hS:([.lst (N.map .str),.lst (ps.map Pt.d),o1,o2,.lst (told.map .str),.dct (ans.map pd),o6,.dct (A.map pd)]:M.S)=S at *
 have g1:S[1]? = some (.lst (ps.map Pt.d)):=by rw[<- hS];rfl
 have g7:S[7]? = some (.dct (A.map pd)):=by rw[<- hS];rfl
 have pq9:∀ q∈ps,q.t.length <= 900:=fun q hq=>Nat.le_trans (pq q hq) (by decide)
 obtain⟨l,g,ed,hld⟩:=zNe g1 g7 hv9 pq9 (by omega)
 have hr:=zEj A ps [] []
 have e8:Jj [some (R0 ns),some (.ref 0),some (.int (m:Int)),some (.ref 1),some (.ref 4),some (.ref 7),v6,v7,none,none,none] S=.nx [some (R0 ns),some (.ref 0),some (.int (m:Int)),some (.ref 1),some (.ref 4),some (.ref 7),v6,v7,some (.tup [zv (yU A ps [] []).1,.ref l]),none,none] (S++g):=by
  simp only[Jj,zo,zT,zD,zI,zB,List.getElem?_cons_zero,List.getElem?_cons_succ,R.bind_ok,ed,R.stm_ok,List.set_cons_zero,List.set_cons_succ]
 have wk:=fun (S':M.S) (a:Nat) (h:S'[a]? = some (.dct (A.map pd)))=>zIU h hv9 ps pq9 (by omega) (by omega)
 generalize yU A ps [] []=r at *
 have g7g:=jk g7 g
 have e9:Jg [some (R0 ns),some (.ref 0),some (.int (m:Int)),some (.ref 1),some (.ref 4),some (.ref 7),v6,v7,some (.tup [zv r.1,.ref l]),none,none] (S++g)=.nx [some (R0 ns),some (.ref 0),some (.int (m:Int)),some (.ref 1),some (.ref 4),some (.ref 7),v6,v7,some (.tup [zv r.1,.ref l]),some (.ref (S++g).length),none] (S++g++[.dct (A.map pd)]):=by
  simp only[Jg,zo,zT,zD,zI,zB,List.getElem?_cons_zero,List.getElem?_cons_succ,R.bind_ok,zFe,g7g,alloc,R.stm_ok,List.set_cons_zero,List.set_cons_succ]
 generalize hW:S++g++[O.dct (A.map pd)]=W at *
 have w1:W[1]? = some (.lst (ps.map Pt.d)):=by rw[<- hW];exact jk (jk g1 _) _
 have w7:W[7]? = some (.dct (A.map pd)):=by rw[<- hW];exact jk g7g _
 have wl:W[l]? = some (.lst (r.2.map .str)):=by rw[<- hW];exact jk hld _
 have w9:W[(S++g).length]? = some (.dct (A.map pd)):=by rw[<- hW];exact List.getElem?_concat_length
 generalize (S++g).length=gv at *
 have ftree:∀ {W:M.S},W[1]? = some (.lst (ps.map Pt.d))->W[gv]? = some (.dct (A.map pd))->∀ (v8 v10:Option D),∃ l' g',(zT ZV (zD (zT J5 (zD (eOp zU (yZ (zD (eC (.str [106,111,105,110])) zI)) (zB 3)) zI)) (zD (eC .non) (zD (zB 9) zI)))) [some (R0 ns),some (.ref 0),some (.int (m:Int)),some (.ref 1),some (.ref 4),some (.ref 7),v6,v7,v8,some (.ref gv),v10] W=.ok (.tup [zv r.1,.ref l']) (W++g')/\(W++g')[l']? = some (.lst (r.2.map .str)):=fun {W} w1 wg v8 v10=>by
  have z1:(1:Nat) <= SZ:=by decide
  have zp:1+(ps.map Pt.d).length <= SZ:=by rw[List.length_map];unfold SZ;omega
  have a1:(W++[O.lst [.str [106,111,105,110]]])[W.length]? = some (.lst [.str [106,111,105,110]]):=List.getElem?_concat_length
  have a2:=jk w1 [O.lst [.str [106,111,105,110]]]
  have a3:jN (W++[O.lst [.str [106,111,105,110]]]++[O.lst (.str [106,111,105,110]::ps.map Pt.d)]) (W++[O.lst [.str [106,111,105,110]]]).length=some (.str [106,111,105,110]::ps.map Pt.d):=by simp[jN]
  obtain⟨l',g',e,k⟩:=wk (W++[O.lst [.str [106,111,105,110]]]++[O.lst (.str [106,111,105,110]::ps.map Pt.d)]) gv (jk (jk wg _) _)
  refine⟨l',[O.lst [.str [106,111,105,110]]]++[O.lst (.str [106,111,105,110]::ps.map Pt.d)]++g',?_,?_⟩
  ·have ea:W++([O.lst [.str [106,111,105,110]]]++[O.lst (.str [106,111,105,110]::ps.map Pt.d)]++g')=W++[O.lst [.str [106,111,105,110]]]++[O.lst (.str [106,111,105,110]::ps.map Pt.d)]++g':=by simp
   rw[ea]
   simp only[zT,zD,zI,eOp,yZ,eC,zB,List.getElem?_cons_zero,List.getElem?_cons_succ,R.bind_ok,List.length_cons,List.length_nil,z1,if_true,alloc,zU,a1,a2]
   rw[if_pos (by simpa using zp)]
   simp only[R.bind_ok,List.cons_append,List.nil_append,J5,a3]
   exact e
  ·have ea:W++([O.lst [.str [106,111,105,110]]]++[O.lst (.str [106,111,105,110]::ps.map Pt.d)]++g')=W++[O.lst [.str [106,111,105,110]]]++[O.lst (.str [106,111,105,110]::ps.map Pt.d)]++g':=by simp
   rw[ea];exact k
 obtain⟨l1,g1',e10',k10⟩:=ftree w1 w9 (some (.tup [zv r.1,.ref l])) none
 have e10:Jt [some (R0 ns),some (.ref 0),some (.int (m:Int)),some (.ref 1),some (.ref 4),some (.ref 7),v6,v7,some (.tup [zv r.1,.ref l]),some (.ref gv),none] W=.nx [some (R0 ns),some (.ref 0),some (.int (m:Int)),some (.ref 1),some (.ref 4),some (.ref 7),v6,v7,some (.tup [zv r.1,.ref l]),some (.ref gv),some (.tup [zv r.1,.ref l1])] (W++g1'):=by
  show (((zT ZV _) _ W).stm _ _)=_
  rw[e10']
  rfl
 have at0':∀ (x y:D),atI [x,y] 0=some x:=fun x y=>at0 x [y]
 have at1':∀ (x y:D),atI [x,y] 1=some y:=fun x y=>at1 x y []
 have e11:JC [some (R0 ns),some (.ref 0),some (.int (m:Int)),some (.ref 1),some (.ref 4),some (.ref 7),v6,v7,some (.tup [zv r.1,.ref l]),some (.ref gv),some (.tup [zv r.1,.ref l1])] (W++g1')=.nx [some (R0 ns),some (.ref 0),some (.int (m:Int)),some (.ref 1),some (.ref 4),some (.ref 7),v6,v7,some (.tup [zv r.1,.ref l]),some (.ref gv),some (.tup [zv r.1,.ref l1])] (W++g1'):=by
  have q2:eqD (.int 2) (.int 2) (W++g1')=.ok true (W++g1'):=by simp
  simp[JC,at0',-eqD,q2,zv]
 have e12:Q7 [some (R0 ns),some (.ref 0),some (.int (m:Int)),some (.ref 1),some (.ref 4),some (.ref 7),v6,v7,some (.tup [zv r.1,.ref l]),some (.ref gv),some (.tup [zv r.1,.ref l1])] (W++g1')=.nx [some (R0 ns),some (.ref 0),some (.int (m:Int)),some (.ref 1),some (.ref 4),some (.ref 7),v6,v7,some (.tup [zv r.1,.ref l]),some (.ref gv),some (.tup [zv r.1,.ref l1])] (W++g1'):=by
  have z2:(2:Nat) <= SZ:=by decide
  have hc:qY 1 (iE (eOp zR (zB 10) (eC (.int 0)))) (zq 11) yX (zT zAV (zD (zB 11) (zD (eC (.ty .str)) zI))) [some (R0 ns),some (.ref 0),some (.int (m:Int)),some (.ref 1),some (.ref 4),some (.ref 7),v6,v7,some (.tup [zv r.1,.ref l]),some (.ref gv),some (.tup [zv r.1,.ref l1])] (W++g1')=.ok (([D.str r.1.1,D.str r.1.2]).map fun _=>.bl true) (W++g1'):=by
   refine zDD (g:=[]) _ (by simp[at0',zv]) z2 rfl fun x hx=>?_
   rcases List.mem_cons.mp hx with rfl | hx
   ·simp
   ·rw[List.mem_singleton.mp hx];simp
  have ka:zDQ (([D.str r.1.1,D.str r.1.2]).map fun _=>D.bl true) (W++g1')=.ok (.bl true) (W++g1'):=by
   have:=all_map (fun _:D=>true) [D.str r.1.1,D.str r.1.2] (W++g1')
   rw[this];simp
  have hk:QN .list (.ref l1) (W++g1')=.ok true (W++g1'):=by simp[QN,k10]
  simp only[Q7,sIf,tOr,zBF,zC6,zT,zD,zI,eOp,zB,eC,List.getElem?_cons_zero,List.getElem?_cons_succ,R.bind_ok,zR,at1',zAV,hk,Jc,Bool.not_true,Bool.false_eq_true,if_false,JO,hc,ka,R.stm_ok,ZB]
 obtain⟨l2,g2',e13',k13⟩:=ftree (jk w1 g1') (jk w9 g1') (some (.tup [zv r.1,.ref l])) (some (.tup [zv r.1,.ref l1]))
 have q1:=zGq r.1 k10 (jk wl g1')
 have q2:=zIS kn (jk w9 g1') (jk w7 g1')
 have q3:=zGq r.1 k13 (jk (jk wl g1') g2')
 have e13:JF [some (R0 ns),some (.ref 0),some (.int (m:Int)),some (.ref 1),some (.ref 4),some (.ref 7),v6,v7,some (.tup [zv r.1,.ref l]),some (.ref gv),some (.tup [zv r.1,.ref l1])] (W++g1')=.rt (.bl true) (W++g1'++g2'):=by
  have x1:(QE cEq (zB 10) (zB 8)) [some (R0 ns),some (.ref 0),some (.int (m:Int)),some (.ref 1),some (.ref 4),some (.ref 7),v6,v7,some (.tup [zv r.1,.ref l]),some (.ref gv),some (.tup [zv r.1,.ref l1])] (W++g1')=.ok (.bl true) (W++g1'):=by
   simp only[QE,zB,List.getElem?_cons_zero,List.getElem?_cons_succ,R.bind_ok,cEq,q1]
  have x2:(QE cEq (zB 9) (zB 5)) [some (R0 ns),some (.ref 0),some (.int (m:Int)),some (.ref 1),some (.ref 4),some (.ref 7),v6,v7,some (.tup [zv r.1,.ref l]),some (.ref gv),some (.tup [zv r.1,.ref l1])] (W++g1')=.ok (.bl true) (W++g1'):=by
   simp only[QE,zB,List.getElem?_cons_zero,List.getElem?_cons_succ,R.bind_ok,cEq,q2]
  unfold JF
  generalize zT ZV (zD (zT J5 (zD (eOp zU (yZ (zD (eC (.str [106,111,105,110])) zI)) (zB 3)) zI)) (zD (eC .non) (zD (zB 9) zI)))=E at *
  have x3:(QE cEq E (zB 8)) [some (R0 ns),some (.ref 0),some (.int (m:Int)),some (.ref 1),some (.ref 4),some (.ref 7),v6,v7,some (.tup [zv r.1,.ref l]),some (.ref gv),some (.tup [zv r.1,.ref l1])] (W++g1')=.ok (.bl true) (W++g1'++g2'):=by
   simp only[QE,e13',zB,List.getElem?_cons_zero,List.getElem?_cons_succ,R.bind_ok,cEq,q3]
  simp only[j6,zGD,x1,x2,x3,R.bind_ok,asB,if_true,R.stm_ok]
 refine⟨W++g1'++g2',?_⟩
 show (zQ Jn (zQ Jf (zQ Jk (zQ Ji (zQ zAm (zQ Jo (zQ zA5 (zQ Jj (zQ Jg (zQ Jt (zQ JC (zQ Q7 JF))))))))))) [some (R0 ns),none,none,none,none,none,none,none,none,none,none] []).out=_
 simp only[zQ,e1,RS.then_nx,e2,e3,e4,e5,e6,e7,e8,e9,e10,e11,e12,e13]
 rfl
end
end
end M
namespace My
open PySem L2 PyProof.Rows
noncomputable def top (i:Nat):Stmt:=PySem.Challenge.pw_thingyard_k43_asked_in_order.main.body.getD i (.Pass ⟨0,0,0,0⟩)
theorem vv {X:Cx}{Θ:Tab}{pos:Pos}{x:Str} (i:Nat) (h1:X.N[i]? = some x:=by rfl) (h2:Vis X.env.scope x:=by exact Or.inl (by kernel_rfl)) (h3:(x == ("__debug__" : Str))=false:=by kernel_rfl) (h4:(x == ("__classdict__" : Str))=false:=by kernel_rfl):WE X Θ (.Name x pos) (M.zB i):=zFv i h1 h2 h3 h4
theorem vc {X:Cx}{Θ:Tab}{pos:Pos}{x:Str} (i:Nat) (h1:X.N[i]? = some x:=by rfl) (h2:Vis X.env.scope x:=by exact Or.inr (Or.inl (by kernel_rfl))) (h3:(x == ("__debug__" : Str))=false:=by kernel_rfl) (h4:(x == ("__classdict__" : Str))=false:=by kernel_rfl):WE X Θ (.Name x pos) (M.zB i):=zFv i h1 h2 h3 h4
theorem zz {X:Cx}{Θ:Tab}{pos:Pos}{y:M.T}{x:Str}{j:Nat} (h:x=ofT y:=by decide +kernel) (ok:okT y:=by decide +kernel):WE X Θ (.Constant (.str x) j pos) (M.eC (.str y)):=zKU h ok
theorem gk {X:Cx}{x:Str} (h:X.env.kindOf x=some .globalImplicit:=by kernel_rfl):Gl X x:=h
noncomputable abbrev cX (P:Program) (w:World) (K:PySem.W.Frag) (mg:Str->Option Value) (base:Heap) (N:List Str) (n:Str) (st:Stmt) (f:Addr) (cdv:Value) (A:Around) (outer:List Env) (s:Shared) (H:Hp) (E:XK):Cx:=(Qa CX0 P w K mg base N n (zL st) f cdv A outer s H E).nox
noncomputable abbrev RM (k:Nat) (n:Str) (st:Stmt) (A:Around) (s:Shared) (f:Addr) (cdv:Value):Prop:=zy k (A.deeper (envOfC n (zL st) s.heap.objs.size f cdv))
noncomputable abbrev bd (st:Stmt) (j:Nat):Stmt:=(zx st).getD j (.Pass ⟨0,0,0,0⟩)
noncomputable def zFf (K:PySem.W.Frag):Sp:=fun vs H Q E=>∀ Θ:Tab,SpM K Θ 1 M.zHu vs H Q E
theorem zKd {K:PySem.W.Frag}{H:Hp}{a:Addr}{ns:List Int}{E:XK} (hl:ns.length <= 63) (hO:zGJ H) (hS:SqL K H a (ns.map V.int)):zFf K [.ref a] H (fun v _=>v=.bl true) E:=fun _=>zNi M.zJr hl hO hS
noncomputable def Θ1 (zA:Addr):Tab:=fun c=>if c=4 then some (zA,["stem","answers","used","steps","texts","todo","ended"]) else none
section
variable (P:Program) (w:World) (K:PySem.W.Frag) (mg:Str->Option Value) (base:Heap) (zA:Addr)
noncomputable abbrev yI:Prop:=Has P w K mg base "_law_letter" 1 ["_law_cell"] (SpM K (Θ1 zA) 1 M.jL)
noncomputable abbrev Qi:Prop:=Has P w K mg base "_law_plain_by" 2 ["_law_cell","_law_k"] (SpM K (Θ1 zA) 2 M.yC)
noncomputable abbrev Qg:Prop:=Has P w K mg base "_law_names_by" 3 ["_law_cell"] (SpM K (Θ1 zA) 1 M.y6)
noncomputable abbrev zBX:Prop:=Has P w K mg base "_law_due" 1 ["_law_parts","_law_answers"] (SpM K (Θ1 zA) 2 M.JZ)
noncomputable abbrev JQ:Prop:=zJd P w K mg base zA "Working" 1 ["self","tree","stem","answers"] (SpM K (Θ1 zA) 4 M.qw)
noncomputable abbrev JD:Prop:=JB P w K mg base zA "fail" 1 ["self","words"] (SpM K (Θ1 zA) 2 M.ZM)
noncomputable abbrev ZF:Prop:=JB P w K mg base zA "come_to" 2 ["self","text"] (SpM K (Θ1 zA) 2 M.jq)
noncomputable abbrev Qv:Prop:=JB P w K mg base zA "bare_text" 1 ["self","part","it"] (SpM K (Θ1 zA) 3 M.yo)
noncomputable abbrev Zv:Prop:=JB P w K mg base zA "come_to_answer" 3 ["self","name"] (SpM K (Θ1 zA) 2 M.ji)
noncomputable abbrev Qs:Prop:=JB P w K mg base zA "put_parts" 1 ["self","parts","it"] (SpM K (Θ1 zA) 3 M.jr)
noncomputable abbrev Qb:Prop:=JB P w K mg base zA "begin_inner" 2 ["self","part","it"] (SpM K (Θ1 zA) 3 M.yE)
noncomputable abbrev zAQ:Prop:=JB P w K mg base zA "begin" 4 ["self","part","it"] (SpM K (Θ1 zA) 3 M.ju)
noncomputable abbrev JR:Prop:=JB P w K mg base zA "end_join" 3 ["self","number"] (SpM K (Θ1 zA) 2 M.jm)
noncomputable abbrev zBj:Prop:=JB P w K mg base zA "run" 5 ["self"] (SpM K (Θ1 zA) 1 M.y0)
noncomputable abbrev zBB:Prop:=Has P w K mg base "worked" 6 ["tree","stem","answers"] (SpM K (Θ1 zA) 3 M.ZV)
noncomputable abbrev zCJ:Prop:=Has P w K mg base "_law_mixed" 1 ["_law_cell","_law_k"] (SpM K (Θ1 zA) 2 M.Zw)
noncomputable abbrev yg:Prop:=Has P w K mg base "_law_cell_at" 2 ["_law_script","_law_k"] (SpM K (Θ1 zA) 2 M.zX)
noncomputable abbrev zAk:Prop:=Has P w K mg base "_law_sign_by" 1 ["_law_cell"] (SpM K (Θ1 zA) 1 M.qr)
noncomputable abbrev Z8:Prop:=Has P w K mg base "_law_text_by" 2 ["_law_cell","_law_size"] (SpM K (Θ1 zA) 2 M.yi)
noncomputable abbrev JE:Prop:=Has P w K mg base "_law_part_by" 3 ["_law_cell","_law_names"] (SpM K (Θ1 zA) 2 M.yh)
noncomputable abbrev QZ:Prop:=Has P w K mg base "_law_answer_by" 3 ["_law_cell","_law_names"] (SpM K (Θ1 zA) 2 M.jo)
end
variable {P:Program}{w:World}{K:PySem.W.Frag}{mg:Str->Option Value}{base:Heap}{f:Addr}{fd:FuncData}{cdv:Value}{A:Around}{outer:List Env}{s:Shared}{H:Hp}{E:XK}{zA:Addr}
noncomputable abbrev jK (K:PySem.W.Frag) (zA:Addr):Prop:=QI K (Θ1 zA) 4 zA ["stem","answers","used","steps","texts","todo","ended"]
noncomputable abbrev yy:Stmt:=top 22
noncomputable abbrev zFQ:List Str:=["_law_cell"]
theorem zEW:jC zFQ ["_law_cell"] (zL yy):=⟨rfl,rfl,rfl,by decide +kernel,rfl,by decide +kernel,by decide +kernel⟩
theorem zEc (F:Fun K "_law_letter" "_law_letter" yy f fd) :
  jW P w K mg base CX0 1 f fd ["_law_cell"] (SpM K (Θ1 zA) 1 M.jL):=by
 refine QA (b:=M.QT) F zEW M.zEI fun cdv A outer s H E hr=>?_
 unfold M.QT
 exact (zJ (jD (zc (jQ hr) z7 zz (zK qT jt (vv 0) zE))))
noncomputable abbrev zV:Stmt:=top 23
noncomputable abbrev qW:List Str:=["_law_cell","_law_k","_law_base","_law_size","_law_at"]
theorem ZZ:jC qW ["_law_cell","_law_k"] (zL zV):=⟨rfl,rfl,rfl,by decide +kernel,rfl,by decide +kernel,by decide +kernel⟩
theorem zCH:(["_law_cell","_law_k","_law_base","_law_size","_law_at","_law_j"]:List Str).Nodup:=by decide +kernel
theorem zB7 (jG:yI P w K mg base zA) (jZ:mg "range" = none) (hr:RM 1 "_law_plain_by" zV A s f cdv):WS (cX P w K mg base qW "_law_plain_by" zV f cdv A outer s H E) (Θ1 zA) (bd zV 0) M.qh:=by
 unfold M.qh
 exact (zw (i:=2) ZZ.nd rfl (Or.inl (by kernel_rfl)) (zEE (by decide +kernel) (vars:=["_law_j"]) rfl ⟨rfl,rfl,(by kernel_rfl),(by kernel_rfl),(by decide +kernel),⟨(by kernel_rfl),trivial⟩,(by kernel_rfl)⟩ (ZC gk jZ zE) (fun _ _ _ _=>(qQ (i:=5) zCH rfl (Or.inl (by kernel_rfl)) (.inr (by kernel_rfl)))) (fun _ _ _ _=>Q9) (fun _ _ _ _=>(jd jG hr (by decide) gk (zC (zK qT jt (zK Qf Qh (zK (OpR.or jB zl) zu (zK ZE yO (vc 0) zE) (zK Qf Qh (vv 5) zE)) zE) zE) zH) (zS jF))) (by kernel_rfl) (fun ρ H S ds ys p Q rp r hq h=>zGc (by decide +kernel) ρ H S ds ys p Q rp r (.inl hq) h)))
theorem zCT (hr:RM 1 "_law_plain_by" zV A s f cdv):WS (cX P w K mg base qW "_law_plain_by" zV f cdv A outer s H E) (Θ1 zA) (bd zV 1) M.qA:=by
 unfold M.qA
 exact (zw (i:=3) ZZ.nd rfl (Or.inl (by kernel_rfl)) (zc (jQ hr) z7 (qq (zC zE (zC zE (zC zE (zC zE (zC zE (zC zE zH))))))) (zK qT jt (zK ZE yO (vc 0) zE) zE)))
theorem zB5 (hr:RM 1 "_law_plain_by" zV A s f cdv):WS (cX P w K mg base qW "_law_plain_by" zV f cdv A outer s H E) (Θ1 zA) (bd zV 2) M.j8:=by
 unfold M.j8
 exact (jJ (zr (jz hr) qX (zK qT jt (zK ZE yO (vc 0) zE) zE) zE (jX _))
  (zJ (jD (Zh zAc JJ (vv 2) Qc (qB (zK (OpR.or jB zl) zu (vv 1) zE)))))
  qC)
theorem zCC (hr:RM 1 "_law_plain_by" zV A s f cdv):WS (cX P w K mg base qW "_law_plain_by" zV f cdv A outer s H E) (Θ1 zA) (bd zV 3) M.qk:=by
 unfold M.qk
 exact (zw (i:=4) ZZ.nd rfl (Or.inl (by kernel_rfl)) (zK qT jt (zK ZE yO (vc 0) zE) (vv 3)))
theorem zCO (jG:yI P w K mg base zA) (hr:RM 1 "_law_plain_by" zV A s f cdv):WS (cX P w K mg base qW "_law_plain_by" zV f cdv A outer s H E) (Θ1 zA) (bd zV 4) M.qe:=by
 unfold M.qe
 exact (jJ (zr (jz hr) qX (zK qT jt (zK ZE yO (vc 0) zE) zE) zE (jX _))
  (zJ (jD (zK (OpR.or jB zl) zu (zK (OpR.or jB zl) zu (Zh zAc JJ (vv 2) Qc (qB (vv 4))) (jd jG hr (by decide) gk (zC (zK (OpR.or jB zl) zu (vc 0) (vv 1)) zH) (zS jF))) (Zh zAc JJ (vv 2) (qB (zK (OpR.or jB zl) zu (vv 4) zE)) (qB (vv 3))))))
  qC)
theorem zCI (jG:yI P w K mg base zA) (hr:RM 1 "_law_plain_by" zV A s f cdv):WS (cX P w K mg base qW "_law_plain_by" zV f cdv A outer s H E) (Θ1 zA) (bd zV 5) M.yN:=by
 unfold M.yN
 exact (jD (zK (OpR.or jB zl) zu (jd jG hr (by decide) gk (zC (zK (OpR.or jB zl) zu (vc 0) (vv 1)) zH) (zS jF)) (Zh zAc JJ (vv 2) (qB (vv 1)) (qB (zK (OpR.or jB zl) zu (vv 1) (zK qT jt (zK (OpR.or jB zl) zu (vv 3) (vv 1)) zE))))))
theorem zDN (F:Fun K "_law_plain_by" "_law_plain_by" zV f fd) (jG:yI P w K mg base zA) (jZ:mg "range" = none) :
  jW P w K mg base CX0 2 f fd ["_law_cell","_law_k"] (SpM K (Θ1 zA) 2 M.yC):=by
 refine QA (b:=M.Qo) F ZZ M.zDO fun cdv A outer s H E hr=>?_
 unfold M.Qo
 exact (zM (zB7 jG jZ hr) (zM (zCT hr) (zM (zB5 hr) (zM (zCC hr) (zM (zCO jG hr) (zJ (zCI jG hr)))))))
noncomputable abbrev zg:Stmt:=top 24
noncomputable abbrev yH:List Str:=["_law_cell","_law_some","_law_names","_law_k","_law_word","_law_j"]
theorem jy:jC yH ["_law_cell"] (zL zg):=⟨rfl,rfl,rfl,by decide +kernel,rfl,by decide +kernel,by decide +kernel⟩
theorem zCF (hr:RM 2 "_law_names_by" zg A s f cdv):WS (cX P w K mg base yH "_law_names_by" zg f cdv A outer s H E) (Θ1 zA) (bd zg 0) M.qg:=by
 unfold M.qg
 exact (zw (i:=1) jy.nd rfl (Or.inl (by kernel_rfl)) (qq (zC zz (zC zz (zC zz (zC zz (zC zz (zC zz (zC zz (zC zz (zC zz (zC zz (zC zz (zC zz (zC zz zH)))))))))))))))
theorem zCX (hr:RM 2 "_law_names_by" zg A s f cdv):WS (cX P w K mg base yH "_law_names_by" zg f cdv A outer s H E) (Θ1 zA) (bd zg 1) M.qj:=by
 unfold M.qj
 exact (zw (i:=1) jy.nd rfl (Or.inl (by kernel_rfl)) (zK (OpR.or jB zl) zu (vv 1) (qq (zC zz (zC zz (zC zz zH))))))
theorem zCW (hr:RM 2 "_law_names_by" zg A s f cdv):WS (cX P w K mg base yH "_law_names_by" zg f cdv A outer s H E) (Θ1 zA) (bd zg 2) M.ql:=by
 unfold M.ql
 exact (zw (i:=2) jy.nd rfl (Or.inl (by kernel_rfl)) (qq zH))
theorem zB1 (y9:Qi P w K mg base zA) (jG:yI P w K mg base zA) (jZ:mg "range" = none) (hr:RM 2 "_law_names_by" zg A s f cdv):WS (cX P w K mg base yH "_law_names_by" zg f cdv A outer s H E) (Θ1 zA) (bd zg 3) M.j9:=by
 unfold M.j9
 exact (J6 PassesOwn.never rfl (ZC gk jZ zE) (qQ (i:=3) jy.nd rfl (Or.inl (by kernel_rfl)) (.inl rfl))
  (zM (zw (i:=4) jy.nd rfl (Or.inl (by kernel_rfl)) (jd y9 hr (by decide) gk (zC (vv 0) (zC (vv 3) zH)) (zS (zS jF))))
  (zM (J6 PassesOwn.never rfl (ZC gk jZ zE) (qQ (i:=5) jy.nd rfl (Or.inl (by kernel_rfl)) (.inl rfl))
  (zJ (jJ (Jw (zCc (zr (zDw hr) zFb (vv 4) (vv 1) (by rfl)) (zAa (zr (zDw hr) zFb (vv 4) (vv 2) (by rfl)))))
  (zJ (zw (i:=4) jy.nd rfl (Or.inl (by kernel_rfl)) (zK (OpR.or jB zl) zu (jd jG hr (by decide) gk (zC (zK (OpR.or jB zl) zu (vv 0) (vv 5)) zH) (zS jF)) (Zh zAc JJ (vv 4) (qB zE) Qc))))
  qC)))
  (zJ (jR (Jv PySem.F.plainAttrs_list PySem.F.slot_list_append PySem.F.type_list_append Zu Z1 rfl (vv 2) (zC (vv 4) zH)))))))
theorem zCA (hr:RM 2 "_law_names_by" zg A s f cdv):WS (cX P w K mg base yH "_law_names_by" zg f cdv A outer s H E) (Θ1 zA) (bd zg 4) M.yP:=by
 unfold M.yP
 exact (jD (vv 2))
theorem zDK (F:Fun K "_law_names_by" "_law_names_by" zg f fd) (y9:Qi P w K mg base zA) (jG:yI P w K mg base zA) (jZ:mg "range" = none) :
  jW P w K mg base CX0 3 f fd ["_law_cell"] (SpM K (Θ1 zA) 1 M.y6):=by
 refine QA (b:=M.Qk) F jy M.zC3 fun cdv A outer s H E hr=>?_
 unfold M.Qk
 exact (zM (zCF hr) (zM (zCX hr) (zM (zCW hr) (zM (zB1 y9 jG jZ hr) (zJ (zCA hr))))))
noncomputable abbrev jH:Stmt:=top 28
noncomputable abbrev Zd:List Str:=["_law_parts","_law_answers","_law_used","_law_text","_law_part"]
theorem ZD:jC Zd ["_law_parts","_law_answers"] (zL jH):=⟨rfl,rfl,rfl,by decide +kernel,rfl,by decide +kernel,by decide +kernel⟩
theorem zFN:(["_law_parts","_law_answers","_law_used","_law_text","_law_part","_law_name"]:List Str).Nodup:=by decide +kernel
theorem zFL (hr:RM 0 "_law_due" jH A s f cdv):WS (cX P w K mg base Zd "_law_due" jH f cdv A outer s H E) (Θ1 zA) (bd jH 0) M.Zt:=by
 unfold M.Zt
 exact (zw (i:=2) ZD.nd rfl (Or.inr (by kernel_rfl)) (qq zH))
theorem zFM (hr:RM 0 "_law_due" jH A s f cdv):WS (cX P w K mg base Zd "_law_due" jH f cdv A outer s H E) (Θ1 zA) (bd jH 1) M.Z0:=by
 unfold M.Z0
 exact (zw (i:=3) ZD.nd rfl (Or.inl (by kernel_rfl)) zz)
theorem zFK (hr:RM 0 "_law_due" jH A s f cdv):WS (cX P w K mg base Zd "_law_due" jH f cdv A outer s H E) (Θ1 zA) (bd jH 2) M.Zz:=by
 unfold M.Zz
 exact (J6 PassesOwn.never rfl (zGL (vv 0)) (qQ (i:=4) ZD.nd rfl (Or.inl (by kernel_rfl)) (.inl rfl))
  (zJ (jJ (zr (jz hr) qX (zc (jQ hr) z7 (vv 4) zE) zz (jX _))
  (zJ (zw (i:=3) ZD.nd rfl (Or.inl (by kernel_rfl)) (zK (OpR.or jB zl) zu (vv 3) (zc (jQ hr) z7 (vv 4) zE))))
  (zJ (jJ (zr (zCD hr) zDL (zc (jQ hr) z7 (vv 4) zE) (vv 1) (by rfl))
  (zJ (jD (jc (zC (jc (zC zz (zC (zc (jQ hr) z7 (vv 4) zE) zH))) (zC (vc 2) zH)))))
  (zM (zw (i:=3) ZD.nd rfl (Or.inl (by kernel_rfl)) (zK (OpR.or jB zl) zu (vv 3) (zc (jQ hr) z7 (vv 1) (zc (jQ hr) z7 (vv 4) zE))))
  (zJ (zw (i:=2) ZD.nd rfl (Or.inr (by kernel_rfl)) (zK (OpR.or jB zl) zu (vc 2) (zBy (vars:=["_law_name"]) rfl ⟨rfl,rfl,(by kernel_rfl),(by kernel_rfl),(by decide +kernel),⟨(by kernel_rfl),trivial⟩,(by kernel_rfl)⟩ (zGL (qq (zC (zc (jQ hr) z7 (vv 4) zE) zH))) (fun _ _ _ _=>(qQ (i:=5) zFN rfl (Or.inl (by kernel_rfl)) (.inr (by kernel_rfl)))) (fun _ _ _ _=>(zIM (zr (zCD hr) zDL (vv 5) (vc 2) (by rfl)))) (fun _ _ _ _=>(vv 5)) (by kernel_rfl)))))))))))
theorem zFJ (qL:mg "len" = none) (hr:RM 0 "_law_due" jH A s f cdv):WS (cX P w K mg base Zd "_law_due" jH f cdv A outer s H E) (Θ1 zA) (bd jH 3) M.q0:=by
 unfold M.q0
 exact (jJ (zr zFo zD9 (qZ Zs J0 gk qL J7 (zC (vv 3) zH)) zE (jX _))
  (zJ (jD (jc (zC (jc (zC zz (zC zz zH))) (zC (vc 2) zH)))))
  qC)
theorem zFI (hr:RM 0 "_law_due" jH A s f cdv):WS (cX P w K mg base Zd "_law_due" jH f cdv A outer s H E) (Θ1 zA) (bd jH 4) M.q8:=by
 unfold M.q8
 exact (jD (jc (zC (jc (zC zz (zC (vv 3) zH))) (zC (vc 2) zH))))
theorem zGn (F:Fun K "_law_due" "_law_due" jH f fd) (qL:mg "len" = none) :
  jW P w K mg base CX0 1 f fd ["_law_parts","_law_answers"] (SpM K (Θ1 zA) 2 M.JZ):=by
 refine yJ (N:=Zd) (b:=M.zBT) F ZD fun cdv A outer s H E hr=>?_
 unfold M.zBT
 exact (zM (zFL hr) (zM (zFM hr) (zM (zFK hr) (zM (zFJ qL hr) (zJ (zFI hr))))))
noncomputable abbrev zP:Stmt:=Zj (top 17) 0
noncomputable abbrev ja:List Str:=["self","tree","stem","answers"]
theorem zBu:jC ja ["self","tree","stem","answers"] (zL zP):=⟨rfl,rfl,rfl,by decide +kernel,rfl,by decide +kernel,by decide +kernel⟩
theorem zAl (zG:jK K zA) (hr:RM 0 "Working.__init__" zP A s f cdv):WS (cX P w K mg base ja "Working.__init__" zP f cdv A outer s H E) (Θ1 zA) (bd zP 0) M.yQ:=by
 unfold M.yQ
 exact (ZY (i:=0) zG rfl (vv 0) (vv 2))
theorem zAo (zG:jK K zA) (hr:RM 0 "Working.__init__" zP A s f cdv):WS (cX P w K mg base ja "Working.__init__" zP f cdv A outer s H E) (Θ1 zA) (bd zP 1) M.yY:=by
 unfold M.yY
 exact (ZY (i:=1) zG rfl (vv 0) (vv 3))
theorem zAv (zG:jK K zA) (hr:RM 0 "Working.__init__" zP A s f cdv):WS (cX P w K mg base ja "Working.__init__" zP f cdv A outer s H E) (Θ1 zA) (bd zP 2) M.yT:=by
 unfold M.yT
 exact (ZY (i:=2) zG rfl (vv 0) zEz)
theorem zA1 (zG:jK K zA) (hr:RM 0 "Working.__init__" zP A s f cdv):WS (cX P w K mg base ja "Working.__init__" zP f cdv A outer s H E) (Θ1 zA) (bd zP 3) M.yV:=by
 unfold M.yV
 exact (ZY (i:=3) zG rfl (vv 0) zE)
theorem zA0 (zG:jK K zA) (hr:RM 0 "Working.__init__" zP A s f cdv):WS (cX P w K mg base ja "Working.__init__" zP f cdv A outer s H E) (Θ1 zA) (bd zP 4) M.yS:=by
 unfold M.yS
 exact (ZY (i:=4) zG rfl (vv 0) (qq zH))
theorem zAp (zG:jK K zA) (hr:RM 0 "Working.__init__" zP A s f cdv):WS (cX P w K mg base ja "Working.__init__" zP f cdv A outer s H E) (Θ1 zA) (bd zP 5) M.yW:=by
 unfold M.yW
 exact (ZY (i:=5) zG rfl (vv 0) (qq (zC (jc (zC zz (zC (vv 1) (zC zBM zH)))) zH)))
theorem zA2 (zG:jK K zA) (hr:RM 0 "Working.__init__" zP A s f cdv):WS (cX P w K mg base ja "Working.__init__" zP f cdv A outer s H E) (Θ1 zA) (bd zP 6) M.ya:=by
 unfold M.ya
 exact (ZY (i:=6) zG rfl (vv 0) zBM)
theorem zBx (F:Fun K "__init__" "Working.__init__" zP f fd) (zG:jK K zA) :
  jW P w K mg base CX0 1 f fd ["self","tree","stem","answers"] (SpM K (Θ1 zA) 4 M.qw):=by
 refine yJ (N:=ja) (b:=M.y8) F zBu fun cdv A outer s H E hr=>?_
 unfold M.y8
 exact (zM (zAl zG hr) (zM (zAo zG hr) (zM (zAv zG hr) (zM (zA1 zG hr) (zM (zA0 zG hr) (zM (zAp zG hr) (zJ (zA2 zG hr))))))))
noncomputable abbrev yc:Stmt:=Zj (top 17) 2
noncomputable abbrev zAq:List Str:=["self","words"]
theorem zDd:jC zAq ["self","words"] (zL yc):=⟨rfl,rfl,rfl,by decide +kernel,rfl,by decide +kernel,by decide +kernel⟩
theorem zED (F:Fun K "fail" "Working.fail" yc f fd) (zG:jK K zA) :
  jW P w K mg base CX0 1 f fd ["self","words"] (SpM K (Θ1 zA) 2 M.ZM):=by
 refine yJ (N:=zAq) (b:=M.QC) F zDd fun cdv A outer s H E hr=>?_
 unfold M.QC
 exact (zJ (ZY (i:=6) zG rfl (vv 0) (jc (zC zz (zC (vv 1) zH)))))
noncomputable abbrev qf:Stmt:=Zj (top 17) 3
noncomputable abbrev JY:List Str:=["self","text"]
theorem zCB:jC JY ["self","text"] (zL qf):=⟨rfl,rfl,rfl,by decide +kernel,rfl,by decide +kernel,by decide +kernel⟩
theorem zCK (F:Fun K "come_to" "Working.come_to" qf f fd) (zG:jK K zA) (yk:JD P w K mg base zA) (qL:mg "len" = none) (zAC:zDI mg "MOST_SIGNS" (.int 900)) :
  jW P w K mg base CX0 2 f fd ["self","text"] (SpM K (Θ1 zA) 2 M.jq):=by
 refine yJ (N:=JY) (b:=M.yL) F zCB fun cdv A outer s H E hr=>?_
 unfold M.yL
 exact (zJ (jJ (zr zFo zD9 (qZ Zs J0 gk qL J7 (zC (vv 1) zH)) (zDj zAC gk (fun _ _=>rfl)) (jX _))
  (zJ (jR (j0 zG yk hr (by decide) (by decide +kernel) (vv 0) (zC zz zH) (zS jF))))
  (zJ (jR (Jv PySem.F.plainAttrs_list PySem.F.slot_list_append PySem.F.type_list_append Zu Z1 rfl (jh (i:=4) zG rfl (vv 0)) (zC (vv 1) zH))))))
noncomputable abbrev zY:Stmt:=Zj (top 17) 6
noncomputable abbrev qD:List Str:=["self","part","it"]
theorem zBA:jC qD ["self","part","it"] (zL zY):=⟨rfl,rfl,rfl,by decide +kernel,rfl,by decide +kernel,by decide +kernel⟩
theorem zAZ (hr:RM 0 "Working.bare_text" zY A s f cdv):WS (cX P w K mg base qD "Working.bare_text" zY f cdv A outer s H E) (Θ1 zA) (bd zY 0) M.yD:=by
 unfold M.yD
 exact (jJ (zr (jz hr) qX (zc (jQ hr) z7 (vv 1) zE) zz (jX _))
  (zJ (jD (zc (jQ hr) z7 (vv 1) zE)))
  qC)
theorem zAi (hr:RM 0 "Working.bare_text" zY A s f cdv):WS (cX P w K mg base qD "Working.bare_text" zY f cdv A outer s H E) (Θ1 zA) (bd zY 1) M.ZH:=by
 unfold M.ZH
 exact (jJ (zr (jz hr) qX (zc (jQ hr) z7 (vv 1) zE) zz (jX _))
  (zJ (jD zz))
  qC)
theorem zAf (hr:RM 0 "Working.bare_text" zY A s f cdv):WS (cX P w K mg base qD "Working.bare_text" zY f cdv A outer s H E) (Θ1 zA) (bd zY 2) M.ZO:=by
 unfold M.ZO
 exact (jJ (zr (jz hr) qX (zc (jQ hr) z7 (vv 1) zE) zz (jX _))
  (zJ (jD (vv 2)))
  qC)
theorem zAj (zG:jK K zA) (hr:RM 0 "Working.bare_text" zY A s f cdv):WS (cX P w K mg base qD "Working.bare_text" zY f cdv A outer s H E) (Θ1 zA) (bd zY 3) M.ZQ:=by
 unfold M.ZQ
 exact (jD (jh (i:=0) zG rfl (vv 0)))
theorem zBL (F:Fun K "bare_text" "Working.bare_text" zY f fd) (zG:jK K zA) :
  jW P w K mg base CX0 1 f fd ["self","part","it"] (SpM K (Θ1 zA) 3 M.yo):=by
 refine yJ (N:=qD) (b:=M.yv) F zBA fun cdv A outer s H E hr=>?_
 unfold M.yv
 exact (zM (zAZ hr) (zM (zAi hr) (zM (zAf hr) (zJ (zAj zG hr)))))
noncomputable abbrev jg:Stmt:=Zj (top 17) 4
noncomputable abbrev Zx:List Str:=["self","name"]
theorem Ja:jC Zx ["self","name"] (zL jg):=⟨rfl,rfl,rfl,by decide +kernel,rfl,by decide +kernel,by decide +kernel⟩
theorem Jb (F:Fun K "come_to_answer" "Working.come_to_answer" jg f fd) (zG:jK K zA) (jf:ZF P w K mg base zA) :
  jW P w K mg base CX0 3 f fd ["self","name"] (SpM K (Θ1 zA) 2 M.ji):=by
 refine yJ (N:=Zx) (b:=M.j3) F Ja fun cdv A outer s H E hr=>?_
 unfold M.j3
 exact (zJ (jJ (zr (zDw hr) zFb (vv 1) (jh (i:=1) zG rfl (vv 0)) (by rfl))
  (zM (zF3 hr (jh (i:=2) zG rfl (vv 0)) (vv 1) zEk)
  (zJ (jR (j0 zG jf hr (by decide) (by decide +kernel) (vv 0) (zC (zc (jQ hr) z7 (jh (i:=1) zG rfl (vv 0)) (vv 1)) zH) (zS jF)))))
  (zJ (ZY (i:=6) zG rfl (vv 0) (jc (zC zz (zC (vv 1) zH)))))))
noncomputable abbrev qE:Stmt:=Zj (top 17) 8
noncomputable abbrev Qr:List Str:=["self","parts","it","part"]
theorem Qj:jC Qr ["self","parts","it"] (zL qE):=⟨rfl,rfl,rfl,by decide +kernel,rfl,by decide +kernel,by decide +kernel⟩
theorem zBH (F:Fun K "put_parts" "Working.put_parts" qE f fd) (zG:jK K zA) (qc:mg "reversed" = none) :
  jW P w K mg base CX0 1 f fd ["self","parts","it"] (SpM K (Θ1 zA) 3 M.jr):=by
 refine yJ (N:=Qr) (b:=M.Zo) F Qj fun cdv A outer s H E hr=>?_
 unfold M.Zo
 exact (zJ (J6 PassesOwn.never rfl (zFT gk qc (vv 1)) (qQ (i:=3) Qj.nd rfl (Or.inl (by kernel_rfl)) (.inl rfl))
  (zJ (jR (Jv PySem.F.plainAttrs_list PySem.F.slot_list_append PySem.F.type_list_append Zu Z1 rfl (jh (i:=5) zG rfl (vv 0)) (zC (jc (zC zz (zC (vv 3) (zC (vv 2) zH)))) zH))))))
noncomputable abbrev jv:Stmt:=Zj (top 17) 7
noncomputable abbrev Qd:List Str:=["self","part","it","kind"]
theorem QM:jC Qd ["self","part","it"] (zL jv):=⟨rfl,rfl,rfl,by decide +kernel,rfl,by decide +kernel,by decide +kernel⟩
theorem zAU (F:Fun K "begin_inner" "Working.begin_inner" jv f fd) (zG:jK K zA) (qF:Qs P w K mg base zA) (qL:mg "len" = none) :
  jW P w K mg base CX0 2 f fd ["self","part","it"] (SpM K (Θ1 zA) 3 M.yE):=by
 refine yJ (N:=Qd) (b:=M.yA) F QM fun cdv A outer s H E hr=>?_
 unfold M.yA
 exact (zM (zw (i:=3) QM.nd rfl (Or.inl (by kernel_rfl)) (zc (jQ hr) z7 (vv 1) zE))
  (zJ (jJ (zr (jz hr) qX (vv 3) zz (jX _))
  (zM (jR (Jv PySem.F.plainAttrs_list PySem.F.slot_list_append PySem.F.type_list_append Zu Z1 rfl (jh (i:=5) zG rfl (vv 0)) (zC (jc (zC zz (zC (zK zOM zN8 (qZ Zs J0 gk qL J7 (zC (vv 1) zH)) zE) zH))) zH)))
  (zJ (jR (j0 zG qF hr (by decide) (by decide +kernel) (vv 0) (zC (Zh zAc JJ (vv 1) (qB zE) Qc) (zC (vv 2) zH)) (zS (zS jF))))))
  (zJ (jJ (zr (jz hr) qX (vv 3) zz (jX _))
  (zM (jR (Jv PySem.F.plainAttrs_list PySem.F.slot_list_append PySem.F.type_list_append Zu Z1 rfl (jh (i:=5) zG rfl (vv 0)) (zC (jc (zC zz (zC (vv 1) (zC (vv 2) zH)))) zH)))
  (zJ (jR (j0 zG qF hr (by decide) (by decide +kernel) (vv 0) (zC (Zh zAc JJ (vv 1) (qB zE) (qB zE)) (zC (vv 2) zH)) (zS (zS jF))))))
  (zJ (jJ (zr (jz hr) qX (vv 3) zz (jX _))
  (zM (jR (Jv PySem.F.plainAttrs_list PySem.F.slot_list_append PySem.F.type_list_append Zu Z1 rfl (jh (i:=5) zG rfl (vv 0)) (zC (jc (zC zz (zC (zc (jQ hr) z7 (vv 1) zE) zH))) zH)))
  (zJ (jR (j0 zG qF hr (by decide) (by decide +kernel) (vv 0) (zC (Zh zAc JJ (vv 1) (qB zE) (qB zE)) (zC (vv 2) zH)) (zS (zS jF))))))
  (zM (jR (Jv PySem.F.plainAttrs_list PySem.F.slot_list_append PySem.F.type_list_append Zu Z1 rfl (jh (i:=5) zG rfl (vv 0)) (zC (jc (zC (vv 3) zH)) zH)))
  (zJ (jR (j0 zG qF hr (by decide) (by decide +kernel) (vv 0) (zC (Zh zAc JJ (vv 1) (qB zE) Qc) (zC (vv 2) zH)) (zS (zS jF)))))))))))))
noncomputable abbrev yG:Stmt:=Zj (top 17) 5
noncomputable abbrev zAP:List Str:=["self","part","it"]
theorem zDA:jC zAP ["self","part","it"] (zL yG):=⟨rfl,rfl,rfl,by decide +kernel,rfl,by decide +kernel,by decide +kernel⟩
theorem zDF (F:Fun K "begin" "Working.begin" yG f fd) (zG:jK K zA) (yk:JD P w K mg base zA) (jf:ZF P w K mg base zA) (Zq:Qv P w K mg base zA) (qd:Zv P w K mg base zA) (ZS:Qb P w K mg base zA) (zAD:zDI mg "MOST_STEPS" (.int 500)) :
  jW P w K mg base CX0 4 f fd ["self","part","it"] (SpM K (Θ1 zA) 3 M.ju):=by
 refine yJ (N:=zAP) (b:=M.jb) F zDA fun cdv A outer s H E hr=>?_
 unfold M.jb
 exact (zM (zGd (i:=3) zG rfl (vv 0) zE zLq zKn)
  (zJ (jJ (zr zFo zD9 (jh (i:=3) zG rfl (vv 0)) (zDj zAD gk (fun _ _=>rfl)) (jX _))
  (zJ (jR (j0 zG yk hr (by decide) (by decide +kernel) (vv 0) (zC zz zH) (zS jF))))
  (zJ (jJ (zr (zDw hr) zFb (zc (jQ hr) z7 (vv 1) zE) (jc (zC zz (zC zz (zC zz (zC zz zH))))) (by rfl))
  (zJ (jR (j0 zG jf hr (by decide) (by decide +kernel) (vv 0) (zC (j0 zG Zq hr (by decide) (by decide +kernel) (vv 0) (zC (vv 1) (zC (vv 2) zH)) (zS (zS jF))) zH) (zS jF))))
  (zJ (jJ (zr (jz hr) qX (zc (jQ hr) z7 (vv 1) zE) zz (jX _))
  (zJ (jR (j0 zG qd hr (by decide) (by decide +kernel) (vv 0) (zC (zc (jQ hr) z7 (vv 1) zE) zH) (zS jF))))
  (zJ (jJ (zr (jz hr) qX (zc (jQ hr) z7 (vv 1) zE) zz (jX _))
  (zJ (jR (j0 zG qd hr (by decide) (by decide +kernel) (vv 0) (zC (zK (OpR.or jB zl) zu (zK (OpR.or jB zl) zu (zc (jQ hr) z7 (vv 1) zE) zz) (jh (i:=0) zG rfl (vv 0))) zH) (zS jF))))
  (zJ (jR (j0 zG ZS hr (by decide) (by decide +kernel) (vv 0) (zC (vv 1) (zC (vv 2) zH)) (zS (zS jF))))))))))))))
noncomputable abbrev qO:Stmt:=Zj (top 17) 9
noncomputable abbrev JP:List Str:=["self","number","texts"]
theorem Qu:jC JP ["self","number"] (zL qO):=⟨rfl,rfl,rfl,by decide +kernel,rfl,by decide +kernel,by decide +kernel⟩
theorem zAn:(["self","number","texts","part"]:List Str).Nodup:=by decide +kernel
theorem zBt (F:Fun K "end_join" "Working.end_join" qO f fd) (zG:jK K zA) (jf:ZF P w K mg base zA) (jZ:mg "range" = none) (qc:mg "reversed" = none) :
  jW P w K mg base CX0 3 f fd ["self","number"] (SpM K (Θ1 zA) 2 M.jm):=by
 refine yJ (N:=JP) (b:=M.qy) F Qu fun cdv A outer s H E hr=>?_
 unfold M.qy
 exact (zM (zB3 (vars:=["part"]) (i:=2) rfl ⟨rfl,rfl,(by kernel_rfl),(by kernel_rfl),(by decide +kernel),⟨(by kernel_rfl),trivial⟩,(by kernel_rfl)⟩ Qu.nd rfl (Or.inl (by kernel_rfl)) (ZC gk jZ (vv 1)) (fun _ _ _ _=>(qQ (i:=3) zAn rfl (Or.inl (by kernel_rfl)) (.inr (by kernel_rfl)))) (fun _ _ _ _=>Q9) (fun _ _ _ _=>(zHE PySem.F.plainAttrs_list PySem.F.slot_list_pop PySem.F.type_list_pop zIK zJJ rfl (jh (i:=4) zG rfl (vc 0)))) (by kernel_rfl))
  (zJ (jR (j0 zG jf hr (by decide) (by decide +kernel) (vc 0) (zC (zGK (by decide +kernel) (by decide +kernel) hr gk qc (vv 2)) zH) (zS jF)))))
noncomputable abbrev yz:Stmt:=Zj (top 17) 1
noncomputable abbrev zBn:List Str:=["self","task"]
theorem zAt:jC zBn ["self"] (zL yz):=⟨rfl,rfl,rfl,by decide +kernel,rfl,by decide +kernel,by decide +kernel⟩
theorem zEq (F:Fun K "run" "Working.run" yz f fd) (zG:jK K zA) (Qp:zAQ P w K mg base zA) (Z4:JR P w K mg base zA) (qL:mg "len" = none) :
  jW P w K mg base CX0 5 f fd ["self"] (SpM K (Θ1 zA) 1 M.y0):=by
 refine yJ (N:=zBn) (b:=M.Zg) F zAt fun cdv A outer s H E hr=>?_
 unfold M.Zg
 exact (zM (zHi PassesOwn.never (Jw (zGQ (zGO (jh (i:=6) zG rfl (vv 0))) (zCM (zr zFo zD9 (qZ Zs J0 gk qL J7 (zC (jh (i:=5) zG rfl (vv 0)) zH)) zE (jX _)))))
  (zM (zw (i:=1) zAt.nd rfl (Or.inl (by kernel_rfl)) (zHE PySem.F.plainAttrs_list PySem.F.slot_list_pop PySem.F.type_list_pop zIK zJJ rfl (jh (i:=5) zG rfl (vv 0))))
  (zJ (jJ (zr (jz hr) qX (zc (jQ hr) z7 (vv 1) zE) zz (jX _))
  (zJ (jR (j0 zG Qp hr (by decide) (by decide +kernel) (vv 0) (zC (zc (jQ hr) z7 (vv 1) zE) (zC (zc (jQ hr) z7 (vv 1) zE) zH)) (zS (zS jF)))))
  (zJ (jJ (zr (jz hr) qX (zc (jQ hr) z7 (vv 1) zE) zz (jX _))
  (zJ (jR (j0 zG Z4 hr (by decide) (by decide +kernel) (vv 0) (zC (zc (jQ hr) z7 (vv 1) zE) zH) (zS jF))))
  (zJ (jJ (zr (jz hr) qX (zc (jQ hr) z7 (vv 1) zE) zz (jX _))
  (zJ JM)
  (zJ (jJ (zr (jz hr) qX (zc (jQ hr) z7 (vv 1) zE) zz (jX _))
  (zJ JM)
  (zJ (jJ (zr (jz hr) qX (zc (jQ hr) z7 (vv 1) zE) zz (jX _))
  (zJ JM)
  (zJ JM)))))))))))))
  (zM (jJ (zGO (jh (i:=6) zG rfl (vv 0)))
  (zJ (jD (jc (zC zz (zC (zc (jQ hr) z7 (jh (i:=4) zG rfl (vv 0)) zE) zH)))))
  qC)
  (zJ (jD (jh (i:=6) zG rfl (vv 0))))))
noncomputable abbrev Qx:Stmt:=top 18
noncomputable abbrev zGH:List Str:=["tree","stem","answers","working","came"]
theorem zCG:jC zGH ["tree","stem","answers"] (zL Qx):=⟨rfl,rfl,rfl,by decide +kernel,rfl,by decide +kernel,by decide +kernel⟩
theorem zIO (F:Fun K "worked" "worked" Qx f fd) (zG:jK K zA) (Z5:JQ P w K mg base zA) (JX:zBj P w K mg base zA) (JT:mg "list" = none) :
  jW P w K mg base CX0 6 f fd ["tree","stem","answers"] (SpM K (Θ1 zA) 3 M.ZV):=by
 refine yJ (N:=zGH) (b:=M.Jz) F zCG fun cdv A outer s H E hr=>?_
 unfold M.Jz
 exact (zM (zw (i:=3) zCG.nd rfl (Or.inl (by kernel_rfl)) (zIe zG Z5 hr (by decide) rfl gk (zC (vv 0) (zC (vv 1) (zC (vv 2) zH))) (zS (zS (zS jF)))))
  (zM (zw (i:=4) zCG.nd rfl (Or.inl (by kernel_rfl)) (zHn zG JX hr (by decide) (by decide +kernel) (vv 3)))
  (zJ (jD (jc (zC (vv 4) (zC (Zi (zHO hr) zLD gk JT zHC (zC (jh (i:=2) zG rfl (vv 3)) zH)) zH)))))))
noncomputable abbrev ZR:Stmt:=top 20
noncomputable abbrev zFl:List Str:=["_law_cell","_law_k"]
theorem zFW:jC zFl ["_law_cell","_law_k"] (zL ZR):=⟨rfl,rfl,rfl,by decide +kernel,rfl,by decide +kernel,by decide +kernel⟩
theorem zFO (F:Fun K "_law_mixed" "_law_mixed" ZR f fd) :
  jW P w K mg base CX0 1 f fd ["_law_cell","_law_k"] (SpM K (Θ1 zA) 2 M.Zw):=by
 refine QA (b:=M.Ql) F zFW M.zFP fun cdv A outer s H E hr=>?_
 unfold M.Ql
 exact (zJ (jD (zK qT jt (zK Qf Qh (zK (OpR.or jB zl) zu (vv 0) (zK Qf Qh zE (vv 1))) zE) zE)))
noncomputable abbrev yj:Stmt:=top 21
noncomputable abbrev zEK:List Str:=["_law_script","_law_k"]
theorem zD1:jC zEK ["_law_script","_law_k"] (zL yj):=⟨rfl,rfl,rfl,by decide +kernel,rfl,by decide +kernel,by decide +kernel⟩
theorem zD7 (F:Fun K "_law_cell_at" "_law_cell_at" yj f fd) (zAE:zCJ P w K mg base zA) (qL:mg "len" = none) :
  jW P w K mg base CX0 2 f fd ["_law_script","_law_k"] (SpM K (Θ1 zA) 2 M.zX):=by
 refine QA (b:=M.ZL) F zD1 M.zDp fun cdv A outer s H E hr=>?_
 unfold M.ZL
 exact (zM (jJ (zr zO4 zOn (vv 1) (qZ Zs J0 gk qL J7 (zC (vv 0) zH)) (jX _))
  (zJ (jD (jd zAE hr (by decide) gk (zC (zc (jQ hr) z7 (vv 0) (vv 1)) (zC (vv 1) zH)) (zS (zS jF)))))
  qC)
  (zJ (jD zE)))
noncomputable abbrev ye:Stmt:=top 25
noncomputable abbrev zEJ:List Str:=["_law_cell","_law_some"]
theorem Qn:jC zEJ ["_law_cell"] (zL ye):=⟨rfl,rfl,rfl,by decide +kernel,rfl,by decide +kernel,by decide +kernel⟩
theorem zD5 (F:Fun K "_law_sign_by" "_law_sign_by" ye f fd) :
  jW P w K mg base CX0 1 f fd ["_law_cell"] (SpM K (Θ1 zA) 1 M.qr):=by
 refine QA (b:=M.Z7) F Qn M.zD2 fun cdv A outer s H E hr=>?_
 unfold M.Z7
 exact (zM (zw (i:=1) Qn.nd rfl (Or.inl (by kernel_rfl)) zz)
  (zM (zw (i:=1) Qn.nd rfl (Or.inl (by kernel_rfl)) (zK (OpR.or jB zl) zu (vv 1) zz))
  (zJ (jD (zc (jQ hr) z7 (vv 1) (zK qT jt (vv 0) zE))))))
noncomputable abbrev yb:Stmt:=top 26
noncomputable abbrev zEb:List Str:=["_law_cell","_law_size"]
theorem zEB:jC zEb ["_law_cell","_law_size"] (zL yb):=⟨rfl,rfl,rfl,by decide +kernel,rfl,by decide +kernel,by decide +kernel⟩
theorem zCu:(["_law_cell","_law_size","_law_k"]:List Str).Nodup:=by decide +kernel
theorem zDr (F:Fun K "_law_text_by" "_law_text_by" yb f fd) (JG:zAk P w K mg base zA) (jZ:mg "range" = none) :
  jW P w K mg base CX0 2 f fd ["_law_cell","_law_size"] (SpM K (Θ1 zA) 2 M.yi):=by
 refine QA (b:=M.QB) F zEB M.zDT fun cdv A outer s H E hr=>?_
 unfold M.QB
 exact (zJ (jD (zEE (by decide +kernel) (vars:=["_law_k"]) rfl ⟨rfl,rfl,(by kernel_rfl),(by kernel_rfl),(by decide +kernel),⟨(by kernel_rfl),trivial⟩,(by kernel_rfl)⟩ (ZC gk jZ (vv 1)) (fun _ _ _ _=>(qQ (i:=2) zCu rfl (Or.inl (by kernel_rfl)) (.inr (by kernel_rfl)))) (fun _ _ _ _=>Q9) (fun _ _ _ _=>(jd JG hr (by decide) gk (zC (zK (OpR.or jB zl) zu (zK qT jt (zK Qf Qh (zK (OpR.or jB zl) zu (vc 0) (zK Qf Qh (vv 2) zE)) zE) zE) (zK Qf Qh (zK qT jt (zK ZE yO (vc 0) zE) zE) (vv 2))) zH) (zS jF))) (by kernel_rfl) (fun ρ H S ds ys p Q rp r hq h=>zGc (by decide +kernel) ρ H S ds ys p Q rp r (.inl hq) h))))
noncomputable abbrev yd:Stmt:=top 29
noncomputable abbrev zEQ:List Str:=["_law_cell","_law_names"]
theorem zD0:jC zEQ ["_law_cell","_law_names"] (zL yd):=⟨rfl,rfl,rfl,by decide +kernel,rfl,by decide +kernel,by decide +kernel⟩
theorem zDa (F:Fun K "_law_part_by" "_law_part_by" yd f fd) (qR:Z8 P w K mg base zA) :
  jW P w K mg base CX0 3 f fd ["_law_cell","_law_names"] (SpM K (Θ1 zA) 2 M.yh):=by
 refine QA (b:=M.yf) F zD0 M.zDX fun cdv A outer s H E hr=>?_
 unfold M.yf
 exact (zM (jJ (zr (jz hr) qX (zK qT jt (vv 0) zE) zE (jX _))
  (zJ (jD (jc (zC zz (zC (jd qR hr (by decide) gk (zC (zK ZE yO (vv 0) zE) (zC (zK qT jt (zK ZE yO (vv 0) zE) zE) zH)) (zS (zS jF))) zH)))))
  qC)
  (zM (jJ (zr (jz hr) qX (zK qT jt (vv 0) zE) zE (jX _))
  (zJ (jD (jc (zC zz (zC (zK (OpR.or jB zl) zu (zK (OpR.or jB zl) zu (zc (jQ hr) z7 (vv 1) (zK qT jt (zK ZE yO (vv 0) zE) zE)) zz) (zc (jQ hr) z7 (vv 1) (zK qT jt (zK ZE yO (vv 0) zE) zE))) zH)))))
  qC)
  (zJ (jD (jc (zC zz (zC (zc (jQ hr) z7 (vv 1) (zK qT jt (zK ZE yO (vv 0) zE) zE)) zH)))))))
noncomputable abbrev zZ:Stmt:=top 27
noncomputable abbrev qt:List Str:=["_law_cell","_law_names","_law_first","_law_second","_law_some"]
theorem yM:jC qt ["_law_cell","_law_names"] (zL zZ):=⟨rfl,rfl,rfl,by decide +kernel,rfl,by decide +kernel,by decide +kernel⟩
theorem zBq (hr:RM 2 "_law_answer_by" zZ A s f cdv):WS (cX P w K mg base qt "_law_answer_by" zZ f cdv A outer s H E) (Θ1 zA) (bd zZ 0) M.qN:=by
 unfold M.qN
 exact (zw (i:=2) yM.nd rfl (Or.inl (by kernel_rfl)) (zc (jQ hr) z7 (vv 1) (zK qT jt (zK ZE yO (vv 0) zE) zE)))
theorem zBr (hr:RM 2 "_law_answer_by" zZ A s f cdv):WS (cX P w K mg base qt "_law_answer_by" zZ f cdv A outer s H E) (Θ1 zA) (bd zZ 1) M.qP:=by
 unfold M.qP
 exact (zw (i:=3) yM.nd rfl (Or.inl (by kernel_rfl)) (zc (jQ hr) z7 (vv 1) (zK qT jt (zK ZE yO (vv 0) zE) zE)))
theorem zBp (hr:RM 2 "_law_answer_by" zZ A s f cdv):WS (cX P w K mg base qt "_law_answer_by" zZ f cdv A outer s H E) (Θ1 zA) (bd zZ 2) M.j1:=by
 unfold M.j1
 exact (zw (i:=4) yM.nd rfl (Or.inl (by kernel_rfl)) (qq (zC (vv 2) (zC (zK (OpR.or jB zl) zu (zK (OpR.or jB zl) zu (vv 2) zz) (vv 3)) (zC zz (zC (zK (OpR.or jB zl) zu (zK (OpR.or jB zl) zu (zK (OpR.or jB zl) zu (zK (OpR.or jB zl) zu zz (vv 3)) zz) (vv 2)) zz) (zC (zK (OpR.or jB zl) zu (zK (OpR.or jB zl) zu (zK (OpR.or jB zl) zu (zK (OpR.or jB zl) zu (vv 2) zz) (vv 3)) zz) (vv 2)) zH)))))))
theorem zBw (qR:Z8 P w K mg base zA) (hr:RM 2 "_law_answer_by" zZ A s f cdv):WS (cX P w K mg base qt "_law_answer_by" zZ f cdv A outer s H E) (Θ1 zA) (bd zZ 3) M.qx:=by
 unfold M.qx
 exact (zw (i:=4) yM.nd rfl (Or.inl (by kernel_rfl)) (zK (OpR.or jB zl) zu (vv 4) (qq (zC (jd qR hr (by decide) gk (zC (zK ZE yO (vv 0) zE) (zC (zK qT jt (zK ZE yO (vv 0) zE) zE) zH)) (zS (zS jF))) zH))))
theorem zBv (hr:RM 2 "_law_answer_by" zZ A s f cdv):WS (cX P w K mg base qt "_law_answer_by" zZ f cdv A outer s H E) (Θ1 zA) (bd zZ 4) M.qz:=by
 unfold M.qz
 exact (jD (zc (jQ hr) z7 (vv 4) (zK qT jt (vv 0) zE)))
theorem zCs (F:Fun K "_law_answer_by" "_law_answer_by" zZ f fd) (qR:Z8 P w K mg base zA) :
  jW P w K mg base CX0 3 f fd ["_law_cell","_law_names"] (SpM K (Θ1 zA) 2 M.jo):=by
 refine QA (b:=M.QY) F yM M.zCr fun cdv A outer s H E hr=>?_
 unfold M.QY
 exact (zM (zBq hr) (zM (zBr hr) (zM (zBp hr) (zM (zBw qR hr) (zJ (zBv hr))))))
noncomputable abbrev z9:Stmt:=top 30
noncomputable abbrev Zb:List Str:=["_law_script","_law_names","_law_many","_law_parts","_law_told","_law_answers","_law_k","_law_cell","_law_due_here","_law_given","_law_gave"]
theorem Z2:jC Zb ["_law_script"] (zL z9):=⟨rfl,rfl,rfl,by decide +kernel,rfl,by decide +kernel,by decide +kernel⟩
theorem zJo:(["_law_script","_law_names","_law_many","_law_parts","_law_told","_law_answers","","_law_cell","_law_due_here","_law_given","_law_gave"]:List Str).Nodup:=by decide +kernel
theorem zJi:(["_law_script","_law_names","_law_many","_law_parts","_law_told","_law_answers","","_law_cell","_law_due_here","_law_given","_law_gave","_law_k"]:List Str).Nodup:=by decide +kernel
theorem zJ0:(["_law_script","_law_names","_law_many","_law_parts","_law_told","_law_answers","_law_k","_law_cell","_law_due_here","_law_given","_law_gave","_law_part"]:List Str).Nodup:=by decide +kernel
theorem zKK:(["_law_script","_law_names","_law_many","_law_parts","_law_told","_law_answers","_law_k","_law_cell","_law_due_here","_law_given","_law_gave","_law_name"]:List Str).Nodup:=by decide +kernel
theorem zJ3:(["_law_script","_law_names","_law_many","_law_parts","_law_told","_law_answers","_law_k","_law_cell","_law_due_here","_law_given","_law_gave","_law_one"]:List Str).Nodup:=by decide +kernel
theorem zJ8 (ZA:Qg P w K mg base zA) (jE:yg P w K mg base zA) (hr:RM 6 "law" z9 A s f cdv):WS0 (cX P w K mg base Zb "law" z9 f cdv A outer s H E) (Θ1 zA) (bd z9 0) M.Jn:=by
 unfold M.Jn
 exact (zIo (i:=1) Z2.nd rfl (Or.inr (by kernel_rfl)) (zDl ZA hr (by decide) gk (zEC (zDl jE hr (by decide) gk (zJK 0 (zEC zIm zH) (by rfl) (Or.inr (Or.inl (by kernel_rfl))) (by kernel_rfl) (by kernel_rfl)) (zS (zS jF))) zH) (zS jF)))
theorem zKp (jE:yg P w K mg base zA) (hr:RM 6 "law" z9 A s f cdv):WS (cX P w K mg base Zb "law" z9 f cdv A outer s H E) (Θ1 zA) (bd z9 1) M.Jf:=by
 unfold M.Jf
 exact (zw (i:=2) Z2.nd rfl (Or.inl (by kernel_rfl)) (zK (OpR.or jB zl) zu zE (zK qT jt (jd jE hr (by decide) gk (zC (vc 0) (zC zE zH)) (zS (zS jF))) zE)))
theorem zKN (jE:yg P w K mg base zA) (ZT:JE P w K mg base zA) (jZ:mg "range" = none) (hr:RM 6 "law" z9 A s f cdv):WS (cX P w K mg base Zb "law" z9 f cdv A outer s H E) (Θ1 zA) (bd z9 2) M.Jk:=by
 unfold M.Jk
 exact (zIA (i:=6) (N:=["_law_script","_law_names","_law_many","_law_parts","_law_told","_law_answers","","_law_cell","_law_due_here","_law_given","_law_gave"]) rfl (zB3 (vars:=["_law_k"]) (i:=3) rfl ⟨rfl,rfl,(by kernel_rfl),(by kernel_rfl),(by decide +kernel),⟨(by kernel_rfl),(by kernel_rfl),trivial⟩,(by kernel_rfl)⟩ zJo rfl (Or.inl (by kernel_rfl)) (ZC gk jZ (vv 2)) (fun _ _ _ _=>(qQ (i:=11) zJi rfl (Or.inl (by kernel_rfl)) (.inr (by kernel_rfl)))) (fun _ _ _ _=>Q9) (fun _ _ _ _=>(jd ZT hr (by decide) gk (zC (jd jE hr (by decide) gk (zC (vc 0) (zC (zK (OpR.or jB zl) zu zE (vv 11)) zH)) (zS (zS jF))) (zC (vc 1) zH)) (zS (zS jF)))) (by kernel_rfl)))
theorem zKV (qc:mg "reversed" = none) (hr:RM 6 "law" z9 A s f cdv):WS (cX P w K mg base Zb "law" z9 f cdv A outer s H E) (Θ1 zA) (bd z9 3) M.Ji:=by
 unfold M.Ji
 exact (zw (i:=4) Z2.nd rfl (Or.inl (by kernel_rfl)) (zK (OpR.or jB zl) zu (zBy (vars:=["_law_part"]) rfl ⟨rfl,rfl,(by kernel_rfl),(by kernel_rfl),(by decide +kernel),trivial,(by kernel_rfl)⟩ (zEa gk qc (vv 3)) (fun _ _ _ _=>(qQ (i:=11) zJ0 rfl (Or.inl (by kernel_rfl)) (.inr (by kernel_rfl)))) (fun _ _ _ _=>(zIM (zr (jz hr) qX (zc (jQ hr) z7 (vv 11) zE) zz (jX _)))) (fun _ _ _ _=>(zc (jQ hr) z7 (vv 11) zE)) (by kernel_rfl)) (qq (zC (zK (OpR.or jB zl) zu (zK (OpR.or jB zl) zu (zc (jQ hr) z7 (vc 1) zE) zz) (zc (jQ hr) z7 (vc 1) zE)) (zC (zc (jQ hr) z7 (vc 1) zE) zH)))))
theorem zKj (hr:RM 6 "law" z9 A s f cdv):WS (cX P w K mg base Zb "law" z9 f cdv A outer s H E) (Θ1 zA) (bd z9 4) M.zAm:=by
 unfold M.zAm
 exact (zw (i:=5) Z2.nd rfl (Or.inr (by kernel_rfl)) zEz)
theorem zJX (jE:yg P w K mg base zA) (yn:QZ P w K mg base zA) (jZ:mg "range" = none) (qL:mg "len" = none) (zEF:mg "int" = none) (hr:RM 6 "law" z9 A s f cdv):WS (cX P w K mg base Zb "law" z9 f cdv A outer s H E) (Θ1 zA) (bd z9 5) M.Jo:=by
 unfold M.Jo
 exact (J6 PassesOwn.never rfl (ZC gk jZ (qZ Zs J0 gk qL J7 (zC (vv 4) zH))) (qQ (i:=6) Z2.nd rfl (Or.inl (by kernel_rfl)) (.inl rfl))
  (zM (zw (i:=7) Z2.nd rfl (Or.inl (by kernel_rfl)) (jd jE hr (by decide) gk (zC (vc 0) (zC (zK (OpR.or jB zl) zu zE (vv 6)) zH)) (zS (zS jF))))
  (zJ (jJ (Jw (zGQ (zr zFo zD9 (zK qT jt (vv 7) zE) zE (jX _)) (zCM (zr (zCD hr) zDL (zc (jQ hr) z7 (vv 4) (vv 6)) (vc 5) (by rfl)))))
  (zJ (zF3 hr (vc 5) (zc (jQ hr) z7 (vv 4) (vv 6)) (zK Qf Qh (jd yn hr (by decide) gk (zC (zK ZE yO (vv 7) zE) (zC (vc 1) zH)) (zS (zS jF))) (zK (OpR.or jB zl) zu zE (zK Qf Qh zE (Zi zI1 zMQ gk zEF zNa (zC (zBV (jz hr) qX (zK qT jt (jd jE hr (by decide) gk (zC (vc 0) (zC zE zH)) (zS (zS jF))) zE) zE (jX _)) zH)))))))
  qC))))
theorem zKO (JU:mg "dict" = none) (hr:RM 6 "law" z9 A s f cdv):WS (cX P w K mg base Zb "law" z9 f cdv A outer s H E) (Θ1 zA) (bd z9 6) M.zA5:=by
 unfold M.zA5
 exact (zKJ (i:=5) (zw (i:=5) Z2.nd rfl (Or.inr (by kernel_rfl)) (Zi (zHw hr) zKH gk JU zGw (zC (zBy (vars:=["_law_name"]) rfl ⟨rfl,rfl,(by kernel_rfl),(by kernel_rfl),(by decide +kernel),⟨(by kernel_rfl),trivial⟩,(by kernel_rfl)⟩ (zIw (vc 5)) (fun _ _ _ _=>(qQ (i:=11) zKK rfl (Or.inl (by kernel_rfl)) (.inr (by kernel_rfl)))) (fun _ _ _ _=>Q9) (fun _ _ _ _=>(jc (zC (vv 11) (zC (Zh zAc JJ (zc (jQ hr) z7 (vc 5) (vv 11)) Qc (qB zE)) zH)))) (by kernel_rfl)) zH))))
theorem zKW (Qq:zBX P w K mg base zA) (hr:RM 6 "law" z9 A s f cdv):WS (cX P w K mg base Zb "law" z9 f cdv A outer s H E) (Θ1 zA) (bd z9 7) M.Jj:=by
 unfold M.Jj
 exact (zw (i:=8) Z2.nd rfl (Or.inl (by kernel_rfl)) (jd Qq hr (by decide) gk (zC (vv 3) (zC (vc 5) zH)) (zS (zS jF))))
theorem zKP (JU:mg "dict" = none) (hr:RM 6 "law" z9 A s f cdv):WS (cX P w K mg base Zb "law" z9 f cdv A outer s H E) (Θ1 zA) (bd z9 8) M.Jg:=by
 unfold M.Jg
 exact (zw (i:=9) Z2.nd rfl (Or.inl (by kernel_rfl)) (Zi zHJ zLy gk JU zGw (zC (vc 5) zH)))
theorem zJF (Z6:zBB P w K mg base zA) (y1:mg "tuple" = none) (hr:RM 6 "law" z9 A s f cdv):WS (cX P w K mg base Zb "law" z9 f cdv A outer s H E) (Θ1 zA) (bd z9 9) M.Jt:=by
 unfold M.Jt
 exact (zw (i:=10) Z2.nd rfl (Or.inl (by kernel_rfl)) (jd Z6 hr (by decide) gk (zC (Zi zCv zGW gk y1 zBO (zC (zK (OpR.or jB zl) zu (qq (zC zz zH)) (vv 3)) zH)) (zC zBM (zC (vv 9) zH))) (zS (zS (zS jF)))))
theorem zI4 (qL:mg "len" = none) (y1:mg "tuple" = none) (qI:mg "isinstance" = none) (hr:RM 6 "law" z9 A s f cdv):WS (cX P w K mg base Zb "law" z9 f cdv A outer s H E) (Θ1 zA) (bd z9 10) M.JC:=by
 unfold M.JC
 exact (jJ (Jw (zCc (zBC (zA9 (qZ zBQ zD3 gk qI QX (zC (vv 10) (zC (zCp .tuple gk y1 zBO) zH))))) (zCc (zr (zOE hr) zOX (qZ Zs J0 gk qL J7 (zC (vv 10) zH)) zE (jX _)) (zAa (zBC (zA9 (qZ zBQ zD3 gk qI QX (zC (zc (jQ hr) z7 (vv 10) zE) (zC (zCp .tuple gk y1 zBO) zH)))))))))
  (zJ (jD zEk))
  qC)
theorem zJD (qI:mg "isinstance" = none) (JT:mg "list" = none) (zEG:mg "all" = none) (zEH:mg "str" = none) (hr:RM 6 "law" z9 A s f cdv):WS (cX P w K mg base Zb "law" z9 f cdv A outer s H E) (Θ1 zA) (bd z9 11) M.Q7:=by
 unfold M.Q7
 exact (jJ (Jw (zCc (zBC (zA9 (qZ zBQ zD3 gk qI QX (zC (zc (jQ hr) z7 (vv 10) zE) (zC (zCp .list gk JT zHC) zH))))) (zAa (zBC (zA9 (zHr (zJe rfl) zLN gk zEG zNI (vars:=["_law_one"]) rfl ⟨rfl,rfl,(by kernel_rfl),(by kernel_rfl),(by decide +kernel),trivial,(by kernel_rfl)⟩ (zGL (zc (jQ hr) z7 (vv 10) zE)) (fun _ _ _ _=>(qQ (i:=11) zJ3 rfl (Or.inl (by kernel_rfl)) (.inr (by kernel_rfl)))) (fun _ _ _ _=>Q9) (fun _ _ _ _=>(qZ zBQ zD3 gk qI QX (zC (vv 11) (zC (zCp .str gk zEH zOA) zH)))) (by kernel_rfl)))))))
  (zJ (jD zEk))
  qC)
theorem zI5 (Z6:zBB P w K mg base zA) (y1:mg "tuple" = none) (hr:RM 6 "law" z9 A s f cdv):WS (cX P w K mg base Zb "law" z9 f cdv A outer s H E) (Θ1 zA) (bd z9 12) M.JF:=by
 unfold M.JF
 exact (jD (zF6 (zBV (jz hr) qX (vv 10) (vv 8) (jX _)) (zF6 (zBV (jz hr) qX (vv 9) (vc 5) (jX _)) (zJ5 (zBV (jz hr) qX (jd Z6 hr (by decide) gk (zC (Zi zCv zGW gk y1 zBO (zC (zK (OpR.or jB zl) zu (qq (zC zz zH)) (vv 3)) zH)) (zC zBM (zC (vv 9) zH))) (zS (zS (zS jF)))) (vv 8) (jX _))))))
theorem zN9 (F:Fun K "law" "law" z9 f fd) (ZA:Qg P w K mg base zA) (Qq:zBX P w K mg base zA) (Z6:zBB P w K mg base zA) (jE:yg P w K mg base zA) (ZT:JE P w K mg base zA) (yn:QZ P w K mg base zA) (jZ:mg "range" = none) (JU:mg "dict" = none) (qL:mg "len" = none) (y1:mg "tuple" = none) (qI:mg "isinstance" = none) (JT:mg "list" = none) (zEG:mg "all" = none) (qc:mg "reversed" = none) (zEH:mg "str" = none) (zEF:mg "int" = none) :
  jW P w K mg base CX0 7 f (fdL fd "_law_script") ["_law_script"] (SpM K (Θ1 zA) 1 M.zHu):=by
 refine zMJ (N:=Zb) (b:=M.zHm) F Z2 fun cdv A outer s H E hr=>?_
 unfold M.zHm
 exact (zGj (zJ8 ZA jE hr) (zM (zKp jE hr) (zM (zKN jE ZT jZ hr) (zM (zKV qc hr) (zM (zKj hr) (zM (zJX jE yn jZ qL zEF hr) (zM (zKO JU hr) (zM (zKW Qq hr) (zM (zKP JU hr) (zM (zJF Z6 y1 hr) (zM (zI4 qL y1 qI hr) (zM (zJD qI JT zEG zEH hr) (zJ (zI5 Z6 y1 hr))))))))))))))
theorem zMM {l:PySem.W.OpenLaw}{w:World}{K:PySem.W.Frag}{h:Heap}{mg:Str->Option Value}{fa f1 f2 f3 f4 f5 f6 f7 f8 f9 f10 f11 f12 f13 f14 f15 f16 f17 f18 f19 f20 f21 f22:Addr}{zA:Addr} (X:K.In h) (G:h.Ns mainGlobals mg) (hfa:mg "law" = some (.ref fa))
  {od1 an1 od2 an2 od3 an3 od4 an4 od5 an5 od6 an6 od7 an7 od8 an8 od9 an9 od10 an10 od11 an11 od12 an12 od13 an13 od14 an14 od15 an15 od16 an16 od17 an17 od18 an18 od19 an19 od20 an20 od21 an21 od22 an22:Option Addr}{sl1 sl2 sl3 sl4 sl5 sl6 sl7 sl8 sl9 sl10 sl11 sl12 sl13 sl14 sl15 sl16 sl17 sl18 sl19 sl20 sl21 sl22:Array (Option Value)}{oc1 kV1 dc1 pm1 cd1 ct1 oc2 kV2 dc2 pm2 cd2 ct2 oc3 kV3 dc3 pm3 cd3 ct3 oc4 kV4 dc4 pm4 cd4 ct4 oc5 kV5 dc5 pm5 cd5 ct5 oc6 kV6 dc6 pm6 cd6 ct6 oc7 kV7 dc7 pm7 cd7 ct7 oc8 kV8 dc8 pm8 cd8 ct8 oc9 kV9 dc9 pm9 cd9 ct9 oc10 kV10 dc10 pm10 cd10 ct10 oc11 kV11 dc11 pm11 cd11 ct11 oc12 kV12 dc12 pm12 cd12 ct12 oc13 kV13 dc13 pm13 cd13 ct13 oc14 kV14 dc14 pm14 cd14 ct14 oc15 kV15 dc15 pm15 cd15 ct15 oc16 kV16 dc16 pm16 cd16 ct16 oc17 kV17 dc17 pm17 cd17 ct17 oc18 kV18 dc18 pm18 cd18 ct18 oc19 kV19 dc19 pm19 cd19 ct19 oc20 kV20 dc20 pm20 cd20 ct20 oc21 kV21 dc21 pm21 cd21 ct21 oc22 kV22 dc22 pm22 cd22 ct22:Value}
  (zBb:PySem.W.nsIn K mainGlobals "Working" = some (some (.ref zA))) (zBc:PySem.W.plainGet K zA Str.empty=true) (zBd:PySem.W.hasDictIn K zA=true) (zBe:PySem.W.plainOver K zA=true) (zBf:PySem.W.findIn K (.ref zA) "__setattr__" = some (some (.builtin "object.__setattr__"))) (zBg:PySem.W.makesIn K zA=true) (zBh:PySem.W.keepIn K (.ref zA)=true)
  (zAF:PySem.W.findIn K (.ref zA) "stem" = some none)
  (zAG:PySem.W.findIn K (.ref zA) "answers" = some none)
  (zAH:PySem.W.findIn K (.ref zA) "used" = some none)
  (zAI:PySem.W.findIn K (.ref zA) "steps" = some none)
  (zAJ:PySem.W.findIn K (.ref zA) "texts" = some none)
  (zAK:PySem.W.findIn K (.ref zA) "todo" = some none)
  (zAL:PySem.W.findIn K (.ref zA) "ended" = some none)
  (a1:PySem.W.nsIn K mainGlobals "_law_letter" = some (some (.ref f1))) (l1:K.lookup f1=some ⟨oc1,od1,.func (PySem.W.fnOf "_law_letter" "_law_letter" (jT yy) (zx yy) (zL yy) .none kV1 dc1 pm1 an1 cd1 ct1),sl1⟩) (c1:PySem.W.codeIn K cd1 "_law_letter" = true) (k1:PySem.W.keepIn K (.ref f1)=true)
  (a2:PySem.W.nsIn K mainGlobals "_law_plain_by" = some (some (.ref f2))) (l2:K.lookup f2=some ⟨oc2,od2,.func (PySem.W.fnOf "_law_plain_by" "_law_plain_by" (jT zV) (zx zV) (zL zV) .none kV2 dc2 pm2 an2 cd2 ct2),sl2⟩) (c2:PySem.W.codeIn K cd2 "_law_plain_by" = true) (k2:PySem.W.keepIn K (.ref f2)=true)
  (a3:PySem.W.nsIn K mainGlobals "_law_names_by" = some (some (.ref f3))) (l3:K.lookup f3=some ⟨oc3,od3,.func (PySem.W.fnOf "_law_names_by" "_law_names_by" (jT zg) (zx zg) (zL zg) .none kV3 dc3 pm3 an3 cd3 ct3),sl3⟩) (c3:PySem.W.codeIn K cd3 "_law_names_by" = true) (k3:PySem.W.keepIn K (.ref f3)=true)
  (a4:PySem.W.nsIn K mainGlobals "_law_due" = some (some (.ref f4))) (l4:K.lookup f4=some ⟨oc4,od4,.func (PySem.W.fnOf "_law_due" "_law_due" (jT jH) (zx jH) (zL jH) .none kV4 dc4 pm4 an4 cd4 ct4),sl4⟩) (c4:PySem.W.codeIn K cd4 "_law_due" = true) (k4:PySem.W.keepIn K (.ref f4)=true)
  (a5:PySem.W.findIn K (.ref zA) "__init__" = some (some (.ref f5))) (i5:PySem.W.isFn K (.ref f5)=true) (l5:K.lookup f5=some ⟨oc5,od5,.func (PySem.W.fnOf "__init__" "Working.__init__" (jT zP) (zx zP) (zL zP) .none kV5 dc5 pm5 an5 cd5 ct5),sl5⟩) (c5:PySem.W.codeIn K cd5 "Working.__init__" = true) (k5:PySem.W.keepIn K (.ref f5)=true)
  (a6:PySem.W.findIn K (.ref zA) "fail" = some (some (.ref f6))) (i6:PySem.W.isFn K (.ref f6)=true) (l6:K.lookup f6=some ⟨oc6,od6,.func (PySem.W.fnOf "fail" "Working.fail" (jT yc) (zx yc) (zL yc) .none kV6 dc6 pm6 an6 cd6 ct6),sl6⟩) (c6:PySem.W.codeIn K cd6 "Working.fail" = true) (k6:PySem.W.keepIn K (.ref f6)=true)
  (a7:PySem.W.findIn K (.ref zA) "come_to" = some (some (.ref f7))) (i7:PySem.W.isFn K (.ref f7)=true) (l7:K.lookup f7=some ⟨oc7,od7,.func (PySem.W.fnOf "come_to" "Working.come_to" (jT qf) (zx qf) (zL qf) .none kV7 dc7 pm7 an7 cd7 ct7),sl7⟩) (c7:PySem.W.codeIn K cd7 "Working.come_to" = true) (k7:PySem.W.keepIn K (.ref f7)=true)
  (a8:PySem.W.findIn K (.ref zA) "bare_text" = some (some (.ref f8))) (i8:PySem.W.isFn K (.ref f8)=true) (l8:K.lookup f8=some ⟨oc8,od8,.func (PySem.W.fnOf "bare_text" "Working.bare_text" (jT zY) (zx zY) (zL zY) .none kV8 dc8 pm8 an8 cd8 ct8),sl8⟩) (c8:PySem.W.codeIn K cd8 "Working.bare_text" = true) (k8:PySem.W.keepIn K (.ref f8)=true)
  (a9:PySem.W.findIn K (.ref zA) "come_to_answer" = some (some (.ref f9))) (i9:PySem.W.isFn K (.ref f9)=true) (l9:K.lookup f9=some ⟨oc9,od9,.func (PySem.W.fnOf "come_to_answer" "Working.come_to_answer" (jT jg) (zx jg) (zL jg) .none kV9 dc9 pm9 an9 cd9 ct9),sl9⟩) (c9:PySem.W.codeIn K cd9 "Working.come_to_answer" = true) (k9:PySem.W.keepIn K (.ref f9)=true)
  (a10:PySem.W.findIn K (.ref zA) "put_parts" = some (some (.ref f10))) (i10:PySem.W.isFn K (.ref f10)=true) (l10:K.lookup f10=some ⟨oc10,od10,.func (PySem.W.fnOf "put_parts" "Working.put_parts" (jT qE) (zx qE) (zL qE) .none kV10 dc10 pm10 an10 cd10 ct10),sl10⟩) (c10:PySem.W.codeIn K cd10 "Working.put_parts" = true) (k10:PySem.W.keepIn K (.ref f10)=true)
  (a11:PySem.W.findIn K (.ref zA) "begin_inner" = some (some (.ref f11))) (i11:PySem.W.isFn K (.ref f11)=true) (l11:K.lookup f11=some ⟨oc11,od11,.func (PySem.W.fnOf "begin_inner" "Working.begin_inner" (jT jv) (zx jv) (zL jv) .none kV11 dc11 pm11 an11 cd11 ct11),sl11⟩) (c11:PySem.W.codeIn K cd11 "Working.begin_inner" = true) (k11:PySem.W.keepIn K (.ref f11)=true)
  (a12:PySem.W.findIn K (.ref zA) "begin" = some (some (.ref f12))) (i12:PySem.W.isFn K (.ref f12)=true) (l12:K.lookup f12=some ⟨oc12,od12,.func (PySem.W.fnOf "begin" "Working.begin" (jT yG) (zx yG) (zL yG) .none kV12 dc12 pm12 an12 cd12 ct12),sl12⟩) (c12:PySem.W.codeIn K cd12 "Working.begin" = true) (k12:PySem.W.keepIn K (.ref f12)=true)
  (a13:PySem.W.findIn K (.ref zA) "end_join" = some (some (.ref f13))) (i13:PySem.W.isFn K (.ref f13)=true) (l13:K.lookup f13=some ⟨oc13,od13,.func (PySem.W.fnOf "end_join" "Working.end_join" (jT qO) (zx qO) (zL qO) .none kV13 dc13 pm13 an13 cd13 ct13),sl13⟩) (c13:PySem.W.codeIn K cd13 "Working.end_join" = true) (k13:PySem.W.keepIn K (.ref f13)=true)
  (a14:PySem.W.findIn K (.ref zA) "run" = some (some (.ref f14))) (i14:PySem.W.isFn K (.ref f14)=true) (l14:K.lookup f14=some ⟨oc14,od14,.func (PySem.W.fnOf "run" "Working.run" (jT yz) (zx yz) (zL yz) .none kV14 dc14 pm14 an14 cd14 ct14),sl14⟩) (c14:PySem.W.codeIn K cd14 "Working.run" = true) (k14:PySem.W.keepIn K (.ref f14)=true)
  (a15:PySem.W.nsIn K mainGlobals "worked" = some (some (.ref f15))) (l15:K.lookup f15=some ⟨oc15,od15,.func (PySem.W.fnOf "worked" "worked" (jT Qx) (zx Qx) (zL Qx) .none kV15 dc15 pm15 an15 cd15 ct15),sl15⟩) (c15:PySem.W.codeIn K cd15 "worked" = true) (k15:PySem.W.keepIn K (.ref f15)=true)
  (a16:PySem.W.nsIn K mainGlobals "_law_mixed" = some (some (.ref f16))) (l16:K.lookup f16=some ⟨oc16,od16,.func (PySem.W.fnOf "_law_mixed" "_law_mixed" (jT ZR) (zx ZR) (zL ZR) .none kV16 dc16 pm16 an16 cd16 ct16),sl16⟩) (c16:PySem.W.codeIn K cd16 "_law_mixed" = true) (k16:PySem.W.keepIn K (.ref f16)=true)
  (a17:PySem.W.nsIn K mainGlobals "_law_cell_at" = some (some (.ref f17))) (l17:K.lookup f17=some ⟨oc17,od17,.func (PySem.W.fnOf "_law_cell_at" "_law_cell_at" (jT yj) (zx yj) (zL yj) .none kV17 dc17 pm17 an17 cd17 ct17),sl17⟩) (c17:PySem.W.codeIn K cd17 "_law_cell_at" = true) (k17:PySem.W.keepIn K (.ref f17)=true)
  (a18:PySem.W.nsIn K mainGlobals "_law_sign_by" = some (some (.ref f18))) (l18:K.lookup f18=some ⟨oc18,od18,.func (PySem.W.fnOf "_law_sign_by" "_law_sign_by" (jT ye) (zx ye) (zL ye) .none kV18 dc18 pm18 an18 cd18 ct18),sl18⟩) (c18:PySem.W.codeIn K cd18 "_law_sign_by" = true) (k18:PySem.W.keepIn K (.ref f18)=true)
  (a19:PySem.W.nsIn K mainGlobals "_law_text_by" = some (some (.ref f19))) (l19:K.lookup f19=some ⟨oc19,od19,.func (PySem.W.fnOf "_law_text_by" "_law_text_by" (jT yb) (zx yb) (zL yb) .none kV19 dc19 pm19 an19 cd19 ct19),sl19⟩) (c19:PySem.W.codeIn K cd19 "_law_text_by" = true) (k19:PySem.W.keepIn K (.ref f19)=true)
  (a20:PySem.W.nsIn K mainGlobals "_law_part_by" = some (some (.ref f20))) (l20:K.lookup f20=some ⟨oc20,od20,.func (PySem.W.fnOf "_law_part_by" "_law_part_by" (jT yd) (zx yd) (zL yd) .none kV20 dc20 pm20 an20 cd20 ct20),sl20⟩) (c20:PySem.W.codeIn K cd20 "_law_part_by" = true) (k20:PySem.W.keepIn K (.ref f20)=true)
  (a21:PySem.W.nsIn K mainGlobals "_law_answer_by" = some (some (.ref f21))) (l21:K.lookup f21=some ⟨oc21,od21,.func (PySem.W.fnOf "_law_answer_by" "_law_answer_by" (jT zZ) (zx zZ) (zL zZ) .none kV21 dc21 pm21 an21 cd21 ct21),sl21⟩) (c21:PySem.W.codeIn K cd21 "_law_answer_by" = true) (k21:PySem.W.keepIn K (.ref f21)=true)
  (a22:PySem.W.nsIn K mainGlobals "law" = some (some (.ref f22))) (l22:K.lookup f22=some ⟨oc22,od22,.func (PySem.W.fnOf "law" "law" (jT z9) (zx z9) (zL z9) .none kV22 dc22 pm22 an22 cd22 ct22),sl22⟩) (c22:PySem.W.codeIn K cd22 "law" = true) (k22:PySem.W.keepIn K (.ref f22)=true)
  (z_range:PySem.W.nsIn K mainGlobals "range" = some none)
  (z_len:PySem.W.nsIn K mainGlobals "len" = some none)
  (z_reversed:PySem.W.nsIn K mainGlobals "reversed" = some none)
  (z_list:PySem.W.nsIn K mainGlobals "list" = some none)
  (z_dict:PySem.W.nsIn K mainGlobals "dict" = some none)
  (z_tuple:PySem.W.nsIn K mainGlobals "tuple" = some none)
  (z_isinstance:PySem.W.nsIn K mainGlobals "isinstance" = some none)
  (z_all:PySem.W.nsIn K mainGlobals "all" = some none)
  (z_str:PySem.W.nsIn K mainGlobals "str" = some none)
  (z_int:PySem.W.nsIn K mainGlobals "int" = some none)
  {u_MOST_SIGNS:Value} (v_MOST_SIGNS:PySem.W.nsIn K mainGlobals "MOST_SIGNS" = some (some u_MOST_SIGNS)) (r_MOST_SIGNS:zKk (.int 900) u_MOST_SIGNS=true)
  {u_MOST_STEPS:Value} (v_MOST_STEPS:PySem.W.nsIn K mainGlobals "MOST_STEPS" = some (some u_MOST_STEPS)) (r_MOST_STEPS:zKk (.int 500) u_MOST_STEPS=true)
  : ∃ fd:FuncData,(∀ (s:Shared) (v:Value),BindsTo s fd ⟨[v],[]⟩ [("_law_script",v)])/\fd.scope.names.lookup ("_law_script" : Str)=some .local/\∀ base:Heap,K.In base->base.Ns mainGlobals mg->jW l.prog w K mg base CX0 7 fa fd ["_law_script"] (zFf K):=by
 have e:=hfa.symm.trans (PySem.W.mg_of X G a22)
 cases e
 have F1:=j7 (x := "_law_letter") (qual := "_law_letter") (st:=yy) l1 c1 k1
 have B1:=F1.binds (ps:=["_law_cell"]) fun _ _ _ _ _ _ us hl=>match us,hl with | [_],_=>rfl
 have F2:=j7 (x := "_law_plain_by") (qual := "_law_plain_by") (st:=zV) l2 c2 k2
 have B2:=F2.binds (ps:=["_law_cell","_law_k"]) fun _ _ _ _ _ _ us hl=>match us,hl with | [_,_],_=>rfl
 have F3:=j7 (x := "_law_names_by") (qual := "_law_names_by") (st:=zg) l3 c3 k3
 have B3:=F3.binds (ps:=["_law_cell"]) fun _ _ _ _ _ _ us hl=>match us,hl with | [_],_=>rfl
 have F4:=j7 (x := "_law_due") (qual := "_law_due") (st:=jH) l4 c4 k4
 have B4:=F4.binds (ps:=["_law_parts","_law_answers"]) fun _ _ _ _ _ _ us hl=>match us,hl with | [_,_],_=>rfl
 have F5:=j7 (x := "__init__") (qual := "Working.__init__") (st:=zP) l5 c5 k5
 have B5:=F5.binds (ps:=["self","tree","stem","answers"]) fun _ _ _ _ _ _ us hl=>match us,hl with | [_,_,_,_],_=>rfl
 have F6:=j7 (x := "fail") (qual := "Working.fail") (st:=yc) l6 c6 k6
 have B6:=F6.binds (ps:=["self","words"]) fun _ _ _ _ _ _ us hl=>match us,hl with | [_,_],_=>rfl
 have F7:=j7 (x := "come_to") (qual := "Working.come_to") (st:=qf) l7 c7 k7
 have B7:=F7.binds (ps:=["self","text"]) fun _ _ _ _ _ _ us hl=>match us,hl with | [_,_],_=>rfl
 have F8:=j7 (x := "bare_text") (qual := "Working.bare_text") (st:=zY) l8 c8 k8
 have B8:=F8.binds (ps:=["self","part","it"]) fun _ _ _ _ _ _ us hl=>match us,hl with | [_,_,_],_=>rfl
 have F9:=j7 (x := "come_to_answer") (qual := "Working.come_to_answer") (st:=jg) l9 c9 k9
 have B9:=F9.binds (ps:=["self","name"]) fun _ _ _ _ _ _ us hl=>match us,hl with | [_,_],_=>rfl
 have F10:=j7 (x := "put_parts") (qual := "Working.put_parts") (st:=qE) l10 c10 k10
 have B10:=F10.binds (ps:=["self","parts","it"]) fun _ _ _ _ _ _ us hl=>match us,hl with | [_,_,_],_=>rfl
 have F11:=j7 (x := "begin_inner") (qual := "Working.begin_inner") (st:=jv) l11 c11 k11
 have B11:=F11.binds (ps:=["self","part","it"]) fun _ _ _ _ _ _ us hl=>match us,hl with | [_,_,_],_=>rfl
 have F12:=j7 (x := "begin") (qual := "Working.begin") (st:=yG) l12 c12 k12
 have B12:=F12.binds (ps:=["self","part","it"]) fun _ _ _ _ _ _ us hl=>match us,hl with | [_,_,_],_=>rfl
 have F13:=j7 (x := "end_join") (qual := "Working.end_join") (st:=qO) l13 c13 k13
 have B13:=F13.binds (ps:=["self","number"]) fun _ _ _ _ _ _ us hl=>match us,hl with | [_,_],_=>rfl
 have F14:=j7 (x := "run") (qual := "Working.run") (st:=yz) l14 c14 k14
 have B14:=F14.binds (ps:=["self"]) fun _ _ _ _ _ _ us hl=>match us,hl with | [_],_=>rfl
 have F15:=j7 (x := "worked") (qual := "worked") (st:=Qx) l15 c15 k15
 have B15:=F15.binds (ps:=["tree","stem","answers"]) fun _ _ _ _ _ _ us hl=>match us,hl with | [_,_,_],_=>rfl
 have F16:=j7 (x := "_law_mixed") (qual := "_law_mixed") (st:=ZR) l16 c16 k16
 have B16:=F16.binds (ps:=["_law_cell","_law_k"]) fun _ _ _ _ _ _ us hl=>match us,hl with | [_,_],_=>rfl
 have F17:=j7 (x := "_law_cell_at") (qual := "_law_cell_at") (st:=yj) l17 c17 k17
 have B17:=F17.binds (ps:=["_law_script","_law_k"]) fun _ _ _ _ _ _ us hl=>match us,hl with | [_,_],_=>rfl
 have F18:=j7 (x := "_law_sign_by") (qual := "_law_sign_by") (st:=ye) l18 c18 k18
 have B18:=F18.binds (ps:=["_law_cell"]) fun _ _ _ _ _ _ us hl=>match us,hl with | [_],_=>rfl
 have F19:=j7 (x := "_law_text_by") (qual := "_law_text_by") (st:=yb) l19 c19 k19
 have B19:=F19.binds (ps:=["_law_cell","_law_size"]) fun _ _ _ _ _ _ us hl=>match us,hl with | [_,_],_=>rfl
 have F20:=j7 (x := "_law_part_by") (qual := "_law_part_by") (st:=yd) l20 c20 k20
 have B20:=F20.binds (ps:=["_law_cell","_law_names"]) fun _ _ _ _ _ _ us hl=>match us,hl with | [_,_],_=>rfl
 have F21:=j7 (x := "_law_answer_by") (qual := "_law_answer_by") (st:=zZ) l21 c21 k21
 have B21:=F21.binds (ps:=["_law_cell","_law_names"]) fun _ _ _ _ _ _ us hl=>match us,hl with | [_,_],_=>rfl
 have F22:=j7 (x := "law") (qual := "law") (st:=z9) l22 c22 k22
 have jZ:=PySem.W.mg_none_of X G z_range
 have qL:=PySem.W.mg_none_of X G z_len
 have qc:=PySem.W.mg_none_of X G z_reversed
 have JT:=PySem.W.mg_none_of X G z_list
 have JU:=PySem.W.mg_none_of X G z_dict
 have y1:=PySem.W.mg_none_of X G z_tuple
 have qI:=PySem.W.mg_none_of X G z_isinstance
 have zEG:=PySem.W.mg_none_of X G z_all
 have zEH:=PySem.W.mg_none_of X G z_str
 have zEF:=PySem.W.mg_none_of X G z_int
 have zAC:zDI mg "MOST_SIGNS" (.int 900):=⟨_,PySem.W.mg_of X G v_MOST_SIGNS,zG2 r_MOST_SIGNS⟩
 have zAD:zDI mg "MOST_STEPS" (.int 500):=⟨_,PySem.W.mg_of X G v_MOST_STEPS,zG2 r_MOST_STEPS⟩
 have zG:jK K zA:=⟨rfl,⟨zBc,zBd,zBe,zBf⟩,JA zAF (JA zAG (JA zAH (JA zAI (JA zAJ (JA zAK (JA zAL (fun f hf=>nomatch hf))))))),by decide +kernel,by decide +kernel⟩
 refine⟨fdL (PySem.W.fnOf "law" "law" (jT z9) (zx z9) (zL z9) .none kV22 dc22 pm22 an22 cd22 ct22) "_law_script",fun s v=>.of_eq rfl,by kernel_rfl,fun base _ _=>?_⟩
 have jG:yI l.prog w K mg base zA:=⟨⟨_,_,zEc F1,B1,k1,PySem.W.mg_of X G a1⟩⟩
 have y9:Qi l.prog w K mg base zA:=⟨⟨_,_,zDN F2 jG jZ,B2,k2,PySem.W.mg_of X G a2⟩⟩
 have ZA:Qg l.prog w K mg base zA:=⟨⟨_,_,zDK F3 y9 jG jZ,B3,k3,PySem.W.mg_of X G a3⟩⟩
 have Qq:zBX l.prog w K mg base zA:=⟨⟨_,_,zGn F4 qL,B4,k4,PySem.W.mg_of X G a4⟩⟩
 have Z5:JQ l.prog w K mg base zA:=⟨⟨_,_,zBx F5 zG,B5,⟨zBg,a5,i5,zBh⟩,PySem.W.mg_of X G zBb⟩⟩
 have yk:JD l.prog w K mg base zA:=⟨⟨_,_,zED F6 zG,B6,⟨a6,i6,k6⟩⟩⟩
 have jf:ZF l.prog w K mg base zA:=⟨⟨_,_,zCK F7 zG yk qL zAC,B7,⟨a7,i7,k7⟩⟩⟩
 have Zq:Qv l.prog w K mg base zA:=⟨⟨_,_,zBL F8 zG,B8,⟨a8,i8,k8⟩⟩⟩
 have qd:Zv l.prog w K mg base zA:=⟨⟨_,_,Jb F9 zG jf,B9,⟨a9,i9,k9⟩⟩⟩
 have qF:Qs l.prog w K mg base zA:=⟨⟨_,_,zBH F10 zG qc,B10,⟨a10,i10,k10⟩⟩⟩
 have ZS:Qb l.prog w K mg base zA:=⟨⟨_,_,zAU F11 zG qF qL,B11,⟨a11,i11,k11⟩⟩⟩
 have Qp:zAQ l.prog w K mg base zA:=⟨⟨_,_,zDF F12 zG yk jf Zq qd ZS zAD,B12,⟨a12,i12,k12⟩⟩⟩
 have Z4:JR l.prog w K mg base zA:=⟨⟨_,_,zBt F13 zG jf jZ qc,B13,⟨a13,i13,k13⟩⟩⟩
 have JX:zBj l.prog w K mg base zA:=⟨⟨_,_,zEq F14 zG Qp Z4 qL,B14,⟨a14,i14,k14⟩⟩⟩
 have Z6:zBB l.prog w K mg base zA:=⟨⟨_,_,zIO F15 zG Z5 JX JT,B15,k15,PySem.W.mg_of X G a15⟩⟩
 have zAE:zCJ l.prog w K mg base zA:=⟨⟨_,_,zFO F16,B16,k16,PySem.W.mg_of X G a16⟩⟩
 have jE:yg l.prog w K mg base zA:=⟨⟨_,_,zD7 F17 zAE qL,B17,k17,PySem.W.mg_of X G a17⟩⟩
 have JG:zAk l.prog w K mg base zA:=⟨⟨_,_,zD5 F18,B18,k18,PySem.W.mg_of X G a18⟩⟩
 have qR:Z8 l.prog w K mg base zA:=⟨⟨_,_,zDr F19 JG jZ,B19,k19,PySem.W.mg_of X G a19⟩⟩
 have ZT:JE l.prog w K mg base zA:=⟨⟨_,_,zDa F20 qR,B20,k20,PySem.W.mg_of X G a20⟩⟩
 have yn:QZ l.prog w K mg base zA:=⟨⟨_,_,zCs F21 qR,B21,k21,PySem.W.mg_of X G a21⟩⟩
 exact (zN9 F22 ZA Qq Z6 jE ZT yn jZ JU qL y1 qI JT zEG qc zEH zEF).imp fun _ _ _ _ h=>h _
theorem zPU {l:PySem.W.OpenLaw}{q:Program}{loose:List Str}{XP:(Str->Option Value)->Heap->Prop}{YP:World->Heap->Prop}{d:DefRec}{K:Params->PySem.W.Frag} (hn:l.most=some 63) (hdf:d.params.defaults=[])
  (hY:∀ (w:World) (h:Heap),YP w h->(K w.params).In h)
  (F:∀ (w:World) (mg:Str->Option Value) (fa:Addr) (h:Heap),(K w.params).In h->h.Ns mainGlobals mg->mg d.name=some (.ref fa) ->
   ∃ fd:FuncData,(∀ (s:Shared) (u:Value),BindsTo s fd ⟨[u],[]⟩ [("_law_script",u)])/\fd.scope.names.lookup ("_law_script" : Str)=some .local/\∀ base:Heap,(K w.params).In base->base.Ns mainGlobals mg->jW l.prog w (K w.params) mg base CX0 7 fa fd ["_law_script"] (zFf (K w.params))) :
  PySem.W.WalkO q loose XP YP l.row.toRowW d [] (fun f vs=>PySem.call f vs) :=
 L2.zLL (n:=63) (k:=7) (x := "_law_script") (CX:=fun _=>CX0) (sp:=fun w=>zFf (K w.params)) hn (by decide) hdf ⟨rfl,by decide,by decide⟩ hY F (fun _ _ _ _ hl hO hS=>zKd hl hO hS) fun _ _ _ _ _ z=>z
end My
theorem PySem.W.Fast.tw10250569910746826666:True:=trivial
theorem PySem.W.Fast.tw15925674527718520165:True:=trivial
theorem PySem.W.Fast.tw14622539129864143010:True:=trivial
theorem PySem.W.Fast.tw15668798744610216603:True:=trivial
theorem PySem.W.Fast.tw14044919083172173856:True:=trivial
theorem PySem.W.Fast.tw129018010083929220:True:=trivial
theorem PySem.W.Fast.tw900042676965067109:True:=trivial
theorem PySem.W.Fast.tw14822080302071519580:True:=trivial
theorem PySem.W.Fast.tw1678945832868902982:True:=trivial
theorem PySem.W.Fast.tw9408325303194874660:True:=trivial
theorem PySem.W.Fast.tw4835936356245685708:True:=trivial
theorem PySem.W.Fast.tw2582915843057363222:True:=trivial
theorem PySem.W.Fast.tw10781377800449489468:True:=trivial
theorem PySem.W.Fast.tw3806094541788346681:True:=trivial
theorem PySem.W.Fast.tw14285254765337830886:True:=trivial
theorem PySem.W.Fast.tw11264338073667931821:True:=trivial
theorem PySem.W.Fast.tw14668627947581498729:True:=trivial
theorem PySem.W.Fast.tw10298550573331828574:True:=trivial
theorem PySem.W.Fast.tw11874584753927604192:True:=trivial
theorem PySem.W.Fast.tw13234897120297939177:True:=trivial
theorem PySem.W.Fast.tw14407586650720607389:True:=trivial
theorem PySem.W.Fast.tw16882211273299152780:True:=trivial
theorem PySem.W.Fast.tw5216166080768846514:True:=trivial
theorem PySem.W.Fast.tw10440322431968276538:True:=trivial
theorem PySem.W.Fast.tw1943384719801806663:True:=trivial
theorem PySem.W.Fast.tw17924584632853272006:True:=trivial
theorem PySem.W.Fast.tw4549297348521953844:True:=trivial
theorem PySem.W.Fast.tw11981061127808804216:True:=trivial
theorem PySem.W.Fast.tw2329645849953641930:True:=trivial
theorem PySem.W.Fast.tw10083355715026532181:True:=trivial
theorem PySem.W.Fast.tw14973901107902179178:True:=trivial
theorem PySem.W.Fast.tw2423303165695572021:True:=trivial
theorem PySem.W.Fast.tw13695268097732458273:True:=trivial
theorem PySem.W.Fast.tw8285978615904083119:True:=trivial
theorem PySem.W.Fast.tw1047169001046180480:True:=trivial
theorem PySem.W.Fast.tw10305939520362164131:True:=trivial
theorem PySem.W.Fast.tw17954063302782954763:True:=trivial
theorem PySem.W.Fast.tw291331517896255226:True:=trivial
theorem PySem.W.Fast.tw3272535321101468305:True:=trivial
theorem PySem.W.Fast.tw5227888955799640063:True:=trivial
theorem PySem.W.Fast.tw250048642306617671:True:=trivial
theorem PySem.W.Fast.tw8261716329526348959:True:=trivial
theorem PySem.W.Fast.tw15981980335506606373:True:=trivial
theorem PySem.W.Fast.tw15866435188300554386:True:=trivial
theorem PySem.W.Fast.tw13572441157780787237:True:=trivial
theorem PySem.W.Fast.tw3538929099323483323:True:=trivial
theorem PySem.W.Fast.tw11926012031347438009:True:=trivial
theorem PySem.W.Fast.tw12417196042183513456:True:=trivial
theorem PySem.W.Fast.tw6349324932116470082:True:=trivial
theorem PySem.W.Fast.tw2955788872903569788:True:=trivial
theorem PySem.W.Fast.tw3960567712693596384:True:=trivial
theorem PySem.W.Fast.tw5439453854587688249:True:=trivial
theorem PySem.W.Fast.tw16108244687756643333:True:=trivial
theorem PySem.W.Fast.tw2268434093760661835:True:=trivial
theorem PySem.W.Fast.tw7831092911262477997:True:=trivial
theorem PySem.W.Fast.tw6247371384979130231:True:=trivial
theorem PySem.W.Fast.tw15969770567498461745:True:=trivial
theorem PySem.W.Fast.tw645716623159686050:True:=trivial
theorem PySem.W.Fast.tw17141345834786616528:True:=trivial
theorem PySem.W.Fast.tw3977012192975742425:True:=trivial
theorem PySem.W.Fast.tw12164418979163542919:True:=trivial
theorem PySem.W.Fast.tw8998561832071404880:True:=trivial
theorem PySem.W.Fast.tw6214685215601173663:True:=trivial
theorem PySem.W.Fast.tw12029618593854315859:True:=trivial
theorem PySem.W.Fast.tw5908741349951571848:True:=trivial
theorem PySem.W.Fast.tw8726182692120252848:True:=trivial
theorem PySem.W.Fast.tw5102986611583165606:True:=trivial
theorem PySem.W.Fast.tw11584656007373503436:True:=trivial
theorem PySem.W.Fast.tw16514275351724565425:True:=trivial
theorem PySem.W.Fast.tw4779670304820256221:True:=trivial
theorem PySem.W.Fast.tw12418216782477616846:True:=trivial
theorem PySem.W.Fast.tw4018876789425705427:True:=trivial
theorem PySem.W.Fast.tw16458434015357550064:True:=trivial
theorem PySem.W.Fast.tw3312639223014852661:True:=trivial
open PySem PySem.W PyProof.Rows
set_option maxRecDepth 100000 in
set_option maxHeartbeats 0 in
theorem PySem.Challenge.cw_thingyard_k43_asked_in_order_holds : PySem.Challenge.rw_thingyard_k43_asked_in_order.Holds := by
 w_on;o_law;k_head;(case hw=>w_witness2)
 k_fill
 refine My.zPU (l:=PySem.Challenge.rw_thingyard_k43_asked_in_order) rfl rfl (fun w h Y=>PySem.W.kIn_of Y) ?F
 case F =>
  intro w mg fa h KX G hmg
  refine' My.zMM KX G hmg ?zBb ?zBc ?zBd ?zBe ?zBf ?zBg ?zBh ?zAF ?zAG ?zAH ?zAI ?zAJ ?zAK ?zAL ?a1 ?l1 ?c1 ?k1 ?a2 ?l2 ?c2 ?k2 ?a3 ?l3 ?c3 ?k3 ?a4 ?l4 ?c4 ?k4 ?a5 ?i5 ?l5 ?c5 ?k5 ?a6 ?i6 ?l6 ?c6 ?k6 ?a7 ?i7 ?l7 ?c7 ?k7 ?a8 ?i8 ?l8 ?c8 ?k8 ?a9 ?i9 ?l9 ?c9 ?k9 ?a10 ?i10 ?l10 ?c10 ?k10 ?a11 ?i11 ?l11 ?c11 ?k11 ?a12 ?i12 ?l12 ?c12 ?k12 ?a13 ?i13 ?l13 ?c13 ?k13 ?a14 ?i14 ?l14 ?c14 ?k14 ?a15 ?l15 ?c15 ?k15 ?a16 ?l16 ?c16 ?k16 ?a17 ?l17 ?c17 ?k17 ?a18 ?l18 ?c18 ?k18 ?a19 ?l19 ?c19 ?k19 ?a20 ?l20 ?c20 ?k20 ?a21 ?l21 ?c21 ?k21 ?a22 ?l22 ?c22 ?k22 ?z_range ?z_len ?z_reversed ?z_list ?z_dict ?z_tuple ?z_isinstance ?z_all ?z_str ?z_int ?v_MOST_SIGNS ?r_MOST_SIGNS ?v_MOST_STEPS ?r_MOST_STEPS
  (case zBb=>k_is)
  (case zBc=>k_is)
  (case zBd=>k_is)
  (case zBe=>k_is)
  (case zBf=>k_is)
  (case zBg=>k_is)
  (case zBh=>k_is)
  (case zAF=>k_is)
  (case zAG=>k_is)
  (case zAH=>k_is)
  (case zAI=>k_is)
  (case zAJ=>k_is)
  (case zAK=>k_is)
  (case zAL=>k_is)
  (case a1=>k_is)
  (case l1=>k_is)
  (case c1=>k_is)
  (case k1=>k_is)
  (case a2=>k_is)
  (case l2=>k_is)
  (case c2=>k_is)
  (case k2=>k_is)
  (case a3=>k_is)
  (case l3=>k_is)
  (case c3=>k_is)
  (case k3=>k_is)
  (case a4=>k_is)
  (case l4=>k_is)
  (case c4=>k_is)
  (case k4=>k_is)
  (case a5=>k_is)
  (case i5=>k_is)
  (case l5=>k_is)
  (case c5=>k_is)
  (case k5=>k_is)
  (case a6=>k_is)
  (case i6=>k_is)
  (case l6=>k_is)
  (case c6=>k_is)
  (case k6=>k_is)
  (case a7=>k_is)
  (case i7=>k_is)
  (case l7=>k_is)
  (case c7=>k_is)
  (case k7=>k_is)
  (case a8=>k_is)
  (case i8=>k_is)
  (case l8=>k_is)
  (case c8=>k_is)
  (case k8=>k_is)
  (case a9=>k_is)
  (case i9=>k_is)
  (case l9=>k_is)
  (case c9=>k_is)
  (case k9=>k_is)
  (case a10=>k_is)
  (case i10=>k_is)
  (case l10=>k_is)
  (case c10=>k_is)
  (case k10=>k_is)
  (case a11=>k_is)
  (case i11=>k_is)
  (case l11=>k_is)
  (case c11=>k_is)
  (case k11=>k_is)
  (case a12=>k_is)
  (case i12=>k_is)
  (case l12=>k_is)
  (case c12=>k_is)
  (case k12=>k_is)
  (case a13=>k_is)
  (case i13=>k_is)
  (case l13=>k_is)
  (case c13=>k_is)
  (case k13=>k_is)
  (case a14=>k_is)
  (case i14=>k_is)
  (case l14=>k_is)
  (case c14=>k_is)
  (case k14=>k_is)
  (case a15=>k_is)
  (case l15=>k_is)
  (case c15=>k_is)
  (case k15=>k_is)
  (case a16=>k_is)
  (case l16=>k_is)
  (case c16=>k_is)
  (case k16=>k_is)
  (case a17=>k_is)
  (case l17=>k_is)
  (case c17=>k_is)
  (case k17=>k_is)
  (case a18=>k_is)
  (case l18=>k_is)
  (case c18=>k_is)
  (case k18=>k_is)
  (case a19=>k_is)
  (case l19=>k_is)
  (case c19=>k_is)
  (case k19=>k_is)
  (case a20=>k_is)
  (case l20=>k_is)
  (case c20=>k_is)
  (case k20=>k_is)
  (case a21=>k_is)
  (case l21=>k_is)
  (case c21=>k_is)
  (case k21=>k_is)
  (case a22=>k_is)
  (case l22=>k_is)
  (case c22=>k_is)
  (case k22=>k_is)
  (case z_range=>k_is)
  (case z_len=>k_is)
  (case z_reversed=>k_is)
  (case z_list=>k_is)
  (case z_dict=>k_is)
  (case z_tuple=>k_is)
  (case z_isinstance=>k_is)
  (case z_all=>k_is)
  (case z_str=>k_is)
  (case z_int=>k_is)
  (case v_MOST_SIGNS=>k_is)
  (case r_MOST_SIGNS=>rfl)
  (case v_MOST_STEPS=>k_is)
  (case r_MOST_STEPS=>rfl)
