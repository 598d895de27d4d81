import PyProof.Rows.All
import Wide.All
import OpenK.AllK
import Wide.FinOn
import Lean
import PyProof.EqAt
import PyProof.EqKinds
import PyProof.TupleCall
import PySem.Challenge.RW_thingyard_k53_keys_in_order
set_option Elab.async false
set_option linter.all false
set_option maxRecDepth 100000
noncomputable section
namespace L2
open PySem PySem.Spec PyProof.Rows
noncomputable abbrev Key:=Sum Int Str
noncomputable def zAS:Key->Value->Bool
 | .inl k,v=>Value.isInt k v
 | .inr x,v=>Value.isStrOf x v
noncomputable def zMo (w:World):Key->Int
 | .inl k=>hashInt k
 | .inr x=>hashStr w x
theorem j5:∀ {k:Key}{v:Value},zAS k v=true->(∃ i t,k=Sum.inl i/\v=Value.int i t)\/(∃ x t,k=Sum.inr x/\v=Value.str x t)
 | .inl i,v,h=>by
  obtain⟨t,e⟩:=Value.isInt_shape (k:=i) (v:=v) h
  exact .inl ⟨i,t,rfl,e⟩
 | .inr x,v,h=>by
  obtain⟨t,e⟩:=Value.isStrOf_shape (x:=x) (v:=v) h
  exact .inr ⟨x,t,rfl,e⟩
theorem zF2 (i:Int) (t:Tok):zAS (.inl i) (.int i t)=true:=by simp[zAS,Value.isInt]
theorem zF1 (x:Str) (t:Tok):zAS (.inr x) (.str x t)=true:=by simp[zAS,Value.isStrOf]
theorem zKc (a b:Int):decide ((Sum.inl a:Key)=Sum.inl b)=(a == b):=by
 by_cases e:a=b
 ·subst e;simp
 ·have h:¬ (Sum.inl a:Key)=Sum.inl b:=fun q=>e (Sum.inl.inj q)
  rw[decide_eq_false h]
  exact (beq_eq_false_iff_ne.mpr e).symm
theorem zLC (a b:Str):decide ((Sum.inr a:Key)=Sum.inr b)=decide (a=b):=by
 by_cases e:a=b
 ·subst e;simp
 ·have h:¬ (Sum.inr a:Key)=Sum.inr b:=fun q=>e (Sum.inr.inj q)
  rw[decide_eq_false h,decide_eq_false e]
theorem zKI (a:Int) (b:Str):decide ((Sum.inl a:Key)=Sum.inr b)=false:=decide_eq_false (fun q=>nomatch q)
theorem zJ3 (a:Str) (b:Int):decide ((Sum.inr a:Key)=Sum.inl b)=false:=decide_eq_false (fun q=>nomatch q)
noncomputable def qG (prog:Program) (w:World):PySem.KeyKind prog w Key where
 is:=zAS
 hash:=zMo w
 inj:=fun v a b ha hb=>by
  rcases j5 ha with ⟨i,t,rfl,rfl⟩ | ⟨x,t,rfl,rfl⟩
  ·rcases j5 hb with ⟨j,u,rfl,e⟩ | ⟨y,u,rfl,e⟩
   ·injection e with e1 _;rw[e1]
   ·exact nomatch e
  ·rcases j5 hb with ⟨j,u,rfl,e⟩ | ⟨y,u,rfl,e⟩
   ·exact nomatch e
   ·injection e with e1 _;rw[e1]
 byValue:=fun k v h=>by
  rcases j5 h with ⟨i,t,rfl,rfl⟩ | ⟨x,t,rfl,rfl⟩<;>rfl
 pyHash:=fun hv h=>by
  rcases j5 hv with ⟨i,t,rfl,rfl⟩ | ⟨x,t,rfl,rfl⟩
  ·exact wpAny_pyHash_int h
  ·exact wpAny_pyHash_str h
 eqBool:=fun hu hv h=>by
  rcases j5 hu with ⟨i,t,rfl,rfl⟩ | ⟨x,t,rfl,rfl⟩
  ·rcases j5 hv with ⟨j,u,rfl,rfl⟩ | ⟨y,u,rfl,rfl⟩
   ·rw[zKc] at h;exact wpAny_eqBool_int h
   ·rw[zKI] at h;exact SeqAt.EqAt.int_str i t y u _ _ _ _ h
  ·rcases j5 hv with ⟨j,u,rfl,rfl⟩ | ⟨y,u,rfl,rfl⟩
   ·rw[zJ3] at h;exact SeqAt.EqAt.str_int x t j u _ _ _ _ h
   ·rw[zLC] at h;exact wpAny_eqBool_str h
 «strs» := fun k x t v h=>by
  rcases j5 h with ⟨i,u,rfl,e⟩ | ⟨y,u,rfl,e⟩
  ·exact nomatch e
  ·injection e with e1 _
   subst e1
   cases v<;>rfl
theorem zEV (prog:Program) (w:World) (i:Int) (t:Tok):(qG prog w).is (.inl i) (.int i t)=true:=zF2 i t
theorem zET (prog:Program) (w:World) (x:Str) (t:Tok):(qG prog w).is (.inr x) (.str x t)=true:=zF1 x t
end L2
namespace L2
open PySem PySem.Spec PyProof.Rows
inductive V where
 | non | bl (b:Bool) | int (i:Int) | str (x:Str) | byt (b:Array UInt8) | flt (b:UInt64) | ref (a:Addr) | ty (n:String)
 deriving DecidableEq
noncomputable def zc:V->Value->Prop
 | .non,u=>u=Value.none
 | .bl b,u=>u=Value.bool b
 | .int i,u=>∃ t,u=Value.int i t
 | .str x,u=>∃ t,u=Value.str x t
 | .byt b,u=>∃ t,u=Value.bytes b t
 | .flt b,u=>∃ t,u=Value.float b t
 | .ref a,u=>u=Value.ref a
 | .ty n,u=>u=Value.type n
noncomputable abbrev zX:List V->List Value->Prop:=Paired zc
theorem zX.length {xs:List V}{us:List Value} (r:zX xs us):xs.length=us.length:=Paired.length r
theorem zX.get:∀ {xs:List V}{us:List Value}{i:Nat}{x:V},zX xs us->xs[i]? = some x->∃ u,us[i]? = some u/\zc x u
 | _,_,_,_,.nil,e=>by simp at e
 | _,_,0,_,.cons r _,e=>by simp at e;subst e;exact⟨_,rfl,r⟩
 | _,_,i+1,x,.cons _ t,e=>by
  obtain⟨u,h1,h2⟩:=zX.get (i:=i) (x:=x) t (by simpa using e)
  exact⟨u,by simpa using h1,h2⟩
theorem zX.set {x:V}{u:Value} (r:zc x u):∀ {xs:List V}{us:List Value} (i:Nat),zX xs us->zX (xs.set i x) (us.set i u)
 | _,_,_,.nil=>.nil
 | _,_,0,.cons _ t=>.cons r t
 | _,_,i+1,.cons q t=>.cons q (zX.set r i t)
theorem zX.append:∀ {xs ys:List V}{us ws:List Value},zX xs us->zX ys ws->zX (xs++ys) (us++ws)
 | _,_,_,_,.nil,s=>s
 | _,_,_,_,.cons r t,s=>.cons r (zX.append t s)
theorem zX.take:∀ {xs:List V}{us:List Value} (n:Nat),zX xs us->zX (xs.take n) (us.take n)
 | _,_,0,_=>.nil
 | _,_,_+1,.nil=>.nil
 | _,_,n+1,.cons r t=>.cons r (zX.take n t)
theorem zX.drop:∀ {xs:List V}{us:List Value} (n:Nat),zX xs us->zX (xs.drop n) (us.drop n)
 | _,_,0,r=>r
 | _,_,_+1,.nil=>.nil
 | _,_,n+1,.cons _ t=>zX.drop n t
noncomputable def y8:Option V->Option Value->Prop
 | some v,some u=>zc v u
 | none,none=>True
 | _,_=>False
noncomputable def KV {κ:Type}:List (κ×V)->List (κ×Value)->Prop:=Paired fun (p:κ×V) (q:κ×Value)=>p.1=q.1/\zc p.2 q.2
noncomputable def kV:Key->V
 | .inl i=>.int i
 | .inr x=>.str x
inductive HO where
 | lst (xs:List V)
 | tup (xs:List V)
 | dK (kvs:List (Key×V)) | dT (kvs:List (List Key×V))
 | set (S:Int->Bool) (n:Nat)
 | ins (C dx:Addr) (fs:List (Str×V))
 | own (x:Addr)
 | xd (fs:List (Str×V))
 | met (f x:Addr)
 | rng (lo hi:Int)
 | frz (o:Obj) (u:HO)
 | tbl (ps:Array Value)
 | ext (φ:Heap->Prop)
noncomputable abbrev Hp:=Addr->Option HO
noncomputable def upd (H:Hp) (a:Addr) (o:HO):Hp:=fun b=>if b=a then some o else H b
theorem jX {H:Hp}{a:Addr}{o:HO}:upd H a o a=some o:=by unfold upd;rw[if_pos rfl]
theorem jA {H:Hp}{a b:Addr}{o:HO} (h:b≠a):upd H a o b=H b:=by unfold upd;rw[if_neg h]
theorem zL0 {H:Hp}{a b:Addr}{o u:HO} (h:H a=some o) (h':H b=some u) (d:o≠u):a≠b:=by
 intro e;subst e;rw[h] at h';exact d (Option.some.inj h')
theorem yO {H:Hp}{a b:Addr}{o:HO} (h:H a=some o) (h':H b=none):a≠b:=by
 intro e;subst e;rw[h] at h';cases h'
section
variable (P:Program) (w:World)
noncomputable def jm (H:Hp) (h:Heap) (a:Addr):HO->Prop
 | .lst xs=>xs.length <= sizeLine/\∃ (its:List Value) (n:Nat),zX xs its/\h.get? a=some { cls:=.type "list",data:=.seq its.toArray n }
 | .tup xs=>xs.length <= sizeLine/\∃ its:List Value,zX xs its/\IsTup h a its.toArray
 | .dK kvs=>kvs.length <= sizeLine/\(a == sysModules)=false/\∃ vs,KV kvs vs/\h.DictOf (qG P w) a vs
 | .dT kvs=>kvs.length <= sizeLine/\(a == sysModules)=false/\∃ xs:List (List Key×Addr×Value),
   Paired (fun (p:List Key×V) (q:List Key×Addr×Value)=>p.1=q.1/\H q.2.1=some (.tup (p.1.map kV))/\zc p.2 q.2.2) kvs xs /\
   ∃ o es ep,h.get? a=some o/\o.ExactDict/\o.data=.dict es ep/\es.toList=xs.map (entryOfKey (tupleKind (qG P w)))/\(xs.map (·.1)).Nodup
 | .set S n=>h.SetOf (intKind P w) a S n
 | .ins C dx fs=>H dx=some (.own a)/\fs.length <= 1000/\dx≠a/\h.get? a=some (PySem.W.instObj C dx) /\
   ∃ mA,h.Ns1 dx mA/\(∀ f,y8 (fs.lookup f) (mA f))/\PySem.Within mA (fs.map (·.1))
 | .own _=>∃ o,h.get? a=some o
 | .xd fs=>∃ mA,h.Ns1 a mA/\∀ f,y8 (fs.lookup f) (mA f)
 | .rng lo hi=>∃ t u v,h.get? a=some { cls:=.type "range",data:=.fields #[.int lo t,.int hi u,.int 1 v] }
 | .frz o u=>h.get? a=some o/\jm H h a u
 | .tbl ps=>h.get? a=some { cls:=.none,data:=.fields ps }
 | .met f x=>h.get? a=some (PySem.W.methodObj (.ref f) (.ref x))
 | .ext φ=>φ h/\(∃ o,h.get? a=some o)/\∀ h1 h2:Heap,φ h1->(∀ o,h1.get? a=some o->h2.get? a=some o)->φ h2
noncomputable def HOk (H:Hp) (h:Heap):Prop:=∀ a o,H a=some o->jm P w H h a o
end
section
variable {P:Program}{w:World}{H H':Hp}{h h':Heap}{a:Addr}{o:HO}
theorem jm.lt (x:jm P w H h a o):a < h.objs.size:=by
 cases o with
 | lst xs=>obtain⟨_,_,_,_,e⟩:=x;exact Heap.lt_size e
 | tup xs=>obtain⟨_,_,_,p⟩:=x;exact p.lt
 | dK kvs=>obtain⟨_,_,_,_,o,_,_,e,_⟩:=x;exact Heap.lt_size e
 | dT kvs=>obtain⟨_,_,_,_,o,_,_,e,_⟩:=x;exact Heap.lt_size e
 | set S n=>obtain⟨o,_,_,_,e,_⟩:=x;exact Heap.lt_size e
 | ins C dx fs=>obtain⟨_,_,_,e,_⟩:=x;exact Heap.lt_size e
 | own y=>obtain⟨_,e⟩:=x;exact Heap.lt_size e
 | xd fs=>obtain⟨_,⟨_,_,_,e,_⟩,_⟩:=x;exact Heap.lt_size e
 | rng lo hi=>obtain⟨_,_,_,e⟩:=x;exact Heap.lt_size e
 | frz ob u=>obtain⟨e,_⟩:=x;exact Heap.lt_size e
 | tbl ps=>exact Heap.lt_size (show h.get? a=some _ from x)
 | met f y=>exact Heap.lt_size (show h.get? a=some _ from x)
 | ext φ=>obtain⟨_,⟨_,e⟩,_⟩:=x;exact Heap.lt_size e
theorem Paired.mapP {α β:Type}{F G:α->β->Prop}:∀ {l₁:List α}{l₂:List β},Paired F l₁ l₂->(∀ a b,F a b->G a b)->Paired G l₁ l₂
 | _,_,.nil,_=>.nil
 | _,_,.cons r t,f=>.cons (f _ _ r) (Paired.mapP t f)
theorem jm.stay (x:jm P w H h a o) (k:∀ b u,(b=a\/H b=some (.own a))->h.get? b=some u->h'.get? b=some u)
  (ho:∀ b,H b=some (.own a)->H' b=some (.own a)) (ht:∀ b xs,H b=some (.tup xs)->H' b=some (.tup xs)):jm P w H' h' a o:=by
 induction o with
 | lst xs=>obtain⟨z,its,n,r,e⟩:=x;exact⟨z,its,n,r,k _ _ (.inl rfl) e⟩
 | tup xs=>obtain⟨z,its,r,ob,e,c⟩:=x;exact⟨z,its,r,ob,k _ _ (.inl rfl) e,c⟩
 | dK kvs=>obtain⟨z,y,vs,r,ob,es,ep,e,c⟩:=x;exact⟨z,y,vs,r,ob,es,ep,k _ _ (.inl rfl) e,c⟩
 | dT kvs =>
  obtain⟨z,y,xs,r,ob,es,ep,e,c⟩:=x
  exact⟨z,y,xs,Paired.mapP r fun p q z=>⟨z.1,ht _ _ z.2.1,z.2.2⟩,ob,es,ep,k _ _ (.inl rfl) e,c⟩
 | set S n=>obtain⟨ob,es,ep,t,e,c⟩:=x;exact⟨ob,es,ep,t,k _ _ (.inl rfl) e,c⟩
 | ins C dx fs =>
  obtain⟨d,z,ne,e,mA,⟨od,es,ep,e2,c⟩,r⟩:=x
  exact⟨ho _ d,z,ne,k _ _ (.inl rfl) e,mA,⟨od,es,ep,k _ _ (.inr d) e2,c⟩,r⟩
 | own y=>obtain⟨ob,e⟩:=x;exact⟨ob,k _ _ (.inl rfl) e⟩
 | xd fs=>obtain⟨mA,⟨od,es,ep,e,c⟩,r⟩:=x;exact⟨mA,⟨od,es,ep,k _ _ (.inl rfl) e,c⟩,r⟩
 | rng lo hi=>obtain⟨t,u,v,e⟩:=x;exact⟨t,u,v,k _ _ (.inl rfl) e⟩
 | frz ob u ih=>obtain⟨e,q⟩:=x;exact⟨k _ _ (.inl rfl) e,ih q⟩
 | tbl ps =>
  have e:h.get? a=some { cls:=.none,data:=.fields ps }:=x
  show h'.get? a=some { cls:=.none,data:=.fields ps }
  exact k a _ (.inl rfl) e
 | met f y =>
  have e:h.get? a=some (PySem.W.methodObj (.ref f) (.ref y)):=x
  show h'.get? a=some (PySem.W.methodObj (.ref f) (.ref y))
  exact k a _ (.inl rfl) e
 | ext φ=>obtain⟨p,⟨o,e⟩,st⟩:=x;exact⟨st _ _ p fun o q=>k _ _ (.inl rfl) q,⟨o,k _ _ (.inl rfl) e⟩,st⟩
theorem HOk.lt (x:HOk P w H h) (e:H a=some o):a < h.objs.size:=(x a o e).lt
theorem HOk.fresh (x:HOk P w H h) (e:h.objs.size <= a):H a=none:=by
 cases q:H a with
 | none=>rfl
 | some u=>exact absurd (Nat.lt_of_lt_of_le (x.lt q) e) (Nat.lt_irrefl _)
theorem HOk.kept (x:HOk P w H h) (k:∀ b u,h.get? b=some u->h'.get? b=some u):HOk P w H h':=fun a o e =>
 (x a o e).stay (fun b u _ q=>k b u q) (fun _ q=>q) fun _ _ q=>q
theorem HOk.laid (x:HOk P w H h) (k:∀ b u,h.get? b=some u->h'.get? b=some u) (hp:h.objs.size <= a) (new:jm P w (upd H a o) h' a o):HOk P w (upd H a o) h':=fun b u e=>by
 have hn:=x.fresh hp
 by_cases hb:b=a
 ·subst hb;rw[jX] at e;cases e;exact new
 ·rw[jA hb] at e
  exact (x b u e).stay (fun c v _ q=>k c v q) (fun c q=>by rw[jA (yO q hn)];exact q) fun c xs q=>by rw[jA (yO q hn)];exact q
end
noncomputable def Rd (H:Hp) (a:Addr) (u:HO):Prop:=H a=some u\/∃ o,H a=some (.frz o u)
theorem Rd.ok {P:Program}{w:World}{H:Hp}{h:Heap}{a:Addr}{u:HO} (r:Rd H a u) (x:HOk P w H h):jm P w H h a u:=by
 rcases r with r | ⟨o,r⟩
 ·exact x a u r
 ·obtain⟨_,q⟩:=x a _ r
  exact q
noncomputable def Mut:Option HO->Prop
 | some (.lst _)=>True
 | some (.dK _)=>True
 | some (.dT _)=>True
 | some (.set _ _)=>True
 | some (.ins _ _ _)=>True
 | some (.ext _)=>True
 | _=>False
section
variable {P:Program}{w:World}{H:Hp}{h h':Heap}{x e:Addr}{o':HO}
theorem HOk.write (ok:HOk P w H h) (mu:Mut (H x)) (he:e=x\/H e=some (.own x)) (k:∀ b u,b≠e->h.get? b=some u->h'.get? b=some u) (heo:∃ u,h'.get? e=some u)
  (new:jm P w (upd H x o') h' x o'):HOk P w (upd H x o') h':=fun b u q=>by
 have nown:∀ c y,H c=some (.own y)->c≠x:=fun c y r z=>by subst z;rw[r] at mu;exact mu
 have ntup:∀ c xs,H c=some (.tup xs)->c≠x:=fun c xs r z=>by subst z;rw[r] at mu;exact mu
 by_cases hb:b=x
 ·subst hb;rw[jX] at q;cases q;exact new
 ·rw[jA hb] at q
  by_cases hbe:b=e
  ·have q':H b=some (.own x):=by
    rcases he with z | z
    ·exact absurd (hbe.trans z) hb
    ·rw[hbe];exact z
   rw[q] at q';cases q'
   obtain⟨v,hv⟩:=heo
   exact⟨v,by rw[hbe];exact hv⟩
  ·refine (ok b u q).stay (fun c v hc r=>k c v ?_ r) (fun c r=>by rw[jA (nown c b r)];exact r) fun c xs r=>by rw[jA (ntup c xs r)];exact r
   rcases hc with rfl | hc
   ·exact hbe
   ·rintro rfl
    rcases he with z | z
    ·exact nown c b hc z
    ·rw[hc] at z;cases z;exact hb rfl
end
structure Un (fs ex:List Addr) (H H':Hp) (h h':Heap):Prop where
 keep:∀ b o,h.get? b=some o->H b=none->b∉fs->b∉ex->h'.get? b=some o
 slot:∀ b o,h.get? b=some o->H b=none->b∈fs->b∉ex->∃ sl,h'.get? b=some { o with slots:=sl }
 free:∀ b o,h.get? b=some o->H b=none->b∉ex->H' b=none
 there:∀ b o,h.get? b=some o->b∉ex->∃ o',h'.get? b=some o'
 tups:∀ b xs,H b=some (.tup xs)->H' b=some (.tup xs)
 frzs:∀ b o u,H b=some (.frz o u)->H' b=some (.frz o u)
 tbls:∀ b ps,H b=some (.tbl ps)->∃ more,H' b=some (.tbl (ps++more))
section
variable {fs fs' ex ex':List Addr}{H H1 H2:Hp}{h h1 h2 h':Heap}{a x e:Addr}{o:HO}
theorem Un.any (u:Un fs ex H H1 h h1) {b:Addr}{ob:Obj} (q:h.get? b=some ob) (n:H b=none) (hx:b∉ex):∃ sl,h1.get? b=some { ob with slots:=sl }:=by
 by_cases hb:b∈fs
 ·exact u.slot b ob q n hb hx
 ·exact⟨ob.slots,u.keep b ob q n hb hx⟩
theorem Un.kept (k:∀ b u,h.get? b=some u->h'.get? b=some u):Un fs ex H H h h' :=
 ⟨fun b ob q _ _ _=>k b ob q,fun b ob q _ _ _=>⟨ob.slots,k b ob q⟩,fun _ _ _ n _=>n,fun b ob q _=>⟨ob,k b ob q⟩,fun _ _ q=>q,fun _ _ _ q=>q,fun _ ps q=>⟨#[],by rw[q];simp⟩⟩
theorem Un.refl:Un fs ex H H h h:=Un.kept fun _ _ q=>q
theorem Un.laid (k:∀ b u,h.get? b=some u->h'.get? b=some u) (hp:h.objs.size <= a) (hn:H a=none):Un fs ex H (upd H a o) h h' where
 keep:=fun b u q _ _ _=>k b u q
 slot:=fun b u q _ _ _=>⟨u.slots,k b u q⟩
 free:=fun b u q n _=>by rw[jA (Nat.ne_of_lt (Nat.lt_of_lt_of_le (Heap.lt_size q) hp))];exact n
 there:=fun b u q _=>⟨u,k b u q⟩
 tups:=fun b xs q=>by rw[jA (yO q hn)];exact q
 frzs:=fun b u xs q=>by rw[jA (yO q hn)];exact q
 tbls:=fun b ps q=>⟨#[],by rw[jA (yO q hn),q];simp⟩
theorem Un.write (mu:Mut (H x)) (he:e=x\/H e=some (.own x)) (k:∀ b u,b≠e->h.get? b=some u->h'.get? b=some u) (heo:∃ u,h'.get? e=some u):Un fs ex H (upd H x o) h h':=by
 have hx:∀ b,H b=none->b≠x:=fun b n z=>by subst z;rw[n] at mu;exact mu
 have hb:∀ b,H b=none->b≠e:=fun b n z=>by
  subst z
  rcases he with r | r
  ·exact hx b n r
  ·rw[n] at r;cases r
 have hm:∀ b u,H b=some u -> ¬ Mut (some u)->b≠x:=fun b u q nm z=>by subst z;rw[q] at mu;exact nm mu
 refine⟨fun b u q n _ _=>k b u (hb b n) q,fun b u q n _ _=>⟨u.slots,k b u (hb b n) q⟩,fun b u q n _=>by rw[jA (hx b n)];exact n,fun b u q _=>?_,
  fun b xs q=>by rw[jA (hm b _ q fun z=>z)];exact q,fun b u xs q=>by rw[jA (hm b _ q fun z=>z)];exact q,fun b ps q=>⟨#[],by rw[jA (hm b _ q fun z=>z),q];simp⟩⟩
 by_cases hbe:b=e
 ·subst hbe;exact heo
 ·exact⟨u,k b u hbe q⟩
end
noncomputable def trk (h:Heap) (H:Hp):List Addr:=(List.range h.objs.size).filter fun a=>(H a).isSome
noncomputable def JN (h:Heap) (H:Hp):Heap:=PySem.W.hideAll h (trk h H)
theorem zF6 (h:Heap) (H:Hp):(JN h H).objs.size=h.objs.size:=PySem.W.hideAll_size _ _
theorem zHi {h:Heap}{H:Hp}{b:Addr}{o:Obj} (e:h.get? b=some o) (n:H b=none):(JN h H).get? b=some o :=
 PySem.W.hideAll_get _ e fun hm=>by
  have q:(H b).isSome=true:=(List.mem_filter.mp hm).2
  rw[n] at q;simp at q
theorem zJH {h:Heap}{H:Hp}{b:Addr}{o:Obj} (e:(JN h H).get? b=some o):h.get? b=some o/\H b=none:=by
 have e':h.get? b=some o:=PySem.W.of_hideAll (trk h H) e
 refine⟨e',?_⟩
 cases q:H b with
 | none=>rfl
 | some x =>
  have hm:b∈trk h H:=List.mem_filter.mpr ⟨List.mem_range.mpr (Heap.lt_size e'),by simp[q]⟩
  have z:(JN h H).get? b=none:=PySem.W.hideAll_none (trk h H) hm
  rw[z] at e;cases e
noncomputable def zJe (g h:Heap) (L:Addr):List (Addr×Obj):=(List.range h.objs.size).filterMap fun a=>if a=L\/(g.get? a).isSome=true then none else (h.get? a).map fun o=>(a,o)
noncomputable def qE (g h:Heap) (L d:Addr):List (Addr×Obj):=(zJe g h L).filter fun p=>decide (p.1≠d)
end L2
namespace L2
open PySem PySem.Spec PyProof.Rows
structure Mod (K:PySem.W.Frag) (mg:Str->Option Value) (base:Heap):Prop where
 kin:K.In base
 glob:base.Ns mainGlobals mg
 blt:∃ mb,base.Ns builtinsNs mb/\∀ x:Str,x ≠ "__name__" -> mb x=bootBuiltins x
 nolimit:base.NoLimit
structure Cx where
 prog:Program
 w:World
 K:PySem.W.Frag
 mg:Str->Option Value
 base:Heap
 A:Around
 N:List Str
 s₀:Shared
 H₀:Hp
 env:Env
 outer:List Env
 stack:List Env
 ex:List Addr
 fn:Str->Bool
 calm:Bool
 pn:List (Addr×Obj)
 xe:Value->Shared->Prop
noncomputable def frs (l:List Env):List Addr:=l.filterMap (·.frame)
noncomputable abbrev Cx.fs (X:Cx):List Addr:=frs X.outer
noncomputable def Vis (sc:Scope) (x:Str):Prop:=sc.names.lookup x=some .local\/sc.names.lookup x=some .cell\/sc.names.lookup x=some .free
noncomputable def Loc (sc:Scope) (x:Str):Prop:=sc.names.lookup x=some .local\/sc.names.lookup x=some .cell
noncomputable def zM0 (env:Env) (h:Heap) (m:Str->Option Value) (x:Str) (u:Value):Prop :=
 (env.kindOf x=some .local/\m x=some u)\/((env.kindOf x=some .cell\/env.kindOf x=some .free)/\∃ c,env.cells.lookup x=some c/\h.IsCell c (some u))
structure Cx.Ok (X:Cx):Prop where
 mod:Mod X.K X.mg X.base
 kind:X.env.scope.kind=.function
 glob:X.env.globals=mainGlobals
 blt:X.env.builtins=builtinsNs
 above:X.s₀.heap.objs.size <= X.env.locals
 inj:∀ x y c,X.env.cells.lookup x=some c->X.env.cells.lookup y=some c->x=y
 has:∀ x,(X.env.kindOf x=some .cell\/X.env.kindOf x=some .free)->∃ c,X.env.cells.lookup x=some c
 cab:∀ x c,X.fn x=true->X.env.cells.lookup x=some c->X.s₀.heap.objs.size <= c
 hd:X.calm=true->X.A.handled=none
 frames:X.A.frames=some X.stack
 stk:X.stack=X.outer\/(X.stack=X.env::X.outer/\X.env.frame=some X.env.locals)
 exf:∀ b∈X.ex,b≠X.env.locals/\∀ x c,X.env.cells.lookup x=some c->c≠b
 bs:∀ b o,X.base.get? b=some o->X.s₀.heap.get? b=some o/\X.H₀ b=none
 bsz:X.base.objs.size <= X.s₀.heap.objs.size
 noex:∀ b o,X.base.get? b=some o->b∉X.ex
 exfs:∀ b∈X.ex,b∉X.fs
 funs:X.s₀.heap.FunFrames X.base X.outer
 frf:∀ b∈X.fs,X.H₀ b=none
structure Inv (X:Cx) (pins:List (Addr×Obj)) (σ:List (Option V)) (H:Hp) (s:Shared):Prop where
 ok:X.Ok
 os:s.os=X.s₀.os
 bare:AllBare s.gens
 base:Un X.fs X.ex X.H₀ H X.s₀.heap s.heap
 loc:∃ m,s.heap.Ns X.env.locals m/\∀ (i:Nat) (x:Str) (v:V),X.N[i]? = some x->σ[i]? = some (some v)->Vis X.env.scope x->∃ u,zc v u/\zM0 X.env s.heap m x u
 cell:∀ x c,X.env.cells.lookup x=some c->∃ v,s.heap.IsCell c v
 free:H X.env.locals=none
 freeC:∀ x c,X.env.cells.lookup x=some c->H c=none
 pin:∀ p∈X.pn++pins,s.heap.get? p.1=some p.2/\H p.1=none/\p.1≠X.env.locals/\p.1∉X.fs/\∀ v,p.2.data≠.cell v
 hok:HOk X.prog X.w H s.heap
 len:σ.length=X.N.length
 tk:0 < s.toks
section
variable {X:Cx}{pins:List (Addr×Obj)}{σ:List (Option V)}{H H':Hp}{s:Shared}{h':Heap}
theorem Cx.Ok.nofr (ok:X.Ok) {b:Addr}{o:Obj} (e:X.base.get? b=some o):b∉X.fs:=fun hb=>by
 have:=(ok.funs.mem hb).1
 rw[e] at this;cases this
theorem Inv.bs (I:Inv X pins σ H s):∀ b o,X.base.get? b=some o->s.heap.get? b=some o/\H b=none:=fun b o e =>
 ⟨I.base.keep b o (I.ok.bs b o e).1 (I.ok.bs b o e).2 (I.ok.nofr e) (I.ok.noex b o e),I.base.free b o (I.ok.bs b o e).1 (I.ok.bs b o e).2 (I.ok.noex b o e)⟩
theorem Inv.bk (I:Inv X pins σ H s):∀ b o,X.base.get? b=some o->s.heap.get? b=some o:=fun b o e=>(I.bs b o e).1
theorem Inv.mod (I:Inv X pins σ H s):Mod X.K X.mg X.base:=I.ok.mod
theorem Inv.kIn (I:Inv X pins σ H s):X.K.In s.heap:=I.ok.mod.kin.keeps I.bk
theorem Inv.fr (I:Inv X pins σ H s):∃ m,Fr X.base X.env.locals s.heap m :=
 let ⟨m,hn,_⟩:=I.loc
 ⟨m,hn,I.bk,Nat.le_trans I.ok.bsz I.ok.above⟩
theorem Inv.lt (I:Inv X pins σ H s):X.env.locals < s.heap.objs.size:=let ⟨_,hn,_⟩:=I.loc;hn.lt
theorem Inv.sz (I:Inv X pins σ H s):X.s₀.heap.objs.size <= s.heap.objs.size:=Nat.le_trans I.ok.above (Nat.le_of_lt I.lt)
theorem Inv.nofs (I:Inv X pins σ H s) {a:Addr} (h:s.heap.objs.size <= a):a∉X.fs:=fun hb=>by
 obtain⟨_,o,ho,_⟩:=I.ok.funs.mem hb
 exact absurd (Nat.lt_of_lt_of_le (Heap.lt_size ho) (Nat.le_trans I.sz h)) (Nat.lt_irrefl _)
theorem Inv.cne (I:Inv X pins σ H s):∀ x c,X.env.cells.lookup x=some c->c≠X.env.locals:=fun x c e z=>by
 obtain⟨v,o,ho,hd⟩:=I.cell x c e
 obtain⟨m,⟨o',es,ep,ho',hd',_⟩,_⟩:=I.loc
 rw[z,ho'] at ho;cases ho;rw[hd'] at hd;cases hd
theorem Inv.funs (I:Inv X pins σ H s):s.heap.FunFrames X.base X.outer:=by
 have all:∀ (l:List Env),(∀ b∈frs l,b∈X.fs)->X.s₀.heap.FunFrames X.base l->s.heap.FunFrames X.base l:=by
  intro l
  induction l with
  | nil=>intro _ _;trivial
  | cons env r ih =>
   intro hs hl
   obtain⟨hk,⟨L,o,hf,hn,ho,hd⟩,hr⟩:=hl
   have hL:L∈X.fs:=hs L (by unfold frs;rw[List.filterMap_cons,hf];exact List.mem_cons_self)
   obtain⟨sl,e⟩:=I.base.slot L o ho (I.ok.frf L hL) hL fun z=>I.ok.exfs L z hL
   exact⟨hk,⟨L,_,hf,hn,e,hd⟩,ih (fun b hb=>hs b (by unfold frs;rw[List.filterMap_cons,hf];exact List.mem_cons_of_mem _ hb)) hr⟩
 exact all X.outer (fun _ hb=>hb) I.ok.funs
theorem Inv.stack (I:Inv X pins σ H s):s.heap.FunFrames X.base X.stack:=by
 rcases I.ok.stk with e | ⟨e,hf⟩
 ·rw[e];exact I.funs
 ·rw[e]
  obtain⟨m,hn,_⟩:=I.loc
  refine .cons (by rw[I.ok.kind];decide) hf hn ?_ I.funs
  exact Heap.get?_none_of_le (Nat.le_trans I.ok.bsz I.ok.above)
theorem Inv.stkSub (I:Inv X pins σ H s):∀ b∈frs X.stack,b∈X.env.locals::X.fs:=fun b hb=>by
 rcases I.ok.stk with e | ⟨e,hf⟩
 ·rw[e] at hb;exact List.mem_cons_of_mem _ hb
 ·rw[e] at hb
  unfold frs at hb
  rw[List.filterMap_cons,hf] at hb
  exact hb
theorem Inv.stkFree (I:Inv X pins σ H s):∀ b∈frs X.stack,H b=none:=fun b hb=>by
 rcases List.mem_cons.mp (I.stkSub b hb) with e | hb
 ·rw[e];exact I.free
 ·obtain⟨_,o,ho,_⟩:=I.ok.funs.mem hb
  exact I.base.free b o ho (I.ok.frf b hb) fun z=>I.ok.exfs b z hb
theorem Inv.step {g':Array GenState}{t':Nat}{d':Drawn}{ch:List Addr} (I:Inv X pins σ H s)
  (hch:∀ b∈ch,(b∈X.ex\/X.s₀.heap.objs.size <= b)/\b≠X.env.locals/\(∀ x c,X.env.cells.lookup x=some c->c≠b)/\∀ p∈X.pn++pins,p.1≠b)
  (keep:∀ b o,b≠X.env.locals->b∉X.fs->b∉ch->s.heap.get? b=some o->H b=none->h'.get? b=some o)
  (slot:∀ b o,b≠X.env.locals->b∈X.fs->b∉ch->s.heap.get? b=some o->H b=none->∃ sl,h'.get? b=some { o with slots:=sl }) (free:∀ b o,b∉ch->s.heap.get? b=some o->H b=none->H' b=none)
  (there:∀ b o,b∉ch->s.heap.get? b=some o->∃ o',h'.get? b=some o')
  (tups:∀ b xs,H b=some (.tup xs)->H' b=some (.tup xs)) (frzs:∀ b o u,H b=some (.frz o u)->H' b=some (.frz o u)) (tbls:∀ b ps,H b=some (.tbl ps)->∃ more,H' b=some (.tbl (ps++more)))
  (ns:∀ m,s.heap.Ns X.env.locals m->h'.Ns X.env.locals m) (hok:HOk X.prog X.w H' h') (hg:AllBare g') (ht:0 < t':=by first | exact Nat.succ_pos _ | assumption | exact Inv.tk (by assumption) | omega) :
  Inv X pins σ H' { s with heap:=h',gens:=g',drawn:=d',toks:=t' }:=by
 have neL:∀ b o,X.s₀.heap.get? b=some o->b≠X.env.locals:=fun b o e=>Nat.ne_of_lt (Nat.lt_of_lt_of_le (Heap.lt_size e) I.ok.above)
 have neC:∀ b o,X.s₀.heap.get? b=some o->b∉X.ex->b∉ch:=fun b o e hx hb=>by
  rcases (hch b hb).1 with z | z
  ·exact hx z
  ·exact absurd (Nat.lt_of_lt_of_le (Heap.lt_size e) z) (Nat.lt_irrefl _)
 have cellK:∀ x c,X.env.cells.lookup x=some c->∀ v,s.heap.IsCell c v->h'.IsCell c v:=fun x c e v ⟨o,ho,hd⟩=>by
  have nch:c∉ch:=fun z=>(hch c z).2.2.1 x c e rfl
  by_cases hc:c∈X.fs
  ·obtain⟨sl,q⟩:=slot c o (I.cne x c e) hc nch ho (I.freeC x c e)
   exact⟨_,q,hd⟩
  ·exact⟨o,keep c o (I.cne x c e) hc nch ho (I.freeC x c e),hd⟩
 refine⟨I.ok,I.os,hg,⟨fun b o e n hb hx=>?_,fun b o e n hb hx=>?_,fun b o e n hx=>?_,fun b o e hx=>?_,fun b xs e=>tups b xs (I.base.tups b xs e),fun b o xs e=>frzs b o xs (I.base.frzs b o xs e),fun b ps e=>?_⟩,?_,fun x c e=>?_,?_,fun x c e=>?_,fun p hp=>?_,hok,I.len,ht⟩
 ·exact keep b o (neL b o e) hb (neC b o e hx) (I.base.keep b o e n hb hx) (I.base.free b o e n hx)
 ·obtain⟨sl,e1⟩:=I.base.slot b o e n hb hx
  obtain⟨sl',e2⟩:=slot b _ (neL b o e) hb (neC b o e hx) e1 (I.base.free b o e n hx)
  exact⟨sl',e2⟩
 ·obtain⟨o',e1⟩:=I.base.there b o e hx
  exact free b o' (neC b o e hx) e1 (I.base.free b o e n hx)
 ·obtain⟨o',e1⟩:=I.base.there b o e hx
  exact there b o' (neC b o e hx) e1
 ·obtain⟨m1,e1⟩:=I.base.tbls b ps e
  obtain⟨m2,e2⟩:=tbls b _ e1
  exact⟨m1++m2,by rw[e2,Array.append_assoc]⟩
 ·obtain⟨m,hn,hl⟩:=I.loc
  refine⟨m,ns m hn,fun i x v e1 e2 e3=>?_⟩
  obtain⟨u,r,l⟩:=hl i x v e1 e2 e3
  refine⟨u,r,?_⟩
  rcases l with l | ⟨k,c,e,z⟩
  ·exact .inl l
  ·exact .inr ⟨k,c,e,cellK x c e _ z⟩
 ·obtain⟨v,z⟩:=I.cell x c e
  exact⟨v,cellK x c e v z⟩
 ·obtain⟨m,⟨o,_,_,ho,_⟩,_⟩:=I.loc
  exact free _ o (fun z=>(hch _ z).2.1 rfl) ho I.free
 ·obtain⟨v,o,ho,hd⟩:=I.cell x c e
  exact free c o (fun z=>(hch c z).2.2.1 x c e rfl) ho (I.freeC x c e)
 ·obtain⟨e,n,ne,nf,d⟩:=I.pin p hp
  have nch:p.1∉ch:=fun z=>(hch p.1 z).2.2.2 p hp rfl
  exact⟨keep p.1 p.2 ne nf nch e n,free p.1 p.2 nch e n,ne,nf,d⟩
theorem Inv.un {t':Nat} (I:Inv X pins σ H s) (u:Un X.fs [] H H' s.heap h') (hok:HOk X.prog X.w H' h') (ht:0 < t':=by first | exact Nat.succ_pos _ | assumption | exact Inv.tk (by assumption) | omega):Inv X pins σ H' { s with heap:=h',toks:=t' }:=by
 obtain⟨m,⟨o,es,ep,ho,r⟩,_⟩:=id I.loc
 obtain⟨sl,hL⟩:=u.any ho I.free (by simp)
 exact I.step (g':=s.gens) (d':=s.drawn) (ch:=[]) (fun _ z=>nomatch z) (fun b o _ hb _ e n=>u.keep b o e n hb (by simp)) (fun b o _ hb _ e n=>u.slot b o e n hb (by simp)) (fun b o _ e n=>u.free b o e n (by simp)) (fun b o _ e=>u.there b o e (by simp)) u.tups u.frzs u.tbls (fun m' hm=>by
  obtain⟨o',es',ep',ho',r'⟩:=hm
  rw[ho] at ho';cases ho'
  exact⟨_,es',ep',hL,r'⟩) hok I.bare ht
theorem Inv.call {g':Array GenState}{t':Nat}{d':Drawn}{ch:List Addr} (I:Inv X pins σ H s) (u:Un (frs X.stack) ch H H' s.heap h') (hok:HOk X.prog X.w H' h') (hg:AllBare g')
  (hch:∀ b∈ch,(b∈X.ex\/X.s₀.heap.objs.size <= b)/\b≠X.env.locals/\(∀ x c,X.env.cells.lookup x=some c->c≠b)/\∀ p∈X.pn++pins,p.1≠b) (ht:0 < t':=by first | exact Nat.succ_pos _ | assumption | exact Inv.tk (by assumption) | omega) :
  Inv X pins σ H' { s with heap:=h',gens:=g',drawn:=d',toks:=t' }:=by
 obtain⟨m,⟨o,es,ep,ho,r⟩,_⟩:=id I.loc
 obtain⟨sl,hL⟩:=u.any ho I.free fun z=>(hch _ z).2.1 rfl
 exact I.step (ch:=ch) hch (fun b o hL hb hc e n=>u.keep b o e n (fun z=>(List.mem_cons.mp (I.stkSub b z)).elim hL hb) hc) (fun b o _ _ hc e n=>u.any e n hc) (fun b o hc e n=>u.free b o e n hc) (fun b o hc e=>u.there b o e hc) u.tups u.frzs u.tbls (fun m' hm=>by
  obtain⟨o',es',ep',ho',r'⟩:=hm
  rw[ho] at ho';cases ho'
  exact⟨_,es',ep',hL,r'⟩) hok hg ht
theorem Inv.turned {t':Nat}{it:Addr} (I:Inv X pins σ H s) (k:∀ b o,b≠it->s.heap.get? b=some o->h'.get? b=some o) (hn:H it=none) (hL:it≠X.env.locals)
  (h1:it∈X.ex\/X.s₀.heap.objs.size <= it) (h2:∀ x c,X.env.cells.lookup x=some c->c≠it) (h3:∀ p∈X.pn++pins,p.1≠it) (ht:0 < t':=by first | exact Nat.succ_pos _ | assumption | exact Inv.tk (by assumption) | omega):Inv X pins σ H { s with heap:=h',toks:=t' }:=by
 have nit:∀ b u,H b=some u->b≠it:=fun b u e z=>by rw[z,hn] at e;cases e
 refine I.step (g':=s.gens) (d':=s.drawn) (ch:=[it]) (fun b hb=>?_) (fun b o _ _ hc e _=>k b o (fun z=>hc (by simp[z])) e) (fun b o _ _ hc e _=>⟨o.slots,k b o (fun z=>hc (by simp[z])) e⟩) (fun _ _ _ _ n=>n)
  (fun b o hc e=>⟨o,k b o (fun z=>hc (by simp[z])) e⟩) (fun _ _ e=>e) (fun _ _ _ e=>e) (fun b ps e=>⟨#[],by rw[e];simp⟩) (fun m hm=>?_) (fun b u e=>?_) I.bare ht
 ·have e:b=it:=by simpa using hb
  subst e
  exact⟨h1,hL,h2,h3⟩
 ·obtain⟨o,es,ep,ho,r⟩:=hm
  exact⟨o,es,ep,k _ o (Ne.symm hL) ho,r⟩
 ·refine (I.hok b u e).stay (fun c v hc q=>k c v ?_ q) (fun _ q=>q) fun _ _ q=>q
  rcases hc with z | z
  ·rw[z];exact nit b u e
  ·exact nit c _ z
theorem Inv.tok (I:Inv X pins σ H s) (t:Nat) (ht:0 < t:=by first | exact Nat.succ_pos _ | assumption | exact Inv.tk (by assumption) | omega):Inv X pins σ H { s with toks:=t }:=I.un (h':=s.heap) (t':=t) Un.refl I.hok ht
theorem Inv.kept {t':Nat} (I:Inv X pins σ H s) (k:∀ b u,s.heap.get? b=some u->h'.get? b=some u) (ht:0 < t':=by first | exact Nat.succ_pos _ | assumption | exact Inv.tk (by assumption) | omega):Inv X pins σ H { s with heap:=h',toks:=t' }:=I.un (Un.kept k) (I.hok.kept k) ht
theorem Inv.laid {a:Addr}{o:HO}{t':Nat} (I:Inv X pins σ H s) (k:∀ b u,s.heap.get? b=some u->h'.get? b=some u) (hp:s.heap.objs.size <= a) (new:jm X.prog X.w (upd H a o) h' a o) (ht:0 < t':=by first | exact Nat.succ_pos _ | assumption | exact Inv.tk (by assumption) | omega) :
  Inv X pins σ (upd H a o) { s with heap:=h',toks:=t' }:=I.un (Un.laid k hp (I.hok.fresh hp)) (I.hok.laid k hp new) ht
theorem Inv.write {x e:Addr}{o:HO}{t':Nat} (I:Inv X pins σ H s) (mu:Mut (H x)) (he:e=x\/H e=some (.own x)) (k:∀ b u,b≠e->s.heap.get? b=some u->h'.get? b=some u) (heo:∃ u,h'.get? e=some u)
  (new:jm X.prog X.w (upd H x o) h' x o) (ht:0 < t':=by first | exact Nat.succ_pos _ | assumption | exact Inv.tk (by assumption) | omega):Inv X pins σ (upd H x o) { s with heap:=h',toks:=t' }:=I.un (Un.write mu he k heo) (I.hok.write mu he k heo new) ht
theorem Inv.weak {σ':List (Option V)} (I:Inv X pins σ H s) (hl:σ'.length=σ.length) (w:∀ (i:Nat) v,σ'[i]? = some (some v)->σ[i]? = some (some v)):Inv X pins σ' H s :=
 ⟨I.ok,I.os,I.bare,I.base,let ⟨m,hn,hl'⟩:=I.loc;⟨m,hn,fun i x v e1 e2 e3=>hl' i x v e1 (w i v e2) e3⟩,I.cell,I.free,I.freeC,I.pin,I.hok,hl.trans I.len,I.tk⟩
theorem Inv.pins_of {pins':List (Addr×Obj)} (I:Inv X pins σ H s) (h:∀ p∈pins',s.heap.get? p.1=some p.2/\H p.1=none/\p.1≠X.env.locals/\p.1∉X.fs/\∀ v,p.2.data≠.cell v):Inv X pins' σ H s :=
 ⟨I.ok,I.os,I.bare,I.base,I.loc,I.cell,I.free,I.freeC,fun p hp=>(List.mem_append.mp hp).elim (fun z=>I.pin p (List.mem_append_left _ z)) (h p),I.hok,I.len,I.tk⟩
theorem zEJ {N:List Str} (hN:N.Nodup) {i j:Nat}{x:Str} (a:N[i]? = some x) (b:N[j]? = some x):i=j:=by
 obtain⟨h1,e1⟩:=List.getElem?_eq_some_iff.mp a
 obtain⟨h2,e2⟩:=List.getElem?_eq_some_iff.mp b
 exact (List.getElem_inj hN).mp (e1.trans e2.symm)
theorem zGs {M:Model}{A:Around}{E:Value->Shared->Prop}{i:Nat}{x:Str}{v:V}{u:Value}{Q:Unit->Shared->Prop} (I:Inv X pins σ H s) (hN:X.N.Nodup) (hi:X.N[i]? = some x) (hx:Loc X.env.scope x) (r:zc v u)
  (h:∀ s',Inv X pins (σ.set i (some v)) H s'->(∃ a,Heap.SameBut a s.heap s'.heap/\(a=X.env.locals\/X.env.cells.lookup x=some a))->Q () s') (hf:X.fn x=true\/X.env.scope.names.lookup x=some .local:=by first | exact .inl rfl | exact .inr rfl | assumption):wpAny M A (storeName X.env x u) Q E s:=by
 obtain⟨m,hn,hl⟩:=id I.loc
 have hcls:(X.env.scope.kind == .class || (X.env.scope.kind == .module && X.env.locals != X.env.globals))=false:=by rw[I.ok.kind];rfl
 have hiσ:i < σ.length:=by rw[I.len];exact (List.getElem?_eq_some_iff.mp hi).1
 have cne:=I.cne
 have tracked:∀ {a:Addr}{h':Heap},(∃ o,s.heap.get? a=some o/\H a=none)->Heap.SameBut a s.heap h'->HOk X.prog X.w H h':=fun {a h'} ha hs b ob e=>by
  obtain⟨_,_,hfree⟩:=ha
  refine (I.hok b ob e).stay (fun c w' hc q=>(hs.2 c ?_).trans q) (fun _ q=>q) fun _ _ q=>q
  rintro rfl
  rcases hc with rfl | hc
  ·rw[hfree] at e;cases e
  ·rw[hfree] at hc;cases hc
 rcases hx with hk | hk
 ·refine wpAny_storeName_local hk hn (fun h' hn' hs=>?_) hcls
  obtain⟨oL,_,_,hoL,_⟩:=id hn
  refine h _ ⟨I.ok,I.os,I.bare,⟨fun b o e n hb hx=>?_,fun b o e n hb hx=>?_,I.base.free,fun b o e hx=>?_,I.base.tups,I.base.frzs,I.base.tbls⟩,⟨_,hn',fun j y v' e1 e2 e3=>?_⟩,fun y c e=>?_,I.free,I.freeC,fun p hp=>?_,tracked ⟨oL,hoL,I.free⟩ hs,by simpa using I.len,Nat.succ_pos _⟩ ⟨_,hs,.inl rfl⟩
  ·exact (hs.2 b (Nat.ne_of_lt (Nat.lt_of_lt_of_le (Heap.lt_size e) I.ok.above))).trans (I.base.keep b o e n hb hx)
  ·obtain⟨sl,e1⟩:=I.base.slot b o e n hb hx
   exact⟨sl,(hs.2 b (Nat.ne_of_lt (Nat.lt_of_lt_of_le (Heap.lt_size e) I.ok.above))).trans e1⟩
  ·obtain⟨o',e1⟩:=I.base.there b o e hx
   exact⟨o',(hs.2 b (Nat.ne_of_lt (Nat.lt_of_lt_of_le (Heap.lt_size e) I.ok.above))).trans e1⟩
  ·by_cases hj:j=i
   ·subst hj
    rw[hi] at e1;cases e1
    rw[List.getElem?_set_self hiσ] at e2
    cases e2
    exact⟨u,r,.inl ⟨hk,by simp⟩⟩
   ·rw[List.getElem?_set_ne (Ne.symm hj)] at e2
    obtain⟨u',r',q⟩:=hl j y v' e1 e2 e3
    refine⟨u',r',?_⟩
    rcases q with ⟨k,e⟩ | ⟨k,c,e,z⟩
    ·refine .inl ⟨k,?_⟩
     have:y≠x:=fun e=>hj (zEJ hN e1 (e ▸ hi))
     simp[this,e]
    ·exact .inr ⟨k,c,e,z.sameBut hs (cne y c e)⟩
  ·obtain⟨w',z⟩:=I.cell y c e
   exact⟨w',z.sameBut hs (cne y c e)⟩
  ·obtain⟨e,n,ne,nf,d⟩:=I.pin p hp
   exact⟨(hs.2 p.1 ne).trans e,n,ne,nf,d⟩
 ·have hfn:X.fn x=true:=by
   rcases hf with z | z
   ·exact z
   ·rw[z] at hk;cases hk
  obtain⟨c,hc⟩:=I.ok.has x (.inl hk)
  obtain⟨w',z⟩:=I.cell x c hc
  refine wpAny_storeName_cell I.ok.kind hk hc z (fun h' hc' hs=>?_)
  obtain⟨oc,hoc,hocd⟩:=id z
  refine h { s with heap:=h' } ⟨I.ok,I.os,I.bare,⟨fun b o e n hb hx=>?_,fun b o e n hb hx=>?_,I.base.free,fun b o e hx=>?_,I.base.tups,I.base.frzs,I.base.tbls⟩,⟨m,hn.sameBut hs (Ne.symm (cne x c hc)),fun j y v' e1 e2 e3=>?_⟩,fun y c' e=>?_,I.free,I.freeC,fun p hp=>?_,tracked ⟨oc,hoc,I.freeC x c hc⟩ hs,by simpa using I.len,I.tk⟩ ⟨c,hs,.inr hc⟩
  ·exact (hs.2 b (Nat.ne_of_lt (Nat.lt_of_lt_of_le (Heap.lt_size e) (I.ok.cab x c hfn hc)))).trans (I.base.keep b o e n hb hx)
  ·obtain⟨sl,e1⟩:=I.base.slot b o e n hb hx
   exact⟨sl,(hs.2 b (Nat.ne_of_lt (Nat.lt_of_lt_of_le (Heap.lt_size e) (I.ok.cab x c hfn hc)))).trans e1⟩
  ·obtain⟨o',e1⟩:=I.base.there b o e hx
   exact⟨o',(hs.2 b (Nat.ne_of_lt (Nat.lt_of_lt_of_le (Heap.lt_size e) (I.ok.cab x c hfn hc)))).trans e1⟩
  ·by_cases hj:j=i
   ·subst hj
    rw[hi] at e1;cases e1
    rw[List.getElem?_set_self hiσ] at e2
    cases e2
    exact⟨u,r,.inr ⟨.inl hk,c,hc,hc'⟩⟩
   ·rw[List.getElem?_set_ne (Ne.symm hj)] at e2
    obtain⟨u',r',q⟩:=hl j y v' e1 e2 e3
    refine⟨u',r',?_⟩
    rcases q with q | ⟨k,c',e,z'⟩
    ·exact .inl q
    ·refine .inr ⟨k,c',e,z'.sameBut hs ?_⟩
     rintro rfl
     exact hj (zEJ hN e1 (I.ok.inj _ _ _ e hc ▸ hi))
  ·by_cases hcc:c'=c
   ·subst hcc;exact⟨_,hc'⟩
   ·obtain⟨w2,z2⟩:=I.cell y c' e
    exact⟨w2,z2.sameBut hs hcc⟩
  ·obtain⟨e,n,ne,nf,d⟩:=I.pin p hp
   refine⟨(hs.2 p.1 ?_).trans e,n,ne,nf,d⟩
   intro q
   rw[q,hoc] at e
   have q':oc=p.2:=Option.some.inj e
   exact d w' (by rw[<- q'];exact hocd)
theorem zEM {M:Model}{A:Around}{E:Value->Shared->Prop}{i:Nat}{x:Str}{v:V}{u:Value}{Q:Unit->Shared->Prop} (I:Inv X pins σ H s) (hN:X.N.Nodup) (hi:X.N[i]? = some x) (hx:Loc X.env.scope x) (r:zc v u)
  (h:∀ s',Inv X pins (σ.set i (some v)) H s'->Q () s') (hf:X.fn x=true\/X.env.scope.names.lookup x=some .local:=by first | exact .inl rfl | exact .inr rfl | assumption):wpAny M A (storeName X.env x u) Q E s :=
 zGs I hN hi hx r (fun s' I' _=>h s' I') hf
theorem Inv.call' {s':Shared}{ch:List Addr} (I:Inv X pins σ H s) (ho:s'.os=s.os) (u:Un (frs X.stack) ch H H' s.heap s'.heap) (hok:HOk X.prog X.w H' s'.heap) (hg:AllBare s'.gens)
  (hch:∀ b∈ch,(b∈X.ex\/X.s₀.heap.objs.size <= b)/\b≠X.env.locals/\(∀ x c,X.env.cells.lookup x=some c->c≠b)/\∀ p∈X.pn++pins,p.1≠b) (ht:0 < s'.toks):Inv X pins σ H' s':=by
 obtain⟨h',g',d',t',o'⟩:=s'
 have e:o'=s.os:=ho
 subst e
 exact I.call (g':=g') (t':=t') (d':=d') u hok hg hch ht
end
noncomputable abbrev XK:=Value->Option Addr->Hp->Prop
noncomputable abbrev St:=List (Option V)
noncomputable abbrev VK:=V->Hp->Prop
noncomputable abbrev TE:=St->Hp->VK->Prop
noncomputable abbrev TT:=St->Hp->(Bool->Hp->Prop)->Prop
noncomputable abbrev TA:=St->Hp->(List V->Hp->Prop)->Prop
structure JM where
 nx:St->Hp->Prop
 rt:VK
 bk:St->Hp->Prop:=fun _ _=>False
 ct:St->Hp->Prop:=fun _ _=>False
noncomputable abbrev TS:=JM->St->Hp->Prop
noncomputable def EP (X:Cx) (pins:List (Addr×Obj)) (σ:St) (Q:VK) (u:Value) (s':Shared):Prop:=∃ v H',Inv X pins σ H' s'/\zc v u/\Q v H'
noncomputable def TP (X:Cx) (pins:List (Addr×Obj)) (σ:St) (Q:Bool->Hp->Prop) (b:Bool) (s':Shared):Prop:=∃ H',Inv X pins σ H' s'/\Q b H'
noncomputable def AP (X:Cx) (pins:List (Addr×Obj)) (σ:St) (Q:List V->Hp->Prop) (us:List Value) (s':Shared):Prop:=∃ vs H',Inv X pins σ H' s'/\zX vs us/\Q vs H'
noncomputable def SP (X:Cx) (pins:List (Addr×Obj)) (D:JM) (f:Flow) (s':Shared):Prop :=
 match f with
 | .next=>∃ σ' H',Inv X pins σ' H' s'/\D.nx σ' H'
 | .brk=>∃ σ' H',Inv X pins σ' H' s'/\D.bk σ' H'
 | .cont=>∃ σ' H',Inv X pins σ' H' s'/\D.ct σ' H'
 | .ret u=>∃ v σ' H',Inv X pins σ' H' s'/\zc v u/\D.rt v H'
noncomputable def PE (X:Cx) (e:Expr) (t:TE):Prop :=
 ∀ (pins:List (Addr×Obj)) (s:Shared) (σ:St) (H:Hp) (Q:VK),Inv X pins σ H s->t σ H Q->wpAny (model X.prog X.w) X.A (eval e X.env) (EP X pins σ Q) X.xe s
noncomputable def PT (X:Cx) (e:Expr) (t:TT):Prop :=
 ∀ (pins:List (Addr×Obj)) (s:Shared) (σ:St) (H:Hp) (Q:Bool->Hp->Prop),Inv X pins σ H s->t σ H Q->wpAny (model X.prog X.w) X.A (isTrue e X.env (eval e X.env)) (TP X pins σ Q) X.xe s
noncomputable def PW (X:Cx) (e:Expr) (t:TT):Prop :=
 ∀ (whole:Sem Value) (pins:List (Addr×Obj)) (s:Shared) (σ:St) (H:Hp) (Q:Bool->Hp->Prop),Inv X pins σ H s->t σ H Q->wpAny (model X.prog X.w) X.A (isTrue e X.env whole) (TP X pins σ Q) X.xe s
theorem PW.pt {X:Cx}{e:Expr}{t:TT} (h:PW X e t):PT X e t:=h _
noncomputable def PA (X:Cx) (es:List Expr) (t:TA):Prop :=
 ∀ (pos:Pos) (pins:List (Addr×Obj)) (s:Shared) (σ:St) (H:Hp) (Q:List V->Hp->Prop),Inv X pins σ H s->t σ H Q->wpAny (model X.prog X.w) X.A (spliced (backTo pos (starEach es X.env))) (AP X pins σ Q) X.xe s
noncomputable def PS (X:Cx) (st:Stmt) (t:TS):Prop :=
 ∀ (pins:List (Addr×Obj)) (s:Shared) (σ:St) (H:Hp) (D:JM),Inv X pins σ H s->t D σ H->wpAny (model X.prog X.w) X.A (exec st X.env) (SP X pins D) X.xe s
noncomputable def PSs (X:Cx) (st:List Stmt) (t:TS):Prop :=
 ∀ (pins:List (Addr×Obj)) (s:Shared) (σ:St) (H:Hp) (D:JM),Inv X pins σ H s->t D σ H->wpAny (model X.prog X.w) X.A (execs st X.env) (SP X pins D) X.xe s
theorem thn {α:Type}{t:Sem α}{Q Q':α->Shared->Prop}{M:Model}{A:Around}{E:Value->Shared->Prop}{s:Shared} (h:wpAny M A t Q E s) (hQ:∀ a s,Q a s->Q' a s):wpAny M A t Q' E s:=wpAny_mono h hQ fun _ _ x=>x
end L2
namespace L2
open PySem PySem.Spec PyProof.Rows
section
variable {X:Cx}
noncomputable def zMs (i:Nat):TE:=fun σ H Q=>∃ v,σ[i]? = some (some v)/\Q v H
noncomputable def tC (v:V):TE:=fun _ H Q=>Q v H
theorem zKP {i:Nat}{x:Str}{pos:Pos} (hN:X.N[i]? = some x) (hv:Vis X.env.scope x) (hd:(x == ("__debug__" : Str))=false:=by decide) (hcd:(x == ("__classdict__" : Str))=false:=by decide):PE X (.Name x pos) (zMs i):=by
 intro pins s σ H Q I h
 obtain⟨v,e,h⟩:=h
 obtain⟨m,hn,hl⟩:=I.loc
 obtain⟨u,r,l⟩:=hl i x v hN e hv
 have fin:EP X pins σ Q u s:=⟨v,H,I,r,h⟩
 rcases l with ⟨hk,hm⟩ | ⟨hk,c,hc,hcell⟩
 ·exact wpAny_Name (wpAny_loadName_local I.ok.kind hk hn hm fin) hd
 ·rcases hk with hk | hk
  ·exact wpAny_Name (wpAny_loadName_cell I.ok.kind hk hc hcell fin) hd
  ·exact wpAny_Name (wpAny_loadName_free I.ok.kind hk hc hcell fin hcd) hd
theorem zDT {i j pos}:PE X (.Constant (.int i) j pos) (tC (.int i)):=fun _ _ _ H _ I h=>wpAny_Constant_int ⟨.int i,H,I.tok _,⟨_,rfl⟩,h⟩
theorem zMK {b j pos}:PE X (.Constant (.bool b) j pos) (tC (.bl b)):=fun _ _ _ H _ I h=>Constant_bool ⟨.bl b,H,I,rfl,h⟩
theorem zLR {j pos}:PE X (.Constant .none j pos) (tC .non):=fun _ _ _ H _ I h=>Constant_none ⟨.non,H,I,rfl,h⟩
theorem zFx {x j pos}:PE X (.Constant (.str x) j pos) (tC (.str x)):=fun _ _ _ H _ I h=>Calls.Constant_str ⟨.str x,H,I.tok _,⟨_,rfl⟩,h⟩
noncomputable def Gl (X:Cx) (x:Str):Prop:=X.env.kindOf x=some .globalImplicit
theorem zCM {E:Value->Shared->Prop}{pins:List (Addr×Obj)}{s:Shared}{σ:St}{H:Hp}{x:Str}{u:Value}{pos:Pos}{Q:Value->Shared->Prop} (I:Inv X pins σ H s) (hg:Gl X x) (hm:X.mg x=some u) (h:Q u s)
  (hd:(x == ("__debug__" : Str))=false:=by decide):wpAny (model X.prog X.w) X.A (eval (.Name x pos) X.env) Q E s :=
 Calls.Name_function_global I.ok.kind hg (Calls.loadGlobal_global (by rw[I.ok.glob];exact I.mod.glob.keeps I.bk) hm h) hd
theorem zBL {E:Value->Shared->Prop}{pins:List (Addr×Obj)}{s:Shared}{σ:St}{H:Hp}{x:Str}{u:Value}{pos:Pos}{Q:Value->Shared->Prop} (I:Inv X pins σ H s) (hg:Gl X x) (hm:X.mg x=none) (hv:bootBuiltins x=some u) (h:Q u s)
  (hn:x ≠ "__name__" := by decide) (hd:(x == ("__debug__" : Str))=false:=by decide):wpAny (model X.prog X.w) X.A (eval (.Name x pos) X.env) Q E s:=by
 obtain⟨mb,h1,h2⟩:=I.mod.blt
 exact Calls.Name_function_global I.ok.kind hg (Calls.loadGlobal_builtin (by rw[I.ok.glob];exact I.mod.glob.keeps I.bk) hm (by rw[I.ok.blt];exact h1.keeps I.bk) ((h2 x hn).trans hv) h) hd
theorem zIk {x:Str}{v:V}{u:Value}{pos:Pos} (hg:Gl X x) (hm:X.mg x=some u) (r:zc v u) (hd:(x == ("__debug__" : Str))=false:=by decide):PE X (.Name x pos) (tC v) :=
 fun _ _ _ H _ I h=>zCM I hg hm ⟨v,H,I,r,h⟩ hd
theorem zJg {x:Str}{v:V}{u:Value}{pos:Pos} (hg:Gl X x) (hm:X.mg x=none) (hv:bootBuiltins x=some u) (r:zc v u) (hn:x ≠ "__name__" := by decide) (hd:(x == ("__debug__" : Str))=false:=by decide):PE X (.Name x pos) (tC v) :=
 fun _ _ _ H _ I h=>zBL I hg hm hv ⟨v,H,I,r,h⟩ hn hd
variable {a b:Expr}{ta tb:TE}{pos:Pos}
variable {tA tB':TT}{qE:List Expr}
noncomputable def zAD (t u:TT):TT:=fun σ H Q=>t σ H fun c H1=>if c=true then u σ H1 Q else Q false H1
noncomputable def tOr (t u:TT):TT:=fun σ H Q=>t σ H fun c H1=>if c=true then Q true H1 else u σ H1 Q
noncomputable def ZT (t:TT):TT:=fun σ H Q=>t σ H fun c H1=>Q (!c) H1
theorem zIm (ha:PT X a tA):PW X (.BoolOp .And [a] pos) tA:=by
 intro wh pins s σ H Q I h
 refine isTrue_and (thn (ha pins s σ H Q I h) fun c s1 e=>?_)
 cases c with
 | true=>exact isTrue_and_nil e
 | false=>exact e
theorem zKv (ha:PT X a tA):PW X (.BoolOp .Or [a] pos) tA:=by
 intro wh pins s σ H Q I h
 refine isTrue_or (thn (ha pins s σ H Q I h) fun c s1 e=>?_)
 cases c with
 | false=>exact isTrue_or_nil e
 | true=>exact e
theorem zJ0 (ha:PT X a tA) (hb:PW X (.BoolOp .And (b::qE) pos) tB'):PW X (.BoolOp .And (a::b::qE) pos) (zAD tA tB'):=by
 intro wh pins s σ H Q I h
 refine isTrue_and (thn (ha pins s σ H _ I h) fun c s1 ⟨H1,I1,q1⟩=>?_)
 cases c with
 | true=>exact hb wh pins s1 σ H1 Q I1 q1
 | false=>exact⟨H1,I1,q1⟩
theorem zLs (ha:PT X a tA) (hb:PW X (.BoolOp .Or (b::qE) pos) tB'):PW X (.BoolOp .Or (a::b::qE) pos) (tOr tA tB'):=by
 intro wh pins s σ H Q I h
 refine isTrue_or (thn (ha pins s σ H _ I h) fun c s1 ⟨H1,I1,q1⟩=>?_)
 cases c with
 | true=>exact⟨H1,I1,q1⟩
 | false=>exact hb wh pins s1 σ H1 Q I1 q1
theorem zJ6 (ha:PT X a tA):PT X (.UnaryOp .Not a pos) (ZT tA):=by
 intro pins s σ H Q I h
 exact isTrue_not (ha pins s σ H (fun c H1=>Q (!c) H1) I h)
end
end L2
namespace L2
open PySem PySem.Spec PyProof.Rows
noncomputable def SqL (K:PySem.W.Frag) (H:Hp) (a:Addr) (xs:List V):Prop :=
 Rd H a (.lst xs) \/
  ∃ (o:Obj) (its:Array Value) (n:Nat),K.lookup a=some o/\o.cls=.type "list" /\ o.dict=none/\o.data=.seq its n/\its.size <= sizeLine/\zX xs its.toList
noncomputable def SqT (K:PySem.W.Frag) (H:Hp) (a:Addr) (xs:List V):Prop :=
 Rd H a (.tup xs) \/
  ∃ (o:Obj) (its:Array Value) (n:Nat),K.lookup a=some o/\o.cls=.type "tuple" /\ o.data=.seq its n/\its.size <= sizeLine/\zX xs its.toList
noncomputable def zMd:Value->Option V
 | .none=>some .non
 | .bool b=>some (.bl b)
 | .int i _=>some (.int i)
 | .str x _=>some (.str x)
 | .bytes b _=>some (.byt b)
 | .float b _=>some (.flt b)
 | .ref a=>some (.ref a)
 | .type n=>some (.ty n)
 | _=>none
theorem zc.abs {x:V}{u:Value} (r:zc x u):zMd u=some x:=by
 cases x with
 | non=>cases r;rfl
 | bl _=>cases r;rfl
 | int _=>obtain⟨t,rfl⟩:=r;rfl
 | str _=>obtain⟨t,rfl⟩:=r;rfl
 | byt _=>obtain⟨t,rfl⟩:=r;rfl
 | flt _=>obtain⟨t,rfl⟩:=r;rfl
 | ref _=>cases r;rfl
 | ty _=>cases r;rfl
theorem zc.inj {x y:V}{u:Value} (r:zc x u) (q:zc y u):x=y:=Option.some.inj (r.abs.symm.trans q.abs)
theorem zX.inj:∀ {xs ys:List V}{us:List Value},zX xs us->zX ys us->xs=ys
 | _,_,_,.nil,.nil=>rfl
 | _,_,_,.cons r t,.cons r' t'=>by rw[r.inj r',zX.inj t t']
section
variable {X:Cx}{pins:List (Addr×Obj)}{σ:St}{H:Hp}{s:Shared}{a:Addr}{xs ys:List V}
theorem SqL.of {K:PySem.W.Frag} (h:H a=some (.lst xs)):SqL K H a xs:=.inl (.inl h)
theorem SqT.of {K:PySem.W.Frag} (h:H a=some (.tup xs)):SqT K H a xs:=.inl (.inl h)
theorem Inv.list (I:Inv X pins σ H s) (h:SqL X.K H a xs):∃ its:List Value,zX xs its/\PlainL s.heap a its.toArray/\xs.length <= sizeLine:=by
 rcases h with h | ⟨o,its,n,hk,hc,hd,hs,hz,r⟩
 ·obtain⟨z,its,n,r,e⟩:=h.ok I.hok
  exact⟨its,r,⟨_,n,e,rfl,rfl,rfl⟩,z⟩
 ·refine⟨its.toList,r,⟨o,n,I.kIn a o hk,hc,hd,by simpa using hs⟩,?_⟩
  have e:=r.length
  simp only[Array.length_toList] at e
  omega
theorem Inv.tuple (I:Inv X pins σ H s) (h:SqT X.K H a xs):∃ its:List Value,zX xs its/\IsTup s.heap a its.toArray/\xs.length <= sizeLine:=by
 rcases h with h | ⟨o,its,n,hk,hc,hs,hz,r⟩
 ·obtain⟨z,its,r,p⟩:=h.ok I.hok
  exact⟨its,r,p,z⟩
 ·refine⟨its.toList,r,⟨o,I.kIn a o hk,hc,n,by simpa using hs⟩,?_⟩
  have e:=r.length
  simp only[Array.length_toList] at e
  omega
theorem Inv.list_inj (I:Inv X pins σ H s) (h:SqL X.K H a xs) (h':SqL X.K H a ys):xs=ys:=by
 obtain⟨its,r,⟨o,n,e,_,_,d⟩,_⟩:=I.list h
 obtain⟨its',r',⟨o',n',e',_,_,d'⟩,_⟩:=I.list h'
 rw[e] at e';cases e'
 rw[d] at d'
 injection d' with d1 _
 have:its=its':=by simpa using congrArg Array.toList d1
 subst this
 exact r.inj r'
theorem Inv.tuple_inj (I:Inv X pins σ H s) (h:SqT X.K H a xs) (h':SqT X.K H a ys):xs=ys:=by
 obtain⟨its,r,⟨o,e,_,n,d⟩,_⟩:=I.tuple h
 obtain⟨its',r',⟨o',e',_,n',d'⟩,_⟩:=I.tuple h'
 rw[e] at e';cases e'
 rw[d] at d'
 injection d' with d1 _
 have:its=its':=by simpa using congrArg Array.toList d1
 subst this
 exact r.inj r'
end
noncomputable abbrev Cx.wish (X:Cx) (E:Value->Shared->Prop):Cx:={ X with xe:=E }
noncomputable abbrev Cx.nox (X:Cx):Cx:=X.wish fun _ _=>False
theorem Cx.Ok.wish {X:Cx} (ok:X.Ok) (E:Value->Shared->Prop):(X.wish E).Ok :=
 ⟨ok.mod,ok.kind,ok.glob,ok.blt,ok.above,ok.inj,ok.has,ok.cab,ok.hd,ok.frames,ok.stk,ok.exf,ok.bs,ok.bsz,ok.noex,ok.exfs,ok.funs,ok.frf⟩
theorem Cx.Ok.unwish {X:Cx}{E:Value->Shared->Prop} (ok:(X.wish E).Ok):X.Ok :=
 ⟨ok.mod,ok.kind,ok.glob,ok.blt,ok.above,ok.inj,ok.has,ok.cab,ok.hd,ok.frames,ok.stk,ok.exf,ok.bs,ok.bsz,ok.noex,ok.exfs,ok.funs,ok.frf⟩
section
variable {X:Cx}{pins:List (Addr×Obj)}{σ:St}{H:Hp}{s:Shared}{E:Value->Shared->Prop}
theorem Inv.wish (I:Inv X pins σ H s) (E:Value->Shared->Prop):Inv (X.wish E) pins σ H s:=⟨I.ok.wish E,I.os,I.bare,I.base,I.loc,I.cell,I.free,I.freeC,I.pin,I.hok,I.len,I.tk⟩
theorem Inv.unwish (I:Inv (X.wish E) pins σ H s):Inv X pins σ H s:=⟨I.ok.unwish,I.os,I.bare,I.base,I.loc,I.cell,I.free,I.freeC,I.pin,I.hok,I.len,I.tk⟩
theorem SP.unwish {D:JM}{f:Flow}{s':Shared} (h:SP (X.wish E) pins D f s'):SP X pins D f s':=by
 cases f with
 | next=>obtain⟨σ',H',I,q⟩:=h;exact⟨σ',H',I.unwish,q⟩
 | brk=>obtain⟨σ',H',I,q⟩:=h;exact⟨σ',H',I.unwish,q⟩
 | cont=>obtain⟨σ',H',I,q⟩:=h;exact⟨σ',H',I.unwish,q⟩
 | ret u=>obtain⟨v,σ',H',I,r,q⟩:=h;exact⟨v,σ',H',I.unwish,r,q⟩
theorem PSs.nox {st:List Stmt}{t:TS} (h:PSs X.nox st t):PSs X st t:=fun pins s σ H D I hw =>
 wpAny_mono (h pins s σ H D (I.wish _) hw) (fun _ _ q=>q.unwish) fun _ _ z=>False.elim z
end
section
variable {X:Cx}{st:Stmt}{qE:List Stmt}{t u:TS}{e:Expr}{te:TE}{pos:Pos}
noncomputable def zMH:TS:=fun D σ H=>D.nx σ H
noncomputable def zMb (t u:TS):TS:=fun D σ H=>t { D with nx:=u D } σ H
theorem zI9:PSs X [] zMH:=fun _ _ σ H _ I h=>wpAny_execs_nil ⟨σ,H,I,h⟩
theorem zH9 (h1:PS X st t) (h2:PSs X qE u):PSs X (st::qE) (zMb t u):=by
 intro pins s σ H D I h
 refine wpAny_execs_cons (thn (h1 pins s σ H { D with nx:=u D } I h) fun f s1 q=>?_)
 cases f with
 | next =>
  obtain⟨σ',H',I',q⟩:=q
  exact h2 pins s1 σ' H' D I' q
 | ret v=>exact q
 | brk=>exact q
 | cont=>exact q
theorem zJl (h1:PS X st t):PSs X [st] t:=by
 intro pins s σ H D I h
 refine wpAny_execs_cons (thn (h1 pins s σ H D I h) fun f s1 q=>?_)
 cases f with
 | next=>exact wpAny_execs_nil q
 | ret v=>exact q
 | brk=>exact q
 | cont=>exact q
theorem Inv.quiet {pins:List (Addr×Obj)}{σ:St}{H:Hp}{s:Shared} (I:Inv X pins σ H s):interactive X.env=false:=by simp[interactive,I.ok.kind]
noncomputable def zMN (te:TE):TS:=fun D σ H=>te σ H fun _ H1=>D.nx σ H1
theorem zJk (he:PE X e te) (hs:swapsWith e none pos.line X.env=pure false:=by rfl):PS X (.Expr e pos) (zMN te):=by
 intro pins s σ H D I h
 exact wpAny_Expr_any (thn (he pins s σ H _ I h) fun v s1 ⟨x,H1,I1,r1,q1⟩=>⟨σ,H1,I1,q1⟩) I.quiet hs
noncomputable def zMj (te:TE):TS:=fun D σ H=>te σ H D.rt
theorem zKM (he:PE X e te):PS X (.Return (some e) pos) (zMj te):=by
 intro pins s σ H D I h
 exact wpAny_Return_some (thn (he pins s σ H _ I h) fun v s1 ⟨x,H1,I1,r1,q1⟩=>⟨x,σ,H1,I1,r1,q1⟩)
noncomputable def zMT (c:TT) (t u:TS):TS:=fun D σ H=>c σ H fun b H1=>if b=true then t D σ H1 else u D σ H1
theorem zLi {c:Expr}{a b:List Stmt}{tc:TT} (hc:PT X c tc) (ha:PSs X a t) (hb:PSs X b u):PS X (.If c a b pos) (zMT tc t u):=by
 intro pins s σ H D I h
 refine wpAny_If (thn (hc pins s σ H _ I h) fun d s1 ⟨H1,I1,q1⟩=>?_)
 cases d with
 | true=>exact ha pins s1 σ H1 D I1 q1
 | false=>exact hb pins s1 σ H1 D I1 q1
noncomputable def zKO:TS:=fun _ _ _=>False
theorem zHl:PS X st zKO:=fun _ _ _ _ _ _ h=>h.elim
end
noncomputable abbrev TG:=V->St->Hp->(St->Hp->Prop)->Prop
noncomputable def PG (X:Cx) (target:Expr) (t:TG):Prop :=
 ∀ (pins:List (Addr×Obj)) (s:Shared) (σ:St) (H:Hp) (v:V) (u:Value) (Q:St->Hp->Prop),Inv X pins σ H s->zc v u->t v σ H Q ->
  wpAny (model X.prog X.w) X.A (assign target X.env u) (fun _ s'=>∃ σ' H',Inv X pins σ' H' s'/\Q σ' H') X.xe s
noncomputable abbrev zIT:=V->V->V->Hp->(Hp->Prop)->Prop
noncomputable def zJ8 (X:Cx) (t:zIT):Prop :=
 ∀ (pins:List (Addr×Obj)) (s:Shared) (σ:St) (H:Hp) (o i v:V) (ov iv u:Value) (Q:Hp->Prop),Inv X pins σ H s->zc o ov->zc i iv->zc v u->t o i v H Q ->
  wpAny (model X.prog X.w) X.A (setItem ov iv u) (fun _ s'=>∃ H',Inv X pins σ H' s'/\Q H') X.xe s
section
variable {X:Cx}{pos:Pos}
noncomputable def z7 (i:Nat):TG:=fun v σ H Q=>Q (σ.set i (some v)) H
theorem zJq {i:Nat}{x:Str} (hN:X.N.Nodup) (hi:X.N[i]? = some x) (hx:Loc X.env.scope x) (hf:X.fn x=true\/X.env.scope.names.lookup x=some .local:=by first | exact .inl rfl | exact .inr rfl | assumption):PG X (.Name x pos) (z7 i):=by
 intro pins s σ H v u Q I r h
 exact wpAny_assign_Name (zEM I hN hi hx r (fun s' I'=>⟨_,H,I',h⟩) hf)
noncomputable def zMn (to ti:TE) (t:zIT):TG:=fun v σ H Q=>to σ H fun o H1=>ti σ H1 fun i H2=>t o i v H2 fun H3=>Q σ H3
theorem zKw {o i:Expr}{to ti:TE}{t:zIT} (ho:PE X o to) (hi:PE X i ti) (hs:zJ8 X t)
  (ha:∀ v,assign (.Subscript o i pos) X.env v=(do
   let ov <- holding [v] (eval o X.env)
   let iv <- holding [v,ov] (eval i X.env)
   standAt pos
   holding [v,ov,iv] (setItem ov iv v)
   release [v,ov,iv] []):=by intro _;rfl):PG X (.Subscript o i pos) (zMn to ti t):=by
 intro pins s σ H v u Q I r h
 rw[ha]
 refine wpAny_bind (wpAny_holding (thn (ho pins s σ H _ I h) fun ov s1 ⟨x,H1,I1,r1,q1⟩=>?_))
 refine wpAny_bind (wpAny_holding (thn (hi pins s1 σ H1 _ I1 q1) fun iv s2 ⟨y,H2,I2,r2,q2⟩=>?_))
 refine wpAny_bind (wpAny_standAt (wpAny_bind (wpAny_holding (thn (hs pins s2 σ H2 x y v ov iv u _ I2 r1 r2 r q2) fun _ s3 ⟨H3,I3,q3⟩=>?_))))
 exact wpAny_release ⟨σ,H3,I3,q3⟩
noncomputable def zKL (te:TE) (g:TG):TS:=fun D σ H=>te σ H fun x H1=>g x σ H1 D.nx
theorem zLU {tg e:Expr}{te:TE}{g:TG} (he:PE X e te) (hg:PG X tg g) (hs:swapsWithSole [tg] e pos.line X.env=pure false:=by rfl) (hw:swappedStores [tg] e X.env=pure none:=by rfl)
  (h1:(assignEach [tg] X.env).map (·.2)=[assign tg X.env]:=by rfl):PS X (.Assign [tg] e pos) (zKL te g):=by
 intro pins s σ H D I h
 refine wpAny_Assign_stores (thn (he pins s σ H _ I h) fun v s1 ⟨x,H1,I1,r1,q1⟩=>?_) hs hw
 rw[h1]
 exact thn (hg pins s1 σ H1 x v _ I1 r1 q1) fun _ s2 q=>q
theorem zKE {i:Nat}{x:Str}{e:Expr}{te:TE}{pos':Pos} (hN:X.N.Nodup) (hi:X.N[i]? = some x) (hx:Loc X.env.scope x) (he:PE X e te) (hs:swapsWith e (some (.Name x pos')) pos.line X.env=pure false:=by rfl) (hf:X.fn x=true\/X.env.scope.names.lookup x=some .local:=by first | exact .inl rfl | exact .inr rfl | assumption) :
  PS X (.Assign [.Name x pos'] e pos) (zKL te (z7 i)):=by
 intro pins s σ H D I h
 refine wpAny_Assign_Name (thn (he pins s σ H _ I h) fun v s1 ⟨y,H1,I1,r1,q1⟩=>?_) hs
 exact zEM I1 hN hi hx r1 (fun s2 I2=>⟨_,H1,I2,q1⟩) hf
end
section
variable {X:Cx}{pos:Pos}
noncomputable def zKr (c:TT) (tb:TS):TS:=fun D σ H=>∃ W:Nat->St->Hp->Prop,(∃ m,W m σ H)/\∀ m σ H,W m σ H ->
 c σ H fun b H1=>if b=true then ∃ N:St->Hp->Prop,(∀ σ' H',N σ' H'->∃ m',m' < m/\W m' σ' H')/\tb { D with nx:=N,ct:=N,bk:=D.nx } σ H1 else D.nx σ H1
theorem zH0 {c:Expr}{body:List Stmt}{tc:TT}{tb:TS} (hp:PassesOwn (model X.prog X.w) X.A X.env X.xe) (hc:PT X c tc) (hb:PSs X body tb):PS X (.While c body [] pos) (zKr tc tb):=by
 intro pins s σ H D I h
 obtain⟨W,⟨m0,w0⟩,turn⟩:=h
 refine wpAny_While (codeAny_whileLoop (fun n s'=>∃ σ' H',Inv X pins σ' H' s'/\W n σ' H') ?_ m0 ⟨σ,H,I,w0⟩)
 rintro n s1 ⟨σ1,H1,I1,w1⟩
 refine wpAny_passesOwn hp (thn (hc pins s1 σ1 H1 _ I1 (turn n σ1 H1 w1)) fun b s2 ⟨H2,I2,q2⟩=>?_)
 cases b with
 | true =>
  obtain⟨N,hN,q2⟩:=q2
  rw[if_pos rfl]
  refine wpAny_passesOwn hp (thn (hb pins s2 σ1 H2 _ I2 q2) fun f s3 q3=>?_)
  cases f with
  | next =>
   obtain⟨σ3,H3,I3,n3⟩:=q3
   obtain⟨m',hm,w3⟩:=hN σ3 H3 n3
   exact⟨m',hm,σ3,H3,I3,w3⟩
  | cont =>
   obtain⟨σ3,H3,I3,n3⟩:=q3
   obtain⟨m',hm,w3⟩:=hN σ3 H3 n3
   exact⟨m',hm,σ3,H3,I3,w3⟩
  | brk=>exact q3
  | ret v=>exact q3
 | false =>
  rw[if_neg Bool.false_ne_true]
  exact wpAny_execs_nil ⟨σ1,H2,I2,q2⟩
end
structure It where
 go:Nat->Hp->Prop
 yld:Nat->Hp->V->Hp->Prop
 stop:Nat->Hp->Prop
noncomputable def JV (X:Cx) (pins:List (Addr×Obj)) (H:Hp) (b:Addr):Prop :=
 H b=none/\b≠X.env.locals/\b∉X.fs/\(b∈X.ex\/X.s₀.heap.objs.size <= b)/\(∀ x c,X.env.cells.lookup x=some c->c≠b)/\∀ p∈X.pn++pins,p.1≠b
theorem Inv.fpOk {X:Cx}{pins:List (Addr×Obj)}{σ:St}{H H':Hp}{s:Shared}{b:Addr} (I:Inv X pins σ H s) (hb:s.heap.objs.size <= b) (hn:H' b=none):JV X pins H' b:=by
 refine⟨hn,Nat.ne_of_gt (Nat.lt_of_lt_of_le I.lt hb),I.nofs hb,.inr (Nat.le_trans I.sz hb),fun x c e z=>?_,fun p hp z=>?_⟩
 ·obtain⟨v,q⟩:=I.cell x c e
  exact absurd (Nat.lt_of_lt_of_le q.lt (by rw[z];exact hb)) (Nat.lt_irrefl _)
 ·exact absurd (Nat.lt_of_lt_of_le (Heap.lt_size (I.pin p hp).1) (by rw[z];exact hb)) (Nat.lt_irrefl _)
structure zAt (P:Program) (w:World) (K:PySem.W.Frag) (tg:Expr) (J:It) (fp:List Addr) (it:Addr) (tn:Nat->Heap->Prop):Prop where
 mem:it∈fp
 obj:∀ i h,tn i h->∀ b∈fp,∃ o,h.get? b=some o/\∀ v,o.data≠.cell v
 keep:∀ i h h',tn i h->(∀ b∈fp,∀ o,h.get? b=some o->h'.get? b=some o)->tn i h'
 item:∀ (X:Cx),X.prog=P->X.w=w->X.K=K->X.calm=true->∀ (i:Nat) (pins:List (Addr×Obj)) (s:Shared) (σ:St) (H:Hp) (E:Value->Shared->Prop),Inv X pins σ H s->(∀ b∈fp,JV X pins H b)->tn i s.heap->J.go i H ->
  wpAny (model P w) X.A (pyNext (.ref it)) (fun r s1=>∃ u,r=some u /\
   wpAny (model P w) X.A (letOwnedTupleGo tg (.ref it) u) (fun _ s2=>∃ x H',Inv X pins σ H' s2/\zc x u/\J.yld i H x H'/\tn (i+1) s2.heap/\∀ b∈fp,H' b=none) E s1) E s
 done:∀ (X:Cx),X.prog=P->X.w=w->X.K=K->X.calm=true->∀ (i:Nat) (pins:List (Addr×Obj)) (s:Shared) (σ:St) (H:Hp) (E:Value->Shared->Prop),Inv X pins σ H s->(∀ b∈fp,JV X pins H b)->tn i s.heap->J.stop i H ->
  wpAny (model P w) X.A (pyNext (.ref it)) (fun r s1=>r=none/\Inv X pins σ H s1) E s
 self:∀ (A:Around) (i:Nat) (s:Shared) (Q:Value->Shared->Prop) (E:Value->Shared->Prop),tn i s.heap->Q (.ref it) s->wpAny (model P w) A (pyIter (.ref it)) Q E s
noncomputable abbrev TI:=St->Hp->(It->Hp->Prop)->Prop
noncomputable def PIE (X:Cx) (pins:List (Addr×Obj)) (σ:St) (tg:Expr) (R:It->Hp->Prop) (itv:Value) (s2:Shared):Prop :=
 ∃ (it:Addr) (fp:List Addr) (tn:Nat->Heap->Prop) (J:It) (H':Hp),itv=.ref it/\Inv X pins σ H' s2/\zAt X.prog X.w X.K tg J fp it tn/\tn 0 s2.heap/\(∀ b∈fp,JV X pins H' b)/\R J H'
noncomputable def PI (X:Cx) (tg iter:Expr) (wi:TI):Prop :=
 ∀ (pins:List (Addr×Obj)) (s:Shared) (σ:St) (H:Hp) (R:It->Hp->Prop),Inv X pins σ H s->wi σ H R ->
  wpAny (model X.prog X.w) X.A (eval iter X.env) (fun v s1=>wpAny (model X.prog X.w) X.A (pyIter v) (PIE X pins σ tg R) X.xe s1) X.xe s
theorem zBF {M:Model}{A:Around}{E:Value->Shared->Prop}{s:Shared}{tg:Expr}{it:Addr}{u:Value}{o:Obj}{n:String}{vs:Array Value}{Q:Unit->Shared->Prop} (ho:s.heap.get? it=some o) (hc:o.cls=.type n) (hd:o.data=.fields vs)
  (hn:["enumerate","zip","dict_itemiterator","dict_reverseitemiterator","odict_iterator","itertools.zip_longest","itertools.pairwise"].contains n=false) (hQ:Q () s):wpAny M A (letOwnedTupleGo tg (.ref it) u) Q E s:=by
 unfold letOwnedTupleGo
 cases tg<;>first
  | exact wpAny_pure hQ
  | (cases u<;>first
      | exact wpAny_pure hQ
      | (refine wpAny_bind (wpAny_load ho ?_)
         rw[hc,hd]
         show wpAny M A (if (["enumerate","zip","dict_itemiterator","dict_reverseitemiterator","odict_iterator","itertools.zip_longest","itertools.pairwise"].contains n && vs[0]? == some (rawInt _))=true then _ else _) Q E s
         rw[if_neg (by intro h;rw[hn,Bool.false_and] at h;cases h)]
         exact wpAny_pure hQ))
noncomputable def Itl (K:PySem.W.Frag) (a:Addr):It :=
 ⟨fun i H=>∃ xs x,SqL K H a xs/\xs[i]? = some x,fun i H x H'=>H'=H/\∀ xs,SqL K H a xs->xs[i]? = some x,fun i H=>∃ xs,SqL K H a xs/\xs.length <= i⟩
noncomputable def Itt (K:PySem.W.Frag) (a:Addr):It :=
 ⟨fun i H=>∃ xs x,SqT K H a xs/\xs[i]? = some x,fun i H x H'=>H'=H/\∀ xs,SqT K H a xs->xs[i]? = some x,fun i H=>∃ xs,SqT K H a xs/\xs.length <= i⟩
noncomputable def Itr (lo:Int) (n:Nat):It:=⟨fun i _=>i < n,fun i H x H'=>H'=H/\x=.int (lo+i),fun i _=>n <= i⟩
theorem zGB {P:Program}{w:World}{K:PySem.W.Frag}{tg:Expr} (a it:Addr):zAt P w K tg (Itl K a) [it] it (fun i h=>h.IsListIter it a i) where
 mem:=by simp
 obj:=fun i h st b hb=>by
  have e:b=it:=by simpa using hb
  subst e
  obtain⟨o,e,c,d⟩:=st
  exact⟨o,e,fun v z=>by rw[d] at z;cases z⟩
 keep:=fun i h h' st k=>st.at fun o e=>k it (by simp) o e
 item:=by
  intro X hP hw hK hc i pins s σ H E I hf st hg
  subst hP hw hK
  obtain⟨xs,x,hq,hx⟩:=hg
  obtain⟨its,rv,p,hz⟩:=I.list hq
  obtain⟨u,hu,ru⟩:=rv.get hx
  obtain⟨f0,f1,f2,f3,f4,f5⟩:=hf it (by simp)
  refine wpAny_pyNext_list_item st p.isList (x:=u) (by simpa using hu) fun h' st' sb=>?_
  have I1:Inv X pins σ H { s with heap:=h' }:=I.turned (t':=s.toks) (fun b o hb e=>(sb.2 b hb).trans e) f0 f1 f3 f4 f5
  obtain⟨o,e,c,d⟩:=id st'
  exact⟨u,rfl,zBF (s:={ s with heap:=h' }) e c d (by decide) ⟨x,H,I1,ru,⟨rfl,fun ys hy=>by rw[I.list_inj hy hq];exact hx⟩,st',fun b hb=>(hf b hb).1⟩⟩
 done:=by
  intro X hP hw hK hc i pins s σ H E I hf st hg
  subst hP hw hK
  obtain⟨xs,hq,hx⟩:=hg
  obtain⟨its,rv,p,hz⟩:=I.list hq
  obtain⟨f0,f1,f2,f3,f4,f5⟩:=hf it (by simp)
  have hl:=rv.length
  exact wpAny_pyNext_list_end (I.ok.hd hc) st p.isList (by simp;omega) fun h' eb=>⟨rfl,I.turned (t':=s.toks) (fun b o hb e=>eb b o hb e) f0 f1 f3 f4 f5⟩
 self:=fun _ _ _ _ _ st h=>wpAny_pyIter_listiter st h
theorem zFi {P:Program}{w:World}{K:PySem.W.Frag}{tg:Expr} (a it:Addr):zAt P w K tg (Itt K a) [it] it (fun i h=>h.IsTupleIter it a i) where
 mem:=by simp
 obj:=fun i h st b hb=>by
  have e:b=it:=by simpa using hb
  subst e
  obtain⟨o,e,c,d⟩:=st
  exact⟨o,e,fun v z=>by rw[d] at z;cases z⟩
 keep:=fun i h h' st k=>st.at fun o e=>k it (by simp) o e
 item:=by
  intro X hP hw hK hc i pins s σ H E I hf st hg
  subst hP hw hK
  obtain⟨xs,x,hq,hx⟩:=hg
  obtain⟨its,rv,p,hz⟩:=I.tuple hq
  obtain⟨u,hu,ru⟩:=rv.get hx
  obtain⟨f0,f1,f2,f3,f4,f5⟩:=hf it (by simp)
  refine wpAny_pyNext_tuple_item st (show s.heap.IsTuple a its.toArray from p) (x:=u) (by simpa using hu) fun h' st' sb=>?_
  have I1:Inv X pins σ H { s with heap:=h' }:=I.turned (t':=s.toks) (fun b o hb e=>(sb.2 b hb).trans e) f0 f1 f3 f4 f5
  obtain⟨o,e,c,d⟩:=id st'
  exact⟨u,rfl,zBF (s:={ s with heap:=h' }) e c d (by decide) ⟨x,H,I1,ru,⟨rfl,fun ys hy=>by rw[I.tuple_inj hy hq];exact hx⟩,st',fun b hb=>(hf b hb).1⟩⟩
 done:=by
  intro X hP hw hK hc i pins s σ H E I hf st hg
  subst hP hw hK
  obtain⟨xs,hq,hx⟩:=hg
  obtain⟨its,rv,p,hz⟩:=I.tuple hq
  obtain⟨f0,f1,f2,f3,f4,f5⟩:=hf it (by simp)
  have hl:=rv.length
  exact wpAny_pyNext_tuple_end (I.ok.hd hc) st (show s.heap.IsTuple a its.toArray from p) (by simp;omega) fun h' eb=>⟨rfl,I.turned (t':=s.toks) (fun b o hb e=>eb b o hb e) f0 f1 f3 f4 f5⟩
 self:=fun _ _ _ _ _ st h=>wpAny_pyIter_tupleiter st h
theorem zFr {P:Program}{w:World}{K:PySem.W.Frag}{tg:Expr} (it:Addr) (lo:Int) (n:Nat):zAt P w K tg (Itr lo n) [it] it (fun i h=>IsRangeIter h it (lo+(i:Nat) * 1) ((n:Int) - (i:Nat)) 1) where
 mem:=by simp
 obj:=fun i h st b hb=>by
  have e:b=it:=by simpa using hb
  subst e
  exact⟨_,st,fun v z=>by
   have z':Data.fields _=Data.cell v:=z
   cases z'⟩
 keep:=fun i h h' st k=>k it (by simp) _ st
 item:=by
  intro X hP hw hK hc i pins s σ H E I hf st hg
  subst hP hw hK
  obtain⟨f0,f1,f2,f3,f4,f5⟩:=hf it (by simp)
  have W:=Walks.range (prog:=X.prog) (w:=X.w) (I.ok.hd hc) it lo 1 n
  refine wpAny_with_toks (n:=1) I.tk (W.item i s _ _ hg st fun v h' tk hv st' kk htk=>?_)
  obtain⟨t,rfl⟩:=hv
  have I1:Inv X pins σ H { s with heap:=h',toks:=tk }:=I.turned (fun b o hb e=>kk b o (by simpa using hb) e) f0 f1 f3 f4 f5
  refine⟨_,rfl,zBF (s:={ s with heap:=h',toks:=tk }) (n := "range_iterator") st' rfl rfl (by decide) ⟨.int (lo+i),H,I1,⟨t,?_⟩,⟨rfl,rfl⟩,st',fun b hb=>(hf b hb).1⟩⟩
  rw[Int.mul_one]
 done:=by
  intro X hP hw hK hc i pins s σ H E I hf st hg
  subst hP hw hK
  obtain⟨f0,f1,f2,f3,f4,f5⟩:=hf it (by simp)
  exact wpAny_pyNext_range_end (I.ok.hd hc) st (by have:n <= i:=hg;omega) fun h' eb=>⟨rfl,I.turned (t':=s.toks) (fun b o hb e=>eb b o hb e) f0 f1 f3 f4 f5⟩
 self:=fun _ _ _ _ _ st h=>wpAny_pyIter_rangeiter st h
end L2
namespace L2
open PySem PySem.Spec PyProof.Rows
section
variable {X:Cx}{tg:Expr}
noncomputable def zMP (K:PySem.W.Frag) (tl:TE):TI:=fun σ H R=>tl σ H fun x H1=>∃ a,x=.ref a/\(∃ xs,SqL K H1 a xs)/\R (Itl K a) H1
noncomputable def zMx (K:PySem.W.Frag) (tl:TE):TI:=fun σ H R=>tl σ H fun x H1=>∃ a,x=.ref a/\(∃ xs,SqT K H1 a xs)/\R (Itt K a) H1
theorem zJT {l:Expr}{tl:TE} (hl:PE X l tl):PI X tg l (zMP X.K tl):=by
 intro pins s σ H R I h
 refine thn (hl pins s σ H _ I h) fun v s1 ⟨x,H1,I1,r1,q1⟩=>?_
 obtain⟨a,e,⟨xs,hq⟩,q⟩:=q1
 subst e
 cases r1
 obtain⟨its,rv,p,hz⟩:=I1.list hq
 refine wpAny_pyIter_list p.isList ?_
 refine⟨s1.heap.objs.size,[s1.heap.objs.size],_,_,H1,rfl,I1.kept (t':=s1.toks) fun b o e=>Heap.get?_push_of_some _ e,zGB a _,⟨_,Heap.get?_push_size _ rfl,rfl,rfl⟩,fun b hb=>?_,q⟩
 have e:b=s1.heap.objs.size:=by simpa using hb
 subst e
 exact I1.fpOk (Nat.le_refl _) (I1.hok.fresh (Nat.le_refl _))
theorem zKD {l:Expr}{tl:TE} (hl:PE X l tl):PI X tg l (zMx X.K tl):=by
 intro pins s σ H R I h
 refine thn (hl pins s σ H _ I h) fun v s1 ⟨x,H1,I1,r1,q1⟩=>?_
 obtain⟨a,e,⟨xs,hq⟩,q⟩:=q1
 subst e
 cases r1
 obtain⟨its,rv,p,hz⟩:=I1.tuple hq
 refine wpAny_pyIter_tuple (show s1.heap.IsTuple a its.toArray from p) ?_
 refine⟨s1.heap.objs.size,[s1.heap.objs.size],_,_,H1,rfl,I1.kept (t':=s1.toks) fun b o e=>Heap.get?_push_of_some _ e,zFi a _,⟨_,Heap.get?_push_size _ rfl,rfl,rfl⟩,fun b hb=>?_,q⟩
 have e:b=s1.heap.objs.size:=by simpa using hb
 subst e
 exact I1.fpOk (Nat.le_refl _) (I1.hok.fresh (Nat.le_refl _))
theorem zHb {pins:List (Addr×Obj)}{σ:St}{H:Hp}{s:Shared}{R:It->Hp->Prop}{E:Value->Shared->Prop}{lo hi:Int}{t u v:Tok}{tk:Nat} (I:Inv X pins σ H s) (h1:-(2 ^ 62) <= lo) (h2:lo < 2 ^ 62) (h3:-(2 ^ 62) <= hi) (h4:hi < 2 ^ 62)
  (q:R (Itr lo (hi - lo).toNat) H) (htk:0 < tk:=by first | exact Nat.succ_pos _ | assumption | exact Inv.tk (by assumption) | omega):wpAny (model X.prog X.w) X.A (pyIter (.ref s.heap.objs.size)) (PIE X pins σ tg R) E { s with heap:=s.heap.push { cls:=.type "range",data:=.fields #[.int lo t,.int hi u,.int 1 v] },toks:=tk }:=by
 refine wpAny_pyIter_range (IsRange.new ..) (small_one h1 h2 h3 h4) ?_
 have I1:Inv X pins σ H { s with heap:=s.heap.push { cls:=.type "range",data:=.fields #[.int lo t,.int hi u,.int 1 v] },toks:=tk }:=I.kept fun b o e=>Heap.get?_push_of_some _ e
 refine⟨(s.heap.push { cls:=.type "range",data:=.fields #[.int lo t,.int hi u,.int 1 v] }).objs.size,[(s.heap.push { cls:=.type "range",data:=.fields #[.int lo t,.int hi u,.int 1 v] }).objs.size],_,_,H,rfl,
  I1.kept (t':=tk) fun b o e=>Heap.get?_push_of_some _ e,zFr _ lo (hi - lo).toNat,?_,fun b hb=>?_,q⟩
 ·have e1:lo+((0:Nat):Int) * 1=lo:=by simp
  have e2:(((hi - lo).toNat:Nat):Int) - ((0:Nat):Int)=Builtin.Range.rangeSize lo hi 1:=by rw[rangeSize_one];split<;>omega
  show IsRangeIter _ _ (lo+((0:Nat):Int) * 1) ((((hi - lo).toNat:Nat):Int) - ((0:Nat):Int)) 1
  rw[e1,e2]
  exact Heap.get?_push_size _ rfl
 ·have e:b=(s.heap.push { cls:=.type "range",data:=.fields #[.int lo t,.int hi u,.int 1 v] }).objs.size:=by simpa using hb
  subst e
  exact I1.fpOk (Nat.le_refl _) (I1.hok.fresh (Nat.le_refl _))
noncomputable def zML (ta:TA):TI:=fun σ H R=>ta σ H fun vs H1=>∃ j:Int,vs=[.int j] /\ -(2 ^ 62) <= j/\j < 2 ^ 62/\R (Itr 0 j.toNat) H1
theorem zGg {a:Expr}{ta:TA}{p pos:Pos} (hg:Gl X "range") (hm:X.mg "range" = none) (ha:PA X [a] ta) (hs:starEach [a] X.env=[(false,eval a X.env)]:=by rfl):PI X tg (.Call (.Name "range" p) [a] [] pos) (zML ta):=by
 intro pins s σ H R I h
 refine Call_ (zBL I hg hm boot_range (PyProof.Rows.callWith_type1 (thn (ha pos pins s σ H _ I h) fun us s1 ⟨vs,H1,I1,r1,q1⟩=>?_) hs rfl))
 obtain⟨j,e,q1,q2,q⟩:=q1
 subst e
 cases r1 with
 | cons r rr =>
  cases rr
  obtain⟨t,rfl⟩:=r
  exact call_range_1 (zHb I1 (by omega) (by omega) q1 q2 (by simpa using q))
noncomputable def zMy (wi:TI) (g:TG) (tb:TS):TS:=fun D σ H=>wi σ H fun J H1=>∃ W:Nat->Nat->St->Hp->Prop,(∃ m,W 0 m σ H1)/\∀ i m σ H,W i m σ H ->
 (J.stop i H/\D.nx σ H)\/(J.go i H/\∃ N:St->Hp->Prop,(∀ σ' H',N σ' H'->∃ m',m' < m/\W (i+1) m' σ' H')/\∀ x H',J.yld i H x H'->g x σ H' fun σ2 H2=>tb { D with nx:=N,ct:=N,bk:=D.nx } σ2 H2)
noncomputable def y9 (fp:List Addr) (h:Heap):List (Addr×Obj):=fp.filterMap fun b=>(h.get? b).map fun o=>(b,o)
theorem Z8 {fp:List Addr}{h:Heap}{b:Addr}{o:Obj} (hb:b∈fp) (e:h.get? b=some o):(b,o)∈y9 fp h:=List.mem_filterMap.mpr ⟨b,hb,by rw[e];rfl⟩
theorem zCh {fp:List Addr}{h:Heap}{p:Addr×Obj} (hp:p∈y9 fp h):p.1∈fp/\h.get? p.1=some p.2:=by
 obtain⟨b,hb,e⟩:=List.mem_filterMap.mp hp
 cases q:h.get? b with
 | none=>rw[q] at e;cases e
 | some o =>
  rw[q] at e
  have e':(b,o)=p:=Option.some.inj e
  subst e'
  exact⟨hb,q⟩
theorem Inv.pinned {pins:List (Addr×Obj)}{σ:St}{H:Hp}{s:Shared}{fp:List Addr} (I:Inv X pins σ H s) (hf:∀ b∈fp,JV X pins H b) (ho:∀ b∈fp,∃ o,s.heap.get? b=some o/\∀ v,o.data≠.cell v):Inv X (pins++y9 fp s.heap) σ H s :=
 I.pins_of fun p hp=>(List.mem_append.mp hp).elim (fun z=>I.pin p (List.mem_append_right _ z)) fun z=>by
  obtain⟨hb,e⟩:=zCh z
  obtain⟨f0,f1,f2,_⟩:=hf p.1 hb
  obtain⟨o,e',d⟩:=ho p.1 hb
  rw[e] at e';cases e'
  exact⟨e,f0,f1,f2,d⟩
theorem Inv.unpinned {pins pl:List (Addr×Obj)}{σ:St}{H:Hp}{s:Shared} (I:Inv X (pins++pl) σ H s):Inv X pins σ H s:=I.pins_of fun p hp=>I.pin p (List.mem_append_right _ (List.mem_append_left _ hp))
theorem zKU {iter:Expr}{body:List Stmt}{wi:TI}{g:TG}{tb:TS}{pos:Pos} (hp:PassesOwn (model X.prog X.w) X.A X.env X.xe) (hc:X.calm=true) (hi:PI X tg iter wi) (hg:PG X tg g) (hb:PSs X body tb)
  (hs:∀ x,foldedSetIterable iter X.env x=pure x:=by intro _;rfl):PS X (.For tg iter body [] pos) (zMy wi g tb):=by
 intro pins s σ H D I h
 refine wpAny_For (thn (hi pins s σ H _ I h) fun v s1 h1=>thn h1 fun itv s2 h2=>?_) hs
 obtain⟨it,fp,tn,J,H2,e,I2,T,st2,f2,W,⟨m0,w0⟩,turn⟩:=h2
 subst e
 have stat:∀ {H':Hp},(∀ b∈fp,H' b=none)->∀ b∈fp,JV X pins H' b:=fun hn b hb=>⟨hn b hb,(f2 b hb).2⟩
 refine codeAny_forLoop_any (fun n s'=>∃ i σ' H',Inv X pins σ' H' s'/\tn i s'.heap/\(∀ b∈fp,H' b=none)/\W i n σ' H') ?_ m0 ⟨0,σ,H2,I2,st2,fun b hb=>(f2 b hb).1,w0⟩
 rintro n s3 ⟨i,σ3,H3,I3,st3,fr3,w3⟩
 rcases turn i n σ3 H3 w3 with ⟨stop,qn⟩ | ⟨go,N,hN,step⟩
 ·refine wpAny_passesOwn hp (thn (T.done X rfl rfl rfl hc i pins s3 σ3 H3 X.xe I3 (stat fr3) st3 stop) fun r s4 ⟨hr,I4⟩=>?_)
  subst hr
  exact wpAny_execs_nil ⟨σ3,H3,I4,qn⟩
 ·refine wpAny_passesOwn hp (thn (T.item X rfl rfl rfl hc i pins s3 σ3 H3 X.xe I3 (stat fr3) st3 go) fun r s4 ⟨u,hr,h4⟩=>?_)
  subst hr
  refine wpAny_passesOwn hp (thn h4 fun _ s5 ⟨x,H5,I5,r5,y5,st5,fr5⟩=>?_)
  have I5':=I5.pinned (stat fr5) (T.obj _ _ st5)
  refine wpAny_passesOwn hp (thn (hg _ s5 σ3 H5 x u _ I5' r5 (step x H5 y5)) fun _ s6 ⟨σ6,H6,I6,q6⟩=>?_)
  refine wpAny_passesOwn hp (thn (hb _ s6 σ6 H6 _ I6 q6) fun f s7 q7=>?_)
  have again:∀ {σ7:St}{H7:Hp},Inv X (pins++y9 fp s5.heap) σ7 H7 s7->N σ7 H7->∃ m,m < n/\∃ i σ' H',Inv X pins σ' H' s7/\tn i s7.heap/\(∀ b∈fp,H' b=none)/\W i m σ' H':=fun {σ7 H7} I7 n7=>by
   obtain⟨m',hm,w7⟩:=hN σ7 H7 n7
   refine⟨m',hm,i+1,σ7,H7,I7.unpinned,T.keep _ _ _ st5 fun b hb o e=>(I7.pin (b,o) (List.mem_append_right _ (List.mem_append_right _ (Z8 hb e)))).1,fun b hb=>?_,w7⟩
   obtain⟨o,e,d⟩:=T.obj _ _ st5 b hb
   exact (I7.pin (b,o) (List.mem_append_right _ (List.mem_append_right _ (Z8 hb e)))).2.1
  cases f with
  | next=>obtain⟨σ7,H7,I7,n7⟩:=q7;exact again I7 n7
  | cont=>obtain⟨σ7,H7,I7,n7⟩:=q7;exact again I7 n7
  | brk=>obtain⟨σ7,H7,I7,q7⟩:=q7;exact⟨σ7,H7,I7.unpinned,q7⟩
  | ret v=>obtain⟨x7,σ7,H7,I7,r7,q7⟩:=q7;exact⟨x7,σ7,H7,I7.unpinned,r7,q7⟩
end
end L2
namespace L2
open PySem PySem.Spec PyProof.Rows
noncomputable abbrev R2:=V->V->Hp->VK->Prop
noncomputable def OpR (X:Cx) (f:Value->Value->Sem Value) (r:R2):Prop :=
 ∀ (pins:List (Addr×Obj)) (s:Shared) (σ:St) (H:Hp) (x y:V) (v u:Value) (Q:VK),Inv X pins σ H s->zc x v->zc y u->r x y H Q ->
  wpAny (model X.prog X.w) X.A (f v u) (EP X pins σ Q) X.xe s
noncomputable def UnR (X:Cx) (f:Value->Sem Value) (r:V->Hp->VK->Prop):Prop :=
 ∀ (pins:List (Addr×Obj)) (s:Shared) (σ:St) (H:Hp) (x:V) (v:Value) (Q:VK),Inv X pins σ H s->zc x v->r x H Q ->
  wpAny (model X.prog X.w) X.A (f v) (EP X pins σ Q) X.xe s
noncomputable def jh (X:Cx) (f:Value) (r:List V->Hp->VK->Prop):Prop :=
 ∀ (pins:List (Addr×Obj)) (s:Shared) (σ:St) (H:Hp) (xs:List V) (us:List Value) (Q:VK),Inv X pins σ H s->zX xs us->r xs H Q ->
  wpAny (model X.prog X.w) X.A (call f us) (EP X pins σ Q) X.xe s
noncomputable def zMm (X:Cx) (r:V->Hp->(Bool->Hp->Prop)->Prop):Prop :=
 ∀ (pins:List (Addr×Obj)) (s:Shared) (σ:St) (H:Hp) (x:V) (v:Value) (Q:Bool->Hp->Prop),Inv X pins σ H s->zc x v->r x H Q ->
  wpAny (model X.prog X.w) X.A (truthy v) (TP X pins σ Q) X.xe s
noncomputable def tOp (r:R2) (ta tb:TE):TE:=fun σ H Q=>ta σ H fun x H1=>tb σ H1 fun y H2=>r x y H2 Q
noncomputable def tUn (r:V->Hp->VK->Prop) (ta:TE):TE:=fun σ H Q=>ta σ H fun x H1=>r x H1 Q
noncomputable def rI (C:Int->Int->Prop) (g:Int->Int->V):R2:=fun x y H Q=>∃ i j,x=.int i/\y=.int j/\C i j/\Q (g i j) H
noncomputable def rI0 (g:Int->Int->V):R2:=fun x y H Q=>∃ i j,x=.int i/\y=.int j/\Q (g i j) H
noncomputable def rU (g:Int->V):V->Hp->VK->Prop:=fun x H Q=>∃ i,x=.int i/\Q (g i) H
section
variable {X:Cx}{a b c:Expr}{ta tb tc:TE}{pos:Pos}
theorem zIK (ha:PE X a ta) (hb:PE X b tb) {pins:List (Addr×Obj)}{s:Shared}{σ:St}{H:Hp}{R:V->V->Hp->Prop} (I:Inv X pins σ H s)
  (h:ta σ H fun x H1=>tb σ H1 fun y H2=>R x y H2) {Q:Value->Shared->Prop}{f:Value->Value->Sem Value}
  (hf:∀ v u s2 x y H2,Inv X pins σ H2 s2->zc x v->zc y u->R x y H2->wpAny (model X.prog X.w) X.A (f v u) Q X.xe s2) :
  wpAny (model X.prog X.w) X.A (eval a X.env) (fun v s₁=>wpAny (model X.prog X.w) X.A (eval b X.env) (fun u s₂=>wpAny (model X.prog X.w) X.A (f v u) Q X.xe s₂) X.xe s₁) X.xe s:=by
 refine thn (ha pins s σ H _ I h) fun v s1 ⟨x,H1,I1,r1,q1⟩=>?_
 refine thn (hb pins s1 σ H1 _ I1 q1) fun u s2 ⟨y,H2,I2,r2,q2⟩=>?_
 exact hf v u s2 x y H2 I2 r1 r2 q2
theorem zLw {op:Operator}{r:R2} (ho:OpR X (binaryOp op) r) (ha:PE X a ta) (hb:PE X b tb):PE X (.BinOp a op b pos) (tOp r ta tb):=by
 intro pins s σ H Q I h
 exact wpAny_BinOp (zIK ha hb I h fun v u s2 x y H2 I2 rx ry q=>ho pins s2 σ H2 x y v u Q I2 rx ry q)
theorem zIe {op:UnaryOp}{r:V->Hp->VK->Prop} (ho:UnR X (unaryOp op) r) (ha:PE X a ta):PE X (.UnaryOp op a pos) (tUn r ta):=by
 intro pins s σ H Q I h
 exact UnaryOp_ (thn (ha pins s σ H _ I h) fun v s1 ⟨x,H1,I1,r1,q1⟩=>ho pins s1 σ H1 x v Q I1 r1 q1)
theorem opI {f:Value->Value->Sem Value}{C:Int->Int->Prop}{g:Int->Int->Int}
  (rule:∀ (i j:Int) (t u:Tok) (s:Shared) (Q:Value->Shared->Prop) (E:Value->Shared->Prop),C i j->Q (.int (g i j) s.toks) { s with toks:=s.toks+1 }->wpAny (model X.prog X.w) X.A (f (.int i t) (.int j u)) Q E s) :
  OpR X f (rI C fun i j=>.int (g i j)):=by
 intro pins s σ H x y v u Q I rx ry h
 obtain⟨i,j,rfl,rfl,hc,q⟩:=h
 obtain⟨t,rfl⟩:=rx
 obtain⟨t',rfl⟩:=ry
 exact rule i j t t' s _ _ hc ⟨.int (g i j),H,I.tok _,⟨_,rfl⟩,q⟩
theorem zK2 {f:Value->Value->Sem Value}{g:Int->Int->Int}
  (rule:∀ (i j:Int) (t u:Tok) (s:Shared) (Q:Value->Shared->Prop) (E:Value->Shared->Prop),Q (.int (g i j) s.toks) { s with toks:=s.toks+1 }->wpAny (model X.prog X.w) X.A (f (.int i t) (.int j u)) Q E s) :
  OpR X f (rI0 fun i j=>.int (g i j)):=by
 intro pins s σ H x y v u Q I rx ry h
 obtain⟨i,j,rfl,rfl,q⟩:=h
 obtain⟨t,rfl⟩:=rx
 obtain⟨t',rfl⟩:=ry
 exact rule i j t t' s _ _ ⟨.int (g i j),H,I.tok _,⟨_,rfl⟩,q⟩
theorem zH1 {f:Value->Value->Sem Value}{g:Int->Int->Bool}
  (rule:∀ (i j:Int) (t u:Tok) (s:Shared) (Q:Value->Shared->Prop) (E:Value->Shared->Prop),Q (.bool (g i j)) s->wpAny (model X.prog X.w) X.A (f (.int i t) (.int j u)) Q E s) :
  OpR X f (rI0 fun i j=>.bl (g i j)):=by
 intro pins s σ H x y v u Q I rx ry h
 obtain⟨i,j,rfl,rfl,q⟩:=h
 obtain⟨t,rfl⟩:=rx
 obtain⟨t',rfl⟩:=ry
 exact rule i j t t' s _ _ ⟨.bl (g i j),H,I,rfl,q⟩
noncomputable def zMW (i j:Int):Prop:=0 < j/\j < 1073741824
noncomputable def zKh (i j:Int):Prop:=0 <= j/\j <= 1000000/\i.natAbs < 2 ^ 64
noncomputable def zFG (i j:Int):Prop:=(-(2 ^ 64) < i/\i < 2 ^ 64)\/(-(2 ^ 64) < j/\j < 2 ^ 64)
theorem zFG.ok {i j:Int} (h:zFG i j):IntMulOk i j:=by
 rcases h with ⟨h1,h2⟩ | ⟨h1,h2⟩
 ·exact .of_left (intBits_le_64 h1 h2)
 ·exact .of_right (intBits_le_64 h1 h2)
theorem zLG:OpR X (binaryOp .Add) (rI0 fun i j=>.int (i+j)):=zK2 fun _ _ _ _ _ _ _ q=>add_int q
theorem zKu:OpR X (binaryOp .Sub) (rI0 fun i j=>.int (i - j)):=zK2 fun _ _ _ _ _ _ _ q=>sub_int q
theorem zKK:OpR X (binaryOp .Mult) (rI zFG fun i j=>.int (i * j)):=opI fun _ _ _ _ _ _ _ hc q=>mul_int q hc.ok
theorem zIx:OpR X (binaryOp .FloorDiv) (rI zMW fun i j=>.int (i / j)):=opI fun i j _ _ _ _ _ hc q=>by
 have h1:(0:Int) < j:=hc.1
 have h2:j < 1073741824:=hc.2
 exact floordiv_int (by omega) (by rw[Int.fdiv_eq_ediv_of_nonneg i (by omega)];exact q) (.inl (PyProof.noPylong_small (by omega)))
theorem zLJ:OpR X (binaryOp .Mod) (rI (fun _ j=>0 < j) fun i j=>.int (i % j)):=opI fun i j _ _ _ _ _ hc q=>by
 have h1:(0:Int) < j:=hc
 exact mod_int' (by omega) (by rw[Int.fmod_eq_emod_of_nonneg i (by omega)];exact q)
theorem zGn:OpR X (binaryOp .Pow) (rI zKh fun i j=>.int (i ^ j.toNat)):=opI fun _ _ _ _ _ _ _ hc q=>pow_int_small hc.1 hc.2.1 hc.2.2 q
theorem unI {f:Value->Sem Value}{g:Int->Int}
  (rule:∀ (i:Int) (t:Tok) (s:Shared) (Q:Value->Shared->Prop) (E:Value->Shared->Prop),Q (.int (g i) s.toks) { s with toks:=s.toks+1 }->wpAny (model X.prog X.w) X.A (f (.int i t)) Q E s) :
  UnR X f (rU fun i=>.int (g i)):=by
 intro pins s σ H x v Q I rx h
 obtain⟨i,rfl,q⟩:=h
 obtain⟨t,rfl⟩:=rx
 exact rule i t s _ _ ⟨.int (g i),H,I.tok _,⟨_,rfl⟩,q⟩
theorem zG2:UnR X (unaryOp .USub) (rU fun i=>.int (-i)):=unI fun _ _ _ _ _ q=>neg_int q
end
noncomputable def zCD:V->V->Bool
 | .non,.non=>true | .non,.int _=>true | .int _,.non=>true | .non,.bl _=>true | .bl _,.non=>true | .non,.str _=>true | .str _,.non=>true
 | .int _,.int _=>true | .bl _,.bl _=>true | .str _,.str _=>true | .byt _,.byt _=>true
 | .int _,.str _=>true | .str _,.int _=>true | .bl _,.str _=>true | .str _,.bl _=>true
 | _,_=>false
noncomputable def rEq:R2:=fun x y H Q=>zCD x y=true/\Q (.bl (decide (x=y))) H
noncomputable def rNe:R2:=fun x y H Q=>zCD x y=true/\Q (.bl (!decide (x=y))) H
theorem zE4 {i j:Int}:decide (V.int i=V.int j)=(i == j):=by
 rw[Bool.eq_iff_iff]
 simp
theorem zGp {i j:Bool}:decide (V.bl i=V.bl j)=(i == j):=by
 rw[Bool.eq_iff_iff]
 simp
theorem zEq {i j:Str}:decide (V.str i=V.str j)=(i == j):=by
 rw[Bool.eq_iff_iff]
 simp
theorem zEk {i j:Array UInt8}:decide (V.byt i=V.byt j)=(i.toList == j.toList):=by
 rw[Bool.eq_iff_iff]
 cases i
 cases j
 simp
section
variable {X:Cx}{a b c:Expr}{ta tb tc:TE}{pos:Pos}
theorem jE {pins:List (Addr×Obj)}{σ:St}{H:Hp}{s:Shared}{Q:VK}{k k':Bool} (I:Inv X pins σ H s) (q:Q (.bl k) H) (e:k=k'):EP X pins σ Q (.bool k') s:=by
 subst e
 exact⟨.bl k,H,I,rfl,q⟩
theorem zLk:OpR X (compareOp .Eq) rEq:=by
 intro pins s σ H x y v u Q I rx ry h
 obtain⟨hs,q⟩:=h
 cases x with
 | non =>
  cases rx
  cases y with
  | non=>cases ry;exact PySem.EqNone.eq_none_none (jE I q (by simp))
  | bl j=>cases ry;exact PySem.EqNone.eq_none_bool (jE I q (by simp))
  | int j=>obtain⟨t',rfl⟩:=ry;exact PySem.EqNone.eq_none_int (jE I q (by simp))
  | str j=>obtain⟨t',rfl⟩:=ry;exact PySem.EqNone.eq_none_str (jE I q (by simp))
  | _=>exact absurd (show false=true from hs) Bool.false_ne_true
 | bl i =>
  cases rx
  cases y with
  | non=>cases ry;exact PySem.EqNone.eq_bool_none (jE I q (by simp))
  | bl j=>cases ry;exact eq_bool (jE I q zGp)
  | str j=>obtain⟨t',rfl⟩:=ry;exact PySem.EqMixed.eq_bool_str (jE I q (by simp))
  | _=>exact absurd (show false=true from hs) Bool.false_ne_true
 | int i =>
  obtain⟨t,rfl⟩:=rx
  cases y with
  | non=>cases ry;exact PySem.EqNone.eq_int_none (jE I q (by simp))
  | int j=>obtain⟨t',rfl⟩:=ry;exact eq_int (jE I q zE4)
  | str j=>obtain⟨t',rfl⟩:=ry;exact PySem.EqMixed.eq_int_str (jE I q (by simp))
  | _=>exact absurd (show false=true from hs) Bool.false_ne_true
 | str i =>
  obtain⟨t,rfl⟩:=rx
  cases y with
  | non=>cases ry;exact PySem.EqNone.eq_str_none (jE I q (by simp))
  | bl j=>cases ry;exact PySem.EqMixed.eq_str_bool (jE I q (by simp))
  | int j=>obtain⟨t',rfl⟩:=ry;exact PySem.EqMixed.eq_str_int (jE I q (by simp))
  | str j=>obtain⟨t',rfl⟩:=ry;exact eq_str (jE I q zEq)
  | _=>exact absurd (show false=true from hs) Bool.false_ne_true
 | byt i =>
  obtain⟨t,rfl⟩:=rx
  cases y with
  | byt j=>obtain⟨t',rfl⟩:=ry;exact PySem.W.eq_bytes (jE I q zEk)
  | _=>exact absurd (show false=true from hs) Bool.false_ne_true
 | _=>cases y<;>exact absurd (show false=true from hs) Bool.false_ne_true
theorem zL4:OpR X (compareOp .NotEq) rNe:=by
 intro pins s σ H x y v u Q I rx ry h
 obtain⟨hs,q⟩:=h
 cases x with
 | non =>
  cases rx
  cases y with
  | non=>cases ry;exact PySem.EqNone.ne_none_none (jE I q (by simp))
  | bl j=>cases ry;exact PySem.EqNone.ne_none_bool (jE I q (by simp))
  | int j=>obtain⟨t',rfl⟩:=ry;exact PySem.EqNone.ne_none_int (jE I q (by simp))
  | str j=>obtain⟨t',rfl⟩:=ry;exact PySem.EqNone.ne_none_str (jE I q (by simp))
  | _=>exact absurd (show false=true from hs) Bool.false_ne_true
 | bl i =>
  cases rx
  cases y with
  | non=>cases ry;exact PySem.EqNone.ne_bool_none (jE I q (by simp))
  | bl j=>cases ry;exact ne_bool (jE I q (congrArg not zGp))
  | str j=>obtain⟨t',rfl⟩:=ry;exact PySem.EqMixed.ne_bool_str (jE I q (by simp))
  | _=>exact absurd (show false=true from hs) Bool.false_ne_true
 | int i =>
  obtain⟨t,rfl⟩:=rx
  cases y with
  | non=>cases ry;exact PySem.EqNone.ne_int_none (jE I q (by simp))
  | int j=>obtain⟨t',rfl⟩:=ry;exact ne_int (jE I q (congrArg not zE4))
  | str j=>obtain⟨t',rfl⟩:=ry;exact PySem.EqMixed.ne_int_str (jE I q (by simp))
  | _=>exact absurd (show false=true from hs) Bool.false_ne_true
 | str i =>
  obtain⟨t,rfl⟩:=rx
  cases y with
  | non=>cases ry;exact PySem.EqNone.ne_str_none (jE I q (by simp))
  | bl j=>cases ry;exact PySem.EqMixed.ne_str_bool (jE I q (by simp))
  | int j=>obtain⟨t',rfl⟩:=ry;exact PySem.EqMixed.ne_str_int (jE I q (by simp))
  | str j=>obtain⟨t',rfl⟩:=ry;exact ne_str (jE I q (congrArg not zEq))
  | _=>exact absurd (show false=true from hs) Bool.false_ne_true
 | byt i =>
  obtain⟨t,rfl⟩:=rx
  cases y with
  | byt j=>obtain⟨t',rfl⟩:=ry;exact PySem.W.ne_bytes (jE I q (congrArg not zEk))
  | _=>exact absurd (show false=true from hs) Bool.false_ne_true
 | _=>cases y<;>exact absurd (show false=true from hs) Bool.false_ne_true
theorem zL5:OpR X (compareOp .Lt) (rI0 fun i j=>.bl (decide (i < j))):=zH1 fun _ _ _ _ _ _ _ q=>lt_int q
theorem zLh:OpR X (compareOp .LtE) (rI0 fun i j=>.bl (decide (i <= j))):=zH1 fun _ _ _ _ _ _ _ q=>le_int q
theorem zLv:OpR X (compareOp .Gt) (rI0 fun i j=>.bl (decide (j < i))):=zH1 fun _ _ _ _ _ _ _ q=>gt_int q
theorem zG1:OpR X (compareOp .Lt) (fun x y H Q=>∃ i j,x=.str i/\y=.str j/\Q (.bl (decide (i.cps.toList < j.cps.toList))) H):=by
 intro pins s σ H x y v u Q I rx ry h
 obtain⟨i,j,rfl,rfl,q⟩:=h
 obtain⟨t,rfl⟩:=rx
 obtain⟨t',rfl⟩:=ry
 exact lt_str (jE I q rfl)
theorem zG4:OpR X (compareOp .In) (fun x y H Q=>∃ i j,x=.str i/\y=.str j/\Q (.bl (!(Builtin.Str.occurrences j i 0 j.length 1).isEmpty)) H):=by
 intro pins s σ H x y v u Q I rx ry h
 obtain⟨i,j,rfl,rfl,q⟩:=h
 obtain⟨t,rfl⟩:=rx
 obtain⟨t',rfl⟩:=ry
 exact in_str (jE I q rfl)
theorem zDt:OpR X (compareOp .NotIn) (fun x y H Q=>∃ i j,x=.str i/\y=.str j/\Q (.bl (!(!(Builtin.Str.occurrences j i 0 j.length 1).isEmpty))) H):=by
 intro pins s σ H x y v u Q I rx ry h
 obtain⟨i,j,rfl,rfl,q⟩:=h
 obtain⟨t,rfl⟩:=rx
 obtain⟨t',rfl⟩:=ry
 exact notIn_str (jE I q rfl)
theorem OpR.or {f:Value->Value->Sem Value}{r r':R2} (h:OpR X f r) (h':OpR X f r'):OpR X f (fun x y H Q=>r x y H Q\/r' x y H Q):=by
 intro pins s σ H x y v u Q I rx ry q
 rcases q with q | q
 ·exact h pins s σ H x y v u Q I rx ry q
 ·exact h' pins s σ H x y v u Q I rx ry q
theorem jk (b:Expr) {op:CmpOp} (h:op≠.In:=by decide) (h2:op≠.NotIn:=by decide):behindInMarks op b=false:=by
 have e1:(op == CmpOp.In)=false:=by cases op<;>first | rfl | exact absurd rfl h
 have e2:(op == CmpOp.NotIn)=false:=by cases op<;>first | rfl | exact absurd rfl h2
 cases b<;>simp[behindInMarks,e1,e2]
theorem zJL {op:CmpOp}{r:R2} (ho:OpR X (compareOp op) r) (ha:PE X a ta) (hb:PE X b tb) (hm:behindInMarks op b=false):PE X (.Compare a [op] [b] pos) (tOp r ta tb):=by
 intro pins s σ H Q I h
 exact wpAny_Compare1 (zIK ha hb I h fun v u s2 x y H2 I2 rx ry q=>ho pins s2 σ H2 x y v u Q I2 rx ry q) hm
noncomputable def zL2 (t:TE):TT:=fun σ H Q=>t σ H fun x H'=>∃ k,x=.bl k/\Q k H'
theorem zJQ {op:CmpOp}{r:R2} (ho:OpR X (compareOp op) r) (ha:PE X a ta) (hb:PE X b tb) (hm:behindInMarks op b=false):PT X (.Compare a [op] [b] pos) (zL2 (tOp r ta tb)):=by
 intro pins s σ H Q I h
 refine wpAny_isTrue_Compare1 (thn (ha pins s σ H _ I h) fun v s1 ⟨x,H1,I1,r1,q1⟩=>thn (hb pins s1 σ H1 _ I1 q1) fun u s2 ⟨y,H2,I2,r2,q2⟩ =>
  thn (ho pins s2 σ H2 x y v u _ I2 r1 r2 q2) fun c s3 ⟨z,H3,I3,r3,k,e,q3⟩=>?_) hm
 subst e
 cases r3
 exact wpAny_truthy_bool ⟨H3,I3,q3⟩
noncomputable def zKf (r r':R2) (ta tb tc:TE):TE:=fun σ H Q=>ta σ H fun x H1=>tb σ H1 fun y H2=>r x y H2 fun z H3=>∃ k,z=.bl k /\
 (if k=true then tc σ H3 fun w' H4=>r' y w' H4 Q else Q (.bl false) H3)
theorem zHD {op op':CmpOp}{r r':R2} (ho:OpR X (compareOp op) r) (ho':OpR X (compareOp op') r') (ha:PE X a ta) (hb:PE X b tb) (hc:PE X c tc)
  (hm:lastMarks [op,op'] [b,c]=false:=by with_unfolding_all rfl):PE X (.Compare a [op,op'] [b,c] pos) (zKf r r' ta tb tc):=by
 intro pins s σ H Q I h
 refine Compare_chain (thn (ha pins s σ H _ I h) fun v s1 ⟨x,H1,I1,r1,q1⟩=>chain_link (thn (hb pins s1 σ H1 _ I1 q1) fun u s2 ⟨y,H2,I2,r2,q2⟩ =>
  thn (ho pins s2 σ H2 x y v u _ I2 r1 r2 q2) fun d s3 ⟨z,H3,I3,r3,k,e,q3⟩=>?_)) hm
 subst e
 cases r3
 refine wpAny_truthy_bool ?_
 cases k with
 | false=>exact ite_ff ⟨.bl false,H3,I3,rfl,q3⟩
 | true=>exact ite_tt (chain_last (thn (hc pins s3 σ H3 _ I3 q3) fun w' s4 ⟨z',H4,I4,r4,q4⟩=>ho' pins s4 σ H4 y z' u w' Q I4 r2 r4 q4))
noncomputable def zLI (K:PySem.W.Frag) (x:V) (H:Hp) (k:Bool):Prop :=
 match x with
 | .non=>k=false
 | .bl b=>k=b
 | .int i=>k=(i != 0)
 | .str y=>y.length <= sizeLine/\k=((y.length:Int) != 0)
 | .byt y=>y.size <= sizeLine/\k=((y.size:Int) != 0)
 | .ref p=>(∃ xs,SqL K H p xs/\k = !xs.isEmpty)\/(∃ xs,SqT K H p xs/\k = !xs.isEmpty)\/∃ kvs,H p=some (.dK kvs)/\k = !kvs.isEmpty
 | _=>False
theorem zFL {κ:Type}{kvs:List (κ×V)}{vs:List (κ×Value)} (r:KV kvs vs):(!vs.isEmpty) = !kvs.isEmpty:=by
 cases r<;>rfl
theorem zBa {xs:List V}{its:List Value} (r:zX xs its):(!its.toArray.isEmpty) = !xs.isEmpty:=by
 cases r<;>simp
theorem QH:(sizeLine:Nat) < 2 ^ 63:=by rw[sizeLine_eq];decide
theorem zKY:zMm X (fun x H Q=>∃ k,zLI X.K x H k/\Q k H):=by
 intro pins s σ H x v Q I rx h
 obtain⟨k,e,q⟩:=h
 have hl:=QH
 have hs:sizeLine=16777216:=sizeLine_eq
 cases x with
 | non =>
  cases rx
  have e':k=false:=e
  subst e'
  exact truthy_none ⟨H,I,q⟩
 | bl b =>
  cases rx
  have e':k=b:=e
  subst e'
  exact wpAny_truthy_bool ⟨H,I,q⟩
 | int i =>
  obtain⟨t,rfl⟩:=rx
  have e':k=(i != 0):=e
  subst e'
  exact PySem.P.truthy_int ⟨H,I,q⟩
 | str y =>
  obtain⟨t,rfl⟩:=rx
  obtain⟨hy,e'⟩:y.length <= sizeLine/\k=((y.length:Int) != 0):=e
  subst e'
  exact PySem.P.truthy_str (by omega) ⟨H,I.tok _,q⟩
 | byt y =>
  obtain⟨t,rfl⟩:=rx
  obtain⟨hy,e'⟩:y.size <= sizeLine/\k=((y.size:Int) != 0):=e
  subst e'
  exact PySem.W.truthy_bytes (by omega) ⟨H,I.tok _,q⟩
 | ref p =>
  cases rx
  have e':(∃ xs,SqL X.K H p xs/\k = !xs.isEmpty)\/(∃ xs,SqT X.K H p xs/\k = !xs.isEmpty)\/∃ kvs,H p=some (.dK kvs)/\k = !kvs.isEmpty:=e
  rcases e' with ⟨xs,hx,e'⟩ | ⟨xs,hx,e'⟩ | ⟨kvs,hx,e'⟩
  ·subst e'
   obtain⟨its,r,pl,hz⟩:=I.list hx
   have hlen:=r.length
   exact wpAny_truthy_list pl.isList (by simp only[List.size_toArray];omega) ⟨H,I.tok _,by rw[zBa r];exact q⟩
  ·subst e'
   obtain⟨its,r,pl,hz⟩:=I.tuple hx
   have hlen:=r.length
   exact truthy_tuple pl (by simp only[List.size_toArray];omega) ⟨H,I.tok _,by rw[zBa r];exact q⟩
  ·subst e'
   obtain⟨hz,hS,vs,r,m⟩:kvs.length <= sizeLine/\(p == sysModules)=false/\∃ vs,KV kvs vs/\s.heap.DictOf (qG X.prog X.w) p vs:=I.hok p _ hx
   have hlen:kvs.length=vs.length:=Paired.length r
   exact wpAny_truthy_dict hS m (by omega) ⟨H,I.tok _,by rw[zFL r];exact q⟩
 | _=>exact (show False from e).elim
theorem zHu (ha:PE X a ta) (he:∀ whole,isTrue a X.env whole=(do let v <- whole;standAt a.pos;holding [v] (truthy v))) :
  PT X a (fun σ H Q=>ta σ H fun x H'=>∃ k,zLI X.K x H' k/\Q k H'):=by
 intro pins s σ H Q I h
 exact isTrue_plain (thn (ha pins s σ H _ I h) fun v s1 ⟨x,H1,I1,r1,q1⟩=>zKY pins s1 σ H1 x v Q I1 r1 q1) (he _)
theorem zFs:OpR X (binaryOp .Add) (fun x y H Q=>∃ i j,x=.str i/\y=.str j/\i.length+j.length <= sizeLine/\Q (.str (i++j)) H):=by
 intro pins s σ H x y v u Q I rx ry h
 obtain⟨i,j,rfl,rfl,hz,q⟩:=h
 obtain⟨t,rfl⟩:=rx
 obtain⟨t',rfl⟩:=ry
 exact wpAny_with_toks (n:=1) I.tk (add_str (fun t' tk htk=>⟨.str (i++j),H,I.tok _ htk,⟨_,rfl⟩,q⟩) hz)
theorem yw {x:V}{us:List Value} (r:zX [x] us):∃ u,us=[u]/\zc x u:=by
 cases r with
 | cons r1 r2=>cases r2;exact⟨_,rfl,r1⟩
theorem zLm {x y:V}{us:List Value} (r:zX [x,y] us):∃ u w',us=[u,w']/\zc x u/\zc y w':=by
 cases r with
 | cons r1 r2 =>
  cases r2 with
  | cons r3 r4=>cases r4;exact⟨_,_,rfl,r1,r3⟩
theorem zGA:jh X (.type "int") (fun xs H Q=>(∃ i,xs=[.int i]/\Q (.int i) H)\/∃ k,xs=[.bl k]/\Q (.int (if k then 1 else 0)) H):=by
 intro pins s σ H xs us Q I r h
 rcases h with ⟨i,rfl,q⟩ | ⟨k,rfl,q⟩
 ·obtain⟨u,rfl,t,rfl⟩:=yw r
  exact call_int_int ⟨.int i,H,I,⟨_,rfl⟩,q⟩
 ·obtain⟨u,rfl,r1⟩:=yw r
  cases r1
  exact call_int_bool ⟨.int (if k then 1 else 0),H,I.tok _,⟨_,rfl⟩,q⟩
theorem zEB:jh X (.type "str") (fun xs H Q=>∃ i,xs=[.int i]/\i.natAbs.log2 < 1920/\Q (.str (toString i)) H):=by
 intro pins s σ H xs us Q I r h
 obtain⟨i,rfl,hz,q⟩:=h
 obtain⟨u,rfl,t,rfl⟩:=yw r
 exact PySem.P.str_of_int hz ⟨.str _,H,I.tok _,⟨_,rfl⟩,q⟩
end
end L2
namespace L2
open PySem PySem.Spec PyProof.Rows
structure zAs (h:Heap) (x dx C:Addr) (mA:Str->Option Value):Prop where
 obj:h.get? x=some (PySem.W.instObj C dx)
 ns:h.Ns1 dx mA
 ne:dx≠x
theorem zGW {h:Heap}{dx:Addr}{mA:Str->Option Value} (n:h.Ns1 dx mA):∃ od,h.get? dx=some od/\∀ name,PySem.W.lookIn name od=some (mA name):=by
 obtain⟨o,es,ep,ho,hd,hk,_,hm⟩:=n
 refine⟨o,ho,fun name=>?_⟩
 have e:=hm name
 unfold nsFind findBy at e
 rw[<- Array.find?_toList] at e
 unfold PySem.W.lookIn
 rw[hd]
 dsimp only
 split
 ·rename_i y q
  rw[q] at e
  exact congrArg some e
 ·rename_i q
  rw[q] at e
  have a:es.toList.any (·.refKey)=false:=by
   rw[List.any_eq_false]
   intro y hy
   obtain⟨z,t,hkey⟩:=hk y (Array.mem_toList_iff.mp hy)
   simp[DictEntry.refKey,hkey]
  have a':¬ es.toList.any (·.refKey)=true:=by rw[a];exact Bool.false_ne_true
  rw[if_neg a']
  exact congrArg some e
theorem zAs.look {h:Heap}{x dx C:Addr}{mA:Str->Option Value} (I:zAs h x dx C mA):∃ od,PySem.W.InstAt h x (PySem.W.instObj C dx) C (some od)/\∀ name,PySem.W.lookIn name od=some (mA name) :=
 let ⟨od,ho,hl⟩:=zGW I.ns
 ⟨od,⟨I.obj,rfl,rfl,ho⟩,hl⟩
section
variable {prog:Program}{w:World}{A:Around}{E:Value->Shared->Prop}{s:Shared}{K:PySem.W.Frag}{x dx C f:Addr}{mA:Str->Option Value}{name:Str}{v:Value}
theorem zJN {expr:Bool}{Q:Value->Shared->Prop} (X:K.In s.heap) (I:zAs s.heap x dx C mA) (hg:PySem.W.plainGet K C name=true) (hh:PySem.W.hasDictIn K C=true)
  (ha:PySem.W.findIn K (.ref C) name=some none) (hv:mA name=some v) (hv':PySem.W.handedIn v=true) (h:Q v { s with toks:=s.toks+1 }) :
  wpAny (model prog w) A (getAttr (.ref x) name expr) Q E s:=by
 obtain⟨od,J,hl⟩:=I.look
 exact PySem.W.get_value X J (PySem.W.plainGet_of hg).1 (PySem.W.findObj_own hh ha rfl (by rw[hl,hv])) hv' h
theorem zHv {pl:Sem Bool}{Q:Value×List Value->Shared->Prop} (X:K.In s.heap) (I:zAs s.heap x dx C mA) (hg:PySem.W.plainGet K C name=true)
  (hf:PySem.W.findIn K (.ref C) name=some (some (.ref f))) (ht:PySem.W.isFn K (.ref f)=true) (hv:mA name=none) (h:Q (.ref f,[.ref x]) s) :
  wpAny (model prog w) A (getMethod (.ref x) name pl) Q E s:=by
 obtain⟨od,J,hl⟩:=I.look
 exact PySem.W.method_fn X J (PySem.W.plainGet_of hg).1 (PySem.W.plainGet_of hg).2 hf (beq_iff_eq.mp ht) (by show (PySem.W.lookIn name od).map (·.isSome)=some false;rw[hl,hv];rfl) h
theorem zI7 {ns:List Str}{Q:Unit->Shared->Prop} (X:K.In s.heap) (I:zAs s.heap x dx C mA)
  (hs:PySem.W.findIn K (.ref C) "__setattr__" = some (some (.builtin "object.__setattr__"))) (hp:PySem.W.plainOver K C=true) (ht:PySem.W.takerIn K C name=some none) (hh:PySem.W.hasDictIn K C=true)
  (hw:PySem.Within mA ns) (hsz:ns.length <= sizeLine)
  (h:∀ h',zAs h' x dx C (fun y=>if y=name then some v else mA y)->Heap.SameBut dx s.heap h'->Q () { s with heap:=h',toks:=s.toks+2 }) :
  wpAny (model prog w) A (setAttr (.ref x) name v) Q E s:=by
 obtain⟨od,J,hl⟩:=I.look
 refine PySem.W.set_plain X J hs (PySem.W.osa_open (s:={ s with toks:=s.toks+1 }) (r:=none) X J hp ht fun b=>?_)
 obtain⟨cd,hc,hd'⟩:=PySem.W.any_some hh
 have hx:s.heap.get? x=some ⟨.ref C,some dx,.plain,#[]⟩:=I.obj
 refine wpAny_bind (wpAny_pure (wpAny_bind (wpAny_bind (wpAny_loadPart hx (wpAny_bind (PySem.W.Looks.here (s:={ s with toks:=s.toks+1 }) (PySem.W.looks_clsIn X hc) ?_))))))
 rw[hd']
 refine wpAny_pure (a:=some dx) (wpAny_bind (wpAny_pure (wpAny_bind ?_)))
 refine wpAny_nsSet1 (s:={ s with toks:=s.toks+1 }) I.ns fun h' hn2 hs2=>?_
 obtain⟨oD,esD,epD,hoD,hdD,hcD⟩:=hn2.count (PySem.Within.cons name v hw)
 refine wpAny_bind (wpAny_lookBehind hoD (by rw[hdD];exact pastItsLine_dict (Nat.le_trans hcD (by rw[List.length_cons];omega))) ?_)
 exact wpAny_pure (h _ ⟨(hs2.2 _ (Ne.symm I.ne)).trans I.obj,hn2,I.ne⟩ hs2)
theorem zHI {R:Result->Shared->Prop}{vs:List Value}{kw:List (Str×Value)} (X:K.In s.heap) (hm:PySem.W.makesIn K C=true)
  (hi:PySem.W.findIn K (.ref C) "__init__" = some (some (.ref f))) (hf:PySem.W.typeIn K (.ref f)=some (.type "function"))
  (h:codeAny (model prog w) (A.under (.builtin "type.__call__" ⟨.ref C::vs,kw⟩)) (.call (.ref f) ⟨.ref (s.heap.objs.size+1)::vs,kw⟩) (PySem.W.InitBack (s.heap.objs.size+1) R)
   { s with heap:=(s.heap.push PySem.W.emptyDict).push (PySem.W.instObj C s.heap.objs.size) }) :
  codeAny (model prog w) A (.call (.ref C) ⟨vs,kw⟩) R s:=by
 obtain⟨hh,g,d,t,os⟩:=s
 exact PySem.W.make_core (PySem.W.makes_of X hm) (PySem.W.looks_findIn X hi) (fun self=>PySem.W.bind_fn X self hf) (.inl rfl) h
end
noncomputable def qV (f:Str) (v:V):List (Str×V)->List (Str×V)
 | []=>[(f,v)]
 | (g,x)::r=>if g=f then (g,v)::r else (g,x)::qV f v r
theorem Qr (f g:Str) (v:V):∀ fs:List (Str×V),(qV f v fs).lookup g=if g=f then some v else fs.lookup g
 | []=>by
  show List.lookup g [(f,v)]=_
  by_cases h:g=f
  ·have hb:(g == f)=true:=beq_iff_eq.mpr h
   simp only[List.lookup,hb,if_pos h]
  ·have hb:(g == f)=false:=beq_eq_false_iff_ne.mpr h
   simp only[List.lookup,hb,if_neg h]
 | (k,x)::r=>by
  have ih:=Qr f g v r
  rw[show qV f v ((k,x)::r)=(if k=f then (k,v)::r else (k,x)::qV f v r) from rfl]
  by_cases hk:k=f
  ·rw[if_pos hk]
   by_cases h:g=k
   ·have hb:(g == k)=true:=beq_iff_eq.mpr h
    simp only[List.lookup,hb,if_pos (h.trans hk)]
   ·have hb:(g == k)=false:=beq_eq_false_iff_ne.mpr h
    simp only[List.lookup,hb,if_neg (fun e:g=f=>h (e.trans hk.symm))]
  ·rw[if_neg hk]
   by_cases h:g=k
   ·have hb:(g == k)=true:=beq_iff_eq.mpr h
    simp only[List.lookup,hb,if_neg (fun e:g=f=>hk (h.symm.trans e))]
   ·have hb:(g == k)=false:=beq_eq_false_iff_ne.mpr h
    simp only[List.lookup,hb]
    exact ih
theorem zAE (f:Str) (v:V):∀ fs:List (Str×V),f∈(qV f v fs).map (·.1)/\∀ g,g∈fs.map (·.1)->g∈(qV f v fs).map (·.1)
 | []=>⟨by simp[qV],fun g h=>by simp at h⟩
 | (k,x)::r=>by
  obtain⟨i1,i2⟩:=zAE f v r
  rw[show qV f v ((k,x)::r)=(if k=f then (k,v)::r else (k,x)::qV f v r) from rfl]
  by_cases hk:k=f
  ·rw[if_pos hk]
   subst hk
   exact⟨by simp,fun g h=>by simpa using h⟩
  ·rw[if_neg hk]
   refine⟨?_,fun g h=>?_⟩
   ·rw[List.map_cons]
    exact List.mem_cons_of_mem _ i1
   ·rw[List.map_cons] at h ⊢
    rcases List.mem_cons.mp h with e | e
    ·exact List.mem_cons.mpr (.inl e)
    ·exact List.mem_cons_of_mem _ (i2 g e)
theorem zAY (f:Str) (v:V):∀ fs:List (Str×V),(qV f v fs).length <= fs.length+1
 | []=>by simp[qV]
 | (k,x)::r=>by
  have ih:=zAY f v r
  rw[show qV f v ((k,x)::r)=(if k=f then (k,v)::r else (k,x)::qV f v r) from rfl]
  by_cases hk:k=f
  ·rw[if_pos hk,List.length_cons,List.length_cons];omega
  ·rw[if_neg hk,List.length_cons,List.length_cons];omega
theorem y8.some_of {v:V}{o:Option Value} (r:y8 (some v) o):∃ u,o=some u/\zc v u:=by
 cases o with
 | none=>exact (show False from r).elim
 | some u=>exact⟨u,rfl,r⟩
theorem y8.none_of {o:Option Value} (r:y8 none o):o=none:=by
 cases o with
 | none=>rfl
 | some u=>exact (show False from r).elim
theorem zF5 {v:V}{u:Value} (r:zc v u):PySem.W.handedIn u=true:=by
 cases v with
 | non=>cases (show u=Value.none from r);rfl
 | bl b=>cases (show u=Value.bool b from r);rfl
 | int i=>obtain⟨t,e⟩:=(show ∃ t,u=Value.int i t from r);cases e;rfl
 | str x=>obtain⟨t,e⟩:=(show ∃ t,u=Value.str x t from r);cases e;rfl
 | byt b=>obtain⟨t,e⟩:=(show ∃ t,u=Value.bytes b t from r);cases e;rfl
 | flt b=>obtain⟨t,e⟩:=(show ∃ t,u=Value.float b t from r);cases e;rfl
 | ref a=>cases (show u=Value.ref a from r);rfl
 | ty n=>cases (show u=Value.type n from r);rfl
section
variable {P:Program}{w:World}{H H':Hp}{h h':Heap}{a C dx:Addr}{fs fs':List (Str×V)}
theorem zAM (hok:HOk P w H h) (e:H a=some (.ins C dx fs)):∃ mA,zAs h a dx C mA/\(∀ f,y8 (fs.lookup f) (mA f))/\PySem.Within mA (fs.map (·.1))/\fs.length <= 1000/\H dx=some (.own a):=by
 obtain⟨d,z,ne,ob,mA,n,r,q⟩:=(show jm P w H h a (.ins C dx fs) from hok a _ e)
 exact⟨mA,⟨ob,n,ne⟩,r,q,z,d⟩
end
structure Cls (K:PySem.W.Frag) (C:Addr):Prop where
 pg:PySem.W.plainGet K C Str.empty=true
 hd:PySem.W.hasDictIn K C=true
 po:PySem.W.plainOver K C=true
 sa:PySem.W.findIn K (.ref C) "__setattr__" = some (some (.builtin "object.__setattr__"))
theorem Cls.get {K:PySem.W.Frag}{C:Addr} (c:Cls K C) (f:Str):PySem.W.plainGet K C f=true:=c.pg
noncomputable def QI (K:PySem.W.Frag) (C:Addr) (f:Str):Prop:=PySem.W.findIn K (.ref C) f=some none
theorem QI.taker {K:PySem.W.Frag}{C:Addr}{f:Str} (n:QI K C f):PySem.W.takerIn K C f=some none:=by
 unfold PySem.W.takerIn
 rw[show PySem.W.findIn K (.ref C) f=some none from n]
 rfl
structure Con (K:PySem.W.Frag) (C:Addr) (f:Str) (v:V) (u:Value):Prop where
 at_:PySem.W.findIn K (.ref C) f=some (some u)
 rel:zc v u
 get:PySem.W.specialIn K u "__get__" = some none
 cp:PySem.W.copiedNames.contains f=false
structure zFY (K:PySem.W.Frag) (C:Addr) (m:Str) (f:Addr):Prop where
 at_:PySem.W.findIn K (.ref C) m=some (some (.ref f))
 fn:PySem.W.isFn K (.ref f)=true
 kp:PySem.W.keepIn K (.ref f)=true
section
variable {X:Cx}{pins:List (Addr×Obj)}{σ:St}{H:Hp}{s:Shared}{a C dx:Addr}{fs:List (Str×V)}{f:Str}{v:V}{A:Around}{E:Value->Shared->Prop}
theorem zFX {b:Bool}{Q:Value->Shared->Prop} (I:Inv X pins σ H s) (e:H a=some (.ins C dx fs)) (c:Cls X.K C) (n:QI X.K C f) (l:fs.lookup f=some v)
  (h:∀ u s',Inv X pins σ H s'->zc v u->Q u s'):wpAny (model X.prog X.w) A (getAttr (.ref a) f b) Q E s:=by
 obtain⟨mA,O,r,_,_,_⟩:=zAM I.hok e
 obtain⟨u,hu,ru⟩:=y8.some_of (v:=v) (o:=mA f) (by rw[<- l];exact r f)
 exact zJN I.kIn O (c.get f) c.hd n hu (zF5 ru) (h u _ (I.tok _) ru)
theorem zBd {m:Str}{g:Addr}{pl:Sem Bool}{Q:Value×List Value->Shared->Prop} (I:Inv X pins σ H s) (e:H a=some (.ins C dx fs)) (c:Cls X.K C) (k:zFY X.K C m g) (l:fs.lookup m=none)
  (h:Q (.ref g,[.ref a]) s):wpAny (model X.prog X.w) A (getMethod (.ref a) m pl) Q E s:=by
 obtain⟨mA,O,r,_,_,_⟩:=zAM I.hok e
 have hn:mA m=none:=y8.none_of (by rw[<- l];exact r m)
 exact zHv I.kIn O (c.get m) k.at_ k.fn hn h
theorem zFD {y:V}{u:Value}{Q:Unit->Shared->Prop} (I:Inv X pins σ H s) (e:H a=some (.ins C dx fs)) (c:Cls X.K C) (n:QI X.K C f) (hl:fs.length < 1000) (ry:zc y u)
  (h:∀ s',Inv X pins σ (upd H a (.ins C dx (qV f y fs))) s'->Q () s'):wpAny (model X.prog X.w) A (setAttr (.ref a) f u) Q E s:=by
 obtain⟨mA,O,r,wi,_,ho⟩:=zAM I.hok e
 have hz:(fs.map (·.1)).length <= sizeLine:=by rw[List.length_map,sizeLine_eq];omega
 refine zI7 I.kIn O c.sa c.po n.taker c.hd wi hz fun h' O' sb=>h _ ?_
 have hd:∃ o,h'.get? dx=some o:=let ⟨o,_,_,e',_⟩:=O'.ns;⟨o,e'⟩
 refine I.write (x:=a) (e:=dx) (by rw[e];exact True.intro) (.inr ho) (fun b q hb z=>(sb.2 b hb).trans z) hd ?_
 refine⟨by rw[jA O.ne];exact ho,?_,O.ne,O'.obj,_,O'.ns,fun g=>?_,fun g hg=>?_⟩
 ·have:=zAY f y fs;omega
 ·show y8 ((qV f y fs).lookup g) (if g=f then some u else mA g)
  rw[Qr]
  by_cases q:g=f
  ·rw[if_pos q,if_pos q];exact ry
  ·rw[if_neg q,if_neg q];exact r g
 ·by_cases q:g=f
  ·rw[q];exact (zAE f y fs).1
  ·refine (zAE f y fs).2 g (wi g fun z=>hg ?_)
   show (if g=f then some u else mA g)=none
   rw[if_neg q];exact z
theorem Inv.made (I:Inv X pins σ H s):Inv X pins σ (upd (upd H s.heap.objs.size (.own (s.heap.objs.size+1))) (s.heap.objs.size+1) (.ins C s.heap.objs.size []))
  { s with heap:=(s.heap.push PySem.W.emptyDict).push (PySem.W.instObj C s.heap.objs.size) }:=by
 have e1:(s.heap.push PySem.W.emptyDict).get? s.heap.objs.size=some PySem.W.emptyDict:=Heap.get?_push_size s.heap rfl
 have e2:((s.heap.push PySem.W.emptyDict).push (PySem.W.instObj C s.heap.objs.size)).get? (s.heap.objs.size+1)=some (PySem.W.instObj C s.heap.objs.size):=by
  have:=Heap.get?_push_size (s.heap.push PySem.W.emptyDict) (o:=PySem.W.instObj C s.heap.objs.size) rfl
  rwa [Heap.size_push] at this
 have e3:(s.heap.push PySem.W.emptyDict).Ns s.heap.objs.size (fun _=>none):=⟨PySem.W.emptyDict,#[],_,e1,rfl,(fun e he=>absurd he (by simp)),fun _=>rfl⟩
 have I1:=I.laid (a:=s.heap.objs.size) (o:=.own (s.heap.objs.size+1)) (h':=s.heap.push PySem.W.emptyDict) (t':=s.toks) (fun b u q=>Heap.get?_push_of_some _ q) (Nat.le_refl _) ⟨_,e1⟩
 refine I1.laid (a:=s.heap.objs.size+1) (o:=.ins C s.heap.objs.size []) (t':=s.toks) (fun b u q=>Heap.get?_push_of_some _ q) (Nat.le_of_eq (Heap.size_push _ _)) ?_
 have ne:s.heap.objs.size≠s.heap.objs.size+1:=Nat.ne_of_lt (Nat.lt_succ_self _)
 refine⟨by rw[jA ne,jX],Nat.zero_le _,ne,e2,fun _=>none,(Heap.Ns1.of_empty e3).at fun o q=>Heap.get?_push_of_some _ q,fun _=>True.intro,fun y hy=>absurd rfl hy⟩
theorem zJA {prog:Program}{w:World}{env:Env}{e:Expr}{f:Str}{pos:Pos}{s:Shared}{Q:Value->Shared->Prop} (hb:attributeBase e f env (eval e env)=eval e env)
  (h:wpAny (model prog w) A (eval e env) (fun o s₁=>wpAny (model prog w) A (getAttr o f true) Q E s₁) E s):wpAny (model prog w) A (eval (.Attribute e f pos) env) Q E s :=
 Attribute_any_ h (by rw[arm_eval_Attribute,hb])
end
noncomputable def zMw (K:PySem.W.Frag) (ta:TE) (f:Str):TE:=fun σ H Q=>ta σ H fun x H1=>∃ a C dx fs v,x=.ref a/\H1 a=some (.ins C dx fs)/\Cls K C/\QI K C f/\fs.lookup f=some v/\Q v H1
noncomputable def zCA (K:PySem.W.Frag) (ta tv:TE) (f:Str):TS:=fun D σ H=>tv σ H fun y H1=>ta σ H1 fun x H2=>∃ a C dx fs,x=.ref a/\H2 a=some (.ins C dx fs)/\Cls K C/\QI K C f/\fs.length < 1000 /\
 D.nx σ (upd H2 a (.ins C dx (qV f y fs)))
section
variable {X:Cx}{o e value:Expr}{f:Str}{pos pos' tpos:Pos}{ta tv:TE}
theorem zJ9 (he:PE X e ta) (hb:attributeBase e f X.env (eval e X.env)=eval e X.env):PE X (.Attribute e f pos) (zMw X.K ta f):=by
 intro pins s σ H Q I h
 refine zJA hb (thn (he pins s σ H _ I h) fun u s1 ⟨x,H1,I1,rx,a,C,dx,fs,v,ex,ea,c,n,l,q⟩=>?_)
 subst ex
 obtain rfl:u=Value.ref a:=rx
 exact zFX I1 ea c n l fun u' s2 I2 ru=>⟨v,H1,I2,ru,q⟩
theorem zKn (ha:PE X o ta) (hv:PE X value tv) (hs:swapsWith value (some (.Attribute o f pos')) pos.line X.env=pure false):PS X (.Assign [.Attribute o f pos'] value pos) (zCA X.K ta tv f):=by
 intro pins s σ H D I h
 refine plainObj_wpAny_Assign_Attribute (thn (hv pins s σ H _ I h) fun u s1 ⟨y,H1,I1,ry,q⟩=>thn (ha pins s1 σ H1 _ I1 q) fun ov s2 ⟨x,H2,I2,rx,a,C,dx,fs,ex,ea,c,n,l,q2⟩=>?_) hs
 subst ex
 obtain rfl:ov=Value.ref a:=rx
 exact zFD I2 ea c n l ry fun s3 I3=>⟨σ,_,I3,q2⟩
end
section
variable {X:Cx}{pins:List (Addr×Obj)}{σ:St}{H:Hp}{s:Shared}{A:Around}{E:Value->Shared->Prop}{Q:Value->Shared->Prop}{c:Value}{b:Bool}
inductive Zc (K:PySem.W.Frag) (H:Hp):V->Value->Prop where
 | non:Zc K H .non (.type "NoneType")
 | bl (x:Bool):Zc K H (.bl x) (.type "bool")
 | int (i:Int):Zc K H (.int i) (.type "int")
 | str (x:Str):Zc K H (.str x) (.type "str")
 | flt (x:UInt64):Zc K H (.flt x) (.type "float")
 | lst {a:Addr}{xs:List V} (e:H a=some (.lst xs)):Zc K H (.ref a) (.type "list")
 | frz {a:Addr}{o:Obj}{xs:List V} (e:H a=some (.frz o (.lst xs))):Zc K H (.ref a) (.type "list")
 | tup {a:Addr}{xs:List V} (e:H a=some (.tup xs)):Zc K H (.ref a) (.type "tuple")
 | dK {a:Addr}{kvs:List (Key×V)} (e:H a=some (.dK kvs)):Zc K H (.ref a) (.type "dict")
 | dT {a:Addr}{kvs:List (List Key×V)} (e:H a=some (.dT kvs)):Zc K H (.ref a) (.type "dict")
 | ins {a C dx:Addr}{fs:List (Str×V)} (e:H a=some (.ins C dx fs)) (cl:Cls K C) (ha:PySem.W.findIn K (.ref C) "__class__" = some (some (.builtin "object.__class__")))
   (hn:PySem.W.specialIn K (.builtin "object.__class__") "__get__" = some (some (.builtin "getset_descriptor.__get__"))) (htk:PySem.W.takesIn K (.builtin "object.__class__")=some true)
   (hm:PySem.W.mroIn K C (.type "object")=some true):Zc K H (.ref a) (.ref C)
theorem zGd {x:V}{u t:Value} (I:Inv X pins σ H s) (rx:zc x u) (ty:Zc X.K H x t) (e:PySem.W.kitOne X.K t c=some b) (h:∀ tk,Q (.bool b) { s with toks:=tk }) :
  wpAny (model X.prog X.w) A (call (.builtin "isinstance") [u,c]) Q E s:=by
 cases ty with
 | non=>cases (show u=Value.none from rx);exact PySem.W.kia_one PySem.W.kitx_none I.kIn True.intro e (fun z=>nomatch z) h
 | bl y=>cases (show u=Value.bool y from rx);exact PySem.W.kia_one PySem.W.kitx_bool I.kIn True.intro e (fun z=>nomatch z) h
 | int i=>obtain⟨t,q⟩:=(show ∃ t,u=Value.int i t from rx);cases q;exact PySem.W.kia_one PySem.W.kitx_int I.kIn True.intro e (fun z=>nomatch z) h
 | str y=>obtain⟨t,q⟩:=(show ∃ t,u=Value.str y t from rx);cases q;exact PySem.W.kia_one PySem.W.kitx_str I.kIn True.intro e (fun z=>nomatch z) h
 | flt y=>obtain⟨t,q⟩:=(show ∃ t,u=Value.float y t from rx);cases q;exact PySem.W.kia_one PySem.W.kitx_float I.kIn True.intro e (fun z=>nomatch z) h
 | @lst a xs ea =>
  cases (show u=Value.ref a from rx)
  obtain⟨_,_,n,_,h1⟩:=(show jm X.prog X.w H s.heap a (.lst xs) from I.hok a _ ea)
  exact PySem.W.kia_one PySem.W.kitx_list I.kIn ⟨_,h1,rfl⟩ e (fun z=>nomatch z) h
 | @frz a ob xs ea =>
  cases (show u=Value.ref a from rx)
  obtain⟨_,_,_,n,_,h1⟩:=(show jm X.prog X.w H s.heap a (.frz ob (.lst xs)) from I.hok a _ ea)
  exact PySem.W.kia_one PySem.W.kitx_list I.kIn ⟨_,h1,rfl⟩ e (fun z=>nomatch z) h
 | @tup a xs ea =>
  cases (show u=Value.ref a from rx)
  obtain⟨_,_,_,p⟩:=(show jm X.prog X.w H s.heap a (.tup xs) from I.hok a _ ea)
  obtain⟨o,h1,h2,_⟩:=p
  exact PySem.W.kia_one PySem.W.kitx_tuple I.kIn ⟨o,h1,h2⟩ e (fun z=>nomatch z) h
 | @dK a kvs ea =>
  cases (show u=Value.ref a from rx)
  obtain⟨_,_,vs,_,p⟩:=(show jm X.prog X.w H s.heap a (.dK kvs) from I.hok a _ ea)
  obtain⟨o,es,ep,h1,h2,_⟩:=p
  exact PySem.W.kia_one PySem.W.kitx_dict I.kIn ⟨o,h1,h2.1⟩ e (fun z=>nomatch z) h
 | @dT a kvs ea =>
  cases (show u=Value.ref a from rx)
  obtain⟨_,_,xs,_,o,es,ep,h1,h2,_⟩:=(show jm X.prog X.w H s.heap a (.dT kvs) from I.hok a _ ea)
  exact PySem.W.kia_one PySem.W.kitx_dict I.kIn ⟨o,h1,h2.1⟩ e (fun z=>nomatch z) h
 | @ins a C dx fs ea cl ha hn htk hm =>
  cases (show u=Value.ref a from rx)
  obtain⟨mA,O,_⟩:=zAM I.hok ea
  obtain⟨od,J,_⟩:=O.look
  exact PySem.W.kia_one (PySem.W.kitx_own (cl.get _) cl.hd ha hn htk hm) I.kIn J e (fun z=>nomatch z) h
end
end L2
namespace L2
open PySem PySem.Spec PyProof.Rows
structure zt (k:Nat) (A:Around):Prop where
 hd:A.handled=none
 dp:A.depth+3 * k+5 < recursionLimit
 un:A.units+16 * k+200 < cLine
theorem zt.mono {j k:Nat}{A:Around} (r:zt k A) (h:j <= k):zt j A:=⟨r.hd,by have:=r.dp;omega,by have:=r.un;omega⟩
theorem zt.deeper {k:Nat}{A:Around} (r:zt (k+1) A) (env:Env):zt k (A.deeper env) :=
 ⟨r.hd,by have:=r.dp;show A.depth+1+3 * k+5 < _;omega,by have:=r.un;show A.units+3+16 * k+200 < _;omega⟩
theorem zFd {A:Around}{C:Addr}{us:List Value}{kw:List (Str×Value)}:(A.under (.builtin "type.__call__" ⟨.ref C::us,kw⟩)).depth=A.depth+1:=by
 first | rfl | simp[Around.under,Code.weight,Code.isCreation,Code.isGuard,Code.isCaller,Code.frames,Code.isFrame,guardIds]
theorem zE7 {A:Around}{C:Addr}{us:List Value}{kw:List (Str×Value)}:(A.under (.builtin "type.__call__" ⟨.ref C::us,kw⟩)).units=A.units+1:=by
 first | rfl | simp[Around.under,Code.cUnits,Code.frames,Code.isFrame]
theorem zt.make {k:Nat}{A:Around} (r:zt (k+1) A) (C:Addr) (us:List Value) (kw:List (Str×Value)):zt k (A.under (.builtin "type.__call__" ⟨.ref C::us,kw⟩)) :=
 ⟨r.hd,by have:=r.dp;rw[zFd];omega,by have:=r.un;rw[zE7];omega⟩
theorem zt.depth {k:Nat}{A:Around} (r:zt k A):A.depth < recursionLimit:=by have:=r.dp;omega
theorem zt.units {k:Nat}{A:Around} (r:zt k A):A.units+64 < cLine:=by have:=r.un;omega
theorem zt.units0 {k:Nat}{A:Around} (r:zt k A):A.units < cLine:=by have:=r.un;omega
noncomputable def zKj:TA:=fun _ H Q=>Q [] H
noncomputable def zLz (ta:TE) (tr:TA):TA:=fun σ H Q=>ta σ H fun x H1=>tr σ H1 fun xs H2=>Q (x::xs) H2
section
variable {X:Cx}{e:Expr}{es:List Expr}{te:TE}{t:TA}{pos:Pos}
theorem zEF:PA X [] zKj:=fun _ _ _ _ H Q I h=>Calls.spliced_nil ⟨[],H,I,.nil,h⟩
theorem zCL (ha:PE X e te) (hr:PA X es t) (hs:starEach (e::es) X.env=(false,eval e X.env)::starEach es X.env:=by rfl):PA X (e::es) (zLz te t):=by
 intro pos pins s σ H Q I h
 rw[hs]
 show wpAny _ _ (spliced ((false,eval e X.env)::backTo pos (starEach es X.env))) _ _ s
 refine Calls.spliced_cons (thn (ha pins s σ H _ I h) fun u s1 ⟨x,H1,I1,r1,q1⟩=>?_)
 exact thn (hr pos pins s1 σ H1 _ I1 q1) fun us s2 ⟨xs,H2,I2,r2,q2⟩=>⟨x::xs,H2,I2,.cons r1 r2,q2⟩
noncomputable def zMa (t:TA):TE:=fun σ H Q=>t σ H fun xs H1=>xs.length <= sizeLine/\∀ p,H1 p=none->Q (.ref p) (upd H1 p (.tup xs))
noncomputable def zMX (t:TA):TE:=fun σ H Q=>t σ H fun xs H1=>xs.length <= sizeLine/\∀ p,H1 p=none->Q (.ref p) (upd H1 p (.lst xs))
theorem zKQ {x1} (h:PA X es t):PE X (.Tuple es x1 pos) (zMa t):=by
 intro pins s σ H Q I hq
 refine wpAny_Tuple_spliced (thn (h pos pins s σ H _ I hq) fun us s1 ⟨xs,H1,I1,r,z,q⟩=>⟨by rw[<- r.length];exact z,?_⟩)
 have hf:H1 s1.heap.objs.size=none:=I1.hok.fresh (Nat.le_refl _)
 refine⟨.ref s1.heap.objs.size,upd H1 s1.heap.objs.size (.tup xs),I1.laid (t':=s1.toks) (fun b u e=>Heap.get?_push_of_some _ e) (Nat.le_refl _) ?_,rfl,q _ hf⟩
 exact⟨z,us,r,⟨_,Heap.get?_push_size _ rfl,rfl,_,rfl⟩⟩
theorem zKs (h:PA X es t):PE X (.List es pos) (zMX t):=by
 intro pins s σ H Q I hq
 refine wpAny_List_spliced (thn (h pos pins s σ H _ I hq) fun us s1 ⟨xs,H1,I1,r,z,q⟩=>⟨by rw[<- r.length];exact z,?_⟩)
 have hf:H1 s1.heap.objs.size=none:=I1.hok.fresh (Nat.le_refl _)
 refine⟨.ref s1.heap.objs.size,upd H1 s1.heap.objs.size (.lst xs),I1.laid (t':=s1.toks) (fun b u e=>Heap.get?_push_of_some _ e) (Nat.le_refl _) ?_,rfl,q _ hf⟩
 exact⟨z,us,0,r,Heap.get?_push_size _ rfl⟩
end
noncomputable abbrev Sp:=List V->Hp->VK->XK->Prop
noncomputable abbrev CXT:=List Env->Hp->Shared->XK->Value->Shared->Prop
structure zAg (P:Program) (w:World) (K:PySem.W.Frag) (mg:Str->Option Value) (base:Heap) (A:Around) (outer:List Env) (s:Shared) (H:Hp):Prop where
 frames:A.frames=some outer
 mod:Mod K mg base
 bs:∀ b o,base.get? b=some o->s.heap.get? b=some o/\H b=none
 bsz:base.objs.size <= s.heap.objs.size
 funs:s.heap.FunFrames base outer
 frf:∀ b∈frs outer,H b=none
 hok:HOk P w H s.heap
 bare:AllBare s.gens
noncomputable def CE (outer:List Env) (P:Program) (w:World) (H:Hp) (s:Shared) (Q:VK) (u:Value) (s':Shared):Prop :=
 ∃ v H',s'.os=s.os/\AllBare s'.gens/\Un (frs outer) [] H H' s.heap s'.heap/\HOk P w H' s'.heap/\zc v u/\Q v H'
noncomputable def CR (CX:CXT) (outer:List Env) (P:Program) (w:World) (H:Hp) (s:Shared) (Q:VK) (E:XK) (r:Result) (s':Shared):Prop :=
 match r with
 | .ok (.ret u)=>CE outer P w H s Q u s'
 | .ok _=>False
 | .error e=>CX outer H s E e s'
structure jd (P:Program) (w:World) (K:PySem.W.Frag) (mg:Str->Option Value) (base:Heap) (CX:CXT) (k:Nat) (f:Addr) (fd:FuncData) (ps:List Str) (sp:Sp):Prop where
 len:∀ vs H Q E,sp vs H Q E->vs.length=ps.length
 run:∀ (A:Around) (outer:List Env) (s:Shared) (H:Hp) (args:Args) (us:List Value) (vs:List V) (Q:VK) (E:XK),zt k A->zAg P w K mg base A outer s H->(0 < s.toks\/∃ p∈ps,fd.scope.names.lookup p=some .local)->BindsTo s fd args (ps.zip us)->zX vs us->sp vs H Q E ->
  codeAny (model P w) A (.call (.ref f) args) (CR CX outer P w H s Q E) s
theorem jd.imp {P:Program}{w:World}{K:PySem.W.Frag}{mg:Str->Option Value}{base:Heap}{CX:CXT}{k:Nat}{f:Addr}{fd:FuncData}{ps:List Str}{sp sp':Sp} (F:jd P w K mg base CX k f fd ps sp)
  (h:∀ vs H Q E,sp' vs H Q E->sp vs H Q E):jd P w K mg base CX k f fd ps sp' :=
 ⟨fun vs H Q E q=>F.len vs H Q E (h _ _ _ _ q),fun A outer s H args us vs Q E hr he ht hb hv hs=>F.run A outer s H args us vs Q E hr he ht hb hv (h _ _ _ _ hs)⟩
theorem zAg.make {P:Program}{w:World}{K:PySem.W.Frag}{mg:Str->Option Value}{base:Heap}{A:Around}{outer:List Env}{s:Shared}{H:Hp} (e:zAg P w K mg base A outer s H) (C:Addr) (us:List Value) (kw:List (Str×Value)) :
  zAg P w K mg base (A.under (.builtin "type.__call__" ⟨.ref C::us,kw⟩)) outer s H:=⟨by first | exact e.frames | (simpa [Around.under,Code.envs,Code.isFrame,pushEnvs] using e.frames),e.mod,e.bs,e.bsz,e.funs,e.frf,e.hok,e.bare⟩
section
variable {X:Cx}{pins:List (Addr×Obj)}{σ:St}{H:Hp}{s s':Shared}
theorem Inv.env0 (I:Inv X pins σ H s):zAg X.prog X.w X.K X.mg X.base X.A X.stack s H :=
 ⟨I.ok.frames,I.ok.mod,I.bs,Nat.le_trans I.ok.bsz I.sz,I.stack,I.stkFree,I.hok,I.bare⟩
theorem Inv.after {Q:VK}{u:Value} (I:Inv X pins σ H s) (h:CE X.stack X.prog X.w H s Q u s') (ht:0 < s'.toks):EP X pins σ Q u s':=by
 obtain⟨v,H',os,bare,un,hok,r,q⟩:=h
 obtain⟨hh,g,d,t,os'⟩:=s'
 obtain rfl:os'=s.os:=os
 exact⟨v,H',I.call (h':=hh) (g':=g) (d':=d) (t':=t) (ch:=[]) un hok bare (fun b z=>absurd z (by simp)) ht,r,q⟩
end
noncomputable def zIc (sp:Sp) (dvs:List V) (E:XK) (t:TA):TE:=fun σ H Q=>t σ H fun vs H1=>sp (vs++dvs) H1 Q E
noncomputable def zIZ (C:Addr) (m:Str) (sp:Sp) (dvs:List V) (E:XK) (ta:TE) (t:TA):TE:=fun σ H Q=>ta σ H fun x H1=>∃ a dx fs,x=.ref a/\H1 a=some (.ins C dx fs)/\fs.lookup m=none /\
 t σ H1 fun vs H2=>sp (x::(vs++dvs)) H2 Q E
noncomputable def zLy (C:Addr) (sp:Sp) (dvs:List V) (E:XK) (t:TA):TE:=fun σ H Q=>t σ H fun vs H1=>∀ x dx,H1 x=none->H1 dx=none->dx≠x ->
 sp (.ref x::(vs++dvs)) (upd (upd H1 dx (.own x)) x (.ins C dx [])) (fun v H2=>v=.non/\Q (.ref x) H2) E
noncomputable def yz (K:PySem.W.Frag) (fd:FuncData) (ps:List Str) (ds:List Value):Prop :=
 ∀ (s:Shared) (us:List Value),K.In s.heap->(us++ds).length=ps.length->BindsTo s fd ⟨us,[]⟩ (ps.zip (us++ds))
theorem yz.all {K:PySem.W.Frag}{fd:FuncData}{ps:List Str} (h:∀ us:List Value,us.length=ps.length->bindArgs fd ⟨us,[]⟩=pure (ps.zip us)):yz K fd ps []:=fun s us _ hl=>by
 rw[List.append_nil] at hl ⊢
 exact .of_eq (h us hl)
noncomputable def qX (CX:CXT) (X:Cx) (E:XK):Prop:=∀ (pins:List (Addr×Obj)) (σ:St) (H:Hp) (s:Shared) (e:Value) (s':Shared),Inv X pins σ H s->CX X.stack H s E e s'->X.xe e s'
section
variable {X:Cx}{CX:CXT}{k:Nat}{f C:Addr}{fd:FuncData}{ps:List Str}{sp:Sp}{dvs:List V}{ds:List Value}{E:XK}{x m:Str}{p pos apos:Pos}{e o:Expr}{es:List Expr}{ta:TE}{t:TA}
theorem zEL {pins:List (Addr×Obj)}{σ:St}{H:Hp}{s:Shared}{Q:VK}{us:List Value}{vs:List V} (F:jd X.prog X.w X.K X.mg X.base CX k f fd ps sp) (hr:zt k X.A) (hb:yz X.K fd ps ds) (hd:zX dvs ds) (hx:qX CX X E)
  (I:Inv X pins σ H s) (r:zX vs us) (h:sp (vs++dvs) H Q E):wpAny (model X.prog X.w) X.A (call (.ref f) us) (EP X pins σ Q) X.xe s:=by
 have r2:zX (vs++dvs) (us++ds):=r.append hd
 have hl:(us++ds).length=ps.length:=by rw[<- r2.length];exact F.len _ _ _ _ h
 refine wpAny_call (codeAny_mono (codeAny_toks_of (n:=1) I.tk (F.run X.A X.stack s H ⟨us,[]⟩ (us++ds) (vs++dvs) Q E hr I.env0 (.inl I.tk) (hb s us I.kIn hl) r2 h)) fun r s' ⟨htk,hq⟩=>?_)
 cases r with
 | error e=>exact hx pins σ H s e s' I hq
 | ok fl =>
  cases fl with
  | ret u=>exact I.after hq htk
  | next=>exact False.elim hq
  | brk=>exact False.elim hq
  | cont=>exact False.elim hq
theorem zJm (F:jd X.prog X.w X.K X.mg X.base CX k f fd ps sp) (hr:zt k X.A) (hg:Gl X x) (hm:X.mg x=some (.ref f)) (hk:PySem.W.keepIn X.K (.ref f)=true) (hb:yz X.K fd ps ds) (hd:zX dvs ds) (hx:qX CX X E)
  (ha:PA X (e::es) t) (hdb:(x == ("__debug__" : Str))=false:=by decide) (he:starEach (e::es) X.env=(false,eval e X.env)::starEach es X.env:=by rfl) (hpl:(backTo pos (starEach es X.env)).any (·.1)=false:=by rfl) :
  PE X (.Call (.Name x p) (e::es) [] pos) (zIc sp dvs E t):=by
 intro pins s σ H Q I h
 refine wpAny_Call_Name_kw (zCM I hg hm ?_ hdb)
 refine PySem.W.callWith_K (h₀:=X.base) I.ok.mod.kin hk (thn (ha pos pins s σ H _ I h) fun us s1 ⟨vs,H1,I1,r,q⟩=>⟨I1.kIn,?_⟩) he hpl
 exact zEL F hr hb hd hx I1 r q
theorem zJa {pl:Sem Bool} (he:PE X o ta) (c:Cls X.K C) (hm:zFY X.K C m f) (F:jd X.prog X.w X.K X.mg X.base CX k f fd ps sp) (hr:zt k X.A) (hb:yz X.K fd ps ds) (hd:zX dvs ds) (hx:qX CX X E) (ha:PA X (e::es) t)
  (hst:starEach (e::es) X.env=(false,eval e X.env)::starEach es X.env:=by rfl) (hpl:(backTo pos (starEach es X.env)).any (·.1)=false:=by rfl)
  (ht:eval (.Call (.Attribute o m apos) (e::es) [] pos) X.env=(do
   let ov <- eval o X.env
   standAt apos.atName
   let (f,first) <- holding [ov] (getMethod ov m pl)
   callWith pos f first (backTo pos (starEach (e::es) X.env)) (backToKw pos (keywordEach [] X.env))):=by rfl) :
  PE X (.Call (.Attribute o m apos) (e::es) [] pos) (zIZ C m sp dvs E ta t):=by
 intro pins s σ H Q I h
 refine PySem.W.methodCall_KW (pl:=pl) (thn (he pins s σ H _ I h) fun u s1 ⟨x,H1,I1,rx,a,dx,fs,ex,ea,l,q⟩=>?_) ht
 subst ex
 obtain rfl:u=Value.ref a:=rx
 refine zBd I1 ea c hm l ?_
 refine PySem.W.callWith_K (first:=[.ref a]) (h₀:=X.base) I.ok.mod.kin hm.kp (thn (ha pos pins s1 σ H1 _ I1 q) fun us s2 ⟨vs,H2,I2,r,q2⟩=>⟨I2.kIn,?_⟩) hst hpl
 exact zEL (us:=.ref a::us) (vs:=.ref a::vs) F hr hb hd hx I2 (.cons rfl r) q2
theorem zIA {pl:Sem Bool} (he:PE X o ta) (c:Cls X.K C) (hm:zFY X.K C m f) (F:jd X.prog X.w X.K X.mg X.base CX k f fd ps sp) (hr:zt k X.A) (hb:yz X.K fd ps ds) (hd:zX dvs ds) (hx:qX CX X E)
  (ht:eval (.Call (.Attribute o m apos) [] [] pos) X.env=(do
   let ov <- eval o X.env
   standAt apos.atName
   let (f,first) <- holding [ov] (getMethod ov m pl)
   callWith pos f first (backTo pos (starEach [] X.env)) (backToKw pos (keywordEach [] X.env))):=by rfl) :
  PE X (.Call (.Attribute o m apos) [] [] pos) (zIZ C m sp dvs E ta zKj):=by
 intro pins s σ H Q I h
 refine PySem.W.methodCall_KW (pl:=pl) (thn (he pins s σ H _ I h) fun u s1 ⟨x,H1,I1,rx,a,dx,fs,ex,ea,l,q⟩=>?_) ht
 subst ex
 obtain rfl:u=Value.ref a:=rx
 refine zBd I1 ea c hm l ?_
 exact PySem.W.callWith_K0 (first:=[.ref a]) I1.kIn hm.kp (zEL (us:=[.ref a]) (vs:=[.ref a]) F hr hb hd hx I1 (.cons rfl .nil) q)
structure Mk (K:PySem.W.Frag) (C f:Addr):Prop where
 makes:PySem.W.makesIn K C=true
 init:PySem.W.findIn K (.ref C) "__init__" = some (some (.ref f))
 fn:PySem.W.isFn K (.ref f)=true
 kp:PySem.W.keepIn K (.ref C)=true
theorem zHk {pins:List (Addr×Obj)}{σ:St}{H:Hp}{s:Shared}{Q:VK}{us:List Value}{vs:List V} (M:Mk X.K C f) (F:jd X.prog X.w X.K X.mg X.base CX k f fd ps sp) (hr:zt (k+1) X.A) (hb:yz X.K fd ps ds) (hd:zX dvs ds)
  (hx:qX CX X E) (I:Inv X pins σ H s) (r:zX vs us)
  (h:∀ x dx,H x=none->H dx=none->dx≠x->sp (.ref x::(vs++dvs)) (upd (upd H dx (.own x)) x (.ins C dx [])) (fun v H2=>v=.non/\Q (.ref x) H2) E) :
  wpAny (model X.prog X.w) X.A (call (.ref C) us) (EP X pins σ Q) X.xe s:=by
 have hq:=h (s.heap.objs.size+1) s.heap.objs.size (I.hok.fresh (Nat.le_succ _)) (I.hok.fresh (Nat.le_refl _)) (Nat.ne_of_lt (Nat.lt_succ_self _))
 have I2:=Inv.made (C:=C) I
 have r2:zX (V.ref (s.heap.objs.size+1)::(vs++dvs)) (Value.ref (s.heap.objs.size+1)::(us++ds)):=.cons rfl (r.append hd)
 have hl:(Value.ref (s.heap.objs.size+1)::us++ds).length=ps.length:=by
  have e:=r2.length
  rw[F.len _ _ _ _ hq] at e
  exact e.symm
 refine wpAny_call (zHI (f:=f) I.kIn M.makes M.init (beq_iff_eq.mp M.fn) (codeAny_mono (codeAny_toks_of (n:=1) I2.tk (F.run _ X.stack _ _ ⟨Value.ref (s.heap.objs.size+1)::us,[]⟩ (Value.ref (s.heap.objs.size+1)::(us++ds)) _ _ E (hr.make C us [])
  (I2.env0.make C us []) (.inl I2.tk) (hb _ (Value.ref (s.heap.objs.size+1)::us) I2.kIn hl) r2 hq)) fun r s' ⟨htk,hq'⟩=>?_))
 cases r with
 | error e=>exact hx pins σ _ _ e s' I2 hq'
 | ok fl =>
  cases fl with
  | ret u =>
   obtain⟨v,H',I3,rv,ev,q3⟩:=I2.after hq' htk
   subst ev
   exact⟨rv,⟨V.ref (s.heap.objs.size+1),H',I3,rfl,q3⟩⟩
  | next=>exact False.elim hq'
  | brk=>exact False.elim hq'
  | cont=>exact False.elim hq'
theorem zJD (M:Mk X.K C f) (F:jd X.prog X.w X.K X.mg X.base CX k f fd ps sp) (hr:zt (k+1) X.A) (hg:Gl X x) (hm:X.mg x=some (.ref C)) (hb:yz X.K fd ps ds) (hd:zX dvs ds) (hx:qX CX X E)
  (ha:PA X (e::es) t) (hdb:(x == ("__debug__" : Str))=false:=by decide) (he:starEach (e::es) X.env=(false,eval e X.env)::starEach es X.env:=by rfl) (hpl:(backTo pos (starEach es X.env)).any (·.1)=false:=by rfl) :
  PE X (.Call (.Name x p) (e::es) [] pos) (zLy C sp dvs E t):=by
 intro pins s σ H Q I h
 refine wpAny_Call_Name_kw (zCM I hg hm ?_ hdb)
 refine PySem.W.callWith_K (h₀:=X.base) I.ok.mod.kin M.kp (thn (ha pos pins s σ H _ I h) fun us s1 ⟨vs,H1,I1,r,q⟩=>⟨I1.kIn,?_⟩) he hpl
 exact zHk M F hr hb hd hx I1 r q
end
section
variable {X:Cx}{CX:CXT}{k:Nat}{f C:Addr}{fd:FuncData}{ps ks:List Str}{sp:Sp}{E:XK}{x m:Str}{p pos apos kpos:Pos}{e o:Expr}{es:List Expr}{kws:List Keyword}{te ta:TE}{t tk:TA}{nm:Option Str}
structure zM3 (K:PySem.W.Frag) (fd:FuncData) (ps ks:List Str) (g:List Value->List Value->List Value) (gV:List V->List V->List V):Prop where
 to:∀ (s:Shared) (us ws:List Value),K.In s.heap->(g us ws).length=ps.length->BindsTo s fd ⟨us,ks.zip ws⟩ (ps.zip (g us ws))
 rel:∀ {vs:List V}{us:List Value}{zs:List V}{ws:List Value},zX vs us->zX zs ws->zX (gV vs zs) (g us ws)
variable {g:List Value->List Value->List Value}{gV:List V->List V->List V}
end
structure jW (N P:List Str) (sc:Scope):Prop where
 kind:sc.kind=.function
 co:sc.isCoroutine=false
 gen:sc.isGenerator=false
 nd:N.Nodup
 pre:N.take P.length=P
 par:∀ x∈P,sc.names.lookup x=some .local\/sc.names.lookup x=some .cell
 nofree:∀ y∈sc.names,y.2≠.free
theorem zCk {kindOf:Str->Option NameKind}{x:Str}:∀ {binds:List (Str×Value)}{m:Str->Option Value},(∀ v,(x,v)∉binds)->bindL kindOf binds m x=m x
 | [],_,_=>rfl
 | (n,v)::r,m,h=>by
  unfold bindL
  rw[zCk fun w hw=>h w (List.mem_cons_of_mem _ hw)]
  split
  ·have:x≠n:=by rintro rfl;exact h v List.mem_cons_self
   simp[this]
  ·rfl
theorem zCT {kindOf:Str->Option NameKind}{x:Str}:∀ {binds:List (Str×Value)}{m:Str->Option Value},(∀ v,(x,v)∉binds)->bindC kindOf binds m x=m x
 | [],_,_=>rfl
 | (n,v)::r,m,h=>by
  unfold bindC
  rw[zCT fun w hw=>h w (List.mem_cons_of_mem _ hw)]
  split
  ·rfl
  ·have:x≠n:=by rintro rfl;exact h v List.mem_cons_self
   simp[this]
theorem zCb {kindOf:Str->Option NameKind}{x:Str}{v:Value}:∀ {P:List Str}{vs:List Value}{i:Nat}{m:Str->Option Value},P.Nodup->P[i]? = some x->vs[i]? = some v->kindOf x=some .local ->
  bindL kindOf (P.zip vs) m x=some v
 | [],_,_,_,_,h,_,_=>by simp at h
 | _::_,[],_,_,_,_,h,_=>by simp at h
 | p::P,w::vs,0,m,nd,h1,h2,hk=>by
  simp at h1 h2;subst h1;subst h2
  show bindL kindOf ((p,w)::P.zip vs) m p=_
  unfold bindL
  rw[zCk fun v hv=>(List.nodup_cons.mp nd).1 (List.of_mem_zip hv).1,if_pos hk]
  simp
 | p::P,w::vs,i+1,m,nd,h1,h2,hk=>by
  show bindL kindOf ((p,w)::P.zip vs) m x=_
  unfold bindL
  exact zCb (i:=i) (List.nodup_cons.mp nd).2 (by simpa using h1) (by simpa using h2) hk
theorem zCW {kindOf:Str->Option NameKind}{x:Str}{v:Value}:∀ {P:List Str}{vs:List Value}{i:Nat}{m:Str->Option Value},P.Nodup->P[i]? = some x->vs[i]? = some v->kindOf x≠some .local ->
  bindC kindOf (P.zip vs) m x=some v
 | [],_,_,_,_,h,_,_=>by simp at h
 | _::_,[],_,_,_,_,h,_=>by simp at h
 | p::P,w::vs,0,m,nd,h1,h2,hk=>by
  simp at h1 h2;subst h1;subst h2
  show bindC kindOf ((p,w)::P.zip vs) m p=_
  unfold bindC
  rw[zCT fun v hv=>(List.nodup_cons.mp nd).1 (List.of_mem_zip hv).1,if_neg hk]
  simp
 | p::P,w::vs,i+1,m,nd,h1,h2,hk=>by
  show bindC kindOf ((p,w)::P.zip vs) m x=_
  unfold bindC
  exact zCW (i:=i) (List.nodup_cons.mp nd).2 (by simpa using h1) (by simpa using h2) hk
noncomputable def qw (N:List Str) (vs:List V):St:=vs.map some++List.replicate (N.length - vs.length) none
noncomputable def QR (CX:CXT) (P:Program) (w:World) (K:PySem.W.Frag) (mg:Str->Option Value) (base:Heap) (N:List Str) (qual:Str) (scope:Scope) (f:Addr) (cd:Value) (A:Around) (outer:List Env) (s:Shared) (H:Hp) (E:XK):Cx where
 prog:=P
 w:=w
 K:=K
 mg:=mg
 base:=base
 A:=A.deeper (envOfC qual scope s.heap.objs.size f cd)
 N:=N
 s₀:=s
 H₀:=H
 env:=envOfC qual scope s.heap.objs.size f cd
 outer:=outer
 stack:=envOfC qual scope s.heap.objs.size f cd::outer
 ex:=[]
 calm:=true
 fn:=fun _=>true
 pn:=[]
 xe:=fun e s'=>wpAny (model P w) (A.deeper (envOfC qual scope s.heap.objs.size f cd)) (leaving (envOfC qual scope s.heap.objs.size f cd) e) (fun _ s''=>CX outer H s E e s'') (fun e' s''=>CX outer H s E e' s'') s'
theorem zEA {sc:Scope}{n:Nat}{x:Str} (h:sc.names.lookup x=some .cell):∃ c,(cellsFrom n sc.names []).lookup x=some c:=by
 have q:=PySem.W.cellsFrom_some sc.names n [] (.inl h)
 exact Option.isSome_iff_exists.mp q
theorem Qv {M:Model}{A:Around}{E:Value->Shared->Prop}{s₀:Shared}{env:Env} (f:Str×Value->PUnit->Sem (ForInStep PUnit)) (hf:∀ n v u,f (n,v) u=(do storeName env n v;pure (.yield ⟨⟩))) (hk:env.scope.kind=.function) :
  ∀ (binds:List (Str×Value)) (m cm:Str->Option Value) (s:Shared) (Q:PUnit->Shared->Prop),InCallC s₀ env.locals m env.cells cm s ->
   (∀ x∈binds,env.kindOf x.1=some .local\/(env.kindOf x.1=some .cell/\(env.cells.lookup x.1).isSome=true)) ->
   (∀ s',InCallC s₀ env.locals (bindL env.kindOf binds m) env.cells (bindC env.kindOf binds cm) s'->((0 < s.toks\/∃ b∈binds,env.kindOf b.1=some .local)->0 < s'.toks)->Q ⟨⟩ s')->wpAny M A (forIn binds ⟨⟩ f) Q E s
 | [],m,cm,s,Q,x,_,h=>by
  rw[List.forIn_nil]
  exact wpAny_pure (h s x fun z=>z.elim id fun ⟨b,hb,_⟩=>absurd hb (by simp))
 | (n,v)::r,m,cm,s,Q,x,hkind,h=>by
  rw[List.forIn_cons,hf]
  have hr:∀ y∈r,env.kindOf y.1=some .local\/(env.kindOf y.1=some .cell/\(env.cells.lookup y.1).isSome=true):=fun y hy=>hkind y (List.mem_cons_of_mem _ hy)
  rcases hkind (n,v) List.mem_cons_self with hl | ⟨hl,hc⟩
  ·refine wpAny_bind (wpAny_bind (wpAny_storeName_local hl x.toInCall.ns (fun h' hn' hs'=>wpAny_pure (Qv f hf hk r (fun y=>if y=n then some v else m y) cm _ Q ⟨⟨?_,hn',fun b o e=>?_,x.toInCall.fresh⟩,fun k c hc=>?_,x.apart,x.above⟩ hr fun s'' x'' ht=>h s'' ?_ fun _=>ht (.inl (Nat.succ_pos _)))) (by rw[hk];rfl)))
   ·obtain⟨h₁,tk,rfl⟩:=x.toInCall.same
    exact⟨h',_,rfl⟩
   ·exact hs'.extBut b o (Nat.ne_of_lt (Nat.lt_of_lt_of_le (Heap.lt_size e) x.toInCall.fresh)) (x.toInCall.keep b o e)
   ·exact (x.cell k c hc).sameBut hs' (Nat.ne_of_gt (x.above k c (PySem.mem_of_lookup hc)))
   ·unfold bindL bindC;rw[if_pos hl,if_pos hl];exact x''
  ·obtain⟨c,hc⟩:=Option.isSome_iff_exists.mp hc
   have hnl:¬ env.kindOf n=some .local:=by rw[hl];decide
   refine wpAny_bind (wpAny_bind (wpAny_with_toks (n:=s.toks) (Nat.le_refl _) (stCC x hk hl hc fun s' x' hle=>wpAny_pure (Qv f hf hk r m _ s' Q x' hr fun s'' x'' ht=>h s'' ?_ fun z=>ht ?_))))
   ·unfold bindL bindC;rw[if_neg hnl,if_neg hnl];exact x''
   ·rcases z with z | ⟨b,hb,hbl⟩
    ·exact .inl (Nat.lt_of_lt_of_le z hle)
    ·rcases List.mem_cons.mp hb with rfl | hb
     ·exact absurd hbl hnl
     ·exact .inr ⟨b,hb,hbl⟩
theorem zJV {M:Model}{A:Around}{E:Value->Shared->Prop}{s:Shared}{scope:Scope}{globals:Addr}{binds:List (Str×Value)}{qual:Str}{func:Option Addr}{code:Value}{builtins:Addr}{Q:Env->Shared->Prop}
  (hk:scope.kind=.function)
  (hkind:∀ x∈binds,scope.names.lookup x.1=some .local\/(scope.names.lookup x.1=some .cell/\((cellsFrom (s.heap.objs.size+1) scope.names []).lookup x.1).isSome=true))
  (hQ:∀ env,env=newEnv scope s.heap.objs.size globals (cellsFrom (s.heap.objs.size+1) scope.names []) qual func code none builtins ->
   ∀ s',InCallC s env.locals (bindL env.kindOf binds fun _=>none) env.cells (bindC env.kindOf binds fun _=>none) s'->((0 < s.toks\/∃ b∈binds,scope.names.lookup b.1=some .local)->0 < s'.toks)->Q env s') :
  wpAny M A (newFunctionEnv scope globals [] binds qual func code none builtins) Q E s:=by
 simp only[newFunctionEnv,Option.isSome_none,Bool.false_eq_true,if_false]
 refine wpAny_bind (wpAny_alloc ?_)
 refine wpAny_bind (wpAny_layCells _ (fun name kind cells=>by cases hkc:kind == NameKind.cell<;>simp[hkc]) _ _ _ _ ?_)
 have ok:=cellsFrom_ok scope.names (s.heap.push { cls:=.type "frame",data:=.dict #[] }) (s.heap.objs.size+1) [] ⟨fun _ _ hm=>(nomatch hm),List.Pairwise.nil⟩ (by rw[Heap.size_push];exact Nat.le_refl _)
 rw[Heap.size_push] at ok
 rw[show ({ s with heap:=s.heap.push { cls:=.type "frame",data:=.dict #[] } }:Shared).heap.objs.size=s.heap.objs.size+1 from Heap.size_push ..]
 refine wpAny_bind (Qv (s₀:=s) (env:=newEnv scope s.heap.objs.size globals (cellsFrom (s.heap.objs.size+1) scope.names []) qual func code none builtins)
  _ (fun _ _ _=>rfl) hk binds (fun _=>none) (fun _=>none) _ _
  ⟨⟨⟨_,_,rfl⟩,(Heap.Ns.new s.heap (.type "frame")).keeps (pushCells_keeps _ _),fun b o e=>pushCells_keeps _ _ b o (Heap.get?_push_of_some _ e),Nat.le_refl _⟩,
   fun n c hc=>(ok.empty n c (PySem.mem_of_lookup hc)).1,ok.apart,fun n c hm=>(ok.empty n c hm).2⟩
  hkind fun s' x ht=>wpAny_pure (hQ _ rfl s' x ht))
theorem zHB {CX:CXT}{P:Program}{w:World}{K:PySem.W.Frag}{mg:Str->Option Value}{base:Heap}{N ps:List Str}{qual:Str}{scope:Scope}{f:Addr}{cd:Value}{A:Around}{outer:List Env}{s s1:Shared}{H:Hp}{E:XK}{us:List Value}{vs:List V}
  (S:jW N ps scope) (hd:A.handled=none) (e0:zAg P w K mg base A outer s H) (hl:vs.length=ps.length) (r:zX vs us)
  (x:InCallC s s.heap.objs.size (bindL (envOfC qual scope s.heap.objs.size f cd).kindOf (ps.zip us) fun _=>none) (cellsFrom (s.heap.objs.size+1) scope.names []) (bindC (envOfC qual scope s.heap.objs.size f cd).kindOf (ps.zip us) fun _=>none) s1) (ht:0 < s1.toks) :
  Inv (QR CX P w K mg base N qual scope f cd A outer s H E) [] (qw N vs) H s1:=by
 have hpl:ps.length <= N.length:=by have:=congrArg List.length S.pre;rw[List.length_take] at this;omega
 obtain⟨h1,tk,rfl,hk⟩:=x.done
 have noA:∀ b:Addr,b∉(QR CX P w K mg base N qual scope f cd A outer s H E).ex:=fun b z=>absurd (show b∈([]:List Addr) from z) (by simp)
 refine⟨⟨e0.mod,S.kind,rfl,rfl,Nat.le_refl _,fun y z c h1 h2=>?_,fun y hy=>?_,fun y c _ h=>?_,fun _=>hd,Around.frames_deeper e0.frames,.inr ⟨rfl,rfl⟩,fun b z=>absurd z (noA b),e0.bs,e0.bsz,fun b _ _=>noA b,fun b z=>absurd z (noA b),e0.funs,e0.frf⟩,
  rfl,e0.bare,Un.kept hk,⟨_,x.toInCall.ns,fun i y v h1 h2 h3=>?_⟩,fun y c h=>⟨_,x.cell y c h⟩,e0.hok.fresh (Nat.le_refl _),fun y c h=>?_,fun p hp=>absurd (show p∈([]:List (Addr×Obj)) from hp) (by simp),e0.hok.kept hk,?_,ht⟩
 ·exact name_of_addr x.apart (PySem.mem_of_lookup h1) (PySem.mem_of_lookup h2)
 ·have hy:scope.names.lookup y=some .cell\/scope.names.lookup y=some .free:=hy
  rcases hy with hy | hy
  ·exact zEA hy
  ·exact absurd rfl (S.nofree _ (PySem.mem_of_lookup hy))
 ·exact Nat.le_of_lt (x.above y c (PySem.mem_of_lookup h))
 ·have hi:i < vs.length:=by
   unfold qw at h2
   by_cases hi:i < vs.length
   ·exact hi
   ·rw[List.getElem?_append_right (by simpa using hi)] at h2
    rw[List.getElem?_replicate] at h2
    split at h2<;>cases h2
  have ha:vs[i]? = some v:=by
   unfold qw at h2
   rw[List.getElem?_append_left (by simpa using hi),List.getElem?_map] at h2
   cases e:vs[i]? with
   | none=>rw[e] at h2;cases h2
   | some a=>rw[e] at h2;cases h2;rfl
  obtain⟨u,hu,rv⟩:=r.get ha
  have hp:ps[i]? = some y:=by
   rw[<- S.pre,List.getElem?_take_of_lt (by omega)];exact h1
  have ndP:ps.Nodup:=by rw[<- S.pre];exact S.nd.sublist (List.take_sublist _ _)
  refine⟨u,rv,?_⟩
  rcases S.par y (List.mem_of_getElem? hp) with k | k
  ·exact .inl ⟨k,zCb ndP hp hu k⟩
  ·obtain⟨c,e⟩:=zEA (n:=s.heap.objs.size+1) k
   refine .inr ⟨.inl k,c,e,?_⟩
   have q:=x.cell y c e
   rw[zCW ndP hp hu (by show scope.names.lookup y≠_;rw[k];decide)] at q
   exact q
 ·exact e0.hok.fresh (Nat.le_of_lt (x.above y c (PySem.mem_of_lookup h)))
 ·unfold qw
  show _=N.length
  rw[List.length_append,List.length_map,List.length_replicate]
  omega
theorem zL8 {CX:CXT}{P:Program}{w:World}{K:PySem.W.Frag}{mg:Str->Option Value}{base:Heap}{k:Nat}{f:Addr}{name qual:Str}{params:Arguments}{body:List Stmt}{scope:Scope}{dV kV doc pm cdv ct oc:Value}{an od:Option Addr}
  {osl:Array (Option Value)}{N ps:List Str}{sp:Sp} (lk:K.lookup f=some ⟨oc,od,.func (PySem.W.fnOf name qual params body scope dV kV doc pm an cdv ct),osl⟩) (hcd:PySem.W.codeIn K cdv qual=true) (S:jW N ps scope)
  (len:∀ vs H Q E,sp vs H Q E->vs.length=ps.length)
  (hbody:∀ (A:Around) (outer:List Env) (s:Shared) (H:Hp) (vs:List V) (Q:VK) (E:XK),zt k (A.deeper (envOfC qual scope s.heap.objs.size f cdv))->sp vs H Q E ->
   ∃ t,PSs (QR CX P w K mg base N qual scope f cdv A outer s H E) body t/\t { nx:=fun _ H'=>Q .non H',rt:=Q } (qw N vs) H) :
  jd P w K mg base CX (k+1) f (PySem.W.fnOf name qual params body scope dV kV doc pm an cdv ct) ps sp:=by
 refine⟨len,fun A outer s H args us vs Q E hr e0 htk hb r hsp=>?_⟩
 have hl:=len _ _ _ _ hsp
 have KX:K.In s.heap:=e0.mod.kin.keeps fun b o e=>(e0.bs b o e).1
 have lim:s.heap.NoLimit:=e0.mod.nolimit.keeps fun b o e=>(e0.bs b o e).1
 have hkind:∀ y∈ps.zip us,scope.names.lookup y.1=some .local\/(scope.names.lookup y.1=some .cell/\((cellsFrom (s.heap.objs.size+1) scope.names []).lookup y.1).isSome=true):=fun ⟨n,v⟩ hy=>by
  rcases S.par n (List.of_mem_zip hy).1 with q | q
  ·exact .inl q
  ·exact .inr ⟨q,PySem.W.cellsFrom_some _ _ _ (.inl q)⟩
 refine codeAny_call_function hr.depth (KX _ _ lk) rfl S.co S.gen rfl (PySem.W.codeRec_of KX hcd) (hb _ _ _ _ ?_)
 refine zJV S.kind hkind fun env he s1 x htk1=>?_
 subst he
 refine⟨lim.keeps x.toInCall.keep,codeAny_func ?_⟩
 obtain⟨t,ht,hq⟩:=hbody A outer s H vs Q E (hr.deeper _) hsp
 have I:Inv (QR CX P w K mg base N qual scope f cdv A outer s H E) [] (qw N vs) H s1:=zHB S hr.hd e0 hl r x (htk1 (htk.imp id fun ⟨p,hp,hpl⟩=>by
  obtain⟨i,hi,e⟩:=List.mem_iff_getElem.mp hp
  have hu:i < us.length:=by rw[<- r.length,hl];exact hi
  exact⟨(p,us[i]),List.mem_iff_getElem.mpr ⟨i,by rw[List.length_zip];omega,by rw[List.getElem_zip,e]⟩,hpl⟩))
 refine wpAny_mono (ht [] s1 (qw N vs) H _ I hq) (fun fl s' hs=>?_) fun e s' hs=>hs
 have fin:∀ {σ':St}{H':Hp}{v:V}{u:Value},Inv (QR CX P w K mg base N qual scope f cdv A outer s H E) [] σ' H' s'->zc v u->Q v H'->CE outer P w H s Q u s' :=
  fun {σ' H' v u} J rv q=>⟨v,H',J.os,J.bare,J.base,J.hok,rv,q⟩
 cases fl with
 | ret u =>
  obtain⟨v,σ',H',J,rv,q⟩:=hs
  exact fin J rv q
 | next =>
  obtain⟨σ',H',J,q⟩:=hs
  exact fin (v:=V.non) (u:=Value.none) J rfl q
 | brk =>
  obtain⟨_,_,_,q⟩:=hs
  exact False.elim q
 | cont =>
  obtain⟨_,_,_,q⟩:=hs
  exact False.elim q
end L2
namespace L2
open PySem PySem.Spec PyProof.Rows
section
variable {X:Cx}{x:Str}{p pos:Pos}{e:Expr}{es:List Expr}{t:TA}{id T:String}{r:List V->Hp->VK->Prop}
noncomputable def tCB (r:List V->Hp->VK->Prop) (t:TA):TE:=fun σ H Q=>t σ H fun vs H1=>r vs H1 Q
theorem zDz (hc:jh X (.builtin id) r) (hg:Gl X x) (hm:X.mg x=none) (hv:bootBuiltins x=some (.builtin id)) (ha:PA X (e::es) t) (hn:x ≠ "__name__" := by decide) (hdb:(x == ("__debug__" : Str))=false:=by decide)
  (he:starEach (e::es) X.env=(false,eval e X.env)::starEach es X.env:=by rfl) (hpl:(backTo pos (starEach es X.env)).any (·.1)=false:=by rfl):PE X (.Call (.Name x p) (e::es) [] pos) (tCB r t):=by
 intro pins s σ H Q I h
 refine wpAny_Call_Name_kw (zBL I hg hm hv ?_ hn hdb)
 exact PyProof.Rows.callWith_builtin1 (thn (ha pos pins s σ H _ I h) fun us s1 ⟨vs,H1,I1,r1,q1⟩=>hc pins s1 σ H1 vs us Q I1 r1 q1) he hpl
theorem zGy (hc:jh X (.type T) r) (hg:Gl X x) (hm:X.mg x=none) (hv:bootBuiltins x=some (.type T)) (ha:PA X (e::es) t) (hn:x ≠ "__name__" := by decide) (hdb:(x == ("__debug__" : Str))=false:=by decide)
  (he:starEach (e::es) X.env=(false,eval e X.env)::starEach es X.env:=by rfl) (hpl:(backTo pos (starEach es X.env)).any (·.1)=false:=by rfl):PE X (.Call (.Name x p) (e::es) [] pos) (tCB r t):=by
 intro pins s σ H Q I h
 refine wpAny_Call_Name_kw (zBL I hg hm hv ?_ hn hdb)
 exact PyProof.Rows.callWith_type1 (thn (ha pos pins s σ H _ I h) fun us s1 ⟨vs,H1,I1,r1,q1⟩=>hc pins s1 σ H1 vs us Q I1 r1 q1) he hpl
end
end L2
namespace HT
open PySem PyProof.Rows
section
variable {prog:Program}{w:World}{A:Around}{E:Value->Shared->Prop}{s:Shared}
theorem zJG {t b:Addr}{vs ws:List Value}{Q:Value->Shared->Prop} (ht:IsTup s.heap t vs.toArray) (hb:IsTup s.heap b ws.toArray) (hv:vs≠[])
  (h1:ws=[]->Q (.ref t) s) (h2:ws≠[]->Q (.ref s.heap.objs.size) { s with heap:=s.heap.push { cls:=.type "tuple",data:=.seq (vs++ws).toArray } })
  (hsz:vs.length+ws.length <= sizeLine):wpAny (model prog w) A (binaryOp .Add (.ref t) (.ref b)) Q E s:=by
 obtain⟨⟨cls,dd,data,sl⟩,ho,hc,n,hd⟩:=id ht
 obtain⟨⟨cls2,dd2,data2,sl2⟩,ho2,hc2,n2,hd2⟩:=id hb
 simp only at hc hd hc2 hd2
 subst hc hd hc2 hd2
 have e:vs.toArray++ws.toArray=(vs++ws).toArray:=by simp
 by_cases hw:ws=[]
 ·exact concat_meets ⟨_,ho,rfl⟩ ⟨_,ho2,rfl⟩ noFill_tuple_add seq_tuple_add PySem.F.slot_tuple_add PySem.F.entry_tuple_add (PySem.F.args_tuple_add_2 _ _)
   (tuple_addW1 t b vs.toArray ws.toArray n n2 dd dd2 sl sl2 (by simpa using hv) (by simp[hw])) ⟨ho,ho2,h1 hw⟩
 ·refine concat_meets ⟨_,ho,rfl⟩ ⟨_,ho2,rfl⟩ noFill_tuple_add seq_tuple_add PySem.F.slot_tuple_add PySem.F.entry_tuple_add (PySem.F.args_tuple_add_2 _ _)
   (tuple_addW2 t b vs.toArray ws.toArray n n2 dd dd2 sl sl2 (by simpa using hv) (by simpa using hw) (by rw[List.size_toArray,List.size_toArray];exact hsz)) ⟨ho,ho2,?_⟩
  rw[e]
  exact h2 hw
noncomputable def sIx (n d:Nat):Option Int->Nat
 | none=>d
 | some v=>if v < 0 then (v+(n:Int)).toNat else min v.toNat n
theorem zDJ (n d:Nat) (hd:d <= n) (o:Option Int):sIx n d o <= n:=by
 cases o with
 | none=>exact hd
 | some v =>
  show (if v < 0 then (v+(n:Int)).toNat else min v.toNat n) <= n
  by_cases hv:v < 0
  ·rw[if_pos hv];omega
  ·rw[if_neg hv];exact Nat.min_le_right _ _
theorem zB5 (v:Int) (n d:Nat):(if v < 0 then max (v+(n:Int)) 0 else min v (n:Int))=((sIx n d (some v):Nat):Int):=by
 show (if v < 0 then max (v+(n:Int)) 0 else min v (n:Int))=(((if v < 0 then (v+(n:Int)).toNat else min v.toNat n):Nat):Int)
 by_cases hv:v < 0
 ·simp only[if_pos hv];omega
 ·simp only[if_neg hv];omega
theorem zFR (lo hi:Option Int) (n:Nat):Builtin.Slice.sliceAdjust lo hi 1 (n:Int)=(((sIx n 0 lo:Nat):Int),((sIx n n hi:Nat):Int)):=by
 have h1:¬ ((1:Int) < 0):=by omega
 unfold Builtin.Slice.sliceAdjust
 simp only[h1,if_false]
 refine Prod.ext ?_ ?_
 ·cases lo with
  | none=>rfl
  | some v=>exact zB5 v n 0
 ·cases hi with
  | none=>rfl
  | some v=>exact zB5 v n n
theorem zFZ (i j:Nat):Builtin.Slice.slicePlaces (i:Int) (j:Int) 1=j - i:=by
 unfold Builtin.Slice.slicePlaces
 have h1:(1:Int) > 0:=by omega
 simp only[h1,if_true,Int.ediv_one]
 split<;>omega
theorem zBi {v:Value}{o:Option Int}{Q:Option Int->Shared->Prop} (p:IsPart v o) (h:Q o s):wpAny (model prog w) A (Builtin.Slice.slicePartIndex v) Q E s:=by
 cases p with
 | none=>exact slicePart_none h
 | int i t=>exact slicePart_int h
theorem zAq {sl:Addr}{vl vu:Value}{lo hi:Option Int}{n:Nat}{Q:Int×Int×Nat->Shared->Prop} (hs:s.heap.IsSliceOf sl vl vu .none) (pl:IsPart vl lo) (pu:IsPart vu hi)
  (h:Q (((sIx n 0 lo:Nat):Int),1,sIx n n hi - sIx n 0 lo) s):wpAny (model prog w) A (Builtin.Slice.sliceApplied (.ref sl) (pure (n:Int))) Q E s:=by
 obtain⟨os,hos,hcs,hds⟩:=id hs
 unfold Builtin.Slice.sliceApplied Builtin.Slice.sliceFields
 refine wpAny_bind (wpAny_bind (wpAny_field hos hds (x:=vl) rfl (wpAny_bind (wpAny_field hos hds (x:=vu) rfl (wpAny_bind (wpAny_field hos hds (x:=.none) rfl (wpAny_pure ?_)))))))
 refine wpAny_bind (slicePart_none ?_)
 show wpAny _ _ (if ((1:Int) == 0)=true then _ else _) _ _ s
 rw[if_neg (by decide)]
 refine wpAny_bind (zBi pl (wpAny_bind (zBi pu (wpAny_bind (wpAny_pure ?_)))))
 show wpAny _ _ (match Builtin.Slice.sliceAdjust lo hi 1 (n:Int) with | (lo,hi)=>pure (lo,(1:Int),Builtin.Slice.slicePlaces lo hi 1)) _ _ s
 rw[zFR lo hi n]
 show wpAny _ _ (pure (((sIx n 0 lo:Nat):Int),(1:Int),Builtin.Slice.slicePlaces ((sIx n 0 lo:Nat):Int) ((sIx n n hi:Nat):Int) 1)) _ _ s
 rw[zFZ]
 exact wpAny_pure h
theorem zHo (xs:Array Value) (i k:Nat):((List.range k).filterMap fun (m:Nat)=>xs[((i:Int)+(m:Int) * 1).toNat]?).toArray=((xs.toList.drop i).take k).toArray:=by
 have e:(fun (m:Nat)=>xs[((i:Int)+(m:Int) * 1).toNat]?)=fun m=>xs[i+m]? := by
  funext m
  have:((i:Int)+(m:Int) * 1).toNat=i+m:=by omega
  rw[this]
 rw[e]
 have:=pick_run xs i k
 rw[List.filterMap_map] at this
 have e2:((fun x=>xs[x]?) ∘ fun x=>i+x)=fun m=>xs[i+m]? := rfl
 rw[e2] at this
 rw[this]
theorem zAU {t sl:Addr}{items:Array Value}{vl vu:Value}{lo hi:Option Int}{Q:Value->Shared->Prop} (ht:IsTup s.heap t items) (hs:s.heap.IsSliceOf sl vl vu .none) (pl:IsPart vl lo) (pu:IsPart vu hi)
  (hw:¬ (sIx items.size 0 lo=0/\sIx items.size items.size hi=items.size))
  (h:Q (.ref s.heap.objs.size) { s with heap:=s.heap.push { cls:=.type "tuple",data:=.seq ((items.toList.drop (sIx items.size 0 lo)).take (sIx items.size items.size hi - sIx items.size 0 lo)).toArray } })
  (hsz:items.size <= sizeLine):wpAny (model prog w) A (getItem (.ref t) (.ref sl)) Q E s:=by
 have htake:sizeOk (.seq ((items.toList.drop (sIx items.size 0 lo)).take (sIx items.size items.size hi - sIx items.size 0 lo)).toArray):=by
  show ((items.toList.drop (sIx items.size 0 lo)).take (sIx items.size items.size hi - sIx items.size 0 lo)).toArray.size <= sizeLine
  rw[List.size_toArray,List.length_take,List.length_drop,Array.length_toList]
  omega
 have hj:sIx items.size items.size hi <= items.size:=zDJ _ _ (Nat.le_refl _) hi
 obtain⟨os,hos,hcs,hds⟩:=id hs
 have hTs:s.TypeIs (.ref sl) "slice" := ⟨os,hos,hcs⟩
 unfold getItem
 try with_reducible refine wpAny_holding ?_
 first | refine wpAny_bind (wpAny_pure ?_) | skip
 refine wpAny_bind (wpAny_sequenceKey ht.typeIs (by decide) ?_)
 refine wpAny_bind (wpAny_callSpecial?_slot (name:=Str.ofString "__getitem__") ht.typeIs PyProof.Rows.slot_tuple_getitem
  (wpAny_call_entry PyProof.Rows.slot_tuple_getitem ht.typeIs entry_tuple_getitem ?_ (args_tuple_getitem _ _)))
 show wpAny _ _ (Builtin.Tuple.tupleItemsOf (.ref t) >>= _) _ _ s
 refine wpAny_bind (tupleItemsOf_ ht ?_)
 refine wpAny_bind (wpAny_typeOf hTs ?_)
 rw[if_pos (by decide)]
 refine wpAny_bind (zAq hs pl pu ?_)
 have hno:¬ ((((sIx items.size 0 lo:Nat):Int) == 0 && (1:Int) == 1 && (sIx items.size items.size hi - sIx items.size 0 lo) == items.size)=true):=by
  intro q
  rw[Bool.and_eq_true,Bool.and_eq_true] at q
  have q1:((sIx items.size 0 lo:Nat):Int)=0:=eq_of_beq q.1.1
  have q2:sIx items.size items.size hi - sIx items.size 0 lo=items.size:=eq_of_beq q.2
  exact hw ⟨by omega,by omega⟩
 show wpAny _ _ (if (((sIx items.size 0 lo:Nat):Int) == 0 && (1:Int) == 1 && (sIx items.size items.size hi - sIx items.size 0 lo) == items.size)=true then _ else _) _ _ s
 rw[if_neg hno,zHo]
 first
  | exact wpAny_bind (m:=Builtin.Tuple.tupleExact _) (wpAny_newObj_type (wpAny_pure ⟨_,rfl,wpAny_pure h⟩) htake)
  | exact wpAny_bind (m:=Builtin.Tuple.tupleExact _) (wpAny_newObj_type (wpAny_bind (wpAny_pure (wpAny_pure ⟨_,rfl,wpAny_pure h⟩))) htake)
  | exact wpAny_bind (wpAny_bind (m:=Builtin.Tuple.tupleExact _) (wpAny_newObj_type (wpAny_pure (wpAny_pure ⟨_,rfl,wpAny_pure h⟩)) htake))
  | exact wpAny_bind (wpAny_bind (m:=Builtin.Tuple.tupleExact _) (wpAny_newObj_type (wpAny_pure ⟨_,rfl,wpAny_pure h⟩) htake))
end
end HT
namespace L2
open PySem PySem.Spec PyProof.Rows
noncomputable abbrev TO:=St->Hp->(Option Int->Hp->Prop)->Prop
noncomputable def PO (X:Cx) (e:Option Expr) (t:TO):Prop :=
 ∀ (pins:List (Addr×Obj)) (s:Shared) (σ:St) (H:Hp) (Q:Option Int->Hp->Prop),Inv X pins σ H s->t σ H Q ->
  wpAny (model X.prog X.w) X.A (evalPart e X.env) (fun u s'=>∃ o H',Inv X pins σ H' s'/\IsPart u o/\Q o H') X.xe s
noncomputable def zJo:TO:=fun _ H Q=>Q none H
noncomputable def zLr (t:TE):TO:=fun σ H Q=>t σ H fun x H1=>∃ i,x=.int i/\Q (some i) H1
section
variable {X:Cx}{e:Expr}{te:TE}{lo hi:Option Expr}{tl th:TO}{pos p2:Pos}
theorem zJZ:PO X none zJo:=by
 intro pins s σ H Q I h
 rw[evalPart_none]
 exact wpAny_pure ⟨none,H,I,.none,h⟩
theorem zJS (h:PE X e te):PO X (some e) (zLr te):=by
 intro pins s σ H Q I hw
 rw[evalPart_some]
 refine thn (h pins s σ H _ I hw) fun u s1 ⟨x,H1,I1,r1,q1⟩=>?_
 obtain⟨i,rfl,q⟩:=q1
 obtain⟨t,rfl⟩:=r1
 exact⟨some i,H1,I1,.int i t,q⟩
noncomputable def SlR (X:Cx) (r:V->Option Int->Option Int->Hp->VK->Prop):Prop :=
 ∀ (pins:List (Addr×Obj)) (s:Shared) (σ:St) (H:Hp) (x:V) (v vl vu:Value) (lo hi:Option Int) (sl:Addr) (Q:VK),Inv X pins σ H s->zc x v->s.heap.IsSliceOf sl vl vu .none->IsPart vl lo->IsPart vu hi->r x lo hi H Q ->
  ∃ T id,typeLookup (.type T) "__getitem__" = pure (some (.builtin id))/\s.TypeIs v T/\wpAny (model X.prog X.w) X.A (getItem v (.ref sl)) (EP X pins σ Q) X.xe s
noncomputable def tSl (r:V->Option Int->Option Int->Hp->VK->Prop) (te:TE) (tl th:TO):TE:=fun σ H Q=>te σ H fun x H1=>tl σ H1 fun l H2=>th σ H2 fun u H3=>r x l u H3 Q
theorem zIO {r:V->Option Int->Option Int->Hp->VK->Prop} (hr:SlR X r) (he:PE X e te) (hl:PO X lo tl) (hu:PO X hi th):PE X (.Subscript e (.Slice lo hi none p2) pos) (tSl r te tl th):=by
 intro pins s σ H Q I h
 refine Subscript_ (thn (he pins s σ H _ I h) fun v s1 ⟨x,H1,I1,r1,q1⟩=>?_)
 refine wpAny_Slice (thn (hl pins s1 σ H1 _ I1 q1) fun vl s2 ⟨l,H2,I2,pl,q2⟩=>thn (hu pins s2 σ H2 _ I2 q2) fun vu s3 ⟨u,H3,I3,pu,q3⟩=>?_)
 rw[evalPart_none]
 refine wpAny_pure ?_
 have I4:Inv X pins σ H3 { s3 with heap:=s3.heap.push { cls:=.type "slice",data:=.fields #[vl,vu,.none] } }:=I3.kept (t':=s3.toks) fun b ob q=>Heap.get?_push_of_some _ q
 obtain⟨T,id,hT,ht,hg⟩:=hr pins { s3 with heap:=s3.heap.push { cls:=.type "slice",data:=.fields #[vl,vu,.none] } } σ H3 x v vl vu l u s3.heap.objs.size Q I4 r1 (Heap.IsSliceOf.new ..) pl pu q3
 show wpAny (model X.prog X.w) X.A (subscriptTail e (.Slice lo hi none p2) v (.ref s3.heap.objs.size)) (EP X pins σ Q) X.xe { s3 with heap:=s3.heap.push { cls:=.type "slice",data:=.fields #[vl,vu,.none] } }
 exact tail_any (ops:=[.ref s3.heap.objs.size,v]) ht hT hg (by with_unfolding_all rfl)
noncomputable def Qx (xs:List V) (lo hi:Option Int):List V:=(xs.drop (HT.sIx xs.length 0 lo)).take (HT.sIx xs.length xs.length hi - HT.sIx xs.length 0 lo)
theorem zAc (xs:List V) (lo hi:Option Int):(Qx xs lo hi).length <= xs.length:=by
 unfold Qx
 rw[List.length_take,List.length_drop]
 omega
noncomputable def zMY (K:PySem.W.Frag):V->Option Int->Option Int->Hp->VK->Prop:=fun x lo hi H Q=>∃ a xs,x=.ref a/\SqT K H a xs /\
 ¬ (HT.sIx xs.length 0 lo=0/\HT.sIx xs.length xs.length hi=xs.length)/\∀ p,H p=none->Q (.ref p) (upd H p (.tup (Qx xs lo hi)))
theorem zJ1:SlR X (zMY X.K):=by
 intro pins s σ H x v vl vu lo hi sl Q I rx hs pl pu h
 obtain⟨a,xs,rfl,hx,hw,q⟩:=h
 cases rx
 obtain⟨its,r,ht,hz⟩:=I.tuple hx
 have hlen:its.toArray.size=xs.length:=by rw[List.size_toArray];exact r.length.symm
 refine⟨"tuple",_,PyProof.Rows.slot_tuple_getitem.lookup,ht.typeIs,?_⟩
 refine HT.zAU ht hs pl pu (by rw[hlen];exact hw) ?_ (by rw[hlen];exact hz)
 rw[hlen]
 refine⟨.ref s.heap.objs.size,_,I.laid (t':=s.toks) (o:=.tup (Qx xs lo hi)) (fun b ob q=>Heap.get?_push_of_some _ q) (Nat.le_refl _) ?_,rfl,q _ (I.hok.fresh (Nat.le_refl _))⟩
 exact⟨Nat.le_trans (zAc xs lo hi) hz,_,(r.drop (HT.sIx xs.length 0 lo)).take (HT.sIx xs.length xs.length hi - HT.sIx xs.length 0 lo),IsTup.new _ _⟩
noncomputable def zFA (K:PySem.W.Frag):R2:=fun x y H Q=>∃ a b xs ys,x=.ref a/\y=.ref b/\SqT K H a xs/\SqT K H b ys/\xs≠[]/\xs.length+ys.length <= sizeLine /\
 (ys=[]->Q (.ref a) H)/\(ys≠[]->∀ p,H p=none->Q (.ref p) (upd H p (.tup (xs++ys))))
theorem zX.nil_iff {xs:List V}{us:List Value} (r:zX xs us):us=[]↔xs=[]:=by
 cases r with
 | nil=>simp
 | cons _ _=>simp
theorem qe:OpR X (binaryOp .Add) (zFA X.K):=by
 intro pins s σ H x y v u Q I rx ry h
 obtain⟨a,b,xs,ys,rfl,rfl,ha,hb,hx,hz,q1,q2⟩:=h
 cases rx
 cases ry
 obtain⟨its,r1,p1,_⟩:=I.tuple ha
 obtain⟨its2,r2,p2,_⟩:=I.tuple hb
 refine HT.zJG p1 p2 (fun z=>hx (r1.nil_iff.mp z)) (fun z=>⟨.ref a,H,I,rfl,q1 (r2.nil_iff.mp z)⟩) (fun z=>?_) (by rw[<- r1.length,<- r2.length];exact hz)
 refine⟨.ref s.heap.objs.size,_,I.laid (t':=s.toks) (o:=.tup (xs++ys)) (fun b ob q=>Heap.get?_push_of_some _ q) (Nat.le_refl _) ?_,rfl,q2 (fun w=>z (r2.nil_iff.mpr w)) _ (I.hok.fresh (Nat.le_refl _))⟩
 exact⟨by rw[List.length_append];exact hz,_,r1.append r2,IsTup.new _ _⟩
end
end L2
namespace L2
open PySem PySem.Spec PyProof.Rows
noncomputable def ixN (n:Nat) (i:Int):Option Nat:=if 0 <= i then (if i < n then some i.toNat else none) else if -(n:Int) <= i then some (i+n).toNat else none
noncomputable def atI {α:Type} (xs:List α) (i:Int):Option α:=(ixN xs.length i).bind fun j=>xs[j]?
theorem zE5 {n:Nat}{i:Int}{j:Nat} (h:ixN n i=some j):seqIndex? i n=some j/\j < n /\ -(n:Int) <= i/\i < n:=by
 unfold ixN at h
 by_cases h0:0 <= i
 ·rw[if_pos h0] at h
  by_cases h1:i < n
  ·rw[if_pos h1] at h
   have e:i.toNat=j:=Option.some.inj h
   exact⟨by rw[seqIndex_of h0 h1,e],by omega,by omega,h1⟩
  ·rw[if_neg h1] at h;cases h
 ·rw[if_neg h0] at h
  by_cases h1:-(n:Int) <= i
  ·rw[if_pos h1] at h
   have e:(i+n).toNat=j:=Option.some.inj h
   exact⟨by rw[seqIndex_neg (by omega) h1,e],by omega,h1,by omega⟩
  ·rw[if_neg h1] at h;cases h
theorem zCO {α:Type}{xs:List α}{i:Int}{v:α} (h:atI xs i=some v):∃ j,seqIndex? i xs.length=some j/\xs[j]? = some v/\j < xs.length /\ -(xs.length:Int) <= i/\i < xs.length:=by
 unfold atI at h
 cases e:ixN xs.length i with
 | none=>rw[e] at h;cases h
 | some j =>
  rw[e] at h
  obtain⟨h1,h2,h3,h4⟩:=zE5 e
  exact⟨j,h1,h,h2,h3,h4⟩
noncomputable def zEr (b:Expr):Prop:=∀ o i,subscripted b false o i=operate [o,i] (getItem o i)
noncomputable def IxR (X:Cx) (r:R2):Prop :=
 ∀ (value slice:Expr) (pins:List (Addr×Obj)) (s:Shared) (σ:St) (H:Hp) (x y:V) (v u:Value) (Q:VK),Inv X pins σ H s->zc x v->zc y u->r x y H Q ->
  subscripted slice false v u=operate [v,u] (getItem v u)->wpAny (model X.prog X.w) X.A (subscriptTail value slice v u) (EP X pins σ Q) X.xe s
noncomputable def MtR (X:Cx) (id:String) (r:V->List V->Hp->VK->Prop):Prop :=
 ∀ (pins:List (Addr×Obj)) (s:Shared) (σ:St) (H:Hp) (x:V) (xs:List V) (v:Value) (us:List Value) (Q:VK),Inv X pins σ H s->zc x v->zX xs us->r x xs H Q ->
  wpAny (model X.prog X.w) X.A (call (.builtin id) (v::us)) (EP X pins σ Q) X.xe s
section
variable {X:Cx}{a b:Expr}{ta tb:TE}{pos:Pos}
theorem IxR.or {r r':R2} (h:IxR X r) (h':IxR X r'):IxR X (fun x y H Q=>r x y H Q\/r' x y H Q):=by
 intro value slice pins s σ H x y v u Q I rx ry q hs
 rcases q with q | q
 ·exact h value slice pins s σ H x y v u Q I rx ry q hs
 ·exact h' value slice pins s σ H x y v u Q I rx ry q hs
theorem zME {r:R2} (hr:IxR X r) (ha:PE X a ta) (hb:PE X b tb) (hs:zEr b):PE X (.Subscript a b pos) (tOp r ta tb):=by
 intro pins s σ H Q I h
 exact Subscript_ (zIK ha hb I h fun v u s2 x y H2 I2 rx ry q=>hr a b pins s2 σ H2 x y v u Q I2 rx ry q (hs _ _))
noncomputable def zMf (K:PySem.W.Frag):R2:=fun x y H Q=>∃ p xs i v,x=.ref p/\y=.int i/\SqL K H p xs/\atI xs i=some v/\Q v H
noncomputable def zMR (K:PySem.W.Frag):R2:=fun x y H Q=>∃ p xs i v,x=.ref p/\y=.int i/\SqT K H p xs/\atI xs i=some v/\Q v H
noncomputable def zMr:R2:=fun x y H Q=>∃ z i c,x=.str z/\y=.int i/\z.length <= sizeLine/\atI z.cps.toList i=some c/\Q (.str ⟨#[c]⟩) H
theorem zIu:IxR X (zMf X.K):=by
 intro value slice pins s σ H x y v u Q I rx ry h hs
 obtain⟨p,xs,i,z,rfl,rfl,hq,he,q⟩:=h
 cases rx
 obtain⟨t,rfl⟩:=ry
 obtain⟨its,r,pl,hz⟩:=I.list hq
 obtain⟨j,h1,h2,h3,h4,h5⟩:=zCO he
 obtain⟨w,ew,rw'⟩:=r.get h2
 have hl:=r.length
 have hn:=QH
 have fin:EP X pins σ Q w s:=⟨z,H,I,rw',q⟩
 by_cases h0:0 <= i
 ·have hj:i.toNat=j:=by
   rw[seqIndex_of h0 h5] at h1
   exact Option.some.inj h1
  exact item_listR pl.isList h0 (by omega) (by rw[hj];simpa using ew) fin hs
 ·have hj:(i+(its.toArray.size:Int)).toNat=j:=by
   rw[seqIndex_neg (by omega) h4] at h1
   rw[List.size_toArray,<- hl]
   exact Option.some.inj h1
  exact subscriptTail_builtinR (x:=w) pl.isList.typeIs slot_list_getitem.lookup
   (wpAny_getItem_list_neg (Q:=fun r s'=>r=w/\EP X pins σ Q r s') pl.isList (by omega) (by rw[List.size_toArray]<;>omega) (by omega) (by rw[hj];simpa using ew) ⟨rfl,fin⟩) hs
theorem zJz:IxR X (zMR X.K):=by
 intro value slice pins s σ H x y v u Q I rx ry h hs
 obtain⟨p,xs,i,z,rfl,rfl,hq,he,q⟩:=h
 cases rx
 obtain⟨t,rfl⟩:=ry
 obtain⟨its,r,pl,hz⟩:=I.tuple hq
 obtain⟨j,h1,h2,h3,h4,h5⟩:=zCO he
 obtain⟨w,ew,rw'⟩:=r.get h2
 have hl:=r.length
 have hn:=QH
 have fin:EP X pins σ Q w s:=⟨z,H,I,rw',q⟩
 exact subscriptTail_builtinR (x:=w) pl.typeIs slot_tuple_getitem.lookup
  (getItem_tuple (j:=j) (Q:=fun r s'=>r=w/\EP X pins σ Q r s') pl (by omega) (by omega) (by rw[List.size_toArray,<- hl];exact h1) (by simpa using ew) ⟨rfl,fin⟩) hs
theorem zLE:IxR X zMr:=by
 intro value slice pins s σ H x y v u Q I rx ry h hs
 obtain⟨z,i,c,rfl,rfl,hz,he,q⟩:=h
 obtain⟨t,rfl⟩:=rx
 obtain⟨t',rfl⟩:=ry
 obtain⟨j,h1,h2,h3,h4,h5⟩:=zCO he
 have hl:z.cps.toList.length=z.length:=by simp[Str.length]
 rw[hl] at h1 h4 h5
 have hn:=QH
 exact tail_any (typeIs_str s z t) slot_str_getitem.lookup (getItem_str (c:=c) (by
  have e1:decide (i < -(2 ^ 63:Int))=false:=decide_eq_false (by omega)
  have e2:decide (i ≥ 2 ^ 63)=false:=decide_eq_false (by omega)
  rw[e1,e2,Bool.or_false]) (by rw[h1];simpa using h2) ⟨.str ⟨#[c]⟩,H,I.tok _,⟨_,rfl⟩,q⟩) hs
theorem zFC (its:List Value) (n j:Nat) (u:Value):Obj.mapSeq (·.setIfInBounds j u) { cls:=.type "list",data:=.seq its.toArray n }={ cls:=.type "list",data:=.seq (its.set j u).toArray n }:=by
 simp[Obj.mapSeq]
theorem Inv.lst {pins:List (Addr×Obj)}{σ:St}{H:Hp}{s:Shared}{p:Addr}{xs:List V} (I:Inv X pins σ H s) (h:H p=some (.lst xs)) :
  ∃ (its:List Value) (n:Nat),zX xs its/\s.heap.get? p=some { cls:=.type "list",data:=.seq its.toArray n }/\xs.length <= sizeLine:=by
 obtain⟨z,its,n,r,e⟩:=I.hok p _ h
 exact⟨its,n,r,e,z⟩
theorem Inv.lstUpd {pins:List (Addr×Obj)}{σ:St}{H:Hp}{s:Shared}{p:Addr}{xs ys:List V}{its its':List Value}{n n':Nat}{f:Obj->Obj} (I:Inv X pins σ H s) (h:H p=some (.lst xs))
  (ho:s.heap.get? p=some { cls:=.type "list",data:=.seq its.toArray n }) (hf:f { cls:=.type "list",data:=.seq its.toArray n }={ cls:=.type "list",data:=.seq its'.toArray n' }) (r:zX ys its') (hz:ys.length <= sizeLine) (t:Nat) (ht:0 < t:=by first | exact Nat.succ_pos _ | assumption | exact Inv.tk (by assumption) | omega) :
  Inv X pins σ (upd H p (.lst ys)) { s with heap:=s.heap.update p f,toks:=t }:=by
 have e:(s.heap.update p f).get? p=some { cls:=.type "list",data:=.seq its'.toArray n' }:=by
  rw[Heap.get?_update_self f ho (by rw[hf]<;>rfl),hf]
 refine I.write (x:=p) (e:=p) (by rw[h];trivial) (.inl rfl) (fun b u hb q=>(Heap.get?_update_other _ _ (Ne.symm hb)).trans q) ⟨_,e⟩ ?_
 exact⟨hz,its',n',r,e⟩
noncomputable def zMI:V->V->V->Hp->(Hp->Prop)->Prop:=fun o i v H Q=>∃ p xs k j,o=.ref p/\i=.int k/\H p=some (.lst xs)/\ixN xs.length k=some j/\Q (upd H p (.lst (xs.set j v)))
theorem zH5:zJ8 X zMI:=by
 intro pins s σ H o i v ov iv u Q I ro ri rv h
 obtain⟨p,xs,k,j,rfl,rfl,hp,hj,q⟩:=h
 cases ro
 obtain⟨t,rfl⟩:=ri
 obtain⟨its,n,r,ho,hz⟩:=I.lst hp
 obtain⟨h1,h2,h3,h4⟩:=zE5 hj
 have hl:=r.length
 have hn:=QH
 have I':Inv X pins σ (upd H p (.lst (xs.set j v))) { s with heap:=s.heap.update p (Obj.mapSeq (·.setIfInBounds j u)) } :=
  I.lstUpd hp ho (zFC its n j u) (r.set rv j) (by rw[List.length_set];exact hz) s.toks
 by_cases h0:0 <= k
 ·have hk:k.toNat=j:=by
   rw[seqIndex_of h0 h4] at h1
   exact Option.some.inj h1
  exact PySem.W.ki_setAt ho h0 (by omega) (by rw[List.size_toArray,<- hl];exact h4) (by rw[hk];exact⟨_,I',q⟩)
 ·have hk:(k+(its.toArray.size:Int)).toNat=j:=by
   rw[seqIndex_neg (by omega) h3] at h1
   rw[List.size_toArray,<- hl]
   exact Option.some.inj h1
  exact PySem.W.ki_setBack ho (by omega) (by rw[List.size_toArray,<- hl];exact h3) (by omega) (by rw[hk];exact⟨_,I',q⟩)
theorem zDV (lo hi:Option Int) (n:Nat):(sliceBounds lo hi none n).1=((HT.sIx n 0 lo:Nat):Int)/\(sliceBounds lo hi none n).2.1=((HT.sIx n n hi:Nat):Int)/\(sliceBounds lo hi none n).2.2=1:=by
 refine⟨?_,?_,rfl⟩
 ·cases lo with
  | none=>simp[sliceBounds,HT.sIx]
  | some i =>
   simp only[sliceBounds,HT.sIx,Option.getD_none,show (1:Int) > 0 by decide,if_true]
   by_cases h:i < 0
   ·simp only[h,if_true]<;>omega
   ·simp only[h,if_false]<;>omega
 ·cases hi with
  | none=>simp[sliceBounds,HT.sIx]
  | some i =>
   simp only[sliceBounds,HT.sIx,Option.getD_none,show (1:Int) > 0 by decide,if_true]
   by_cases h:i < 0
   ·simp only[h,if_true]<;>omega
   ·simp only[h,if_false]<;>omega
theorem zCt (its:List Value) (lo hi:Option Int):slicePick its.toArray lo hi none=((its.drop (HT.sIx its.length 0 lo)).take (HT.sIx its.length its.length hi - HT.sIx its.length 0 lo)).toArray:=by
 obtain⟨h1,h2,h3⟩:=zDV lo hi its.toArray.size
 unfold slicePick
 rw[h1,h2,h3]
 simp only[sliceRange_one,pick_run,List.size_toArray]<;>rfl
noncomputable def zMl (K:PySem.W.Frag):V->Option Int->Option Int->Hp->VK->Prop:=fun x lo hi H Q=>∃ a xs,x=.ref a/\SqL K H a xs/\∀ p,H p=none->Q (.ref p) (upd H p (.lst (Qx xs lo hi)))
theorem zJs:SlR X (zMl X.K):=by
 intro pins s σ H x v vl vu lo hi sl Q I rx hs pl pu h
 obtain⟨a,xs,rfl,hx,q⟩:=h
 cases rx
 obtain⟨its,r,ht,hz⟩:=I.list hx
 have hlen:=r.length
 refine⟨"list",_,slot_list_getitem.lookup,ht.isList.typeIs,?_⟩
 refine wpAny_getItem_list_slice ht.isList hs pl pu .none (by simp) ?_ (by rw[List.size_toArray]<;>omega)
 rw[zCt,<- hlen]
 refine⟨.ref s.heap.objs.size,_,I.laid (t':=s.toks) (o:=.lst (Qx xs lo hi)) (fun b ob q=>Heap.get?_push_of_some _ q) (Nat.le_refl _) ?_,rfl,q _ (I.hok.fresh (Nat.le_refl _))⟩
 exact⟨Nat.le_trans (zAc xs lo hi) hz,_,0,(r.drop (HT.sIx xs.length 0 lo)).take (HT.sIx xs.length xs.length hi - HT.sIx xs.length 0 lo),Heap.get?_push_size _ rfl⟩
noncomputable def qk:V->Bool
 | .non=>true
 | .bl _=>true
 | .int _=>true
 | .str _=>true
 | _=>false
noncomputable def eqV:V->V->Bool
 | .non,.non=>true
 | .bl a,.bl b=>a == b
 | .bl a,.int b=>(if a then 1 else 0) == b
 | .int a,.bl b=>a == (if b then 1 else 0)
 | .int a,.int b=>a == b
 | .str a,.str b=>a == b
 | _,_=>false
theorem zLA {A:Around}{s:Shared}{y x:V}{u v:Value} (ry:zc y u) (rx:zc x v) (fy:qk y=true) (fx:qk x=true):SeqAt.EqAt A s u v (eqV y x):=by
 cases y with
 | non =>
  cases ry
  cases x with
  | non=>cases rx;exact SeqAt.EqAt.same _
  | bl b=>cases rx;exact SeqAt.EqAt.none_bool b
  | int b=>obtain⟨t,rfl⟩:=rx;exact SeqAt.EqAt.none_int b t
  | str b=>obtain⟨t,rfl⟩:=rx;exact SeqAt.EqAt.none_str b t
  | _=>exact absurd (show false=true from fx) Bool.false_ne_true
 | bl a =>
  cases ry
  cases x with
  | non=>cases rx;exact SeqAt.EqAt.bool_none a
  | bl b=>cases rx;exact SeqAt.EqAt.bool_bool a b
  | int b=>obtain⟨t,rfl⟩:=rx;exact SeqAt.EqAt.bool_int a b t
  | str b=>obtain⟨t,rfl⟩:=rx;exact SeqAt.EqAt.bool_str a b t
  | _=>exact absurd (show false=true from fx) Bool.false_ne_true
 | int a =>
  obtain⟨t',rfl⟩:=ry
  cases x with
  | non=>cases rx;exact SeqAt.EqAt.int_none a t'
  | bl b=>cases rx;exact SeqAt.EqAt.int_bool a t' b
  | int b=>obtain⟨t,rfl⟩:=rx;exact SeqAt.EqAt.int_int a t' b t
  | str b=>obtain⟨t,rfl⟩:=rx;exact SeqAt.EqAt.int_str a t' b t
  | _=>exact absurd (show false=true from fx) Bool.false_ne_true
 | str a =>
  obtain⟨t',rfl⟩:=ry
  cases x with
  | non=>cases rx;exact SeqAt.EqAt.str_none a t'
  | bl b=>cases rx;exact SeqAt.EqAt.str_bool a t' b
  | int b=>obtain⟨t,rfl⟩:=rx;exact SeqAt.EqAt.str_int a t' b t
  | str b=>obtain⟨t,rfl⟩:=rx;exact SeqAt.EqAt.str_str a t' b t
  | _=>exact absurd (show false=true from fx) Bool.false_ne_true
 | _=>exact absurd (show false=true from fy) Bool.false_ne_true
noncomputable def eqU (x:V) (u:Value):Bool:=match u with
 | .none=>eqV .non x
 | .bool b=>eqV (.bl b) x
 | .int i _=>eqV (.int i) x
 | .str z _=>eqV (.str z) x
 | _=>false
theorem zG7 {x y:V}{u:Value} (r:zc y u) (f:qk y=true):eqU x u=eqV y x:=by
 cases y with
 | non=>cases r;rfl
 | bl b=>cases r;rfl
 | int i=>obtain⟨t,rfl⟩:=r;rfl
 | str z=>obtain⟨t,rfl⟩:=r;rfl
 | _=>exact absurd (show false=true from f) Bool.false_ne_true
theorem Q7 {x:V}:∀ {xs:List V}{us:List Value},zX xs us->xs.all qk=true->us.any (eqU x)=xs.any fun y=>eqV y x
 | _,_,.nil,_=>rfl
 | y::xs,u::us,.cons r t,f=>by
  rw[List.all_cons,Bool.and_eq_true] at f
  rw[List.any_cons,List.any_cons,zG7 r f.1,Q7 t f.2]
theorem QV {A:Around}{s:Shared}{x:V}{v:Value} (rx:zc x v) (fx:qk x=true):∀ {xs:List V}{us:List Value},zX xs us->xs.all qk=true->∀ u∈us,SeqAt.EqAt A s u v (eqU x u)
 | _,_,.nil,_=>fun u hu=>by cases hu
 | y::xs,u::us,.cons r t,f=>fun u' hu=>by
  rw[List.all_cons,Bool.and_eq_true] at f
  rcases List.mem_cons.mp hu with rfl | hu
  ·rw[zG7 r f.1];exact zLA r rx f.1 fx
  ·exact QV rx fx t f.2 u' hu
noncomputable def inV (x:V) (xs:List V):Bool:=xs.any fun y=>eqV y x
noncomputable def rIn (K:PySem.W.Frag) (neg:Bool):R2:=fun x y H Q=>∃ p xs,y=.ref p/\(SqL K H p xs\/SqT K H p xs)/\qk x=true/\xs.all qk=true/\Q (.bl (if neg then !inV x xs else inV x xs)) H
theorem zGS:OpR X (compareOp .In) (rIn X.K false):=by
 intro pins s σ H x y v u Q I rx ry h
 obtain⟨p,xs,rfl,hq,fx,fs,q⟩:=h
 cases ry
 rcases hq with hq | hq
 ·obtain⟨its,r,pl,hz⟩:=I.list hq
  refine SeqAt.in_listAt (eqU x) pl.isList (fun w hw=>QV rx fx r fs w (by simpa using hw)) ⟨.bl _,H,I,rfl,?_⟩
  rw[show its.toArray.any (eqU x)=its.any (eqU x) by simp,Q7 r fs]
  exact q
 ·obtain⟨its,r,pl,hz⟩:=I.tuple hq
  refine SeqAt.in_tupleAt (eqU x) pl (fun w hw=>QV rx fx r fs w (by simpa using hw)) ⟨.bl _,H,I,rfl,?_⟩
  rw[show its.toArray.any (eqU x)=its.any (eqU x) by simp,Q7 r fs]
  exact q
theorem zDq:OpR X (compareOp .NotIn) (rIn X.K true):=by
 intro pins s σ H x y v u Q I rx ry h
 obtain⟨p,xs,rfl,hq,fx,fs,q⟩:=h
 cases ry
 rcases hq with hq | hq
 ·obtain⟨its,r,pl,hz⟩:=I.list hq
  refine SeqAt.notIn_listAt (eqU x) pl.isList (fun w hw=>QV rx fx r fs w (by simpa using hw)) ⟨.bl _,H,I,rfl,?_⟩
  rw[show its.toArray.any (eqU x)=its.any (eqU x) by simp,Q7 r fs]
  exact q
 ·obtain⟨its,r,pl,hz⟩:=I.tuple hq
  refine SeqAt.notIn_tupleAt (eqU x) pl (fun w hw=>QV rx fx r fs w (by simpa using hw)) ⟨.bl _,H,I,rfl,?_⟩
  rw[show its.toArray.any (eqU x)=its.any (eqU x) by simp,Q7 r fs]
  exact q
theorem zDu:jh X (.builtin "len") (fun xs H Q=>∃ p ys,xs=[.ref p]/\(SqL X.K H p ys\/SqT X.K H p ys)/\Q (.int ys.length) H):=by
 intro pins s σ H xs us Q I r h
 obtain⟨p,ys,rfl,hq,q⟩:=h
 obtain⟨u,rfl,rx⟩:=yw r
 cases rx
 have hn:=QH
 rcases hq with hq | hq
 ·obtain⟨its,r',pl,hz⟩:=I.list hq
  have hlen:=r'.length
  exact Calls.call_len_list pl.isList (by simp only[List.size_toArray]<;>omega) ⟨.int ys.length,H,I.tok _,⟨s.toks+1,by rw[List.size_toArray,hlen]⟩,q⟩
 ·obtain⟨its,r',pl,hz⟩:=I.tuple hq
  have hlen:=r'.length
  exact len_tuple pl (by simp only[List.size_toArray]<;>omega) ⟨.int ys.length,H,I.tok _,⟨s.toks+1,by rw[List.size_toArray,hlen]⟩,q⟩
theorem zDv:jh X (.builtin "len") (fun xs H Q=>∃ z,xs=[.str z]/\z.length <= sizeLine/\Q (.int z.length) H):=by
 intro pins s σ H xs us Q I r h
 obtain⟨z,rfl,hz,q⟩:=h
 obtain⟨u,rfl,t,rfl⟩:=yw r
 have hn:=QH
 exact len_str (by omega) ⟨.int z.length,H,I.tok _,⟨_,rfl⟩,q⟩
theorem jh.or {f:Value}{r r':List V->Hp->VK->Prop} (h:jh X f r) (h':jh X f r'):jh X f (fun xs H Q=>r xs H Q\/r' xs H Q):=by
 intro pins s σ H xs us Q I rs q
 rcases q with q | q
 ·exact h pins s σ H xs us Q I rs q
 ·exact h' pins s σ H xs us Q I rs q
theorem zDp:jh X (.type "list") (fun xs H Q=>∃ p ys,xs=[.ref p]/\(SqL X.K H p ys\/SqT X.K H p ys)/\∀ l,H l=none->Q (.ref l) (upd H l (.lst ys))):=by
 intro pins s σ H xs us Q I r h
 obtain⟨p,ys,rfl,hq,q⟩:=h
 obtain⟨u,rfl,rx⟩:=yw r
 cases rx
 have fin:∀ (its:List Value),zX ys its->ys.length <= sizeLine->∀ (h':Heap) (c':Nat),(∀ b o',s.heap.get? b=some o'->h'.get? b=some o') ->
   h'.get? s.heap.objs.size=some { cls:=.type "list",dict:=none,data:=.seq its.toArray c',slots:=#[] }->EP X pins σ Q (.ref s.heap.objs.size) { s with heap:=h' }:=fun its r' hz h' c' kp e =>
  ⟨.ref s.heap.objs.size,_,I.laid (t':=s.toks) kp (Nat.le_refl _) (show jm X.prog X.w _ h' _ (.lst ys) from ⟨hz,its,c',r',e⟩),rfl,q _ (I.hok.fresh (Nat.le_refl _))⟩
 rcases hq with hq | hq
 ·obtain⟨its,r',pl,hz⟩:=I.list hq
  have hlen:=r'.length
  obtain⟨o,ho,hc,n,hd⟩:=pl.isList
  exact call_list_seq p (.inl rfl) ho hc hd (fun h' c' kp e=>fin its r' hz h' c' kp e) (by simp only[List.size_toArray]<;>omega)
 ·obtain⟨its,r',pl,hz⟩:=I.tuple hq
  have hlen:=r'.length
  obtain⟨o,ho,hc,n,hd⟩:=pl
  exact call_list_seq p (.inr rfl) ho hc hd (fun h' c' kp e=>fin its r' hz h' c' kp e) (by simp only[List.size_toArray]<;>omega)
theorem zCr:jh X (.type "tuple") (fun xs H Q=>∃ p ys,xs=[.ref p]/\((SqL X.K H p ys/\∀ l,H l=none->Q (.ref l) (upd H l (.tup ys)))\/(SqT X.K H p ys/\Q (.ref p) H))):=by
 intro pins s σ H xs us Q I r h
 obtain⟨p,ys,rfl,h⟩:=h
 obtain⟨u,rfl,rx⟩:=yw r
 cases rx
 rcases h with ⟨hq,q⟩ | ⟨hq,q⟩
 ·obtain⟨its,r',pl,hz⟩:=I.list hq
  have hlen:=r'.length
  refine call_tuple_list pl.isList (fun h' kp=>?_) (by simp only[List.size_toArray]<;>omega)
  have I1:Inv X pins σ H { s with heap:=h' }:=I.kept (t':=s.toks) kp
  have I2:Inv X pins σ (upd H h'.objs.size (.tup ys)) { s with heap:=h'.push { cls:=.type "tuple",data:=.seq its.toArray } } :=
   I1.laid (t':=s.toks) (fun b o e=>Heap.get?_push_of_some _ e) (Nat.le_refl _) (show jm X.prog X.w _ _ _ (.tup ys) from ⟨hz,its,r',IsTup.new _ _⟩)
  exact⟨.ref h'.objs.size,_,I2,rfl,q _ (I1.hok.fresh (Nat.le_refl _))⟩
 ·obtain⟨its,r',pl,hz⟩:=I.tuple hq
  exact call_tuple_same pl ⟨.ref p,H,I,rfl,q⟩
noncomputable def tyV (K:PySem.W.Frag) (T:String) (x:V) (H:Hp):Prop:=match x with
 | .str _=>T = "str"
 | .int _=>T = "int"
 | .ref p=>(T = "list" /\ ∃ xs,SqL K H p xs)\/(T = "tuple" /\ ∃ o,K.lookup p=some o/\o.cls=.type "tuple" /\ o.dict=none) \/
   (T = "dict" /\ ((∃ kvs,H p=some (.dK kvs))\/(∃ kvs,H p=some (.dT kvs))\/∃ φ:Heap->Prop,H p=some (.ext φ)/\∀ h,φ h->∃ o,h.get? p=some o/\o.ExactDict))\/(T = "set" /\ ∃ S n,H p=some (.set S n))
 | _=>False
theorem zLO {pins:List (Addr×Obj)}{σ:St}{H:Hp}{s:Shared}{T:String}{x:V}{v:Value} (I:Inv X pins σ H s) (r:zc x v) (ty:tyV X.K T x H) :
  s.TypeIs v T/\∀ a,v=.ref a->∃ ob,s.heap.get? a=some ob/\ob.dict=none:=by
 cases x with
 | str z =>
  obtain⟨t,rfl⟩:=r
  cases (show T = "str" from ty)
  exact⟨typeIs_str s z t,fun _ e=>nomatch e⟩
 | int i =>
  obtain⟨t,rfl⟩:=r
  cases (show T = "int" from ty)
  exact⟨typeIs_int s i t,fun _ e=>nomatch e⟩
 | ref p =>
  cases r
  rcases ty with ⟨rfl,xs,hq⟩ | ⟨rfl,o,hk,hc,hd⟩ | ⟨rfl,hk⟩ | ⟨rfl,S,n,hk⟩
  ·obtain⟨its,_,pl,_⟩:=I.list hq
   refine⟨pl.isList.typeIs,fun a e=>?_⟩
   cases e
   obtain⟨o,n,e,c,hd,_⟩:=pl
   exact⟨o,e,hd⟩
  ·refine⟨⟨o,I.kIn p o hk,hc⟩,fun a e=>?_⟩
   cases e
   exact⟨o,I.kIn _ o hk,hd⟩
  ·have z:∃ o,s.heap.get? p=some o/\o.ExactDict:=by
    rcases hk with ⟨kvs,hk⟩ | ⟨kvs,hk⟩ | ⟨φ,hk,hz⟩
    ·obtain⟨_,_,_,_,o,_,_,e,ex,_⟩:=I.hok p _ hk
     exact⟨o,e,ex⟩
    ·obtain⟨_,_,_,_,o,_,_,e,ex,_⟩:=I.hok p _ hk
     exact⟨o,e,ex⟩
    ·exact hz _ (I.hok p _ hk).1
   obtain⟨o,e,ex⟩:=z
   refine⟨⟨o,e,ex.1⟩,fun a e2=>?_⟩
   cases e2
   exact⟨o,e,ex.2.1⟩
  ·obtain⟨o,_,_,_,e,ex,_⟩:=I.hok p _ hk
   refine⟨⟨o,e,ex.1⟩,fun a e2=>?_⟩
   cases e2
   exact⟨o,e,ex.2.1⟩
 | _=>exact False.elim ty
noncomputable def tBM (K:PySem.W.Frag) (T:String) (r:V->List V->Hp->VK->Prop) (to:TE) (t:TA):TE:=fun σ H Q=>to σ H fun x H1=>tyV K T x H1/\t σ H1 fun xs H2=>r x xs H2 Q
variable {o e:Expr}{es:List Expr}{to:TE}{t:TA}{name:Str}{apos cpos:Pos}{T id:String}{r:V->List V->Hp->VK->Prop}
theorem zIX (pa:PlainAttrs T) (slot:Slot T name id) (hty:typeOf (.builtin id)=pure (.type "method_descriptor")) (hm:MtR X id r) (ho:PE X o to) (ha:PA X (e::es) t)
  (hbase:attributeBase o name X.env (eval o X.env)=eval o X.env:=by rfl)
  (hfew:((backTo cpos (starEach (e::es) X.env)).all (fun x=>!x.1) && (backToKw cpos (keywordEach [] X.env)).all (fun x=>x.1.isSome)
   && decide ((e::es).length+([]:List Keyword).length+(if ([]:List Keyword).isEmpty then 0 else 1) < 30))=true:=by rfl)
  (hline:(apos.endLine == cpos.line)=true:=by rfl) (hs:starEach (e::es) X.env=(false,eval e X.env)::starEach es X.env:=by rfl) (hplain:(backTo cpos (starEach es X.env)).any (·.1)=false:=by rfl) :
  PE X (.Call (.Attribute o name apos) (e::es) [] cpos) (tBM X.K T r to t):=by
 intro pins s σ H Q I h
 refine wpAny_Call_method_late hbase hfew hline rfl (thn (ho pins s σ H _ I h) fun v s1 ⟨x,H1,I1,r1,ty,q1⟩=>?_)
 obtain⟨h1,h2⟩:=zLO I1 r1 ty
 refine⟨T,id,pa,slot,hty,h1,h2,?_⟩
 have hA:=ha cpos pins s1 σ H1 _ I1 q1
 rw[hs] at hA ⊢
 refine Calls.callWith_builtin (by show (false || (backTo cpos (starEach es X.env)).any (·.1))=false;rw[hplain]<;>rfl) (Calls.evalArgs_plain ?_)
 exact thn hA fun us s2 ⟨vs,H2,I2,r2,q2⟩=>hm pins s2 σ H2 x vs v us Q I2 r1 r2 q2
end
end L2
namespace L2
open PySem PySem.Spec PyProof.Rows
noncomputable def MtM (X:Cx) (id:String) (r:V->List V->Hp->VK->Prop):Prop :=
 ∀ (pins:List (Addr×Obj)) (s:Shared) (σ:St) (H:Hp) (x:V) (xs:List V) (v:Value) (us:List Value) (Q:VK),Inv X pins σ H s->zc x v->zX xs us->r x xs H Q ->
  wpAny (model X.prog X.w) X.A (call (.builtin id) (v::us)) (EP X pins σ Q) X.xe s
theorem zX.one:∀ {x:V}{us:List Value},zX [x] us->∃ u,us=[u]/\zc x u
 | _,_,.cons r .nil=>⟨_,rfl,r⟩
theorem zX.reverse {xs:List V}{us:List Value} (h:zX xs us):zX xs.reverse us.reverse:=by
 induction h with
 | nil=>exact .nil
 | cons r t ih=>rw[List.reverse_cons,List.reverse_cons];exact zX.append ih (.cons r .nil)
theorem zX.rep {xs:List V}{us:List Value} (h:zX xs us):∀ k:Nat,zX (List.replicate k xs).flatten (List.replicate k us).flatten
 | 0=>.nil
 | k+1=>by
  rw[List.replicate_succ,List.replicate_succ,List.flatten_cons,List.flatten_cons]
  exact zX.append h (zX.rep h k)
theorem zCY (its:List Value):∀ (k:Nat) (acc:List Value),
  List.foldl (fun x1 x2=>x1++x2) acc.toArray (List.replicate k its.toArray)=(acc++(List.replicate k its).flatten).toArray
 | 0,acc=>by simp
 | k+1,acc=>by
  have e:acc.toArray++its.toArray=(acc++its).toArray:=by simp
  have e2:(acc++its)++(List.replicate k its).flatten=acc++(List.replicate (k+1) its).flatten:=by
   rw[List.replicate_succ,List.flatten_cons,List.append_assoc]
  rw[<- e2,<- zCY its k (acc++its),<- e,List.replicate_succ,List.foldl_cons]
section
variable {X:Cx}{pins:List (Addr×Obj)}{σ:St}{H:Hp}{s:Shared}{l b:Addr}{xs ys zs:List V}
theorem Inv.lset {its its':List Value}{n:Nat}{f:Array Value->Array Value}{t':Nat} (I:Inv X pins σ H s) (hH:H l=some (.lst xs))
  (e:s.heap.get? l=some { cls:=.type "list",data:=.seq its.toArray n }) (hf:f its.toArray=its'.toArray) (hv:zX ys its') (hz:ys.length <= sizeLine) (ht:0 < t':=by first | exact Nat.succ_pos _ | assumption | exact Inv.tk (by assumption) | omega) :
  Inv X pins σ (upd H l (.lst ys)) { s with heap:=s.heap.update l (Obj.mapSeq f),toks:=t' }:=by
 have q:=PySem.IsL.update e f
 rw[hf] at q
 refine I.write (x:=l) (e:=l) (by rw[hH];exact trivial) (.inl rfl) (fun b' u hb hu=>(Heap.get?_update_other s.heap (Obj.mapSeq f) (Ne.symm hb)).trans hu) ⟨_,q⟩ ?_
 exact⟨hz,its',_,hv,q⟩
theorem Inv.lnew {its:List Value}{t':Nat} (I:Inv X pins σ H s) (hv:zX ys its) (hz:ys.length <= sizeLine) (ht:0 < t':=by first | exact Nat.succ_pos _ | assumption | exact Inv.tk (by assumption) | omega) :
  Inv X pins σ (upd H s.heap.objs.size (.lst ys)) { s with heap:=s.heap.push { cls:=.type "list",data:=.seq its.toArray },toks:=t' } :=
 I.laid (fun _ _ q=>Heap.get?_push_of_some _ q) (Nat.le_refl _) ⟨hz,its,0,hv,Heap.get?_push_size _ rfl⟩
theorem Inv.fresh (I:Inv X pins σ H s):H s.heap.objs.size=none:=I.hok.fresh (Nat.le_refl _)
theorem Inv.lstM (I:Inv X pins σ H s) (hH:H l=some (.lst xs)):xs.length <= sizeLine/\∃ (its:List Value) (n:Nat),zX xs its/\xs.length=its.length/\s.heap.get? l=some { cls:=.type "list",data:=.seq its.toArray n }:=by
 obtain⟨z,its,n,r,e⟩:=I.hok l _ hH
 exact⟨z,its,n,r,r.length,e⟩
theorem zII {n:Nat} (h:n <= sizeLine):Builtin.List.listTooLong n=false:=by
 unfold Builtin.List.listTooLong
 exact decide_eq_false (by omega)
end
section
variable {X:Cx}
noncomputable def zEo:V->List V->Hp->VK->Prop:=fun x vs H Q=>∃ l xs y,x=.ref l/\vs=[y]/\H l=some (.lst xs)/\xs.length < sizeLine/\Q .non (upd H l (.lst (xs++[y])))
theorem yI:MtM X "list.append" zEo:=by
 intro pins s σ H x vs v us Q I rx rv h
 obtain⟨l,xs,y,rfl,rfl,hH,hz,q⟩:=h
 cases rx
 obtain⟨u,rfl,ru⟩:=rv.one
 obtain⟨z,its,n,r,hl,e⟩:=I.lstM hH
 refine call_meets F.slot_list_append ⟨_,e,rfl⟩ F.entry_list_append (F.args_list_append_2 _ _) (PySem.list_append l its.toArray n u (by rw[List.size_toArray];omega)) ⟨e,?_⟩
 refine⟨.non,_,I.lset (its':=its++[u]) hH e (by simp) (r.append (.cons ru .nil)) ?_,rfl,q⟩
 rw[List.length_append,List.length_singleton]
 omega
noncomputable def zM1:R2:=fun x y H Q=>∃ l b xs zs,x=.ref l/\y=.ref b/\H l=some (.lst xs)/\H b=some (.lst zs)/\xs.length+zs.length <= sizeLine/\∀ p,H p=none->Q (.ref p) (upd H p (.lst (xs++zs)))
theorem zLB:OpR X (binaryOp .Add) zM1:=by
 intro pins s σ H x y v u Q I rx ry h
 obtain⟨l,b,xs,zs,rfl,rfl,hH,hB,hz,q⟩:=h
 cases rx
 cases ry
 obtain⟨z,its,n,r,hl,e⟩:=I.lstM hH
 obtain⟨z2,its2,n2,r2,hl2,e2⟩:=I.lstM hB
 refine PySem.P.add_list e e2 ?_ (by rw[List.size_toArray,List.size_toArray];omega)
 have ea:its.toArray++its2.toArray=(its++its2).toArray:=by simp
 rw[ea]
 exact⟨.ref _,_,I.lnew (t':=s.toks) (r.append r2) (by rw[List.length_append];omega),rfl,q _ I.fresh⟩
noncomputable def zLK:R2:=fun x y H Q=>∃ l k xs,x=.ref l/\y=.int k/\H l=some (.lst xs) /\ -(2 ^ 63) <= k/\k < 2 ^ 63/\xs.length * k.toNat <= sizeLine /\
 ∀ p,H p=none->Q (.ref p) (upd H p (.lst (List.replicate k.toNat xs).flatten))
theorem zJi {α:Type} (xs:List α) (k:Nat):(List.replicate k xs).flatten.length=k * xs.length:=by
 induction k with
 | zero=>simp
 | succ k ih=>rw[List.replicate_succ,List.flatten_cons,List.length_append,ih,Nat.succ_mul,Nat.add_comm]
theorem zKl:OpR X (binaryOp .Mult) zLK:=by
 intro pins s σ H x y v u Q I rx ry h
 obtain⟨l,k,xs,rfl,rfl,hH,h1,h2,hz,q⟩:=h
 cases rx
 obtain⟨t,rfl⟩:=ry
 obtain⟨z,its,n,r,hl,e⟩:=I.lstM hH
 have hlen:its.toArray.size * k.toNat <= sizeLine:=by rw[List.size_toArray,<- hl];exact hz
 have hcap:¬ its.toArray.size * k.toNat > (2 ^ 63 - 1) / 8:=by
  have:(sizeLine:Nat) <= (2 ^ 63 - 1) / 8:=by decide
  omega
 have hfit:¬ (!Builtin.List.listFitsIndex k)=true:=by
  rw[fitsIndex_both h1 h2]
  exact Bool.false_ne_true
 have hlong:¬ Builtin.List.listTooLong (its.toArray.size * k.toNat)=true:=by
  rw[zII hlen]
  exact Bool.false_ne_true
 have hnew:List.foldl (fun x1 x2=>x1++x2) #[] (List.replicate (if its.toArray.isEmpty=true then 0 else k.toNat) its.toArray)=(List.replicate k.toNat its).flatten.toArray:=by
  have f0:∀ m:Nat,List.foldl (fun x1 x2=>x1++x2) #[] (List.replicate m its.toArray)=(List.replicate m its).flatten.toArray:=fun m=>by
   have:=zCY its m []
   rw[List.nil_append] at this
   exact this
  rw[f0]
  cases its with
  | nil=>simp
  | cons a r'=>rw[if_neg (by simp)]
 refine wpAny_binaryOp_repeat_ref (T := "list") (U := "int") (by decide) ⟨_,e,rfl⟩ (fun s'=>typeIs_int s' k t) noFill_list_mul F.fills_int_mul F.slot_int_rmul repeat_list F.slot_int_index.lookup
  (call_meets F.slot_int_rmul (typeIs_int s k t) F.entry_int_rmul (F.args_int_rmul_2 _ _) (int___rmul___int_list k t l its.toArray n)
   ⟨e,rfl,⟨_,e,rfl⟩,call_meets F.slot_list_mul ⟨_,e,rfl⟩ F.entry_list_mul (F.args_list_mul_2 _ _) (AutoListH.list___mul___list_int_3 l its.toArray n k t hfit hcap hlong) ⟨e,?_⟩⟩)
 rw[hnew]
 exact⟨.ref _,_,I.lnew (t':=s.toks) (r.rep k.toNat) (by rw[zJi,Nat.mul_comm];exact hz),rfl,q _ I.fresh⟩
end
section
variable {prog:Program}{w:World}{A:Around}{E:Value->Shared->Prop}{s:Shared}
set_option maxRecDepth 100000 in
end
end L2
namespace L2
open PySem PySem.Spec PyProof.Rows
section
variable {κ:Type} [DecidableEq κ]
noncomputable def yL (kvs:List (κ×V)) (k:κ):Option V:=(kvs.find? fun kv=>decide (kv.1=k)).map (·.2)
noncomputable def ZI (kvs:List (κ×V)) (k:κ) (v:V):List (κ×V) :=
 if (kvs.any fun kv=>decide (kv.1=k))=true then kvs.map (fun kv=>if kv.1=k then (kv.1,v) else kv) else kvs++[(k,v)]
theorem JS {p:κ×V}{r:List (κ×V)}{k:κ} (e:p.1=k):yL (p::r) k=some p.2:=by simp[yL,List.find?_cons,e]
theorem JZ {p:κ×V}{r:List (κ×V)}{k:κ} (e:¬ p.1=k):yL (p::r) k=yL r k:=by simp[yL,List.find?_cons,e]
theorem zEC (k:κ):∀ kvs:List (κ×V),(kvs.any fun kv=>decide (kv.1=k))=(yL kvs k).isSome
 | []=>rfl
 | p::r=>by
  rw[List.any_cons]
  by_cases e:p.1=k
  ·simp only[JS e,decide_eq_true e,Bool.true_or,Option.isSome_some]
  ·rw[JZ e,decide_eq_false e,Bool.false_or];exact zEC k r
theorem zAd (kvs:List (κ×V)) (k:κ) (v:V):(ZI kvs k v).length <= kvs.length+1:=by
 unfold ZI
 split
 ·rw[List.length_map];omega
 ·rw[List.length_append,List.length_cons,List.length_nil];omega
theorem y8.isSome_eq {o:Option V}{u:Option Value} (r:y8 o u):o.isSome=u.isSome:=by
 cases o with
 | none=>cases u with
  | none=>rfl
  | some _=>exact (show False from r).elim
 | some _=>cases u with
  | none=>exact (show False from r).elim
  | some _=>rfl
theorem KV.val {kvs:List (κ×V)}{vs:List (κ×Value)} (r:KV kvs vs) (k:κ):y8 (yL kvs k) (valueAt vs k):=by
 unfold KV at r
 induction r with
 | nil=>exact True.intro
 | @cons p q ps qs h t ih =>
  obtain⟨h1,h2⟩:=h
  by_cases e:p.1=k
  ·have e':q.1=k:=h1.symm.trans e
   have b:valueAt (q::qs) k=some q.2:=by simp[valueAt,List.find?_cons,e']
   rw[JS e,b];exact h2
  ·have e':¬ q.1=k:=fun z=>e (h1.trans z)
   have b:valueAt (q::qs) k=valueAt qs k:=by simp[valueAt,List.find?_cons,e']
   rw[JZ e,b];exact ih
theorem KV.any {kvs:List (κ×V)}{vs:List (κ×Value)} (r:KV kvs vs) (k:κ):(kvs.any fun kv=>decide (kv.1=k))=vs.any fun kv=>decide (kv.1=k):=by
 unfold KV at r
 induction r with
 | nil=>rfl
 | cons h t ih=>rw[List.any_cons,List.any_cons,ih,h.1]
theorem KV.repl {kvs:List (κ×V)}{vs:List (κ×Value)} (r:KV kvs vs) (k:κ) {y:V}{u:Value} (ry:zc y u) :
  KV (kvs.map fun kv=>if kv.1=k then (kv.1,y) else kv) (vs.map fun kv=>if kv.1=k then (kv.1,u) else kv):=by
 unfold KV at r ⊢
 induction r with
 | nil=>exact .nil
 | @cons p q ps qs h t ih =>
  rw[List.map_cons,List.map_cons]
  refine .cons ?_ ih
  obtain⟨h1,h2⟩:=h
  by_cases e:p.1=k
  ·rw[if_pos e,if_pos (h1.symm.trans e)];exact⟨h1,ry⟩
  ·rw[if_neg e,if_neg (fun z=>e (h1.trans z))];exact⟨h1,h2⟩
theorem KV.put {kvs:List (κ×V)}{vs:List (κ×Value)} (r:KV kvs vs) (k:κ) {y:V}{u:Value} (ry:zc y u):KV (ZI kvs k y) (stored vs k u):=by
 unfold ZI stored
 rw[r.any k]
 by_cases e:(vs.any fun kv=>decide (kv.1=k))=true
 ·rw[if_pos e,if_pos e];exact r.repl k ry
 ·rw[if_neg e,if_neg e];exact Paired.snoc r ⟨rfl,ry⟩
theorem KV.keys {kvs:List (κ×V)}{vs:List (κ×Value)} (r:KV kvs vs):kvs.map (·.1)=vs.map (·.1):=by
 unfold KV at r
 induction r with
 | nil=>rfl
 | cons h t ih=>rw[List.map_cons,List.map_cons,ih,h.1]
theorem KV.length {kvs:List (κ×V)}{vs:List (κ×Value)} (r:KV kvs vs):kvs.length=vs.length:=Paired.length r
end
theorem zBS {P:Program}{w:World}{k:Key}{u:Value} (r:zc (kV k) u):(qG P w).is k u=true:=by
 cases k with
 | inl i=>obtain⟨t,e⟩:=(show ∃ t,u=Value.int i t from r);subst e;exact zEV P w i t
 | inr x=>obtain⟨t,e⟩:=(show ∃ t,u=Value.str x t from r);subst e;exact zET P w x t
theorem zCe {P:Program}{w:World}:∀ {ks:List Key}{us:List Value},zX (ks.map kV) us->ItemsAre (qG P w) ks us
 | [],_,r=>by rw[List.map_nil] at r;cases r;exact .nil
 | k::ks,_,r=>by
  rw[List.map_cons] at r
  cases r with
  | cons h t=>exact .cons (zBS h) (zCe t)
noncomputable abbrev KT (H:Hp):List (List Key×V)->List (List Key×Addr×Value)->Prop:=Paired fun p q=>p.1=q.1/\H q.2.1=some (.tup (p.1.map kV))/\zc p.2 q.2.2
theorem KT.val {H:Hp}{kvs:List (List Key×V)}{xs:List (List Key×Addr×Value)} (r:KT H kvs xs) (k:List Key):y8 (yL kvs k) ((atKey xs k).map (·.2)):=by
 induction r with
 | nil=>exact True.intro
 | @cons p q ps qs h t ih =>
  obtain⟨h1,_,h2⟩:=h
  by_cases e:p.1=k
  ·have e':q.1=k:=h1.symm.trans e
   have b:atKey (q::qs) k=some q.2:=by simp[atKey,List.find?_cons,e']
   rw[JS e,b];exact h2
  ·have e':¬ q.1=k:=fun z=>e (h1.trans z)
   have b:atKey (q::qs) k=atKey qs k:=by simp[atKey,List.find?_cons,e']
   rw[JZ e,b];exact ih
theorem KT.repl {H:Hp}{kvs:List (List Key×V)}{xs:List (List Key×Addr×Value)} (r:KT H kvs xs) (k:List Key) {y:V}{u:Value} (ry:zc y u) :
  KT H (kvs.map fun kv=>if kv.1=k then (kv.1,y) else kv) (xs.map (putAt k u)):=by
 induction r with
 | nil=>exact .nil
 | @cons p q ps qs h t ih =>
  rw[List.map_cons,List.map_cons]
  refine .cons ?_ ih
  obtain⟨h1,h2,h3⟩:=h
  unfold putAt
  by_cases e:p.1=k
  ·rw[if_pos e,if_pos (h1.symm.trans e)];exact⟨h1,h2,ry⟩
  ·rw[if_neg e,if_neg (fun z=>e (h1.trans z))];exact⟨h1,h2,h3⟩
theorem KT.put {H:Hp}{kvs:List (List Key×V)}{xs:List (List Key×Addr×Value)} (r:KT H kvs xs) (k:List Key) {b:Addr}{y:V}{u:Value} (hb:H b=some (.tup (k.map kV))) (ry:zc y u) :
  KT H (ZI kvs k y) (storedH xs k b u):=by
 have e:(kvs.any fun kv=>decide (kv.1=k))=(atKey xs k).isSome:=by
  rw[zEC,(r.val k).isSome_eq,Option.isSome_map]
 unfold ZI storedH
 rw[e]
 by_cases q:(atKey xs k).isSome=true
 ·rw[if_pos q,if_pos q];exact r.repl k ry
 ·rw[if_neg q,if_neg q];exact Paired.snoc r ⟨rfl,hb,ry⟩
theorem KT.keeps {H H':Hp}{kvs:List (List Key×V)}{xs:List (List Key×Addr×Value)} (r:KT H kvs xs) (ht:∀ b ys,H b=some (.tup ys)->H' b=some (.tup ys)):KT H' kvs xs :=
 Paired.mapP r fun _ _ z=>⟨z.1,ht _ _ z.2.1,z.2.2⟩
section
variable {P:Program}{w:World}{H:Hp}{h:Heap}{a:Addr}
theorem zIY {u:HO} (ok:HOk P w H h) (e:Rd H a u):jm P w H h a u:=e.ok ok
theorem zAG {kvs:List (Key×V)} (ok:HOk P w H h) (e:Rd H a (.dK kvs)):kvs.length <= sizeLine/\(a == sysModules)=false/\∃ vs,KV kvs vs/\h.DictOf (qG P w) a vs :=
 show jm P w H h a (.dK kvs) from zIY ok e
theorem zAK {kvs:List (Key×V)} (ok:HOk P w H h) (e:H a=some (.dK kvs)):kvs.length <= sizeLine/\(a == sysModules)=false/\∃ vs,KV kvs vs/\h.DictOf (qG P w) a vs:=zAG ok (.inl e)
theorem zAB {ks:List Key} (ok:HOk P w H h) (e:H a=some (.tup (ks.map kV))):(tupleKind (qG P w)).is h ks a:=by
 obtain⟨_,its,r,o,h1,h2,n,h3⟩:=(show jm P w H h a (.tup (ks.map kV)) from ok a _ e)
 exact⟨o,its.toArray,n,h1,h2,h3,by simpa using zCe r⟩
theorem zBC {kvs:List (List Key×V)} (ok:HOk P w H h) (e:Rd H a (.dT kvs)):kvs.length <= sizeLine/\(a == sysModules)=false /\
  ∃ xs,KT H kvs xs/\h.DictOfH (tupleKind (qG P w)) a xs:=by
 obtain⟨z,y,xs,r,o,es,ep,h1,h2,h3,h4,h5⟩:=(show jm P w H h a (.dT kvs) from zIY ok e)
 refine⟨z,y,xs,r,o,es,ep,h1,h2,h3,h4,fun x hx=>?_,h5⟩
 have all:∀ {l:List (List Key×V)}{m:List (List Key×Addr×Value)},KT H l m->∀ x∈m,(tupleKind (qG P w)).is h x.1 x.2.1:=by
  intro l m q
  induction q with
  | nil=>intro x hx;exact nomatch hx
  | @cons p q ps qs hq t ih =>
   intro x hx
   rcases List.mem_cons.mp hx with e | hx
   ·subst e
    exact zAB ok (by rw[<- hq.1];exact hq.2.1)
   ·exact ih x hx
 exact all r x hx
theorem zLq {kvs:List (List Key×V)} (ok:HOk P w H h) (e:H a=some (.dT kvs)):kvs.length <= sizeLine/\(a == sysModules)=false /\
  ∃ xs,KT H kvs xs/\h.DictOfH (tupleKind (qG P w)) a xs:=zBC ok (.inl e)
end
noncomputable def Ql (H:Hp) (a:Addr) (y:V) (r:Option V):Prop :=
 (∃ kvs k,Rd H a (.dK kvs)/\y=kV k/\r=yL kvs k)\/∃ kvs k b,Rd H a (.dT kvs)/\y=.ref b/\H b=some (.tup (k.map kV))/\r=yL kvs k
noncomputable def zDH (H:Hp) (a:Addr) (y v:V) (H':Hp):Prop :=
 (∃ kvs k,H a=some (.dK kvs)/\y=kV k/\kvs.length < sizeLine/\H'=upd H a (.dK (ZI kvs k v))) \/
 ∃ kvs k b,H a=some (.dT kvs)/\y=.ref b/\H b=some (.tup (k.map kV))/\kvs.length < sizeLine/\H'=upd H a (.dT (ZI kvs k v))
theorem Ql.k {H:Hp}{a:Addr}{kvs:List (Key×V)}{k:Key} (e:H a=some (.dK kvs)):Ql H a (kV k) (yL kvs k):=.inl ⟨kvs,k,.inl e,rfl,rfl⟩
theorem zDH.k {H:Hp}{a:Addr}{kvs:List (Key×V)}{k:Key}{v:V} (e:H a=some (.dK kvs)) (hl:kvs.length < sizeLine):zDH H a (kV k) v (upd H a (.dK (ZI kvs k v))):=.inl ⟨kvs,k,e,rfl,hl,rfl⟩
section
variable {X:Cx}{pins:List (Addr×Obj)}{σ:St}{H:Hp}{s:Shared}{a:Addr}{y v:V}{u r:Value}{o:Option V}{A:Around}{E:Value->Shared->Prop}
theorem Inv.big (I:Inv X pins σ H s):sysModules < s.heap.objs.size:=by
 have h:mainGlobals < s.heap.objs.size:=(I.mod.glob.keeps I.bk).lt
 exact Nat.lt_trans (by decide) h
theorem zGc {Q:Value->Shared->Prop} (hu:A.units+1 < cLine) (I:Inv X pins σ H s) (g:Ql H a y (some v)) (ry:zc y u) (h:∀ w' s',Inv X pins σ H s'->zc v w'->Q w' s') :
  wpAny (model X.prog X.w) A (getItem (.ref a) u) Q E s:=by
 rcases g with ⟨kvs,k,e,ey,l⟩ | ⟨kvs,k,b,e,ey,eb,l⟩
 ·subst ey
  obtain⟨z,hd,vs,rel,dd⟩:=zAG I.hok e
  obtain⟨w',hw,rw'⟩:=y8.some_of (v:=v) (o:=valueAt vs k) (by rw[l];exact rel.val k)
  exact wpAny_getItem_of (zBS ry) dd.mapOf hw (h w' _ (I.tok _) rw')
 ·subst ey
  cases (show u=Value.ref b from ry)
  obtain⟨z,hd,xs,rel,dd⟩:=zBC I.hok e
  obtain⟨w',hw,rw'⟩:=y8.some_of (v:=v) (o:=(atKey xs k).map (·.2)) (by rw[l];exact rel.val k)
  obtain⟨p,hp,hp2⟩:=Option.map_eq_some_iff.mp hw
  refine wpAny_getItem_heap (tupleKind_room_in1 hu) (zAB I.hok eb) dd hp ?_
  rw[hp2]
  exact h w' _ (I.tok _) rw'
theorem zMp {Q:Value->Shared->Prop} (hu:A.units+1 < cLine) (I:Inv X pins σ H s) (g:Ql H a y o) (ry:zc y u) (h:∀ s',Inv X pins σ H s'->Q (.bool o.isSome) s') :
  wpAny (model X.prog X.w) A (compareOp .In u (.ref a)) Q E s:=by
 rcases g with ⟨kvs,k,e,ey,l⟩ | ⟨kvs,k,b,e,ey,eb,l⟩
 ·subst ey
  obtain⟨z,hd,vs,rel,dd⟩:=zAG I.hok e
  refine wpAny_in_of (zBS ry) hd dd.mapOf ?_
  rw[<- (rel.val k).isSome_eq,<- l]
  exact h _ (I.tok _)
 ·subst ey
  cases (show u=Value.ref b from ry)
  obtain⟨z,hd,xs,rel,dd⟩:=zBC I.hok e
  refine wpAny_in_heap (tupleKind_room_in1 hu) (zAB I.hok eb) hd dd ?_
  have q:=(rel.val k).isSome_eq
  rw[Option.isSome_map] at q
  rw[<- q,<- l]
  exact h _ (I.tok _)
theorem zIr {Q:Value->Shared->Prop} (hu:A.units+1 < cLine) (I:Inv X pins σ H s) (g:Ql H a y o) (ry:zc y u) (h:∀ s',Inv X pins σ H s'->Q (.bool (!o.isSome)) s') :
  wpAny (model X.prog X.w) A (compareOp .NotIn u (.ref a)) Q E s:=by
 rcases g with ⟨kvs,k,e,ey,l⟩ | ⟨kvs,k,b,e,ey,eb,l⟩
 ·subst ey
  obtain⟨z,hd,vs,rel,dd⟩:=zAG I.hok e
  refine wpAny_notIn_of (zBS ry) hd dd.mapOf ?_
  rw[<- (rel.val k).isSome_eq,<- l]
  exact h _ (I.tok _)
 ·subst ey
  cases (show u=Value.ref b from ry)
  obtain⟨z,hd,xs,rel,dd⟩:=zBC I.hok e
  refine wpAny_notIn_heap (tupleKind_room_in1 hu) (zAB I.hok eb) hd dd ?_
  have q:=(rel.val k).isSome_eq
  rw[Option.isSome_map] at q
  rw[<- q,<- l]
  exact h _ (I.tok _)
theorem zAT {h':Heap}{t':Nat}{ob:HO} (I:Inv X pins σ H s) (mu:Mut (H a)) (hs:Heap.SameBut a s.heap h') (he:∃ q,h'.get? a=some q) (new:jm X.prog X.w (upd H a ob) h' a ob) (ht:0 < t':=by first | exact Nat.succ_pos _ | assumption | exact Inv.tk (by assumption) | omega) :
  Inv X pins σ (upd H a ob) { s with heap:=h',toks:=t' } :=
 I.write (x:=a) (e:=a) mu (.inl rfl) (fun b q hb z=>(hs.2 b hb).trans z) he new
theorem zK7 {P:Program}{w:World}{H':Hp}{h':Heap}{kvs:List (Key×V)}{vs:List (Key×Value)} (z:kvs.length <= sizeLine) (hd:(a == sysModules)=false) (rel:KV kvs vs) (dd:h'.DictOf (qG P w) a vs) :
  jm P w H' h' a (.dK kvs):=⟨z,hd,vs,rel,dd⟩
theorem zGw {H':Hp}{Q:Unit->Shared->Prop} (hu:A.units+1 < cLine) (I:Inv X pins σ H s) (g:zDH H a y v H') (ry:zc y u) (rv:zc v r) (h:∀ s',Inv X pins σ H' s'->Q () s') :
  wpAny (model X.prog X.w) A (setItem (.ref a) u r) Q E s:=by
 rcases g with ⟨kvs,k,e,ey,l,eH⟩ | ⟨kvs,k,b,e,ey,eb,l,eH⟩
 ·subst ey eH
  obtain⟨z,hd,vs,rel,dd⟩:=zAK I.hok e
  have hz:vs.length <= sizeLine:=by rw[<- rel.length];exact z
  have hl:(ZI kvs k v).length <= sizeLine:=by have:=zAd kvs k v;omega
  refine wpAny_setItem_pairs (hsz:=hz) (zBS ry) dd fun h' dd' hs=>h _ ?_
  have he:∃ q,h'.get? a=some q:=let ⟨q,_,_,hq,_⟩:=dd';⟨q,hq⟩
  exact zAT I (by rw[e];exact True.intro) hs he (zK7 hl hd (rel.put k rv) dd')
 ·subst ey eH
  cases (show u=Value.ref b from ry)
  obtain⟨z,hd,xs,rel,dd⟩:=zLq I.hok e
  have hz:xs.length <= sizeLine:=by rw[<- Paired.length rel];exact z
  have hl:(ZI kvs k v).length <= sizeLine:=by have:=zAd kvs k v;omega
  refine wpAny_setItem_heap (hsz:=hz) (tupleKind_room_in1 hu) (zAB I.hok eb) dd fun h' dd' hs=>h _ ?_
  obtain⟨q,es,ep,hq,h2,h3,h4,_,h5⟩:=dd'
  refine zAT I (by rw[e];exact True.intro) hs ⟨q,hq⟩ ⟨hl,hd,_,(rel.put k eb rv).keeps fun c ys ec=>?_,q,es,ep,hq,h2,h3,h4,h5⟩
  rw[jA (zL0 ec e (fun z=>nomatch z))]
  exact ec
end
section
variable {X:Cx}{pins:List (Addr×Obj)}{σ:St}{H:Hp}{s:Shared}{a:Addr}{kvs:List (Key×V)}{k:Key}{u:Value}{A:Around}{E:Value->Shared->Prop}
theorem zMM {Q:Value->Shared->Prop} (I:Inv X pins σ H s) (e:Rd H a (.dK kvs)) (h:∀ t s',Inv X pins σ H s'->Q (.int kvs.length t) s'):wpAny (model X.prog X.w) A (call (.builtin "len") [.ref a]) Q E s:=by
 obtain⟨z,hd,vs,rel,dd⟩:=zAG I.hok e
 refine call_len_dict hd dd (by rw[<- rel.length];rw[sizeLine_eq] at z;omega) ?_
 rw[<- rel.length]
 exact h _ _ (I.tok _)
end
theorem zEf {X:Cx}{pins:List (Addr×Obj)}{σ:St}{H:Hp}{s:Shared}{a:Addr}{y:V}{o:Option V} (I:Inv X pins σ H s) (g:Ql H a y o):s.TypeIs (.ref a) "dict" := by
 rcases g with ⟨kvs,k,e,_,_⟩ | ⟨kvs,k,b,e,_,_,_⟩
 ·obtain⟨_,_,vs,_,dd⟩:=zAG I.hok e
  exact dd.typeIs
 ·obtain⟨_,_,xs,_,dd⟩:=zBC I.hok e
  exact dd.typeIs
noncomputable def zMF (td ty tv:TE):TS:=fun D σ H=>tv σ H fun v H1=>td σ H1 fun x H2=>ty σ H2 fun y H3=>∃ a H4,x=.ref a/\zDH H3 a y v H4/\D.nx σ H4
section
variable {X:Cx}{o i e value:Expr}{pos pos' tpos:Pos}{td ty tv:TE}
theorem zJw (hu:X.A.units+1 < cLine) (ho:PE X o td) (hi:PE X i ty) (hv:PE X value tv) (hs:swapsWith value (some (.Subscript o i pos')) pos.line X.env=pure false) :
  PS X (.Assign [.Subscript o i pos'] value pos) (zMF td ty tv):=by
 intro pins s σ H D I h
 refine wpAny_Assign_Subscript (thn (hv pins s σ H _ I h) fun r s1 ⟨v,H1,I1,rv,q1⟩=>thn (ho pins s1 σ H1 _ I1 q1) fun u s2 ⟨x,H2,I2,rx,q2⟩=>thn (hi pins s2 σ H2 _ I2 q2) fun iv s3 ⟨y,H3,I3,ry,a,H4,ex,g,q3⟩=>?_) hs
 subst ex
 obtain rfl:u=Value.ref a:=rx
 exact zGw hu I3 g ry rv fun s4 I4=>⟨σ,H4,I4,q3⟩
end
structure M1 (X:Cx) (o:Expr) (m:Str) (apos:Pos) (e:Expr) (cpos:Pos):Prop where
 base:attributeBase o m X.env (eval o X.env)=eval o X.env
 few:((backTo cpos (starEach [e] X.env)).all (fun x=>!x.1) && (backToKw cpos (keywordEach [] X.env)).all (fun x=>x.1.isSome)
  && decide (([e]:List Expr).length+([]:List Keyword).length+(if ([]:List Keyword).isEmpty then 0 else 1) < 30))=true
 line:(apos.endLine == cpos.line)=true
 trees:backTo cpos (starEach [e] X.env)=[(false,eval e X.env)]
structure M2 (X:Cx) (o:Expr) (m:Str) (apos:Pos) (e f:Expr) (cpos:Pos):Prop where
 base:attributeBase o m X.env (eval o X.env)=eval o X.env
 few:((backTo cpos (starEach [e,f] X.env)).all (fun x=>!x.1) && (backToKw cpos (keywordEach [] X.env)).all (fun x=>x.1.isSome)
  && decide (([e,f]:List Expr).length+([]:List Keyword).length+(if ([]:List Keyword).isEmpty then 0 else 1) < 30))=true
 line:(apos.endLine == cpos.line)=true
 trees:backTo cpos (starEach [e,f] X.env)=[(false,eval e X.env),(false,eval f X.env)]
end L2
namespace Att
open PySem PySem.W PySem.Calls PyProof.Rows
theorem zBf {P:Params}{h:Heap}:∀ (ns:List Int) (vs:List Value),WellAll P h vs (ns.map WData.int)->IntsAre vs ns:=by
 intro ns
 induction ns with
 | nil =>
  intro vs w
  rw[List.map_nil] at w
  cases w
  exact .nil
 | cons n ns ih =>
  intro vs w
  rw[List.map_cons] at w
  cases w with
  | cons a b =>
   cases a
   exact .cons _ _ (ih _ b)
theorem zGk {l:OpenLaw}{n:Nat} (hn:l.most=some n) {P:Params}{h:Heap}{args:List WData}{vals:List Value}
  (hpre:l.row.toRowW.claim.pre args=true) (hwl:WellAll P h vals args) :
  ∃ a vs ns,vals=[Value.ref a]/\args=[WData.list (ns.map WData.int)]/\h.get? a=some { cls:=.type "list",data:=.seq vs.toArray }/\IntsAre vs ns/\ns.length <= n:=by
 have hsh:WShape.hasAll [] args [.list .int]=true:=(pre_splitW hpre).1
 have hc:l.pre.holds [] { args:=args }=true:=(pre_splitW hpre).2
 obtain⟨d,r,rfl,h1,h2⟩:=hasAllW_cons hsh
 obtain rfl:=hasAllW_nil h2
 obtain⟨xs,rfl,h3⟩:=hasW_list h1
 obtain⟨ns,rfl⟩:=items_int h3
 have hlen:ns.length <= n:=by
  unfold OpenLaw.pre at hc
  have h4:(WTm.not (.lt (.lit (.int (n:Int))) (.len (.arg 0)))).holds [] { args:=[.list (ns.map .int)] }=true:=by
   have h4:=(holds_andW hc).1
   rw[hn] at h4
   exact h4
  have h5:=condW_of h4 (w_not (w_lt w_lit (w_len_list (w_arg rfl))))
  rw[List.length_map] at h5
  refine Nat.le_of_not_lt fun q=>?_
  have q':(n:Int) < ((ns.length:Nat):Int):=by omega
  first
   | (rw[decide_eq_true q'] at h5;exact absurd h5 (by decide))
   | (simp at h5;omega)
 cases hwl with
 | cons w1 w2 =>
  cases w2
  cases w1 with
  | list ho hall=>exact⟨_,_,ns,rfl,rfl,ho,zBf ns _ hall,hlen⟩
theorem zGE (l:OpenLaw) (args:List WData):l.row.toRowW.claim.post args (.bool true) args=true :=
 postW_of (r:=l.row.toRowW) (X:=(true == true))
  (show WShape.has [] (.bool true) .bool=true by first | rfl | decide | simp[WShape.has,WShape.arms,WShape.armsAll])
  (show (WTm.eq .res (.lit (.bool true))).value [] { args:=args,res:=some (.bool true),after:=args }=some (.bool (true == true)) from w_eq_bool (w_res rfl) w_lit) rfl
theorem zEe {l:OpenLaw}{n:Nat}{q:Program}{loose:List Str}{XP:(Str->Option Value)->Heap->Prop}{YP:World->Heap->Prop}{d:DefRec}
  (hn:l.most=some n) (hdf:d.params.defaults=[])
  (call:∀ (w:World) (s₀ s₁:Shared) (mg mb:Str->Option Value) (fa:Addr) (o:Obj) (pm cd doc:Value) (a:Addr) (vs:List Value) (ns:List Int),
   Ground q loose [] XP w s₀ mg mb s₁.heap->YP w s₁.heap ->
   s₁.heap.get? fa=some o->o.data=.func (docDef d.name d.params d.body d.scope pm cd doc)->s₁.heap.CodeRec cd d.name->mg d.name=some (.ref fa) ->
   s₁.heap.get? a=some { cls:=.type "list",data:=.seq vs.toArray }->IntsAre vs ns->ns.length <= n->s₁.gens = #[] ->
   codeAny (model l.prog w) callerA (.call (.ref fa) ⟨[.ref a],[]⟩) (fun r s'=>r=.ok (.ret (.bool true))/\OldK s₁.heap s'.heap/\s'.os=s₁.os/\AllBare s'.gens) s₁) :
  WalkO q loose XP YP l.row.toRowW d [] (fun f vs=>PySem.call f vs):=by
 intro w s₀ s₁ mg mb G Y fa o pm cd doc dV kV ho hd hcd hD hmg hg args vals as hpre hlay hrd hwl hlo
 obtain rfl:dV=.none:=Dflts.none hD hdf
 obtain rfl:kV=.none:=Dflts.noKw hD
 obtain⟨a,vs,ns,rfl,rfl,hobj,hints,hlen⟩:=zGk hn hpre hwl
 refine enter_call (codeAny_mono (call w s₀ s₁ mg mb fa o pm cd doc a vs ns G Y ho (fd_plain hd) hcd hmg hobj hints hlen hg) fun r s' hq=>?_)
 obtain⟨rfl,h2,h3,h4⟩:=hq
 exact⟨.inl ⟨.bool true,.bool true,[],rfl,fun _=>rfl,.bool true,zGE l _,fun _=>⟨List.Pairwise.nil,fun _ hm=>(nomatch hm)⟩⟩,h2,h3,h4⟩
end Att
namespace L2
open PySem PySem.Spec PyProof.Rows
theorem zCj:∀ {vs:List Value}{ns:List Int},IntsAre vs ns->zX (ns.map V.int) vs
 | _,_,.nil=>.nil
 | _,_,.cons n t h=>.cons ⟨t,rfl⟩ (zCj h)
noncomputable def zDj (H:Hp):Prop:=∀ b,H b=none\/∃ o xs,H b=some (.frz o (.lst xs))
theorem zHy {P:Program}{w:World}{K:PySem.W.Frag}{mg mb:Str->Option Value}{CX:CXT}{k:Nat}{fa a:Addr}{fd:FuncData}{x:Str}{sp:Sp}{s₁:Shared}{vs:List Value}{ns:List Int}
  (KX:K.In s₁.heap) (hns:s₁.heap.Ns mainGlobals mg) (hb:s₁.heap.Ns builtinsNs mb) (hbb:∀ x:Str,x ≠ "__name__" -> mb x=bootBuiltins x) (hlim:s₁.heap.NoLimit) (hg:s₁.gens = #[])
  (ha:s₁.heap.get? a=some { cls:=.type "list",data:=.seq vs.toArray }) (hi:IntsAre vs ns) (hl:ns.length <= sizeLine) (hr:zt k callerA)
  (F:∀ base:Heap,K.In base->base.Ns mainGlobals mg->jd P w K mg base CX k fa fd [x] sp) (hT:fd.scope.names.lookup x=some .local) (hbind:∀ (s:Shared) (u:Value),BindsTo s fd ⟨[u],[]⟩ [(x,u)])
  (hsp:∀ H:Hp,zDj H->SqL K H a (ns.map V.int)->sp [.ref a] H (fun v _=>v=.bl true) fun _ _ _=>False)
  (hCX:∀ H e s',CX [] H s₁ (fun _ _ _=>False) e s'->False) :
  codeAny (model P w) callerA (.call (.ref fa) ⟨[.ref a],[]⟩) (fun r s'=>r=.ok (.ret (.bool true))/\OldK s₁.heap s'.heap/\s'.os=s₁.os/\AllBare s'.gens) s₁:=by
 have rv:=zCj hi
 have lenV:=hi.length
 have core:∀ H:Hp,zDj H->SqL K H a (ns.map V.int)->HOk P w H s₁.heap->(∀ b,H b≠none->b=a)->(H a≠none->K.lookup a=none) ->
   codeAny (model P w) callerA (.call (.ref fa) ⟨[.ref a],[]⟩) (fun r s'=>r=.ok (.ret (.bool true))/\OldK s₁.heap s'.heap/\s'.os=s₁.os/\AllBare s'.gens) s₁:=by
  intro H hO hS hok hA hK
  have base_of:∀ {b:Addr}{o:Obj},s₁.heap.get? b=some o->H b=none->(JN s₁.heap H).get? b=some o:=fun e n=>zHi e n
  have noA:∀ {b:Addr}{o:Obj}{es:Array DictEntry}{ep:Nat},s₁.heap.get? b=some o->o.data=.dict es ep->H b=none:=fun {b o es ep} e d=>by
   cases q:H b with
   | none=>rfl
   | some u =>
    have e':b=a:=hA b (by rw[q];simp)
    subst e'
    rw[ha] at e;cases e
    have d':Data.seq vs.toArray _=Data.dict es ep:=d
    cases d'
  have nsK:∀ {b:Addr}{m:Str->Option Value},s₁.heap.Ns b m->(JN s₁.heap H).Ns b m:=fun {b m} ⟨o,es,ep,e,d,r⟩=>⟨o,es,ep,base_of e (noA e d),d,r⟩
  have hKb:K.In (JN s₁.heap H):=fun b o e=>base_of (KX b o e) (by
   cases q:H b with
   | none=>rfl
   | some u =>
    have e':b=a:=hA b (by rw[q];simp)
    subst e'
    rw[hK (by rw[q];simp)] at e;cases e)
  have hM:Mod K mg (JN s₁.heap H):=⟨hKb,nsK hns,⟨mb,nsK hb,hbb⟩,let ⟨mc,h1,h2⟩:=hlim;⟨mc,nsK h1,h2⟩⟩
  have e0:zAg P w K mg (JN s₁.heap H) callerA [] s₁ H:=⟨rfl,hM,fun b o e=>zJH e,Nat.le_of_eq (zF6 _ _),trivial,fun b hb=>absurd (show b∈([]:List Addr) from hb) (by simp),hok,.of_eq hg⟩
  refine codeAny_mono ((F _ hKb (nsK hns)).run callerA [] s₁ H ⟨[.ref a],[]⟩ [.ref a] [.ref a] _ _ hr e0 (.inr ⟨x,List.mem_singleton.mpr rfl,hT⟩) (hbind s₁ (.ref a)) (.cons rfl .nil) (hsp H hO hS)) fun r s' h=>?_
  cases r with
  | error e=>exact (hCX H e s' h).elim
  | ok fl =>
   cases fl with
   | next=>exact False.elim h
   | brk=>exact False.elim h
   | cont=>exact False.elim h
   | ret u =>
    obtain⟨v,H',os,bare,un,hok',r',q⟩:=h
    have q':v=.bl true:=q
    subst q'
    obtain rfl:u=Value.bool true:=r'
    refine⟨rfl,OldK.of_keep fun b o e=>?_,os,bare⟩
    cases q:H b with
    | none=>exact un.keep b o e q (by intro z;exact absurd (show b∈([]:List Addr) from z) (by simp)) (by simp)
    | some u =>
     rcases hO b with z | ⟨ob,xs,z⟩
     ·rw[q] at z;cases z
     ·have z2:=un.frzs b ob _ z
      obtain⟨e1,_⟩:=hok b _ z
      obtain⟨e2,_⟩:=hok' b _ z2
      rw[e] at e1;cases e1
      exact e2
 cases hk:K.lookup a with
 | some o =>
  have e:=KX a o hk
  rw[ha] at e
  cases e
  refine core (fun _=>none) (fun _=>.inl rfl) (.inr ⟨_,vs.toArray,_,hk,rfl,rfl,rfl,by rw[List.size_toArray,lenV];exact hl,by simpa using rv⟩) (fun b u z=>by have z':(none:Option HO)=some u:=z;cases z') (fun b z=>absurd rfl z) fun z=>absurd rfl z
 | none =>
  refine core (fun b=>if b=a then some (.frz { cls:=.type "list",data:=.seq vs.toArray } (.lst (ns.map V.int))) else none) (fun b=>?_) (.inl (.inr ⟨{ cls:=.type "list",data:=.seq vs.toArray },if_pos rfl⟩)) (fun b u z=>?_) (fun b z=>?_) fun _=>hk
  ·by_cases hb:b=a
   ·exact .inr ⟨_,_,if_pos hb⟩
   ·exact .inl (if_neg hb)
  ·by_cases hb:b=a
   ·have z':=(if_pos hb).symm.trans z
    cases z'
    subst hb
    exact⟨ha,by rw[List.length_map];exact hl,vs,_,rv,ha⟩
   ·have z':=(if_neg hb).symm.trans z
    cases z'
  ·by_cases hb:b=a
   ·exact hb
   ·exact absurd (if_neg hb) z
end L2
namespace L2
open PySem PySem.Spec PyProof.Rows
theorem zJK {l:PySem.W.OpenLaw}{n k:Nat}{q:Program}{loose:List Str}{XP:(Str->Option Value)->Heap->Prop}{YP:World->Heap->Prop}{d:DefRec}{K:Params->PySem.W.Frag}{CX:World->CXT}{sp:World->Sp}{x:Str}
  (hn:l.most=some n) (hn2:n <= sizeLine) (hdf:d.params.defaults=[]) (hr:zt k callerA)
  (hY:∀ (w:World) (h:Heap),YP w h->(K w.params).In h)
  (F:∀ (w:World) (mg:Str->Option Value) (fa:Addr) (h:Heap),(K w.params).In h->h.Ns mainGlobals mg->mg d.name=some (.ref fa) ->
   ∃ fd:FuncData,(∀ (s:Shared) (u:Value),BindsTo s fd ⟨[u],[]⟩ [(x,u)])/\fd.scope.names.lookup x=some .local /\
    ∀ base:Heap,(K w.params).In base->base.Ns mainGlobals mg->jd l.prog w (K w.params) mg base (CX w) k fa fd [x] (sp w))
  (hsp:∀ (w:World) (H:Hp) (a:Addr) (ns:List Int),ns.length <= n->zDj H->SqL (K w.params) H a (ns.map V.int)->sp w [.ref a] H (fun v _=>v=.bl true) fun _ _ _=>False)
  (hCX:∀ (w:World) (H:Hp) (s:Shared) (e:Value) (s':Shared),CX w [] H s (fun _ _ _=>False) e s'->False) :
  PySem.W.WalkO q loose XP YP l.row.toRowW d [] (fun f vs=>PySem.call f vs):=by
 refine Att.zEe hn hdf fun w s₀ s₁ mg mb fa o pm cd doc a vs ns G Y ho hd hcd hmg hobj hints hlen hg=>?_
 have KX:=hY w _ Y
 obtain⟨fd,hb,hT,hF⟩:=F w mg fa _ KX G.T.g hmg
 exact zHy KX G.T.g G.T.b G.T.builtins G.T.nolimit hg hobj hints (Nat.le_trans hlen hn2) hr hF hT hb (fun H hO hS=>hsp w H a ns hlen hO hS) fun H e s'=>hCX w H s₁ e s'
end L2
namespace L2
open PySem PySem.Spec PyProof.Rows
noncomputable def zAQ (s:Stmt) (j:Nat):Stmt:=match s with
 | .ClassDef _ _ _ body _ _ _ _ _ _ _=>body.getD j (.Pass ⟨0,0,0,0⟩)
 | _=>.Pass ⟨0,0,0,0⟩
noncomputable def jf (s:Stmt):Arguments:=match s with
 | .FunctionDef _ a _ _ _ _ _ _ _ _=>a
 | _=>{ posonlyargs:=[],args:=[],vararg:=none,kwonlyargs:=[],kw_defaults:=[],kwarg:=none,defaults:=[] }
noncomputable def jJ (s:Stmt):List Stmt:=match s with
 | .FunctionDef _ _ b _ _ _ _ _ _ _=>b
 | _=>[]
noncomputable def zP (s:Stmt):Scope:=match s with
 | .FunctionDef _ _ _ _ _ _ sc _ _ _=>sc
 | _=>{ kind:=.function,names:=[],isGenerator:=false,isCoroutine:=false }
noncomputable abbrev CX0:CXT:=fun _ _ _ _ _ _=>False
noncomputable abbrev E0:XK:=fun _ _ _=>False
theorem Z6 {X:Cx}:qX CX0 X E0:=fun _ _ _ _ _ _ _ h=>h.elim
structure Fun (K:PySem.W.Frag) (x qual:Str) (st:Stmt) (f:Addr) (fd:FuncData):Prop where
 ex:∃ (oc:Value) (od:Option Addr) (kV doc pm:Value) (an:Option Addr) (cdv ct:Value) (osl:Array (Option Value)),
  fd=PySem.W.fnOf x qual (jf st) (jJ st) (zP st) .none kV doc pm an cdv ct/\K.lookup f=some ⟨oc,od,.func fd,osl⟩/\PySem.W.codeIn K cdv qual=true
 kp:PySem.W.keepIn K (.ref f)=true
section
variable {P:Program}{w:World}{K:PySem.W.Frag}{mg:Str->Option Value}{base:Heap}
theorem Fun.ok {x qual:Str}{st:Stmt}{f:Addr}{fd:FuncData}{N ps:List Str}{k:Nat}{sp:Sp} (F:Fun K x qual st f fd) (S:jW N ps (zP st)) (len:∀ vs H Q E,sp vs H Q E->vs.length=ps.length)
  (hbody:∀ (cdv:Value) (A:Around) (outer:List Env) (s:Shared) (H:Hp) (vs:List V) (Q:VK) (E:XK),zt k (A.deeper (envOfC qual (zP st) s.heap.objs.size f cdv))->sp vs H Q E ->
   ∃ t,PSs (QR CX0 P w K mg base N qual (zP st) f cdv A outer s H E).nox (jJ st) t/\t { nx:=fun _ H'=>Q .non H',rt:=Q } (qw N vs) H):jd P w K mg base CX0 (k+1) f fd ps sp:=by
 obtain⟨oc,od,kV,doc,pm,an,cdv,ct,osl,rfl,lk,hcd⟩:=F.ex
 refine zL8 lk hcd S len fun A outer s H vs Q E hr hsp=>?_
 obtain⟨t,h,q⟩:=hbody cdv A outer s H vs Q E hr hsp
 exact⟨t,h.nox,q⟩
theorem Fun.binds {x qual:Str}{st:Stmt}{f:Addr}{fd:FuncData}{ps:List Str} (F:Fun K x qual st f fd)
  (h:∀ (kV doc pm:Value) (an:Option Addr) (cdv ct:Value) (us:List Value),us.length=ps.length->bindArgs (PySem.W.fnOf x qual (jf st) (jJ st) (zP st) .none kV doc pm an cdv ct) ⟨us,[]⟩=pure (ps.zip us)):yz K fd ps []:=by
 obtain⟨oc,od,kV,doc,pm,an,cdv,ct,osl,rfl,lk,hcd⟩:=F.ex
 exact .all (h kV doc pm an cdv ct)
theorem qM {x qual:Str}{st:Stmt}{f:Addr}{oc:Value}{od an:Option Addr}{osl:Array (Option Value)}{kV doc pm cdv ct:Value} (l:K.lookup f=some ⟨oc,od,.func (PySem.W.fnOf x qual (jf st) (jJ st) (zP st) .none kV doc pm an cdv ct),osl⟩)
  (c:PySem.W.codeIn K cdv qual=true) (k:PySem.W.keepIn K (.ref f)=true):Fun K x qual st f (PySem.W.fnOf x qual (jf st) (jJ st) (zP st) .none kV doc pm an cdv ct):=⟨⟨oc,od,kV,doc,pm,an,cdv,ct,osl,rfl,l,c⟩,k⟩
end
theorem zFK {A:Around}{k:Nat} (hr:zt k A):A.units+1 < cLine:=Nat.lt_of_le_of_lt (Nat.add_le_add_left (by decide:1 <= 64) _) hr.units
theorem zCP {A B:Prop} (h:B):if false=true then A else B:=by
 rw[if_neg Bool.false_ne_true]
 exact h
theorem zB0 {A B:Prop} (h:A):if true=true then A else B:=by
 rw[if_pos rfl]
 exact h
end L2
namespace L2
open PySem PySem.Spec PyProof.Rows
section
variable {X:Cx}
theorem zF9:jh X (.builtin "len") (fun xs H Q=>∃ a kvs,xs=[V.ref a]/\H a=some (.dK kvs)/\Q (.int kvs.length) H):=by
 intro pins s σ H xs us Q I r h
 obtain⟨a,kvs,rfl,ha,q⟩:=h
 obtain⟨u,rfl,ru⟩:=yw r
 cases ru
 exact zMM I (.inl ha) fun t s' I'=>⟨.int kvs.length,H,I',⟨t,rfl⟩,q⟩
end
end L2
set_option maxHeartbeats 4000000
namespace L2
open PySem PySem.Spec PyProof.Rows
noncomputable abbrev zr (X:Cx) (vars:List Str) (scope:Scope) (cl:List (Str×Addr)) (C:Addr) (fp:List Addr) (s₂:Shared) (H₂:Hp):Cx where
 prog:=X.prog
 w:=X.w
 K:=X.K
 mg:=X.mg
 base:=X.base
 A:=X.A
 N:=X.N++vars
 s₀:=s₂
 H₀:=H₂
 env:=compEnvC scope cl C X.env
 outer:=X.stack
 stack:=X.stack
 ex:=fp
 fn:=fun _=>false
 calm:=X.calm
 pn:=[]
 xe:=fun _ _=>False
noncomputable def Q8 (cells:List (Str×Addr)):List (Str×Addr)->Prop
 | []=>True
 | p::r=>cells.lookup p.1=some p.2/\Q8 cells r
theorem Q8.get {cells:List (Str×Addr)}:∀ {cl:List (Str×Addr)}{x:Str}{c:Addr},Q8 cells cl->cl.lookup x=some c->cells.lookup x=some c
 | [],_,_,_,e=>by simp at e
 | (y,d)::r,x,c,h,e=>by
  cases hx:x == y with
  | true =>
   simp only[List.lookup_cons,hx] at e
   have e1:x=y:=eq_of_beq hx
   subst e1
   rw[<- e]
   exact h.1
  | false =>
   simp only[List.lookup_cons,hx] at e
   exact Q8.get h.2 e
noncomputable def okK (on:List (Str×NameKind)) (vars:List Str) (cl:List (Str×Addr)) (x:Str):NameKind->Bool
 | .local=>x == (".0" : Str) || vars.contains x
 | .cell=>false
 | .free=>(cl.lookup x).isSome && (on.lookup x == some .cell || on.lookup x == some .free)
 | _=>true
structure je (X:Cx) (vars:List Str) (scope:Scope) (cl:List (Str×Addr)):Prop where
 kind:scope.kind=.function
 clos:closureFor scope X.env=pure cl
 dis:(vars.all fun x=>!X.N.contains x)=true
 zero:X.N.contains (".0" : Str)=false
 names:∀ y∈scope.names,y.2=.local->scope.names.lookup y.1=some .local
 cells:Q8 X.env.cells cl
 ok:(scope.names.all fun p=>okK X.env.scope.names vars cl p.1 p.2)=true
theorem Zl {env:Env}{x:Str}:∀ {names:List (Str×NameKind)},
  (names.map fun (n,k)=>if (k == NameKind.free && env.scope.kind == .function && env.kindOf n == some .cell) then (n,NameKind.cell) else (n,k)).lookup x =
   (names.lookup x).map fun k=>if (k == NameKind.free && env.scope.kind == .function && env.kindOf x == some .cell) then NameKind.cell else k
 | []=>rfl
 | (n,k)::r=>by
  have ih:=@Zl env x r
  show List.lookup x ((if (k == NameKind.free && env.scope.kind == .function && env.kindOf n == some .cell)=true then (n,NameKind.cell) else (n,k))::_)=_
  cases hx:x == n with
  | true =>
   have e:x=n:=eq_of_beq hx
   subst e
   by_cases hc:(k == NameKind.free && env.scope.kind == .function && env.kindOf x == some .cell)=true
   ·rw[if_pos hc];simp only[List.lookup_cons,hx,Option.map_some,if_pos hc]
   ·rw[if_neg hc];simp only[List.lookup_cons,hx,Option.map_some,if_neg hc]
  | false =>
   by_cases hc:(k == NameKind.free && env.scope.kind == .function && env.kindOf n == some .cell)=true
   ·rw[if_pos hc];simp only[List.lookup_cons,hx];exact ih
   ·rw[if_neg hc];simp only[List.lookup_cons,hx];exact ih
section
variable {X:Cx}{vars:List Str}{scope:Scope}{cl:List (Str×Addr)}{C D:Addr}{fp:List Addr}{s₂:Shared}{H:Hp}{pins:List (Addr×Obj)}{σ:St}
theorem je.okAt (S:je X vars scope cl) {x:Str}{k:NameKind} (h:scope.names.lookup x=some k):okK X.env.scope.names vars cl x k=true:=by
 have:=List.all_eq_true.mp S.ok (x,k) (PySem.mem_of_lookup h)
 exact this
theorem je.noCell (S:je X vars scope cl):∀ y∈scope.names,y.2≠.cell:=fun y hy e=>by
 have h:=List.all_eq_true.mp S.ok y hy
 rw[e] at h
 exact absurd (show false=true from h) Bool.false_ne_true
theorem je.freeOf (S:je X vars scope cl) {x:Str} (h:(compEnvC scope cl C X.env).kindOf x=some .cell\/(compEnvC scope cl C X.env).kindOf x=some .free):scope.names.lookup x=some .free:=by
 have e:(compEnvC scope cl C X.env).kindOf x=(scope.names.lookup x).map fun k=>if (k == NameKind.free && X.env.scope.kind == .function && X.env.kindOf x == some .cell) then NameKind.cell else k:=Zl
 rw[e] at h
 cases q:scope.names.lookup x with
 | none=>rw[q] at h;simp at h
 | some k =>
  rw[q] at h
  by_cases hk:k=.free
  ·rw[hk]
  ·have hb:(k == NameKind.free)=false:=by simpa using hk
   simp only[Option.map_some,hb,Bool.false_and,Bool.false_eq_true,if_false,Option.some.injEq] at h
   rcases h with h | h
   ·subst h
    exact absurd rfl (S.noCell (x,.cell) (PySem.mem_of_lookup q))
   ·exact absurd h hk
theorem je.localOf (S:je X vars scope cl) {x:Str} (h:(compEnvC scope cl C X.env).kindOf x=some .local):scope.names.lookup x=some .local:=by
 have e:(compEnvC scope cl C X.env).kindOf x=(scope.names.lookup x).map fun k=>if (k == NameKind.free && X.env.scope.kind == .function && X.env.kindOf x == some .cell) then NameKind.cell else k:=Zl
 rw[e] at h
 cases q:scope.names.lookup x with
 | none=>rw[q] at h;simp at h
 | some k =>
  rw[q] at h
  simp only[Option.map_some,Option.some.injEq] at h
  split at h
  ·cases h
  ·rw[h]
theorem zE6 (I:Inv X pins σ H s₂) (S:je X vars scope cl) (hf:∀ b∈fp,JV X pins H b) (hob:∀ b∈fp,∃ o,s₂.heap.get? b=some o)
  {h₁:Heap}{tk:Nat} (hD:s₂.heap.objs.size <= D) (hC:s₂.heap.objs.size <= C) (hDC:D≠C) {oD:Obj} (eD:h₁.get? D=some oD) (cD:∀ v,oD.data≠.cell v) {m:Str->Option Value} (hn:h₁.Ns C m)
  (old:∀ b o,s₂.heap.get? b=some o->h₁.get? b=some o) (ht:0 < tk:=by first | exact Nat.succ_pos _ | assumption | exact Inv.tk (by assumption) | omega) :
  Inv (zr X vars scope cl C fp s₂ H) [(D,oD)] (σ++List.replicate vars.length none) H { s₂ with heap:=h₁,toks:=tk }:=by
 have fpst:∀ b∈fp,b∉frs X.stack:=fun b hb z=>by
  rcases List.mem_cons.mp (I.stkSub b z) with e | e
  ·exact (hf b hb).2.1 e
  ·exact (hf b hb).2.2.1 e
 have cget:∀ x c,cl.lookup x=some c->X.env.cells.lookup x=some c:=fun x c e=>S.cells.get e
 have fpl:∀ b∈fp,b < s₂.heap.objs.size:=fun b hb=>by
  obtain⟨o,e⟩:=hob b hb
  exact Heap.lt_size e
 have ok:(zr X vars scope cl C fp s₂ H).Ok:=by
  refine⟨I.ok.mod,S.kind,I.ok.glob,I.ok.blt,hC,fun x y c h1 h2=>I.ok.inj x y c (cget x c h1) (cget y c h2),fun x hx=>?_,fun x c h _=>absurd (show false=true from h) Bool.false_ne_true,I.ok.hd,I.ok.frames,.inl rfl,
   fun b hb=>⟨Nat.ne_of_lt (Nat.lt_of_lt_of_le (fpl b hb) hC),fun x c e z=>(hf b hb).2.2.2.2.1 x c (cget x c e) z⟩,I.bs,Nat.le_trans I.ok.bsz I.sz,fun b o e hb=>?_,fpst,I.stack,I.stkFree⟩
  ·have q:=S.okAt (S.freeOf (C:=C) hx)
   have q1:((cl.lookup x).isSome && (X.env.scope.names.lookup x == some .cell || X.env.scope.names.lookup x == some .free))=true:=q
   rw[Bool.and_eq_true] at q1
   exact Option.isSome_iff_exists.mp q1.1
  ·rcases (hf b hb).2.2.2.1 with z | z
   ·exact I.ok.noex b o e z
   ·exact absurd (Nat.lt_of_lt_of_le (Heap.lt_size e) (Nat.le_trans I.ok.bsz z)) (Nat.lt_irrefl _)
 have nst:D∉frs X.stack:=fun z=>by
  rcases List.mem_cons.mp (I.stkSub D z) with e | e
  ·exact absurd (Nat.lt_of_lt_of_le (e ▸ I.lt) hD) (Nat.lt_irrefl _)
  ·exact I.nofs hD e
 refine⟨ok,rfl,I.bare,Un.kept old,⟨m,hn,fun i x v h1 h2 h3=>?_⟩,fun x c e=>?_,I.hok.fresh hC,fun x c e=>I.freeC x c (cget x c e),fun p hp=>?_,I.hok.kept old,?_,ht⟩
 ·have hlen:=I.len
  have h1':(X.N++vars)[i]? = some x:=h1
  by_cases hi:i < σ.length
  ·rw[List.getElem?_append_left (by omega)] at h1'
   rw[List.getElem?_append_left hi] at h2
   have inN:X.N.contains x=true:=by
    rw[List.contains_iff_exists_mem_beq]
    exact⟨x,List.mem_of_getElem? h1',by simp⟩
   have hk:(compEnvC scope cl C X.env).kindOf x=some .cell\/(compEnvC scope cl C X.env).kindOf x=some .free:=by
    rcases h3 with h3 | h3
    ·have q:=S.okAt (S.localOf (C:=C) h3)
     have q1:(x == (".0" : Str) || vars.contains x)=true:=q
     rw[Bool.or_eq_true] at q1
     rcases q1 with q1 | q1
     ·have e0:x=(".0" : Str):=eq_of_beq q1
      rw[e0,S.zero] at inN
      cases inN
     ·have q2:=List.all_eq_true.mp S.dis x (by simpa using q1)
      rw[inN] at q2
      cases q2
    ·exact h3
   have q:=S.okAt (S.freeOf (C:=C) hk)
   have q1:((cl.lookup x).isSome && (X.env.scope.names.lookup x == some .cell || X.env.scope.names.lookup x == some .free))=true:=q
   rw[Bool.and_eq_true,Bool.or_eq_true] at q1
   obtain⟨c,hc⟩:=Option.isSome_iff_exists.mp q1.1
   have ho:X.env.scope.names.lookup x=some .cell\/X.env.scope.names.lookup x=some .free:=by
    rcases q1.2 with z | z
    ·exact .inl (eq_of_beq z)
    ·exact .inr (eq_of_beq z)
   obtain⟨m0,_,hl⟩:=I.loc
   obtain⟨u,r,l⟩:=hl i x v h1' h2 (.inr ho)
   refine⟨u,r,.inr ⟨hk,c,hc,?_⟩⟩
   rcases l with ⟨l1,_⟩ | ⟨_,c',e',o,eo,ed⟩
   ·have l2:X.env.scope.names.lookup x=some .local:=l1
    rcases ho with z | z
    ·rw[l2] at z;cases z
    ·rw[l2] at z;cases z
   ·rw[cget x c hc] at e'
    cases e'
    exact⟨o,old _ _ eo,ed⟩
  ·rw[List.getElem?_append_right (by omega),List.getElem?_replicate] at h2
   split at h2<;>cases h2
 ·obtain⟨v,o,eo,ed⟩:=I.cell x c (cget x c e)
  exact⟨v,o,old _ _ eo,ed⟩
 ·have e:p=(D,oD):=by simpa using hp
  subst e
  exact⟨eD,I.hok.fresh hD,hDC,nst,cD⟩
 ·show (σ++List.replicate vars.length none).length=(X.N++vars).length
  rw[List.length_append,List.length_append,List.length_replicate,I.len]
end
noncomputable def QS (X:Cx) (ifs:List Expr) (t:TT):Prop :=
 ∀ (pins:List (Addr×Obj)) (s:Shared) (σ:St) (H:Hp) (Q:Bool->Hp->Prop),Inv X pins σ H s->t σ H Q ->
  wpAny (model X.prog X.w) X.A (forIn ifs true fun c r=>if r=true then do let ok <- isTrue c X.env (eval c X.env);pure (ForInStep.yield ok) else pure (ForInStep.yield r)) (TP X pins σ Q) X.xe s
noncomputable def y6:TT:=fun _ H Q=>Q true H
theorem zHC {X:Cx}:QS X [] y6:=fun _ _ _ H _ I h=>wpAny_tests_nil ⟨H,I,h⟩
noncomputable def Wk (σ σ':St):Prop:=σ.length=σ'.length/\∀ (i:Nat) v,σ[i]? = some (some v)->σ'[i]? = some (some v)
noncomputable def zFN (n:Nat) (wi:TI) (g:TG) (ti:TT) (te:TE):TE:=fun σ H Q=>wi σ H fun J H1=>∃ W:Nat->Nat->List V->Hp->Prop,(∃ m,W 0 m [] H1)/\∀ i m ys H2,W i m ys H2->ys.length <= sizeLine /\
 ((J.stop i H2/\∀ D,H2 D=none->Q (.ref D) (upd H2 D (.lst ys))) \/
  (J.go i H2/\∀ x H3,J.yld i H2 x H3->g x (σ++List.replicate n none) H3 fun σ2 H4=>Wk (σ++List.replicate n none) σ2/\ti σ2 H4 fun b H5 =>
   if b=true then te σ2 H5 fun y H6=>∃ m',m' < m/\W (i+1) m' (ys++[y]) H6 else ∃ m',m' < m/\W (i+1) m' ys H5))
theorem Inv.track {X:Cx}{pins:List (Addr×Obj)}{σ:St}{H:Hp}{s:Shared}{D:Addr}{o:HO} (I:Inv X pins σ H s) (hD:X.s₀.heap.objs.size <= D) (hn:H D=none) (hL:D≠X.env.locals)
  (hcl:∀ x c,X.env.cells.lookup x=some c->c≠D) (hp:∀ p∈X.pn++pins,p.1≠D) (new:jm X.prog X.w (upd H D o) s.heap D o):Inv X pins σ (upd H D o) s:=by
 have ne:∀ {b u},H b=some u->b≠D:=fun e z=>by rw[z,hn] at e;cases e
 refine⟨I.ok,I.os,I.bare,⟨I.base.keep,I.base.slot,fun b ob e n hx=>?_,I.base.there,fun b xs e=>?_,fun b ob u e=>?_,fun b ps e=>?_⟩,I.loc,I.cell,?_,fun x c e=>?_,fun p hp'=>?_,fun b u e=>?_,I.len,I.tk⟩
 ·rw[jA (Nat.ne_of_lt (Nat.lt_of_lt_of_le (Heap.lt_size e) hD))]
  exact I.base.free b ob e n hx
 ·have q:=I.base.tups b xs e
  rw[jA (ne q)];exact q
 ·have q:=I.base.frzs b ob u e
  rw[jA (ne q)];exact q
 ·obtain⟨mo,q⟩:=I.base.tbls b ps e
  exact⟨mo,by rw[jA (ne q)];exact q⟩
 ·rw[jA (Ne.symm hL)];exact I.free
 ·rw[jA (hcl x c e)];exact I.freeC x c e
 ·obtain⟨e1,e2,e3,e4,e5⟩:=I.pin p hp'
  exact⟨e1,by rw[jA (hp p hp')];exact e2,e3,e4,e5⟩
 ·by_cases hb:b=D
  ·subst hb;rw[jX] at e;cases e;exact new
  ·rw[jA hb] at e
   exact (I.hok b u e).stay (fun _ _ _ q=>q) (fun c q=>by rw[jA (ne q)];exact q) fun c xs q=>by rw[jA (ne q)];exact q
noncomputable abbrev JX (us:List Value) (n:Nat):Obj:={ cls:=.type "list",data:=.seq us.toArray n }
section
variable {X:Cx}{vars:List Str}{scope:Scope}{cl:List (Str×Addr)}{C D it:Addr}{fp:List Addr}{s₂:Shared}{H₂:Hp}{tg elt iter:Expr}{ifs:List Expr}{pos:Pos}{J:It}{tn:Nat->Heap->Prop}
 {g:TG}{ti:TT}{te:TE}{R:Result->Shared->Prop}
theorem zF4 (hc:X.calm=true) (T:zAt X.prog X.w X.K tg J fp it tn) (hg:PG (zr X vars scope cl C fp s₂ H₂) tg g) (hi:QS (zr X vars scope cl C fp s₂ H₂) ifs ti) (he:PE (zr X vars scope cl C fp s₂ H₂) elt te)
  {σ0:St} (W:Nat->Nat->List V->Hp->Prop) {F:List V->Hp->Prop} (hD0:s₂.heap.objs.size <= D) (hDC:D≠C) (hDs:D∉frs X.stack) (hDc:∀ x c,cl.lookup x=some c->c≠D)
  (hS:∀ b∈fp,b≠C/\b∉frs X.stack/\(∀ x c,cl.lookup x=some c->c≠b)/\D≠b)
  (turn:∀ i m ys H2,W i m ys H2->ys.length <= sizeLine/\((J.stop i H2/\F ys H2) \/
   (J.go i H2/\∀ x H3,J.yld i H2 x H3->g x σ0 H3 fun σ2 H4=>Wk σ0 σ2/\ti σ2 H4 fun b H5 =>
    if b=true then te σ2 H5 fun y H6=>∃ m',m' < m/\W (i+1) m' (ys++[y]) H6 else ∃ m',m' < m/\W (i+1) m' ys H5)))
  (hR:∀ s' ys us n H2,Inv (zr X vars scope cl C fp s₂ H₂) [(D,JX us n)] σ0 H2 s'->zX ys us->ys.length <= sizeLine->F ys H2->R (.ok .next) s')
  {s:Shared}{m0:Nat}{n0:Nat}{H0:Hp} (I0:Inv (zr X vars scope cl C fp s₂ H₂) [(D,JX [] n0)] σ0 H0 s) (st0:tn 0 s.heap) (f0:∀ b∈fp,H0 b=none) (w0:W 0 m0 [] H0) :
  codeAny (model X.prog X.w) X.A (.compLoop (.ListComp elt [⟨tg,iter,ifs,0⟩] scope pos) 0 (.ref it) (.ref D) (compEnvC scope cl C X.env)) R s:=by
 have stat:∀ {H':Hp}{o:Obj},(∀ b∈fp,H' b=none)->∀ b∈fp,JV (zr X vars scope cl C fp s₂ H₂) [(D,o)] H' b:=fun {H' o} hn b hb =>
  ⟨hn b hb,(hS b hb).1,(hS b hb).2.1,.inl hb,(hS b hb).2.2.1,fun p hp=>by
   have e:p=(D,o):=by simpa using hp
   subst e
   exact (hS b hb).2.2.2⟩
 refine codeAny_loop rfl (fun n s=>∃ i ys us nn H',Inv (zr X vars scope cl C fp s₂ H₂) [(D,JX us nn)] σ0 H' s/\zX ys us/\tn i s.heap/\(∀ b∈fp,H' b=none)/\W i n ys H') (fun n s hI=>?_) m0 ⟨0,[],[],n0,H0,I0,.nil,st0,f0,w0⟩
 show wpAny _ X.A ((compTurn (.ListComp elt [⟨tg,iter,ifs,0⟩] scope pos) 0 (.ref it) (.ref D) (compEnvC scope cl C X.env)).onRaise (fun x=>do noteFrame x (compEnvC scope cl C X.env);theTreesLotGoes x)) _ _ s
 refine wpAny_noted ?_
 rw[compTurn_list]
 obtain⟨i,ys,us,nn,H',I,rv,st,fr,w⟩:=hI
 obtain⟨hz,tt⟩:=turn i n ys H' w
 refine wpAny_bind (wpAny_standAt (wpAny_bind ?_))
 rcases tt with ⟨stop,q⟩ | ⟨go,q⟩
 ·refine wpAny_mono (T.done (zr X vars scope cl C fp s₂ H₂) rfl rfl rfl hc i _ s σ0 H' _ I (stat fr) st stop) (fun r s1 ⟨hr,I1⟩=>?_) (fun _ _ e=>e)
  subst hr
  exact wpAny_pure (hR s1 ys us nn H' I1 rv hz q)
 ·refine wpAny_mono (T.item (zr X vars scope cl C fp s₂ H₂) rfl rfl rfl hc i _ s σ0 H' _ I (stat fr) st go) (fun r s1 ⟨u,hr,h1⟩=>?_) (fun _ _ e=>e)
  subst hr
  refine wpAny_bind (wpAny_mono h1 (fun _ s2 ⟨x,H3,I3,r3,y3,st3,fr3⟩=>?_) (fun _ _ e=>e))
  have I3':=I3.pinned (stat fr3) (T.obj _ _ st3)
  refine wpAny_bind (wpAny_mono (hg _ s2 σ0 H3 x u _ I3' r3 (q x H3 y3)) (fun _ s3 ⟨σ4,H4,I4,wk,q4⟩=>?_) (fun _ _ f=>False.elim f))
  refine wpAny_bind (wpAny_mono (hi _ s3 σ4 H4 _ I4 q4) (fun b s4 ⟨H5,I5,q5⟩=>?_) (fun _ _ f=>False.elim f))
  have back:∀ {s7:Shared}{H7:Hp}{o:Obj},Inv (zr X vars scope cl C fp s₂ H₂) ((D,o)::y9 fp s2.heap) σ4 H7 s7->tn (i+1) s7.heap/\∀ b∈fp,H7 b=none:=fun {s7 H7 o} I7=>by
   refine⟨T.keep _ _ _ st3 fun b hb ob e=>(I7.pin (b,ob) (List.mem_append_right _ (List.mem_cons_of_mem _ (Z8 hb e)))).1,fun b hb=>?_⟩
   obtain⟨ob,e,d⟩:=T.obj _ _ st3 b hb
   exact (I7.pin (b,ob) (List.mem_append_right _ (List.mem_cons_of_mem _ (Z8 hb e)))).2.1
  have one:∀ {s7:Shared}{H7:Hp}{o:Obj},Inv (zr X vars scope cl C fp s₂ H₂) ((D,o)::y9 fp s2.heap) σ4 H7 s7->Inv (zr X vars scope cl C fp s₂ H₂) [(D,o)] σ0 H7 s7:=fun {s7 H7 o} I7 =>
   (I7.pins_of (pins':=[(D,o)]) fun p hp=>by
    have e:p=(D,o):=by simpa using hp
    subst e
    exact I7.pin (D,o) (List.mem_append_right _ List.mem_cons_self)).weak wk.1 wk.2
  cases b with
  | false =>
   obtain⟨m',hm,w'⟩:=q5
   obtain⟨b1,b2⟩:=back I5
   exact wpAny_pure ⟨rfl,m',hm,i+1,ys,us,nn,H5,one I5,rv,b1,b2,w'⟩
  | true =>
   refine wpAny_bind (wpAny_bind (wpAny_mono (he _ s4 σ4 H5 _ I5 q5) (fun v s5 ⟨y,H6,I6,r6,q6⟩=>?_) (fun _ _ f=>False.elim f)))
   obtain⟨m',hm,w'⟩:=q6
   obtain⟨eD,nD,_,_,_⟩:=I6.pin (D,JX us nn) (List.mem_append_right _ List.mem_cons_self)
   have hul:us.toArray.size <= sizeLine:=by rw[List.size_toArray,<- rv.length];exact hz
   refine wpAny_bind (wpAny_list_append_plain (hsz:=hul) ⟨nn,eD⟩ fun h' hp hs=>wpAny_pure (wpAny_pure ⟨rfl,?_⟩))
   obtain⟨n',hp⟩:=hp
   have hp':h'.get? D=some (JX (us++[v]) n'):=by rw[hp];simp
   have I7:Inv (zr X vars scope cl C fp s₂ H₂) (y9 fp s2.heap) σ4 H6 { s5 with heap:=h',toks:=s5.toks }:=by
    refine Inv.turned (it:=D) (I6.pins_of (pins':=y9 fp s2.heap) fun p hp=>I6.pin p (List.mem_append_right _ (List.mem_cons_of_mem _ hp))) (fun b o hb e=>(hs.2 b hb).trans e) nD hDC (.inr hD0) (fun x c e=>hDc x c e) fun p hp=>?_
    have hp2:p∈y9 fp s2.heap:=by simpa using hp
    exact Ne.symm (hS p.1 (zCh hp2).1).2.2.2
   have I8:Inv (zr X vars scope cl C fp s₂ H₂) ((D,JX (us++[v]) n')::y9 fp s2.heap) σ4 H6 { s5 with heap:=h',toks:=s5.toks }:=I7.pins_of fun p hp=>by
    rcases List.mem_cons.mp hp with rfl | hp
    ·exact⟨hp',nD,hDC,hDs,fun v z=>by cases z⟩
    ·exact I7.pin p (List.mem_append_right _ hp)
   obtain⟨b1,b2⟩:=back I8
   exact⟨m',hm,i+1,ys++[y],us++[v],n',H6,one I8,rv.append (.cons r6 .nil),b1,b2,w'⟩
end
section
variable {X:Cx}{vars:List Str}{scope:Scope}{cl:List (Str×Addr)}{tg elt iter:Expr}{ifs:List Expr}{pos:Pos}{wi:TI}{g:TG}{ti:TT}{te:TE}
theorem zFq (hc:X.calm=true) (S:je X vars scope cl) (hg:∀ C fp s₂ H₂,PG (zr X vars scope cl C fp s₂ H₂) tg g) (ht:∀ C fp s₂ H₂,QS (zr X vars scope cl C fp s₂ H₂) ifs ti)
  (he:∀ C fp s₂ H₂,PE (zr X vars scope cl C fp s₂ H₂) elt te) {pins:List (Addr×Obj)}{σ:St}{s2:Shared}{E:Value->Shared->Prop}{F:Addr->Hp->Prop}{RR:Value->Addr->Result->Shared->Prop}{itv:Value}
  (h2:PIE X pins σ tg (fun J H1=>∃ W:Nat->Nat->List V->Hp->Prop,(∃ m,W 0 m [] H1)/\∀ i m ys H2,W i m ys H2->ys.length <= sizeLine /\
   ((J.stop i H2/\∀ D,H2 D=none->F D (upd H2 D (.lst ys))) \/
    (J.go i H2/\∀ x H3,J.yld i H2 x H3->g x (σ++List.replicate vars.length none) H3 fun σ2 H4=>Wk (σ++List.replicate vars.length none) σ2/\ti σ2 H4 fun b H5 =>
     if b=true then te σ2 H5 fun y H6=>∃ m',m' < m/\W (i+1) m' (ys++[y]) H6 else ∃ m',m' < m/\W (i+1) m' ys H5))) itv s2)
  (hRR:∀ D C s' H',(∃ m,s'.heap.Ns C m)->C≠X.env.locals->(∀ x c,X.env.cells.lookup x=some c->c≠C)->Inv X pins σ H' s'->(∀ (h':Heap),Heap.SameBut C s'.heap h'->∀ (s'':Shared),s''={ s' with heap:=h' }->Inv X pins σ H' s'') ->
   (∀ (σ':St) (s3:Shared),Inv X pins σ' H' s3->(∃ a,Heap.SameBut a s'.heap s3.heap/\(a=X.env.locals\/∃ x,X.env.cells.lookup x=some a))->∀ (h':Heap),Heap.SameBut C s3.heap h'->Inv X pins σ' H' { s3 with heap:=h' }) ->
   F D H'->RR (.ref D) C (.ok .next) s') :
  wpAny (model X.prog X.w) X.A (newList []) (fun acc s₃=>wpAny (model X.prog X.w) X.A (newFunctionEnv scope X.env.globals cl [] X.env.qual none .none (some X.env)) (fun cenv s₄ =>
   codeAny (model X.prog X.w) X.A (.compStart (.ListComp elt [⟨tg,iter,ifs,0⟩] scope pos) 0 itv acc { cenv with scope:=relabel scope X.env }) (RR acc cenv.locals) s₄) E s₃) E s2:=by
 obtain⟨it,fp,tn,J,H2,e,I2,T,st2,f2,W,⟨m0,w0⟩,turn⟩:=h2
 subst e
 refine wpAny_newObj_type (wpAny_newFunctionEnv S.noCell (by intro y hy;simp at hy) (fun h₁ hns₁ hsb₁=>?_) S.kind)
 dsimp only at hns₁ hsb₁ ⊢
 generalize hH2:s2.heap.push { cls:=.type "list",dict:=none,data:=.seq ([]:List Value).toArray }=P2 at hns₁ hsb₁ ⊢
 have hC:P2.objs.size=s2.heap.objs.size+1:=by rw[<- hH2,Heap.size_push]
 have hDC:s2.heap.objs.size≠P2.objs.size:=by rw[hC];exact Nat.ne_of_lt (Nat.lt_succ_self _)
 have hCle:s2.heap.objs.size <= P2.objs.size:=by rw[hC];exact Nat.le_succ _
 have below:∀ b,b < s2.heap.objs.size->b≠P2.objs.size/\b≠s2.heap.objs.size:=fun b hb=>⟨by rw[hC];exact Nat.ne_of_lt (Nat.lt_succ_of_lt hb),Nat.ne_of_lt hb⟩
 have old:∀ b o,s2.heap.get? b=some o->h₁.get? b=some o:=fun b o e=>hsb₁.extBut b o (below b (Heap.lt_size e)).1 (Heap.get?_push_of_some _ (hH2 ▸ Heap.get?_push_of_some _ e))
 have hacc:h₁.get? s2.heap.objs.size=some (JX [] 0):=hsb₁.extBut _ _ hDC (Heap.get?_push_of_some _ (hH2 ▸ Heap.get?_push_size _ rfl))
 have hst₁:tn 0 h₁:=T.keep _ _ _ st2 fun b _ o e=>old b o e
 have hob:∀ b∈fp,∃ o,s2.heap.get? b=some o:=fun b hb=>by
  obtain⟨o,e,_⟩:=T.obj _ _ st2 b hb
  exact⟨o,e⟩
 have fpl:∀ b∈fp,b < s2.heap.objs.size:=fun b hb=>by
  obtain⟨o,e⟩:=hob b hb
  exact Heap.lt_size e
 have cget:∀ x c,cl.lookup x=some c->X.env.cells.lookup x=some c:=fun x c e=>S.cells.get e
 have celt:∀ x c,X.env.cells.lookup x=some c->c < s2.heap.objs.size:=fun x c e=>by
  obtain⟨v,q⟩:=I2.cell x c e
  exact q.lt
 have pint:∀ p∈X.pn++pins,p.1 < s2.heap.objs.size:=fun p hp=>Heap.lt_size (I2.pin p hp).1
 have fpst:∀ b∈fp,b∉frs X.stack:=fun b hb z=>by
  rcases List.mem_cons.mp (I2.stkSub b z) with e | e
  ·exact (f2 b hb).2.1 e
  ·exact (f2 b hb).2.2.1 e
 have nst:s2.heap.objs.size∉frs X.stack:=fun z=>by
  rcases List.mem_cons.mp (I2.stkSub _ z) with e | e
  ·exact absurd (e ▸ I2.lt) (Nat.lt_irrefl _)
  ·exact I2.nofs (Nat.le_refl _) e
 have CL:P2.objs.size≠X.env.locals:=fun z=>absurd (Nat.lt_of_lt_of_le (z ▸ I2.lt) hCle) (Nat.lt_irrefl _)
 have CC:∀ x c,X.env.cells.lookup x=some c->c≠P2.objs.size:=fun x c e=>Nat.ne_of_lt (Nat.lt_of_lt_of_le (celt x c e) hCle)
 have CP:∀ p∈X.pn++pins,p.1≠P2.objs.size:=fun p hp=>Nat.ne_of_lt (Nat.lt_of_lt_of_le (pint p hp) hCle)
 have loop:∀ s₃:Shared,s₃={ s2 with heap:=h₁,toks:=s2.toks+([]:List (Str×Value)).length } ->
   codeAny (model X.prog X.w) X.A (.compLoop (.ListComp elt [⟨tg,iter,ifs,0⟩] scope pos) 0 (.ref it) (.ref s2.heap.objs.size) (compEnvC scope cl P2.objs.size X.env)) (RR (.ref s2.heap.objs.size) P2.objs.size) s₃:=by
  rintro s₃ rfl
  have I0:Inv (zr X vars scope cl P2.objs.size fp s2 H2) [(s2.heap.objs.size,JX [] 0)] (σ++List.replicate vars.length none) H2 { s2 with heap:=h₁,toks:=s2.toks+([]:List (Str×Value)).length } :=
   zE6 I2 S f2 hob (Nat.le_refl _) hCle hDC hacc (fun v z=>by cases z) hns₁ old
  refine zF4 hc T (hg _ _ _ _) (ht _ _ _ _) (he _ _ _ _) (D:=s2.heap.objs.size) W (F:=fun ys H'=>∀ D,H' D=none->F D (upd H' D (.lst ys))) (Nat.le_refl _) hDC nst (fun x c e=>Nat.ne_of_lt (celt x c (cget x c e)))
   (fun b hb=>⟨(below b (fpl b hb)).1,fpst b hb,fun x c e z=>(f2 b hb).2.2.2.2.1 x c (cget x c e) z,Nat.ne_of_gt (fpl b hb)⟩) turn ?_ I0 hst₁ (fun b hb=>(f2 b hb).1) w0
  intro s' ys us n H' I' rv hz q
  obtain⟨eD,nD,_,_,_⟩:=I'.pin (s2.heap.objs.size,JX us n) (List.mem_append_right _ List.mem_cons_self)
  have J1:Inv X pins σ H' s':=I2.call' I'.os I'.base I'.hok I'.bare (fun b hb=>⟨(f2 b hb).2.2.2.1,(f2 b hb).2.1,(f2 b hb).2.2.2.2.1,(f2 b hb).2.2.2.2.2⟩) I'.tk
  have J2:Inv X pins σ (upd H' s2.heap.objs.size (.lst ys)) s':=J1.track I2.sz nD (fun z=>absurd (z ▸ I2.lt) (Nat.lt_irrefl _)) (fun x c e=>Nat.ne_of_lt (celt x c e)) (fun p hp=>Nat.ne_of_lt (pint p hp)) ⟨hz,us,n,rv,eD⟩
  have nC:upd H' s2.heap.objs.size (.lst ys) P2.objs.size=none:=by
   rw[jA (Ne.symm hDC)]
   exact I'.free
  refine hRR _ _ s' _ ?_ CL CC J2 (fun h' hs s'' e=>?_) (fun σ' s3 I3 _ h' hs=>?_) (q _ nD)
  ·obtain⟨m,hn,_⟩:=I'.loc
   exact⟨m,hn⟩
  ·subst e
   exact J2.turned (t':=s'.toks) (it:=P2.objs.size) (fun b o hb e=>(hs.2 b hb).trans e) nC CL (.inr (Nat.le_trans I2.sz hCle)) CC CP
  ·exact I3.turned (t':=s3.toks) (it:=P2.objs.size) (fun b o hb e=>(hs.2 b hb).trans e) nC CL (.inr (Nat.le_trans I2.sz hCle)) CC CP
 exact codeAny_compStart_list (loop _ rfl) (T.self _ 0 _ _ _ hst₁ (loop _ rfl))
theorem zB3 (hc:X.calm=true) (S:je X vars scope cl) (hi:PI X tg iter wi) (hg:∀ C fp s₂ H₂,PG (zr X vars scope cl C fp s₂ H₂) tg g) (ht:∀ C fp s₂ H₂,QS (zr X vars scope cl C fp s₂ H₂) ifs ti)
  (he:∀ C fp s₂ H₂,PE (zr X vars scope cl C fp s₂ H₂) elt te) (hs:∀ x,foldedSetIterable iter X.env x=pure x:=by intro _;rfl):PE X (.ListComp elt [⟨tg,iter,ifs,0⟩] scope pos) (zFN vars.length wi g ti te):=by
 intro pins s σ H Q I h
 rw[eval_ListComp]
 refine wpAny_comprehension_free (use:=none) rfl hs S.clos S.kind S.names (thn (hi pins s σ H _ I h) fun v s1 h1=>thn h1 fun itv s2 h2=>?_)
 refine zFq hc S hg ht he (F:=fun D H'=>Q (.ref D) H') h2 fun D C s' H' hn hCL hCC J2 J3 _ q=>?_
 obtain⟨m,hn⟩:=hn
 exact⟨m,hn,fun h' hs'=>⟨.ref D,H',J3 h' hs' _ rfl,rfl,q⟩⟩
end
end L2
namespace L2
open PySem PySem.Spec PyProof.Rows
noncomputable def Its (z:Str):It:=⟨fun i _=>i < z.length,fun i H x H'=>H'=H/\∃ c,z.cps[i]? = some c/\x=.str ⟨#[c]⟩,fun i _=>z.length <= i⟩
theorem zF7 {P:Program}{w:World}{K:PySem.W.Frag}{tg:Expr} (it:Addr) (z:Str) (t:Tok):zAt P w K tg (Its z) [it] it (fun i h=>h.IsStrIter it "str_ascii_iterator" z t i) where
 mem:=by simp
 obj:=fun i h st b hb=>by
  have e:b=it:=by simpa using hb
  subst e
  obtain⟨o,e,c,d⟩:=st
  exact⟨o,e,fun v z=>by rw[d] at z;cases z⟩
 keep:=fun i h h' st k=>let ⟨o,ho,r⟩:=st;⟨o,k it (by simp) o ho,r⟩
 item:=by
  intro X hP hw hK hc i pins s σ H E I hf st hg
  subst hP hw hK
  obtain⟨f0,f1,f2,f3,f4,f5⟩:=hf it (by simp)
  have hlt:i < z.cps.size:=hg
  refine wpAny_pyNext_ascii_item st (c:=z.cps[i]) (by simp[hlt]) fun h' st' sb=>?_
  have I1:Inv X pins σ H { s with heap:=h',toks:=s.toks+1 }:=I.turned (fun b o hb e=>(sb.2 b hb).trans e) f0 f1 f3 f4 f5
  obtain⟨o,e,c,d⟩:=id st'
  exact⟨_,rfl,zBF (s:={ s with heap:=h',toks:=s.toks+1 }) e c d (by decide) ⟨.str ⟨#[z.cps[i]]⟩,H,I1,⟨_,rfl⟩,⟨rfl,z.cps[i],by simp[hlt],rfl⟩,st',fun b hb=>(hf b hb).1⟩⟩
 done:=by
  intro X hP hw hK hc i pins s σ H E I hf st hg
  subst hP hw hK
  obtain⟨f0,f1,f2,f3,f4,f5⟩:=hf it (by simp)
  have hle:z.cps.size <= i:=hg
  exact wpAny_pyNext_ascii_end (I.ok.hd hc) st (by simp[hle]) fun h' eb=>⟨rfl,I.turned (t':=s.toks) (fun b o hb e=>eb b o hb e) f0 f1 f3 f4 f5⟩
 self:=fun _ _ _ _ _ st h=>wpAny_pyIter_striter_ascii st h
theorem zGO {P:Program}{w:World}{K:PySem.W.Frag}{tg:Expr} (it:Addr) (z:Str) (t:Tok):zAt P w K tg (Its z) [it] it (fun i h=>h.IsStrIter it "str_iterator" z t i) where
 mem:=by simp
 obj:=fun i h st b hb=>by
  have e:b=it:=by simpa using hb
  subst e
  obtain⟨o,e,c,d⟩:=st
  exact⟨o,e,fun v z=>by rw[d] at z;cases z⟩
 keep:=fun i h h' st k=>let ⟨o,ho,r⟩:=st;⟨o,k it (by simp) o ho,r⟩
 item:=by
  intro X hP hw hK hc i pins s σ H E I hf st hg
  subst hP hw hK
  obtain⟨f0,f1,f2,f3,f4,f5⟩:=hf it (by simp)
  have hlt:i < z.cps.size:=hg
  refine wpAny_pyNext_wide_item st (c:=z.cps[i]) (by simp[hlt]) fun h' st' sb=>?_
  have I1:Inv X pins σ H { s with heap:=h',toks:=s.toks+1 }:=I.turned (fun b o hb e=>(sb.2 b hb).trans e) f0 f1 f3 f4 f5
  obtain⟨o,e,c,d⟩:=id st'
  exact⟨_,rfl,zBF (s:={ s with heap:=h',toks:=s.toks+1 }) e c d (by decide) ⟨.str ⟨#[z.cps[i]]⟩,H,I1,⟨_,rfl⟩,⟨rfl,z.cps[i],by simp[hlt],rfl⟩,st',fun b hb=>(hf b hb).1⟩⟩
 done:=by
  intro X hP hw hK hc i pins s σ H E I hf st hg
  subst hP hw hK
  obtain⟨f0,f1,f2,f3,f4,f5⟩:=hf it (by simp)
  have hle:z.cps.size <= i:=hg
  exact wpAny_pyNext_wide_end (I.ok.hd hc) st (by simp[hle]) fun h' eb=>⟨rfl,I.turned (t':=s.toks) (fun b o hb e=>eb b o hb e) f0 f1 f3 f4 f5⟩
 self:=fun _ _ _ _ _ st h=>wpAny_pyIter_striter_wide st h
noncomputable def zMt (tl:TE):TI:=fun σ H R=>tl σ H fun x H1=>∃ z,x=.str z/\R (Its z) H1
theorem zKp {X:Cx}{tg l:Expr}{tl:TE} (hl:PE X l tl):PI X tg l (zMt tl):=by
 intro pins s σ H R I h
 refine thn (hl pins s σ H _ I h) fun v s1 ⟨x,H1,I1,r1,q1⟩=>?_
 obtain⟨z,e,q⟩:=q1
 subst e
 obtain⟨t,rfl⟩:=r1
 have fin:∀ b∈[s1.heap.objs.size],JV X pins H1 b:=fun b hb=>by
  have e:b=s1.heap.objs.size:=by simpa using hb
  subst e
  exact I1.fpOk (Nat.le_refl _) (I1.hok.fresh (Nat.le_refl _))
 cases ha:z.cps.all (· < 128)
 ·refine wpAny_pyIter_wide ha ?_
  exact⟨s1.heap.objs.size,[s1.heap.objs.size],_,Its z,H1,rfl,I1.kept (t':=s1.toks) fun b o e=>Heap.get?_push_of_some _ e,zGO _ z t,⟨_,Heap.get?_push_size _ rfl,rfl,rfl⟩,fin,q⟩
 ·refine wpAny_pyIter_ascii ha ?_
  exact⟨s1.heap.objs.size,[s1.heap.objs.size],_,Its z,H1,rfl,I1.kept (t':=s1.toks) fun b o e=>Heap.get?_push_of_some _ e,zF7 _ z t,⟨_,Heap.get?_push_size _ rfl,rfl,rfl⟩,fin,q⟩
section
variable {X:Cx}
theorem zGT:OpR X (compareOp .LtE) (fun x y H Q=>∃ i j,x=.str i/\y=.str j/\Q (.bl (!decide (j.cps.toList < i.cps.toList))) H):=by
 intro pins s σ H x y v u Q I rx ry h
 obtain⟨i,j,rfl,rfl,q⟩:=h
 obtain⟨t,rfl⟩:=rx
 obtain⟨t',rfl⟩:=ry
 exact PySem.P.le_str (jE I q rfl)
noncomputable def zB9 (z:Str) (lo hi:Option Int):Str:=⟨((z.cps.toList.drop (HT.sIx z.length 0 lo)).take (HT.sIx z.length z.length hi - HT.sIx z.length 0 lo)).toArray⟩
theorem zDP (lo hi:Option Int) (n:Nat):Builtin.Str.strSliceIndices lo hi 1 n=(List.range (HT.sIx n n hi - HT.sIx n 0 lo)).map fun k=>HT.sIx n 0 lo+k:=by
 have clip:∀ v:Int,max 0 (min (if v < 0 then v+(n:Int) else v) (n:Int))=((HT.sIx n 0 (some v):Nat):Int)/\max 0 (min (if v < 0 then v+(n:Int) else v) (n:Int))=((HT.sIx n n (some v):Nat):Int):=fun v=>by
  unfold HT.sIx
  by_cases hv:v < 0
  ·simp only[if_pos hv];omega
  ·simp only[if_neg hv];omega
 have key:∀ a b:Nat,sliceRange (a:Int) (b:Int) 1=(List.range (b - a)).map fun k=>a+k:=fun a b=>by
  unfold sliceRange
  have hc:(if (1:Int) > 0 then (if (a:Int) < (b:Int) then ((b:Int) - a+1 - 1) / 1 else 0) else (if (a:Int) > (b:Int) then ((a:Int) - b - 1 - 1) / (-1) else 0)).toNat=b - a:=by
   rw[if_pos (by decide)]
   by_cases h:(a:Int) < (b:Int)
   ·rw[if_pos h,Int.ediv_one];omega
   ·rw[if_neg h];omega
  dsimp only
  rw[hc]
  refine List.map_congr_left fun k _=>?_
  omega
 unfold Builtin.Str.strSliceIndices
 cases lo with
 | none =>
  cases hi with
  | none=>exact key 0 n
  | some v =>
   simp only[show (1:Int) > 0 by decide,if_true]
   rw[(clip v).2]
   exact key 0 _
 | some u =>
  cases hi with
  | none =>
   simp only[show (1:Int) > 0 by decide,if_true]
   rw[(clip u).1]
   exact key _ n
  | some v =>
   simp only[show (1:Int) > 0 by decide,if_true]
   rw[(clip u).1,(clip v).2]
   exact key _ _
theorem zJv {α:Type} (xs:Array α) (a m:Nat):((List.range m).map fun k=>a+k).filterMap (xs[·]?)=(xs.toList.drop a).take m:=by
 rw[List.filterMap_map]
 induction m generalizing a with
 | zero=>simp
 | succ m ih =>
  rw[List.range_succ,List.filterMap_append,ih,List.take_succ]
  congr 1
  simp only[List.filterMap_cons,List.filterMap_nil,Function.comp]
  rw[List.getElem?_drop,Array.getElem?_toList]
  cases xs[a+m]?<;>rfl
theorem zGM (z:Str) (lo hi:Option Int):Txt.slice z lo hi=zB9 z lo hi:=by
 have h1:=HT.zDJ z.length 0 (Nat.zero_le _) lo
 have h2:=HT.zDJ z.length z.length (Nat.le_refl _) hi
 unfold Txt.slice zB9
 rw[zDP,zJv]
 split
 ·rename_i h
  rw[List.length_map,List.length_range] at h
  have h3:HT.sIx z.length z.length hi - HT.sIx z.length 0 lo=z.length:=by
   have h':=(Bool.and_eq_true_iff.mp h).2
   exact eq_of_beq h'
  have e1:HT.sIx z.length 0 lo=0:=by omega
  rw[h3,e1,List.drop_zero]
  have hl:z.cps.toList.length=z.length:=by simp[Str.length]
  rw[List.take_of_length_le (by omega)]
 ·rfl
noncomputable def zMU:V->Option Int->Option Int->Hp->VK->Prop:=fun x lo hi H Q=>∃ z,x=.str z/\z.length <= sizeLine/\Q (.str (zB9 z lo hi)) H
theorem zK1:SlR X zMU:=by
 intro pins s σ H x v vl vu lo hi sl Q I rx hs pl pu h
 obtain⟨z,rfl,hz,q⟩:=h
 obtain⟨t,rfl⟩:=rx
 refine⟨"str",_,F.slot_str_getitem.lookup,typeIs_str _ _ _,wpAny_with_toks (n:=1) I.tk ?_⟩
 obtain⟨o,ho,hc,hd⟩:=hs
 have fin:(Txt.slice z lo hi).length <= sizeLine/\∀ t' k,1 <= ({ s with toks:=k }:Shared).toks->EP X pins σ Q (.str (Txt.slice z lo hi) t') { s with toks:=k } :=
  ⟨Nat.le_trans (Txt.slice_le z lo hi) hz,fun t' k hk=>⟨.str (Txt.slice z lo hi),H,I.tok k hk,⟨_,rfl⟩,by rw[zGM];exact q⟩⟩
 cases pl with
 | none =>
  cases pu with
  | none=>exact wpAny_getItem_str_slice (l:=none) (u:=none) (st:=none) ⟨o,ho,hc,hd⟩ rfl (post_val_or_str fin)
  | int j uj=>exact wpAny_getItem_str_slice (l:=none) (u:=some (j,uj)) (st:=none) ⟨o,ho,hc,hd⟩ rfl (post_val_or_str fin)
 | int i ui =>
  cases pu with
  | none=>exact wpAny_getItem_str_slice (l:=some (i,ui)) (u:=none) (st:=none) ⟨o,ho,hc,hd⟩ rfl (post_val_or_str fin)
  | int j uj=>exact wpAny_getItem_str_slice (l:=some (i,ui)) (u:=some (j,uj)) (st:=none) ⟨o,ho,hc,hd⟩ rfl (post_val_or_str fin)
theorem zBV {ys:List Str}:∀ {us:List Value},zX (ys.map V.str) us->StrsAre us ys:=by
 induction ys with
 | nil=>intro us r;rw[List.map_nil] at r;cases r;exact .nil
 | cons y ys ih =>
  intro us r
  rw[List.map_cons] at r
  cases r with
  | cons r1 r2 =>
   obtain⟨t,e⟩:=r1
   subst e
   exact .cons y t (ih r2)
noncomputable def zDB (K:PySem.W.Frag):V->List V->Hp->VK->Prop:=fun x vs H Q=>∃ z p ys,x=.str z/\vs=[.ref p]/\(SqL K H p (ys.map V.str)\/SqT K H p (ys.map V.str))/\(ys.map (·.length)).sum+ys.length * z.length <= 16777216/\Q (.str (Txt.join z ys)) H
theorem zIs:MtR X "str.join" (zDB X.K):=by
 intro pins s σ H x vs v us Q I rx rv h
 obtain⟨z,p,ys,rfl,rfl,hq,hz,q⟩:=h
 obtain⟨t,rfl⟩:=rx
 obtain⟨u,rfl,ru⟩:=yw rv
 cases ru
 rcases hq with hq | hq
 ·obtain⟨its,r,pl,_⟩:=I.list hq
  exact wpAny_with_toks (n:=1) I.tk (join_list pl.isList (by simpa using zBV r) hz fun t' k hk=>⟨.str (Txt.join z ys),H,I.tok k hk,⟨_,rfl⟩,q⟩)
 ·obtain⟨its,r,pl,_⟩:=I.tuple hq
  exact wpAny_with_toks (n:=1) I.tk (join_tuple pl (by simpa using zBV r) hz fun t' k hk=>⟨.str (Txt.join z ys),H,I.tok k hk,⟨_,rfl⟩,q⟩)
end
end L2
namespace L2
open PySem PySem.Spec PyProof.Rows PySem.Builtin.Str
section
variable {X:Cx}
theorem zFg:OpR X (binaryOp .Mult) (fun x y H Q=>∃ z n,x=.str z/\y=.int n/\MulOk z n/\Q (.str (Txt.mul z n)) H):=by
 intro pins s σ H x y v u Q I rx ry h
 obtain⟨z,n,rfl,rfl,hm,q⟩:=h
 obtain⟨t,rfl⟩:=rx
 obtain⟨t',rfl⟩:=ry
 exact wpAny_with_toks (n:=1) I.tk (SB.mul hm fun t' k hk=>⟨.str _,H,I.tok k hk,⟨_,rfl⟩,q⟩)
theorem zHG {bs:List Bool}:∀ {us:List Value},zX (bs.map V.bl) us->us=bs.map Value.bool:=by
 induction bs with
 | nil=>intro us r;rw[List.map_nil] at r;cases r;rfl
 | cons b bs ih =>
  intro us r
  rw[List.map_cons] at r
  cases r with
  | cons r1 r2=>rw[ih r2];cases r1;rfl
theorem zB6 (bs:List Bool):((List.range bs.length).all fun i=>bs.getD i false)=bs.all id:=by
 induction bs with
 | nil=>rfl
 | cons b bs ih =>
  rw[List.length_cons,List.range_succ_eq_map,List.all_cons,List.all_map,List.all_cons,<- ih]
  rfl
noncomputable def zKS (K:PySem.W.Frag):List V->Hp->VK->Prop:=fun xs H Q=>∃ (p:Addr) (bs:List Bool),xs=[.ref p]/\SqL K H p (bs.map V.bl)/\Q (.bl (bs.all id)) H
theorem zIH (hc:X.calm=true):jh X (.builtin "all") (zKS X.K):=by
 intro pins s σ H xs us Q I r h
 obtain⟨p,bs,rfl,hq,q⟩:=h
 obtain⟨u,rfl,ru⟩:=yw r
 cases ru
 obtain⟨its,rv,pl,hz⟩:=I.list hq
 have e:=zHG rv
 subst e
 obtain⟨o,ho,ho2⟩:=pl.isList
 have hlt:p < s.heap.objs.size:=Heap.lt_size ho
 refine wpAny_with_toks (n:=1) I.tk (call_all_walk (wpAny_pyIter_list pl.isList ?_))
 refine⟨s.heap.objs.size,_,_,_,_,_,fun i=>bs.getD i false,rfl,Walks.list (show X.A.in1.handled=none from I.ok.hd hc) s.heap.objs.size p (Nat.ne_of_lt hlt) (bs.map Value.bool).toArray,⟨⟨_,Heap.get?_push_size _ rfl,rfl,rfl⟩,pl.isList.push _⟩,?_,fun h' tk hk htk=>?_⟩
 ·intro i v s' Q' E' hP hQ
  have hP':(bs.map Value.bool)[i]? = some v:=by simpa using hP
  rw[List.getElem?_map] at hP'
  cases hb:bs[i]? with
  | none=>rw[hb] at hP';cases hP'
  | some b =>
   rw[hb] at hP'
   cases hP'
   have e:bs.getD i false=b:=by simp[List.getD,hb]
   dsimp only at hQ
   rw[e] at hQ
   exact wpAny_truthy_bool hQ
 ·have hk':∀ b o,s.heap.get? b=some o->h'.get? b=some o:=fun b o e=>hk b o (by simpa using Nat.ne_of_lt (Heap.lt_size e)) (Heap.get?_push_of_some _ e)
  refine⟨.bl (bs.all id),H,I.kept hk' htk,?_,q⟩
  show Value.bool _=Value.bool _
  rw[<- zB6]
  simp
end
mutual
inductive j4 (K:PySem.W.Frag) (H:Hp):V->PyData->Prop
 | non:j4 K H .non .none
 | bl (b:Bool):j4 K H (.bl b) (.bool b)
 | int (i:Int):j4 K H (.int i) (.int i)
 | str (x:Str):j4 K H (.str x) (.str x)
 | lst {p:Addr}{xs:List V}{ds:List PyData}:SqL K H p xs->yl K H xs ds->j4 K H (.ref p) (.list ds)
 | tup {p:Addr}{xs:List V}{ds:List PyData}:SqT K H p xs->yl K H xs ds->j4 K H (.ref p) (.tuple ds)
inductive yl (K:PySem.W.Frag) (H:Hp):List V->List PyData->Prop
 | nil:yl K H [] []
 | cons {v:V}{d:PyData}{vs:List V}{ds:List PyData}:j4 K H v d->yl K H vs ds->yl K H (v::vs) (d::ds)
end
section
variable {X:Cx}{pins:List (Addr×Obj)}{σ:St}{H:Hp}{s:Shared}
mutual
theorem j4.reads (I:Inv X pins σ H s):∀ {v:V}{d:PyData}{u:Value},j4 X.K H v d->zc v u->∃ as,Reads s.heap u d as
 | _,_,_,.non,r=>by cases r;exact⟨_,.none⟩
 | _,_,_,.bl b,r=>by cases r;exact⟨_,.bool b⟩
 | _,_,_,.int i,r=>by obtain⟨t,rfl⟩:=r;exact⟨_,.int i t⟩
 | _,_,_,.str x,r=>by obtain⟨t,rfl⟩:=r;exact⟨_,.str x t⟩
 | _,_,_,.lst hq ha,r=>by
  cases r
  obtain⟨its,rv,⟨o,n,e,hc,hd,hs⟩,_⟩:=I.list hq
  obtain⟨as,ra⟩:=yl.reads I ha rv
  exact⟨_,.list e hc hs (by simpa using ra)⟩
 | _,_,_,.tup hq ha,r=>by
  cases r
  obtain⟨its,rv,⟨o,e,hc,n,hs⟩,_⟩:=I.tuple hq
  obtain⟨as,ra⟩:=yl.reads I ha rv
  exact⟨_,.tuple e hc hs (by simpa using ra)⟩
theorem yl.reads (I:Inv X pins σ H s):∀ {vs:List V}{ds:List PyData}{us:List Value},yl X.K H vs ds->zX vs us->∃ as,ReadsAll s.heap us ds as
 | _,_,_,.nil,r=>by cases r;exact⟨_,.nil⟩
 | _,_,_,.cons h t,r=>by
  cases r with
  | cons r1 r2 =>
   obtain⟨as,ra⟩:=j4.reads I h r1
   obtain⟨bs,rb⟩:=yl.reads I t r2
   exact⟨_,.cons ra rb⟩
end
end
section
variable {X:Cx}
noncomputable def zHj (K:PySem.W.Frag) (neg:Bool):R2:=fun x y H Q=>∃ d e,j4 K H x d/\j4 K H y e/\SeqAt.shaped d=true/\SeqAt.shaped e=true/\Q (.bl (if neg then !PyData.eqv d e else PyData.eqv d e)) H
theorem zLF {k:Nat} (hr:zt k X.A):OpR X (compareOp .Eq) (zHj X.K false):=by
 intro pins s σ H x y v u Q I rx ry h
 obtain⟨d,e,hd,he,sd,se,q⟩:=h
 obtain⟨as,ra⟩:=hd.reads I rx
 obtain⟨bs,rb⟩:=he.reads I ry
 exact eq_dataH ra rb sd se hr.units ⟨.bl _,H,I,rfl,q⟩
theorem zKZ {k:Nat} (hr:zt k X.A):OpR X (compareOp .NotEq) (zHj X.K true):=by
 intro pins s σ H x y v u Q I rx ry h
 obtain⟨d,e,hd,he,sd,se,q⟩:=h
 obtain⟨as,ra⟩:=hd.reads I rx
 obtain⟨bs,rb⟩:=he.reads I ry
 exact ne_dataH ra rb sd se hr.units ⟨.bl _,H,I,rfl,q⟩
where RelC:V->Value->Prop:=fun c cv=>(∃ n,c=.ty n/\cv=.type n)\/∃ a,c=.ref a/\cv=.ref a
end
end L2
namespace L2
open PySem PySem.Spec PyProof.Rows
section
variable {X:Cx}
noncomputable def zHd:R2:=fun x y H Q=>match x,y with
 | .int i,.int j=>Q (.int (i+j)) H
 | .str a,.str b=>a.length+b.length <= sizeLine/\Q (.str (a++b)) H
 | .ref l,.ref b=>∃ xs zs,H l=some (.lst xs)/\H b=some (.lst zs)/\xs.length+zs.length <= sizeLine/\∀ p,H p=none->Q (.ref p) (upd H p (.lst (xs++zs)))
 | _,_=>False
theorem yy:OpR X (binaryOp .Add) zHd:=by
 intro pins s σ H x y v u Q I rx ry h
 cases x with
 | int i =>
  cases y with
  | int j=>exact zLG pins s σ H _ _ v u Q I rx ry ⟨i,j,rfl,rfl,h⟩
  | _=>exact False.elim h
 | str a =>
  cases y with
  | str b=>exact zFs pins s σ H _ _ v u Q I rx ry ⟨a,b,rfl,rfl,h⟩
  | _=>exact False.elim h
 | ref l =>
  cases y with
  | ref b =>
   obtain⟨xs,zs,h1,h2,h3,h4⟩:=h
   exact zLB pins s σ H _ _ v u Q I rx ry ⟨l,b,xs,zs,rfl,rfl,h1,h2,h3,h4⟩
  | _=>exact False.elim h
 | _=>exact False.elim h
noncomputable def zLQ:R2:=fun x y H Q=>match x,y with
 | .int i,.int j=>Q (.int (i - j)) H
 | _,_=>False
theorem zIh:OpR X (binaryOp .Sub) zLQ:=by
 intro pins s σ H x y v u Q I rx ry h
 cases x with
 | int i =>
  cases y with
  | int j=>exact zKu pins s σ H _ _ v u Q I rx ry ⟨i,j,rfl,rfl,h⟩
  | _=>exact False.elim h
 | _=>exact False.elim h
noncomputable def zLL:R2:=fun x y H Q=>match x,y with
 | .int i,.int j=>zFG i j/\Q (.int (i * j)) H
 | .str z,.int n=>MulOk z n/\Q (.str (Txt.mul z n)) H
 | _,_=>False
theorem zMC:OpR X (binaryOp .Mult) zLL:=by
 intro pins s σ H x y v u Q I rx ry h
 cases x with
 | int i =>
  cases y with
  | int j=>exact zKK pins s σ H _ _ v u Q I rx ry ⟨i,j,rfl,rfl,h⟩
  | _=>exact False.elim h
 | str z =>
  cases y with
  | int n=>exact zFg pins s σ H _ _ v u Q I rx ry ⟨z,n,rfl,rfl,h⟩
  | _=>exact False.elim h
 | _=>exact False.elim h
noncomputable def zK6:R2:=fun x y H Q=>match x,y with
 | .int i,.int j=>0 < j/\Q (.int (i % j)) H
 | _,_=>False
theorem jb:OpR X (binaryOp .Mod) zK6:=by
 intro pins s σ H x y v u Q I rx ry h
 cases x with
 | int i =>
  cases y with
  | int j=>exact zLJ pins s σ H _ _ v u Q I rx ry ⟨i,j,rfl,rfl,h⟩
  | _=>exact False.elim h
 | _=>exact False.elim h
noncomputable def zKk:R2:=fun x y H Q=>match x,y with
 | .int i,.int j=>(0 < j/\j < 1073741824)/\Q (.int (i / j)) H
 | _,_=>False
theorem jl:OpR X (binaryOp .FloorDiv) zKk:=by
 intro pins s σ H x y v u Q I rx ry h
 cases x with
 | int i =>
  cases y with
  | int j=>exact zIx pins s σ H _ _ v u Q I rx ry ⟨i,j,rfl,rfl,h⟩
  | _=>exact False.elim h
 | _=>exact False.elim h
noncomputable def uLt:R2:=fun x y H Q=>match x,y with
 | .int i,.int j=>Q (.bl (decide (i < j))) H
 | .str i,.str j=>Q (.bl (decide (i.cps.toList < j.cps.toList))) H
 | _,_=>False
theorem zFe:OpR X (compareOp .Lt) uLt:=by
 intro pins s σ H x y v u Q I rx ry h
 cases x with
 | int i =>
  cases y with
  | int j=>exact zL5 pins s σ H _ _ v u Q I rx ry ⟨i,j,rfl,rfl,h⟩
  | _=>exact False.elim h
 | str i =>
  cases y with
  | str j=>exact zG1 pins s σ H _ _ v u Q I rx ry ⟨i,j,rfl,rfl,h⟩
  | _=>exact False.elim h
 | _=>exact False.elim h
noncomputable def uLe:R2:=fun x y H Q=>match x,y with
 | .int i,.int j=>Q (.bl (decide (i <= j))) H
 | .str i,.str j=>Q (.bl (!decide (j.cps.toList < i.cps.toList))) H
 | _,_=>False
theorem zKo:OpR X (compareOp .LtE) uLe:=by
 intro pins s σ H x y v u Q I rx ry h
 cases x with
 | int i =>
  cases y with
  | int j=>exact zLh pins s σ H _ _ v u Q I rx ry ⟨i,j,rfl,rfl,h⟩
  | _=>exact False.elim h
 | str i =>
  cases y with
  | str j=>exact zGT pins s σ H _ _ v u Q I rx ry ⟨i,j,rfl,rfl,h⟩
  | _=>exact False.elim h
 | _=>exact False.elim h
noncomputable def uGt:R2:=fun x y H Q=>match x,y with
 | .int i,.int j=>Q (.bl (decide (j < i))) H
 | _,_=>False
theorem zMV:OpR X (compareOp .Gt) uGt:=by
 intro pins s σ H x y v u Q I rx ry h
 cases x with
 | int i =>
  cases y with
  | int j=>exact zLv pins s σ H _ _ v u Q I rx ry ⟨i,j,rfl,rfl,h⟩
  | _=>exact False.elim h
 | _=>exact False.elim h
noncomputable def uIn (K:PySem.W.Frag) (neg:Bool):R2:=fun x y H Q=>match x,y with
 | .str i,.str j=>Q (.bl (xor neg (!(Builtin.Str.occurrences j i 0 j.length 1).isEmpty))) H
 | x,.ref p=>∃ xs,(SqL K H p xs\/SqT K H p xs)/\qk x=true/\xs.all qk=true/\Q (.bl (xor neg (inV x xs))) H
 | _,_=>False
theorem zMq:OpR X (compareOp .In) (uIn X.K false):=by
 intro pins s σ H x y v u Q I rx ry h
 cases y with
 | str j =>
  cases x with
  | str i =>
   have h':Q (.bl (xor false (!(Builtin.Str.occurrences j i 0 j.length 1).isEmpty))) H:=h
   rw[Bool.false_xor] at h'
   exact zG4 pins s σ H _ _ v u Q I rx ry ⟨i,j,rfl,rfl,h'⟩
  | _=>exact False.elim h
 | ref p =>
  have h':∃ xs,(SqL X.K H p xs\/SqT X.K H p xs)/\qk x=true/\xs.all qk=true/\Q (.bl (xor false (inV x xs))) H:=by cases x<;>exact h
  obtain⟨xs,h1,h2,h3,h4⟩:=h'
  rw[Bool.false_xor] at h4
  exact zGS pins s σ H _ _ v u Q I rx ry ⟨p,xs,rfl,h1,h2,h3,h4⟩
 | _=>cases x<;>exact False.elim h
theorem zJp:OpR X (compareOp .NotIn) (uIn X.K true):=by
 intro pins s σ H x y v u Q I rx ry h
 cases y with
 | str j =>
  cases x with
  | str i =>
   have h':Q (.bl (xor true (!(Builtin.Str.occurrences j i 0 j.length 1).isEmpty))) H:=h
   rw[Bool.true_xor] at h'
   exact zDt pins s σ H _ _ v u Q I rx ry ⟨i,j,rfl,rfl,h'⟩
  | _=>exact False.elim h
 | ref p =>
  have h':∃ xs,(SqL X.K H p xs\/SqT X.K H p xs)/\qk x=true/\xs.all qk=true/\Q (.bl (xor true (inV x xs))) H:=by cases x<;>exact h
  obtain⟨xs,h1,h2,h3,h4⟩:=h'
  rw[Bool.true_xor] at h4
  exact zDq pins s σ H _ _ v u Q I rx ry ⟨p,xs,rfl,h1,h2,h3,h4⟩
 | _=>cases x<;>exact False.elim h
noncomputable def uIx (K:PySem.W.Frag):R2:=fun x y H Q=>match x,y with
 | .str z,.int i=>∃ c,z.length <= sizeLine/\atI z.cps.toList i=some c/\Q (.str ⟨#[c]⟩) H
 | .ref p,.int i=>∃ xs v,(SqL K H p xs\/SqT K H p xs)/\atI xs i=some v/\Q v H
 | _,_=>False
theorem zMg:IxR X (uIx X.K):=by
 intro value slice pins s σ H x y v u Q I rx ry h hs
 cases x with
 | str z =>
  cases y with
  | int i =>
   obtain⟨c,h1,h2,h3⟩:=h
   exact zLE value slice pins s σ H _ _ v u Q I rx ry ⟨z,i,c,rfl,rfl,h1,h2,h3⟩ hs
  | _=>exact False.elim h
 | ref p =>
  cases y with
  | int i =>
   obtain⟨xs,c,h1 | h1,h2,h3⟩:=h
   ·exact zIu value slice pins s σ H _ _ v u Q I rx ry ⟨p,xs,i,c,rfl,rfl,h1,h2,h3⟩ hs
   ·exact zJz value slice pins s σ H _ _ v u Q I rx ry ⟨p,xs,i,c,rfl,rfl,h1,h2,h3⟩ hs
  | _=>exact False.elim h
 | _=>exact False.elim h
noncomputable def uSl (K:PySem.W.Frag):V->Option Int->Option Int->Hp->VK->Prop:=fun x lo hi H Q=>match x with
 | .str z=>z.length <= sizeLine/\Q (.str (zB9 z lo hi)) H
 | .ref a=>(∃ xs,SqL K H a xs/\∀ p,H p=none->Q (.ref p) (upd H p (.lst (Qx xs lo hi)))) \/
   (∃ xs,SqT K H a xs /\ ¬ (HT.sIx xs.length 0 lo=0/\HT.sIx xs.length xs.length hi=xs.length)/\∀ p,H p=none->Q (.ref p) (upd H p (.tup (Qx xs lo hi))))
 | _=>False
theorem zMS:SlR X (uSl X.K):=by
 intro pins s σ H x v vl vu lo hi sl Q I rx hs pl pu h
 cases x with
 | str z=>exact zK1 pins s σ H _ v vl vu lo hi sl Q I rx hs pl pu ⟨z,rfl,h⟩
 | ref a =>
  rcases h with ⟨xs,h1,h2⟩ | ⟨xs,h1,h2,h3⟩
  ·exact zJs pins s σ H _ v vl vu lo hi sl Q I rx hs pl pu ⟨a,xs,rfl,h1,h2⟩
  ·exact zJ1 pins s σ H _ v vl vu lo hi sl Q I rx hs pl pu ⟨a,xs,rfl,h1,h2,h3⟩
 | _=>exact False.elim h
noncomputable def zKW (K:PySem.W.Frag):List V->Hp->VK->Prop:=fun xs H Q=>match xs with
 | [.str z]=>z.length <= sizeLine/\Q (.int z.length) H
 | [.ref p]=>∃ ys,(SqL K H p ys\/SqT K H p ys)/\Q (.int ys.length) H
 | _=>False
theorem zL9:jh X (.builtin "len") (zKW X.K):=by
 intro pins s σ H xs us Q I r h
 match xs,h with
 | [.str z],h=>exact zDv pins s σ H _ us Q I r ⟨z,rfl,h⟩
 | [.ref p],h =>
  obtain⟨ys,h1,h2⟩:=h
  exact zDu pins s σ H _ us Q I r ⟨p,ys,rfl,h1,h2⟩
end
theorem Js:bootBuiltins "len" = some (.builtin "len"):=by decide +kernel
theorem zKd:bootBuiltins "all" = some (.builtin "all"):=by decide +kernel
theorem Zy:bootBuiltins "isinstance" = some (.builtin "isinstance"):=by decide +kernel
theorem zGh:bootBuiltins "str" = some (.type "str"):=by decide +kernel
theorem zGq:bootBuiltins "int" = some (.type "int"):=by decide +kernel
theorem zJb:bootBuiltins "bool" = some (.type "bool"):=by decide +kernel
theorem zAF:bootBuiltins "list" = some (.type "list"):=by decide +kernel
theorem zD5:bootBuiltins "tuple" = some (.type "tuple"):=by decide +kernel
structure Has (P:Program) (w:World) (K:PySem.W.Frag) (mg:Str->Option Value) (base:Heap) (x:Str) (k:Nat) (ps:List Str) (sp:Sp):Prop where
 ex:∃ f fd,jd P w K mg base CX0 k f fd ps sp/\yz K fd ps []/\PySem.W.keepIn K (.ref f)=true/\mg x=some (.ref f)
section
variable {X:Cx}{k kk:Nat}{x:Str}{ps:List Str}{sp:Sp}{e:Expr}{es:List Expr}{t:TA}{p pos:Pos}
theorem zHx (h:Has X.prog X.w X.K X.mg X.base x k ps sp) (hr:zt kk X.A) (hk:k <= kk) (hg:Gl X x) (ha:PA X (e::es) t) (hx:qX CX0 X E0:=by exact Z6) (hdb:(x == ("__debug__" : Str))=false:=by decide)
  (he:starEach (e::es) X.env=(false,eval e X.env)::starEach es X.env:=by rfl) (hpl:(backTo pos (starEach es X.env)).any (·.1)=false:=by rfl) :
  PE X (.Call (.Name x p) (e::es) [] pos) (zIc sp [] E0 t):=by
 obtain⟨f,fd,F,b,kp,m⟩:=h.ex
 exact zJm F (hr.mono hk) hg m kp b .nil hx ha hdb he hpl
structure zDO (mg:Str->Option Value) (x:Str) (v:V):Prop where
 ex:∃ u,mg x=some u/\zc v u
theorem zHr {v:V} (h:zDO X.mg x v) (hg:Gl X x) (hd:(x == ("__debug__" : Str))=false:=by decide):PE X (.Name x pos) (tC v):=by
 obtain⟨u,m,r⟩:=h.ex
 exact zIk hg m r hd
end
noncomputable def zKx:V->Value->Bool
 | .non,.none=>true
 | .bl a,.bool b=>a == b
 | .int i,.int j _=>i == j
 | .str x,.str y _=>x == y
 | _,_=>false
theorem zJF:∀ {v:V}{u:Value},zKx v u=true->zc v u
 | .non,.none,_=>rfl
 | .bl a,.bool b,h=>by
  have e:a=b:=eq_of_beq h
  rw[e];rfl
 | .int i,.int j t,h=>by
  have e:i=j:=eq_of_beq h
  rw[e];exact⟨t,rfl⟩
 | .str x,.str y t,h=>by
  have e:x=y:=eq_of_beq h
  rw[e];exact⟨t,rfl⟩
theorem Qc {K:PySem.W.Frag}{A B:String}{b:Bool} (h:(if (Value.type A == Value.type B)=true then some true else if PySem.W.kitMeta B=true then (PySem.fastBuiltinMro A).map (·.contains (Value.type B)) else none)=some b):PySem.W.kitOne K (.type A) (.type B)=some b:=h
end L2
namespace TX
open PySem
noncomputable def sp (y:Nat):Nat:=if y=10 then 32 else y
end TX
namespace TS
open PySem PyProof.Rows
variable {prog:Program}{w:World}{A:Around}{E:Value->Shared->Prop}{s:Shared}{a₀:Array Keyed}{κ:KeyKind}
structure SG (a₀:Array Keyed) (st:SortSt):Prop where
 pm:(arrOf st).Perm a₀
 kd:kindOf st=oneType'
 fl:failedOf st=none
noncomputable def Ri (κ:KeyKind) (xs:Array Keyed) (lo k:Nat):Prop:=∀ i j,i <= j->j < k->κ.kle (KK κ xs (lo+i)) (KK κ xs (lo+j))
structure zM4 (a₀:Array Keyed) (lo hi:Nat) (st st':SortSt):Prop where
 ok:SG a₀ st'
 out:∀ k,k < lo\/hi <= k->(arrOf st')[k]? = (arrOf st)[k]?
 pd:pendingOf st'=pendingOf st
noncomputable def kyo (κ:KeyKind) (p:Keyed):κ.α:=(κ.keyOf p.1).getD κ.dflt
noncomputable def zKa (κ:KeyKind) (p:Keyed):Prop:=∃ a,κ.keyOf p.1=some a
structure MI (R:Keyed->Keyed->Prop) (l ra rb out:List Keyed):Prop where
 pm:(out++ra++rb).Perm l
 so:out.Pairwise R
 oa:∀ x,x∈out->∀ y,y∈ra->R x y
 ob:∀ x,x∈out->∀ y,y∈rb->R x y
 sa:ra.Pairwise R
 sb:rb.Pairwise R
structure zM5 (st st':SortSt):Prop where
 kd:kindOf st'=kindOf st
 ar:arrOf st'=arrOf st
 pd:pendingOf st'=pendingOf st
 fl:failedOf st'=failedOf st
noncomputable def kl (κ:KeyKind) (p q:Keyed):Prop:=κ.kle (kyo κ p) (kyo κ q)
structure MG (κ:KeyKind) (x y:Array Keyed):Prop where
 kx:∀ p,p∈x.toList->zKa κ p
 ky:∀ p,p∈y.toList->zKa κ p
 rx:Ri κ x 0 x.size
 ry:Ri κ y 0 y.size
 nx:1 <= x.size
 ny:1 <= y.size
 fst:∀ p q,y[0]? = some p->x[0]? = some q->kl κ p q
 lst:∀ p q,y[y.size - 1]? = some p->x[x.size - 1]? = some q->kl κ p q
noncomputable abbrev H7:=Option (Array Keyed)×Nat×Nat×Array Keyed×Nat×Nat×Nat
noncomputable abbrev H6:=Option (Array Keyed)×Nat×Nat×Array Keyed×Nat×Nat
noncomputable abbrev H5:=Option (Array Keyed)×Nat×Nat×Array Keyed×Nat
noncomputable def zKV (κ:KeyKind) (xs:Array Keyed):List (Nat×Nat×Nat)->Nat->Nat->Prop
 | [],lo,hi=>lo=hi
 | r::t,lo,hi=>r.1=lo/\1 <= r.2.1/\Ri κ xs lo r.2.1/\zKV κ xs t (lo+r.2.1) hi
structure PR (κ:KeyKind) (a₀:Array Keyed) (lo:Nat) (st:SortSt):Prop where
 ok:SG a₀ st
 rn:zKV κ (arrOf st) (pendingOf st).toList 0 lo
end TS
namespace M
noncomputable abbrev T:=List Nat
inductive Kd where
 | str | int | bool | list | tuple | dict
 deriving DecidableEq
inductive D where
 | non | bl (b:Bool) | int (i:Int) | str (x:T) | tup (ds:List D) | ro (ds:List D) | ref (i:Nat) | ty (n:Kd)
mutual
noncomputable def D.decEq:(a b:D)->Decidable (a=b)
 | .non,.non=>isTrue rfl
 | .bl a,.bl b=>if h:a=b then isTrue (by rw[h]) else isFalse (fun e=>h (D.bl.inj e))
 | .int a,.int b=>if h:a=b then isTrue (by rw[h]) else isFalse (fun e=>h (D.int.inj e))
 | .str a,.str b=>if h:a=b then isTrue (by rw[h]) else isFalse (fun e=>h (D.str.inj e))
 | .ref a,.ref b=>if h:a=b then isTrue (by rw[h]) else isFalse (fun e=>h (D.ref.inj e))
 | .ty a,.ty b=>if h:a=b then isTrue (by rw[h]) else isFalse (fun e=>h (D.ty.inj e))
 | .tup a,.tup b=>match D.decEqs a b with
  | isTrue h=>isTrue (by rw[h])
  | isFalse h=>isFalse (fun e=>h (D.tup.inj e))
 | .ro a,.ro b=>match D.decEqs a b with
  | isTrue h=>isTrue (by rw[h])
  | isFalse h=>isFalse (fun e=>h (D.ro.inj e))
 | .non,.bl _ | .non,.int _ | .non,.str _ | .non,.tup _ | .non,.ro _ | .non,.ref _ | .non,.ty _=>isFalse (fun e=>nomatch e)
 | .bl _,.non | .bl _,.int _ | .bl _,.str _ | .bl _,.tup _ | .bl _,.ro _ | .bl _,.ref _ | .bl _,.ty _=>isFalse (fun e=>nomatch e)
 | .int _,.non | .int _,.bl _ | .int _,.str _ | .int _,.tup _ | .int _,.ro _ | .int _,.ref _ | .int _,.ty _=>isFalse (fun e=>nomatch e)
 | .str _,.non | .str _,.bl _ | .str _,.int _ | .str _,.tup _ | .str _,.ro _ | .str _,.ref _ | .str _,.ty _=>isFalse (fun e=>nomatch e)
 | .tup _,.non | .tup _,.bl _ | .tup _,.int _ | .tup _,.str _ | .tup _,.ro _ | .tup _,.ref _ | .tup _,.ty _=>isFalse (fun e=>nomatch e)
 | .ro _,.non | .ro _,.bl _ | .ro _,.int _ | .ro _,.str _ | .ro _,.tup _ | .ro _,.ref _ | .ro _,.ty _=>isFalse (fun e=>nomatch e)
 | .ref _,.non | .ref _,.bl _ | .ref _,.int _ | .ref _,.str _ | .ref _,.tup _ | .ref _,.ro _ | .ref _,.ty _=>isFalse (fun e=>nomatch e)
 | .ty _,.non | .ty _,.bl _ | .ty _,.int _ | .ty _,.str _ | .ty _,.tup _ | .ty _,.ro _ | .ty _,.ref _=>isFalse (fun e=>nomatch e)
noncomputable def D.decEqs:(a b:List D)->Decidable (a=b)
 | [],[]=>isTrue rfl
 | [],_::_=>isFalse (fun e=>nomatch e)
 | _::_,[]=>isFalse (fun e=>nomatch e)
 | a::r,b::t=>match D.decEq a b,D.decEqs r t with
  | isTrue h,isTrue k=>isTrue (by rw[h,k])
  | isFalse h,_=>isFalse (fun e=>h (List.cons.inj e).1)
  | _,isFalse k=>isFalse (fun e=>k (List.cons.inj e).2)
end
instance:DecidableEq D:=D.decEq
inductive O where
 | lst (xs:List D) | dct (kvs:List (D×D)) | fdc (kvs:List (D×D)) | dtt (kvs:List (D×D)) | ins (c:Nat) (fs:List (Option D))
 deriving DecidableEq
noncomputable abbrev S:=List O
noncomputable abbrev St:=List (Option D)
inductive R (α:Type) where
 | ok (a:α) (s:S) | exc (e:D) (s:S) | no
noncomputable def R.bind {α β:Type}:R α->(α->S->R β)->R β
 | .ok a s,f=>f a s
 | .exc e s,_=>.exc e s
 | .no,_=>.no
@[simp] theorem R.bind_ok {α β:Type} (a:α) (s:S) (f:α->S->R β):(R.ok a s).bind f=f a s:=rfl
@[simp] theorem R.bind_no {α β:Type} (f:α->S->R β):(R.no:R α).bind f=.no:=rfl
@[simp] theorem R.bind_exc {α β:Type} (e:D) (s:S) (f:α->S->R β):(R.exc e s:R α).bind f=.exc e s:=rfl
section
variable {α β:Type}{c:Prop} [Decidable c]
@[simp] theorem R.bind_ite (a b:R α) (f:α->S->R β):(if c then a else b).bind f=if c then a.bind f else b.bind f:=by split<;>rfl
@[simp] theorem R.ite_ok (a b:α) (s:S):(if c then R.ok a s else R.ok b s)=R.ok (if c then a else b) s:=by split<;>rfl
@[simp] theorem D.ite_bl (a b:Bool):(if c then D.bl a else D.bl b)=D.bl (if c then a else b):=by split<;>rfl
@[simp] theorem D.ite_int (a b:Int):(if c then D.int a else D.int b)=D.int (if c then a else b):=by split<;>rfl
@[simp] theorem D.ite_str (a b:T):(if c then D.str a else D.str b)=D.str (if c then a else b):=by split<;>rfl
@[simp] theorem D.ite_tup (a b:List D):(if c then D.tup a else D.tup b)=D.tup (if c then a else b):=by split<;>rfl
@[simp] theorem St.ite_some (a b:D):(if c then some a else some b)=some (if c then a else b):=by split<;>rfl
@[simp] theorem St.ite_cons (a b:Option D) (r t:St):(if c then a::r else b::t)=(if c then a else b)::(if c then r else t):=by split<;>rfl
end
noncomputable abbrev EM:=St->S->R D
noncomputable abbrev TM:=St->S->R Bool
noncomputable abbrev AM:=St->S->R (List D)
noncomputable def SZ:Nat:=16777216
@[simp] noncomputable def zA (i:Nat):EM:=fun σ s=>match σ[i]? with
 | some (some d)=>.ok d s
 | _=>.no
@[simp] noncomputable def eC (d:D):EM:=fun _ s=>.ok d s
@[simp] noncomputable def eOp (f:D->D->S->R D) (a b:EM):EM:=fun σ s=>(a σ s).bind fun x s=>(b σ s).bind fun y s=>f x y s
@[simp] noncomputable def eUn (f:D->S->R D) (a:EM):EM:=fun σ s=>(a σ s).bind fun x s=>f x s
@[simp] noncomputable def zI:AM:=fun _ s=>.ok [] s
@[simp] noncomputable def zD (a:EM) (r:AM):AM:=fun σ s=>(a σ s).bind fun x s=>(r σ s).bind fun xs s=>.ok (x::xs) s
@[simp] noncomputable def Zv (a:AM):EM:=fun σ s=>(a σ s).bind fun xs s=>if xs.length <= SZ then .ok (.tup xs) s else .no
@[simp] noncomputable def alloc (o:O) (s:S):R D:=.ok (.ref s.length) (s++[o])
@[simp] noncomputable def yE (a:AM):EM:=fun σ s=>(a σ s).bind fun xs s=>if xs.length <= SZ then alloc (.lst xs) s else .no
@[simp] noncomputable def jD (s:S) (i:Nat):Option (List D):=match s[i]? with
 | some (.lst xs)=>some xs
 | _=>none
@[simp] noncomputable def qZ:D->D->S->R D
 | .int i,.int j,s=>.ok (.int (i+j)) s
 | .str a,.str b,s=>if a.length+b.length <= SZ then .ok (.str (a++b)) s else .no
 | .tup a,.tup b,s=>if a≠[]/\a.length+b.length <= SZ then .ok (.tup (a++b)) s else .no
 | .ref i,.ref j,s=>match s[i]?,s[j]? with
  | some (.lst xs),some (.lst ys)=>if xs.length+ys.length <= SZ then alloc (.lst (xs++ys)) s else .no
  | _,_=>.no
 | _,_,_=>.no
@[simp] noncomputable def zFc:D->D->S->R D
 | .int i,.int j,s=>.ok (.int (i - j)) s
 | _,_,_=>.no
noncomputable def qx (i:Int):Bool:=decide (i.natAbs < 18446744073709551616)
@[simp] noncomputable def zBe:D->D->S->R D
 | .int i,.int j,s=>if qx i || qx j then .ok (.int (i * j)) s else .no
 | .str a,.int n,s=>if 0 <= n/\n.natAbs <= 1000000/\a.length * n.natAbs <= 1000000 then .ok (.str (List.replicate n.toNat a).flatten) s else .no
 | .ref p,.int n,s=>match jD s p with
  | some xs=>if n.natAbs <= 1000/\xs.length * n.natAbs <= 1000000 then alloc (.lst (List.replicate n.toNat xs).flatten) s else .no
  | none=>.no
 | _,_,_=>.no
@[simp] noncomputable def zv:D->D->S->R D
 | .int i,.int j,s=>if 0 < j/\j.natAbs < 1073741824 then .ok (.int (i / j)) s else .no
 | _,_,_=>.no
@[simp] noncomputable def zm:D->D->S->R D
 | .int i,.int j,s=>if 0 < j then .ok (.int (i % j)) s else .no
 | _,_,_=>.no
@[simp] noncomputable def zC9:D->D->S->R D
 | .int i,.int j,s=>if 0 <= j/\j.natAbs <= 1000000/\i.natAbs < 18446744073709551616 then .ok (.int (i ^ j.toNat)) s else .no
 | _,_,_=>.no
noncomputable abbrev CM:=D->D->S->R Bool
@[simp] noncomputable def cLt:CM
 | .int i,.int j,s=>.ok (decide (i < j)) s
 | .str a,.str b,s=>.ok (decide (a < b)) s
 | _,_,_=>.no
@[simp] noncomputable def cLe:CM
 | .int i,.int j,s=>.ok (decide (i <= j)) s
 | .str a,.str b,s=>.ok (!decide (b < a)) s
 | _,_,_=>.no
@[simp] noncomputable def cGt:CM
 | .int i,.int j,s=>.ok (decide (j < i)) s
 | _,_,_=>.no
inductive P where
 | non | bl (b:Bool) | int (i:Int) | str (x:T) | tup (ps:List P) | lst (ps:List P)
mutual
noncomputable def P.eqv:P->P->Bool
 | .non,.non=>true
 | .bl a,.bl b=>a == b
 | .int a,.int b=>a == b
 | .bl a,.int b=>(if a then 1 else 0) == b
 | .int a,.bl b=>a == (if b then 1 else 0)
 | .str a,.str b=>a == b
 | .tup a,.tup b=>P.eqvs a b
 | .lst a,.lst b=>P.eqvs a b
 | _,_=>false
noncomputable def P.eqvs:List P->List P->Bool
 | [],[]=>true
 | a::r,b::t=>P.eqv a b && P.eqvs r t
 | _,_=>false
end
mutual
noncomputable def P.dep:P->Nat
 | .tup ps=>P.deps ps+1
 | .lst ps=>P.deps ps+1
 | _=>0
noncomputable def P.deps:List P->Nat
 | []=>0
 | p::ps=>max (P.dep p) (P.deps ps)
end
noncomputable def qK (g:Nat->Option P):D->Option P
 | .non=>some .non
 | .bl b=>some (.bl b)
 | .int i=>some (.int i)
 | .str x=>some (.str x)
 | .tup ds=>(all ds).map .tup
 | .ro ds=>(all ds).map .lst
 | .ref i=>g i
 | .ty _=>none
where all:List D->Option (List P)
 | []=>some []
 | d::ds=>match qK g d,all ds with
  | some p,some ps=>some (p::ps)
  | _,_=>none
noncomputable def toP:Nat->S->D->Option P
 | 0,_=>qK fun _=>none
 | n+1,s=>qK fun i=>match jD s i with
  | some xs=>(qK.all (fun j=>toP n s (.ref j)) xs).map .lst
  | none=>none
noncomputable def Qt:Nat:=9
noncomputable def jR (k:D) (kvs:List (D×D)):Option D:=kvs.lookup k
noncomputable def dEq (s:S) (ws:List (D×D)):List (D×D)->Option Bool
 | []=>some true
 | (k,v)::r=>match jR k ws with
  | none=>some false
  | some w=>match toP 8 s v,toP 8 s w,dEq s ws r with
   | some p,some q,some b=>if P.dep p <= 64/\P.dep q <= 64 then some (P.eqv p q && b) else none
   | _,_,_=>none
noncomputable def zC4 (x y:D) (s:S):R Bool:=match x,y with
 | .ref i,.ref j=>match s[i]?,s[j]? with
  | some (.dct ks),some (.dct ws)=>if ks.length=ws.length then (match dEq s ws ks with | some b=>.ok b s | none=>.no) else .ok false s
  | _,_=>.no
 | _,_=>.no
@[simp] noncomputable def eqD (x y:D) (s:S):R Bool:=match x,y with
 | .str a,.str b=>.ok (decide (a=b)) s
 | .int a,.int b=>.ok (decide (a=b)) s
 | .bl a,.bl b=>.ok (decide (a=b)) s
 | .non,.non=>.ok true s
 | x,y=>match toP Qt s x,toP Qt s y with
  | some p,some q=>if P.dep p <= 64/\P.dep q <= 64 then .ok (P.eqv p q) s else .no
  | _,_=>zC4 x y s
@[simp] noncomputable def cEq:CM:=fun x y s=>eqD x y s
@[simp] noncomputable def cNe:CM:=fun x y s=>(eqD x y s).bind fun b s=>.ok (!b) s
noncomputable def J9 (a:T):T->Bool
 | []=>a.isEmpty
 | c::r=>a.isPrefixOf (c::r) || J9 a r
noncomputable def flat:D->Bool
 | .non=>true
 | .bl _=>true
 | .int _=>true
 | .str _=>true
 | _=>false
noncomputable def eqF:D->D->Bool
 | .non,.non=>true
 | .bl a,.bl b=>a == b
 | .int a,.int b=>a == b
 | .bl a,.int b=>(if a then 1 else 0) == b
 | .int a,.bl b=>a == (if b then 1 else 0)
 | .str a,.str b=>a == b
 | _,_=>false
noncomputable def J6 (x:D) (xs:List D):Bool:=xs.any fun y=>eqF y x
noncomputable def ZG:D->Bool
 | .int _=>true
 | .str _=>true
 | _=>false
@[simp] noncomputable def inD (x y:D) (s:S):R Bool:=match y with
 | .str b=>match x with
  | .str a=>.ok (J9 a b) s
  | _=>.no
 | .tup ys=>if flat x && ys.all flat then .ok (J6 x ys) s else .no
 | .ro ys=>if flat x && ys.all flat then .ok (J6 x ys) s else .no
 | .ref i=>match s[i]? with
  | some (.lst ys)=>if flat x && ys.all flat then .ok (J6 x ys) s else .no
  | some (.dct kvs)=>if ZG x then .ok (jR x kvs).isSome s else .no
  | some (.fdc kvs)=>if ZG x then .ok (jR x kvs).isSome s else .no
  | _=>.no
 | _=>.no
@[simp] noncomputable def JT (c:CM) (a b:EM):EM:=fun σ s=>(a σ s).bind fun x s=>(b σ s).bind fun y s=>(c x y s).bind fun k s=>.ok (.bl k) s
@[simp] noncomputable def jT (c:CM) (a b:EM):TM:=fun σ s=>(a σ s).bind fun x s=>(b σ s).bind fun y s=>c x y s
@[simp] noncomputable def zDR (c d:CM) (a b e:EM):EM:=fun σ s=>(a σ s).bind fun x s=>(b σ s).bind fun y s=>(c x y s).bind fun k s =>
 if k then (e σ s).bind fun z s=>(d y z s).bind fun k s=>.ok (.bl k) s else .ok (.bl false) s
@[simp] noncomputable def Z3:D->S->R Bool
 | .non,s=>.ok false s
 | .bl b,s=>.ok b s
 | .int i,s=>.ok (decide (i≠0)) s
 | .str x,s=>if x.length <= SZ then .ok (!x.isEmpty) s else .no
 | .tup ds,s=>.ok (!ds.isEmpty) s
 | .ro ds,s=>.ok (!ds.isEmpty) s
 | .ref i,s=>match s[i]? with
  | some (.lst xs)=>.ok (!xs.isEmpty) s
  | some (.dct kvs)=>.ok (!kvs.isEmpty) s
  | _=>.no
 | .ty _,_=>.no
@[simp] noncomputable def Zd (a:EM):TM:=fun σ s=>(a σ s).bind Z3
@[simp] noncomputable def ZT (a:TM):TM:=fun σ s=>(a σ s).bind fun b s=>.ok (!b) s
@[simp] noncomputable def zAD (a b:TM):TM:=fun σ s=>(a σ s).bind fun k s=>if k then b σ s else .ok false s
@[simp] noncomputable def tOr (a b:TM):TM:=fun σ s=>(a σ s).bind fun k s=>if k then .ok true s else b σ s
noncomputable def ixN (n:Nat) (i:Int):Option Nat:=if 0 <= i then (if i < n then some i.toNat else none) else if -(n:Int) <= i then some (i+n).toNat else none
noncomputable def atI {α:Type} (xs:List α) (i:Int):Option α:=(ixN xs.length i).bind fun j=>xs[j]?
@[simp] noncomputable def ZV:D->D->S->R D
 | .str x,.int i,s=>if x.length <= SZ then (match atI x i with | some c=>.ok (.str [c]) s | none=>.no) else .no
 | .tup xs,.int i,s=>match atI xs i with | some d=>.ok d s | none=>.no
 | .ro xs,.int i,s=>match atI xs i with | some d=>.ok d s | none=>.no
 | .ref p,k,s=>match s[p]? with
  | some (.lst xs)=>(match k with | .int i=>(match atI xs i with | some d=>.ok d s | none=>.no) | _=>.no)
  | some (.dct kvs)=>if ZG k then (match jR k kvs with | some d=>.ok d s | none=>.no) else .no
  | some (.fdc kvs)=>if ZG k then (match jR k kvs with | some d=>.ok d s | none=>.no) else .no
  | _=>.no
 | _,_,_=>.no
noncomputable def sIx (n d:Nat):Option Int->Nat
 | none=>d
 | some v=>(if v < 0 then max (v+(n:Int)) 0 else min v (n:Int)).toNat
noncomputable def cut {α:Type} (xs:List α) (lo hi:Option Int):List α:=(xs.drop (sIx xs.length 0 lo)).take (sIx xs.length xs.length hi - sIx xs.length 0 lo)
noncomputable abbrev OM:=St->S->R (Option Int)
@[simp] noncomputable def zFP:OM:=fun _ s=>.ok none s
@[simp] noncomputable def zFB (a:EM):OM:=fun σ s=>(a σ s).bind fun x s=>match x with | .int i=>.ok (some i) s | _=>.no
@[simp] noncomputable def slD (x:D) (lo hi:Option Int) (s:S):R D:=match x with
 | .str z=>if z.length <= SZ then .ok (.str (cut z lo hi)) s else .no
 | .tup xs=>if sIx xs.length 0 lo=0/\sIx xs.length xs.length hi=xs.length then .no else .ok (.tup (cut xs lo hi)) s
 | .ro xs=>alloc (.lst (cut xs lo hi)) s
 | .ref p=>match jD s p with
  | some xs=>alloc (.lst (cut xs lo hi)) s
  | none=>.no
 | _=>.no
@[simp] noncomputable def eSl (a:EM) (lo hi:OM):EM:=fun σ s=>(a σ s).bind fun x s=>(lo σ s).bind fun l s=>(hi σ s).bind fun h s=>slD x l h s
@[simp] noncomputable def Zi (x:D) (s:S):R D:=match x with
 | .str z=>if z.length <= SZ then .ok (.str z.reverse) s else .no
 | .ref p=>match jD s p with
  | some xs=>alloc (.lst xs.reverse) s
  | none=>.no
 | _=>.no
noncomputable abbrev F:=List D->S->R D
@[simp] noncomputable def zR (f:F) (a:AM):EM:=fun σ s=>(a σ s).bind fun xs s=>f xs s
@[simp] noncomputable def JL (k:Kd) (x:D) (s:S):Bool:=match x with
 | .str _=>(match k with | .str=>true | _=>false)
 | .ro _=>(match k with | .list=>true | _=>false)
 | .ref p=>match s[p]? with
  | some (.lst _)=>(match k with | .list=>true | _=>false)
  | some (.dct _)=>(match k with | .dict=>true | _=>false)
  | some (.dtt _)=>(match k with | .dict=>true | _=>false)
  | _=>false
 | _=>false
@[simp] noncomputable def eM (k:Kd) (f:D->F) (o:EM) (a:AM):EM:=fun σ s=>(o σ s).bind fun x s=>if JL k x s then (a σ s).bind fun xs s=>f x xs s else .no
@[simp] noncomputable def qj (c:Nat) (f:F) (o:EM) (a:AM):EM:=fun σ s=>(o σ s).bind fun x s=>match x with
 | .ref p=>(match s[p]? with
  | some (.ins c' _)=>if c'=c then (a σ s).bind fun xs s=>f (x::xs) s else .no
  | _=>.no)
 | _=>.no
@[simp] noncomputable def zAL (c:Nat) (n:Nat) (f:F) (a:AM):EM:=fun σ s=>(a σ s).bind fun xs s=>(f (.ref s.length::xs) (s++[.ins c (List.replicate n none)])).bind fun d s'=>if d=.non then .ok (.ref s.length) s' else .no
@[simp] noncomputable def yM (c:Nat) (i:Nat) (o:EM):EM:=fun σ s=>(o σ s).bind fun x s=>match x with
 | .ref p=>(match s[p]? with
  | some (.ins c' fs)=>if c'=c then (match fs[i]? with | some (some d)=>.ok d s | _=>.no) else .no
  | _=>.no)
 | _=>.no
@[simp] noncomputable def Jf:F
 | [.str x],s=>if x.length <= SZ then .ok (.int x.length) s else .no
 | [.tup xs],s=>.ok (.int xs.length) s
 | [.ro xs],s=>.ok (.int xs.length) s
 | [.ref p],s=>match s[p]? with
  | some (.lst xs)=>.ok (.int xs.length) s
  | some (.dct kvs)=>.ok (.int kvs.length) s
  | _=>.no
 | _,_=>.no
@[simp] noncomputable def ZY (n:Kd) (x:D) (s:S):R Bool:=match x with
 | .non=>.ok false s
 | .bl _=>.ok (match n with | .bool=>true | .int=>true | _=>false) s
 | .int _=>.ok (match n with | .int=>true | _=>false) s
 | .str _=>.ok (match n with | .str=>true | _=>false) s
 | .tup _=>.ok (match n with | .tuple=>true | _=>false) s
 | .ro _=>.ok (match n with | .list=>true | _=>false) s
 | .ty _=>.no
 | .ref p=>match s[p]? with
  | some (.lst _)=>.ok (match n with | .list=>true | _=>false) s
  | some (.dct _)=>.ok (match n with | .dict=>true | _=>false) s
  | _=>.no
@[simp] noncomputable def Jw:F
 | [x,.ty n],s=>(ZY n x s).bind fun b s=>.ok (.bl b) s
 | _,_=>.no
noncomputable def Qe:List D->Option (List Bool)
 | []=>some []
 | .bl b::r=>(Qe r).map (b :: ·)
 | _::_=>none
noncomputable def Qi:List D->Option (List T)
 | []=>some []
 | .str x::r=>(Qi r).map (x :: ·)
 | _::_=>none
noncomputable def zA3 (xs:List D) (s:S):R D:=match Qe xs with
 | some bs=>.ok (.bl (bs.all id)) s
 | none=>.no
@[simp] noncomputable def zM7 (k:List D->S->R D):F
 | [.tup xs],s=>k xs s
 | [.ro xs],s=>k xs s
 | [.ref p],s=>match jD s p with
  | some xs=>k xs s
  | none=>.no
 | _,_=>.no
noncomputable def Zn (x:T):List T->T
 | []=>[]
 | [y]=>y
 | y::r=>y++x++Zn x r
noncomputable def ZF (x:T) (xs:List D) (s:S):R D:=match Qi xs with
 | some ys=>if (ys.map List.length).sum+ys.length * x.length <= SZ then .ok (.str (Zn x ys)) s else .no
 | none=>.no
noncomputable def JD (i:Int):T:=(toString i).toList.map Char.toNat
@[simp] noncomputable def zFj:F
 | [.int i],s=>if qx i then .ok (.str (JD i)) s else .no
 | _,_=>.no
@[simp] noncomputable def zDZ:F
 | [.int i],s=>.ok (.int i) s
 | [.bl b],s=>.ok (.int (if b then 1 else 0)) s
 | _,_=>.no
@[simp] noncomputable def zC6:F
 | [.tup xs],s=>alloc (.lst xs) s
 | [.ro xs],s=>alloc (.lst xs) s
 | [.ref p],s=>match s[p]? with
  | some (.lst xs)=>alloc (.lst xs) s
  | some (.dct kvs)=>alloc (.lst (kvs.map (·.1))) s
  | _=>.no
 | _,_=>.no
@[simp] noncomputable def zBG:F
 | [.tup xs],s=>.ok (.tup xs) s
 | [.ref p],s=>match jD s p with
  | some xs=>.ok (.tup xs) s
  | none=>.no
 | _,_=>.no
@[simp] noncomputable def jx:D->F
 | .ref p,[y],s=>match s[p]? with
  | some (.lst xs)=>if xs.length < SZ then .ok .non (s.set p (.lst (xs++[y]))) else .no
  | _=>.no
 | _,_,_=>.no
noncomputable def QW (k v:D) (kvs:List (D×D)):List (D×D):=if (kvs.any fun p=>decide (p.1=k))=true then kvs.map fun p=>if p.1=k then (p.1,v) else p else kvs++[(k,v)]
noncomputable def z6 (k:D) (kvs:List (D×D)):List (D×D):=kvs.filter fun p=>decide (p.1≠k)
where insT' (x:T):List T->List T
 | []=>[x]
 | y::r=>if y < x then y::insT' x r else x::y::r
noncomputable abbrev Gd:=List (Nat×O)
noncomputable def zk (g:Gd) (s:S):Bool:=g.all fun p=>decide (s[p.1]? = some p.2)
noncomputable abbrev IM:=St->S->R (List D×Gd)
@[simp] noncomputable def itD:D->S->R (List D×Gd)
 | .str x,s=>if x.length <= SZ then .ok (x.map fun c=>.str [c],[]) s else .no
 | .tup ds,s=>.ok (ds,[]) s
 | .ro ds,s=>.ok (ds,[]) s
 | .ref i,s=>match s[i]? with
  | some (.lst xs)=>.ok (xs,[(i,.lst xs)]) s
  | _=>.no
 | _,_=>.no
@[simp] noncomputable def iE (a:EM):IM:=fun σ s=>(a σ s).bind itD
noncomputable def j3 (lo hi:Int):List D:=(List.range (hi - lo).toNat).map fun (k:Nat)=>.int (lo+k)
@[simp] noncomputable def jg (a:EM):IM:=fun σ s=>(a σ s).bind fun x s=>match x with
 | .int j=>if j.natAbs < 4611686018427387904 then .ok (j3 0 j,[]) s else .no
 | _=>.no
noncomputable abbrev GM:=D->St->Option St
@[simp] noncomputable def z7 (i:Nat):GM:=fun d σ=>some (σ.set i (some d))
noncomputable abbrev GMs:=List D->St->Option St
@[simp] noncomputable def zM6 (g:GM) (r:GMs):GMs:=fun ds σ=>match ds with
 | []=>none
 | d::ds=>match g d σ with
  | some σ'=>r ds σ'
  | none=>none
noncomputable def qz (g:Gd) (f:D->S->R (Option D)):List D->S->R (List D)
 | [],s=>.ok [] s
 | x::xs,s=>(f x s).bind fun o s=>if zk g s then (qz g f xs s).bind fun ys s=>.ok (match o with | some y=>y::ys | none=>ys) s else .no
@[simp] noncomputable def y6:TM:=fun _ s=>.ok true s
@[simp] noncomputable def qp (n:Nat) (tg:GM) (c:TM) (e:EM) (σ:St):D->S->R (Option D):=fun x s=>match tg x (σ++List.replicate n none) with
 | none=>.no
 | some σ'=>(c σ' s).bind fun b s=>if b then (e σ' s).bind fun d s=>.ok (some d) s else .ok none s
noncomputable def ZQ (n:Nat) (it:IM) (tg:GM) (c:TM) (e:EM):AM:=fun σ s=>(it σ s).bind fun p s=>if p.1.length <= SZ/\zk p.2 s=true then qz p.2 (qp n tg c e σ) p.1 s else .no
@[simp] noncomputable def zBQ (n:Nat) (it:IM) (tg:GM) (c:TM) (e:EM):EM:=fun σ s=>(ZQ n it tg c e σ s).bind fun ys s=>alloc (.lst ys) s
@[simp] noncomputable def JG (k:List D->S->R D) (n:Nat) (it:IM) (tg:GM) (c:TM) (e:EM):EM:=fun σ s=>(ZQ n it tg c e σ s).bind k
inductive RS where
 | nx (σ:St) (s:S) | rt (d:D) (s:S) | bk (σ:St) (s:S) | ct (σ:St) (s:S) | exc (e:D) (σ:St) (s:S) | no
noncomputable abbrev SM:=St->S->RS
noncomputable def R.stm {α:Type} (r:R α) (σ:St) (f:α->S->RS):RS:=match r with
 | .ok a s=>f a s
 | .exc e s=>.exc e σ s
 | .no=>.no
@[simp] theorem R.stm_ok {α:Type} (a:α) (s:S) (σ:St) (f:α->S->RS):(R.ok a s).stm σ f=f a s:=rfl
@[simp] theorem R.stm_no {α:Type} (σ:St) (f:α->S->RS):(R.no:R α).stm σ f=.no:=rfl
noncomputable def RS.then (r:RS) (f:SM):RS:=match r with
 | .nx σ s=>f σ s
 | r=>r
@[simp] theorem RS.then_nx (σ:St) (s:S) (f:SM):(RS.nx σ s).then f=f σ s:=rfl
@[simp] theorem RS.then_rt (d:D) (s:S) (f:SM):(RS.rt d s).then f=.rt d s:=rfl
@[simp] theorem RS.then_no (f:SM):RS.no.then f=.no:=rfl
@[simp] theorem RS.then_bk (σ:St) (s:S) (f:SM):(RS.bk σ s).then f=.bk σ s:=rfl
section
variable {α:Type}{c:Prop} [Decidable c]
@[simp] theorem R.stm_ite (a b:R α) (σ:St) (f:α->S->RS):(if c then a else b).stm σ f=if c then a.stm σ f else b.stm σ f:=by split<;>rfl
@[simp] theorem RS.ite_nx (a b:St) (s:S):(if c then RS.nx a s else RS.nx b s)=RS.nx (if c then a else b) s:=by split<;>rfl
@[simp] theorem RS.ite_rt (a b:D) (s:S):(if c then RS.rt a s else RS.rt b s)=RS.rt (if c then a else b) s:=by split<;>rfl
@[simp] theorem RS.then_ite (a b:RS) (f:SM):(if c then a else b).then f=if c then a.then f else b.then f:=by split<;>rfl
end
@[simp] theorem RS.then_exc (e:D) (σ:St) (s:S) (f:SM):(RS.exc e σ s).then f=.exc e σ s:=rfl
@[simp] theorem R.stm_exc {α:Type} (e:D) (s:S) (σ:St) (f:α->S->RS):(R.exc e s:R α).stm σ f=.exc e σ s:=rfl
@[simp] theorem RS.then_ct (σ:St) (s:S) (f:SM):(RS.ct σ s).then f=.ct σ s:=rfl
@[simp] noncomputable def jo:SM:=fun σ s=>.nx σ s
@[simp] noncomputable def zED:SM:=fun _ _=>.no
@[simp] noncomputable def zU (a b:SM):SM:=fun σ s=>(a σ s).then b
@[simp] noncomputable def jV (e:EM):SM:=fun σ s=>(e σ s).stm σ fun _ s=>.nx σ s
@[simp] noncomputable def jZ (e:EM):SM:=fun σ s=>(e σ s).stm σ fun d s=>.rt d s
@[simp] noncomputable def jY (i:Nat) (e:EM):SM:=fun σ s=>(e σ s).stm σ fun d s=>.nx (σ.set i (some d)) s
@[simp] noncomputable def zDy (c:Nat) (i:Nat) (x y:D) (s:S):R Unit:=match x with
 | .ref p=>(match s[p]? with
  | some (.ins c' fs)=>if c'=c then .ok () (s.set p (.ins c (fs.set i (some y)))) else .no
  | _=>.no)
 | _=>.no
@[simp] noncomputable def zCA (c:Nat) (i:Nat) (o e:EM):SM:=fun σ s=>(e σ s).stm σ fun y s=>(o σ s).stm σ fun x s=>(zDy c i x y s).stm σ fun _ s=>.nx σ s
@[simp] noncomputable def zGt (c:Nat) (i:Nat) (x:D) (s:S):R D:=match x with
 | .ref p=>(match s[p]? with
  | some (.ins c' fs)=>if c'=c then (match fs[i]? with | some (some d)=>.ok d s | _=>.no) else .no
  | _=>.no)
 | _=>.no
@[simp] noncomputable def ya (x k y:D) (s:S):R Unit:=match x with
 | .ref p=>(match s[p]? with
  | some (.lst xs)=>(match k with
   | .int i=>(match ixN xs.length i with | some j=>.ok () (s.set p (.lst (xs.set j y))) | none=>.no)
   | _=>.no)
  | some (.dct kvs)=>if ZG k && decide (kvs.length < SZ) then .ok () (s.set p (.dct (QW k y kvs))) else .no
  | _=>.no)
 | _=>.no
@[simp] noncomputable def zMu (o k e:EM):SM:=fun σ s=>(e σ s).stm σ fun y s=>(o σ s).stm σ fun x s=>(k σ s).stm σ fun k s=>(ya x k y s).stm σ fun _ s=>.nx σ s
@[simp] noncomputable def sIf (c:TM) (a b:SM):SM:=fun σ s=>(c σ s).stm σ fun k s=>if k then a σ s else b σ s
noncomputable def j7 (g:Gd) (f:D->SM):List D->SM
 | [],σ,s=>.nx σ s
 | x::xs,σ,s=>match f x σ s with
  | .nx σ s=>if zk g s then j7 g f xs σ s else .no
  | .ct σ s=>if zk g s then j7 g f xs σ s else .no
  | .bk σ s=>.nx σ s
  | r=>r
@[simp] noncomputable def qD (tg:GM) (b:SM):D->SM:=fun x σ s=>match tg x σ with
 | some σ'=>b σ' s
 | none=>.no
@[simp] noncomputable def yZ (it:IM) (tg:GM) (b:SM):SM:=fun σ s=>(it σ s).stm σ fun p s=>if zk p.2 s=true then j7 p.2 (qD tg b) p.1 σ s else .no
noncomputable def ZX:Nat->TM->SM->SM
 | 0,_,_,_,_=>.no
 | n+1,c,b,σ,s=>(c σ s).stm σ fun k s=>if k then (match b σ s with
  | .nx σ s=>ZX n c b σ s
  | .ct σ s=>ZX n c b σ s
  | .bk σ s=>.nx σ s
  | r=>r) else .nx σ s
noncomputable def zFJ:Nat:=1000000000000
@[simp] noncomputable def JE (c:TM) (b:SM):SM:=fun σ s=>ZX zFJ c b σ s
noncomputable def RS.out (r:RS):R D:=match r with
 | .rt d s=>.ok d s
 | .nx _ s=>.ok .non s
 | .exc e _ s=>.exc e s
 | _=>.no
@[simp] theorem RS.out_rt (d:D) (s:S):(RS.rt d s).out=.ok d s:=rfl
@[simp] theorem RS.out_nx (σ:St) (s:S):(RS.nx σ s).out=.ok .non s:=rfl
@[simp] theorem RS.out_no:RS.no.out=.no:=rfl
@[simp] theorem RS.out_exc (e:D) (σ:St) (s:S):(RS.exc e σ s).out=.exc e s:=rfl
@[simp] theorem RS.out_ite {c:Prop} [Decidable c] (a b:RS):(if c then a else b).out=if c then a.out else b.out:=by split<;>rfl
@[simp] noncomputable def fn (n:Nat) (b:SM):F:=fun xs s=>(b (xs.map some++List.replicate (n - xs.length) none) s).out
noncomputable def D.cl (n:Nat):D->Bool
 | .ref i=>decide (i < n)
 | .tup ds=>all ds
 | .ro ds=>all ds
 | _=>true
where all:List D->Bool
 | []=>true
 | d::ds=>D.cl n d && all ds
noncomputable def kyD:Nat->D->Bool
 | _,.non=>true
 | _,.int _=>true
 | _,.str _=>true
 | n+1,.tup ds=>ds.all (kyD n)
 | _,_=>false
noncomputable def O.cl (n:Nat):O->Bool
 | .lst xs=>D.cl.all n xs
 | .dct kvs=>kvs.all fun p=>D.cl n p.1 && D.cl n p.2
 | .fdc kvs=>kvs.all fun p=>D.cl n p.1 && D.cl n p.2
 | .dtt kvs=>kvs.all fun p=>D.cl n p.1 && D.cl n p.2
 | .ins _ fs=>fs.all fun o=>match o with | some d=>D.cl n d | none=>true
noncomputable def clS (n:Nat) (s:S):Bool:=s.all (O.cl n)
noncomputable def D.ren (e:List Nat):D->D
 | .ref i=>.ref (e.getD i i)
 | .tup ds=>.tup (all ds)
 | .ro ds=>.ro (all ds)
 | d=>d
where all:List D->List D
 | []=>[]
 | d::ds=>D.ren e d::all ds
noncomputable def O.ren (e:List Nat):O->O
 | .lst xs=>.lst (D.ren.all e xs)
 | .dct kvs=>.dct (kvs.map fun p=>(D.ren e p.1,D.ren e p.2))
 | .fdc kvs=>.fdc (kvs.map fun p=>(D.ren e p.1,D.ren e p.2))
 | .dtt kvs=>.dtt (kvs.map fun p=>(D.ren e p.1,D.ren e p.2))
 | .ins c fs=>.ins c (fs.map (Option.map (D.ren e)))
end M
namespace M
structure Emb (n:Nat) (e:List Nat) (S' S1:S):Prop where
 len:e.length=S'.length
 nd:e.Nodup
 le:n <= S'.length
 old:∀ i,i < n->e[i]? = some i
 obj:∀ (i:Nat) o,S'[i]? = some o->∃ j,e[i]? = some j/\S1[j]? = some (O.ren e o)/\O.cl S'.length o=true
noncomputable def jP (n:Nat) (f q:F):Prop:=∀ ds S,ds.length=n->clS S.length S=true->D.cl.all S.length ds=true ->
 q ds S=.no\/∃ d S' S1 e,q ds S=.ok d S'/\f ds S=.ok (D.ren e d) S1/\Emb S.length e S' S1/\D.cl S'.length d=true
section
variable {e:List Nat}
mutual
theorem D.ren_id (h:∀ i,e.getD i i=i):∀ d:D,D.ren e d=d
 | .non=>rfl
 | .bl _=>rfl
 | .int _=>rfl
 | .str _=>rfl
 | .ty _=>rfl
 | .ref i=>by show D.ref (e.getD i i)=_;rw[h]
 | .tup ds=>by show D.tup (D.ren.all e ds)=_;rw[D.rens_id h]
 | .ro ds=>by show D.ro (D.ren.all e ds)=_;rw[D.rens_id h]
theorem D.rens_id (h:∀ i,e.getD i i=i):∀ ds:List D,D.ren.all e ds=ds
 | []=>rfl
 | d::ds=>by show D.ren e d::D.ren.all e ds=_;rw[D.ren_id h,D.rens_id h]
end
theorem O.ren_id (h:∀ i,e.getD i i=i) (o:O):O.ren e o=o:=by
 cases o with
 | lst xs=>show O.lst _=_;rw[D.rens_id h]
 | dct kvs =>
  show O.dct (kvs.map fun p=>(D.ren e p.1,D.ren e p.2))=_
  have:(fun p:D×D=>(D.ren e p.1,D.ren e p.2))=id:=by funext p;rw[D.ren_id h,D.ren_id h];rfl
  rw[this,List.map_id]
 | fdc kvs =>
  show O.fdc (kvs.map fun p=>(D.ren e p.1,D.ren e p.2))=_
  have:(fun p:D×D=>(D.ren e p.1,D.ren e p.2))=id:=by funext p;rw[D.ren_id h,D.ren_id h];rfl
  rw[this,List.map_id]
 | dtt kvs =>
  show O.dtt (kvs.map fun p=>(D.ren e p.1,D.ren e p.2))=_
  have:(fun p:D×D=>(D.ren e p.1,D.ren e p.2))=id:=by funext p;rw[D.ren_id h,D.ren_id h];rfl
  rw[this,List.map_id]
 | ins c fs =>
  show O.ins c (fs.map (Option.map (D.ren e)))=_
  have:Option.map (D.ren e)=id:=by funext o;cases o with | none=>rfl | some d=>show some _=_;rw[D.ren_id h];rfl
  rw[this,List.map_id]
theorem Z1 (n i:Nat):(List.range n).getD i i=i:=by
 rw[List.getD_eq_getElem?_getD]
 by_cases h:i < n
 ·rw[List.getElem?_range h];rfl
 ·rw[List.getElem?_eq_none (by simp;omega)];rfl
end
section
variable {e:List Nat}{n:Nat}
mutual
theorem D.ren_old (h:∀ i,i < n->e[i]? = some i):∀ d:D,D.cl n d=true->D.ren e d=d
 | .non,_=>rfl
 | .bl _,_=>rfl
 | .int _,_=>rfl
 | .str _,_=>rfl
 | .ty _,_=>rfl
 | .ref i,c=>by
  have hi:i < n:=of_decide_eq_true c
  show D.ref (e.getD i i)=_
  rw[List.getD_eq_getElem?_getD,h i hi];rfl
 | .tup ds,c=>by show D.tup (D.ren.all e ds)=_;rw[D.rens_old h ds c]
 | .ro ds,c=>by show D.ro (D.ren.all e ds)=_;rw[D.rens_old h ds c]
theorem D.rens_old (h:∀ i,i < n->e[i]? = some i):∀ ds:List D,D.cl.all n ds=true->D.ren.all e ds=ds
 | [],_=>rfl
 | d::ds,c=>by
  have c':(D.cl n d && D.cl.all n ds)=true:=c
  rw[Bool.and_eq_true] at c'
  show D.ren e d::D.ren.all e ds=_
  rw[D.ren_old h d c'.1,D.rens_old h ds c'.2]
end
theorem O.ren_old (h:∀ i,i < n->e[i]? = some i) (o:O) (c:O.cl n o=true):O.ren e o=o:=by
 cases o with
 | lst xs=>show O.lst _=_;rw[D.rens_old h xs c]
 | dct kvs =>
  show O.dct (kvs.map fun p=>(D.ren e p.1,D.ren e p.2))=_
  congr 1
  conv=>rhs;rw[<- List.map_id kvs]
  refine List.map_congr_left fun p hp=>?_
  have c1:=List.all_eq_true.mp c p hp
  rw[Bool.and_eq_true] at c1
  rw[D.ren_old h _ c1.1,D.ren_old h _ c1.2];rfl
 | fdc kvs =>
  show O.fdc (kvs.map fun p=>(D.ren e p.1,D.ren e p.2))=_
  congr 1
  conv=>rhs;rw[<- List.map_id kvs]
  refine List.map_congr_left fun p hp=>?_
  have c1:=List.all_eq_true.mp c p hp
  rw[Bool.and_eq_true] at c1
  rw[D.ren_old h _ c1.1,D.ren_old h _ c1.2];rfl
 | dtt kvs =>
  show O.dtt (kvs.map fun p=>(D.ren e p.1,D.ren e p.2))=_
  congr 1
  conv=>rhs;rw[<- List.map_id kvs]
  refine List.map_congr_left fun p hp=>?_
  have c1:=List.all_eq_true.mp c p hp
  rw[Bool.and_eq_true] at c1
  rw[D.ren_old h _ c1.1,D.ren_old h _ c1.2];rfl
 | ins cc fs =>
  show O.ins cc (fs.map (Option.map (D.ren e)))=_
  congr 1
  conv=>rhs;rw[<- List.map_id fs]
  refine List.map_congr_left fun p hp=>?_
  cases p with
  | none=>rfl
  | some d =>
   have c1:=List.all_eq_true.mp c (some d) hp
   show some _=some _
   rw[D.ren_old h d c1]
mutual
theorem D.cl_mono {m:Nat} (h:n <= m):∀ d:D,D.cl n d=true->D.cl m d=true
 | .non,_=>rfl
 | .bl _,_=>rfl
 | .int _,_=>rfl
 | .str _,_=>rfl
 | .ty _,_=>rfl
 | .ref i,c=>decide_eq_true (Nat.lt_of_lt_of_le (of_decide_eq_true c) h)
 | .tup ds,c=>D.cls_mono h ds c
 | .ro ds,c=>D.cls_mono h ds c
theorem D.cls_mono {m:Nat} (h:n <= m):∀ ds:List D,D.cl.all n ds=true->D.cl.all m ds=true
 | [],_=>rfl
 | d::ds,c=>by
  have c':(D.cl n d && D.cl.all n ds)=true:=c
  rw[Bool.and_eq_true] at c'
  show (D.cl m d && D.cl.all m ds)=true
  rw[D.cl_mono h d c'.1,D.cls_mono h ds c'.2];rfl
end
theorem O.cl_mono {m:Nat} (h:n <= m) (o:O) (c:O.cl n o=true):O.cl m o=true:=by
 cases o with
 | lst xs=>exact D.cls_mono h xs c
 | dct kvs =>
  refine List.all_eq_true.mpr fun p hp=>?_
  have c1:=List.all_eq_true.mp c p hp
  rw[Bool.and_eq_true] at c1 ⊢
  exact⟨D.cl_mono h _ c1.1,D.cl_mono h _ c1.2⟩
 | fdc kvs =>
  refine List.all_eq_true.mpr fun p hp=>?_
  have c1:=List.all_eq_true.mp c p hp
  rw[Bool.and_eq_true] at c1 ⊢
  exact⟨D.cl_mono h _ c1.1,D.cl_mono h _ c1.2⟩
 | dtt kvs =>
  refine List.all_eq_true.mpr fun p hp=>?_
  have c1:=List.all_eq_true.mp c p hp
  rw[Bool.and_eq_true] at c1 ⊢
  exact⟨D.cl_mono h _ c1.1,D.cl_mono h _ c1.2⟩
 | ins cc fs =>
  refine List.all_eq_true.mpr fun p hp=>?_
  have c1:=List.all_eq_true.mp c p hp
  cases p with
  | none=>rfl
  | some d=>exact D.cl_mono h d c1
theorem zEw {S:M.S} (h:clS n S=true) {i:Nat}{o:O} (e:S[i]? = some o):O.cl n o=true:=List.all_eq_true.mp h o (List.mem_of_getElem? e)
end
theorem zIP {S S' g:M.S} (hn:S.length <= S'.length) (c:clS S'.length S'=true):Emb S.length (List.range S'.length) S' (S'++g) :=
 ⟨by simp,List.nodup_range,hn,fun i hi=>by rw[List.getElem?_range (by omega)],fun i o q=>by
  have hi:i < S'.length:=(List.getElem?_eq_some_iff.mp q).1
  exact⟨i,by rw[List.getElem?_range hi],by rw[List.getElem?_append_left hi,O.ren_id (Z1 _),q],zEw c q⟩⟩
theorem zIt {S g:M.S}{o:O}{j:Nat} (c:clS S.length S=true) (co:O.cl S.length o=true) (hj:(S++g)[j]? = some o) (hle:S.length <= j):Emb S.length (List.range S.length++[j]) (S++[o]) (S++g):=by
 have old:∀ i,i < S.length->(List.range S.length++[j])[i]? = some i:=fun i hi=>by
  rw[List.getElem?_append_left (by simpa using hi),List.getElem?_range hi]
 refine⟨by simp,?_,by simp,old,fun i ob q=>?_⟩
 ·rw[List.nodup_append]
  refine⟨List.nodup_range,by simp,fun a ha b hb=>?_⟩
  have h1:=List.mem_range.mp ha
  have h2:b=j:=by simpa using hb
  omega
 ·by_cases hi:i < S.length
  ·rw[List.getElem?_append_left hi] at q
   have cq:=zEw c q
   exact⟨i,old i hi,by rw[List.getElem?_append_left hi,O.ren_old old ob cq,q],O.cl_mono (by simp) ob cq⟩
  ·rw[List.getElem?_append_right (by omega)] at q
   have hz:i - S.length=0:=by
    cases hz:i - S.length with
    | zero=>rfl
    | succ k=>rw[hz] at q;simp at q
   rw[hz] at q
   simp at q
   subst q
   refine⟨j,?_,by rw[O.ren_old old o co,hj],O.cl_mono (by simp) o co⟩
   rw[List.getElem?_append_right (by simp;omega)]
   simp[hz]
theorem jP.pure {n:Nat}{f q:F} (h:∀ ds S,ds.length=n->clS S.length S=true->D.cl.all S.length ds=true->q ds S=.no\/∃ d g,q ds S=.ok d S/\f ds S=.ok d (S++g)/\D.cl S.length d=true):jP n f q:=fun ds S hl c ca=>by
 rcases h ds S hl c ca with e | ⟨d,g,e1,e2,e3⟩
 ·exact .inl e
 ·exact .inr ⟨d,S,S++g,List.range S.length,e1,by rw[D.ren_id (Z1 _)];exact e2,zIP (Nat.le_refl _) c,e3⟩
theorem jP.new {n:Nat}{f q:F} (h:∀ ds S,ds.length=n->clS S.length S=true->D.cl.all S.length ds=true->q ds S=.no\/∃ o j g,q ds S=alloc o S/\f ds S=.ok (.ref j) (S++g)/\(S++g)[j]? = some o/\S.length <= j/\O.cl S.length o=true):jP n f q:=fun ds S hl c ca=>by
 rcases h ds S hl c ca with e | ⟨o,j,g,e1,e2,e3,e4,e5⟩
 ·exact .inl e
 ·refine .inr ⟨.ref S.length,S++[o],S++g,List.range S.length++[j],e1,?_,zIt c e5 e3 e4,?_⟩
  ·rw[e2]
   show R.ok (D.ref j) _=R.ok (D.ref ((List.range S.length++[j]).getD S.length S.length)) _
   rw[List.getD_eq_getElem?_getD,List.getElem?_append_right (by simp)]
   simp
  ·show decide (S.length < (S++[o]).length)=true
   simp
noncomputable def chS (m:F):F:=fun ds s=>@dite (R D) (∃ d g,m ds s=.ok d (s++g)/\D.cl s.length d=true) (Classical.propDecidable _) (fun h=>.ok h.choose s) (fun _=>.no)
theorem QF {n:Nat} (m:F):jP n m (chS m):=jP.pure fun ds S hl c ca=>by
 unfold chS
 by_cases h:∃ d g,m ds S=.ok d (S++g)/\D.cl S.length d=true
 ·obtain⟨g,e,k⟩:=h.choose_spec
  exact .inr ⟨h.choose,g,by rw[dif_pos h],e,k⟩
 ·exact .inl (by rw[dif_neg h])
theorem QX {m:F}{ds:List D}{s g:S}{d:D} (e:m ds s=.ok d (s++g)) (k:D.cl s.length d=true):chS m ds s=.ok d s:=by
 have h:∃ d g,m ds s=.ok d (s++g)/\D.cl s.length d=true:=⟨d,g,e,k⟩
 obtain⟨g',e',_⟩:=h.choose_spec
 have e2:d=h.choose:=by
  have e3:=e.symm.trans e'
  injection e3
 unfold chS
 rw[dif_pos h,<- e2]
noncomputable def chN (m:F):F:=fun ds s=>@dite (R D) (∃ o j g,m ds s=.ok (.ref j) (s++g)/\(s++g)[j]? = some o/\s.length <= j/\O.cl s.length o=true) (Classical.propDecidable _) (fun h=>alloc h.choose s) (fun _=>.no)
theorem zBR {n:Nat} (m:F):jP n m (chN m):=jP.new fun ds S hl c ca=>by
 unfold chN
 by_cases h:∃ o j g,m ds S=.ok (.ref j) (S++g)/\(S++g)[j]? = some o/\S.length <= j/\O.cl S.length o=true
 ·obtain⟨j,g,e,k⟩:=h.choose_spec
  exact .inr ⟨h.choose,j,g,by rw[dif_pos h],e,k⟩
 ·exact .inl (by rw[dif_neg h])
theorem zBZ {m:F}{ds:List D}{s g:S}{j:Nat}{o:O} (e:m ds s=.ok (.ref j) (s++g)) (q:(s++g)[j]? = some o) (l:s.length <= j) (k:O.cl s.length o=true):chN m ds s=alloc o s:=by
 have h:∃ o j g,m ds s=.ok (.ref j) (s++g)/\(s++g)[j]? = some o/\s.length <= j/\O.cl s.length o=true:=⟨o,j,g,e,q,l,k⟩
 obtain⟨j',g',e',q',_⟩:=h.choose_spec
 have e4:=e.symm.trans e'
 injection e4 with e1 e2
 injection e1 with e1
 have e3:o=h.choose:=by
  have q2:=q
  rw[e2,e1] at q2
  exact Option.some.inj (q2.symm.trans q')
 unfold chN
 rw[dif_pos h,<- e3]
end M
namespace M
theorem zCS {g:Gd}{f:D->S->R (Option D)}{s:S}{h:D->D} (hg:zk g s=true):∀ {xs:List D},(∀ x∈xs,f x s=.ok (some (h x)) s)->qz g f xs s=.ok (xs.map h) s
 | [],_=>rfl
 | x::xs,e=>by
  show (f x s).bind _=_
  rw[e x List.mem_cons_self,R.bind_ok,if_pos hg,zCS hg fun y hy=>e y (List.mem_cons_of_mem _ hy)]
  rfl
theorem zDe {n:Nat}{it:IM}{tg:GM}{e:EM}{σ:St}{s:S}{xs:List D}{g:Gd} (h:D->D) (hi:it σ s=.ok (xs,g) s) (hl:xs.length <= SZ) (hg:zk g s=true) (he:∀ x∈xs,qp n tg y6 e σ x s=.ok (some (h x)) s):ZQ n it tg y6 e σ s=.ok (xs.map h) s:=by
 unfold ZQ
 rw[hi,R.bind_ok,if_pos ⟨hl,hg⟩]
 exact zCS hg he
theorem Ja {n:Nat}{it:IM}{tg:GM}{e:EM}{σ:St}{s:S}{lo hi:Int} (h:Nat->D) (hit:it σ s=.ok (j3 lo hi,[]) s) (hl:(hi - lo).toNat <= SZ) (he:∀ k:Nat,k < (hi - lo).toNat->qp n tg y6 e σ (.int (lo+k)) s=.ok (some (h k)) s) :
  ZQ n it tg y6 e σ s=.ok ((List.range (hi - lo).toNat).map h) s:=by
 have:=zDe (n:=n) (tg:=tg) (e:=e) (fun d=>match d with | .int i=>h (i - lo).toNat | d=>d) hit (by simpa [j3] using hl) rfl fun x hx=>by
  obtain⟨k,hk,rfl⟩:=List.mem_map.mp hx
  have e:(lo+(k:Int) - lo).toNat=k:=by omega
  rw[he k (List.mem_range.mp hk)]
  show R.ok (some (h k)) s=R.ok (some (h (lo+(k:Int) - lo).toNat)) s
  rw[e]
 rw[this]
 unfold j3
 rw[List.map_map]
 have e2:∀ k:Nat,(lo+(k:Int) - lo).toNat=k:=fun k=>by omega
 have e3:((fun d=>match d with | .int i=>h (i - lo).toNat | d=>d) ∘ fun (k:Nat)=>D.int (lo+k))=h:=by
  funext k
  show h (lo+(k:Int) - lo).toNat=h k
  rw[e2]
 rw[e3]
theorem zGe {α:Type} (f:α->Bool) (xs:List α):Qe (xs.map fun x=>.bl (f x))=some (xs.map f):=by
 induction xs with
 | nil=>rfl
 | cons x xs ih=>show (Qe (xs.map fun x=>D.bl (f x))).map _=_;rw[ih];rfl
theorem all_map {α:Type} (f:α->Bool) (xs:List α) (s:S):zA3 (xs.map fun x=>.bl (f x)) s=.ok (.bl (xs.all f)) s:=by
 unfold zA3
 rw[zGe]
 simp[List.all_map]
theorem zLX {α:Type} (xs:List α) {k:Int} (h:0 <= k):cut xs (some k) none=xs.drop k.toNat:=by
 unfold cut sIx
 have:¬ k < 0:=by omega
 simp only[if_neg this]
 by_cases hk:k <= xs.length
 ·rw[show (min k (xs.length:Int)).toNat=k.toNat by omega,List.take_of_length_le (by rw[List.length_drop];omega)]
 ·rw[List.drop_of_length_le (by omega),List.drop_of_length_le (by omega)];simp
theorem zGP {α:Type} (f:α->T) (xs:List α):Qi (xs.map fun x=>.str (f x))=some (xs.map f):=by
 induction xs with
 | nil=>rfl
 | cons x xs ih=>show (Qi (xs.map fun x=>D.str (f x))).map _=_;rw[ih];rfl
theorem zCp (xs:List T):Zn [] xs=xs.flatten:=by
 induction xs with
 | nil=>rfl
 | cons x xs ih =>
  cases xs with
  | nil=>simp[Zn]
  | cons y ys=>show x++[]++Zn [] (y::ys)=_;rw[ih];simp
theorem zDX {α β:Type} (f:α->β) (xs:List α):(xs.map fun x=>[f x]).flatten=xs.map f:=by
 induction xs with
 | nil=>rfl
 | cons x xs ih=>rw[List.map_cons,List.flatten_cons,ih];rfl
theorem zHt {α:Type} (f:α->Nat) (xs:List α):((xs.map fun x=>[f x]).map List.length).sum=xs.length:=by
 induction xs with
 | nil=>rfl
 | cons x xs ih=>rw[List.map_cons,List.map_cons,List.sum_cons,ih,List.length_cons];show 1+xs.length=xs.length+1;omega
theorem zGX {α:Type} (f:α->Nat) (xs:List α) (s:S) (h:xs.length <= SZ):ZF [] (xs.map fun x=>.str [f x]) s=.ok (.str (xs.map f)) s:=by
 unfold ZF
 rw[zGP]
 dsimp only
 rw[if_pos,zCp,zDX]
 rw[zHt]
 simpa using h
theorem jI {S:M.S}{p:Nat}{o:O} (e:S[p]? = some o) (g:M.S):(S++g)[p]? = some o:=by
 rw[List.getElem?_append_left (List.getElem?_eq_some_iff.mp e).1]
 exact e
theorem zIF {g:Gd}{s t:S} (h:zk g s=true):zk g (s++t)=true:=by
 unfold zk at h ⊢
 rw[List.all_eq_true] at h ⊢
 intro p hp
 exact decide_eq_true (jI (of_decide_eq_true (h p hp)) t)
theorem zBc {g:Gd}{f:D->S->R (Option D)}{s0:S}{h:D->D} (hg:zk g s0=true):∀ {xs:List D} (t:S),(∀ x∈xs,∀ t,∃ t',f x (s0++t)=.ok (some (h x)) (s0++t'))->∃ t',qz g f xs (s0++t)=.ok (xs.map h) (s0++t')
 | [],t,_=>⟨t,rfl⟩
 | x::xs,t,e=>by
  obtain⟨t1,e1⟩:=e x List.mem_cons_self t
  obtain⟨t2,e2⟩:=zBc hg (xs:=xs) t1 fun y hy=>e y (List.mem_cons_of_mem _ hy)
  refine⟨t2,?_⟩
  show (f x (s0++t)).bind _=_
  rw[e1,R.bind_ok,if_pos (zIF hg),e2]
  rfl
theorem zGL {n:Nat}{it:IM}{tg:GM}{e:EM}{σ:St}{s:S}{xs:List D}{g:Gd} (h:D->D) (hi:it σ s=.ok (xs,g) s) (hl:xs.length <= SZ) (hg:zk g s=true) (he:∀ x∈xs,∀ t,∃ t',qp n tg y6 e σ x (s++t)=.ok (some (h x)) (s++t')):∃ t',ZQ n it tg y6 e σ s=.ok (xs.map h) (s++t'):=by
 unfold ZQ
 rw[hi,R.bind_ok,if_pos ⟨hl,hg⟩]
 have:=zBc (t:=[]) hg he
 rwa [List.append_nil] at this
@[simp] noncomputable def Jv:D->D->S->R D
 | .tup [],.tup b,s=>.ok (.tup b) s
 | x,y,s=>qZ x y s
@[simp] noncomputable def zM2:D->F
 | .ref p,[],s=>match s[p]? with
  | some (.dct _)=>.ok .non (s.set p (.dct []))
  | _=>.no
 | _,_,_=>.no
end M
namespace M
noncomputable def kyT:D->Bool
 | .tup ds=>kyD 7 (.tup ds)
 | _=>false
@[simp] noncomputable def QQ (x:D) (s:S):Option (Nat×List (D×D)):=match x with
 | .ref p=>(match s[p]? with | some (.dtt kvs)=>some (p,kvs) | _=>none)
 | _=>none
@[simp] noncomputable def zN (x k:D) (s:S):R D:=match QQ x s with
 | some (_,kvs)=>if kyT k then (match jR k kvs with | some d=>.ok d s | none=>.no) else .no
 | none=>ZV x k s
@[simp] noncomputable def inL (x:D) (ys:List D) (s:S) (r:R Bool):R Bool:=if kyD 7 x && ys.all (kyD 7) then .ok (ys.contains x) s else r
@[simp] noncomputable def inT (x y:D) (s:S):R Bool:=match QQ y s with
 | some (_,kvs)=>if kyT x then .ok (jR x kvs).isSome s else .no
 | none=>(match y with
  | .ref i=>(match jD s i with | some ys=>inL x ys s (inD x y s) | none=>inD x y s)
  | _=>inD x y s)
@[simp] noncomputable def J0:CM:=fun x y s=>inT x y s
@[simp] noncomputable def zAP:CM:=fun x y s=>(inT x y s).bind fun b s=>.ok (!b) s
@[simp] noncomputable def yo:F
 | [x],s=>(match QQ x s with | some (_,kvs)=>.ok (.int kvs.length) s | none=>Jf [x] s)
 | xs,s=>Jf xs s
@[simp] noncomputable def Q2:F
 | [x],s=>(match QQ x s with | some (_,kvs)=>alloc (.lst (kvs.map (·.1))) s | none=>zC6 [x] s)
 | xs,s=>zC6 xs s
@[simp] noncomputable def JC (x k y:D) (s:S):R Unit:=match QQ x s with
 | some (p,kvs)=>if kyT k && decide (kvs.length < SZ) then .ok () (s.set p (.dtt (QW k y kvs))) else .no
 | none=>ya x k y s
@[simp] noncomputable def Zs (o k e:EM):SM:=fun σ s=>(e σ s).stm σ fun y s=>(o σ s).stm σ fun x s=>(k σ s).stm σ fun k s=>(JC x k y s).stm σ fun _ s=>.nx σ s
@[simp] noncomputable def Qh:D->F
 | x,[k],s=>(match QQ x s with
  | some (p,kvs)=>if kyT k then (match jR k kvs with | some v=>.ok v (s.set p (.dtt (z6 k kvs))) | none=>.no) else .no
  | none=>.no)
 | x,[k,d],s=>(match QQ x s with
  | some (p,kvs)=>if kyT k then (match jR k kvs with | some v=>.ok v (s.set p (.dtt (z6 k kvs))) | none=>.ok d s) else .no
  | none=>.no)
 | _,_,_=>.no
@[simp] noncomputable def zBu:EM:=fun _ s=>alloc (.dtt []) s
end M
namespace M
noncomputable def zIi (m:F) (ds:List D) (s:S) (p:D×S):Prop:=∃ g,m ds s=.ok p.1 (p.2++g)/\p.2.length=s.length/\clS s.length p.2=true/\D.cl s.length p.1=true
noncomputable def chO (m:F):F:=fun ds s=>@dite (R D) (∃ p,zIi m ds s p) (Classical.propDecidable _) (fun h=>.ok h.choose.1 h.choose.2) (fun _=>.no)
theorem zG5 {n:Nat} (m:F):jP n m (chO m):=fun ds S hl c ca=>by
 unfold chO
 split
 ·rename_i h
  obtain⟨g,e,l,c1,c2⟩:=h.choose_spec
  generalize h.choose=p at *
  obtain⟨d,S'⟩:=p
  dsimp only at *
  refine .inr ⟨d,S',S'++g,List.range S.length,rfl,?_,⟨?_,List.nodup_range,Nat.le_of_eq l.symm,fun i hi=>?_,fun i o q=>?_⟩,?_⟩
  ·rw[D.ren_id fun i=>Z1 _ i];exact e
  ·rw[List.length_range,l]
  ·rw[List.getElem?_range hi]
  ·have hi:i < S'.length:=(List.getElem?_eq_some_iff.mp q).1
   refine⟨i,?_,?_,?_⟩
   ·rw[List.getElem?_range (by omega)]
   ·rw[O.ren_id fun i=>Z1 _ i,List.getElem?_append_left hi];exact q
   ·rw[l];exact List.all_eq_true.mp c1 o (List.mem_of_getElem? q)
  ·rw[l];exact c2
 ·exact .inl rfl
theorem zBH {m:F}{ds:List D}{s S' g:S}{d:D} (e:m ds s=.ok d (S'++g)) (l:S'.length=s.length) (c:clS s.length S'=true) (k:D.cl s.length d=true):chO m ds s=.ok d S':=by
 have h:∃ p,zIi m ds s p:=⟨(d,S'),g,e,l,c,k⟩
 unfold chO
 rw[dif_pos h]
 obtain⟨g',e',l',_⟩:=h.choose_spec
 generalize h.choose=p at *
 have e2:=e.symm.trans e'
 injection e2 with e1 e2
 have e3:=List.append_inj_left e2 (by omega)
 rw[<- e1,<- e3]
theorem JO (m:Nat):∀ {n:Nat}{d:D},kyD n d=true->D.cl m d=true:=by
 intro n
 induction n with
 | zero=>intro d h;cases d<;>first | rfl | cases h
 | succ n ih =>
  intro d h
  cases d with
  | tup ds =>
   have h':ds.all (kyD n)=true:=h
   show D.cl.all m ds=true
   clear h
   induction ds with
   | nil=>rfl
   | cons d ds ih2 =>
    rw[List.all_cons,Bool.and_eq_true] at h'
    show (D.cl m d && D.cl.all m ds)=true
    rw[ih h'.1,ih2 h'.2];rfl
  | _=>first | rfl | cases h
theorem zAR:∀ {n k:Nat}{d:D},n <= k->kyD n d=true->kyD k d=true:=by
 intro n
 induction n with
 | zero=>intro k d l h;cases d<;>first | (cases k<;>rfl) | cases h
 | succ n ih =>
  intro k d l h
  obtain⟨k,rfl⟩:∃ j,k=j+1:=⟨k - 1,by omega⟩
  cases d with
  | tup ds =>
   have h':ds.all (kyD n)=true:=h
   exact List.all_eq_true.mpr fun d hd=>ih (by omega) (List.all_eq_true.mp h' d hd)
  | _=>first | rfl | cases h
end M
namespace L2
open PySem PySem.Spec PyProof.Rows
noncomputable def ofT (x:M.T):Str:=⟨x.toArray⟩
theorem jq (x:M.T):(ofT x).length=x.length:=by simp[ofT,Str.length]
theorem ZH (x:M.T):(ofT x).cps.toList=x:=by simp[ofT]
theorem JJ {x y:M.T} (h:ofT x=ofT y):x=y:=by rw[<- ZH x,h,ZH]
theorem zIj (x y:M.T):ofT x++ofT y=ofT (x++y):=by
 show (⟨x.toArray++y.toArray⟩:Str)=_
 simp[ofT]
noncomputable abbrev okT (x:M.T):Prop:=x.all (fun c=>decide (c < 1114112))=true
theorem zB8 {x y:M.T} (h:okT x) (k:okT y):okT (x++y):=by show (x++y).all _=true;rw[List.all_append,h,k];rfl
theorem Q9 {x y:M.T} (h:okT x) (k:∀ c∈y,c∈x):okT y:=List.all_eq_true.mpr fun c hc=>List.all_eq_true.mp h c (k c hc)
theorem yc:M.SZ=sizeLine:=by rw[sizeLine_eq];rfl
noncomputable def zBw (K:PySem.W.Frag) (H:Hp) (a:Addr) (xs:List V):Prop :=
 (∃ o,H a=some (.frz o (.lst xs))) \/
  ∃ (o:Obj) (its:Array Value) (n:Nat),K.lookup a=some o/\o.cls=.type "list" /\ o.dict=none/\o.data=.seq its n/\its.size <= sizeLine/\zX xs its.toList
theorem zBw.sq {K:PySem.W.Frag}{H:Hp}{a:Addr}{xs:List V} (h:zBw K H a xs):SqL K H a xs:=by
 rcases h with ⟨o,h⟩ | h
 ·exact .inl (.inr ⟨o,h⟩)
 ·exact .inr h
structure Le (H H':Hp):Prop where
 tups:∀ b xs,H b=some (.tup xs)->H' b=some (.tup xs)
 frzs:∀ b o u,H b=some (.frz o u)->H' b=some (.frz o u)
theorem Le.refl (H:Hp):Le H H:=⟨fun _ _ h=>h,fun _ _ _ h=>h⟩
theorem Le.trans {H H1 H2:Hp} (a:Le H H1) (b:Le H1 H2):Le H H2:=⟨fun c xs h=>b.tups c xs (a.tups c xs h),fun c o u h=>b.frzs c o u (a.frzs c o u h)⟩
theorem Le.new {H:Hp}{p:Addr} (h:H p=none) (o:HO):Le H (upd H p o) :=
 ⟨fun b xs q=>by rw[jA (yO q h)];exact q,fun b o u q=>by rw[jA (yO q h)];exact q⟩
theorem Le.put {H:Hp}{p:Addr} (h:Mut (H p)) (o:HO):Le H (upd H p o) :=
 ⟨fun b xs q=>by rw[jA (fun z=>by subst z;rw[q] at h;exact h)];exact q,fun b o u q=>by rw[jA (fun z=>by subst z;rw[q] at h;exact h)];exact q⟩
theorem Le.rol {K:PySem.W.Frag}{H H':Hp}{a:Addr}{xs:List V} (e:Le H H') (h:zBw K H a xs):zBw K H' a xs:=by
 rcases h with ⟨o,h⟩ | h
 ·exact .inl ⟨o,e.frzs _ _ _ h⟩
 ·exact .inr h
theorem Le.sqT {K:PySem.W.Frag}{H H':Hp}{a:Addr}{xs:List V} (e:Le H H') (h:SqT K H a xs):SqT K H' a xs:=by
 rcases h with (h | ⟨o,h⟩) | h
 ·exact .inl (.inl (e.tups _ _ h))
 ·exact .inl (.inr ⟨o,e.frzs _ _ _ h⟩)
 ·exact .inr h
noncomputable def qL:M.Kd->String
 | .str => "str" | .int => "int" | .bool => "bool" | .list => "list" | .tuple => "tuple" | .dict => "dict"
noncomputable def zK (K:PySem.W.Frag) (ρ:List Addr) (H:Hp):M.D->V->Prop
 | .non,v=>v=.non
 | .bl b,v=>v=.bl b
 | .int i,v=>v=.int i
 | .str x,v=>v=.str (ofT x)/\okT x
 | .ty n,v=>v=.ty (qL n)
 | .ref i,v=>∃ a,v=.ref a/\ρ[i]? = some a
 | .tup ds,v=>∃ a xs,v=.ref a/\SqT K H a xs/\all ds xs
 | .ro ds,v=>∃ a xs,v=.ref a/\zBw K H a xs/\all ds xs
where all:List M.D->List V->Prop
 | [],xs=>xs=[]
 | d::ds,xs=>∃ y ys,xs=y::ys/\zK K ρ H d y/\all ds ys
noncomputable abbrev zL (K:PySem.W.Frag) (ρ:List Addr) (H:Hp):List M.D->List V->Prop:=zK.all K ρ H
theorem Q0 {ρ ρ':List Addr} (h:ρ <+: ρ') {i:Nat}{a:Addr} (e:ρ[i]? = some a):ρ'[i]? = some a:=by
 obtain⟨t,rfl⟩:=h
 rw[List.getElem?_append_left (List.getElem?_eq_some_iff.mp e).1]
 exact e
section
variable {K:PySem.W.Frag}{ρ ρ':List Addr}{H H':Hp}
mutual
theorem zK.mono (hρ:ρ <+: ρ') (le:Le H H'):∀ {d:M.D}{v:V},zK K ρ H d v->zK K ρ' H' d v
 | .non,_,h=>h
 | .bl _,_,h=>h
 | .int _,_,h=>h
 | .str _,_,h=>h
 | .ty _,_,h=>h
 | .ref _,_,⟨a,e,h⟩=>⟨a,e,Q0 hρ h⟩
 | .tup _,_,⟨a,xs,e,h,r⟩=>⟨a,xs,e,le.sqT h,zL.mono hρ le r⟩
 | .ro _,_,⟨a,xs,e,h,r⟩=>⟨a,xs,e,le.rol h,zL.mono hρ le r⟩
theorem zL.mono (hρ:ρ <+: ρ') (le:Le H H'):∀ {ds:List M.D}{xs:List V},zL K ρ H ds xs->zL K ρ' H' ds xs
 | [],_,h=>h
 | _::_,_,⟨y,ys,e,h,r⟩=>⟨y,ys,e,zK.mono hρ le h,zL.mono hρ le r⟩
end
theorem zL.length:∀ {ds:List M.D}{xs:List V},zL K ρ H ds xs->ds.length=xs.length
 | [],_,h=>by cases h;rfl
 | _::_,_,⟨_,_,e,_,r⟩=>by subst e;rw[List.length_cons,List.length_cons,zL.length r]
theorem zL.get:∀ {ds:List M.D}{xs:List V}{i:Nat}{d:M.D},zL K ρ H ds xs->ds[i]? = some d->∃ v,xs[i]? = some v/\zK K ρ H d v
 | [],_,_,_,_,e=>by simp at e
 | _::_,_,0,_,⟨y,_,e1,h,_⟩,e=>by subst e1;simp at e;subst e;exact⟨y,rfl,h⟩
 | _::_,_,i+1,d,⟨_,ys,e1,_,r⟩,e=>by
  subst e1
  obtain⟨v,h1,h2⟩:=zL.get (i:=i) (d:=d) r (by simpa using e)
  exact⟨v,by simpa using h1,h2⟩
theorem zL.app:∀ {ds es:List M.D}{xs ys:List V},zL K ρ H ds xs->zL K ρ H es ys->zL K ρ H (ds++es) (xs++ys)
 | [],_,_,_,h,k=>by cases h;exact k
 | _::_,_,_,_,⟨y,ys,e,h,r⟩,k=>by subst e;exact⟨y,_,rfl,h,zL.app r k⟩
theorem zL.take:∀ {ds:List M.D}{xs:List V} (n:Nat),zL K ρ H ds xs->zL K ρ H (ds.take n) (xs.take n)
 | _,_,0,_=>rfl
 | [],_,_+1,h=>by cases h;rfl
 | _::_,_,n+1,⟨y,ys,e,h,r⟩=>by subst e;exact⟨y,_,rfl,h,zL.take n r⟩
theorem zL.drop:∀ {ds:List M.D}{xs:List V} (n:Nat),zL K ρ H ds xs->zL K ρ H (ds.drop n) (xs.drop n)
 | _,_,0,h=>h
 | [],_,_+1,h=>by cases h;rfl
 | _::_,_,n+1,⟨y,ys,e,h,r⟩=>by subst e;exact zL.drop n r
theorem zL.set {d:M.D}{v:V} (hd:zK K ρ H d v):∀ {ds:List M.D}{xs:List V} (n:Nat),zL K ρ H ds xs->zL K ρ H (ds.set n d) (xs.set n v)
 | [],_,_,h=>by cases h;rfl
 | _::_,_,0,⟨y,ys,e,h,r⟩=>by subst e;exact⟨v,ys,rfl,hd,r⟩
 | _::_,_,n+1,⟨y,ys,e,h,r⟩=>by subst e;exact⟨y,_,rfl,h,zL.set hd n r⟩
theorem zL.rev {ds:List M.D}{xs:List V} (h:zL K ρ H ds xs):zL K ρ H ds.reverse xs.reverse:=by
 induction ds generalizing xs with
 | nil=>cases h;rfl
 | cons d ds ih =>
  obtain⟨y,ys,e,h1,r⟩:=h
  subst e
  rw[List.reverse_cons,List.reverse_cons]
  exact (ih r).app ⟨y,[],rfl,h1,rfl⟩
end
section
variable {K:PySem.W.Frag}{ρ ρ':List Addr}{H H':Hp}{ds es:List M.D}{xs ys:List V}
theorem zK.all.mono (h:zK.all K ρ H ds xs) (hρ:ρ <+: ρ') (le:Le H H'):zK.all K ρ' H' ds xs:=zL.mono hρ le h
theorem zK.all.length (h:zK.all K ρ H ds xs):ds.length=xs.length:=zL.length h
theorem zK.all.app (h:zK.all K ρ H ds xs) (k:zK.all K ρ H es ys):zK.all K ρ H (ds++es) (xs++ys):=zL.app h k
end
noncomputable def Zw:M.D->Key->Prop
 | .int i,k=>k=.inl i
 | .str x,k=>k=.inr (ofT x)/\okT x
 | _,_=>False
structure Tab where
 tab:Nat->Option (Addr×List Str)
 ha:M.D->Int:=fun _=>0
instance:CoeFun Tab fun _=>Nat->Option (Addr×List Str):=⟨Tab.tab⟩
noncomputable def TD (ha:M.D->Int) (a:Addr) (xs:List (M.D×Addr×Value)) (h:Heap):Prop:=xs.length <= sizeLine/\(a == sysModules)=false/\(xs.map (·.1)).Nodup /\
 ∃ o es ep,h.get? a=some o/\o.ExactDict/\o.data=.dict es ep/\es.toList=xs.map fun x=>⟨ha x.1,.ref x.2.1,x.2.2⟩
noncomputable def TDr (K:PySem.W.Frag) (ρ:List Addr) (H:Hp) (p:M.D×M.D) (q:M.D×Addr×Value):Prop:=q.1=p.1/\M.kyD 7 p.1=true/\zK K ρ H p.1 (.ref q.2.1)/\∃ v,zK K ρ H p.2 v/\zc v q.2.2
theorem TDr.mono {K:PySem.W.Frag}{ρ ρ':List Addr}{H H':Hp} (hρ:ρ <+: ρ') (le:Le H H') {p:M.D×M.D}{q:M.D×Addr×Value} (h:TDr K ρ H p q):TDr K ρ' H' p q :=
 ⟨h.1,h.2.1,h.2.2.1.mono hρ le,let ⟨v,a,b⟩:=h.2.2.2;⟨v,a.mono hρ le,b⟩⟩
structure zAC (K:PySem.W.Frag) (ρ:List Addr) (H:Hp) (N:List Str) (fs:List (Option M.D)) (gs:List (Str×V)):Prop where
 len:fs.length=N.length
 nd:(gs.map (·.1)).Nodup
 within:∀ f∈gs.map (·.1),f∈N
 get:∀ (i:Nat) (f:Str) (d:M.D),N[i]? = some f->fs[i]? = some (some d)->∃ v,gs.lookup f=some v/\zK K ρ H d v
noncomputable def ObR (K:PySem.W.Frag) (Θ:Tab) (ρ:List Addr) (H:Hp) (a:Addr):M.O->Prop
 | .lst ds=>∃ xs,H a=some (.lst xs)/\zL K ρ H ds xs
 | .dct kvs=>∃ ks,H a=some (.dK ks)/\Paired (fun (p:M.D×M.D) (q:Key×V)=>Zw p.1 q.1/\zK K ρ H p.2 q.2) kvs ks
 | .fdc kvs=>∃ o ks,H a=some (.frz o (.dK ks))/\Paired (fun (p:M.D×M.D) (q:Key×V)=>Zw p.1 q.1/\zK K ρ H p.2 q.2) kvs ks
 | .dtt kvs=>∃ xs,H a=some (.ext (TD Θ.ha a xs))/\Paired (TDr K ρ H) kvs xs
 | .ins c fs=>∃ C dx gs N,H a=some (.ins C dx gs)/\Θ c=some (C,N)/\zAC K ρ H N fs gs
structure zW (K:PySem.W.Frag) (Θ:Tab) (ρ:List Addr) (S:M.S) (H:Hp):Prop where
 len:ρ.length=S.length
 nd:ρ.Nodup
 obj:∀ (i:Nat) (o:M.O),S[i]? = some o->∃ a,ρ[i]? = some a/\ObR K Θ ρ H a o
structure jc (K:PySem.W.Frag) (ρ:List Addr) (H:Hp) (σ':M.St) (σ:St):Prop where
 len:σ'.length=σ.length
 get:∀ (i:Nat) (d:M.D),σ'[i]? = some (some d)->∃ v,σ[i]? = some (some v)/\zK K ρ H d v
section
variable {K:PySem.W.Frag}{Θ:Tab}{ρ ρ':List Addr}{H H':Hp}{S:M.S}
theorem jc.mono {σ':M.St}{σ:St} (h:jc K ρ H σ' σ) (hρ:ρ <+: ρ') (le:Le H H'):jc K ρ' H' σ' σ :=
 ⟨h.len,fun i d e=>let ⟨v,h1,h2⟩:=h.get i d e;⟨v,h1,h2.mono hρ le⟩⟩
theorem jc.set {σ':M.St}{σ:St}{d:M.D}{v:V} (h:jc K ρ H σ' σ) (hd:zK K ρ H d v) (i:Nat):jc K ρ H (σ'.set i (some d)) (σ.set i (some v)):=by
 refine⟨by rw[List.length_set,List.length_set,h.len],fun j e q=>?_⟩
 by_cases hj:i=j
 ·subst hj
  by_cases hl:i < σ'.length
  ·rw[List.getElem?_set_self hl] at q
   cases q
   exact⟨v,by rw[List.getElem?_set_self (h.len ▸ hl)],hd⟩
  ·rw[List.getElem?_eq_none (by rw[List.length_set];omega)] at q
   cases q
 ·rw[List.getElem?_set_ne hj] at q
  rw[List.getElem?_set_ne hj]
  exact h.get j e q
theorem jc.more {σ':M.St}{σ:St} (h:jc K ρ H σ' σ) (n:Nat):jc K ρ H (σ'++List.replicate n none) (σ++List.replicate n none):=by
 refine⟨by simp[h.len],fun i d q=>?_⟩
 by_cases hl:i < σ'.length
 ·rw[List.getElem?_append_left hl] at q
  rw[List.getElem?_append_left (h.len ▸ hl)]
  exact h.get i d q
 ·rw[List.getElem?_append_right (by omega),List.getElem?_replicate] at q
  split at q<;>cases q
theorem zW.tracked (h:zW K Θ ρ S H) {a:Addr} (m:a∈ρ):∃ o,H a=some o:=by
 obtain⟨i,hi,e⟩:=List.mem_iff_getElem.mp m
 have hl:i < S.length:=h.len ▸ hi
 obtain⟨a',e1,r⟩:=h.obj i S[i] (by simp[hl])
 rw[List.getElem?_eq_getElem hi,e] at e1
 cases e1
 cases q:S[i] with
 | lst ds=>rw[q] at r;obtain⟨xs,e2,_⟩:=r;exact⟨_,e2⟩
 | dct kvs=>rw[q] at r;obtain⟨xs,e2,_⟩:=r;exact⟨_,e2⟩
 | fdc kvs=>rw[q] at r;obtain⟨o,xs,e2,_⟩:=r;exact⟨_,e2⟩
 | dtt kvs=>rw[q] at r;obtain⟨xs,e2,_⟩:=r;exact⟨_,e2⟩
 | ins c fs=>rw[q] at r;obtain⟨_,_,_,_,e2,_⟩:=r;exact⟨_,e2⟩
theorem zW.fresh (h:zW K Θ ρ S H) {p:Addr} (hp:H p=none):p∉ρ:=fun m=>by
 obtain⟨o,e⟩:=h.tracked m
 rw[hp] at e;cases e
theorem ObR.stay {a:Addr}{o:M.O} (h:ObR K Θ ρ H a o) (hρ:ρ <+: ρ') (le:Le H H') (e:H' a=H a):ObR K Θ ρ' H' a o:=by
 cases o with
 | lst ds=>obtain⟨xs,e1,r⟩:=h;exact⟨xs,e.trans e1,r.mono hρ le⟩
 | dct kvs=>obtain⟨ks,e1,r⟩:=h;exact⟨ks,e.trans e1,Paired.mapP r fun p q z=>⟨z.1,z.2.mono hρ le⟩⟩
 | fdc kvs=>obtain⟨o,ks,e1,r⟩:=h;exact⟨o,ks,e.trans e1,Paired.mapP r fun p q z=>⟨z.1,z.2.mono hρ le⟩⟩
 | dtt kvs=>obtain⟨xs,e1,r⟩:=h;exact⟨xs,e.trans e1,Paired.mapP r fun p q z=>z.mono hρ le⟩
 | ins c fs =>
  obtain⟨C,dx,gs,N,e1,e2,r⟩:=h
  exact⟨C,dx,gs,N,e.trans e1,e2,r.len,r.nd,r.within,fun i f d h1 h2=>let ⟨v,k1,k2⟩:=r.get i f d h1 h2;⟨v,k1,k2.mono hρ le⟩⟩
theorem zW.stay (h:zW K Θ ρ S H) (le:Le H H') (e:∀ a∈ρ,H' a=H a):zW K Θ ρ S H' :=
 ⟨h.len,h.nd,fun i o q=>let ⟨a,h1,h2⟩:=h.obj i o q;⟨a,h1,h2.stay (List.prefix_refl _) le (e a (List.mem_of_getElem? h1))⟩⟩
theorem zW.aside (h:zW K Θ ρ S H) {p:Addr} (hp:H p=none) (o:HO):zW K Θ ρ S (upd H p o) :=
 h.stay (Le.new hp o) fun a m=>jA (fun z=>h.fresh hp (z ▸ m))
theorem zW.alloc (h:zW K Θ ρ S H) {p:Addr} (hp:H p=none) {o:M.O}{u:HO} (r:ObR K Θ (ρ++[p]) (upd H p u) p o):zW K Θ (ρ++[p]) (S++[o]) (upd H p u):=by
 refine⟨by simp[h.len],?_,fun i ob q=>?_⟩
 ·rw[List.nodup_append]
  refine⟨h.nd,by simp,fun a ha b hb=>?_⟩
  have hb':b=p:=by simpa using hb
  rw[hb']
  exact fun z=>h.fresh hp (z ▸ ha)
 ·by_cases hl:i < S.length
  ·rw[List.getElem?_append_left hl] at q
   obtain⟨a,h1,h2⟩:=h.obj i ob q
   refine⟨a,Q0 (List.prefix_append _ _) h1,h2.stay (List.prefix_append _ _) (Le.new hp u) (jA fun z=>h.fresh hp (z ▸ List.mem_of_getElem? h1))⟩
  ·rw[List.getElem?_append_right (by omega)] at q
   have hi:i - S.length=0:=by
    cases hz:i - S.length with
    | zero=>rfl
    | succ k=>rw[hz] at q;simp at q
   rw[hi] at q
   simp at q
   subst q
   refine⟨p,?_,r⟩
   rw[List.getElem?_append_right (by rw[h.len];omega),h.len,hi]
   rfl
theorem JK {α:Type}{ρ:List α} (hN:ρ.Nodup) {i j:Nat}{x:α} (a:ρ[i]? = some x) (b:ρ[j]? = some x):i=j:=by
 induction ρ generalizing i j with
 | nil=>simp at a
 | cons y r ih =>
  rw[List.nodup_cons] at hN
  cases i with
  | zero =>
   cases j with
   | zero=>rfl
   | succ j =>
    simp at a b
    subst a
    exact absurd (List.mem_of_getElem? b) hN.1
  | succ i =>
   cases j with
   | zero =>
    simp at a b
    subst b
    exact absurd (List.mem_of_getElem? a) hN.1
   | succ j =>
    simp at a b
    rw[ih hN.2 a b]
theorem zHO {α:Type}{l:List α} (h:∀ (i j:Nat) x,l[i]? = some x->l[j]? = some x->i=j):l.Nodup:=by
 induction l with
 | nil=>exact List.nodup_nil
 | cons y r ih =>
  refine List.nodup_cons.mpr ⟨fun m=>?_,ih fun i j x a b=>?_⟩
  ·obtain⟨j,hj,e⟩:=List.mem_iff_getElem.mp m
   have:=h 0 (j+1) y (by simp) (by simp[e,hj])
   omega
  ·have:=h (i+1) (j+1) x (by simpa using a) (by simpa using b)
   omega
theorem zG6 {α:Type}{l:List α} (hN:l.Nodup) {i j:Nat} (hi:i < l.length) (hj:j < l.length) (e:l[i]=l[j]):i=j :=
 JK hN (x:=l[i]) (by simp[hi]) (by rw[e];simp[hj])
theorem zW.put (h:zW K Θ ρ S H) {i:Nat}{a:Addr} (ha:ρ[i]? = some a) {o:M.O}{u:HO} (mu:Mut (H a)) (r:ObR K Θ ρ (upd H a u) a o):zW K Θ ρ (S.set i o) (upd H a u):=by
 refine⟨by simp[h.len],h.nd,fun j ob q=>?_⟩
 by_cases hj:i=j
 ·subst hj
  by_cases hl:i < S.length
  ·rw[List.getElem?_set_self hl] at q
   cases q
   exact⟨a,ha,r⟩
  ·rw[List.getElem?_eq_none (by rw[List.length_set];omega)] at q
   cases q
 ·rw[List.getElem?_set_ne hj] at q
  obtain⟨b,h1,h2⟩:=h.obj j ob q
  refine⟨b,h1,h2.stay (List.prefix_refl _) (Le.put mu u) (jA fun z=>?_)⟩
  subst z
  exact hj (JK h.nd ha h1)
end
noncomputable def zF {α β:Type} (K:PySem.W.Frag) (Θ:Tab) (Rl:List Addr->Hp->α->β->Prop) (ρ:List Addr) (H:Hp):M.R α->(β->Hp->Prop)->Prop
 | .ok a S',Q=>∀ ρ' H' b,ρ <+: ρ'->Le H H'->zW K Θ ρ' S' H'->Rl ρ' H' a b->Q b H'
 | .exc _ _,_=>False
 | .no,_=>False
noncomputable abbrev rB:List Addr->Hp->Bool->Bool->Prop:=fun _ _ a b=>a=b
noncomputable abbrev rO:List Addr->Hp->Option Int->Option Int->Prop:=fun _ _ a b=>a=b
section
variable {K:PySem.W.Frag}{Θ:Tab}{ρ ρ':List Addr}{H H':Hp}{S:M.S}{α β γ δ:Type}{Rl:List Addr->Hp->α->β->Prop}{Rk:List Addr->Hp->γ->δ->Prop}{Q:β->Hp->Prop}{Q':δ->Hp->Prop}
theorem zF.weak {r:M.R α} (h:zF K Θ Rl ρ H r Q) (hρ:ρ <+: ρ') (le:Le H H'):zF K Θ Rl ρ' H' r Q:=by
 cases r with
 | ok a s=>exact fun ρ2 H2 b p l=>h ρ2 H2 b (hρ.trans p) (le.trans l)
 | exc e s=>exact h
 | no=>exact h
theorem zF.bind {r:M.R α}{f:α->M.S->M.R γ} (h:zF K Θ Rk ρ H (r.bind f) Q')
  (k:∀ ρ' H' a b S',ρ <+: ρ'->Le H H'->zW K Θ ρ' S' H'->Rl ρ' H' a b->zF K Θ Rk ρ' H' (f a S') Q'->Q b H'):zF K Θ Rl ρ H r Q:=by
 cases r with
 | ok a s=>exact fun ρ2 H2 b p l rp rl=>k ρ2 H2 a b s p l rp rl (zF.weak h p l)
 | exc e s=>exact h
 | no=>exact h
theorem zF.here {a:α}{b:β} (h:zF K Θ Rl ρ H (.ok a S) Q) (rp:zW K Θ ρ S H) (rl:Rl ρ H a b):Q b H:=h ρ H b (List.prefix_refl _) (Le.refl _) rp rl
end
noncomputable def RdE (K:PySem.W.Frag) (Θ:Tab) (m:M.EM):TE:=fun σ H Q=>∃ ρ σ' S,jc K ρ H σ' σ/\zW K Θ ρ S H/\zF K Θ (zK K) ρ H (m σ' S) Q
noncomputable def RdT (K:PySem.W.Frag) (Θ:Tab) (m:M.TM):TT:=fun σ H Q=>∃ ρ σ' S,jc K ρ H σ' σ/\zW K Θ ρ S H/\zF K Θ rB ρ H (m σ' S) Q
noncomputable def RdA (K:PySem.W.Frag) (Θ:Tab) (m:M.AM):TA:=fun σ H Q=>∃ ρ σ' S,jc K ρ H σ' σ/\zW K Θ ρ S H/\zF K Θ (zL K) ρ H (m σ' S) Q
noncomputable def RdO (K:PySem.W.Frag) (Θ:Tab) (m:M.OM):TO:=fun σ H Q=>∃ ρ σ' S,jc K ρ H σ' σ/\zW K Θ ρ S H/\zF K Θ rO ρ H (m σ' S) Q
noncomputable abbrev ME (X:Cx) (Θ:Tab) (e:Expr) (m:M.EM):Prop:=PE X e (RdE X.K Θ m)
@[irreducible] noncomputable def WE (X:Cx) (Θ:Tab) (e:Expr) (m:M.EM):Prop:=ME X Θ e m
noncomputable abbrev MT (X:Cx) (Θ:Tab) (e:Expr) (m:M.TM):Prop:=PT X e (RdT X.K Θ m)
@[irreducible] noncomputable def WT (X:Cx) (Θ:Tab) (e:Expr) (m:M.TM):Prop:=MT X Θ e m
noncomputable abbrev MW (X:Cx) (Θ:Tab) (e:Expr) (m:M.TM):Prop:=PW X e (RdT X.K Θ m)
@[irreducible] noncomputable def WW (X:Cx) (Θ:Tab) (e:Expr) (m:M.TM):Prop:=MW X Θ e m
noncomputable abbrev MA (X:Cx) (Θ:Tab) (es:List Expr) (m:M.AM):Prop:=PA X es (RdA X.K Θ m)
@[irreducible] noncomputable def WA (X:Cx) (Θ:Tab) (es:List Expr) (m:M.AM):Prop:=MA X Θ es m
noncomputable abbrev MO (X:Cx) (Θ:Tab) (e:Option Expr) (m:M.OM):Prop:=PO X e (RdO X.K Θ m)
@[irreducible] noncomputable def WO (X:Cx) (Θ:Tab) (e:Option Expr) (m:M.OM):Prop:=MO X Θ e m
theorem PE.imp {X:Cx}{e:Expr}{t t':TE} (h:PE X e t) (i:∀ σ H Q,t' σ H Q->t σ H Q):PE X e t':=fun pins s σ H Q I q=>h pins s σ H Q I (i σ H Q q)
theorem PT.imp {X:Cx}{e:Expr}{t t':TT} (h:PT X e t) (i:∀ σ H Q,t' σ H Q->t σ H Q):PT X e t':=fun pins s σ H Q I q=>h pins s σ H Q I (i σ H Q q)
theorem PW.imp {X:Cx}{e:Expr}{t t':TT} (h:PW X e t) (i:∀ σ H Q,t' σ H Q->t σ H Q):PW X e t':=fun wh pins s σ H Q I q=>h wh pins s σ H Q I (i σ H Q q)
theorem PA.imp {X:Cx}{es:List Expr}{t t':TA} (h:PA X es t) (i:∀ σ H Q,t' σ H Q->t σ H Q):PA X es t':=fun pos pins s σ H Q I q=>h pos pins s σ H Q I (i σ H Q q)
theorem PO.imp {X:Cx}{e:Option Expr}{t t':TO} (h:PO X e t) (i:∀ σ H Q,t' σ H Q->t σ H Q):PO X e t':=fun pins s σ H Q I q=>h pins s σ H Q I (i σ H Q q)
noncomputable def z5:Expr->Bool
 | .Starred _ _=>false
 | _=>true
theorem jv {e:Expr}{es:List Expr}{env:Env} (h:z5 e=true):starEach (e::es) env=(false,eval e env)::starEach es env:=by
 cases e<;>first | rfl | cases h
theorem ZK {env:Env}{pos:Pos}:∀ {es:List Expr},es.all z5=true->(backTo pos (starEach es env)).any (·.1)=false
 | [],_=>rfl
 | e::es,h=>by
  rw[List.all_cons,Bool.and_eq_true] at h
  rw[jv h.1]
  show (false || (backTo pos (starEach es env)).any (·.1))=false
  rw[ZK h.2];rfl
theorem zDF {env:Env}{pos:Pos}:∀ {es:List Expr},es.all z5=true->(backTo pos (starEach es env)).all (fun x=>!x.1)=true
 | [],_=>rfl
 | e::es,h=>by
  rw[List.all_cons,Bool.and_eq_true] at h
  rw[jv h.1]
  show (true && (backTo pos (starEach es env)).all (fun x=>!x.1))=true
  rw[zDF h.2];rfl
theorem zDU {env:Env}{pos:Pos}{es:List Expr} (h:es.all z5=true) (hl:es.length < 30):((backTo pos (starEach es env)).all (fun x=>!x.1) && (backToKw pos (keywordEach [] env)).all (fun x=>x.1.isSome)
  && decide (es.length+([]:List Keyword).length+(if ([]:List Keyword).isEmpty then 0 else 1) < 30))=true:=by
 rw[zDF h,Bool.true_and,Bool.and_eq_true]
 exact⟨rfl,decide_eq_true (by simpa using hl)⟩
section
variable {X:Cx}{Θ:Tab}{a b c:Expr}{pos:Pos}{ma mb mc:M.EM}{ta tb:M.TM}{qE:List Expr}
theorem zJy (i:Nat) {x:Str} (hN:X.N[i]? = some x:=by rfl) (hv:Vis X.env.scope x:=by first | exact Or.inl rfl | exact Or.inr (Or.inl rfl) | exact Or.inr (Or.inr rfl)) (hd:(x == ("__debug__" : Str))=false:=by decide)
  (hcd:(x == ("__classdict__" : Str))=false:=by decide):ME X Θ (.Name x pos) (M.zA i):=(zKP hN hv hd hcd).imp fun σ H Q ⟨ρ,σ',S,st,rp,h⟩=>by
 unfold M.zA at h
 split at h
 ·rename_i d e
  obtain⟨v,e1,r⟩:=st.get i d e
  exact⟨v,e1,h.here rp r⟩
 ·exact h.elim
theorem zDc (i:Nat) {x:Str} (hN:X.N[i]? = some x:=by rfl) (hv:Vis X.env.scope x:=by first | exact Or.inl rfl | exact Or.inr (Or.inl rfl) | exact Or.inr (Or.inr rfl)) (hd:(x == ("__debug__" : Str))=false:=by decide)
  (hcd:(x == ("__classdict__" : Str))=false:=by decide):WE X Θ (.Name x pos) (M.zA i):=by with_unfolding_all exact zJy i (x:=x) hN hv hd hcd
theorem zAJ {e:Expr}{v:V}{d:M.D} (h:PE X e (tC v)) (r:∀ ρ H,zK X.K ρ H d v):ME X Θ e (M.eC d):=h.imp fun σ H Q ⟨ρ,σ',S,st,rp,h⟩=>h.here rp (r ρ H)
theorem zKN {i:Int}{j:Nat}:ME X Θ (.Constant (.int i) j pos) (M.eC (.int i)):=zAJ zDT fun _ _=>rfl
theorem zE {i:Int}{j:Nat}:WE X Θ (.Constant (.int i) j pos) (M.eC (.int i)):=by with_unfolding_all exact zKN (i:=i) (j:=j)
theorem zMG {k:Bool}{j:Nat}:ME X Θ (.Constant (.bool k) j pos) (M.eC (.bl k)):=zAJ zMK fun _ _=>rfl
theorem zAH {k:Bool}{j:Nat}:WE X Θ (.Constant (.bool k) j pos) (M.eC (.bl k)):=by with_unfolding_all exact zMG (k:=k) (j:=j)
theorem zLN {j:Nat}:ME X Θ (.Constant .none j pos) (M.eC .non):=zAJ zLR fun _ _=>rfl
theorem JR {j:Nat}:WE X Θ (.Constant .none j pos) (M.eC .non):=by with_unfolding_all exact zLN (j:=j)
theorem zLH {y:M.T}{x:Str}{j:Nat} (h:x=ofT y) (ok:okT y):ME X Θ (.Constant (.str x) j pos) (M.eC (.str y)):=zAJ zFx fun _ _=>by rw[h];exact⟨rfl,ok⟩
theorem zHS {y:M.T}{x:Str}{j:Nat} (h:x=ofT y) (ok:okT y):WE X Θ (.Constant (.str x) j pos) (M.eC (.str y)):=by with_unfolding_all exact zLH (y:=y) (x:=x) (j:=j) h ok
theorem zH3 {x:Str}{v:V}{d:M.D} (h:zDO X.mg x v) (hg:Gl X x) (r:∀ ρ H,zK X.K ρ H d v) (hd:(x == ("__debug__" : Str))=false:=by decide):ME X Θ (.Name x pos) (M.eC d):=zAJ (zHr h hg hd) r
theorem zFM {x:Str}{v:V}{d:M.D} (h:zDO X.mg x v) (hg:Gl X x) (r:∀ ρ H,zK X.K ρ H d v) (hd:(x == ("__debug__" : Str))=false:=by decide):WE X Θ (.Name x pos) (M.eC d):=by with_unfolding_all exact zH3 (x:=x) (v:=v) (d:=d) h hg r hd
theorem zLx (n:M.Kd) {x:Str} (hg:Gl X x) (hm:X.mg x=none) (hv:bootBuiltins x=some (.type (qL n))) (hn:x ≠ "__name__" := by decide) (hd:(x == ("__debug__" : Str))=false:=by decide):ME X Θ (.Name x pos) (M.eC (.ty n)) :=
 zAJ (zJg (v:=.ty (qL n)) hg hm hv rfl hn hd) fun _ _=>rfl
theorem zB4 (n:M.Kd) {x:Str} (hg:Gl X x) (hm:X.mg x=none) (hv:bootBuiltins x=some (.type (qL n))) (hn:x ≠ "__name__" := by decide) (hd:(x == ("__debug__" : Str))=false:=by decide):WE X Θ (.Name x pos) (M.eC (.ty n)):=by with_unfolding_all exact zLx n (x:=x) hg hm hv hn hd
noncomputable def Ad2 (K:PySem.W.Frag) (Θ:Tab) (f:M.D->M.D->M.S->M.R M.D) (r:R2):Prop:=∀ ρ H S x y X Y Q,zW K Θ ρ S H->zK K ρ H x X->zK K ρ H y Y->zF K Θ (zK K) ρ H (f x y S) Q->r X Y H Q
noncomputable def AdC (K:PySem.W.Frag) (Θ:Tab) (f:M.CM) (r:R2):Prop:=∀ ρ H S x y X Y (Q:VK),zW K Θ ρ S H->zK K ρ H x X->zK K ρ H y Y->zF K Θ rB ρ H (f x y S) (fun b H'=>Q (.bl b) H')->r X Y H Q
noncomputable def AdN (K:PySem.W.Frag) (Θ:Tab) (f:M.F) (r:List V->Hp->VK->Prop):Prop:=∀ ρ H S xs Xs Q,zW K Θ ρ S H->zL K ρ H xs Xs->zF K Θ (zK K) ρ H (f xs S) Q->r Xs H Q
noncomputable def AdM (K:PySem.W.Frag) (Θ:Tab) (f:M.D->M.F) (r:V->List V->Hp->VK->Prop):Prop :=
 ∀ ρ H S x xs X Xs Q,zW K Θ ρ S H->zK K ρ H x X->zL K ρ H xs Xs->zF K Θ (zK K) ρ H (f x xs S) Q->r X Xs H Q
theorem zMB {op:Operator}{f:M.D->M.D->M.S->M.R M.D}{r:R2} (ho:OpR X (binaryOp op) r) (ad:Ad2 X.K Θ f r) (ha:ME X Θ a ma) (hb:ME X Θ b mb):ME X Θ (.BinOp a op b pos) (M.eOp f ma mb) :=
 (zLw ho ha hb).imp fun σ H Q ⟨ρ,σ',S,st,rp,h⟩=>⟨ρ,σ',S,st,rp,zF.bind h fun ρ1 H1 x X1 S1 p1 l1 rp1 rx h1=>⟨ρ1,σ',S1,st.mono p1 l1,rp1,
  zF.bind h1 fun ρ2 H2 y Y S2 p2 l2 rp2 ry h2=>ad ρ2 H2 S2 x y X1 Y Q rp2 (rx.mono p2 l2) ry h2⟩⟩
theorem zJ {op:Operator}{f:M.D->M.D->M.S->M.R M.D}{r:R2} (ho:OpR X (binaryOp op) r) (ad:Ad2 X.K Θ f r) (ha:WE X Θ a ma) (hb:WE X Θ b mb):WE X Θ (.BinOp a op b pos) (M.eOp f ma mb):=by with_unfolding_all exact zMB (op:=op) (f:=f) (r:=r) ho ad ha hb
noncomputable def zD7:Expr->Bool
 | .Slice _ _ _ _=>false
 | .Tuple _ _ _=>false
 | _=>true
theorem zIJ {b:Expr} (h:zD7 b=true):zEr b:=fun o i=>by
 cases b<;>first | rfl | cases h
theorem zMD {f:M.D->M.D->M.S->M.R M.D}{r:R2} (ho:IxR X r) (ad:Ad2 X.K Θ f r) (ha:ME X Θ a ma) (hb:ME X Θ b mb) (hs:zD7 b=true:=by rfl):ME X Θ (.Subscript a b pos) (M.eOp f ma mb) :=
 (zME ho ha hb (zIJ hs)).imp fun σ H Q ⟨ρ,σ',S,st,rp,h⟩=>⟨ρ,σ',S,st,rp,zF.bind h fun ρ1 H1 x X1 S1 p1 l1 rp1 rx h1=>⟨ρ1,σ',S1,st.mono p1 l1,rp1,
  zF.bind h1 fun ρ2 H2 y Y S2 p2 l2 rp2 ry h2=>ad ρ2 H2 S2 x y X1 Y Q rp2 (rx.mono p2 l2) ry h2⟩⟩
theorem zn {f:M.D->M.D->M.S->M.R M.D}{r:R2} (ho:IxR X r) (ad:Ad2 X.K Θ f r) (ha:WE X Θ a ma) (hb:WE X Θ b mb) (hs:zD7 b=true:=by rfl):WE X Θ (.Subscript a b pos) (M.eOp f ma mb):=by with_unfolding_all exact zMD (f:=f) (r:=r) ho ad ha hb hs
theorem zJ4 {op:CmpOp}{f:M.CM}{r:R2} (ho:OpR X (compareOp op) r) (ad:AdC X.K Θ f r) (ha:ME X Θ a ma) (hb:ME X Θ b mb) (hm:behindInMarks op b=false):ME X Θ (.Compare a [op] [b] pos) (M.JT f ma mb) :=
 (zJL ho ha hb hm).imp fun σ H Q ⟨ρ,σ',S,st,rp,h⟩=>⟨ρ,σ',S,st,rp,zF.bind h fun ρ1 H1 x X1 S1 p1 l1 rp1 rx h1=>⟨ρ1,σ',S1,st.mono p1 l1,rp1,
  zF.bind h1 fun ρ2 H2 y Y S2 p2 l2 rp2 ry h2=>ad ρ2 H2 S2 x y X1 Y Q rp2 (rx.mono p2 l2) ry (zF.bind h2 fun ρ3 H3 k k' S3 p3 l3 rp3 e h3=>by cases e;exact h3.here rp3 rfl)⟩⟩
theorem zAy {op:CmpOp}{f:M.CM}{r:R2} (ho:OpR X (compareOp op) r) (ad:AdC X.K Θ f r) (ha:WE X Θ a ma) (hb:WE X Θ b mb) (hm:behindInMarks op b=false):WE X Θ (.Compare a [op] [b] pos) (M.JT f ma mb):=by with_unfolding_all exact zJ4 (op:=op) (f:=f) (r:=r) ho ad ha hb hm
theorem zLa {op:CmpOp}{f:M.CM}{r:R2} (ho:OpR X (compareOp op) r) (ad:AdC X.K Θ f r) (ha:ME X Θ a ma) (hb:ME X Θ b mb) (hm:behindInMarks op b=false):MT X Θ (.Compare a [op] [b] pos) (M.jT f ma mb) :=
 (zJQ ho ha hb hm).imp fun σ H Q ⟨ρ,σ',S,st,rp,h⟩=>⟨ρ,σ',S,st,rp,zF.bind h fun ρ1 H1 x X1 S1 p1 l1 rp1 rx h1=>⟨ρ1,σ',S1,st.mono p1 l1,rp1,
  zF.bind h1 fun ρ2 H2 y Y S2 p2 l2 rp2 ry h2=>ad ρ2 H2 S2 x y X1 Y _ rp2 (rx.mono p2 l2) ry (by
   revert h2
   cases f x y S2 with
   | ok k s=>exact fun h2 ρ3 H3 k' p3 l3 rp3 e=>⟨k',rfl,h2 ρ3 H3 k' p3 l3 rp3 e⟩
   | exc e s=>exact fun h2=>h2
   | no=>exact fun h2=>h2)⟩⟩
theorem jC {op:CmpOp}{f:M.CM}{r:R2} (ho:OpR X (compareOp op) r) (ad:AdC X.K Θ f r) (ha:WE X Θ a ma) (hb:WE X Θ b mb) (hm:behindInMarks op b=false):WT X Θ (.Compare a [op] [b] pos) (M.jT f ma mb):=by with_unfolding_all exact zLa (op:=op) (f:=f) (r:=r) ho ad ha hb hm
theorem AdC.to {K:PySem.W.Frag}{f:M.CM}{r:R2} (ad:AdC K Θ f r) {ρ:List Addr}{H:Hp}{S:M.S}{x y:M.D}{X1 Y:V}{Q:VK}{Q':Bool->Hp->Prop} (rp:zW K Θ ρ S H) (rx:zK K ρ H x X1) (ry:zK K ρ H y Y) (h:zF K Θ rB ρ H (f x y S) Q') (e:∀ k H',Q' k H'->Q (.bl k) H'):r X1 Y H Q :=
 ad ρ H S x y X1 Y Q rp rx ry (by
  revert h
  cases f x y S with
  | ok k s=>exact fun h2 ρ3 H3 k' p3 l3 rp3 q=>e _ _ (h2 ρ3 H3 k' p3 l3 rp3 q)
  | exc e s=>exact fun h2=>h2
  | no=>exact fun h2=>h2)
theorem zHc {op op':CmpOp}{f g:M.CM}{r r':R2} (ho:OpR X (compareOp op) r) (ho':OpR X (compareOp op') r') (ad:AdC X.K Θ f r) (ad':AdC X.K Θ g r') (ha:ME X Θ a ma) (hb:ME X Θ b mb) (hc:ME X Θ c mc)
  (hm:lastMarks [op,op'] [b,c]=false:=by with_unfolding_all rfl):ME X Θ (.Compare a [op,op'] [b,c] pos) (M.zDR f g ma mb mc) :=
 (zHD ho ho' ha hb hc hm).imp fun σ H Q ⟨ρ,σ',S,st,rp,h⟩=>⟨ρ,σ',S,st,rp,zF.bind h fun ρ1 H1 x X1 S1 p1 l1 rp1 rx h1=>⟨ρ1,σ',S1,st.mono p1 l1,rp1,
  zF.bind h1 fun ρ2 H2 y Y S2 p2 l2 rp2 ry h2=>ad.to rp2 (rx.mono p2 l2) ry (zF.bind (Rl:=rB) (Q:=fun k H'=>∃ ρ3 S3,ρ2 <+: ρ3/\Le H2 H'/\zW X.K Θ ρ3 S3 H'/\zF X.K Θ (zK X.K) ρ3 H' (if k=true then (mc σ' S3).bind fun z s=>(g y z s).bind fun k s=>.ok (.bl k) s else .ok (.bl false) S3) Q) h2
   fun ρ3 H3 k k' S3 p3 l3 rp3 e h3=>by cases e;exact⟨ρ3,S3,p3,l3,rp3,h3⟩) fun k H3 ⟨ρ3,S3,p3,l3,rp3,h3⟩=>⟨k,rfl,by
    cases k with
    | false=>exact zCP (zF.here (b:=V.bl false) h3 rp3 rfl)
    | true =>
     refine zB0 ⟨ρ3,σ',S3,st.mono (p1.trans (p2.trans p3)) (l1.trans (l2.trans l3)),rp3,zF.bind h3 fun ρ4 H4 z Z S4 p4 l4 rp4 rz h4=>ad'.to rp4 (ry.mono (p3.trans p4) (l3.trans l4)) rz (zF.bind (Rl:=rB) (Q:=fun k H'=>Q (.bl k) H') h4 fun ρ5 H5 k k' S5 p5 l5 rp5 e h5=>by cases e;exact h5.here rp5 rfl) fun _ _ q=>q⟩⟩⟩⟩
theorem zFn {op op':CmpOp}{f g:M.CM}{r r':R2} (ho:OpR X (compareOp op) r) (ho':OpR X (compareOp op') r') (ad:AdC X.K Θ f r) (ad':AdC X.K Θ g r') (ha:WE X Θ a ma) (hb:WE X Θ b mb) (hc:WE X Θ c mc)
  (hm:lastMarks [op,op'] [b,c]=false:=by with_unfolding_all rfl):WE X Θ (.Compare a [op,op'] [b,c] pos) (M.zDR f g ma mb mc):=by with_unfolding_all exact zHc (op:=op) (op':=op') (f:=f) (g:=g) (r:=r) (r':=r') ho ho' ad ad' ha hb hc hm
theorem zFV (ha:MT X Θ a ta):MW X Θ (.BoolOp .And [a] pos) ta:=zIm ha
theorem QY (ha:WT X Θ a ta):WW X Θ (.BoolOp .And [a] pos) ta:=by with_unfolding_all exact zFV ha
theorem zFv (ha:MT X Θ a ta):MW X Θ (.BoolOp .Or [a] pos) ta:=zKv ha
theorem zAf (ha:WT X Θ a ta):WW X Θ (.BoolOp .Or [a] pos) ta:=by with_unfolding_all exact zFv ha
theorem zKB (ha:MT X Θ a ta) (hb:MW X Θ (.BoolOp .And (b::qE) pos) tb):MW X Θ (.BoolOp .And (a::b::qE) pos) (M.zAD ta tb) :=
 (zJ0 ha hb).imp fun σ H Q ⟨ρ,σ',S,st,rp,h⟩=>⟨ρ,σ',S,st,rp,zF.bind h fun ρ1 H1 k k' S1 p1 l1 rp1 e h1=>by
  cases e
  cases k with
  | true=>exact zB0 ⟨ρ1,σ',S1,st.mono p1 l1,rp1,h1⟩
  | false=>exact zCP (zF.here (b:=false) h1 rp1 rfl)⟩
theorem zAm (ha:WT X Θ a ta) (hb:WW X Θ (.BoolOp .And (b::qE) pos) tb):WW X Θ (.BoolOp .And (a::b::qE) pos) (M.zAD ta tb):=by with_unfolding_all exact zKB ha hb
theorem zLj (ha:MT X Θ a ta) (hb:MW X Θ (.BoolOp .Or (b::qE) pos) tb):MW X Θ (.BoolOp .Or (a::b::qE) pos) (M.tOr ta tb) :=
 (zLs ha hb).imp fun σ H Q ⟨ρ,σ',S,st,rp,h⟩=>⟨ρ,σ',S,st,rp,zF.bind h fun ρ1 H1 k k' S1 p1 l1 rp1 e h1=>by
  cases e
  cases k with
  | true=>exact zB0 (zF.here (b:=true) h1 rp1 rfl)
  | false=>exact zCP ⟨ρ1,σ',S1,st.mono p1 l1,rp1,h1⟩⟩
theorem zEz (ha:WT X Θ a ta) (hb:WW X Θ (.BoolOp .Or (b::qE) pos) tb):WW X Θ (.BoolOp .Or (a::b::qE) pos) (M.tOr ta tb):=by with_unfolding_all exact zLj ha hb
theorem zKC (ha:MT X Θ a ta):MT X Θ (.UnaryOp .Not a pos) (M.ZT ta):=(zJ6 ha).imp fun σ H Q ⟨ρ,σ',S,st,rp,h⟩=>⟨ρ,σ',S,st,rp,zF.bind h fun ρ1 H1 k k' S1 p1 l1 rp1 e h1=>by
 cases e;exact zF.here (b:=!k) h1 rp1 rfl⟩
theorem QP (ha:WT X Θ a ta):WT X Θ (.UnaryOp .Not a pos) (M.ZT ta):=by with_unfolding_all exact zKC ha
theorem zGD:MA X Θ [] M.zI:=zEF.imp fun σ H Q ⟨ρ,σ',S,st,rp,h⟩=>zF.here (b:=[]) h rp rfl
theorem zG:WA X Θ [] M.zI:=by with_unfolding_all exact zGD
theorem zEp {e:Expr}{es:List Expr}{r:M.AM} (ha:ME X Θ e ma) (hr:MA X Θ es r) (hs:z5 e=true:=by rfl):MA X Θ (e::es) (M.zD ma r) :=
 (zCL ha hr (jv hs)).imp fun σ H Q ⟨ρ,σ',S,st,rp,h⟩=>⟨ρ,σ',S,st,rp,zF.bind h fun ρ1 H1 x X1 S1 p1 l1 rp1 rx h1=>⟨ρ1,σ',S1,st.mono p1 l1,rp1,
  zF.bind h1 fun ρ2 H2 ys Ys S2 p2 l2 rp2 ry h2=>h2.here rp2 ⟨X1,Ys,rfl,rx.mono p2 l2,ry⟩⟩⟩
theorem zC {e:Expr}{es:List Expr}{r:M.AM} (ha:WE X Θ e ma) (hr:WA X Θ es r) (hs:z5 e=true:=by rfl):WA X Θ (e::es) (M.zD ma r):=by with_unfolding_all exact zEp (e:=e) (es:=es) (r:=r) ha hr hs
theorem zKF {es:List Expr}{r:M.AM}{x1} (hr:MA X Θ es r):ME X Θ (.Tuple es x1 pos) (M.Zv r):=(zKQ hr).imp fun σ H Q ⟨ρ,σ',S,st,rp,h⟩=>⟨ρ,σ',S,st,rp,zF.bind h fun ρ1 H1 xs Xs S1 p1 l1 rp1 rx h1=>by
 by_cases hl:xs.length <= M.SZ
 ·rw[if_pos hl] at h1
  rw[yc,rx.length] at hl
  exact⟨hl,fun p hp=>h1 ρ1 _ _ (List.prefix_refl _) (Le.new hp _) (rp1.aside hp _) ⟨p,Xs,rfl,SqT.of jX,rx.mono (List.prefix_refl _) (Le.new hp _)⟩⟩
 ·rw[if_neg hl] at h1
  exact h1.elim⟩
theorem yK {es:List Expr}{r:M.AM}{x1} (hr:WA X Θ es r):WE X Θ (.Tuple es x1 pos) (M.Zv r):=by with_unfolding_all exact zKF (es:=es) (r:=r) (x1:=x1) hr
theorem zF.alloc {K:PySem.W.Frag}{ρ:List Addr}{H:Hp}{S:M.S}{ds:List M.D}{xs:List V}{Q:VK} (h:zF K Θ (zK K) ρ H (M.alloc (.lst ds) S) Q) (rp:zW K Θ ρ S H) (r:zL K ρ H ds xs) {p:Addr} (hp:H p=none):Q (.ref p) (upd H p (.lst xs)) :=
 h (ρ++[p]) _ _ (List.prefix_append _ _) (Le.new hp _) (rp.alloc hp ⟨xs,jX,r.mono (List.prefix_append _ _) (Le.new hp _)⟩) ⟨p,rfl,by rw[<- rp.len];simp⟩
theorem zKy {es:List Expr}{r:M.AM} (hr:MA X Θ es r):ME X Θ (.List es pos) (M.yE r):=(zKs hr).imp fun σ H Q ⟨ρ,σ',S,st,rp,h⟩=>⟨ρ,σ',S,st,rp,zF.bind h fun ρ1 H1 xs Xs S1 p1 l1 rp1 rx h1=>by
 by_cases hl:xs.length <= M.SZ
 ·rw[if_pos hl] at h1
  rw[yc,rx.length] at hl
  exact⟨hl,fun p hp=>h1.alloc rp1 rx hp⟩
 ·rw[if_neg hl] at h1
  exact h1.elim⟩
theorem qW {es:List Expr}{r:M.AM} (hr:WA X Θ es r):WE X Θ (.List es pos) (M.yE r):=by with_unfolding_all exact zKy (es:=es) (r:=r) hr
theorem zJh:MO X Θ none M.zFP:=zJZ.imp fun σ H Q ⟨ρ,σ',S,st,rp,h⟩=>zF.here (b:=none) h rp rfl
theorem zGY:WO X Θ none M.zFP:=by with_unfolding_all exact zJh
theorem zJB (ha:ME X Θ a ma):MO X Θ (some a) (M.zFB ma):=(zJS ha).imp fun σ H Q ⟨ρ,σ',S,st,rp,h⟩=>⟨ρ,σ',S,st,rp,zF.bind h fun ρ1 H1 x X1 S1 p1 l1 rp1 rx h1=>by
 cases x with
 | int i=>cases rx;exact⟨i,rfl,zF.here (b:=some i) h1 rp1 rfl⟩
 | _=>exact h1.elim⟩
theorem zFz (ha:WE X Θ a ma):WO X Θ (some a) (M.zFB ma):=by with_unfolding_all exact zJB ha
theorem zMA {lo hi:Option Expr}{p2:Pos}{ml mh:M.OM}{r:V->Option Int->Option Int->Hp->VK->Prop} (hr:SlR X r) (ad:∀ ρ H S x X1 l u Q,zW X.K Θ ρ S H->zK X.K ρ H x X1->zF X.K Θ (zK X.K) ρ H (M.slD x l u S) Q->r X1 l u H Q) (ha:ME X Θ a ma) (hl:MO X Θ lo ml) (hh:MO X Θ hi mh) :
  ME X Θ (.Subscript a (.Slice lo hi none p2) pos) (M.eSl ma ml mh):=(zIO hr ha hl hh).imp fun σ H Q ⟨ρ,σ',S,st,rp,h⟩=>⟨ρ,σ',S,st,rp,zF.bind h fun ρ1 H1 x X1 S1 p1 l1 rp1 rx h1=>⟨ρ1,σ',S1,st.mono p1 l1,rp1,
  zF.bind h1 fun ρ2 H2 l l' S2 p2 l2 rp2 e2 h2=>by
   cases e2
   exact⟨ρ2,σ',S2,st.mono (p1.trans p2) (l1.trans l2),rp2,zF.bind h2 fun ρ3 H3 u u' S3 p3 l3 rp3 e3 h3=>by
    cases e3
    exact ad ρ3 H3 S3 x X1 l u Q rp3 (rx.mono (p2.trans p3) (l2.trans l3)) h3⟩⟩⟩
theorem zJc {lo hi:Option Expr}{p2:Pos}{ml mh:M.OM}{r:V->Option Int->Option Int->Hp->VK->Prop} (hr:SlR X r) (ad:∀ ρ H S x X1 l u Q,zW X.K Θ ρ S H->zK X.K ρ H x X1->zF X.K Θ (zK X.K) ρ H (M.slD x l u S) Q->r X1 l u H Q) (ha:WE X Θ a ma) (hl:WO X Θ lo ml) (hh:WO X Θ hi mh) :
  WE X Θ (.Subscript a (.Slice lo hi none p2) pos) (M.eSl ma ml mh):=by with_unfolding_all exact zMA (lo:=lo) (hi:=hi) (p2:=p2) (ml:=ml) (mh:=mh) (r:=r) hr ad ha hl hh
theorem zHz {x:Str}{p:Pos}{id:String}{e:Expr}{es:List Expr}{f:M.F}{r:List V->Hp->VK->Prop}{m:M.AM} (hc:jh X (.builtin id) r) (ad:AdN X.K Θ f r) (hg:Gl X x) (hm:X.mg x=none) (hv:bootBuiltins x=some (.builtin id)) (ha:MA X Θ (e::es) m)
  (hn:x ≠ "__name__" := by decide) (hdb:(x == ("__debug__" : Str))=false:=by decide) (he:z5 e=true:=by rfl) (hpl:es.all z5=true:=by rfl) :
  ME X Θ (.Call (.Name x p) (e::es) [] pos) (M.zR f m):=(zDz hc hg hm hv ha hn hdb (jv he) (ZK hpl)).imp fun σ H Q ⟨ρ,σ',S,st,rp,h⟩=>⟨ρ,σ',S,st,rp,zF.bind h fun ρ1 H1 xs Xs S1 p1 l1 rp1 rx h1=>ad ρ1 H1 S1 xs Xs Q rp1 rx h1⟩
theorem qo {x:Str}{p:Pos}{id:String}{e:Expr}{es:List Expr}{f:M.F}{r:List V->Hp->VK->Prop}{m:M.AM} (hc:jh X (.builtin id) r) (ad:AdN X.K Θ f r) (hg:Gl X x) (hm:X.mg x=none) (hv:bootBuiltins x=some (.builtin id)) (ha:WA X Θ (e::es) m)
  (hn:x ≠ "__name__" := by decide) (hdb:(x == ("__debug__" : Str))=false:=by decide) (he:z5 e=true:=by rfl) (hpl:es.all z5=true:=by rfl) :
  WE X Θ (.Call (.Name x p) (e::es) [] pos) (M.zR f m):=by with_unfolding_all exact zHz (x:=x) (p:=p) (id:=id) (e:=e) (es:=es) (f:=f) (r:=r) (m:=m) hc ad hg hm hv ha hn hdb he hpl
theorem zGQ {x:Str}{p:Pos}{T:String}{e:Expr}{es:List Expr}{f:M.F}{r:List V->Hp->VK->Prop}{m:M.AM} (hc:jh X (.type T) r) (ad:AdN X.K Θ f r) (hg:Gl X x) (hm:X.mg x=none) (hv:bootBuiltins x=some (.type T)) (ha:MA X Θ (e::es) m)
  (hn:x ≠ "__name__" := by decide) (hdb:(x == ("__debug__" : Str))=false:=by decide) (he:z5 e=true:=by rfl) (hpl:es.all z5=true:=by rfl) :
  ME X Θ (.Call (.Name x p) (e::es) [] pos) (M.zR f m):=(zGy hc hg hm hv ha hn hdb (jv he) (ZK hpl)).imp fun σ H Q ⟨ρ,σ',S,st,rp,h⟩=>⟨ρ,σ',S,st,rp,zF.bind h fun ρ1 H1 xs Xs S1 p1 l1 rp1 rx h1=>ad ρ1 H1 S1 xs Xs Q rp1 rx h1⟩
theorem qb {x:Str}{p:Pos}{T:String}{e:Expr}{es:List Expr}{f:M.F}{r:List V->Hp->VK->Prop}{m:M.AM} (hc:jh X (.type T) r) (ad:AdN X.K Θ f r) (hg:Gl X x) (hm:X.mg x=none) (hv:bootBuiltins x=some (.type T)) (ha:WA X Θ (e::es) m)
  (hn:x ≠ "__name__" := by decide) (hdb:(x == ("__debug__" : Str))=false:=by decide) (he:z5 e=true:=by rfl) (hpl:es.all z5=true:=by rfl) :
  WE X Θ (.Call (.Name x p) (e::es) [] pos) (M.zR f m):=by with_unfolding_all exact zGQ (x:=x) (p:=p) (T:=T) (e:=e) (es:=es) (f:=f) (r:=r) (m:=m) hc ad hg hm hv ha hn hdb he hpl
theorem zI8 {K:PySem.W.Frag}{ρ:List Addr}{H:Hp}{S:M.S}{k:M.Kd}{x:M.D}{v:V} (rp:zW K Θ ρ S H) (r:zK K ρ H x v) (h:M.JL k x S=true):tyV K (qL k) v H:=by
 cases x with
 | str z=>obtain⟨rfl,_⟩:=r;cases k<;>first | rfl | cases h
 | ro ds =>
  obtain⟨a,xs,rfl,q,_⟩:=r
  cases k<;>first | exact .inl ⟨rfl,xs,q.sq⟩ | cases h
 | ref i =>
  obtain⟨a,rfl,e⟩:=r
  cases q:S[i]? with
  | none=>simp[M.JL,q] at h
  | some o =>
   cases o with
   | lst xs =>
    obtain⟨b,e1,zs,e2,_⟩:=rp.obj _ _ q
    rw[e] at e1;cases e1
    cases k<;>first | exact .inl ⟨rfl,zs,SqL.of e2⟩ | simp[M.JL,q] at h
   | dct xs =>
    obtain⟨b,e1,zs,e2,_⟩:=rp.obj _ _ q
    rw[e] at e1;cases e1
    cases k<;>first | exact .inr (.inr (.inl ⟨rfl,.inl ⟨zs,e2⟩⟩)) | simp[M.JL,q] at h
   | fdc _=>simp[M.JL,q] at h
   | dtt xs =>
    obtain⟨b,e1,zs,e2,_⟩:=rp.obj _ _ q
    rw[e] at e1;cases e1
    cases k<;>first | exact .inr (.inr (.inl ⟨rfl,.inr (.inr ⟨_,e2,fun h z=>let ⟨_,_,_,o,_,_,z1,z2,_⟩:=z;⟨o,z1,z2⟩⟩)⟩)) | simp[M.JL,q] at h
   | ins c fs=>simp[M.JL,q] at h
 | _=>cases h
theorem zMZ {k:M.Kd}{T:String}{f:M.D->M.F}{r:V->List V->Hp->VK->Prop}{o e:Expr}{es:List Expr}{mo:M.EM}{m:M.AM}{name:Str}{apos cpos:Pos}{id:String} (pa:PlainAttrs T) (slot:Slot T name id) (hty:typeOf (.builtin id)=pure (.type "method_descriptor")) (hm:MtR X id r) (ad:AdM X.K Θ f r) (hT:T=qL k) (ho:ME X Θ o mo) (ha:MA X Θ (e::es) m)
  (hbase:attributeBase o name X.env (eval o X.env)=eval o X.env:=by rfl)
  (hfew:(e::es).length < 30:=by exact Nat.le_of_ble_eq_true rfl) (hline:(apos.endLine == cpos.line)=true:=by rfl) (hs:z5 e=true:=by rfl) (hplain:es.all z5=true:=by rfl) :
  ME X Θ (.Call (.Attribute o name apos) (e::es) [] cpos) (M.eM k f mo m):=(zIX pa slot hty hm ho ha hbase (zDU (by rw[List.all_cons,hs,hplain];rfl) hfew) hline (jv hs) (ZK hplain)).imp fun σ H Q ⟨ρ,σ',S,st,rp,h⟩=>⟨ρ,σ',S,st,rp,zF.bind h fun ρ1 H1 x X1 S1 p1 l1 rp1 rx h1=>by
 cases ht:M.JL k x S1 with
 | false=>rw[ht] at h1;exact h1.elim
 | true =>
  rw[ht] at h1
  exact⟨hT ▸ zI8 rp1 rx ht,ρ1,σ',S1,st.mono p1 l1,rp1,zF.bind h1 fun ρ2 H2 xs Xs S2 p2 l2 rp2 rxs h2=>ad ρ2 H2 S2 x xs X1 Xs Q rp2 (rx.mono p2 l2) rxs h2⟩⟩
theorem yi {k:M.Kd}{T:String}{f:M.D->M.F}{r:V->List V->Hp->VK->Prop}{o e:Expr}{es:List Expr}{mo:M.EM}{m:M.AM}{name:Str}{apos cpos:Pos}{id:String} (pa:PlainAttrs T) (slot:Slot T name id) (hty:typeOf (.builtin id)=pure (.type "method_descriptor")) (hm:MtR X id r) (ad:AdM X.K Θ f r) (hT:T=qL k) (ho:WE X Θ o mo) (ha:WA X Θ (e::es) m)
  (hbase:attributeBase o name X.env (eval o X.env)=eval o X.env:=by rfl)
  (hfew:(e::es).length < 30:=by exact Nat.le_of_ble_eq_true rfl) (hline:(apos.endLine == cpos.line)=true:=by rfl) (hs:z5 e=true:=by rfl) (hplain:es.all z5=true:=by rfl) :
  WE X Θ (.Call (.Attribute o name apos) (e::es) [] cpos) (M.eM k f mo m):=by with_unfolding_all exact zMZ (k:=k) (T:=T) (f:=f) (r:=r) (o:=o) (e:=e) (es:=es) (mo:=mo) (m:=m) (name:=name) (apos:=apos) (cpos:=cpos) (id:=id) pa slot hty hm ad hT ho ha hbase hfew hline hs hplain
end
end L2
namespace L2
open PySem PySem.Spec PyProof.Rows
noncomputable def zy (K:PySem.W.Frag) (Θ:Tab) (ρ:List Addr) (H:Hp):M.RS->JM->Prop
 | .nx σ1 S1,D=>∀ ρ' H' σ,ρ <+: ρ'->Le H H'->zW K Θ ρ' S1 H'->jc K ρ' H' σ1 σ->D.nx σ H'
 | .rt d S1,D=>∀ ρ' H' v,ρ <+: ρ'->Le H H'->zW K Θ ρ' S1 H'->zK K ρ' H' d v->D.rt v H'
 | .bk σ1 S1,D=>∀ ρ' H' σ,ρ <+: ρ'->Le H H'->zW K Θ ρ' S1 H'->jc K ρ' H' σ1 σ->D.bk σ H'
 | .ct σ1 S1,D=>∀ ρ' H' σ,ρ <+: ρ'->Le H H'->zW K Θ ρ' S1 H'->jc K ρ' H' σ1 σ->D.ct σ H'
 | .exc _ _ _,_=>False
 | .no,_=>False
noncomputable def RdS (K:PySem.W.Frag) (Θ:Tab) (m:M.SM):TS:=fun D σ H=>∃ ρ σ' S,jc K ρ H σ' σ/\zW K Θ ρ S H/\zy K Θ ρ H (m σ' S) D
noncomputable abbrev MS (X:Cx) (Θ:Tab) (st:Stmt) (m:M.SM):Prop:=PS X st (RdS X.K Θ m)
@[irreducible] noncomputable def WS (X:Cx) (Θ:Tab) (st:Stmt) (m:M.SM):Prop:=MS X Θ st m
noncomputable abbrev MSs (X:Cx) (Θ:Tab) (st:List Stmt) (m:M.SM):Prop:=PSs X st (RdS X.K Θ m)
@[irreducible] noncomputable def WSs (X:Cx) (Θ:Tab) (st:List Stmt) (m:M.SM):Prop:=MSs X Θ st m
theorem PS.imp {X:Cx}{e:Stmt}{t t':TS} (h:PS X e t) (i:∀ D σ H,t' D σ H->t D σ H):PS X e t':=fun pins s σ H D I q=>h pins s σ H D I (i D σ H q)
theorem PSs.imp {X:Cx}{e:List Stmt}{t t':TS} (h:PSs X e t) (i:∀ D σ H,t' D σ H->t D σ H):PSs X e t':=fun pins s σ H D I q=>h pins s σ H D I (i D σ H q)
section
variable {K:PySem.W.Frag}{Θ:Tab}{ρ ρ':List Addr}{H H':Hp}{S:M.S}{α β:Type}{Rl:List Addr->Hp->α->β->Prop}{Q:β->Hp->Prop}{D D':JM}
theorem zy.weak {r:M.RS} (h:zy K Θ ρ H r D) (hρ:ρ <+: ρ') (le:Le H H'):zy K Θ ρ' H' r D:=by
 cases r with
 | nx a s=>exact fun ρ2 H2 b p l=>h ρ2 H2 b (hρ.trans p) (le.trans l)
 | rt a s=>exact fun ρ2 H2 b p l=>h ρ2 H2 b (hρ.trans p) (le.trans l)
 | bk a s=>exact fun ρ2 H2 b p l=>h ρ2 H2 b (hρ.trans p) (le.trans l)
 | ct a s=>exact fun ρ2 H2 b p l=>h ρ2 H2 b (hρ.trans p) (le.trans l)
 | exc e a s=>exact h
 | no=>exact h
theorem zy.stm {r:M.R α}{σ:M.St}{f:α->M.S->M.RS} (h:zy K Θ ρ H (r.stm σ f) D)
  (k:∀ ρ' H' a b S',ρ <+: ρ'->Le H H'->zW K Θ ρ' S' H'->Rl ρ' H' a b->zy K Θ ρ' H' (f a S') D->Q b H'):zF K Θ Rl ρ H r Q:=by
 cases r with
 | ok a s=>exact fun ρ2 H2 b p l rp rl=>k ρ2 H2 a b s p l rp rl (zy.weak h p l)
 | exc e s=>exact h
 | no=>exact h
theorem zy.nx {σ1:M.St}{σ:St} (h:zy K Θ ρ H (.nx σ1 S) D) (rp:zW K Θ ρ S H) (st:jc K ρ H σ1 σ):D.nx σ H:=h ρ H σ (List.prefix_refl _) (Le.refl _) rp st
theorem zy.rt {d:M.D}{v:V} (h:zy K Θ ρ H (.rt d S) D) (rp:zW K Θ ρ S H) (r:zK K ρ H d v):D.rt v H:=h ρ H v (List.prefix_refl _) (Le.refl _) rp r
end
section
variable {X:Cx}{Θ:Tab}{e:Expr}{pos:Pos}{m:M.EM}{st:Stmt}{qE:List Stmt}{ms mr:M.SM}
theorem zIv:MSs X Θ [] M.jo:=zI9.imp fun D σ H ⟨ρ,σ',S,st,rp,h⟩=>h.nx rp st
theorem z3:WSs X Θ [] M.jo:=by with_unfolding_all exact zIv
theorem zI3 (h:MS X Θ st ms):MSs X Θ [st] ms:=zJl h
theorem zO (h:WS X Θ st ms):WSs X Θ [st] ms:=by with_unfolding_all exact zI3 h
theorem zHw (h1:MS X Θ st ms) (h2:MSs X Θ qE mr):MSs X Θ (st::qE) (M.zU ms mr):=(zH9 h1 h2).imp fun D σ H ⟨ρ,σ',S,st,rp,h⟩=>⟨ρ,σ',S,st,rp,by
 have h':zy X.K Θ ρ H ((ms σ' S).then mr) D:=h
 revert h'
 cases ms σ' S with
 | nx a s=>exact fun h' ρ2 H2 σ2 p l rp2 st2=>⟨ρ2,a,s,st2,rp2,zy.weak h' p l⟩
 | rt a s=>exact fun h'=>h'
 | bk a s=>exact fun h'=>h'
 | ct a s=>exact fun h'=>h'
 | exc e a s=>exact fun h'=>h'
 | no=>exact fun h'=>h'⟩
theorem zH (h1:WS X Θ st ms) (h2:WSs X Θ qE mr):WSs X Θ (st::qE) (M.zU ms mr):=by with_unfolding_all exact zHw h1 h2
theorem zJR (he:ME X Θ e m) (hs:swapsWith e none pos.line X.env=pure false:=by rfl):MS X Θ (.Expr e pos) (M.jV m):=(zJk he hs).imp fun D σ H ⟨ρ,σ',S,st,rp,h⟩=>⟨ρ,σ',S,st,rp,zy.stm h fun ρ1 H1 x X1 S1 p1 l1 rp1 rx h1=>h1.nx rp1 (st.mono p1 l1)⟩
theorem jw (he:WE X Θ e m) (hs:swapsWith e none pos.line X.env=pure false:=by rfl):WS X Θ (.Expr e pos) (M.jV m):=by with_unfolding_all exact zJR he hs
theorem zJ2 (he:ME X Θ e m):MS X Θ (.Return (some e) pos) (M.jZ m):=(zKM he).imp fun D σ H ⟨ρ,σ',S,st,rp,h⟩=>⟨ρ,σ',S,st,rp,zy.stm h fun ρ1 H1 x X1 S1 p1 l1 rp1 rx h1=>h1.rt rp1 rx⟩
theorem zo (he:WE X Θ e m):WS X Θ (.Return (some e) pos) (M.jZ m):=by with_unfolding_all exact zJ2 he
theorem zKH {i:Nat}{x:Str}{pos':Pos} (hN:X.N.Nodup) (hi:X.N[i]? = some x) (hx:Loc X.env.scope x) (he:ME X Θ e m) (hs:swapsWith e (some (.Name x pos')) pos.line X.env=pure false:=by kernel_rfl) (hf:X.fn x=true\/X.env.scope.names.lookup x=some .local:=by first | exact .inl rfl | exact .inr rfl | assumption) :
  MS X Θ (.Assign [.Name x pos'] e pos) (M.jY i m):=(zKE hN hi hx he hs hf).imp fun D σ H ⟨ρ,σ',S,st,rp,h⟩=>⟨ρ,σ',S,st,rp,zy.stm h fun ρ1 H1 x X1 S1 p1 l1 rp1 rx h1=>h1.nx rp1 ((st.mono p1 l1).set rx i)⟩
theorem jF {i:Nat}{x:Str}{pos':Pos} (hN:X.N.Nodup) (hi:X.N[i]? = some x) (hx:Loc X.env.scope x) (he:WE X Θ e m) (hs:swapsWith e (some (.Name x pos')) pos.line X.env=pure false:=by kernel_rfl) (hf:X.fn x=true\/X.env.scope.names.lookup x=some .local:=by first | exact .inl rfl | exact .inr rfl | assumption) :
  WS X Θ (.Assign [.Name x pos'] e pos) (M.jY i m):=by with_unfolding_all exact zKH (i:=i) (x:=x) (pos':=pos') hN hi hx he hs hf
theorem zLt {c:Expr}{a b:List Stmt}{tc:M.TM}{ma mb:M.SM} (hc:MT X Θ c tc) (ha:MSs X Θ a ma) (hb:MSs X Θ b mb):MS X Θ (.If c a b pos) (M.sIf tc ma mb):=(zLi hc ha hb).imp fun D σ H ⟨ρ,σ',S,st,rp,h⟩=>⟨ρ,σ',S,st,rp,zy.stm h fun ρ1 H1 k k' S1 p1 l1 rp1 ek h1=>by
 cases ek
 cases k with
 | true=>exact zB0 ⟨ρ1,σ',S1,st.mono p1 l1,rp1,h1⟩
 | false=>exact zCP ⟨ρ1,σ',S1,st.mono p1 l1,rp1,h1⟩⟩
theorem jQ {c:Expr}{a b:List Stmt}{tc:M.TM}{ma mb:M.SM} (hc:WT X Θ c tc) (ha:WSs X Θ a ma) (hb:WSs X Θ b mb):WS X Θ (.If c a b pos) (M.sIf tc ma mb):=by with_unfolding_all exact zLt (c:=c) (a:=a) (b:=b) (tc:=tc) (ma:=ma) (mb:=mb) hc ha hb
theorem zIG:MS X Θ st (fun _ _=>.no):=zHl.imp fun D σ H ⟨ρ,σ',S,st,rp,h⟩=>h.elim
end
noncomputable def RdG (K:PySem.W.Frag) (Θ:Tab) (js:List Nat) (g:M.GM):TG:=fun v σ H Q=>∃ ρ σ' S d,jc K ρ H σ' σ/\zW K Θ ρ S H/\zK K ρ H d v/\∃ σ1,g d σ'=some σ1 /\
 ∀ H' σ2,Le H H'->zW K Θ ρ S H'->jc K ρ H' σ1 σ2->σ2.length=σ.length->(∀ j,j∉js->σ2[j]? = σ[j]?)->Q σ2 H'
noncomputable abbrev MG (X:Cx) (Θ:Tab) (js:List Nat) (tg:Expr) (g:M.GM):Prop:=PG X tg (RdG X.K Θ js g)
@[irreducible] noncomputable def WG (X:Cx) (Θ:Tab) (js:List Nat) (tg:Expr) (g:M.GM):Prop:=MG X Θ js tg g
theorem PG.imp {X:Cx}{e:Expr}{t t':TG} (h:PG X e t) (i:∀ v σ H Q,t' v σ H Q->t v σ H Q):PG X e t':=fun pins s σ H v u Q I r q=>h pins s σ H v u Q I r (i v σ H Q q)
theorem zIw {X:Cx}{Θ:Tab}{pos:Pos}{i:Nat}{x:Str} (hN:X.N.Nodup) (hi:X.N[i]? = some x) (hx:Loc X.env.scope x) (hf:X.fn x=true\/X.env.scope.names.lookup x=some .local:=by first | exact .inl rfl | exact .inr rfl | assumption) :
  MG X Θ [i] (.Name x pos) (M.z7 i):=(zJq hN hi hx hf).imp fun v σ H Q ⟨ρ,σ',S,d,st,rp,rv,σ1,e,h⟩=>by
 cases e
 exact h H _ (Le.refl _) rp (st.set rv i) (by rw[List.length_set]) fun j hj=>List.getElem?_set_ne (fun z=>hj (by rw[z];simp))
theorem qa {X:Cx}{Θ:Tab}{pos:Pos}{i:Nat}{x:Str} (hN:X.N.Nodup) (hi:X.N[i]? = some x) (hx:Loc X.env.scope x) (hf:X.fn x=true\/X.env.scope.names.lookup x=some .local:=by first | exact .inl rfl | exact .inr rfl | assumption) :
  WG X Θ [i] (.Name x pos) (M.z7 i):=by with_unfolding_all exact zIw (X:=X) (Θ:=Θ) (pos:=pos) (i:=i) (x:=x) hN hi hx hf
structure ItR (K:PySem.W.Frag) (Θ:Tab) (ρ:List Addr) (H:Hp) (J:It) (xs:List M.D) (g:M.Gd):Prop where
 go:∀ (i:Nat) ρ' S' H',ρ <+: ρ'->Le H H'->zW K Θ ρ' S' H'->M.zk g S'=true->i < xs.length->J.go i H'
 yld:∀ (i:Nat) ρ' S' H' v H2,ρ <+: ρ'->Le H H'->zW K Θ ρ' S' H'->M.zk g S'=true->i < xs.length->J.yld i H' v H2->∃ d,xs[i]? = some d/\zK K ρ' H2 d v/\Le H' H2/\zW K Θ ρ' S' H2
 stop:∀ ρ' S' H',ρ <+: ρ'->Le H H'->zW K Θ ρ' S' H'->M.zk g S'=true->J.stop xs.length H'
noncomputable def RdI (K:PySem.W.Frag) (Θ:Tab) (m:M.IM):TI:=fun σ H R=>∃ ρ σ' S,jc K ρ H σ' σ/\zW K Θ ρ S H /\
 zF K Θ (fun ρ' H' (p:List M.D×M.Gd) (J:It)=>ItR K Θ ρ' H' J p.1 p.2) ρ H ((m σ' S).bind fun p s=>if M.zk p.2 s then .ok p s else .no) R
noncomputable abbrev MI (X:Cx) (Θ:Tab) (tg iter:Expr) (m:M.IM):Prop:=PI X tg iter (RdI X.K Θ m)
@[irreducible] noncomputable def WI (X:Cx) (Θ:Tab) (tg iter:Expr) (m:M.IM):Prop:=MI X Θ tg iter m
theorem PI.imp {X:Cx}{tg e:Expr}{t t':TI} (h:PI X tg e t) (i:∀ σ H R,t' σ H R->t σ H R):PI X tg e t':=fun pins s σ H R I q=>h pins s σ H R I (i σ H R q)
theorem PI.or {X:Cx}{tg e:Expr}{t t':TI} (h:PI X tg e t) (h':PI X tg e t'):PI X tg e (fun σ H R=>t σ H R\/t' σ H R):=fun pins s σ H R I q=>by
 rcases q with q | q
 ·exact h pins s σ H R I q
 ·exact h' pins s σ H R I q
section
variable {X:Cx}{Θ:Tab}{tg e:Expr}{m:M.EM}
theorem zHh {K:PySem.W.Frag}{ρ:List Addr}{H:Hp}{i:Nat}{a:Addr}{ds:List M.D} (ha:ρ[i]? = some a):ItR K Θ ρ H (Itl K a) ds [(i,.lst ds)]:=by
 have key:∀ {ρ':List Addr}{S':M.S}{H':Hp},ρ <+: ρ'->zW K Θ ρ' S' H'->M.zk [(i,.lst ds)] S'=true->∃ zs,H' a=some (.lst zs)/\zL K ρ' H' ds zs:=fun {ρ' S' H'} p rp g=>by
  have g':S'[i]? = some (M.O.lst ds):=by simpa [M.zk] using g
  obtain⟨b,e1,zs,e2,r⟩:=rp.obj i _ g'
  rw[Q0 p ha] at e1;cases e1
  exact⟨zs,e2,r⟩
 refine⟨fun j ρ' S' H' p l rp g hj=>?_,fun j ρ' S' H' v H2 p l rp g hj y=>?_,fun ρ' S' H' p l rp g=>?_⟩
 ·obtain⟨zs,e,r⟩:=key p rp g
  obtain⟨v,e1,_⟩:=r.get (i:=j) (d:=ds[j]) (by simp[hj])
  exact⟨zs,v,SqL.of e,e1⟩
 ·obtain⟨zs,e,r⟩:=key p rp g
  obtain⟨v',e1,rv⟩:=r.get (i:=j) (d:=ds[j]) (by simp[hj])
  obtain⟨rfl,y2⟩:=y
  have y3:=y2 zs (SqL.of e)
  rw[e1] at y3;cases y3
  exact⟨ds[j],by simp[hj],rv,Le.refl _,rp⟩
 ·obtain⟨zs,e,r⟩:=key p rp g
  exact⟨zs,SqL.of e,Nat.le_of_eq r.length.symm⟩
theorem zK8 {K:PySem.W.Frag}{ρ:List Addr}{H:Hp}{a:Addr}{ds:List M.D}{xs:List V} (hq:zBw K H a xs) (r:zL K ρ H ds xs):ItR K Θ ρ H (Itl K a) ds []:=by
 refine⟨fun j ρ' S' H' p l rp g hj=>?_,fun j ρ' S' H' v H2 p l rp g hj y=>?_,fun ρ' S' H' p l rp g=>?_⟩
 ·obtain⟨v,e1,_⟩:=r.get (i:=j) (d:=ds[j]) (by simp[hj])
  exact⟨xs,v,(l.rol hq).sq,e1⟩
 ·obtain⟨v',e1,rv⟩:=(r.mono p l).get (i:=j) (d:=ds[j]) (by simp[hj])
  obtain⟨rfl,y2⟩:=y
  have y3:=y2 xs (l.rol hq).sq
  rw[e1] at y3;cases y3
  exact⟨ds[j],by simp[hj],rv,Le.refl _,rp⟩
 ·exact⟨xs,(l.rol hq).sq,Nat.le_of_eq r.length.symm⟩
theorem zIq {K:PySem.W.Frag}{ρ:List Addr}{H:Hp}{a:Addr}{ds:List M.D}{xs:List V} (hq:SqT K H a xs) (r:zL K ρ H ds xs):ItR K Θ ρ H (Itt K a) ds []:=by
 refine⟨fun j ρ' S' H' p l rp g hj=>?_,fun j ρ' S' H' v H2 p l rp g hj y=>?_,fun ρ' S' H' p l rp g=>?_⟩
 ·obtain⟨v,e1,_⟩:=r.get (i:=j) (d:=ds[j]) (by simp[hj])
  exact⟨xs,v,l.sqT hq,e1⟩
 ·obtain⟨v',e1,rv⟩:=(r.mono p l).get (i:=j) (d:=ds[j]) (by simp[hj])
  obtain⟨rfl,y2⟩:=y
  have y3:=y2 xs (l.sqT hq)
  rw[e1] at y3;cases y3
  exact⟨ds[j],by simp[hj],rv,Le.refl _,rp⟩
 ·exact⟨xs,l.sqT hq,Nat.le_of_eq r.length.symm⟩
theorem zI4 {K:PySem.W.Frag}{ρ:List Addr}{H:Hp}{x:M.T} (ok:okT x):ItR K Θ ρ H (Its (ofT x)) (x.map fun c=>.str [c]) []:=by
 refine⟨fun j ρ' S' H' p l rp g hj=>?_,fun j ρ' S' H' v H2 p l rp g hj y=>?_,fun ρ' S' H' p l rp g=>?_⟩
 ·rw[List.length_map] at hj
  show j < (ofT x).length
  rw[jq];exact hj
 ·obtain⟨rfl,c,hc,rfl⟩:=y
  have hc':x[j]? = some c:=by simpa [ofT] using hc
  exact⟨.str [c],by rw[List.getElem?_map,hc'];rfl,⟨rfl,Q9 ok fun d hd=>by rw[List.mem_singleton.mp hd];exact List.mem_of_getElem? hc'⟩,Le.refl _,rp⟩
 ·show (ofT x).length <= _
  rw[jq,List.length_map];exact Nat.le_refl _
theorem zGx {K:PySem.W.Frag}{ρ:List Addr}{H:Hp}{lo hi:Int}:ItR K Θ ρ H (Itr lo (hi - lo).toNat) (M.j3 lo hi) []:=by
 refine⟨fun j ρ' S' H' p l rp g hj=>?_,fun j ρ' S' H' v H2 p l rp g hj y=>?_,fun ρ' S' H' p l rp g=>?_⟩
 ·show j < _
  simpa [M.j3] using hj
 ·obtain⟨rfl,rfl⟩:=y
  have hj':j < (hi - lo).toNat:=by simpa [M.j3] using hj
  exact⟨.int (lo+j),by unfold M.j3;rw[List.getElem?_map,List.getElem?_range hj'];rfl,rfl,Le.refl _,rp⟩
 ·show _ <= _
  simp[M.j3]
theorem zMz (he:ME X Θ e m):MI X Θ tg e (M.iE m):=(PI.or (zJT he) (PI.or (zKD he) (zKp he))).imp fun σ H R ⟨ρ,σ',S,st,rp,h⟩=>by
 have h':zF X.K Θ _ ρ H (((m σ' S).bind M.itD).bind fun p s=>if M.zk p.2 s then .ok p s else .no) R:=h
 clear h
 cases hm:m σ' S with
 | no=>rw[hm] at h';exact h'.elim
 | exc a s=>rw[hm] at h';exact h'.elim
 | ok d S1 =>
  rw[hm] at h'
  have go:∀ {Q:VK},(∀ ρ1 H1 v,ρ <+: ρ1->Le H H1->zW X.K Θ ρ1 S1 H1->zK X.K ρ1 H1 d v->Q v H1)->RdE X.K Θ m σ H Q:=fun q=>⟨ρ,σ',S,st,rp,by rw[hm];exact q⟩
  cases d with
  | str x =>
   refine .inr (.inr (go fun ρ1 H1 v p l rp1 rv=>?_))
   have h2:zF X.K Θ _ ρ H ((if x.length <= M.SZ then .ok (x.map fun c=>M.D.str [c],[]) S1 else M.R.no).bind fun p s=>if M.zk p.2 s then .ok p s else .no) R:=h'
   by_cases hl:x.length <= M.SZ
   ·rw[if_pos hl] at h2
    exact⟨ofT x,rv.1,h2 ρ1 H1 _ p l rp1 (zI4 rv.2)⟩
   ·rw[if_neg hl] at h2
    exact h2.elim
  | tup ds =>
   refine .inr (.inl (go fun ρ1 H1 v p l rp1 rv=>?_))
   obtain⟨a,xs,rfl,hq,r⟩:=rv
   exact⟨a,rfl,⟨xs,hq⟩,h' ρ1 H1 _ p l rp1 (zIq hq r)⟩
  | ro ds =>
   refine .inl (go fun ρ1 H1 v p l rp1 rv=>?_)
   obtain⟨a,xs,rfl,hq,r⟩:=rv
   exact⟨a,rfl,⟨xs,hq.sq⟩,h' ρ1 H1 _ p l rp1 (zK8 hq r)⟩
  | ref i =>
   have h2:zF X.K Θ _ ρ H ((match S1[i]? with
    | some (.lst xs)=>M.R.ok (xs,[(i,M.O.lst xs)]) S1
    | _=>.no).bind fun p s=>if M.zk p.2 s then .ok p s else .no) R:=h'
   cases q:S1[i]? with
   | none=>rw[q] at h2;exact h2.elim
   | some o =>
    rw[q] at h2
    cases o with
    | lst xs =>
     refine .inl (go fun ρ1 H1 v p l rp1 rv=>?_)
     obtain⟨a,rfl,e1⟩:=rv
     obtain⟨b,e2,zs,e3,r⟩:=rp1.obj i _ q
     rw[e1] at e2;cases e2
     have hg:M.zk [(i,M.O.lst xs)] S1=true:=by simp[M.zk,q]
     have h3:zF X.K Θ _ ρ H (if M.zk [(i,M.O.lst xs)] S1 then M.R.ok (xs,[(i,M.O.lst xs)]) S1 else .no) R:=h2
     rw[if_pos hg] at h3
     exact⟨a,rfl,⟨zs,SqL.of e3⟩,h3 ρ1 H1 _ p l rp1 (zHh e1)⟩
    | dct kvs=>exact h2.elim
    | fdc _=>exact h2.elim
    | dtt _=>exact h2.elim
    | ins c fs=>exact h2.elim
  | non=>exact h'.elim
  | bl b=>exact h'.elim
  | int b=>exact h'.elim
  | ty b=>exact h'.elim
theorem zD6 (he:WE X Θ e m):WI X Θ tg e (M.iE m):=by with_unfolding_all exact zMz he
theorem zFw {p pos:Pos} (hg:Gl X "range") (hm:X.mg "range" = none) (he:ME X Θ e m) (hs:z5 e=true:=by rfl):MI X Θ tg (.Call (.Name "range" p) [e] [] pos) (M.jg m) :=
 (zGg hg hm (zEp he zGD hs) (jv hs)).imp fun σ H R ⟨ρ,σ',S,st,rp,h⟩=>⟨ρ,σ',S,st,rp,by
  have h':zF X.K Θ _ ρ H (((m σ' S).bind fun x s=>match x with
   | .int j=>if j.natAbs < 4611686018427387904 then M.R.ok (M.j3 0 j,([]:M.Gd)) s else .no
   | _=>.no).bind fun p s=>if M.zk p.2 s then .ok p s else .no) R:=h
  show zF X.K Θ _ ρ H ((m σ' S).bind fun x s=>(M.R.ok [] s).bind fun xs s=>.ok (x::xs) s) _
  cases hm:m σ' S with
  | no=>rw[hm] at h';exact h'.elim
  | exc a s=>rw[hm] at h';exact h'.elim
  | ok d S1 =>
   rw[hm] at h'
   intro ρ1 H1 vs p l rp1 rv
   obtain⟨v,ys,rfl,rv,hy⟩:=rv
   cases hy
   cases d with
   | int j =>
    cases rv
    have h2:zF X.K Θ _ ρ H ((if j.natAbs < 4611686018427387904 then M.R.ok (M.j3 0 j,([]:M.Gd)) S1 else .no).bind fun p s=>if M.zk p.2 s then .ok p s else .no) R:=h'
    by_cases hj:j.natAbs < 4611686018427387904
    ·rw[if_pos hj] at h2
     refine⟨j,rfl,by omega,by omega,?_⟩
     have:=h2 ρ1 H1 _ p l rp1 (zGx (lo:=0) (hi:=j))
     rw[Int.sub_zero] at this
     exact this
    ·rw[if_neg hj] at h2
     exact h2.elim
   | _=>exact h'.elim⟩
theorem qu {p pos:Pos} (hg:Gl X "range") (hm:X.mg "range" = none) (he:WE X Θ e m) (hs:z5 e=true:=by rfl):WI X Θ tg (.Call (.Name "range" p) [e] [] pos) (M.jg m):=by with_unfolding_all exact zFw (p:=p) (pos:=pos) hg hm he hs
end
section
variable {X:Cx}{Θ:Tab}{pos:Pos}
theorem zHJ {c:Expr}{body:List Stmt}{tc:M.TM}{mb:M.SM} (hp:PassesOwn (model X.prog X.w) X.A X.env X.xe) (hc:MT X Θ c tc) (hb:MSs X Θ body mb):MS X Θ (.While c body [] pos) (M.JE tc mb) :=
 (zH0 hp hc hb).imp fun D σ H ⟨ρ,σ',S,st,rp,h⟩=>by
  refine⟨fun k σ2 H2=>∃ ρ2 σ2' S2,jc X.K ρ2 H2 σ2' σ2/\zW X.K Θ ρ2 S2 H2/\zy X.K Θ ρ2 H2 (M.ZX k tc mb σ2' S2) D,⟨M.zFJ,ρ,σ',S,st,rp,h⟩,?_⟩
  rintro k σ2 H2 ⟨ρ2,σ2',S2,st2,rp2,h2⟩
  cases k with
  | zero=>exact h2.elim
  | succ k =>
   refine⟨ρ2,σ2',S2,st2,rp2,zy.stm h2 fun ρ3 H3 b b' S3 p3 l3 rp3 eb h3=>?_⟩
   cases eb
   cases b with
   | false=>exact zCP (zy.nx (σ:=σ2) h3 rp3 (st2.mono p3 l3))
   | true =>
    refine zB0 ⟨fun σ4 H4=>∃ ρ4 σ4' S4,jc X.K ρ4 H4 σ4' σ4/\zW X.K Θ ρ4 S4 H4/\zy X.K Θ ρ4 H4 (M.ZX k tc mb σ4' S4) D,fun σ4 H4 q=>⟨k,Nat.lt_succ_self k,q⟩,ρ3,σ2',S3,st2.mono p3 l3,rp3,?_⟩
    have h4:zy X.K Θ ρ3 H3 (match mb σ2' S3 with
     | .nx σ s=>M.ZX k tc mb σ s
     | .ct σ s=>M.ZX k tc mb σ s
     | .bk σ s=>.nx σ s
     | r=>r) D:=h3
    revert h4
    cases mb σ2' S3 with
    | nx a s=>exact fun h4 ρ4 H4 σ4 p4 l4 rp4 st4=>⟨ρ4,a,s,st4,rp4,zy.weak h4 p4 l4⟩
    | ct a s=>exact fun h4 ρ4 H4 σ4 p4 l4 rp4 st4=>⟨ρ4,a,s,st4,rp4,zy.weak h4 p4 l4⟩
    | bk a s=>exact fun h4=>h4
    | rt a s=>exact fun h4=>h4
    | exc e a s=>exact fun h4=>h4
    | no=>exact fun h4=>h4
theorem zFT {c:Expr}{body:List Stmt}{tc:M.TM}{mb:M.SM} (hp:PassesOwn (model X.prog X.w) X.A X.env X.xe) (hc:WT X Θ c tc) (hb:WSs X Θ body mb):WS X Θ (.While c body [] pos) (M.JE tc mb):=by with_unfolding_all exact zHJ (c:=c) (body:=body) (tc:=tc) (mb:=mb) hp hc hb
theorem zL1 {K:PySem.W.Frag}{g:M.GM}{js:List Nat}{mb:M.SM}{xs:List M.D}{gd:M.Gd}{J:It}{ρ1:List Addr}{H1:Hp}{σ:St}{σ':M.St}{S1:M.S}{D:JM} (itr:ItR K Θ ρ1 H1 J xs gd) (st:jc K ρ1 H1 σ' σ) (rp1:zW K Θ ρ1 S1 H1) (hgd:M.zk gd S1=true) (h2:zy K Θ ρ1 H1 (M.j7 gd (M.qD g mb) xs σ' S1) D) :
  ∃ W:Nat->Nat->St->Hp->Prop,(∃ m,W 0 m σ H1)/\∀ i m σ H,W i m σ H ->
   (J.stop i H/\D.nx σ H)\/(J.go i H/\∃ N:St->Hp->Prop,(∀ σ' H',N σ' H'->∃ m',m' < m/\W (i+1) m' σ' H')/\∀ x H',J.yld i H x H'->RdG K Θ js g x σ H' fun σ2 H2=>RdS K Θ mb { D with nx:=N,ct:=N,bk:=D.nx } σ2 H2):=by
 refine⟨fun i k σ2 H2=>∃ ρ2 σ2' S2,ρ1 <+: ρ2/\Le H1 H2/\jc K ρ2 H2 σ2' σ2/\zW K Θ ρ2 S2 H2/\M.zk gd S2=true/\k=xs.length - i/\i <= xs.length/\zy K Θ ρ2 H2 (M.j7 gd (M.qD g mb) (xs.drop i) σ2' S2) D,
  ⟨xs.length,ρ1,σ',S1,List.prefix_refl _,Le.refl _,st,rp1,hgd,rfl,Nat.zero_le _,h2⟩,?_⟩
 rintro i k σ2 H2 ⟨ρ2,σ2',S2,p2,l2,st2,rp2,g2,rfl,hi2,h3⟩
 by_cases hlt:i < xs.length
 ·refine .inr ⟨itr.go i ρ2 S2 H2 p2 l2 rp2 g2 hlt,fun σ3 H3=>∃ ρ3 σ3' S3,ρ1 <+: ρ3/\Le H1 H3/\jc K ρ3 H3 σ3' σ3/\zW K Θ ρ3 S3 H3/\M.zk gd S3=true/\zy K Θ ρ3 H3 (M.j7 gd (M.qD g mb) (xs.drop (i+1)) σ3' S3) D,
   fun σ3 H3 ⟨ρ3,σ3',S3,a1,a2,a3,a4,a5,a6⟩=>⟨xs.length - (i+1),by omega,ρ3,σ3',S3,a1,a2,a3,a4,a5,rfl,hlt,a6⟩,fun x H' y=>?_⟩
  obtain⟨d,ed,rd,ld,rpd⟩:=itr.yld i ρ2 S2 H2 x H' p2 l2 rp2 g2 hlt y
  have edr:xs.drop i=d::xs.drop (i+1):=by
   obtain⟨_,e⟩:=List.getElem?_eq_some_iff.mp ed
   rw[List.drop_eq_getElem_cons hlt,e]
  rw[edr] at h3
  have h4:zy K Θ ρ2 H2 (match (match g d σ2' with | some σ'=>mb σ' S2 | none=>M.RS.no) with
   | .nx σ s=>if M.zk gd s then M.j7 gd (M.qD g mb) (xs.drop (i+1)) σ s else .no
   | .ct σ s=>if M.zk gd s then M.j7 gd (M.qD g mb) (xs.drop (i+1)) σ s else .no
   | .bk σ s=>.nx σ s
   | r=>r) D:=h3
  cases hgq:g d σ2' with
  | none=>rw[hgq] at h4;exact h4.elim
  | some σ1 =>
   rw[hgq] at h4
   refine⟨ρ2,σ2',S2,d,st2.mono (List.prefix_refl _) ld,rpd,rd,σ1,hgq,fun H'' σ3 le3 rp3 st3 _ _=>⟨ρ2,σ1,S2,st3,rp3,?_⟩⟩
   have h5:=zy.weak h4 (List.prefix_refl _) (ld.trans le3)
   have h6:zy K Θ ρ2 H'' (match mb σ1 S2 with
    | .nx σ s=>if M.zk gd s then M.j7 gd (M.qD g mb) (xs.drop (i+1)) σ s else .no
    | .ct σ s=>if M.zk gd s then M.j7 gd (M.qD g mb) (xs.drop (i+1)) σ s else .no
    | .bk σ s=>.nx σ s
    | r=>r) D:=h5
   have more:∀ (a:M.St) (s:M.S),zy K Θ ρ2 H'' (if M.zk gd s then M.j7 gd (M.qD g mb) (xs.drop (i+1)) a s else .no) D->∀ ρ4 H4 σ4,ρ2 <+: ρ4->Le H'' H4->zW K Θ ρ4 s H4->jc K ρ4 H4 a σ4 ->
     ∃ ρ3 σ3' S3,ρ1 <+: ρ3/\Le H1 H4/\jc K ρ3 H4 σ3' σ4/\zW K Θ ρ3 S3 H4/\M.zk gd S3=true/\zy K Θ ρ3 H4 (M.j7 gd (M.qD g mb) (xs.drop (i+1)) σ3' S3) D:=fun a s h7 ρ4 H4 σ4 p4 l4 rp4 st4=>by
    by_cases hs:M.zk gd s=true
    ·rw[if_pos hs] at h7
     exact⟨ρ4,a,s,p2.trans p4,l2.trans (ld.trans (le3.trans l4)),st4,rp4,hs,zy.weak h7 p4 l4⟩
    ·rw[if_neg hs] at h7;exact h7.elim
   revert h6
   cases mb σ1 S2 with
   | nx a s=>exact fun h6=>more a s h6
   | ct a s=>exact fun h6=>more a s h6
   | bk a s=>exact fun h6=>h6
   | rt a s=>exact fun h6=>h6
   | exc e a s=>exact fun h6=>h6
   | no=>exact fun h6=>h6
 ·have e:i=xs.length:=by omega
  subst e
  rw[List.drop_length] at h3
  exact .inl ⟨itr.stop ρ2 S2 H2 p2 l2 rp2 g2,zy.nx (σ:=σ2) h3 rp2 st2⟩
theorem zKR {tg iter:Expr}{body:List Stmt}{it:M.IM}{g:M.GM}{js:List Nat}{mb:M.SM} (hp:PassesOwn (model X.prog X.w) X.A X.env X.xe) (hc:X.calm=true) (hi:MI X Θ tg iter it) (hg:MG X Θ js tg g) (hb:MSs X Θ body mb)
  (hs:∀ x,foldedSetIterable iter X.env x=pure x:=by intro _;rfl):MS X Θ (.For tg iter body [] pos) (M.yZ it g mb) :=
 (zKU hp hc hi hg hb hs).imp fun D σ H ⟨ρ,σ',S,st,rp,h⟩=>⟨ρ,σ',S,st,rp,by
  have h':zy X.K Θ ρ H ((it σ' S).stm σ' fun p s=>if M.zk p.2 s=true then M.j7 p.2 (M.qD g mb) p.1 σ' s else .no) D:=h
  cases hit:it σ' S with
  | no=>rw[hit] at h';exact h'.elim
  | exc a s=>rw[hit] at h';exact h'.elim
  | ok p S1 =>
   rw[hit] at h'
   obtain⟨xs,gd⟩:=p
   show zF X.K Θ _ ρ H (if M.zk gd S1 then M.R.ok (xs,gd) S1 else .no) _
   have h2:zy X.K Θ ρ H (if M.zk gd S1=true then M.j7 gd (M.qD g mb) xs σ' S1 else .no) D:=h'
   by_cases hgd:M.zk gd S1=true
   case neg=>rw[if_neg hgd] at h2;exact h2.elim
   rw[if_pos hgd] at h2
   rw[if_pos hgd]
   intro ρ1 H1 J p1 l1 rp1 (itr:ItR X.K Θ ρ1 H1 J xs gd)
   exact zL1 itr (st.mono p1 l1) rp1 hgd (zy.weak h2 p1 l1)⟩
theorem QN {tg iter:Expr}{body:List Stmt}{it:M.IM}{g:M.GM}{js:List Nat}{mb:M.SM} (hp:PassesOwn (model X.prog X.w) X.A X.env X.xe) (hc:X.calm=true) (hi:WI X Θ tg iter it) (hg:WG X Θ js tg g) (hb:WSs X Θ body mb)
  (hs:∀ x,foldedSetIterable iter X.env x=pure x:=by intro _;rfl):WS X Θ (.For tg iter body [] pos) (M.yZ it g mb):=by with_unfolding_all exact zKR (tg:=tg) (iter:=iter) (body:=body) (it:=it) (g:=g) (js:=js) (mb:=mb) hp hc hi hg hb hs
theorem zLZ {K:PySem.W.Frag}{n:Nat}{it:M.IM}{g:M.GM}{js:List Nat}{tc:M.TM}{me:M.EM}{σ:St}{σ':M.St}{S:M.S}{ρ:List Addr}{H:Hp}{R:List V->Hp->Prop} (st:jc K ρ H σ' σ) (rp:zW K Θ ρ S H) (hj:∀ j∈js,σ.length <= j)
  (h:zF K Θ (zL K) ρ H (M.ZQ n it g tc me σ' S) R) :
  RdI K Θ it σ H fun J H1=>∃ W:Nat->Nat->List V->Hp->Prop,(∃ m,W 0 m [] H1)/\∀ i m ys H2,W i m ys H2->ys.length <= sizeLine /\
   ((J.stop i H2/\R ys H2) \/
    (J.go i H2/\∀ x H3,J.yld i H2 x H3->RdG K Θ js g x (σ++List.replicate n none) H3 fun σ2 H4=>Wk (σ++List.replicate n none) σ2/\RdT K Θ tc σ2 H4 fun b H5 =>
     if b=true then RdE K Θ me σ2 H5 fun y H6=>∃ m',m' < m/\W (i+1) m' (ys++[y]) H6 else ∃ m',m' < m/\W (i+1) m' ys H5)):=by
 refine⟨ρ,σ',S,st,rp,?_⟩
 have h':zF K Θ (zL K) ρ H ((it σ' S).bind fun p s=>if p.1.length <= M.SZ/\M.zk p.2 s=true then M.qz p.2 (M.qp n g tc me σ') p.1 s else .no) R:=h
 cases hit:it σ' S with
 | no=>rw[hit] at h';exact h'.elim
 | exc a s=>rw[hit] at h';exact h'.elim
 | ok p S1 =>
  rw[hit] at h'
  obtain⟨xs,gd⟩:=p
  show zF K Θ _ ρ H (if M.zk gd S1 then M.R.ok (xs,gd) S1 else .no) _
  have h2:zF K Θ (zL K) ρ H (if xs.length <= M.SZ/\M.zk gd S1=true then M.qz gd (M.qp n g tc me σ') xs S1 else .no) R:=h'
  by_cases hgd:xs.length <= M.SZ/\M.zk gd S1=true
  case neg=>rw[if_neg hgd] at h2;exact h2.elim
  rw[if_pos hgd] at h2
  rw[if_pos hgd.2]
  intro ρ1 H1 J p1 l1 rp1 (itr:ItR K Θ ρ1 H1 J xs gd)
  refine⟨fun i k ys H2=>∃ ρ2 S2 ds,ρ1 <+: ρ2/\Le H1 H2/\zW K Θ ρ2 S2 H2/\M.zk gd S2=true/\zL K ρ2 H2 ds ys/\ds.length <= i/\k=xs.length - i/\i <= xs.length/\zF K Θ (zL K) ρ2 H2 ((M.qz gd (M.qp n g tc me σ') (xs.drop i) S2).bind fun es s=>.ok (ds++es) s) R,
   ⟨xs.length,ρ1,S1,[],List.prefix_refl _,Le.refl _,rp1,hgd.2,rfl,Nat.le_refl _,rfl,Nat.zero_le _,?_⟩,?_⟩
  ·have h3:=zF.weak h2 p1 l1
   revert h3
   show zF K Θ (zL K) ρ1 H1 (M.qz gd (M.qp n g tc me σ') xs S1) R->_
   rw[List.drop_zero]
   cases M.qz gd (M.qp n g tc me σ') xs S1 with
   | ok a s=>exact fun h3=>h3
   | exc e s=>exact fun h3=>h3
   | no=>exact fun h3=>h3
  rintro i k ys H2 ⟨ρ2,S2,ds,p2,l2,rp2,g2,rds,hdl,rfl,hi2,h3⟩
  refine⟨by rw[<- rds.length,<- yc];omega,?_⟩
  by_cases hlt:i < xs.length
  ·refine .inr ⟨itr.go i ρ2 S2 H2 p2 l2 rp2 g2 hlt,fun x H3 y=>?_⟩
   obtain⟨d,ed,rd,ld,rpd⟩:=itr.yld i ρ2 S2 H2 x H3 p2 l2 rp2 g2 hlt y
   have edr:xs.drop i=d::xs.drop (i+1):=by
    obtain⟨_,e⟩:=List.getElem?_eq_some_iff.mp ed
    rw[List.drop_eq_getElem_cons hlt,e]
   rw[edr] at h3
   have h4:zF K Θ (zL K) ρ2 H2 (((match g d (σ'++List.replicate n none) with
     | none=>M.R.no
     | some σ1=>(tc σ1 S2).bind fun b s=>if b then (me σ1 s).bind fun d s=>.ok (some d) s else .ok none s).bind fun o s =>
      if M.zk gd s then (M.qz gd (M.qp n g tc me σ') (xs.drop (i+1)) s).bind fun ys s=>.ok (match o with | some y=>y::ys | none=>ys) s else .no).bind fun es s=>.ok (ds++es) s) R:=h3
   cases hgq:g d (σ'++List.replicate n none) with
   | none=>rw[hgq] at h4;exact h4.elim
   | some σ1 =>
    rw[hgq] at h4
    refine⟨ρ2,σ'++List.replicate n none,S2,d,((st.mono (p1.trans p2) (l1.trans (l2.trans ld))).more n),rpd,rd,σ1,hgq,fun H4 σ2 le4 rp4 st4 hl4 hj4=>⟨⟨hl4.symm,fun j v e=>?_⟩,ρ2,σ1,S2,st4,rp4,?_⟩⟩
    ·by_cases hjj:j∈js
     ·rw[List.getElem?_append_right (hj j hjj),List.getElem?_replicate] at e
      split at e<;>cases e
     ·rw[hj4 j hjj];exact e
    ·have h5:=zF.weak h4 (List.prefix_refl _) (ld.trans le4)
     dsimp only at h5
     cases htc:tc σ1 S2 with
     | no=>rw[htc] at h5;exact h5.elim
     | exc a s=>rw[htc] at h5;exact h5.elim
     | ok b S3 =>
      rw[htc] at h5
      intro ρ5 H5 b' p5 l5 rp5 eb
      cases eb
      have next:∀ (o:Option M.D) (s:M.S) (ρ6:List Addr) (H6:Hp) (zs:List V),ρ2 <+: ρ6->Le H4 H6->zW K Θ ρ6 s H6->zL K ρ6 H6 (match o with | some y=>ds++[y] | none=>ds) zs ->
        zF K Θ (zL K) ρ6 H6 ((if M.zk gd s then (M.qz gd (M.qp n g tc me σ') (xs.drop (i+1)) s).bind fun ys s=>.ok (match o with | some y=>y::ys | none=>ys) s else .no).bind fun es s=>.ok (ds++es) s) R ->
        ∃ m',m' < xs.length - i/\∃ ρ2 S2 es,ρ1 <+: ρ2/\Le H1 H6/\zW K Θ ρ2 S2 H6/\M.zk gd S2=true/\zL K ρ2 H6 es zs/\es.length <= i+1/\m'=xs.length - (i+1)/\i+1 <= xs.length /\
         zF K Θ (zL K) ρ2 H6 ((M.qz gd (M.qp n g tc me σ') (xs.drop (i+1)) S2).bind fun fs s=>.ok (es++fs) s) R:=fun o s ρ6 H6 zs p6 l6 rp6 rz h6=>by
       by_cases hs:M.zk gd s=true
       case neg=>rw[if_neg hs] at h6;exact h6.elim
       rw[if_pos hs] at h6
       refine⟨xs.length - (i+1),by omega,ρ6,s,_,p2.trans p6,l2.trans (ld.trans (le4.trans l6)),rp6,hs,rz,?_,rfl,hlt,?_⟩
       ·cases o<;>simp<;>omega
       ·revert h6
        cases M.qz gd (M.qp n g tc me σ') (xs.drop (i+1)) s with
        | ok a s2 =>
         intro h6
         cases o with
         | none=>exact h6
         | some y =>
          show zF K Θ (zL K) ρ6 H6 (.ok (ds++[y]++a) s2) R
          rw[List.append_assoc]
          exact h6
        | exc e s=>exact fun h6=>h6
        | no=>exact fun h6=>h6
      cases b with
      | false=>exact zCP (next none S3 ρ5 H5 ys p5 l5 rp5 (rds.mono p5 (ld.trans (le4.trans l5))) (zF.weak h5 p5 l5))
      | true =>
       refine zB0 ⟨ρ5,σ1,S3,st4.mono p5 l5,rp5,?_⟩
       have h6:=zF.weak h5 p5 l5
       cases hme:me σ1 S3 with
       | no =>
        have h7:zF K Θ (zL K) ρ5 H5 ((((me σ1 S3).bind fun d s=>M.R.ok (some d) s).bind fun o s=>if M.zk gd s then (M.qz gd (M.qp n g tc me σ') (xs.drop (i+1)) s).bind fun ys s=>.ok (match o with | some y=>y::ys | none=>ys) s else .no).bind fun es s=>.ok (ds++es) s) R:=h6
        rw[hme] at h7;exact h7.elim
       | exc a s =>
        have h7:zF K Θ (zL K) ρ5 H5 ((((me σ1 S3).bind fun d s=>M.R.ok (some d) s).bind fun o s=>if M.zk gd s then (M.qz gd (M.qp n g tc me σ') (xs.drop (i+1)) s).bind fun ys s=>.ok (match o with | some y=>y::ys | none=>ys) s else .no).bind fun es s=>.ok (ds++es) s) R:=h6
        rw[hme] at h7;exact h7.elim
       | ok y S6 =>
        have h7:zF K Θ (zL K) ρ5 H5 ((((me σ1 S3).bind fun d s=>M.R.ok (some d) s).bind fun o s=>if M.zk gd s then (M.qz gd (M.qp n g tc me σ') (xs.drop (i+1)) s).bind fun ys s=>.ok (match o with | some y=>y::ys | none=>ys) s else .no).bind fun es s=>.ok (ds++es) s) R:=h6
        rw[hme] at h7
        intro ρ6 H6 v p6 l6 rp6 rv
        exact next (some y) S6 ρ6 H6 (ys++[v]) (p5.trans p6) (l5.trans l6) rp6 ((rds.mono (p5.trans p6) (ld.trans (le4.trans (l5.trans l6)))).app ⟨v,[],rfl,rv,rfl⟩) (zF.weak h7 p6 l6)
  ·have e:i=xs.length:=by omega
   subst e
   rw[List.drop_length] at h3
   refine .inl ⟨itr.stop ρ2 S2 H2 p2 l2 rp2 g2,?_⟩
   have h4:zF K Θ (zL K) ρ2 H2 (.ok (ds++[]) S2) R:=h3
   rw[List.append_nil] at h4
   exact h4.here rp2 rds
end
end L2
namespace L2
open PySem PySem.Spec PyProof.Rows
section
variable {X:Cx}{Θ:Tab}{pos:Pos}{vars:List Str}{scope:Scope}{cl:List (Str×Addr)}{tg elt iter:Expr}{ifs:List Expr}{it:M.IM}{g:M.GM}{js:List Nat}{tc:M.TM}{me:M.EM}
theorem zCH {pins:List (Addr×Obj)}{s:Shared}{σ:St}{H:Hp} (I:Inv X pins σ H s) (hj:∀ j∈js,X.N.length <= j) {ρ:List Addr}{σ':M.St}{S:M.S} (st:jc X.K ρ H σ' σ) (rp:zW X.K Θ ρ S H) {Q:VK}{n:Nat}
  (h:zF X.K Θ (zL X.K) ρ H (M.ZQ n it g tc me σ' S) fun ys H2=>∀ D,H2 D=none->Q (.ref D) (upd H2 D (.lst ys))) :
  zFN n (RdI X.K Θ it) (RdG X.K Θ js g) (RdT X.K Θ tc) (RdE X.K Θ me) σ H Q:=zLZ st rp (fun j hjj=>by rw[I.len];exact hj j hjj) h
theorem zJf (hc:X.calm=true) (C:je X vars scope cl) (hi:MI X Θ tg iter it) (hg:∀ C fp s₂ H₂,MG (zr X vars scope cl C fp s₂ H₂) Θ js tg g) (ht:∀ C fp s₂ H₂,QS (zr X vars scope cl C fp s₂ H₂) ifs (RdT X.K Θ tc))
  (he:∀ C fp s₂ H₂,ME (zr X vars scope cl C fp s₂ H₂) Θ elt me) (hj':(js.all fun j=>decide (X.N.length <= j))=true) (hs:∀ x,foldedSetIterable iter X.env x=pure x:=by intro _;rfl):ME X Θ (.ListComp elt [⟨tg,iter,ifs,0⟩] scope pos) (M.zBQ vars.length it g tc me):=by
 intro pins s σ H Q I ⟨ρ,σ',S,st,rp,h⟩
 have hj:∀ j∈js,X.N.length <= j:=fun j hjj=>of_decide_eq_true (List.all_eq_true.mp hj' j hjj)
 exact zB3 hc C hi hg ht he hs pins s σ H Q I (zCH I hj st rp (zF.bind h fun ρ1 H1 ds ys S1 p1 l1 rp1 r1 h1 D hD=>h1.alloc rp1 r1 hD))
theorem J4 (hc:X.calm=true) (C:je X vars scope cl) (hi:WI X Θ tg iter it) (hg:∀ C fp s₂ H₂,WG (zr X vars scope cl C fp s₂ H₂) Θ js tg g) (ht:∀ C fp s₂ H₂,QS (zr X vars scope cl C fp s₂ H₂) ifs (RdT X.K Θ tc))
  (he:∀ C fp s₂ H₂,WE (zr X vars scope cl C fp s₂ H₂) Θ elt me) (hj':(js.all fun j=>decide (X.N.length <= j))=true) (hs:∀ x,foldedSetIterable iter X.env x=pure x:=by intro _;rfl):WE X Θ (.ListComp elt [⟨tg,iter,ifs,0⟩] scope pos) (M.zBQ vars.length it g tc me):=by with_unfolding_all exact zJf hc C hi hg ht he hj' hs
noncomputable def AdK (K:PySem.W.Frag) (Θ:Tab) (k:List M.D->M.S->M.R M.D) (r:List V->Hp->VK->Prop):Prop:=∀ ρ H S ds ys p Q,zW K Θ ρ S H->zL K ρ H ds ys->SqL K H p ys->zF K Θ (zK K) ρ H (k ds S) Q->r [.ref p] H Q
theorem zHe {x:Str}{p:Pos}{id:String}{pos2:Pos}{k:List M.D->M.S->M.R M.D}{r:List V->Hp->VK->Prop} (hcr:jh X (.builtin id) r) (ad:AdK X.K Θ k r) (hgl:Gl X x) (hm:X.mg x=none) (hv:bootBuiltins x=some (.builtin id))
  (hc:X.calm=true) (C:je X vars scope cl) (hi:MI X Θ tg iter it) (hg:∀ C fp s₂ H₂,MG (zr X vars scope cl C fp s₂ H₂) Θ js tg g) (ht:∀ C fp s₂ H₂,QS (zr X vars scope cl C fp s₂ H₂) ifs (RdT X.K Θ tc))
  (he:∀ C fp s₂ H₂,ME (zr X vars scope cl C fp s₂ H₂) Θ elt me) (hj':(js.all fun j=>decide (X.N.length <= j))=true) (hs:∀ x,foldedSetIterable iter X.env x=pure x:=by intro _;rfl)
  (hn:x ≠ "__name__" := by decide) (hdb:(x == ("__debug__" : Str))=false:=by decide)
  :
  ME X Θ (.Call (.Name x p) [.ListComp elt [⟨tg,iter,ifs,0⟩] scope pos] [] pos2) (M.JG k vars.length it g tc me):=by
 intro pins s σ H Q I ⟨ρ,σ',S,st,rp,h⟩
 have hj:∀ j∈js,X.N.length <= j:=fun j hjj=>of_decide_eq_true (List.all_eq_true.mp hj' j hjj)
 refine zDz hcr hgl hm hv (zCL (zB3 (g:=RdG X.K Θ js g) (ti:=RdT X.K Θ tc) (te:=RdE X.K Θ me) hc C hi hg ht he hs) zEF (jv rfl)) hn hdb (jv rfl) rfl pins s σ H Q I ?_
 show zFN vars.length _ _ _ _ σ H (fun x H1=>r [x] H1 Q)
 refine zCH I hj st rp (zF.bind h fun ρ1 H1 ds ys S1 p1 l1 rp1 r1 h1 D hD=>?_)
 exact ad ρ1 _ S1 ds ys D Q (rp1.aside hD _) (r1.mono (List.prefix_refl _) (Le.new hD _)) (SqL.of jX) (zF.weak h1 (List.prefix_refl _) (Le.new hD _))
theorem zFE {x:Str}{p:Pos}{id:String}{pos2:Pos}{k:List M.D->M.S->M.R M.D}{r:List V->Hp->VK->Prop} (hcr:jh X (.builtin id) r) (ad:AdK X.K Θ k r) (hgl:Gl X x) (hm:X.mg x=none) (hv:bootBuiltins x=some (.builtin id))
  (hc:X.calm=true) (C:je X vars scope cl) (hi:WI X Θ tg iter it) (hg:∀ C fp s₂ H₂,WG (zr X vars scope cl C fp s₂ H₂) Θ js tg g) (ht:∀ C fp s₂ H₂,QS (zr X vars scope cl C fp s₂ H₂) ifs (RdT X.K Θ tc))
  (he:∀ C fp s₂ H₂,WE (zr X vars scope cl C fp s₂ H₂) Θ elt me) (hj':(js.all fun j=>decide (X.N.length <= j))=true) (hs:∀ x,foldedSetIterable iter X.env x=pure x:=by intro _;rfl)
  (hn:x ≠ "__name__" := by decide) (hdb:(x == ("__debug__" : Str))=false:=by decide)
  :
  WE X Θ (.Call (.Name x p) [.ListComp elt [⟨tg,iter,ifs,0⟩] scope pos] [] pos2) (M.JG k vars.length it g tc me):=by with_unfolding_all exact zHe (x:=x) (p:=p) (id:=id) (pos2:=pos2) (k:=k) (r:=r) hcr ad hgl hm hv hc C hi hg ht he hj' hs hn hdb
theorem zIE {y:M.T}{z:Str}{j:Nat}{p apos cpos:Pos} (hz:z=ofT y) (hc:X.calm=true) (C:je X vars scope cl) (hi:MI X Θ tg iter it) (hg:∀ C fp s₂ H₂,MG (zr X vars scope cl C fp s₂ H₂) Θ js tg g) (ht:∀ C fp s₂ H₂,QS (zr X vars scope cl C fp s₂ H₂) ifs (RdT X.K Θ tc))
  (he:∀ C fp s₂ H₂,ME (zr X vars scope cl C fp s₂ H₂) Θ elt me) (hj':(js.all fun j=>decide (X.N.length <= j))=true) (ad:∀ ρ H S ds ys p Q,zW X.K Θ ρ S H->zL X.K ρ H ds ys->SqL X.K H p ys->zF X.K Θ (zK X.K) ρ H (M.ZF y ds S) Q->zDB X.K (.str (ofT y)) [.ref p] H Q) (hs:∀ x,foldedSetIterable iter X.env x=pure x:=by intro _;rfl)
  (hline:(apos.endLine == cpos.line)=true:=by rfl)
  :
  ME X Θ (.Call (.Attribute (.Constant (.str z) j p) "join" apos) [.ListComp elt [⟨tg,iter,ifs,0⟩] scope pos] [] cpos) (M.JG (M.ZF y) vars.length it g tc me):=by
 intro pins s σ H Q I ⟨ρ,σ',S,st,rp,h⟩
 have hj:∀ j∈js,X.N.length <= j:=fun j hjj=>of_decide_eq_true (List.all_eq_true.mp hj' j hjj)
 subst hz
 refine zIX PySem.F.plainAttrs_str PySem.F.slot_str_join PySem.F.type_str_join zIs zFx (zCL (zB3 (g:=RdG X.K Θ js g) (ti:=RdT X.K Θ tc) (te:=RdE X.K Θ me) hc C hi hg ht he hs) zEF (jv rfl)) rfl (zDU rfl (show 1 < 30 by decide)) hline (jv rfl) rfl pins s σ H Q I ?_
 refine⟨rfl,zCH I hj st rp (zF.bind h fun ρ1 H1 ds ys S1 p1 l1 rp1 r1 h1 D hD=>?_)⟩
 exact ad ρ1 _ S1 ds ys D Q (rp1.aside hD _) (r1.mono (List.prefix_refl _) (Le.new hD _)) (SqL.of jX) (zF.weak h1 (List.prefix_refl _) (Le.new hD _))
theorem zFf {y:M.T}{z:Str}{j:Nat}{p apos cpos:Pos} (hz:z=ofT y) (hc:X.calm=true) (C:je X vars scope cl) (hi:WI X Θ tg iter it) (hg:∀ C fp s₂ H₂,WG (zr X vars scope cl C fp s₂ H₂) Θ js tg g) (ht:∀ C fp s₂ H₂,QS (zr X vars scope cl C fp s₂ H₂) ifs (RdT X.K Θ tc))
  (he:∀ C fp s₂ H₂,WE (zr X vars scope cl C fp s₂ H₂) Θ elt me) (hj':(js.all fun j=>decide (X.N.length <= j))=true) (ad:∀ ρ H S ds ys p Q,zW X.K Θ ρ S H->zL X.K ρ H ds ys->SqL X.K H p ys->zF X.K Θ (zK X.K) ρ H (M.ZF y ds S) Q->zDB X.K (.str (ofT y)) [.ref p] H Q) (hs:∀ x,foldedSetIterable iter X.env x=pure x:=by intro _;rfl)
  (hline:(apos.endLine == cpos.line)=true:=by rfl)
  :
  WE X Θ (.Call (.Attribute (.Constant (.str z) j p) "join" apos) [.ListComp elt [⟨tg,iter,ifs,0⟩] scope pos] [] cpos) (M.JG (M.ZF y) vars.length it g tc me):=by with_unfolding_all exact zIE (y:=y) (z:=z) (j:=j) (p:=p) (apos:=apos) (cpos:=cpos) hz hc C hi hg ht he hj' ad hs hline
end
noncomputable def SpM (K:PySem.W.Frag) (Θ:Tab) (n:Nat) (f:M.F):Sp:=fun vs H Q _=>∃ ρ ds S,ds.length=n/\zL K ρ H ds vs/\zW K Θ ρ S H/\zF K Θ (zK K) ρ H (f ds S) Q
noncomputable def Z7 (m:M.AM) (n:Nat):Prop:=∀ σ s xs s',m σ s=.ok xs s'->xs.length=n
theorem z4:Z7 M.zI 0:=fun σ s xs s' h=>by cases h;rfl
theorem zM {a:M.EM}{r:M.AM}{n:Nat} (h:Z7 r n):Z7 (M.zD a r) (n+1):=fun σ s xs s' e=>by
 have e':((a σ s).bind fun x s=>(r σ s).bind fun xs s=>M.R.ok (x::xs) s)=.ok xs s':=e
 cases ha:a σ s with
 | no=>rw[ha] at e';cases e'
 | exc a s=>rw[ha] at e';cases e'
 | ok d S1 =>
  rw[ha] at e'
  have e2:((r σ S1).bind fun xs s=>M.R.ok (d::xs) s)=.ok xs s':=e'
  cases hr:r σ S1 with
  | no=>rw[hr] at e2;cases e2
  | exc a s=>rw[hr] at e2;cases e2
  | ok ds S2 =>
   rw[hr] at e2
   cases e2
   rw[List.length_cons,h _ _ _ _ hr]
section
variable {X:Cx}{Θ:Tab}{pos p:Pos}{x:Str}{ps:List Str}{e:Expr}{es:List Expr}{f:M.F}{m:M.AM}{k kk n:Nat}
theorem zJd (h:Has X.prog X.w X.K X.mg X.base x k ps (SpM X.K Θ n f)) (hr:zt kk X.A) (hk:k <= kk) (hg:Gl X x) (ha:MA X Θ (e::es) m) (ar:Z7 m n) (hx:qX CX0 X E0:=by exact Z6) (hdb:(x == ("__debug__" : Str))=false:=by decide)
  (he:z5 e=true:=by rfl) (hpl:es.all z5=true:=by rfl):ME X Θ (.Call (.Name x p) (e::es) [] pos) (M.zR f m) :=
 (zHx h hr hk hg ha hx hdb (jv he) (ZK hpl)).imp fun σ H Q ⟨ρ,σ',S,st,rp,h⟩=>⟨ρ,σ',S,st,rp,by
  have h':zF X.K Θ (zK X.K) ρ H ((m σ' S).bind fun xs s=>f xs s) Q:=h
  cases hm:m σ' S with
  | no=>rw[hm] at h';exact h'.elim
  | exc a s=>rw[hm] at h';exact h'.elim
  | ok ds S1 =>
   rw[hm] at h'
   intro ρ1 H1 vs p1 l1 rp1 r1
   rw[List.append_nil]
   exact⟨ρ1,ds,S1,ar _ _ _ _ hm,r1,rp1,zF.weak h' p1 l1⟩⟩
theorem zf (h:Has X.prog X.w X.K X.mg X.base x k ps (SpM X.K Θ n f)) (hr:zt kk X.A) (hk:k <= kk) (hg:Gl X x) (ha:WA X Θ (e::es) m) (ar:Z7 m n) (hx:qX CX0 X E0:=by exact Z6) (hdb:(x == ("__debug__" : Str))=false:=by decide)
  (he:z5 e=true:=by rfl) (hpl:es.all z5=true:=by rfl):WE X Θ (.Call (.Name x p) (e::es) [] pos) (M.zR f m):=by with_unfolding_all exact zJd h hr hk hg ha ar hx hdb he hpl
end
theorem zLY {e:List Nat}:∀ {n:Nat}{d:M.D},M.kyD n (M.D.ren e d)=true->M.D.ren e d=d:=by
 intro n
 induction n with
 | zero=>intro d h;cases d<;>first | rfl | cases h
 | succ n ih =>
  intro d h
  cases d with
  | tup ds =>
   show M.D.tup (M.D.ren.all e ds)=_
   have h':(M.D.ren.all e ds).all (M.kyD n)=true:=h
   have:∀ ds:List M.D,(M.D.ren.all e ds).all (M.kyD n)=true->M.D.ren.all e ds=ds:=by
    intro ds
    induction ds with
    | nil=>intro _;rfl
    | cons d ds ih2 =>
     intro h
     have h2:(M.kyD n (M.D.ren e d) && (M.D.ren.all e ds).all (M.kyD n))=true:=h
     rw[Bool.and_eq_true] at h2
     show M.D.ren e d::M.D.ren.all e ds=_
     rw[ih h2.1,ih2 h2.2]
   rw[this ds h']
  | _=>first | rfl | cases h
section
variable {K:PySem.W.Frag}{Θ:Tab}{ρ ρ':List Addr}{H:Hp}{e:List Nat}
mutual
theorem zK.unren (hρ:∀ (i j:Nat) a,e[i]? = some j->ρ[j]? = some a->ρ'[i]? = some a):∀ {d:M.D}{v:V},M.D.cl e.length d=true->zK K ρ H (M.D.ren e d) v->zK K ρ' H d v
 | .non,_,_,h=>h
 | .bl _,_,_,h=>h
 | .int _,_,_,h=>h
 | .str _,_,_,h=>h
 | .ty _,_,_,h=>h
 | .ref i,_,c,⟨a,h1,h2⟩=>by
  have hi:i < e.length:=of_decide_eq_true c
  refine⟨a,h1,hρ i (e.getD i i) a ?_ h2⟩
  rw[List.getD_eq_getElem?_getD,List.getElem?_eq_getElem hi];rfl
 | .tup _,_,c,⟨a,xs,h1,h2,h3⟩=>⟨a,xs,h1,h2,zL.unren hρ c h3⟩
 | .ro _,_,c,⟨a,xs,h1,h2,h3⟩=>⟨a,xs,h1,h2,zL.unren hρ c h3⟩
theorem zL.unren (hρ:∀ (i j:Nat) a,e[i]? = some j->ρ[j]? = some a->ρ'[i]? = some a):∀ {ds:List M.D}{xs:List V},M.D.cl.all e.length ds=true->zL K ρ H (M.D.ren.all e ds) xs->zL K ρ' H ds xs
 | [],_,_,h=>h
 | d::ds,_,c,⟨y,ys,h1,h2,h3⟩=>by
  have c':(M.D.cl e.length d && M.D.cl.all e.length ds)=true:=c
  rw[Bool.and_eq_true] at c'
  exact⟨y,ys,h1,zK.unren hρ c'.1 h2,zL.unren hρ c'.2 h3⟩
end
theorem ObR.unren (hρ:∀ (i j:Nat) a,e[i]? = some j->ρ[j]? = some a->ρ'[i]? = some a) {a:Addr}{o:M.O} (c:M.O.cl e.length o=true) (h:ObR K Θ ρ H a (M.O.ren e o)):ObR K Θ ρ' H a o:=by
 cases o with
 | lst ds=>obtain⟨xs,h1,h2⟩:=h;exact⟨xs,h1,zL.unren hρ c h2⟩
 | dct kvs =>
  obtain⟨ks,h1,h2⟩:=h
  refine⟨ks,h1,?_⟩
  have c':∀ p∈kvs,(M.D.cl e.length p.1 && M.D.cl e.length p.2)=true:=List.all_eq_true.mp c
  clear h1
  revert h2 c'
  clear c
  induction kvs generalizing ks with
  | nil=>intro h2 c';cases h2;exact .nil
  | cons p kvs ih =>
   intro h2 c'
   rw[List.map_cons] at h2
   cases h2 with
   | cons r1 r2 =>
    have c1:=c' p List.mem_cons_self
    rw[Bool.and_eq_true] at c1
    refine .cons ⟨?_,zK.unren hρ c1.2 r1.2⟩ (ih _ r2 (fun q hq=>c' q (List.mem_cons_of_mem _ hq)))
    have hk:=r1.1
    revert hk
    cases p.1<;>exact fun hk=>hk
 | fdc kvs =>
  obtain⟨o,ks,h1,h2⟩:=h
  refine⟨o,ks,h1,?_⟩
  have c':∀ p∈kvs,(M.D.cl e.length p.1 && M.D.cl e.length p.2)=true:=List.all_eq_true.mp c
  clear h1
  revert h2 c'
  clear c
  induction kvs generalizing ks with
  | nil=>intro h2 c';cases h2;exact .nil
  | cons p kvs ih =>
   intro h2 c'
   rw[List.map_cons] at h2
   cases h2 with
   | cons r1 r2 =>
    have c1:=c' p List.mem_cons_self
    rw[Bool.and_eq_true] at c1
    refine .cons ⟨?_,zK.unren hρ c1.2 r1.2⟩ (ih _ r2 (fun q hq=>c' q (List.mem_cons_of_mem _ hq)))
    have hk:=r1.1
    revert hk
    cases p.1<;>exact fun hk=>hk
 | dtt kvs =>
  obtain⟨xs,h1,h2⟩:=h
  refine⟨xs,h1,?_⟩
  have c':∀ p∈kvs,(M.D.cl e.length p.1 && M.D.cl e.length p.2)=true:=List.all_eq_true.mp c
  clear h1
  revert h2 c'
  clear c
  induction kvs generalizing xs with
  | nil=>intro h2 c';cases h2;exact .nil
  | cons p kvs ih =>
   intro h2 c'
   rw[List.map_cons] at h2
   cases h2 with
   | cons r1 r2 =>
    have c1:=c' p List.mem_cons_self
    rw[Bool.and_eq_true] at c1
    obtain⟨a1,a2,a3,v,a4,a5⟩:=r1
    have e1:=zLY a2
    rw[e1] at a1 a2
    exact .cons ⟨a1,a2,zK.unren hρ c1.1 a3,v,zK.unren hρ c1.2 a4,a5⟩ (ih _ r2 (fun q hq=>c' q (List.mem_cons_of_mem _ hq)))
 | ins cc fs =>
  obtain⟨C,dx,gs,N,h1,h2,h3⟩:=h
  refine⟨C,dx,gs,N,h1,h2,by rw[<- h3.len];simp,h3.nd,h3.within,fun i f d q1 q2=>?_⟩
  obtain⟨v,k1,k2⟩:=h3.get i f (M.D.ren e d) q1 (by rw[List.getElem?_map,q2];rfl)
  refine⟨v,k1,zK.unren hρ ?_ k2⟩
  have:=List.all_eq_true.mp c (some d) (List.mem_of_getElem? q2)
  exact this
theorem zF.gc {S S' S1:M.S}{d:M.D}{Q:VK} (em:M.Emb S.length e S' S1) (cd:M.D.cl S'.length d=true) (rp:zW K Θ ρ S H) (h:zF K Θ (zK K) ρ H (.ok d S') Q):zF K Θ (zK K) ρ H (.ok (M.D.ren e d) S1) Q:=by
 intro ρ1 H1 v p1 l1 rp1 r1
 have hlt:∀ {i j:Nat},e[i]? = some j->j < ρ1.length:=fun {i j} q=>by
  have hi:i < S'.length:=by rw[<- em.len];exact (List.getElem?_eq_some_iff.mp q).1
  obtain⟨j',q1,q2,_⟩:=em.obj i S'[i] (by simp[hi])
  rw[q] at q1;cases q1
  rw[rp1.len];exact (List.getElem?_eq_some_iff.mp q2).1
 have hρ:∀ (i j:Nat) a,e[i]? = some j->ρ1[j]? = some a->(e.map fun j=>ρ1.getD j 0)[i]? = some a:=fun i j a q1 q2=>by
  rw[List.getElem?_map,q1,Option.map_some,List.getD_eq_getElem?_getD,q2];rfl
 refine h (e.map fun j=>ρ1.getD j 0) H1 v ?_ l1 ⟨by rw[List.length_map,em.len],?_,fun i o q=>?_⟩ (zK.unren hρ (by rw[em.len];exact cd) r1)
 ·refine List.prefix_iff_getElem?.mpr fun i hi=>?_
  have hi':i < S.length:=rp.len ▸ hi
  exact hρ i i _ (em.old i hi') (Q0 p1 (List.getElem?_eq_getElem hi))
 ·refine zHO fun i j x a b=>?_
  rw[List.getElem?_map] at a b
  cases ei:e[i]? with
  | none=>rw[ei] at a;cases a
  | some k =>
   cases ej:e[j]? with
   | none=>rw[ej] at b;cases b
   | some l =>
    rw[ei,Option.map_some,List.getD_eq_getElem?_getD,List.getElem?_eq_getElem (hlt ei)] at a
    rw[ej,Option.map_some,List.getD_eq_getElem?_getD,List.getElem?_eq_getElem (hlt ej)] at b
    have e1:ρ1[k]'(hlt ei)=x:=by simpa using a
    have e2:ρ1[l]'(hlt ej)=x:=by simpa using b
    have e3:=zG6 rp1.nd (hlt ei) (hlt ej) (e1.trans e2.symm)
    subst e3
    exact JK em.nd ei ej
 ·obtain⟨j,q1,q2,q3⟩:=em.obj i o q
  obtain⟨a,q4,q5⟩:=rp1.obj j _ q2
  exact⟨a,hρ i j a q1 q4,ObR.unren hρ (by rw[em.len];exact q3) q5⟩
end
section
variable {K:PySem.W.Frag}{Θ:Tab}{ρ:List Addr}{H:Hp}
mutual
theorem zK.cl:∀ {d:M.D}{v:V},zK K ρ H d v->M.D.cl ρ.length d=true
 | .non,_,_=>rfl
 | .bl _,_,_=>rfl
 | .int _,_,_=>rfl
 | .str _,_,_=>rfl
 | .ty _,_,_=>rfl
 | .ref _,_,⟨a,_,h2⟩=>decide_eq_true (List.getElem?_eq_some_iff.mp h2).1
 | .tup _,_,⟨_,_,_,_,h⟩=>zL.cl h
 | .ro _,_,⟨_,_,_,_,h⟩=>zL.cl h
theorem zL.cl:∀ {ds:List M.D}{xs:List V},zL K ρ H ds xs->M.D.cl.all ρ.length ds=true
 | [],_,_=>rfl
 | d::ds,_,⟨_,_,_,h1,h2⟩=>by
  show (M.D.cl ρ.length d && M.D.cl.all ρ.length ds)=true
  rw[zK.cl h1,zL.cl h2];rfl
end
theorem zW.cl {S:M.S} (rp:zW K Θ ρ S H):M.clS S.length S=true:=by
 refine List.all_eq_true.mpr fun o ho=>?_
 obtain⟨i,hi,rfl⟩:=List.mem_iff_getElem.mp ho
 obtain⟨a,h1,h2⟩:=rp.obj i S[i] (by simp[hi])
 rw[<- rp.len]
 revert h2
 cases S[i] with
 | lst ds=>exact fun ⟨xs,_,r⟩=>r.cl
 | dct kvs =>
  intro ⟨ks,_,r⟩
  refine List.all_eq_true.mpr fun p hp=>?_
  have:∀ {kvs:List (M.D×M.D)}{ks:List (Key×V)},Paired (fun (p:M.D×M.D) (q:Key×V)=>Zw p.1 q.1/\zK K ρ H p.2 q.2) kvs ks->p∈kvs->(M.D.cl ρ.length p.1 && M.D.cl ρ.length p.2)=true:=by
   intro kvs ks r hp
   induction r with
   | nil=>cases hp
   | cons r1 r2 ih =>
    rcases List.mem_cons.mp hp with rfl | hp
    ·rw[r1.2.cl,Bool.and_true]
     have hk:=r1.1
     revert hk
     cases p.1<;>first | exact fun _=>rfl | exact fun hk=>hk.elim
    ·exact ih hp
  exact this r hp
 | fdc kvs =>
  intro ⟨_,ks,_,r⟩
  refine List.all_eq_true.mpr fun p hp=>?_
  have:∀ {kvs:List (M.D×M.D)}{ks:List (Key×V)},Paired (fun (p:M.D×M.D) (q:Key×V)=>Zw p.1 q.1/\zK K ρ H p.2 q.2) kvs ks->p∈kvs->(M.D.cl ρ.length p.1 && M.D.cl ρ.length p.2)=true:=by
   intro kvs ks r hp
   induction r with
   | nil=>cases hp
   | cons r1 r2 ih =>
    rcases List.mem_cons.mp hp with rfl | hp
    ·rw[r1.2.cl,Bool.and_true]
     have hk:=r1.1
     revert hk
     cases p.1<;>first | exact fun _=>rfl | exact fun hk=>hk.elim
    ·exact ih hp
  exact this r hp
 | dtt kvs =>
  intro ⟨xs,_,r⟩
  refine List.all_eq_true.mpr fun p hp=>?_
  have:∀ {kvs:List (M.D×M.D)}{xs:List (M.D×Addr×Value)},Paired (TDr K ρ H) kvs xs->p∈kvs->(M.D.cl ρ.length p.1 && M.D.cl ρ.length p.2)=true:=by
   intro kvs xs r hp
   induction r with
   | nil=>cases hp
   | cons r1 r2 ih =>
    rcases List.mem_cons.mp hp with rfl | hp
    ·obtain⟨_,_,a3,v,a4,_⟩:=r1
     rw[a3.cl,a4.cl];rfl
    ·exact ih hp
  exact this r hp
 | ins c fs =>
  intro ⟨C,dx,gs,N,_,_,r⟩
  refine List.all_eq_true.mpr fun od hod=>?_
  cases od with
  | none=>rfl
  | some d =>
   obtain⟨j,hj,ej⟩:=List.mem_iff_getElem.mp hod
   have hN:j < N.length:=r.len ▸ hj
   obtain⟨v,_,rv⟩:=r.get j N[j] d (by simp[hN]) (by rw[List.getElem?_eq_getElem hj,ej])
   exact rv.cl
end
section
variable {P:Program}{w:World}{K:PySem.W.Frag}{mg:Str->Option Value}{base:Heap}{Θ:Tab}
theorem zCd {ρ:List Addr}{H:Hp}{ds:List M.D}{vs:List V} (r:zL K ρ H ds vs) (N:List Str):jc K ρ H (ds.map some++List.replicate (N.length - ds.length) none) (qw N vs):=by
 have hl:=r.length
 refine⟨by simp[qw,hl],fun i d q=>?_⟩
 unfold qw
 by_cases hi:i < ds.length
 ·rw[List.getElem?_append_left (by simpa using hi),List.getElem?_map] at q
  cases e:ds[i]? with
  | none=>rw[e] at q;cases q
  | some d' =>
   rw[e] at q
   cases q
   obtain⟨v,e1,rv⟩:=r.get e
   refine⟨v,?_,rv⟩
   rw[List.getElem?_append_left (by simp;omega),List.getElem?_map,e1];rfl
 ·rw[List.getElem?_append_right (by simp;omega),List.getElem?_replicate] at q
  split at q<;>cases q
theorem zLc {x qual:Str}{st:Stmt}{f:Addr}{fd:FuncData}{N ps:List Str}{k:Nat}{b:M.SM}{q:M.F} (F:Fun K x qual st f fd) (Sc:jW N ps (zP st)) (rf:M.jP ps.length (M.fn N.length b) q)
  (hbody:∀ (cdv:Value) (A:Around) (outer:List Env) (s:Shared) (H:Hp) (E:XK),zt k (A.deeper (envOfC qual (zP st) s.heap.objs.size f cdv)) ->
   MSs (QR CX0 P w K mg base N qual (zP st) f cdv A outer s H E).nox Θ (jJ st) b):jd P w K mg base CX0 (k+1) f fd ps (SpM K Θ ps.length q):=by
 refine F.ok (k:=k) Sc (fun vs H Q E h=>?_) (fun cdv A outer s H vs Q E hr h=>?_)
 ·obtain⟨ρ,ds,S,hl,r,_⟩:=h
  rw[<- r.length,hl]
 ·obtain⟨ρ,ds,S,hl,r,rp,h⟩:=h
  refine⟨_,hbody cdv A outer s H E hr,ρ,_,S,zCd r N,rp,?_⟩
  rcases rf ds S hl rp.cl (rp.len ▸ r.cl) with e | ⟨d,S',S1,em,e1,e2,emb,cd⟩
  ·rw[e] at h;exact h.elim
  ·rw[e1] at h
   have h2:=zF.gc emb cd rp h
   have e3:(b (ds.map some++List.replicate (N.length - ds.length) none) S).out=.ok (M.D.ren em d) S1:=e2
   show zy K Θ ρ H (b (ds.map some++List.replicate (N.length - ds.length) none) S) _
   revert e3
   cases b (ds.map some++List.replicate (N.length - ds.length) none) S with
   | rt a s=>intro e3;cases e3;exact h2
   | nx a s =>
    intro e3
    have e4:M.R.ok M.D.non s=.ok (M.D.ren em d) S1:=e3
    injection e4 with e5 e6
    subst e6
    rw[<- e5] at h2
    exact fun ρ1 H1 σ1 p1 l1 rp1 _=>h2 ρ1 H1 .non p1 l1 rp1 rfl
   | bk a s=>intro e3;cases e3
   | ct a s=>intro e3;cases e3
   | exc e a s=>intro e3;cases e3
   | no=>intro e3;cases e3
theorem qT {x qual:Str}{st:Stmt}{f:Addr}{fd:FuncData}{N ps:List Str}{k:Nat}{b:M.SM}{q:M.F} (F:Fun K x qual st f fd) (Sc:jW N ps (zP st)) (rf:M.jP ps.length (M.fn N.length b) q)
  (hbody:∀ (cdv:Value) (A:Around) (outer:List Env) (s:Shared) (H:Hp) (E:XK),zt k (A.deeper (envOfC qual (zP st) s.heap.objs.size f cdv)) ->
   WSs (QR CX0 P w K mg base N qual (zP st) f cdv A outer s H E).nox Θ (jJ st) b):jd P w K mg base CX0 (k+1) f fd ps (SpM K Θ ps.length q):=by with_unfolding_all exact zLc (x:=x) (qual:=qual) (st:=st) (f:=f) (fd:=fd) (N:=N) (ps:=ps) (k:=k) (b:=b) (q:=q) F Sc rf hbody
end
end L2
namespace L2
open PySem PySem.Spec PyProof.Rows
section
variable {K:PySem.W.Frag}{Θ:Tab}
theorem zF3:Ad2 K Θ M.zFc zLQ:=by
 intro ρ H S x y X Y Q rp rx ry h
 cases x with
 | int i =>
  cases y with
  | int j=>cases rx;cases ry;exact zF.here (b:=V.int (i - j)) h rp rfl
  | _=>exact h.elim
 | _=>exact h.elim
theorem zDr {i:Int} (h:M.qx i=true):-(2 ^ 64) < i/\i < 2 ^ 64:=by
 have h':i.natAbs < 18446744073709551616:=of_decide_eq_true h
 exact⟨by omega,by omega⟩
theorem jU:Ad2 K Θ M.zv zKk:=by
 intro ρ H S x y X Y Q rp rx ry h
 cases x with
 | int i =>
  cases y with
  | int j =>
   cases rx;cases ry
   have h':zF K Θ (zK K) ρ H (if 0 < j/\j.natAbs < 1073741824 then M.R.ok (M.D.int (i / j)) S else .no) Q:=h
   by_cases hc:0 < j/\j.natAbs < 1073741824
   ·rw[if_pos hc] at h';exact⟨⟨hc.1,by omega⟩,zF.here (b:=V.int (i / j)) h' rp rfl⟩
   ·rw[if_neg hc] at h';exact h'.elim
  | _=>exact h.elim
 | _=>exact h.elim
theorem jL:Ad2 K Θ M.zm zK6:=by
 intro ρ H S x y X Y Q rp rx ry h
 cases x with
 | int i =>
  cases y with
  | int j =>
   cases rx;cases ry
   have h':zF K Θ (zK K) ρ H (if 0 < j then M.R.ok (M.D.int (i % j)) S else .no) Q:=h
   by_cases hc:0 < j
   ·rw[if_pos hc] at h';exact⟨hc,zF.here (b:=V.int (i % j)) h' rp rfl⟩
   ·rw[if_neg hc] at h';exact h'.elim
  | _=>exact h.elim
 | _=>exact h.elim
theorem yd {ρ:List Addr}{S:M.S}{H:Hp} (rp:zW K Θ ρ S H) {i:Nat}{a:Addr} (ha:ρ[i]? = some a) {xs:List M.D} (q:S[i]? = some (.lst xs)):∃ zs,H a=some (.lst zs)/\zL K ρ H xs zs:=by
 obtain⟨b,e1,zs,e2,r⟩:=rp.obj i _ q
 rw[ha] at e1;cases e1
 exact⟨zs,e2,r⟩
theorem yB:Ad2 K Θ M.qZ (fun x y H Q=>zHd x y H Q\/zFA K x y H Q):=by
 intro ρ H S x y X Y Q rp rx ry h
 cases x with
 | int i =>
  cases y with
  | int j=>cases rx;cases ry;exact .inl (zF.here (b:=V.int (i+j)) h rp rfl)
  | _=>exact h.elim
 | str a =>
  cases y with
  | str b =>
   obtain⟨rfl,oka⟩:=rx
   obtain⟨rfl,okb⟩:=ry
   have h':zF K Θ (zK K) ρ H (if a.length+b.length <= M.SZ then M.R.ok (M.D.str (a++b)) S else .no) Q:=h
   by_cases hc:a.length+b.length <= M.SZ
   ·rw[if_pos hc] at h'
    refine .inl ⟨by rw[jq,jq,<- yc];exact hc,?_⟩
    rw[zIj]
    exact zF.here (b:=V.str (ofT (a++b))) h' rp ⟨rfl,zB8 oka okb⟩
   ·rw[if_neg hc] at h';exact h'.elim
  | _=>exact h.elim
 | tup a =>
  cases y with
  | tup b =>
   obtain⟨l,xs,rfl,hq,r⟩:=rx
   obtain⟨l',ys,rfl,hq',r'⟩:=ry
   have h':zF K Θ (zK K) ρ H (if a≠[]/\a.length+b.length <= M.SZ then M.R.ok (M.D.tup (a++b)) S else .no) Q:=h
   by_cases hc:a≠[]/\a.length+b.length <= M.SZ
   ·rw[if_pos hc] at h'
    refine .inr ⟨l,l',xs,ys,rfl,rfl,hq,hq',fun z=>hc.1 ?_,by rw[<- r.length,<- r'.length,<- yc];exact hc.2,fun hy=>?_,fun hy p hp=>?_⟩
    ·subst z
     have:=r.length
     exact List.length_eq_zero_iff.mp this
    ·subst hy
     have hb:b=[]:=List.length_eq_zero_iff.mp r'.length
     subst hb
     rw[List.append_nil] at h'
     exact zF.here h' rp ⟨l,xs,rfl,hq,r⟩
    ·exact h' ρ _ _ (List.prefix_refl _) (Le.new hp _) (rp.aside hp _) ⟨p,_,rfl,SqT.of jX,(r.app r').mono (List.prefix_refl _) (Le.new hp _)⟩
   ·rw[if_neg hc] at h';exact h'.elim
  | _=>exact h.elim
 | ref i =>
  cases y with
  | ref j =>
   obtain⟨a,rfl,ea⟩:=rx
   obtain⟨b,rfl,eb⟩:=ry
   have h':zF K Θ (zK K) ρ H (match S[i]?,S[j]? with
    | some (.lst xs),some (.lst ys)=>if xs.length+ys.length <= M.SZ then M.alloc (.lst (xs++ys)) S else .no
    | _,_=>.no) Q:=h
   split at h'
   ·rename_i xs ys q1 q2
    obtain⟨zs,e1,r1⟩:=yd rp ea q1
    obtain⟨ws,e2,r2⟩:=yd rp eb q2
    by_cases hc:xs.length+ys.length <= M.SZ
    ·rw[if_pos hc] at h'
     exact .inl ⟨zs,ws,e1,e2,by rw[<- r1.length,<- r2.length,<- yc];exact hc,fun p hp=>h'.alloc rp (r1.app r2) hp⟩
    ·rw[if_neg hc] at h';exact h'.elim
   ·exact h'.elim
  | _=>exact h.elim
 | _=>exact h.elim
theorem zC5:AdC K Θ M.cLt uLt:=by
 intro ρ H S x y X Y Q rp rx ry h
 cases x with
 | int i =>
  cases y with
  | int j=>cases rx;cases ry;exact zF.here (b:=decide (i < j)) h rp rfl
  | _=>exact h.elim
 | str a =>
  cases y with
  | str b =>
   obtain⟨rfl,_⟩:=rx
   obtain⟨rfl,_⟩:=ry
   show Q (.bl (decide ((ofT a).cps.toList < (ofT b).cps.toList))) H
   rw[ZH,ZH]
   exact zF.here (b:=decide (a < b)) h rp rfl
  | _=>exact h.elim
 | _=>exact h.elim
theorem zIV:AdC K Θ M.cLe uLe:=by
 intro ρ H S x y X Y Q rp rx ry h
 cases x with
 | int i =>
  cases y with
  | int j=>cases rx;cases ry;exact zF.here (b:=decide (i <= j)) h rp rfl
  | _=>exact h.elim
 | str a =>
  cases y with
  | str b =>
   obtain⟨rfl,_⟩:=rx
   obtain⟨rfl,_⟩:=ry
   show Q (.bl (!decide ((ofT b).cps.toList < (ofT a).cps.toList))) H
   rw[ZH,ZH]
   exact zF.here (b:=!decide (b < a)) h rp rfl
  | _=>exact h.elim
 | _=>exact h.elim
theorem zL7:AdC K Θ M.cGt uGt:=by
 intro ρ H S x y X Y Q rp rx ry h
 cases x with
 | int i =>
  cases y with
  | int j=>cases rx;cases ry;exact zF.here (b:=decide (j < i)) h rp rfl
  | _=>exact h.elim
 | _=>exact h.elim
theorem zBp {ρ:List Addr}{H:Hp}{ds:List M.D}{xs:List V}{i:Int}{d:M.D} (r:zL K ρ H ds xs) (e:M.atI ds i=some d):∃ v,atI xs i=some v/\zK K ρ H d v:=by
 unfold M.atI at e
 cases q:M.ixN ds.length i with
 | none=>rw[q] at e;cases e
 | some j =>
  rw[q] at e
  obtain⟨v,e1,rv⟩:=r.get (i:=j) e
  have q':ixN xs.length i=some j:=by rw[<- r.length];exact q
  exact⟨v,by unfold atI;rw[q'];exact e1,rv⟩
end
end L2
namespace L2
open PySem PySem.Spec PyProof.Rows
section
variable {K:PySem.W.Frag}{Θ:Tab}
theorem zKi {X:Cx}{a:Expr}{ma:M.EM} (ha:ME X Θ a ma) (he:∀ whole,isTrue a X.env whole=(do let v <- whole;standAt a.pos;holding [v] (truthy v)):=by intro _;rfl):MT X Θ a (M.Zd ma) :=
 (zHu ha he).imp fun σ H Q ⟨ρ,σ',S,st,rp,h⟩=>⟨ρ,σ',S,st,rp,zF.bind h fun ρ1 H1 x X1 S1 p1 l1 rp1 rx h1=>by
  cases x with
  | non=>cases rx;exact⟨false,rfl,zF.here (b:=false) h1 rp1 rfl⟩
  | bl b=>cases rx;exact⟨b,rfl,zF.here (b:=b) h1 rp1 rfl⟩
  | int i=>cases rx;exact⟨_,rfl,zF.here (b:=(i != 0)) h1 rp1 (by show decide (i≠0)=(i != 0);by_cases hi:i=0<;>simp[hi])⟩
  | str z =>
   obtain⟨rfl,_⟩:=rx
   by_cases hz:z.length <= M.SZ
   ·simp only[M.Z3,if_pos hz] at h1
    refine⟨_,⟨by rw[jq,<- yc];exact hz,rfl⟩,zF.here (b:=(((ofT z).length:Int) != 0)) h1 rp1 ?_⟩
    show (!z.isEmpty)=_
    rw[jq]
    cases z<;>simp<;>omega
   ·simp only[M.Z3,if_neg hz] at h1;exact h1.elim
  | tup ds =>
   obtain⟨l,xs,rfl,hq,r⟩:=rx
   refine⟨_,.inr (.inl ⟨xs,hq,rfl⟩),zF.here (b:=!xs.isEmpty) h1 rp1 ?_⟩
   show (!ds.isEmpty)=_
   have:=r.length
   cases ds<;>cases xs<;>first | rfl | cases this
  | ro ds =>
   obtain⟨l,xs,rfl,hq,r⟩:=rx
   refine⟨_,.inl ⟨xs,hq.sq,rfl⟩,zF.here (b:=!xs.isEmpty) h1 rp1 ?_⟩
   show (!ds.isEmpty)=_
   have:=r.length
   cases ds<;>cases xs<;>first | rfl | cases this
  | ref p =>
   obtain⟨a,rfl,ea⟩:=rx
   cases q:S1[p]? with
   | none=>simp[M.Z3,q] at h1;exact h1.elim
   | some o =>
    cases o with
    | lst xs =>
     simp only[M.Z3,q] at h1
     obtain⟨zs,e1,r⟩:=yd rp1 ea q
     refine⟨_,.inl ⟨zs,SqL.of e1,rfl⟩,zF.here (b:=!zs.isEmpty) h1 rp1 ?_⟩
     show (!xs.isEmpty)=_
     have:=r.length
     cases xs<;>cases zs<;>first | rfl | cases this
    | dct kvs =>
     simp only[M.Z3,q] at h1
     obtain⟨b,e1,zs,e2,r⟩:=rp1.obj _ _ q
     rw[ea] at e1;cases e1
     refine⟨_,.inr (.inr ⟨zs,e2,rfl⟩),zF.here (b:=!zs.isEmpty) h1 rp1 ?_⟩
     cases r<;>rfl
    | fdc _=>simp[M.Z3,q] at h1;exact h1.elim
    | dtt _=>simp[M.Z3,q] at h1;exact h1.elim
    | ins c fs=>simp[M.Z3,q] at h1;exact h1.elim
  | ty n=>exact h1.elim⟩
theorem Ze {X:Cx}{a:Expr}{ma:M.EM} (ha:WE X Θ a ma) (he:∀ whole,isTrue a X.env whole=(do let v <- whole;standAt a.pos;holding [v] (truthy v)):=by intro _;rfl):WT X Θ a (M.Zd ma):=by with_unfolding_all exact zKi (X:=X) (a:=a) (ma:=ma) ha he
inductive TyM (K:PySem.W.Frag) (H:Hp):V->String->Prop where
 | of {x:V}{A:String} (h:Zc K H x (.type A)):TyM K H x A
 | sqT {a:Addr}{xs:List V} (h:SqT K H a xs):TyM K H (.ref a) "tuple"
 | sqL {a:Addr}{xs:List V} (h:SqL K H a xs):TyM K H (.ref a) "list"
noncomputable def zHq (K:PySem.W.Frag):List V->Hp->VK->Prop:=fun xs H Q=>∃ x n A b,xs=[x,.ty n]/\TyM K H x A/\PySem.W.kitOne K (.type A) (.type n)=some b/\Q (.bl b) H
theorem zAi {X:Cx}:jh X (.builtin "isinstance") (zHq X.K):=by
 intro pins s σ H xs us Q I r h
 obtain⟨x,n,A,b,rfl,ty,e,q⟩:=h
 obtain⟨u,w',rfl,ru,rc⟩:=zLm r
 cases rc
 cases ty with
 | of h=>exact wpAny_with_toks (n:=1) I.tk (zGd I ru h e fun tk hk=>⟨.bl b,H,I.tok tk hk,rfl,q⟩)
 | sqT h =>
  cases ru
  obtain⟨its,_,⟨o,h1,h2,_⟩,_⟩:=I.tuple h
  exact wpAny_with_toks (n:=1) I.tk (PySem.W.kia_one PySem.W.kitx_tuple I.kIn ⟨o,h1,h2⟩ e (fun z=>nomatch z) fun tk hk=>⟨.bl b,H,I.tok tk hk,rfl,q⟩)
 | sqL h =>
  cases ru
  obtain⟨its,_,⟨o,n,h1,h2,_⟩,_⟩:=I.list h
  exact wpAny_with_toks (n:=1) I.tk (PySem.W.kia_one PySem.W.kitx_list I.kIn ⟨o,h1,h2⟩ e (fun z=>nomatch z) fun tk hk=>⟨.bl b,H,I.tok tk hk,rfl,q⟩)
theorem zI2 (n:M.Kd):PySem.W.kitOne K (.type "NoneType") (.type (qL n))=some false/\PySem.W.kitOne K (.type "bool") (.type (qL n))=some (match n with | .bool=>true | .int=>true | _=>false) /\
  PySem.W.kitOne K (.type "int") (.type (qL n))=some (match n with | .int=>true | _=>false)/\PySem.W.kitOne K (.type "str") (.type (qL n))=some (match n with | .str=>true | _=>false) /\
  PySem.W.kitOne K (.type "tuple") (.type (qL n))=some (match n with | .tuple=>true | _=>false)/\PySem.W.kitOne K (.type "list") (.type (qL n))=some (match n with | .list=>true | _=>false) /\
  PySem.W.kitOne K (.type "dict") (.type (qL n))=some (match n with | .dict=>true | _=>false):=by
 cases n<;>exact⟨Qc (by decide +kernel),Qc (by decide +kernel),Qc (by decide +kernel),Qc (by decide +kernel),Qc (by decide +kernel),Qc (by decide +kernel),Qc (by decide +kernel)⟩
theorem zDG:AdN K Θ M.Jw (zHq K):=by
 intro ρ H S xs Xs Q rp rx h
 match xs,rx,h with
 | [x,.ty n],rx,h =>
  obtain⟨v,_,rfl,rv,_,_,rfl,rfl,rfl⟩:=rx
  obtain⟨k1,k2,k3,k4,k5,k6,k7⟩:=zI2 (K:=K) n
  have fin:∀ {A:String}{b:Bool},M.ZY n x S=.ok b S->TyM K H v A->PySem.W.kitOne K (.type A) (.type (qL n))=some b->zHq K [v,.ty (qL n)] H Q:=fun {A b} e ty k=>by
   have h':zF K Θ (zK K) ρ H ((M.ZY n x S).bind fun b s=>.ok (.bl b) s) Q:=h
   rw[e] at h'
   exact⟨v,qL n,A,b,rfl,ty,k,zF.here (b:=V.bl b) h' rp rfl⟩
  cases x with
  | non=>cases rv;exact fin rfl (.of .non) k1
  | bl b=>cases rv;exact fin rfl (.of (.bl b)) k2
  | int i=>cases rv;exact fin rfl (.of (.int i)) k3
  | str z=>obtain⟨rfl,_⟩:=rv;exact fin rfl (.of (.str _)) k4
  | tup ds=>obtain⟨l,ys,rfl,hq,r⟩:=rv;exact fin rfl (.sqT hq) k5
  | ro ds=>obtain⟨l,ys,rfl,hq,r⟩:=rv;exact fin rfl (.sqL hq.sq) k6
  | ty m=>exact h.elim
  | ref p =>
   obtain⟨a,rfl,ea⟩:=rv
   cases q:S[p]? with
   | none=>simp[M.Jw,M.ZY,q] at h;exact h.elim
   | some o =>
    cases o with
    | lst xs =>
     obtain⟨zs,e1,r⟩:=yd rp ea q
     refine fin ?_ (.sqL (SqL.of e1)) k6
     simp only[M.ZY,q]<;>(cases n<;>rfl)
    | dct kvs =>
     obtain⟨b,e1,zs,e2,r⟩:=rp.obj _ _ q
     rw[ea] at e1;cases e1
     refine fin ?_ (.of (.dK e2)) k7
     simp only[M.ZY,q]<;>(cases n<;>rfl)
    | fdc _=>simp[M.Jw,M.ZY,q] at h;exact h.elim
    | dtt _=>simp[M.Jw,M.ZY,q] at h;exact h.elim
    | ins c fs=>simp[M.Jw,M.ZY,q] at h;exact h.elim
 | [_,.non],_,h=>exact h.elim
 | [_,.bl _],_,h=>exact h.elim
 | [_,.int _],_,h=>exact h.elim
 | [_,.str _],_,h=>exact h.elim
 | [_,.tup _],_,h=>exact h.elim
 | [_,.ro _],_,h=>exact h.elim
 | [_,.ref _],_,h=>exact h.elim
 | [],_,h=>exact h.elim
 | [_],_,h=>exact h.elim
 | _::b::_::_,_,h=>cases b<;>exact h.elim
noncomputable def ofP:M.P->PyData
 | .non=>.none
 | .bl b=>.bool b
 | .int i=>.int i
 | .str x=>.str (ofT x)
 | .tup ps=>.tuple (all ps)
 | .lst ps=>.list (all ps)
where all:List M.P->List PyData
 | []=>[]
 | p::ps=>ofP p::all ps
theorem zE3 (x y:M.T):(ofT x == ofT y)=(x == y):=by
 by_cases h:x=y
 ·subst h;simp
 ·rw[beq_eq_false_iff_ne.mpr h,beq_eq_false_iff_ne.mpr fun e=>h (JJ e)]
mutual
theorem zB2:∀ p q:M.P,PyData.eqv (ofP p) (ofP q)=M.P.eqv p q
 | .non,.non=>rfl
 | .non,.bl _=>rfl
 | .non,.int _=>rfl
 | .non,.str _=>rfl
 | .non,.tup _=>rfl
 | .non,.lst _=>rfl
 | .bl _,.non=>rfl
 | .bl _,.bl _=>rfl
 | .bl _,.int _=>rfl
 | .bl _,.str _=>rfl
 | .bl _,.tup _=>rfl
 | .bl _,.lst _=>rfl
 | .int _,.non=>rfl
 | .int _,.bl _=>rfl
 | .int _,.int _=>rfl
 | .int _,.str _=>rfl
 | .int _,.tup _=>rfl
 | .int _,.lst _=>rfl
 | .str _,.non=>rfl
 | .str _,.bl _=>rfl
 | .str _,.int _=>rfl
 | .str x,.str y=>zE3 x y
 | .str _,.tup _=>rfl
 | .str _,.lst _=>rfl
 | .tup _,.non=>rfl
 | .tup _,.bl _=>rfl
 | .tup _,.int _=>rfl
 | .tup _,.str _=>rfl
 | .tup ps,.tup qs=>zAv ps qs
 | .tup _,.lst _=>rfl
 | .lst _,.non=>rfl
 | .lst _,.bl _=>rfl
 | .lst _,.int _=>rfl
 | .lst _,.str _=>rfl
 | .lst _,.tup _=>rfl
 | .lst ps,.lst qs=>zAv ps qs
theorem zAv:∀ ps qs:List M.P,PyData.eqvAll (ofP.all ps) (ofP.all qs)=M.P.eqvs ps qs
 | [],[]=>rfl
 | [],_::_=>rfl
 | _::_,[]=>rfl
 | p::ps,q::qs=>by
  show (PyData.eqv (ofP p) (ofP q) && PyData.eqvAll (ofP.all ps) (ofP.all qs))=(M.P.eqv p q && M.P.eqvs ps qs)
  rw[zB2 p q,zAv ps qs]
end
mutual
theorem Q5:∀ p:M.P,PyData.depth (ofP p)=M.P.dep p
 | .non=>rfl
 | .bl _=>rfl
 | .int _=>rfl
 | .str _=>rfl
 | .tup ps=>by show PyData.depthAll (ofP.all ps)+1=M.P.deps ps+1;rw[zAk ps]
 | .lst ps=>by show PyData.depthAll (ofP.all ps)+1=M.P.deps ps+1;rw[zAk ps]
theorem zAk:∀ ps:List M.P,PyData.depthAll (ofP.all ps)=M.P.deps ps
 | []=>rfl
 | p::ps=>by show max (PyData.depth (ofP p)) (PyData.depthAll (ofP.all ps))=max (M.P.dep p) (M.P.deps ps);rw[Q5 p,zAk ps]
end
section
variable {ρ:List Addr}{H:Hp}
mutual
theorem zFh {g:Nat->Option M.P} (hg:∀ i p v,g i=some p->zK K ρ H (.ref i) v->j4 K H v (ofP p)/\(ofP p).canLay0=true):∀ {d:M.D}{p:M.P}{v:V},M.qK g d=some p->zK K ρ H d v->j4 K H v (ofP p)/\(ofP p).canLay0=true
 | .non,_,_,e,r=>by cases e;cases r;exact⟨.non,rfl⟩
 | .bl _,_,_,e,r=>by cases e;cases r;exact⟨.bl _,rfl⟩
 | .int _,_,_,e,r=>by cases e;cases r;exact⟨.int _,rfl⟩
 | .str x,_,_,e,r=>by
  cases e
  obtain⟨rfl,ok⟩:=r
  refine⟨.str _,?_⟩
  show PyData.strOk (ofT x)=true
  unfold PyData.strOk ofT
  have ok':x.all (fun c=>decide (c < 1114112))=true:=ok
  simpa using ok'
 | .tup ds,_,_,e,r=>by
  obtain⟨l,xs,rfl,hq,rr⟩:=r
  have e':(M.qK.all g ds).map M.P.tup=some _:=e
  cases q:M.qK.all g ds with
  | none=>rw[q] at e';cases e'
  | some ps =>
   rw[q] at e'
   cases e'
   obtain⟨h1,h2⟩:=zBN hg q rr
   exact⟨.tup hq h1,h2⟩
 | .ro ds,_,_,e,r=>by
  obtain⟨l,xs,rfl,hq,rr⟩:=r
  have e':(M.qK.all g ds).map M.P.lst=some _:=e
  cases q:M.qK.all g ds with
  | none=>rw[q] at e';cases e'
  | some ps =>
   rw[q] at e'
   cases e'
   obtain⟨h1,h2⟩:=zBN hg q rr
   exact⟨.lst hq.sq h1,h2⟩
 | .ref i,_,_,e,r=>hg i _ _ e r
 | .ty _,_,_,e,_=>by cases e
theorem zBN {g:Nat->Option M.P} (hg:∀ i p v,g i=some p->zK K ρ H (.ref i) v->j4 K H v (ofP p)/\(ofP p).canLay0=true):∀ {ds:List M.D}{ps:List M.P}{xs:List V},M.qK.all g ds=some ps->zL K ρ H ds xs->yl K H xs (ofP.all ps)/\PyData.canLayAll0 (ofP.all ps)=true
 | [],_,_,e,r=>by cases e;cases r;exact⟨.nil,rfl⟩
 | d::ds,_,_,e,r=>by
  obtain⟨y,ys,rfl,r1,r2⟩:=r
  have e':(match M.qK g d,M.qK.all g ds with | some p,some ps=>some (p::ps) | _,_=>none)=some _:=e
  cases q1:M.qK g d with
  | none=>rw[q1] at e';cases e'
  | some p =>
   cases q2:M.qK.all g ds with
   | none=>rw[q1,q2] at e';cases e'
   | some ps =>
    rw[q1,q2] at e'
    cases e'
    obtain⟨h1,h2⟩:=zFh hg q1 r1
    obtain⟨h3,h4⟩:=zBN hg q2 r2
    refine⟨.cons h1 h3,?_⟩
    show (PyData.canLay0 (ofP p) && PyData.canLayAll0 (ofP.all ps))=true
    rw[h2,h4];rfl
end
theorem J7 {S:M.S} (rp:zW K Θ ρ S H):∀ (n:Nat) {d:M.D}{p:M.P}{v:V},M.toP n S d=some p->zK K ρ H d v->j4 K H v (ofP p)/\(ofP p).canLay0=true
 | 0,_,_,_,e,r=>zFh (fun i p v e _=>by cases e) e r
 | n+1,_,_,_,e,r=>zFh (fun i p v e r=>by
   obtain⟨a,rfl,ea⟩:=r
   have e':(match M.jD S i with | some xs=>(M.qK.all (fun j=>M.toP n S (.ref j)) xs).map M.P.lst | none=>none)=some p:=e
   cases q:S[i]? with
   | none=>simp[M.jD,q] at e'
   | some o =>
    cases o with
    | lst xs =>
     simp only[M.jD,q] at e'
     obtain⟨zs,e1,rr⟩:=yd rp ea q
     cases q2:M.qK.all (fun j=>M.toP n S (.ref j)) xs with
     | none=>rw[q2] at e';cases e'
     | some ps =>
      rw[q2] at e'
      cases e'
      obtain⟨h1,h2⟩:=zBN (fun j p v e r=>J7 rp n e r) q2 rr
      exact⟨.lst (SqL.of e1) h1,h2⟩
    | dct kvs=>simp[M.jD,q] at e'
    | fdc _=>simp[M.jD,q] at e'
    | dtt _=>simp[M.jD,q] at e'
    | ins c fs=>simp[M.jD,q] at e') e r
end
noncomputable abbrev DR (K:PySem.W.Frag) (ρ:List Addr) (H:Hp):List (M.D×M.D)->List (Key×V)->Prop:=Paired fun p q=>Zw p.1 q.1/\zK K ρ H p.2 q.2
theorem zAx {d e:M.D}{a b:Key} (ha:Zw d a) (hb:Zw e b):(a=b)=(d=e):=by
 cases d with
 | int i =>
  cases ha
  cases e with
  | int j=>cases hb;exact propext ⟨fun z=>by cases z;rfl,fun z=>by cases z;rfl⟩
  | str y=>obtain⟨rfl,_⟩:=hb;exact propext ⟨fun z=>(nomatch z),fun z=>(nomatch z)⟩
  | _=>exact hb.elim
 | str x =>
  obtain⟨rfl,_⟩:=ha
  cases e with
  | int j=>cases hb;exact propext ⟨fun z=>(nomatch z),fun z=>(nomatch z)⟩
  | str y=>obtain⟨rfl,_⟩:=hb;exact propext ⟨fun z=>by rw[JJ (Sum.inr.inj z)],fun z=>by cases z;rfl⟩
  | _=>exact hb.elim
 | _=>exact ha.elim
theorem JI {ρ:List Addr}{H:Hp}{d:M.D}{v:V} (h:M.ZG d=true) (r:zK K ρ H d v):∃ k,Zw d k/\v=kV k:=by
 cases d with
 | int i=>cases r;exact⟨.inl i,rfl,rfl⟩
 | str x=>obtain⟨rfl,ok⟩:=r;exact⟨.inr (ofT x),⟨rfl,ok⟩,rfl⟩
 | _=>cases h
section
variable {ρ:List Addr}{H:Hp}{kvs:List (M.D×M.D)}{ks:List (Key×V)}{d:M.D}{k:Key}
theorem DR.val (r:DR K ρ H kvs ks) (hk:Zw d k):match M.jR d kvs with | some e=>∃ v,yL ks k=some v/\zK K ρ H e v | none=>yL ks k=none:=by
 induction r with
 | nil=>exact rfl
 | @cons p q ps qs h t ih =>
  have e:=zAx h.1 hk
  by_cases hd:p.1=d
  ·have hq:q.1=k:=e.mpr hd
   rw[JS hq,M.jR,List.lookup_cons,beq_iff_eq.mpr hd.symm]
   exact⟨_,rfl,h.2⟩
  ·have hq:¬ q.1=k:=fun z=>hd (e.mp z)
   rw[JZ hq,M.jR,List.lookup_cons,beq_eq_false_iff_ne.mpr (Ne.symm hd)]
   exact ih
theorem DR.any (r:DR K ρ H kvs ks) (hk:Zw d k):(ks.any fun kv=>decide (kv.1=k))=kvs.any fun kv=>decide (kv.1=d):=by
 induction r with
 | nil=>rfl
 | @cons p q ps qs h t ih =>
  rw[List.any_cons,List.any_cons,ih]
  congr 1
  exact decide_eq_decide.mpr (zAx h.1 hk ▸ Iff.rfl)
theorem DR.put (r:DR K ρ H kvs ks) (hk:Zw d k) {e:M.D}{v:V} (rv:zK K ρ H e v):DR K ρ H (M.QW d e kvs) (ZI ks k v):=by
 unfold M.QW ZI
 rw[r.any hk]
 by_cases ha:(kvs.any fun kv=>decide (kv.1=d))=true
 ·rw[if_pos ha,if_pos ha]
  clear ha
  induction r with
  | nil=>exact .nil
  | @cons p q ps qs h t ih =>
   rw[List.map_cons,List.map_cons]
   refine .cons ?_ ih
   have eq:=zAx h.1 hk
   by_cases hd:p.1=d
   ·rw[if_pos hd,if_pos (eq.mpr hd)];exact⟨h.1,rv⟩
   ·rw[if_neg hd,if_neg fun z=>hd (eq.mp z)];exact h
 ·rw[if_neg ha,if_neg ha]
  exact Paired.snoc r ⟨hk,rv⟩
end
theorem JA {ρ:List Addr}{S:M.S}{H:Hp} (rp:zW K Θ ρ S H) {i:Nat}{a:Addr} (ha:ρ[i]? = some a) {kvs:List (M.D×M.D)} (q:S[i]? = some (.dct kvs)):∃ ks,H a=some (.dK ks)/\DR K ρ H kvs ks:=by
 obtain⟨b,e1,zs,e2,r⟩:=rp.obj i _ q
 rw[ha] at e1;cases e1
 exact⟨zs,e2,r⟩
theorem zGN {ρ:List Addr}{S:M.S}{H:Hp} (rp:zW K Θ ρ S H) {i:Nat}{a:Addr} (ha:ρ[i]? = some a) {kvs:List (M.D×M.D)} (q:S[i]? = some (.fdc kvs)):∃ o ks,H a=some (.frz o (.dK ks))/\DR K ρ H kvs ks:=by
 obtain⟨b,e1,o,zs,e2,r⟩:=rp.obj i _ q
 rw[ha] at e1;cases e1
 exact⟨o,zs,e2,r⟩
inductive Zr (K:PySem.W.Frag) (H:Hp) (kb:List (Key×V)):List (Key×V)->Bool->Prop where
 | nil:Zr K H kb [] true
 | miss {k:Key}{v:V}{r:List (Key×V)} (h:yL kb k=none):Zr K H kb ((k,v)::r) false
 | hit {k:Key}{v y:V}{r:List (Key×V)}{d e:PyData}{b:Bool} (h:yL kb k=some y) (hd:j4 K H v d) (he:j4 K H y e) (sd:SeqAt.shaped d=true) (se:SeqAt.shaped e=true) (t:Zr K H kb r b):Zr K H kb ((k,v)::r) (PyData.eqv d e && b)
noncomputable def zIS (neg:Bool) (K:PySem.W.Frag):R2:=fun x y H Q=>∃ a b ka kb r,x=.ref a/\y=.ref b/\H a=some (.dK ka)/\H b=some (.dK kb)/\(ka.length=kb.length->Zr K H kb ka r)/\Q (.bl (if neg then !(ka.length == kb.length && r) else (ka.length == kb.length && r))) H
theorem zBx {X:Cx}{pins:List (Addr×Obj)}{σ:St}{H:Hp}{s:Shared}{A:Around} (I:Inv X pins σ H s) (hu:A.units+64 < cLine) {kb:List (Key×V)}{vb:List (Key×Value)} (rb:KV kb vb):∀ {ka:List (Key×V)}{va:List (Key×Value)}{r:Bool},KV ka va->Zr X.K H kb ka r->PySem.W.KeqHits A s vb va r
 | _,_,_,ra,.nil=>by cases ra;exact .nil
 | _,_,_,ra,.miss h=>by
  cases ra with
  | @cons p q ps qs h1 t =>
   obtain⟨k,v⟩:=q
   have hk:_=k:=h1.1
   have hv:=rb.val k
   rw[<- hk,h] at hv
   refine .miss ?_
   rw[<- hk]
   cases q2:valueAt vb _ with
   | none=>rfl
   | some w=>rw[q2] at hv;exact hv.elim
 | _,_,_,ra,.hit h hd he sd se t=>by
  cases ra with
  | @cons p q ps qs h1 t1 =>
   obtain⟨k,v⟩:=q
   have hk:_=k:=h1.1
   have hv:=rb.val k
   rw[<- hk,h] at hv
   cases q2:valueAt vb k with
   | none=>rw[hk,q2] at hv;exact hv.elim
   | some w =>
    rw[hk,q2] at hv
    obtain⟨as,r1⟩:=hd.reads I h1.2
    obtain⟨bs,r2⟩:=he.reads I hv
    exact .hit q2 (SeqAt.eqAt_reads _ _ A s _ _ as bs r1 r2 (SeqAt.canLay_of_shaped sd) (SeqAt.canLay_of_shaped se) (SeqAt.room_of_shaped sd hu)) (zBx I hu rb t1 t)
theorem zKA {X:Cx}{k:Nat} (hr:zt k X.A):OpR X (compareOp .Eq) (zIS false X.K):=by
 intro pins s σ H x y v u Q I rx ry h
 obtain⟨a,b,ka,kb,r,rfl,rfl,ha,hb,hh,q⟩:=h
 cases rx;cases ry
 obtain⟨za,la,va,ra,da⟩:=zAK I.hok ha
 obtain⟨zb,lb,vb,rb,db⟩:=zAK I.hok hb
 refine PySem.W.keq_eq la lb da db hr.units0 (fun e=>zBx I (by show X.A.units+1+64 < _;have:=hr.un;omega) rb ra (hh (by rw[ra.length,rb.length];exact e))) ⟨.bl _,H,I,rfl,?_⟩
 rw[<- ra.length,<- rb.length]
 exact q
theorem zK0 {X:Cx}{k:Nat} (hr:zt k X.A):OpR X (compareOp .NotEq) (zIS true X.K):=by
 intro pins s σ H x y v u Q I rx ry h
 obtain⟨a,b,ka,kb,r,rfl,rfl,ha,hb,hh,q⟩:=h
 cases rx;cases ry
 obtain⟨za,la,va,ra,da⟩:=zAK I.hok ha
 obtain⟨zb,lb,vb,rb,db⟩:=zAK I.hok hb
 refine PySem.W.keq_ne la lb da db hr.units0 (fun e=>zBx I (by show X.A.units+1+64 < _;have:=hr.un;omega) rb ra (hh (by rw[ra.length,rb.length];exact e))) ⟨.bl _,H,I,rfl,?_⟩
 rw[<- ra.length,<- rb.length]
 exact q
theorem zEK {ρ:List Addr}{H:Hp}{S:M.S} (rp:zW K Θ ρ S H) {ws:List (M.D×M.D)}{kb:List (Key×V)} (rb:DR K ρ H ws kb):∀ {ks:List (M.D×M.D)}{ka:List (Key×V)}{b:Bool},DR K ρ H ks ka->M.dEq S ws ks=some b->Zr K H kb ka b
 | _,_,_,.nil,e=>by cases e;exact .nil
 | (k,v)::ks,(kk,vv)::ka,b,.cons h t,e=>by
  have hv:=DR.val rb h.1
  unfold M.dEq at e
  cases q:M.jR k ws with
  | none =>
   rw[q] at e hv
   cases e
   exact .miss hv
  | some w =>
   rw[q] at e hv
   obtain⟨y,hy,ry⟩:=hv
   dsimp only at e
   cases q1:M.toP 8 S v with
   | none=>rw[q1] at e;cases e
   | some p1 =>
    cases q2:M.toP 8 S w with
    | none=>rw[q1,q2] at e;cases e
    | some p2 =>
     cases q3:M.dEq S ws ks with
     | none=>rw[q1,q2,q3] at e;cases e
     | some b' =>
      rw[q1,q2,q3] at e
      dsimp only at e
      by_cases hc:M.P.dep p1 <= 64/\M.P.dep p2 <= 64
      ·rw[if_pos hc] at e
       cases e
       obtain⟨d1,c1⟩:=J7 rp _ q1 h.2
       obtain⟨d2,c2⟩:=J7 rp _ q2 ry
       rw[<- zB2]
       refine .hit hy d1 d2 ?_ ?_ (zEK rp rb t q3)
       ·unfold SeqAt.shaped;rw[c1,Bool.true_and,Q5];exact decide_eq_true hc.1
       ·unfold SeqAt.shaped;rw[c2,Bool.true_and,Q5];exact decide_eq_true hc.2
      ·rw[if_neg hc] at e;cases e
theorem zDs {ρ:List Addr}{H:Hp}{S:M.S}{x y:M.D}{X1 Y:V}{Q':Bool->Hp->Prop} (rp:zW K Θ ρ S H) (rx:zK K ρ H x X1) (ry:zK K ρ H y Y) (h:zF K Θ rB ρ H (M.zC4 x y S) Q') :
  ∃ a b ka kb r,X1=.ref a/\Y=.ref b/\H a=some (.dK ka)/\H b=some (.dK kb)/\(ka.length=kb.length->Zr K H kb ka r)/\Q' (ka.length == kb.length && r) H:=by
 unfold M.zC4 at h
 split at h
 ·rename_i i j
  split at h
  ·rename_i ks ws e1 e2
   obtain⟨a,rfl,ha⟩:=rx
   obtain⟨b,rfl,hb⟩:=ry
   obtain⟨ka,h1,r1⟩:=JA rp ha e1
   obtain⟨kb,h2,r2⟩:=JA rp hb e2
   have l1:=Paired.length r1
   have l2:=Paired.length r2
   split at h
   ·rename_i hl
    split at h
    ·rename_i bb q
     refine⟨a,b,ka,kb,bb,rfl,rfl,h1,h2,fun _=>zEK rp r2 r1 q,?_⟩
     rw[show (ka.length == kb.length)=true by rw[beq_iff_eq];omega,Bool.true_and]
     exact zF.here (b:=bb) h rp rfl
    ·exact h.elim
   ·rename_i hl
    refine⟨a,b,ka,kb,false,rfl,rfl,h1,h2,fun e=>absurd (by omega) hl,?_⟩
    rw[Bool.and_false]
    exact zF.here (b:=false) h rp rfl
  ·exact h.elim
 ·exact h.elim
noncomputable def zFO (K:PySem.W.Frag) (neg:Bool):R2:=fun x y H Q=>(zCD x y=true/\Q (.bl (if neg then !decide (x=y) else decide (x=y))) H)\/zHj K neg x y H Q\/zIS neg K x y H Q
theorem qF {X:Cx}{k:Nat} (hr:zt k X.A):OpR X (compareOp .Eq) (zFO X.K false):=by
 intro pins s σ H x y v u Q I rx ry h
 rcases h with h | h | h
 ·exact zLk pins s σ H x y v u Q I rx ry h
 ·exact zLF hr pins s σ H x y v u Q I rx ry h
 ·exact zKA hr pins s σ H x y v u Q I rx ry h
theorem zLW {X:Cx}{k:Nat} (hr:zt k X.A):OpR X (compareOp .NotEq) (zFO X.K true):=by
 intro pins s σ H x y v u Q I rx ry h
 rcases h with h | h | h
 ·exact zL4 pins s σ H x y v u Q I rx ry h
 ·exact zKZ hr pins s σ H x y v u Q I rx ry h
 ·exact zK0 hr pins s σ H x y v u Q I rx ry h
theorem zEm {ρ:List Addr}{H:Hp}{S:M.S}{x y:M.D}{X1 Y:V}{Q':Bool->Hp->Prop} (rp:zW K Θ ρ S H) (rx:zK K ρ H x X1) (ry:zK K ρ H y Y) (h:zF K Θ rB ρ H (M.eqD x y S) Q') :
  (zCD X1 Y=true/\Q' (decide (X1=Y)) H)\/(∃ d e,j4 K H X1 d/\j4 K H Y e/\SeqAt.shaped d=true/\SeqAt.shaped e=true/\Q' (PyData.eqv d e) H)\/∃ a b ka kb r,X1=.ref a/\Y=.ref b/\H a=some (.dK ka)/\H b=some (.dK kb)/\(ka.length=kb.length->Zr K H kb ka r)/\Q' (ka.length == kb.length && r) H:=by
 have gen:∀ {p q:M.P},M.toP M.Qt S x=some p->M.toP M.Qt S y=some q->M.P.dep p <= 64/\M.P.dep q <= 64->Q' (M.P.eqv p q) H->∃ d e,j4 K H X1 d/\j4 K H Y e/\SeqAt.shaped d=true/\SeqAt.shaped e=true/\Q' (PyData.eqv d e) H:=fun {p q} e1 e2 hd hq=>by
  obtain⟨d1,c1⟩:=J7 rp _ e1 rx
  obtain⟨d2,c2⟩:=J7 rp _ e2 ry
  refine⟨_,_,d1,d2,?_,?_,by rw[zB2];exact hq⟩
  ·unfold SeqAt.shaped;rw[c1,Bool.true_and,Q5];exact decide_eq_true hd.1
  ·unfold SeqAt.shaped;rw[c2,Bool.true_and,Q5];exact decide_eq_true hd.2
 have qE:zF K Θ rB ρ H (match M.toP M.Qt S x,M.toP M.Qt S y with
   | some p,some q=>if M.P.dep p <= 64/\M.P.dep q <= 64 then M.R.ok (M.P.eqv p q) S else .no
   | _,_=>M.zC4 x y S) Q'->(∃ d e,j4 K H X1 d/\j4 K H Y e/\SeqAt.shaped d=true/\SeqAt.shaped e=true/\Q' (PyData.eqv d e) H)\/∃ a b ka kb r,X1=.ref a/\Y=.ref b/\H a=some (.dK ka)/\H b=some (.dK kb)/\(ka.length=kb.length->Zr K H kb ka r)/\Q' (ka.length == kb.length && r) H:=fun h'=>by
  cases e1:M.toP M.Qt S x with
  | none=>rw[e1] at h';exact .inr (zDs rp rx ry h')
  | some p =>
   cases e2:M.toP M.Qt S y with
   | none=>rw[e1,e2] at h';exact .inr (zDs rp rx ry h')
   | some q =>
    rw[e1,e2] at h'
    dsimp only at h'
    by_cases hc:M.P.dep p <= 64/\M.P.dep q <= 64
    ·rw[if_pos hc] at h';exact .inl <| gen e1 e2 hc (zF.here (b:=M.P.eqv p q) h' rp rfl)
    ·rw[if_neg hc] at h';exact h'.elim
 have sc:∀ {b:Bool},zCD X1 Y=true->decide (X1=Y)=b->M.eqD x y S=.ok b S->(zCD X1 Y=true/\Q' (decide (X1=Y)) H):=fun {b} h1 h2 h3=>by
  rw[h3] at h
  rw[h2]
  exact⟨h1,zF.here (b:=b) h rp rfl⟩
 cases x with
 | str a =>
  cases y with
  | str b =>
   obtain⟨rfl,_⟩:=rx
   obtain⟨rfl,_⟩:=ry
   refine .inl (sc rfl ?_ rfl)
   by_cases hab:a=b
   ·subst hab;simp
   ·rw[decide_eq_false hab,decide_eq_false fun e=>hab (JJ (V.str.inj e))]
  | _=>exact .inr (qE h)
 | int a =>
  cases y with
  | int b =>
   cases rx;cases ry
   refine .inl (sc rfl ?_ rfl)
   by_cases hab:a=b
   ·subst hab;simp
   ·rw[decide_eq_false hab,decide_eq_false fun e=>hab (V.int.inj e)]
  | _=>exact .inr (qE h)
 | bl a =>
  cases y with
  | bl b =>
   cases rx;cases ry
   refine .inl (sc rfl ?_ rfl)
   by_cases hab:a=b
   ·subst hab;simp
   ·rw[decide_eq_false hab,decide_eq_false fun e=>hab (V.bl.inj e)]
  | _=>exact .inr (qE h)
 | non =>
  cases y with
  | non=>cases rx;cases ry;exact .inl (sc rfl rfl rfl)
  | _=>exact .inr (qE h)
 | _=>exact .inr (qE h)
theorem qh:AdC K Θ M.cEq (zFO K false):=by
 intro ρ H S x y X1 Y Q rp rx ry h
 rcases zEm rp rx ry h with h | ⟨d,e,h1,h2,h3,h4,h5⟩ | ⟨a,b,ka,kb,r,h⟩
 ·exact .inl h
 ·exact .inr (.inl ⟨d,e,h1,h2,h3,h4,h5⟩)
 ·exact .inr (.inr ⟨a,b,ka,kb,r,h⟩)
theorem zLp:AdC K Θ M.cNe (zFO K true):=by
 intro ρ H S x y X1 Y Q rp rx ry h
 have h':zF K Θ rB ρ H (M.eqD x y S) (fun b H'=>Q (.bl (!b)) H'):=zF.bind h fun ρ1 H1 b b' S1 p1 l1 rp1 e h1=>by cases e;exact zF.here (b:=!b) h1 rp1 rfl
 rcases zEm rp rx ry h' with h | ⟨d,e,h1,h2,h3,h4,h5⟩ | ⟨a,b,ka,kb,r,h⟩
 ·exact .inl h
 ·exact .inr (.inl ⟨d,e,h1,h2,h3,h4,h5⟩)
 ·exact .inr (.inr ⟨a,b,ka,kb,r,h⟩)
end
end L2
namespace L2
open PySem PySem.Spec PyProof.Rows
section
variable {K:PySem.W.Frag}{Θ:Tab}
theorem Q3 (n d:Nat) (o:Option Int):M.sIx n d o=HT.sIx n d o:=by
 cases o with
 | none=>rfl
 | some v =>
  have:=HT.zB5 v n d
  show (if v < 0 then max (v+(n:Int)) 0 else min v (n:Int)).toNat=_
  rw[this];simp
theorem zIz {x:M.T}{lo hi:Option Int}:∀ c∈M.cut x lo hi,c∈x:=fun c hc=>List.mem_of_mem_drop (List.mem_of_mem_take hc)
theorem zBz {ρ:List Addr}{H:Hp}{ds:List M.D}{xs:List V} (r:zL K ρ H ds xs) (lo hi:Option Int):zL K ρ H (M.cut ds lo hi) (Qx xs lo hi):=by
 unfold M.cut Qx
 rw[Q3,Q3,r.length]
 exact (r.drop _).take _
theorem zLf:∀ ρ H S x X1 l u Q,zW K Θ ρ S H->zK K ρ H x X1->zF K Θ (zK K) ρ H (M.slD x l u S) Q->uSl K X1 l u H Q:=by
 intro ρ H S x X1 l u Q rp rx h
 cases x with
 | str z =>
  obtain⟨rfl,ok⟩:=rx
  by_cases hz:z.length <= M.SZ
  ·simp only[M.slD,if_pos hz] at h
   refine⟨by rw[jq,<- yc];exact hz,zF.here h rp ⟨?_,Q9 ok zIz⟩⟩
   show V.str (zB9 (ofT z) l u)=V.str (ofT (M.cut z l u))
   unfold zB9 M.cut ofT
   have e:(⟨z.toArray⟩:Str).length=z.length:=by simp[Str.length]
   rw[e,Q3,Q3]
  ·simp only[M.slD,if_neg hz] at h;exact h.elim
 | tup ds =>
  obtain⟨a,xs,rfl,hq,r⟩:=rx
  by_cases hc:M.sIx ds.length 0 l=0/\M.sIx ds.length ds.length u=ds.length
  ·simp only[M.slD,if_pos hc] at h;exact h.elim
  ·simp only[M.slD,if_neg hc] at h
   refine .inr ⟨xs,hq,?_,fun p hp=>h ρ _ _ (List.prefix_refl _) (Le.new hp _) (rp.aside hp _) ⟨p,_,rfl,SqT.of jX,(zBz r l u).mono (List.prefix_refl _) (Le.new hp _)⟩⟩
   rw[Q3,Q3,r.length] at hc
   exact hc
 | ro ds =>
  obtain⟨a,xs,rfl,hq,r⟩:=rx
  exact .inl ⟨xs,hq.sq,fun p hp=>zF.alloc h rp (zBz r l u) hp⟩
 | ref p =>
  obtain⟨a,rfl,ea⟩:=rx
  cases q:S[p]? with
  | none=>simp[M.slD,M.jD,q] at h;exact h.elim
  | some o =>
   cases o with
   | lst xs =>
    simp only[M.slD,M.jD,q] at h
    obtain⟨zs,e1,r⟩:=yd rp ea q
    exact .inl ⟨zs,SqL.of e1,fun p hp=>zF.alloc h rp (zBz r l u) hp⟩
   | dct kvs=>simp[M.slD,M.jD,q] at h;exact h.elim
   | fdc _=>simp[M.slD,M.jD,q] at h;exact h.elim
   | dtt _=>simp[M.slD,M.jD,q] at h;exact h.elim
   | ins c fs=>simp[M.slD,M.jD,q] at h;exact h.elim
 | _=>exact h.elim
theorem zCU {ρ:List Addr}{H:Hp}:∀ {ds:List M.D}{ys:List V}{bs:List Bool},M.Qe ds=some bs->zL K ρ H ds ys->ys=bs.map V.bl
 | [],_,_,e,r=>by cases e;cases r;rfl
 | .bl b::ds,_,_,e,r=>by
  obtain⟨y,ys,rfl,r1,r2⟩:=r
  cases r1
  have e':(M.Qe ds).map (b :: ·)=some _:=e
  cases q:M.Qe ds with
  | none=>rw[q] at e';cases e'
  | some cs=>rw[q] at e';cases e';rw[zCU q r2];rfl
 | .non::_,_,_,e,_=>by cases e
 | .int _::_,_,_,e,_=>by cases e
 | .str _::_,_,_,e,_=>by cases e
 | .tup _::_,_,_,e,_=>by cases e
 | .ro _::_,_,_,e,_=>by cases e
 | .ref _::_,_,_,e,_=>by cases e
 | .ty _::_,_,_,e,_=>by cases e
theorem zJJ:AdK K Θ M.zA3 (zKS K):=by
 intro ρ H S ds ys p Q rp r hq h
 cases e:M.Qe ds with
 | none=>simp only[M.zA3,e] at h;exact h.elim
 | some bs =>
  simp only[M.zA3,e] at h
  have:=zCU e r
  subst this
  exact⟨p,bs,rfl,hq,zF.here (b:=V.bl (bs.all id)) h rp rfl⟩
theorem zCi {ρ:List Addr}{H:Hp}:∀ {ds:List M.D}{ys:List V}{ts:List M.T},M.Qi ds=some ts->zL K ρ H ds ys->ys=(ts.map ofT).map V.str/\∀ t∈ts,okT t
 | [],_,_,e,r=>by cases e;cases r;exact⟨rfl,fun t h=>by cases h⟩
 | .str x::ds,_,_,e,r=>by
  obtain⟨y,ys,rfl,r1,r2⟩:=r
  obtain⟨rfl,ok⟩:=r1
  have e':(M.Qi ds).map (x :: ·)=some _:=e
  cases q:M.Qi ds with
  | none=>rw[q] at e';cases e'
  | some cs =>
   rw[q] at e'
   cases e'
   obtain⟨h1,h2⟩:=zCi q r2
   refine⟨by rw[h1];rfl,fun t ht=>?_⟩
   rcases List.mem_cons.mp ht with rfl | ht
   ·exact ok
   ·exact h2 t ht
 | .non::_,_,_,e,_=>by cases e
 | .int _::_,_,_,e,_=>by cases e
 | .bl _::_,_,_,e,_=>by cases e
 | .tup _::_,_,_,e,_=>by cases e
 | .ro _::_,_,_,e,_=>by cases e
 | .ref _::_,_,_,e,_=>by cases e
 | .ty _::_,_,_,e,_=>by cases e
theorem zCa (x:M.T):∀ (ys:List M.T) (acc:M.T),((ys.map ofT).foldl (fun acc p=>acc++(ofT x).cps++p.cps) acc.toArray)=(acc++(ys.map (x ++ ·)).flatten).toArray
 | [],acc=>by simp
 | y::ys,acc=>by
  rw[List.map_cons,List.foldl_cons]
  have e:acc.toArray++(ofT x).cps++(ofT y).cps=(acc++x++y).toArray:=by simp[ofT]
  rw[e,zCa x ys]
  simp
theorem zBh (x y:M.T):∀ ys:List M.T,M.Zn x (y::ys)=y++(ys.map (x ++ ·)).flatten
 | []=>by simp[M.Zn]
 | z::ys=>by
  show y++x++M.Zn x (z::ys)=_
  rw[zBh x z ys];simp
theorem zJX (x:M.T) (ys:List M.T):Txt.join (ofT x) (ys.map ofT)=ofT (M.Zn x ys):=by
 cases ys with
 | nil=>rfl
 | cons y ys =>
  show (⟨(((y::ys).map ofT).drop 1).foldl (fun acc p=>acc++(ofT x).cps++p.cps) (((y::ys).map ofT).headD Str.empty).cps⟩:Str)=_
  rw[zBh,List.map_cons,List.drop_one,List.tail_cons]
  have:=zCa x ys y
  show (⟨(ys.map ofT).foldl _ y.toArray⟩:Str)=_
  rw[this];rfl
theorem zD9 {x:M.T} (hx:okT x):∀ {ys:List M.T},(∀ t∈ys,okT t)->okT (M.Zn x ys)
 | [],_=>rfl
 | [y],h=>h y (by simp)
 | y::z::ys,h=>zB8 (zB8 (h y (by simp)) hx) (zD9 hx fun t ht=>h t (List.mem_cons_of_mem _ ht))
theorem zJr (ts:List M.T):((ts.map ofT).map (·.length)).sum=(ts.map List.length).sum:=by
 rw[List.map_map]
 exact congrArg List.sum (List.map_congr_left fun t _=>jq t)
theorem zH6 {y:M.T} (hy:okT y):∀ ρ H S ds ys p Q,zW K Θ ρ S H->zL K ρ H ds ys->(SqL K H p ys\/SqT K H p ys)->zF K Θ (zK K) ρ H (M.ZF y ds S) Q->zDB K (.str (ofT y)) [.ref p] H Q:=by
 intro ρ H S ds ys p Q rp r hq h
 cases e:M.Qi ds with
 | none=>simp only[M.ZF,e] at h;exact h.elim
 | some ts =>
  obtain⟨rfl,ok⟩:=zCi e r
  by_cases hz:(ts.map List.length).sum+ts.length * y.length <= M.SZ
  ·simp only[M.ZF,e,if_pos hz] at h
   refine⟨ofT y,p,ts.map ofT,rfl,rfl,hq,?_,?_⟩
   ·rw[zJr,List.length_map,jq];exact hz
   ·rw[zJX];exact zF.here h rp ⟨rfl,zD9 hy ok⟩
  ·simp only[M.ZF,e,if_neg hz] at h;exact h.elim
end
end L2
namespace L2
open PySem PySem.Spec PyProof.Rows
section
variable {K:PySem.W.Frag}{Θ:Tab}
theorem Jo (a:M.T):∀ (n:Nat) (acc:Array Nat),(List.replicate n a.toArray).foldl (· ++ ·) acc=acc++((List.replicate n a).flatten).toArray
 | 0,acc=>by simp
 | n+1,acc=>by
  rw[List.replicate_succ,List.foldl_cons,Jo a n,List.replicate_succ,List.flatten_cons]
  simp
theorem zJM (a:M.T) (n:Int) (h0:0 <= n):Txt.mul (ofT a) n=ofT (List.replicate n.toNat a).flatten:=by
 unfold Txt.mul
 by_cases h1:n < 1
 ·have e:n.toNat=0:=by omega
  rw[if_pos h1,e];rfl
 ·rw[if_neg h1]
  by_cases h2:(n == 1 || (ofT a).length == 0)=true
  ·rw[if_pos h2]
   rw[Bool.or_eq_true] at h2
   rcases h2 with h2 | h2
   ·have e:n=1:=eq_of_beq h2
    subst e
    simp
   ·have e:a.length=0:=by rw[<- jq];exact eq_of_beq h2
    have e2:a=[]:=List.length_eq_zero_iff.mp e
    subst e2
    simp[ofT]
  ·rw[if_neg h2]
   have:=Jo a n.toNat #[]
   show (⟨(List.replicate n.toNat a.toArray).foldl (· ++ ·) #[]⟩:Str)=_
   rw[this];simp[ofT]
theorem zKG (a:M.T) (n:Int) (h0:0 <= n) (h1:n <= 1000000) (h2:a.length * n.toNat <= 1000000):MulOk (ofT a) n:=by
 refine⟨?_,fun h3 _=>?_,fun h3 _=>?_⟩
 ·rw[Bool.or_eq_false_iff]
  exact⟨decide_eq_false (by omega),decide_eq_false (by omega)⟩
 ·rw[jq]
  have hn:1 <= n.toNat:=by omega
  have ha:a.length <= 1000000:=Nat.le_trans (Nat.le_mul_of_pos_right _ (by omega)) h2
  have hd:(1000000:Int) <= (2 ^ 63 - 1) / n:=Int.le_ediv_of_mul_le (by omega) (by omega)
  omega
 ·rw[jq]
  unfold Builtin.Str.tooLong
  exact decide_eq_false (by rw[sizeLine_eq];omega)
noncomputable def zIW:R2:=fun x y H Q=>zLL x y H Q\/zLK x y H Q
theorem zBb {X:Cx}:OpR X (binaryOp .Mult) zIW:=OpR.or zMC zKl
theorem zL.flat {ρ:List Addr}{H:Hp}{ds:List M.D}{xs:List V} (h:zL K ρ H ds xs):∀ n:Nat,zL K ρ H (List.replicate n ds).flatten (List.replicate n xs).flatten
 | 0=>rfl
 | n+1=>by
  rw[List.replicate_succ,List.replicate_succ,List.flatten_cons,List.flatten_cons]
  exact zL.app h (zL.flat h n)
theorem zBl:Ad2 K Θ M.zBe zIW:=by
 intro ρ H S x y X Y Q rp rx ry h
 cases x with
 | int i =>
  cases y with
  | int j =>
   cases rx;cases ry
   have h':zF K Θ (zK K) ρ H (if (M.qx i || M.qx j)=true then M.R.ok (M.D.int (i * j)) S else .no) Q:=h
   by_cases hc:(M.qx i || M.qx j)=true
   ·rw[if_pos hc] at h'
    refine .inl ⟨?_,zF.here (b:=V.int (i * j)) h' rp rfl⟩
    rw[Bool.or_eq_true] at hc
    rcases hc with hc | hc
    ·exact .inl (zDr hc)
    ·exact .inr (zDr hc)
   ·rw[if_neg hc] at h';exact h'.elim
  | _=>exact h.elim
 | str a =>
  cases y with
  | int n =>
   obtain⟨rfl,oka⟩:=rx
   cases ry
   have h':zF K Θ (zK K) ρ H (if 0 <= n/\n.natAbs <= 1000000/\a.length * n.natAbs <= 1000000 then M.R.ok (M.D.str (List.replicate n.toNat a).flatten) S else .no) Q:=h
   by_cases hc:0 <= n/\n.natAbs <= 1000000/\a.length * n.natAbs <= 1000000
   ·rw[if_pos hc] at h'
    have hn:n.natAbs=n.toNat:=by omega
    refine .inl ⟨zKG a n hc.1 (by omega) (by rw[<- hn];exact hc.2.2),?_⟩
    show Q (.str (Txt.mul (ofT a) n)) H
    rw[zJM a n hc.1]
    refine zF.here h' rp ⟨rfl,Q9 oka fun c hc=>?_⟩
    obtain⟨l,hl,hcl⟩:=List.mem_flatten.mp hc
    rw[(List.mem_replicate.mp hl).2] at hcl
    exact hcl
   ·rw[if_neg hc] at h';exact h'.elim
  | _=>exact h.elim
 | ref p =>
  cases y with
  | int n =>
   cases ry
   have h':zF K Θ (zK K) ρ H (match M.jD S p with | some xs=>if n.natAbs <= 1000/\xs.length * n.natAbs <= 1000000 then M.alloc (.lst (List.replicate n.toNat xs).flatten) S else .no | none=>.no) Q:=h
   cases q:S[p]? with
   | none=>simp only[M.jD,q] at h';exact h'.elim
   | some o =>
    cases o with
    | lst ds =>
     simp only[M.jD,q] at h'
     obtain⟨a,rfl,ea⟩:=rx
     obtain⟨zs,e1,r⟩:=yd rp ea q
     by_cases hc:n.natAbs <= 1000/\ds.length * n.natAbs <= 1000000
     ·rw[if_pos hc] at h'
      have hn:n.toNat <= n.natAbs:=by omega
      refine .inr ⟨a,n,zs,rfl,rfl,e1,by omega,by omega,?_,fun p hp=>zF.alloc h' rp (zL.flat r n.toNat) hp⟩
      have hm:=Nat.mul_le_mul_left ds.length hn
      rw[<- r.length,sizeLine_eq]
      omega
     ·rw[if_neg hc] at h';exact h'.elim
    | dct _=>simp only[M.jD,q] at h';exact h'.elim
    | fdc _=>simp only[M.jD,q] at h';exact h'.elim
    | dtt _=>simp only[M.jD,q] at h';exact h'.elim
    | ins _ _=>simp only[M.jD,q] at h';exact h'.elim
  | _=>exact h.elim
 | _=>exact h.elim
noncomputable def zIN (K:PySem.W.Frag):R2:=fun x y H Q=>uIx K x y H Q\/∃ a v,x=.ref a/\Ql H a y (some v)/\Q v H
theorem zMi {X:Cx}{k:Nat} (hr:zt k X.A):IxR X (zIN X.K):=by
 refine IxR.or zMg ?_
 intro value slice pins s σ H x y v u Q I rx ry h hs
 obtain⟨a,w',rfl,g,q⟩:=h
 cases rx
 exact tail_any (zEf I g) PySem.F.slot_dict_getitem.lookup (zGc (zFK hr) I g ry fun w2 s3 I3 rw'=>⟨w',H,I3,rw',q⟩) hs
noncomputable def zFU (K:PySem.W.Frag):List V->Hp->VK->Prop:=fun xs H Q=>zKW K xs H Q\/∃ a kvs,xs=[V.ref a]/\H a=some (.dK kvs)/\Q (.int kvs.length) H
theorem zGa {X:Cx}:jh X (.builtin "len") (zFU X.K):=jh.or zL9 zF9
theorem zMO:Ad2 K Θ M.ZV (zIN K):=by
 intro ρ H S x y X Y Q rp rx ry h
 cases x with
 | str a =>
  cases y with
  | int i =>
   obtain⟨rfl,oka⟩:=rx
   cases ry
   have h':zF K Θ (zK K) ρ H (if a.length <= M.SZ then (match M.atI a i with | some c=>M.R.ok (M.D.str [c]) S | none=>.no) else .no) Q:=h
   by_cases hc:a.length <= M.SZ
   ·rw[if_pos hc] at h'
    cases q:M.atI a i with
    | none=>rw[q] at h';exact h'.elim
    | some c =>
     rw[q] at h'
     refine .inl ⟨c,by rw[jq,<- yc];exact hc,?_,zF.here (b:=V.str (ofT [c])) h' rp ⟨rfl,Q9 oka fun d hd=>by
      have e:d=c:=by simpa using hd
      rw[e]
      unfold M.atI at q
      cases qi:M.ixN a.length i with
      | none=>rw[qi] at q;cases q
      | some j=>rw[qi] at q;exact List.mem_of_getElem? q⟩⟩
     rw[ZH];exact q
   ·rw[if_neg hc] at h';exact h'.elim
  | _=>exact h.elim
 | tup ds =>
  cases y with
  | int i =>
   obtain⟨l,xs,rfl,hq,r⟩:=rx
   cases ry
   have h':zF K Θ (zK K) ρ H (match M.atI ds i with | some d=>M.R.ok d S | none=>.no) Q:=h
   cases q:M.atI ds i with
   | none=>rw[q] at h';exact h'.elim
   | some d =>
    rw[q] at h'
    obtain⟨v,e1,rv⟩:=zBp r q
    exact .inl ⟨xs,v,.inr hq,e1,zF.here h' rp rv⟩
  | _=>exact h.elim
 | ro ds =>
  cases y with
  | int i =>
   obtain⟨l,xs,rfl,hq,r⟩:=rx
   cases ry
   have h':zF K Θ (zK K) ρ H (match M.atI ds i with | some d=>M.R.ok d S | none=>.no) Q:=h
   cases q:M.atI ds i with
   | none=>rw[q] at h';exact h'.elim
   | some d =>
    rw[q] at h'
    obtain⟨v,e1,rv⟩:=zBp r q
    exact .inl ⟨xs,v,.inl hq.sq,e1,zF.here h' rp rv⟩
  | _=>exact h.elim
 | ref p =>
  obtain⟨a,rfl,ea⟩:=rx
  cases q:S[p]? with
  | none=>simp[M.ZV,q] at h;exact h.elim
  | some o =>
   cases o with
   | lst xs =>
    cases y with
    | int i =>
     cases ry
     obtain⟨zs,e1,r⟩:=yd rp ea q
     cases q2:M.atI xs i with
     | none=>simp[M.ZV,q,q2] at h;exact h.elim
     | some d =>
      simp[M.ZV,q,q2] at h
      obtain⟨v,e2,rv⟩:=zBp r q2
      exact .inl ⟨zs,v,.inl (SqL.of e1),e2,zF.here h rp rv⟩
    | _=>simp[M.ZV,q] at h;exact h.elim
   | dct kvs =>
    by_cases hk:M.ZG y=true
    case neg=>simp[M.ZV,q,hk] at h;exact h.elim
    obtain⟨ks,e1,r⟩:=JA rp ea q
    obtain⟨k,h1,rfl⟩:=JI hk ry
    have hv:=r.val h1
    cases q2:M.jR y kvs with
    | none=>simp[M.ZV,q,hk,q2] at h;exact h.elim
    | some d =>
     simp[M.ZV,q,hk,q2] at h
     rw[q2] at hv
     obtain⟨v,e2,rv⟩:=hv
     refine .inr ⟨a,v,rfl,?_,zF.here h rp rv⟩
     rw[<- e2]
     exact Ql.k e1
   | dtt _=>simp[M.ZV,q] at h;exact h.elim
   | fdc kvs =>
    by_cases hk:M.ZG y=true
    case neg=>simp[M.ZV,q,hk] at h;exact h.elim
    obtain⟨fo,ks,e1,r⟩:=zGN rp ea q
    obtain⟨k,h1,rfl⟩:=JI hk ry
    have hv:=r.val h1
    cases q2:M.jR y kvs with
    | none=>simp[M.ZV,q,hk,q2] at h;exact h.elim
    | some d =>
     simp[M.ZV,q,hk,q2] at h
     rw[q2] at hv
     obtain⟨v,e2,rv⟩:=hv
     refine .inr ⟨a,v,rfl,?_,zF.here h rp rv⟩
     rw[<- e2]
     exact (.inl ⟨ks,k,.inr ⟨fo,e1⟩,rfl,rfl⟩)
   | ins c fs=>simp[M.ZV,q] at h;exact h.elim
 | _=>exact h.elim
theorem zGV:AdN K Θ M.Jf (zFU K):=by
 intro ρ H S xs Xs Q rp rx h
 match xs,rx,h with
 | [.str a],rx,h =>
  obtain⟨_,_,rfl,⟨rfl,_⟩,rfl⟩:=rx
  have h':zF K Θ (zK K) ρ H (if a.length <= M.SZ then M.R.ok (M.D.int a.length) S else .no) Q:=h
  by_cases hc:a.length <= M.SZ
  ·rw[if_pos hc] at h'
   refine .inl ⟨by rw[jq,<- yc];exact hc,?_⟩
   rw[jq]
   exact zF.here (b:=V.int a.length) h' rp rfl
  ·rw[if_neg hc] at h';exact h'.elim
 | [.tup ds],rx,h =>
  obtain⟨_,_,rfl,⟨l,ys,rfl,hq,r⟩,rfl⟩:=rx
  exact .inl ⟨ys,.inr hq,by rw[<- r.length];exact zF.here (b:=V.int ds.length) h rp rfl⟩
 | [.ro ds],rx,h =>
  obtain⟨_,_,rfl,⟨l,ys,rfl,hq,r⟩,rfl⟩:=rx
  exact .inl ⟨ys,.inl hq.sq,by rw[<- r.length];exact zF.here (b:=V.int ds.length) h rp rfl⟩
 | [.ref p],rx,h =>
  obtain⟨_,_,rfl,⟨a,rfl,ea⟩,rfl⟩:=rx
  cases q:S[p]? with
  | none=>simp[M.Jf,q] at h;exact h.elim
  | some o =>
   cases o with
   | lst xs =>
    simp[M.Jf,q] at h
    obtain⟨zs,e1,r⟩:=yd rp ea q
    exact .inl ⟨zs,.inl (SqL.of e1),by rw[<- r.length];exact zF.here (b:=V.int xs.length) h rp rfl⟩
   | dct kvs =>
    simp[M.Jf,q] at h
    obtain⟨ks,e1,r⟩:=JA rp ea q
    exact .inr ⟨a,ks,rfl,e1,by rw[<- Paired.length r];exact zF.here (b:=V.int kvs.length) h rp rfl⟩
   | fdc _=>simp[M.Jf,q] at h;exact h.elim
   | dtt _=>simp[M.Jf,q] at h;exact h.elim
   | ins c fs=>simp[M.Jf,q] at h;exact h.elim
 | [.non],_,h=>exact h.elim
 | [.bl _],_,h=>exact h.elim
 | [.int _],_,h=>exact h.elim
 | [.ty _],_,h=>exact h.elim
 | [],_,h=>exact h.elim
 | a::_::_,_,h=>cases a<;>exact h.elim
noncomputable def zE8 (K:PySem.W.Frag) (neg:Bool):R2:=fun x y H Q=>uIn K neg x y H Q\/∃ a o,y=.ref a/\Ql H a x o/\Q (.bl (xor neg o.isSome)) H
theorem zKq {X:Cx}{k:Nat} (hr:zt k X.A):OpR X (compareOp .In) (zE8 X.K false):=by
 refine OpR.or zMq ?_
 intro pins s σ H x y v u Q I rx ry h
 obtain⟨a,o,rfl,g,q⟩:=h
 cases ry
 exact zMp (zFK hr) I g rx fun s' I'=>⟨.bl o.isSome,H,I',rfl,by rw[Bool.false_xor] at q;exact q⟩
theorem zGv {X:Cx}{k:Nat} (hr:zt k X.A):OpR X (compareOp .NotIn) (zE8 X.K true):=by
 refine OpR.or zJp ?_
 intro pins s σ H x y v u Q I rx ry h
 obtain⟨a,o,rfl,g,q⟩:=h
 cases ry
 exact zIr (zFK hr) I g rx fun s' I'=>⟨.bl (!o.isSome),H,I',rfl,by rw[Bool.true_xor] at q;exact q⟩
theorem zEG {ρ:List Addr}{H:Hp}{d:M.D}{v:V} (r:zK K ρ H d v):qk v=M.flat d:=by
 cases d with
 | non=>cases r;rfl
 | bl _=>cases r;rfl
 | int _=>cases r;rfl
 | str _=>obtain⟨rfl,_⟩:=r;rfl
 | ty _=>cases r;rfl
 | ref _=>obtain⟨_,rfl,_⟩:=r;rfl
 | tup _=>obtain⟨_,_,rfl,_⟩:=r;rfl
 | ro _=>obtain⟨_,_,rfl,_⟩:=r;rfl
theorem zJE {ρ:List Addr}{H:Hp}{d e:M.D}{v u:V} (r:zK K ρ H d v) (q:zK K ρ H e u):eqV v u=M.eqF d e:=by
 cases d with
 | non =>
  cases r
  cases e with
  | str _=>obtain⟨rfl,_⟩:=q;rfl
  | ref _=>obtain⟨_,rfl,_⟩:=q;rfl
  | tup _=>obtain⟨_,_,rfl,_⟩:=q;rfl
  | ro _=>obtain⟨_,_,rfl,_⟩:=q;rfl
  | _=>cases q;rfl
 | bl _ =>
  cases r
  cases e with
  | str _=>obtain⟨rfl,_⟩:=q;rfl
  | ref _=>obtain⟨_,rfl,_⟩:=q;rfl
  | tup _=>obtain⟨_,_,rfl,_⟩:=q;rfl
  | ro _=>obtain⟨_,_,rfl,_⟩:=q;rfl
  | _=>cases q;rfl
 | int _ =>
  cases r
  cases e with
  | str _=>obtain⟨rfl,_⟩:=q;rfl
  | ref _=>obtain⟨_,rfl,_⟩:=q;rfl
  | tup _=>obtain⟨_,_,rfl,_⟩:=q;rfl
  | ro _=>obtain⟨_,_,rfl,_⟩:=q;rfl
  | _=>cases q;rfl
 | str x =>
  obtain⟨rfl,_⟩:=r
  cases e with
  | str y=>obtain⟨rfl,_⟩:=q;exact zE3 x y
  | ref _=>obtain⟨_,rfl,_⟩:=q;rfl
  | tup _=>obtain⟨_,_,rfl,_⟩:=q;rfl
  | ro _=>obtain⟨_,_,rfl,_⟩:=q;rfl
  | _=>cases q;rfl
 | ty _=>cases r;rfl
 | ref _=>obtain⟨_,rfl,_⟩:=r;rfl
 | tup _=>obtain⟨_,_,rfl,_⟩:=r;rfl
 | ro _=>obtain⟨_,_,rfl,_⟩:=r;rfl
theorem zCQ {ρ:List Addr}{H:Hp}:∀ {ds:List M.D}{xs:List V},zL K ρ H ds xs->xs.all qk=ds.all M.flat
 | [],_,r=>by cases r;rfl
 | _::_,_,⟨y,ys,e,r1,r2⟩=>by subst e;rw[List.all_cons,List.all_cons,zEG r1,zCQ r2]
theorem zDb {ρ:List Addr}{H:Hp}{x:M.D}{v:V} (rx:zK K ρ H x v):∀ {ds:List M.D}{xs:List V},zL K ρ H ds xs->inV v xs=M.J6 x ds
 | [],_,r=>by cases r;rfl
 | _::_,_,⟨y,ys,e,r1,r2⟩=>by
  subst e
  unfold inV M.J6
  rw[List.any_cons,List.any_cons,zJE r1 rx]
  have:=zDb rx r2
  unfold inV M.J6 at this
  rw[this]
theorem zA1 (a:M.T):∀ b:M.T,M.J9 a b=true ↔ ∃ i,i+a.length <= b.length/\(b.drop i).take a.length=a
 | []=>by
  simp only[M.J9,List.isEmpty_iff]
  constructor
  ·rintro rfl;exact⟨0,by simp,by simp⟩
  ·rintro ⟨i,h,e⟩
   simp at h
   exact h.2
 | c::r=>by
  simp only[M.J9,Bool.or_eq_true,zA1 a r]
  constructor
  ·rintro (h | ⟨i,h,e⟩)
   ·have:=List.isPrefixOf_iff_prefix.mp h
    exact⟨0,by simpa using this.length_le,by simpa using (List.prefix_iff_eq_take.mp this).symm⟩
   ·exact⟨i+1,by simp;omega,by simpa using e⟩
  ·rintro ⟨i,h,e⟩
   cases i with
   | zero=>left;exact List.isPrefixOf_iff_prefix.mpr (List.prefix_iff_eq_take.mpr (by simpa using e.symm))
   | succ i=>right;exact⟨i,by simp at h;omega,by simpa using e⟩
theorem zGF (a b:M.T) (i:Nat):StrLaws.At (ofT b) (ofT a) (ofT b).length i↔(i+a.length <= b.length/\(b.drop i).take a.length=a):=by
 unfold StrLaws.At Builtin.Str.subAt
 rw[jq,jq]
 refine and_congr_right fun _=>?_
 rw[beq_iff_eq]
 constructor
 ·intro h
  have:=congrArg Array.toList h
  simpa [ofT,List.extract_eq_take_drop] using this
 ·intro h
  apply Array.ext'
  simpa [ofT,List.extract_eq_take_drop] using h
theorem zIl (a b:M.T):(!(Builtin.Str.occurrences (ofT b) (ofT a) 0 (ofT b).length 1).isEmpty)=M.J9 a b:=by
 rcases StrLaws.occ_head (ofT b) (ofT a) 1 (by decide) with ⟨e,h⟩ | ⟨i,r,e,h,_⟩
 ·rw[e]
  have:¬ M.J9 a b=true:=fun q=>by
   obtain⟨i,q⟩:=(zA1 a b).mp q
   exact h i ((zGF a b i).mpr q)
  simpa using this
 ·rw[e]
  have:=(zA1 a b).mpr ⟨i,(zGF a b i).mp h⟩
  simp[this]
theorem zI1 {neg:Bool}{ρ:List Addr}{H:Hp}{S:M.S}{x y:M.D}{X1 Y:V}{Q:VK} (rp:zW K Θ ρ S H) (rx:zK K ρ H x X1) (ry:zK K ρ H y Y) (h:zF K Θ rB ρ H (M.inD x y S) (fun b H'=>Q (.bl (xor neg b)) H')):zE8 K neg X1 Y H Q:=by
 have seq:∀ {ds:List M.D}{xs:List V}{a:Addr},(SqL K H a xs\/SqT K H a xs)->zL K ρ H ds xs->zF K Θ rB ρ H (if (M.flat x && ds.all M.flat)=true then M.R.ok (M.J6 x ds) S else .no) (fun b H'=>Q (.bl (xor neg b)) H')->uIn K neg X1 (.ref a) H Q:=fun {ds xs a} hq r h'=>by
  by_cases hc:(M.flat x && ds.all M.flat)=true
  ·rw[if_pos hc] at h'
   rw[Bool.and_eq_true,<- zEG rx,<- zCQ r] at hc
   have:=zF.here (b:=M.J6 x ds) h' rp rfl
   rw[<- zDb rx r] at this
   have g:∃ xs,(SqL K H a xs\/SqT K H a xs)/\qk X1=true/\xs.all qk=true/\Q (.bl (xor neg (inV X1 xs))) H:=⟨xs,hq,hc.1,hc.2,this⟩
   cases X1<;>exact g
  ·rw[if_neg hc] at h';exact h'.elim
 cases y with
 | str b =>
  cases x with
  | str a =>
   obtain⟨rfl,_⟩:=rx
   obtain⟨rfl,_⟩:=ry
   refine .inl ?_
   show Q (.bl (xor neg (!(Builtin.Str.occurrences (ofT b) (ofT a) 0 (ofT b).length 1).isEmpty))) H
   rw[zIl]
   exact zF.here (b:=M.J9 a b) h rp rfl
  | _=>exact h.elim
 | tup ds =>
  obtain⟨l,xs,rfl,hq,r⟩:=ry
  exact .inl (seq (.inr hq) r h)
 | ro ds =>
  obtain⟨l,xs,rfl,hq,r⟩:=ry
  exact .inl (seq (.inl hq.sq) r h)
 | ref p =>
  obtain⟨a,rfl,ea⟩:=ry
  cases q:S[p]? with
  | none=>simp[M.inD,q] at h;exact h.elim
  | some o =>
   cases o with
   | lst ds =>
    obtain⟨zs,e1,r⟩:=yd rp ea q
    refine .inl (seq (.inl (SqL.of e1)) r ?_)
    simp only[M.inD,q] at h
    exact h
   | dct kvs =>
    by_cases hk:M.ZG x=true
    case neg=>simp[M.inD,q,hk] at h;exact h.elim
    simp only[M.inD,q,if_pos hk] at h
    obtain⟨ks,e1,r⟩:=JA rp ea q
    obtain⟨k,h1,rfl⟩:=JI hk rx
    have hv:=r.val h1
    refine .inr ⟨a,yL ks k,rfl,Ql.k e1,?_⟩
    have e2:(yL ks k).isSome=(M.jR x kvs).isSome:=by
     cases q2:M.jR x kvs with
     | none=>rw[q2] at hv;rw[hv];rfl
     | some d=>rw[q2] at hv;obtain⟨v,e2,_⟩:=hv;rw[e2];rfl
    rw[e2]
    exact zF.here (b:=(M.jR x kvs).isSome) h rp rfl
   | dtt _=>simp[M.inD,q] at h;exact h.elim
   | fdc kvs =>
    by_cases hk:M.ZG x=true
    case neg=>simp[M.inD,q,hk] at h;exact h.elim
    simp only[M.inD,q,if_pos hk] at h
    obtain⟨fo,ks,e1,r⟩:=zGN rp ea q
    obtain⟨k,h1,rfl⟩:=JI hk rx
    have hv:=r.val h1
    refine .inr ⟨a,yL ks k,rfl,(.inl ⟨ks,k,.inr ⟨fo,e1⟩,rfl,rfl⟩),?_⟩
    have e2:(yL ks k).isSome=(M.jR x kvs).isSome:=by
     cases q2:M.jR x kvs with
     | none=>rw[q2] at hv;rw[hv];rfl
     | some d=>rw[q2] at hv;obtain⟨v,e2,_⟩:=hv;rw[e2];rfl
    rw[e2]
    exact zF.here (b:=(M.jR x kvs).isSome) h rp rfl
   | ins c fs=>simp[M.inD,q] at h;exact h.elim
 | _=>exact h.elim
theorem zKg {X:Cx}{e:Expr}{m:M.TM} (h:MW X Θ e m):MT X Θ e m:=PW.pt h
theorem QK {X:Cx}{e:Expr}{m:M.TM} (h:WW X Θ e m):WT X Θ e m:=by with_unfolding_all exact zKg (X:=X) (e:=e) (m:=m) h
theorem Qb {X:Cx}:QS X [] (RdT X.K Θ M.y6):=fun pins s σ H Q I ⟨ρ,σ',S,st,rp,h⟩=>zHC pins s σ H Q I (zF.here (b:=true) h rp rfl)
theorem zD8 {ρ:List Addr}{H:Hp}:∀ ns:List Int,zL K ρ H (ns.map .int) (ns.map V.int)
 | []=>rfl
 | n::ns=>⟨_,_,rfl,rfl,zD8 ns⟩
theorem zJ7 {f:M.F} (ht:∀ ns:List Int,ns.length <= 63->∃ s,f [.ro (ns.map .int)] []=.ok (.bl true) s) {H:Hp}{a:Addr}{ns:List Int}{E:XK} (hl:ns.length <= 63) (hO:zDj H) (hS:SqL K H a (ns.map V.int)):SpM K Θ 1 f [.ref a] H (fun v _=>v=.bl true) E:=by
 obtain⟨s,e⟩:=ht ns hl
 refine⟨[],[.ro (ns.map .int)],[],rfl,⟨_,_,rfl,⟨a,ns.map V.int,rfl,?_,zD8 ns⟩,rfl⟩,⟨rfl,List.nodup_nil,fun i o q=>by simp at q⟩,?_⟩
 ·rcases hS with (h | h) | h
  ·rcases hO a with z | ⟨o,xs,z⟩
   ·rw[h] at z;cases z
   ·rw[h] at z;cases z
  ·exact .inl h
  ·exact .inr h
 ·rw[e]
  exact fun ρ' H' b _ _ _ r=>r
end
section
variable {P:Program}{w:World}{K:PySem.W.Frag}{mg:Str->Option Value}{base:Heap}{Θ:Tab}
theorem zK3 {x qual:Str}{st:Stmt}{f:Addr}{fd:FuncData}{N ps:List Str}{k:Nat}{b:M.SM} (F:Fun K x qual st f fd) (Sc:jW N ps (zP st))
  (hbody:∀ (cdv:Value) (A:Around) (outer:List Env) (s:Shared) (H:Hp) (E:XK),zt k (A.deeper (envOfC qual (zP st) s.heap.objs.size f cdv)) ->
   MSs (QR CX0 P w K mg base N qual (zP st) f cdv A outer s H E).nox Θ (jJ st) b):jd P w K mg base CX0 (k+1) f fd ps (SpM K Θ ps.length (M.fn N.length b)):=by
 refine F.ok (k:=k) Sc (fun vs H Q E h=>?_) (fun cdv A outer s H vs Q E hr h=>?_)
 ·obtain⟨ρ,ds,S,hl,r,_⟩:=h
  rw[<- r.length,hl]
 ·obtain⟨ρ,ds,S,hl,r,rp,h⟩:=h
  refine⟨_,hbody cdv A outer s H E hr,ρ,_,S,zCd r N,rp,?_⟩
  have h':zF K Θ (zK K) ρ H (b (ds.map some++List.replicate (N.length - ds.length) none) S).out Q:=h
  show zy K Θ ρ H (b (ds.map some++List.replicate (N.length - ds.length) none) S) _
  revert h'
  cases b (ds.map some++List.replicate (N.length - ds.length) none) S with
  | rt a s=>exact fun h'=>h'
  | nx a s=>exact fun h' ρ1 H1 σ1 p1 l1 rp1 _=>h' ρ1 H1 .non p1 l1 rp1 rfl
  | bk a s=>exact fun h'=>h'.elim
  | ct a s=>exact fun h'=>h'.elim
  | exc e a s=>exact fun h'=>h'
  | no=>exact fun h'=>h'
theorem zAo {x qual:Str}{st:Stmt}{f:Addr}{fd:FuncData}{N ps:List Str}{k:Nat}{b:M.SM} (F:Fun K x qual st f fd) (Sc:jW N ps (zP st))
  (hbody:∀ (cdv:Value) (A:Around) (outer:List Env) (s:Shared) (H:Hp) (E:XK),zt k (A.deeper (envOfC qual (zP st) s.heap.objs.size f cdv)) ->
   WSs (QR CX0 P w K mg base N qual (zP st) f cdv A outer s H E).nox Θ (jJ st) b):jd P w K mg base CX0 (k+1) f fd ps (SpM K Θ ps.length (M.fn N.length b)):=by with_unfolding_all exact zK3 (x:=x) (qual:=qual) (st:=st) (f:=f) (fd:=fd) (N:=N) (ps:=ps) (k:=k) (b:=b) F Sc hbody
end
end L2
namespace L2
open PySem PySem.Spec PyProof.Rows PySem.Builtin.Str
section
variable {K:PySem.W.Frag}{Θ:Tab}
theorem Q6 {ρ:List Addr}{H:Hp}{S:M.S}{p:Nat}{X:V}{ds:List M.D} (rp:zW K Θ ρ S H) (rx:zK K ρ H (.ref p) X) (e:S[p]? = some (.lst ds)):∃ a xs,X=.ref a/\ρ[p]? = some a/\H a=some (.lst xs)/\zL K ρ H ds xs:=by
 obtain⟨a,rfl,ha⟩:=rx
 obtain⟨b,hb,xs,hx,r⟩:=rp.obj p _ e
 rw[ha] at hb;cases hb
 exact⟨a,xs,rfl,ha,hx,r⟩
theorem zAO {H:Hp}{a:Addr}{xs:List V} (h:H a=some (.lst xs)):Mut (H a):=by rw[h];trivial
theorem yH:AdM K Θ M.jx zEo:=by
 intro ρ H S x xs X Xs Q rp rx rxs h
 unfold M.jx at h
 split at h
 ·rename_i p y
  obtain⟨Y,r,rfl,ry,rfl⟩:=rxs
  split at h
  ·rename_i ds e
   obtain⟨a,zs,rfl,ha,hx,rz⟩:=Q6 rp rx e
   split at h
   ·rename_i hl
    have le:=Le.put (zAO hx) (.lst (zs++[Y]))
    refine⟨a,zs,Y,rfl,rfl,hx,by rw[<- yc,<- rz.length];exact hl,?_⟩
    exact h ρ _ _ (List.prefix_refl _) le (rp.put ha (zAO hx) ⟨_,jX,(rz.mono (List.prefix_refl _) le).app ⟨_,_,rfl,ry.mono (List.prefix_refl _) le,rfl⟩⟩) rfl
   ·exact h.elim
  ·exact h.elim
 ·exact h.elim
end
end L2
namespace L2
open PySem PySem.Spec PyProof.Rows PySem.Builtin.Str
section
variable {K:PySem.W.Frag}{Θ:Tab}
theorem zK5:AdN K Θ M.zDZ (fun xs H Q=>(∃ i,xs=[.int i]/\Q (.int i) H)\/∃ k,xs=[.bl k]/\Q (.int (if k then 1 else 0)) H):=by
 intro ρ H S xs Xs Q rp rxs h
 unfold M.zDZ at h
 split at h
 ·obtain⟨Y,r,rfl,ry,rfl⟩:=rxs
  cases ry
  exact .inl ⟨_,rfl,zF.here h rp rfl⟩
 ·obtain⟨Y,r,rfl,ry,rfl⟩:=rxs
  cases ry
  exact .inr ⟨_,rfl,zF.here h rp rfl⟩
 ·exact h.elim
end
end L2
namespace L2
open PySem PySem.Spec PyProof.Rows
section
variable {Θ:Tab}
theorem PS.or {X:Cx}{st:Stmt}{t t':TS} (h:PS X st t) (h':PS X st t'):PS X st (fun D σ H=>t D σ H\/t' D σ H):=fun pins s σ H D I q=>by
 rcases q with q | q
 ·exact h pins s σ H D I q
 ·exact h' pins s σ H D I q
theorem zGo {H:Hp}{a:Addr}{ks:List (Key×V)} (h:H a=some (.dK ks)):Mut (H a):=by rw[h];trivial
theorem zK4 {X:Cx}{o i e:Expr}{mo mi me:M.EM}{pos pos':Pos}{n:Nat} (hr:zt n X.A) (ho:ME X Θ o mo) (hi:ME X Θ i mi) (he:ME X Θ e me)
  (ha:∀ v,assign (.Subscript o i pos') X.env v=(do
   let ov <- holding [v] (eval o X.env)
   let iv <- holding [v,ov] (eval i X.env)
   standAt pos'
   holding [v,ov,iv] (setItem ov iv v)
   release [v,ov,iv] []):=by intro _;rfl)
  (hs:swapsWithSole [.Subscript o i pos'] e pos.line X.env=pure false:=by rfl) (hw:swappedStores [.Subscript o i pos'] e X.env=pure none:=by rfl) (h1:(assignEach [.Subscript o i pos'] X.env).map (·.2)=[assign (.Subscript o i pos') X.env]:=by rfl)
  (hs2:swapsWith e (some (.Subscript o i pos')) pos.line X.env=pure false:=by rfl):MS X Θ (.Assign [.Subscript o i pos'] e pos) (M.zMu mo mi me) :=
 (PS.or (zLU he (zKw ho hi zH5 ha) hs hw h1) (zJw (by have:=hr.units;omega) ho hi he hs2)).imp fun D σ H ⟨ρ,σ',S,st,rp,h⟩=>by
  have h0:zy X.K Θ ρ H ((me σ' S).stm σ' fun y s=>(mo σ' s).stm σ' fun x s=>(mi σ' s).stm σ' fun k s=>(M.ya x k y s).stm σ' fun _ s=>.nx σ' s) D:=h
  clear h
  cases hE:me σ' S with
  | no=>rw[hE] at h0;exact h0.elim
  | exc a s=>rw[hE] at h0;exact h0.elim
  | ok y S1 =>
   rw[hE,M.R.stm_ok] at h0
   cases hO:mo σ' S1 with
   | no=>rw[hO] at h0;exact h0.elim
   | exc a s=>rw[hO] at h0;exact h0.elim
   | ok x S2 =>
    rw[hO,M.R.stm_ok] at h0
    cases hI:mi σ' S2 with
    | no=>rw[hI] at h0;exact h0.elim
    | exc a s=>rw[hI] at h0;exact h0.elim
    | ok k S3 =>
     rw[hI,M.R.stm_ok] at h0
     cases x with
     | ref p =>
      cases q:S3[p]? with
      | none=>simp only[M.ya,q] at h0;exact h0.elim
      | some ob =>
       cases ob with
       | lst xs =>
        cases k with
        | int j =>
         cases hj:M.ixN xs.length j with
         | none=>simp only[M.ya,q,hj] at h0;exact h0.elim
         | some j' =>
          simp only[M.ya,q,hj,M.R.stm_ok] at h0
          refine .inl ⟨ρ,σ',S,st,rp,?_⟩
          rw[hE]
          intro ρ1 H1 Y p1 l1 rp1 ry
          refine⟨ρ1,σ',S1,st.mono p1 l1,rp1,?_⟩
          rw[hO]
          intro ρ2 H2 Xv p2 l2 rp2 rx
          refine⟨ρ2,σ',S2,st.mono (p1.trans p2) (l1.trans l2),rp2,?_⟩
          rw[hI]
          intro ρ3 H3 Kv p3 l3 rp3 rk
          obtain⟨a,zs,rfl,ha,hx,rz⟩:=Q6 rp3 (rx.mono p3 l3) q
          cases rk
          have le:=Le.put (zAO hx) (.lst (zs.set j' Y))
          refine⟨a,zs,j,j',rfl,rfl,hx,by rw[<- rz.length];exact hj,?_⟩
          exact h0 ρ3 _ σ (p1.trans (p2.trans p3)) (l1.trans (l2.trans (l3.trans le))) (rp3.put ha (zAO hx) ⟨_,jX,zL.set (ry.mono (p2.trans p3) (l2.trans (l3.trans le))) j' (rz.mono (List.prefix_refl _) le)⟩) (st.mono (p1.trans (p2.trans p3)) (l1.trans (l2.trans (l3.trans le))))
        | _=>simp only[M.ya,q] at h0;exact h0.elim
       | dct kvs =>
        cases hk:(M.ZG k && decide (kvs.length < M.SZ)) with
        | false=>simp only[M.ya,q,hk] at h0;exact h0.elim
        | true =>
         have hk2:(if (M.ZG k && decide (kvs.length < M.SZ))=true then M.R.ok () (S3.set p (.dct (M.QW k y kvs))) else .no)=M.R.ok () (S3.set p (.dct (M.QW k y kvs))):=if_pos hk
         simp only[M.ya,q,hk2,M.R.stm_ok] at h0
         rw[Bool.and_eq_true] at hk
         refine .inr ⟨ρ,σ',S,st,rp,?_⟩
         rw[hE]
         intro ρ1 H1 Y p1 l1 rp1 ry
         refine⟨ρ1,σ',S1,st.mono p1 l1,rp1,?_⟩
         rw[hO]
         intro ρ2 H2 Xv p2 l2 rp2 rx
         refine⟨ρ2,σ',S2,st.mono (p1.trans p2) (l1.trans l2),rp2,?_⟩
         rw[hI]
         intro ρ3 H3 Kv p3 l3 rp3 rk
         obtain⟨a,rfl,ea⟩:=rx.mono p3 l3
         obtain⟨b,e1,ks,e2,r⟩:=rp3.obj _ _ q
         rw[ea] at e1;cases e1
         obtain⟨kk,hkk,rfl⟩:=JI hk.1 rk
         have le:=Le.put (zGo e2) (.dK (ZI ks kk Y))
         refine⟨a,_,rfl,zDH.k e2 (by rw[<- Paired.length r,<- yc];exact of_decide_eq_true hk.2),?_⟩
         have r':DR X.K ρ3 (upd H3 a (.dK (ZI ks kk Y))) kvs ks:=Paired.mapP r fun a b z=>⟨z.1,z.2.mono (List.prefix_refl _) le⟩
         exact h0 ρ3 _ σ (p1.trans (p2.trans p3)) (l1.trans (l2.trans (l3.trans le))) (rp3.put ea (zGo e2) ⟨_,jX,DR.put r' hkk (ry.mono (p2.trans p3) (l2.trans (l3.trans le)))⟩) (st.mono (p1.trans (p2.trans p3)) (l1.trans (l2.trans (l3.trans le))))
       | fdc _=>simp only[M.ya,q] at h0;exact h0.elim
       | dtt _=>simp only[M.ya,q] at h0;exact h0.elim
       | ins c fs=>simp only[M.ya,q] at h0;exact h0.elim
     | _=>exact h0.elim
end
end L2
namespace L2
open PySem PySem.Spec PyProof.Rows
section
variable {K:PySem.W.Frag}{Θ:Tab}
theorem zAp:∀ {xs:List V}{us:List Value},xs.length=us.length->(∀ (j:Nat) u,us[j]? = some u->∃ x,xs[j]? = some x/\zc x u)->zX xs us
 | [],[],_,_=>.nil
 | [],_::_,h,_=>by simp at h
 | _::_,[],h,_=>by simp at h
 | x::xs,u::us,h,k=>by
  obtain⟨y,e,r⟩:=k 0 u rfl
  cases e
  exact .cons r (zAp (by simpa using h) fun j u hu=>by
   obtain⟨y,e,r⟩:=k (j+1) u (by simpa using hu)
   exact⟨y,by simpa using e,r⟩)
theorem zLD {P:Program}{w:World}{k:Key}{v:Value} (h:(qG P w).is k v=true):zc (kV k) v:=by
 rcases j5 (k:=k) (v:=v) h with ⟨i,t,rfl,rfl⟩ | ⟨x,t,rfl,rfl⟩
 ·exact⟨t,rfl⟩
 ·exact⟨t,rfl⟩
noncomputable def zD1 (K:PySem.W.Frag):List V->Hp->VK->Prop:=fun xs H Q=>(∃ p ys,xs=[.ref p]/\(SqL K H p ys\/SqT K H p ys)/\∀ l,H l=none->Q (.ref l) (upd H l (.lst ys))) \/
 ∃ p ks,xs=[.ref p]/\H p=some (.dK ks)/\∀ l,H l=none->Q (.ref l) (upd H l (.lst (ks.map fun kv=>kV kv.1)))
theorem zFa {X:Cx}{k:Nat} (hr:zt k X.A):jh X (.type "list") (zD1 X.K):=by
 intro pins s σ H xs us Q I r h
 rcases h with h | ⟨p,ks,rfl,hp,q⟩
 ·exact zDp pins s σ H xs us Q I r h
 ·obtain⟨u,rfl,ru⟩:=yw r
  cases ru
  obtain⟨z,lo,vs,rv,dd⟩:=zAK I.hok hp
  obtain⟨ep,da⟩:=dd.dictAt
  have hl:=rv.length
  refine wpAny_with_toks (n:=1) I.tk (PySem.W.kdl_call (PySem.W.kdl_dict lo) hr.hd da (by omega) fun h' tk acc c' keep hS it htk=>?_)
  obtain⟨hsz,hit⟩:=it
  refine⟨.ref s.heap.objs.size,_,I.laid (t':=tk) (o:=.lst (ks.map fun kv=>kV kv.1)) keep (Nat.le_refl _) ⟨by rw[List.length_map];exact z,acc.toList,c',zAp (by simp;omega) fun j u hu=>?_,by simpa using hS⟩ htk,rfl,q _ (I.hok.fresh (Nat.le_refl _))⟩
  obtain⟨k,x,e,hk⟩:=hit j u (by simpa using hu)
  have hj:j < ks.length:=by have:=(List.getElem?_eq_some_iff.mp e).1;omega
  have ek:(ks.map (·.1))[j]? = some k:=by rw[rv.keys,List.getElem?_map,e];rfl
  refine⟨kV k,?_,zLD hk⟩
  rw[List.getElem?_map] at ek ⊢
  cases q2:ks[j]? with
  | none=>rw[q2] at ek;cases ek
  | some kv=>rw[q2] at ek;cases ek;rfl
theorem zD0 {ρ:List Addr}{H:Hp}:∀ {kvs:List (M.D×M.D)}{ks:List (Key×V)},DR K ρ H kvs ks->zL K ρ H (kvs.map (·.1)) (ks.map fun kv=>kV kv.1)
 | _,_,.nil=>rfl
 | (d,_)::_,(k,_)::_,.cons h t=>by
  refine⟨_,_,rfl,?_,zD0 t⟩
  have h1:Zw d k:=h.1
  cases d with
  | int i=>cases h1;rfl
  | str x=>obtain⟨rfl,ok⟩:=h1;exact⟨rfl,ok⟩
  | _=>exact h1.elim
theorem zEv:AdN K Θ M.zC6 (zD1 K):=by
 intro ρ H S xs Xs Q rp rxs h
 unfold M.zC6 at h
 split at h
 ·obtain⟨Y,r,rfl,⟨a,zs,rfl,hq,rz⟩,rfl⟩:=rxs
  exact .inl ⟨a,zs,rfl,.inr hq,fun p hp=>zF.alloc h rp rz hp⟩
 ·obtain⟨Y,r,rfl,⟨a,zs,rfl,hq,rz⟩,rfl⟩:=rxs
  exact .inl ⟨a,zs,rfl,.inl hq.sq,fun p hp=>zF.alloc h rp rz hp⟩
 ·rename_i p
  obtain⟨Y,r,rfl,ry,rfl⟩:=rxs
  split at h
  ·rename_i ds e
   obtain⟨a,zs,rfl,ha,hx,rz⟩:=Q6 rp ry e
   exact .inl ⟨a,zs,rfl,.inl (SqL.of hx),fun p hp=>zF.alloc h rp rz hp⟩
  ·rename_i kvs e
   obtain⟨a,rfl,ha⟩:=ry
   obtain⟨ks,e2,r⟩:=JA rp ha e
   exact .inr ⟨a,ks,rfl,e2,fun p hp=>zF.alloc h rp (zD0 r) hp⟩
  ·exact h.elim
 ·exact h.elim
theorem zGf {α:Type} (xs:List α):(List.range xs.length).filterMap (xs[·]?)=xs:=by
 induction xs with
 | nil=>rfl
 | cons x xs ih =>
  rw[List.length_cons,List.range_succ_eq_map,List.filterMap_cons,List.filterMap_map]
  simp only[List.getElem?_cons_zero]
  congr 1
theorem zHN (its:List Value):slicePick its.toArray none none (some (-1))=its.reverse.toArray:=by
 unfold slicePick
 have hb:sliceBounds none none (some (-1)) its.toArray.size=((its.length:Int) - 1,-1,-1):=by
  simp[sliceBounds]
 rw[hb]
 have hr:sliceRange ((its.length:Int) - 1) (-1) (-1)=(List.range its.length).reverse:=by
  unfold sliceRange
  have e:(if (-1:Int) > 0 then (if (its.length:Int) - 1 < -1 then (-1 - ((its.length:Int) - 1) + -1 - 1) / -1 else 0) else (if (its.length:Int) - 1 > -1 then ((its.length:Int) - 1 - -1 - -1 - 1) / - -1 else 0)).toNat=its.length:=by
   rw[if_neg (by decide)]
   split
   ·rw[show (- -1:Int)=1 by decide,Int.ediv_one];omega
   ·omega
  dsimp only
  rw[e]
  apply List.ext_getElem
  ·simp
  ·intro i h1 h2
   simp at h1 ⊢
   omega
 dsimp only
 rw[hr,List.filterMap_reverse]
 congr 2
 have:=zGf its
 simpa using this
theorem zLS {X:Cx}{e st:Expr}{te:TE}{p2 pos:Pos} (he:PE X e te) (hst:PE X st (tC (.int (-1)))):PE X (.Subscript e (.Slice none none (some st) p2) pos) (fun σ H Q=>te σ H fun x H1=>∃ a xs,x=.ref a/\SqL X.K H1 a xs/\∀ p,H1 p=none->Q (.ref p) (upd H1 p (.lst xs.reverse))):=by
 intro pins s σ H Q I h
 refine Subscript_ (thn (he pins s σ H _ I h) fun v s1 ⟨x,H1,I1,r1,q1⟩=>?_)
 obtain⟨a,xs,rfl,hq,q⟩:=q1
 cases r1
 refine wpAny_Slice ?_
 rw[evalPart_none]
 refine wpAny_pure (wpAny_pure ?_)
 rw[evalPart_some]
 refine thn (hst pins s1 σ H1 (fun v H'=>v=.int (-1)/\H'=H1) I1 ⟨rfl,rfl⟩) fun u s2 ⟨y,H2,I2,r2,ey,eh⟩=>?_
 subst ey
 subst eh
 obtain⟨t,rfl⟩:=r2
 have I4:Inv X pins σ H2 { s2 with heap:=s2.heap.push { cls:=.type "slice",data:=.fields #[.none,.none,.int (-1) t] } }:=I2.kept (t':=s2.toks) fun b ob q=>Heap.get?_push_of_some _ q
 obtain⟨its,r,ht,hz⟩:=I4.list hq
 have hlen:=r.length
 show wpAny (model X.prog X.w) X.A (subscriptTail e (.Slice none none (some st) p2) (.ref a) (.ref s2.heap.objs.size)) (EP X pins σ Q) X.xe { s2 with heap:=s2.heap.push { cls:=.type "slice",data:=.fields #[.none,.none,.int (-1) t] } }
 refine tail_any (ops:=[.ref a,.ref s2.heap.objs.size]) ht.isList.typeIs slot_list_getitem.lookup ?_ (by with_unfolding_all rfl)
 refine wpAny_getItem_list_slice ht.isList (Heap.IsSliceOf.new ..) .none .none (.int (-1) t) (by decide) ?_ (by rw[List.size_toArray]<;>omega)
 rw[zHN]
 refine⟨.ref _,_,I4.laid (t':=s2.toks) (o:=.lst xs.reverse) (fun b ob q=>Heap.get?_push_of_some _ q) (Nat.le_refl _) ?_,rfl,q _ (I4.hok.fresh (Nat.le_refl _))⟩
 exact⟨by rw[List.length_reverse];exact hz,_,0,r.reverse,Heap.get?_push_size _ rfl⟩
end
end L2
namespace L2
open PySem PySem.Spec PyProof.Rows
section
variable {P:Program}{w:World}{A:Around}{E:Value->Shared->Prop}{s:Shared}
noncomputable def zMe (h:Heap) (z TI TO:Addr) (f0:Value) (b:Bool):Prop:=h.get? z=some { cls:=.type "zip",dict:=none,data:=.fields #[f0,.bool b,.bool false,.ref TI,.ref TO],slots:=#[] }
structure ZSt (z TI TO i1 i2 l1 l2:Addr) (xs ys:Array Value) (i:Nat) (h:Heap):Prop where
 zp:∃ f0 b,zMe h z TI TO f0 b/\((i=0/\f0=.none)\/∃ (T:Addr) (o:Obj),f0=rawInt T/\h.get? T=some o)
 ti:IsPair h TI (.ref i1) (.ref i2)
 to:∃ a b,IsPair h TO a b
 n1:h.IsTupleIter i1 l1 i
 n2:h.IsTupleIter i2 l2 i
 t1:h.IsTuple l1 xs
 t2:h.IsTuple l2 ys
structure ZLp (lo z TO i1 i2 S:Addr) (xs ys:List Value) (h0 h:Heap) (ps:List Addr):Prop where
 its:∀ (j:Nat) p,ps[j]? = some p->lo <= p/\∃ x y,xs[j]? = some x/\ys[j]? = some y/\IsPair h p x y
 keep:∀ b o,b≠S->b≠z->b≠TO->b≠i1->b≠i2->h0.get? b=some o->h.get? b=some o
 nd:ps.Nodup
end
end L2
namespace L2
open PySem PySem.Spec PyProof.Rows
inductive zHQ:Hp->List (V×V)->List V->Hp->Prop
 | nil (H:Hp):zHQ H [] [] H
 | cons {H H':Hp}{a:Addr}{x y:V}{r:List (V×V)}{zs:List V} (h:H a=none) (t:zHQ (upd H a (.tup [x,y])) r zs H'):zHQ H ((x,y)::r) (.ref a::zs) H'
noncomputable def zIb:List V->Hp->VK->Prop:=fun xs H Q=>∃ i,xs=[.int i]/\i.natAbs.log2 < 1920/\Q (.str (toString i)) H
theorem zCX {X:Cx}:jh X (.type "str") zIb:=zEB
theorem zFm (i:Int):(Str.ofString (toString i))=ofT (M.JD i):=by
 rw[Str.ofString_eq_toList];rfl
theorem zFo (i:Int):okT (M.JD i):=List.all_eq_true.mpr fun c hc=>by
 obtain⟨d,_,rfl⟩:=List.mem_map.mp hc
 have:=d.valid
 rw[decide_eq_true_iff]
 rcases this with h | h
 ·exact Nat.lt_trans h (by decide)
 ·exact h.2
theorem zGb {K:PySem.W.Frag}{Θ:Tab}:AdN K Θ M.zFj zIb:=by
 intro ρ H S xs Xs Q rp rxs h
 unfold M.zFj at h
 split at h
 ·rename_i i
  obtain⟨Y,r,rfl,ry,rfl⟩:=rxs
  cases ry
  by_cases hc:M.qx i=true
  ·rw[if_pos hc] at h
   unfold M.qx at hc
   rw[decide_eq_true_iff] at hc
   refine⟨i,rfl,?_,?_⟩
   ·by_cases hz:i.natAbs=0
    ·rw[hz];decide
    ·exact Nat.lt_trans ((Nat.log2_lt hz).mpr (show i.natAbs < 2 ^ 64 from hc)) (by decide)
   ·show Q (.str (Str.ofString (toString i))) H
    rw[zFm]
    exact zF.here h rp ⟨rfl,zFo i⟩
  ·rw[if_neg hc] at h
   exact h.elim
 ·exact h.elim
end L2
namespace L2
open PySem PySem.Spec PyProof.Rows
section
variable {K:PySem.W.Frag}{Θ:Tab}
noncomputable def zIU (K:PySem.W.Frag):List V->Hp->VK->Prop:=fun xs H Q=>∃ p ys,xs=[.ref p]/\((SqL K H p ys/\∀ l,H l=none->Q (.ref l) (upd H l (.tup ys)))\/(SqT K H p ys/\Q (.ref p) H))
theorem zAZ {X:Cx}:jh X (.type "tuple") (zIU X.K):=zCr
theorem zDS:AdN K Θ M.zBG (zIU K):=by
 intro ρ H S xs Xs Q rp rxs h
 unfold M.zBG at h
 split at h
 ·rename_i ds
  obtain⟨Y,r,rfl,ry,rfl⟩:=rxs
  obtain⟨a,zs,rfl,hq,rz⟩:=id ry
  exact⟨a,zs,rfl,.inr ⟨hq,zF.here h rp ry⟩⟩
 ·rename_i p
  obtain⟨Y,r,rfl,ry,rfl⟩:=rxs
  split at h
  ·rename_i ds e
   have e':S[p]? = some (.lst ds):=by
    unfold M.jD at e
    split at e
    ·rename_i ds' e1;cases e;exact e1
    ·cases e
   obtain⟨a,zs,rfl,ha,hx,rz⟩:=Q6 rp ry e'
   exact⟨a,zs,rfl,.inl ⟨SqL.of hx,fun l hl=>h ρ _ _ (List.prefix_refl _) (Le.new hl _) (rp.aside hl _) ⟨l,zs,rfl,.inl (.inl jX),rz.mono (List.prefix_refl _) (Le.new hl _)⟩⟩⟩
  ·exact h.elim
 ·exact h.elim
end
end L2
namespace L2
open PySem PySem.Spec PyProof.Rows
structure ZU (K:PySem.W.Frag) (Θ:Tab) (c:Nat) (C:Addr) (N:List Str):Prop where
 tab:Θ c=some (C,N)
 cl:Cls K C
 no:∀ f∈N,QI K C f
 few:N.length < 999
 nd:N.Nodup
theorem zEu {α:Type}{Pr:α->Prop}{a:α}{l:List α} (h:Pr a) (k:∀ x∈l,Pr x):∀ x∈a::l,Pr x:=fun x hx=>(List.mem_cons.mp hx).elim (fun e=>by rw[e];exact h) (k x)
theorem zGK {X:Cx}{Θ:Tab}{st:Stmt}:MS X Θ st M.zED:=zIG
theorem zEQ {X:Cx}{Θ:Tab}{st:Stmt}:WS X Θ st M.zED:=by with_unfolding_all exact zGK (X:=X) (Θ:=Θ) (st:=st)
structure zA0 (P:Program) (w:World) (K:PySem.W.Frag) (mg:Str->Option Value) (base:Heap) (C:Addr) (m:Str) (k:Nat) (ps:List Str) (sp:Sp):Prop where
 ex:∃ f fd,jd P w K mg base CX0 k f fd ps sp/\yz K fd ps []/\zFY K C m f
structure zHZ (P:Program) (w:World) (K:PySem.W.Frag) (mg:Str->Option Value) (base:Heap) (C:Addr) (x:Str) (k:Nat) (ps:List Str) (sp:Sp):Prop where
 ex:∃ f fd,jd P w K mg base CX0 k f fd ps sp/\yz K fd ps []/\Mk K C f/\mg x=some (.ref C)
theorem zCZ {α:Type} [DecidableEq α]:∀ {l N:List α},l.Nodup->(∀ x∈l,x∈N)->l.length <= N.length
 | [],_,_,_=>Nat.zero_le _
 | a::l,N,h,k=>by
  have ha:=k a List.mem_cons_self
  have hn:=List.nodup_cons.mp h
  have h1:l.length <= (N.erase a).length:=zCZ hn.2 fun x hx=>(List.mem_erase_of_ne (show x≠a from fun e=>hn.1 (by rw[<- e];exact hx))).mpr (k x (List.mem_cons_of_mem _ hx))
  rw[List.length_erase_of_mem ha] at h1
  have h2:=List.length_pos_of_mem ha
  rw[List.length_cons]
  omega
theorem zAu (f:Str) (v:V):∀ fs:List (Str×V),∀ g,g∈(qV f v fs).map (·.1)->g=f\/g∈fs.map (·.1)
 | [],g,h=>by
  have h':g∈[f]:=h
  exact .inl (by simpa using h')
 | (k,x)::r,g,h=>by
  rw[show qV f v ((k,x)::r)=(if k=f then (k,v)::r else (k,x)::qV f v r) from rfl] at h
  by_cases hk:k=f
  ·rw[if_pos hk] at h
   exact .inr h
  ·rw[if_neg hk,List.map_cons] at h
   rcases List.mem_cons.mp h with e | h
   ·exact .inr (by rw[e];simp)
   ·rcases zAu f v r g h with e | e
    ·exact .inl e
    ·exact .inr (List.mem_cons_of_mem _ e)
theorem zGI (f:Str) (v:V):∀ fs:List (Str×V),(fs.map (·.1)).Nodup->((qV f v fs).map (·.1)).Nodup
 | [],_=>by show [f].Nodup;simp
 | (k,x)::r,h=>by
  rw[List.map_cons,List.nodup_cons] at h
  rw[show qV f v ((k,x)::r)=(if k=f then (k,v)::r else (k,x)::qV f v r) from rfl]
  by_cases hk:k=f
  ·rw[if_pos hk,List.map_cons,List.nodup_cons];exact h
  ·rw[if_neg hk,List.map_cons,List.nodup_cons]
   refine⟨fun m=>?_,zGI f v r h.2⟩
   rcases zAu f v r k m with e | e
   ·exact hk e
   ·exact h.1 e
theorem zBO {f:Str}:∀ {gs:List (Str×V)},f∉gs.map (·.1)->gs.lookup f=none
 | [],_=>rfl
 | (g,x)::r,h=>by
  rw[List.map_cons,List.mem_cons,not_or] at h
  have hb:(f == g)=false:=beq_eq_false_iff_ne.mpr h.1
  rw[List.lookup_cons,hb]
  exact zBO h.2
theorem zMJ {P:Program}{w:World}{K:PySem.W.Frag}{mg:Str->Option Value}{base:Heap}{Θ:Tab}{k n:Nat}{f:Addr}{fd:FuncData}{ps:List Str}{q:M.F} (h:∀ ds s,q ds s=.no):jd P w K mg base CX0 k f fd ps (SpM K Θ n q) :=
 ⟨fun vs H Q E ⟨ρ,ds,S,_,_,_,z⟩=>by rw[h] at z;exact z.elim,fun A outer s H args us vs Q E _ _ _ _ _ ⟨ρ,ds,S,_,_,_,z⟩=>by rw[h] at z;exact z.elim⟩
section
variable {K:PySem.W.Frag}{Θ:Tab}{ρ:List Addr}{H:Hp}
theorem zAC.few {N:List Str}{fs:List (Option M.D)}{gs:List (Str×V)} (r:zAC K ρ H N fs gs):gs.length <= N.length:=by
 have:=zCZ r.nd r.within
 rwa [List.length_map] at this
theorem zAC.put {H':Hp}{N:List Str}{fs:List (Option M.D)}{gs:List (Str×V)}{i:Nat}{f:Str}{d:M.D}{v:V} (r:zAC K ρ H N fs gs) (hN:N.Nodup) (hi:N[i]? = some f) (le:Le H H') (rv:zK K ρ H' d v):zAC K ρ H' N (fs.set i (some d)) (qV f v gs):=by
 refine⟨by rw[List.length_set];exact r.len,zGI f v gs r.nd,fun g hg=>?_,fun j g e hj he=>?_⟩
 ·rcases zAu f v gs g hg with z | z
  ·rw[z];exact List.mem_of_getElem? hi
  ·exact r.within g z
 ·rw[Qr]
  by_cases hij:i=j
  ·subst hij
   rw[hi] at hj;cases hj
   rw[if_pos rfl]
   have hl:i < fs.length:=by rw[r.len];exact (List.getElem?_eq_some_iff.mp hi).1
   rw[List.getElem?_set_self hl] at he
   cases he
   exact⟨v,rfl,rv⟩
  ·rw[List.getElem?_set_ne hij] at he
   have hne:¬ g=f:=fun z=>hij (JK hN (by rw[hi]) (by rw[hj,z]))
   rw[if_neg hne]
   obtain⟨u,e1,e2⟩:=r.get j g e hj he
   exact⟨u,e1,e2.mono (List.prefix_refl _) le⟩
theorem zBE {S:M.S}{p c:Nat}{a C:Addr}{N:List Str}{fs:List (Option M.D)} (cm:ZU K Θ c C N) (rp:zW K Θ ρ S H) (ha:ρ[p]? = some a) (e:S[p]? = some (.ins c fs)):∃ dx gs,H a=some (.ins C dx gs)/\zAC K ρ H N fs gs:=by
 obtain⟨b,hb,C',dx,gs,N',h1,h2,h3⟩:=rp.obj p _ e
 rw[ha] at hb;cases hb
 rw[cm.tab] at h2;cases h2
 exact⟨dx,gs,h1,h3⟩
theorem zE0 {a C dx:Addr}{gs:List (Str×V)} (h:H a=some (.ins C dx gs)):Mut (H a):=by rw[h];trivial
theorem zHU {S:M.S}{c i:Nat}{C:Addr}{N:List Str}{f:Str}{x:M.D}{X1:V}{Q:VK} (cm:ZU K Θ c C N) (hi:N[i]? = some f) (rp:zW K Θ ρ S H) (rx:zK K ρ H x X1) (h:zF K Θ (zK K) ρ H (M.zGt c i x S) Q) :
  ∃ a dx fs v,X1=.ref a/\H a=some (.ins C dx fs)/\fs.lookup f=some v/\Q v H:=by
 unfold M.zGt at h
 split at h
 ·rename_i p
  split at h
  ·rename_i c' fs e
   split at h
   ·rename_i hc
    subst hc
    split at h
    ·rename_i d ed
     obtain⟨a,rfl,ha⟩:=rx
     obtain⟨dx,gs,h1,h3⟩:=zBE cm rp ha e
     obtain⟨v,e1,rv⟩:=h3.get i f d hi ed
     exact⟨a,dx,gs,v,rfl,h1,e1,zF.here h rp rv⟩
    ·exact h.elim
   ·exact h.elim
  ·exact h.elim
 ·exact h.elim
theorem zKJ {X:Cx}{c i:Nat}{C:Addr}{N:List Str}{f:Str}{e:Expr}{m:M.EM}{pos:Pos} (cm:ZU X.K Θ c C N) (hi:N[i]? = some f) (he:ME X Θ e m) (hb:attributeBase e f X.env (eval e X.env)=eval e X.env:=by rfl):ME X Θ (.Attribute e f pos) (M.yM c i m) :=
 (zJ9 he hb).imp fun σ H Q ⟨ρ,σ',S,st,rp,h⟩=>⟨ρ,σ',S,st,rp,zF.bind h fun ρ1 H1 x X1 S1 p1 l1 rp1 rx h1=>by
  obtain⟨a,dx,fs,v,e1,e2,e3,q⟩:=zHU cm hi rp1 rx h1
  exact⟨a,C,dx,fs,v,e1,e2,cm.cl,cm.no f (List.mem_of_getElem? hi),e3,q⟩⟩
theorem qv {X:Cx}{c i:Nat}{C:Addr}{N:List Str}{f:Str}{e:Expr}{m:M.EM}{pos:Pos} (cm:ZU X.K Θ c C N) (hi:N[i]? = some f) (he:WE X Θ e m) (hb:attributeBase e f X.env (eval e X.env)=eval e X.env:=by rfl):WE X Θ (.Attribute e f pos) (M.yM c i m):=by with_unfolding_all exact zKJ (X:=X) (c:=c) (i:=i) (C:=C) (N:=N) (f:=f) (e:=e) (m:=m) (pos:=pos) cm hi he hb
theorem zID {S:M.S}{c i:Nat}{C:Addr}{N:List Str}{f:Str}{x y:M.D}{X1 Y:V}{σ1:M.St}{σ:St}{D:JM} (cm:ZU K Θ c C N) (hi:N[i]? = some f) (rp:zW K Θ ρ S H) (st:jc K ρ H σ1 σ) (rx:zK K ρ H x X1) (ry:zK K ρ H y Y) (h:zy K Θ ρ H ((M.zDy c i x y S).stm σ1 fun _ s=>.nx σ1 s) D) :
  ∃ a dx fs,X1=.ref a/\H a=some (.ins C dx fs)/\fs.length < 1000/\D.nx σ (upd H a (.ins C dx (qV f Y fs))):=by
 unfold M.zDy at h
 split at h
 ·rename_i p
  split at h
  ·rename_i c' fs e
   split at h
   ·rename_i hc
    subst hc
    obtain⟨a,rfl,ha⟩:=rx
    obtain⟨dx,gs,h1,h3⟩:=zBE cm rp ha e
    have le:=Le.put (zE0 h1) (.ins C dx (qV f Y gs))
    refine⟨a,dx,gs,rfl,h1,by have:=h3.few;have:=cm.few;omega,?_⟩
    exact h ρ _ σ (List.prefix_refl _) le (rp.put ha (zE0 h1) ⟨C,dx,_,N,jX,cm.tab,h3.put cm.nd hi le (ry.mono (List.prefix_refl _) le)⟩) (st.mono (List.prefix_refl _) le)
   ·exact h.elim
  ·exact h.elim
 ·exact h.elim
theorem zLV {X:Cx}{c i:Nat}{C:Addr}{N:List Str}{f:Str}{o e:Expr}{mo m:M.EM}{pos pos':Pos} (cm:ZU X.K Θ c C N) (hi:N[i]? = some f) (ho:ME X Θ o mo) (he:ME X Θ e m) (hs:swapsWith e (some (.Attribute o f pos')) pos.line X.env=pure false:=by kernel_rfl):MS X Θ (.Assign [.Attribute o f pos'] e pos) (M.zCA c i mo m) :=
 (zKn ho he hs).imp fun D σ H ⟨ρ,σ',S,st,rp,h⟩=>⟨ρ,σ',S,st,rp,zy.stm h fun ρ1 H1 y Y S1 p1 l1 rp1 ry h1=>⟨ρ1,σ',S1,st.mono p1 l1,rp1,zy.stm h1 fun ρ2 H2 x X1 S2 p2 l2 rp2 rx h2=>by
  obtain⟨a,dx,fs,e1,e2,e3,q⟩:=zID cm hi rp2 (st.mono (p1.trans p2) (l1.trans l2)) rx (ry.mono p2 l2) h2
  exact⟨a,C,dx,fs,e1,e2,cm.cl,cm.no f (List.mem_of_getElem? hi),e3,q⟩⟩⟩
theorem zDa {X:Cx}{c i:Nat}{C:Addr}{N:List Str}{f:Str}{o e:Expr}{mo m:M.EM}{pos pos':Pos} (cm:ZU X.K Θ c C N) (hi:N[i]? = some f) (ho:WE X Θ o mo) (he:WE X Θ e m) (hs:swapsWith e (some (.Attribute o f pos')) pos.line X.env=pure false:=by kernel_rfl):WS X Θ (.Assign [.Attribute o f pos'] e pos) (M.zCA c i mo m):=by with_unfolding_all exact zLV (X:=X) (c:=c) (i:=i) (C:=C) (N:=N) (f:=f) (o:=o) (e:=e) (mo:=mo) (m:=m) (pos:=pos) (pos':=pos') cm hi ho he hs
theorem zAb {N:List Str}{fs:List (Option M.D)}{gs:List (Str×V)}{m:Str} (r:zAC K ρ H N fs gs) (hm:m∉N):gs.lookup m=none:=zBO fun z=>hm (r.within m z)
theorem zJY {X:Cx}{c k kk n:Nat}{C:Addr}{N ps:List Str}{name:Str}{o e:Expr}{es:List Expr}{mo:M.EM}{m:M.AM}{f:M.F}{pos apos:Pos}{pl:Sem Bool} (cm:ZU X.K Θ c C N) (h:zA0 X.prog X.w X.K X.mg X.base C name k ps (SpM X.K Θ (n+1) f)) (hr:zt kk X.A) (hk:k <= kk) (hm:name∉N) (ho:ME X Θ o mo) (ha:MA X Θ (e::es) m) (ar:Z7 m n) (hx:qX CX0 X E0:=by exact Z6)
  (he:z5 e=true:=by rfl) (hpl:es.all z5=true:=by rfl)
  (ht:eval (.Call (.Attribute o name apos) (e::es) [] pos) X.env=(do
   let ov <- eval o X.env
   standAt apos.atName
   let (f,first) <- holding [ov] (getMethod ov name pl)
   callWith pos f first (backTo pos (starEach (e::es) X.env)) (backToKw pos (keywordEach [] X.env))):=by rfl):ME X Θ (.Call (.Attribute o name apos) (e::es) [] pos) (M.qj c f mo m):=by
 obtain⟨g,fd,F,b,mt⟩:=h.ex
 refine (zJa ho cm.cl mt F (hr.mono hk) b .nil hx ha (jv he) (ZK hpl) ht).imp fun σ H Q ⟨ρ,σ',S,st,rp,h⟩=>⟨ρ,σ',S,st,rp,zF.bind h fun ρ1 H1 x X1 S1 p1 l1 rp1 rx h1=>?_⟩
 cases x with
 | ref p =>
  have h1':zF X.K Θ (zK X.K) ρ1 H1 (match S1[p]? with | some (.ins c' _)=>if c'=c then (m σ' S1).bind fun xs s=>f (.ref p::xs) s else .no | _=>.no) Q:=h1
  cases q:S1[p]? with
  | none=>rw[q] at h1';exact h1'.elim
  | some ob =>
   rw[q] at h1'
   cases ob with
   | ins c' fs =>
    by_cases hc:c'=c
    ·subst hc
     have h2:zF X.K Θ (zK X.K) ρ1 H1 (if c'=c' then (m σ' S1).bind fun xs s=>f (.ref p::xs) s else .no) Q:=h1'
     rw[if_pos rfl] at h2
     obtain⟨a,rfl,ha'⟩:=id rx
     obtain⟨dx,gs,e1,e2⟩:=zBE cm rp1 ha' q
     refine⟨a,dx,gs,rfl,e1,zAb e2 hm,ρ1,σ',S1,st.mono p1 l1,rp1,?_⟩
     cases hM:m σ' S1 with
     | no=>rw[hM] at h2;exact h2.elim
     | exc a s=>rw[hM] at h2;exact h2.elim
     | ok ds S2 =>
      rw[hM] at h2
      intro ρ2 H2 vs p2 l2 rp2 r2
      rw[List.append_nil]
      exact⟨ρ2,.ref p::ds,S2,by rw[List.length_cons,ar _ _ _ _ hM],⟨_,_,rfl,rx.mono p2 l2,r2⟩,rp2,zF.weak h2 p2 l2⟩
    ·have h2:zF X.K Θ (zK X.K) ρ1 H1 (if c'=c then (m σ' S1).bind fun xs s=>f (.ref p::xs) s else .no) Q:=h1'
     rw[if_neg hc] at h2
     exact h2.elim
   | lst _=>exact h1'.elim
   | dct _=>exact h1'.elim
   | fdc _=>exact h1'.elim
   | dtt _=>exact h1'.elim
 | _=>exact h1.elim
theorem Qf {X:Cx}{c k kk n:Nat}{C:Addr}{N ps:List Str}{name:Str}{o e:Expr}{es:List Expr}{mo:M.EM}{m:M.AM}{f:M.F}{pos apos:Pos}{pl:Sem Bool} (cm:ZU X.K Θ c C N) (h:zA0 X.prog X.w X.K X.mg X.base C name k ps (SpM X.K Θ (n+1) f)) (hr:zt kk X.A) (hk:k <= kk) (hm:name∉N) (ho:WE X Θ o mo) (ha:WA X Θ (e::es) m) (ar:Z7 m n) (hx:qX CX0 X E0:=by exact Z6)
  (he:z5 e=true:=by rfl) (hpl:es.all z5=true:=by rfl)
  (ht:eval (.Call (.Attribute o name apos) (e::es) [] pos) X.env=(do
   let ov <- eval o X.env
   standAt apos.atName
   let (f,first) <- holding [ov] (getMethod ov name pl)
   callWith pos f first (backTo pos (starEach (e::es) X.env)) (backToKw pos (keywordEach [] X.env))):=by rfl):WE X Θ (.Call (.Attribute o name apos) (e::es) [] pos) (M.qj c f mo m):=by with_unfolding_all exact zJY (X:=X) (c:=c) (k:=k) (kk:=kk) (n:=n) (C:=C) (N:=N) (ps:=ps) (name:=name) (o:=o) (e:=e) (es:=es) (mo:=mo) (m:=m) (f:=f) (pos:=pos) (apos:=apos) (pl:=pl) cm h hr hk hm ho ha ar hx he hpl ht
theorem zHM {X:Cx}{c k kk:Nat}{C:Addr}{N ps:List Str}{name:Str}{o:Expr}{mo:M.EM}{f:M.F}{pos apos:Pos}{pl:Sem Bool} (cm:ZU X.K Θ c C N) (h:zA0 X.prog X.w X.K X.mg X.base C name k ps (SpM X.K Θ 1 f)) (hr:zt kk X.A) (hk:k <= kk) (hm:name∉N) (ho:ME X Θ o mo) (hx:qX CX0 X E0:=by exact Z6)
  (ht:eval (.Call (.Attribute o name apos) [] [] pos) X.env=(do
   let ov <- eval o X.env
   standAt apos.atName
   let (f,first) <- holding [ov] (getMethod ov name pl)
   callWith pos f first (backTo pos (starEach [] X.env)) (backToKw pos (keywordEach [] X.env))):=by rfl):ME X Θ (.Call (.Attribute o name apos) [] [] pos) (M.qj c f mo M.zI):=by
 obtain⟨g,fd,F,b,mt⟩:=h.ex
 refine (zIA ho cm.cl mt F (hr.mono hk) b .nil hx ht).imp fun σ H Q ⟨ρ,σ',S,st,rp,h⟩=>⟨ρ,σ',S,st,rp,zF.bind h fun ρ1 H1 x X1 S1 p1 l1 rp1 rx h1=>?_⟩
 cases x with
 | ref p =>
  have h1':zF X.K Θ (zK X.K) ρ1 H1 (match S1[p]? with | some (.ins c' _)=>if c'=c then f [.ref p] S1 else .no | _=>.no) Q:=h1
  cases q:S1[p]? with
  | none=>rw[q] at h1';exact h1'.elim
  | some ob =>
   rw[q] at h1'
   cases ob with
   | ins c' fs =>
    by_cases hc:c'=c
    ·subst hc
     have h2:zF X.K Θ (zK X.K) ρ1 H1 (if c'=c' then f [.ref p] S1 else .no) Q:=h1'
     rw[if_pos rfl] at h2
     obtain⟨a,rfl,ha'⟩:=id rx
     obtain⟨dx,gs,e1,e2⟩:=zBE cm rp1 ha' q
     exact⟨a,dx,gs,rfl,e1,zAb e2 hm,ρ1,[.ref p],S1,rfl,⟨_,_,rfl,rx,rfl⟩,rp1,h2⟩
    ·have h2:zF X.K Θ (zK X.K) ρ1 H1 (if c'=c then f [.ref p] S1 else .no) Q:=h1'
     rw[if_neg hc] at h2
     exact h2.elim
   | lst _=>exact h1'.elim
   | dct _=>exact h1'.elim
   | fdc _=>exact h1'.elim
   | dtt _=>exact h1'.elim
 | _=>exact h1.elim
theorem Jc {X:Cx}{c k kk:Nat}{C:Addr}{N ps:List Str}{name:Str}{o:Expr}{mo:M.EM}{f:M.F}{pos apos:Pos}{pl:Sem Bool} (cm:ZU X.K Θ c C N) (h:zA0 X.prog X.w X.K X.mg X.base C name k ps (SpM X.K Θ 1 f)) (hr:zt kk X.A) (hk:k <= kk) (hm:name∉N) (ho:WE X Θ o mo) (hx:qX CX0 X E0:=by exact Z6)
  (ht:eval (.Call (.Attribute o name apos) [] [] pos) X.env=(do
   let ov <- eval o X.env
   standAt apos.atName
   let (f,first) <- holding [ov] (getMethod ov name pl)
   callWith pos f first (backTo pos (starEach [] X.env)) (backToKw pos (keywordEach [] X.env))):=by rfl):WE X Θ (.Call (.Attribute o name apos) [] [] pos) (M.qj c f mo M.zI):=by with_unfolding_all exact zHM (X:=X) (c:=c) (k:=k) (kk:=kk) (C:=C) (N:=N) (ps:=ps) (name:=name) (o:=o) (mo:=mo) (f:=f) (pos:=pos) (apos:=apos) (pl:=pl) cm h hr hk hm ho hx ht
theorem zI6 {X:Cx}{c k kk n nf:Nat}{C:Addr}{N ps:List Str}{x:Str}{e:Expr}{es:List Expr}{m:M.AM}{f:M.F}{pos p:Pos} (cm:ZU X.K Θ c C N) (h:zHZ X.prog X.w X.K X.mg X.base C x k ps (SpM X.K Θ (n+1) f)) (hr:zt kk X.A) (hk:k+1 <= kk) (hn:N.length=nf) (hg:Gl X x) (ha:MA X Θ (e::es) m) (ar:Z7 m n) (hx:qX CX0 X E0:=by exact Z6) (hdb:(x == ("__debug__" : Str))=false:=by decide)
  (he:z5 e=true:=by rfl) (hpl:es.all z5=true:=by rfl):ME X Θ (.Call (.Name x p) (e::es) [] pos) (M.zAL c nf f m):=by
 obtain⟨g,fd,F,b,mk,hmg⟩:=h.ex
 refine (zJD mk F (hr.mono hk) hg hmg b .nil hx ha hdb (jv he) (ZK hpl)).imp fun σ H Q ⟨ρ,σ',S,st,rp,h⟩=>⟨ρ,σ',S,st,rp,?_⟩
 have h':zF X.K Θ (zK X.K) ρ H ((m σ' S).bind fun xs s=>(f (.ref s.length::xs) (s++[.ins c (List.replicate nf none)])).bind fun d s'=>if d=.non then .ok (.ref s.length) s' else .no) Q:=h
 cases hM:m σ' S with
 | no=>rw[hM] at h';exact h'.elim
 | exc a s=>rw[hM] at h';exact h'.elim
 | ok ds S1 =>
  rw[hM,M.R.bind_ok] at h'
  intro ρ1 H1 vs p1 l1 rp1 r1 y dx hy hdx hne
  rw[List.append_nil]
  have l2:Le H1 (upd H1 dx (.own y)):=Le.new hdx _
  have rp2:=rp1.aside hdx (.own y)
  have hy2:upd H1 dx (.own y) y=none:=by rw[jA (Ne.symm hne)];exact hy
  have l3:Le (upd H1 dx (.own y)) (upd (upd H1 dx (.own y)) y (.ins C dx [])):=Le.new hy2 _
  have pre:ρ1 <+: ρ1++[y]:=List.prefix_append _ _
  have rp3:zW X.K Θ (ρ1++[y]) (S1++[.ins c (List.replicate nf none)]) (upd (upd H1 dx (.own y)) y (.ins C dx [])):=by
   refine rp2.alloc hy2 ⟨C,dx,[],N,jX,cm.tab,by rw[List.length_replicate];exact hn.symm,List.nodup_nil,(fun f hf=>nomatch hf),fun i f d _ q=>?_⟩
   rw[List.getElem?_replicate] at q
   split at q<;>cases q
  have hlast:(ρ1++[y])[S1.length]? = some y:=by rw[<- rp1.len];simp
  refine⟨ρ1++[y],.ref S1.length::ds,_,by rw[List.length_cons,ar _ _ _ _ hM],⟨_,_,rfl,⟨y,rfl,hlast⟩,r1.mono pre (l2.trans l3)⟩,rp3,?_⟩
  refine zF.bind (zF.weak h' (p1.trans pre) (l1.trans (l2.trans l3))) fun ρ4 H4 d v S4 p4 l4 rp4 rv h4=>?_
  by_cases hd:d=.non
  ·subst hd
   rw[if_pos rfl] at h4
   cases rv
   exact⟨rfl,zF.here h4 rp4 ⟨y,rfl,Q0 p4 hlast⟩⟩
  ·rw[if_neg hd] at h4
   exact h4.elim
theorem J5 {X:Cx}{c k kk n nf:Nat}{C:Addr}{N ps:List Str}{x:Str}{e:Expr}{es:List Expr}{m:M.AM}{f:M.F}{pos p:Pos} (cm:ZU X.K Θ c C N) (h:zHZ X.prog X.w X.K X.mg X.base C x k ps (SpM X.K Θ (n+1) f)) (hr:zt kk X.A) (hk:k+1 <= kk) (hn:N.length=nf) (hg:Gl X x) (ha:WA X Θ (e::es) m) (ar:Z7 m n) (hx:qX CX0 X E0:=by exact Z6) (hdb:(x == ("__debug__" : Str))=false:=by decide)
  (he:z5 e=true:=by rfl) (hpl:es.all z5=true:=by rfl):WE X Θ (.Call (.Name x p) (e::es) [] pos) (M.zAL c nf f m):=by with_unfolding_all exact zI6 (X:=X) (c:=c) (k:=k) (kk:=kk) (n:=n) (nf:=nf) (C:=C) (N:=N) (ps:=ps) (x:=x) (e:=e) (es:=es) (m:=m) (f:=f) (pos:=pos) (p:=p) cm h hr hk hn hg ha ar hx hdb he hpl
end
end L2
namespace L2
open PySem PySem.Spec PyProof.Rows
noncomputable def SIt (b:Bool) (h:Heap) (it a:Addr) (i:Nat):Prop:=match b with | true=>h.IsListIter it a i | false=>h.IsTupleIter it a i
section
variable {P:Program}{w:World}{A:Around}{E:Value->Shared->Prop}{s:Shared}
structure ZAt (b1 b2:Bool) (z TI TO i1 i2 l1 l2:Addr) (i:Nat) (h:Heap):Prop where
 zp:IsZip h z TI TO .none
 ti:IsPair h TI (.ref i1) (.ref i2)
 to:∃ a b,IsPair h TO a b
 n1:SIt b1 h i1 l1 i
 n2:SIt b2 h i2 l2 i
end
section
variable {Θ:Tab}
theorem zGG {S:M.S}{p:Nat}{ds:List M.D} (e:M.jD S p=some ds):S[p]? = some (.lst ds):=by
 unfold M.jD at e
 split at e
 ·rename_i ds' e1;cases e;exact e1
 ·cases e
end
end L2
namespace L2
open PySem PySem.Spec PyProof.Rows
section
variable {P:Program}{w:World}{A:Around}{E:Value->Shared->Prop}{s:Shared}
set_option maxHeartbeats 4000000 in
end
end L2
namespace L2
open PySem PySem.Spec PyProof.Rows
section
variable {K:PySem.W.Frag}{Θ:Tab}{ρ:List Addr}{H H':Hp}
section
variable {a:Addr}{o:Obj}{ks:List (Key×V)} (ha:H a=some (.frz o (.dK ks)))
include ha
end
end
end L2
namespace L2
open PySem PySem.Spec PyProof.Rows
theorem zKz (x:M.T) (u:Tok):Txt.sliceBy (ofT x) none none (-1,u)=ofT x.reverse:=by
 have h:=step_rev_list (ofT x) u
 have hl:(ofT x).length=x.length:=jq x
 have e:(Txt.sliceBy (ofT x) none none (-1,u)).cps.toList=x.reverse:=by
  rw[h,hl]
  refine List.ext_getElem (by simp) fun i h1 h2=>?_
  rw[List.getElem_map,List.getElem_range,List.getElem_reverse]
  have hi:i < x.length:=by simpa using h2
  simp[ofT,Array.getD,show x.length - 1 - i < x.length by omega]
 cases hq:Txt.sliceBy (ofT x) none none (-1,u) with
 | mk c =>
  rw[hq] at e
  exact congrArg Str.mk (Array.toList_inj.mp e)
theorem zJj {X:Cx}{e st:Expr}{te:TE}{p2 pos:Pos} (he:PE X e te) (hst:PE X st (tC (.int (-1)))):PE X (.Subscript e (.Slice none none (some st) p2) pos) (fun σ H Q=>te σ H fun x H1=>∃ z:M.T,x=.str (ofT z)/\(ofT z).length <= sizeLine/\Q (.str (ofT z.reverse)) H1):=by
 intro pins s σ H Q I h
 refine Subscript_ (thn (he pins s σ H _ I h) fun v s1 ⟨x,H1,I1,r1,q1⟩=>?_)
 obtain⟨z,rfl,hz,q⟩:=q1
 obtain⟨tx,rfl⟩:=r1
 refine wpAny_Slice ?_
 rw[evalPart_none]
 refine wpAny_pure (wpAny_pure ?_)
 rw[evalPart_some]
 refine thn (hst pins s1 σ H1 (fun v H'=>v=.int (-1)/\H'=H1) I1 ⟨rfl,rfl⟩) fun u s2 ⟨y,H2,I2,r2,ey,eh⟩=>?_
 subst ey
 subst eh
 obtain⟨t,rfl⟩:=r2
 have I4:Inv X pins σ H2 { s2 with heap:=s2.heap.push { cls:=.type "slice",data:=.fields #[.none,.none,.int (-1) t] } }:=I2.kept (t':=s2.toks) fun b ob q=>Heap.get?_push_of_some _ q
 show wpAny (model X.prog X.w) X.A (subscriptTail e (.Slice none none (some st) p2) (.str (ofT z) tx) (.ref s2.heap.objs.size)) (EP X pins σ Q) X.xe { s2 with heap:=s2.heap.push { cls:=.type "slice",data:=.fields #[.none,.none,.int (-1) t] } }
 refine wpAny_with_toks (n:=1) I4.tk ?_
 refine tail_any (ops:=[.ref s2.heap.objs.size,.str (ofT z) tx]) (typeIs_str _ _ _) F.slot_str_getitem.lookup ?_ (by with_unfolding_all rfl)
 refine wpAny_getItem_str_slice (l:=none) (u:=none) (st:=some (-1,t)) ⟨_,Heap.get?_push_size _ rfl,rfl,rfl⟩ rfl (post_val_or_str ⟨Nat.le_trans (Txt.sliceBy_le (ofT z) none none (-1,t) (show (-1:Int)≠0 by decide)) hz,fun t' c hc=>⟨.str (ofT z.reverse),H2,I4.tok c hc,⟨t',?_⟩,q⟩⟩)
 exact congrArg (fun y=>Value.str y t') (zKz z t)
section
variable {X:Cx}{Θ:Tab}
theorem PE.or {e:Expr}{t t':TE} (h:PE X e t) (h':PE X e t'):PE X e (fun σ H Q=>t σ H Q\/t' σ H Q):=fun pins s σ H Q I q=>by
 rcases q with q | q
 ·exact h pins s σ H Q I q
 ·exact h' pins s σ H Q I q
theorem zKX {e:Expr}{m:M.EM}{j:Nat}{p1 p2 p3 pos:Pos} (he:ME X Θ e m):ME X Θ (.Subscript e (.Slice none none (some (.UnaryOp .USub (.Constant (.int 1) j p1) p2)) p3) pos) (M.eUn M.Zi m) :=
 (PE.or (zLS he ((zIe zG2 zDT).imp fun σ H Q h=>⟨1,rfl,h⟩)) (zJj he ((zIe zG2 zDT).imp fun σ H Q h=>⟨1,rfl,h⟩))).imp fun σ H Q ⟨ρ,σ',S,st,rp,h⟩=>by
  have h':zF X.K Θ (zK X.K) ρ H ((m σ' S).bind M.Zi) Q:=h
  cases hm:m σ' S with
  | no=>rw[hm] at h';exact h'.elim
  | exc a s=>rw[hm] at h';exact h'.elim
  | ok d S1 =>
   rw[hm] at h'
   have go:∀ {Q':VK},(∀ ρ1 H1 v,ρ <+: ρ1->Le H H1->zW X.K Θ ρ1 S1 H1->zK X.K ρ1 H1 d v->Q' v H1)->RdE X.K Θ m σ H Q':=fun q=>⟨ρ,σ',S,st,rp,by rw[hm];exact q⟩
   cases d with
   | ref p =>
    refine .inl (go fun ρ1 H1 v p1 l1 rp1 rx=>?_)
    have h2:zF X.K Θ (zK X.K) ρ H (match M.jD S1 p with | some xs=>M.alloc (.lst xs.reverse) S1 | none=>.no) Q:=h'
    cases e:M.jD S1 p with
    | none=>rw[e] at h2;exact h2.elim
    | some ds =>
     rw[e] at h2
     obtain⟨a,zs,rfl,ha,hx,rz⟩:=Q6 rp1 rx (zGG e)
     exact⟨a,zs,rfl,SqL.of hx,fun p hp=>zF.alloc (zF.weak h2 p1 l1) rp1 rz.rev hp⟩
   | str z =>
    refine .inr (go fun ρ1 H1 v p1 l1 rp1 rx=>?_)
    obtain⟨rfl,ok⟩:=rx
    have h2:zF X.K Θ (zK X.K) ρ H (if z.length <= M.SZ then M.R.ok (.str z.reverse) S1 else .no) Q:=h'
    by_cases hz:z.length <= M.SZ
    ·rw[if_pos hz] at h2
     exact⟨z,rfl,by rw[jq,<- yc];exact hz,h2 ρ1 H1 _ p1 l1 rp1 ⟨rfl,Q9 ok fun c hc=>List.mem_reverse.mp hc⟩⟩
    ·rw[if_neg hz] at h2
     exact h2.elim
   | _=>exact h'.elim
theorem zAh {e:Expr}{m:M.EM}{j:Nat}{p1 p2 p3 pos:Pos} (he:WE X Θ e m):WE X Θ (.Subscript e (.Slice none none (some (.UnaryOp .USub (.Constant (.int 1) j p1) p2)) p3) pos) (M.eUn M.Zi m):=by with_unfolding_all exact zKX (e:=e) (m:=m) (j:=j) (p1:=p1) (p2:=p2) (p3:=p3) (pos:=pos) he
end
end L2
namespace L2
open PySem PySem.Spec PyProof.Rows PySem.Builtin.Str
noncomputable def zIa (K:PySem.W.Frag):R2:=fun x y H Q=>∃ a b ys,x=.ref a/\y=.ref b/\SqT K H a []/\SqT K H b ys/\Q (.ref b) H
theorem zJO {X:Cx}:OpR X (binaryOp .Add) (zIa X.K):=by
 intro pins s σ H x y v u Q I rx ry h
 obtain⟨a,b,ys,rfl,rfl,ha,hb,q⟩:=h
 cases rx
 cases ry
 obtain⟨its,r1,p1,_⟩:=I.tuple ha
 obtain⟨its2,r2,p2,_⟩:=I.tuple hb
 cases r1
 obtain⟨⟨cls,dd,data,sl⟩,ho,hc,n,hd⟩:=id p1
 obtain⟨⟨cls2,dd2,data2,sl2⟩,ho2,hc2,n2,hd2⟩:=id p2
 simp only at hc hd hc2 hd2
 subst hc hd hc2 hd2
 exact concat_meets ⟨_,ho,rfl⟩ ⟨_,ho2,rfl⟩ noFill_tuple_add seq_tuple_add PySem.F.slot_tuple_add PySem.F.entry_tuple_add (PySem.F.args_tuple_add_2 _ _)
  (tuple_addW0 _ _ _ _ n n2 dd dd2 sl sl2 rfl) ⟨ho,ho2,⟨.ref b,H,I,rfl,q⟩⟩
theorem zIo {K:PySem.W.Frag}{Θ:Tab}:Ad2 K Θ M.Jv (fun x y H Q=>(zHd x y H Q\/zFA K x y H Q)\/zIa K x y H Q):=by
 intro ρ H S x y X Y Q rp rx ry h
 by_cases hc:∃ b,x=.tup []/\y=.tup b
 ·obtain⟨b,rfl,rfl⟩:=hc
  obtain⟨l,xs,rfl,hq,r⟩:=id rx
  obtain⟨l',ys,rfl,hq',r'⟩:=id ry
  have hx:xs=[]:=List.length_eq_zero_iff.mp r.length.symm
  subst hx
  exact .inr ⟨l,l',ys,rfl,rfl,hq,hq',zF.here h rp ⟨l',ys,rfl,hq',r'⟩⟩
 ·have e:M.Jv x y S=M.qZ x y S:=by
   unfold M.Jv
   split
   ·exact absurd ⟨_,rfl,rfl⟩ hc
   ·rfl
  rw[e] at h
  exact .inl (yB ρ H S x y X Y Q rp rx ry h)
end L2
namespace L2
open PySem PySem.Spec PyProof.Rows PySem.SeqAt
section
variable (w:World)
noncomputable def haD:Nat->M.D->Int
 | _,.non=>reduceHash 0xFCA86420
 | _,.int i=>hashInt i
 | _,.str x=>hashStr w (ofT x)
 | n+1,.tup ds=>reduceHash (Builtin.Tuple.tupleHashOf (ds.map (haD n)))
 | _,_=>0
end
noncomputable def drD:Nat->M.D->Nat
 | n+1,.tup ds=>(ds.map (drD n)).sum+1
 | _,_=>1
mutual
inductive IsV (h:Heap):Nat->M.D->Value->Prop
 | non {n:Nat}:IsV h n .non .none
 | int {n:Nat}{i:Int}{t:Tok}:IsV h n (.int i) (.int i t)
 | str {n:Nat}{x:M.T}{t:Tok}:IsV h n (.str x) (.str (ofT x) t)
 | tup {n:Nat}{ds:List M.D}{a:Addr}{us:List Value}:h.IsTuple a us.toArray->qJ h n ds us->IsV h (n+1) (.tup ds) (.ref a)
inductive qJ (h:Heap):Nat->List M.D->List Value->Prop
 | nil {n:Nat}:qJ h n [] []
 | cons {n:Nat}{d:M.D}{ds:List M.D}{u:Value}{us:List Value}:IsV h n d u->qJ h n ds us->qJ h n (d::ds) (u::us)
end
theorem zEj {h:Heap}{a:Addr}{x y:List Value} (p:h.IsTuple a x.toArray) (q:h.IsTuple a y.toArray):x=y:=by
 obtain⟨o,e,_,n,d⟩:=p
 obtain⟨o',e',_,n',d'⟩:=q
 rw[e] at e'
 cases e'
 rw[d] at d'
 injection d' with z _
 simpa using z
section
variable {h h':Heap}
mutual
theorem IsV.inj:∀ {n:Nat}{x y:M.D}{v:Value},IsV h n x v->IsV h n y v->x=y
 | _,_,_,_,.non,b=>by cases b;rfl
 | _,_,_,_,.int,b=>by cases b;rfl
 | _,_,_,_,.str (x:=x),b=>by
  generalize hv:ofT x=z at b
  cases b
  rw[JJ hv]
 | _,_,_,_,.tup p r,b=>by
  cases b with
  | tup q t=>rw[zEj p q] at r;rw[qJ.inj r t]
theorem qJ.inj:∀ {n:Nat}{x y:List M.D}{v:List Value},qJ h n x v->qJ h n y v->x=y
 | _,_,_,_,.nil,b=>by cases b;rfl
 | _,_,_,_,.cons p r,b=>by
  cases b with
  | cons q t=>rw[IsV.inj p q,qJ.inj r t]
end
mutual
theorem IsV.keep (k:∀ a us,h.IsTuple a us->h'.IsTuple a us):∀ {n:Nat}{x:M.D}{v:Value},IsV h n x v->IsV h' n x v
 | _,_,_,.non=>.non
 | _,_,_,.int=>.int
 | _,_,_,.str=>.str
 | _,_,_,.tup p r=>.tup (k _ _ p) (qJ.keep k r)
theorem qJ.keep (k:∀ a us,h.IsTuple a us->h'.IsTuple a us):∀ {n:Nat}{x:List M.D}{v:List Value},qJ h n x v->qJ h' n x v
 | _,_,_,.nil=>.nil
 | _,_,_,.cons p r=>.cons (IsV.keep k p) (qJ.keep k r)
end
theorem qJ.len:∀ {n:Nat}{x:List M.D}{v:List Value},qJ h n x v->x.length=v.length
 | _,_,_,.nil=>rfl
 | _,_,_,.cons _ r=>by rw[List.length_cons,List.length_cons,r.len]
theorem qJ.at:∀ {n:Nat}{x:List M.D}{v:List Value},qJ h n x v->∀ (j:Nat) (h1:j < x.length) (h2:j < v.length),IsV h n x[j] v[j]
 | _,_,_,.cons p r,0,_,_=>p
 | _,_,_,.cons p r,j+1,h1,h2=>r.at j (by simpa using h1) (by simpa using h2)
end
section
variable {A:Around}{s:Shared}
theorem zJn (x y:M.T):(ofT x == ofT y)=decide (x=y):=by
 by_cases e:x=y
 ·subst e;simp
 ·rw[decide_eq_false e]
  exact beq_false_of_ne fun z=>e (JJ z)
theorem zKm {x y:List M.D}:((List.range (min x.length y.length)).all (fun j=>decide (x[j]? = y[j]?)) && x.length == y.length)=decide (x=y):=by
 by_cases e:x=y
 ·subst e;simp
 ·rw[decide_eq_false e,Bool.and_eq_false_iff]
  by_cases l:x.length=y.length
  ·refine .inl ?_
   rw[List.all_eq_false]
   apply Classical.byContradiction
   intro n
   refine e (List.ext_getElem l fun j h1 h2=>?_)
   have:=fun q=>n ⟨j,List.mem_range.mpr (by omega),q⟩
   simp[h1,h2] at this
   exact this
  ·exact .inr (by simpa using l)
theorem qm {α:Type} [DecidableEq α] {x y:α} (h:x≠y):decide (x=y)=false:=decide_eq_false h
theorem eqF {A:Around}{x y:M.D}{u v:Value} (h:¬ x=y) (k:EqAt A s u v false):EqAt A s u v (decide (x=y)):=by rw[qm h];exact k
theorem zE1 (i j:Int):decide (M.D.int i=M.D.int j)=(i == j):=by
 by_cases e:i=j
 ·subst e;simp
 ·rw[qm fun z=>e (M.D.int.inj z),beq_false_of_ne e]
theorem zEn (x y:M.T):decide (M.D.str x=M.D.str y)=(ofT x == ofT y):=by
 rw[zJn]
 by_cases e:x=y
 ·subst e;simp
 ·rw[qm fun z=>e (M.D.str.inj z),qm e]
theorem zKe {n:Nat}{A:Around}{ds es:List M.D}{a b:Addr}{us ws:List Value} (hu:A.units+(n+1) < cLine)
  (ih:∀ {A:Around}{x y:M.D}{u v:Value},A.units+n < cLine->IsV s.heap n x u->IsV s.heap n y v->EqAt A s u v (decide (x=y)))
  (p1:s.heap.IsTuple a us.toArray) (r1:qJ s.heap n ds us) (p2:s.heap.IsTuple b ws.toArray) (r2:qJ s.heap n es ws):EqAt A s (.ref a) (.ref b) (decide (M.D.tup ds=M.D.tup es)):=by
 have td:decide (M.D.tup ds=M.D.tup es)=decide (ds=es):=by
  by_cases e:ds=es
  ·subst e;simp
  ·rw[qm fun z=>e (M.D.tup.inj z),qm e]
 rw[td]
 by_cases ab:a=b
 ·subst ab
  rw[zEj p1 p2] at r1
  rw[qJ.inj r1 r2,decide_eq_true rfl]
  exact EqAt.same _
 ·have l1:=r1.len
  have l2:=r2.len
  have z:=RcAt.tuples (A:=A) (e:=fun j=>decide (ds[j]? = es[j]?)) p1 p2 (by omega) fun j h1 h2=>by
   have h1':j < us.length:=by simpa using h1
   have h2':j < ws.length:=by simpa using h2
   have:=ih (A:=A.in1) (by rw[Around.in1_units];omega) (r1.at j (by omega) h1') (r2.at j (by omega) h2')
   have e:decide (ds[j]? = es[j]?)=decide (ds[j]=es[j]):=by
    rw[List.getElem?_eq_getElem (by omega),List.getElem?_eq_getElem (by omega)]
    by_cases e:ds[j]=es[j]
    ·rw[e];simp
    ·rw[qm e,qm fun z=>e (Option.some.inj z)]
   rw[e]
   exact this
  have e1:us.toArray.size=ds.length:=by simp[l1]
  have e2:ws.toArray.size=es.length:=by simp[l2]
  rw[e1,e2,zKm] at z
  exact EqAt.of_refs ab z
theorem IsV.eq:∀ {n:Nat}{A:Around}{x y:M.D}{u v:Value},A.units+n < cLine->IsV s.heap n x u->IsV s.heap n y v->EqAt A s u v (decide (x=y)):=by
 intro n
 induction n with
 | zero =>
  intro A x y u v hu p q
  cases p with
  | non =>
   cases q with
   | non=>rw[decide_eq_true rfl];exact EqAt.same _
   | int=>refine eqF (fun z=>nomatch z) ?_;exact EqAt.none_int _ _
   | str=>refine eqF (fun z=>nomatch z) ?_;exact EqAt.none_str _ _
  | int =>
   cases q with
   | non=>refine eqF (fun z=>nomatch z) ?_;exact EqAt.int_none _ _
   | int=>rw[zE1];exact EqAt.int_int _ _ _ _
   | str=>refine eqF (fun z=>nomatch z) ?_;exact EqAt.int_str _ _ _ _
  | str =>
   cases q with
   | non=>refine eqF (fun z=>nomatch z) ?_;exact EqAt.str_none _ _
   | int=>refine eqF (fun z=>nomatch z) ?_;exact EqAt.str_int _ _ _ _
   | str=>rw[zEn];exact EqAt.str_str _ _ _ _
 | succ n ih =>
  intro A x y u v hu p q
  cases p with
  | non =>
   cases q with
   | non=>rw[decide_eq_true rfl];exact EqAt.same _
   | int=>refine eqF (fun z=>nomatch z) ?_;exact EqAt.none_int _ _
   | str=>refine eqF (fun z=>nomatch z) ?_;exact EqAt.none_str _ _
   | tup p2 r2=>refine eqF (fun z=>nomatch z) ?_;exact EqAt.none_tuple p2 (by omega)
  | int =>
   cases q with
   | non=>refine eqF (fun z=>nomatch z) ?_;exact EqAt.int_none _ _
   | int=>rw[zE1];exact EqAt.int_int _ _ _ _
   | str=>refine eqF (fun z=>nomatch z) ?_;exact EqAt.int_str _ _ _ _
   | tup p2 r2=>refine eqF (fun z=>nomatch z) ?_;exact EqAt.int_tuple _ _ p2 (by omega)
  | str =>
   cases q with
   | non=>refine eqF (fun z=>nomatch z) ?_;exact EqAt.str_none _ _
   | int=>refine eqF (fun z=>nomatch z) ?_;exact EqAt.str_int _ _ _ _
   | str=>rw[zEn];exact EqAt.str_str _ _ _ _
   | tup p2 r2=>refine eqF (fun z=>nomatch z) ?_;exact EqAt.str_tuple _ _ p2 (by omega)
  | tup p1 r1 =>
   cases q with
   | non=>refine eqF (fun z=>nomatch z) ?_;exact EqAt.tuple_none p1 (by omega)
   | int=>refine eqF (fun z=>nomatch z) ?_;exact EqAt.tuple_int _ _ p1 (by omega)
   | str=>refine eqF (fun z=>nomatch z) ?_;exact EqAt.tuple_str _ _ p1 (by omega)
   | tup p2 r2=>exact zKe hu (fun {A x y u v}=>ih (A:=A) (x:=x) (y:=y) (u:=u) (v:=v)) p1 r1 p2 r2
end
section
variable {pg:Program}{w:World}{Er:Value->Shared->Prop}
noncomputable def zEt (pg:Program) (w:World) (Er:Value->Shared->Prop) (n:Nat):Prop:=∀ {A:Around}{s:Shared}{d:M.D}{v:Value}{Q:Int->Shared->Prop},A.units+n < cLine->IsV s.heap n d v->Q (haD w n d) { s with toks:=s.toks+drD n d }->wpAny (model pg w) A (pyHash v) Q Er s
theorem zGi {n:Nat} (ih:zEt pg w Er n) {A:Around} (hu:A.units+n < cLine):∀ {vs:List Value}{ds:List M.D}{s:Shared}{b:Array Int}{Q:Array Int->Shared->Prop},qJ s.heap n ds vs ->
  (∀ b',b'.toList=b.toList++ds.map (haD w n)->Q b' { s with toks:=s.toks+(ds.map (drD n)).sum }) ->
  wpAny (model pg w) A (forIn vs b fun x r=>pyHash x >>= fun y=>(pure PUnit.unit:Sem PUnit) >>= fun _=>pure (ForInStep.yield (r.push y))) Q Er s:=by
 intro vs
 induction vs with
 | nil =>
  intro ds s b Q r h
  cases r
  rw[List.forIn_nil]
  exact wpAny_pure (h b (by simp))
 | cons v vs hv =>
  intro ds s b Q r h
  cases r with
  | @cons _ d ds' _ _ r1 r2 =>
   rw[List.forIn_cons]
   apply wpAny_bind
   apply wpAny_bind
   apply ih hu r1
   apply wpAny_bind
   apply wpAny_pure
   apply wpAny_pure
   refine hv (s:={ s with toks:=s.toks+drD n d }) r2 fun b' e=>?_
   have:=h b' (by rw[e];simp)
   simpa [Nat.add_assoc] using this
theorem IsV.hash:∀ n,zEt pg w Er n:=by
 have leaf:∀ {n:Nat}{A:Around}{s:Shared}{d:M.D}{v:Value}{Q:Int->Shared->Prop},(∀ ds,d≠.tup ds)->IsV s.heap n d v->Q (haD w n d) { s with toks:=s.toks+drD n d }->wpAny (model pg w) A (pyHash v) Q Er s:=by
  intro n A s d v Q nt p h
  cases p with
  | non =>
   refine PySem.W.pyHash_slot (T := "NoneType") rfl F.slot_NoneType_hash F.entry_NoneType_hash (F.args_NoneType_hash_1 _) (beq_builtin_none _) (.inl rfl) ?_
   apply wpAny_bind
   apply wpAny_pure
   apply wpAny_bind
   apply wpAny_mkInt
   apply wpAny_pure
   exact⟨_,_,rfl,by cases n<;>exact h⟩
  | int=>exact wpAny_pyHash_int (by cases n<;>exact h)
  | str=>exact wpAny_pyHash_str (by cases n<;>exact h)
  | tup _ _=>exact absurd rfl (nt _)
 intro n
 induction n with
 | zero=>intro A s d v Q hu p h;exact leaf (fun ds e=>by subst e;cases p) p h
 | succ n ih =>
  intro A s d v Q hu p h
  cases p with
  | non=>exact leaf (fun _ e=>by cases e) .non h
  | int=>exact leaf (fun _ e=>by cases e) .int h
  | str=>exact leaf (fun _ e=>by cases e) .str h
  | @tup _ ds a us q r =>
   obtain⟨o,o1,o2,nn,o3⟩:=q
   refine PySem.W.pyHash_slot (T := "tuple") ⟨o,o1,o2⟩ F.slot_tuple_hash F.entry_tuple_hash (F.args_tuple_hash_1 _) (beq_builtin_none _) (.inr (by omega)) ?_
   change wpAny _ _ (Builtin.Tuple.tupleItemsOf (.ref a) >>= _) _ _ s
   apply wpAny_bind
   apply wpAny_tupleItemsOf o1 o3
   apply wpAny_bind
   rw[<- Array.forIn_toList]
   refine zGi ih (A:=A.in1) (by rw[Around.in1_units];omega) r fun b' e=>?_
   change wpAny _ _ (retInt (Builtin.Tuple.tupleHashOf b'.toList)) _ _ _
   rw[e]
   apply wpAny_bind
   apply wpAny_mkInt
   apply wpAny_pure
   refine⟨_,_,rfl,?_⟩
   have h':=h
   simp only[haD,drD] at h'
   simpa [Nat.add_assoc] using h'
theorem IsV.quiet:∀ {n k:Nat}{A:Around}{s:Shared}{d:M.D}{v:Value}{Q:Bool->Shared->Prop},n <= k->IsV s.heap n d v->Q true s->wpAny (model pg w) A (eqIsQuiet k v) Q Er s:=by
 have leaf:∀ {n k:Nat}{A:Around}{s:Shared}{d:M.D}{v:Value}{Q:Bool->Shared->Prop},(∀ ds,d≠.tup ds)->IsV s.heap n d v->Q true s->wpAny (model pg w) A (eqIsQuiet k v) Q Er s:=by
  intro n k A s d v Q nt p q
  have:eqIsQuiet k v=pure true:=by
   cases p with
   | non=>exact eqIsQuiet_byValue k rfl
   | int=>exact eqIsQuiet_byValue k rfl
   | str=>exact eqIsQuiet_byValue k rfl
   | tup _ _=>exact absurd rfl (nt _)
  rw[this]
  exact wpAny_pure q
 intro n
 induction n with
 | zero=>intro k A s d v Q hk p q;exact leaf (fun ds e=>by subst e;cases p) p q
 | succ n ih =>
  intro k A s d v Q hk p q
  cases p with
  | non=>exact leaf (n:=n) (fun _ e=>by cases e) .non q
  | int=>exact leaf (n:=n) (fun _ e=>by cases e) .int q
  | str=>exact leaf (n:=n) (fun _ e=>by cases e) .str q
  | @tup _ ds a us t r =>
   obtain⟨k,rfl⟩:∃ j,k=j+1:=⟨k - 1,by omega⟩
   obtain⟨o,o1,o2,nn,o3⟩:=t
   have ty:s.TypeIs (.ref a) "tuple" := ⟨o,o1,o2⟩
   unfold eqIsQuiet
   apply wpAny_bind
   apply wpAny_specialOf ty F.slot_tuple_eq.lookup
   change wpAny _ _ (isInstance (.ref a) (.type "tuple") >>= _) _ _ s
   apply wpAny_bind
   apply wpAny_isInstance ty isSubtype_tuple_tuple
   simp only[Bool.not_true,Bool.false_eq_true,if_false]
   apply wpAny_bind
   apply wpAny_seqItems o1 o3
   apply wpAny_bind
   change wpAny _ _ (forIn us.toArray _ _) _ _ s
   rw[<- Array.forIn_toList]
   refine wpAny_forIn_list _ (fun l b s1=>b.1=none/\s1=s/\∃ es,qJ s.heap n es l) _ ?_ ?_ _ _ ⟨rfl,rfl,ds,r⟩
   ·intro y l b s1 ⟨e1,e2,es,r'⟩
    cases e2
    cases r' with
    | cons r1 r2 =>
     apply wpAny_bind
     apply ih (by omega) r1
     simp only[Bool.not_true,Bool.false_eq_true,if_false]
     apply wpAny_pure
     exact⟨rfl,rfl,_,r2⟩
   ·intro b s1 ⟨e1,e2,_⟩
    cases e2
    obtain⟨b1,b2⟩:=b
    cases (show b1=none from e1)
    exact wpAny_pure q
end
noncomputable def kyK (pg:Program) (w:World):HeapKind pg w M.D where
 is:=fun h d a=>(∃ ds,d=.tup ds)/\IsV h 7 d (.ref a)
 hash:=haD w 7
 draws:=drD 7
 room:=fun A=>A.units+7 < cLine
 inj:=fun p q=>IsV.inj p.2 q.2
 keeps:=fun {h h' k a d o es ep} p ho hd hs=>⟨p.1,p.2.keep fun b us ⟨ob,e,c,n,dd⟩=>⟨ob,(hs.2 b (fun z=>by subst z;rw[ho] at e;cases e;rw[hd] at dd;cases dd)).trans e,c,n,dd⟩⟩
 pyHash:=fun hu p q=>IsV.hash 7 hu p.2 q
 eqBool:=fun hu p q h=>IsV.eq hu p.2 q.2 _ _ _ _ h
 quiet:=fun p q=>IsV.quiet (by omega) p.2 q
section
variable {pg:Program}{w:World}{κ:Type} [DecidableEq κ] {kn:HeapKind pg w κ}{A:Around}{Er:Value->Shared->Prop}{s:Shared}{d a:Addr}{k:κ}{xs:List (κ×Addr×Value)}
theorem Jz:∀ {xs:List (κ×Addr×Value)}{j:Nat}{p:Addr×Value},(xs.map (·.1)).Nodup->xs[j]? = some (k,p)->xs.eraseIdx j=xs.filter fun x=>decide (x.1≠k)
 | [],_,_,_,h=>by simp at h
 | x::xs,0,p,nd,h=>by
  simp only[List.getElem?_cons_zero,Option.some.injEq] at h
  subst h
  rw[List.map_cons,List.nodup_cons] at nd
  rw[List.eraseIdx_cons_zero,List.filter_cons_of_neg (by simp)]
  refine (List.filter_eq_self.mpr fun y hy=>?_).symm
  refine decide_eq_true fun e=>nd.1 ?_
  exact List.mem_map.mpr ⟨y,hy,e⟩
 | x::xs,j+1,p,nd,h=>by
  rw[List.map_cons,List.nodup_cons] at nd
  have h':xs[j]? = some (k,p):=by simpa using h
  rw[List.eraseIdx_cons_succ,Jz nd.2 h',List.filter_cons_of_pos]
  refine decide_eq_true fun e=>nd.1 ?_
  rw[e]
  exact List.mem_map.mpr ⟨(k,p),List.mem_of_getElem? h',rfl⟩
theorem zCc {α β:Type} (f:α->β):∀ (xs:List α) (j:Nat),(xs.map f).eraseIdx j=(xs.eraseIdx j).map f
 | [],_=>rfl
 | _::_,0=>rfl
 | x::xs,j+1=>by rw[List.map_cons,List.eraseIdx_cons_succ,List.eraseIdx_cons_succ,List.map_cons,zCc f xs j]
theorem zDo {Q:Option DictEntry->Shared->Prop} (hu:kn.room A) (hk:kn.is s.heap k a) (hm:s.heap.DictOfH kn d xs) (hz:xs.length <= sizeLine)
  (h0:atKey xs k=none->Q none { s with toks:=s.toks+kn.draws k })
  (h1:∀ p e h',atKey xs k=some p->e.val=p.2->h'.DictOfH kn d (xs.filter fun x=>decide (x.1≠k))->Heap.SameBut d s.heap h'->Q (some e) { s with heap:=h',toks:=s.toks+kn.draws k }) :
  wpAny (model pg w) A (Builtin.Dict.takeOut d (.ref a)) Q Er s:=by
 obtain⟨o,es,ep,ho,hc,hd,he,hi,hn⟩:=hm
 unfold Builtin.Dict.takeOut
 apply wpAny_holding
 apply wpAny_bind
 apply kn.pyHash hu hk
 apply wpAny_bind
 refine wpAny_dictFind_heap (s:={ s with toks:=s.toks+kn.draws k }) hu hk ho hd he hi hn (fun no=>wpAny_pure (h0 (atKey_none_of_get no))) fun j p hj=>?_
 apply wpAny_bind
 refine wpAny_dictEntries (s:={ s with toks:=s.toks+kn.draws k }) ho hd ?_
 rw[entry_at he j,hj]
 apply wpAny_bind
 have ez:=size_of_entries he
 have hj':j < xs.length:=(List.getElem?_eq_some_iff.mp hj).1
 refine wpAny_updateDictKeys (hz:=by omega) (s:={ s with toks:=s.toks+kn.draws k }) ho hd (wpAny_pure (h1 p _ _ (atKey_of_get hn hj) rfl ?_ (Heap.SameBut.update ..)))
 ·refine⟨_,_,ep+1,Heap.get?_update_self _ ho (Obj.isFreed_of_dict (Obj.data_mapDictKeys hd _)),hc.mapDictKeys _,Obj.data_mapDictKeys hd _,?_,fun x hx=>?_,?_⟩
  ·rw[<- Jz hn hj]
   obtain⟨l⟩:=es
   have hl:l=xs.map (entryOfKey kn):=he
   subst hl
   show (Array.eraseIdxIfInBounds ⟨xs.map (entryOfKey kn)⟩ j).toList=_
   unfold Array.eraseIdxIfInBounds
   rw[dif_pos (by simpa using hj')]
   rw[<- zCc]
   simp
  ·exact kn.keeps (hi x ((List.mem_filter.mp hx).1)) ho hd (Heap.SameBut.update ..)
  ·exact hn.sublist (List.Sublist.map _ List.filter_sublist)
theorem zDm {es:Array DictEntry} (hp:atKey xs k≠none) (he:es.toList=xs.map (entryOfKey kn)):es.isEmpty=false:=by
 have:=size_of_entries he
 cases xs with
 | nil=>exact absurd rfl hp
 | cons _ _ =>
  obtain⟨l⟩:=es
  cases l with
  | nil=>simp at this
  | cons _ _=>rfl
theorem zGR {more:List Value} (hr:more=[]\/∃ x,more=[x]):MeetsIn pg w (Builtin.«dict.pop» ⟨.ref d::.ref a::more,[]⟩) (fun A R s=>kn.room A.in1/\∃ xs k p,kn.is s.heap k a/\s.heap.DictOfH kn d xs/\xs.length <= sizeLine/\atKey xs k=some p /\
  ∀ h',h'.DictOfH kn d (xs.filter fun x=>decide (x.1≠k))->Heap.SameBut d s.heap h'->R (.ok (.ret p.2)) { s with heap:=h',toks:=s.toks+kn.draws k }) :=
 .of_wp fun A R s ⟨hu,xs,k,p,hk,hm,hz,hp,q⟩=>by
  obtain⟨o,es,ep,ho,hc,hd,he,hi,hn⟩:=id hm
  have ne:=zDm (k:=k) (fun z=>by rw[z] at hp;cases hp) he
  unfold Builtin.«dict.pop»
  apply wpAny_bind
  unfold Builtin.Dict.keyAndDefault
  apply wpAny_bind
  apply wpAny_notOrdered_dict hm.typeIs
  have fin:∀ (df:Option Value) (e:DictEntry) (h':Heap),e.val=p.2->h'.DictOfH kn d (xs.filter fun x=>decide (x.1≠k))->Heap.SameBut d s.heap h' ->
    wpAny (model pg w) A.in1 (letGo [e.key] [e.val] >>= fun _=>ret e.val) (fun f s'=>∃ v,f=.done (.ret v)/\R (.ok (.ret v)) s') (fun e s'=>R (.error e) s') { s with heap:=h',toks:=s.toks+kn.draws k }:=by
   intro df e h' e2 e3 e4
   apply wpAny_bind
   apply wpAny_letGo
   apply wpAny_pure
   exact⟨_,rfl,by rw[e2];exact q h' e3 e4⟩
  have kp:¬ (keyPart (Value.ref a)).isSome=true:=by simp[keyPart]
  rcases hr with rfl | ⟨x,rfl⟩
  ·change wpAny _ _ (pure (d,Value.ref a,none)) _ _ s
   apply wpAny_pure
   dsimp only
   rw[if_neg kp]
   repeat first
    | (with_reducible refine wpAny_dictEntries ho hd ?_)
    | (with_reducible refine wpAny_pure ?_)
    | (with_reducible refine wpAny_bind ?_)
   rw[if_neg (by rw[ne];exact Bool.false_ne_true)]
   apply wpAny_bind
   refine zDo hu hk hm hz (fun z=>by rw[z] at hp;cases hp) fun p' e h' e1 e2 e3 e4=>?_
   cases hp.symm.trans e1
   exact fin none e h' e2 e3 e4
  ·change wpAny _ _ (pure (d,Value.ref a,some x)) _ _ s
   apply wpAny_pure
   dsimp only
   rw[if_neg kp]
   repeat first
    | (with_reducible refine wpAny_dictEntries ho hd ?_)
    | (with_reducible refine wpAny_pure ?_)
    | (with_reducible refine wpAny_bind ?_)
   rw[if_neg (by rw[ne];exact Bool.false_ne_true)]
   apply wpAny_bind
   refine zDo hu hk hm hz (fun z=>by rw[z] at hp;cases hp) fun p' e h' e1 e2 e3 e4=>?_
   cases hp.symm.trans e1
   exact fin none e h' e2 e3 e4
theorem zFI {x:Value} (hs:(d == sysModules)=false):MeetsIn pg w (Builtin.«dict.pop» ⟨[.ref d,.ref a,x],[]⟩) (fun A R s=>kn.room A.in1/\∃ xs k,kn.is s.heap k a/\s.heap.DictOfH kn d xs/\xs.length <= sizeLine/\atKey xs k=none /\
  ∀ t,s.toks <= t->R (.ok (.ret x)) { s with toks:=t }) :=
 .of_wp fun A R s ⟨hu,xs,k,hk,hm,hz,hp,q⟩=>by
  obtain⟨o,es,ep,ho,hc,hd,he,hi,hn⟩:=id hm
  unfold Builtin.«dict.pop»
  apply wpAny_bind
  unfold Builtin.Dict.keyAndDefault
  apply wpAny_bind
  apply wpAny_notOrdered_dict hm.typeIs
  have kp:¬ (keyPart (Value.ref a)).isSome=true:=by simp[keyPart]
  change wpAny _ _ (pure (d,Value.ref a,some x)) _ _ s
  apply wpAny_pure
  dsimp only
  rw[if_neg kp]
  have fin:∀ t,s.toks <= t->wpAny (model pg w) A.in1 (Builtin.Dict.missedRemoval d (.ref a) >>= fun _=>rule "dict.pop.default" >>= fun _=>ret x) (fun f s'=>∃ v,f=.done (.ret v)/\R (.ok (.ret v)) s') (fun e s'=>R (.error e) s') { s with toks:=t }:=by
   intro t ht
   apply wpAny_bind
   apply wpAny_missedRemoval_other hs
   apply wpAny_bind
   apply wpAny_rule
   apply wpAny_pure
   exact⟨_,rfl,q t ht⟩
  cases hE:es.isEmpty with
  | true =>
   repeat first
    | (with_reducible refine wpAny_dictEntries ho hd ?_)
    | (with_reducible refine wpAny_pure ?_)
    | (with_reducible refine wpAny_bind ?_)
   rw[if_pos hE]
   apply wpAny_bind
   apply wpAny_rule
   apply wpAny_bind
   apply wpAny_pure
   exact fin s.toks (Nat.le_refl _)
  | false =>
   repeat first
    | (with_reducible refine wpAny_dictEntries ho hd ?_)
    | (with_reducible refine wpAny_pure ?_)
    | (with_reducible refine wpAny_bind ?_)
   rw[if_neg (by rw[hE];exact Bool.false_ne_true)]
   apply wpAny_bind
   refine zDo hu hk hm hz (fun _=>?_) fun p' e h' e1 e2 e3 e4=>?_
   ·exact fin _ (Nat.le_add_right _ _)
   ·cases hp.symm.trans e1
end
section
variable {X:Cx}{pins:List (Addr×Obj)}{σ:St}{H:Hp}{s:Shared}
theorem zBX (I:Inv X pins σ H s) {ρ:List Addr}:∀ {n:Nat}{d:M.D}{x:V}{u:Value},M.kyD n d=true->zK X.K ρ H d x->zc x u->IsV s.heap n d u:=by
 intro n
 induction n with
 | zero =>
  intro d x u k r rv
  cases d with
  | non=>cases r;cases rv;exact .non
  | int i=>cases r;obtain⟨t,rfl⟩:=rv;exact .int
  | str z=>obtain⟨rfl,_⟩:=r;obtain⟨t,rfl⟩:=rv;exact .str
  | _=>cases k
 | succ n ih =>
  intro d x u k r rv
  cases d with
  | non=>cases r;cases rv;exact .non
  | int i=>cases r;obtain⟨t,rfl⟩:=rv;exact .int
  | str z=>obtain⟨rfl,_⟩:=r;obtain⟨t,rfl⟩:=rv;exact .str
  | tup ds =>
   obtain⟨a,xs,rfl,q,r⟩:=r
   cases rv
   obtain⟨its,vs,pl,_⟩:=I.tuple q
   have go:∀ (ds:List M.D) (xs:List V) (its:List Value),ds.all (M.kyD n)=true->zK.all X.K ρ H ds xs->zX xs its->qJ s.heap n ds its:=by
    intro ds
    induction ds with
    | nil=>intro xs its _ r vs;cases r;cases vs;exact .nil
    | cons d ds ih2 =>
     intro xs its k r vs
     obtain⟨y,ys,rfl,r1,r2⟩:=r
     rw[List.all_cons,Bool.and_eq_true] at k
     cases vs with
     | cons v1 v2=>exact .cons (ih k.1 r1 v1) (ih2 _ _ k.2 r2 v2)
   exact .tup (us:=its) pl (go ds xs its k r vs)
  | _=>cases k
noncomputable def Jh (K:PySem.W.Frag) (H:Hp) (d:M.D) (x:V):Prop:=M.kyT d=true/\∃ ρ,zK K ρ H d x
theorem Jh.is {d:M.D}{x:V}{u:Value} (k:Jh X.K H d x) (I:Inv X pins σ H s) (r:zc x u):∃ b,u=.ref b/\(kyK X.prog X.w).is s.heap d b:=by
 obtain⟨k,ρ,rd⟩:=k
 cases d with
 | tup ds =>
  have v:=zBX I (n:=7) k rd r
  obtain⟨a,xs,rfl,_⟩:=rd
  cases r
  exact⟨a,rfl,⟨ds,rfl⟩,v⟩
 | _=>cases k
end
section
variable {pg:Program}{w:World}{A:Around}{Er:Value->Shared->Prop}{s:Shared}{d it:Addr}{es:Array DictEntry}{i ep:Nat}
noncomputable def DAt (h:Heap) (d:Addr) (es:Array DictEntry) (ep:Nat):Prop:=∃ o,h.get? d=some o/\o.ExactDict/\o.data=.dict es ep
theorem DAt.ty (x:DAt s.heap d es ep):s.TypeIs (.ref d) "dict" := let ⟨o,e,c,_⟩:=x;⟨o,e,c.1⟩
theorem zI5 {Q:Value->Shared->Prop} (ns:(d == sysModules)=false) (x:DAt s.heap d es ep)
  (q:Q (.ref s.heap.objs.size) { s with heap:=s.heap.push { cls:=.type "dict_keyiterator",data:=.fields #[.ref d,.int 0 0,.int es.size 0,.int ep 0] } }):wpAny (model pg w) A (pyIter (.ref d)) Q Er s:=by
 obtain⟨o,e1,e2,e3⟩:=id x
 refine wpAny_pyIter_slot x.ty F.slot_dict_iter (wpAny_call_entry F.slot_dict_iter x.ty F.entry_dict_iter ?_ (F.args_dict_iter_1 _))
 unfold Builtin.«dict.__iter__» Builtin.Dict.dictSlotNone
 apply wpAny_bind
 apply wpAny_bind
 apply wpAny_notOrdered_dict x.ty
 change wpAny _ _ (pure (Value.ref d)) _ _ s
 apply wpAny_pure
 change wpAny _ _ (Builtin.Dict.showsAll d >>= _) _ _ s
 unfold Builtin.Dict.showsAll
 rw[ns,if_neg Bool.false_ne_true]
 apply wpAny_bind
 apply wpAny_pure
 apply wpAny_bind
 apply wpAny_dictEntries e1 e3
 apply wpAny_bind
 apply wpAny_dictEpoch e1 e3
 apply wpAny_bind
 refine wpAny_newObj_type ?_ (by size_fits)
 apply wpAny_pure
 refine⟨_,rfl,"dict_keyiterator",_,⟨_,Heap.get?_push_size _ rfl,rfl⟩,F.slot_dict_keyiterator_next.lookup,?_⟩
 simpa [rawInt] using q
theorem zHn {Q:PySem.Fin->Shared->Prop} (hi:s.heap.IsKeyIter it d i es.size ep) (x:DAt s.heap d es ep) (hx:i < es.size)
  (q:∀ h',h'.IsKeyIter it d (i+1) es.size ep->Heap.SameBut it s.heap h'->Q (.done (.ret es[i].key)) { s with heap:=h' }) :
  wpAny (model pg w) A (Builtin.«dict_keyiterator.__next__» ⟨[.ref it],[]⟩) Q Er s:=by
 have ty:=hi.typeIs
 obtain⟨o,e1,e2,e3⟩:=id hi
 obtain⟨od,f1,f2,f3⟩:=id x
 apply wpAny_bind
 apply wpAny_pure
 apply wpAny_bind
 apply wpAny_bind
 first
  | refine wpAny_bind (wpAny_typeNameOfWhole_keyiter ty ?_)
  | refine wpAny_bind (wpAny_typeNameOf_keyiter ty ?_)
 apply wpAny_pure
 apply wpAny_bind
 apply wpAny_fieldsOf e1 e3
 have ow:Builtin.Dict_items.ownsTuple "dict_keyiterator" = false:=by decide
 simp only[ow,Bool.false_eq_true,if_false]
 change wpAny _ _ (if (Value.ref d == Value.none)=true then _ else _) _ _ s
 rw[if_neg (show ¬ (Value.ref d == Value.none)=true from Bool.false_ne_true)]
 apply wpAny_bind
 apply wpAny_pure
 apply wpAny_bind
 apply wpAny_dictEntries f1 f3
 rw[if_neg (by simp)]
 apply wpAny_bind
 apply wpAny_pure
 apply wpAny_bind
 apply wpAny_dictEpoch f1 f3
 rw[if_neg (by simp)]
 apply wpAny_pure
 have ni:¬ (i:Int) < 0:=by omega
 simp only[ni,if_false,Int.toNat_natCast,Array.getElem?_eq_getElem hx]
 apply wpAny_bind
 first
  | refine wpAny_bind (wpAny_typeNameOfWhole_keyiter ty ?_)
  | refine wpAny_bind (wpAny_typeNameOf_keyiter ty ?_)
 apply wpAny_pure
 apply wpAny_bind
 apply wpAny_isOneOf_keyiter ty
 change wpAny _ _ (setField (.ref it) 1 (rawInt ((i:Int)+1)) >>= _) _ _ s
 apply wpAny_bind
 refine wpAny_setField e1 e3 (by simp) ?_
 generalize hg:s.heap.update it (Obj.mapFields (·.setIfInBounds 1 (rawInt ((i:Int)+1))))=g
 have gi:g.IsKeyIter it d (i+1) es.size ep:=by
  rw[<- hg]
  refine⟨_,Heap.get?_update_self _ e1 (Obj.isFreed_of_fields (Obj.data_mapFields e3 _)),(Obj.cls_mapFields ..).trans e2,?_⟩
  rw[Obj.data_mapFields e3]
  simp[rawInt]
 have gs:Heap.SameBut it s.heap g:=by rw[<- hg];exact Heap.SameBut.update ..
 apply wpAny_bind
 apply wpAny_holding
 apply wpAny_bind
 apply wpAny_isOneOf_keyiter (s:={ s with heap:=g }) gi.typeIs
 change wpAny _ _ (pure es[i].key) _ _ _
 apply wpAny_pure
 apply wpAny_pure
 exact q g gi gs
theorem zIy {Q:PySem.Fin->Shared->Prop} (hh:A.handled=none) (hi:s.heap.IsKeyIter it d i es.size ep) (x:DAt s.heap d es ep) (hx:es.size <= i)
  (q:∀ h' e,Heap.ExtBut it s.heap h'->Shared.TypeIs { s with heap:=h' } e "StopIteration" -> Er e { s with heap:=h' }) :
  wpAny (model pg w) A (Builtin.«dict_keyiterator.__next__» ⟨[.ref it],[]⟩) Q Er s:=by
 have ty:=hi.typeIs
 obtain⟨o,e1,e2,e3⟩:=id hi
 obtain⟨od,f1,f2,f3⟩:=id x
 apply wpAny_bind
 apply wpAny_pure
 apply wpAny_bind
 apply wpAny_bind
 first
  | refine wpAny_bind (wpAny_typeNameOfWhole_keyiter ty ?_)
  | refine wpAny_bind (wpAny_typeNameOf_keyiter ty ?_)
 apply wpAny_pure
 apply wpAny_bind
 apply wpAny_fieldsOf e1 e3
 have ow:Builtin.Dict_items.ownsTuple "dict_keyiterator" = false:=by decide
 simp only[ow,Bool.false_eq_true,if_false]
 change wpAny _ _ (if (Value.ref d == Value.none)=true then _ else _) _ _ s
 rw[if_neg (show ¬ (Value.ref d == Value.none)=true from Bool.false_ne_true)]
 apply wpAny_bind
 apply wpAny_pure
 apply wpAny_bind
 apply wpAny_dictEntries f1 f3
 rw[if_neg (by simp)]
 apply wpAny_bind
 apply wpAny_pure
 apply wpAny_bind
 apply wpAny_dictEpoch f1 f3
 rw[if_neg (by simp)]
 apply wpAny_pure
 have ni:¬ (i:Int) < 0:=by omega
 simp only[ni,if_false,Int.toNat_natCast,Array.getElem?_eq_none hx]
 apply wpAny_bind
 first
  | refine wpAny_bind (wpAny_typeNameOfWhole_keyiter ty ?_)
  | refine wpAny_bind (wpAny_typeNameOf_keyiter ty ?_)
 apply wpAny_pure
 change wpAny _ _ (setField (.ref it) 0 .none >>= _) _ _ s
 apply wpAny_bind
 refine wpAny_setField e1 e3 (by simp) ?_
 change wpAny _ _ (newExc (.type "StopIteration") [] >>= _) _ _ _
 apply wpAny_bind
 simp only[newExc,newTuple]
 apply wpAny_bind
 refine wpAny_newObj_type ?_ (by size_fits)
 refine wpAny_bind (m:=firstArgMember _ _) (wpAny_of_eq (a:=Value.none) ?_ ?_)
 ·first
   | rfl
   | (simp only[firstArgMember];rfl)
 refine wpAny_newObj_type ?_ (by size_fits)
 simp only[raiseNew]
 apply wpAny_bind
 apply wpAny_handled
 rw[hh]
 refine wpAny_throw ?_
 exact q _ _ (((Heap.SameBut.update ..).extBut.push _).push _) ⟨_,Heap.get?_push_size _ rfl,rfl⟩
theorem zL3 (hh:A.handled=none) (ne:d≠it):Walks pg w A it [it,d] [it] es.size (fun i v=>∃ e,es[i]? = some e/\v=e.key) (fun i h=>h.IsKeyIter it d i es.size ep/\DAt h d es ep) where
 sub:=fun b hb=>List.mem_cons.mpr (.inl (List.mem_singleton.mp hb))
 frame:=fun _ _ _ st hk=>⟨st.1.at fun o e=>hk it (List.mem_cons_self) o e,let ⟨o,e,r⟩:=st.2;⟨o,hk d (List.mem_cons_of_mem _ (List.mem_singleton.mpr rfl)) o e,r⟩⟩
 item:=fun i s Q E hi st hQ=>by
  unfold pyNext
  apply wpAny_bind
  apply wpAny_attempt
  refine wpAny_callSpecial?_slot (name:=Str.ofString "__next__") st.1.typeIs F.slot_dict_keyiterator_next (wpAny_call_entry F.slot_dict_keyiterator_next st.1.typeIs F.entry_dict_keyiterator_next ?_ (F.args_dict_keyiterator_next_1 _))
  refine zHn st.1 st.2 hi fun h' k1 k2=>?_
  refine⟨_,rfl,wpAny_pure ?_⟩
  refine hQ _ h' s.toks ⟨es[i],by simp[hi],rfl⟩ ⟨k1,?_⟩ fun b o hb e=>k2.extBut b o (fun z=>hb (by rw[z];exact List.mem_singleton.mpr rfl)) e
  obtain⟨o,e,r⟩:=st.2
  exact⟨o,k2.extBut d o ne e,r⟩
 done:=fun s Q E st hQ=>by
  unfold pyNext
  apply wpAny_bind
  apply wpAny_attempt
  refine wpAny_callSpecial?_slot (name:=Str.ofString "__next__") st.1.typeIs F.slot_dict_keyiterator_next (wpAny_call_entry F.slot_dict_keyiterator_next st.1.typeIs F.entry_dict_keyiterator_next ?_ (F.args_dict_keyiterator_next_1 _))
  refine zIy hh st.1 st.2 (Nat.le_refl _) fun h' e k1 k2=>?_
  apply wpAny_bind
  apply wpAny_isInstance (T := "StopIteration") (b:=true) k2 isSubtype_stop
  apply wpAny_pure
  exact hQ h' s.toks fun b o hb e=>k1 b o (fun z=>hb (by rw[z];exact List.mem_singleton.mpr rfl)) e
 self:=fun _ _ _ _ st hQ=>wpAny_pyIter_keyiter st.1 hQ
theorem zMc (ns:(d == sysModules)=false):PySem.W.KdlSrc pg w "dict" d d es.size (fun i v=>∃ e,es[i]? = some e/\v=e.key) (fun h=>DAt h d es ep) where
 type:=fun _ x=>x.ty
 there:=fun _ ⟨_,e,_⟩=>⟨Heap.lt_size e,Heap.lt_size e⟩
 keep:=fun _ _ ⟨o,e,r⟩ hk=>⟨o,hk d (.inl rfl) o e,r⟩
 notList:=by decide
 notTuple:=by decide
 hint:=fun _ _ _ _ x q=>PySem.W.kdl_hint_dict x.ty q
 iter:=fun _ _ hh x=>⟨_,_,fun _ _ q=>zI5 ns x q,zL3 hh (let ⟨_,e,_⟩:=x;Nat.ne_of_lt (Heap.lt_size e)),⟨_,Heap.get?_push_size _ rfl,rfl,rfl⟩,let ⟨o,e,r⟩:=x;⟨o,Heap.get?_push_of_some _ e,r⟩⟩
end
section
variable {pg:Program}{w:World}{A:Around}{Er:Value->Shared->Prop}{s:Shared}{d:Addr}{es:Array DictEntry}{ep:Nat}
theorem zF8 (ns:(d == sysModules)=false):MeetsIn pg w (Builtin.«dict.__len__» ⟨[.ref d],[]⟩) (fun _ R s=>∃ es ep,DAt s.heap d es ep/\R (.ok (.ret (.int es.size s.toks))) { s with toks:=s.toks+1 }) :=
 .of_wp fun A R s ⟨es,ep,x,q⟩=>by
  obtain⟨o,e1,e2,e3⟩:=id x
  change wpAny _ _ (dictSize d >>= _) _ _ s
  unfold dictSize
  apply wpAny_bind
  apply wpAny_bind
  apply wpAny_dictEntries e1 e3
  apply wpAny_pure
  change wpAny _ _ (Builtin.Dict.pendingCount d >>= _) _ _ s
  apply wpAny_bind
  apply wpAny_pendingCount_other ns
  apply wpAny_ret_mkInt
  rw[Nat.add_zero]
  exact q
theorem zLu {Q:Value->Shared->Prop} (ns:(d == sysModules)=false) (x:DAt s.heap d es ep) (z:es.size <= sizeLine) (h:∀ t k,0 < k->Q (.int es.size t) { s with toks:=k }):wpAny (model pg w) A (call (.builtin "len") [.ref d]) Q Er s:=by
 have z':(es.size:Int) < 2 ^ 63:=by rw[sizeLine_eq] at z;omega
 refine Calls.call_function_entry kind_len plain_len entry_len (args_len1 _) ?_
 unfold Builtin.«len»
 refine wpAny_bind (m:=oneArg "len" _) (wpAny_pure ?_)
 refine wpAny_bind (m:=callSpecial? (.ref d) (Str.ofString "__len__")) (wpAny_callSpecial?_slot (name:=Str.ofString "__len__") x.ty F.slot_dict_len ?_)
 refine call_meetsIn F.slot_dict_len x.ty F.entry_dict_len (F.args_dict_len_1 _) (zF8 ns) ⟨es,ep,x,?_⟩
 change wpAny _ _ _ _ _ { s with toks:=s.toks+1 }
 apply wpAny_bind
 apply wpAny_holding
 apply wpAny_pure
 apply wpAny_bind
 apply wpAny_letGo
 change wpAny _ _ (if ((es.size:Nat):Int) < 0 then _ else _) _ _ _
 rw[if_neg (by omega)]
 change wpAny _ _ (if ((es.size:Nat):Int) ≥ 2 ^ 63 then _ else _) _ _ _
 rw[if_neg (by omega)]
 apply wpAny_bind
 apply wpAny_mkInt
 apply wpAny_pure
 exact⟨_,rfl,h _ _ (Nat.succ_pos _)⟩
end
section
variable {X:Cx}{pins:List (Addr×Obj)}{σ:St}{H:Hp}{s:Shared}{Θ:Tab}{K:PySem.W.Frag}{ρ:List Addr}{S:M.S}
structure TDt (K:PySem.W.Frag) (H:Hp) (ha:M.D->Int) (a:Addr) (xs:List (M.D×Addr×Value)):Prop where
 at':H a=some (.ext (TD ha a xs))
 ks:∀ q∈xs,Jh K H q.1 (.ref q.2.1)
theorem TDt.dict {ha:M.D->Int}{a:Addr}{xs:List (M.D×Addr×Value)} (t:TDt X.K H ha a xs) (hw:ha=haD X.w 7) (I:Inv X pins σ H s):xs.length <= sizeLine/\(a == sysModules)=false/\s.heap.DictOfH (kyK X.prog X.w) a xs:=by
 obtain⟨z,y,nd,o,es,ep,h1,h2,h3,h4⟩:=(I.hok a _ t.at').1
 refine⟨z,y,o,es,ep,h1,h2,h3,by rw[h4,hw];rfl,fun q hq=>?_,nd⟩
 obtain⟨b,e,i⟩:=(t.ks q hq).is I rfl
 cases e
 exact i
theorem TDt.obj {ha:M.D->Int}{a:Addr}{xs:List (M.D×Addr×Value)} (t:TDt X.K H ha a xs) (I:Inv X pins σ H s):(a == sysModules)=false/\xs.length <= sizeLine/\∃ es ep,DAt s.heap a es ep/\es.toList.map (·.key)=xs.map (fun x=>Value.ref x.2.1):=by
 obtain⟨z,y,nd,o,es,ep,h1,h2,h3,h4⟩:=(I.hok a _ t.at').1
 refine⟨y,z,es,ep,⟨o,h1,h2,h3⟩,?_⟩
 rw[h4,List.map_map]
 rfl
theorem zFb {P:Program}{w:World}{H':Hp}{h':Heap}{ha:M.D->Int}{a:Addr}{xs:List (M.D×Addr×Value)} (hw:ha=haD w 7) (z:xs.length <= sizeLine) (y:(a == sysModules)=false) (dd:h'.DictOfH (kyK P w) a xs):jm P w H' h' a (.ext (TD ha a xs)):=by
 obtain⟨o,es,ep,h1,h2,h3,h4,_,nd⟩:=dd
 refine⟨⟨z,y,nd,o,es,ep,h1,h2,h3,by rw[h4,hw];rfl⟩,⟨o,h1⟩,fun g1 g2 ⟨z,y,nd,o,es,ep,h1,h2⟩ k=>⟨z,y,nd,o,es,ep,k o h1,h2⟩⟩
theorem Qj {k:Nat} (hr:zt k X.A):(kyK X.prog X.w).room X.A.in1:=by
 have:=hr.units
 show X.A.in1.units+7 < cLine
 rw[Around.in1_units]
 omega
theorem TDr.ky {p:M.D×M.D}{q:M.D×Addr×Value} (h:TDr K ρ H p q):Jh K H q.1 (.ref q.2.1):=by
 obtain⟨e,k,r,_⟩:=h
 rw[e]
 refine⟨?_,ρ,r⟩
 revert k r
 cases p.1 with
 | tup ds=>exact fun k _=>k
 | non=>intro _ r;cases r
 | int i=>intro _ r;cases r
 | str z=>intro _ r;cases r.1
 | _=>intro k;cases k
theorem TDt.of {a:Addr}{kvs:List (M.D×M.D)}{xs:List (M.D×Addr×Value)}{ha:M.D->Int} (e:H a=some (.ext (TD ha a xs))) (r:Paired (TDr K ρ H) kvs xs):TDt K H ha a xs:=by
 refine⟨e,fun q hq=>?_⟩
 clear e
 induction r with
 | nil=>cases hq
 | cons r1 r2 ih =>
  rcases List.mem_cons.mp hq with rfl | hq
  ·exact r1.ky
  ·exact ih hq
theorem Je {x:M.D}{v:V}{p:Nat}{kvs:List (M.D×M.D)} (rp:zW K Θ ρ S H) (rx:zK K ρ H x v) (hd:M.QQ x S=some (p,kvs)):∃ a xs,x=.ref p/\v=.ref a/\ρ[p]? = some a/\S[p]? = some (.dtt kvs)/\TDt K H Θ.ha a xs/\Paired (TDr K ρ H) kvs xs:=by
 cases x with
 | ref i =>
  obtain⟨a,rfl,ea⟩:=rx
  have hd':(match S[i]? with | some (.dtt kvs)=>some (i,kvs) | _=>none)=some (p,kvs):=hd
  split at hd'
  ·rename_i kvs' q
   cases hd'
   obtain⟨b,e1,xs,e2,r⟩:=rp.obj _ _ q
   rw[ea] at e1
   cases e1
   exact⟨a,xs,rfl,rfl,ea,q,TDt.of e2 r,r⟩
  ·cases hd'
 | _=>cases hd
theorem zBM {kvs:List (M.D×M.D)}{xs:List (M.D×Addr×Value)} (r:Paired (TDr K ρ H) kvs xs) (y:M.D):match M.jR y kvs with
  | some d=>∃ p v,atKey xs y=some p/\zK K ρ H d v/\zc v p.2
  | none=>atKey xs y=none:=by
 induction r with
 | nil=>rfl
 | @cons p q kvs xs r1 r2 ih =>
  obtain⟨e,k,_,v,r3,r4⟩:=r1
  unfold M.jR at ih ⊢
  obtain⟨p1,p2⟩:=p
  rw[List.lookup_cons]
  by_cases h:y=p1
  ·subst h
   rw[show (y == y)=true by simp]
   refine⟨q.2,v,?_,r3,r4⟩
   unfold atKey
   rw[List.find?_cons_of_pos (by simpa using e)]
   rfl
  ·rw[show (y == p1)=false by simpa using h]
   have:atKey (q::xs) y=atKey xs y:=by
    unfold atKey
    rw[List.find?_cons_of_neg (by
     have e':q.1=p1:=e
     rw[e']
     simpa using fun z=>h z.symm)]
   rw[this]
   exact ih
theorem zAI {d:M.D}{v:V} (k:M.kyT d=true) (r:zK K ρ H d v):Jh K H d v:=⟨k,ρ,r⟩
noncomputable def zKt (K:PySem.W.Frag) (ha:M.D->Int):R2:=fun x y H Q=>(∃ a xs d p v,x=.ref a/\TDt K H ha a xs/\Jh K H d y/\atKey xs d=some p/\zc v p.2/\Q v H)\/zIN K x y H Q
theorem jj {k:Nat} (hw:Θ.ha=haD X.w 7) (hr:zt k X.A):IxR X (zKt X.K Θ.ha):=by
 refine IxR.or ?_ (zMi hr)
 intro value slice pins s σ H x y v u Q I rx ry h hs
 obtain⟨a,xs,d,p,w',rfl,t,kk,hp,rv,q⟩:=h
 cases rx
 obtain⟨z,ns,dd⟩:=t.dict hw I
 obtain⟨b,rfl,ki⟩:=kk.is I ry
 exact tail_any dd.typeIs PySem.F.slot_dict_getitem.lookup (wpAny_getItem_heap (Qj hr) ki dd hp ⟨w',H,I.tok _ (Nat.lt_of_lt_of_le I.tk (Nat.le_add_right _ _)),rv,q⟩) hs
theorem z9:Ad2 K Θ M.zN (zKt K Θ.ha):=by
 intro ρ H S x y X Y Q rp rx ry h
 unfold M.zN at h
 split at h
 ·rename_i p kvs hd
  obtain⟨a,xs,rfl,rfl,ea,q,t,r⟩:=Je rp rx hd
  split at h
  ·rename_i hk
   have g:=zBM r y
   cases q2:M.jR y kvs with
   | none=>rw[q2] at h;exact h.elim
   | some d =>
    rw[q2] at h g
    obtain⟨p,v,e1,e2,e3⟩:=g
    exact .inl ⟨a,xs,y,p,v,rfl,t,zAI hk ry,e1,e3,zF.here h rp e2⟩
  ·exact h.elim
 ·exact .inr (zMO ρ H S x y X Y Q rp rx ry h)
noncomputable def zIg (K:PySem.W.Frag) (ha:M.D->Int):List V->Hp->VK->Prop:=fun vs H Q=>(∃ a xs,vs=[V.ref a]/\TDt K H ha a xs/\Q (.int xs.length) H)\/zFU K vs H Q
theorem Zu:jh X (.builtin "len") (zIg X.K Θ.ha):=by
 refine jh.or ?_ zGa
 intro pins s σ H xs us Q I r h
 obtain⟨a,xs,rfl,t,q⟩:=h
 obtain⟨u,rfl,ru⟩:=yw r
 cases ru
 obtain⟨ns,z,es,ep,x,e⟩:=t.obj I
 have e':es.size=xs.length:=by have:=congrArg List.length e;simpa using this
 refine zLu ns x (by omega) fun t k hk=>⟨.int xs.length,H,I.tok _ hk,⟨t,by rw[e']⟩,q⟩
theorem zBg {kvs:List (M.D×M.D)}{xs:List (M.D×Addr×Value)} (r:Paired (TDr K ρ H) kvs xs):kvs.length=xs.length:=Paired.length r
theorem Qz:AdN K Θ M.yo (zIg K Θ.ha):=by
 intro ρ H S xs Xs Q rp rxs h
 unfold M.yo at h
 split at h
 ·rename_i x
  obtain⟨Y,r,rfl,ry,rfl⟩:=id rxs
  split at h
  ·rename_i p kvs hd
   obtain⟨a,xs,rfl,rfl,ea,q,t,r⟩:=Je rp ry hd
   refine .inl ⟨a,xs,rfl,t,?_⟩
   rw[<- zBg r]
   exact zF.here h rp rfl
  ·exact .inr (zGV ρ H S _ _ Q rp rxs h)
 ·exact .inr (zGV ρ H S _ _ Q rp rxs h)
noncomputable def zB7 (K:PySem.W.Frag) (ha:M.D->Int) (neg:Bool):R2:=fun x y H Q=>(∃ a xs d,y=.ref a/\TDt K H ha a xs/\Jh K H d x/\Q (.bl (xor neg (atKey xs d).isSome)) H) \/
 (∃ a vs ds d ρ,y=.ref a/\SqL K H a vs/\zL K ρ H ds vs/\zK K ρ H d x/\M.kyD 7 d=true/\ds.all (M.kyD 7)=true/\Q (.bl (xor neg (ds.contains d))) H)\/zE8 K neg x y H Q
theorem zF0 {A:Around}{ds:List M.D}{us:List Value}{d:M.D}{u:Value} (hu:A.units+7 < cLine) (r:qJ s.heap 7 ds us) (p:IsV s.heap 7 d u):∃ e:Value->Bool,(∀ y∈us,EqAt A s y u (e y))/\us.any e=ds.contains d:=by
 classical
 refine⟨fun y=>decide (IsV s.heap 7 d y),fun y hy=>?_,?_⟩
 ·have:∃ c,IsV s.heap 7 c y:=by
   clear p
   induction us generalizing ds with
   | nil=>cases hy
   | cons v us ih =>
    cases r with
    | cons r1 r2 =>
     rcases List.mem_cons.mp hy with rfl | hy
     ·exact⟨_,r1⟩
     ·exact ih r2 hy
  obtain⟨c,hc⟩:=this
  have z:=IsV.eq hu hc p
  have:decide (c=d)=decide (IsV s.heap 7 d y):=by
   by_cases h:c=d
   ·subst h;simp[hc]
   ·rw[qm h,decide_eq_false fun k=>h (IsV.inj hc k)]
  show EqAt A s y u (decide (IsV s.heap 7 d y))
  rw[<- this]
  exact z
 ·induction us generalizing ds with
  | nil=>cases r;rfl
  | cons v us ih =>
   cases r with
   | @cons _ c ds' _ _ r1 r2 =>
    rw[List.any_cons,ih r2,List.contains_cons]
    congr 1
    by_cases h:d=c
    ·subst h;simp[r1]
    ·rw[decide_eq_false fun k=>h (IsV.inj k r1)]
     exact (beq_false_of_ne h).symm
theorem zG8 (I:Inv X pins σ H s) {ρ:List Addr}:∀ {ds:List M.D}{xs:List V}{us:List Value},ds.all (M.kyD 7)=true->zL X.K ρ H ds xs->zX xs us->qJ s.heap 7 ds us:=by
 intro ds
 induction ds with
 | nil=>intro xs us _ r vs;cases r;cases vs;exact .nil
 | cons d ds ih =>
  intro xs us k r vs
  obtain⟨y,ys,rfl,r1,r2⟩:=r
  rw[List.all_cons,Bool.and_eq_true] at k
  cases vs with
  | cons v1 v2=>exact .cons (zBX I k.1 r1 v1) (ih k.2 r2 v2)
theorem zDL {k:Nat} (hw:Θ.ha=haD X.w 7) (hr:zt k X.A):OpR X (compareOp .In) (zB7 X.K Θ.ha false):=by
 intro pins s σ H x y v u Q I rx ry h
 rcases h with ⟨a,xs,d,rfl,t,kk,q⟩ | ⟨a,vs,ds,d,ρ,rfl,hq,rs,rd,k1,k2,q⟩ | h
 ·cases ry
  obtain⟨z,ns,dd⟩:=t.dict hw I
  obtain⟨b,rfl,ki⟩:=kk.is I rx
  refine wpAny_in_heap (Qj hr) ki ns dd ⟨.bl (atKey xs d).isSome,H,I.tok _ (Nat.lt_of_lt_of_le I.tk (Nat.le_add_right _ _)),rfl,?_⟩
  rw[Bool.false_xor] at q
  exact q
 ·cases ry
  obtain⟨its,rv,pl,z⟩:=I.list hq
  obtain⟨e,h1,h2⟩:=zF0 (A:=X.A.in1) (by have:=Qj hr;exact this) (zG8 I k2 rs rv) (zBX I k1 rd rx)
  refine in_listAt e pl.isList (fun y hy=>h1 y (by simpa using hy)) ?_
  refine⟨.bl (ds.contains d),H,I,?_,?_⟩
  ·show Value.bool _=_
   rw[<- h2]
   simp
  ·rw[Bool.false_xor] at q
   exact q
 ·exact zKq hr pins s σ H x y v u Q I rx ry h
theorem zCm {k:Nat} (hw:Θ.ha=haD X.w 7) (hr:zt k X.A):OpR X (compareOp .NotIn) (zB7 X.K Θ.ha true):=by
 intro pins s σ H x y v u Q I rx ry h
 rcases h with ⟨a,xs,d,rfl,t,kk,q⟩ | ⟨a,vs,ds,d,ρ,rfl,hq,rs,rd,k1,k2,q⟩ | h
 ·cases ry
  obtain⟨z,ns,dd⟩:=t.dict hw I
  obtain⟨b,rfl,ki⟩:=kk.is I rx
  refine wpAny_notIn_heap (Qj hr) ki ns dd ⟨.bl (!(atKey xs d).isSome),H,I.tok _ (Nat.lt_of_lt_of_le I.tk (Nat.le_add_right _ _)),rfl,?_⟩
  rw[Bool.true_xor] at q
  exact q
 ·cases ry
  obtain⟨its,rv,pl,z⟩:=I.list hq
  obtain⟨e,h1,h2⟩:=zF0 (A:=X.A.in1) (by have:=Qj hr;exact this) (zG8 I k2 rs rv) (zBX I k1 rd rx)
  refine notIn_listAt e pl.isList (fun y hy=>h1 y (by simpa using hy)) ?_
  refine⟨.bl (!ds.contains d),H,I,?_,?_⟩
  ·show Value.bool _=_
   rw[<- h2]
   simp
  ·rw[Bool.true_xor] at q
   exact q
 ·exact zGv hr pins s σ H x y v u Q I rx ry h
theorem zDE {neg:Bool}{x y:M.D}{X1 Y:V}{Q:VK} (rp:zW K Θ ρ S H) (rx:zK K ρ H x X1) (ry:zK K ρ H y Y) (h:zF K Θ rB ρ H (M.inT x y S) (fun b H'=>Q (.bl (xor neg b)) H')):zB7 K Θ.ha neg X1 Y H Q:=by
 have old:zF K Θ rB ρ H (M.inD x y S) (fun b H'=>Q (.bl (xor neg b)) H')->zB7 K Θ.ha neg X1 Y H Q:=fun h=>.inr (.inr (zI1 rp rx ry h))
 unfold M.inT at h
 split at h
 ·rename_i p kvs hd
  obtain⟨a,xs,rfl,rfl,ea,q,t,r⟩:=Je rp ry hd
  split at h
  ·rename_i hk
   refine .inl ⟨a,xs,x,rfl,t,zAI hk rx,?_⟩
   have g:=zBM r x
   have:(atKey xs x).isSome=(M.jR x kvs).isSome:=by
    cases q2:M.jR x kvs with
    | none=>rw[q2] at g;rw[g];rfl
    | some d=>rw[q2] at g;obtain⟨_,_,g,_⟩:=g;rw[g];rfl
   rw[this]
   exact zF.here (b:=(M.jR x kvs).isSome) h rp rfl
  ·exact h.elim
 ·split at h
  ·rename_i i _
   split at h
   ·rename_i ys hy
    unfold M.inL at h
    split at h
    ·rename_i hk
     rw[Bool.and_eq_true] at hk
     obtain⟨a,rfl,ea⟩:=id ry
     have q:S[i]? = some (M.O.lst ys):=by
      unfold M.jD at hy
      split at hy
      ·rename_i z;cases hy;exact z
      ·cases hy
     obtain⟨zs,e1,r⟩:=yd rp ea q
     exact .inr (.inl ⟨a,zs,ys,x,ρ,rfl,SqL.of e1,r,rx,hk.1,hk.2,zF.here (b:=ys.contains x) h rp rfl⟩)
    ·exact old h
   ·exact old h
  ·exact old h
theorem zD2:AdC K Θ M.J0 (zB7 K Θ.ha false):=by
 intro ρ H S x y X1 Y Q rp rx ry h
 refine zDE rp rx ry ?_
 have h':zF K Θ rB ρ H (M.inT x y S) (fun b H'=>Q (.bl b) H'):=h
 revert h'
 cases M.inT x y S with
 | ok b s=>exact fun h' ρ1 H1 b' p l rp1 e=>by cases e;rw[Bool.false_xor];exact h' ρ1 H1 b p l rp1 rfl
 | exc e s=>exact fun h'=>h'
 | no=>exact fun h'=>h'
theorem zCV:AdC K Θ M.zAP (zB7 K Θ.ha true):=by
 intro ρ H S x y X1 Y Q rp rx ry h
 exact zDE rp rx ry (zF.bind h fun ρ1 H1 b b' S1 p1 l1 rp1 e h1=>by cases e;rw[Bool.true_xor];exact zF.here (b:=!b) h1 rp1 rfl)
noncomputable def zGH (K:PySem.W.Frag) (ha:M.D->Int):List V->Hp->VK->Prop:=fun vs H Q=>(∃ a xs,vs=[V.ref a]/\TDt K H ha a xs/\∀ l,H l=none->Q (.ref l) (upd H l (.lst (xs.map fun x=>V.ref x.2.1))))\/zD1 K vs H Q
theorem JP {k:Nat} (hr:zt k X.A):jh X (.type "list") (zGH X.K Θ.ha):=by
 refine jh.or ?_ (zFa hr)
 intro pins s σ H vs us Q I r h
 obtain⟨a,xs,rfl,t,q⟩:=h
 obtain⟨u,rfl,ru⟩:=yw r
 cases ru
 obtain⟨ns,z,es,ep,x,e⟩:=t.obj I
 have e':es.size=xs.length:=by have:=congrArg List.length e;simpa using this
 refine wpAny_with_toks (n:=1) I.tk (PySem.W.kdl_call (zMc ns) hr.hd x (by omega) fun h' tk acc c' keep hS it htk=>?_)
 obtain⟨hsz,hit⟩:=it
 refine⟨.ref s.heap.objs.size,_,I.laid (t':=tk) (o:=.lst (xs.map fun x=>V.ref x.2.1)) keep (Nat.le_refl _) ⟨by rw[List.length_map];exact z,acc.toList,c',zAp (by simp;omega) fun j u hu=>?_,by simpa using hS⟩ htk,rfl,q _ (I.hok.fresh (Nat.le_refl _))⟩
 obtain⟨en,h1,rfl⟩:=hit j u (by simpa using hu)
 have h2:(es.toList.map (·.key))[j]? = some en.key:=by
  rw[List.getElem?_map,Array.getElem?_toList,h1];rfl
 rw[e,List.getElem?_map] at h2
 rw[List.getElem?_map]
 cases q2:xs[j]? with
 | none=>rw[q2] at h2;cases h2
 | some y=>rw[q2] at h2;exact⟨_,rfl,(Option.some.inj h2).symm⟩
theorem zGJ {kvs:List (M.D×M.D)}{xs:List (M.D×Addr×Value)} (r:Paired (TDr K ρ H) kvs xs):zL K ρ H (kvs.map (·.1)) (xs.map fun x=>V.ref x.2.1):=by
 induction r with
 | nil=>rfl
 | cons r1 r2 ih=>exact⟨_,_,rfl,r1.2.2.1,ih⟩
theorem zAn:AdN K Θ M.Q2 (zGH K Θ.ha):=by
 intro ρ H S xs Xs Q rp rxs h
 unfold M.Q2 at h
 split at h
 ·rename_i x
  obtain⟨Y,r,rfl,ry,rfl⟩:=id rxs
  split at h
  ·rename_i p kvs hd
   obtain⟨a,xs,rfl,rfl,ea,q,t,r⟩:=Je rp ry hd
   exact .inl ⟨a,xs,rfl,t,fun l hl=>zF.alloc h rp (zGJ r) hl⟩
  ·exact .inr (zEv ρ H S _ _ Q rp rxs h)
 ·exact .inr (zEv ρ H S _ _ Q rp rxs h)
end
section
variable {X:Cx}{pins:List (Addr×Obj)}{σ:St}{H:Hp}{s:Shared}{Θ:Tab}{K:PySem.W.Frag}{ρ:List Addr}{S:M.S}
theorem ZL {a:Addr}{φ:Heap->Prop} (h:H a=some (.ext φ)):Mut (H a):=by rw[h];trivial
theorem zEh {kvs:List (M.D×M.D)}{xs:List (M.D×Addr×Value)} (r:Paired (TDr K ρ H) kvs xs) (k:M.D):Paired (TDr K ρ H) (M.z6 k kvs) (xs.filter fun x=>decide (x.1≠k)):=by
 unfold M.z6
 induction r with
 | nil=>exact .nil
 | @cons p q kvs xs r1 r2 ih =>
  have e:q.1=p.1:=r1.1
  by_cases h:p.1=k
  ·rw[List.filter_cons_of_neg (by simpa using h),List.filter_cons_of_neg (by rw[e];simpa using h)]
   exact ih
  ·rw[List.filter_cons_of_pos (by simpa using h),List.filter_cons_of_pos (by rw[e];simpa using h)]
   exact .cons r1 ih
theorem zJx {kvs:List (M.D×M.D)}{xs:List (M.D×Addr×Value)} (r:Paired (TDr K ρ H) kvs xs) (k:M.D):(kvs.any fun p=>decide (p.1=k))=(atKey xs k).isSome:=by
 induction r with
 | nil=>rfl
 | @cons p q kvs xs r1 r2 ih =>
  have e:q.1=p.1:=r1.1
  rw[List.any_cons,ih]
  unfold atKey
  by_cases h:p.1=k
  ·rw[List.find?_cons_of_pos (by rw[e];simpa using h)]
   simp[h]
  ·rw[List.find?_cons_of_neg (by rw[e];simpa using h)]
   simp[h]
theorem zKT {kvs:List (M.D×M.D)}{xs:List (M.D×Addr×Value)} (r:Paired (TDr K ρ H) kvs xs) {k d:M.D}{b:Addr}{u:Value}{v:V} (hk:M.kyD 7 k=true) (rk:zK K ρ H k (.ref b)) (rd:zK K ρ H d v) (rv:zc v u):Paired (TDr K ρ H) (M.QW k d kvs) (storedH xs k b u):=by
 unfold M.QW storedH
 rw[zJx r k]
 split
 ·induction r with
  | nil=>exact .nil
  | @cons p q kvs xs r1 r2 ih =>
   rw[List.map_cons,List.map_cons]
   refine .cons ?_ ?_
   ·obtain⟨e,a2,a3,w,a4,a5⟩:=r1
    unfold putAt
    by_cases h:p.1=k
    ·rw[if_pos h,if_pos (e.trans h)]
     exact⟨e,a2,a3,v,rd,rv⟩
    ·rw[if_neg h,if_neg (fun z=>h (e.symm.trans z))]
     exact⟨e,a2,a3,w,a4,a5⟩
   ·by_cases h:(atKey xs k).isSome=true
    ·exact ih h
    ·have nk:∀ q∈xs,q.1≠k:=fun q hq z=>h (by
      unfold atKey
      rw[Option.isSome_map,List.find?_isSome]
      exact⟨q,hq,by simpa using z⟩)
     have:∀ {kvs:List (M.D×M.D)}{xs:List (M.D×Addr×Value)},Paired (TDr K ρ H) kvs xs->(∀ q∈xs,q.1≠k)->Paired (TDr K ρ H) (kvs.map fun p=>if p.1=k then (p.1,d) else p) (xs.map (putAt k u)):=by
      intro kvs xs r
      induction r with
      | nil=>exact fun _=>.nil
      | @cons p q kvs xs r1 r2 ih =>
       intro nk
       have z:=nk q List.mem_cons_self
       have e:q.1=p.1:=r1.1
       rw[List.map_cons,List.map_cons]
       unfold putAt
       rw[if_neg (fun y=>z (e.trans y)),if_neg z]
       exact .cons r1 (ih fun q hq=>nk q (List.mem_cons_of_mem _ hq))
     exact this r2 nk
 ·have:∀ {kvs:List (M.D×M.D)}{xs:List (M.D×Addr×Value)},Paired (TDr K ρ H) kvs xs->Paired (TDr K ρ H) (kvs++[(k,d)]) (xs++[(k,b,u)]):=by
   intro kvs xs r
   induction r with
   | nil=>exact .cons ⟨rfl,hk,rk,v,rd,rv⟩ .nil
   | cons r1 r2 ih=>exact .cons r1 ih
  exact this r
theorem zFp {xs:List (M.D×Addr×Value)}{k:M.D}{b:Addr}{u:Value}:(storedH xs k b u).length <= xs.length+1:=by
 unfold storedH
 split<;>simp
noncomputable def zL6 (K:PySem.W.Frag) (ha:M.D->Int) (td ty tv:TE):TS:=fun D σ H=>tv σ H fun v H1=>td σ H1 fun x H2=>ty σ H2 fun y H3=>∃ a xs d,x=.ref a/\TDt K H3 ha a xs/\Jh K H3 d y/\xs.length < sizeLine /\
 ∀ b u,y=.ref b->zc v u->D.nx σ (upd H3 a (.ext (TD ha a (storedH xs d b u))))
theorem zJW {k:Nat}{o i value:Expr}{pos pos':Pos}{td ty tv:TE} (hw:Θ.ha=haD X.w 7) (hr:zt k X.A) (ho:PE X o td) (hi:PE X i ty) (hv:PE X value tv) (hs:swapsWith value (some (.Subscript o i pos')) pos.line X.env=pure false) :
  PS X (.Assign [.Subscript o i pos'] value pos) (zL6 X.K Θ.ha td ty tv):=by
 intro pins s σ H D I h
 refine wpAny_Assign_Subscript (thn (hv pins s σ H _ I h) fun r s1 ⟨v,H1,I1,rv,q1⟩=>thn (ho pins s1 σ H1 _ I1 q1) fun u s2 ⟨x,H2,I2,rx,q2⟩=>thn (hi pins s2 σ H2 _ I2 q2) fun iv s3 ⟨y,H3,I3,ry,a,xs,d,ex,t,kk,z,q3⟩=>?_) hs
 subst ex
 obtain rfl:u=Value.ref a:=rx
 obtain⟨z1,ns,dd⟩:=t.dict hw I3
 obtain⟨b,rfl,ki⟩:=kk.is I3 ry
 refine wpAny_setItem_heap (hsz:=z1) (Qj hr) ki dd fun h' dd' sb=>?_
 have yb:y=.ref b:=by
  obtain⟨k1,ρ,rd⟩:=kk
  cases d with
  | tup ds=>obtain⟨c,_,rfl,_⟩:=rd;cases ry;rfl
  | _=>cases k1
 have he:∃ q,h'.get? a=some q:=let ⟨q,_,_,hq,_⟩:=dd';⟨q,hq⟩
 exact⟨σ,_,zAT (t':=s3.toks+(kyK X.prog X.w).draws d) I3 (ZL t.at') sb he (zFb hw (by have:=zFp (xs:=xs) (k:=d) (b:=b) (u:=r);omega) ns dd') (Nat.lt_of_lt_of_le I3.tk (Nat.le_add_right _ _)),q3 b r yb rv⟩
theorem zJu {o i e:Expr}{mo mi me:M.EM}{pos pos':Pos}{n:Nat} (hw:Θ.ha=haD X.w 7) (hr:zt n X.A) (ho:ME X Θ o mo) (hi:ME X Θ i mi) (he:ME X Θ e me)
  (ha:∀ v,assign (.Subscript o i pos') X.env v=(do
   let ov <- holding [v] (eval o X.env)
   let iv <- holding [v,ov] (eval i X.env)
   standAt pos'
   holding [v,ov,iv] (setItem ov iv v)
   release [v,ov,iv] []):=by intro _;rfl)
  (hs:swapsWithSole [.Subscript o i pos'] e pos.line X.env=pure false:=by rfl) (hw':swappedStores [.Subscript o i pos'] e X.env=pure none:=by rfl) (h1:(assignEach [.Subscript o i pos'] X.env).map (·.2)=[assign (.Subscript o i pos') X.env]:=by rfl)
  (hs2:swapsWith e (some (.Subscript o i pos')) pos.line X.env=pure false:=by rfl):MS X Θ (.Assign [.Subscript o i pos'] e pos) (M.Zs mo mi me) :=
 (PS.or (zJW (Θ:=Θ) hw hr ho hi he hs2) (zK4 hr ho hi he ha hs hw' h1 hs2)).imp fun D σ H ⟨ρ,σ',S,st,rp,h⟩=>by
  have h0:zy X.K Θ ρ H ((me σ' S).stm σ' fun y s=>(mo σ' s).stm σ' fun x s=>(mi σ' s).stm σ' fun k s=>(M.JC x k y s).stm σ' fun _ s=>.nx σ' s) D:=h
  clear h
  cases hE:me σ' S with
  | no=>rw[hE] at h0;exact h0.elim
  | exc a s=>rw[hE] at h0;exact h0.elim
  | ok y S1 =>
   rw[hE,M.R.stm_ok] at h0
   cases hO:mo σ' S1 with
   | no=>rw[hO] at h0;exact h0.elim
   | exc a s=>rw[hO] at h0;exact h0.elim
   | ok x S2 =>
    rw[hO,M.R.stm_ok] at h0
    cases hI:mi σ' S2 with
    | no=>rw[hI] at h0;exact h0.elim
    | exc a s=>rw[hI] at h0;exact h0.elim
    | ok k S3 =>
     rw[hI,M.R.stm_ok] at h0
     cases hd:M.QQ x S3 with
     | none =>
      refine .inr ⟨ρ,σ',S,st,rp,?_⟩
      have e0:M.JC x k y S3=M.ya x k y S3:=by unfold M.JC;rw[hd]
      rw[e0] at h0
      show zy X.K Θ ρ H ((me σ' S).stm σ' fun y s=>(mo σ' s).stm σ' fun x s=>(mi σ' s).stm σ' fun k s=>(M.ya x k y s).stm σ' fun _ s=>.nx σ' s) D
      rw[hE,M.R.stm_ok,hO,M.R.stm_ok,hI,M.R.stm_ok]
      exact h0
     | some pk =>
      obtain⟨p,kvs⟩:=pk
      have e0:M.JC x k y S3=(if (M.kyT k && decide (kvs.length < M.SZ))=true then M.R.ok () (S3.set p (.dtt (M.QW k y kvs))) else .no):=by unfold M.JC;rw[hd]
      rw[e0] at h0
      cases hk:(M.kyT k && decide (kvs.length < M.SZ)) with
      | false=>rw[hk] at h0;exact h0.elim
      | true =>
       rw[hk,if_pos rfl,M.R.stm_ok] at h0
       rw[Bool.and_eq_true] at hk
       refine .inl ⟨ρ,σ',S,st,rp,?_⟩
       rw[hE]
       intro ρ1 H1 Y p1 l1 rp1 ry
       refine⟨ρ1,σ',S1,st.mono p1 l1,rp1,?_⟩
       rw[hO]
       intro ρ2 H2 Xv p2 l2 rp2 rx
       refine⟨ρ2,σ',S2,st.mono (p1.trans p2) (l1.trans l2),rp2,?_⟩
       rw[hI]
       intro ρ3 H3 Kv p3 l3 rp3 rk
       obtain⟨a,xs,rfl,rfl,ea,q,t,r⟩:=Je rp3 (rx.mono p3 l3) hd
       have kk:=zAI hk.1 rk
       refine⟨a,xs,k,rfl,t,kk,by rw[<- zBg r,<- yc];exact of_decide_eq_true hk.2,fun b u yb rv=>?_⟩
       subst yb
       have le:=Le.put (ZL t.at') (.ext (TD Θ.ha a (storedH xs k b u)))
       have hk7:M.kyD 7 k=true:=by
        have:=hk.1
        revert this
        cases k<;>first | exact fun z=>z | (intro z;cases z)
       have r':=Paired.mapP r fun p q z=>TDr.mono (List.prefix_refl _) le z
       exact h0 ρ3 _ σ (p1.trans (p2.trans p3)) (l1.trans (l2.trans (l3.trans le))) (rp3.put ea (ZL t.at') ⟨_,jX,zKT r' hk7 (rk.mono (List.prefix_refl _) le) (ry.mono (p2.trans p3) (l2.trans (l3.trans le))) rv⟩) (st.mono (p1.trans (p2.trans p3)) (l1.trans (l2.trans (l3.trans le))))
theorem Qg {o i e:Expr}{mo mi me:M.EM}{pos pos':Pos}{n:Nat} (hw:Θ.ha=haD X.w 7) (hr:zt n X.A) (ho:WE X Θ o mo) (hi:WE X Θ i mi) (he:WE X Θ e me)
  (ha:∀ v,assign (.Subscript o i pos') X.env v=(do
   let ov <- holding [v] (eval o X.env)
   let iv <- holding [v,ov] (eval i X.env)
   standAt pos'
   holding [v,ov,iv] (setItem ov iv v)
   release [v,ov,iv] []):=by intro _;rfl)
  (hs:swapsWithSole [.Subscript o i pos'] e pos.line X.env=pure false:=by rfl) (hw':swappedStores [.Subscript o i pos'] e X.env=pure none:=by rfl) (h1:(assignEach [.Subscript o i pos'] X.env).map (·.2)=[assign (.Subscript o i pos') X.env]:=by rfl)
  (hs2:swapsWith e (some (.Subscript o i pos')) pos.line X.env=pure false:=by rfl):WS X Θ (.Assign [.Subscript o i pos'] e pos) (M.Zs mo mi me):=by with_unfolding_all exact zJu (o:=o) (i:=i) (e:=e) (mo:=mo) (mi:=mi) (me:=me) (pos:=pos) (pos':=pos') (n:=n) hw hr ho hi he ha hs hw' h1 hs2
noncomputable def zId (K:PySem.W.Frag) (ha:M.D->Int):V->List V->Hp->VK->Prop:=fun x vs H Q=>∃ a xs d y more,x=.ref a/\vs=y::more/\TDt K H ha a xs/\Jh K H d y /\
 (((more=[]\/∃ m,more=[m])/\∃ p v,atKey xs d=some p/\zc v p.2/\Q v (upd H a (.ext (TD ha a (xs.filter fun x=>decide (x.1≠d))))))\/∃ m,more=[m]/\atKey xs d=none/\Q m H)
theorem zBq {k:Nat} (hw:Θ.ha=haD X.w 7) (hr:zt k X.A):MtM X "dict.pop" (zId X.K Θ.ha):=by
 intro pins s σ H x vs v us Q I rx rv h
 obtain⟨a,xs,d,y,more,rfl,rfl,t,kk,h⟩:=h
 cases rx
 cases rv with
 | @cons _ u _ us' r1 r2 =>
  obtain⟨z,ns,dd⟩:=t.dict hw I
  obtain⟨b,rfl,ki⟩:=kk.is I r1
  rcases h with ⟨hm,p,w',hp,rv,q⟩ | ⟨m,rfl,hp,q⟩
  ·have hm':us'=[]\/∃ x,us'=[x]:=by
    rcases hm with rfl | ⟨m,rfl⟩
    ·cases r2;exact .inl rfl
    ·cases r2 with | cons _ r3=>cases r3;exact .inr ⟨_,rfl⟩
   have ar:argsOk "dict.pop" ⟨.ref a::.ref b::us',[]⟩:=by
    rcases hm' with rfl | ⟨x,rfl⟩
    ·exact PySem.F.args_dict_pop_2 _ _
    ·exact PySem.F.args_dict_pop_3 _ _ _
   refine call_meetsIn PySem.F.slot_dict_pop dd.typeIs PySem.F.entry_dict_pop ar (zGR (kn:=kyK X.prog X.w) hm') ⟨Qj hr,xs,d,p,ki,dd,z,hp,fun h' dd' sb=>?_⟩
   have he:∃ q,h'.get? a=some q:=let ⟨q,_,_,hq,_⟩:=dd';⟨q,hq⟩
   exact⟨w',_,zAT (t':=s.toks+(kyK X.prog X.w).draws d) I (ZL t.at') sb he (zFb hw (Nat.le_trans (List.length_filter_le _ _) z) ns dd') (Nat.lt_of_lt_of_le I.tk (Nat.le_add_right _ _)),rv,q⟩
  ·cases r2 with
   | cons rm r3 =>
    cases r3
    refine call_meetsIn PySem.F.slot_dict_pop dd.typeIs PySem.F.entry_dict_pop (PySem.F.args_dict_pop_3 _ _ _) (zFI (kn:=kyK X.prog X.w) ns) ⟨Qj hr,xs,d,ki,dd,z,hp,fun tk hk=>?_⟩
    exact⟨m,H,I.tok _ (Nat.lt_of_lt_of_le I.tk hk),rm,q⟩
theorem zBy:AdM K Θ M.Qh (zId K Θ.ha):=by
 intro ρ H S x xs X Xs Q rp rx rxs h
 unfold M.Qh at h
 split at h
 ·rename_i y
  obtain⟨Y,r,rfl,ry,rfl⟩:=rxs
  split at h
  ·rename_i p kvs hd
   obtain⟨a,zs,rfl,rfl,ea,q,t,r⟩:=Je rp rx hd
   split at h
   ·rename_i hk
    have g:=zBM r y
    cases q2:M.jR y kvs with
    | none=>rw[q2] at h;exact h.elim
    | some d =>
     rw[q2] at h g
     obtain⟨pp,v,e1,e2,e3⟩:=g
     have le:=Le.put (ZL t.at') (.ext (TD Θ.ha a (zs.filter fun x=>decide (x.1≠y))))
     refine⟨a,zs,y,Y,[],rfl,rfl,t,zAI hk ry,.inl ⟨.inl rfl,pp,v,e1,e3,?_⟩⟩
     exact h ρ _ v (List.prefix_refl _) le (rp.put ea (ZL t.at') ⟨_,jX,Paired.mapP (zEh r y) fun p q z=>TDr.mono (List.prefix_refl _) le z⟩) (e2.mono (List.prefix_refl _) le)
   ·exact h.elim
  ·exact h.elim
 ·rename_i y m
  obtain⟨Y,r,rfl,ry,Z,r',rfl,rz,rfl⟩:=rxs
  split at h
  ·rename_i p kvs hd
   obtain⟨a,zs,rfl,rfl,ea,q,t,r⟩:=Je rp rx hd
   split at h
   ·rename_i hk
    have g:=zBM r y
    cases q2:M.jR y kvs with
    | none =>
     rw[q2] at h g
     exact⟨a,zs,y,Y,[Z],rfl,rfl,t,zAI hk ry,.inr ⟨Z,rfl,g,zF.here h rp rz⟩⟩
    | some d =>
     rw[q2] at h g
     obtain⟨pp,v,e1,e2,e3⟩:=g
     have le:=Le.put (ZL t.at') (.ext (TD Θ.ha a (zs.filter fun x=>decide (x.1≠y))))
     refine⟨a,zs,y,Y,[Z],rfl,rfl,t,zAI hk ry,.inl ⟨.inr ⟨Z,rfl⟩,pp,v,e1,e3,?_⟩⟩
     exact h ρ _ v (List.prefix_refl _) le (rp.put ea (ZL t.at') ⟨_,jX,Paired.mapP (zEh r y) fun p q z=>TDr.mono (List.prefix_refl _) le z⟩) (e2.mono (List.prefix_refl _) le)
   ·exact h.elim
  ·exact h.elim
 ·exact h.elim
theorem zHK {pos:Pos} (hw:Θ.ha=haD X.w 7):PE X (.Dict [] [] pos) (fun _ H Q=>∀ p,H p=none->Q (.ref p) (upd H p (.ext (TD Θ.ha p [])))):=fun pins s σ H Q I h =>
 wpAny_Dict_empty ⟨.ref s.heap.objs.size,_,I.laid (a:=s.heap.objs.size) (o:=.ext (TD Θ.ha s.heap.objs.size [])) (t':=s.toks) (fun _ _ q=>Heap.get?_push_of_some _ q) (Nat.le_refl _) (zFb hw (Nat.zero_le _) (beq_eq_false_iff_ne.mpr (Ne.symm (Nat.ne_of_lt I.big))) (Heap.DictOfH.new s.heap)),rfl,h _ (I.hok.fresh (Nat.le_refl _))⟩
theorem zH4 {pos:Pos} (hw:Θ.ha=haD X.w 7):ME X Θ (.Dict [] [] pos) M.zBu:=(zHK hw).imp fun σ H Q ⟨ρ,σ',S,st,rp,h⟩=>fun p hp=>by
 have h':zF X.K Θ (zK X.K) ρ H (M.alloc (.dtt []) S) Q:=h
 exact h' (ρ++[p]) _ _ (List.prefix_append _ _) (Le.new hp _) (rp.alloc hp ⟨[],jX,.nil⟩) ⟨p,rfl,by rw[<- rp.len];simp⟩
theorem zFF {pos:Pos} (hw:Θ.ha=haD X.w 7):WE X Θ (.Dict [] [] pos) M.zBu:=by with_unfolding_all exact zH4 (pos:=pos) hw
end
theorem zGm {K:PySem.W.Frag}{Θ:Tab}:Ad2 K Θ M.zC9 (rI zKh fun i j=>.int (i ^ j.toNat)):=by
 intro ρ H S x y X Y Q rp rx ry h
 unfold M.zC9 at h
 split at h
 ·rename_i i j
  cases rx
  cases ry
  split at h
  ·rename_i c
   exact⟨i,j,rfl,rfl,⟨c.1,by omega,c.2.2⟩,zF.here (b:=V.int (i ^ j.toNat)) h rp rfl⟩
  ·exact h.elim
 ·exact h.elim
end L2
set_option maxHeartbeats 4000000
namespace M
noncomputable section
noncomputable def ZS:SM :=
  (jZ (eOp zm (eOp zBe (eOp qZ (zA 0) (eOp zBe (eC (.int 7919)) (zA 1))) (eC (.int 48271))) (eC (.int 2147483647))))
noncomputable def QT:F:=fn 2 ZS
noncomputable def QC (c k:Int):Int:=(c+7919 * k) * 48271 % 2147483647
noncomputable def ja:F:=chS QT
theorem zCu:jP 2 QT ja:=QF _
theorem sm1:qx 48271=true:=by decide
theorem sm2:qx 7919=true:=by decide
theorem Jb (c k:Int) (s:M.S):ja [.int c,.int k] s=.ok (.int (QC c k)) s:=QX (g:=[]) (by simp[QT,ZS,QC,sm1,sm2]) rfl
noncomputable def zi (r__law_part:F):SM :=
  (jY 2 (eOp zm (zA 0) (eC (.int 8))))
noncomputable def zh (r__law_part:F):SM :=
  (jY 3 (eOp zFc (eOp zm (eOp zv (zA 0) (eC (.int 8))) (eC (.int 2001))) (eC (.int 1000))))
noncomputable def zj (r__law_part:F):SM :=
  (sIf (jT cEq (zA 2) (eC (.int 0)))
  (jZ (zA 3))
  jo)
noncomputable def zg (r__law_part:F):SM :=
  (sIf (jT cEq (zA 2) (eC (.int 1)))
  (jZ (zR zFj (zD (zA 3) zI)))
  jo)
noncomputable def zq (r__law_part:F):SM :=
  (sIf (jT cEq (zA 2) (eC (.int 2)))
  (jZ (eOp zN (yE (zD (eC .non) (zD (eC (.str [78,111,110,101])) (zD (eC (.str [])) (zD (Zv zI) zI))))) (eOp zm (eOp zv (zA 0) (eC (.int 8))) (eC (.int 4)))))
  jo)
noncomputable def jG (r__law_part:F):SM :=
  (sIf (zAD (jT cEq (zA 2) (eC (.int 3))) (jT cLt (zA 1) (eC (.int 3))))
  (jZ (Zv (zD (zR r__law_part (zD (eOp zv (zA 0) (eC (.int 8))) (zD (eOp qZ (zA 1) (eC (.int 1))) zI))) zI)))
  jo)
noncomputable def jN (r__law_part:F):SM :=
  (sIf (zAD (jT cEq (zA 2) (eC (.int 4))) (jT cLt (zA 1) (eC (.int 3))))
  (jZ (zR zBG (zD (zBQ 1 (jg (eOp zm (eOp zv (zA 0) (eC (.int 8))) (eC (.int 7)))) (z7 6) y6 (zR r__law_part (zD (zR ja (zD (zA 0) (zD (zA 6) zI))) (zD (eOp qZ (zA 1) (eC (.int 1))) zI)))) zI)))
  jo)
noncomputable def jS (r__law_part:F):SM :=
  (sIf (jT cEq (zA 2) (eC (.int 5)))
  (jZ (eOp zN (yE (zD (eC (.int 0)) (zD (eC (.int 1)) (zD (eC (.int 2)) (zD (eOp zC9 (eC (.int 10)) (eC (.int 20))) (zD (eOp qZ (eOp zC9 (eC (.int 10)) (eC (.int 20))) (eC (.int 1))) zI)))))) (eOp zm (eOp zv (zA 0) (eC (.int 8))) (eC (.int 5)))))
  jo)
noncomputable def qB (r__law_part:F):SM :=
  (sIf (jT cEq (zA 2) (eC (.int 6)))
  (zU (jY 4 (eOp zm (eOp zv (zA 0) (eC (.int 8))) (eC (.int 90))))
  (zU (sIf (jT cEq (eOp zm (eOp zv (zA 0) (eC (.int 720))) (eC (.int 8))) (eC (.int 1)))
  (jY 4 (eOp zm (eOp zv (zA 0) (eC (.int 5760))) (eC (.int 900))))
  jo)
  (zU (jY 5 (eOp zm (eOp zv (zA 0) (eC (.int 7))) (eOp qZ (zA 4) (eC (.int 1)))))
  (jZ (eOp qZ (eOp qZ (eOp zBe (eC (.str [97])) (zA 5)) (eC (.str [98]))) (eOp zBe (eC (.str [97])) (eOp zFc (zA 4) (zA 5))))))))
  jo)
noncomputable def yv (r__law_part:F):SM :=
  (jZ (JG (ZF []) 1 (jg (eOp zm (eOp zv (zA 0) (eC (.int 512))) (eC (.int 4)))) (z7 6) y6 (eOp zN (eC (.str [97,98,49,32])) (eOp zm (eOp zv (zA 0) (eOp zN (yE (zD (eC (.int 8)) (zD (eC (.int 32)) (zD (eC (.int 128)) zI)))) (zA 6))) (eC (.int 4))))))
noncomputable def zx (r__law_part:F):SM:=(zU (zi r__law_part) (zU (zh r__law_part) (zU (zj r__law_part) (zU (zg r__law_part) (zU (zq r__law_part) (zU (jG r__law_part) (zU (jN r__law_part) (zU (jS r__law_part) (zU (qB r__law_part) (yv r__law_part))))))))))
noncomputable def zw (r__law_part:F):F:=fn 6 (zx r__law_part)
noncomputable def zQ:Nat->F
 | 0=>fun _ _=>.no
 | n+1=>chS (zw (zQ n))
theorem zCz (ds:List D) (s:M.S):zQ 0 ds s=.no:=rfl
noncomputable abbrev Zt:F:=zQ 3
theorem zD4 (n:Nat):jP 2 (zw (zQ n)) (zQ (n+1)):=QF _
theorem Qp {α:Type} (xs:List α) (i:Nat) (d:α) (h:xs[i]? = some d):atI xs (i:Int)=some d:=by
 have:=(List.getElem?_eq_some_iff.mp h).1
 unfold atI ixN
 rw[if_pos (by omega),if_pos (by omega)]
 simpa using h
theorem at0 {α:Type} (a:α) (l:List α):atI (a::l) 0=some a:=Qp _ 0 _ rfl
theorem at1 {α:Type} (a b:α) (l:List α):atI (a::b::l) 1=some b:=Qp _ 1 _ rfl
theorem at2 {α:Type} (a b c:α) (l:List α):atI (a::b::c::l) 2=some c:=Qp _ 2 _ rfl
theorem at3 {α:Type} (a b c d:α) (l:List α):atI (a::b::c::d::l) 3=some d:=Qp _ 3 _ rfl
theorem at4 {α:Type} (a b c d e:α) (l:List α):atI (a::b::c::d::e::l) 4=some e:=Qp _ 4 _ rfl
theorem sz5:∀ n:Nat,n <= 2000->n <= SZ:=fun n h=>Nat.le_trans h (by decide)
noncomputable def sgn (c j:Int):Nat:=([97,98,49,32]:List Nat).getD (c / (if j=0 then 8 else if j=1 then 32 else 128) % 4).toNat 0
theorem zHY (c j:Int) (hj:j=0\/j=1\/j=2) (a b d:Option D) (s:M.S):∃ o,qp 1 (z7 6) y6 (eOp zN (eC (.str [97,98,49,32])) (eOp zm (eOp zv (zA 0) (eOp zN (yE (zD (eC (.int 8)) (zD (eC (.int 32)) (zD (eC (.int 128)) zI)))) (zA 6))) (eC (.int 4)))) [some (.int c),d,a,b,none,none] (.int j) s=.ok (some (.str [sgn c j])) (s++[o]):=by
 rcases hj with rfl | rfl | rfl
 ·have v:c / 8 % 4=0\/c / 8 % 4=1\/c / 8 % 4=2\/c / 8 % 4=3:=by omega
  rcases v with v | v | v | v<;>exact⟨.lst [.int 8,.int 32,.int 128],by simp[v,sgn,at0,at1,at2,at3,sz5]⟩
 ·have v:c / 32 % 4=0\/c / 32 % 4=1\/c / 32 % 4=2\/c / 32 % 4=3:=by omega
  rcases v with v | v | v | v<;>exact⟨.lst [.int 8,.int 32,.int 128],by simp[v,sgn,at0,at1,at2,at3,sz5]⟩
 ·have v:c / 128 % 4=0\/c / 128 % 4=1\/c / 128 % 4=2\/c / 128 % 4=3:=by omega
  rcases v with v | v | v | v<;>exact⟨.lst [.int 8,.int 32,.int 128],by simp[v,sgn,at0,at1,at2,at3,sz5]⟩
theorem J8 (r:F) (c deep:Int) (a b:Option D):∃ x,∀ s:M.S,∃ g,yv r [some (.int c),some (.int deep),a,b,none,none] s=.rt (.str x) (s++g):=by
 have hm:0 <= c / 512 % 4/\c / 512 % 4 < 4:=by omega
 refine⟨(List.range (c / 512 % 4 - 0).toNat).map fun k:Nat=>sgn c (0+(k:Int)),fun s=>?_⟩
 obtain⟨g,e⟩:=zGL (n:=1) (it:=jg (eOp zm (eOp zv (zA 0) (eC (.int 512))) (eC (.int 4)))) (tg:=z7 6)
  (e:=eOp zN (eC (.str [97,98,49,32])) (eOp zm (eOp zv (zA 0) (eOp zN (yE (zD (eC (.int 8)) (zD (eC (.int 32)) (zD (eC (.int 128)) zI)))) (zA 6))) (eC (.int 4))))
  (σ:=[some (.int c),some (.int deep),a,b,none,none]) (s:=s) (xs:=j3 0 (c / 512 % 4)) (g:=[]) (fun x=>match x with | .int j=>.str [sgn c j] | d=>d)
  (by simp;omega) (by simp[j3,SZ];omega) rfl fun x hx t=>by
   obtain⟨k,hk,rfl⟩:=List.mem_map.mp hx
   have hk':=List.mem_range.mp hk
   obtain⟨o,e⟩:=zHY c (0+(k:Int)) (by omega) a b (some (.int deep)) (s++t)
   exact⟨t++[o],by rw[e,List.append_assoc]⟩
 refine⟨g,?_⟩
 have jn:=zGX (fun k:Nat=>sgn c (0+(k:Int))) (List.range (c / 512 % 4 - 0).toNat) (s++g) (by simp[SZ];omega)
 have mp:(j3 0 (c / 512 % 4)).map (fun x=>match x with | .int j=>D.str [sgn c j] | d=>d)=(List.range (c / 512 % 4 - 0).toNat).map fun k:Nat=>D.str [sgn c (0+(k:Int))]:=by
  unfold j3
  rw[List.map_map]
  rfl
 rw[mp] at e
 show ((ZQ _ _ _ _ _ _ _).bind (ZF [])).stm _ _=_
 rw[e,R.bind_ok,jn]
 rfl
theorem sz0:¬ SZ=0:=by decide
theorem zLP (n:Nat) (deep:Int) (h1:1 <= deep) (h2:deep <= 3) (ih:deep < 3->∀ c,∃ d,(∀ s:M.S,zQ n [.int c,.int (deep+1)] s=.ok d s)/\kyD (3 - deep).toNat d=true) (c:Int) :
  ∃ d,(∀ s:M.S,∃ g,zw (zQ n) [.int c,.int deep] s=.ok d (s++g))/\kyD (4 - deep).toNat d=true:=by
 obtain⟨k,hk⟩:∃ k,(4 - deep).toNat=k+1:=⟨(4 - deep).toNat - 1,by omega⟩
 have hk':(3 - deep).toNat=k:=by omega
 rw[hk]
 rw[hk'] at ih
 have w:c % 8=0\/c % 8=1\/c % 8=2\/c % 8=3\/c % 8=4\/c % 8=5\/c % 8=6\/c % 8=7:=by omega
 have sn:qx (c / 8 % 2001 - 1000)=true:=by unfold qx;simp;omega
 rcases w with w | w | w | w | w | w | w | w
 ·exact⟨.int (c / 8 % 2001 - 1000),fun s=>⟨[],by simp[zw,zx,zi,zh,zj,zg,w]⟩,rfl⟩
 ·exact⟨.str (JD (c / 8 % 2001 - 1000)),fun s=>⟨[],by simp[zw,zx,zi,zh,zj,zg,w,sn]⟩,rfl⟩
 ·have v:c / 8 % 4=0\/c / 8 % 4=1\/c / 8 % 4=2\/c / 8 % 4=3:=by omega
  rcases v with v | v | v | v
  ·exact⟨.non,fun s=>⟨[_],by simp[zw,zx,zi,zh,zj,zg,zq,w,v];rfl⟩,rfl⟩
  ·exact⟨.str [78,111,110,101],fun s=>⟨[_],by simp[zw,zx,zi,zh,zj,zg,zq,w,v];rfl⟩,rfl⟩
  ·exact⟨.str [],fun s=>⟨[_],by simp[zw,zx,zi,zh,zj,zg,zq,w,v];rfl⟩,rfl⟩
  ·exact⟨.tup [],fun s=>⟨[_],by simp[zw,zx,zi,zh,zj,zg,zq,w,v];rfl⟩,rfl⟩
 ·by_cases hd:deep < 3
  ·obtain⟨d,e1,e2⟩:=ih hd (c / 8)
   refine⟨.tup [d],fun s=>⟨[],by simp[zw,zx,zi,zh,zj,zg,zq,jG,w,hd,e1,sz0]⟩,?_⟩
   show [d].all (kyD k)=true
   simp[e2]
  ·obtain⟨x,e⟩:=J8 (zQ n) c deep (some (.int (c % 8))) (some (.int (c / 8 % 2001 - 1000)))
   rw[w] at e
   exact⟨.str x,fun s=>let ⟨g,e⟩:=e s;⟨g,by simp[zw,zx,zi,zh,zj,zg,zq,jG,jN,jS,qB,w,hd,e]⟩,rfl⟩
 ·by_cases hd:deep < 3
  ·have hm:0 <= c / 8 % 7/\c / 8 % 7 < 7:=by omega
   have f:=fun j:Nat=>ih hd (QC c (j:Int))
   let h:Nat->D:=fun j=>(f j).choose
   have h1':∀ (j:Nat) (s:M.S),zQ n [.int (QC c (j:Int)),.int (deep+1)] s=.ok (h j) s:=fun j s=>(f j).choose_spec.1 s
   have h2':∀ j,kyD k (h j)=true:=fun j=>(f j).choose_spec.2
   refine⟨.tup ((List.range (c / 8 % 7 - 0).toNat).map h),fun s=>⟨[.lst ((List.range (c / 8 % 7 - 0).toNat).map h)],?_⟩,?_⟩
   ·have e:=Ja (n:=1) (it:=jg (eOp zm (eOp zv (zA 0) (eC (.int 8))) (eC (.int 7)))) (tg:=z7 6) (e:=zR (zQ n) (zD (zR ja (zD (zA 0) (zD (zA 6) zI))) (zD (eOp qZ (zA 1) (eC (.int 1))) zI)))
     (σ:=[some (.int c),some (.int deep),some (.int 4),some (.int (c / 8 % 2001 - 1000)),none,none]) (s:=s) (lo:=0) (hi:=c / 8 % 7) h (by simp;omega) (sz5 _ (by omega)) fun j hj=>by simp[Jb,h1']
    simp[zw,zx,zi,zh,zj,zg,zq,jG,jN,w,hd,e]
   ·show ((List.range (c / 8 % 7 - 0).toNat).map h).all (kyD k)=true
    rw[List.all_map]
    exact List.all_eq_true.mpr fun j _=>h2' j
  ·obtain⟨x,e⟩:=J8 (zQ n) c deep (some (.int (c % 8))) (some (.int (c / 8 % 2001 - 1000)))
   rw[w] at e
   exact⟨.str x,fun s=>let ⟨g,e⟩:=e s;⟨g,by simp[zw,zx,zi,zh,zj,zg,zq,jG,jN,jS,qB,w,hd,e]⟩,rfl⟩
 ·have v:c / 8 % 5=0\/c / 8 % 5=1\/c / 8 % 5=2\/c / 8 % 5=3\/c / 8 % 5=4:=by omega
  rcases v with v | v | v | v | v
  ·exact⟨.int 0,fun s=>⟨[_],by simp[zw,zx,zi,zh,zj,zg,zq,jG,jN,jS,w,v,at0];rfl⟩,rfl⟩
  ·exact⟨.int 1,fun s=>⟨[_],by simp[zw,zx,zi,zh,zj,zg,zq,jG,jN,jS,w,v,at1];rfl⟩,rfl⟩
  ·exact⟨.int 2,fun s=>⟨[_],by simp[zw,zx,zi,zh,zj,zg,zq,jG,jN,jS,w,v,at2];rfl⟩,rfl⟩
  ·exact⟨.int 100000000000000000000,fun s=>⟨[_],by simp[zw,zx,zi,zh,zj,zg,zq,jG,jN,jS,w,v,at3];rfl⟩,rfl⟩
  ·exact⟨.int 100000000000000000001,fun s=>⟨[_],by simp[zw,zx,zi,zh,zj,zg,zq,jG,jN,jS,w,v,at4];rfl⟩,rfl⟩
 ·by_cases hz:c / 720 % 8=1
  ·have zb:0 <= c / 5760 % 900/\c / 5760 % 900 < 900:=by omega
   generalize hzz:c / 5760 % 900=z at *
   have m0:0 <= c / 7 % (z+1):=Int.emod_nonneg _ (by omega)
   have m1:c / 7 % (z+1) < z+1:=Int.emod_lt_of_pos _ (by omega)
   have zp:0 < z+1:=by omega
   refine⟨.str (List.replicate (c / 7 % (z+1)).toNat 97++98::List.replicate (z - c / 7 % (z+1)).toNat 97),fun s=>⟨[],?_⟩,rfl⟩
   generalize hy:c / 7 % (z+1)=y at *
   simp[zw,zx,zi,zh,zj,zg,zq,jG,jN,jS,qB,w,hz,hzz,zp,hy]
   rw[if_pos (by omega),if_pos (sz5 _ (by omega)),if_pos (by omega),if_pos (sz5 _ (by omega))]
  ·have zb:0 <= c / 8 % 90/\c / 8 % 90 < 90:=by omega
   generalize hzz:c / 8 % 90=z at *
   have m0:0 <= c / 7 % (z+1):=Int.emod_nonneg _ (by omega)
   have m1:c / 7 % (z+1) < z+1:=Int.emod_lt_of_pos _ (by omega)
   have zp:0 < z+1:=by omega
   refine⟨.str (List.replicate (c / 7 % (z+1)).toNat 97++98::List.replicate (z - c / 7 % (z+1)).toNat 97),fun s=>⟨[],?_⟩,rfl⟩
   generalize hy:c / 7 % (z+1)=y at *
   simp[zw,zx,zi,zh,zj,zg,zq,jG,jN,jS,qB,w,hz,hzz,zp,hy]
   rw[if_pos (by omega),if_pos (sz5 _ (by omega)),if_pos (by omega),if_pos (sz5 _ (by omega))]
 ·obtain⟨x,e⟩:=J8 (zQ n) c deep (some (.int (c % 8))) (some (.int (c / 8 % 2001 - 1000)))
  rw[w] at e
  exact⟨.str x,fun s=>let ⟨g,e⟩:=e s;⟨g,by simp[zw,zx,zi,zh,zj,zg,zq,jG,jN,jS,qB,w,e]⟩,rfl⟩
theorem zJI:∀ (n:Nat) (deep:Int),1 <= deep->deep <= 3->3 - deep < n->∀ c,∃ d,(∀ s:M.S,zQ n [.int c,.int deep] s=.ok d s)/\kyD (4 - deep).toNat d=true:=by
 intro n
 induction n with
 | zero=>intro deep h1 h2 h3;omega
 | succ n ih =>
  intro deep h1 h2 h3 c
  obtain⟨d,e,k⟩:=zLP n deep h1 h2 (fun hd c=>by
   have:=ih (deep+1) (by omega) (by omega) (by omega) c
   rwa [show (4 - (deep+1))=3 - deep by omega] at this) c
  exact⟨d,fun s=>let ⟨g,e⟩:=e s;QX e (JO _ k),k⟩
noncomputable def Z2:SM :=
  (jZ (zR zBG (zD (zBQ 1 (jg (eOp zm (zA 0) (eC (.int 4)))) (z7 1) y6 (zR Zt (zD (zR ja (zD (zA 0) (zD (zA 1) zI))) (zD (eC (.int 1)) zI)))) zI)))
noncomputable def Jj:F:=fn 1 Z2
noncomputable def yP:F:=chS Jj
theorem zEc:jP 1 Jj yP:=QF _
theorem zK9 (c:Int):∃ ds:List D,(∀ s:M.S,yP [.int c] s=.ok (.tup ds) s)/\kyD 4 (.tup ds)=true/\ds.length <= 3:=by
 have hm:0 <= c % 4/\c % 4 < 4:=by omega
 have f:=fun j:Nat=>zJI 3 1 (by omega) (by omega) (by omega) (QC c (j:Int))
 let h:Nat->D:=fun j=>(f j).choose
 have h1':∀ (j:Nat) (s:M.S),Zt [.int (QC c (j:Int)),.int 1] s=.ok (h j) s:=fun j s=>(f j).choose_spec.1 s
 have h2':∀ j,kyD 3 (h j)=true:=fun j=>(f j).choose_spec.2
 have ky:kyD 4 (.tup ((List.range (c % 4 - 0).toNat).map h))=true:=by
  show ((List.range (c % 4 - 0).toNat).map h).all (kyD 3)=true
  rw[List.all_map]
  exact List.all_eq_true.mpr fun j _=>h2' j
 refine⟨(List.range (c % 4 - 0).toNat).map h,fun s=>QX (g:=[.lst ((List.range (c % 4 - 0).toNat).map h)]) ?_ (JO _ ky),ky,by simp;omega⟩
 have e:=Ja (n:=1) (it:=jg (eOp zm (zA 0) (eC (.int 4)))) (tg:=z7 1) (e:=zR Zt (zD (zR ja (zD (zA 0) (zD (zA 1) zI))) (zD (eC (.int 1)) zI)))
  (σ:=[some (.int c)]) (s:=s) (lo:=0) (hi:=c % 4) h (by simp;omega) (sz5 _ (by omega)) fun j hj=>by simp[Jb,h1']
 simp[Jj,Z2,e]
noncomputable def Qm:SM :=
  (zU (jY 2 (yE zI))
  (zU (yZ (jg (zA 1)) (z7 3)
  (zU (jY 4 (zR yP (zD (zR ja (zD (zA 0) (zD (zA 3) zI))) zI)))
  (zU (JE (jT J0 (zA 4) (zA 2))
  (jY 4 (eOp Jv (zA 4) (Zv (zD (zA 3) zI)))))
  (jV (eM .list jx (zA 2) (zD (zA 4) zI))))))
  (jZ (zA 2))))
noncomputable def Qs:F:=fn 5 Qm
noncomputable def qt:F:=chN Qs
theorem zDW:jP 2 Qs qt:=zBR _
noncomputable def j1 (d:D):Prop:=∃ ks,d=.tup ks/\kyD 4 d=true/\ks.length <= 200
theorem j1.t {d:D} (h:j1 d):kyT d=true:=by
 obtain⟨ks,rfl,h,_⟩:=h
 exact zAR (k:=7) (by omega) h
noncomputable def Zz:D->Nat
 | .tup ks=>ks.length
 | _=>0
theorem zDY (a b:Nat) (h:a <= b):∀ l:List D,(l.filter fun d=>decide (b <= Zz d)).length <= (l.filter fun d=>decide (a <= Zz d)).length:=by
 intro l
 induction l with
 | nil=>exact Nat.le_refl _
 | cons x l ih =>
  by_cases h1:b <= Zz x
  ·rw[List.filter_cons_of_pos (by simpa using h1),List.filter_cons_of_pos (by simp;omega),List.length_cons,List.length_cons]
   omega
  ·rw[List.filter_cons_of_neg (by simpa using h1)]
   by_cases h2:a <= Zz x
   ·rw[List.filter_cons_of_pos (by simpa using h2),List.length_cons];omega
   ·rw[List.filter_cons_of_neg (by simpa using h2)];exact ih
theorem zGl {ds:List D}{x:D} (hx:x∈ds) {a b:Nat} (h2:b=a+1) (h1:a=Zz x):(ds.filter fun d=>decide (b <= Zz d)).length < (ds.filter fun d=>decide (a <= Zz d)).length:=by
 obtain⟨l1,l2,rfl⟩:=List.append_of_mem hx
 have s1:=zDY a b (by omega) l1
 have s2:=zDY a b (by omega) l2
 rw[List.filter_append,List.filter_append,List.length_append,List.length_append,List.filter_cons_of_neg (by simp;omega),List.filter_cons_of_pos (by simp;omega),List.length_cons]
 omega
noncomputable abbrev kcT:TM:=jT J0 (zA 4) (zA 2)
noncomputable abbrev kbS:SM:=jY 4 (eOp Jv (zA 4) (Zv (zD (zA 3) zI)))
theorem zFy {S:M.S}{ds:List D} (hds:∀ d∈ds,j1 d) (c m:D) (k:Int):∀ (n:Nat) (ks:List D),(ds.filter fun d=>decide (ks.length <= Zz d)).length < n->kyD 4 (.tup ks)=true->ks.length+(ds.filter fun d=>decide (ks.length <= Zz d)).length <= 190 ->
  ∃ ks',ZX n kcT kbS [some c,some m,some (.ref S.length),some (.int k),some (.tup ks)] (S++[.lst ds])=.nx [some c,some m,some (.ref S.length),some (.int k),some (.tup ks')] (S++[.lst ds])/\D.tup ks'∉ds/\kyD 4 (.tup ks')=true/\ks'.length <= 190:=by
 intro n
 induction n with
 | zero=>intro ks h;omega
 | succ n ih =>
  intro ks h hk hl
  have k7:kyD 7 (.tup ks)=true:=zAR (by omega) hk
  have a7:ds.all (kyD 7)=true:=List.all_eq_true.mpr fun d hd=>by
   obtain⟨_,_,h,_⟩:=hds d hd
   exact zAR (by omega) h
  have tc:kcT [some c,some m,some (.ref S.length),some (.int k),some (.tup ks)] (S++[.lst ds])=.ok (ds.contains (.tup ks)) (S++[.lst ds]):=by
   have a7':∀ x∈ds,kyD 7 x=true:=List.all_eq_true.mp a7
   simp[k7]
   intro x hx hf
   rw[a7' x hx] at hf
   cases hf
  unfold ZX
  rw[tc]
  by_cases hc:D.tup ks∈ds
  ·have ct:ds.contains (D.tup ks)=true:=by simpa using hc
   have kb:kbS [some c,some m,some (.ref S.length),some (.int k),some (.tup ks)] (S++[.lst ds])=.nx [some c,some m,some (.ref S.length),some (.int k),some (.tup (ks++[.int k]))] (S++[.lst ds]):=by
    have z:ks.length+1 <= SZ:=sz5 _ (by omega)
    cases ks with
    | nil=>simp[sz0]
    | cons a l =>
     have z':l.length+1+1 <= SZ:=by simpa using z
     simp[sz0]
     rw[if_pos (sz5 1 (by omega)),if_pos z']
   have less:(ds.filter fun d=>decide ((ks++[D.int k]).length <= Zz d)).length < (ds.filter fun d=>decide (ks.length <= Zz d)).length:=zGl hc (by simp) rfl
   obtain⟨ks',e,r⟩:=ih (ks++[.int k]) (by omega) (by
    show (ks++[D.int k]).all (kyD 3)=true
    have hk':ks.all (kyD 3)=true:=hk
    rw[List.all_append,hk'];rfl) (by
    have:(ks++[D.int k]).length=ks.length+1:=by simp
    omega)
   refine⟨ks',?_,r⟩
   rw[ct,R.stm_ok,if_pos rfl,kb]
   exact e
  ·have cf:ds.contains (D.tup ks)=false:=by simpa using hc
   refine⟨ks,?_,hc,hk,by omega⟩
   rw[cf,R.stm_ok,if_neg Bool.false_ne_true]
noncomputable abbrev kfS:SM:=(zU (jY 4 (zR yP (zD (zR ja (zD (zA 0) (zD (zA 3) zI))) zI)))
  (zU (JE kcT kbS)
  (jV (eM .list jx (zA 2) (zD (zA 4) zI)))))
theorem zGu {S:M.S}{ds:List D} (hds:∀ d∈ds,j1 d) (hl:ds.length <= 150) (c k:Int) (m:D) (v3 v4:Option D):∃ d,qD (z7 3) kfS (.int k) [some (.int c),some m,some (.ref S.length),v3,v4] (S++[.lst ds])=.nx [some (.int c),some m,some (.ref S.length),some (.int k),some d] (S++[.lst (ds++[d])])/\j1 d/\d∉ds:=by
 obtain⟨ks,e1,e2,e3⟩:=zK9 (QC c k)
 have fl:(ds.filter fun d=>decide (ks.length <= Zz d)).length <= ds.length:=List.length_filter_le _ _
 obtain⟨ks',w1,w2,w3,w4⟩:=zFy (S:=S) hds (.int c) m k zFJ ks (Nat.lt_of_le_of_lt fl (by unfold zFJ;omega)) e2 (by omega)
 refine⟨.tup ks',?_,⟨ks',rfl,w3,by omega⟩,w2⟩
 have a1:(jY 4 (zR yP (zD (zR ja (zD (zA 0) (zD (zA 3) zI))) zI))) [some (.int c),some m,some (.ref S.length),some (.int k),v4] (S++[.lst ds])=.nx [some (.int c),some m,some (.ref S.length),some (.int k),some (.tup ks)] (S++[.lst ds]):=by
  simp[Jb,e1]
 have a3:(jV (eM .list jx (zA 2) (zD (zA 4) zI))) [some (.int c),some m,some (.ref S.length),some (.int k),some (.tup ks')] (S++[.lst ds])=.nx [some (.int c),some m,some (.ref S.length),some (.int k),some (.tup ks')] (S++[.lst (ds++[.tup ks'])]):=by
  have z:ds.length < SZ:=Nat.lt_of_lt_of_le (Nat.lt_succ_of_le hl) (sz5 _ (by omega))
  simp[z]
 show ((jY 4 _ _ _).then _)=_
 rw[show ([some (.int c),some m,some (.ref S.length),v3,v4]:St).set 3 (some (.int k))=[some (.int c),some m,some (.ref S.length),some (.int k),v4] from rfl,a1]
 show ((JE kcT kbS _ _).then _)=_
 rw[show JE kcT kbS [some (.int c),some m,some (.ref S.length),some (.int k),some (.tup ks)] (S++[.lst ds])=_ from w1]
 exact a3
theorem zGU {S:M.S} (c:Int) (m:D):∀ (xs:List Int) (ds:List D) (v3 v4:Option D),(∀ d∈ds,j1 d)->ds.Nodup->ds.length+xs.length <= 150 ->
  ∃ ds' v3' v4',j7 [] (qD (z7 3) kfS) (xs.map .int) [some (.int c),some m,some (.ref S.length),v3,v4] (S++[.lst ds])=.nx [some (.int c),some m,some (.ref S.length),v3',v4'] (S++[.lst ds'])/\(∀ d∈ds',j1 d)/\ds'.Nodup/\ds'.length=ds.length+xs.length:=by
 intro xs
 induction xs with
 | nil=>intro ds v3 v4 h1 h2 h3;exact⟨ds,v3,v4,rfl,h1,h2,rfl⟩
 | cons x xs ih =>
  intro ds v3 v4 h1 h2 h3
  rw[List.length_cons] at h3
  obtain⟨d,e,kd,nd⟩:=zGu (S:=S) h1 (by omega) c x m v3 v4
  obtain⟨ds',v3',v4',e',r1,r2,r3⟩:=ih (ds++[d]) (some (.int x)) (some d) (fun y hy=>by
   rcases List.mem_append.mp hy with h | h
   ·exact h1 y h
   ·rw[List.mem_singleton.mp h];exact kd) (by
   rw[List.nodup_append]
   refine⟨h2,by simp,fun a ha b hb=>?_⟩
   rw[List.mem_singleton.mp hb]
   exact fun z=>nd (z ▸ ha)) (by rw[List.length_append];simp;omega)
  refine⟨ds',v3',v4',?_,r1,r2,by rw[r3,List.length_append,List.length_cons];simp;omega⟩
  rw[List.map_cons]
  unfold j7
  rw[e]
  exact e'
theorem zEx (c m:Int) (h0:0 <= m) (h1:m <= 150) (S:M.S):∃ ds,qt [.int c,.int m] S=alloc (.lst ds) S/\(∀ d∈ds,j1 d)/\ds.Nodup/\ds.length=m.toNat:=by
 obtain⟨ds,v3,v4,e,r1,r2,r3⟩:=zGU (S:=S) c (.int m) ((List.range (m - 0).toNat).map fun k:Nat=>(0:Int)+k) [] none none (fun _ h=>nomatch h) List.nodup_nil (by simp;omega)
 refine⟨ds,zBZ (g:=[.lst ds]) (j:=S.length) ?_ (by simp) (Nat.le_refl _) ?_,r1,r2,by rw[r3];simp⟩
 ·have a1:(jY 2 (yE zI)) [some (.int c),some (.int m),none,none,none] S=.nx [some (.int c),some (.int m),some (.ref S.length),none,none] (S++[.lst []]):=by simp
  have a2:(yZ (jg (zA 1)) (z7 3) kfS) [some (.int c),some (.int m),some (.ref S.length),none,none] (S++[.lst []])=.nx [some (.int c),some (.int m),some (.ref S.length),v3,v4] (S++[.lst ds]):=by
   have it:jg (zA 1) [some (.int c),some (.int m),some (.ref S.length),none,none] (S++[.lst []])=.ok (j3 0 m,[]) (S++[.lst []]):=by simp;omega
   show (jg (zA 1) _ _).stm _ _=_
   rw[it,R.stm_ok]
   show (if zk [] (S++[.lst []])=true then j7 [] (qD (z7 3) kfS) (j3 0 m) _ _ else _)=_
   rw[if_pos (show zk [] (S++[.lst []])=true from rfl)]
   have rm:j3 0 m=((List.range (m - 0).toNat).map fun k:Nat=>(0:Int)+k).map .int:=by unfold j3;rw[List.map_map];rfl
   rw[rm]
   exact e
  have st:Qs [.int c,.int m] S=(((jY 2 (yE zI)) [some (.int c),some (.int m),none,none,none] S).then (zU (yZ (jg (zA 1)) (z7 3) kfS) (jZ (zA 2)))).out:=rfl
  rw[st,a1]
  show (((yZ (jg (zA 1)) (z7 3) kfS) _ _).then _).out=_
  rw[a2]
  simp
 ·have:∀ l:List D,(∀ d∈l,j1 d)->D.cl.all S.length l=true:=by
   intro l
   induction l with
   | nil=>exact fun _=>rfl
   | cons x l ih =>
    intro h
    obtain⟨_,_,hx,_⟩:=h x List.mem_cons_self
    show (D.cl S.length x && D.cl.all S.length l)=true
    rw[JO _ hx,ih fun y hy=>h y (List.mem_cons_of_mem _ hy)];rfl
  exact this ds r1
noncomputable def ZB:SM :=
  (zU (sIf (jT cLt (zA 1) (zR yo (zD (zA 0) zI)))
  (jZ (eOp zN (zA 0) (zA 1)))
  jo)
  (jZ (eC (.int 0))))
noncomputable def Qq:F:=fn 2 ZB
noncomputable def Jg (xs:List D) (k:Int):D:=xs.getD k.toNat (.int 0)
noncomputable def zZ:F
 | [.ro xs,.int k],s=>if 0 <= k then .ok (Jg xs k) s else .no
 | _,_=>.no
theorem zKb {α:Type}{xs:List α}{k:Int} (h0:0 <= k) (h:k < xs.length) (d:α):atI xs k=some (xs.getD k.toNat d):=by
 unfold atI ixN
 rw[if_pos h0,if_pos h]
 have hk:k.toNat < xs.length:=by omega
 simp[List.getD_eq_getElem?_getD,hk]
theorem zIn {n:Nat}{xs:List D} (h:D.cl.all n xs=true) (k:Nat) (d:D) (hd:D.cl n d=true):D.cl n (xs.getD k d)=true:=by
 induction xs generalizing k with
 | nil=>exact hd
 | cons x xs ih =>
  have h':(D.cl n x && D.cl.all n xs)=true:=h
  rw[Bool.and_eq_true] at h'
  cases k with
  | zero=>exact h'.1
  | succ k=>exact ih h'.2 k
theorem zD3:jP 2 Qq zZ:=jP.pure fun ds S hl c ca=>by
 match ds,hl with
 | [a,b],_ =>
  cases a with
  | ro xs =>
   cases b with
   | int k =>
    by_cases h0:0 <= k
    ·refine .inr ⟨Jg xs k,[],by simp[zZ,h0],?_,?_⟩
     ·by_cases h:k < (xs.length:Int)
      ·simp[Qq,ZB,h,zKb h0 h (.int 0),Jg]
      ·have h2:Jg xs k=.int 0:=by unfold Jg;rw[List.getD_eq_getElem?_getD,List.getElem?_eq_none (by omega)];rfl
       simp[Qq,ZB,h,h2]
     ·have ca':(D.cl.all S.length xs && true)=true:=ca
      rw[Bool.and_true] at ca'
      exact zIn ca' _ _ rfl
    ·exact .inl (by simp[zZ,h0])
   | _=>exact .inl rfl
  | _=>exact .inl rfl
noncomputable def yj:SM :=
  (zU (jY 1 (eOp zv (zR zZ (zD (zA 0) (zD (eC (.int 2)) zI))) (eC (.int 147))))
  (zU (sIf (jT cEq (eOp zm (zA 1) (eC (.int 3))) (eC (.int 1)))
  (jZ (zBQ 1 (jg (eOp zm (eOp zv (zA 1) (eC (.int 3))) (eC (.int 100)))) (z7 2) y6 (zR ja (zD (zR zZ (zD (zA 0) (zD (eOp qZ (eC (.int 3)) (eOp zm (zA 2) (eC (.int 5)))) zI))) (zD (zA 2) zI)))))
  jo)
  (jZ (eSl (zA 0) (zFB (eC (.int 3))) zFP))))
noncomputable def ZP:F:=fn 2 yj
noncomputable def Z4 (ns:List Int):List Int:=if ns.getD 2 0 / 147 % 3=1 then (List.range (ns.getD 2 0 / 147 / 3 % 100).toNat).map fun k:Nat=>QC (ns.getD (3+(k:Int) % 5).toNat 0) k else ns.drop 3
noncomputable def ye:F:=chN ZP
theorem zC2:jP 1 ZP ye:=zBR _
theorem Z5 (ns:List Int) (k:Int):Jg (ns.map .int) k=.int (ns.getD k.toNat 0):=by
 unfold Jg
 rw[List.getD_eq_getElem?_getD,List.getD_eq_getElem?_getD,List.getElem?_map]
 cases ns[k.toNat]?<;>rfl
theorem zCI (n:Nat) (l:List Int):D.cl.all n (l.map .int)=true:=by
 induction l with
 | nil=>rfl
 | cons x l ih=>exact ih
theorem zHX (ns:List Int) (hl:ns.length <= 63) (S:M.S):ye [.ro (ns.map .int)] S=alloc (.lst ((Z4 ns).map .int)) S:=by
 refine zBZ (g:=[.lst ((Z4 ns).map .int)]) (j:=S.length) ?_ (by simp) (Nat.le_refl _) (zCI _ _)
 by_cases h:ns.getD 2 0 / 147 % 3=1
 ·have e:=Ja (n:=1) (it:=jg (eOp zm (eOp zv (zA 1) (eC (.int 3))) (eC (.int 100)))) (tg:=z7 2) (e:=zR ja (zD (zR zZ (zD (zA 0) (zD (eOp qZ (eC (.int 3)) (eOp zm (zA 2) (eC (.int 5)))) zI))) (zD (zA 2) zI)))
   (σ:=[some (.ro (ns.map .int)),some (.int (ns.getD 2 0 / 147))]) (s:=S) (lo:=0) (hi:=ns.getD 2 0 / 147 / 3 % 100) (fun k=>.int (QC (ns.getD (3+(k:Int) % 5).toNat 0) k)) (by simp;omega) (sz5 _ (by omega)) fun j hj=>by
    have h0:0 <= 3+(j:Int) % 5:=by omega
    simp[zZ,h0,Z5,Jb]
  have dl:(Z4 ns).map D.int=(List.range (ns.getD 2 0 / 147 / 3 % 100 - 0).toNat).map fun k:Nat=>D.int (QC (ns.getD (3+(k:Int) % 5).toNat 0) k):=by
   unfold Z4
   rw[if_pos h,List.map_map,Int.sub_zero]
   rfl
  rw[dl]
  have c2:zZ [.ro (ns.map .int),.int 2] S=.ok (.int (ns.getD 2 0)) S:=by simp[zZ,Z5]
  generalize (List.range (ns.getD 2 0 / 147 / 3 % 100 - 0).toNat).map (fun k:Nat=>D.int (QC (ns.getD (3+(k:Int) % 5).toNat 0) k))=L at *
  generalize ns.getD 2 0=z at *
  simp[ZP,yj,c2,h,e]
 ·have dl:Z4 ns=ns.drop 3:=by unfold Z4;rw[if_neg h]
  rw[dl]
  have c2:zZ [.ro (ns.map .int),.int 2] S=.ok (.int (ns.getD 2 0)) S:=by simp[zZ,Z5]
  have hl':ns.length <= SZ:=sz5 _ (by omega)
  generalize ns.getD 2 0=z at *
  have cu:cut (ns.map D.int) (some 3) none=(ns.drop 3).map D.int:=by
   rw[zLX _ (by omega),List.map_drop]
   rfl
  simp[ZP,yj,c2,h,cu]
noncomputable def Zb:SM :=
  (zU (sIf (jT cEq (eOp zm (zA 0) (eC (.int 3))) (eC (.int 1)))
  (jZ (eOp zm (eOp zv (zA 0) (eC (.int 3))) (eC (.int 41))))
  jo)
  (jZ (eOp zm (eOp zv (zA 0) (eC (.int 3))) (eC (.int 8)))))
noncomputable def QZ:F:=fn 1 Zb
noncomputable def bnd (c:Int):Int:=if c % 3=1 then c / 3 % 41 else c / 3 % 8
theorem zG9 (c:Int):0 <= bnd c/\bnd c <= 40:=by unfold bnd;split<;>omega
noncomputable def yD:F:=chS QZ
theorem zCo:jP 1 QZ yD:=QF _
theorem zDw (c:Int) (s:M.S):yD [.int c] s=.ok (.int (bnd c)) s:=QX (g:=[]) (by by_cases h:c % 3=1<;>simp[QZ,Zb,bnd,h]) rfl
noncomputable def Zo:SM :=
  (zU (sIf (jT cEq (eOp zm (zA 0) (eC (.int 3))) (eC (.int 1)))
  (jZ (eOp qZ (eC (.int 12)) (eOp zm (eOp zv (zA 0) (eC (.int 3))) (eC (.int 49)))))
  jo)
  (jZ (eOp qZ (eC (.int 1)) (eOp zm (eOp zv (zA 0) (eC (.int 3))) (eC (.int 11))))))
noncomputable def Qu:F:=fn 1 Zo
noncomputable def JQ (c:Int):Int:=if c % 3=1 then 12+c / 3 % 49 else 1+c / 3 % 11
theorem zIp (c:Int):1 <= JQ c/\JQ c <= 60:=by unfold JQ;split<;>omega
noncomputable def ZA:F:=chS Qu
theorem zDQ:jP 1 Qu ZA:=QF _
theorem zJP (c:Int) (s:M.S):ZA [.int c] s=.ok (.int (JQ c)) s:=QX (g:=[]) (by by_cases h:c % 3=1<;>simp[Qu,Zo,JQ,h]) rfl
noncomputable def Z0:SM :=
  (zU (sIf (tOr (ZT (Zd (zR Jw (zD (zA 0) (zD (eC (.ty .int)) zI))))) (Zd (zR Jw (zD (zA 0) (zD (eC (.ty .bool)) zI)))))
  (jZ (eC (.bl false)))
  jo)
  (jZ (zDR cLe cLe (eC (.int 0)) (zA 0) (eC (.int 1000)))))
noncomputable def JW:F:=fn 1 Z0
noncomputable def Za:F:=chS JW
theorem zEa:jP 1 JW Za:=QF _
theorem zEd {b:Int} (h0:0 <= b) (h1:b <= 1000) (s:M.S):Za [.int b] s=.ok (.bl true) s:=QX (g:=[]) (by simp[JW,Z0,h0,h1]) rfl
noncomputable def yJ:SM :=
  (zU (sIf (ZT (Zd (zR Za (zD (zA 1) zI))))
  zED
  jo)
  (zU (zCA 5 0 (zA 0) (zA 1))
  (zCA 5 1 (zA 0) zBu)))
noncomputable def ZJ:F:=fn 2 yJ
noncomputable abbrev qH:F:=ZJ
theorem Zm {S:M.S}{p:Nat}{o:O} (hp:S[p]? = some o) (u:O):(S.set p u)[p]? = some u:=List.getElem?_set_self (List.getElem?_eq_some_iff.mp hp).1
theorem zAN {S:M.S}{p:Nat}{o:O} (hp:S[p]? = some o) (u:O) (g:M.S):(S++g).set p u=S.set p u++g:=List.set_append_left _ _ (List.getElem?_eq_some_iff.mp hp).1
theorem Ji {b:Int} (h0:0 <= b) (h1:b <= 1000) {S:M.S}{p:Nat} (hp:S[p]? = some (.ins 5 [none,none])) :
  ZJ [.ref p,.int b] S=.ok .non (S.set p (.ins 5 [some (.int b),some (.ref S.length)])++[.dtt []]):=by
 have e1:=Zm hp (.ins 5 [some (.int b),none])
 have e2:(S.set p (.ins 5 [some (.int b),none])++[O.dtt []])[p]? = some (.ins 5 [some (.int b),none]):=jI e1 _
 have e3:=zAN e1 (.ins 5 [some (.int b),some (.ref S.length)]) [O.dtt []]
 rw[List.set_set] at e3
 simp[ZJ,yJ,zEd h0 h1,hp,e1,e2,e3]
structure Shf (S:M.S) (p d:Nat) (b:Int) (kvs:List (D×D)):Prop where
 ob:S[p]? = some (.ins 5 [some (.int b),some (.ref d)])
 di:S[d]? = some (.dtt kvs)
theorem Q4 {S:M.S}{d:Nat}{o:O}{n:Nat} (h:clS n S=true) (k:O.cl n o=true):clS n (S.set d o)=true:=by
 unfold clS at h ⊢
 refine List.all_eq_true.mpr fun x hx=>?_
 rcases List.mem_or_eq_of_mem_set hx with h1 | rfl
 ·exact List.all_eq_true.mp h x h1
 ·exact k
theorem zDC (k v:D) (kvs:List (D×D)):QW k v (z6 k kvs)=z6 k kvs++[(k,v)]:=by
 unfold QW
 rw[if_neg]
 intro h
 obtain⟨p,hp,e⟩:=List.any_eq_true.mp h
 have:=(List.mem_filter.mp hp).2
 simp at this e
 exact this e
theorem zFt {S:M.S}{d:Nat}{kvs:List (D×D)} (cS:clS S.length S=true) (h:S[d]? = some (.dtt kvs)):∀ q∈kvs,D.cl S.length q.1=true/\D.cl S.length q.2=true:=fun q hq=>by
 have:=List.all_eq_true.mp cS _ (List.mem_of_getElem? h)
 have z:=List.all_eq_true.mp this q hq
 rwa [Bool.and_eq_true] at z
theorem zDA {n:Nat}{kvs:List (D×D)} (h:∀ q∈kvs,D.cl n q.1=true/\D.cl n q.2=true):O.cl n (.dtt kvs)=true:=List.all_eq_true.mpr fun q hq=>by
 rw[(h q hq).1,(h q hq).2];rfl
noncomputable abbrev ky (l:List (D×D)):List D:=l.map (·.1)
theorem zCN {k v:D}{kvs:List (D×D)} (h:jR k kvs=some v):(k,v)∈kvs:=by
 unfold jR at h
 induction kvs with
 | nil=>cases h
 | cons p r ih =>
  obtain⟨p1,p2⟩:=p
  rw[List.lookup_cons] at h
  by_cases z:k=p1
  ·rw[show (k == p1)=true by simpa using z] at h
   cases h
   rw[z]
   exact List.mem_cons_self
  ·rw[show (k == p1)=false by simpa using z] at h
   exact List.mem_cons_of_mem _ (ih h)
theorem zHF {k v:D}{l:List (D×D)} (nd:(ky l).Nodup) (h:(k,v)∈l):jR k l=some v:=by
 unfold jR
 induction l with
 | nil=>cases h
 | cons p r ih =>
  obtain⟨p1,p2⟩:=p
  rw[show ky ((p1,p2)::r)=p1::ky r from rfl,List.nodup_cons] at nd
  rw[List.lookup_cons]
  rcases List.mem_cons.mp h with e | h
  ·cases e;simp
  ·have:k≠p1:=fun z=>nd.1 (z ▸ List.mem_map.mpr ⟨(k,v),h,rfl⟩)
   rw[show (k == p1)=false by simpa using this]
   exact ih nd.2 h
theorem zHm {k:D}{l:List (D×D)} (h:k∉ky l):jR k l=none:=by
 cases e:jR k l with
 | none=>rfl
 | some v=>exact absurd (List.mem_map.mpr ⟨_,zCN e,rfl⟩) h
theorem zH8 {k:D}{l:List (D×D)}{q:D×D}:q∈z6 k l↔q∈l/\q.1≠k:=by
 unfold z6
 rw[List.mem_filter]
 simp
noncomputable def PrD (l:List (D×D)):Prop:=∀ q∈l,j1 q.1/\kyD 2 q.2=true/\q.2≠.non
theorem j1.cl {d:D} (h:j1 d) (n:Nat):D.cl n d=true:=by
 obtain⟨_,_,h,_⟩:=h
 exact JO n h
theorem j1.k7 {d:D} (h:j1 d):kyD 7 d=true:=by
 obtain⟨_,_,h,_⟩:=h
 exact zAR (by omega) h
theorem ZN (n:Nat) {l:List D} (h:∀ d∈l,j1 d):D.cl.all n l=true:=by
 induction l with
 | nil=>rfl
 | cons x l ih =>
  show (D.cl n x && D.cl.all n l)=true
  rw[(h x List.mem_cons_self).cl n,ih fun y hy=>h y (List.mem_cons_of_mem _ hy)];rfl
theorem PrD.cl {l:List (D×D)} (h:PrD l) (n:Nat):O.cl n (.dtt l)=true:=zDA fun q hq=>⟨(h q hq).1.cl n,JO n (h q hq).2.1⟩
theorem zCR {S:M.S}{d:Nat}{o:O} (h:S[d]? = some o):S.set d o=S:=List.ext_getElem? fun i=>by
 by_cases hi:d=i
 ·subst hi;rw[Zm h,h]
 ·rw[List.getElem?_set_ne hi]
theorem zDx {a:IM}{tg:GM}{b:SM}{σ:St}{s:M.S}{xs:List D}{w:Gd}{r:RS} (it:a σ s=.ok (xs,w) s) (gd:zk w s=true) (e:j7 w (qD tg b) xs σ s=r):yZ a tg b σ s=r:=by
 unfold yZ
 rw[it]
 show (if zk w s=true then _ else _)=_
 rw[if_pos gd]
 exact e
noncomputable def Jd:SM :=
  (zU (jY 2 (yE zI))
  (zU (yZ (iE (eUn Zi (zA 0))) (z7 3)
  (zU (sIf (jT cEq (zR yo (zD (zA 2) zI)) (zA 1))
  (jZ (eUn Zi (zA 2)))
  jo)
  (sIf (jT zAP (zA 3) (zA 2))
  (jV (eM .list jx (zA 2) (zD (zA 3) zI)))
  jo)))
  (jZ (eUn Zi (zA 2)))))
noncomputable def JU:F:=fn 4 Jd
noncomputable def Zk:List D->List D
 | []=>[]
 | k::r=>k::(Zk r).filter fun x=>decide (x≠k)
noncomputable def Qo (b:Nat):List D->List D->List D
 | [],row=>row
 | k::r,row=>if row.length=b then row else Qo b r (if row.contains k then row else row++[k])
theorem zJC (b:Nat):∀ (r row:List D),row.length <= b->Qo b r row=(row++(Zk r).filter fun x=>!row.contains x).take b:=by
 intro r
 induction r with
 | nil=>intro row h;simp[Qo,Zk,List.take_of_length_le h]
 | cons k r ih =>
  intro row h
  unfold Qo Zk
  by_cases hb:row.length=b
  ·rw[if_pos hb,<- hb];simp
  ·rw[if_neg hb]
   by_cases hk:row.contains k=true
   ·rw[if_pos hk,ih row h,List.filter_cons_of_neg (by simpa using hk),List.filter_filter]
    congr 2
    refine List.filter_congr fun x _=>?_
    by_cases hx:x=k
    ·subst hx;simp at hk ⊢;exact hk
    ·simp[hx]
   ·rw[if_neg hk,ih _ (by simp;omega),List.filter_cons_of_pos (by simpa using hk),List.filter_filter,List.append_assoc]
    congr 2
    show k::_=k::_
    congr 1
    refine List.filter_congr fun x _=>?_
    by_cases hx:x=k<;>simp[hx]
noncomputable def ql (b:Int) (u:List D):List D:=((Zk u.reverse).take b.toNat).reverse
theorem zE2:∀ {l:List D}{x:D},x∈Zk l->x∈l
 | k::r,x,h=>by
  unfold Zk at h
  rcases List.mem_cons.mp h with rfl | h
  ·exact List.mem_cons_self
  ·exact List.mem_cons_of_mem _ (zE2 (List.mem_filter.mp h).1)
theorem zDf:∀ l:List D,(Zk l).Nodup
 | []=>List.nodup_nil
 | k::r=>by
  unfold Zk
  rw[List.nodup_cons]
  exact⟨fun h=>by simp at h,(zDf r).filter _⟩
theorem zBn {b:Int}{u:List D}{x:D} (h:x∈ql b u):x∈u:=by
 unfold ql at h
 have:=zE2 (List.mem_of_mem_take (List.mem_reverse.mp h))
 exact List.mem_reverse.mp this
noncomputable def jz:F:=chN JU
theorem zEY:jP 2 JU jz:=zBR _
noncomputable abbrev Jy:SM:=(zU (sIf (jT cEq (zR yo (zD (zA 2) zI)) (zA 1))
  (jZ (eUn Zi (zA 2)))
  jo)
  (sIf (jT zAP (zA 3) (zA 2))
  (jV (eM .list jx (zA 2) (zD (zA 3) zI)))
  jo))
theorem zEi {s:M.S}{i:Nat}{ys:List D}{x:D} (hi:s[i]? = some (.lst ys)) (hx:kyD 7 x=true) (hy:ys.all (kyD 7)=true):inT x (.ref i) s=.ok (ys.contains x) s:=by
 have d:QQ (.ref i) s=none:=by simp[QQ,hi]
 have l:jD s i=some ys:=by simp[jD,hi]
 unfold inT
 rw[d]
 show (match jD s i with | some ys=>inL x ys s (inD x (.ref i) s) | none=>inD x (.ref i) s)=_
 rw[l]
 show inL x ys s _=_
 unfold inL
 rw[hx,hy]
 rfl
theorem zHT {S:M.S}{i:Nat}{b:Nat}{R:List D}:∀ (r row:List D) (v3:Option D),(∀ x∈r,j1 x)->(∀ x∈row,j1 x)->row.length+r.length <= 1000 ->
  ((j7 [(S.length+1,.lst R)] (qD (z7 3) Jy) r [some (.ref i),some (.int b),some (.ref S.length),v3] (S++[.lst row,.lst R])).then (jZ (eUn Zi (zA 2))))=.rt (.ref (S.length+2)) (S++[.lst (Qo b r row),.lst R,.lst (Qo b r row).reverse]):=by
 intro r
 induction r with
 | nil =>
  intro row v3 _ _ _
  have e:(S++[O.lst row,.lst R])[S.length]? = some (.lst row):=by simp
  simp[j7,Qo,e]
 | cons k r ih =>
  intro row v3 hr hw hz
  have e:(S++[O.lst row,.lst R])[S.length]? = some (.lst row):=by simp
  have e1:∀ w,(S++[O.lst w,.lst R])[S.length+1]? = some (.lst R):=fun w=>by rw[List.getElem?_append_right (by omega)];simp
  have kd:=hr k List.mem_cons_self
  have k7:=kd.k7
  have gd:∀ w,zk [(S.length+1,O.lst R)] (S++[.lst w,.lst R])=true:=fun w=>by simp[zk,e1 w]
  have rz:row.length < SZ:=Nat.lt_of_lt_of_le (m:=2000) (by simp at hz;omega) (sz5 _ (Nat.le_refl _))
  have a7:row.all (kyD 7)=true:=List.all_eq_true.mpr fun x hx=>(hw x hx).k7
  have hin:=zEi e k7 a7
  unfold j7 Qo
  by_cases hb:row.length=b
  ·rw[if_pos hb]
   have f:qD (z7 3) Jy k [some (.ref i),some (.int b),some (.ref S.length),v3] (S++[.lst row,.lst R])=.rt (.ref (S.length+2)) (S++[.lst row,.lst R,.lst row.reverse]):=by
    simp[e,hb]
   rw[f]
   rfl
  ·rw[if_neg hb]
   have hb':¬ (row.length:Int)=b:=by omega
   by_cases hk:row.contains k=true
   ·rw[if_pos hk]
    have f:qD (z7 3) Jy k [some (.ref i),some (.int b),some (.ref S.length),v3] (S++[.lst row,.lst R])=.nx [some (.ref i),some (.int b),some (.ref S.length),some k] (S++[.lst row,.lst R]):=by
     rw[hk] at hin
     simp[-inT,e,hb',hin]
    rw[f]
    show ((if zk _ _=true then _ else _:RS).then _)=_
    rw[if_pos (gd _)]
    exact ih row (some k) (fun x hx=>hr x (List.mem_cons_of_mem _ hx)) hw (by simp at hz;omega)
   ·rw[if_neg hk]
    have f:qD (z7 3) Jy k [some (.ref i),some (.int b),some (.ref S.length),v3] (S++[.lst row,.lst R])=.nx [some (.ref i),some (.int b),some (.ref S.length),some k] (S++[.lst (row++[k]),.lst R]):=by
     rw[Bool.eq_false_iff.mpr hk] at hin
     simp[-inT,e,hb',hin,rz]
    rw[f]
    show ((if zk _ _=true then _ else _:RS).then _)=_
    rw[if_pos (gd _)]
    exact ih (row++[k]) (some k) (fun x hx=>hr x (List.mem_cons_of_mem _ hx)) (fun x hx=>by
     rcases List.mem_append.mp hx with h | h
     ·exact hw x h
     ·rw[List.mem_singleton.mp h];exact kd) (by simp at hz ⊢;omega)
theorem zHA {S:M.S}{i:Nat}{u:List D}{b:Int} (hi:S[i]? = some (.lst u)) (h0:0 <= b) (hu:∀ x∈u,j1 x) (hz:u.length <= 1000):jz [.ref i,.int b] S=alloc (.lst (ql b u)) S:=by
 have dl:ql b u=(Qo b.toNat u.reverse []).reverse:=by
  rw[zJC _ _ _ (by simp)]
  simp[ql]
  rw[List.filter_eq_self.mpr fun _ _=>rfl]
 refine zBZ (g:=[.lst (Qo b.toNat u.reverse []),.lst u.reverse,.lst (ql b u)]) (j:=S.length+2) ?_ (by simp) (by omega) (ZN _ fun d hd=>hu d (zBn hd))
 have lp:=zHT (S:=S) (i:=i) (b:=b.toNat) (R:=u.reverse) u.reverse [] none (fun x hx=>hu x (List.mem_reverse.mp hx)) (fun _ h=>nomatch h) (by simpa using hz)
 rw[Int.toNat_of_nonneg h0,<- dl] at lp
 have i1:(S++[O.lst []])[i]? = some (.lst u):=jI hi _
 have i2:(S++[O.lst [],.lst u.reverse])[S.length+1]? = some (.lst u.reverse):=by rw[List.getElem?_append_right (by omega)];simp
 have it:iE (eUn Zi (zA 0)) [some (.ref i),some (.int b),some (.ref S.length),none] (S++[.lst []])=.ok (u.reverse,[(S.length+1,.lst u.reverse)]) (S++[.lst [],.lst u.reverse]):=by simp[i1,i2]
 have gd:zk [(S.length+1,O.lst u.reverse)] (S++[.lst [],.lst u.reverse])=true:=by simp[zk,i2]
 have a1:(jY 2 (yE zI)) [some (.ref i),some (.int b),none,none] S=.nx [some (.ref i),some (.int b),some (.ref S.length),none] (S++[.lst []]):=by simp
 have st:JU [.ref i,.int b] S=(((jY 2 (yE zI)) [some (.ref i),some (.int b),none,none] S).then (zU (yZ (iE (eUn Zi (zA 0))) (z7 3) Jy) (jZ (eUn Zi (zA 2))))).out:=rfl
 rw[st,a1]
 have f:(yZ (iE (eUn Zi (zA 0))) (z7 3) Jy) [some (.ref i),some (.int b),some (.ref S.length),none] (S++[.lst []])=j7 [(S.length+1,.lst u.reverse)] (qD (z7 3) Jy) u.reverse [some (.ref i),some (.int b),some (.ref S.length),none] (S++[.lst [],.lst u.reverse]):=by
  unfold yZ
  rw[it]
  show (if zk _ _=true then _ else _)=_
  rw[if_pos gd]
 show (((yZ (iE (eUn Zi (zA 0))) (z7 3) Jy) [some (.ref i),some (.int b),some (.ref S.length),none] (S++[.lst []])).then _).out=_
 rw[f,lp]
 rfl
noncomputable def yT:SM :=
  (zU (jV (eM .dict Qh (yM 5 1 (zA 0)) (zD (zA 1) (zD (eC .non) zI))))
  (zU (Zs (yM 5 1 (zA 0)) (zA 1) (zA 2))
  (sIf (jT cGt (zR yo (zD (yM 5 1 (zA 0)) zI)) (yM 5 0 (zA 0)))
  (jV (eM .dict Qh (yM 5 1 (zA 0)) (zD (eOp zN (zR Q2 (zD (yM 5 1 (zA 0)) zI)) (eC (.int 0))) zI)))
  jo)))
noncomputable def zAe:F:=fn 3 yT
noncomputable def j6:F:=chO zAe
theorem zDK:jP 3 zAe j6:=zG5 _
noncomputable def laid (b:Int) (k t:D) (kvs:List (D×D)):List (D×D):=if ((z6 k kvs++[(k,t)]).length:Int) > b then (z6 k kvs++[(k,t)]).tail else z6 k kvs++[(k,t)]
theorem zGz {k:D}{kvs:List (D×D)} (h:jR k kvs=none):z6 k kvs=kvs:=by
 unfold z6
 refine List.filter_eq_self.mpr fun q hq=>decide_eq_true fun e=>?_
 unfold jR at h
 induction kvs with
 | nil=>cases hq
 | cons p r ih =>
  obtain⟨p1,p2⟩:=p
  rw[List.lookup_cons] at h
  by_cases z:k=p1
  ·rw[show (k == p1)=true by simpa using z] at h;cases h
  ·rw[show (k == p1)=false by simpa using z] at h
   rcases List.mem_cons.mp hq with rfl | hq
   ·exact z e.symm
   ·exact ih h hq
theorem zGC {q:D×D}{r:List (D×D)} (nd:((q::r).map (·.1)).Nodup):z6 q.1 (q::r)=r:=by
 unfold z6
 rw[List.map_cons,List.nodup_cons] at nd
 rw[List.filter_cons_of_neg (by simp)]
 exact List.filter_eq_self.mpr fun p hp=>decide_eq_true fun e=>nd.1 (e ▸ List.mem_map.mpr ⟨p,hp,rfl⟩)
theorem zJt {k t:D}{kvs:List (D×D)} (nd:(kvs.map (·.1)).Nodup):((z6 k kvs++[(k,t)]).map (·.1)).Nodup:=by
 rw[List.map_append,List.nodup_append]
 refine⟨nd.sublist (List.Sublist.map _ List.filter_sublist),by simp,fun x hx y hy=>?_⟩
 obtain⟨p,hp,rfl⟩:=List.mem_map.mp hx
 have:=of_decide_eq_true (List.mem_filter.mp hp).2
 simp at hy
 rw[hy]
 exact this
theorem zJ5 {S:M.S}{p d:Nat}{b:Int}{kvs:List (D×D)} (h:Shf S p d b kvs) (cS:clS S.length S=true) {k t:D} (hk:kyT k=true) (ks:∀ q∈kvs,kyT q.1=true) (nd:(kvs.map (·.1)).Nodup) (hz:kvs.length < SZ)
  (c1:D.cl S.length k=true) (c2:D.cl S.length t=true):j6 [.ref p,k,t] S=.ok .non (S.set d (.dtt (laid b k t kvs))):=by
 have pd:p≠d:=fun e=>by have:=h.ob;rw[e,h.di] at this;cases this
 have hz':(z6 k kvs).length < SZ:=Nat.lt_of_le_of_lt (List.length_filter_le _ _) hz
 have ob:∀ o,(S.set d o)[p]? = some (.ins 5 [some (.int b),some (.ref d)]):=fun o=>by rw[List.getElem?_set_ne pd.symm];exact h.ob
 have di:∀ o,(S.set d o)[d]? = some o:=fun o=>Zm h.di o
 have e1:∃ v,(eM .dict Qh (yM 5 1 (zA 0)) (zD (zA 1) (zD (eC .non) zI))) [some (.ref p),some k,some t] S=.ok v (S.set d (.dtt (z6 k kvs))):=by
  cases hv:jR k kvs with
  | some v=>exact⟨v,by simp[h.ob,h.di,hk,hv]⟩
  | none =>
   refine⟨.non,?_⟩
   have:S.set d (.dtt (z6 k kvs))=S:=by
    rw[zGz hv]
    exact List.ext_getElem? fun i=>by
     by_cases hi:d=i
     ·subst hi;rw[di,h.di]
     ·rw[List.getElem?_set_ne hi]
   rw[this]
   simp[h.ob,h.di,hk,hv]
 obtain⟨v,e1⟩:=e1
 have l0:(z6 k kvs++[(k,t)])≠[]:=by simp
 have nl:=zJt (t:=t) (k:=k) nd
 have cl0:∀ q∈z6 k kvs++[(k,t)],D.cl S.length q.1=true/\D.cl S.length q.2=true:=fun q hq=>by
  rcases List.mem_append.mp hq with h1 | h1
  ·exact zFt cS h.di q (List.mem_filter.mp h1).1
  ·rw[List.mem_singleton.mp h1];exact⟨c1,c2⟩
 have kl:∀ q∈z6 k kvs++[(k,t)],kyT q.1=true:=fun q hq=>by
  rcases List.mem_append.mp hq with h1 | h1
  ·exact ks q (List.mem_filter.mp h1).1
  ·rw[List.mem_singleton.mp h1];exact hk
 have qw:yT [some (.ref p),some k,some t] S=(sIf (jT cGt (zR yo (zD (yM 5 1 (zA 0)) zI)) (yM 5 0 (zA 0)))
   (jV (eM .dict Qh (yM 5 1 (zA 0)) (zD (eOp zN (zR Q2 (zD (yM 5 1 (zA 0)) zI)) (eC (.int 0))) zI))) jo) [some (.ref p),some k,some t] (S.set d (.dtt (z6 k kvs++[(k,t)]))):=by
  have a1:(jV (eM .dict Qh (yM 5 1 (zA 0)) (zD (zA 1) (zD (eC .non) zI)))) [some (.ref p),some k,some t] S=.nx [some (.ref p),some k,some t] (S.set d (.dtt (z6 k kvs))):=by
   show ((eM _ _ _ _ _ _).stm _ _)=_
   rw[e1];rfl
  have a2:(Zs (yM 5 1 (zA 0)) (zA 1) (zA 2)) [some (.ref p),some k,some t] (S.set d (.dtt (z6 k kvs)))=.nx [some (.ref p),some k,some t] (S.set d (.dtt (z6 k kvs++[(k,t)]))):=by
   simp[ob,di,hk,hz',zDC]
  show ((jV _ _ _).then _)=_
  rw[a1]
  show ((Zs _ _ _ _ _).then _)=_
  rw[a2]
  rfl
 generalize hl:z6 k kvs++[(k,t)]=l at *
 by_cases hb:(l.length:Int) > b
 ·obtain⟨q,r,rfl⟩:∃ q r,l=q::r:=by cases l with | nil=>exact absurd rfl l0 | cons q r=>exact⟨q,r,rfl⟩
  have q1:jR q.1 (q::r)=some q.2:=by unfold jR;obtain⟨x,y⟩:=q;simp[List.lookup_cons]
  have q2:=zGC nl
  have lw:laid b k t kvs=r:=by unfold laid;rw[hl,if_pos hb];rfl
  have q3:=kl q List.mem_cons_self
  rw[lw]
  refine zBH (g:=[.lst ((q::r).map (·.1))]) ?_ (by simp) (Q4 cS (zDA fun x hx=>cl0 x (List.mem_cons_of_mem _ hx))) rfl
  show (yT ([some (.ref p),some k,some t]) S).out=_
  rw[qw]
  have f2:(S.set d (.dtt (q::r))++[O.lst (q.1::r.map (·.1))])[d]? = some (.dtt (q::r)):=jI (di _) _
  have f3:=zAN (di (.dtt (q::r))) (.dtt r) [O.lst (q.1::r.map (·.1))]
  rw[List.set_set] at f3
  have f4:(S.set d (.dtt (q::r))++[O.lst (q.1::r.map (·.1))])[S.length]? = some (O.lst (q.1::r.map (·.1))):=by
   rw[List.getElem?_append_right (by simp)];simp
  have hb':b < (r.length:Int)+1:=by simpa using hb
  simp[ob,di,hb',f2,f3,f4,at0,q1,q2,q3]
 ·have lw:laid b k t kvs=l:=by unfold laid;rw[hl,if_neg hb]
  rw[lw]
  refine zBH (g:=[]) ?_ (by simp) (Q4 cS (zDA cl0)) rfl
  show (yT ([some (.ref p),some k,some t]) S).out=_
  rw[qw]
  have hb':l.length <= b:=by omega
  simp[ob,di,hb,hb']
theorem zIM {x:Int}{k t:D}{l:List (D×D)}{q:D×D} (h:q∈laid x k t l):q∈l\/q=(k,t):=by
 have:q∈z6 k l++[(k,t)]:=by
  unfold laid at h
  split at h
  ·exact List.mem_of_mem_tail h
  ·exact h
 rcases List.mem_append.mp this with z | z
 ·exact .inl (zH8.mp z).1
 ·exact .inr (List.mem_singleton.mp z)
noncomputable def q0:SM :=
  (sIf (jT zAP (zA 1) (yM 5 1 (zA 0)))
  (jZ (eC .non))
  jo)
noncomputable def yp:SM :=
  (jY 2 (eM .dict Qh (yM 5 1 (zA 0)) (zD (zA 1) zI)))
noncomputable def yu:SM :=
  (Zs (yM 5 1 (zA 0)) (zA 1) (zA 2))
noncomputable def yt:SM :=
  (jZ (zA 2))
noncomputable def yk:SM:=(zU q0 (zU yp (zU yu yt)))
noncomputable def ZO:F:=fn 3 yk
noncomputable def jp:F:=chO ZO
theorem zC3:jP 2 ZO jp:=zG5 _
theorem zGr {S:M.S}{p d:Nat}{b:Int}{kvs:List (D×D)} (h:Shf S p d b kvs) (cS:clS S.length S=true) {k:D} (hk:kyT k=true) (hn:jR k kvs=none):jp [.ref p,k] S=.ok .non S:=by
 refine zBH (g:=[]) ?_ rfl cS rfl
 simp[ZO,yk,q0,h.ob,h.di,hk,hn]
theorem zG0 {S:M.S}{p d:Nat}{b:Int}{kvs:List (D×D)} (h:Shf S p d b kvs) (cS:clS S.length S=true) {k v:D} (hk:kyT k=true) (hv:jR k kvs=some v) (hz:kvs.length < SZ)
  (c1:D.cl S.length k=true) (c2:D.cl S.length v=true):jp [.ref p,k] S=.ok v (S.set d (.dtt (z6 k kvs++[(k,v)]))):=by
 have pd:p≠d:=fun e=>by have:=h.ob;rw[e,h.di] at this;cases this
 have hz':(z6 k kvs).length < SZ:=Nat.lt_of_le_of_lt (List.length_filter_le _ _) hz
 have e1:=Zm h.di (.dtt (z6 k kvs))
 have e2:(S.set d (.dtt (z6 k kvs)))[p]? = some (.ins 5 [some (.int b),some (.ref d)]):=by rw[List.getElem?_set_ne pd.symm];exact h.ob
 refine zBH (g:=[]) ?_ (by simp) (Q4 cS ?_) c2
 ·simp[ZO,yk,q0,yp,yu,yt,h.ob,h.di,hk,hv,e1,e2,hz',zDC]
 ·refine zDA fun q hq=>?_
  rcases List.mem_append.mp hq with h1 | h1
  ·exact zFt cS h.di q (List.mem_filter.mp h1).1
  ·rw[List.mem_singleton.mp h1];exact⟨c1,c2⟩
noncomputable def yf (k:D) (kvs:List (D×D)):List (D×D):=match jR k kvs with
 | some v=>z6 k kvs++[(k,v)]
 | none=>kvs
theorem zI0 {S:M.S}{p d:Nat}{b:Int}{kvs:List (D×D)} (h:Shf S p d b kvs) (cS:clS S.length S=true) {k:D} (hk:kyT k=true) (hz:kvs.length < SZ):jp [.ref p,k] S=.ok ((jR k kvs).getD .non) (S.set d (.dtt (yf k kvs))):=by
 unfold yf
 cases hv:jR k kvs with
 | none=>rw[zGr h cS hk hv];show _=R.ok D.non (S.set d (.dtt kvs));rw[zCR h.di]
 | some v =>
  have m:=zFt cS h.di _ (zCN hv)
  rw[zG0 h cS hk hv hz m.1 m.2]
  rfl
theorem zFS {k:D}{kvs:List (D×D)}{q:D×D} (h:q∈yf k kvs):q∈kvs:=by
 unfold yf at h
 cases hv:jR k kvs with
 | none=>rw[hv] at h;exact h
 | some v =>
  rw[hv] at h
  rcases List.mem_append.mp h with h | h
  ·exact (List.mem_filter.mp h).1
  ·rw[List.mem_singleton.mp h];exact zCN hv
theorem zFu {k:D}{l:List (D×D)} (h:PrD l):PrD (yf k l):=fun q hq=>h q (zFS hq)
noncomputable def qy:SM :=
  (jZ (zR Q2 (zD (yM 5 1 (zA 0)) zI)))
noncomputable def y7:F:=fn 1 qy
noncomputable def ju:F:=chN y7
theorem zAA:jP 1 y7 ju:=zBR _
theorem QU {S:M.S}{p d:Nat}{b:Int}{kvs:List (D×D)} (h:Shf S p d b kvs) (hk:∀ q∈kvs,D.cl S.length q.1=true):ju [.ref p] S=alloc (.lst (kvs.map (·.1))) S:=by
 refine zBZ (g:=[.lst (kvs.map (·.1))]) (j:=S.length) ?_ (by simp) (Nat.le_refl _) ?_
 ·simp[y7,qy,h.ob,h.di]
 ·have:∀ kvs:List (D×D),(∀ q∈kvs,D.cl S.length q.1=true)->D.cl.all S.length (kvs.map (·.1))=true:=by
   intro kvs
   induction kvs with
   | nil=>exact fun _=>rfl
   | cons q kvs ih =>
    intro h
    show (D.cl S.length q.1 && D.cl.all S.length (kvs.map (·.1)))=true
    rw[h q List.mem_cons_self,ih fun r hr=>h r (List.mem_cons_of_mem _ hr)];rfl
  exact this kvs hk
noncomputable def qS:SM :=
  (jY 3 (qj 5 ju (zA 0) zI))
noncomputable def qR:SM :=
  (sIf (tOr (ZT (Zd (zR Jw (zD (zA 3) (zD (eC (.ty .list)) zI))))) (jT cNe (zA 3) (zA 1)))
  (jZ (eC (.bl false)))
  jo)
noncomputable def qP:SM :=
  (jV (eM .list jx (zA 2) (zD (Zv (zD (zA 3) (zD (zR Q2 (zD (zA 3) zI)) zI))) zI)))
noncomputable def qO:SM :=
  (jY 4 (qj 5 ju (zA 0) zI))
noncomputable def qU:SM :=
  (jV (eM .list jx (zA 4) (zD (Zv (zD (eC (.str [97])) zI)) zI)))
noncomputable def qQ:SM :=
  (jZ (JT cEq (qj 5 ju (zA 0) zI) (zA 1)))
noncomputable def yR:SM:=(zU qS (zU qR (zU qP (zU qO (zU qU qQ)))))
noncomputable def Zx:F:=fn 5 yR
noncomputable abbrev yQ:F:=Zx
noncomputable def ZR:SM :=
  (zU (jY 1 (yE (zD (eC (.int 0)) (zD (eC (.str [])) (zD (Zv zI) (zD (Zv (zD (eC .non) zI)) (zD (eC (.str [78,111,110,101])) (zD (Zv (zD (eC (.str [116,101,120,116])) (zD (eC (.str [])) zI))) (zD (eOp zm (eOp zv (zA 0) (eC (.int 8))) (eC (.int 1000))) (zD (Zv (zD (eC (.str [102,97,105,108,115])) (zD (zR zFj (zD (eOp zm (eOp zv (zA 0) (eC (.int 8))) (eC (.int 7))) zI)) zI))) zI))))))))))
  (jZ (eOp zN (zA 1) (eOp zm (zA 0) (eC (.int 8))))))
noncomputable def QM:F:=fn 2 ZR
noncomputable def Q1 (c:Int):D:=([.int 0,.str [],.tup [],.tup [.non],.str [78,111,110,101],.tup [.str [116,101,120,116],.str []],.int (c / 8 % 1000),.tup [.str [102,97,105,108,115],.str (JD (c / 8 % 7))]]:List D).getD (c % 8).toNat .non
noncomputable def qg:F:=chS QM
theorem zC0:jP 1 QM qg:=QF _
theorem zDI (c:Int):kyD 2 (Q1 c)=true:=by
 have v:c % 8=0\/c % 8=1\/c % 8=2\/c % 8=3\/c % 8=4\/c % 8=5\/c % 8=6\/c % 8=7:=by omega
 unfold Q1
 rcases v with v | v | v | v | v | v | v | v<;>rw[v]<;>rfl
theorem zIL (c:Int) (s:M.S):qg [.int c] s=.ok (Q1 c) s:=by
 have v:c % 8=0\/c % 8=1\/c % 8=2\/c % 8=3\/c % 8=4\/c % 8=5\/c % 8=6\/c % 8=7:=by omega
 have sn:qx (c / 8 % 7)=true:=by unfold qx;simp;omega
 have ts:∀ n:Nat,n <= 2000->n <= SZ:=sz5
 refine QX (g:=[.lst [.int 0,.str [],.tup [],.tup [.non],.str [78,111,110,101],.tup [.str [116,101,120,116],.str []],.int (c / 8 % 1000),.tup [.str [102,97,105,108,115],.str (JD (c / 8 % 7))]]]) ?_ (JO _ (zDI c))
 have at5:∀ (a b c d e f:D) (l:List D),atI (a::b::c::d::e::f::l) 5=some f:=fun a b c d e f l=>Qp _ 5 _ rfl
 have at6:∀ (a b c d e f g:D) (l:List D),atI (a::b::c::d::e::f::g::l) 6=some g:=fun a b c d e f g l=>Qp _ 6 _ rfl
 have at7:∀ (a b c d e f g h:D) (l:List D),atI (a::b::c::d::e::f::g::h::l) 7=some h:=fun a b c d e f g h l=>Qp _ 7 _ rfl
 unfold Q1
 rcases v with v | v | v | v | v | v | v | v<;>simp[QM,ZR,v,sn,sz0,sz5,at0,at1,at2,at3,at4,at5,at6,at7]
mutual
theorem P.eqv_refl:∀ p:P,P.eqv p p=true
 | .non=>by simp[P.eqv]
 | .bl b=>by simp[P.eqv]
 | .int i=>by simp[P.eqv]
 | .str x=>by simp[P.eqv]
 | .tup ps=>by simp[P.eqv,P.eqvs_refl ps]
 | .lst ps=>by simp[P.eqv,P.eqvs_refl ps]
theorem P.eqvs_refl:∀ ps:List P,P.eqvs ps ps=true
 | []=>by simp[P.eqvs]
 | p::ps=>by simp[P.eqvs,P.eqv_refl p,P.eqvs_refl ps]
end
theorem zMQ (g:Nat->Option P):∀ (n:Nat) (d:D),kyD n d=true->∃ p,qK g d=some p/\P.dep p <= n:=by
 intro n
 induction n with
 | zero=>intro d h;cases d<;>first | exact⟨_,rfl,by simp[P.dep]⟩ | cases h
 | succ n ih =>
  intro d h
  cases d with
  | tup ds =>
   have h':ds.all (kyD n)=true:=h
   have:∀ ds:List D,ds.all (kyD n)=true->∃ ps,qK.all g ds=some ps/\P.deps ps <= n:=by
    intro ds
    induction ds with
    | nil=>exact fun _=>⟨[],rfl,by simp[P.deps]⟩
    | cons d ds ih2 =>
     intro h
     rw[List.all_cons,Bool.and_eq_true] at h
     obtain⟨p,e1,d1⟩:=ih d h.1
     obtain⟨ps,e2,d2⟩:=ih2 h.2
     refine⟨p::ps,by simp[qK.all,e1,e2],?_⟩
     simp only[P.deps]
     omega
   obtain⟨ps,e,dp⟩:=this ds h'
   exact⟨.tup ps,by simp[qK,e],by simp only[P.dep];omega⟩
  | _=>first | exact⟨_,rfl,by simp[P.dep]⟩ | cases h
theorem zLn (g:Nat->Option P) (n:Nat):∀ ds:List D,(∀ d∈ds,kyD n d=true)->∃ ps,qK.all g ds=some ps/\P.deps ps <= n:=by
 intro ds
 induction ds with
 | nil=>exact fun _=>⟨[],rfl,by simp[P.deps]⟩
 | cons d ds ih =>
  intro h
  obtain⟨p,e1,d1⟩:=zMQ g n d (h d List.mem_cons_self)
  obtain⟨ps,e2,d2⟩:=ih fun x hx=>h x (List.mem_cons_of_mem _ hx)
  refine⟨p::ps,by simp[qK.all,e1,e2],?_⟩
  simp only[P.deps]
  omega
theorem zAr {s:M.S}{i j:Nat}{xs:List D} (hi:s[i]? = some (.lst xs)) (hj:s[j]? = some (.lst xs)) (h:∀ x∈xs,kyD 7 x=true):eqD (.ref i) (.ref j) s=.ok true s:=by
 obtain⟨ps,e,dp⟩:=zLn (fun j=>toP 8 s (.ref j)) 7 xs h
 have ei:toP Qt s (.ref i)=some (.lst ps):=by
  show (match jD s i with | some xs=>(qK.all (fun j=>toP 8 s (.ref j)) xs).map P.lst | none=>none)=_
  rw[show jD s i=some xs by simp[jD,hi]]
  show (qK.all (fun j=>toP 8 s (.ref j)) xs).map P.lst=_
  rw[e];rfl
 have ej:toP Qt s (.ref j)=some (.lst ps):=by
  show (match jD s j with | some xs=>(qK.all (fun j=>toP 8 s (.ref j)) xs).map P.lst | none=>none)=_
  rw[show jD s j=some xs by simp[jD,hj]]
  show (qK.all (fun j=>toP 8 s (.ref j)) xs).map P.lst=_
  rw[e];rfl
 have:P.dep (.lst ps) <= 64:=by simp only[P.dep];omega
 simp[ei,ej,P.eqv_refl,this]
theorem zHL (c:Int):Q1 c≠.non:=by
 have v:c % 8=0\/c % 8=1\/c % 8=2\/c % 8=3\/c % 8=4\/c % 8=5\/c % 8=6\/c % 8=7:=by omega
 unfold Q1
 rcases v with v | v | v | v | v | v | v | v<;>rw[v]<;>simp
noncomputable def JH:SM :=
  (jY 1 (yE (zD (zR yD (zD (zR zZ (zD (zA 0) (zD (eC (.int 0)) zI))) zI)) (zD (zR yD (zD (eOp zv (zR zZ (zD (zA 0) (zD (eC (.int 0)) zI))) (eC (.int 123))) zI)) zI))))
noncomputable def JB:SM :=
  (jY 2 (zR qt (zD (zR zZ (zD (zA 0) (zD (eC (.int 1)) zI))) (zD (zR ZA (zD (zR zZ (zD (zA 0) (zD (eC (.int 2)) zI))) zI)) zI))))
noncomputable def JF:SM :=
  (jY 3 (yE (zD (zAL 5 2 qH (zD (eOp zN (zA 1) (eC (.int 0))) zI)) (zD (zAL 5 2 qH (zD (eOp zN (zA 1) (eC (.int 1))) zI)) zI))))
noncomputable def yq:SM :=
  (jY 4 (yE (zD (yE zI) (zD (yE zI) zI))))
noncomputable def Zh:SM :=
  (jY 5 (yE zI))
noncomputable def Zj:SM :=
  (jY 6 (zR ye (zD (zA 0) zI)))
noncomputable def ZM:SM :=
  (sIf (jT cEq (eOp zm (eOp zv (zR zZ (zD (zA 0) (zD (eC (.int 2)) zI))) (eC (.int 441))) (eC (.int 8))) (eC (.int 1)))
  (zU (Zs (zA 1) (eC (.int 0)) (eOp qZ (eC (.int 41)) (eOp zm (eOp zv (zR zZ (zD (zA 0) (zD (eC (.int 2)) zI))) (eC (.int 3528))) (eC (.int 90)))))
  (zU (Zs (zA 3) (eC (.int 0)) (zAL 5 2 qH (zD (eOp zN (zA 1) (eC (.int 0))) zI)))
  (zU (jY 2 (zR qt (zD (zR zZ (zD (zA 0) (zD (eC (.int 1)) zI))) (zD (eOp qZ (eOp zN (zA 1) (eC (.int 0))) (eC (.int 9))) zI))))
  (yZ (jg (zR yo (zD (zA 2) zI))) (z7 7)
  (zU (jV (qj 5 j6 (eOp zN (zA 3) (eC (.int 0))) (zD (eOp zN (zA 2) (zA 7)) (zD (zA 7) zI))))
  (zU (jV (eM .list jx (eOp zN (zA 4) (eC (.int 0))) (zD (eOp zN (zA 2) (zA 7)) zI)))
  (sIf (jT cEq (eOp zm (zA 7) (eC (.int 9))) (eC (.int 4)))
  (zU (jV (qj 5 jp (eOp zN (zA 3) (eC (.int 0))) (zD (eOp zN (zA 2) (eOp zv (zA 7) (eC (.int 2)))) zI)))
  (sIf (jT J0 (eOp zN (zA 2) (eOp zv (zA 7) (eC (.int 2)))) (zR jz (zD (eOp zN (zA 4) (eC (.int 0))) (zD (eOp zN (zA 1) (eC (.int 0))) zI))))
  (jV (eM .list jx (eOp zN (zA 4) (eC (.int 0))) (zD (eOp zN (zA 2) (eOp zv (zA 7) (eC (.int 2)))) zI)))
  jo))
  jo)))))))
  jo)
noncomputable def Z9:SM :=
  (yZ (iE (zA 6)) (z7 8)
  (zU (jY 9 (zR zDZ (zD (JT cEq (eOp zm (zA 8) (eC (.int 7))) (eC (.int 3))) zI)))
  (zU (jY 10 (eOp zN (zA 2) (eOp zm (eOp zv (zA 8) (eC (.int 35))) (zR yo (zD (zA 2) zI)))))
  (zU (sIf (jT cLt (eOp zm (eOp zv (zA 8) (eC (.int 7))) (eC (.int 5))) (eC (.int 3)))
  (zU (jV (qj 5 j6 (eOp zN (zA 3) (zA 9)) (zD (zA 10) (zD (zR qg (zD (eOp zv (zA 8) (eC (.int 35))) zI)) zI))))
  (jV (eM .list jx (eOp zN (zA 4) (zA 9)) (zD (zA 10) zI))))
  (zU (jV (qj 5 jp (eOp zN (zA 3) (zA 9)) (zD (zA 10) zI)))
  (sIf (jT J0 (zA 10) (zR jz (zD (eOp zN (zA 4) (zA 9)) (zD (eOp zN (zA 1) (zA 9)) zI))))
  (jV (eM .list jx (eOp zN (zA 4) (zA 9)) (zD (zA 10) zI)))
  jo)))
  (zU (jY 11 (zR jz (zD (eOp zN (zA 4) (zA 9)) (zD (eOp zN (zA 1) (zA 9)) zI))))
  (sIf (zAD (jT cEq (eOp zm (eOp zv (zA 8) (eC (.int 35))) (eC (.int 4))) (eC (.int 1))) (ZT (Zd (zR yQ (zD (eOp zN (zA 3) (zA 9)) (zD (zA 11) (zD (zA 5) zI)))))))
  (jZ (eC (.bl false)))
  jo))))))
noncomputable def QA:SM :=
  (yZ (jg (eC (.int 2))) (z7 9)
  (zU (jY 11 (zR jz (zD (eOp zN (zA 4) (zA 9)) (zD (eOp zN (zA 1) (zA 9)) zI))))
  (sIf (ZT (Zd (zR yQ (zD (eOp zN (zA 3) (zA 9)) (zD (zA 11) (zD (zA 5) zI))))))
  (jZ (eC (.bl false)))
  jo)))
noncomputable def Zg:SM :=
  (jZ (JG zA3 1 (iE (zA 5)) (z7 12) y6 (JT cEq (eOp zN (zA 12) (eC (.int 0))) (eOp zN (zA 12) (eC (.int 1))))))
noncomputable def zBD:SM:=(zU JH (zU JB (zU JF (zU yq (zU Zh (zU Zj (zU ZM (zU Z9 (zU QA Zg)))))))))
noncomputable def zBP:F:=fn 12 zBD
theorem zG3 {S:M.S}{p d i h:Nat}{b:Int}{L:List (D×D)}{H:List D} (hs:Shf S p d b L) (pr:PrD L) (hi:S[i]? = some (.lst (ky L))) (hh:S[h]? = some (.lst H)) (hz:H.length < 2000) (hl:L.length < 2000) (ih:i≠h) :
  Zx [.ref p,.ref i,.ref h] S=.ok (.bl true) (S.set h (.lst (H++[.tup [.ref S.length,.ref (S.length+1)]]))++[.lst (ky L),.lst (ky L),.lst (ky L++[.tup [.str [97]]]),.lst (ky L)]):=by
 have hz':H.length < SZ:=Nat.lt_of_lt_of_le hz (sz5 _ (Nat.le_refl _))
 have hl':(ky L).length < SZ:=Nat.lt_of_lt_of_le (by simpa using hl) (sz5 _ (Nat.le_refl _))
 have z2:2 <= SZ:=sz5 _ (by omega)
 have z1:1 <= SZ:=sz5 _ (by omega)
 have kc:∀ n:Nat,∀ q∈L,D.cl n q.1=true:=fun n q hq=>(pr q hq).1.cl n
 have k7:∀ x∈ky L,kyD 7 x=true:=fun x hx=>by obtain⟨q,hq,rfl⟩:=List.mem_map.mp hx;exact (pr q hq).1.k7
 have hd:h≠d:=fun e=>by have:=hs.di;rw[<- e,hh] at this;cases this
 have hp:h≠p:=fun e=>by have:=hs.ob;rw[<- e,hh] at this;cases this
 obtain⟨H',eH⟩:∃ H',H'=H++[D.tup [.ref S.length,.ref (S.length+1)]]:=⟨_,rfl⟩
 rw[<- eH]
 obtain⟨S1,eS⟩:∃ S1,S1=S.set h (.lst H'):=⟨_,rfl⟩
 have l1:S1.length=S.length:=by rw[eS];simp
 have i1:S1[i]? = some (.lst (ky L)):=by rw[eS,List.getElem?_set_ne ih.symm];exact hi
 have s1:Shf S1 p d b L:=⟨by rw[eS,List.getElem?_set_ne hp];exact hs.ob,by rw[eS,List.getElem?_set_ne hd];exact hs.di⟩
 have ap:∀ (g:M.S) {Q:M.S},Shf Q p d b L->Shf (Q++g) p d b L:=fun g Q z=>⟨jI z.ob g,jI z.di g⟩
 have o1:∀ (g:M.S),(S++g)[p]? = some (.ins 5 [some (.int b),some (.ref d)]):=fun g=>jI hs.ob g
 have o2:∀ (g:M.S),(S1++g)[p]? = some (.ins 5 [some (.int b),some (.ref d)]):=fun g=>jI s1.ob g
 have a1:qS [some (.ref p),some (.ref i),some (.ref h),none,none] S=.nx [some (.ref p),some (.ref i),some (.ref h),some (.ref S.length),none] (S++[.lst (ky L)]):=by
  simp[qS,hs.ob,QU hs (kc _)]
 have e1:(S++[O.lst (ky L)])[S.length]? = some (.lst (ky L)):=by simp
 have q1:=zAr e1 (jI hi [O.lst (ky L)]) k7
 have a2:qR [some (.ref p),some (.ref i),some (.ref h),some (.ref S.length),none] (S++[.lst (ky L)])=.nx [some (.ref p),some (.ref i),some (.ref h),some (.ref S.length),none] (S++[.lst (ky L)]):=by
  simp[-eqD,qR,e1,q1]
 have e3:(S++[O.lst (ky L),.lst (ky L)])[h]? = some (.lst H):=jI hh _
 have e4:(S++[O.lst (ky L),.lst (ky L)]).set h (.lst H')=S1++[O.lst (ky L),.lst (ky L)]:=by rw[eS];exact zAN hh _ _
 have hh1:(S++[O.lst (ky L)])[h]? = some (.lst H):=jI hh _
 have a3:qP [some (.ref p),some (.ref i),some (.ref h),some (.ref S.length),none] (S++[.lst (ky L)])=.nx [some (.ref p),some (.ref i),some (.ref h),some (.ref S.length),none] (S1++[.lst (ky L),.lst (ky L)]):=by
  simp[qP,e1,hh1,e3,hz',z2]
  rw[<- eH]
  exact e4
 have k1:=QU (ap [O.lst (ky L),.lst (ky L)] s1) (kc _)
 have a4:qO [some (.ref p),some (.ref i),some (.ref h),some (.ref S.length),none] (S1++[.lst (ky L),.lst (ky L)])=.nx [some (.ref p),some (.ref i),some (.ref h),some (.ref S.length),some (.ref (S.length+2))] (S1++[.lst (ky L),.lst (ky L),.lst (ky L)]):=by
  simp[qO,o2,k1,l1]
 have e5:(S1++[O.lst (ky L),.lst (ky L),.lst (ky L)])[S.length+2]? = some (.lst (ky L)):=by rw[List.getElem?_append_right (by omega),l1];simp
 have e6:(S1++[O.lst (ky L),.lst (ky L),.lst (ky L)]).set (S.length+2) (.lst (ky L++[.tup [.str [97]]]))=S1++[O.lst (ky L),.lst (ky L),.lst (ky L++[.tup [.str [97]]])]:=by
  rw[List.set_append_right _ _ (by omega),l1]
  simp
 have a5:qU [some (.ref p),some (.ref i),some (.ref h),some (.ref S.length),some (.ref (S.length+2))] (S1++[.lst (ky L),.lst (ky L),.lst (ky L)])=.nx [some (.ref p),some (.ref i),some (.ref h),some (.ref S.length),some (.ref (S.length+2))] (S1++[.lst (ky L),.lst (ky L),.lst (ky L++[.tup [.str [97]]])]):=by
  generalize hK:ky L=K at *
  simp[qU,e5,hl',z1]
  exact e6
 have k2:=QU (ap [O.lst (ky L),.lst (ky L),.lst (ky L++[.tup [.str [97]]])] s1) (kc _)
 have e7:(S1++[O.lst (ky L),.lst (ky L),.lst (ky L++[.tup [.str [97]]]),.lst (ky L)])[S.length+3]? = some (.lst (ky L)):=by rw[List.getElem?_append_right (by omega),l1];simp
 have q2:=zAr e7 (jI i1 [O.lst (ky L),.lst (ky L),.lst (ky L++[.tup [.str [97]]]),.lst (ky L)]) k7
 have a6:qQ [some (.ref p),some (.ref i),some (.ref h),some (.ref S.length),some (.ref (S.length+2))] (S1++[.lst (ky L),.lst (ky L),.lst (ky L++[.tup [.str [97]]])])=.rt (.bl true) (S1++[.lst (ky L),.lst (ky L),.lst (ky L++[.tup [.str [97]]]),.lst (ky L)]):=by
  simp[-eqD,qQ,o2,k2,l1]
  rw[q2]
  rfl
 rw[<- eS]
 have st:Zx [.ref p,.ref i,.ref h] S=(yR [some (.ref p),some (.ref i),some (.ref h),none,none] S).out:=rfl
 rw[st]
 unfold yR
 show ((qS _ _).then _).out=_
 rw[a1]
 show ((qR _ _).then _).out=_
 rw[a2]
 show ((qP _ _).then _).out=_
 rw[a3]
 show ((qO _ _).then _).out=_
 rw[a4]
 show ((qU _ _).then _).out=_
 rw[a5]
 show (qQ _ _).out=_
 rw[a6]
 rfl
theorem zHE (k:D):∀ (Q:List D) (m:Nat),Q.Nodup->(Q.filter fun x=>decide (x≠k)).take m=((Q.take (m+1)).filter fun x=>decide (x≠k)).take m:=by
 intro Q
 induction Q with
 | nil=>intro m _;simp
 | cons q Q ih =>
  intro m nd
  rw[List.nodup_cons] at nd
  by_cases h:q=k
  ·subst h
   have e:∀ l:List D,q∉l->(l.filter fun x=>decide (x≠q))=l:=fun l hl=>List.filter_eq_self.mpr fun x hx=>decide_eq_true fun z=>hl (z ▸ hx)
   rw[List.take_succ_cons,List.filter_cons_of_neg (by simp),List.filter_cons_of_neg (by simp),e Q nd.1,e _ fun z=>nd.1 (List.mem_of_mem_take z),List.take_take,Nat.min_self]
  ·rw[List.take_succ_cons,List.filter_cons_of_pos (by simpa using h),List.filter_cons_of_pos (by simpa using h)]
   cases m with
   | zero=>rfl
   | succ m=>rw[List.take_succ_cons,List.take_succ_cons,ih m nd.2]
theorem zEl (k:D) (L:List (D×D)):ky (z6 k L)=(ky L).filter fun x=>decide (x≠k):=by
 unfold z6
 rw[List.filter_map]
 rfl
theorem zBt {b:Int} (h0:0 <= b) (U:List D):((ql b U).length:Int) <= b:=by
 unfold ql
 simp
 omega
theorem zGZ (b:Int) (U:List D):(ql b U).Nodup:=by
 unfold ql
 exact List.pairwise_reverse.mpr (((zDf _).sublist (List.take_sublist _ _)).imp fun h=>h.symm)
theorem zDN {b:Int} (U:List D) (k:D):ql b (U++[k])=(((((ql b U).filter fun x=>decide (x≠k))++[k]).reverse).take b.toNat).reverse:=by
 unfold ql
 rw[List.reverse_append,List.reverse_append]
 show ((Zk (k::U.reverse)).take _).reverse=_
 show ((k::(Zk U.reverse).filter fun x=>decide (x≠k)).take _).reverse=_
 congr 1
 rw[List.filter_reverse,List.reverse_reverse,List.reverse_singleton,List.singleton_append]
 cases b.toNat with
 | zero=>rfl
 | succ m=>rw[List.take_succ_cons,List.take_succ_cons,zHE k _ _ (zDf _)]
theorem zHW {b:Int}{U:List D}{L:List (D×D)} (h0:0 <= b) (h:ky L=ql b U) (k t:D):ky (laid b k t L)=ql b (U++[k]):=by
 have zl:((ky L).length:Int) <= b:=by rw[h];exact zBt h0 U
 rw[zDN,<- h,<- zEl]
 have e:ky (z6 k L)++[k]=ky (z6 k L++[(k,t)]):=by simp[ky]
 have z2:(z6 k L).length <= L.length:=List.length_filter_le _ _
 rw[e]
 unfold laid
 split
 ·rename_i hb
  have hb':(z6 k L++[(k,t)]).length=b.toNat+1:=by simp at hb zl ⊢;omega
  generalize z6 k L++[(k,t)]=X at *
  cases X with
  | nil=>cases hb'
  | cons x X =>
   have l:(ky X).length=b.toNat:=by simpa [ky] using hb'
   show ky X=((((x.1::ky X).reverse).take _).reverse)
   rw[List.reverse_cons,List.take_append_of_le_length (by simp[l]),List.take_of_length_le (by simp[l]),List.reverse_reverse]
 ·rename_i hb
  rw[List.take_of_length_le,List.reverse_reverse]
  simp at hb ⊢
  omega
theorem zFH {b:Int}{U:List D}{L:List (D×D)} (h0:0 <= b) (h:ky L=ql b U) {k:D} (hk:k∈ky L):ky (yf k L)=ql b (U++[k]):=by
 have zl:((ky L).length:Int) <= b:=by rw[h];exact zBt h0 U
 have nd:(ky L).Nodup:=by rw[h];exact zGZ b U
 obtain⟨⟨q1,v⟩,hq,rfl⟩:=List.mem_map.mp hk
 rw[zDN,<- h,<- zEl]
 unfold yf
 rw[zHF nd hq]
 show ky (z6 q1 L++[(q1,v)])=_
 have e:ky (z6 q1 L)++[q1]=ky (z6 q1 L++[(q1,v)]):=by simp[ky]
 rw[e]
 have z2:(z6 q1 L).length < L.length:=by
  unfold z6
  exact List.length_filter_lt_length_iff_exists.mpr ⟨_,hq,by simp⟩
 rw[List.take_of_length_le,List.reverse_reverse]
 simp at zl ⊢
 omega
theorem zFl {L:List (D×D)}{k:D} (hk:k∉ky L):yf k L=L:=by
 unfold yf
 rw[zHm hk]
noncomputable def fup {α:Type} (f:Nat->α) (a:Nat) (x:α):Nat->α:=fun b=>if b=a then x else f b
theorem QO {α:Type} (f:Nat->α) (a:Nat) (x:α):fup f a x a=x:=if_pos rfl
theorem QL {α:Type}{f:Nat->α}{a b:Nat}{x:α} (h:b≠a):fup f a x b=f b:=if_neg h
noncomputable def zC8 (s:M.S) (d:D):Prop:=∃ i j l,d=.tup [.ref i,.ref j]/\11 < i/\11 < j/\s[i]? = some (.lst l)/\s[j]? = some (.lst l)/\∀ x∈l,j1 x
structure KI (ik:Nat) (ks:List D) (P E:Nat->Nat) (B:Nat->Int) (ds:List D) (s:M.S) (L:Nat->List (D×D)) (U:Nat->List D) (H:List D) (z:Nat):Prop where
 b:s[0]? = some (.lst [.int (B 0),.int (B 1)])
 k:s[ik]? = some (.lst ks)
 sh:s[6]? = some (.lst [.ref (P 0),.ref (P 1)])
 us:s[9]? = some (.lst [.ref 7,.ref 8])
 h:s[10]? = some (.lst H)
 d:s[11]? = some (.lst ds)
 ob:∀ a < 2,Shf s (P a) (E a) (B a) (L a)
 u:∀ a < 2,s[7+a]? = some (.lst (U a))
 hk:ik≠7/\ik≠8/\ik≠10
 e01:E 0≠E 1
 cl:clS s.length s=true
 pr:∀ a < 2,PrD (L a)
 bd:∀ a < 2,0 <= B a/\B a <= 200
 ue:∀ a < 2,∀ x∈U a,j1 x
 ul:∀ a < 2,(U a).length <= z
 ke:∀ x∈ks,j1 x
 due:∀ a < 2,ky (L a)=ql (B a) (U a)
 held:∀ x∈H,zC8 s x
 hl:H.length <= z
section
variable {ik:Nat}{ks:List D}{P E:Nat->Nat}{B:Nat->Int}{ds:List D}{s:M.S}{L:Nat->List (D×D)}{U:Nat->List D}{H:List D}{z:Nat}
theorem KI.mono (h:KI ik ks P E B ds s L U H z) {z':Nat} (l:z <= z'):KI ik ks P E B ds s L U H z' :=
 ⟨h.b,h.k,h.sh,h.us,h.h,h.d,h.ob,h.u,h.hk,h.e01,h.cl,h.pr,h.bd,h.ue,fun a ha=>Nat.le_trans (h.ul a ha) l,h.ke,h.due,h.held,Nat.le_trans h.hl l⟩
theorem zC8.app {s:M.S}{d:D} (h:zC8 s d) (g:M.S):zC8 (s++g) d:=by
 obtain⟨i,j,l,e,z1,z2,g1,g2,k⟩:=h
 exact⟨i,j,l,e,z1,z2,jI g1 g,jI g2 g,k⟩
theorem zJU {s g:M.S} (h:clS s.length s=true) (hg:clS (s++g).length g=true):clS (s++g).length (s++g)=true:=by
 unfold clS at *
 rw[List.all_append,Bool.and_eq_true]
 exact⟨List.all_eq_true.mpr fun o ho=>O.cl_mono (by simp) o (List.all_eq_true.mp h o ho),hg⟩
theorem KI.app (h:KI ik ks P E B ds s L U H z) {g:M.S} (hg:clS (s++g).length g=true):KI ik ks P E B ds (s++g) L U H z :=
 ⟨jI h.b g,jI h.k g,jI h.sh g,jI h.us g,jI h.h g,jI h.d g,fun a ha=>⟨jI (h.ob a ha).ob g,jI (h.ob a ha).di g⟩,fun a ha=>jI (h.u a ha) g,h.hk,h.e01,zJU h.cl hg,h.pr,h.bd,h.ue,h.ul,h.ke,h.due,fun x hx=>(h.held x hx).app g,h.hl⟩
theorem KI.app1 (h:KI ik ks P E B ds s L U H z) {l:List D} (hl:∀ x∈l,j1 x):KI ik ks P E B ds (s++[.lst l]) L U H z:=h.app (by
 show (O.cl _ (.lst l) && true)=true
 rw[show O.cl (s++[O.lst l]).length (.lst l)=true from ZN _ hl];rfl)
theorem KI.Ene (h:KI ik ks P E B ds s L U H z) {a i:Nat} (ha:a < 2) {l:List D} (e:s[i]? = some (.lst l)):E a≠i:=fun q=>by
 have:=(h.ob a ha).di
 rw[q,e] at this
 cases this
theorem KI.EP (h:KI ik ks P E B ds s L U H z) {a c:Nat} (ha:a < 2) (hc:c < 2):E a≠P c:=fun q=>by
 have:=(h.ob a ha).di
 rw[q,(h.ob c hc).ob] at this
 cases this
theorem KI.Eoth (h:KI ik ks P E B ds s L U H z) {a c:Nat} (ha:a < 2) (hc:c < 2) (n:c≠a):E a≠E c:=by
 have:=h.e01
 rcases (show (a=0/\c=1)\/(a=1/\c=0) by omega) with ⟨rfl,rfl⟩ | ⟨rfl,rfl⟩
 ·exact this
 ·exact this.symm
theorem KI.set (h:KI ik ks P E B ds s L U H z) {a:Nat} (ha:a < 2) {l:List (D×D)}{u:List D} (pl:PrD l) (pu:∀ x∈u,j1 x) (du:ky l=ql (B a) u) (zu:u.length <= z+1) :
  KI ik ks P E B ds ((s.set (E a) (.dtt l)).set (7+a) (.lst u)) (fup L a l) (fup U a u) H (z+1):=by
 have n7:7+a≠0/\7+a≠6/\7+a≠9/\7+a≠10/\7+a≠11/\7+a < 12:=by omega
 have nk:7+a≠ik:=by have:=h.hk;omega
 have g:∀ {i:Nat}{l:List D},7+a≠i->s[i]? = some (.lst l)->((s.set (E a) (O.dtt ‹_›)).set (7+a) (.lst u))[i]? = some (.lst l):=fun {i l} n e=>by
  rw[List.getElem?_set_ne n,List.getElem?_set_ne (h.Ene ha e)];exact e
 have p7:∀ c < 2,7+a≠P c:=fun c hc q=>by
  have:=(h.ob c hc).ob
  rw[<- q,h.u a ha] at this
  cases this
 have e7:∀ c < 2,7+a≠E c:=fun c hc q=>h.Ene hc (h.u a ha) q.symm
 refine⟨g n7.1 h.b,g nk h.k,g n7.2.1 h.sh,g n7.2.2.1 h.us,g n7.2.2.2.1 h.h,g n7.2.2.2.2.1 h.d,fun c hc=>⟨?_,?_⟩,fun c hc=>?_,h.hk,h.e01,?_,fun c hc=>?_,h.bd,fun c hc=>?_,fun c hc=>?_,h.ke,fun c hc=>?_,fun x hx=>?_,Nat.le_succ_of_le h.hl⟩
 ·rw[List.getElem?_set_ne (p7 c hc),List.getElem?_set_ne (h.EP ha hc)];exact (h.ob c hc).ob
 ·rw[List.getElem?_set_ne (e7 c hc)]
  by_cases q:c=a
  ·subst q;rw[QO];exact Zm (h.ob c ha).di _
  ·rw[QL q,List.getElem?_set_ne (h.Eoth ha hc q)];exact (h.ob c hc).di
 ·by_cases q:c=a
  ·subst q;rw[QO];exact Zm (o:=.lst (U c)) (by rw[List.getElem?_set_ne (h.Ene ha (h.u c ha))];exact h.u c ha) _
  ·rw[QL q];exact g (by omega) (h.u c hc)
 ·have l2:((s.set (E a) (.dtt l)).set (7+a) (.lst u)).length=s.length:=by simp
  rw[l2]
  exact Q4 (Q4 h.cl (pl.cl _)) (ZN _ pu)
 ·by_cases q:c=a
  ·subst q;rw[QO];exact pl
  ·rw[QL q];exact h.pr c hc
 ·by_cases q:c=a
  ·subst q;rw[QO];exact pu
  ·rw[QL q];exact h.ue c hc
 ·by_cases q:c=a
  ·subst q;rw[QO];exact zu
  ·rw[QL q];exact Nat.le_succ_of_le (h.ul c hc)
 ·by_cases q:c=a
  ·subst q;rw[QO,QO];exact du
  ·rw[QL q,QL q];exact h.due c hc
 ·obtain⟨i,j,l,e,z1,z2,g1,g2,k⟩:=h.held x hx
  exact⟨i,j,l,e,z1,z2,g (by omega) g1,g (by omega) g2,k⟩
theorem KI.stand (h:KI ik ks P E B ds s L U H z) {l:List D} (hl:∀ x∈l,j1 x) :
  KI ik ks P E B ds (s.set 10 (.lst (H++[.tup [.ref s.length,.ref (s.length+1)]]))++[.lst l,.lst l,.lst (l++[.tup [.str [97]]]),.lst l]) L U (H++[.tup [.ref s.length,.ref (s.length+1)]]) (z+1):=by
 obtain⟨H',eH⟩:∃ H',H'=H++[D.tup [.ref s.length,.ref (s.length+1)]]:=⟨_,rfl⟩
 rw[<- eH]
 have l12:11 < s.length:=(List.getElem?_eq_some_iff.mp h.d).1
 have g:∀ {i:Nat}{o:O},10≠i->s[i]? = some o->(s.set 10 (.lst H')++[.lst l,.lst l,.lst (l++[.tup [.str [97]]]),.lst l])[i]? = some o:=fun {i o} n e=>jI (by rw[List.getElem?_set_ne n];exact e) _
 have nP:∀ a < 2,10≠P a:=fun a ha q=>by
  have:=(h.ob a ha).ob
  rw[<- q,h.h] at this
  cases this
 have nE:∀ a < 2,10≠E a:=fun a ha q=>h.Ene ha h.h q.symm
 have ln:(s.set 10 (O.lst H')).length=s.length:=by simp
 have f1:(s.set 10 (.lst H')++[.lst l,.lst l,.lst (l++[.tup [.str [97]]]),.lst l])[s.length]? = some (.lst l):=by rw[List.getElem?_append_right (by omega),ln];simp
 have f2:(s.set 10 (.lst H')++[.lst l,.lst l,.lst (l++[.tup [.str [97]]]),.lst l])[s.length+1]? = some (.lst l):=by rw[List.getElem?_append_right (by omega),ln];simp
 refine⟨g (by omega) h.b,g (by have:=h.hk;omega) h.k,g (by omega) h.sh,g (by omega) h.us,jI (Zm h.h _) _,g (by omega) h.d,fun a ha=>⟨g (nP a ha) (h.ob a ha).ob,g (nE a ha) (h.ob a ha).di⟩,fun a ha=>g (by omega) (h.u a ha),h.hk,h.e01,?_,h.pr,h.bd,h.ue,fun a ha=>Nat.le_succ_of_le (h.ul a ha),h.ke,h.due,fun x hx=>?_,by rw[eH];simpa using h.hl⟩
 ·have c1:∀ n,O.cl n (.lst l)=true:=fun n=>ZN n hl
  have c2:∀ n,O.cl n (.lst (l++[.tup [.str [97]]]))=true:=fun n=>ZN n fun x hx=>by
   rcases List.mem_append.mp hx with q | q
   ·exact hl x q
   ·rw[List.mem_singleton.mp q];exact⟨_,rfl,rfl,by simp⟩
  have cH:O.cl (s.length+4) (.lst H')=true:=by
   have h0:O.cl (s.length+4) (.lst H)=true:=O.cl_mono (by omega) _ (List.all_eq_true.mp h.cl _ (List.mem_of_getElem? h.h))
   have:∀ (H:List D) (y:D),D.cl.all (s.length+4) H=true->D.cl (s.length+4) y=true->D.cl.all (s.length+4) (H++[y])=true:=by
    intro H y
    induction H with
    | nil=>intro _ q;show (D.cl _ y && true)=true;rw[q];rfl
    | cons x H ih =>
     intro q1 q2
     have q1':(D.cl (s.length+4) x && D.cl.all (s.length+4) H)=true:=q1
     rw[Bool.and_eq_true] at q1'
     show (D.cl (s.length+4) x && D.cl.all (s.length+4) (H++[y]))=true
     rw[q1'.1,ih q1'.2 q2];rfl
   rw[eH]
   refine this H _ h0 ?_
   simp[D.cl,D.cl.all]
  have le:(s.set 10 (O.lst H')++[O.lst l,O.lst l,O.lst (l++[D.tup [D.str [97]]]),O.lst l]).length=s.length+4:=by simp
  rw[le]
  unfold clS
  rw[List.all_append,Bool.and_eq_true]
  refine⟨?_,by simp[c1,c2]⟩
  have cs:clS (s.length+4) s=true:=List.all_eq_true.mpr fun o ho=>O.cl_mono (by omega) o (List.all_eq_true.mp h.cl o ho)
  exact Q4 cs cH
 ·rw[eH] at hx
  rcases List.mem_append.mp hx with q | q
  ·obtain⟨i,j,l',e,z1,z2,g1,g2,k⟩:=h.held x q
   exact⟨i,j,l',e,z1,z2,g (by omega) g1,g (by omega) g2,k⟩
  ·exact⟨s.length,s.length+1,l,List.mem_singleton.mp q,l12,by omega,f1,f2,hl⟩
end
section
variable {ik:Nat}{ks:List D}{P E:Nat->Nat}{B:Nat->Int}{ds:List D}{s:M.S}{L:Nat->List (D×D)}{U:Nat->List D}{H:List D}{z:Nat}
theorem QG {s:M.S}{i a:Nat}{f:Nat->D} (e:s[i]? = some (.lst [f 0,f 1])) (ha:a < 2):zN (.ref i) (.int a) s=.ok (f a) s:=by
 rcases (show a=0\/a=1 by omega) with rfl | rfl
 ·simp[e,at0]
 ·simp[e,at1]
theorem KI.shI (h:KI ik ks P E B ds s L U H z) {a:Nat} (ha:a < 2):zN (.ref 6) (.int a) s=.ok (.ref (P a)) s:=QG (f:=fun a=>.ref (P a)) h.sh ha
theorem KI.bI (h:KI ik ks P E B ds s L U H z) {a:Nat} (ha:a < 2):zN (.ref 0) (.int a) s=.ok (.int (B a)) s:=QG (f:=fun a=>.int (B a)) h.b ha
theorem KI.usI (h:KI ik ks P E B ds s L U H z) {a:Nat} (ha:a < 2):zN (.ref 9) (.int a) s=.ok (.ref (7+a)) s:=QG (f:=fun a=>.ref (7+a)) h.us ha
theorem KI.Lz (h:KI ik ks P E B ds s L U H z) {a:Nat} (ha:a < 2):(L a).length <= 200:=by
 have:=zBt (h.bd a ha).1 (U a)
 rw[<- h.due a ha] at this
 have:=(h.bd a ha).2
 simp at *
 omega
noncomputable abbrev zHV (eI eK eT:EM):SM:=zU (jV (qj 5 j6 (eOp zN (zA 3) eI) (zD eK (zD eT zI)))) (jV (eM .list jx (eOp zN (zA 4) eI) (zD eK zI)))
theorem zEg (h:KI ik ks P E B ds s L U H z) {a:Nat} (ha:a < 2) {σ:St}{eI eK eT:EM}{k t:D} (σ3:σ[3]? = some (some (.ref 6))) (σ4:σ[4]? = some (some (.ref 9))) (hI:∀ s',eI σ s'=.ok (.int a) s') (hK:∀ s',s'[ik]? = some (.lst ks)->eK σ s'=.ok k s') (hT:∀ s',eT σ s'=.ok t s') (kd:j1 k) (t2:kyD 2 t=true) (tn:t≠.non) (hz:z <= 900) :
  ∃ s' L' U',zHV eI eK eT σ s=.nx σ s'/\KI ik ks P E B ds s' L' U' H (z+1):=by
 have nd:(ky (L a)).Nodup:=by rw[h.due a ha];exact zGZ _ _
 have lz:(L a).length < SZ:=Nat.lt_of_lt_of_le (m:=2000) (by have:=h.Lz ha;omega) (sz5 _ (Nat.le_refl _))
 have la:=zJ5 (h.ob a ha) h.cl kd.t (fun q hq=>(h.pr a ha q hq).1.t) nd lz (kd.cl _) (JO _ t2)
 have u1:(s.set (E a) (.dtt (laid (B a) k t (L a))))[7+a]? = some (.lst (U a)):=by rw[List.getElem?_set_ne (h.Ene ha (h.u a ha))];exact h.u a ha
 have k1:(s.set (E a) (.dtt (laid (B a) k t (L a))))[ik]? = some (.lst ks):=by rw[List.getElem?_set_ne (h.Ene ha h.k)];exact h.k
 have us1:(s.set (E a) (.dtt (laid (B a) k t (L a))))[9]? = some (.lst [.ref 7,.ref 8]):=by rw[List.getElem?_set_ne (h.Ene ha h.us)];exact h.us
 have ui:=QG (f:=fun a=>.ref (7+a)) us1 ha
 have uz:(U a).length < SZ:=Nat.lt_of_lt_of_le (m:=2000) (by have:=h.ul a ha;omega) (sz5 _ (Nat.le_refl _))
 refine⟨_,_,_,?_,h.set ha (l:=laid (B a) k t (L a)) (u:=U a++[k]) (fun q hq=>?_) (fun x hx=>?_) (zHW (h.bd a ha).1 (h.due a ha) k t) (by have:=h.ul a ha;simp;omega)⟩
 ·have a1:(jV (qj 5 j6 (eOp zN (zA 3) eI) (zD eK (zD eT zI)))) σ s=.nx σ (s.set (E a) (.dtt (laid (B a) k t (L a)))):=by
   simp[-zN,σ3,hI,h.shI ha,(h.ob a ha).ob,hK s h.k,hT,la]
  show ((jV (qj 5 j6 (eOp zN (zA 3) eI) (zD eK (zD eT zI)))) σ s).then _=_
  rw[a1]
  show (jV (eM .list jx (eOp zN (zA 4) eI) (zD eK zI))) σ _=_
  simp[-zN,σ4,hI,ui,u1,hK _ k1,uz]
 ·rcases zIM hq with q | rfl
  ·exact h.pr a ha _ q
  ·exact⟨kd,t2,tn⟩
 ·rcases List.mem_append.mp hx with q | q
  ·exact h.ue a ha x q
  ·rw[List.mem_singleton.mp q];exact kd
noncomputable abbrev zBK (eI eK:EM):SM:=zU (jV (qj 5 jp (eOp zN (zA 3) eI) (zD eK zI))) (sIf (jT J0 eK (zR jz (zD (eOp zN (zA 4) eI) (zD (eOp zN (zA 1) eI) zI)))) (jV (eM .list jx (eOp zN (zA 4) eI) (zD eK zI))) jo)
theorem zDh (h:KI ik ks P E B ds s L U H z) {a:Nat} (ha:a < 2) {σ:St}{eI eK:EM}{k:D} (σ1:σ[1]? = some (some (.ref 0))) (σ3:σ[3]? = some (some (.ref 6))) (σ4:σ[4]? = some (some (.ref 9))) (hI:∀ s',eI σ s'=.ok (.int a) s') (hK:∀ s',s'[ik]? = some (.lst ks)->eK σ s'=.ok k s') (kd:j1 k) (hz:z <= 900) :
  ∃ s' L' U',zBK eI eK σ s=.nx σ s'/\KI ik ks P E B ds s' L' U' H (z+1):=by
 have lz:(L a).length < SZ:=Nat.lt_of_lt_of_le (m:=2000) (by have:=h.Lz ha;omega) (sz5 _ (Nat.le_refl _))
 have lo:=zI0 (h.ob a ha) h.cl kd.t lz
 obtain⟨s1,e1⟩:∃ s1,s1=s.set (E a) (.dtt (yf k (L a))):=⟨_,rfl⟩
 rw[<- e1] at lo
 have g:∀ {i:Nat}{l:List D},s[i]? = some (.lst l)->s1[i]? = some (.lst l):=fun {i l} e=>by rw[e1,List.getElem?_set_ne (h.Ene ha e)];exact e
 have u1:=g (h.u a ha)
 have k1:=g h.k
 have us1:=g h.us
 have b1:=g h.b
 have ui:=QG (f:=fun a=>.ref (7+a)) us1 ha
 have bi:=QG (f:=fun a=>.int (B a)) b1 ha
 have uz:(U a).length < SZ:=Nat.lt_of_lt_of_le (m:=2000) (by have:=h.ul a ha;omega) (sz5 _ (Nat.le_refl _))
 have du:=zHA u1 (h.bd a ha).1 (h.ue a ha) (by have:=h.ul a ha;omega)
 obtain⟨Du,eD⟩:∃ Du,Du=ql (B a) (U a):=⟨_,rfl⟩
 have dk:∀ x∈Du,j1 x:=fun x hx=>h.ue a ha x (zBn (by rwa [<- eD]))
 rw[<- eD] at du
 have a1:(jV (qj 5 jp (eOp zN (zA 3) eI) (zD eK zI))) σ s=.nx σ s1:=by
  simp[-zN,σ3,hI,h.shI ha,(h.ob a ha).ob,hK s h.k,lo]
 have e2:(s1++[O.lst Du])[s1.length]? = some (.lst Du):=by simp
 have ti:=zEi e2 kd.k7 (List.all_eq_true.mpr fun x hx=>(dk x hx).k7)
 have tc:(jT J0 eK (zR jz (zD (eOp zN (zA 4) eI) (zD (eOp zN (zA 1) eI) zI)))) σ s1=.ok (Du.contains k) (s1++[.lst Du]):=by
  simp[-zN,-inT,σ4,σ1,hI,ui,bi,hK _ k1,du,ti]
 have sq:zBK eI eK σ s=(if Du.contains k=true then (jV (eM .list jx (eOp zN (zA 4) eI) (zD eK zI))) σ (s1++[.lst Du]) else .nx σ (s1++[.lst Du])):=by
  show ((jV (qj 5 jp (eOp zN (zA 3) eI) (zD eK zI))) σ s).then _=_
  rw[a1]
  show ((jT J0 eK (zR jz (zD (eOp zN (zA 4) eI) (zD (eOp zN (zA 1) eI) zI)))) σ s1).stm _ _=_
  rw[tc]
  show (if Du.contains k=true then _ else _)=_
  rfl
 by_cases hc:Du.contains k=true
 ·rw[if_pos hc] at sq
  have hk:k∈ky (L a):=by rw[h.due a ha,<- eD];simpa using hc
  have st:=h.set ha (l:=yf k (L a)) (u:=U a++[k]) (zFu (h.pr a ha)) (fun x hx=>by
   rcases List.mem_append.mp hx with q | q
   ·exact h.ue a ha x q
   ·rw[List.mem_singleton.mp q];exact kd) (zFH (h.bd a ha).1 (h.due a ha) hk) (by have:=h.ul a ha;simp;omega)
  rw[<- e1] at st
  refine⟨_,_,_,?_,st.app1 dk⟩
  rw[sq]
  have u2:=jI u1 [O.lst Du]
  have ui2:=QG (f:=fun a=>.ref (7+a)) (jI us1 [O.lst Du]) ha
  have sa:=zAN u1 (.lst (U a++[k])) [O.lst Du]
  simp[-zN,σ4,hI,ui2,u2,hK _ (jI k1 [O.lst Du]),uz]
  exact sa
 ·rw[if_neg hc] at sq
  have hk:k∉ky (L a):=by rw[h.due a ha,<- eD];simpa using hc
  have:s1=s:=by rw[e1,zFl hk];exact zCR (h.ob a ha).di
  refine⟨_,L,U,sq,?_⟩
  rw[this]
  exact (h.app1 dk).mono (by omega)
noncomputable abbrev zHf (eI:EM):EM:=zR jz (zD (eOp zN (zA 4) eI) (zD (eOp zN (zA 1) eI) zI))
theorem zEy (h:KI ik ks P E B ds s L U H z) {a:Nat} (ha:a < 2) {σ:St}{eI:EM} (σ1:σ[1]? = some (some (.ref 0))) (σ4:σ[4]? = some (some (.ref 9))) (hI:∀ s',eI σ s'=.ok (.int a) s') (hz:z <= 900) :
  zHf eI σ s=.ok (.ref s.length) (s++[.lst (ky (L a))])/\KI ik ks P E B ds (s++[.lst (ky (L a))]) L U H z:=by
 have du:=zHA (h.u a ha) (h.bd a ha).1 (h.ue a ha) (by have:=h.ul a ha;omega)
 rw[<- h.due a ha] at du
 refine⟨?_,h.app1 fun x hx=>?_⟩
 ·simp[-zN,σ4,σ1,hI,h.usI ha,h.bI ha,du]
 ·rw[h.due a ha] at hx
  exact h.ue a ha x (zBn hx)
noncomputable abbrev stT (eI:EM):EM:=zR yQ (zD (eOp zN (zA 3) eI) (zD (zA 11) (zD (zA 5) zI)))
theorem zCf (h:KI ik ks P E B ds s L U H z) {a i:Nat} (ha:a < 2) {σ:St}{eI:EM} (σ3:σ[3]? = some (some (.ref 6))) (σ5:σ[5]? = some (some (.ref 10))) (σ11:σ[11]? = some (some (.ref i))) (hI:∀ s',eI σ s'=.ok (.int a) s') (hi:s[i]? = some (.lst (ky (L a)))) (i10:i≠10) (hz:z <= 900) :
  ∃ s' H',stT eI σ s=.ok (.bl true) s'/\KI ik ks P E B ds s' L U H' (z+1):=by
 have:=zG3 (h.ob a ha) (h.pr a ha) hi h.h (by have:=h.hl;omega) (by have:=h.Lz ha;omega) i10
 refine⟨_,_,?_,h.stand (l:=ky (L a)) fun x hx=>?_⟩
 ·simp[-zN,σ3,σ5,σ11,hI,h.shI ha]
  exact this
 ·obtain⟨q,hq,rfl⟩:=List.mem_map.mp hx
  exact (h.pr a ha q hq).1
end
section
variable {ik:Nat}{ks:List D}{P E:Nat->Nat}{B:Nat->Int}{ds:List D}{s:M.S}{L:Nat->List (D×D)}{U:Nat->List D}{H:List D}{z:Nat}
noncomputable abbrev sgK (ro:D) (ik:Nat) (v7 v8 v9 v10 v11:Option D):St:=[some ro,some (.ref 0),some (.ref ik),some (.ref 6),some (.ref 9),some (.ref 10),some (.ref 11),v7,v8,v9,v10,v11]
theorem KI.key (h:KI ik ks P E B ds s L U H z) (hp:0 < ks.length) (c:Int):∃ k,j1 k/\∀ s':M.S,s'[ik]? = some (.lst ks)->zN (.ref ik) (.int (c % ks.length)) s'=.ok k s':=by
 have z0:0 <= c % (ks.length:Int):=Int.emod_nonneg _ (by omega)
 have z1:c % (ks.length:Int) < ks.length:=Int.emod_lt_of_pos _ (by omega)
 have zl:(c % (ks.length:Int)).toNat < ks.length:=by omega
 refine⟨ks[(c % (ks.length:Int)).toNat],h.ke _ (List.getElem_mem _),fun s' k0=>?_⟩
 have e:atI ks (c % (ks.length:Int))=some ks[(c % (ks.length:Int)).toNat]:=by
  have:=Qp ks (c % (ks.length:Int)).toNat ks[(c % (ks.length:Int)).toNat] (by simp[zl])
  rwa [Int.toNat_of_nonneg z0] at this
 simp[k0,e]
theorem Qd {i:Nat}{e:EM}{σ:St}{s s':M.S}{d:D} (h:e σ s=.ok d s') (r:SM):(zU (jY i e) r) σ s=r (σ.set i (some d)) s':=by
 show ((e σ s).stm _ _).then _=_
 rw[h]
 rfl
theorem yS {a:SM}{σ σ':St}{s s':M.S} (h:a σ s=.nx σ' s') (r:SM):(zU a r) σ s=r σ' s':=by
 show (a σ s).then r=_
 rw[h]
 rfl
theorem JY {t:TM}{a b:SM}{σ:St}{s s':M.S}{c:Bool} (h:t σ s=.ok c s'):(sIf t a b) σ s=if c=true then a σ s' else b σ s':=by
 show (t σ s).stm _ _=_
 rw[h]
 cases c<;>rfl
noncomputable abbrev t8a:TM:=jT cLt (eOp zm (eOp zv (zA 8) (eC (.int 7))) (eC (.int 5))) (eC (.int 3))
noncomputable abbrev t8b:TM:=zAD (jT cEq (eOp zm (eOp zv (zA 8) (eC (.int 35))) (eC (.int 4))) (eC (.int 1))) (ZT (Zd (stT (zA 9))))
noncomputable abbrev B8:SM:=(zU (jY 9 (zR zDZ (zD (JT cEq (eOp zm (zA 8) (eC (.int 7))) (eC (.int 3))) zI)))
  (zU (jY 10 (eOp zN (zA 2) (eOp zm (eOp zv (zA 8) (eC (.int 35))) (zR yo (zD (zA 2) zI)))))
  (zU (sIf t8a
  (zHV (zA 9) (zA 10) (zR qg (zD (eOp zv (zA 8) (eC (.int 35))) zI)))
  (zBK (zA 9) (zA 10)))
  (zU (jY 11 (zHf (zA 9)))
  (sIf t8b
  (jZ (eC (.bl false)))
  jo)))))
theorem zLl (h:KI ik ks P E B ds s L U H z) (hp:0 < ks.length) (hz:z <= 890) (ro:D) (c:Int) (v7 v9 v10 v11:Option D) :
  ∃ s' L' U' H' v9' v10' v11',B8 (sgK ro ik v7 (some (.int c)) v9 v10 v11) s=.nx (sgK ro ik v7 (some (.int c)) v9' v10' v11') s'/\KI ik ks P E B ds s' L' U' H' (z+2):=by
 obtain⟨a,ea,ha⟩:∃ a:Nat,(if c % 7=3 then (1:Int) else 0)=a/\a < 2:=by
  by_cases q:c % 7=3
  ·exact⟨1,by rw[if_pos q];rfl,by omega⟩
  ·exact⟨0,by rw[if_neg q];rfl,by omega⟩
 have e1:(zR zDZ (zD (JT cEq (eOp zm (zA 8) (eC (.int 7))) (eC (.int 3))) zI)) (sgK ro ik v7 (some (.int c)) v9 v10 v11) s=.ok (.int a) s:=by
  rw[<- ea]
  simp
 obtain⟨k,kd,hk⟩:=h.key hp (c / 35)
 have kp:(0:Int) < ks.length:=by omega
 have e2:(eOp zN (zA 2) (eOp zm (eOp zv (zA 8) (eC (.int 35))) (zR yo (zD (zA 2) zI)))) (sgK ro ik v7 (some (.int c)) (some (.int a)) v10 v11) s=.ok k s:=by
  have:=hk s h.k
  simp[-zN,h.k,this,hp]
 have m:∃ s1 L1 U1,(sIf t8a (zHV (zA 9) (zA 10) (zR qg (zD (eOp zv (zA 8) (eC (.int 35))) zI))) (zBK (zA 9) (zA 10))) (sgK ro ik v7 (some (.int c)) (some (.int a)) (some k) v11) s=.nx (sgK ro ik v7 (some (.int c)) (some (.int a)) (some k) v11) s1/\KI ik ks P E B ds s1 L1 U1 H (z+1):=by
  have tc:t8a (sgK ro ik v7 (some (.int c)) (some (.int a)) (some k) v11) s=.ok (decide (c / 7 % 5 < 3)) s:=by simp
  rw[JY tc]
  by_cases w:c / 7 % 5 < 3
  ·rw[if_pos (decide_eq_true w)]
   exact zEg h ha rfl rfl (fun _=>rfl) (fun _ _=>rfl) (fun s'=>by simp[zIL]) kd (zDI (c / 35)) (zHL _) (by omega)
  ·rw[if_neg (by simpa using w)]
   exact zDh h ha rfl rfl rfl (fun _=>rfl) (fun _ _=>rfl) kd (by omega)
 obtain⟨s1,L1,U1,e3,h1⟩:=m
 obtain⟨e4,h2⟩:=zEy h1 ha (σ:=sgK ro ik v7 (some (.int c)) (some (.int a)) (some k) v11) (eI:=zA 9) rfl rfl (fun _=>rfl) (by omega)
 have l12:11 < s1.length:=(List.getElem?_eq_some_iff.mp h1.d).1
 have ei:(s1++[O.lst (ky (L1 a))])[s1.length]? = some (.lst (ky (L1 a))):=by simp
 obtain⟨s2,H2,e5,h3⟩:=zCf h2 ha (σ:=sgK ro ik v7 (some (.int c)) (some (.int a)) (some k) (some (.ref s1.length))) (eI:=zA 9) rfl rfl rfl (fun _=>rfl) ei (by omega) (by omega)
 have st:∀ {s':M.S},(sIf t8b (jZ (eC (.bl false))) jo) (sgK ro ik v7 (some (.int c)) (some (.int a)) (some k) (some (.ref s1.length))) (s1++[.lst (ky (L1 a))])=.nx (sgK ro ik v7 (some (.int c)) (some (.int a)) (some k) (some (.ref s1.length))) s'->B8 (sgK ro ik v7 (some (.int c)) v9 v10 v11) s=.nx (sgK ro ik v7 (some (.int c)) (some (.int a)) (some k) (some (.ref s1.length))) s':=fun {s'} q=>by
  unfold B8
  rw[Qd e1]
  show (zU (jY 10 _) _) (sgK ro ik v7 (some (.int c)) (some (.int a)) v10 v11) s=_
  rw[Qd e2]
  show (zU (sIf t8a _ _) _) (sgK ro ik v7 (some (.int c)) (some (.int a)) (some k) v11) s=_
  rw[yS e3,Qd e4]
  exact q
 by_cases w:c / 35 % 4=1
 ·refine⟨s2,L1,U1,H2,_,_,_,st ?_,h3⟩
  have tc:t8b (sgK ro ik v7 (some (.int c)) (some (.int a)) (some k) (some (.ref s1.length))) (s1++[.lst (ky (L1 a))])=.ok false s2:=by
   have t1:(jT cEq (eOp zm (eOp zv (zA 8) (eC (.int 35))) (eC (.int 4))) (eC (.int 1))) (sgK ro ik v7 (some (.int c)) (some (.int a)) (some k) (some (.ref s1.length))) (s1++[.lst (ky (L1 a))])=.ok true (s1++[.lst (ky (L1 a))]):=by simp[w]
   have t2:(ZT (Zd (stT (zA 9)))) (sgK ro ik v7 (some (.int c)) (some (.int a)) (some k) (some (.ref s1.length))) (s1++[.lst (ky (L1 a))])=.ok false s2:=by
    show ((stT (zA 9) _ _).bind _).bind _=_
    rw[e5]
    rfl
   show (jT cEq (eOp zm (eOp zv (zA 8) (eC (.int 35))) (eC (.int 4))) (eC (.int 1)) _ _).bind _=_
   rw[t1]
   exact t2
  rw[JY tc]
  rfl
 ·refine⟨s1++[.lst (ky (L1 a))],L1,U1,H,_,_,_,st ?_,h2.mono (by omega)⟩
  have tc:t8b (sgK ro ik v7 (some (.int c)) (some (.int a)) (some k) (some (.ref s1.length))) (s1++[.lst (ky (L1 a))])=.ok false (s1++[.lst (ky (L1 a))]):=by
   have t1:(jT cEq (eOp zm (eOp zv (zA 8) (eC (.int 35))) (eC (.int 4))) (eC (.int 1))) (sgK ro ik v7 (some (.int c)) (some (.int a)) (some k) (some (.ref s1.length))) (s1++[.lst (ky (L1 a))])=.ok false (s1++[.lst (ky (L1 a))]):=by simp[w]
   show (jT cEq (eOp zm (eOp zv (zA 8) (eC (.int 35))) (eC (.int 4))) (eC (.int 1)) _ _).bind _=_
   rw[t1]
   rfl
  rw[JY tc]
  rfl
end
section
variable {ik:Nat}{ks:List D}{P E:Nat->Nat}{B:Nat->Int}
theorem zLg {dd:List Int} (hp:0 < ks.length) (ro:D) (v7:Option D):∀ (cs:List Int) (s:M.S) (L:Nat->List (D×D)) (U:Nat->List D) (H:List D) (z:Nat) (v8 v9 v10 v11:Option D),KI ik ks P E B (dd.map .int) s L U H z->z+2 * cs.length <= 890 ->
  ∃ s' L' U' H' v8' v9' v10' v11',j7 [(11,.lst (dd.map .int))] (qD (z7 8) B8) (cs.map .int) (sgK ro ik v7 v8 v9 v10 v11) s=.nx (sgK ro ik v7 v8' v9' v10' v11') s'/\KI ik ks P E B (dd.map .int) s' L' U' H' (z+2 * cs.length):=by
 intro cs
 induction cs with
 | nil=>intro s L U H z v8 v9 v10 v11 h _;exact⟨s,L,U,H,v8,v9,v10,v11,rfl,h⟩
 | cons c cs ih =>
  intro s L U H z v8 v9 v10 v11 h hz
  rw[List.length_cons] at hz
  obtain⟨s1,L1,U1,H1,w9,w10,w11,e,h1⟩:=zLl h hp (by omega) ro c v7 v9 v10 v11
  obtain⟨s2,L2,U2,H2,x8,x9,x10,x11,e2,h2⟩:=ih s1 L1 U1 H1 (z+2) (some (.int c)) w9 w10 w11 h1 (by omega)
  refine⟨s2,L2,U2,H2,x8,x9,x10,x11,?_,h2.mono (by rw[List.length_cons];omega)⟩
  have ef:qD (z7 8) B8 (.int c) (sgK ro ik v7 v8 v9 v10 v11) s=.nx (sgK ro ik v7 (some (.int c)) w9 w10 w11) s1:=e
  have gd:zk [(11,O.lst (dd.map .int))] s1=true:=by simp[zk,h1.d]
  rw[List.map_cons]
  unfold j7
  rw[ef]
  show (if zk _ _=true then _ else _)=_
  rw[if_pos gd]
  exact e2
noncomputable abbrev k7a:EM:=eOp zN (zA 2) (zA 7)
noncomputable abbrev k7b:EM:=eOp zN (zA 2) (eOp zv (zA 7) (eC (.int 2)))
noncomputable abbrev B7:SM:=(zU (jV (qj 5 j6 (eOp zN (zA 3) (eC (.int 0))) (zD k7a (zD (zA 7) zI))))
  (zU (jV (eM .list jx (eOp zN (zA 4) (eC (.int 0))) (zD k7a zI)))
  (sIf (jT cEq (eOp zm (zA 7) (eC (.int 9))) (eC (.int 4)))
  (zBK (eC (.int 0)) k7b)
  jo)))
theorem zCg (a b c:SM) (σ:St) (s:M.S):(zU a (zU b c)) σ s=(zU (zU a b) c) σ s:=by
 show (a σ s).then _=((a σ s).then _).then _
 cases a σ s<;>rfl
theorem zEs {ks:List D}{j:Nat} (hj:j < ks.length) {s':M.S} (e:s'[ik]? = some (.lst ks)):zN (.ref ik) (.int j) s'=.ok ks[j] s':=by
 have:=Qp ks j ks[j] (by simp[hj])
 simp[e,this]
theorem zLe {ds:List D}{s:M.S}{L:Nat->List (D×D)}{U:Nat->List D}{H:List D}{z:Nat} (h:KI ik ks P E B ds s L U H z) (hz:z <= 890) (ro:D) {j:Nat} (hj:j < ks.length) (v8 v9 v10 v11:Option D) :
  ∃ s' L' U',B7 (sgK ro ik (some (.int j)) v8 v9 v10 v11) s=.nx (sgK ro ik (some (.int j)) v8 v9 v10 v11) s'/\KI ik ks P E B ds s' L' U' H (z+2):=by
 have j2:j / 2 < ks.length:=by omega
 have ka:∀ s':M.S,s'[ik]? = some (.lst ks)->k7a (sgK ro ik (some (.int j)) v8 v9 v10 v11) s'=.ok ks[j] s':=fun s' e=>by
  have:=zEs hj e
  simp[-zN,this]
 have kb:∀ s':M.S,s'[ik]? = some (.lst ks)->k7b (sgK ro ik (some (.int j)) v8 v9 v10 v11) s'=.ok ks[j / 2] s':=fun s' e=>by
  have:=zEs j2 e
  rw[show ((j / 2:Nat):Int)=(j:Int) / 2 by omega] at this
  simp[-zN,this]
 obtain⟨s1,L1,U1,e1,h1⟩:=zEg h (a:=0) (by omega) (σ:=sgK ro ik (some (.int j)) v8 v9 v10 v11) (eI:=eC (.int 0)) (eK:=k7a) (eT:=zA 7) (t:=.int j) rfl rfl (fun _=>rfl) ka (fun _=>rfl) (h.ke _ (List.getElem_mem hj)) rfl (by simp) (by omega)
 unfold B7
 rw[zCg,yS e1]
 have tc:(jT cEq (eOp zm (zA 7) (eC (.int 9))) (eC (.int 4))) (sgK ro ik (some (.int j)) v8 v9 v10 v11) s1=.ok (decide ((j:Int) % 9=4)) s1:=by simp
 rw[JY tc]
 by_cases w:(j:Int) % 9=4
 ·rw[if_pos (decide_eq_true w)]
  exact zDh h1 (a:=0) (by omega) rfl rfl rfl (fun _=>rfl) kb (h.ke _ (List.getElem_mem j2)) (by omega)
 ·rw[if_neg (by simpa using w)]
  exact⟨s1,L1,U1,rfl,h1.mono (by omega)⟩
theorem zLo {ds:List D} (ro:D) (v8 v9 v10 v11:Option D):∀ (js:List Nat) (s:M.S) (L:Nat->List (D×D)) (U:Nat->List D) (H:List D) (z:Nat) (v7:Option D),(∀ j∈js,j < ks.length)->KI ik ks P E B ds s L U H z->z+2 * js.length <= 890 ->
  ∃ s' L' U' v7',j7 [] (qD (z7 7) B7) (js.map fun j:Nat=>.int (0+j)) (sgK ro ik v7 v8 v9 v10 v11) s=.nx (sgK ro ik v7' v8 v9 v10 v11) s'/\KI ik ks P E B ds s' L' U' H (z+2 * js.length):=by
 intro js
 induction js with
 | nil=>intro s L U H z v7 _ h _;exact⟨s,L,U,v7,rfl,h⟩
 | cons j js ih =>
  intro s L U H z v7 hj h hz
  rw[List.length_cons] at hz
  obtain⟨s1,L1,U1,e,h1⟩:=zLe h (by omega) ro (hj j List.mem_cons_self) v8 v9 v10 v11
  obtain⟨s2,L2,U2,w7,e2,h2⟩:=ih s1 L1 U1 H (z+2) (some (.int j)) (fun x hx=>hj x (List.mem_cons_of_mem _ hx)) h1 (by omega)
  refine⟨s2,L2,U2,w7,?_,h2.mono (by rw[List.length_cons];omega)⟩
  have ef:qD (z7 7) B7 (.int (0+(j:Int))) (sgK ro ik v7 v8 v9 v10 v11) s=.nx (sgK ro ik (some (.int j)) v8 v9 v10 v11) s1:=by
   rw[Int.zero_add]
   exact e
  rw[List.map_cons]
  unfold j7
  rw[ef]
  exact e2
noncomputable abbrev B9:SM:=(zU (jY 11 (zHf (zA 9)))
  (sIf (ZT (Zd (stT (zA 9))))
  (jZ (eC (.bl false)))
  jo))
theorem zIf {ds:List D}{s:M.S}{L:Nat->List (D×D)}{U:Nat->List D}{H:List D}{z:Nat} (h:KI ik ks P E B ds s L U H z) (hz:z <= 895) (ro:D) {a:Nat} (ha:a < 2) (v7 v8 v10 v11:Option D) :
  ∃ s' H' v11',B9 (sgK ro ik v7 v8 (some (.int a)) v10 v11) s=.nx (sgK ro ik v7 v8 (some (.int a)) v10 v11') s'/\KI ik ks P E B ds s' L U H' (z+1):=by
 obtain⟨e4,h2⟩:=zEy h ha (σ:=sgK ro ik v7 v8 (some (.int a)) v10 v11) (eI:=zA 9) rfl rfl (fun _=>rfl) (by omega)
 have l12:11 < s.length:=(List.getElem?_eq_some_iff.mp h.d).1
 have ei:(s++[O.lst (ky (L a))])[s.length]? = some (.lst (ky (L a))):=by simp
 obtain⟨s2,H2,e5,h3⟩:=zCf h2 ha (σ:=sgK ro ik v7 v8 (some (.int a)) v10 (some (.ref s.length))) (eI:=zA 9) rfl rfl rfl (fun _=>rfl) ei (by omega) (by omega)
 refine⟨s2,H2,some (.ref s.length),?_,h3⟩
 unfold B9
 rw[Qd e4]
 have tc:(ZT (Zd (stT (zA 9)))) (sgK ro ik v7 v8 (some (.int a)) v10 (some (.ref s.length))) (s++[.lst (ky (L a))])=.ok false s2:=by
  show ((stT (zA 9) _ _).bind _).bind _=_
  rw[e5]
  rfl
 show (sIf (ZT (Zd (stT (zA 9)))) _ _) (sgK ro ik v7 v8 (some (.int a)) v10 (some (.ref s.length))) _=_
 rw[JY tc]
 rfl
theorem zLd {ds:List D}{s:M.S}{L:Nat->List (D×D)}{U:Nat->List D}{H:List D}{z:Nat} (h:KI ik ks P E B ds s L U H z) (hz:z <= 890) (ro:D) (v7 v8 v9 v10 v11:Option D) :
  ∃ s' H' v9' v11',(yZ (jg (eC (.int 2))) (z7 9) B9) (sgK ro ik v7 v8 v9 v10 v11) s=.nx (sgK ro ik v7 v8 v9' v10 v11') s'/\KI ik ks P E B ds s' L U H' (z+2):=by
 obtain⟨s1,H1,w1,e1,h1⟩:=zIf h (by omega) ro (a:=0) (by omega) v7 v8 v10 v11
 obtain⟨s2,H2,w2,e2,h2⟩:=zIf h1 (by omega) ro (a:=1) (by omega) v7 v8 v10 w1
 refine⟨s2,H2,some (.int 1),w2,?_,h2⟩
 have it:jg (eC (.int 2)) (sgK ro ik v7 v8 v9 v10 v11) s=.ok ([.int 0,.int 1],[]) s:=rfl
 refine zDx it rfl ?_
 have f1:qD (z7 9) B9 (.int 0) (sgK ro ik v7 v8 v9 v10 v11) s=.nx (sgK ro ik v7 v8 (some (.int 0)) v10 w1) s1:=e1
 have f2:qD (z7 9) B9 (.int 1) (sgK ro ik v7 v8 (some (.int 0)) v10 w1) s1=.nx (sgK ro ik v7 v8 (some (.int 1)) v10 w2) s2:=e2
 unfold j7
 rw[f1]
 show j7 [] (qD (z7 9) B9) [.int 1] _ s1=_
 unfold j7
 rw[f2]
 rfl
theorem zLM {ds:List D}{s:M.S}{L:Nat->List (D×D)}{U:Nat->List D}{H:List D}{z:Nat} (h:KI ik ks P E B ds s L U H z) (hz:z <= 900) (ro:D) (v7 v8 v9 v10 v11:Option D):Zg (sgK ro ik v7 v8 v9 v10 v11) s=.rt (.bl true) s:=by
 have it:iE (zA 5) (sgK ro ik v7 v8 v9 v10 v11) s=.ok (H,[(10,.lst H)]) s:=by simp[h.h]
 have gd:zk [(10,O.lst H)] s=true:=by simp[zk,h.h]
 have hl:H.length <= SZ:=Nat.le_trans (Nat.le_trans h.hl hz) (sz5 _ (by omega))
 have c:=zDe (n:=1) (tg:=z7 12) (e:=JT cEq (eOp zN (zA 12) (eC (.int 0))) (eOp zN (zA 12) (eC (.int 1)))) (σ:=sgK ro ik v7 v8 v9 v10 v11) (fun _=>.bl true) it hl gd fun x hx=>by
  obtain⟨i,j,l,rfl,_,_,g1,g2,k⟩:=h.held x hx
  have q:=zAr g1 g2 fun x hx=>(k x hx).k7
  simp[-eqD,at0,at1,q]
 have al:=all_map (fun _=>true) H s
 show ((ZQ 1 (iE (zA 5)) (z7 12) y6 (JT cEq (eOp zN (zA 12) (eC (.int 0))) (eOp zN (zA 12) (eC (.int 1)))) (sgK ro ik v7 v8 v9 v10 v11) s).bind zA3).stm (sgK ro ik v7 v8 v9 v10 v11) (fun d s=>.rt d s)=_
 rw[c,R.bind_ok,al]
 simp
end
noncomputable abbrev stS (b0 b1:Int) (ks ds:List D):M.S:=[.lst [.int b0,.int b1],.lst ks,.ins 5 [some (.int b0),some (.ref 3)],.dtt [],.ins 5 [some (.int b1),some (.ref 5)],.dtt [],.lst [.ref 2,.ref 4],.lst [],.lst [],.lst [.ref 7,.ref 8],.lst [],.lst ds]
noncomputable abbrev stB (b0 b b1:Int) (ks ks2 ds:List D):M.S:=[.lst [.int b,.int b1],.lst ks,.ins 5 [some (.int b0),some (.ref 3)],.dtt [],.ins 5 [some (.int b1),some (.ref 5)],.dtt [],.lst [.ref 12,.ref 4],.lst [],.lst [],.lst [.ref 7,.ref 8],.lst [],.lst ds,.ins 5 [some (.int b),some (.ref 13)],.dtt [],.lst ks2]
noncomputable def two (x y:Int):Nat->Int:=fun a=>if a=0 then x else y
noncomputable def zFQ (x y:Nat):Nat->Nat:=fun a=>if a=0 then x else y
theorem QB {p:Nat->Prop} (h0:p 0) (h1:p 1):∀ a < 2,p a:=fun a ha=>by
 rcases (show a=0\/a=1 by omega) with rfl | rfl
 ·exact h0
 ·exact h1
theorem zMh {b0 b1:Int}{ks:List D}{dd:List Int} (h0:0 <= b0/\b0 <= 200) (h1:0 <= b1/\b1 <= 200) (kk:∀ x∈ks,j1 x):KI 1 ks (zFQ 2 4) (zFQ 3 5) (two b0 b1) (dd.map .int) (stS b0 b1 ks (dd.map .int)) (fun _=>[]) (fun _=>[]) [] 0:=by
 refine⟨rfl,rfl,rfl,rfl,rfl,rfl,QB ⟨rfl,rfl⟩ ⟨rfl,rfl⟩,QB rfl rfl,by omega,by decide,?_,fun _ _ _ h=>(nomatch h),QB h0 h1,fun _ _ _ h=>(nomatch h),fun _ _=>Nat.le_refl _,kk,fun _ _=>by simp[ql,Zk],fun _ h=>(nomatch h),Nat.le_refl _⟩
 have c1:O.cl 12 (.lst ks)=true:=ZN _ kk
 have c2:O.cl 12 (.lst (dd.map .int))=true:=zCI _ _
 simp[clS,c1,c2]
 simp[O.cl,D.cl,D.cl.all]
theorem zMv {b0 b b1:Int}{ks ks2:List D}{dd:List Int} (h0:0 <= b/\b <= 200) (h1:0 <= b1/\b1 <= 200) (kk:∀ x∈ks,j1 x) (kk2:∀ x∈ks2,j1 x):KI 14 ks2 (zFQ 12 4) (zFQ 13 5) (two b b1) (dd.map .int) (stB b0 b b1 ks ks2 (dd.map .int)) (fun _=>[]) (fun _=>[]) [] 0:=by
 refine⟨rfl,rfl,rfl,rfl,rfl,rfl,QB ⟨rfl,rfl⟩ ⟨rfl,rfl⟩,QB rfl rfl,by omega,by decide,?_,fun _ _ _ h=>(nomatch h),QB h0 h1,fun _ _ _ h=>(nomatch h),fun _ _=>Nat.le_refl _,kk2,fun _ _=>by simp[ql,Zk],fun _ h=>(nomatch h),Nat.le_refl _⟩
 have c1:O.cl 15 (.lst ks)=true:=ZN _ kk
 have c3:O.cl 15 (.lst ks2)=true:=ZN _ kk2
 have c2:O.cl 15 (.lst (dd.map .int))=true:=zCI _ _
 simp[clS,c1,c2,c3]
 simp[O.cl,D.cl,D.cl.all]
theorem zHR (ns:List Int) (hl:ns.length <= 63):(Z4 ns).length <= 100:=by
 unfold Z4
 split
 ·simp;omega
 ·simp;omega
theorem zCl {ik:Nat}{ks:List D}{P E:Nat->Nat}{B:Nat->Int}{dd:List Int}{s:M.S}{L:Nat->List (D×D)}{U:Nat->List D}{z:Nat} (h:KI ik ks P E B (dd.map .int) s L U [] z) (hp:0 < ks.length) (hz:z <= 400) (hd:dd.length <= 100) (ro:D) (v7:Option D) :
  ∃ s',(zU Z9 (zU QA Zg)) (sgK ro ik v7 none none none none) s=.rt (.bl true) s':=by
 obtain⟨s1,L1,U1,H1,v8,v9,v10,v11,e1,h1⟩:=zLg (dd:=dd) hp ro v7 dd s L U [] z none none none none h (by omega)
 have e8:Z9 (sgK ro ik v7 none none none none) s=.nx (sgK ro ik v7 v8 v9 v10 v11) s1:=by
  have it:iE (zA 6) (sgK ro ik v7 none none none none) s=.ok (dd.map .int,[(11,.lst (dd.map .int))]) s:=by simp[h.d]
  have gd:zk [(11,O.lst (dd.map .int))] s=true:=by simp[zk,h.d]
  exact zDx it gd e1
 obtain⟨s2,H2,w9,w11,e9,h2⟩:=zLd h1 (by omega) ro v7 v8 v9 v10 v11
 refine⟨s2,?_⟩
 rw[yS e8]
 have e9':QA (sgK ro ik v7 v8 v9 v10 v11) s1=.nx (sgK ro ik v7 v8 w9 v10 w11) s2:=e9
 rw[yS e9']
 exact zLM h2 (by omega) ro v7 v8 w9 v10 w11
theorem zHa (ns:List Int) (hl:ns.length <= 63):∃ s,zBP [.ro (ns.map .int)] []=.ok (.bl true) s:=by
 have cq:∀ (k:Nat) (s:M.S),zZ [.ro (ns.map .int),.int k] s=.ok (.int (ns.getD k 0)) s:=fun k s=>by simp[zZ,Z5]
 have cq0:∀ s:M.S,zZ [.ro (ns.map .int),.int 0] s=.ok (.int (ns.getD 0 0)) s:=cq 0
 have cq1:∀ s:M.S,zZ [.ro (ns.map .int),.int 1] s=.ok (.int (ns.getD 1 0)) s:=cq 1
 have cq2:∀ s:M.S,zZ [.ro (ns.map .int),.int 2] s=.ok (.int (ns.getD 2 0)) s:=cq 2
 generalize ns.getD 0 0=c at cq0
 generalize ns.getD 1 0=c1 at cq1
 generalize ns.getD 2 0=c2 at cq2
 have hd:=zHR ns hl
 have da:=fun S=>zHX ns hl S
 generalize Z4 ns=dd at hd da
 have ⟨m1,m2⟩:=zIp c2
 have ⟨x0,y0⟩:=zG9 c
 have ⟨x1,y1⟩:=zG9 (c / 123)
 have bq:=zDw c
 have bq1:=zDw (c / 123)
 generalize bnd c=b0 at *
 generalize bnd (c / 123)=b1 at *
 have z2:2 <= SZ:=sz5 _ (by omega)
 have z0:0 <= SZ:=Nat.zero_le _
 obtain⟨ks,ek,kk,knd,kl⟩:=zEx c1 (JQ c2) (by omega) (by omega) [.lst [.int b0,.int b1]]
 have mq:=zJP c2
 generalize JQ c2=m at *
 generalize hro:D.ro (ns.map .int)=ro at *
 have sh1:=Ji (b:=b0) x0 (by omega) (S:=[.lst [.int b0,.int b1],.lst ks,.ins 5 [none,none]]) (p:=2) rfl
 have sh2:=Ji (b:=b1) x1 (by omega) (S:=[.lst [.int b0,.int b1],.lst ks,.ins 5 [some (.int b0),some (.ref 3)],.dtt [],.ins 5 [none,none]]) (p:=4) rfl
 have a1:JH [some ro,none,none,none,none,none,none,none,none,none,none,none] []=.nx [some ro,some (.ref 0),none,none,none,none,none,none,none,none,none,none] [.lst [.int b0,.int b1]]:=by
  simp[JH,cq0,bq,bq1,z2]
 have a2:JB [some ro,some (.ref 0),none,none,none,none,none,none,none,none,none,none] [.lst [.int b0,.int b1]]=.nx [some ro,some (.ref 0),some (.ref 1),none,none,none,none,none,none,none,none,none] [.lst [.int b0,.int b1],.lst ks]:=by
  simp[JB,cq1,cq2,mq,ek]
 have a3:JF [some ro,some (.ref 0),some (.ref 1),none,none,none,none,none,none,none,none,none] [.lst [.int b0,.int b1],.lst ks]=.nx [some ro,some (.ref 0),some (.ref 1),some (.ref 6),none,none,none,none,none,none,none,none] [.lst [.int b0,.int b1],.lst ks,.ins 5 [some (.int b0),some (.ref 3)],.dtt [],.ins 5 [some (.int b1),some (.ref 5)],.dtt [],.lst [.ref 2,.ref 4]]:=by
  simp[JF,at0,at1,z2] at sh1 sh2 ⊢
  simp[sh1,sh2,at0,at1,z2]
 have a4:(zU yq (zU Zh Zj)) [some ro,some (.ref 0),some (.ref 1),some (.ref 6),none,none,none,none,none,none,none,none] [.lst [.int b0,.int b1],.lst ks,.ins 5 [some (.int b0),some (.ref 3)],.dtt [],.ins 5 [some (.int b1),some (.ref 5)],.dtt [],.lst [.ref 2,.ref 4]]=.nx (sgK ro 1 none none none none none) (stS b0 b1 ks (dd.map .int)):=by
  simp[yq,Zh,Zj,z2,z0,da]
 have qw:zBP [ro] []=((zU ZM (zU Z9 (zU QA Zg))) (sgK ro 1 none none none none none) (stS b0 b1 ks (dd.map .int))).out:=by
  have:zBP [ro] []=(zBD [some ro,none,none,none,none,none,none,none,none,none,none,none] []).out:=rfl
  rw[this]
  unfold zBD
  rw[yS a1,yS a2,yS a3]
  have as:∀ (x:SM) σ t,(zU yq (zU Zh (zU Zj x))) σ t=(zU (zU yq (zU Zh Zj)) x) σ t:=fun x σ t=>by
   rw[<- zCg]
   show (yq σ t).then _=(yq σ t).then _
   congr 1
  rw[as,yS a4]
 rw[qw]
 have hp:0 < ks.length:=by omega
 have tc:(jT cEq (eOp zm (eOp zv (zR zZ (zD (zA 0) (zD (eC (.int 2)) zI))) (eC (.int 441))) (eC (.int 8))) (eC (.int 1))) (sgK ro 1 none none none none none) (stS b0 b1 ks (dd.map .int))=.ok (decide (c2 / 441 % 8=1)) (stS b0 b1 ks (dd.map .int)):=by
  simp[cq2]
 by_cases w:c2 / 441 % 8=1
 ·obtain⟨b,eb⟩:∃ b,b=41+c2 / 3528 % 90:=⟨_,rfl⟩
  have ix0:ixN 2 0=some 0:=rfl
  have s1:(Zs (zA 1) (eC (.int 0)) (eOp qZ (eC (.int 41)) (eOp zm (eOp zv (zR zZ (zD (zA 0) (zD (eC (.int 2)) zI))) (eC (.int 3528))) (eC (.int 90))))) (sgK ro 1 none none none none none) (stS b0 b1 ks (dd.map .int))=.nx (sgK ro 1 none none none none none) ((stS b0 b1 ks (dd.map .int)).set 0 (.lst [.int b,.int b1])):=by
   rw[eb]
   simp[cq2,ix0]
  have sh3:=Ji (b:=b) (by omega) (by omega) (S:=(stS b0 b1 ks (dd.map .int)).set 0 (.lst [.int b,.int b1])++[.ins 5 [none,none]]) (p:=12) rfl
  obtain⟨ks2,ek2,kk2,knd2,kl2⟩:=zEx c1 (b+9) (by omega) (by omega) [.lst [.int b,.int b1],.lst ks,.ins 5 [some (.int b0),some (.ref 3)],.dtt [],.ins 5 [some (.int b1),some (.ref 5)],.dtt [],.lst [.ref 12,.ref 4],.lst [],.lst [],.lst [.ref 7,.ref 8],.lst [],.lst (dd.map .int),.ins 5 [some (.int b),some (.ref 13)],.dtt []]
  have s2:(Zs (zA 3) (eC (.int 0)) (zAL 5 2 qH (zD (eOp zN (zA 1) (eC (.int 0))) zI))) (sgK ro 1 none none none none none) ((stS b0 b1 ks (dd.map .int)).set 0 (.lst [.int b,.int b1]))=.nx (sgK ro 1 none none none none none) [.lst [.int b,.int b1],.lst ks,.ins 5 [some (.int b0),some (.ref 3)],.dtt [],.ins 5 [some (.int b1),some (.ref 5)],.dtt [],.lst [.ref 12,.ref 4],.lst [],.lst [],.lst [.ref 7,.ref 8],.lst [],.lst (dd.map .int),.ins 5 [some (.int b),some (.ref 13)],.dtt []]:=by
   simp[at0] at sh3 ⊢
   simp[sh3,ix0]
  have s3:(zR qt (zD (zR zZ (zD (zA 0) (zD (eC (.int 1)) zI))) (zD (eOp qZ (eOp zN (zA 1) (eC (.int 0))) (eC (.int 9))) zI))) (sgK ro 1 none none none none none) [.lst [.int b,.int b1],.lst ks,.ins 5 [some (.int b0),some (.ref 3)],.dtt [],.ins 5 [some (.int b1),some (.ref 5)],.dtt [],.lst [.ref 12,.ref 4],.lst [],.lst [],.lst [.ref 7,.ref 8],.lst [],.lst (dd.map .int),.ins 5 [some (.int b),some (.ref 13)],.dtt []]=.ok (.ref 14) (stB b0 b b1 ks ks2 (dd.map .int)):=by
   simp[cq1,at0,ek2]
  have hp2:0 < ks2.length:=by omega
  obtain⟨s4,L4,U4,v7,e4,h4⟩:=zLo ro none none none none (List.range ks2.length) _ _ _ [] 0 none (fun j hj=>List.mem_range.mp hj) (zMv (b0:=b0) (b:=b) (b1:=b1) (ks:=ks) (ks2:=ks2) (dd:=dd) ⟨by omega,by omega⟩ ⟨x1,by omega⟩ kk kk2) (by simp;omega)
  have s4':(yZ (jg (zR yo (zD (zA 2) zI))) (z7 7) B7) (sgK ro 14 none none none none none) (stB b0 b b1 ks ks2 (dd.map .int))=.nx (sgK ro 14 v7 none none none none) s4:=by
   have it:jg (zR yo (zD (zA 2) zI)) (sgK ro 14 none none none none none) (stB b0 b b1 ks ks2 (dd.map .int))=.ok ((List.range ks2.length).map fun j:Nat=>.int (0+j),[]) (stB b0 b b1 ks ks2 (dd.map .int)):=by
    have:ks2.length < 4611686018427387904:=by omega
    simp[this,j3]
   exact zDx it rfl e4
  have e7:ZM (sgK ro 1 none none none none none) (stS b0 b1 ks (dd.map .int))=.nx (sgK ro 14 v7 none none none none) s4:=by
   unfold ZM
   rw[JY tc,if_pos (decide_eq_true w),yS s1,yS s2,Qd s3]
   exact s4'
  obtain⟨s',e⟩:=zCl (dd:=dd) h4 hp2 (by simp;omega) hd ro v7
  refine⟨s',?_⟩
  rw[yS e7,e]
  rfl
 ·have e7:ZM (sgK ro 1 none none none none none) (stS b0 b1 ks (dd.map .int))=.nx (sgK ro 1 none none none none none) (stS b0 b1 ks (dd.map .int)):=by
   unfold ZM
   rw[JY tc,if_neg (by simpa using w)]
   rfl
  obtain⟨s',e⟩:=zCl (zMh (dd:=dd) ⟨x0,by omega⟩ ⟨x1,by omega⟩ kk) hp (by omega) hd ro none
  refine⟨s',?_⟩
  rw[yS e7,e]
  rfl
end
end M
namespace My
open PySem L2 PyProof.Rows
noncomputable def top (i:Nat):Stmt:=PySem.Challenge.pw_thingyard_k53_keys_in_order.main.body.getD i (.Pass ⟨0,0,0,0⟩)
theorem vv {X:Cx}{Θ:Tab}{pos:Pos}{x:Str} (i:Nat) (h1:X.N[i]? = some x:=by rfl) (h2:Vis X.env.scope x:=by exact Or.inl (by kernel_rfl)) (h3:(x == ("__debug__" : Str))=false:=by kernel_rfl) (h4:(x == ("__classdict__" : Str))=false:=by kernel_rfl):WE X Θ (.Name x pos) (M.zA i):=zDc i h1 h2 h3 h4
theorem vc {X:Cx}{Θ:Tab}{pos:Pos}{x:Str} (i:Nat) (h1:X.N[i]? = some x:=by rfl) (h2:Vis X.env.scope x:=by exact Or.inr (Or.inl (by kernel_rfl))) (h3:(x == ("__debug__" : Str))=false:=by kernel_rfl) (h4:(x == ("__classdict__" : Str))=false:=by kernel_rfl):WE X Θ (.Name x pos) (M.zA i):=zDc i h1 h2 h3 h4
theorem zz {X:Cx}{Θ:Tab}{pos:Pos}{y:M.T}{x:Str}{j:Nat} (h:x=ofT y:=by decide +kernel) (ok:okT y:=by decide +kernel):WE X Θ (.Constant (.str x) j pos) (M.eC (.str y)):=zHS h ok
theorem gk {X:Cx}{x:Str} (h:X.env.kindOf x=some .globalImplicit:=by kernel_rfl):Gl X x:=h
noncomputable abbrev cX (P:Program) (w:World) (K:PySem.W.Frag) (mg:Str->Option Value) (base:Heap) (N:List Str) (n:Str) (st:Stmt) (f:Addr) (cdv:Value) (A:Around) (outer:List Env) (s:Shared) (H:Hp) (E:XK):Cx:=(QR CX0 P w K mg base N n (zP st) f cdv A outer s H E).nox
noncomputable abbrev RM (k:Nat) (n:Str) (st:Stmt) (A:Around) (s:Shared) (f:Addr) (cdv:Value):Prop:=zt k (A.deeper (envOfC n (zP st) s.heap.objs.size f cdv))
noncomputable abbrev bd (st:Stmt) (j:Nat):Stmt:=(jJ st).getD j (.Pass ⟨0,0,0,0⟩)
noncomputable def zC7 (K:PySem.W.Frag):Sp:=fun vs H Q E=>∀ Θ:Tab,SpM K Θ 1 M.zBP vs H Q E
theorem zHs {K:PySem.W.Frag}{H:Hp}{a:Addr}{ns:List Int}{E:XK} (hl:ns.length <= 63) (hO:zDj H) (hS:SqL K H a (ns.map V.int)):zC7 K [.ref a] H (fun v _=>v=.bl true) E:=fun _=>zJ7 M.zHa hl hO hS
noncomputable def Θ1 (w:World) (zB:Addr):Tab:=⟨fun c=>if c=5 then some (zB,["bound","kept"]) else none,haD w 7⟩
section
variable (P:Program) (w:World) (K:PySem.W.Frag) (mg:Str->Option Value) (base:Heap) (zB:Addr)
noncomputable abbrev jO:Prop:=Has P w K mg base "_law_mixed" 1 ["_law_cell_here","_law_k"] (SpM K (Θ1 w zB) 2 M.ja)
noncomputable abbrev zAa:Prop:=Has P w K mg base "_law_part" 4 ["_law_cell_here","_law_deep"] (SpM K (Θ1 w zB) 2 M.Zt)
noncomputable abbrev zBW:Prop:=Has P w K mg base "_law_key" 5 ["_law_cell_here"] (SpM K (Θ1 w zB) 1 M.yP)
noncomputable abbrev Zq:Prop:=Has P w K mg base "_law_keys" 6 ["_law_cell_here","_law_many_here"] (SpM K (Θ1 w zB) 2 M.qt)
noncomputable abbrev yU:Prop:=Has P w K mg base "_law_cell" 1 ["_law_script","_law_k"] (SpM K (Θ1 w zB) 2 M.zZ)
noncomputable abbrev QJ:Prop:=Has P w K mg base "_law_deeds" 2 ["_law_script"] (SpM K (Θ1 w zB) 1 M.ye)
noncomputable abbrev QD:Prop:=Has P w K mg base "_law_bound" 1 ["_law_cell_here"] (SpM K (Θ1 w zB) 1 M.yD)
noncomputable abbrev Qw:Prop:=Has P w K mg base "_law_many" 1 ["_law_cell_here"] (SpM K (Θ1 w zB) 1 M.ZA)
noncomputable abbrev zBk:Prop:=Has P w K mg base "is_bound" 1 ["thing"] (SpM K (Θ1 w zB) 1 M.Za)
noncomputable abbrev yN:Prop:=zHZ P w K mg base zB "Shelf" 2 ["self","bound"] (SpM K (Θ1 w zB) 2 M.qH)
noncomputable abbrev ZZ:Prop:=Has P w K mg base "_law_due" 1 ["_law_used","_law_bound_here"] (SpM K (Θ1 w zB) 2 M.jz)
noncomputable abbrev Zp:Prop:=zA0 P w K mg base zB "lay" 1 ["self","key","thing"] (SpM K (Θ1 w zB) 3 M.j6)
noncomputable abbrev ZW:Prop:=zA0 P w K mg base zB "look" 1 ["self","key"] (SpM K (Θ1 w zB) 2 M.jp)
noncomputable abbrev qY:Prop:=zA0 P w K mg base zB "keys_kept" 1 ["self"] (SpM K (Θ1 w zB) 1 M.ju)
noncomputable abbrev ZD:Prop:=Has P w K mg base "_law_stands" 2 ["_law_shelf","_law_due_here","_law_held"] (SpM K (Θ1 w zB) 3 M.yQ)
noncomputable abbrev QE:Prop:=Has P w K mg base "_law_thing" 1 ["_law_cell_here"] (SpM K (Θ1 w zB) 1 M.qg)
end
variable {P:Program}{w:World}{K:PySem.W.Frag}{mg:Str->Option Value}{base:Heap}{f:Addr}{fd:FuncData}{cdv:Value}{A:Around}{outer:List Env}{s:Shared}{H:Hp}{E:XK}{zB:Addr}
noncomputable abbrev jt (w:World) (K:PySem.W.Frag) (zB:Addr):Prop:=ZU K (Θ1 w zB) 5 zB ["bound","kept"]
noncomputable abbrev yA:Stmt:=top 9
noncomputable abbrev zDM:List Str:=["_law_cell_here","_law_k"]
theorem zCx:jW zDM ["_law_cell_here","_law_k"] (zP yA):=⟨rfl,rfl,rfl,by decide +kernel,rfl,by decide +kernel,by decide +kernel⟩
theorem zCy (F:Fun K "_law_mixed" "_law_mixed" yA f fd) :
  jd P w K mg base CX0 1 f fd ["_law_cell_here","_law_k"] (SpM K (Θ1 w zB) 2 M.ja):=by
 refine qT (b:=M.ZS) F zCx M.zCu fun cdv A outer s H E hr=>?_
 unfold M.ZS
 exact (zO (zo (zJ jb jL (zJ zBb zBl (zJ (OpR.or yy qe) yB (vv 0) (zJ zBb zBl zE (vv 1))) zE) zE)))
noncomputable abbrev zT:Stmt:=top 10
noncomputable abbrev jy:List Str:=["_law_cell_here","_law_deep","_law_way","_law_number","_law_size","_law_at"]
theorem yF:jW jy ["_law_cell_here","_law_deep"] (zP zT):=⟨rfl,rfl,rfl,by decide +kernel,rfl,by decide +kernel,by decide +kernel⟩
theorem zCK:(["_law_cell_here","_law_deep","_law_way","_law_number","_law_size","_law_at","_law_j"]:List Str).Nodup:=by decide +kernel
theorem zCE:(["_law_cell_here","_law_deep","_law_way","_law_number","_law_size","_law_at","_law_j"]:List Str).Nodup:=by decide +kernel
theorem zBv {kr:Nat} (ze:Has P w K mg base "_law_part" (1+kr) ["_law_cell_here","_law_deep"] (SpM K (Θ1 w zB) 2 (M.zQ kr))) (zS:jO P w K mg base zB) (jr:mg "str" = none) (jM:mg "tuple" = none) (zd:mg "range" = none) (hr:RM (1+kr) "_law_part" zT A s f cdv):WS (cX P w K mg base jy "_law_part" zT f cdv A outer s H E) (Θ1 w zB) (bd zT 0) (M.zi (M.zQ kr)):=by
 unfold M.zi
 exact (jF (i:=2) yF.nd rfl (Or.inl (by kernel_rfl)) (zJ jb jL (vc 0) zE))
theorem zBo {kr:Nat} (ze:Has P w K mg base "_law_part" (1+kr) ["_law_cell_here","_law_deep"] (SpM K (Θ1 w zB) 2 (M.zQ kr))) (zS:jO P w K mg base zB) (jr:mg "str" = none) (jM:mg "tuple" = none) (zd:mg "range" = none) (hr:RM (1+kr) "_law_part" zT A s f cdv):WS (cX P w K mg base jy "_law_part" zT f cdv A outer s H E) (Θ1 w zB) (bd zT 1) (M.zh (M.zQ kr)):=by
 unfold M.zh
 exact (jF (i:=3) yF.nd rfl (Or.inl (by kernel_rfl)) (zJ zIh zF3 (zJ jb jL (zJ jl jU (vc 0) zE) zE) zE))
theorem zCJ {kr:Nat} (ze:Has P w K mg base "_law_part" (1+kr) ["_law_cell_here","_law_deep"] (SpM K (Θ1 w zB) 2 (M.zQ kr))) (zS:jO P w K mg base zB) (jr:mg "str" = none) (jM:mg "tuple" = none) (zd:mg "range" = none) (hr:RM (1+kr) "_law_part" zT A s f cdv):WS (cX P w K mg base jy "_law_part" zT f cdv A outer s H E) (Θ1 w zB) (bd zT 2) (M.zj (M.zQ kr)):=by
 unfold M.zj
 exact (jQ (jC (qF hr) qh (vv 2) zE (jk _))
  (zO (zo (vv 3)))
  z3)
theorem zCG {kr:Nat} (ze:Has P w K mg base "_law_part" (1+kr) ["_law_cell_here","_law_deep"] (SpM K (Θ1 w zB) 2 (M.zQ kr))) (zS:jO P w K mg base zB) (jr:mg "str" = none) (jM:mg "tuple" = none) (zd:mg "range" = none) (hr:RM (1+kr) "_law_part" zT A s f cdv):WS (cX P w K mg base jy "_law_part" zT f cdv A outer s H E) (Θ1 w zB) (bd zT 3) (M.zg (M.zQ kr)):=by
 unfold M.zg
 exact (jQ (jC (qF hr) qh (vv 2) zE (jk _))
  (zO (zo (qb zCX zGb gk jr zGh (zC (vv 3) zG))))
  z3)
theorem zCC {kr:Nat} (ze:Has P w K mg base "_law_part" (1+kr) ["_law_cell_here","_law_deep"] (SpM K (Θ1 w zB) 2 (M.zQ kr))) (zS:jO P w K mg base zB) (jr:mg "str" = none) (jM:mg "tuple" = none) (zd:mg "range" = none) (hr:RM (1+kr) "_law_part" zT A s f cdv):WS (cX P w K mg base jy "_law_part" zT f cdv A outer s H E) (Θ1 w zB) (bd zT 4) (M.zq (M.zQ kr)):=by
 unfold M.zq
 exact (jQ (jC (qF hr) qh (vv 2) zE (jk _))
  (zO (zo (zn (jj rfl hr) z9 (qW (zC JR (zC zz (zC zz (zC (yK zG) zG))))) (zJ jb jL (zJ jl jU (vc 0) zE) zE))))
  z3)
theorem zCB {kr:Nat} (ze:Has P w K mg base "_law_part" (1+kr) ["_law_cell_here","_law_deep"] (SpM K (Θ1 w zB) 2 (M.zQ kr))) (zS:jO P w K mg base zB) (jr:mg "str" = none) (jM:mg "tuple" = none) (zd:mg "range" = none) (hr:RM (1+kr) "_law_part" zT A s f cdv):WS (cX P w K mg base jy "_law_part" zT f cdv A outer s H E) (Θ1 w zB) (bd zT 5) (M.jG (M.zQ kr)):=by
 unfold M.jG
 exact (jQ (QK (zAm (jC (qF hr) qh (vv 2) zE (jk _)) (QY (jC zFe zC5 (vc 1) zE (jk _)))))
  (zO (zo (yK (zC (zf ze hr (by omega) gk (zC (zJ jl jU (vc 0) zE) (zC (zJ (OpR.or yy qe) yB (vc 1) zE) zG)) (zM (zM z4))) zG))))
  z3)
theorem zB1 {kr:Nat} (ze:Has P w K mg base "_law_part" (1+kr) ["_law_cell_here","_law_deep"] (SpM K (Θ1 w zB) 2 (M.zQ kr))) (zS:jO P w K mg base zB) (jr:mg "str" = none) (jM:mg "tuple" = none) (zd:mg "range" = none) (hr:RM (1+kr) "_law_part" zT A s f cdv):WS (cX P w K mg base jy "_law_part" zT f cdv A outer s H E) (Θ1 w zB) (bd zT 6) (M.jN (M.zQ kr)):=by
 unfold M.jN
 exact (jQ (QK (zAm (jC (qF hr) qh (vv 2) zE (jk _)) (QY (jC zFe zC5 (vc 1) zE (jk _)))))
  (zO (zo (qb zAZ zDS gk jM zD5 (zC (J4 (vars:=["_law_j"]) rfl ⟨rfl,rfl,(by kernel_rfl),(by kernel_rfl),(by decide +kernel),⟨(by kernel_rfl),(by kernel_rfl),trivial⟩,(by kernel_rfl)⟩ (qu gk zd (zJ jb jL (zJ jl jU (vc 0) zE) zE)) (fun _ _ _ _=>(qa (i:=6) zCK rfl (Or.inl (by kernel_rfl)) (.inr (by kernel_rfl)))) (fun _ _ _ _=>Qb) (fun _ _ _ _=>(zf ze hr (by omega) gk (zC (zf zS hr (by omega) gk (zC (vc 0) (zC (vv 6) zG)) (zM (zM z4))) (zC (zJ (OpR.or yy qe) yB (vc 1) zE) zG)) (zM (zM z4)))) (by kernel_rfl)) zG))))
  z3)
theorem zCF {kr:Nat} (ze:Has P w K mg base "_law_part" (1+kr) ["_law_cell_here","_law_deep"] (SpM K (Θ1 w zB) 2 (M.zQ kr))) (zS:jO P w K mg base zB) (jr:mg "str" = none) (jM:mg "tuple" = none) (zd:mg "range" = none) (hr:RM (1+kr) "_law_part" zT A s f cdv):WS (cX P w K mg base jy "_law_part" zT f cdv A outer s H E) (Θ1 w zB) (bd zT 7) (M.jS (M.zQ kr)):=by
 unfold M.jS
 exact (jQ (jC (qF hr) qh (vv 2) zE (jk _))
  (zO (zo (zn (jj rfl hr) z9 (qW (zC zE (zC zE (zC zE (zC (zJ zGn zGm zE zE) (zC (zJ (OpR.or yy qe) yB (zJ zGn zGm zE zE) zE) zG)))))) (zJ jb jL (zJ jl jU (vc 0) zE) zE))))
  z3)
theorem zBs {kr:Nat} (ze:Has P w K mg base "_law_part" (1+kr) ["_law_cell_here","_law_deep"] (SpM K (Θ1 w zB) 2 (M.zQ kr))) (zS:jO P w K mg base zB) (jr:mg "str" = none) (jM:mg "tuple" = none) (zd:mg "range" = none) (hr:RM (1+kr) "_law_part" zT A s f cdv):WS (cX P w K mg base jy "_law_part" zT f cdv A outer s H E) (Θ1 w zB) (bd zT 8) (M.qB (M.zQ kr)):=by
 unfold M.qB
 exact (jQ (jC (qF hr) qh (vv 2) zE (jk _))
  (zH (jF (i:=4) yF.nd rfl (Or.inl (by kernel_rfl)) (zJ jb jL (zJ jl jU (vc 0) zE) zE))
  (zH (jQ (jC (qF hr) qh (zJ jb jL (zJ jl jU (vc 0) zE) zE) zE (jk _))
  (zO (jF (i:=4) yF.nd rfl (Or.inl (by kernel_rfl)) (zJ jb jL (zJ jl jU (vc 0) zE) zE)))
  z3)
  (zH (jF (i:=5) yF.nd rfl (Or.inl (by kernel_rfl)) (zJ jb jL (zJ jl jU (vc 0) zE) (zJ (OpR.or yy qe) yB (vv 4) zE)))
  (zO (zo (zJ (OpR.or yy qe) yB (zJ (OpR.or yy qe) yB (zJ zBb zBl zz (vv 5)) zz) (zJ zBb zBl zz (zJ zIh zF3 (vv 4) (vv 5)))))))))
  z3)
theorem zBU {kr:Nat} (ze:Has P w K mg base "_law_part" (1+kr) ["_law_cell_here","_law_deep"] (SpM K (Θ1 w zB) 2 (M.zQ kr))) (zS:jO P w K mg base zB) (jr:mg "str" = none) (jM:mg "tuple" = none) (zd:mg "range" = none) (hr:RM (1+kr) "_law_part" zT A s f cdv):WS (cX P w K mg base jy "_law_part" zT f cdv A outer s H E) (Θ1 w zB) (bd zT 9) (M.yv (M.zQ kr)):=by
 unfold M.yv
 exact (zo (zFf (by decide +kernel) (vars:=["_law_j"]) rfl ⟨rfl,rfl,(by kernel_rfl),(by kernel_rfl),(by decide +kernel),⟨(by kernel_rfl),trivial⟩,(by kernel_rfl)⟩ (qu gk zd (zJ jb jL (zJ jl jU (vc 0) zE) zE)) (fun _ _ _ _=>(qa (i:=6) zCE rfl (Or.inl (by kernel_rfl)) (.inr (by kernel_rfl)))) (fun _ _ _ _=>Qb) (fun _ _ _ _=>(zn (jj rfl hr) z9 zz (zJ jb jL (zJ jl jU (vc 0) (zn (jj rfl hr) z9 (qW (zC zE (zC zE (zC zE zG)))) (vv 6))) zE))) (by kernel_rfl) (fun ρ H S ds ys p Q rp r hq h=>zH6 (by decide +kernel) ρ H S ds ys p Q rp r (.inl hq) h)))
theorem Jx (F:Fun K "_law_part" "_law_part" zT f fd) (Bf:yz K fd ["_law_cell_here","_law_deep"] []) (kf:PySem.W.keepIn K (.ref f)=true) (mf:mg "_law_part" = some (.ref f)) (zS:jO P w K mg base zB) (jr:mg "str" = none) (jM:mg "tuple" = none) (zd:mg "range" = none) :
  ∀ kr,jd P w K mg base CX0 (1+kr) f fd ["_law_cell_here","_law_deep"] (SpM K (Θ1 w zB) 2 (M.zQ kr))
 | 0=>zMJ M.zCz
 | kr+1=>by
  have ze:Has P w K mg base "_law_part" (1+kr) ["_law_cell_here","_law_deep"] (SpM K (Θ1 w zB) 2 (M.zQ kr)):=⟨⟨_,_,Jx F Bf kf mf zS jr jM zd kr,Bf,kf,mf⟩⟩
  refine qT (k:=(1+kr)) (b:=M.zx (M.zQ kr)) F yF (M.zD4 kr) fun cdv A outer s H E hr=>?_
  unfold M.zx
  exact (zH (zBv ze zS jr jM zd hr) (zH (zBo ze zS jr jM zd hr) (zH (zCJ ze zS jr jM zd hr) (zH (zCG ze zS jr jM zd hr) (zH (zCC ze zS jr jM zd hr) (zH (zCB ze zS jr jM zd hr) (zH (zB1 ze zS jr jM zd hr) (zH (zCF ze zS jr jM zd hr) (zH (zBs ze zS jr jM zd hr) (zO (zBU ze zS jr jM zd hr)))))))))))
noncomputable abbrev yr:Stmt:=top 11
noncomputable abbrev zE9:List Str:=["_law_cell_here"]
theorem zES:jW zE9 ["_law_cell_here"] (zP yr):=⟨rfl,rfl,rfl,by decide +kernel,rfl,by decide +kernel,by decide +kernel⟩
theorem zCq:(["_law_cell_here","_law_j"]:List Str).Nodup:=by decide +kernel
theorem zER (F:Fun K "_law_key" "_law_key" yr f fd) (ze:zAa P w K mg base zB) (zS:jO P w K mg base zB) (jM:mg "tuple" = none) (zd:mg "range" = none) :
  jd P w K mg base CX0 5 f fd ["_law_cell_here"] (SpM K (Θ1 w zB) 1 M.yP):=by
 refine qT (b:=M.Z2) F zES M.zEc fun cdv A outer s H E hr=>?_
 unfold M.Z2
 exact (zO (zo (qb zAZ zDS gk jM zD5 (zC (J4 (vars:=["_law_j"]) rfl ⟨rfl,rfl,(by kernel_rfl),(by kernel_rfl),(by decide +kernel),⟨(by kernel_rfl),trivial⟩,(by kernel_rfl)⟩ (qu gk zd (zJ jb jL (vc 0) zE)) (fun _ _ _ _=>(qa (i:=1) zCq rfl (Or.inl (by kernel_rfl)) (.inr (by kernel_rfl)))) (fun _ _ _ _=>Qb) (fun _ _ _ _=>(zf ze hr (by decide) gk (zC (zf zS hr (by decide) gk (zC (vc 0) (zC (vv 1) zG)) (zM (zM z4))) (zC zE zG)) (zM (zM z4)))) (by kernel_rfl)) zG))))
noncomputable abbrev yV:Stmt:=top 14
noncomputable abbrev zEW:List Str:=["_law_cell_here","_law_many_here","_law_found","_law_k","_law_key_here"]
theorem yh:jW zEW ["_law_cell_here","_law_many_here"] (zP yV):=⟨rfl,rfl,rfl,by decide +kernel,rfl,by decide +kernel,by decide +kernel⟩
theorem zEH (F:Fun K "_law_keys" "_law_keys" yV f fd) (Jk:zBW P w K mg base zB) (zS:jO P w K mg base zB) (zd:mg "range" = none) :
  jd P w K mg base CX0 6 f fd ["_law_cell_here","_law_many_here"] (SpM K (Θ1 w zB) 2 M.qt):=by
 refine qT (b:=M.Qm) F yh M.zDW fun cdv A outer s H E hr=>?_
 unfold M.Qm
 exact (zH (jF (i:=2) yh.nd rfl (Or.inl (by kernel_rfl)) (qW zG))
  (zH (QN PassesOwn.never rfl (qu gk zd (vv 1)) (qa (i:=3) yh.nd rfl (Or.inl (by kernel_rfl)) (.inl rfl))
  (zH (jF (i:=4) yh.nd rfl (Or.inl (by kernel_rfl)) (zf Jk hr (by decide) gk (zC (zf zS hr (by decide) gk (zC (vv 0) (zC (vv 3) zG)) (zM (zM z4))) zG) (zM z4)))
  (zH (zFT PassesOwn.never (jC (zDL rfl hr) zD2 (vv 4) (vv 2) (by rfl))
  (zO (jF (i:=4) yh.nd rfl (Or.inl (by kernel_rfl)) (zJ (OpR.or (OpR.or yy qe) zJO) zIo (vv 4) (yK (zC (vv 3) zG))))))
  (zO (jw (yi PySem.F.plainAttrs_list PySem.F.slot_list_append PySem.F.type_list_append yI yH rfl (vv 2) (zC (vv 4) zG)))))))
  (zO (zo (vv 2)))))
noncomputable abbrev yY:Stmt:=top 8
noncomputable abbrev zEU:List Str:=["_law_script","_law_k"]
theorem zDn:jW zEU ["_law_script","_law_k"] (zP yY):=⟨rfl,rfl,rfl,by decide +kernel,rfl,by decide +kernel,by decide +kernel⟩
theorem zDg (F:Fun K "_law_cell" "_law_cell" yY f fd) (qq:mg "len" = none) :
  jd P w K mg base CX0 1 f fd ["_law_script","_law_k"] (SpM K (Θ1 w zB) 2 M.zZ):=by
 refine qT (b:=M.ZB) F zDn M.zD3 fun cdv A outer s H E hr=>?_
 unfold M.ZB
 exact (zH (jQ (jC zFe zC5 (vv 1) (qo Zu Qz gk qq Js (zC (vv 0) zG)) (jk _))
  (zO (zo (zn (jj rfl hr) z9 (vv 0) (vv 1))))
  z3)
  (zO (zo zE)))
noncomputable abbrev q8:Stmt:=top 16
noncomputable abbrev zDl:List Str:=["_law_script","_law_cell_here"]
theorem Jp:jW zDl ["_law_script"] (zP q8):=⟨rfl,rfl,rfl,by decide +kernel,rfl,by decide +kernel,by decide +kernel⟩
theorem zBj:(["_law_script","_law_cell_here","_law_k"]:List Str).Nodup:=by decide +kernel
theorem zC1 (F:Fun K "_law_deeds" "_law_deeds" q8 f fd) (jB:yU P w K mg base zB) (zS:jO P w K mg base zB) (zd:mg "range" = none) :
  jd P w K mg base CX0 2 f fd ["_law_script"] (SpM K (Θ1 w zB) 1 M.ye):=by
 refine qT (b:=M.yj) F Jp M.zC2 fun cdv A outer s H E hr=>?_
 unfold M.yj
 exact (zH (jF (i:=1) Jp.nd rfl (Or.inl (by kernel_rfl)) (zJ jl jU (zf jB hr (by decide) gk (zC (vc 0) (zC zE zG)) (zM (zM z4))) zE))
  (zH (jQ (jC (qF hr) qh (zJ jb jL (vv 1) zE) zE (jk _))
  (zO (zo (J4 (vars:=["_law_k"]) rfl ⟨rfl,rfl,(by kernel_rfl),(by kernel_rfl),(by decide +kernel),⟨(by kernel_rfl),trivial⟩,(by kernel_rfl)⟩ (qu gk zd (zJ jb jL (zJ jl jU (vv 1) zE) zE)) (fun _ _ _ _=>(qa (i:=2) zBj rfl (Or.inl (by kernel_rfl)) (.inr (by kernel_rfl)))) (fun _ _ _ _=>Qb) (fun _ _ _ _=>(zf zS hr (by decide) gk (zC (zf jB hr (by decide) gk (zC (vc 0) (zC (zJ (OpR.or yy qe) yB zE (zJ jb jL (vv 2) zE)) zG)) (zM (zM z4))) (zC (vv 2) zG)) (zM (zM z4)))) (by kernel_rfl))))
  z3)
  (zO (zo (zJc zMS zLf (vc 0) (zFz zE) zGY)))))
noncomputable abbrev q9:Stmt:=top 13
noncomputable abbrev zEE:List Str:=["_law_cell_here"]
theorem zCv:jW zEE ["_law_cell_here"] (zP q9):=⟨rfl,rfl,rfl,by decide +kernel,rfl,by decide +kernel,by decide +kernel⟩
theorem zCw (F:Fun K "_law_bound" "_law_bound" q9 f fd) :
  jd P w K mg base CX0 1 f fd ["_law_cell_here"] (SpM K (Θ1 w zB) 1 M.yD):=by
 refine qT (b:=M.Zb) F zCv M.zCo fun cdv A outer s H E hr=>?_
 unfold M.Zb
 exact (zH (jQ (jC (qF hr) qh (zJ jb jL (vv 0) zE) zE (jk _))
  (zO (zo (zJ jb jL (zJ jl jU (vv 0) zE) zE)))
  z3)
  (zO (zo (zJ jb jL (zJ jl jU (vv 0) zE) zE))))
noncomputable abbrev yX:Stmt:=top 15
noncomputable abbrev zEZ:List Str:=["_law_cell_here"]
theorem zDi:jW zEZ ["_law_cell_here"] (zP yX):=⟨rfl,rfl,rfl,by decide +kernel,rfl,by decide +kernel,by decide +kernel⟩
theorem zDD (F:Fun K "_law_many" "_law_many" yX f fd) :
  jd P w K mg base CX0 1 f fd ["_law_cell_here"] (SpM K (Θ1 w zB) 1 M.ZA):=by
 refine qT (b:=M.Zo) F zDi M.zDQ fun cdv A outer s H E hr=>?_
 unfold M.Zo
 exact (zH (jQ (jC (qF hr) qh (zJ jb jL (vv 0) zE) zE (jk _))
  (zO (zo (zJ (OpR.or yy qe) yB zE (zJ jb jL (zJ jl jU (vv 0) zE) zE))))
  z3)
  (zO (zo (zJ (OpR.or yy qe) yB zE (zJ jb jL (zJ jl jU (vv 0) zE) zE)))))
noncomputable abbrev yx:Stmt:=top 5
noncomputable abbrev zFk:List Str:=["thing"]
theorem zEX:jW zFk ["thing"] (zP yx):=⟨rfl,rfl,rfl,by decide +kernel,rfl,by decide +kernel,by decide +kernel⟩
theorem zEP (F:Fun K "is_bound" "is_bound" yx f fd) (j8:mg "isinstance" = none) (zEN:mg "bool" = none) (Qk:mg "int" = none) (Qy:zDO mg "MOST_KEYS" (.int 1000)) :
  jd P w K mg base CX0 1 f fd ["thing"] (SpM K (Θ1 w zB) 1 M.Za):=by
 refine qT (b:=M.Z0) F zEX M.zEa fun cdv A outer s H E hr=>?_
 unfold M.Z0
 exact (zH (jQ (QK (zEz (QP (Ze (qo zAi zDG gk j8 Zy (zC (vv 0) (zC (zB4 .int gk Qk zGq) zG))))) (zAf (Ze (qo zAi zDG gk j8 Zy (zC (vv 0) (zC (zB4 .bool gk zEN zJb) zG)))))))
  (zO (zo zAH))
  z3)
  (zO (zo (zFn zKo zKo zIV zIV zE (vv 0) (zFM Qy gk (fun _ _=>rfl))))))
noncomputable abbrev qI:Stmt:=zAQ (top 6) 0
noncomputable abbrev Qa:List Str:=["self","bound"]
theorem zAV:jW Qa ["self","bound"] (zP qI):=⟨rfl,rfl,rfl,by decide +kernel,rfl,by decide +kernel,by decide +kernel⟩
theorem zAW (F:Fun K "__init__" "Shelf.__init__" qI f fd) (zV:jt w K zB) (Jl:zBk P w K mg base zB) :
  jd P w K mg base CX0 2 f fd ["self","bound"] (SpM K (Θ1 w zB) 2 M.qH):=by
 refine zAo (N:=Qa) (b:=M.yJ) F zAV fun cdv A outer s H E hr=>?_
 unfold M.yJ
 exact (zH (jQ (QP (Ze (zf Jl hr (by decide) gk (zC (vv 1) zG) (zM z4))))
  (zO zEQ)
  z3)
  (zH (zDa (i:=0) zV rfl (vv 0) (vv 1))
  (zO (zDa (i:=1) zV rfl (vv 0) (zFF rfl)))))
noncomputable abbrev y4:Stmt:=top 17
noncomputable abbrev zFW:List Str:=["_law_used","_law_bound_here","_law_row","_law_key_here"]
theorem Qn:jW zFW ["_law_used","_law_bound_here"] (zP y4):=⟨rfl,rfl,rfl,by decide +kernel,rfl,by decide +kernel,by decide +kernel⟩
theorem zEO (F:Fun K "_law_due" "_law_due" y4 f fd) (qq:mg "len" = none) :
  jd P w K mg base CX0 1 f fd ["_law_used","_law_bound_here"] (SpM K (Θ1 w zB) 2 M.jz):=by
 refine qT (b:=M.Jd) F Qn M.zEY fun cdv A outer s H E hr=>?_
 unfold M.Jd
 exact (zH (jF (i:=2) Qn.nd rfl (Or.inl (by kernel_rfl)) (qW zG))
  (zH (QN PassesOwn.never rfl (zD6 (zAh (vv 0))) (qa (i:=3) Qn.nd rfl (Or.inl (by kernel_rfl)) (.inl rfl))
  (zH (jQ (jC (qF hr) qh (qo Zu Qz gk qq Js (zC (vv 2) zG)) (vv 1) (jk _))
  (zO (zo (zAh (vv 2))))
  z3)
  (zO (jQ (jC (zCm rfl hr) zCV (vv 3) (vv 2) (by rfl))
  (zO (jw (yi PySem.F.plainAttrs_list PySem.F.slot_list_append PySem.F.type_list_append yI yH rfl (vv 2) (zC (vv 3) zG))))
  z3))))
  (zO (zo (zAh (vv 2))))))
noncomputable abbrev yW:Stmt:=zAQ (top 6) 2
noncomputable abbrev zEb:List Str:=["self","key","thing"]
theorem zDd:jW zEb ["self","key","thing"] (zP yW):=⟨rfl,rfl,rfl,by decide +kernel,rfl,by decide +kernel,by decide +kernel⟩
theorem zEI (F:Fun K "lay" "Shelf.lay" yW f fd) (zV:jt w K zB) (qq:mg "len" = none) (qr:mg "list" = none) :
  jd P w K mg base CX0 1 f fd ["self","key","thing"] (SpM K (Θ1 w zB) 3 M.j6):=by
 refine qT (b:=M.yT) F zDd M.zDK fun cdv A outer s H E hr=>?_
 unfold M.yT
 exact (zH (jw (yi PySem.F.plainAttrs_dict PySem.F.slot_dict_pop PySem.F.type_dict_pop (zBq rfl hr) zBy rfl (qv (i:=1) zV rfl (vv 0)) (zC (vv 1) (zC JR zG))))
  (zH (Qg rfl hr (qv (i:=1) zV rfl (vv 0)) (vv 1) (vv 2))
  (zO (jQ (jC zMV zL7 (qo Zu Qz gk qq Js (zC (qv (i:=1) zV rfl (vv 0)) zG)) (qv (i:=0) zV rfl (vv 0)) (jk _))
  (zO (jw (yi PySem.F.plainAttrs_dict PySem.F.slot_dict_pop PySem.F.type_dict_pop (zBq rfl hr) zBy rfl (qv (i:=1) zV rfl (vv 0)) (zC (zn (jj rfl hr) z9 (qb (JP hr) zAn gk qr zAF (zC (qv (i:=1) zV rfl (vv 0)) zG)) zE) zG))))
  z3))))
noncomputable abbrev z8:Stmt:=zAQ (top 6) 1
noncomputable abbrev yg:List Str:=["self","key","thing"]
theorem Jr:jW yg ["self","key"] (zP z8):=⟨rfl,rfl,rfl,by decide +kernel,rfl,by decide +kernel,by decide +kernel⟩
theorem zBJ (zV:jt w K zB) (hr:RM 0 "Shelf.look" z8 A s f cdv):WS (cX P w K mg base yg "Shelf.look" z8 f cdv A outer s H E) (Θ1 w zB) (bd z8 0) M.q0:=by
 unfold M.q0
 exact (jQ (jC (zCm rfl hr) zCV (vv 1) (qv (i:=1) zV rfl (vv 0)) (by rfl))
  (zO (zo JR))
  z3)
theorem zBT (zV:jt w K zB) (hr:RM 0 "Shelf.look" z8 A s f cdv):WS (cX P w K mg base yg "Shelf.look" z8 f cdv A outer s H E) (Θ1 w zB) (bd z8 1) M.yp:=by
 unfold M.yp
 exact (jF (i:=2) Jr.nd rfl (Or.inl (by kernel_rfl)) (yi PySem.F.plainAttrs_dict PySem.F.slot_dict_pop PySem.F.type_dict_pop (zBq rfl hr) zBy rfl (qv (i:=1) zV rfl (vv 0)) (zC (vv 1) zG)))
theorem zBI (zV:jt w K zB) (hr:RM 0 "Shelf.look" z8 A s f cdv):WS (cX P w K mg base yg "Shelf.look" z8 f cdv A outer s H E) (Θ1 w zB) (bd z8 2) M.yu:=by
 unfold M.yu
 exact (Qg rfl hr (qv (i:=1) zV rfl (vv 0)) (vv 1) (vv 2))
theorem zBY (hr:RM 0 "Shelf.look" z8 A s f cdv):WS (cX P w K mg base yg "Shelf.look" z8 f cdv A outer s H E) (Θ1 w zB) (bd z8 3) M.yt:=by
 unfold M.yt
 exact (zo (vv 2))
theorem zCs (F:Fun K "look" "Shelf.look" z8 f fd) (zV:jt w K zB) :
  jd P w K mg base CX0 1 f fd ["self","key"] (SpM K (Θ1 w zB) 2 M.jp):=by
 refine qT (b:=M.yk) F Jr M.zC3 fun cdv A outer s H E hr=>?_
 unfold M.yk
 exact (zH (zBJ zV hr) (zH (zBT zV hr) (zH (zBI zV hr) (zO (zBY hr)))))
noncomputable abbrev j9:Stmt:=zAQ (top 6) 3
noncomputable abbrev zAX:List Str:=["self"]
theorem Jt:jW zAX ["self"] (zP j9):=⟨rfl,rfl,rfl,by decide +kernel,rfl,by decide +kernel,by decide +kernel⟩
theorem Ju (F:Fun K "keys_kept" "Shelf.keys_kept" j9 f fd) (zV:jt w K zB) (qr:mg "list" = none) :
  jd P w K mg base CX0 1 f fd ["self"] (SpM K (Θ1 w zB) 1 M.ju):=by
 refine qT (b:=M.qy) F Jt M.zAA fun cdv A outer s H E hr=>?_
 unfold M.qy
 exact (zO (zo (qb (JP hr) zAn gk qr zAF (zC (qv (i:=1) zV rfl (vv 0)) zG))))
noncomputable abbrev zY:Stmt:=top 18
noncomputable abbrev qA:List Str:=["_law_shelf","_law_due_here","_law_held","_law_first","_law_second"]
theorem Zf:jW qA ["_law_shelf","_law_due_here","_law_held"] (zP zY):=⟨rfl,rfl,rfl,by decide +kernel,rfl,by decide +kernel,by decide +kernel⟩
theorem zAw (zV:jt w K zB) (jH:qY P w K mg base zB) (hr:RM 1 "_law_stands" zY A s f cdv):WS (cX P w K mg base qA "_law_stands" zY f cdv A outer s H E) (Θ1 w zB) (bd zY 0) M.qS:=by
 unfold M.qS
 exact (jF (i:=3) Zf.nd rfl (Or.inl (by kernel_rfl)) (Jc zV jH hr (by decide) (by decide +kernel) (vv 0)))
theorem zAl (j8:mg "isinstance" = none) (qr:mg "list" = none) (hr:RM 1 "_law_stands" zY A s f cdv):WS (cX P w K mg base qA "_law_stands" zY f cdv A outer s H E) (Θ1 w zB) (bd zY 1) M.qR:=by
 unfold M.qR
 exact (jQ (QK (zEz (QP (Ze (qo zAi zDG gk j8 Zy (zC (vv 3) (zC (zB4 .list gk qr zAF) zG))))) (zAf (jC (zLW hr) zLp (vv 3) (vv 1) (jk _)))))
  (zO (zo zAH))
  z3)
theorem zAz (qr:mg "list" = none) (hr:RM 1 "_law_stands" zY A s f cdv):WS (cX P w K mg base qA "_law_stands" zY f cdv A outer s H E) (Θ1 w zB) (bd zY 2) M.qP:=by
 unfold M.qP
 exact (jw (yi PySem.F.plainAttrs_list PySem.F.slot_list_append PySem.F.type_list_append yI yH rfl (vv 2) (zC (yK (zC (vv 3) (zC (qb (JP hr) zAn gk qr zAF (zC (vv 3) zG)) zG))) zG)))
theorem zA4 (zV:jt w K zB) (jH:qY P w K mg base zB) (hr:RM 1 "_law_stands" zY A s f cdv):WS (cX P w K mg base qA "_law_stands" zY f cdv A outer s H E) (Θ1 w zB) (bd zY 3) M.qO:=by
 unfold M.qO
 exact (jF (i:=4) Zf.nd rfl (Or.inl (by kernel_rfl)) (Jc zV jH hr (by decide) (by decide +kernel) (vv 0)))
theorem zAj (hr:RM 1 "_law_stands" zY A s f cdv):WS (cX P w K mg base qA "_law_stands" zY f cdv A outer s H E) (Θ1 w zB) (bd zY 4) M.qU:=by
 unfold M.qU
 exact (jw (yi PySem.F.plainAttrs_list PySem.F.slot_list_append PySem.F.type_list_append yI yH rfl (vv 4) (zC (yK (zC zz zG)) zG)))
theorem zA2 (zV:jt w K zB) (jH:qY P w K mg base zB) (hr:RM 1 "_law_stands" zY A s f cdv):WS (cX P w K mg base qA "_law_stands" zY f cdv A outer s H E) (Θ1 w zB) (bd zY 5) M.qQ:=by
 unfold M.qQ
 exact (zo (zAy (qF hr) qh (Jc zV jH hr (by decide) (by decide +kernel) (vv 0)) (vv 1) (jk _)))
theorem zBr (F:Fun K "_law_stands" "_law_stands" zY f fd) (zV:jt w K zB) (jH:qY P w K mg base zB) (j8:mg "isinstance" = none) (qr:mg "list" = none) :
  jd P w K mg base CX0 2 f fd ["_law_shelf","_law_due_here","_law_held"] (SpM K (Θ1 w zB) 3 M.yQ):=by
 refine zAo (N:=qA) (b:=M.yR) F Zf fun cdv A outer s H E hr=>?_
 unfold M.yR
 exact (zH (zAw zV jH hr) (zH (zAl j8 qr hr) (zH (zAz qr hr) (zH (zA4 zV jH hr) (zH (zAj hr) (zO (zA2 zV jH hr)))))))
noncomputable abbrev yC:Stmt:=top 12
noncomputable abbrev zDk:List Str:=["_law_cell_here","_law_some"]
theorem Jq:jW zDk ["_law_cell_here"] (zP yC):=⟨rfl,rfl,rfl,by decide +kernel,rfl,by decide +kernel,by decide +kernel⟩
theorem zCn (F:Fun K "_law_thing" "_law_thing" yC f fd) (jr:mg "str" = none) :
  jd P w K mg base CX0 1 f fd ["_law_cell_here"] (SpM K (Θ1 w zB) 1 M.qg):=by
 refine qT (b:=M.ZR) F Jq M.zC0 fun cdv A outer s H E hr=>?_
 unfold M.ZR
 exact (zH (jF (i:=1) Jq.nd rfl (Or.inl (by kernel_rfl)) (qW (zC zE (zC zz (zC (yK zG) (zC (yK (zC JR zG)) (zC zz (zC (yK (zC zz (zC zz zG))) (zC (zJ jb jL (zJ jl jU (vv 0) zE) zE) (zC (yK (zC zz (zC (qb zCX zGb gk jr zGh (zC (zJ jb jL (zJ jl jU (vv 0) zE) zE) zG)) zG))) zG))))))))))
  (zO (zo (zn (jj rfl hr) z9 (vv 1) (zJ jb jL (vv 0) zE)))))
noncomputable abbrev jK:Stmt:=top 19
noncomputable abbrev ZE:List Str:=["_law_script","_law_bounds","_law_keys_here","_law_shelves","_law_used","_law_held","_law_deeds_here","_law_k","_law_cell_here","_law_at","_law_key_here","_law_due_here"]
theorem qf:jW ZE ["_law_script"] (zP jK):=⟨rfl,rfl,rfl,by decide +kernel,rfl,by decide +kernel,by decide +kernel⟩
theorem zHP:(["_law_script","_law_bounds","_law_keys_here","_law_shelves","_law_used","_law_held","_law_deeds_here","_law_k","_law_cell_here","_law_at","_law_key_here","_law_due_here","_law_pair"]:List Str).Nodup:=by decide +kernel
theorem zH2 (yG:QD P w K mg base zB) (jB:yU P w K mg base zB) (hr:RM 6 "law" jK A s f cdv):WS (cX P w K mg base ZE "law" jK f cdv A outer s H E) (Θ1 w zB) (bd jK 0) M.JH:=by
 unfold M.JH
 exact (jF (i:=1) qf.nd rfl (Or.inl (by kernel_rfl)) (qW (zC (zf yG hr (by decide) gk (zC (zf jB hr (by decide) gk (zC (vv 0) (zC zE zG)) (zM (zM z4))) zG) (zM z4)) (zC (zf yG hr (by decide) gk (zC (zJ jl jU (zf jB hr (by decide) gk (zC (vv 0) (zC zE zG)) (zM (zM z4))) zE) zG) (zM z4)) zG))))
theorem zH7 (qc:Zq P w K mg base zB) (jB:yU P w K mg base zB) (ZC:Qw P w K mg base zB) (hr:RM 6 "law" jK A s f cdv):WS (cX P w K mg base ZE "law" jK f cdv A outer s H E) (Θ1 w zB) (bd jK 1) M.JB:=by
 unfold M.JB
 exact (jF (i:=2) qf.nd rfl (Or.inl (by kernel_rfl)) (zf qc hr (by decide) gk (zC (zf jB hr (by decide) gk (zC (vv 0) (zC zE zG)) (zM (zM z4))) (zC (zf ZC hr (by decide) gk (zC (zf jB hr (by decide) gk (zC (vv 0) (zC zE zG)) (zM (zM z4))) zG) (zM z4)) zG)) (zM (zM z4))))
theorem zIR (zV:jt w K zB) (ji:yN P w K mg base zB) (hr:RM 6 "law" jK A s f cdv):WS (cX P w K mg base ZE "law" jK f cdv A outer s H E) (Θ1 w zB) (bd jK 2) M.JF:=by
 unfold M.JF
 exact (jF (i:=3) qf.nd rfl (Or.inl (by kernel_rfl)) (qW (zC (J5 zV ji hr (by decide) rfl gk (zC (zn (jj rfl hr) z9 (vv 1) zE) zG) (zM z4)) (zC (J5 zV ji hr (by decide) rfl gk (zC (zn (jj rfl hr) z9 (vv 1) zE) zG) (zM z4)) zG))))
theorem zHp (hr:RM 6 "law" jK A s f cdv):WS (cX P w K mg base ZE "law" jK f cdv A outer s H E) (Θ1 w zB) (bd jK 3) M.yq:=by
 unfold M.yq
 exact (jF (i:=4) qf.nd rfl (Or.inl (by kernel_rfl)) (qW (zC (qW zG) (zC (qW zG) zG))))
theorem zIC (hr:RM 6 "law" jK A s f cdv):WS (cX P w K mg base ZE "law" jK f cdv A outer s H E) (Θ1 w zB) (bd jK 4) M.Zh:=by
 unfold M.Zh
 exact (jF (i:=5) qf.nd rfl (Or.inl (by kernel_rfl)) (qW zG))
theorem zIQ (ym:QJ P w K mg base zB) (hr:RM 6 "law" jK A s f cdv):WS (cX P w K mg base ZE "law" jK f cdv A outer s H E) (Θ1 w zB) (bd jK 5) M.Zj:=by
 unfold M.Zj
 exact (jF (i:=6) qf.nd rfl (Or.inl (by kernel_rfl)) (zf ym hr (by decide) gk (zC (vv 0) zG) (zM z4)))
theorem zHg (zV:jt w K zB) (qc:Zq P w K mg base zB) (jB:yU P w K mg base zB) (ji:yN P w K mg base zB) (j0:ZZ P w K mg base zB) (qd:Zp P w K mg base zB) (qN:ZW P w K mg base zB) (zd:mg "range" = none) (qq:mg "len" = none) (hr:RM 6 "law" jK A s f cdv):WS (cX P w K mg base ZE "law" jK f cdv A outer s H E) (Θ1 w zB) (bd jK 6) M.ZM:=by
 unfold M.ZM
 exact (jQ (jC (qF hr) qh (zJ jb jL (zJ jl jU (zf jB hr (by decide) gk (zC (vv 0) (zC zE zG)) (zM (zM z4))) zE) zE) zE (jk _))
  (zH (Qg rfl hr (vv 1) zE (zJ (OpR.or yy qe) yB zE (zJ jb jL (zJ jl jU (zf jB hr (by decide) gk (zC (vv 0) (zC zE zG)) (zM (zM z4))) zE) zE)))
  (zH (Qg rfl hr (vv 3) zE (J5 zV ji hr (by decide) rfl gk (zC (zn (jj rfl hr) z9 (vv 1) zE) zG) (zM z4)))
  (zH (jF (i:=2) qf.nd rfl (Or.inl (by kernel_rfl)) (zf qc hr (by decide) gk (zC (zf jB hr (by decide) gk (zC (vv 0) (zC zE zG)) (zM (zM z4))) (zC (zJ (OpR.or yy qe) yB (zn (jj rfl hr) z9 (vv 1) zE) zE) zG)) (zM (zM z4))))
  (zO (QN PassesOwn.never rfl (qu gk zd (qo Zu Qz gk qq Js (zC (vv 2) zG))) (qa (i:=7) qf.nd rfl (Or.inl (by kernel_rfl)) (.inl rfl))
  (zH (jw (Qf zV qd hr (by decide) (by decide +kernel) (zn (jj rfl hr) z9 (vv 3) zE) (zC (zn (jj rfl hr) z9 (vv 2) (vv 7)) (zC (vv 7) zG)) (zM (zM z4))))
  (zH (jw (yi PySem.F.plainAttrs_list PySem.F.slot_list_append PySem.F.type_list_append yI yH rfl (zn (jj rfl hr) z9 (vv 4) zE) (zC (zn (jj rfl hr) z9 (vv 2) (vv 7)) zG)))
  (zO (jQ (jC (qF hr) qh (zJ jb jL (vv 7) zE) zE (jk _))
  (zH (jw (Qf zV qN hr (by decide) (by decide +kernel) (zn (jj rfl hr) z9 (vv 3) zE) (zC (zn (jj rfl hr) z9 (vv 2) (zJ jl jU (vv 7) zE)) zG) (zM z4)))
  (zO (jQ (jC (zDL rfl hr) zD2 (zn (jj rfl hr) z9 (vv 2) (zJ jl jU (vv 7) zE)) (zf j0 hr (by decide) gk (zC (zn (jj rfl hr) z9 (vv 4) zE) (zC (zn (jj rfl hr) z9 (vv 1) zE) zG)) (zM (zM z4))) (by rfl))
  (zO (jw (yi PySem.F.plainAttrs_list PySem.F.slot_list_append PySem.F.type_list_append yI yH rfl (zn (jj rfl hr) z9 (vv 4) zE) (zC (zn (jj rfl hr) z9 (vv 2) (zJ jl jU (vv 7) zE)) zG))))
  z3)))
  z3)))))))))
  z3)
theorem zHH (zV:jt w K zB) (j0:ZZ P w K mg base zB) (qd:Zp P w K mg base zB) (qN:ZW P w K mg base zB) (qC:ZD P w K mg base zB) (yn:QE P w K mg base zB) (Qk:mg "int" = none) (qq:mg "len" = none) (hr:RM 6 "law" jK A s f cdv):WS (cX P w K mg base ZE "law" jK f cdv A outer s H E) (Θ1 w zB) (bd jK 7) M.Z9:=by
 unfold M.Z9
 exact (QN PassesOwn.never rfl (zD6 (vv 6)) (qa (i:=8) qf.nd rfl (Or.inl (by kernel_rfl)) (.inl rfl))
  (zH (jF (i:=9) qf.nd rfl (Or.inl (by kernel_rfl)) (qb zGA zK5 gk Qk zGq (zC (zAy (qF hr) qh (zJ jb jL (vv 8) zE) zE (jk _)) zG)))
  (zH (jF (i:=10) qf.nd rfl (Or.inl (by kernel_rfl)) (zn (jj rfl hr) z9 (vv 2) (zJ jb jL (zJ jl jU (vv 8) zE) (qo Zu Qz gk qq Js (zC (vv 2) zG)))))
  (zH (jQ (jC zFe zC5 (zJ jb jL (zJ jl jU (vv 8) zE) zE) zE (jk _))
  (zH (jw (Qf zV qd hr (by decide) (by decide +kernel) (zn (jj rfl hr) z9 (vv 3) (vv 9)) (zC (vv 10) (zC (zf yn hr (by decide) gk (zC (zJ jl jU (vv 8) zE) zG) (zM z4)) zG)) (zM (zM z4))))
  (zO (jw (yi PySem.F.plainAttrs_list PySem.F.slot_list_append PySem.F.type_list_append yI yH rfl (zn (jj rfl hr) z9 (vv 4) (vv 9)) (zC (vv 10) zG)))))
  (zH (jw (Qf zV qN hr (by decide) (by decide +kernel) (zn (jj rfl hr) z9 (vv 3) (vv 9)) (zC (vv 10) zG) (zM z4)))
  (zO (jQ (jC (zDL rfl hr) zD2 (vv 10) (zf j0 hr (by decide) gk (zC (zn (jj rfl hr) z9 (vv 4) (vv 9)) (zC (zn (jj rfl hr) z9 (vv 1) (vv 9)) zG)) (zM (zM z4))) (by rfl))
  (zO (jw (yi PySem.F.plainAttrs_list PySem.F.slot_list_append PySem.F.type_list_append yI yH rfl (zn (jj rfl hr) z9 (vv 4) (vv 9)) (zC (vv 10) zG))))
  z3))))
  (zH (jF (i:=11) qf.nd rfl (Or.inl (by kernel_rfl)) (zf j0 hr (by decide) gk (zC (zn (jj rfl hr) z9 (vv 4) (vv 9)) (zC (zn (jj rfl hr) z9 (vv 1) (vv 9)) zG)) (zM (zM z4))))
  (zO (jQ (QK (zAm (jC (qF hr) qh (zJ jb jL (zJ jl jU (vv 8) zE) zE) zE (jk _)) (QY (QP (Ze (zf qC hr (by decide) gk (zC (zn (jj rfl hr) z9 (vv 3) (vv 9)) (zC (vv 11) (zC (vv 5) zG))) (zM (zM (zM z4)))))))))
  (zO (zo zAH))
  z3)))))))
theorem zIB (j0:ZZ P w K mg base zB) (qC:ZD P w K mg base zB) (zd:mg "range" = none) (hr:RM 6 "law" jK A s f cdv):WS (cX P w K mg base ZE "law" jK f cdv A outer s H E) (Θ1 w zB) (bd jK 8) M.QA:=by
 unfold M.QA
 exact (QN PassesOwn.never rfl (qu gk zd zE) (qa (i:=9) qf.nd rfl (Or.inl (by kernel_rfl)) (.inl rfl))
  (zH (jF (i:=11) qf.nd rfl (Or.inl (by kernel_rfl)) (zf j0 hr (by decide) gk (zC (zn (jj rfl hr) z9 (vv 4) (vv 9)) (zC (zn (jj rfl hr) z9 (vv 1) (vv 9)) zG)) (zM (zM z4))))
  (zO (jQ (QP (Ze (zf qC hr (by decide) gk (zC (zn (jj rfl hr) z9 (vv 3) (vv 9)) (zC (vv 11) (zC (vv 5) zG))) (zM (zM (zM z4))))))
  (zO (zo zAH))
  z3))))
theorem zGj (zBm:mg "all" = none) (hr:RM 6 "law" jK A s f cdv):WS (cX P w K mg base ZE "law" jK f cdv A outer s H E) (Θ1 w zB) (bd jK 9) M.Zg:=by
 unfold M.Zg
 exact (zo (zFE (zIH rfl) zJJ gk zBm zKd (vars:=["_law_pair"]) rfl ⟨rfl,rfl,(by kernel_rfl),(by kernel_rfl),(by decide +kernel),trivial,(by kernel_rfl)⟩ (zD6 (vv 5)) (fun _ _ _ _=>(qa (i:=12) zHP rfl (Or.inl (by kernel_rfl)) (.inr (by kernel_rfl)))) (fun _ _ _ _=>Qb) (fun _ _ _ _=>(zAy (qF hr) qh (zn (jj rfl hr) z9 (vv 12) zE) (zn (jj rfl hr) z9 (vv 12) zE) (jk _))) (by kernel_rfl)))
theorem zLT (F:Fun K "law" "law" jK f fd) (zV:jt w K zB) (qc:Zq P w K mg base zB) (ym:QJ P w K mg base zB) (yG:QD P w K mg base zB) (jB:yU P w K mg base zB) (ZC:Qw P w K mg base zB) (ji:yN P w K mg base zB) (j0:ZZ P w K mg base zB) (qd:Zp P w K mg base zB) (qN:ZW P w K mg base zB) (qC:ZD P w K mg base zB) (yn:QE P w K mg base zB) (zd:mg "range" = none) (zBm:mg "all" = none) (Qk:mg "int" = none) (qq:mg "len" = none) :
  jd P w K mg base CX0 7 f fd ["_law_script"] (SpM K (Θ1 w zB) 1 M.zBP):=by
 refine zAo (N:=ZE) (b:=M.zBD) F qf fun cdv A outer s H E hr=>?_
 unfold M.zBD
 exact (zH (zH2 yG jB hr) (zH (zH7 qc jB ZC hr) (zH (zIR zV ji hr) (zH (zHp hr) (zH (zIC hr) (zH (zIQ ym hr) (zH (zHg zV qc jB ji j0 qd qN zd qq hr) (zH (zHH zV j0 qd qN qC yn Qk qq hr) (zH (zIB j0 qC zd hr) (zO (zGj zBm hr)))))))))))
theorem zLb {l:PySem.W.OpenLaw}{w:World}{K:PySem.W.Frag}{h:Heap}{mg:Str->Option Value}{fa f1 f2 f3 f4 f5 f6 f7 f8 f9 f10 f11 f12 f13 f14 f15 f16 f17:Addr}{zB:Addr} (X:K.In h) (G:h.Ns mainGlobals mg) (hfa:mg "law" = some (.ref fa))
  {od1 an1 od2 an2 od3 an3 od4 an4 od5 an5 od6 an6 od7 an7 od8 an8 od9 an9 od10 an10 od11 an11 od12 an12 od13 an13 od14 an14 od15 an15 od16 an16 od17 an17:Option Addr}{sl1 sl2 sl3 sl4 sl5 sl6 sl7 sl8 sl9 sl10 sl11 sl12 sl13 sl14 sl15 sl16 sl17:Array (Option Value)}{oc1 kV1 dc1 pm1 cd1 ct1 oc2 kV2 dc2 pm2 cd2 ct2 oc3 kV3 dc3 pm3 cd3 ct3 oc4 kV4 dc4 pm4 cd4 ct4 oc5 kV5 dc5 pm5 cd5 ct5 oc6 kV6 dc6 pm6 cd6 ct6 oc7 kV7 dc7 pm7 cd7 ct7 oc8 kV8 dc8 pm8 cd8 ct8 oc9 kV9 dc9 pm9 cd9 ct9 oc10 kV10 dc10 pm10 cd10 ct10 oc11 kV11 dc11 pm11 cd11 ct11 oc12 kV12 dc12 pm12 cd12 ct12 oc13 kV13 dc13 pm13 cd13 ct13 oc14 kV14 dc14 pm14 cd14 ct14 oc15 kV15 dc15 pm15 cd15 ct15 oc16 kV16 dc16 pm16 cd16 ct16 oc17 kV17 dc17 pm17 cd17 ct17:Value}
  (zA5:PySem.W.nsIn K mainGlobals "Shelf" = some (some (.ref zB))) (zA6:PySem.W.plainGet K zB Str.empty=true) (zA7:PySem.W.hasDictIn K zB=true) (zA8:PySem.W.plainOver K zB=true) (zA9:PySem.W.findIn K (.ref zB) "__setattr__" = some (some (.builtin "object.__setattr__"))) (zBA:PySem.W.makesIn K zB=true) (zBB:PySem.W.keepIn K (.ref zB)=true)
  (Jm:PySem.W.findIn K (.ref zB) "bound" = some none)
  (Jn:PySem.W.findIn K (.ref zB) "kept" = some none)
  (a1:PySem.W.nsIn K mainGlobals "_law_mixed" = some (some (.ref f1))) (l1:K.lookup f1=some ⟨oc1,od1,.func (PySem.W.fnOf "_law_mixed" "_law_mixed" (jf yA) (jJ yA) (zP yA) .none kV1 dc1 pm1 an1 cd1 ct1),sl1⟩) (c1:PySem.W.codeIn K cd1 "_law_mixed" = true) (k1:PySem.W.keepIn K (.ref f1)=true)
  (a2:PySem.W.nsIn K mainGlobals "_law_part" = some (some (.ref f2))) (l2:K.lookup f2=some ⟨oc2,od2,.func (PySem.W.fnOf "_law_part" "_law_part" (jf zT) (jJ zT) (zP zT) .none kV2 dc2 pm2 an2 cd2 ct2),sl2⟩) (c2:PySem.W.codeIn K cd2 "_law_part" = true) (k2:PySem.W.keepIn K (.ref f2)=true)
  (a3:PySem.W.nsIn K mainGlobals "_law_key" = some (some (.ref f3))) (l3:K.lookup f3=some ⟨oc3,od3,.func (PySem.W.fnOf "_law_key" "_law_key" (jf yr) (jJ yr) (zP yr) .none kV3 dc3 pm3 an3 cd3 ct3),sl3⟩) (c3:PySem.W.codeIn K cd3 "_law_key" = true) (k3:PySem.W.keepIn K (.ref f3)=true)
  (a4:PySem.W.nsIn K mainGlobals "_law_keys" = some (some (.ref f4))) (l4:K.lookup f4=some ⟨oc4,od4,.func (PySem.W.fnOf "_law_keys" "_law_keys" (jf yV) (jJ yV) (zP yV) .none kV4 dc4 pm4 an4 cd4 ct4),sl4⟩) (c4:PySem.W.codeIn K cd4 "_law_keys" = true) (k4:PySem.W.keepIn K (.ref f4)=true)
  (a5:PySem.W.nsIn K mainGlobals "_law_cell" = some (some (.ref f5))) (l5:K.lookup f5=some ⟨oc5,od5,.func (PySem.W.fnOf "_law_cell" "_law_cell" (jf yY) (jJ yY) (zP yY) .none kV5 dc5 pm5 an5 cd5 ct5),sl5⟩) (c5:PySem.W.codeIn K cd5 "_law_cell" = true) (k5:PySem.W.keepIn K (.ref f5)=true)
  (a6:PySem.W.nsIn K mainGlobals "_law_deeds" = some (some (.ref f6))) (l6:K.lookup f6=some ⟨oc6,od6,.func (PySem.W.fnOf "_law_deeds" "_law_deeds" (jf q8) (jJ q8) (zP q8) .none kV6 dc6 pm6 an6 cd6 ct6),sl6⟩) (c6:PySem.W.codeIn K cd6 "_law_deeds" = true) (k6:PySem.W.keepIn K (.ref f6)=true)
  (a7:PySem.W.nsIn K mainGlobals "_law_bound" = some (some (.ref f7))) (l7:K.lookup f7=some ⟨oc7,od7,.func (PySem.W.fnOf "_law_bound" "_law_bound" (jf q9) (jJ q9) (zP q9) .none kV7 dc7 pm7 an7 cd7 ct7),sl7⟩) (c7:PySem.W.codeIn K cd7 "_law_bound" = true) (k7:PySem.W.keepIn K (.ref f7)=true)
  (a8:PySem.W.nsIn K mainGlobals "_law_many" = some (some (.ref f8))) (l8:K.lookup f8=some ⟨oc8,od8,.func (PySem.W.fnOf "_law_many" "_law_many" (jf yX) (jJ yX) (zP yX) .none kV8 dc8 pm8 an8 cd8 ct8),sl8⟩) (c8:PySem.W.codeIn K cd8 "_law_many" = true) (k8:PySem.W.keepIn K (.ref f8)=true)
  (a9:PySem.W.nsIn K mainGlobals "is_bound" = some (some (.ref f9))) (l9:K.lookup f9=some ⟨oc9,od9,.func (PySem.W.fnOf "is_bound" "is_bound" (jf yx) (jJ yx) (zP yx) .none kV9 dc9 pm9 an9 cd9 ct9),sl9⟩) (c9:PySem.W.codeIn K cd9 "is_bound" = true) (k9:PySem.W.keepIn K (.ref f9)=true)
  (a10:PySem.W.findIn K (.ref zB) "__init__" = some (some (.ref f10))) (i10:PySem.W.isFn K (.ref f10)=true) (l10:K.lookup f10=some ⟨oc10,od10,.func (PySem.W.fnOf "__init__" "Shelf.__init__" (jf qI) (jJ qI) (zP qI) .none kV10 dc10 pm10 an10 cd10 ct10),sl10⟩) (c10:PySem.W.codeIn K cd10 "Shelf.__init__" = true) (k10:PySem.W.keepIn K (.ref f10)=true)
  (a11:PySem.W.nsIn K mainGlobals "_law_due" = some (some (.ref f11))) (l11:K.lookup f11=some ⟨oc11,od11,.func (PySem.W.fnOf "_law_due" "_law_due" (jf y4) (jJ y4) (zP y4) .none kV11 dc11 pm11 an11 cd11 ct11),sl11⟩) (c11:PySem.W.codeIn K cd11 "_law_due" = true) (k11:PySem.W.keepIn K (.ref f11)=true)
  (a12:PySem.W.findIn K (.ref zB) "lay" = some (some (.ref f12))) (i12:PySem.W.isFn K (.ref f12)=true) (l12:K.lookup f12=some ⟨oc12,od12,.func (PySem.W.fnOf "lay" "Shelf.lay" (jf yW) (jJ yW) (zP yW) .none kV12 dc12 pm12 an12 cd12 ct12),sl12⟩) (c12:PySem.W.codeIn K cd12 "Shelf.lay" = true) (k12:PySem.W.keepIn K (.ref f12)=true)
  (a13:PySem.W.findIn K (.ref zB) "look" = some (some (.ref f13))) (i13:PySem.W.isFn K (.ref f13)=true) (l13:K.lookup f13=some ⟨oc13,od13,.func (PySem.W.fnOf "look" "Shelf.look" (jf z8) (jJ z8) (zP z8) .none kV13 dc13 pm13 an13 cd13 ct13),sl13⟩) (c13:PySem.W.codeIn K cd13 "Shelf.look" = true) (k13:PySem.W.keepIn K (.ref f13)=true)
  (a14:PySem.W.findIn K (.ref zB) "keys_kept" = some (some (.ref f14))) (i14:PySem.W.isFn K (.ref f14)=true) (l14:K.lookup f14=some ⟨oc14,od14,.func (PySem.W.fnOf "keys_kept" "Shelf.keys_kept" (jf j9) (jJ j9) (zP j9) .none kV14 dc14 pm14 an14 cd14 ct14),sl14⟩) (c14:PySem.W.codeIn K cd14 "Shelf.keys_kept" = true) (k14:PySem.W.keepIn K (.ref f14)=true)
  (a15:PySem.W.nsIn K mainGlobals "_law_stands" = some (some (.ref f15))) (l15:K.lookup f15=some ⟨oc15,od15,.func (PySem.W.fnOf "_law_stands" "_law_stands" (jf zY) (jJ zY) (zP zY) .none kV15 dc15 pm15 an15 cd15 ct15),sl15⟩) (c15:PySem.W.codeIn K cd15 "_law_stands" = true) (k15:PySem.W.keepIn K (.ref f15)=true)
  (a16:PySem.W.nsIn K mainGlobals "_law_thing" = some (some (.ref f16))) (l16:K.lookup f16=some ⟨oc16,od16,.func (PySem.W.fnOf "_law_thing" "_law_thing" (jf yC) (jJ yC) (zP yC) .none kV16 dc16 pm16 an16 cd16 ct16),sl16⟩) (c16:PySem.W.codeIn K cd16 "_law_thing" = true) (k16:PySem.W.keepIn K (.ref f16)=true)
  (a17:PySem.W.nsIn K mainGlobals "law" = some (some (.ref f17))) (l17:K.lookup f17=some ⟨oc17,od17,.func (PySem.W.fnOf "law" "law" (jf jK) (jJ jK) (zP jK) .none kV17 dc17 pm17 an17 cd17 ct17),sl17⟩) (c17:PySem.W.codeIn K cd17 "law" = true) (k17:PySem.W.keepIn K (.ref f17)=true)
  (z_str:PySem.W.nsIn K mainGlobals "str" = some none)
  (z_tuple:PySem.W.nsIn K mainGlobals "tuple" = some none)
  (z_range:PySem.W.nsIn K mainGlobals "range" = some none)
  (z_len:PySem.W.nsIn K mainGlobals "len" = some none)
  (z_isinstance:PySem.W.nsIn K mainGlobals "isinstance" = some none)
  (z_bool:PySem.W.nsIn K mainGlobals "bool" = some none)
  (z_int:PySem.W.nsIn K mainGlobals "int" = some none)
  (z_list:PySem.W.nsIn K mainGlobals "list" = some none)
  (z_all:PySem.W.nsIn K mainGlobals "all" = some none)
  {u_MOST_KEYS:Value} (v_MOST_KEYS:PySem.W.nsIn K mainGlobals "MOST_KEYS" = some (some u_MOST_KEYS)) (r_MOST_KEYS:zKx (.int 1000) u_MOST_KEYS=true)
  : ∃ fd:FuncData,(∀ (s:Shared) (v:Value),BindsTo s fd ⟨[v],[]⟩ [("_law_script",v)])/\fd.scope.names.lookup ("_law_script" : Str)=some .local/\∀ base:Heap,K.In base->base.Ns mainGlobals mg->jd l.prog w K mg base CX0 7 fa fd ["_law_script"] (zC7 K):=by
 have e:=hfa.symm.trans (PySem.W.mg_of X G a17)
 cases e
 have F1:=qM (x := "_law_mixed") (qual := "_law_mixed") (st:=yA) l1 c1 k1
 have B1:=F1.binds (ps:=["_law_cell_here","_law_k"]) fun _ _ _ _ _ _ us hl=>match us,hl with | [_,_],_=>rfl
 have F2:=qM (x := "_law_part") (qual := "_law_part") (st:=zT) l2 c2 k2
 have B2:=F2.binds (ps:=["_law_cell_here","_law_deep"]) fun _ _ _ _ _ _ us hl=>match us,hl with | [_,_],_=>rfl
 have F3:=qM (x := "_law_key") (qual := "_law_key") (st:=yr) l3 c3 k3
 have B3:=F3.binds (ps:=["_law_cell_here"]) fun _ _ _ _ _ _ us hl=>match us,hl with | [_],_=>rfl
 have F4:=qM (x := "_law_keys") (qual := "_law_keys") (st:=yV) l4 c4 k4
 have B4:=F4.binds (ps:=["_law_cell_here","_law_many_here"]) fun _ _ _ _ _ _ us hl=>match us,hl with | [_,_],_=>rfl
 have F5:=qM (x := "_law_cell") (qual := "_law_cell") (st:=yY) l5 c5 k5
 have B5:=F5.binds (ps:=["_law_script","_law_k"]) fun _ _ _ _ _ _ us hl=>match us,hl with | [_,_],_=>rfl
 have F6:=qM (x := "_law_deeds") (qual := "_law_deeds") (st:=q8) l6 c6 k6
 have B6:=F6.binds (ps:=["_law_script"]) fun _ _ _ _ _ _ us hl=>match us,hl with | [_],_=>rfl
 have F7:=qM (x := "_law_bound") (qual := "_law_bound") (st:=q9) l7 c7 k7
 have B7:=F7.binds (ps:=["_law_cell_here"]) fun _ _ _ _ _ _ us hl=>match us,hl with | [_],_=>rfl
 have F8:=qM (x := "_law_many") (qual := "_law_many") (st:=yX) l8 c8 k8
 have B8:=F8.binds (ps:=["_law_cell_here"]) fun _ _ _ _ _ _ us hl=>match us,hl with | [_],_=>rfl
 have F9:=qM (x := "is_bound") (qual := "is_bound") (st:=yx) l9 c9 k9
 have B9:=F9.binds (ps:=["thing"]) fun _ _ _ _ _ _ us hl=>match us,hl with | [_],_=>rfl
 have F10:=qM (x := "__init__") (qual := "Shelf.__init__") (st:=qI) l10 c10 k10
 have B10:=F10.binds (ps:=["self","bound"]) fun _ _ _ _ _ _ us hl=>match us,hl with | [_,_],_=>rfl
 have F11:=qM (x := "_law_due") (qual := "_law_due") (st:=y4) l11 c11 k11
 have B11:=F11.binds (ps:=["_law_used","_law_bound_here"]) fun _ _ _ _ _ _ us hl=>match us,hl with | [_,_],_=>rfl
 have F12:=qM (x := "lay") (qual := "Shelf.lay") (st:=yW) l12 c12 k12
 have B12:=F12.binds (ps:=["self","key","thing"]) fun _ _ _ _ _ _ us hl=>match us,hl with | [_,_,_],_=>rfl
 have F13:=qM (x := "look") (qual := "Shelf.look") (st:=z8) l13 c13 k13
 have B13:=F13.binds (ps:=["self","key"]) fun _ _ _ _ _ _ us hl=>match us,hl with | [_,_],_=>rfl
 have F14:=qM (x := "keys_kept") (qual := "Shelf.keys_kept") (st:=j9) l14 c14 k14
 have B14:=F14.binds (ps:=["self"]) fun _ _ _ _ _ _ us hl=>match us,hl with | [_],_=>rfl
 have F15:=qM (x := "_law_stands") (qual := "_law_stands") (st:=zY) l15 c15 k15
 have B15:=F15.binds (ps:=["_law_shelf","_law_due_here","_law_held"]) fun _ _ _ _ _ _ us hl=>match us,hl with | [_,_,_],_=>rfl
 have F16:=qM (x := "_law_thing") (qual := "_law_thing") (st:=yC) l16 c16 k16
 have B16:=F16.binds (ps:=["_law_cell_here"]) fun _ _ _ _ _ _ us hl=>match us,hl with | [_],_=>rfl
 have F17:=qM (x := "law") (qual := "law") (st:=jK) l17 c17 k17
 have jr:=PySem.W.mg_none_of X G z_str
 have jM:=PySem.W.mg_none_of X G z_tuple
 have zd:=PySem.W.mg_none_of X G z_range
 have qq:=PySem.W.mg_none_of X G z_len
 have j8:=PySem.W.mg_none_of X G z_isinstance
 have zEN:=PySem.W.mg_none_of X G z_bool
 have Qk:=PySem.W.mg_none_of X G z_int
 have qr:=PySem.W.mg_none_of X G z_list
 have zBm:=PySem.W.mg_none_of X G z_all
 have Qy:zDO mg "MOST_KEYS" (.int 1000):=⟨_,PySem.W.mg_of X G v_MOST_KEYS,zJF r_MOST_KEYS⟩
 have zV:jt w K zB:=⟨rfl,⟨zA6,zA7,zA8,zA9⟩,zEu Jm (zEu Jn (fun f hf=>nomatch hf)),by decide +kernel,by decide +kernel⟩
 refine⟨(PySem.W.fnOf "law" "law" (jf jK) (jJ jK) (zP jK) .none kV17 dc17 pm17 an17 cd17 ct17),fun s v=>.of_eq rfl,by kernel_rfl,fun base _ _=>?_⟩
 have zS:jO l.prog w K mg base zB:=⟨⟨_,_,zCy F1,B1,k1,PySem.W.mg_of X G a1⟩⟩
 have ze:zAa l.prog w K mg base zB:=⟨⟨_,_,Jx F2 B2 k2 (PySem.W.mg_of X G a2) zS jr jM zd 3,B2,k2,PySem.W.mg_of X G a2⟩⟩
 have Jk:zBW l.prog w K mg base zB:=⟨⟨_,_,zER F3 ze zS jM zd,B3,k3,PySem.W.mg_of X G a3⟩⟩
 have qc:Zq l.prog w K mg base zB:=⟨⟨_,_,zEH F4 Jk zS zd,B4,k4,PySem.W.mg_of X G a4⟩⟩
 have jB:yU l.prog w K mg base zB:=⟨⟨_,_,zDg F5 qq,B5,k5,PySem.W.mg_of X G a5⟩⟩
 have ym:QJ l.prog w K mg base zB:=⟨⟨_,_,zC1 F6 jB zS zd,B6,k6,PySem.W.mg_of X G a6⟩⟩
 have yG:QD l.prog w K mg base zB:=⟨⟨_,_,zCw F7,B7,k7,PySem.W.mg_of X G a7⟩⟩
 have ZC:Qw l.prog w K mg base zB:=⟨⟨_,_,zDD F8,B8,k8,PySem.W.mg_of X G a8⟩⟩
 have Jl:zBk l.prog w K mg base zB:=⟨⟨_,_,zEP F9 j8 zEN Qk Qy,B9,k9,PySem.W.mg_of X G a9⟩⟩
 have ji:yN l.prog w K mg base zB:=⟨⟨_,_,zAW F10 zV Jl,B10,⟨zBA,a10,i10,zBB⟩,PySem.W.mg_of X G zA5⟩⟩
 have j0:ZZ l.prog w K mg base zB:=⟨⟨_,_,zEO F11 qq,B11,k11,PySem.W.mg_of X G a11⟩⟩
 have qd:Zp l.prog w K mg base zB:=⟨⟨_,_,zEI F12 zV qq qr,B12,⟨a12,i12,k12⟩⟩⟩
 have qN:ZW l.prog w K mg base zB:=⟨⟨_,_,zCs F13 zV,B13,⟨a13,i13,k13⟩⟩⟩
 have jH:qY l.prog w K mg base zB:=⟨⟨_,_,Ju F14 zV qr,B14,⟨a14,i14,k14⟩⟩⟩
 have qC:ZD l.prog w K mg base zB:=⟨⟨_,_,zBr F15 zV jH j8 qr,B15,k15,PySem.W.mg_of X G a15⟩⟩
 have yn:QE l.prog w K mg base zB:=⟨⟨_,_,zCn F16 jr,B16,k16,PySem.W.mg_of X G a16⟩⟩
 exact (zLT F17 zV qc ym yG jB ZC ji j0 qd qN qC yn zd zBm Qk qq).imp fun _ _ _ _ h=>h _
theorem zMk {l:PySem.W.OpenLaw}{q:Program}{loose:List Str}{XP:(Str->Option Value)->Heap->Prop}{YP:World->Heap->Prop}{d:DefRec}{K:Params->PySem.W.Frag} (hn:l.most=some 63) (hdf:d.params.defaults=[])
  (hY:∀ (w:World) (h:Heap),YP w h->(K w.params).In h)
  (F:∀ (w:World) (mg:Str->Option Value) (fa:Addr) (h:Heap),(K w.params).In h->h.Ns mainGlobals mg->mg d.name=some (.ref fa) ->
   ∃ fd:FuncData,(∀ (s:Shared) (u:Value),BindsTo s fd ⟨[u],[]⟩ [("_law_script",u)])/\fd.scope.names.lookup ("_law_script" : Str)=some .local/\∀ base:Heap,(K w.params).In base->base.Ns mainGlobals mg->jd l.prog w (K w.params) mg base CX0 7 fa fd ["_law_script"] (zC7 (K w.params))) :
  PySem.W.WalkO q loose XP YP l.row.toRowW d [] (fun f vs=>PySem.call f vs) :=
 L2.zJK (n:=63) (k:=7) (x := "_law_script") (CX:=fun _=>CX0) (sp:=fun w=>zC7 (K w.params)) hn (by decide) hdf ⟨rfl,by decide,by decide⟩ hY F (fun _ _ _ _ hl hO hS=>zHs hl hO hS) fun _ _ _ _ _ z=>z
end My
theorem PySem.W.Fast.tw18133339598258241343:True:=trivial
theorem PySem.W.Fast.tw11907206192972906758:True:=trivial
theorem PySem.W.Fast.tw13107640453784916833:True:=trivial
theorem PySem.W.Fast.tw8133832002949760689:True:=trivial
theorem PySem.W.Fast.tw16336729891473724570:True:=trivial
theorem PySem.W.Fast.tw7177271206448865573:True:=trivial
theorem PySem.W.Fast.tw16343070863783246405:True:=trivial
theorem PySem.W.Fast.tw1217566811713474441:True:=trivial
theorem PySem.W.Fast.tw6040399741382118729:True:=trivial
theorem PySem.W.Fast.tw9774374129931746186:True:=trivial
theorem PySem.W.Fast.tw1756217889379849611:True:=trivial
theorem PySem.W.Fast.tw11249753189200140611:True:=trivial
theorem PySem.W.Fast.tw1123827732774318680:True:=trivial
theorem PySem.W.Fast.tw2196238825077374014:True:=trivial
theorem PySem.W.Fast.tw7386254684098811742:True:=trivial
theorem PySem.W.Fast.tw10972521232113949403:True:=trivial
theorem PySem.W.Fast.tw5592792059245788051:True:=trivial
theorem PySem.W.Fast.tw290391118018982286:True:=trivial
theorem PySem.W.Fast.tw13418992386669925971:True:=trivial
theorem PySem.W.Fast.tw1997724163215803625:True:=trivial
theorem PySem.W.Fast.tw6905680667887126110:True:=trivial
theorem PySem.W.Fast.tw13420382249050912956:True:=trivial
theorem PySem.W.Fast.tw8180440669610357935:True:=trivial
theorem PySem.W.Fast.tw9384606193220975076:True:=trivial
theorem PySem.W.Fast.tw5855345526715791248:True:=trivial
theorem PySem.W.Fast.tw7181352836181335633:True:=trivial
theorem PySem.W.Fast.tw16288711025157798869:True:=trivial
theorem PySem.W.Fast.tw14571997054896134162:True:=trivial
theorem PySem.W.Fast.tw3762469890748871818:True:=trivial
theorem PySem.W.Fast.tw2333544208488990324:True:=trivial
theorem PySem.W.Fast.tw6898008330439915760:True:=trivial
theorem PySem.W.Fast.tw1813289846538620259:True:=trivial
theorem PySem.W.Fast.tw1215129145048767808:True:=trivial
theorem PySem.W.Fast.tw5269371334176973319:True:=trivial
theorem PySem.W.Fast.tw9035160124726708170:True:=trivial
theorem PySem.W.Fast.tw9957841352578569890:True:=trivial
theorem PySem.W.Fast.tw10710936210519049967:True:=trivial
theorem PySem.W.Fast.tw16464368309749274383:True:=trivial
theorem PySem.W.Fast.tw5886628526325595503:True:=trivial
theorem PySem.W.Fast.tw8668466281782520654:True:=trivial
theorem PySem.W.Fast.tw18376206018894648993:True:=trivial
theorem PySem.W.Fast.tw12681954346492782617:True:=trivial
theorem PySem.W.Fast.tw13466706979398763963:True:=trivial
theorem PySem.W.Fast.tw15279286682857692922:True:=trivial
open PySem PySem.W PyProof.Rows
set_option maxRecDepth 100000 in
set_option maxHeartbeats 0 in
theorem PySem.Challenge.cw_thingyard_k53_keys_in_order_holds : PySem.Challenge.rw_thingyard_k53_keys_in_order.Holds := by
 w_on;o_law;k_head;(case hw=>w_witness2)
 k_fill
 refine My.zMk (l:=PySem.Challenge.rw_thingyard_k53_keys_in_order) rfl rfl (fun w h Y=>PySem.W.kIn_of Y) ?F
 case F =>
  intro w mg fa h KX G hmg
  refine' My.zLb KX G hmg ?zA5 ?zA6 ?zA7 ?zA8 ?zA9 ?zBA ?zBB ?Jm ?Jn ?a1 ?l1 ?c1 ?k1 ?a2 ?l2 ?c2 ?k2 ?a3 ?l3 ?c3 ?k3 ?a4 ?l4 ?c4 ?k4 ?a5 ?l5 ?c5 ?k5 ?a6 ?l6 ?c6 ?k6 ?a7 ?l7 ?c7 ?k7 ?a8 ?l8 ?c8 ?k8 ?a9 ?l9 ?c9 ?k9 ?a10 ?i10 ?l10 ?c10 ?k10 ?a11 ?l11 ?c11 ?k11 ?a12 ?i12 ?l12 ?c12 ?k12 ?a13 ?i13 ?l13 ?c13 ?k13 ?a14 ?i14 ?l14 ?c14 ?k14 ?a15 ?l15 ?c15 ?k15 ?a16 ?l16 ?c16 ?k16 ?a17 ?l17 ?c17 ?k17 ?z_str ?z_tuple ?z_range ?z_len ?z_isinstance ?z_bool ?z_int ?z_list ?z_all ?v_MOST_KEYS ?r_MOST_KEYS
  (case zA5=>k_is)
  (case zA6=>k_is)
  (case zA7=>k_is)
  (case zA8=>k_is)
  (case zA9=>k_is)
  (case zBA=>k_is)
  (case zBB=>k_is)
  (case Jm=>k_is)
  (case Jn=>k_is)
  (case a1=>k_is)
  (case l1=>k_is)
  (case c1=>k_is)
  (case k1=>k_is)
  (case a2=>k_is)
  (case l2=>k_is)
  (case c2=>k_is)
  (case k2=>k_is)
  (case a3=>k_is)
  (case l3=>k_is)
  (case c3=>k_is)
  (case k3=>k_is)
  (case a4=>k_is)
  (case l4=>k_is)
  (case c4=>k_is)
  (case k4=>k_is)
  (case a5=>k_is)
  (case l5=>k_is)
  (case c5=>k_is)
  (case k5=>k_is)
  (case a6=>k_is)
  (case l6=>k_is)
  (case c6=>k_is)
  (case k6=>k_is)
  (case a7=>k_is)
  (case l7=>k_is)
  (case c7=>k_is)
  (case k7=>k_is)
  (case a8=>k_is)
  (case l8=>k_is)
  (case c8=>k_is)
  (case k8=>k_is)
  (case a9=>k_is)
  (case l9=>k_is)
  (case c9=>k_is)
  (case k9=>k_is)
  (case a10=>k_is)
  (case i10=>k_is)
  (case l10=>k_is)
  (case c10=>k_is)
  (case k10=>k_is)
  (case a11=>k_is)
  (case l11=>k_is)
  (case c11=>k_is)
  (case k11=>k_is)
  (case a12=>k_is)
  (case i12=>k_is)
  (case l12=>k_is)
  (case c12=>k_is)
  (case k12=>k_is)
  (case a13=>k_is)
  (case i13=>k_is)
  (case l13=>k_is)
  (case c13=>k_is)
  (case k13=>k_is)
  (case a14=>k_is)
  (case i14=>k_is)
  (case l14=>k_is)
  (case c14=>k_is)
  (case k14=>k_is)
  (case a15=>k_is)
  (case l15=>k_is)
  (case c15=>k_is)
  (case k15=>k_is)
  (case a16=>k_is)
  (case l16=>k_is)
  (case c16=>k_is)
  (case k16=>k_is)
  (case a17=>k_is)
  (case l17=>k_is)
  (case c17=>k_is)
  (case k17=>k_is)
  (case z_str=>k_is)
  (case z_tuple=>k_is)
  (case z_range=>k_is)
  (case z_len=>k_is)
  (case z_isinstance=>k_is)
  (case z_bool=>k_is)
  (case z_int=>k_is)
  (case z_list=>k_is)
  (case z_all=>k_is)
  (case v_MOST_KEYS=>k_is)
  (case r_MOST_KEYS=>rfl)
