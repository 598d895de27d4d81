import PyProof.Rows.All
import Wide.All
import OpenK.AllK
import Wide.FinOn
import Lean
import PyProof.EqAt
import PyProof.EqKinds
import PyProof.TupleCall
import PySem.Challenge.RW_thingyard_k51_keys_apart
set_option Elab.async false
set_option linter.all false
set_option maxRecDepth 100000
noncomputable section
namespace L2
open PySem PySem.Spec PyProof.Rows
noncomputable abbrev Key:=Sum Int Str
noncomputable def Jo:Key->Value->Bool
 | .inl k,v=>Value.isInt k v
 | .inr x,v=>Value.isStrOf x v
noncomputable def zL9 (w:World):Key->Int
 | .inl k=>hashInt k
 | .inr x=>hashStr w x
theorem jw:∀ {k:Key}{v:Value},Jo k v=true->(∃ i t,k=Sum.inl i/\v=Value.int i t)\/(∃ x t,k=Sum.inr x/\v=Value.str x t)
 | .inl i,v,h=>by
  obtain⟨t,e⟩:=Value.isInt_shape (k:=i) (v:=v) h
  exact .inl ⟨i,t,rfl,e⟩
 | .inr x,v,h=>by
  obtain⟨t,e⟩:=Value.isStrOf_shape (x:=x) (v:=v) h
  exact .inr ⟨x,t,rfl,e⟩
theorem zFO (i:Int) (t:Tok):Jo (.inl i) (.int i t)=true:=by simp[Jo,Value.isInt]
theorem zFU (x:Str) (t:Tok):Jo (.inr x) (.str x t)=true:=by simp[Jo,Value.isStrOf]
theorem zJY (a b:Int):decide ((Sum.inl a:Key)=Sum.inl b)=(a == b):=by
 by_cases e:a=b
 ·subst e;simp
 ·have h:¬ (Sum.inl a:Key)=Sum.inl b:=fun q=>e (Sum.inl.inj q)
  rw[decide_eq_false h]
  exact (beq_eq_false_iff_ne.mpr e).symm
theorem zJr (a b:Str):decide ((Sum.inr a:Key)=Sum.inr b)=decide (a=b):=by
 by_cases e:a=b
 ·subst e;simp
 ·have h:¬ (Sum.inr a:Key)=Sum.inr b:=fun q=>e (Sum.inr.inj q)
  rw[decide_eq_false h,decide_eq_false e]
theorem zKP (a:Int) (b:Str):decide ((Sum.inl a:Key)=Sum.inr b)=false:=decide_eq_false (fun q=>nomatch q)
theorem zJz (a:Str) (b:Int):decide ((Sum.inr a:Key)=Sum.inl b)=false:=decide_eq_false (fun q=>nomatch q)
noncomputable def qA (prog:Program) (w:World):PySem.KeyKind prog w Key where
 is:=Jo
 hash:=zL9 w
 inj:=fun v a b ha hb=>by
  rcases jw ha with ⟨i,t,rfl,rfl⟩ | ⟨x,t,rfl,rfl⟩
  ·rcases jw hb with ⟨j,u,rfl,e⟩ | ⟨y,u,rfl,e⟩
   ·injection e with e1 _;rw[e1]
   ·exact nomatch e
  ·rcases jw hb with ⟨j,u,rfl,e⟩ | ⟨y,u,rfl,e⟩
   ·exact nomatch e
   ·injection e with e1 _;rw[e1]
 byValue:=fun k v h=>by
  rcases jw h with ⟨i,t,rfl,rfl⟩ | ⟨x,t,rfl,rfl⟩<;>rfl
 pyHash:=fun hv h=>by
  rcases jw hv with ⟨i,t,rfl,rfl⟩ | ⟨x,t,rfl,rfl⟩
  ·exact wpAny_pyHash_int h
  ·exact wpAny_pyHash_str h
 eqBool:=fun hu hv h=>by
  rcases jw hu with ⟨i,t,rfl,rfl⟩ | ⟨x,t,rfl,rfl⟩
  ·rcases jw hv with ⟨j,u,rfl,rfl⟩ | ⟨y,u,rfl,rfl⟩
   ·rw[zJY] at h;exact wpAny_eqBool_int h
   ·rw[zKP] at h;exact SeqAt.EqAt.int_str i t y u _ _ _ _ h
  ·rcases jw hv with ⟨j,u,rfl,rfl⟩ | ⟨y,u,rfl,rfl⟩
   ·rw[zJz] at h;exact SeqAt.EqAt.str_int x t j u _ _ _ _ h
   ·rw[zJr] at h;exact wpAny_eqBool_str h
 «strs» := fun k x t v h=>by
  rcases jw h with ⟨i,u,rfl,e⟩ | ⟨y,u,rfl,e⟩
  ·exact nomatch e
  ·injection e with e1 _
   subst e1
   cases v<;>rfl
theorem zDl (prog:Program) (w:World) (i:Int) (t:Tok):(qA prog w).is (.inl i) (.int i t)=true:=zFO i t
theorem zDs (prog:Program) (w:World) (x:Str) (t:Tok):(qA prog w).is (.inr x) (.str x t)=true:=zFU x t
end L2
namespace L2
open PySem PySem.Spec PyProof.Rows
inductive V where
 | non | bl (b:Bool) | int (i:Int) | str (x:Str) | byt (b:Array UInt8) | flt (b:UInt64) | ref (a:Addr) | ty (n:String)
 deriving DecidableEq
noncomputable def zY:V->Value->Prop
 | .non,u=>u=Value.none
 | .bl b,u=>u=Value.bool b
 | .int i,u=>∃ t,u=Value.int i t
 | .str x,u=>∃ t,u=Value.str x t
 | .byt b,u=>∃ t,u=Value.bytes b t
 | .flt b,u=>∃ t,u=Value.float b t
 | .ref a,u=>u=Value.ref a
 | .ty n,u=>u=Value.type n
noncomputable abbrev zX:List V->List Value->Prop:=Paired zY
theorem zX.length {xs:List V}{us:List Value} (r:zX xs us):xs.length=us.length:=Paired.length r
theorem zX.get:∀ {xs:List V}{us:List Value}{i:Nat}{x:V},zX xs us->xs[i]? = some x->∃ u,us[i]? = some u/\zY x u
 | _,_,_,_,.nil,e=>by simp at e
 | _,_,0,_,.cons r _,e=>by simp at e;subst e;exact⟨_,rfl,r⟩
 | _,_,i+1,x,.cons _ t,e=>by
  obtain⟨u,h1,h2⟩:=zX.get (i:=i) (x:=x) t (by simpa using e)
  exact⟨u,by simpa using h1,h2⟩
theorem zX.set {x:V}{u:Value} (r:zY x u):∀ {xs:List V}{us:List Value} (i:Nat),zX xs us->zX (xs.set i x) (us.set i u)
 | _,_,_,.nil=>.nil
 | _,_,0,.cons _ t=>.cons r t
 | _,_,i+1,.cons q t=>.cons q (zX.set r i t)
theorem zX.append:∀ {xs ys:List V}{us ws:List Value},zX xs us->zX ys ws->zX (xs++ys) (us++ws)
 | _,_,_,_,.nil,s=>s
 | _,_,_,_,.cons r t,s=>.cons r (zX.append t s)
theorem zX.take:∀ {xs:List V}{us:List Value} (n:Nat),zX xs us->zX (xs.take n) (us.take n)
 | _,_,0,_=>.nil
 | _,_,_+1,.nil=>.nil
 | _,_,n+1,.cons r t=>.cons r (zX.take n t)
theorem zX.drop:∀ {xs:List V}{us:List Value} (n:Nat),zX xs us->zX (xs.drop n) (us.drop n)
 | _,_,0,r=>r
 | _,_,_+1,.nil=>.nil
 | _,_,n+1,.cons _ t=>zX.drop n t
noncomputable def yu:Option V->Option Value->Prop
 | some v,some u=>zY v u
 | none,none=>True
 | _,_=>False
noncomputable def KV {κ:Type}:List (κ×V)->List (κ×Value)->Prop:=Paired fun (p:κ×V) (q:κ×Value)=>p.1=q.1/\zY p.2 q.2
noncomputable def kV:Key->V
 | .inl i=>.int i
 | .inr x=>.str x
inductive HO where
 | lst (xs:List V)
 | tup (xs:List V)
 | dK (kvs:List (Key×V)) | dT (kvs:List (List Key×V))
 | set (S:Int->Bool) (n:Nat)
 | ins (C dx:Addr) (fs:List (Str×V))
 | own (x:Addr)
 | xd (fs:List (Str×V))
 | met (f x:Addr)
 | rng (lo hi:Int)
 | frz (o:Obj) (u:HO)
 | tbl (ps:Array Value)
 | ext (φ:Heap->Prop)
noncomputable abbrev Hp:=Addr->Option HO
noncomputable def upd (H:Hp) (a:Addr) (o:HO):Hp:=fun b=>if b=a then some o else H b
theorem z5 {H:Hp}{a:Addr}{o:HO}:upd H a o a=some o:=by unfold upd;rw[if_pos rfl]
theorem zV {H:Hp}{a b:Addr}{o:HO} (h:b≠a):upd H a o b=H b:=by unfold upd;rw[if_neg h]
theorem zK0 {H:Hp}{a b:Addr}{o u:HO} (h:H a=some o) (h':H b=some u) (d:o≠u):a≠b:=by
 intro e;subst e;rw[h] at h';exact d (Option.some.inj h')
theorem yD {H:Hp}{a b:Addr}{o:HO} (h:H a=some o) (h':H b=none):a≠b:=by
 intro e;subst e;rw[h] at h';cases h'
section
variable (P:Program) (w:World)
noncomputable def jH (H:Hp) (h:Heap) (a:Addr):HO->Prop
 | .lst xs=>xs.length <= sizeLine/\∃ (its:List Value) (n:Nat),zX xs its/\h.get? a=some { cls:=.type "list",data:=.seq its.toArray n }
 | .tup xs=>xs.length <= sizeLine/\∃ its:List Value,zX xs its/\IsTup h a its.toArray
 | .dK kvs=>kvs.length <= sizeLine/\(a == sysModules)=false/\∃ vs,KV kvs vs/\h.DictOf (qA P w) a vs
 | .dT kvs=>kvs.length <= sizeLine/\(a == sysModules)=false/\∃ xs:List (List Key×Addr×Value),
   Paired (fun (p:List Key×V) (q:List Key×Addr×Value)=>p.1=q.1/\H q.2.1=some (.tup (p.1.map kV))/\zY p.2 q.2.2) kvs xs /\
   ∃ o es ep,h.get? a=some o/\o.ExactDict/\o.data=.dict es ep/\es.toList=xs.map (entryOfKey (tupleKind (qA P w)))/\(xs.map (·.1)).Nodup
 | .set S n=>h.SetOf (intKind P w) a S n
 | .ins C dx fs=>H dx=some (.own a)/\fs.length <= 1000/\dx≠a/\h.get? a=some (PySem.W.instObj C dx) /\
   ∃ mA,h.Ns1 dx mA/\(∀ f,yu (fs.lookup f) (mA f))/\PySem.Within mA (fs.map (·.1))
 | .own _=>∃ o,h.get? a=some o
 | .xd fs=>∃ mA,h.Ns1 a mA/\∀ f,yu (fs.lookup f) (mA f)
 | .rng lo hi=>∃ t u v,h.get? a=some { cls:=.type "range",data:=.fields #[.int lo t,.int hi u,.int 1 v] }
 | .frz o u=>h.get? a=some o/\jH H h a u
 | .tbl ps=>h.get? a=some { cls:=.none,data:=.fields ps }
 | .met f x=>h.get? a=some (PySem.W.methodObj (.ref f) (.ref x))
 | .ext φ=>φ h/\(∃ o,h.get? a=some o)/\∀ h1 h2:Heap,φ h1->(∀ o,h1.get? a=some o->h2.get? a=some o)->φ h2
noncomputable def HOk (H:Hp) (h:Heap):Prop:=∀ a o,H a=some o->jH P w H h a o
end
section
variable {P:Program}{w:World}{H H':Hp}{h h':Heap}{a:Addr}{o:HO}
theorem jH.lt (x:jH P w H h a o):a < h.objs.size:=by
 cases o with
 | lst xs=>obtain⟨_,_,_,_,e⟩:=x;exact Heap.lt_size e
 | tup xs=>obtain⟨_,_,_,p⟩:=x;exact p.lt
 | dK kvs=>obtain⟨_,_,_,_,o,_,_,e,_⟩:=x;exact Heap.lt_size e
 | dT kvs=>obtain⟨_,_,_,_,o,_,_,e,_⟩:=x;exact Heap.lt_size e
 | set S n=>obtain⟨o,_,_,_,e,_⟩:=x;exact Heap.lt_size e
 | ins C dx fs=>obtain⟨_,_,_,e,_⟩:=x;exact Heap.lt_size e
 | own y=>obtain⟨_,e⟩:=x;exact Heap.lt_size e
 | xd fs=>obtain⟨_,⟨_,_,_,e,_⟩,_⟩:=x;exact Heap.lt_size e
 | rng lo hi=>obtain⟨_,_,_,e⟩:=x;exact Heap.lt_size e
 | frz ob u=>obtain⟨e,_⟩:=x;exact Heap.lt_size e
 | tbl ps=>exact Heap.lt_size (show h.get? a=some _ from x)
 | met f y=>exact Heap.lt_size (show h.get? a=some _ from x)
 | ext φ=>obtain⟨_,⟨_,e⟩,_⟩:=x;exact Heap.lt_size e
theorem Paired.mapP {α β:Type}{F G:α->β->Prop}:∀ {l₁:List α}{l₂:List β},Paired F l₁ l₂->(∀ a b,F a b->G a b)->Paired G l₁ l₂
 | _,_,.nil,_=>.nil
 | _,_,.cons r t,f=>.cons (f _ _ r) (Paired.mapP t f)
theorem jH.stay (x:jH P w H h a o) (k:∀ b u,(b=a\/H b=some (.own a))->h.get? b=some u->h'.get? b=some u)
  (ho:∀ b,H b=some (.own a)->H' b=some (.own a)) (ht:∀ b xs,H b=some (.tup xs)->H' b=some (.tup xs)):jH P w H' h' a o:=by
 induction o with
 | lst xs=>obtain⟨z,its,n,r,e⟩:=x;exact⟨z,its,n,r,k _ _ (.inl rfl) e⟩
 | tup xs=>obtain⟨z,its,r,ob,e,c⟩:=x;exact⟨z,its,r,ob,k _ _ (.inl rfl) e,c⟩
 | dK kvs=>obtain⟨z,y,vs,r,ob,es,ep,e,c⟩:=x;exact⟨z,y,vs,r,ob,es,ep,k _ _ (.inl rfl) e,c⟩
 | dT kvs =>
  obtain⟨z,y,xs,r,ob,es,ep,e,c⟩:=x
  exact⟨z,y,xs,Paired.mapP r fun p q z=>⟨z.1,ht _ _ z.2.1,z.2.2⟩,ob,es,ep,k _ _ (.inl rfl) e,c⟩
 | set S n=>obtain⟨ob,es,ep,t,e,c⟩:=x;exact⟨ob,es,ep,t,k _ _ (.inl rfl) e,c⟩
 | ins C dx fs =>
  obtain⟨d,z,ne,e,mA,⟨od,es,ep,e2,c⟩,r⟩:=x
  exact⟨ho _ d,z,ne,k _ _ (.inl rfl) e,mA,⟨od,es,ep,k _ _ (.inr d) e2,c⟩,r⟩
 | own y=>obtain⟨ob,e⟩:=x;exact⟨ob,k _ _ (.inl rfl) e⟩
 | xd fs=>obtain⟨mA,⟨od,es,ep,e,c⟩,r⟩:=x;exact⟨mA,⟨od,es,ep,k _ _ (.inl rfl) e,c⟩,r⟩
 | rng lo hi=>obtain⟨t,u,v,e⟩:=x;exact⟨t,u,v,k _ _ (.inl rfl) e⟩
 | frz ob u ih=>obtain⟨e,q⟩:=x;exact⟨k _ _ (.inl rfl) e,ih q⟩
 | tbl ps =>
  have e:h.get? a=some { cls:=.none,data:=.fields ps }:=x
  show h'.get? a=some { cls:=.none,data:=.fields ps }
  exact k a _ (.inl rfl) e
 | met f y =>
  have e:h.get? a=some (PySem.W.methodObj (.ref f) (.ref y)):=x
  show h'.get? a=some (PySem.W.methodObj (.ref f) (.ref y))
  exact k a _ (.inl rfl) e
 | ext φ=>obtain⟨p,⟨o,e⟩,st⟩:=x;exact⟨st _ _ p fun o q=>k _ _ (.inl rfl) q,⟨o,k _ _ (.inl rfl) e⟩,st⟩
theorem HOk.lt (x:HOk P w H h) (e:H a=some o):a < h.objs.size:=(x a o e).lt
theorem HOk.fresh (x:HOk P w H h) (e:h.objs.size <= a):H a=none:=by
 cases q:H a with
 | none=>rfl
 | some u=>exact absurd (Nat.lt_of_lt_of_le (x.lt q) e) (Nat.lt_irrefl _)
theorem HOk.kept (x:HOk P w H h) (k:∀ b u,h.get? b=some u->h'.get? b=some u):HOk P w H h':=fun a o e =>
 (x a o e).stay (fun b u _ q=>k b u q) (fun _ q=>q) fun _ _ q=>q
theorem HOk.laid (x:HOk P w H h) (k:∀ b u,h.get? b=some u->h'.get? b=some u) (hp:h.objs.size <= a) (new:jH P w (upd H a o) h' a o):HOk P w (upd H a o) h':=fun b u e=>by
 have hn:=x.fresh hp
 by_cases hb:b=a
 ·subst hb;rw[z5] at e;cases e;exact new
 ·rw[zV hb] at e
  exact (x b u e).stay (fun c v _ q=>k c v q) (fun c q=>by rw[zV (yD q hn)];exact q) fun c xs q=>by rw[zV (yD q hn)];exact q
end
noncomputable def Rd (H:Hp) (a:Addr) (u:HO):Prop:=H a=some u\/∃ o,H a=some (.frz o u)
theorem Rd.ok {P:Program}{w:World}{H:Hp}{h:Heap}{a:Addr}{u:HO} (r:Rd H a u) (x:HOk P w H h):jH P w H h a u:=by
 rcases r with r | ⟨o,r⟩
 ·exact x a u r
 ·obtain⟨_,q⟩:=x a _ r
  exact q
noncomputable def Mut:Option HO->Prop
 | some (.lst _)=>True
 | some (.dK _)=>True
 | some (.dT _)=>True
 | some (.set _ _)=>True
 | some (.ins _ _ _)=>True
 | some (.ext _)=>True
 | _=>False
section
variable {P:Program}{w:World}{H:Hp}{h h':Heap}{x e:Addr}{o':HO}
theorem HOk.write (ok:HOk P w H h) (mu:Mut (H x)) (he:e=x\/H e=some (.own x)) (k:∀ b u,b≠e->h.get? b=some u->h'.get? b=some u) (heo:∃ u,h'.get? e=some u)
  (new:jH P w (upd H x o') h' x o'):HOk P w (upd H x o') h':=fun b u q=>by
 have nown:∀ c y,H c=some (.own y)->c≠x:=fun c y r z=>by subst z;rw[r] at mu;exact mu
 have ntup:∀ c xs,H c=some (.tup xs)->c≠x:=fun c xs r z=>by subst z;rw[r] at mu;exact mu
 by_cases hb:b=x
 ·subst hb;rw[z5] at q;cases q;exact new
 ·rw[zV hb] at q
  by_cases hbe:b=e
  ·have q':H b=some (.own x):=by
    rcases he with z | z
    ·exact absurd (hbe.trans z) hb
    ·rw[hbe];exact z
   rw[q] at q';cases q'
   obtain⟨v,hv⟩:=heo
   exact⟨v,by rw[hbe];exact hv⟩
  ·refine (ok b u q).stay (fun c v hc r=>k c v ?_ r) (fun c r=>by rw[zV (nown c b r)];exact r) fun c xs r=>by rw[zV (ntup c xs r)];exact r
   rcases hc with rfl | hc
   ·exact hbe
   ·rintro rfl
    rcases he with z | z
    ·exact nown c b hc z
    ·rw[hc] at z;cases z;exact hb rfl
end
structure Un (fs ex:List Addr) (H H':Hp) (h h':Heap):Prop where
 keep:∀ b o,h.get? b=some o->H b=none->b∉fs->b∉ex->h'.get? b=some o
 slot:∀ b o,h.get? b=some o->H b=none->b∈fs->b∉ex->∃ sl,h'.get? b=some { o with slots:=sl }
 free:∀ b o,h.get? b=some o->H b=none->b∉ex->H' b=none
 there:∀ b o,h.get? b=some o->b∉ex->∃ o',h'.get? b=some o'
 tups:∀ b xs,H b=some (.tup xs)->H' b=some (.tup xs)
 frzs:∀ b o u,H b=some (.frz o u)->H' b=some (.frz o u)
 tbls:∀ b ps,H b=some (.tbl ps)->∃ more,H' b=some (.tbl (ps++more))
section
variable {fs fs' ex ex':List Addr}{H H1 H2:Hp}{h h1 h2 h':Heap}{a x e:Addr}{o:HO}
theorem Un.any (u:Un fs ex H H1 h h1) {b:Addr}{ob:Obj} (q:h.get? b=some ob) (n:H b=none) (hx:b∉ex):∃ sl,h1.get? b=some { ob with slots:=sl }:=by
 by_cases hb:b∈fs
 ·exact u.slot b ob q n hb hx
 ·exact⟨ob.slots,u.keep b ob q n hb hx⟩
theorem Un.kept (k:∀ b u,h.get? b=some u->h'.get? b=some u):Un fs ex H H h h' :=
 ⟨fun b ob q _ _ _=>k b ob q,fun b ob q _ _ _=>⟨ob.slots,k b ob q⟩,fun _ _ _ n _=>n,fun b ob q _=>⟨ob,k b ob q⟩,fun _ _ q=>q,fun _ _ _ q=>q,fun _ ps q=>⟨#[],by rw[q];simp⟩⟩
theorem Un.refl:Un fs ex H H h h:=Un.kept fun _ _ q=>q
theorem Un.laid (k:∀ b u,h.get? b=some u->h'.get? b=some u) (hp:h.objs.size <= a) (hn:H a=none):Un fs ex H (upd H a o) h h' where
 keep:=fun b u q _ _ _=>k b u q
 slot:=fun b u q _ _ _=>⟨u.slots,k b u q⟩
 free:=fun b u q n _=>by rw[zV (Nat.ne_of_lt (Nat.lt_of_lt_of_le (Heap.lt_size q) hp))];exact n
 there:=fun b u q _=>⟨u,k b u q⟩
 tups:=fun b xs q=>by rw[zV (yD q hn)];exact q
 frzs:=fun b u xs q=>by rw[zV (yD q hn)];exact q
 tbls:=fun b ps q=>⟨#[],by rw[zV (yD q hn),q];simp⟩
theorem Un.write (mu:Mut (H x)) (he:e=x\/H e=some (.own x)) (k:∀ b u,b≠e->h.get? b=some u->h'.get? b=some u) (heo:∃ u,h'.get? e=some u):Un fs ex H (upd H x o) h h':=by
 have hx:∀ b,H b=none->b≠x:=fun b n z=>by subst z;rw[n] at mu;exact mu
 have hb:∀ b,H b=none->b≠e:=fun b n z=>by
  subst z
  rcases he with r | r
  ·exact hx b n r
  ·rw[n] at r;cases r
 have hm:∀ b u,H b=some u -> ¬ Mut (some u)->b≠x:=fun b u q nm z=>by subst z;rw[q] at mu;exact nm mu
 refine⟨fun b u q n _ _=>k b u (hb b n) q,fun b u q n _ _=>⟨u.slots,k b u (hb b n) q⟩,fun b u q n _=>by rw[zV (hx b n)];exact n,fun b u q _=>?_,
  fun b xs q=>by rw[zV (hm b _ q fun z=>z)];exact q,fun b u xs q=>by rw[zV (hm b _ q fun z=>z)];exact q,fun b ps q=>⟨#[],by rw[zV (hm b _ q fun z=>z),q];simp⟩⟩
 by_cases hbe:b=e
 ·subst hbe;exact heo
 ·exact⟨u,k b u hbe q⟩
end
noncomputable def trk (h:Heap) (H:Hp):List Addr:=(List.range h.objs.size).filter fun a=>(H a).isSome
noncomputable def Q4 (h:Heap) (H:Hp):Heap:=PySem.W.hideAll h (trk h H)
theorem zGI (h:Heap) (H:Hp):(Q4 h H).objs.size=h.objs.size:=PySem.W.hideAll_size _ _
theorem zHI {h:Heap}{H:Hp}{b:Addr}{o:Obj} (e:h.get? b=some o) (n:H b=none):(Q4 h H).get? b=some o :=
 PySem.W.hideAll_get _ e fun hm=>by
  have q:(H b).isSome=true:=(List.mem_filter.mp hm).2
  rw[n] at q;simp at q
theorem zIQ {h:Heap}{H:Hp}{b:Addr}{o:Obj} (e:(Q4 h H).get? b=some o):h.get? b=some o/\H b=none:=by
 have e':h.get? b=some o:=PySem.W.of_hideAll (trk h H) e
 refine⟨e',?_⟩
 cases q:H b with
 | none=>rfl
 | some x =>
  have hm:b∈trk h H:=List.mem_filter.mpr ⟨List.mem_range.mpr (Heap.lt_size e'),by simp[q]⟩
  have z:(Q4 h H).get? b=none:=PySem.W.hideAll_none (trk h H) hm
  rw[z] at e;cases e
noncomputable def zId (g h:Heap) (L:Addr):List (Addr×Obj):=(List.range h.objs.size).filterMap fun a=>if a=L\/(g.get? a).isSome=true then none else (h.get? a).map fun o=>(a,o)
noncomputable def j4 (g h:Heap) (L d:Addr):List (Addr×Obj):=(zId g h L).filter fun p=>decide (p.1≠d)
end L2
namespace L2
open PySem PySem.Spec PyProof.Rows
structure Mod (K:PySem.W.Frag) (mg:Str->Option Value) (base:Heap):Prop where
 kin:K.In base
 glob:base.Ns mainGlobals mg
 blt:∃ mb,base.Ns builtinsNs mb/\∀ x:Str,x ≠ "__name__" -> mb x=bootBuiltins x
 nolimit:base.NoLimit
structure Cx where
 prog:Program
 w:World
 K:PySem.W.Frag
 mg:Str->Option Value
 base:Heap
 A:Around
 N:List Str
 s₀:Shared
 H₀:Hp
 env:Env
 outer:List Env
 stack:List Env
 ex:List Addr
 fn:Str->Bool
 calm:Bool
 pn:List (Addr×Obj)
 xe:Value->Shared->Prop
noncomputable def frs (l:List Env):List Addr:=l.filterMap (·.frame)
noncomputable abbrev Cx.fs (X:Cx):List Addr:=frs X.outer
noncomputable def Vis (sc:Scope) (x:Str):Prop:=sc.names.lookup x=some .local\/sc.names.lookup x=some .cell\/sc.names.lookup x=some .free
noncomputable def Loc (sc:Scope) (x:Str):Prop:=sc.names.lookup x=some .local\/sc.names.lookup x=some .cell
noncomputable def zLy (env:Env) (h:Heap) (m:Str->Option Value) (x:Str) (u:Value):Prop :=
 (env.kindOf x=some .local/\m x=some u)\/((env.kindOf x=some .cell\/env.kindOf x=some .free)/\∃ c,env.cells.lookup x=some c/\h.IsCell c (some u))
structure Cx.Ok (X:Cx):Prop where
 mod:Mod X.K X.mg X.base
 kind:X.env.scope.kind=.function
 glob:X.env.globals=mainGlobals
 blt:X.env.builtins=builtinsNs
 above:X.s₀.heap.objs.size <= X.env.locals
 inj:∀ x y c,X.env.cells.lookup x=some c->X.env.cells.lookup y=some c->x=y
 has:∀ x,(X.env.kindOf x=some .cell\/X.env.kindOf x=some .free)->∃ c,X.env.cells.lookup x=some c
 cab:∀ x c,X.fn x=true->X.env.cells.lookup x=some c->X.s₀.heap.objs.size <= c
 hd:X.calm=true->X.A.handled=none
 frames:X.A.frames=some X.stack
 stk:X.stack=X.outer\/(X.stack=X.env::X.outer/\X.env.frame=some X.env.locals)
 exf:∀ b∈X.ex,b≠X.env.locals/\∀ x c,X.env.cells.lookup x=some c->c≠b
 bs:∀ b o,X.base.get? b=some o->X.s₀.heap.get? b=some o/\X.H₀ b=none
 bsz:X.base.objs.size <= X.s₀.heap.objs.size
 noex:∀ b o,X.base.get? b=some o->b∉X.ex
 exfs:∀ b∈X.ex,b∉X.fs
 funs:X.s₀.heap.FunFrames X.base X.outer
 frf:∀ b∈X.fs,X.H₀ b=none
structure Inv (X:Cx) (pins:List (Addr×Obj)) (σ:List (Option V)) (H:Hp) (s:Shared):Prop where
 ok:X.Ok
 os:s.os=X.s₀.os
 bare:AllBare s.gens
 base:Un X.fs X.ex X.H₀ H X.s₀.heap s.heap
 loc:∃ m,s.heap.Ns X.env.locals m/\∀ (i:Nat) (x:Str) (v:V),X.N[i]? = some x->σ[i]? = some (some v)->Vis X.env.scope x->∃ u,zY v u/\zLy X.env s.heap m x u
 cell:∀ x c,X.env.cells.lookup x=some c->∃ v,s.heap.IsCell c v
 free:H X.env.locals=none
 freeC:∀ x c,X.env.cells.lookup x=some c->H c=none
 pin:∀ p∈X.pn++pins,s.heap.get? p.1=some p.2/\H p.1=none/\p.1≠X.env.locals/\p.1∉X.fs/\∀ v,p.2.data≠.cell v
 hok:HOk X.prog X.w H s.heap
 len:σ.length=X.N.length
 tk:0 < s.toks
section
variable {X:Cx}{pins:List (Addr×Obj)}{σ:List (Option V)}{H H':Hp}{s:Shared}{h':Heap}
theorem Cx.Ok.nofr (ok:X.Ok) {b:Addr}{o:Obj} (e:X.base.get? b=some o):b∉X.fs:=fun hb=>by
 have:=(ok.funs.mem hb).1
 rw[e] at this;cases this
theorem Inv.bs (I:Inv X pins σ H s):∀ b o,X.base.get? b=some o->s.heap.get? b=some o/\H b=none:=fun b o e =>
 ⟨I.base.keep b o (I.ok.bs b o e).1 (I.ok.bs b o e).2 (I.ok.nofr e) (I.ok.noex b o e),I.base.free b o (I.ok.bs b o e).1 (I.ok.bs b o e).2 (I.ok.noex b o e)⟩
theorem Inv.bk (I:Inv X pins σ H s):∀ b o,X.base.get? b=some o->s.heap.get? b=some o:=fun b o e=>(I.bs b o e).1
theorem Inv.mod (I:Inv X pins σ H s):Mod X.K X.mg X.base:=I.ok.mod
theorem Inv.kIn (I:Inv X pins σ H s):X.K.In s.heap:=I.ok.mod.kin.keeps I.bk
theorem Inv.fr (I:Inv X pins σ H s):∃ m,Fr X.base X.env.locals s.heap m :=
 let ⟨m,hn,_⟩:=I.loc
 ⟨m,hn,I.bk,Nat.le_trans I.ok.bsz I.ok.above⟩
theorem Inv.lt (I:Inv X pins σ H s):X.env.locals < s.heap.objs.size:=let ⟨_,hn,_⟩:=I.loc;hn.lt
theorem Inv.sz (I:Inv X pins σ H s):X.s₀.heap.objs.size <= s.heap.objs.size:=Nat.le_trans I.ok.above (Nat.le_of_lt I.lt)
theorem Inv.nofs (I:Inv X pins σ H s) {a:Addr} (h:s.heap.objs.size <= a):a∉X.fs:=fun hb=>by
 obtain⟨_,o,ho,_⟩:=I.ok.funs.mem hb
 exact absurd (Nat.lt_of_lt_of_le (Heap.lt_size ho) (Nat.le_trans I.sz h)) (Nat.lt_irrefl _)
theorem Inv.cne (I:Inv X pins σ H s):∀ x c,X.env.cells.lookup x=some c->c≠X.env.locals:=fun x c e z=>by
 obtain⟨v,o,ho,hd⟩:=I.cell x c e
 obtain⟨m,⟨o',es,ep,ho',hd',_⟩,_⟩:=I.loc
 rw[z,ho'] at ho;cases ho;rw[hd'] at hd;cases hd
theorem Inv.funs (I:Inv X pins σ H s):s.heap.FunFrames X.base X.outer:=by
 have all:∀ (l:List Env),(∀ b∈frs l,b∈X.fs)->X.s₀.heap.FunFrames X.base l->s.heap.FunFrames X.base l:=by
  intro l
  induction l with
  | nil=>intro _ _;trivial
  | cons env r ih =>
   intro hs hl
   obtain⟨hk,⟨L,o,hf,hn,ho,hd⟩,hr⟩:=hl
   have hL:L∈X.fs:=hs L (by unfold frs;rw[List.filterMap_cons,hf];exact List.mem_cons_self)
   obtain⟨sl,e⟩:=I.base.slot L o ho (I.ok.frf L hL) hL fun z=>I.ok.exfs L z hL
   exact⟨hk,⟨L,_,hf,hn,e,hd⟩,ih (fun b hb=>hs b (by unfold frs;rw[List.filterMap_cons,hf];exact List.mem_cons_of_mem _ hb)) hr⟩
 exact all X.outer (fun _ hb=>hb) I.ok.funs
theorem Inv.stack (I:Inv X pins σ H s):s.heap.FunFrames X.base X.stack:=by
 rcases I.ok.stk with e | ⟨e,hf⟩
 ·rw[e];exact I.funs
 ·rw[e]
  obtain⟨m,hn,_⟩:=I.loc
  refine .cons (by rw[I.ok.kind];decide) hf hn ?_ I.funs
  exact Heap.get?_none_of_le (Nat.le_trans I.ok.bsz I.ok.above)
theorem Inv.stkSub (I:Inv X pins σ H s):∀ b∈frs X.stack,b∈X.env.locals::X.fs:=fun b hb=>by
 rcases I.ok.stk with e | ⟨e,hf⟩
 ·rw[e] at hb;exact List.mem_cons_of_mem _ hb
 ·rw[e] at hb
  unfold frs at hb
  rw[List.filterMap_cons,hf] at hb
  exact hb
theorem Inv.stkFree (I:Inv X pins σ H s):∀ b∈frs X.stack,H b=none:=fun b hb=>by
 rcases List.mem_cons.mp (I.stkSub b hb) with e | hb
 ·rw[e];exact I.free
 ·obtain⟨_,o,ho,_⟩:=I.ok.funs.mem hb
  exact I.base.free b o ho (I.ok.frf b hb) fun z=>I.ok.exfs b z hb
theorem Inv.step {g':Array GenState}{t':Nat}{d':Drawn}{ch:List Addr} (I:Inv X pins σ H s)
  (hch:∀ b∈ch,(b∈X.ex\/X.s₀.heap.objs.size <= b)/\b≠X.env.locals/\(∀ x c,X.env.cells.lookup x=some c->c≠b)/\∀ p∈X.pn++pins,p.1≠b)
  (keep:∀ b o,b≠X.env.locals->b∉X.fs->b∉ch->s.heap.get? b=some o->H b=none->h'.get? b=some o)
  (slot:∀ b o,b≠X.env.locals->b∈X.fs->b∉ch->s.heap.get? b=some o->H b=none->∃ sl,h'.get? b=some { o with slots:=sl }) (free:∀ b o,b∉ch->s.heap.get? b=some o->H b=none->H' b=none)
  (there:∀ b o,b∉ch->s.heap.get? b=some o->∃ o',h'.get? b=some o')
  (tups:∀ b xs,H b=some (.tup xs)->H' b=some (.tup xs)) (frzs:∀ b o u,H b=some (.frz o u)->H' b=some (.frz o u)) (tbls:∀ b ps,H b=some (.tbl ps)->∃ more,H' b=some (.tbl (ps++more)))
  (ns:∀ m,s.heap.Ns X.env.locals m->h'.Ns X.env.locals m) (hok:HOk X.prog X.w H' h') (hg:AllBare g') (ht:0 < t':=by first | exact Nat.succ_pos _ | assumption | exact Inv.tk (by assumption) | omega) :
  Inv X pins σ H' { s with heap:=h',gens:=g',drawn:=d',toks:=t' }:=by
 have neL:∀ b o,X.s₀.heap.get? b=some o->b≠X.env.locals:=fun b o e=>Nat.ne_of_lt (Nat.lt_of_lt_of_le (Heap.lt_size e) I.ok.above)
 have neC:∀ b o,X.s₀.heap.get? b=some o->b∉X.ex->b∉ch:=fun b o e hx hb=>by
  rcases (hch b hb).1 with z | z
  ·exact hx z
  ·exact absurd (Nat.lt_of_lt_of_le (Heap.lt_size e) z) (Nat.lt_irrefl _)
 have cellK:∀ x c,X.env.cells.lookup x=some c->∀ v,s.heap.IsCell c v->h'.IsCell c v:=fun x c e v ⟨o,ho,hd⟩=>by
  have nch:c∉ch:=fun z=>(hch c z).2.2.1 x c e rfl
  by_cases hc:c∈X.fs
  ·obtain⟨sl,q⟩:=slot c o (I.cne x c e) hc nch ho (I.freeC x c e)
   exact⟨_,q,hd⟩
  ·exact⟨o,keep c o (I.cne x c e) hc nch ho (I.freeC x c e),hd⟩
 refine⟨I.ok,I.os,hg,⟨fun b o e n hb hx=>?_,fun b o e n hb hx=>?_,fun b o e n hx=>?_,fun b o e hx=>?_,fun b xs e=>tups b xs (I.base.tups b xs e),fun b o xs e=>frzs b o xs (I.base.frzs b o xs e),fun b ps e=>?_⟩,?_,fun x c e=>?_,?_,fun x c e=>?_,fun p hp=>?_,hok,I.len,ht⟩
 ·exact keep b o (neL b o e) hb (neC b o e hx) (I.base.keep b o e n hb hx) (I.base.free b o e n hx)
 ·obtain⟨sl,e1⟩:=I.base.slot b o e n hb hx
  obtain⟨sl',e2⟩:=slot b _ (neL b o e) hb (neC b o e hx) e1 (I.base.free b o e n hx)
  exact⟨sl',e2⟩
 ·obtain⟨o',e1⟩:=I.base.there b o e hx
  exact free b o' (neC b o e hx) e1 (I.base.free b o e n hx)
 ·obtain⟨o',e1⟩:=I.base.there b o e hx
  exact there b o' (neC b o e hx) e1
 ·obtain⟨m1,e1⟩:=I.base.tbls b ps e
  obtain⟨m2,e2⟩:=tbls b _ e1
  exact⟨m1++m2,by rw[e2,Array.append_assoc]⟩
 ·obtain⟨m,hn,hl⟩:=I.loc
  refine⟨m,ns m hn,fun i x v e1 e2 e3=>?_⟩
  obtain⟨u,r,l⟩:=hl i x v e1 e2 e3
  refine⟨u,r,?_⟩
  rcases l with l | ⟨k,c,e,z⟩
  ·exact .inl l
  ·exact .inr ⟨k,c,e,cellK x c e _ z⟩
 ·obtain⟨v,z⟩:=I.cell x c e
  exact⟨v,cellK x c e v z⟩
 ·obtain⟨m,⟨o,_,_,ho,_⟩,_⟩:=I.loc
  exact free _ o (fun z=>(hch _ z).2.1 rfl) ho I.free
 ·obtain⟨v,o,ho,hd⟩:=I.cell x c e
  exact free c o (fun z=>(hch c z).2.2.1 x c e rfl) ho (I.freeC x c e)
 ·obtain⟨e,n,ne,nf,d⟩:=I.pin p hp
  have nch:p.1∉ch:=fun z=>(hch p.1 z).2.2.2 p hp rfl
  exact⟨keep p.1 p.2 ne nf nch e n,free p.1 p.2 nch e n,ne,nf,d⟩
theorem Inv.un {t':Nat} (I:Inv X pins σ H s) (u:Un X.fs [] H H' s.heap h') (hok:HOk X.prog X.w H' h') (ht:0 < t':=by first | exact Nat.succ_pos _ | assumption | exact Inv.tk (by assumption) | omega):Inv X pins σ H' { s with heap:=h',toks:=t' }:=by
 obtain⟨m,⟨o,es,ep,ho,r⟩,_⟩:=id I.loc
 obtain⟨sl,hL⟩:=u.any ho I.free (by simp)
 exact I.step (g':=s.gens) (d':=s.drawn) (ch:=[]) (fun _ z=>nomatch z) (fun b o _ hb _ e n=>u.keep b o e n hb (by simp)) (fun b o _ hb _ e n=>u.slot b o e n hb (by simp)) (fun b o _ e n=>u.free b o e n (by simp)) (fun b o _ e=>u.there b o e (by simp)) u.tups u.frzs u.tbls (fun m' hm=>by
  obtain⟨o',es',ep',ho',r'⟩:=hm
  rw[ho] at ho';cases ho'
  exact⟨_,es',ep',hL,r'⟩) hok I.bare ht
theorem Inv.call {g':Array GenState}{t':Nat}{d':Drawn}{ch:List Addr} (I:Inv X pins σ H s) (u:Un (frs X.stack) ch H H' s.heap h') (hok:HOk X.prog X.w H' h') (hg:AllBare g')
  (hch:∀ b∈ch,(b∈X.ex\/X.s₀.heap.objs.size <= b)/\b≠X.env.locals/\(∀ x c,X.env.cells.lookup x=some c->c≠b)/\∀ p∈X.pn++pins,p.1≠b) (ht:0 < t':=by first | exact Nat.succ_pos _ | assumption | exact Inv.tk (by assumption) | omega) :
  Inv X pins σ H' { s with heap:=h',gens:=g',drawn:=d',toks:=t' }:=by
 obtain⟨m,⟨o,es,ep,ho,r⟩,_⟩:=id I.loc
 obtain⟨sl,hL⟩:=u.any ho I.free fun z=>(hch _ z).2.1 rfl
 exact I.step (ch:=ch) hch (fun b o hL hb hc e n=>u.keep b o e n (fun z=>(List.mem_cons.mp (I.stkSub b z)).elim hL hb) hc) (fun b o _ _ hc e n=>u.any e n hc) (fun b o hc e n=>u.free b o e n hc) (fun b o hc e=>u.there b o e hc) u.tups u.frzs u.tbls (fun m' hm=>by
  obtain⟨o',es',ep',ho',r'⟩:=hm
  rw[ho] at ho';cases ho'
  exact⟨_,es',ep',hL,r'⟩) hok hg ht
theorem Inv.turned {t':Nat}{it:Addr} (I:Inv X pins σ H s) (k:∀ b o,b≠it->s.heap.get? b=some o->h'.get? b=some o) (hn:H it=none) (hL:it≠X.env.locals)
  (h1:it∈X.ex\/X.s₀.heap.objs.size <= it) (h2:∀ x c,X.env.cells.lookup x=some c->c≠it) (h3:∀ p∈X.pn++pins,p.1≠it) (ht:0 < t':=by first | exact Nat.succ_pos _ | assumption | exact Inv.tk (by assumption) | omega):Inv X pins σ H { s with heap:=h',toks:=t' }:=by
 have nit:∀ b u,H b=some u->b≠it:=fun b u e z=>by rw[z,hn] at e;cases e
 refine I.step (g':=s.gens) (d':=s.drawn) (ch:=[it]) (fun b hb=>?_) (fun b o _ _ hc e _=>k b o (fun z=>hc (by simp[z])) e) (fun b o _ _ hc e _=>⟨o.slots,k b o (fun z=>hc (by simp[z])) e⟩) (fun _ _ _ _ n=>n)
  (fun b o hc e=>⟨o,k b o (fun z=>hc (by simp[z])) e⟩) (fun _ _ e=>e) (fun _ _ _ e=>e) (fun b ps e=>⟨#[],by rw[e];simp⟩) (fun m hm=>?_) (fun b u e=>?_) I.bare ht
 ·have e:b=it:=by simpa using hb
  subst e
  exact⟨h1,hL,h2,h3⟩
 ·obtain⟨o,es,ep,ho,r⟩:=hm
  exact⟨o,es,ep,k _ o (Ne.symm hL) ho,r⟩
 ·refine (I.hok b u e).stay (fun c v hc q=>k c v ?_ q) (fun _ q=>q) fun _ _ q=>q
  rcases hc with z | z
  ·rw[z];exact nit b u e
  ·exact nit c _ z
theorem Inv.tok (I:Inv X pins σ H s) (t:Nat) (ht:0 < t:=by first | exact Nat.succ_pos _ | assumption | exact Inv.tk (by assumption) | omega):Inv X pins σ H { s with toks:=t }:=I.un (h':=s.heap) (t':=t) Un.refl I.hok ht
theorem Inv.kept {t':Nat} (I:Inv X pins σ H s) (k:∀ b u,s.heap.get? b=some u->h'.get? b=some u) (ht:0 < t':=by first | exact Nat.succ_pos _ | assumption | exact Inv.tk (by assumption) | omega):Inv X pins σ H { s with heap:=h',toks:=t' }:=I.un (Un.kept k) (I.hok.kept k) ht
theorem Inv.laid {a:Addr}{o:HO}{t':Nat} (I:Inv X pins σ H s) (k:∀ b u,s.heap.get? b=some u->h'.get? b=some u) (hp:s.heap.objs.size <= a) (new:jH X.prog X.w (upd H a o) h' a o) (ht:0 < t':=by first | exact Nat.succ_pos _ | assumption | exact Inv.tk (by assumption) | omega) :
  Inv X pins σ (upd H a o) { s with heap:=h',toks:=t' }:=I.un (Un.laid k hp (I.hok.fresh hp)) (I.hok.laid k hp new) ht
theorem Inv.write {x e:Addr}{o:HO}{t':Nat} (I:Inv X pins σ H s) (mu:Mut (H x)) (he:e=x\/H e=some (.own x)) (k:∀ b u,b≠e->s.heap.get? b=some u->h'.get? b=some u) (heo:∃ u,h'.get? e=some u)
  (new:jH X.prog X.w (upd H x o) h' x o) (ht:0 < t':=by first | exact Nat.succ_pos _ | assumption | exact Inv.tk (by assumption) | omega):Inv X pins σ (upd H x o) { s with heap:=h',toks:=t' }:=I.un (Un.write mu he k heo) (I.hok.write mu he k heo new) ht
theorem Inv.weak {σ':List (Option V)} (I:Inv X pins σ H s) (hl:σ'.length=σ.length) (w:∀ (i:Nat) v,σ'[i]? = some (some v)->σ[i]? = some (some v)):Inv X pins σ' H s :=
 ⟨I.ok,I.os,I.bare,I.base,let ⟨m,hn,hl'⟩:=I.loc;⟨m,hn,fun i x v e1 e2 e3=>hl' i x v e1 (w i v e2) e3⟩,I.cell,I.free,I.freeC,I.pin,I.hok,hl.trans I.len,I.tk⟩
theorem Inv.pins_of {pins':List (Addr×Obj)} (I:Inv X pins σ H s) (h:∀ p∈pins',s.heap.get? p.1=some p.2/\H p.1=none/\p.1≠X.env.locals/\p.1∉X.fs/\∀ v,p.2.data≠.cell v):Inv X pins' σ H s :=
 ⟨I.ok,I.os,I.bare,I.base,I.loc,I.cell,I.free,I.freeC,fun p hp=>(List.mem_append.mp hp).elim (fun z=>I.pin p (List.mem_append_left _ z)) (h p),I.hok,I.len,I.tk⟩
theorem zDG {N:List Str} (hN:N.Nodup) {i j:Nat}{x:Str} (a:N[i]? = some x) (b:N[j]? = some x):i=j:=by
 obtain⟨h1,e1⟩:=List.getElem?_eq_some_iff.mp a
 obtain⟨h2,e2⟩:=List.getElem?_eq_some_iff.mp b
 exact (List.getElem_inj hN).mp (e1.trans e2.symm)
theorem zBp {M:Model}{A:Around}{E:Value->Shared->Prop}{i:Nat}{x:Str}{v:V}{u:Value}{Q:Unit->Shared->Prop} (I:Inv X pins σ H s) (hN:X.N.Nodup) (hi:X.N[i]? = some x) (hx:Loc X.env.scope x) (r:zY v u)
  (h:∀ s',Inv X pins (σ.set i (some v)) H s'->(∃ a,Heap.SameBut a s.heap s'.heap/\(a=X.env.locals\/X.env.cells.lookup x=some a))->Q () s') (hf:X.fn x=true\/X.env.scope.names.lookup x=some .local:=by first | exact .inl rfl | exact .inr rfl | assumption):wpAny M A (storeName X.env x u) Q E s:=by
 obtain⟨m,hn,hl⟩:=id I.loc
 have hcls:(X.env.scope.kind == .class || (X.env.scope.kind == .module && X.env.locals != X.env.globals))=false:=by rw[I.ok.kind];rfl
 have hiσ:i < σ.length:=by rw[I.len];exact (List.getElem?_eq_some_iff.mp hi).1
 have cne:=I.cne
 have tracked:∀ {a:Addr}{h':Heap},(∃ o,s.heap.get? a=some o/\H a=none)->Heap.SameBut a s.heap h'->HOk X.prog X.w H h':=fun {a h'} ha hs b ob e=>by
  obtain⟨_,_,hfree⟩:=ha
  refine (I.hok b ob e).stay (fun c w' hc q=>(hs.2 c ?_).trans q) (fun _ q=>q) fun _ _ q=>q
  rintro rfl
  rcases hc with rfl | hc
  ·rw[hfree] at e;cases e
  ·rw[hfree] at hc;cases hc
 rcases hx with hk | hk
 ·refine wpAny_storeName_local hk hn (fun h' hn' hs=>?_) hcls
  obtain⟨oL,_,_,hoL,_⟩:=id hn
  refine h _ ⟨I.ok,I.os,I.bare,⟨fun b o e n hb hx=>?_,fun b o e n hb hx=>?_,I.base.free,fun b o e hx=>?_,I.base.tups,I.base.frzs,I.base.tbls⟩,⟨_,hn',fun j y v' e1 e2 e3=>?_⟩,fun y c e=>?_,I.free,I.freeC,fun p hp=>?_,tracked ⟨oL,hoL,I.free⟩ hs,by simpa using I.len,Nat.succ_pos _⟩ ⟨_,hs,.inl rfl⟩
  ·exact (hs.2 b (Nat.ne_of_lt (Nat.lt_of_lt_of_le (Heap.lt_size e) I.ok.above))).trans (I.base.keep b o e n hb hx)
  ·obtain⟨sl,e1⟩:=I.base.slot b o e n hb hx
   exact⟨sl,(hs.2 b (Nat.ne_of_lt (Nat.lt_of_lt_of_le (Heap.lt_size e) I.ok.above))).trans e1⟩
  ·obtain⟨o',e1⟩:=I.base.there b o e hx
   exact⟨o',(hs.2 b (Nat.ne_of_lt (Nat.lt_of_lt_of_le (Heap.lt_size e) I.ok.above))).trans e1⟩
  ·by_cases hj:j=i
   ·subst hj
    rw[hi] at e1;cases e1
    rw[List.getElem?_set_self hiσ] at e2
    cases e2
    exact⟨u,r,.inl ⟨hk,by simp⟩⟩
   ·rw[List.getElem?_set_ne (Ne.symm hj)] at e2
    obtain⟨u',r',q⟩:=hl j y v' e1 e2 e3
    refine⟨u',r',?_⟩
    rcases q with ⟨k,e⟩ | ⟨k,c,e,z⟩
    ·refine .inl ⟨k,?_⟩
     have:y≠x:=fun e=>hj (zDG hN e1 (e ▸ hi))
     simp[this,e]
    ·exact .inr ⟨k,c,e,z.sameBut hs (cne y c e)⟩
  ·obtain⟨w',z⟩:=I.cell y c e
   exact⟨w',z.sameBut hs (cne y c e)⟩
  ·obtain⟨e,n,ne,nf,d⟩:=I.pin p hp
   exact⟨(hs.2 p.1 ne).trans e,n,ne,nf,d⟩
 ·have hfn:X.fn x=true:=by
   rcases hf with z | z
   ·exact z
   ·rw[z] at hk;cases hk
  obtain⟨c,hc⟩:=I.ok.has x (.inl hk)
  obtain⟨w',z⟩:=I.cell x c hc
  refine wpAny_storeName_cell I.ok.kind hk hc z (fun h' hc' hs=>?_)
  obtain⟨oc,hoc,hocd⟩:=id z
  refine h { s with heap:=h' } ⟨I.ok,I.os,I.bare,⟨fun b o e n hb hx=>?_,fun b o e n hb hx=>?_,I.base.free,fun b o e hx=>?_,I.base.tups,I.base.frzs,I.base.tbls⟩,⟨m,hn.sameBut hs (Ne.symm (cne x c hc)),fun j y v' e1 e2 e3=>?_⟩,fun y c' e=>?_,I.free,I.freeC,fun p hp=>?_,tracked ⟨oc,hoc,I.freeC x c hc⟩ hs,by simpa using I.len,I.tk⟩ ⟨c,hs,.inr hc⟩
  ·exact (hs.2 b (Nat.ne_of_lt (Nat.lt_of_lt_of_le (Heap.lt_size e) (I.ok.cab x c hfn hc)))).trans (I.base.keep b o e n hb hx)
  ·obtain⟨sl,e1⟩:=I.base.slot b o e n hb hx
   exact⟨sl,(hs.2 b (Nat.ne_of_lt (Nat.lt_of_lt_of_le (Heap.lt_size e) (I.ok.cab x c hfn hc)))).trans e1⟩
  ·obtain⟨o',e1⟩:=I.base.there b o e hx
   exact⟨o',(hs.2 b (Nat.ne_of_lt (Nat.lt_of_lt_of_le (Heap.lt_size e) (I.ok.cab x c hfn hc)))).trans e1⟩
  ·by_cases hj:j=i
   ·subst hj
    rw[hi] at e1;cases e1
    rw[List.getElem?_set_self hiσ] at e2
    cases e2
    exact⟨u,r,.inr ⟨.inl hk,c,hc,hc'⟩⟩
   ·rw[List.getElem?_set_ne (Ne.symm hj)] at e2
    obtain⟨u',r',q⟩:=hl j y v' e1 e2 e3
    refine⟨u',r',?_⟩
    rcases q with q | ⟨k,c',e,z'⟩
    ·exact .inl q
    ·refine .inr ⟨k,c',e,z'.sameBut hs ?_⟩
     rintro rfl
     exact hj (zDG hN e1 (I.ok.inj _ _ _ e hc ▸ hi))
  ·by_cases hcc:c'=c
   ·subst hcc;exact⟨_,hc'⟩
   ·obtain⟨w2,z2⟩:=I.cell y c' e
    exact⟨w2,z2.sameBut hs hcc⟩
  ·obtain⟨e,n,ne,nf,d⟩:=I.pin p hp
   refine⟨(hs.2 p.1 ?_).trans e,n,ne,nf,d⟩
   intro q
   rw[q,hoc] at e
   have q':oc=p.2:=Option.some.inj e
   exact d w' (by rw[<- q'];exact hocd)
theorem zDN {M:Model}{A:Around}{E:Value->Shared->Prop}{i:Nat}{x:Str}{v:V}{u:Value}{Q:Unit->Shared->Prop} (I:Inv X pins σ H s) (hN:X.N.Nodup) (hi:X.N[i]? = some x) (hx:Loc X.env.scope x) (r:zY v u)
  (h:∀ s',Inv X pins (σ.set i (some v)) H s'->Q () s') (hf:X.fn x=true\/X.env.scope.names.lookup x=some .local:=by first | exact .inl rfl | exact .inr rfl | assumption):wpAny M A (storeName X.env x u) Q E s :=
 zBp I hN hi hx r (fun s' I' _=>h s' I') hf
theorem Inv.call' {s':Shared}{ch:List Addr} (I:Inv X pins σ H s) (ho:s'.os=s.os) (u:Un (frs X.stack) ch H H' s.heap s'.heap) (hok:HOk X.prog X.w H' s'.heap) (hg:AllBare s'.gens)
  (hch:∀ b∈ch,(b∈X.ex\/X.s₀.heap.objs.size <= b)/\b≠X.env.locals/\(∀ x c,X.env.cells.lookup x=some c->c≠b)/\∀ p∈X.pn++pins,p.1≠b) (ht:0 < s'.toks):Inv X pins σ H' s':=by
 obtain⟨h',g',d',t',o'⟩:=s'
 have e:o'=s.os:=ho
 subst e
 exact I.call (g':=g') (t':=t') (d':=d') u hok hg hch ht
end
noncomputable abbrev XK:=Value->Option Addr->Hp->Prop
noncomputable abbrev St:=List (Option V)
noncomputable abbrev VK:=V->Hp->Prop
noncomputable abbrev TE:=St->Hp->VK->Prop
noncomputable abbrev TT:=St->Hp->(Bool->Hp->Prop)->Prop
noncomputable abbrev TA:=St->Hp->(List V->Hp->Prop)->Prop
structure ZT where
 nx:St->Hp->Prop
 rt:VK
 bk:St->Hp->Prop:=fun _ _=>False
 ct:St->Hp->Prop:=fun _ _=>False
noncomputable abbrev TS:=ZT->St->Hp->Prop
noncomputable def EP (X:Cx) (pins:List (Addr×Obj)) (σ:St) (Q:VK) (u:Value) (s':Shared):Prop:=∃ v H',Inv X pins σ H' s'/\zY v u/\Q v H'
noncomputable def TP (X:Cx) (pins:List (Addr×Obj)) (σ:St) (Q:Bool->Hp->Prop) (b:Bool) (s':Shared):Prop:=∃ H',Inv X pins σ H' s'/\Q b H'
noncomputable def AP (X:Cx) (pins:List (Addr×Obj)) (σ:St) (Q:List V->Hp->Prop) (us:List Value) (s':Shared):Prop:=∃ vs H',Inv X pins σ H' s'/\zX vs us/\Q vs H'
noncomputable def SP (X:Cx) (pins:List (Addr×Obj)) (D:ZT) (f:Flow) (s':Shared):Prop :=
 match f with
 | .next=>∃ σ' H',Inv X pins σ' H' s'/\D.nx σ' H'
 | .brk=>∃ σ' H',Inv X pins σ' H' s'/\D.bk σ' H'
 | .cont=>∃ σ' H',Inv X pins σ' H' s'/\D.ct σ' H'
 | .ret u=>∃ v σ' H',Inv X pins σ' H' s'/\zY v u/\D.rt v H'
noncomputable def PE (X:Cx) (e:Expr) (t:TE):Prop :=
 ∀ (pins:List (Addr×Obj)) (s:Shared) (σ:St) (H:Hp) (Q:VK),Inv X pins σ H s->t σ H Q->wpAny (model X.prog X.w) X.A (eval e X.env) (EP X pins σ Q) X.xe s
noncomputable def PT (X:Cx) (e:Expr) (t:TT):Prop :=
 ∀ (pins:List (Addr×Obj)) (s:Shared) (σ:St) (H:Hp) (Q:Bool->Hp->Prop),Inv X pins σ H s->t σ H Q->wpAny (model X.prog X.w) X.A (isTrue e X.env (eval e X.env)) (TP X pins σ Q) X.xe s
noncomputable def PW (X:Cx) (e:Expr) (t:TT):Prop :=
 ∀ (whole:Sem Value) (pins:List (Addr×Obj)) (s:Shared) (σ:St) (H:Hp) (Q:Bool->Hp->Prop),Inv X pins σ H s->t σ H Q->wpAny (model X.prog X.w) X.A (isTrue e X.env whole) (TP X pins σ Q) X.xe s
theorem PW.pt {X:Cx}{e:Expr}{t:TT} (h:PW X e t):PT X e t:=h _
noncomputable def PA (X:Cx) (es:List Expr) (t:TA):Prop :=
 ∀ (pos:Pos) (pins:List (Addr×Obj)) (s:Shared) (σ:St) (H:Hp) (Q:List V->Hp->Prop),Inv X pins σ H s->t σ H Q->wpAny (model X.prog X.w) X.A (spliced (backTo pos (starEach es X.env))) (AP X pins σ Q) X.xe s
noncomputable def PS (X:Cx) (st:Stmt) (t:TS):Prop :=
 ∀ (pins:List (Addr×Obj)) (s:Shared) (σ:St) (H:Hp) (D:ZT),Inv X pins σ H s->t D σ H->wpAny (model X.prog X.w) X.A (exec st X.env) (SP X pins D) X.xe s
noncomputable def PSs (X:Cx) (st:List Stmt) (t:TS):Prop :=
 ∀ (pins:List (Addr×Obj)) (s:Shared) (σ:St) (H:Hp) (D:ZT),Inv X pins σ H s->t D σ H->wpAny (model X.prog X.w) X.A (execs st X.env) (SP X pins D) X.xe s
theorem thn {α:Type}{t:Sem α}{Q Q':α->Shared->Prop}{M:Model}{A:Around}{E:Value->Shared->Prop}{s:Shared} (h:wpAny M A t Q E s) (hQ:∀ a s,Q a s->Q' a s):wpAny M A t Q' E s:=wpAny_mono h hQ fun _ _ x=>x
end L2
namespace L2
open PySem PySem.Spec PyProof.Rows
section
variable {X:Cx}
noncomputable def zL7 (i:Nat):TE:=fun σ H Q=>∃ v,σ[i]? = some (some v)/\Q v H
noncomputable def tC (v:V):TE:=fun _ H Q=>Q v H
theorem zKm {i:Nat}{x:Str}{pos:Pos} (hN:X.N[i]? = some x) (hv:Vis X.env.scope x) (hd:(x == ("__debug__" : Str))=false:=by decide) (hcd:(x == ("__classdict__" : Str))=false:=by decide):PE X (.Name x pos) (zL7 i):=by
 intro pins s σ H Q I h
 obtain⟨v,e,h⟩:=h
 obtain⟨m,hn,hl⟩:=I.loc
 obtain⟨u,r,l⟩:=hl i x v hN e hv
 have fin:EP X pins σ Q u s:=⟨v,H,I,r,h⟩
 rcases l with ⟨hk,hm⟩ | ⟨hk,c,hc,hcell⟩
 ·exact wpAny_Name (wpAny_loadName_local I.ok.kind hk hn hm fin) hd
 ·rcases hk with hk | hk
  ·exact wpAny_Name (wpAny_loadName_cell I.ok.kind hk hc hcell fin) hd
  ·exact wpAny_Name (wpAny_loadName_free I.ok.kind hk hc hcell fin hcd) hd
theorem zJm {i j pos}:PE X (.Constant (.int i) j pos) (tC (.int i)):=fun _ _ _ H _ I h=>wpAny_Constant_int ⟨.int i,H,I.tok _,⟨_,rfl⟩,h⟩
theorem zLK {b j pos}:PE X (.Constant (.bool b) j pos) (tC (.bl b)):=fun _ _ _ H _ I h=>Constant_bool ⟨.bl b,H,I,rfl,h⟩
theorem zKu {j pos}:PE X (.Constant .none j pos) (tC .non):=fun _ _ _ H _ I h=>Constant_none ⟨.non,H,I,rfl,h⟩
theorem zF6 {x j pos}:PE X (.Constant (.str x) j pos) (tC (.str x)):=fun _ _ _ H _ I h=>Calls.Constant_str ⟨.str x,H,I.tok _,⟨_,rfl⟩,h⟩
noncomputable def Gl (X:Cx) (x:Str):Prop:=X.env.kindOf x=some .globalImplicit
theorem zBR {E:Value->Shared->Prop}{pins:List (Addr×Obj)}{s:Shared}{σ:St}{H:Hp}{x:Str}{u:Value}{pos:Pos}{Q:Value->Shared->Prop} (I:Inv X pins σ H s) (hg:Gl X x) (hm:X.mg x=some u) (h:Q u s)
  (hd:(x == ("__debug__" : Str))=false:=by decide):wpAny (model X.prog X.w) X.A (eval (.Name x pos) X.env) Q E s :=
 Calls.Name_function_global I.ok.kind hg (Calls.loadGlobal_global (by rw[I.ok.glob];exact I.mod.glob.keeps I.bk) hm h) hd
theorem zAy {E:Value->Shared->Prop}{pins:List (Addr×Obj)}{s:Shared}{σ:St}{H:Hp}{x:Str}{u:Value}{pos:Pos}{Q:Value->Shared->Prop} (I:Inv X pins σ H s) (hg:Gl X x) (hm:X.mg x=none) (hv:bootBuiltins x=some u) (h:Q u s)
  (hn:x ≠ "__name__" := by decide) (hd:(x == ("__debug__" : Str))=false:=by decide):wpAny (model X.prog X.w) X.A (eval (.Name x pos) X.env) Q E s:=by
 obtain⟨mb,h1,h2⟩:=I.mod.blt
 exact Calls.Name_function_global I.ok.kind hg (Calls.loadGlobal_builtin (by rw[I.ok.glob];exact I.mod.glob.keeps I.bk) hm (by rw[I.ok.blt];exact h1.keeps I.bk) ((h2 x hn).trans hv) h) hd
theorem zH5 {x:Str}{v:V}{u:Value}{pos:Pos} (hg:Gl X x) (hm:X.mg x=some u) (r:zY v u) (hd:(x == ("__debug__" : Str))=false:=by decide):PE X (.Name x pos) (tC v) :=
 fun _ _ _ H _ I h=>zBR I hg hm ⟨v,H,I,r,h⟩ hd
theorem zIT {x:Str}{v:V}{u:Value}{pos:Pos} (hg:Gl X x) (hm:X.mg x=none) (hv:bootBuiltins x=some u) (r:zY v u) (hn:x ≠ "__name__" := by decide) (hd:(x == ("__debug__" : Str))=false:=by decide):PE X (.Name x pos) (tC v) :=
 fun _ _ _ H _ I h=>zAy I hg hm hv ⟨v,H,I,r,h⟩ hn hd
variable {a b:Expr}{ta tb:TE}{pos:Pos}
noncomputable def PC (X:Cx) (op:CmpOp) (a b:Expr) (t:TE):Prop :=
 ∀ (pins:List (Addr×Obj)) (s:Shared) (σ:St) (H:Hp) (Q:VK),Inv X pins σ H s->t σ H Q ->
  wpAny (model X.prog X.w) X.A (eval a X.env) (fun v s₁=>wpAny (model X.prog X.w) X.A (eval b X.env) (fun u s₂=>wpAny (model X.prog X.w) X.A (compareOp op v u) (EP X pins σ Q) X.xe s₂) X.xe s₁) X.xe s
theorem zGU (b:Expr) {op:CmpOp} (h:op≠.In) (h2:op≠.NotIn):behindInMarks op b=false:=by
 have e1:(op == CmpOp.In)=false:=by cases op<;>first | rfl | exact absurd rfl h
 have e2:(op == CmpOp.NotIn)=false:=by cases op<;>first | rfl | exact absurd rfl h2
 cases b<;>simp[behindInMarks,e1,e2]
noncomputable def zBG (ta:TE):TE:=fun σ H Q=>ta σ H fun x H1=>Q (.bl (decide (x=.non))) H1
noncomputable def Zn (ta:TE):TE:=fun σ H Q=>ta σ H fun x H1=>Q (.bl (!decide (x=.non))) H1
theorem zY.none_iff {x:V}{v:Value} (r:zY x v):(v == Value.none)=decide (x=.non):=by
 cases x with
 | non=>cases r;rfl
 | bl _=>cases r;rfl
 | int _=>obtain⟨t,rfl⟩:=r;rfl
 | str _=>obtain⟨t,rfl⟩:=r;rfl
 | byt _=>obtain⟨t,rfl⟩:=r;rfl
 | flt _=>obtain⟨t,rfl⟩:=r;rfl
 | ref _=>cases r;rfl
 | ty _=>cases r;rfl
theorem zJH {j pos'} (ha:PE X a ta):PC X .Is a (.Constant .none j pos') (zBG ta):=by
 intro pins s σ H Q I h
 refine thn (ha pins s σ H _ I h) fun v s1 ⟨x,H1,I1,r1,q1⟩=>?_
 exact Constant_none (is_none_gen ⟨.bl _,H1,I1,by rw[r1.none_iff];rfl,q1⟩)
theorem zIm {j pos'} (ha:PE X a ta):PC X .IsNot a (.Constant .none j pos') (Zn ta):=by
 intro pins s σ H Q I h
 refine thn (ha pins s σ H _ I h) fun v s1 ⟨x,H1,I1,r1,q1⟩=>?_
 exact Constant_none (isnot_none_gen ⟨.bl _,H1,I1,by rw[r1.none_iff];rfl,q1⟩)
noncomputable def tB (t:TE):TT:=fun σ H Q=>t σ H fun x H1=>∃ c,x=.bl c/\Q c H1
theorem zFF {op:CmpOp}{t:TE} (h:PC X op a b t) (h1:behindInMarks op b=false:=by first | exact zGU _ (by decide) (by decide) | rfl):PT X (.Compare a [op] [b] pos) (tB t):=by
 intro pins s σ H Q I hw
 refine wpAny_isTrue_Compare1 (thn (h pins s σ H _ I hw) fun v s1 h1=>thn h1 fun u s2 h2=>thn h2 fun c s3 ⟨x,H1,I1,r1,q1⟩=>?_) h1
 obtain⟨d,rfl,q⟩:=q1
 cases r1
 exact wpAny_truthy_bool ⟨H1,I1,q⟩
variable {tA tB':TT}{j4:List Expr}
noncomputable def JX (t u:TT):TT:=fun σ H Q=>t σ H fun c H1=>if c=true then u σ H1 Q else Q false H1
noncomputable def tOr (t u:TT):TT:=fun σ H Q=>t σ H fun c H1=>if c=true then Q true H1 else u σ H1 Q
noncomputable def QY (t:TT):TT:=fun σ H Q=>t σ H fun c H1=>Q (!c) H1
theorem zIp (ha:PT X a tA):PW X (.BoolOp .And [a] pos) tA:=by
 intro wh pins s σ H Q I h
 refine isTrue_and (thn (ha pins s σ H Q I h) fun c s1 e=>?_)
 cases c with
 | true=>exact isTrue_and_nil e
 | false=>exact e
theorem zJX (ha:PT X a tA):PW X (.BoolOp .Or [a] pos) tA:=by
 intro wh pins s σ H Q I h
 refine isTrue_or (thn (ha pins s σ H Q I h) fun c s1 e=>?_)
 cases c with
 | false=>exact isTrue_or_nil e
 | true=>exact e
theorem zJM (ha:PT X a tA) (hb:PW X (.BoolOp .And (b::j4) pos) tB'):PW X (.BoolOp .And (a::b::j4) pos) (JX tA tB'):=by
 intro wh pins s σ H Q I h
 refine isTrue_and (thn (ha pins s σ H _ I h) fun c s1 ⟨H1,I1,q1⟩=>?_)
 cases c with
 | true=>exact hb wh pins s1 σ H1 Q I1 q1
 | false=>exact⟨H1,I1,q1⟩
theorem zKy (ha:PT X a tA) (hb:PW X (.BoolOp .Or (b::j4) pos) tB'):PW X (.BoolOp .Or (a::b::j4) pos) (tOr tA tB'):=by
 intro wh pins s σ H Q I h
 refine isTrue_or (thn (ha pins s σ H _ I h) fun c s1 ⟨H1,I1,q1⟩=>?_)
 cases c with
 | true=>exact⟨H1,I1,q1⟩
 | false=>exact hb wh pins s1 σ H1 Q I1 q1
theorem zKT (ha:PT X a tA):PT X (.UnaryOp .Not a pos) (QY tA):=by
 intro pins s σ H Q I h
 exact isTrue_not (ha pins s σ H (fun c H1=>Q (!c) H1) I h)
end
end L2
namespace L2
open PySem PySem.Spec PyProof.Rows
noncomputable def SqL (K:PySem.W.Frag) (H:Hp) (a:Addr) (xs:List V):Prop :=
 Rd H a (.lst xs) \/
  ∃ (o:Obj) (its:Array Value) (n:Nat),K.lookup a=some o/\o.cls=.type "list" /\ o.dict=none/\o.data=.seq its n/\its.size <= sizeLine/\zX xs its.toList
noncomputable def SqT (K:PySem.W.Frag) (H:Hp) (a:Addr) (xs:List V):Prop :=
 Rd H a (.tup xs) \/
  ∃ (o:Obj) (its:Array Value) (n:Nat),K.lookup a=some o/\o.cls=.type "tuple" /\ o.data=.seq its n/\its.size <= sizeLine/\zX xs its.toList
noncomputable def zL3:Value->Option V
 | .none=>some .non
 | .bool b=>some (.bl b)
 | .int i _=>some (.int i)
 | .str x _=>some (.str x)
 | .bytes b _=>some (.byt b)
 | .float b _=>some (.flt b)
 | .ref a=>some (.ref a)
 | .type n=>some (.ty n)
 | _=>none
theorem zY.abs {x:V}{u:Value} (r:zY x u):zL3 u=some x:=by
 cases x with
 | non=>cases r;rfl
 | bl _=>cases r;rfl
 | int _=>obtain⟨t,rfl⟩:=r;rfl
 | str _=>obtain⟨t,rfl⟩:=r;rfl
 | byt _=>obtain⟨t,rfl⟩:=r;rfl
 | flt _=>obtain⟨t,rfl⟩:=r;rfl
 | ref _=>cases r;rfl
 | ty _=>cases r;rfl
theorem zY.inj {x y:V}{u:Value} (r:zY x u) (q:zY y u):x=y:=Option.some.inj (r.abs.symm.trans q.abs)
theorem zX.inj:∀ {xs ys:List V}{us:List Value},zX xs us->zX ys us->xs=ys
 | _,_,_,.nil,.nil=>rfl
 | _,_,_,.cons r t,.cons r' t'=>by rw[r.inj r',zX.inj t t']
section
variable {X:Cx}{pins:List (Addr×Obj)}{σ:St}{H:Hp}{s:Shared}{a:Addr}{xs ys:List V}
theorem SqL.of {K:PySem.W.Frag} (h:H a=some (.lst xs)):SqL K H a xs:=.inl (.inl h)
theorem SqT.of {K:PySem.W.Frag} (h:H a=some (.tup xs)):SqT K H a xs:=.inl (.inl h)
theorem Inv.list (I:Inv X pins σ H s) (h:SqL X.K H a xs):∃ its:List Value,zX xs its/\PlainL s.heap a its.toArray/\xs.length <= sizeLine:=by
 rcases h with h | ⟨o,its,n,hk,hc,hd,hs,hz,r⟩
 ·obtain⟨z,its,n,r,e⟩:=h.ok I.hok
  exact⟨its,r,⟨_,n,e,rfl,rfl,rfl⟩,z⟩
 ·refine⟨its.toList,r,⟨o,n,I.kIn a o hk,hc,hd,by simpa using hs⟩,?_⟩
  have e:=r.length
  simp only[Array.length_toList] at e
  omega
theorem Inv.tuple (I:Inv X pins σ H s) (h:SqT X.K H a xs):∃ its:List Value,zX xs its/\IsTup s.heap a its.toArray/\xs.length <= sizeLine:=by
 rcases h with h | ⟨o,its,n,hk,hc,hs,hz,r⟩
 ·obtain⟨z,its,r,p⟩:=h.ok I.hok
  exact⟨its,r,p,z⟩
 ·refine⟨its.toList,r,⟨o,I.kIn a o hk,hc,n,by simpa using hs⟩,?_⟩
  have e:=r.length
  simp only[Array.length_toList] at e
  omega
theorem Inv.list_inj (I:Inv X pins σ H s) (h:SqL X.K H a xs) (h':SqL X.K H a ys):xs=ys:=by
 obtain⟨its,r,⟨o,n,e,_,_,d⟩,_⟩:=I.list h
 obtain⟨its',r',⟨o',n',e',_,_,d'⟩,_⟩:=I.list h'
 rw[e] at e';cases e'
 rw[d] at d'
 injection d' with d1 _
 have:its=its':=by simpa using congrArg Array.toList d1
 subst this
 exact r.inj r'
theorem Inv.tuple_inj (I:Inv X pins σ H s) (h:SqT X.K H a xs) (h':SqT X.K H a ys):xs=ys:=by
 obtain⟨its,r,⟨o,e,_,n,d⟩,_⟩:=I.tuple h
 obtain⟨its',r',⟨o',e',_,n',d'⟩,_⟩:=I.tuple h'
 rw[e] at e';cases e'
 rw[d] at d'
 injection d' with d1 _
 have:its=its':=by simpa using congrArg Array.toList d1
 subst this
 exact r.inj r'
end
noncomputable abbrev Cx.wish (X:Cx) (E:Value->Shared->Prop):Cx:={ X with xe:=E }
noncomputable abbrev Cx.nox (X:Cx):Cx:=X.wish fun _ _=>False
theorem Cx.Ok.wish {X:Cx} (ok:X.Ok) (E:Value->Shared->Prop):(X.wish E).Ok :=
 ⟨ok.mod,ok.kind,ok.glob,ok.blt,ok.above,ok.inj,ok.has,ok.cab,ok.hd,ok.frames,ok.stk,ok.exf,ok.bs,ok.bsz,ok.noex,ok.exfs,ok.funs,ok.frf⟩
theorem Cx.Ok.unwish {X:Cx}{E:Value->Shared->Prop} (ok:(X.wish E).Ok):X.Ok :=
 ⟨ok.mod,ok.kind,ok.glob,ok.blt,ok.above,ok.inj,ok.has,ok.cab,ok.hd,ok.frames,ok.stk,ok.exf,ok.bs,ok.bsz,ok.noex,ok.exfs,ok.funs,ok.frf⟩
section
variable {X:Cx}{pins:List (Addr×Obj)}{σ:St}{H:Hp}{s:Shared}{E:Value->Shared->Prop}
theorem Inv.wish (I:Inv X pins σ H s) (E:Value->Shared->Prop):Inv (X.wish E) pins σ H s:=⟨I.ok.wish E,I.os,I.bare,I.base,I.loc,I.cell,I.free,I.freeC,I.pin,I.hok,I.len,I.tk⟩
theorem Inv.unwish (I:Inv (X.wish E) pins σ H s):Inv X pins σ H s:=⟨I.ok.unwish,I.os,I.bare,I.base,I.loc,I.cell,I.free,I.freeC,I.pin,I.hok,I.len,I.tk⟩
theorem SP.unwish {D:ZT}{f:Flow}{s':Shared} (h:SP (X.wish E) pins D f s'):SP X pins D f s':=by
 cases f with
 | next=>obtain⟨σ',H',I,q⟩:=h;exact⟨σ',H',I.unwish,q⟩
 | brk=>obtain⟨σ',H',I,q⟩:=h;exact⟨σ',H',I.unwish,q⟩
 | cont=>obtain⟨σ',H',I,q⟩:=h;exact⟨σ',H',I.unwish,q⟩
 | ret u=>obtain⟨v,σ',H',I,r,q⟩:=h;exact⟨v,σ',H',I.unwish,r,q⟩
theorem PSs.nox {st:List Stmt}{t:TS} (h:PSs X.nox st t):PSs X st t:=fun pins s σ H D I hw =>
 wpAny_mono (h pins s σ H D (I.wish _) hw) (fun _ _ q=>q.unwish) fun _ _ z=>False.elim z
end
section
variable {X:Cx}{st:Stmt}{j4:List Stmt}{t u:TS}{e:Expr}{te:TE}{pos:Pos}
noncomputable def zLB:TS:=fun D σ H=>D.nx σ H
noncomputable def zMI (t u:TS):TS:=fun D σ H=>t { D with nx:=u D } σ H
theorem zIY:PSs X [] zLB:=fun _ _ σ H _ I h=>wpAny_execs_nil ⟨σ,H,I,h⟩
theorem zGc (h1:PS X st t) (h2:PSs X j4 u):PSs X (st::j4) (zMI t u):=by
 intro pins s σ H D I h
 refine wpAny_execs_cons (thn (h1 pins s σ H { D with nx:=u D } I h) fun f s1 q=>?_)
 cases f with
 | next =>
  obtain⟨σ',H',I',q⟩:=q
  exact h2 pins s1 σ' H' D I' q
 | ret v=>exact q
 | brk=>exact q
 | cont=>exact q
theorem zHw (h1:PS X st t):PSs X [st] t:=by
 intro pins s σ H D I h
 refine wpAny_execs_cons (thn (h1 pins s σ H D I h) fun f s1 q=>?_)
 cases f with
 | next=>exact wpAny_execs_nil q
 | ret v=>exact q
 | brk=>exact q
 | cont=>exact q
theorem Inv.quiet {pins:List (Addr×Obj)}{σ:St}{H:Hp}{s:Shared} (I:Inv X pins σ H s):interactive X.env=false:=by simp[interactive,I.ok.kind]
noncomputable def zLG (te:TE):TS:=fun D σ H=>te σ H fun _ H1=>D.nx σ H1
theorem zIj (he:PE X e te) (hs:swapsWith e none pos.line X.env=pure false:=by rfl):PS X (.Expr e pos) (zLG te):=by
 intro pins s σ H D I h
 exact wpAny_Expr_any (thn (he pins s σ H _ I h) fun v s1 ⟨x,H1,I1,r1,q1⟩=>⟨σ,H1,I1,q1⟩) I.quiet hs
noncomputable def zL0 (te:TE):TS:=fun D σ H=>te σ H D.rt
theorem zJL (he:PE X e te):PS X (.Return (some e) pos) (zL0 te):=by
 intro pins s σ H D I h
 exact wpAny_Return_some (thn (he pins s σ H _ I h) fun v s1 ⟨x,H1,I1,r1,q1⟩=>⟨x,σ,H1,I1,r1,q1⟩)
noncomputable def zLs (c:TT) (t u:TS):TS:=fun D σ H=>c σ H fun b H1=>if b=true then t D σ H1 else u D σ H1
theorem zLc {c:Expr}{a b:List Stmt}{tc:TT} (hc:PT X c tc) (ha:PSs X a t) (hb:PSs X b u):PS X (.If c a b pos) (zLs tc t u):=by
 intro pins s σ H D I h
 refine wpAny_If (thn (hc pins s σ H _ I h) fun d s1 ⟨H1,I1,q1⟩=>?_)
 cases d with
 | true=>exact ha pins s1 σ H1 D I1 q1
 | false=>exact hb pins s1 σ H1 D I1 q1
noncomputable def zJe:TS:=fun _ _ _=>False
theorem zHA:PS X st zJe:=fun _ _ _ _ _ _ h=>h.elim
end
noncomputable abbrev TG:=V->St->Hp->(St->Hp->Prop)->Prop
noncomputable abbrev TGs:=List V->St->Hp->(St->Hp->Prop)->Prop
noncomputable def PG (X:Cx) (target:Expr) (t:TG):Prop :=
 ∀ (pins:List (Addr×Obj)) (s:Shared) (σ:St) (H:Hp) (v:V) (u:Value) (Q:St->Hp->Prop),Inv X pins σ H s->zY v u->t v σ H Q ->
  wpAny (model X.prog X.w) X.A (assign target X.env u) (fun _ s'=>∃ σ' H',Inv X pins σ' H' s'/\Q σ' H') X.xe s
noncomputable def PGs (X:Cx) (ts:List Expr) (t:TGs):Prop :=
 ∀ (pins:List (Addr×Obj)) (s:Shared) (σ:St) (H:Hp) (vs:List V) (us:List Value) (Q:St->Hp->Prop),Inv X pins σ H s->zX vs us->t vs σ H Q ->
  wpAny (model X.prog X.w) X.A (assignInOrder ((assignEach ts X.env).map (·.2)) us) (fun _ s'=>∃ σ' H',Inv X pins σ' H' s'/\Q σ' H') X.xe s
noncomputable abbrev zHG:=V->V->V->Hp->(Hp->Prop)->Prop
noncomputable def zKE (X:Cx) (t:zHG):Prop :=
 ∀ (pins:List (Addr×Obj)) (s:Shared) (σ:St) (H:Hp) (o i v:V) (ov iv u:Value) (Q:Hp->Prop),Inv X pins σ H s->zY o ov->zY i iv->zY v u->t o i v H Q ->
  wpAny (model X.prog X.w) X.A (setItem ov iv u) (fun _ s'=>∃ H',Inv X pins σ H' s'/\Q H') X.xe s
section
variable {X:Cx}{pos:Pos}
noncomputable def ze (i:Nat):TG:=fun v σ H Q=>Q (σ.set i (some v)) H
theorem zHy {i:Nat}{x:Str} (hN:X.N.Nodup) (hi:X.N[i]? = some x) (hx:Loc X.env.scope x) (hf:X.fn x=true\/X.env.scope.names.lookup x=some .local:=by first | exact .inl rfl | exact .inr rfl | assumption):PG X (.Name x pos) (ze i):=by
 intro pins s σ H v u Q I r h
 exact wpAny_assign_Name (zDN I hN hi hx r (fun s' I'=>⟨_,H,I',h⟩) hf)
noncomputable def Zd:TGs:=fun vs σ H Q=>vs=[]/\Q σ H
noncomputable def jt (t:TG) (u:TGs):TGs:=fun vs σ H Q=>∃ v r,vs=v::r/\t v σ H fun σ' H'=>u r σ' H' Q
theorem zHu:PGs X [] Zd:=by
 intro pins s σ H vs us Q I r h
 obtain⟨e,h⟩:=h
 subst e
 cases r
 exact assignInOrder_nil ⟨σ,H,I,h⟩
theorem zCr {e:Expr}{es:List Expr}{t:TG}{u:TGs} (h1:PG X e t) (h2:PGs X es u)
  (hs:(assignEach (e::es) X.env).map (·.2)=assign e X.env::(assignEach es X.env).map (·.2):=by rfl):PGs X (e::es) (jt t u):=by
 intro pins s σ H vs us Q I r h
 obtain⟨v,vr,e1,h⟩:=h
 subst e1
 cases r with
 | cons r rr =>
  rw[hs]
  refine assignInOrder_cons (thn (h1 pins s σ H _ _ _ I r h) fun _ s1 ⟨σ1,H1,I1,q1⟩=>?_)
  exact h2 pins s1 σ1 H1 _ _ Q I1 rr q1
noncomputable def Za (K:PySem.W.Frag) (n:Nat) (t:TGs):TG:=fun v σ H Q=>∃ a xs,v=.ref a/\SqT K H a xs/\xs.length=n/\t xs σ H Q
theorem zJq {es:List Expr}{k:Nat}{t:TGs}{n:Nat} (hc:X.calm=true) (h:PGs X es t)
  (hn:(assignEach es X.env).length=n:=by rfl) (hst:(assignEach es X.env).findIdx? (·.1)=none:=by rfl):PG X (.Tuple es k pos) (Za X.K n t):=by
 intro pins s σ H v u Q I r hw
 obtain⟨a,xs,e1,hq,hl,hw⟩:=hw
 subst e1
 cases r
 obtain⟨its,rv,ht,hz⟩:=I.tuple hq
 refine assign_Tuple_tuple (I.ok.hd hc) ht (by simp[hn,<- hl,rv.length]) hst fun h' hx=>?_
 have I1:Inv X pins σ H { s with heap:=h' }:=I.kept (t':=s.toks) fun b o e=>hx b o (Nat.ne_of_lt (Heap.lt_size e)) e
 exact h pins _ σ H xs _ Q I1 (by simpa using rv) hw
noncomputable def zL6 (to ti:TE) (t:zHG):TG:=fun v σ H Q=>to σ H fun o H1=>ti σ H1 fun i H2=>t o i v H2 fun H3=>Q σ H3
theorem zKb {o i:Expr}{to ti:TE}{t:zHG} (ho:PE X o to) (hi:PE X i ti) (hs:zKE X t)
  (ha:∀ v,assign (.Subscript o i pos) X.env v=(do
   let ov <- holding [v] (eval o X.env)
   let iv <- holding [v,ov] (eval i X.env)
   standAt pos
   holding [v,ov,iv] (setItem ov iv v)
   release [v,ov,iv] []):=by intro _;rfl):PG X (.Subscript o i pos) (zL6 to ti t):=by
 intro pins s σ H v u Q I r h
 rw[ha]
 refine wpAny_bind (wpAny_holding (thn (ho pins s σ H _ I h) fun ov s1 ⟨x,H1,I1,r1,q1⟩=>?_))
 refine wpAny_bind (wpAny_holding (thn (hi pins s1 σ H1 _ I1 q1) fun iv s2 ⟨y,H2,I2,r2,q2⟩=>?_))
 refine wpAny_bind (wpAny_standAt (wpAny_bind (wpAny_holding (thn (hs pins s2 σ H2 x y v ov iv u _ I2 r1 r2 r q2) fun _ s3 ⟨H3,I3,q3⟩=>?_))))
 exact wpAny_release ⟨σ,H3,I3,q3⟩
noncomputable def zHH (te:TE) (g:TG):TS:=fun D σ H=>te σ H fun x H1=>g x σ H1 D.nx
theorem zKd {tg e:Expr}{te:TE}{g:TG} (he:PE X e te) (hg:PG X tg g) (hs:swapsWithSole [tg] e pos.line X.env=pure false:=by rfl) (hw:swappedStores [tg] e X.env=pure none:=by rfl)
  (h1:(assignEach [tg] X.env).map (·.2)=[assign tg X.env]:=by rfl):PS X (.Assign [tg] e pos) (zHH te g):=by
 intro pins s σ H D I h
 refine wpAny_Assign_stores (thn (he pins s σ H _ I h) fun v s1 ⟨x,H1,I1,r1,q1⟩=>?_) hs hw
 rw[h1]
 exact thn (hg pins s1 σ H1 x v _ I1 r1 q1) fun _ s2 q=>q
theorem zKc {i:Nat}{x:Str}{e:Expr}{te:TE}{pos':Pos} (hN:X.N.Nodup) (hi:X.N[i]? = some x) (hx:Loc X.env.scope x) (he:PE X e te) (hs:swapsWith e (some (.Name x pos')) pos.line X.env=pure false:=by rfl) (hf:X.fn x=true\/X.env.scope.names.lookup x=some .local:=by first | exact .inl rfl | exact .inr rfl | assumption) :
  PS X (.Assign [.Name x pos'] e pos) (zHH te (ze i)):=by
 intro pins s σ H D I h
 refine wpAny_Assign_Name (thn (he pins s σ H _ I h) fun v s1 ⟨y,H1,I1,r1,q1⟩=>?_) hs
 exact zDN I1 hN hi hx r1 (fun s2 I2=>⟨_,H1,I2,q1⟩) hf
end
structure It where
 go:Nat->Hp->Prop
 yld:Nat->Hp->V->Hp->Prop
 stop:Nat->Hp->Prop
noncomputable def QW (X:Cx) (pins:List (Addr×Obj)) (H:Hp) (b:Addr):Prop :=
 H b=none/\b≠X.env.locals/\b∉X.fs/\(b∈X.ex\/X.s₀.heap.objs.size <= b)/\(∀ x c,X.env.cells.lookup x=some c->c≠b)/\∀ p∈X.pn++pins,p.1≠b
theorem Inv.fpOk {X:Cx}{pins:List (Addr×Obj)}{σ:St}{H H':Hp}{s:Shared}{b:Addr} (I:Inv X pins σ H s) (hb:s.heap.objs.size <= b) (hn:H' b=none):QW X pins H' b:=by
 refine⟨hn,Nat.ne_of_gt (Nat.lt_of_lt_of_le I.lt hb),I.nofs hb,.inr (Nat.le_trans I.sz hb),fun x c e z=>?_,fun p hp z=>?_⟩
 ·obtain⟨v,q⟩:=I.cell x c e
  exact absurd (Nat.lt_of_lt_of_le q.lt (by rw[z];exact hb)) (Nat.lt_irrefl _)
 ·exact absurd (Nat.lt_of_lt_of_le (Heap.lt_size (I.pin p hp).1) (by rw[z];exact hb)) (Nat.lt_irrefl _)
structure JW (P:Program) (w:World) (K:PySem.W.Frag) (tg:Expr) (J:It) (fp:List Addr) (it:Addr) (tn:Nat->Heap->Prop):Prop where
 mem:it∈fp
 obj:∀ i h,tn i h->∀ b∈fp,∃ o,h.get? b=some o/\∀ v,o.data≠.cell v
 keep:∀ i h h',tn i h->(∀ b∈fp,∀ o,h.get? b=some o->h'.get? b=some o)->tn i h'
 item:∀ (X:Cx),X.prog=P->X.w=w->X.K=K->X.calm=true->∀ (i:Nat) (pins:List (Addr×Obj)) (s:Shared) (σ:St) (H:Hp) (E:Value->Shared->Prop),Inv X pins σ H s->(∀ b∈fp,QW X pins H b)->tn i s.heap->J.go i H ->
  wpAny (model P w) X.A (pyNext (.ref it)) (fun r s1=>∃ u,r=some u /\
   wpAny (model P w) X.A (letOwnedTupleGo tg (.ref it) u) (fun _ s2=>∃ x H',Inv X pins σ H' s2/\zY x u/\J.yld i H x H'/\tn (i+1) s2.heap/\∀ b∈fp,H' b=none) E s1) E s
 done:∀ (X:Cx),X.prog=P->X.w=w->X.K=K->X.calm=true->∀ (i:Nat) (pins:List (Addr×Obj)) (s:Shared) (σ:St) (H:Hp) (E:Value->Shared->Prop),Inv X pins σ H s->(∀ b∈fp,QW X pins H b)->tn i s.heap->J.stop i H ->
  wpAny (model P w) X.A (pyNext (.ref it)) (fun r s1=>r=none/\Inv X pins σ H s1) E s
 self:∀ (A:Around) (i:Nat) (s:Shared) (Q:Value->Shared->Prop) (E:Value->Shared->Prop),tn i s.heap->Q (.ref it) s->wpAny (model P w) A (pyIter (.ref it)) Q E s
noncomputable abbrev TI:=St->Hp->(It->Hp->Prop)->Prop
noncomputable def PIE (X:Cx) (pins:List (Addr×Obj)) (σ:St) (tg:Expr) (R:It->Hp->Prop) (itv:Value) (s2:Shared):Prop :=
 ∃ (it:Addr) (fp:List Addr) (tn:Nat->Heap->Prop) (J:It) (H':Hp),itv=.ref it/\Inv X pins σ H' s2/\JW X.prog X.w X.K tg J fp it tn/\tn 0 s2.heap/\(∀ b∈fp,QW X pins H' b)/\R J H'
noncomputable def PI (X:Cx) (tg iter:Expr) (wi:TI):Prop :=
 ∀ (pins:List (Addr×Obj)) (s:Shared) (σ:St) (H:Hp) (R:It->Hp->Prop),Inv X pins σ H s->wi σ H R ->
  wpAny (model X.prog X.w) X.A (eval iter X.env) (fun v s1=>wpAny (model X.prog X.w) X.A (pyIter v) (PIE X pins σ tg R) X.xe s1) X.xe s
theorem zAd {M:Model}{A:Around}{E:Value->Shared->Prop}{s:Shared}{tg:Expr}{it:Addr}{u:Value}{o:Obj}{n:String}{vs:Array Value}{Q:Unit->Shared->Prop} (ho:s.heap.get? it=some o) (hc:o.cls=.type n) (hd:o.data=.fields vs)
  (hn:["enumerate","zip","dict_itemiterator","dict_reverseitemiterator","odict_iterator","itertools.zip_longest","itertools.pairwise"].contains n=false) (hQ:Q () s):wpAny M A (letOwnedTupleGo tg (.ref it) u) Q E s:=by
 unfold letOwnedTupleGo
 cases tg<;>first
  | exact wpAny_pure hQ
  | (cases u<;>first
      | exact wpAny_pure hQ
      | (refine wpAny_bind (wpAny_load ho ?_)
         rw[hc,hd]
         show wpAny M A (if (["enumerate","zip","dict_itemiterator","dict_reverseitemiterator","odict_iterator","itertools.zip_longest","itertools.pairwise"].contains n && vs[0]? == some (rawInt _))=true then _ else _) Q E s
         rw[if_neg (by intro h;rw[hn,Bool.false_and] at h;cases h)]
         exact wpAny_pure hQ))
noncomputable def Itl (K:PySem.W.Frag) (a:Addr):It :=
 ⟨fun i H=>∃ xs x,SqL K H a xs/\xs[i]? = some x,fun i H x H'=>H'=H/\∀ xs,SqL K H a xs->xs[i]? = some x,fun i H=>∃ xs,SqL K H a xs/\xs.length <= i⟩
noncomputable def Itt (K:PySem.W.Frag) (a:Addr):It :=
 ⟨fun i H=>∃ xs x,SqT K H a xs/\xs[i]? = some x,fun i H x H'=>H'=H/\∀ xs,SqT K H a xs->xs[i]? = some x,fun i H=>∃ xs,SqT K H a xs/\xs.length <= i⟩
noncomputable def Itr (lo:Int) (n:Nat):It:=⟨fun i _=>i < n,fun i H x H'=>H'=H/\x=.int (lo+i),fun i _=>n <= i⟩
theorem zF5 {P:Program}{w:World}{K:PySem.W.Frag}{tg:Expr} (a it:Addr):JW P w K tg (Itl K a) [it] it (fun i h=>h.IsListIter it a i) where
 mem:=by simp
 obj:=fun i h st b hb=>by
  have e:b=it:=by simpa using hb
  subst e
  obtain⟨o,e,c,d⟩:=st
  exact⟨o,e,fun v z=>by rw[d] at z;cases z⟩
 keep:=fun i h h' st k=>st.at fun o e=>k it (by simp) o e
 item:=by
  intro X hP hw hK hc i pins s σ H E I hf st hg
  subst hP hw hK
  obtain⟨xs,x,hq,hx⟩:=hg
  obtain⟨its,rv,p,hz⟩:=I.list hq
  obtain⟨u,hu,ru⟩:=rv.get hx
  obtain⟨f0,f1,f2,f3,f4,f5⟩:=hf it (by simp)
  refine wpAny_pyNext_list_item st p.isList (x:=u) (by simpa using hu) fun h' st' sb=>?_
  have I1:Inv X pins σ H { s with heap:=h' }:=I.turned (t':=s.toks) (fun b o hb e=>(sb.2 b hb).trans e) f0 f1 f3 f4 f5
  obtain⟨o,e,c,d⟩:=id st'
  exact⟨u,rfl,zAd (s:={ s with heap:=h' }) e c d (by decide) ⟨x,H,I1,ru,⟨rfl,fun ys hy=>by rw[I.list_inj hy hq];exact hx⟩,st',fun b hb=>(hf b hb).1⟩⟩
 done:=by
  intro X hP hw hK hc i pins s σ H E I hf st hg
  subst hP hw hK
  obtain⟨xs,hq,hx⟩:=hg
  obtain⟨its,rv,p,hz⟩:=I.list hq
  obtain⟨f0,f1,f2,f3,f4,f5⟩:=hf it (by simp)
  have hl:=rv.length
  exact wpAny_pyNext_list_end (I.ok.hd hc) st p.isList (by simp;omega) fun h' eb=>⟨rfl,I.turned (t':=s.toks) (fun b o hb e=>eb b o hb e) f0 f1 f3 f4 f5⟩
 self:=fun _ _ _ _ _ st h=>wpAny_pyIter_listiter st h
theorem zEr {P:Program}{w:World}{K:PySem.W.Frag}{tg:Expr} (a it:Addr):JW P w K tg (Itt K a) [it] it (fun i h=>h.IsTupleIter it a i) where
 mem:=by simp
 obj:=fun i h st b hb=>by
  have e:b=it:=by simpa using hb
  subst e
  obtain⟨o,e,c,d⟩:=st
  exact⟨o,e,fun v z=>by rw[d] at z;cases z⟩
 keep:=fun i h h' st k=>st.at fun o e=>k it (by simp) o e
 item:=by
  intro X hP hw hK hc i pins s σ H E I hf st hg
  subst hP hw hK
  obtain⟨xs,x,hq,hx⟩:=hg
  obtain⟨its,rv,p,hz⟩:=I.tuple hq
  obtain⟨u,hu,ru⟩:=rv.get hx
  obtain⟨f0,f1,f2,f3,f4,f5⟩:=hf it (by simp)
  refine wpAny_pyNext_tuple_item st (show s.heap.IsTuple a its.toArray from p) (x:=u) (by simpa using hu) fun h' st' sb=>?_
  have I1:Inv X pins σ H { s with heap:=h' }:=I.turned (t':=s.toks) (fun b o hb e=>(sb.2 b hb).trans e) f0 f1 f3 f4 f5
  obtain⟨o,e,c,d⟩:=id st'
  exact⟨u,rfl,zAd (s:={ s with heap:=h' }) e c d (by decide) ⟨x,H,I1,ru,⟨rfl,fun ys hy=>by rw[I.tuple_inj hy hq];exact hx⟩,st',fun b hb=>(hf b hb).1⟩⟩
 done:=by
  intro X hP hw hK hc i pins s σ H E I hf st hg
  subst hP hw hK
  obtain⟨xs,hq,hx⟩:=hg
  obtain⟨its,rv,p,hz⟩:=I.tuple hq
  obtain⟨f0,f1,f2,f3,f4,f5⟩:=hf it (by simp)
  have hl:=rv.length
  exact wpAny_pyNext_tuple_end (I.ok.hd hc) st (show s.heap.IsTuple a its.toArray from p) (by simp;omega) fun h' eb=>⟨rfl,I.turned (t':=s.toks) (fun b o hb e=>eb b o hb e) f0 f1 f3 f4 f5⟩
 self:=fun _ _ _ _ _ st h=>wpAny_pyIter_tupleiter st h
theorem zEh {P:Program}{w:World}{K:PySem.W.Frag}{tg:Expr} (it:Addr) (lo:Int) (n:Nat):JW P w K tg (Itr lo n) [it] it (fun i h=>IsRangeIter h it (lo+(i:Nat) * 1) ((n:Int) - (i:Nat)) 1) where
 mem:=by simp
 obj:=fun i h st b hb=>by
  have e:b=it:=by simpa using hb
  subst e
  exact⟨_,st,fun v z=>by
   have z':Data.fields _=Data.cell v:=z
   cases z'⟩
 keep:=fun i h h' st k=>k it (by simp) _ st
 item:=by
  intro X hP hw hK hc i pins s σ H E I hf st hg
  subst hP hw hK
  obtain⟨f0,f1,f2,f3,f4,f5⟩:=hf it (by simp)
  have W:=Walks.range (prog:=X.prog) (w:=X.w) (I.ok.hd hc) it lo 1 n
  refine wpAny_with_toks (n:=1) I.tk (W.item i s _ _ hg st fun v h' tk hv st' kk htk=>?_)
  obtain⟨t,rfl⟩:=hv
  have I1:Inv X pins σ H { s with heap:=h',toks:=tk }:=I.turned (fun b o hb e=>kk b o (by simpa using hb) e) f0 f1 f3 f4 f5
  refine⟨_,rfl,zAd (s:={ s with heap:=h',toks:=tk }) (n := "range_iterator") st' rfl rfl (by decide) ⟨.int (lo+i),H,I1,⟨t,?_⟩,⟨rfl,rfl⟩,st',fun b hb=>(hf b hb).1⟩⟩
  rw[Int.mul_one]
 done:=by
  intro X hP hw hK hc i pins s σ H E I hf st hg
  subst hP hw hK
  obtain⟨f0,f1,f2,f3,f4,f5⟩:=hf it (by simp)
  exact wpAny_pyNext_range_end (I.ok.hd hc) st (by have:n <= i:=hg;omega) fun h' eb=>⟨rfl,I.turned (t':=s.toks) (fun b o hb e=>eb b o hb e) f0 f1 f3 f4 f5⟩
 self:=fun _ _ _ _ _ st h=>wpAny_pyIter_rangeiter st h
end L2
namespace L2
open PySem PySem.Spec PyProof.Rows
section
variable {X:Cx}{tg:Expr}
noncomputable def zK5 (K:PySem.W.Frag) (tl:TE):TI:=fun σ H R=>tl σ H fun x H1=>∃ a,x=.ref a/\(∃ xs,SqL K H1 a xs)/\R (Itl K a) H1
noncomputable def zLz (K:PySem.W.Frag) (tl:TE):TI:=fun σ H R=>tl σ H fun x H1=>∃ a,x=.ref a/\(∃ xs,SqT K H1 a xs)/\R (Itt K a) H1
theorem zIK {l:Expr}{tl:TE} (hl:PE X l tl):PI X tg l (zK5 X.K tl):=by
 intro pins s σ H R I h
 refine thn (hl pins s σ H _ I h) fun v s1 ⟨x,H1,I1,r1,q1⟩=>?_
 obtain⟨a,e,⟨xs,hq⟩,q⟩:=q1
 subst e
 cases r1
 obtain⟨its,rv,p,hz⟩:=I1.list hq
 refine wpAny_pyIter_list p.isList ?_
 refine⟨s1.heap.objs.size,[s1.heap.objs.size],_,_,H1,rfl,I1.kept (t':=s1.toks) fun b o e=>Heap.get?_push_of_some _ e,zF5 a _,⟨_,Heap.get?_push_size _ rfl,rfl,rfl⟩,fun b hb=>?_,q⟩
 have e:b=s1.heap.objs.size:=by simpa using hb
 subst e
 exact I1.fpOk (Nat.le_refl _) (I1.hok.fresh (Nat.le_refl _))
theorem zKX {l:Expr}{tl:TE} (hl:PE X l tl):PI X tg l (zLz X.K tl):=by
 intro pins s σ H R I h
 refine thn (hl pins s σ H _ I h) fun v s1 ⟨x,H1,I1,r1,q1⟩=>?_
 obtain⟨a,e,⟨xs,hq⟩,q⟩:=q1
 subst e
 cases r1
 obtain⟨its,rv,p,hz⟩:=I1.tuple hq
 refine wpAny_pyIter_tuple (show s1.heap.IsTuple a its.toArray from p) ?_
 refine⟨s1.heap.objs.size,[s1.heap.objs.size],_,_,H1,rfl,I1.kept (t':=s1.toks) fun b o e=>Heap.get?_push_of_some _ e,zEr a _,⟨_,Heap.get?_push_size _ rfl,rfl,rfl⟩,fun b hb=>?_,q⟩
 have e:b=s1.heap.objs.size:=by simpa using hb
 subst e
 exact I1.fpOk (Nat.le_refl _) (I1.hok.fresh (Nat.le_refl _))
theorem zGr {pins:List (Addr×Obj)}{σ:St}{H:Hp}{s:Shared}{R:It->Hp->Prop}{E:Value->Shared->Prop}{lo hi:Int}{t u v:Tok}{tk:Nat} (I:Inv X pins σ H s) (h1:-(2 ^ 62) <= lo) (h2:lo < 2 ^ 62) (h3:-(2 ^ 62) <= hi) (h4:hi < 2 ^ 62)
  (q:R (Itr lo (hi - lo).toNat) H) (htk:0 < tk:=by first | exact Nat.succ_pos _ | assumption | exact Inv.tk (by assumption) | omega):wpAny (model X.prog X.w) X.A (pyIter (.ref s.heap.objs.size)) (PIE X pins σ tg R) E { s with heap:=s.heap.push { cls:=.type "range",data:=.fields #[.int lo t,.int hi u,.int 1 v] },toks:=tk }:=by
 refine wpAny_pyIter_range (IsRange.new ..) (small_one h1 h2 h3 h4) ?_
 have I1:Inv X pins σ H { s with heap:=s.heap.push { cls:=.type "range",data:=.fields #[.int lo t,.int hi u,.int 1 v] },toks:=tk }:=I.kept fun b o e=>Heap.get?_push_of_some _ e
 refine⟨(s.heap.push { cls:=.type "range",data:=.fields #[.int lo t,.int hi u,.int 1 v] }).objs.size,[(s.heap.push { cls:=.type "range",data:=.fields #[.int lo t,.int hi u,.int 1 v] }).objs.size],_,_,H,rfl,
  I1.kept (t':=tk) fun b o e=>Heap.get?_push_of_some _ e,zEh _ lo (hi - lo).toNat,?_,fun b hb=>?_,q⟩
 ·have e1:lo+((0:Nat):Int) * 1=lo:=by simp
  have e2:(((hi - lo).toNat:Nat):Int) - ((0:Nat):Int)=Builtin.Range.rangeSize lo hi 1:=by rw[rangeSize_one];split<;>omega
  show IsRangeIter _ _ (lo+((0:Nat):Int) * 1) ((((hi - lo).toNat:Nat):Int) - ((0:Nat):Int)) 1
  rw[e1,e2]
  exact Heap.get?_push_size _ rfl
 ·have e:b=(s.heap.push { cls:=.type "range",data:=.fields #[.int lo t,.int hi u,.int 1 v] }).objs.size:=by simpa using hb
  subst e
  exact I1.fpOk (Nat.le_refl _) (I1.hok.fresh (Nat.le_refl _))
noncomputable def zLV (ta:TA):TI:=fun σ H R=>ta σ H fun vs H1=>∃ j:Int,vs=[.int j] /\ -(2 ^ 62) <= j/\j < 2 ^ 62/\R (Itr 0 j.toNat) H1
theorem zFJ {a:Expr}{ta:TA}{p pos:Pos} (hg:Gl X "range") (hm:X.mg "range" = none) (ha:PA X [a] ta) (hs:starEach [a] X.env=[(false,eval a X.env)]:=by rfl):PI X tg (.Call (.Name "range" p) [a] [] pos) (zLV ta):=by
 intro pins s σ H R I h
 refine Call_ (zAy I hg hm boot_range (PyProof.Rows.callWith_type1 (thn (ha pos pins s σ H _ I h) fun us s1 ⟨vs,H1,I1,r1,q1⟩=>?_) hs rfl))
 obtain⟨j,e,q1,q2,q⟩:=q1
 subst e
 cases r1 with
 | cons r rr =>
  cases rr
  obtain⟨t,rfl⟩:=r
  exact call_range_1 (zGr I1 (by omega) (by omega) q1 q2 (by simpa using q))
noncomputable def zLn (wi:TI) (g:TG) (tb:TS):TS:=fun D σ H=>wi σ H fun J H1=>∃ W:Nat->Nat->St->Hp->Prop,(∃ m,W 0 m σ H1)/\∀ i m σ H,W i m σ H ->
 (J.stop i H/\D.nx σ H)\/(J.go i H/\∃ N:St->Hp->Prop,(∀ σ' H',N σ' H'->∃ m',m' < m/\W (i+1) m' σ' H')/\∀ x H',J.yld i H x H'->g x σ H' fun σ2 H2=>tb { D with nx:=N,ct:=N,bk:=D.nx } σ2 H2)
noncomputable def yw (fp:List Addr) (h:Heap):List (Addr×Obj):=fp.filterMap fun b=>(h.get? b).map fun o=>(b,o)
theorem Z2 {fp:List Addr}{h:Heap}{b:Addr}{o:Obj} (hb:b∈fp) (e:h.get? b=some o):(b,o)∈yw fp h:=List.mem_filterMap.mpr ⟨b,hb,by rw[e];rfl⟩
theorem zBs {fp:List Addr}{h:Heap}{p:Addr×Obj} (hp:p∈yw fp h):p.1∈fp/\h.get? p.1=some p.2:=by
 obtain⟨b,hb,e⟩:=List.mem_filterMap.mp hp
 cases q:h.get? b with
 | none=>rw[q] at e;cases e
 | some o =>
  rw[q] at e
  have e':(b,o)=p:=Option.some.inj e
  subst e'
  exact⟨hb,q⟩
theorem Inv.pinned {pins:List (Addr×Obj)}{σ:St}{H:Hp}{s:Shared}{fp:List Addr} (I:Inv X pins σ H s) (hf:∀ b∈fp,QW X pins H b) (ho:∀ b∈fp,∃ o,s.heap.get? b=some o/\∀ v,o.data≠.cell v):Inv X (pins++yw fp s.heap) σ H s :=
 I.pins_of fun p hp=>(List.mem_append.mp hp).elim (fun z=>I.pin p (List.mem_append_right _ z)) fun z=>by
  obtain⟨hb,e⟩:=zBs z
  obtain⟨f0,f1,f2,_⟩:=hf p.1 hb
  obtain⟨o,e',d⟩:=ho p.1 hb
  rw[e] at e';cases e'
  exact⟨e,f0,f1,f2,d⟩
theorem Inv.unpinned {pins pl:List (Addr×Obj)}{σ:St}{H:Hp}{s:Shared} (I:Inv X (pins++pl) σ H s):Inv X pins σ H s:=I.pins_of fun p hp=>I.pin p (List.mem_append_right _ (List.mem_append_left _ hp))
theorem zGH {iter:Expr}{body:List Stmt}{wi:TI}{g:TG}{tb:TS}{pos:Pos} (hp:PassesOwn (model X.prog X.w) X.A X.env X.xe) (hc:X.calm=true) (hi:PI X tg iter wi) (hg:PG X tg g) (hb:PSs X body tb)
  (hs:∀ x,foldedSetIterable iter X.env x=pure x:=by intro _;rfl):PS X (.For tg iter body [] pos) (zLn wi g tb):=by
 intro pins s σ H D I h
 refine wpAny_For (thn (hi pins s σ H _ I h) fun v s1 h1=>thn h1 fun itv s2 h2=>?_) hs
 obtain⟨it,fp,tn,J,H2,e,I2,T,st2,f2,W,⟨m0,w0⟩,turn⟩:=h2
 subst e
 have stat:∀ {H':Hp},(∀ b∈fp,H' b=none)->∀ b∈fp,QW X pins H' b:=fun hn b hb=>⟨hn b hb,(f2 b hb).2⟩
 refine codeAny_forLoop_any (fun n s'=>∃ i σ' H',Inv X pins σ' H' s'/\tn i s'.heap/\(∀ b∈fp,H' b=none)/\W i n σ' H') ?_ m0 ⟨0,σ,H2,I2,st2,fun b hb=>(f2 b hb).1,w0⟩
 rintro n s3 ⟨i,σ3,H3,I3,st3,fr3,w3⟩
 rcases turn i n σ3 H3 w3 with ⟨stop,qn⟩ | ⟨go,N,hN,step⟩
 ·refine wpAny_passesOwn hp (thn (T.done X rfl rfl rfl hc i pins s3 σ3 H3 X.xe I3 (stat fr3) st3 stop) fun r s4 ⟨hr,I4⟩=>?_)
  subst hr
  exact wpAny_execs_nil ⟨σ3,H3,I4,qn⟩
 ·refine wpAny_passesOwn hp (thn (T.item X rfl rfl rfl hc i pins s3 σ3 H3 X.xe I3 (stat fr3) st3 go) fun r s4 ⟨u,hr,h4⟩=>?_)
  subst hr
  refine wpAny_passesOwn hp (thn h4 fun _ s5 ⟨x,H5,I5,r5,y5,st5,fr5⟩=>?_)
  have I5':=I5.pinned (stat fr5) (T.obj _ _ st5)
  refine wpAny_passesOwn hp (thn (hg _ s5 σ3 H5 x u _ I5' r5 (step x H5 y5)) fun _ s6 ⟨σ6,H6,I6,q6⟩=>?_)
  refine wpAny_passesOwn hp (thn (hb _ s6 σ6 H6 _ I6 q6) fun f s7 q7=>?_)
  have again:∀ {σ7:St}{H7:Hp},Inv X (pins++yw fp s5.heap) σ7 H7 s7->N σ7 H7->∃ m,m < n/\∃ i σ' H',Inv X pins σ' H' s7/\tn i s7.heap/\(∀ b∈fp,H' b=none)/\W i m σ' H':=fun {σ7 H7} I7 n7=>by
   obtain⟨m',hm,w7⟩:=hN σ7 H7 n7
   refine⟨m',hm,i+1,σ7,H7,I7.unpinned,T.keep _ _ _ st5 fun b hb o e=>(I7.pin (b,o) (List.mem_append_right _ (List.mem_append_right _ (Z2 hb e)))).1,fun b hb=>?_,w7⟩
   obtain⟨o,e,d⟩:=T.obj _ _ st5 b hb
   exact (I7.pin (b,o) (List.mem_append_right _ (List.mem_append_right _ (Z2 hb e)))).2.1
  cases f with
  | next=>obtain⟨σ7,H7,I7,n7⟩:=q7;exact again I7 n7
  | cont=>obtain⟨σ7,H7,I7,n7⟩:=q7;exact again I7 n7
  | brk=>obtain⟨σ7,H7,I7,q7⟩:=q7;exact⟨σ7,H7,I7.unpinned,q7⟩
  | ret v=>obtain⟨x7,σ7,H7,I7,r7,q7⟩:=q7;exact⟨x7,σ7,H7,I7.unpinned,r7,q7⟩
end
end L2
namespace L2
open PySem PySem.Spec PyProof.Rows
noncomputable abbrev R2:=V->V->Hp->VK->Prop
noncomputable def OpR (X:Cx) (f:Value->Value->Sem Value) (r:R2):Prop :=
 ∀ (pins:List (Addr×Obj)) (s:Shared) (σ:St) (H:Hp) (x y:V) (v u:Value) (Q:VK),Inv X pins σ H s->zY x v->zY y u->r x y H Q ->
  wpAny (model X.prog X.w) X.A (f v u) (EP X pins σ Q) X.xe s
noncomputable def UnR (X:Cx) (f:Value->Sem Value) (r:V->Hp->VK->Prop):Prop :=
 ∀ (pins:List (Addr×Obj)) (s:Shared) (σ:St) (H:Hp) (x:V) (v:Value) (Q:VK),Inv X pins σ H s->zY x v->r x H Q ->
  wpAny (model X.prog X.w) X.A (f v) (EP X pins σ Q) X.xe s
noncomputable def jU (X:Cx) (f:Value) (r:List V->Hp->VK->Prop):Prop :=
 ∀ (pins:List (Addr×Obj)) (s:Shared) (σ:St) (H:Hp) (xs:List V) (us:List Value) (Q:VK),Inv X pins σ H s->zX xs us->r xs H Q ->
  wpAny (model X.prog X.w) X.A (call f us) (EP X pins σ Q) X.xe s
noncomputable def zLw (X:Cx) (r:V->Hp->(Bool->Hp->Prop)->Prop):Prop :=
 ∀ (pins:List (Addr×Obj)) (s:Shared) (σ:St) (H:Hp) (x:V) (v:Value) (Q:Bool->Hp->Prop),Inv X pins σ H s->zY x v->r x H Q ->
  wpAny (model X.prog X.w) X.A (truthy v) (TP X pins σ Q) X.xe s
noncomputable def tOp (r:R2) (ta tb:TE):TE:=fun σ H Q=>ta σ H fun x H1=>tb σ H1 fun y H2=>r x y H2 Q
noncomputable def tUn (r:V->Hp->VK->Prop) (ta:TE):TE:=fun σ H Q=>ta σ H fun x H1=>r x H1 Q
noncomputable def rI (C:Int->Int->Prop) (g:Int->Int->V):R2:=fun x y H Q=>∃ i j,x=.int i/\y=.int j/\C i j/\Q (g i j) H
noncomputable def rI0 (g:Int->Int->V):R2:=fun x y H Q=>∃ i j,x=.int i/\y=.int j/\Q (g i j) H
noncomputable def rU (g:Int->V):V->Hp->VK->Prop:=fun x H Q=>∃ i,x=.int i/\Q (g i) H
section
variable {X:Cx}{a b c:Expr}{ta tb tc:TE}{pos:Pos}
theorem zJb (ha:PE X a ta) (hb:PE X b tb) {pins:List (Addr×Obj)}{s:Shared}{σ:St}{H:Hp}{R:V->V->Hp->Prop} (I:Inv X pins σ H s)
  (h:ta σ H fun x H1=>tb σ H1 fun y H2=>R x y H2) {Q:Value->Shared->Prop}{f:Value->Value->Sem Value}
  (hf:∀ v u s2 x y H2,Inv X pins σ H2 s2->zY x v->zY y u->R x y H2->wpAny (model X.prog X.w) X.A (f v u) Q X.xe s2) :
  wpAny (model X.prog X.w) X.A (eval a X.env) (fun v s₁=>wpAny (model X.prog X.w) X.A (eval b X.env) (fun u s₂=>wpAny (model X.prog X.w) X.A (f v u) Q X.xe s₂) X.xe s₁) X.xe s:=by
 refine thn (ha pins s σ H _ I h) fun v s1 ⟨x,H1,I1,r1,q1⟩=>?_
 refine thn (hb pins s1 σ H1 _ I1 q1) fun u s2 ⟨y,H2,I2,r2,q2⟩=>?_
 exact hf v u s2 x y H2 I2 r1 r2 q2
theorem zLl {op:Operator}{r:R2} (ho:OpR X (binaryOp op) r) (ha:PE X a ta) (hb:PE X b tb):PE X (.BinOp a op b pos) (tOp r ta tb):=by
 intro pins s σ H Q I h
 exact wpAny_BinOp (zJb ha hb I h fun v u s2 x y H2 I2 rx ry q=>ho pins s2 σ H2 x y v u Q I2 rx ry q)
theorem zK1 {op:UnaryOp}{r:V->Hp->VK->Prop} (ho:UnR X (unaryOp op) r) (ha:PE X a ta):PE X (.UnaryOp op a pos) (tUn r ta):=by
 intro pins s σ H Q I h
 exact UnaryOp_ (thn (ha pins s σ H _ I h) fun v s1 ⟨x,H1,I1,r1,q1⟩=>ho pins s1 σ H1 x v Q I1 r1 q1)
theorem opI {f:Value->Value->Sem Value}{C:Int->Int->Prop}{g:Int->Int->Int}
  (rule:∀ (i j:Int) (t u:Tok) (s:Shared) (Q:Value->Shared->Prop) (E:Value->Shared->Prop),C i j->Q (.int (g i j) s.toks) { s with toks:=s.toks+1 }->wpAny (model X.prog X.w) X.A (f (.int i t) (.int j u)) Q E s) :
  OpR X f (rI C fun i j=>.int (g i j)):=by
 intro pins s σ H x y v u Q I rx ry h
 obtain⟨i,j,rfl,rfl,hc,q⟩:=h
 obtain⟨t,rfl⟩:=rx
 obtain⟨t',rfl⟩:=ry
 exact rule i j t t' s _ _ hc ⟨.int (g i j),H,I.tok _,⟨_,rfl⟩,q⟩
theorem zKH {f:Value->Value->Sem Value}{g:Int->Int->Int}
  (rule:∀ (i j:Int) (t u:Tok) (s:Shared) (Q:Value->Shared->Prop) (E:Value->Shared->Prop),Q (.int (g i j) s.toks) { s with toks:=s.toks+1 }->wpAny (model X.prog X.w) X.A (f (.int i t) (.int j u)) Q E s) :
  OpR X f (rI0 fun i j=>.int (g i j)):=by
 intro pins s σ H x y v u Q I rx ry h
 obtain⟨i,j,rfl,rfl,q⟩:=h
 obtain⟨t,rfl⟩:=rx
 obtain⟨t',rfl⟩:=ry
 exact rule i j t t' s _ _ ⟨.int (g i j),H,I.tok _,⟨_,rfl⟩,q⟩
theorem zGP {f:Value->Value->Sem Value}{g:Int->Int->Bool}
  (rule:∀ (i j:Int) (t u:Tok) (s:Shared) (Q:Value->Shared->Prop) (E:Value->Shared->Prop),Q (.bool (g i j)) s->wpAny (model X.prog X.w) X.A (f (.int i t) (.int j u)) Q E s) :
  OpR X f (rI0 fun i j=>.bl (g i j)):=by
 intro pins s σ H x y v u Q I rx ry h
 obtain⟨i,j,rfl,rfl,q⟩:=h
 obtain⟨t,rfl⟩:=rx
 obtain⟨t',rfl⟩:=ry
 exact rule i j t t' s _ _ ⟨.bl (g i j),H,I,rfl,q⟩
noncomputable def zMN (i j:Int):Prop:=0 < j/\j < 1073741824
noncomputable def zKV (i j:Int):Prop:=0 <= j/\j <= 1000000/\i.natAbs < 2 ^ 64
noncomputable def zEd (i j:Int):Prop:=(-(2 ^ 64) < i/\i < 2 ^ 64)\/(-(2 ^ 64) < j/\j < 2 ^ 64)
theorem zEd.ok {i j:Int} (h:zEd i j):IntMulOk i j:=by
 rcases h with ⟨h1,h2⟩ | ⟨h1,h2⟩
 ·exact .of_left (intBits_le_64 h1 h2)
 ·exact .of_right (intBits_le_64 h1 h2)
theorem zJK:OpR X (binaryOp .Add) (rI0 fun i j=>.int (i+j)):=zKH fun _ _ _ _ _ _ _ q=>add_int q
theorem zJn:OpR X (binaryOp .Sub) (rI0 fun i j=>.int (i - j)):=zKH fun _ _ _ _ _ _ _ q=>sub_int q
theorem zJV:OpR X (binaryOp .Mult) (rI zEd fun i j=>.int (i * j)):=opI fun _ _ _ _ _ _ _ hc q=>mul_int q hc.ok
theorem zIF:OpR X (binaryOp .FloorDiv) (rI zMN fun i j=>.int (i / j)):=opI fun i j _ _ _ _ _ hc q=>by
 have h1:(0:Int) < j:=hc.1
 have h2:j < 1073741824:=hc.2
 exact floordiv_int (by omega) (by rw[Int.fdiv_eq_ediv_of_nonneg i (by omega)];exact q) (.inl (PyProof.noPylong_small (by omega)))
theorem zJ4:OpR X (binaryOp .Mod) (rI (fun _ j=>0 < j) fun i j=>.int (i % j)):=opI fun i j _ _ _ _ _ hc q=>by
 have h1:(0:Int) < j:=hc
 exact mod_int' (by omega) (by rw[Int.fmod_eq_emod_of_nonneg i (by omega)];exact q)
theorem zFb:OpR X (binaryOp .Pow) (rI zKV fun i j=>.int (i ^ j.toNat)):=opI fun _ _ _ _ _ _ _ hc q=>pow_int_small hc.1 hc.2.1 hc.2.2 q
theorem unI {f:Value->Sem Value}{g:Int->Int}
  (rule:∀ (i:Int) (t:Tok) (s:Shared) (Q:Value->Shared->Prop) (E:Value->Shared->Prop),Q (.int (g i) s.toks) { s with toks:=s.toks+1 }->wpAny (model X.prog X.w) X.A (f (.int i t)) Q E s) :
  UnR X f (rU fun i=>.int (g i)):=by
 intro pins s σ H x v Q I rx h
 obtain⟨i,rfl,q⟩:=h
 obtain⟨t,rfl⟩:=rx
 exact rule i t s _ _ ⟨.int (g i),H,I.tok _,⟨_,rfl⟩,q⟩
theorem zJ7:UnR X (unaryOp .USub) (rU fun i=>.int (-i)):=unI fun _ _ _ _ _ q=>neg_int q
end
noncomputable def zBX:V->V->Bool
 | .non,.non=>true | .non,.int _=>true | .int _,.non=>true | .non,.bl _=>true | .bl _,.non=>true | .non,.str _=>true | .str _,.non=>true
 | .int _,.int _=>true | .bl _,.bl _=>true | .str _,.str _=>true | .byt _,.byt _=>true
 | .int _,.str _=>true | .str _,.int _=>true | .bl _,.str _=>true | .str _,.bl _=>true
 | _,_=>false
noncomputable def rEq:R2:=fun x y H Q=>zBX x y=true/\Q (.bl (decide (x=y))) H
noncomputable def rNe:R2:=fun x y H Q=>zBX x y=true/\Q (.bl (!decide (x=y))) H
theorem zEI {i j:Int}:decide (V.int i=V.int j)=(i == j):=by
 rw[Bool.eq_iff_iff]
 simp
theorem zFL {i j:Bool}:decide (V.bl i=V.bl j)=(i == j):=by
 rw[Bool.eq_iff_iff]
 simp
theorem zEB {i j:Str}:decide (V.str i=V.str j)=(i == j):=by
 rw[Bool.eq_iff_iff]
 simp
theorem zEC {i j:Array UInt8}:decide (V.byt i=V.byt j)=(i.toList == j.toList):=by
 rw[Bool.eq_iff_iff]
 cases i
 cases j
 simp
section
variable {X:Cx}{a b c:Expr}{ta tb tc:TE}{pos:Pos}
theorem jB {pins:List (Addr×Obj)}{σ:St}{H:Hp}{s:Shared}{Q:VK}{k k':Bool} (I:Inv X pins σ H s) (q:Q (.bl k) H) (e:k=k'):EP X pins σ Q (.bool k') s:=by
 subst e
 exact⟨.bl k,H,I,rfl,q⟩
theorem zK8:OpR X (compareOp .Eq) rEq:=by
 intro pins s σ H x y v u Q I rx ry h
 obtain⟨hs,q⟩:=h
 cases x with
 | non =>
  cases rx
  cases y with
  | non=>cases ry;exact PySem.EqNone.eq_none_none (jB I q (by simp))
  | bl j=>cases ry;exact PySem.EqNone.eq_none_bool (jB I q (by simp))
  | int j=>obtain⟨t',rfl⟩:=ry;exact PySem.EqNone.eq_none_int (jB I q (by simp))
  | str j=>obtain⟨t',rfl⟩:=ry;exact PySem.EqNone.eq_none_str (jB I q (by simp))
  | _=>exact absurd (show false=true from hs) Bool.false_ne_true
 | bl i =>
  cases rx
  cases y with
  | non=>cases ry;exact PySem.EqNone.eq_bool_none (jB I q (by simp))
  | bl j=>cases ry;exact eq_bool (jB I q zFL)
  | str j=>obtain⟨t',rfl⟩:=ry;exact PySem.EqMixed.eq_bool_str (jB I q (by simp))
  | _=>exact absurd (show false=true from hs) Bool.false_ne_true
 | int i =>
  obtain⟨t,rfl⟩:=rx
  cases y with
  | non=>cases ry;exact PySem.EqNone.eq_int_none (jB I q (by simp))
  | int j=>obtain⟨t',rfl⟩:=ry;exact eq_int (jB I q zEI)
  | str j=>obtain⟨t',rfl⟩:=ry;exact PySem.EqMixed.eq_int_str (jB I q (by simp))
  | _=>exact absurd (show false=true from hs) Bool.false_ne_true
 | str i =>
  obtain⟨t,rfl⟩:=rx
  cases y with
  | non=>cases ry;exact PySem.EqNone.eq_str_none (jB I q (by simp))
  | bl j=>cases ry;exact PySem.EqMixed.eq_str_bool (jB I q (by simp))
  | int j=>obtain⟨t',rfl⟩:=ry;exact PySem.EqMixed.eq_str_int (jB I q (by simp))
  | str j=>obtain⟨t',rfl⟩:=ry;exact eq_str (jB I q zEB)
  | _=>exact absurd (show false=true from hs) Bool.false_ne_true
 | byt i =>
  obtain⟨t,rfl⟩:=rx
  cases y with
  | byt j=>obtain⟨t',rfl⟩:=ry;exact PySem.W.eq_bytes (jB I q zEC)
  | _=>exact absurd (show false=true from hs) Bool.false_ne_true
 | _=>cases y<;>exact absurd (show false=true from hs) Bool.false_ne_true
theorem zLY:OpR X (compareOp .NotEq) rNe:=by
 intro pins s σ H x y v u Q I rx ry h
 obtain⟨hs,q⟩:=h
 cases x with
 | non =>
  cases rx
  cases y with
  | non=>cases ry;exact PySem.EqNone.ne_none_none (jB I q (by simp))
  | bl j=>cases ry;exact PySem.EqNone.ne_none_bool (jB I q (by simp))
  | int j=>obtain⟨t',rfl⟩:=ry;exact PySem.EqNone.ne_none_int (jB I q (by simp))
  | str j=>obtain⟨t',rfl⟩:=ry;exact PySem.EqNone.ne_none_str (jB I q (by simp))
  | _=>exact absurd (show false=true from hs) Bool.false_ne_true
 | bl i =>
  cases rx
  cases y with
  | non=>cases ry;exact PySem.EqNone.ne_bool_none (jB I q (by simp))
  | bl j=>cases ry;exact ne_bool (jB I q (congrArg not zFL))
  | str j=>obtain⟨t',rfl⟩:=ry;exact PySem.EqMixed.ne_bool_str (jB I q (by simp))
  | _=>exact absurd (show false=true from hs) Bool.false_ne_true
 | int i =>
  obtain⟨t,rfl⟩:=rx
  cases y with
  | non=>cases ry;exact PySem.EqNone.ne_int_none (jB I q (by simp))
  | int j=>obtain⟨t',rfl⟩:=ry;exact ne_int (jB I q (congrArg not zEI))
  | str j=>obtain⟨t',rfl⟩:=ry;exact PySem.EqMixed.ne_int_str (jB I q (by simp))
  | _=>exact absurd (show false=true from hs) Bool.false_ne_true
 | str i =>
  obtain⟨t,rfl⟩:=rx
  cases y with
  | non=>cases ry;exact PySem.EqNone.ne_str_none (jB I q (by simp))
  | bl j=>cases ry;exact PySem.EqMixed.ne_str_bool (jB I q (by simp))
  | int j=>obtain⟨t',rfl⟩:=ry;exact PySem.EqMixed.ne_str_int (jB I q (by simp))
  | str j=>obtain⟨t',rfl⟩:=ry;exact ne_str (jB I q (congrArg not zEB))
  | _=>exact absurd (show false=true from hs) Bool.false_ne_true
 | byt i =>
  obtain⟨t,rfl⟩:=rx
  cases y with
  | byt j=>obtain⟨t',rfl⟩:=ry;exact PySem.W.ne_bytes (jB I q (congrArg not zEC))
  | _=>exact absurd (show false=true from hs) Bool.false_ne_true
 | _=>cases y<;>exact absurd (show false=true from hs) Bool.false_ne_true
theorem zLM:OpR X (compareOp .Lt) (rI0 fun i j=>.bl (decide (i < j))):=zGP fun _ _ _ _ _ _ _ q=>lt_int q
theorem zLa:OpR X (compareOp .LtE) (rI0 fun i j=>.bl (decide (i <= j))):=zGP fun _ _ _ _ _ _ _ q=>le_int q
theorem zLE:OpR X (compareOp .Gt) (rI0 fun i j=>.bl (decide (j < i))):=zGP fun _ _ _ _ _ _ _ q=>gt_int q
theorem zFD:OpR X (compareOp .Lt) (fun x y H Q=>∃ i j,x=.str i/\y=.str j/\Q (.bl (decide (i.cps.toList < j.cps.toList))) H):=by
 intro pins s σ H x y v u Q I rx ry h
 obtain⟨i,j,rfl,rfl,q⟩:=h
 obtain⟨t,rfl⟩:=rx
 obtain⟨t',rfl⟩:=ry
 exact lt_str (jB I q rfl)
theorem zDf:OpR X (compareOp .NotIn) (fun x y H Q=>∃ i j,x=.str i/\y=.str j/\Q (.bl (!(!(Builtin.Str.occurrences j i 0 j.length 1).isEmpty))) H):=by
 intro pins s σ H x y v u Q I rx ry h
 obtain⟨i,j,rfl,rfl,q⟩:=h
 obtain⟨t,rfl⟩:=rx
 obtain⟨t',rfl⟩:=ry
 exact notIn_str (jB I q rfl)
theorem OpR.or {f:Value->Value->Sem Value}{r r':R2} (h:OpR X f r) (h':OpR X f r'):OpR X f (fun x y H Q=>r x y H Q\/r' x y H Q):=by
 intro pins s σ H x y v u Q I rx ry q
 rcases q with q | q
 ·exact h pins s σ H x y v u Q I rx ry q
 ·exact h' pins s σ H x y v u Q I rx ry q
theorem qX (b:Expr) {op:CmpOp} (h:op≠.In:=by decide) (h2:op≠.NotIn:=by decide):behindInMarks op b=false:=by
 have e1:(op == CmpOp.In)=false:=by cases op<;>first | rfl | exact absurd rfl h
 have e2:(op == CmpOp.NotIn)=false:=by cases op<;>first | rfl | exact absurd rfl h2
 cases b<;>simp[behindInMarks,e1,e2]
noncomputable def zLO (t:TE):TT:=fun σ H Q=>t σ H fun x H'=>∃ k,x=.bl k/\Q k H'
theorem zIi {op:CmpOp}{r:R2} (ho:OpR X (compareOp op) r) (ha:PE X a ta) (hb:PE X b tb) (hm:behindInMarks op b=false):PT X (.Compare a [op] [b] pos) (zLO (tOp r ta tb)):=by
 intro pins s σ H Q I h
 refine wpAny_isTrue_Compare1 (thn (ha pins s σ H _ I h) fun v s1 ⟨x,H1,I1,r1,q1⟩=>thn (hb pins s1 σ H1 _ I1 q1) fun u s2 ⟨y,H2,I2,r2,q2⟩ =>
  thn (ho pins s2 σ H2 x y v u _ I2 r1 r2 q2) fun c s3 ⟨z,H3,I3,r3,k,e,q3⟩=>?_) hm
 subst e
 cases r3
 exact wpAny_truthy_bool ⟨H3,I3,q3⟩
noncomputable def zKL (r r':R2) (ta tb tc:TE):TE:=fun σ H Q=>ta σ H fun x H1=>tb σ H1 fun y H2=>r x y H2 fun z H3=>∃ k,z=.bl k /\
 (if k=true then tc σ H3 fun w' H4=>r' y w' H4 Q else Q (.bl false) H3)
theorem zHV {op op':CmpOp}{r r':R2} (ho:OpR X (compareOp op) r) (ho':OpR X (compareOp op') r') (ha:PE X a ta) (hb:PE X b tb) (hc:PE X c tc)
  (hm:lastMarks [op,op'] [b,c]=false:=by with_unfolding_all rfl):PE X (.Compare a [op,op'] [b,c] pos) (zKL r r' ta tb tc):=by
 intro pins s σ H Q I h
 refine Compare_chain (thn (ha pins s σ H _ I h) fun v s1 ⟨x,H1,I1,r1,q1⟩=>chain_link (thn (hb pins s1 σ H1 _ I1 q1) fun u s2 ⟨y,H2,I2,r2,q2⟩ =>
  thn (ho pins s2 σ H2 x y v u _ I2 r1 r2 q2) fun d s3 ⟨z,H3,I3,r3,k,e,q3⟩=>?_)) hm
 subst e
 cases r3
 refine wpAny_truthy_bool ?_
 cases k with
 | false=>exact ite_ff ⟨.bl false,H3,I3,rfl,q3⟩
 | true=>exact ite_tt (chain_last (thn (hc pins s3 σ H3 _ I3 q3) fun w' s4 ⟨z',H4,I4,r4,q4⟩=>ho' pins s4 σ H4 y z' u w' Q I4 r2 r4 q4))
noncomputable def zKv (K:PySem.W.Frag) (x:V) (H:Hp) (k:Bool):Prop :=
 match x with
 | .non=>k=false
 | .bl b=>k=b
 | .int i=>k=(i != 0)
 | .str y=>y.length <= sizeLine/\k=((y.length:Int) != 0)
 | .byt y=>y.size <= sizeLine/\k=((y.size:Int) != 0)
 | .ref p=>(∃ xs,SqL K H p xs/\k = !xs.isEmpty)\/(∃ xs,SqT K H p xs/\k = !xs.isEmpty)\/∃ kvs,H p=some (.dK kvs)/\k = !kvs.isEmpty
 | _=>False
theorem zEy {κ:Type}{kvs:List (κ×V)}{vs:List (κ×Value)} (r:KV kvs vs):(!vs.isEmpty) = !kvs.isEmpty:=by
 cases r<;>rfl
theorem zAj {xs:List V}{its:List Value} (r:zX xs its):(!its.toArray.isEmpty) = !xs.isEmpty:=by
 cases r<;>simp
theorem QM:(sizeLine:Nat) < 2 ^ 63:=by rw[sizeLine_eq];decide
theorem zJD:zLw X (fun x H Q=>∃ k,zKv X.K x H k/\Q k H):=by
 intro pins s σ H x v Q I rx h
 obtain⟨k,e,q⟩:=h
 have hl:=QM
 have hs:sizeLine=16777216:=sizeLine_eq
 cases x with
 | non =>
  cases rx
  have e':k=false:=e
  subst e'
  exact truthy_none ⟨H,I,q⟩
 | bl b =>
  cases rx
  have e':k=b:=e
  subst e'
  exact wpAny_truthy_bool ⟨H,I,q⟩
 | int i =>
  obtain⟨t,rfl⟩:=rx
  have e':k=(i != 0):=e
  subst e'
  exact PySem.P.truthy_int ⟨H,I,q⟩
 | str y =>
  obtain⟨t,rfl⟩:=rx
  obtain⟨hy,e'⟩:y.length <= sizeLine/\k=((y.length:Int) != 0):=e
  subst e'
  exact PySem.P.truthy_str (by omega) ⟨H,I.tok _,q⟩
 | byt y =>
  obtain⟨t,rfl⟩:=rx
  obtain⟨hy,e'⟩:y.size <= sizeLine/\k=((y.size:Int) != 0):=e
  subst e'
  exact PySem.W.truthy_bytes (by omega) ⟨H,I.tok _,q⟩
 | ref p =>
  cases rx
  have e':(∃ xs,SqL X.K H p xs/\k = !xs.isEmpty)\/(∃ xs,SqT X.K H p xs/\k = !xs.isEmpty)\/∃ kvs,H p=some (.dK kvs)/\k = !kvs.isEmpty:=e
  rcases e' with ⟨xs,hx,e'⟩ | ⟨xs,hx,e'⟩ | ⟨kvs,hx,e'⟩
  ·subst e'
   obtain⟨its,r,pl,hz⟩:=I.list hx
   have hlen:=r.length
   exact wpAny_truthy_list pl.isList (by simp only[List.size_toArray];omega) ⟨H,I.tok _,by rw[zAj r];exact q⟩
  ·subst e'
   obtain⟨its,r,pl,hz⟩:=I.tuple hx
   have hlen:=r.length
   exact truthy_tuple pl (by simp only[List.size_toArray];omega) ⟨H,I.tok _,by rw[zAj r];exact q⟩
  ·subst e'
   obtain⟨hz,hS,vs,r,m⟩:kvs.length <= sizeLine/\(p == sysModules)=false/\∃ vs,KV kvs vs/\s.heap.DictOf (qA X.prog X.w) p vs:=I.hok p _ hx
   have hlen:kvs.length=vs.length:=Paired.length r
   exact wpAny_truthy_dict hS m (by omega) ⟨H,I.tok _,by rw[zEy r];exact q⟩
 | _=>exact (show False from e).elim
theorem zGT (ha:PE X a ta) (he:∀ whole,isTrue a X.env whole=(do let v <- whole;standAt a.pos;holding [v] (truthy v))) :
  PT X a (fun σ H Q=>ta σ H fun x H'=>∃ k,zKv X.K x H' k/\Q k H'):=by
 intro pins s σ H Q I h
 exact isTrue_plain (thn (ha pins s σ H _ I h) fun v s1 ⟨x,H1,I1,r1,q1⟩=>zJD pins s1 σ H1 x v Q I1 r1 q1) (he _)
theorem zEf:OpR X (binaryOp .Add) (fun x y H Q=>∃ i j,x=.str i/\y=.str j/\i.length+j.length <= sizeLine/\Q (.str (i++j)) H):=by
 intro pins s σ H x y v u Q I rx ry h
 obtain⟨i,j,rfl,rfl,hz,q⟩:=h
 obtain⟨t,rfl⟩:=rx
 obtain⟨t',rfl⟩:=ry
 exact wpAny_with_toks (n:=1) I.tk (add_str (fun t' tk htk=>⟨.str (i++j),H,I.tok _ htk,⟨_,rfl⟩,q⟩) hz)
theorem Zm {x:V}{us:List Value} (r:zX [x] us):∃ u,us=[u]/\zY x u:=by
 cases r with
 | cons r1 r2=>cases r2;exact⟨_,rfl,r1⟩
theorem zHj {x y:V}{us:List Value} (r:zX [x,y] us):∃ u w',us=[u,w']/\zY x u/\zY y w':=by
 cases r with
 | cons r1 r2 =>
  cases r2 with
  | cons r3 r4=>cases r4;exact⟨_,_,rfl,r1,r3⟩
theorem zGB (hc:X.calm=true):jU X (.builtin "min") (fun xs H Q=>∃ i j,xs=[.int i,.int j]/\Q (.int (if j < i then j else i)) H):=by
 intro pins s σ H xs us Q I r h
 obtain⟨i,j,rfl,q⟩:=h
 obtain⟨u,w',rfl,⟨t,rfl⟩,⟨t',rfl⟩⟩:=zHj r
 refine wpAny_with_toks (n:=1) I.tk (min_two_ints (I.ok.hd hc) fun h' tk k htk=>⟨_,H,I.kept k htk,?_,q⟩)
 by_cases hj:j < i
 ·rw[if_pos hj,if_pos hj];exact⟨_,rfl⟩
 ·rw[if_neg hj,if_neg hj];exact⟨_,rfl⟩
theorem zDa:jU X (.type "str") (fun xs H Q=>∃ i,xs=[.int i]/\i.natAbs.log2 < 1920/\Q (.str (toString i)) H):=by
 intro pins s σ H xs us Q I r h
 obtain⟨i,rfl,hz,q⟩:=h
 obtain⟨u,rfl,t,rfl⟩:=Zm r
 exact PySem.P.str_of_int hz ⟨.str _,H,I.tok _,⟨_,rfl⟩,q⟩
end
end L2
namespace L2
open PySem PySem.Spec PyProof.Rows
structure zAF (h:Heap) (x dx C:Addr) (mA:Str->Option Value):Prop where
 obj:h.get? x=some (PySem.W.instObj C dx)
 ns:h.Ns1 dx mA
 ne:dx≠x
theorem zFg {h:Heap}{dx:Addr}{mA:Str->Option Value} (n:h.Ns1 dx mA):∃ od,h.get? dx=some od/\∀ name,PySem.W.lookIn name od=some (mA name):=by
 obtain⟨o,es,ep,ho,hd,hk,_,hm⟩:=n
 refine⟨o,ho,fun name=>?_⟩
 have e:=hm name
 unfold nsFind findBy at e
 rw[<- Array.find?_toList] at e
 unfold PySem.W.lookIn
 rw[hd]
 dsimp only
 split
 ·rename_i y q
  rw[q] at e
  exact congrArg some e
 ·rename_i q
  rw[q] at e
  have a:es.toList.any (·.refKey)=false:=by
   rw[List.any_eq_false]
   intro y hy
   obtain⟨z,t,hkey⟩:=hk y (Array.mem_toList_iff.mp hy)
   simp[DictEntry.refKey,hkey]
  have a':¬ es.toList.any (·.refKey)=true:=by rw[a];exact Bool.false_ne_true
  rw[if_neg a']
  exact congrArg some e
theorem zAF.look {h:Heap}{x dx C:Addr}{mA:Str->Option Value} (I:zAF h x dx C mA):∃ od,PySem.W.InstAt h x (PySem.W.instObj C dx) C (some od)/\∀ name,PySem.W.lookIn name od=some (mA name) :=
 let ⟨od,ho,hl⟩:=zFg I.ns
 ⟨od,⟨I.obj,rfl,rfl,ho⟩,hl⟩
section
variable {prog:Program}{w:World}{A:Around}{E:Value->Shared->Prop}{s:Shared}{K:PySem.W.Frag}{x dx C f:Addr}{mA:Str->Option Value}{name:Str}{v:Value}
theorem zI9 {expr:Bool}{Q:Value->Shared->Prop} (X:K.In s.heap) (I:zAF s.heap x dx C mA) (hg:PySem.W.plainGet K C name=true) (hh:PySem.W.hasDictIn K C=true)
  (ha:PySem.W.findIn K (.ref C) name=some none) (hv:mA name=some v) (hv':PySem.W.handedIn v=true) (h:Q v { s with toks:=s.toks+1 }) :
  wpAny (model prog w) A (getAttr (.ref x) name expr) Q E s:=by
 obtain⟨od,J,hl⟩:=I.look
 exact PySem.W.get_value X J (PySem.W.plainGet_of hg).1 (PySem.W.findObj_own hh ha rfl (by rw[hl,hv])) hv' h
theorem zG8 {pl:Sem Bool}{Q:Value×List Value->Shared->Prop} (X:K.In s.heap) (I:zAF s.heap x dx C mA) (hg:PySem.W.plainGet K C name=true)
  (hf:PySem.W.findIn K (.ref C) name=some (some (.ref f))) (ht:PySem.W.isFn K (.ref f)=true) (hv:mA name=none) (h:Q (.ref f,[.ref x]) s) :
  wpAny (model prog w) A (getMethod (.ref x) name pl) Q E s:=by
 obtain⟨od,J,hl⟩:=I.look
 exact PySem.W.method_fn X J (PySem.W.plainGet_of hg).1 (PySem.W.plainGet_of hg).2 hf (beq_iff_eq.mp ht) (by show (PySem.W.lookIn name od).map (·.isSome)=some false;rw[hl,hv];rfl) h
theorem zH0 {ns:List Str}{Q:Unit->Shared->Prop} (X:K.In s.heap) (I:zAF s.heap x dx C mA)
  (hs:PySem.W.findIn K (.ref C) "__setattr__" = some (some (.builtin "object.__setattr__"))) (hp:PySem.W.plainOver K C=true) (ht:PySem.W.takerIn K C name=some none) (hh:PySem.W.hasDictIn K C=true)
  (hw:PySem.Within mA ns) (hsz:ns.length <= sizeLine)
  (h:∀ h',zAF h' x dx C (fun y=>if y=name then some v else mA y)->Heap.SameBut dx s.heap h'->Q () { s with heap:=h',toks:=s.toks+2 }) :
  wpAny (model prog w) A (setAttr (.ref x) name v) Q E s:=by
 obtain⟨od,J,hl⟩:=I.look
 refine PySem.W.set_plain X J hs (PySem.W.osa_open (s:={ s with toks:=s.toks+1 }) (r:=none) X J hp ht fun b=>?_)
 obtain⟨cd,hc,hd'⟩:=PySem.W.any_some hh
 have hx:s.heap.get? x=some ⟨.ref C,some dx,.plain,#[]⟩:=I.obj
 refine wpAny_bind (wpAny_pure (wpAny_bind (wpAny_bind (wpAny_loadPart hx (wpAny_bind (PySem.W.Looks.here (s:={ s with toks:=s.toks+1 }) (PySem.W.looks_clsIn X hc) ?_))))))
 rw[hd']
 refine wpAny_pure (a:=some dx) (wpAny_bind (wpAny_pure (wpAny_bind ?_)))
 refine wpAny_nsSet1 (s:={ s with toks:=s.toks+1 }) I.ns fun h' hn2 hs2=>?_
 obtain⟨oD,esD,epD,hoD,hdD,hcD⟩:=hn2.count (PySem.Within.cons name v hw)
 refine wpAny_bind (wpAny_lookBehind hoD (by rw[hdD];exact pastItsLine_dict (Nat.le_trans hcD (by rw[List.length_cons];omega))) ?_)
 exact wpAny_pure (h _ ⟨(hs2.2 _ (Ne.symm I.ne)).trans I.obj,hn2,I.ne⟩ hs2)
theorem zGu {R:Result->Shared->Prop}{vs:List Value}{kw:List (Str×Value)} (X:K.In s.heap) (hm:PySem.W.makesIn K C=true)
  (hi:PySem.W.findIn K (.ref C) "__init__" = some (some (.ref f))) (hf:PySem.W.typeIn K (.ref f)=some (.type "function"))
  (h:codeAny (model prog w) (A.under (.builtin "type.__call__" ⟨.ref C::vs,kw⟩)) (.call (.ref f) ⟨.ref (s.heap.objs.size+1)::vs,kw⟩) (PySem.W.InitBack (s.heap.objs.size+1) R)
   { s with heap:=(s.heap.push PySem.W.emptyDict).push (PySem.W.instObj C s.heap.objs.size) }) :
  codeAny (model prog w) A (.call (.ref C) ⟨vs,kw⟩) R s:=by
 obtain⟨hh,g,d,t,os⟩:=s
 exact PySem.W.make_core (PySem.W.makes_of X hm) (PySem.W.looks_findIn X hi) (fun self=>PySem.W.bind_fn X self hf) (.inl rfl) h
end
noncomputable def qK (f:Str) (v:V):List (Str×V)->List (Str×V)
 | []=>[(f,v)]
 | (g,x)::r=>if g=f then (g,v)::r else (g,x)::qK f v r
theorem Qa (f g:Str) (v:V):∀ fs:List (Str×V),(qK f v fs).lookup g=if g=f then some v else fs.lookup g
 | []=>by
  show List.lookup g [(f,v)]=_
  by_cases h:g=f
  ·have hb:(g == f)=true:=beq_iff_eq.mpr h
   simp only[List.lookup,hb,if_pos h]
  ·have hb:(g == f)=false:=beq_eq_false_iff_ne.mpr h
   simp only[List.lookup,hb,if_neg h]
 | (k,x)::r=>by
  have ih:=Qa f g v r
  rw[show qK f v ((k,x)::r)=(if k=f then (k,v)::r else (k,x)::qK f v r) from rfl]
  by_cases hk:k=f
  ·rw[if_pos hk]
   by_cases h:g=k
   ·have hb:(g == k)=true:=beq_iff_eq.mpr h
    simp only[List.lookup,hb,if_pos (h.trans hk)]
   ·have hb:(g == k)=false:=beq_eq_false_iff_ne.mpr h
    simp only[List.lookup,hb,if_neg (fun e:g=f=>h (e.trans hk.symm))]
  ·rw[if_neg hk]
   by_cases h:g=k
   ·have hb:(g == k)=true:=beq_iff_eq.mpr h
    simp only[List.lookup,hb,if_neg (fun e:g=f=>hk (h.symm.trans e))]
   ·have hb:(g == k)=false:=beq_eq_false_iff_ne.mpr h
    simp only[List.lookup,hb]
    exact ih
theorem JO (f:Str) (v:V):∀ fs:List (Str×V),f∈(qK f v fs).map (·.1)/\∀ g,g∈fs.map (·.1)->g∈(qK f v fs).map (·.1)
 | []=>⟨by simp[qK],fun g h=>by simp at h⟩
 | (k,x)::r=>by
  obtain⟨i1,i2⟩:=JO f v r
  rw[show qK f v ((k,x)::r)=(if k=f then (k,v)::r else (k,x)::qK f v r) from rfl]
  by_cases hk:k=f
  ·rw[if_pos hk]
   subst hk
   exact⟨by simp,fun g h=>by simpa using h⟩
  ·rw[if_neg hk]
   refine⟨?_,fun g h=>?_⟩
   ·rw[List.map_cons]
    exact List.mem_cons_of_mem _ i1
   ·rw[List.map_cons] at h ⊢
    rcases List.mem_cons.mp h with e | e
    ·exact List.mem_cons.mpr (.inl e)
    ·exact List.mem_cons_of_mem _ (i2 g e)
theorem J0 (f:Str) (v:V):∀ fs:List (Str×V),(qK f v fs).length <= fs.length+1
 | []=>by simp[qK]
 | (k,x)::r=>by
  have ih:=J0 f v r
  rw[show qK f v ((k,x)::r)=(if k=f then (k,v)::r else (k,x)::qK f v r) from rfl]
  by_cases hk:k=f
  ·rw[if_pos hk,List.length_cons,List.length_cons];omega
  ·rw[if_neg hk,List.length_cons,List.length_cons];omega
theorem yu.some_of {v:V}{o:Option Value} (r:yu (some v) o):∃ u,o=some u/\zY v u:=by
 cases o with
 | none=>exact (show False from r).elim
 | some u=>exact⟨u,rfl,r⟩
theorem yu.none_of {o:Option Value} (r:yu none o):o=none:=by
 cases o with
 | none=>rfl
 | some u=>exact (show False from r).elim
theorem zFZ {v:V}{u:Value} (r:zY v u):PySem.W.handedIn u=true:=by
 cases v with
 | non=>cases (show u=Value.none from r);rfl
 | bl b=>cases (show u=Value.bool b from r);rfl
 | int i=>obtain⟨t,e⟩:=(show ∃ t,u=Value.int i t from r);cases e;rfl
 | str x=>obtain⟨t,e⟩:=(show ∃ t,u=Value.str x t from r);cases e;rfl
 | byt b=>obtain⟨t,e⟩:=(show ∃ t,u=Value.bytes b t from r);cases e;rfl
 | flt b=>obtain⟨t,e⟩:=(show ∃ t,u=Value.float b t from r);cases e;rfl
 | ref a=>cases (show u=Value.ref a from r);rfl
 | ty n=>cases (show u=Value.type n from r);rfl
section
variable {P:Program}{w:World}{H H':Hp}{h h':Heap}{a C dx:Addr}{fs fs':List (Str×V)}
theorem Jn (hok:HOk P w H h) (e:H a=some (.ins C dx fs)):∃ mA,zAF h a dx C mA/\(∀ f,yu (fs.lookup f) (mA f))/\PySem.Within mA (fs.map (·.1))/\fs.length <= 1000/\H dx=some (.own a):=by
 obtain⟨d,z,ne,ob,mA,n,r,q⟩:=(show jH P w H h a (.ins C dx fs) from hok a _ e)
 exact⟨mA,⟨ob,n,ne⟩,r,q,z,d⟩
end
structure Cls (K:PySem.W.Frag) (C:Addr):Prop where
 pg:PySem.W.plainGet K C Str.empty=true
 hd:PySem.W.hasDictIn K C=true
 po:PySem.W.plainOver K C=true
 sa:PySem.W.findIn K (.ref C) "__setattr__" = some (some (.builtin "object.__setattr__"))
theorem Cls.get {K:PySem.W.Frag}{C:Addr} (c:Cls K C) (f:Str):PySem.W.plainGet K C f=true:=c.pg
noncomputable def QK (K:PySem.W.Frag) (C:Addr) (f:Str):Prop:=PySem.W.findIn K (.ref C) f=some none
theorem QK.taker {K:PySem.W.Frag}{C:Addr}{f:Str} (n:QK K C f):PySem.W.takerIn K C f=some none:=by
 unfold PySem.W.takerIn
 rw[show PySem.W.findIn K (.ref C) f=some none from n]
 rfl
structure Con (K:PySem.W.Frag) (C:Addr) (f:Str) (v:V) (u:Value):Prop where
 at_:PySem.W.findIn K (.ref C) f=some (some u)
 rel:zY v u
 get:PySem.W.specialIn K u "__get__" = some none
 cp:PySem.W.copiedNames.contains f=false
structure zG7 (K:PySem.W.Frag) (C:Addr) (m:Str) (f:Addr):Prop where
 at_:PySem.W.findIn K (.ref C) m=some (some (.ref f))
 fn:PySem.W.isFn K (.ref f)=true
 kp:PySem.W.keepIn K (.ref f)=true
section
variable {X:Cx}{pins:List (Addr×Obj)}{σ:St}{H:Hp}{s:Shared}{a C dx:Addr}{fs:List (Str×V)}{f:Str}{v:V}{A:Around}{E:Value->Shared->Prop}
theorem zES {b:Bool}{Q:Value->Shared->Prop} (I:Inv X pins σ H s) (e:H a=some (.ins C dx fs)) (c:Cls X.K C) (n:QK X.K C f) (l:fs.lookup f=some v)
  (h:∀ u s',Inv X pins σ H s'->zY v u->Q u s'):wpAny (model X.prog X.w) A (getAttr (.ref a) f b) Q E s:=by
 obtain⟨mA,O,r,_,_,_⟩:=Jn I.hok e
 obtain⟨u,hu,ru⟩:=yu.some_of (v:=v) (o:=mA f) (by rw[<- l];exact r f)
 exact zI9 I.kIn O (c.get f) c.hd n hu (zFZ ru) (h u _ (I.tok _) ru)
theorem zET {m:Str}{g:Addr}{pl:Sem Bool}{Q:Value×List Value->Shared->Prop} (I:Inv X pins σ H s) (e:H a=some (.ins C dx fs)) (c:Cls X.K C) (k:zG7 X.K C m g) (l:fs.lookup m=none)
  (h:Q (.ref g,[.ref a]) s):wpAny (model X.prog X.w) A (getMethod (.ref a) m pl) Q E s:=by
 obtain⟨mA,O,r,_,_,_⟩:=Jn I.hok e
 have hn:mA m=none:=yu.none_of (by rw[<- l];exact r m)
 exact zG8 I.kIn O (c.get m) k.at_ k.fn hn h
theorem zEm {y:V}{u:Value}{Q:Unit->Shared->Prop} (I:Inv X pins σ H s) (e:H a=some (.ins C dx fs)) (c:Cls X.K C) (n:QK X.K C f) (hl:fs.length < 1000) (ry:zY y u)
  (h:∀ s',Inv X pins σ (upd H a (.ins C dx (qK f y fs))) s'->Q () s'):wpAny (model X.prog X.w) A (setAttr (.ref a) f u) Q E s:=by
 obtain⟨mA,O,r,wi,_,ho⟩:=Jn I.hok e
 have hz:(fs.map (·.1)).length <= sizeLine:=by rw[List.length_map,sizeLine_eq];omega
 refine zH0 I.kIn O c.sa c.po n.taker c.hd wi hz fun h' O' sb=>h _ ?_
 have hd:∃ o,h'.get? dx=some o:=let ⟨o,_,_,e',_⟩:=O'.ns;⟨o,e'⟩
 refine I.write (x:=a) (e:=dx) (by rw[e];exact True.intro) (.inr ho) (fun b q hb z=>(sb.2 b hb).trans z) hd ?_
 refine⟨by rw[zV O.ne];exact ho,?_,O.ne,O'.obj,_,O'.ns,fun g=>?_,fun g hg=>?_⟩
 ·have:=J0 f y fs;omega
 ·show yu ((qK f y fs).lookup g) (if g=f then some u else mA g)
  rw[Qa]
  by_cases q:g=f
  ·rw[if_pos q,if_pos q];exact ry
  ·rw[if_neg q,if_neg q];exact r g
 ·by_cases q:g=f
  ·rw[q];exact (JO f y fs).1
  ·refine (JO f y fs).2 g (wi g fun z=>hg ?_)
   show (if g=f then some u else mA g)=none
   rw[if_neg q];exact z
theorem Inv.made (I:Inv X pins σ H s):Inv X pins σ (upd (upd H s.heap.objs.size (.own (s.heap.objs.size+1))) (s.heap.objs.size+1) (.ins C s.heap.objs.size []))
  { s with heap:=(s.heap.push PySem.W.emptyDict).push (PySem.W.instObj C s.heap.objs.size) }:=by
 have e1:(s.heap.push PySem.W.emptyDict).get? s.heap.objs.size=some PySem.W.emptyDict:=Heap.get?_push_size s.heap rfl
 have e2:((s.heap.push PySem.W.emptyDict).push (PySem.W.instObj C s.heap.objs.size)).get? (s.heap.objs.size+1)=some (PySem.W.instObj C s.heap.objs.size):=by
  have:=Heap.get?_push_size (s.heap.push PySem.W.emptyDict) (o:=PySem.W.instObj C s.heap.objs.size) rfl
  rwa [Heap.size_push] at this
 have e3:(s.heap.push PySem.W.emptyDict).Ns s.heap.objs.size (fun _=>none):=⟨PySem.W.emptyDict,#[],_,e1,rfl,(fun e he=>absurd he (by simp)),fun _=>rfl⟩
 have I1:=I.laid (a:=s.heap.objs.size) (o:=.own (s.heap.objs.size+1)) (h':=s.heap.push PySem.W.emptyDict) (t':=s.toks) (fun b u q=>Heap.get?_push_of_some _ q) (Nat.le_refl _) ⟨_,e1⟩
 refine I1.laid (a:=s.heap.objs.size+1) (o:=.ins C s.heap.objs.size []) (t':=s.toks) (fun b u q=>Heap.get?_push_of_some _ q) (Nat.le_of_eq (Heap.size_push _ _)) ?_
 have ne:s.heap.objs.size≠s.heap.objs.size+1:=Nat.ne_of_lt (Nat.lt_succ_self _)
 refine⟨by rw[zV ne,z5],Nat.zero_le _,ne,e2,fun _=>none,(Heap.Ns1.of_empty e3).at fun o q=>Heap.get?_push_of_some _ q,fun _=>True.intro,fun y hy=>absurd rfl hy⟩
theorem zID {prog:Program}{w:World}{env:Env}{e:Expr}{f:Str}{pos:Pos}{s:Shared}{Q:Value->Shared->Prop} (hb:attributeBase e f env (eval e env)=eval e env)
  (h:wpAny (model prog w) A (eval e env) (fun o s₁=>wpAny (model prog w) A (getAttr o f true) Q E s₁) E s):wpAny (model prog w) A (eval (.Attribute e f pos) env) Q E s :=
 Attribute_any_ h (by rw[arm_eval_Attribute,hb])
end
noncomputable def zMB (K:PySem.W.Frag) (ta:TE) (f:Str):TE:=fun σ H Q=>ta σ H fun x H1=>∃ a C dx fs v,x=.ref a/\H1 a=some (.ins C dx fs)/\Cls K C/\QK K C f/\fs.lookup f=some v/\Q v H1
noncomputable def zA8 (K:PySem.W.Frag) (ta tv:TE) (f:Str):TS:=fun D σ H=>tv σ H fun y H1=>ta σ H1 fun x H2=>∃ a C dx fs,x=.ref a/\H2 a=some (.ins C dx fs)/\Cls K C/\QK K C f/\fs.length < 1000 /\
 D.nx σ (upd H2 a (.ins C dx (qK f y fs)))
section
variable {X:Cx}{o e value:Expr}{f:Str}{pos pos' tpos:Pos}{ta tv:TE}
theorem zJw (he:PE X e ta) (hb:attributeBase e f X.env (eval e X.env)=eval e X.env):PE X (.Attribute e f pos) (zMB X.K ta f):=by
 intro pins s σ H Q I h
 refine zID hb (thn (he pins s σ H _ I h) fun u s1 ⟨x,H1,I1,rx,a,C,dx,fs,v,ex,ea,c,n,l,q⟩=>?_)
 subst ex
 obtain rfl:u=Value.ref a:=rx
 exact zES I1 ea c n l fun u' s2 I2 ru=>⟨v,H1,I2,ru,q⟩
theorem zKk (ha:PE X o ta) (hv:PE X value tv) (hs:swapsWith value (some (.Attribute o f pos')) pos.line X.env=pure false):PS X (.Assign [.Attribute o f pos'] value pos) (zA8 X.K ta tv f):=by
 intro pins s σ H D I h
 refine plainObj_wpAny_Assign_Attribute (thn (hv pins s σ H _ I h) fun u s1 ⟨y,H1,I1,ry,q⟩=>thn (ha pins s1 σ H1 _ I1 q) fun ov s2 ⟨x,H2,I2,rx,a,C,dx,fs,ex,ea,c,n,l,q2⟩=>?_) hs
 subst ex
 obtain rfl:ov=Value.ref a:=rx
 exact zEm I2 ea c n l ry fun s3 I3=>⟨σ,_,I3,q2⟩
end
section
variable {X:Cx}{pins:List (Addr×Obj)}{σ:St}{H:Hp}{s:Shared}{A:Around}{E:Value->Shared->Prop}{Q:Value->Shared->Prop}{c:Value}{b:Bool}
inductive Zh (K:PySem.W.Frag) (H:Hp):V->Value->Prop where
 | non:Zh K H .non (.type "NoneType")
 | bl (x:Bool):Zh K H (.bl x) (.type "bool")
 | int (i:Int):Zh K H (.int i) (.type "int")
 | str (x:Str):Zh K H (.str x) (.type "str")
 | flt (x:UInt64):Zh K H (.flt x) (.type "float")
 | lst {a:Addr}{xs:List V} (e:H a=some (.lst xs)):Zh K H (.ref a) (.type "list")
 | frz {a:Addr}{o:Obj}{xs:List V} (e:H a=some (.frz o (.lst xs))):Zh K H (.ref a) (.type "list")
 | tup {a:Addr}{xs:List V} (e:H a=some (.tup xs)):Zh K H (.ref a) (.type "tuple")
 | dK {a:Addr}{kvs:List (Key×V)} (e:H a=some (.dK kvs)):Zh K H (.ref a) (.type "dict")
 | dT {a:Addr}{kvs:List (List Key×V)} (e:H a=some (.dT kvs)):Zh K H (.ref a) (.type "dict")
 | ins {a C dx:Addr}{fs:List (Str×V)} (e:H a=some (.ins C dx fs)) (cl:Cls K C) (ha:PySem.W.findIn K (.ref C) "__class__" = some (some (.builtin "object.__class__")))
   (hn:PySem.W.specialIn K (.builtin "object.__class__") "__get__" = some (some (.builtin "getset_descriptor.__get__"))) (htk:PySem.W.takesIn K (.builtin "object.__class__")=some true)
   (hm:PySem.W.mroIn K C (.type "object")=some true):Zh K H (.ref a) (.ref C)
theorem zFm {x:V}{u t:Value} (I:Inv X pins σ H s) (rx:zY x u) (ty:Zh X.K H x t) (e:PySem.W.kitOne X.K t c=some b) (h:∀ tk,Q (.bool b) { s with toks:=tk }) :
  wpAny (model X.prog X.w) A (call (.builtin "isinstance") [u,c]) Q E s:=by
 cases ty with
 | non=>cases (show u=Value.none from rx);exact PySem.W.kia_one PySem.W.kitx_none I.kIn True.intro e (fun z=>nomatch z) h
 | bl y=>cases (show u=Value.bool y from rx);exact PySem.W.kia_one PySem.W.kitx_bool I.kIn True.intro e (fun z=>nomatch z) h
 | int i=>obtain⟨t,q⟩:=(show ∃ t,u=Value.int i t from rx);cases q;exact PySem.W.kia_one PySem.W.kitx_int I.kIn True.intro e (fun z=>nomatch z) h
 | str y=>obtain⟨t,q⟩:=(show ∃ t,u=Value.str y t from rx);cases q;exact PySem.W.kia_one PySem.W.kitx_str I.kIn True.intro e (fun z=>nomatch z) h
 | flt y=>obtain⟨t,q⟩:=(show ∃ t,u=Value.float y t from rx);cases q;exact PySem.W.kia_one PySem.W.kitx_float I.kIn True.intro e (fun z=>nomatch z) h
 | @lst a xs ea =>
  cases (show u=Value.ref a from rx)
  obtain⟨_,_,n,_,h1⟩:=(show jH X.prog X.w H s.heap a (.lst xs) from I.hok a _ ea)
  exact PySem.W.kia_one PySem.W.kitx_list I.kIn ⟨_,h1,rfl⟩ e (fun z=>nomatch z) h
 | @frz a ob xs ea =>
  cases (show u=Value.ref a from rx)
  obtain⟨_,_,_,n,_,h1⟩:=(show jH X.prog X.w H s.heap a (.frz ob (.lst xs)) from I.hok a _ ea)
  exact PySem.W.kia_one PySem.W.kitx_list I.kIn ⟨_,h1,rfl⟩ e (fun z=>nomatch z) h
 | @tup a xs ea =>
  cases (show u=Value.ref a from rx)
  obtain⟨_,_,_,p⟩:=(show jH X.prog X.w H s.heap a (.tup xs) from I.hok a _ ea)
  obtain⟨o,h1,h2,_⟩:=p
  exact PySem.W.kia_one PySem.W.kitx_tuple I.kIn ⟨o,h1,h2⟩ e (fun z=>nomatch z) h
 | @dK a kvs ea =>
  cases (show u=Value.ref a from rx)
  obtain⟨_,_,vs,_,p⟩:=(show jH X.prog X.w H s.heap a (.dK kvs) from I.hok a _ ea)
  obtain⟨o,es,ep,h1,h2,_⟩:=p
  exact PySem.W.kia_one PySem.W.kitx_dict I.kIn ⟨o,h1,h2.1⟩ e (fun z=>nomatch z) h
 | @dT a kvs ea =>
  cases (show u=Value.ref a from rx)
  obtain⟨_,_,xs,_,o,es,ep,h1,h2,_⟩:=(show jH X.prog X.w H s.heap a (.dT kvs) from I.hok a _ ea)
  exact PySem.W.kia_one PySem.W.kitx_dict I.kIn ⟨o,h1,h2.1⟩ e (fun z=>nomatch z) h
 | @ins a C dx fs ea cl ha hn htk hm =>
  cases (show u=Value.ref a from rx)
  obtain⟨mA,O,_⟩:=Jn I.hok ea
  obtain⟨od,J,_⟩:=O.look
  exact PySem.W.kia_one (PySem.W.kitx_own (cl.get _) cl.hd ha hn htk hm) I.kIn J e (fun z=>nomatch z) h
end
end L2
namespace L2
open PySem PySem.Spec PyProof.Rows
structure zy (k:Nat) (A:Around):Prop where
 hd:A.handled=none
 dp:A.depth+3 * k+5 < recursionLimit
 un:A.units+16 * k+200 < cLine
theorem zy.mono {j k:Nat}{A:Around} (r:zy k A) (h:j <= k):zy j A:=⟨r.hd,by have:=r.dp;omega,by have:=r.un;omega⟩
theorem zy.deeper {k:Nat}{A:Around} (r:zy (k+1) A) (env:Env):zy k (A.deeper env) :=
 ⟨r.hd,by have:=r.dp;show A.depth+1+3 * k+5 < _;omega,by have:=r.un;show A.units+3+16 * k+200 < _;omega⟩
theorem zEO {A:Around}{C:Addr}{us:List Value}{kw:List (Str×Value)}:(A.under (.builtin "type.__call__" ⟨.ref C::us,kw⟩)).depth=A.depth+1:=by
 first | rfl | simp[Around.under,Code.weight,Code.isCreation,Code.isGuard,Code.isCaller,Code.frames,Code.isFrame,guardIds]
theorem zEl {A:Around}{C:Addr}{us:List Value}{kw:List (Str×Value)}:(A.under (.builtin "type.__call__" ⟨.ref C::us,kw⟩)).units=A.units+1:=by
 first | rfl | simp[Around.under,Code.cUnits,Code.frames,Code.isFrame]
theorem zy.make {k:Nat}{A:Around} (r:zy (k+1) A) (C:Addr) (us:List Value) (kw:List (Str×Value)):zy k (A.under (.builtin "type.__call__" ⟨.ref C::us,kw⟩)) :=
 ⟨r.hd,by have:=r.dp;rw[zEO];omega,by have:=r.un;rw[zEl];omega⟩
theorem zy.depth {k:Nat}{A:Around} (r:zy k A):A.depth < recursionLimit:=by have:=r.dp;omega
theorem zy.units {k:Nat}{A:Around} (r:zy k A):A.units+64 < cLine:=by have:=r.un;omega
theorem zy.units0 {k:Nat}{A:Around} (r:zy k A):A.units < cLine:=by have:=r.un;omega
noncomputable def zL8:TA:=fun _ H Q=>Q [] H
noncomputable def zLd (ta:TE) (tr:TA):TA:=fun σ H Q=>ta σ H fun x H1=>tr σ H1 fun xs H2=>Q (x::xs) H2
section
variable {X:Cx}{e:Expr}{es:List Expr}{te:TE}{t:TA}{pos:Pos}
theorem zGN:PA X [] zL8:=fun _ _ _ _ H Q I h=>Calls.spliced_nil ⟨[],H,I,.nil,h⟩
theorem zDz (ha:PE X e te) (hr:PA X es t) (hs:starEach (e::es) X.env=(false,eval e X.env)::starEach es X.env:=by rfl):PA X (e::es) (zLd te t):=by
 intro pos pins s σ H Q I h
 rw[hs]
 show wpAny _ _ (spliced ((false,eval e X.env)::backTo pos (starEach es X.env))) _ _ s
 refine Calls.spliced_cons (thn (ha pins s σ H _ I h) fun u s1 ⟨x,H1,I1,r1,q1⟩=>?_)
 exact thn (hr pos pins s1 σ H1 _ I1 q1) fun us s2 ⟨xs,H2,I2,r2,q2⟩=>⟨x::xs,H2,I2,.cons r1 r2,q2⟩
noncomputable def zML (t:TA):TE:=fun σ H Q=>t σ H fun xs H1=>xs.length <= sizeLine/\∀ p,H1 p=none->Q (.ref p) (upd H1 p (.tup xs))
noncomputable def zL1 (t:TA):TE:=fun σ H Q=>t σ H fun xs H1=>xs.length <= sizeLine/\∀ p,H1 p=none->Q (.ref p) (upd H1 p (.lst xs))
theorem zJS {x1} (h:PA X es t):PE X (.Tuple es x1 pos) (zML t):=by
 intro pins s σ H Q I hq
 refine wpAny_Tuple_spliced (thn (h pos pins s σ H _ I hq) fun us s1 ⟨xs,H1,I1,r,z,q⟩=>⟨by rw[<- r.length];exact z,?_⟩)
 have hf:H1 s1.heap.objs.size=none:=I1.hok.fresh (Nat.le_refl _)
 refine⟨.ref s1.heap.objs.size,upd H1 s1.heap.objs.size (.tup xs),I1.laid (t':=s1.toks) (fun b u e=>Heap.get?_push_of_some _ e) (Nat.le_refl _) ?_,rfl,q _ hf⟩
 exact⟨z,us,r,⟨_,Heap.get?_push_size _ rfl,rfl,_,rfl⟩⟩
theorem zKa (h:PA X es t):PE X (.List es pos) (zL1 t):=by
 intro pins s σ H Q I hq
 refine wpAny_List_spliced (thn (h pos pins s σ H _ I hq) fun us s1 ⟨xs,H1,I1,r,z,q⟩=>⟨by rw[<- r.length];exact z,?_⟩)
 have hf:H1 s1.heap.objs.size=none:=I1.hok.fresh (Nat.le_refl _)
 refine⟨.ref s1.heap.objs.size,upd H1 s1.heap.objs.size (.lst xs),I1.laid (t':=s1.toks) (fun b u e=>Heap.get?_push_of_some _ e) (Nat.le_refl _) ?_,rfl,q _ hf⟩
 exact⟨z,us,0,r,Heap.get?_push_size _ rfl⟩
end
noncomputable abbrev Sp:=List V->Hp->VK->XK->Prop
noncomputable abbrev CXT:=List Env->Hp->Shared->XK->Value->Shared->Prop
structure zAL (P:Program) (w:World) (K:PySem.W.Frag) (mg:Str->Option Value) (base:Heap) (A:Around) (outer:List Env) (s:Shared) (H:Hp):Prop where
 frames:A.frames=some outer
 mod:Mod K mg base
 bs:∀ b o,base.get? b=some o->s.heap.get? b=some o/\H b=none
 bsz:base.objs.size <= s.heap.objs.size
 funs:s.heap.FunFrames base outer
 frf:∀ b∈frs outer,H b=none
 hok:HOk P w H s.heap
 bare:AllBare s.gens
noncomputable def CE (outer:List Env) (P:Program) (w:World) (H:Hp) (s:Shared) (Q:VK) (u:Value) (s':Shared):Prop :=
 ∃ v H',s'.os=s.os/\AllBare s'.gens/\Un (frs outer) [] H H' s.heap s'.heap/\HOk P w H' s'.heap/\zY v u/\Q v H'
noncomputable def CR (CX:CXT) (outer:List Env) (P:Program) (w:World) (H:Hp) (s:Shared) (Q:VK) (E:XK) (r:Result) (s':Shared):Prop :=
 match r with
 | .ok (.ret u)=>CE outer P w H s Q u s'
 | .ok _=>False
 | .error e=>CX outer H s E e s'
structure jc (P:Program) (w:World) (K:PySem.W.Frag) (mg:Str->Option Value) (base:Heap) (CX:CXT) (k:Nat) (f:Addr) (fd:FuncData) (ps:List Str) (sp:Sp):Prop where
 len:∀ vs H Q E,sp vs H Q E->vs.length=ps.length
 run:∀ (A:Around) (outer:List Env) (s:Shared) (H:Hp) (args:Args) (us:List Value) (vs:List V) (Q:VK) (E:XK),zy k A->zAL P w K mg base A outer s H->(0 < s.toks\/∃ p∈ps,fd.scope.names.lookup p=some .local)->BindsTo s fd args (ps.zip us)->zX vs us->sp vs H Q E ->
  codeAny (model P w) A (.call (.ref f) args) (CR CX outer P w H s Q E) s
theorem jc.imp {P:Program}{w:World}{K:PySem.W.Frag}{mg:Str->Option Value}{base:Heap}{CX:CXT}{k:Nat}{f:Addr}{fd:FuncData}{ps:List Str}{sp sp':Sp} (F:jc P w K mg base CX k f fd ps sp)
  (h:∀ vs H Q E,sp' vs H Q E->sp vs H Q E):jc P w K mg base CX k f fd ps sp' :=
 ⟨fun vs H Q E q=>F.len vs H Q E (h _ _ _ _ q),fun A outer s H args us vs Q E hr he ht hb hv hs=>F.run A outer s H args us vs Q E hr he ht hb hv (h _ _ _ _ hs)⟩
theorem zAL.make {P:Program}{w:World}{K:PySem.W.Frag}{mg:Str->Option Value}{base:Heap}{A:Around}{outer:List Env}{s:Shared}{H:Hp} (e:zAL P w K mg base A outer s H) (C:Addr) (us:List Value) (kw:List (Str×Value)) :
  zAL P w K mg base (A.under (.builtin "type.__call__" ⟨.ref C::us,kw⟩)) outer s H:=⟨by first | exact e.frames | (simpa [Around.under,Code.envs,Code.isFrame,pushEnvs] using e.frames),e.mod,e.bs,e.bsz,e.funs,e.frf,e.hok,e.bare⟩
section
variable {X:Cx}{pins:List (Addr×Obj)}{σ:St}{H:Hp}{s s':Shared}
theorem Inv.env0 (I:Inv X pins σ H s):zAL X.prog X.w X.K X.mg X.base X.A X.stack s H :=
 ⟨I.ok.frames,I.ok.mod,I.bs,Nat.le_trans I.ok.bsz I.sz,I.stack,I.stkFree,I.hok,I.bare⟩
theorem Inv.after {Q:VK}{u:Value} (I:Inv X pins σ H s) (h:CE X.stack X.prog X.w H s Q u s') (ht:0 < s'.toks):EP X pins σ Q u s':=by
 obtain⟨v,H',os,bare,un,hok,r,q⟩:=h
 obtain⟨hh,g,d,t,os'⟩:=s'
 obtain rfl:os'=s.os:=os
 exact⟨v,H',I.call (h':=hh) (g':=g) (d':=d) (t':=t) (ch:=[]) un hok bare (fun b z=>absurd z (by simp)) ht,r,q⟩
end
noncomputable def zHr (sp:Sp) (dvs:List V) (E:XK) (t:TA):TE:=fun σ H Q=>t σ H fun vs H1=>sp (vs++dvs) H1 Q E
noncomputable def zLT (C:Addr) (m:Str) (sp:Sp) (dvs:List V) (E:XK) (ta:TE) (t:TA):TE:=fun σ H Q=>ta σ H fun x H1=>∃ a dx fs,x=.ref a/\H1 a=some (.ins C dx fs)/\fs.lookup m=none /\
 t σ H1 fun vs H2=>sp (x::(vs++dvs)) H2 Q E
noncomputable def zLJ (C:Addr) (sp:Sp) (dvs:List V) (E:XK) (t:TA):TE:=fun σ H Q=>t σ H fun vs H1=>∀ x dx,H1 x=none->H1 dx=none->dx≠x ->
 sp (.ref x::(vs++dvs)) (upd (upd H1 dx (.own x)) x (.ins C dx [])) (fun v H2=>v=.non/\Q (.ref x) H2) E
noncomputable def ZB (K:PySem.W.Frag) (fd:FuncData) (ps:List Str) (ds:List Value):Prop :=
 ∀ (s:Shared) (us:List Value),K.In s.heap->(us++ds).length=ps.length->BindsTo s fd ⟨us,[]⟩ (ps.zip (us++ds))
theorem ZB.all {K:PySem.W.Frag}{fd:FuncData}{ps:List Str} (h:∀ us:List Value,us.length=ps.length->bindArgs fd ⟨us,[]⟩=pure (ps.zip us)):ZB K fd ps []:=fun s us _ hl=>by
 rw[List.append_nil] at hl ⊢
 exact .of_eq (h us hl)
noncomputable def qr (CX:CXT) (X:Cx) (E:XK):Prop:=∀ (pins:List (Addr×Obj)) (σ:St) (H:Hp) (s:Shared) (e:Value) (s':Shared),Inv X pins σ H s->CX X.stack H s E e s'->X.xe e s'
section
variable {X:Cx}{CX:CXT}{k:Nat}{f C:Addr}{fd:FuncData}{ps:List Str}{sp:Sp}{dvs:List V}{ds:List Value}{E:XK}{x m:Str}{p pos apos:Pos}{e o:Expr}{es:List Expr}{ta:TE}{t:TA}
theorem zGE {pins:List (Addr×Obj)}{σ:St}{H:Hp}{s:Shared}{Q:VK}{us:List Value}{vs:List V} (F:jc X.prog X.w X.K X.mg X.base CX k f fd ps sp) (hr:zy k X.A) (hb:ZB X.K fd ps ds) (hd:zX dvs ds) (hx:qr CX X E)
  (I:Inv X pins σ H s) (r:zX vs us) (h:sp (vs++dvs) H Q E):wpAny (model X.prog X.w) X.A (call (.ref f) us) (EP X pins σ Q) X.xe s:=by
 have r2:zX (vs++dvs) (us++ds):=r.append hd
 have hl:(us++ds).length=ps.length:=by rw[<- r2.length];exact F.len _ _ _ _ h
 refine wpAny_call (codeAny_mono (codeAny_toks_of (n:=1) I.tk (F.run X.A X.stack s H ⟨us,[]⟩ (us++ds) (vs++dvs) Q E hr I.env0 (.inl I.tk) (hb s us I.kIn hl) r2 h)) fun r s' ⟨htk,hq⟩=>?_)
 cases r with
 | error e=>exact hx pins σ H s e s' I hq
 | ok fl =>
  cases fl with
  | ret u=>exact I.after hq htk
  | next=>exact False.elim hq
  | brk=>exact False.elim hq
  | cont=>exact False.elim hq
theorem zIo (F:jc X.prog X.w X.K X.mg X.base CX k f fd ps sp) (hr:zy k X.A) (hg:Gl X x) (hm:X.mg x=some (.ref f)) (hk:PySem.W.keepIn X.K (.ref f)=true) (hb:ZB X.K fd ps ds) (hd:zX dvs ds) (hx:qr CX X E)
  (ha:PA X (e::es) t) (hdb:(x == ("__debug__" : Str))=false:=by decide) (he:starEach (e::es) X.env=(false,eval e X.env)::starEach es X.env:=by rfl) (hpl:(backTo pos (starEach es X.env)).any (·.1)=false:=by rfl) :
  PE X (.Call (.Name x p) (e::es) [] pos) (zHr sp dvs E t):=by
 intro pins s σ H Q I h
 refine wpAny_Call_Name_kw (zBR I hg hm ?_ hdb)
 refine PySem.W.callWith_K (h₀:=X.base) I.ok.mod.kin hk (thn (ha pos pins s σ H _ I h) fun us s1 ⟨vs,H1,I1,r,q⟩=>⟨I1.kIn,?_⟩) he hpl
 exact zGE F hr hb hd hx I1 r q
theorem zIq {pl:Sem Bool} (he:PE X o ta) (c:Cls X.K C) (hm:zG7 X.K C m f) (F:jc X.prog X.w X.K X.mg X.base CX k f fd ps sp) (hr:zy k X.A) (hb:ZB X.K fd ps ds) (hd:zX dvs ds) (hx:qr CX X E) (ha:PA X (e::es) t)
  (hst:starEach (e::es) X.env=(false,eval e X.env)::starEach es X.env:=by rfl) (hpl:(backTo pos (starEach es X.env)).any (·.1)=false:=by rfl)
  (ht:eval (.Call (.Attribute o m apos) (e::es) [] pos) X.env=(do
   let ov <- eval o X.env
   standAt apos.atName
   let (f,first) <- holding [ov] (getMethod ov m pl)
   callWith pos f first (backTo pos (starEach (e::es) X.env)) (backToKw pos (keywordEach [] X.env))):=by rfl) :
  PE X (.Call (.Attribute o m apos) (e::es) [] pos) (zLT C m sp dvs E ta t):=by
 intro pins s σ H Q I h
 refine PySem.W.methodCall_KW (pl:=pl) (thn (he pins s σ H _ I h) fun u s1 ⟨x,H1,I1,rx,a,dx,fs,ex,ea,l,q⟩=>?_) ht
 subst ex
 obtain rfl:u=Value.ref a:=rx
 refine zET I1 ea c hm l ?_
 refine PySem.W.callWith_K (first:=[.ref a]) (h₀:=X.base) I.ok.mod.kin hm.kp (thn (ha pos pins s1 σ H1 _ I1 q) fun us s2 ⟨vs,H2,I2,r,q2⟩=>⟨I2.kIn,?_⟩) hst hpl
 exact zGE (us:=.ref a::us) (vs:=.ref a::vs) F hr hb hd hx I2 (.cons rfl r) q2
structure Mk (K:PySem.W.Frag) (C f:Addr):Prop where
 makes:PySem.W.makesIn K C=true
 init:PySem.W.findIn K (.ref C) "__init__" = some (some (.ref f))
 fn:PySem.W.isFn K (.ref f)=true
 kp:PySem.W.keepIn K (.ref C)=true
theorem zHK {pins:List (Addr×Obj)}{σ:St}{H:Hp}{s:Shared}{Q:VK}{us:List Value}{vs:List V} (M:Mk X.K C f) (F:jc X.prog X.w X.K X.mg X.base CX k f fd ps sp) (hr:zy (k+1) X.A) (hb:ZB X.K fd ps ds) (hd:zX dvs ds)
  (hx:qr CX X E) (I:Inv X pins σ H s) (r:zX vs us)
  (h:∀ x dx,H x=none->H dx=none->dx≠x->sp (.ref x::(vs++dvs)) (upd (upd H dx (.own x)) x (.ins C dx [])) (fun v H2=>v=.non/\Q (.ref x) H2) E) :
  wpAny (model X.prog X.w) X.A (call (.ref C) us) (EP X pins σ Q) X.xe s:=by
 have hq:=h (s.heap.objs.size+1) s.heap.objs.size (I.hok.fresh (Nat.le_succ _)) (I.hok.fresh (Nat.le_refl _)) (Nat.ne_of_lt (Nat.lt_succ_self _))
 have I2:=Inv.made (C:=C) I
 have r2:zX (V.ref (s.heap.objs.size+1)::(vs++dvs)) (Value.ref (s.heap.objs.size+1)::(us++ds)):=.cons rfl (r.append hd)
 have hl:(Value.ref (s.heap.objs.size+1)::us++ds).length=ps.length:=by
  have e:=r2.length
  rw[F.len _ _ _ _ hq] at e
  exact e.symm
 refine wpAny_call (zGu (f:=f) I.kIn M.makes M.init (beq_iff_eq.mp M.fn) (codeAny_mono (codeAny_toks_of (n:=1) I2.tk (F.run _ X.stack _ _ ⟨Value.ref (s.heap.objs.size+1)::us,[]⟩ (Value.ref (s.heap.objs.size+1)::(us++ds)) _ _ E (hr.make C us [])
  (I2.env0.make C us []) (.inl I2.tk) (hb _ (Value.ref (s.heap.objs.size+1)::us) I2.kIn hl) r2 hq)) fun r s' ⟨htk,hq'⟩=>?_))
 cases r with
 | error e=>exact hx pins σ _ _ e s' I2 hq'
 | ok fl =>
  cases fl with
  | ret u =>
   obtain⟨v,H',I3,rv,ev,q3⟩:=I2.after hq' htk
   subst ev
   exact⟨rv,⟨V.ref (s.heap.objs.size+1),H',I3,rfl,q3⟩⟩
  | next=>exact False.elim hq'
  | brk=>exact False.elim hq'
  | cont=>exact False.elim hq'
theorem zIh (M:Mk X.K C f) (F:jc X.prog X.w X.K X.mg X.base CX k f fd ps sp) (hr:zy (k+1) X.A) (hg:Gl X x) (hm:X.mg x=some (.ref C)) (hb:ZB X.K fd ps ds) (hd:zX dvs ds) (hx:qr CX X E)
  (ha:PA X (e::es) t) (hdb:(x == ("__debug__" : Str))=false:=by decide) (he:starEach (e::es) X.env=(false,eval e X.env)::starEach es X.env:=by rfl) (hpl:(backTo pos (starEach es X.env)).any (·.1)=false:=by rfl) :
  PE X (.Call (.Name x p) (e::es) [] pos) (zLJ C sp dvs E t):=by
 intro pins s σ H Q I h
 refine wpAny_Call_Name_kw (zBR I hg hm ?_ hdb)
 refine PySem.W.callWith_K (h₀:=X.base) I.ok.mod.kin M.kp (thn (ha pos pins s σ H _ I h) fun us s1 ⟨vs,H1,I1,r,q⟩=>⟨I1.kIn,?_⟩) he hpl
 exact zHK M F hr hb hd hx I1 r q
end
section
variable {X:Cx}{CX:CXT}{k:Nat}{f C:Addr}{fd:FuncData}{ps ks:List Str}{sp:Sp}{E:XK}{x m:Str}{p pos apos kpos:Pos}{e o:Expr}{es:List Expr}{kws:List Keyword}{te ta:TE}{t tk:TA}{nm:Option Str}
structure zMQ (K:PySem.W.Frag) (fd:FuncData) (ps ks:List Str) (g:List Value->List Value->List Value) (gV:List V->List V->List V):Prop where
 to:∀ (s:Shared) (us ws:List Value),K.In s.heap->(g us ws).length=ps.length->BindsTo s fd ⟨us,ks.zip ws⟩ (ps.zip (g us ws))
 rel:∀ {vs:List V}{us:List Value}{zs:List V}{ws:List Value},zX vs us->zX zs ws->zX (gV vs zs) (g us ws)
variable {g:List Value->List Value->List Value}{gV:List V->List V->List V}
end
structure jb (N P:List Str) (sc:Scope):Prop where
 kind:sc.kind=.function
 co:sc.isCoroutine=false
 gen:sc.isGenerator=false
 nd:N.Nodup
 pre:N.take P.length=P
 par:∀ x∈P,sc.names.lookup x=some .local\/sc.names.lookup x=some .cell
 nofree:∀ y∈sc.names,y.2≠.free
theorem zBy {kindOf:Str->Option NameKind}{x:Str}:∀ {binds:List (Str×Value)}{m:Str->Option Value},(∀ v,(x,v)∉binds)->bindL kindOf binds m x=m x
 | [],_,_=>rfl
 | (n,v)::r,m,h=>by
  unfold bindL
  rw[zBy fun w hw=>h w (List.mem_cons_of_mem _ hw)]
  split
  ·have:x≠n:=by rintro rfl;exact h v List.mem_cons_self
   simp[this]
  ·rfl
theorem zBx {kindOf:Str->Option NameKind}{x:Str}:∀ {binds:List (Str×Value)}{m:Str->Option Value},(∀ v,(x,v)∉binds)->bindC kindOf binds m x=m x
 | [],_,_=>rfl
 | (n,v)::r,m,h=>by
  unfold bindC
  rw[zBx fun w hw=>h w (List.mem_cons_of_mem _ hw)]
  split
  ·rfl
  ·have:x≠n:=by rintro rfl;exact h v List.mem_cons_self
   simp[this]
theorem zBz {kindOf:Str->Option NameKind}{x:Str}{v:Value}:∀ {P:List Str}{vs:List Value}{i:Nat}{m:Str->Option Value},P.Nodup->P[i]? = some x->vs[i]? = some v->kindOf x=some .local ->
  bindL kindOf (P.zip vs) m x=some v
 | [],_,_,_,_,h,_,_=>by simp at h
 | _::_,[],_,_,_,_,h,_=>by simp at h
 | p::P,w::vs,0,m,nd,h1,h2,hk=>by
  simp at h1 h2;subst h1;subst h2
  show bindL kindOf ((p,w)::P.zip vs) m p=_
  unfold bindL
  rw[zBy fun v hv=>(List.nodup_cons.mp nd).1 (List.of_mem_zip hv).1,if_pos hk]
  simp
 | p::P,w::vs,i+1,m,nd,h1,h2,hk=>by
  show bindL kindOf ((p,w)::P.zip vs) m x=_
  unfold bindL
  exact zBz (i:=i) (List.nodup_cons.mp nd).2 (by simpa using h1) (by simpa using h2) hk
theorem zBi {kindOf:Str->Option NameKind}{x:Str}{v:Value}:∀ {P:List Str}{vs:List Value}{i:Nat}{m:Str->Option Value},P.Nodup->P[i]? = some x->vs[i]? = some v->kindOf x≠some .local ->
  bindC kindOf (P.zip vs) m x=some v
 | [],_,_,_,_,h,_,_=>by simp at h
 | _::_,[],_,_,_,_,h,_=>by simp at h
 | p::P,w::vs,0,m,nd,h1,h2,hk=>by
  simp at h1 h2;subst h1;subst h2
  show bindC kindOf ((p,w)::P.zip vs) m p=_
  unfold bindC
  rw[zBx fun v hv=>(List.nodup_cons.mp nd).1 (List.of_mem_zip hv).1,if_neg hk]
  simp
 | p::P,w::vs,i+1,m,nd,h1,h2,hk=>by
  show bindC kindOf ((p,w)::P.zip vs) m x=_
  unfold bindC
  exact zBi (i:=i) (List.nodup_cons.mp nd).2 (by simpa using h1) (by simpa using h2) hk
noncomputable def yY (N:List Str) (vs:List V):St:=vs.map some++List.replicate (N.length - vs.length) none
noncomputable def QG (CX:CXT) (P:Program) (w:World) (K:PySem.W.Frag) (mg:Str->Option Value) (base:Heap) (N:List Str) (qual:Str) (scope:Scope) (f:Addr) (cd:Value) (A:Around) (outer:List Env) (s:Shared) (H:Hp) (E:XK):Cx where
 prog:=P
 w:=w
 K:=K
 mg:=mg
 base:=base
 A:=A.deeper (envOfC qual scope s.heap.objs.size f cd)
 N:=N
 s₀:=s
 H₀:=H
 env:=envOfC qual scope s.heap.objs.size f cd
 outer:=outer
 stack:=envOfC qual scope s.heap.objs.size f cd::outer
 ex:=[]
 calm:=true
 fn:=fun _=>true
 pn:=[]
 xe:=fun e s'=>wpAny (model P w) (A.deeper (envOfC qual scope s.heap.objs.size f cd)) (leaving (envOfC qual scope s.heap.objs.size f cd) e) (fun _ s''=>CX outer H s E e s'') (fun e' s''=>CX outer H s E e' s'') s'
theorem zCv {sc:Scope}{n:Nat}{x:Str} (h:sc.names.lookup x=some .cell):∃ c,(cellsFrom n sc.names []).lookup x=some c:=by
 have q:=PySem.W.cellsFrom_some sc.names n [] (.inl h)
 exact Option.isSome_iff_exists.mp q
theorem Qd {M:Model}{A:Around}{E:Value->Shared->Prop}{s₀:Shared}{env:Env} (f:Str×Value->PUnit->Sem (ForInStep PUnit)) (hf:∀ n v u,f (n,v) u=(do storeName env n v;pure (.yield ⟨⟩))) (hk:env.scope.kind=.function) :
  ∀ (binds:List (Str×Value)) (m cm:Str->Option Value) (s:Shared) (Q:PUnit->Shared->Prop),InCallC s₀ env.locals m env.cells cm s ->
   (∀ x∈binds,env.kindOf x.1=some .local\/(env.kindOf x.1=some .cell/\(env.cells.lookup x.1).isSome=true)) ->
   (∀ s',InCallC s₀ env.locals (bindL env.kindOf binds m) env.cells (bindC env.kindOf binds cm) s'->((0 < s.toks\/∃ b∈binds,env.kindOf b.1=some .local)->0 < s'.toks)->Q ⟨⟩ s')->wpAny M A (forIn binds ⟨⟩ f) Q E s
 | [],m,cm,s,Q,x,_,h=>by
  rw[List.forIn_nil]
  exact wpAny_pure (h s x fun z=>z.elim id fun ⟨b,hb,_⟩=>absurd hb (by simp))
 | (n,v)::r,m,cm,s,Q,x,hkind,h=>by
  rw[List.forIn_cons,hf]
  have hr:∀ y∈r,env.kindOf y.1=some .local\/(env.kindOf y.1=some .cell/\(env.cells.lookup y.1).isSome=true):=fun y hy=>hkind y (List.mem_cons_of_mem _ hy)
  rcases hkind (n,v) List.mem_cons_self with hl | ⟨hl,hc⟩
  ·refine wpAny_bind (wpAny_bind (wpAny_storeName_local hl x.toInCall.ns (fun h' hn' hs'=>wpAny_pure (Qd f hf hk r (fun y=>if y=n then some v else m y) cm _ Q ⟨⟨?_,hn',fun b o e=>?_,x.toInCall.fresh⟩,fun k c hc=>?_,x.apart,x.above⟩ hr fun s'' x'' ht=>h s'' ?_ fun _=>ht (.inl (Nat.succ_pos _)))) (by rw[hk];rfl)))
   ·obtain⟨h₁,tk,rfl⟩:=x.toInCall.same
    exact⟨h',_,rfl⟩
   ·exact hs'.extBut b o (Nat.ne_of_lt (Nat.lt_of_lt_of_le (Heap.lt_size e) x.toInCall.fresh)) (x.toInCall.keep b o e)
   ·exact (x.cell k c hc).sameBut hs' (Nat.ne_of_gt (x.above k c (PySem.mem_of_lookup hc)))
   ·unfold bindL bindC;rw[if_pos hl,if_pos hl];exact x''
  ·obtain⟨c,hc⟩:=Option.isSome_iff_exists.mp hc
   have hnl:¬ env.kindOf n=some .local:=by rw[hl];decide
   refine wpAny_bind (wpAny_bind (wpAny_with_toks (n:=s.toks) (Nat.le_refl _) (stCC x hk hl hc fun s' x' hle=>wpAny_pure (Qd f hf hk r m _ s' Q x' hr fun s'' x'' ht=>h s'' ?_ fun z=>ht ?_))))
   ·unfold bindL bindC;rw[if_neg hnl,if_neg hnl];exact x''
   ·rcases z with z | ⟨b,hb,hbl⟩
    ·exact .inl (Nat.lt_of_lt_of_le z hle)
    ·rcases List.mem_cons.mp hb with rfl | hb
     ·exact absurd hbl hnl
     ·exact .inr ⟨b,hb,hbl⟩
theorem zI5 {M:Model}{A:Around}{E:Value->Shared->Prop}{s:Shared}{scope:Scope}{globals:Addr}{binds:List (Str×Value)}{qual:Str}{func:Option Addr}{code:Value}{builtins:Addr}{Q:Env->Shared->Prop}
  (hk:scope.kind=.function)
  (hkind:∀ x∈binds,scope.names.lookup x.1=some .local\/(scope.names.lookup x.1=some .cell/\((cellsFrom (s.heap.objs.size+1) scope.names []).lookup x.1).isSome=true))
  (hQ:∀ env,env=newEnv scope s.heap.objs.size globals (cellsFrom (s.heap.objs.size+1) scope.names []) qual func code none builtins ->
   ∀ s',InCallC s env.locals (bindL env.kindOf binds fun _=>none) env.cells (bindC env.kindOf binds fun _=>none) s'->((0 < s.toks\/∃ b∈binds,scope.names.lookup b.1=some .local)->0 < s'.toks)->Q env s') :
  wpAny M A (newFunctionEnv scope globals [] binds qual func code none builtins) Q E s:=by
 simp only[newFunctionEnv,Option.isSome_none,Bool.false_eq_true,if_false]
 refine wpAny_bind (wpAny_alloc ?_)
 refine wpAny_bind (wpAny_layCells _ (fun name kind cells=>by cases hkc:kind == NameKind.cell<;>simp[hkc]) _ _ _ _ ?_)
 have ok:=cellsFrom_ok scope.names (s.heap.push { cls:=.type "frame",data:=.dict #[] }) (s.heap.objs.size+1) [] ⟨fun _ _ hm=>(nomatch hm),List.Pairwise.nil⟩ (by rw[Heap.size_push];exact Nat.le_refl _)
 rw[Heap.size_push] at ok
 rw[show ({ s with heap:=s.heap.push { cls:=.type "frame",data:=.dict #[] } }:Shared).heap.objs.size=s.heap.objs.size+1 from Heap.size_push ..]
 refine wpAny_bind (Qd (s₀:=s) (env:=newEnv scope s.heap.objs.size globals (cellsFrom (s.heap.objs.size+1) scope.names []) qual func code none builtins)
  _ (fun _ _ _=>rfl) hk binds (fun _=>none) (fun _=>none) _ _
  ⟨⟨⟨_,_,rfl⟩,(Heap.Ns.new s.heap (.type "frame")).keeps (pushCells_keeps _ _),fun b o e=>pushCells_keeps _ _ b o (Heap.get?_push_of_some _ e),Nat.le_refl _⟩,
   fun n c hc=>(ok.empty n c (PySem.mem_of_lookup hc)).1,ok.apart,fun n c hm=>(ok.empty n c hm).2⟩
  hkind fun s' x ht=>wpAny_pure (hQ _ rfl s' x ht))
theorem zFW {CX:CXT}{P:Program}{w:World}{K:PySem.W.Frag}{mg:Str->Option Value}{base:Heap}{N ps:List Str}{qual:Str}{scope:Scope}{f:Addr}{cd:Value}{A:Around}{outer:List Env}{s s1:Shared}{H:Hp}{E:XK}{us:List Value}{vs:List V}
  (S:jb N ps scope) (hd:A.handled=none) (e0:zAL P w K mg base A outer s H) (hl:vs.length=ps.length) (r:zX vs us)
  (x:InCallC s s.heap.objs.size (bindL (envOfC qual scope s.heap.objs.size f cd).kindOf (ps.zip us) fun _=>none) (cellsFrom (s.heap.objs.size+1) scope.names []) (bindC (envOfC qual scope s.heap.objs.size f cd).kindOf (ps.zip us) fun _=>none) s1) (ht:0 < s1.toks) :
  Inv (QG CX P w K mg base N qual scope f cd A outer s H E) [] (yY N vs) H s1:=by
 have hpl:ps.length <= N.length:=by have:=congrArg List.length S.pre;rw[List.length_take] at this;omega
 obtain⟨h1,tk,rfl,hk⟩:=x.done
 have noA:∀ b:Addr,b∉(QG CX P w K mg base N qual scope f cd A outer s H E).ex:=fun b z=>absurd (show b∈([]:List Addr) from z) (by simp)
 refine⟨⟨e0.mod,S.kind,rfl,rfl,Nat.le_refl _,fun y z c h1 h2=>?_,fun y hy=>?_,fun y c _ h=>?_,fun _=>hd,Around.frames_deeper e0.frames,.inr ⟨rfl,rfl⟩,fun b z=>absurd z (noA b),e0.bs,e0.bsz,fun b _ _=>noA b,fun b z=>absurd z (noA b),e0.funs,e0.frf⟩,
  rfl,e0.bare,Un.kept hk,⟨_,x.toInCall.ns,fun i y v h1 h2 h3=>?_⟩,fun y c h=>⟨_,x.cell y c h⟩,e0.hok.fresh (Nat.le_refl _),fun y c h=>?_,fun p hp=>absurd (show p∈([]:List (Addr×Obj)) from hp) (by simp),e0.hok.kept hk,?_,ht⟩
 ·exact name_of_addr x.apart (PySem.mem_of_lookup h1) (PySem.mem_of_lookup h2)
 ·have hy:scope.names.lookup y=some .cell\/scope.names.lookup y=some .free:=hy
  rcases hy with hy | hy
  ·exact zCv hy
  ·exact absurd rfl (S.nofree _ (PySem.mem_of_lookup hy))
 ·exact Nat.le_of_lt (x.above y c (PySem.mem_of_lookup h))
 ·have hi:i < vs.length:=by
   unfold yY at h2
   by_cases hi:i < vs.length
   ·exact hi
   ·rw[List.getElem?_append_right (by simpa using hi)] at h2
    rw[List.getElem?_replicate] at h2
    split at h2<;>cases h2
  have ha:vs[i]? = some v:=by
   unfold yY at h2
   rw[List.getElem?_append_left (by simpa using hi),List.getElem?_map] at h2
   cases e:vs[i]? with
   | none=>rw[e] at h2;cases h2
   | some a=>rw[e] at h2;cases h2;rfl
  obtain⟨u,hu,rv⟩:=r.get ha
  have hp:ps[i]? = some y:=by
   rw[<- S.pre,List.getElem?_take_of_lt (by omega)];exact h1
  have ndP:ps.Nodup:=by rw[<- S.pre];exact S.nd.sublist (List.take_sublist _ _)
  refine⟨u,rv,?_⟩
  rcases S.par y (List.mem_of_getElem? hp) with k | k
  ·exact .inl ⟨k,zBz ndP hp hu k⟩
  ·obtain⟨c,e⟩:=zCv (n:=s.heap.objs.size+1) k
   refine .inr ⟨.inl k,c,e,?_⟩
   have q:=x.cell y c e
   rw[zBi ndP hp hu (by show scope.names.lookup y≠_;rw[k];decide)] at q
   exact q
 ·exact e0.hok.fresh (Nat.le_of_lt (x.above y c (PySem.mem_of_lookup h)))
 ·unfold yY
  show _=N.length
  rw[List.length_append,List.length_map,List.length_replicate]
  omega
theorem zLj {CX:CXT}{P:Program}{w:World}{K:PySem.W.Frag}{mg:Str->Option Value}{base:Heap}{k:Nat}{f:Addr}{name qual:Str}{params:Arguments}{body:List Stmt}{scope:Scope}{dV kV doc pm cdv ct oc:Value}{an od:Option Addr}
  {osl:Array (Option Value)}{N ps:List Str}{sp:Sp} (lk:K.lookup f=some ⟨oc,od,.func (PySem.W.fnOf name qual params body scope dV kV doc pm an cdv ct),osl⟩) (hcd:PySem.W.codeIn K cdv qual=true) (S:jb N ps scope)
  (len:∀ vs H Q E,sp vs H Q E->vs.length=ps.length)
  (hbody:∀ (A:Around) (outer:List Env) (s:Shared) (H:Hp) (vs:List V) (Q:VK) (E:XK),zy k (A.deeper (envOfC qual scope s.heap.objs.size f cdv))->sp vs H Q E ->
   ∃ t,PSs (QG CX P w K mg base N qual scope f cdv A outer s H E) body t/\t { nx:=fun _ H'=>Q .non H',rt:=Q } (yY N vs) H) :
  jc P w K mg base CX (k+1) f (PySem.W.fnOf name qual params body scope dV kV doc pm an cdv ct) ps sp:=by
 refine⟨len,fun A outer s H args us vs Q E hr e0 htk hb r hsp=>?_⟩
 have hl:=len _ _ _ _ hsp
 have KX:K.In s.heap:=e0.mod.kin.keeps fun b o e=>(e0.bs b o e).1
 have lim:s.heap.NoLimit:=e0.mod.nolimit.keeps fun b o e=>(e0.bs b o e).1
 have hkind:∀ y∈ps.zip us,scope.names.lookup y.1=some .local\/(scope.names.lookup y.1=some .cell/\((cellsFrom (s.heap.objs.size+1) scope.names []).lookup y.1).isSome=true):=fun ⟨n,v⟩ hy=>by
  rcases S.par n (List.of_mem_zip hy).1 with q | q
  ·exact .inl q
  ·exact .inr ⟨q,PySem.W.cellsFrom_some _ _ _ (.inl q)⟩
 refine codeAny_call_function hr.depth (KX _ _ lk) rfl S.co S.gen rfl (PySem.W.codeRec_of KX hcd) (hb _ _ _ _ ?_)
 refine zI5 S.kind hkind fun env he s1 x htk1=>?_
 subst he
 refine⟨lim.keeps x.toInCall.keep,codeAny_func ?_⟩
 obtain⟨t,ht,hq⟩:=hbody A outer s H vs Q E (hr.deeper _) hsp
 have I:Inv (QG CX P w K mg base N qual scope f cdv A outer s H E) [] (yY N vs) H s1:=zFW S hr.hd e0 hl r x (htk1 (htk.imp id fun ⟨p,hp,hpl⟩=>by
  obtain⟨i,hi,e⟩:=List.mem_iff_getElem.mp hp
  have hu:i < us.length:=by rw[<- r.length,hl];exact hi
  exact⟨(p,us[i]),List.mem_iff_getElem.mpr ⟨i,by rw[List.length_zip];omega,by rw[List.getElem_zip,e]⟩,hpl⟩))
 refine wpAny_mono (ht [] s1 (yY N vs) H _ I hq) (fun fl s' hs=>?_) fun e s' hs=>hs
 have fin:∀ {σ':St}{H':Hp}{v:V}{u:Value},Inv (QG CX P w K mg base N qual scope f cdv A outer s H E) [] σ' H' s'->zY v u->Q v H'->CE outer P w H s Q u s' :=
  fun {σ' H' v u} J rv q=>⟨v,H',J.os,J.bare,J.base,J.hok,rv,q⟩
 cases fl with
 | ret u =>
  obtain⟨v,σ',H',J,rv,q⟩:=hs
  exact fin J rv q
 | next =>
  obtain⟨σ',H',J,q⟩:=hs
  exact fin (v:=V.non) (u:=Value.none) J rfl q
 | brk =>
  obtain⟨_,_,_,q⟩:=hs
  exact False.elim q
 | cont =>
  obtain⟨_,_,_,q⟩:=hs
  exact False.elim q
end L2
namespace L2
open PySem PySem.Spec PyProof.Rows
section
variable {X:Cx}{x:Str}{p pos:Pos}{e:Expr}{es:List Expr}{t:TA}{id T:String}{r:List V->Hp->VK->Prop}
noncomputable def tCB (r:List V->Hp->VK->Prop) (t:TA):TE:=fun σ H Q=>t σ H fun vs H1=>r vs H1 Q
theorem zGS (hc:jU X (.builtin id) r) (hg:Gl X x) (hm:X.mg x=none) (hv:bootBuiltins x=some (.builtin id)) (ha:PA X (e::es) t) (hn:x ≠ "__name__" := by decide) (hdb:(x == ("__debug__" : Str))=false:=by decide)
  (he:starEach (e::es) X.env=(false,eval e X.env)::starEach es X.env:=by rfl) (hpl:(backTo pos (starEach es X.env)).any (·.1)=false:=by rfl):PE X (.Call (.Name x p) (e::es) [] pos) (tCB r t):=by
 intro pins s σ H Q I h
 refine wpAny_Call_Name_kw (zAy I hg hm hv ?_ hn hdb)
 exact PyProof.Rows.callWith_builtin1 (thn (ha pos pins s σ H _ I h) fun us s1 ⟨vs,H1,I1,r1,q1⟩=>hc pins s1 σ H1 vs us Q I1 r1 q1) he hpl
theorem zFE (hc:jU X (.type T) r) (hg:Gl X x) (hm:X.mg x=none) (hv:bootBuiltins x=some (.type T)) (ha:PA X (e::es) t) (hn:x ≠ "__name__" := by decide) (hdb:(x == ("__debug__" : Str))=false:=by decide)
  (he:starEach (e::es) X.env=(false,eval e X.env)::starEach es X.env:=by rfl) (hpl:(backTo pos (starEach es X.env)).any (·.1)=false:=by rfl):PE X (.Call (.Name x p) (e::es) [] pos) (tCB r t):=by
 intro pins s σ H Q I h
 refine wpAny_Call_Name_kw (zAy I hg hm hv ?_ hn hdb)
 exact PyProof.Rows.callWith_type1 (thn (ha pos pins s σ H _ I h) fun us s1 ⟨vs,H1,I1,r1,q1⟩=>hc pins s1 σ H1 vs us Q I1 r1 q1) he hpl
end
end L2
namespace HT
open PySem PyProof.Rows
section
variable {prog:Program}{w:World}{A:Around}{E:Value->Shared->Prop}{s:Shared}
theorem zI3 {t b:Addr}{vs ws:List Value}{Q:Value->Shared->Prop} (ht:IsTup s.heap t vs.toArray) (hb:IsTup s.heap b ws.toArray) (hv:vs≠[])
  (h1:ws=[]->Q (.ref t) s) (h2:ws≠[]->Q (.ref s.heap.objs.size) { s with heap:=s.heap.push { cls:=.type "tuple",data:=.seq (vs++ws).toArray } })
  (hsz:vs.length+ws.length <= sizeLine):wpAny (model prog w) A (binaryOp .Add (.ref t) (.ref b)) Q E s:=by
 obtain⟨⟨cls,dd,data,sl⟩,ho,hc,n,hd⟩:=id ht
 obtain⟨⟨cls2,dd2,data2,sl2⟩,ho2,hc2,n2,hd2⟩:=id hb
 simp only at hc hd hc2 hd2
 subst hc hd hc2 hd2
 have e:vs.toArray++ws.toArray=(vs++ws).toArray:=by simp
 by_cases hw:ws=[]
 ·exact concat_meets ⟨_,ho,rfl⟩ ⟨_,ho2,rfl⟩ noFill_tuple_add seq_tuple_add PySem.F.slot_tuple_add PySem.F.entry_tuple_add (PySem.F.args_tuple_add_2 _ _)
   (tuple_addW1 t b vs.toArray ws.toArray n n2 dd dd2 sl sl2 (by simpa using hv) (by simp[hw])) ⟨ho,ho2,h1 hw⟩
 ·refine concat_meets ⟨_,ho,rfl⟩ ⟨_,ho2,rfl⟩ noFill_tuple_add seq_tuple_add PySem.F.slot_tuple_add PySem.F.entry_tuple_add (PySem.F.args_tuple_add_2 _ _)
   (tuple_addW2 t b vs.toArray ws.toArray n n2 dd dd2 sl sl2 (by simpa using hv) (by simpa using hw) (by rw[List.size_toArray,List.size_toArray];exact hsz)) ⟨ho,ho2,?_⟩
  rw[e]
  exact h2 hw
noncomputable def sIx (n d:Nat):Option Int->Nat
 | none=>d
 | some v=>if v < 0 then (v+(n:Int)).toNat else min v.toNat n
theorem zCu (n d:Nat) (hd:d <= n) (o:Option Int):sIx n d o <= n:=by
 cases o with
 | none=>exact hd
 | some v =>
  show (if v < 0 then (v+(n:Int)).toNat else min v.toNat n) <= n
  by_cases hv:v < 0
  ·rw[if_pos hv];omega
  ·rw[if_neg hv];exact Nat.min_le_right _ _
theorem zA4 (v:Int) (n d:Nat):(if v < 0 then max (v+(n:Int)) 0 else min v (n:Int))=((sIx n d (some v):Nat):Int):=by
 show (if v < 0 then max (v+(n:Int)) 0 else min v (n:Int))=(((if v < 0 then (v+(n:Int)).toNat else min v.toNat n):Nat):Int)
 by_cases hv:v < 0
 ·simp only[if_pos hv];omega
 ·simp only[if_neg hv];omega
theorem zFA (lo hi:Option Int) (n:Nat):Builtin.Slice.sliceAdjust lo hi 1 (n:Int)=(((sIx n 0 lo:Nat):Int),((sIx n n hi:Nat):Int)):=by
 have h1:¬ ((1:Int) < 0):=by omega
 unfold Builtin.Slice.sliceAdjust
 simp only[h1,if_false]
 refine Prod.ext ?_ ?_
 ·cases lo with
  | none=>rfl
  | some v=>exact zA4 v n 0
 ·cases hi with
  | none=>rfl
  | some v=>exact zA4 v n n
theorem zEs (i j:Nat):Builtin.Slice.slicePlaces (i:Int) (j:Int) 1=j - i:=by
 unfold Builtin.Slice.slicePlaces
 have h1:(1:Int) > 0:=by omega
 simp only[h1,if_true,Int.ediv_one]
 split<;>omega
theorem zAY {v:Value}{o:Option Int}{Q:Option Int->Shared->Prop} (p:IsPart v o) (h:Q o s):wpAny (model prog w) A (Builtin.Slice.slicePartIndex v) Q E s:=by
 cases p with
 | none=>exact slicePart_none h
 | int i t=>exact slicePart_int h
theorem QJ {sl:Addr}{vl vu:Value}{lo hi:Option Int}{n:Nat}{Q:Int×Int×Nat->Shared->Prop} (hs:s.heap.IsSliceOf sl vl vu .none) (pl:IsPart vl lo) (pu:IsPart vu hi)
  (h:Q (((sIx n 0 lo:Nat):Int),1,sIx n n hi - sIx n 0 lo) s):wpAny (model prog w) A (Builtin.Slice.sliceApplied (.ref sl) (pure (n:Int))) Q E s:=by
 obtain⟨os,hos,hcs,hds⟩:=id hs
 unfold Builtin.Slice.sliceApplied Builtin.Slice.sliceFields
 refine wpAny_bind (wpAny_bind (wpAny_field hos hds (x:=vl) rfl (wpAny_bind (wpAny_field hos hds (x:=vu) rfl (wpAny_bind (wpAny_field hos hds (x:=.none) rfl (wpAny_pure ?_)))))))
 refine wpAny_bind (slicePart_none ?_)
 show wpAny _ _ (if ((1:Int) == 0)=true then _ else _) _ _ s
 rw[if_neg (by decide)]
 refine wpAny_bind (zAY pl (wpAny_bind (zAY pu (wpAny_bind (wpAny_pure ?_)))))
 show wpAny _ _ (match Builtin.Slice.sliceAdjust lo hi 1 (n:Int) with | (lo,hi)=>pure (lo,(1:Int),Builtin.Slice.slicePlaces lo hi 1)) _ _ s
 rw[zFA lo hi n]
 show wpAny _ _ (pure (((sIx n 0 lo:Nat):Int),(1:Int),Builtin.Slice.slicePlaces ((sIx n 0 lo:Nat):Int) ((sIx n n hi:Nat):Int) 1)) _ _ s
 rw[zEs]
 exact wpAny_pure h
theorem zHS (xs:Array Value) (i k:Nat):((List.range k).filterMap fun (m:Nat)=>xs[((i:Int)+(m:Int) * 1).toNat]?).toArray=((xs.toList.drop i).take k).toArray:=by
 have e:(fun (m:Nat)=>xs[((i:Int)+(m:Int) * 1).toNat]?)=fun m=>xs[i+m]? := by
  funext m
  have:((i:Int)+(m:Int) * 1).toNat=i+m:=by omega
  rw[this]
 rw[e]
 have:=pick_run xs i k
 rw[List.filterMap_map] at this
 have e2:((fun x=>xs[x]?) ∘ fun x=>i+x)=fun m=>xs[i+m]? := rfl
 rw[e2] at this
 rw[this]
theorem Jw {t sl:Addr}{items:Array Value}{vl vu:Value}{lo hi:Option Int}{Q:Value->Shared->Prop} (ht:IsTup s.heap t items) (hs:s.heap.IsSliceOf sl vl vu .none) (pl:IsPart vl lo) (pu:IsPart vu hi)
  (hw:¬ (sIx items.size 0 lo=0/\sIx items.size items.size hi=items.size))
  (h:Q (.ref s.heap.objs.size) { s with heap:=s.heap.push { cls:=.type "tuple",data:=.seq ((items.toList.drop (sIx items.size 0 lo)).take (sIx items.size items.size hi - sIx items.size 0 lo)).toArray } })
  (hsz:items.size <= sizeLine):wpAny (model prog w) A (getItem (.ref t) (.ref sl)) Q E s:=by
 have htake:sizeOk (.seq ((items.toList.drop (sIx items.size 0 lo)).take (sIx items.size items.size hi - sIx items.size 0 lo)).toArray):=by
  show ((items.toList.drop (sIx items.size 0 lo)).take (sIx items.size items.size hi - sIx items.size 0 lo)).toArray.size <= sizeLine
  rw[List.size_toArray,List.length_take,List.length_drop,Array.length_toList]
  omega
 have hj:sIx items.size items.size hi <= items.size:=zCu _ _ (Nat.le_refl _) hi
 obtain⟨os,hos,hcs,hds⟩:=id hs
 have hTs:s.TypeIs (.ref sl) "slice" := ⟨os,hos,hcs⟩
 unfold getItem
 try with_reducible refine wpAny_holding ?_
 first | refine wpAny_bind (wpAny_pure ?_) | skip
 refine wpAny_bind (wpAny_sequenceKey ht.typeIs (by decide) ?_)
 refine wpAny_bind (wpAny_callSpecial?_slot (name:=Str.ofString "__getitem__") ht.typeIs PyProof.Rows.slot_tuple_getitem
  (wpAny_call_entry PyProof.Rows.slot_tuple_getitem ht.typeIs entry_tuple_getitem ?_ (args_tuple_getitem _ _)))
 show wpAny _ _ (Builtin.Tuple.tupleItemsOf (.ref t) >>= _) _ _ s
 refine wpAny_bind (tupleItemsOf_ ht ?_)
 refine wpAny_bind (wpAny_typeOf hTs ?_)
 rw[if_pos (by decide)]
 refine wpAny_bind (QJ hs pl pu ?_)
 have hno:¬ ((((sIx items.size 0 lo:Nat):Int) == 0 && (1:Int) == 1 && (sIx items.size items.size hi - sIx items.size 0 lo) == items.size)=true):=by
  intro q
  rw[Bool.and_eq_true,Bool.and_eq_true] at q
  have q1:((sIx items.size 0 lo:Nat):Int)=0:=eq_of_beq q.1.1
  have q2:sIx items.size items.size hi - sIx items.size 0 lo=items.size:=eq_of_beq q.2
  exact hw ⟨by omega,by omega⟩
 show wpAny _ _ (if (((sIx items.size 0 lo:Nat):Int) == 0 && (1:Int) == 1 && (sIx items.size items.size hi - sIx items.size 0 lo) == items.size)=true then _ else _) _ _ s
 rw[if_neg hno,zHS]
 first
  | exact wpAny_bind (m:=Builtin.Tuple.tupleExact _) (wpAny_newObj_type (wpAny_pure ⟨_,rfl,wpAny_pure h⟩) htake)
  | exact wpAny_bind (m:=Builtin.Tuple.tupleExact _) (wpAny_newObj_type (wpAny_bind (wpAny_pure (wpAny_pure ⟨_,rfl,wpAny_pure h⟩))) htake)
  | exact wpAny_bind (wpAny_bind (m:=Builtin.Tuple.tupleExact _) (wpAny_newObj_type (wpAny_pure (wpAny_pure ⟨_,rfl,wpAny_pure h⟩)) htake))
  | exact wpAny_bind (wpAny_bind (m:=Builtin.Tuple.tupleExact _) (wpAny_newObj_type (wpAny_pure ⟨_,rfl,wpAny_pure h⟩) htake))
end
end HT
namespace L2
open PySem PySem.Spec PyProof.Rows
noncomputable abbrev TO:=St->Hp->(Option Int->Hp->Prop)->Prop
noncomputable def PO (X:Cx) (e:Option Expr) (t:TO):Prop :=
 ∀ (pins:List (Addr×Obj)) (s:Shared) (σ:St) (H:Hp) (Q:Option Int->Hp->Prop),Inv X pins σ H s->t σ H Q ->
  wpAny (model X.prog X.w) X.A (evalPart e X.env) (fun u s'=>∃ o H',Inv X pins σ H' s'/\IsPart u o/\Q o H') X.xe s
noncomputable def zIa:TO:=fun _ H Q=>Q none H
noncomputable def zKx (t:TE):TO:=fun σ H Q=>t σ H fun x H1=>∃ i,x=.int i/\Q (some i) H1
section
variable {X:Cx}{e:Expr}{te:TE}{lo hi:Option Expr}{tl th:TO}{pos p2:Pos}
theorem zH4:PO X none zIa:=by
 intro pins s σ H Q I h
 rw[evalPart_none]
 exact wpAny_pure ⟨none,H,I,.none,h⟩
theorem zIe (h:PE X e te):PO X (some e) (zKx te):=by
 intro pins s σ H Q I hw
 rw[evalPart_some]
 refine thn (h pins s σ H _ I hw) fun u s1 ⟨x,H1,I1,r1,q1⟩=>?_
 obtain⟨i,rfl,q⟩:=q1
 obtain⟨t,rfl⟩:=r1
 exact⟨some i,H1,I1,.int i t,q⟩
noncomputable def SlR (X:Cx) (r:V->Option Int->Option Int->Hp->VK->Prop):Prop :=
 ∀ (pins:List (Addr×Obj)) (s:Shared) (σ:St) (H:Hp) (x:V) (v vl vu:Value) (lo hi:Option Int) (sl:Addr) (Q:VK),Inv X pins σ H s->zY x v->s.heap.IsSliceOf sl vl vu .none->IsPart vl lo->IsPart vu hi->r x lo hi H Q ->
  ∃ T id,typeLookup (.type T) "__getitem__" = pure (some (.builtin id))/\s.TypeIs v T/\wpAny (model X.prog X.w) X.A (getItem v (.ref sl)) (EP X pins σ Q) X.xe s
theorem SlR.or {r r':V->Option Int->Option Int->Hp->VK->Prop} (h:SlR X r) (h':SlR X r'):SlR X (fun x lo hi H Q=>r x lo hi H Q\/r' x lo hi H Q):=by
 intro pins s σ H x v vl vu lo hi sl Q I rx hs pl pu q
 rcases q with q | q
 ·exact h pins s σ H x v vl vu lo hi sl Q I rx hs pl pu q
 ·exact h' pins s σ H x v vl vu lo hi sl Q I rx hs pl pu q
noncomputable def tSl (r:V->Option Int->Option Int->Hp->VK->Prop) (te:TE) (tl th:TO):TE:=fun σ H Q=>te σ H fun x H1=>tl σ H1 fun l H2=>th σ H2 fun u H3=>r x l u H3 Q
theorem zG5 {r:V->Option Int->Option Int->Hp->VK->Prop} (hr:SlR X r) (he:PE X e te) (hl:PO X lo tl) (hu:PO X hi th):PE X (.Subscript e (.Slice lo hi none p2) pos) (tSl r te tl th):=by
 intro pins s σ H Q I h
 refine Subscript_ (thn (he pins s σ H _ I h) fun v s1 ⟨x,H1,I1,r1,q1⟩=>?_)
 refine wpAny_Slice (thn (hl pins s1 σ H1 _ I1 q1) fun vl s2 ⟨l,H2,I2,pl,q2⟩=>thn (hu pins s2 σ H2 _ I2 q2) fun vu s3 ⟨u,H3,I3,pu,q3⟩=>?_)
 rw[evalPart_none]
 refine wpAny_pure ?_
 have I4:Inv X pins σ H3 { s3 with heap:=s3.heap.push { cls:=.type "slice",data:=.fields #[vl,vu,.none] } }:=I3.kept (t':=s3.toks) fun b ob q=>Heap.get?_push_of_some _ q
 obtain⟨T,id,hT,ht,hg⟩:=hr pins { s3 with heap:=s3.heap.push { cls:=.type "slice",data:=.fields #[vl,vu,.none] } } σ H3 x v vl vu l u s3.heap.objs.size Q I4 r1 (Heap.IsSliceOf.new ..) pl pu q3
 show wpAny (model X.prog X.w) X.A (subscriptTail e (.Slice lo hi none p2) v (.ref s3.heap.objs.size)) (EP X pins σ Q) X.xe { s3 with heap:=s3.heap.push { cls:=.type "slice",data:=.fields #[vl,vu,.none] } }
 exact tail_any (ops:=[.ref s3.heap.objs.size,v]) ht hT hg (by with_unfolding_all rfl)
noncomputable def Qc (xs:List V) (lo hi:Option Int):List V:=(xs.drop (HT.sIx xs.length 0 lo)).take (HT.sIx xs.length xs.length hi - HT.sIx xs.length 0 lo)
theorem Jz (xs:List V) (lo hi:Option Int):(Qc xs lo hi).length <= xs.length:=by
 unfold Qc
 rw[List.length_take,List.length_drop]
 omega
noncomputable def zME (K:PySem.W.Frag):V->Option Int->Option Int->Hp->VK->Prop:=fun x lo hi H Q=>∃ a xs,x=.ref a/\SqT K H a xs /\
 ¬ (HT.sIx xs.length 0 lo=0/\HT.sIx xs.length xs.length hi=xs.length)/\∀ p,H p=none->Q (.ref p) (upd H p (.tup (Qc xs lo hi)))
theorem zKo:SlR X (zME X.K):=by
 intro pins s σ H x v vl vu lo hi sl Q I rx hs pl pu h
 obtain⟨a,xs,rfl,hx,hw,q⟩:=h
 cases rx
 obtain⟨its,r,ht,hz⟩:=I.tuple hx
 have hlen:its.toArray.size=xs.length:=by rw[List.size_toArray];exact r.length.symm
 refine⟨"tuple",_,PyProof.Rows.slot_tuple_getitem.lookup,ht.typeIs,?_⟩
 refine HT.Jw ht hs pl pu (by rw[hlen];exact hw) ?_ (by rw[hlen];exact hz)
 rw[hlen]
 refine⟨.ref s.heap.objs.size,_,I.laid (t':=s.toks) (o:=.tup (Qc xs lo hi)) (fun b ob q=>Heap.get?_push_of_some _ q) (Nat.le_refl _) ?_,rfl,q _ (I.hok.fresh (Nat.le_refl _))⟩
 exact⟨Nat.le_trans (Jz xs lo hi) hz,_,(r.drop (HT.sIx xs.length 0 lo)).take (HT.sIx xs.length xs.length hi - HT.sIx xs.length 0 lo),IsTup.new _ _⟩
noncomputable def zEx (K:PySem.W.Frag):R2:=fun x y H Q=>∃ a b xs ys,x=.ref a/\y=.ref b/\SqT K H a xs/\SqT K H b ys/\xs≠[]/\xs.length+ys.length <= sizeLine /\
 (ys=[]->Q (.ref a) H)/\(ys≠[]->∀ p,H p=none->Q (.ref p) (upd H p (.tup (xs++ys))))
theorem zX.nil_iff {xs:List V}{us:List Value} (r:zX xs us):us=[]↔xs=[]:=by
 cases r with
 | nil=>simp
 | cons _ _=>simp
theorem jM:OpR X (binaryOp .Add) (zEx X.K):=by
 intro pins s σ H x y v u Q I rx ry h
 obtain⟨a,b,xs,ys,rfl,rfl,ha,hb,hx,hz,q1,q2⟩:=h
 cases rx
 cases ry
 obtain⟨its,r1,p1,_⟩:=I.tuple ha
 obtain⟨its2,r2,p2,_⟩:=I.tuple hb
 refine HT.zI3 p1 p2 (fun z=>hx (r1.nil_iff.mp z)) (fun z=>⟨.ref a,H,I,rfl,q1 (r2.nil_iff.mp z)⟩) (fun z=>?_) (by rw[<- r1.length,<- r2.length];exact hz)
 refine⟨.ref s.heap.objs.size,_,I.laid (t':=s.toks) (o:=.tup (xs++ys)) (fun b ob q=>Heap.get?_push_of_some _ q) (Nat.le_refl _) ?_,rfl,q2 (fun w=>z (r2.nil_iff.mpr w)) _ (I.hok.fresh (Nat.le_refl _))⟩
 exact⟨by rw[List.length_append];exact hz,_,r1.append r2,IsTup.new _ _⟩
end
end L2
namespace L2
open PySem PySem.Spec PyProof.Rows
noncomputable def ixN (n:Nat) (i:Int):Option Nat:=if 0 <= i then (if i < n then some i.toNat else none) else if -(n:Int) <= i then some (i+n).toNat else none
noncomputable def atI {α:Type} (xs:List α) (i:Int):Option α:=(ixN xs.length i).bind fun j=>xs[j]?
theorem zD6 {n:Nat}{i:Int}{j:Nat} (h:ixN n i=some j):seqIndex? i n=some j/\j < n /\ -(n:Int) <= i/\i < n:=by
 unfold ixN at h
 by_cases h0:0 <= i
 ·rw[if_pos h0] at h
  by_cases h1:i < n
  ·rw[if_pos h1] at h
   have e:i.toNat=j:=Option.some.inj h
   exact⟨by rw[seqIndex_of h0 h1,e],by omega,by omega,h1⟩
  ·rw[if_neg h1] at h;cases h
 ·rw[if_neg h0] at h
  by_cases h1:-(n:Int) <= i
  ·rw[if_pos h1] at h
   have e:(i+n).toNat=j:=Option.some.inj h
   exact⟨by rw[seqIndex_neg (by omega) h1,e],by omega,h1,by omega⟩
  ·rw[if_neg h1] at h;cases h
theorem zA7 {α:Type}{xs:List α}{i:Int}{v:α} (h:atI xs i=some v):∃ j,seqIndex? i xs.length=some j/\xs[j]? = some v/\j < xs.length /\ -(xs.length:Int) <= i/\i < xs.length:=by
 unfold atI at h
 cases e:ixN xs.length i with
 | none=>rw[e] at h;cases h
 | some j =>
  rw[e] at h
  obtain⟨h1,h2,h3,h4⟩:=zD6 e
  exact⟨j,h1,h,h2,h3,h4⟩
noncomputable def zEH (b:Expr):Prop:=∀ o i,subscripted b false o i=operate [o,i] (getItem o i)
noncomputable def IxR (X:Cx) (r:R2):Prop :=
 ∀ (value slice:Expr) (pins:List (Addr×Obj)) (s:Shared) (σ:St) (H:Hp) (x y:V) (v u:Value) (Q:VK),Inv X pins σ H s->zY x v->zY y u->r x y H Q ->
  subscripted slice false v u=operate [v,u] (getItem v u)->wpAny (model X.prog X.w) X.A (subscriptTail value slice v u) (EP X pins σ Q) X.xe s
noncomputable def MtR (X:Cx) (id:String) (r:V->List V->Hp->VK->Prop):Prop :=
 ∀ (pins:List (Addr×Obj)) (s:Shared) (σ:St) (H:Hp) (x:V) (xs:List V) (v:Value) (us:List Value) (Q:VK),Inv X pins σ H s->zY x v->zX xs us->r x xs H Q ->
  wpAny (model X.prog X.w) X.A (call (.builtin id) (v::us)) (EP X pins σ Q) X.xe s
section
variable {X:Cx}{a b:Expr}{ta tb:TE}{pos:Pos}
theorem IxR.or {r r':R2} (h:IxR X r) (h':IxR X r'):IxR X (fun x y H Q=>r x y H Q\/r' x y H Q):=by
 intro value slice pins s σ H x y v u Q I rx ry q hs
 rcases q with q | q
 ·exact h value slice pins s σ H x y v u Q I rx ry q hs
 ·exact h' value slice pins s σ H x y v u Q I rx ry q hs
theorem zLD {r:R2} (hr:IxR X r) (ha:PE X a ta) (hb:PE X b tb) (hs:zEH b):PE X (.Subscript a b pos) (tOp r ta tb):=by
 intro pins s σ H Q I h
 exact Subscript_ (zJb ha hb I h fun v u s2 x y H2 I2 rx ry q=>hr a b pins s2 σ H2 x y v u Q I2 rx ry q (hs _ _))
noncomputable def zLt (K:PySem.W.Frag):R2:=fun x y H Q=>∃ p xs i v,x=.ref p/\y=.int i/\SqL K H p xs/\atI xs i=some v/\Q v H
noncomputable def zL5 (K:PySem.W.Frag):R2:=fun x y H Q=>∃ p xs i v,x=.ref p/\y=.int i/\SqT K H p xs/\atI xs i=some v/\Q v H
noncomputable def zMO:R2:=fun x y H Q=>∃ z i c,x=.str z/\y=.int i/\z.length <= sizeLine/\atI z.cps.toList i=some c/\Q (.str ⟨#[c]⟩) H
theorem zIv:IxR X (zLt X.K):=by
 intro value slice pins s σ H x y v u Q I rx ry h hs
 obtain⟨p,xs,i,z,rfl,rfl,hq,he,q⟩:=h
 cases rx
 obtain⟨t,rfl⟩:=ry
 obtain⟨its,r,pl,hz⟩:=I.list hq
 obtain⟨j,h1,h2,h3,h4,h5⟩:=zA7 he
 obtain⟨w,ew,rw'⟩:=r.get h2
 have hl:=r.length
 have hn:=QM
 have fin:EP X pins σ Q w s:=⟨z,H,I,rw',q⟩
 by_cases h0:0 <= i
 ·have hj:i.toNat=j:=by
   rw[seqIndex_of h0 h5] at h1
   exact Option.some.inj h1
  exact item_listR pl.isList h0 (by omega) (by rw[hj];simpa using ew) fin hs
 ·have hj:(i+(its.toArray.size:Int)).toNat=j:=by
   rw[seqIndex_neg (by omega) h4] at h1
   rw[List.size_toArray,<- hl]
   exact Option.some.inj h1
  exact subscriptTail_builtinR (x:=w) pl.isList.typeIs slot_list_getitem.lookup
   (wpAny_getItem_list_neg (Q:=fun r s'=>r=w/\EP X pins σ Q r s') pl.isList (by omega) (by rw[List.size_toArray]<;>omega) (by omega) (by rw[hj];simpa using ew) ⟨rfl,fin⟩) hs
theorem zJi:IxR X (zL5 X.K):=by
 intro value slice pins s σ H x y v u Q I rx ry h hs
 obtain⟨p,xs,i,z,rfl,rfl,hq,he,q⟩:=h
 cases rx
 obtain⟨t,rfl⟩:=ry
 obtain⟨its,r,pl,hz⟩:=I.tuple hq
 obtain⟨j,h1,h2,h3,h4,h5⟩:=zA7 he
 obtain⟨w,ew,rw'⟩:=r.get h2
 have hl:=r.length
 have hn:=QM
 have fin:EP X pins σ Q w s:=⟨z,H,I,rw',q⟩
 exact subscriptTail_builtinR (x:=w) pl.typeIs slot_tuple_getitem.lookup
  (getItem_tuple (j:=j) (Q:=fun r s'=>r=w/\EP X pins σ Q r s') pl (by omega) (by omega) (by rw[List.size_toArray,<- hl];exact h1) (by simpa using ew) ⟨rfl,fin⟩) hs
theorem zJ6:IxR X zMO:=by
 intro value slice pins s σ H x y v u Q I rx ry h hs
 obtain⟨z,i,c,rfl,rfl,hz,he,q⟩:=h
 obtain⟨t,rfl⟩:=rx
 obtain⟨t',rfl⟩:=ry
 obtain⟨j,h1,h2,h3,h4,h5⟩:=zA7 he
 have hl:z.cps.toList.length=z.length:=by simp[Str.length]
 rw[hl] at h1 h4 h5
 have hn:=QM
 exact tail_any (typeIs_str s z t) slot_str_getitem.lookup (getItem_str (c:=c) (by
  have e1:decide (i < -(2 ^ 63:Int))=false:=decide_eq_false (by omega)
  have e2:decide (i ≥ 2 ^ 63)=false:=decide_eq_false (by omega)
  rw[e1,e2,Bool.or_false]) (by rw[h1];simpa using h2) ⟨.str ⟨#[c]⟩,H,I.tok _,⟨_,rfl⟩,q⟩) hs
theorem zEj (its:List Value) (n j:Nat) (u:Value):Obj.mapSeq (·.setIfInBounds j u) { cls:=.type "list",data:=.seq its.toArray n }={ cls:=.type "list",data:=.seq (its.set j u).toArray n }:=by
 simp[Obj.mapSeq]
theorem Inv.lst {pins:List (Addr×Obj)}{σ:St}{H:Hp}{s:Shared}{p:Addr}{xs:List V} (I:Inv X pins σ H s) (h:H p=some (.lst xs)) :
  ∃ (its:List Value) (n:Nat),zX xs its/\s.heap.get? p=some { cls:=.type "list",data:=.seq its.toArray n }/\xs.length <= sizeLine:=by
 obtain⟨z,its,n,r,e⟩:=I.hok p _ h
 exact⟨its,n,r,e,z⟩
theorem Inv.lstUpd {pins:List (Addr×Obj)}{σ:St}{H:Hp}{s:Shared}{p:Addr}{xs ys:List V}{its its':List Value}{n n':Nat}{f:Obj->Obj} (I:Inv X pins σ H s) (h:H p=some (.lst xs))
  (ho:s.heap.get? p=some { cls:=.type "list",data:=.seq its.toArray n }) (hf:f { cls:=.type "list",data:=.seq its.toArray n }={ cls:=.type "list",data:=.seq its'.toArray n' }) (r:zX ys its') (hz:ys.length <= sizeLine) (t:Nat) (ht:0 < t:=by first | exact Nat.succ_pos _ | assumption | exact Inv.tk (by assumption) | omega) :
  Inv X pins σ (upd H p (.lst ys)) { s with heap:=s.heap.update p f,toks:=t }:=by
 have e:(s.heap.update p f).get? p=some { cls:=.type "list",data:=.seq its'.toArray n' }:=by
  rw[Heap.get?_update_self f ho (by rw[hf]<;>rfl),hf]
 refine I.write (x:=p) (e:=p) (by rw[h];trivial) (.inl rfl) (fun b u hb q=>(Heap.get?_update_other _ _ (Ne.symm hb)).trans q) ⟨_,e⟩ ?_
 exact⟨hz,its',n',r,e⟩
noncomputable def zLN:V->V->V->Hp->(Hp->Prop)->Prop:=fun o i v H Q=>∃ p xs k j,o=.ref p/\i=.int k/\H p=some (.lst xs)/\ixN xs.length k=some j/\Q (upd H p (.lst (xs.set j v)))
theorem zGe:zKE X zLN:=by
 intro pins s σ H o i v ov iv u Q I ro ri rv h
 obtain⟨p,xs,k,j,rfl,rfl,hp,hj,q⟩:=h
 cases ro
 obtain⟨t,rfl⟩:=ri
 obtain⟨its,n,r,ho,hz⟩:=I.lst hp
 obtain⟨h1,h2,h3,h4⟩:=zD6 hj
 have hl:=r.length
 have hn:=QM
 have I':Inv X pins σ (upd H p (.lst (xs.set j v))) { s with heap:=s.heap.update p (Obj.mapSeq (·.setIfInBounds j u)) } :=
  I.lstUpd hp ho (zEj its n j u) (r.set rv j) (by rw[List.length_set];exact hz) s.toks
 by_cases h0:0 <= k
 ·have hk:k.toNat=j:=by
   rw[seqIndex_of h0 h4] at h1
   exact Option.some.inj h1
  exact PySem.W.ki_setAt ho h0 (by omega) (by rw[List.size_toArray,<- hl];exact h4) (by rw[hk];exact⟨_,I',q⟩)
 ·have hk:(k+(its.toArray.size:Int)).toNat=j:=by
   rw[seqIndex_neg (by omega) h3] at h1
   rw[List.size_toArray,<- hl]
   exact Option.some.inj h1
  exact PySem.W.ki_setBack ho (by omega) (by rw[List.size_toArray,<- hl];exact h3) (by omega) (by rw[hk];exact⟨_,I',q⟩)
theorem zC6 (lo hi:Option Int) (n:Nat):(sliceBounds lo hi none n).1=((HT.sIx n 0 lo:Nat):Int)/\(sliceBounds lo hi none n).2.1=((HT.sIx n n hi:Nat):Int)/\(sliceBounds lo hi none n).2.2=1:=by
 refine⟨?_,?_,rfl⟩
 ·cases lo with
  | none=>simp[sliceBounds,HT.sIx]
  | some i =>
   simp only[sliceBounds,HT.sIx,Option.getD_none,show (1:Int) > 0 by decide,if_true]
   by_cases h:i < 0
   ·simp only[h,if_true]<;>omega
   ·simp only[h,if_false]<;>omega
 ·cases hi with
  | none=>simp[sliceBounds,HT.sIx]
  | some i =>
   simp only[sliceBounds,HT.sIx,Option.getD_none,show (1:Int) > 0 by decide,if_true]
   by_cases h:i < 0
   ·simp only[h,if_true]<;>omega
   ·simp only[h,if_false]<;>omega
theorem zCK (its:List Value) (lo hi:Option Int):slicePick its.toArray lo hi none=((its.drop (HT.sIx its.length 0 lo)).take (HT.sIx its.length its.length hi - HT.sIx its.length 0 lo)).toArray:=by
 obtain⟨h1,h2,h3⟩:=zC6 lo hi its.toArray.size
 unfold slicePick
 rw[h1,h2,h3]
 simp only[sliceRange_one,pick_run,List.size_toArray]<;>rfl
noncomputable def zMM (K:PySem.W.Frag):V->Option Int->Option Int->Hp->VK->Prop:=fun x lo hi H Q=>∃ a xs,x=.ref a/\SqL K H a xs/\∀ p,H p=none->Q (.ref p) (upd H p (.lst (Qc xs lo hi)))
theorem zIG:SlR X (zMM X.K):=by
 intro pins s σ H x v vl vu lo hi sl Q I rx hs pl pu h
 obtain⟨a,xs,rfl,hx,q⟩:=h
 cases rx
 obtain⟨its,r,ht,hz⟩:=I.list hx
 have hlen:=r.length
 refine⟨"list",_,slot_list_getitem.lookup,ht.isList.typeIs,?_⟩
 refine wpAny_getItem_list_slice ht.isList hs pl pu .none (by simp) ?_ (by rw[List.size_toArray]<;>omega)
 rw[zCK,<- hlen]
 refine⟨.ref s.heap.objs.size,_,I.laid (t':=s.toks) (o:=.lst (Qc xs lo hi)) (fun b ob q=>Heap.get?_push_of_some _ q) (Nat.le_refl _) ?_,rfl,q _ (I.hok.fresh (Nat.le_refl _))⟩
 exact⟨Nat.le_trans (Jz xs lo hi) hz,_,0,(r.drop (HT.sIx xs.length 0 lo)).take (HT.sIx xs.length xs.length hi - HT.sIx xs.length 0 lo),Heap.get?_push_size _ rfl⟩
noncomputable def qp:V->Bool
 | .non=>true
 | .bl _=>true
 | .int _=>true
 | .str _=>true
 | _=>false
noncomputable def eqV:V->V->Bool
 | .non,.non=>true
 | .bl a,.bl b=>a == b
 | .bl a,.int b=>(if a then 1 else 0) == b
 | .int a,.bl b=>a == (if b then 1 else 0)
 | .int a,.int b=>a == b
 | .str a,.str b=>a == b
 | _,_=>false
theorem zKS {A:Around}{s:Shared}{y x:V}{u v:Value} (ry:zY y u) (rx:zY x v) (fy:qp y=true) (fx:qp x=true):SeqAt.EqAt A s u v (eqV y x):=by
 cases y with
 | non =>
  cases ry
  cases x with
  | non=>cases rx;exact SeqAt.EqAt.same _
  | bl b=>cases rx;exact SeqAt.EqAt.none_bool b
  | int b=>obtain⟨t,rfl⟩:=rx;exact SeqAt.EqAt.none_int b t
  | str b=>obtain⟨t,rfl⟩:=rx;exact SeqAt.EqAt.none_str b t
  | _=>exact absurd (show false=true from fx) Bool.false_ne_true
 | bl a =>
  cases ry
  cases x with
  | non=>cases rx;exact SeqAt.EqAt.bool_none a
  | bl b=>cases rx;exact SeqAt.EqAt.bool_bool a b
  | int b=>obtain⟨t,rfl⟩:=rx;exact SeqAt.EqAt.bool_int a b t
  | str b=>obtain⟨t,rfl⟩:=rx;exact SeqAt.EqAt.bool_str a b t
  | _=>exact absurd (show false=true from fx) Bool.false_ne_true
 | int a =>
  obtain⟨t',rfl⟩:=ry
  cases x with
  | non=>cases rx;exact SeqAt.EqAt.int_none a t'
  | bl b=>cases rx;exact SeqAt.EqAt.int_bool a t' b
  | int b=>obtain⟨t,rfl⟩:=rx;exact SeqAt.EqAt.int_int a t' b t
  | str b=>obtain⟨t,rfl⟩:=rx;exact SeqAt.EqAt.int_str a t' b t
  | _=>exact absurd (show false=true from fx) Bool.false_ne_true
 | str a =>
  obtain⟨t',rfl⟩:=ry
  cases x with
  | non=>cases rx;exact SeqAt.EqAt.str_none a t'
  | bl b=>cases rx;exact SeqAt.EqAt.str_bool a t' b
  | int b=>obtain⟨t,rfl⟩:=rx;exact SeqAt.EqAt.str_int a t' b t
  | str b=>obtain⟨t,rfl⟩:=rx;exact SeqAt.EqAt.str_str a t' b t
  | _=>exact absurd (show false=true from fx) Bool.false_ne_true
 | _=>exact absurd (show false=true from fy) Bool.false_ne_true
noncomputable def eqU (x:V) (u:Value):Bool:=match u with
 | .none=>eqV .non x
 | .bool b=>eqV (.bl b) x
 | .int i _=>eqV (.int i) x
 | .str z _=>eqV (.str z) x
 | _=>false
theorem zGF {x y:V}{u:Value} (r:zY y u) (f:qp y=true):eqU x u=eqV y x:=by
 cases y with
 | non=>cases r;rfl
 | bl b=>cases r;rfl
 | int i=>obtain⟨t,rfl⟩:=r;rfl
 | str z=>obtain⟨t,rfl⟩:=r;rfl
 | _=>exact absurd (show false=true from f) Bool.false_ne_true
theorem zBI {x:V}:∀ {xs:List V}{us:List Value},zX xs us->xs.all qp=true->us.any (eqU x)=xs.any fun y=>eqV y x
 | _,_,.nil,_=>rfl
 | y::xs,u::us,.cons r t,f=>by
  rw[List.all_cons,Bool.and_eq_true] at f
  rw[List.any_cons,List.any_cons,zGF r f.1,zBI t f.2]
theorem zAM {A:Around}{s:Shared}{x:V}{v:Value} (rx:zY x v) (fx:qp x=true):∀ {xs:List V}{us:List Value},zX xs us->xs.all qp=true->∀ u∈us,SeqAt.EqAt A s u v (eqU x u)
 | _,_,.nil,_=>fun u hu=>by cases hu
 | y::xs,u::us,.cons r t,f=>fun u' hu=>by
  rw[List.all_cons,Bool.and_eq_true] at f
  rcases List.mem_cons.mp hu with rfl | hu
  ·rw[zGF r f.1];exact zKS r rx f.1 fx
  ·exact zAM rx fx t f.2 u' hu
noncomputable def inV (x:V) (xs:List V):Bool:=xs.any fun y=>eqV y x
noncomputable def rIn (K:PySem.W.Frag) (neg:Bool):R2:=fun x y H Q=>∃ p xs,y=.ref p/\(SqL K H p xs\/SqT K H p xs)/\qp x=true/\xs.all qp=true/\Q (.bl (if neg then !inV x xs else inV x xs)) H
theorem zCe:OpR X (compareOp .NotIn) (rIn X.K true):=by
 intro pins s σ H x y v u Q I rx ry h
 obtain⟨p,xs,rfl,hq,fx,fs,q⟩:=h
 cases ry
 rcases hq with hq | hq
 ·obtain⟨its,r,pl,hz⟩:=I.list hq
  refine SeqAt.notIn_listAt (eqU x) pl.isList (fun w hw=>zAM rx fx r fs w (by simpa using hw)) ⟨.bl _,H,I,rfl,?_⟩
  rw[show its.toArray.any (eqU x)=its.any (eqU x) by simp,zBI r fs]
  exact q
 ·obtain⟨its,r,pl,hz⟩:=I.tuple hq
  refine SeqAt.notIn_tupleAt (eqU x) pl (fun w hw=>zAM rx fx r fs w (by simpa using hw)) ⟨.bl _,H,I,rfl,?_⟩
  rw[show its.toArray.any (eqU x)=its.any (eqU x) by simp,zBI r fs]
  exact q
theorem zC4:jU X (.builtin "len") (fun xs H Q=>∃ p ys,xs=[.ref p]/\(SqL X.K H p ys\/SqT X.K H p ys)/\Q (.int ys.length) H):=by
 intro pins s σ H xs us Q I r h
 obtain⟨p,ys,rfl,hq,q⟩:=h
 obtain⟨u,rfl,rx⟩:=Zm r
 cases rx
 have hn:=QM
 rcases hq with hq | hq
 ·obtain⟨its,r',pl,hz⟩:=I.list hq
  have hlen:=r'.length
  exact Calls.call_len_list pl.isList (by simp only[List.size_toArray]<;>omega) ⟨.int ys.length,H,I.tok _,⟨s.toks+1,by rw[List.size_toArray,hlen]⟩,q⟩
 ·obtain⟨its,r',pl,hz⟩:=I.tuple hq
  have hlen:=r'.length
  exact len_tuple pl (by simp only[List.size_toArray]<;>omega) ⟨.int ys.length,H,I.tok _,⟨s.toks+1,by rw[List.size_toArray,hlen]⟩,q⟩
theorem zDA:jU X (.builtin "len") (fun xs H Q=>∃ z,xs=[.str z]/\z.length <= sizeLine/\Q (.int z.length) H):=by
 intro pins s σ H xs us Q I r h
 obtain⟨z,rfl,hz,q⟩:=h
 obtain⟨u,rfl,t,rfl⟩:=Zm r
 have hn:=QM
 exact len_str (by omega) ⟨.int z.length,H,I.tok _,⟨_,rfl⟩,q⟩
theorem jU.or {f:Value}{r r':List V->Hp->VK->Prop} (h:jU X f r) (h':jU X f r'):jU X f (fun xs H Q=>r xs H Q\/r' xs H Q):=by
 intro pins s σ H xs us Q I rs q
 rcases q with q | q
 ·exact h pins s σ H xs us Q I rs q
 ·exact h' pins s σ H xs us Q I rs q
theorem zCo:jU X (.type "list") (fun xs H Q=>∃ p ys,xs=[.ref p]/\(SqL X.K H p ys\/SqT X.K H p ys)/\∀ l,H l=none->Q (.ref l) (upd H l (.lst ys))):=by
 intro pins s σ H xs us Q I r h
 obtain⟨p,ys,rfl,hq,q⟩:=h
 obtain⟨u,rfl,rx⟩:=Zm r
 cases rx
 have fin:∀ (its:List Value),zX ys its->ys.length <= sizeLine->∀ (h':Heap) (c':Nat),(∀ b o',s.heap.get? b=some o'->h'.get? b=some o') ->
   h'.get? s.heap.objs.size=some { cls:=.type "list",dict:=none,data:=.seq its.toArray c',slots:=#[] }->EP X pins σ Q (.ref s.heap.objs.size) { s with heap:=h' }:=fun its r' hz h' c' kp e =>
  ⟨.ref s.heap.objs.size,_,I.laid (t':=s.toks) kp (Nat.le_refl _) (show jH X.prog X.w _ h' _ (.lst ys) from ⟨hz,its,c',r',e⟩),rfl,q _ (I.hok.fresh (Nat.le_refl _))⟩
 rcases hq with hq | hq
 ·obtain⟨its,r',pl,hz⟩:=I.list hq
  have hlen:=r'.length
  obtain⟨o,ho,hc,n,hd⟩:=pl.isList
  exact call_list_seq p (.inl rfl) ho hc hd (fun h' c' kp e=>fin its r' hz h' c' kp e) (by simp only[List.size_toArray]<;>omega)
 ·obtain⟨its,r',pl,hz⟩:=I.tuple hq
  have hlen:=r'.length
  obtain⟨o,ho,hc,n,hd⟩:=pl
  exact call_list_seq p (.inr rfl) ho hc hd (fun h' c' kp e=>fin its r' hz h' c' kp e) (by simp only[List.size_toArray]<;>omega)
theorem zCE:jU X (.type "tuple") (fun xs H Q=>∃ p ys,xs=[.ref p]/\((SqL X.K H p ys/\∀ l,H l=none->Q (.ref l) (upd H l (.tup ys)))\/(SqT X.K H p ys/\Q (.ref p) H))):=by
 intro pins s σ H xs us Q I r h
 obtain⟨p,ys,rfl,h⟩:=h
 obtain⟨u,rfl,rx⟩:=Zm r
 cases rx
 rcases h with ⟨hq,q⟩ | ⟨hq,q⟩
 ·obtain⟨its,r',pl,hz⟩:=I.list hq
  have hlen:=r'.length
  refine call_tuple_list pl.isList (fun h' kp=>?_) (by simp only[List.size_toArray]<;>omega)
  have I1:Inv X pins σ H { s with heap:=h' }:=I.kept (t':=s.toks) kp
  have I2:Inv X pins σ (upd H h'.objs.size (.tup ys)) { s with heap:=h'.push { cls:=.type "tuple",data:=.seq its.toArray } } :=
   I1.laid (t':=s.toks) (fun b o e=>Heap.get?_push_of_some _ e) (Nat.le_refl _) (show jH X.prog X.w _ _ _ (.tup ys) from ⟨hz,its,r',IsTup.new _ _⟩)
  exact⟨.ref h'.objs.size,_,I2,rfl,q _ (I1.hok.fresh (Nat.le_refl _))⟩
 ·obtain⟨its,r',pl,hz⟩:=I.tuple hq
  exact call_tuple_same pl ⟨.ref p,H,I,rfl,q⟩
noncomputable def tyV (K:PySem.W.Frag) (T:String) (x:V) (H:Hp):Prop:=match x with
 | .str _=>T = "str"
 | .int _=>T = "int"
 | .ref p=>(T = "list" /\ ∃ xs,SqL K H p xs)\/(T = "tuple" /\ ∃ o,K.lookup p=some o/\o.cls=.type "tuple" /\ o.dict=none) \/
   (T = "dict" /\ ((∃ kvs,H p=some (.dK kvs))\/(∃ kvs,H p=some (.dT kvs))\/∃ φ:Heap->Prop,H p=some (.ext φ)/\∀ h,φ h->∃ o,h.get? p=some o/\o.ExactDict))\/(T = "set" /\ ∃ S n,H p=some (.set S n))
 | _=>False
theorem zGK {pins:List (Addr×Obj)}{σ:St}{H:Hp}{s:Shared}{T:String}{x:V}{v:Value} (I:Inv X pins σ H s) (r:zY x v) (ty:tyV X.K T x H) :
  s.TypeIs v T/\∀ a,v=.ref a->∃ ob,s.heap.get? a=some ob/\ob.dict=none:=by
 cases x with
 | str z =>
  obtain⟨t,rfl⟩:=r
  cases (show T = "str" from ty)
  exact⟨typeIs_str s z t,fun _ e=>nomatch e⟩
 | int i =>
  obtain⟨t,rfl⟩:=r
  cases (show T = "int" from ty)
  exact⟨typeIs_int s i t,fun _ e=>nomatch e⟩
 | ref p =>
  cases r
  rcases ty with ⟨rfl,xs,hq⟩ | ⟨rfl,o,hk,hc,hd⟩ | ⟨rfl,hk⟩ | ⟨rfl,S,n,hk⟩
  ·obtain⟨its,_,pl,_⟩:=I.list hq
   refine⟨pl.isList.typeIs,fun a e=>?_⟩
   cases e
   obtain⟨o,n,e,c,hd,_⟩:=pl
   exact⟨o,e,hd⟩
  ·refine⟨⟨o,I.kIn p o hk,hc⟩,fun a e=>?_⟩
   cases e
   exact⟨o,I.kIn _ o hk,hd⟩
  ·have z:∃ o,s.heap.get? p=some o/\o.ExactDict:=by
    rcases hk with ⟨kvs,hk⟩ | ⟨kvs,hk⟩ | ⟨φ,hk,hz⟩
    ·obtain⟨_,_,_,_,o,_,_,e,ex,_⟩:=I.hok p _ hk
     exact⟨o,e,ex⟩
    ·obtain⟨_,_,_,_,o,_,_,e,ex,_⟩:=I.hok p _ hk
     exact⟨o,e,ex⟩
    ·exact hz _ (I.hok p _ hk).1
   obtain⟨o,e,ex⟩:=z
   refine⟨⟨o,e,ex.1⟩,fun a e2=>?_⟩
   cases e2
   exact⟨o,e,ex.2.1⟩
  ·obtain⟨o,_,_,_,e,ex,_⟩:=I.hok p _ hk
   refine⟨⟨o,e,ex.1⟩,fun a e2=>?_⟩
   cases e2
   exact⟨o,e,ex.2.1⟩
 | _=>exact False.elim ty
noncomputable def tBM (K:PySem.W.Frag) (T:String) (r:V->List V->Hp->VK->Prop) (to:TE) (t:TA):TE:=fun σ H Q=>to σ H fun x H1=>tyV K T x H1/\t σ H1 fun xs H2=>r x xs H2 Q
variable {o e:Expr}{es:List Expr}{to:TE}{t:TA}{name:Str}{apos cpos:Pos}{T id:String}{r:V->List V->Hp->VK->Prop}
theorem zHn (pa:PlainAttrs T) (slot:Slot T name id) (hty:typeOf (.builtin id)=pure (.type "method_descriptor")) (hm:MtR X id r) (ho:PE X o to) (ha:PA X (e::es) t)
  (hbase:attributeBase o name X.env (eval o X.env)=eval o X.env:=by rfl)
  (hfew:((backTo cpos (starEach (e::es) X.env)).all (fun x=>!x.1) && (backToKw cpos (keywordEach [] X.env)).all (fun x=>x.1.isSome)
   && decide ((e::es).length+([]:List Keyword).length+(if ([]:List Keyword).isEmpty then 0 else 1) < 30))=true:=by rfl)
  (hline:(apos.endLine == cpos.line)=true:=by rfl) (hs:starEach (e::es) X.env=(false,eval e X.env)::starEach es X.env:=by rfl) (hplain:(backTo cpos (starEach es X.env)).any (·.1)=false:=by rfl) :
  PE X (.Call (.Attribute o name apos) (e::es) [] cpos) (tBM X.K T r to t):=by
 intro pins s σ H Q I h
 refine wpAny_Call_method_late hbase hfew hline rfl (thn (ho pins s σ H _ I h) fun v s1 ⟨x,H1,I1,r1,ty,q1⟩=>?_)
 obtain⟨h1,h2⟩:=zGK I1 r1 ty
 refine⟨T,id,pa,slot,hty,h1,h2,?_⟩
 have hA:=ha cpos pins s1 σ H1 _ I1 q1
 rw[hs] at hA ⊢
 refine Calls.callWith_builtin (by show (false || (backTo cpos (starEach es X.env)).any (·.1))=false;rw[hplain]<;>rfl) (Calls.evalArgs_plain ?_)
 exact thn hA fun us s2 ⟨vs,H2,I2,r2,q2⟩=>hm pins s2 σ H2 x vs v us Q I2 r1 r2 q2
end
end L2
namespace L2
open PySem PySem.Spec PyProof.Rows
noncomputable def MtM (X:Cx) (id:String) (r:V->List V->Hp->VK->Prop):Prop :=
 ∀ (pins:List (Addr×Obj)) (s:Shared) (σ:St) (H:Hp) (x:V) (xs:List V) (v:Value) (us:List Value) (Q:VK),Inv X pins σ H s->zY x v->zX xs us->r x xs H Q ->
  wpAny (model X.prog X.w) X.A (call (.builtin id) (v::us)) (EP X pins σ Q) X.xe s
theorem zX.one:∀ {x:V}{us:List Value},zX [x] us->∃ u,us=[u]/\zY x u
 | _,_,.cons r .nil=>⟨_,rfl,r⟩
theorem zX.rep {xs:List V}{us:List Value} (h:zX xs us):∀ k:Nat,zX (List.replicate k xs).flatten (List.replicate k us).flatten
 | 0=>.nil
 | k+1=>by
  rw[List.replicate_succ,List.replicate_succ,List.flatten_cons,List.flatten_cons]
  exact zX.append h (zX.rep h k)
theorem zBv (its:List Value):∀ (k:Nat) (acc:List Value),
  List.foldl (fun x1 x2=>x1++x2) acc.toArray (List.replicate k its.toArray)=(acc++(List.replicate k its).flatten).toArray
 | 0,acc=>by simp
 | k+1,acc=>by
  have e:acc.toArray++its.toArray=(acc++its).toArray:=by simp
  have e2:(acc++its)++(List.replicate k its).flatten=acc++(List.replicate (k+1) its).flatten:=by
   rw[List.replicate_succ,List.flatten_cons,List.append_assoc]
  rw[<- e2,<- zBv its k (acc++its),<- e,List.replicate_succ,List.foldl_cons]
section
variable {X:Cx}{pins:List (Addr×Obj)}{σ:St}{H:Hp}{s:Shared}{l b:Addr}{xs ys zs:List V}
theorem Inv.lset {its its':List Value}{n:Nat}{f:Array Value->Array Value}{t':Nat} (I:Inv X pins σ H s) (hH:H l=some (.lst xs))
  (e:s.heap.get? l=some { cls:=.type "list",data:=.seq its.toArray n }) (hf:f its.toArray=its'.toArray) (hv:zX ys its') (hz:ys.length <= sizeLine) (ht:0 < t':=by first | exact Nat.succ_pos _ | assumption | exact Inv.tk (by assumption) | omega) :
  Inv X pins σ (upd H l (.lst ys)) { s with heap:=s.heap.update l (Obj.mapSeq f),toks:=t' }:=by
 have q:=PySem.IsL.update e f
 rw[hf] at q
 refine I.write (x:=l) (e:=l) (by rw[hH];exact trivial) (.inl rfl) (fun b' u hb hu=>(Heap.get?_update_other s.heap (Obj.mapSeq f) (Ne.symm hb)).trans hu) ⟨_,q⟩ ?_
 exact⟨hz,its',_,hv,q⟩
theorem Inv.lnew {its:List Value}{t':Nat} (I:Inv X pins σ H s) (hv:zX ys its) (hz:ys.length <= sizeLine) (ht:0 < t':=by first | exact Nat.succ_pos _ | assumption | exact Inv.tk (by assumption) | omega) :
  Inv X pins σ (upd H s.heap.objs.size (.lst ys)) { s with heap:=s.heap.push { cls:=.type "list",data:=.seq its.toArray },toks:=t' } :=
 I.laid (fun _ _ q=>Heap.get?_push_of_some _ q) (Nat.le_refl _) ⟨hz,its,0,hv,Heap.get?_push_size _ rfl⟩
theorem Inv.fresh (I:Inv X pins σ H s):H s.heap.objs.size=none:=I.hok.fresh (Nat.le_refl _)
theorem Inv.lstM (I:Inv X pins σ H s) (hH:H l=some (.lst xs)):xs.length <= sizeLine/\∃ (its:List Value) (n:Nat),zX xs its/\xs.length=its.length/\s.heap.get? l=some { cls:=.type "list",data:=.seq its.toArray n }:=by
 obtain⟨z,its,n,r,e⟩:=I.hok l _ hH
 exact⟨z,its,n,r,r.length,e⟩
theorem zHM {n:Nat} (h:n <= sizeLine):Builtin.List.listTooLong n=false:=by
 unfold Builtin.List.listTooLong
 exact decide_eq_false (by omega)
end
section
variable {X:Cx}
noncomputable def zEJ:V->List V->Hp->VK->Prop:=fun x vs H Q=>∃ l xs y,x=.ref l/\vs=[y]/\H l=some (.lst xs)/\xs.length < sizeLine/\Q .non (upd H l (.lst (xs++[y])))
theorem JR:MtM X "list.append" zEJ:=by
 intro pins s σ H x vs v us Q I rx rv h
 obtain⟨l,xs,y,rfl,rfl,hH,hz,q⟩:=h
 cases rx
 obtain⟨u,rfl,ru⟩:=rv.one
 obtain⟨z,its,n,r,hl,e⟩:=I.lstM hH
 refine call_meets F.slot_list_append ⟨_,e,rfl⟩ F.entry_list_append (F.args_list_append_2 _ _) (PySem.list_append l its.toArray n u (by rw[List.size_toArray];omega)) ⟨e,?_⟩
 refine⟨.non,_,I.lset (its':=its++[u]) hH e (by simp) (r.append (.cons ru .nil)) ?_,rfl,q⟩
 rw[List.length_append,List.length_singleton]
 omega
noncomputable def zMD:R2:=fun x y H Q=>∃ l b xs zs,x=.ref l/\y=.ref b/\H l=some (.lst xs)/\H b=some (.lst zs)/\xs.length+zs.length <= sizeLine/\∀ p,H p=none->Q (.ref p) (upd H p (.lst (xs++zs)))
theorem zKZ:OpR X (binaryOp .Add) zMD:=by
 intro pins s σ H x y v u Q I rx ry h
 obtain⟨l,b,xs,zs,rfl,rfl,hH,hB,hz,q⟩:=h
 cases rx
 cases ry
 obtain⟨z,its,n,r,hl,e⟩:=I.lstM hH
 obtain⟨z2,its2,n2,r2,hl2,e2⟩:=I.lstM hB
 refine PySem.P.add_list e e2 ?_ (by rw[List.size_toArray,List.size_toArray];omega)
 have ea:its.toArray++its2.toArray=(its++its2).toArray:=by simp
 rw[ea]
 exact⟨.ref _,_,I.lnew (t':=s.toks) (r.append r2) (by rw[List.length_append];omega),rfl,q _ I.fresh⟩
noncomputable def zJJ:R2:=fun x y H Q=>∃ l k xs,x=.ref l/\y=.int k/\H l=some (.lst xs) /\ -(2 ^ 63) <= k/\k < 2 ^ 63/\xs.length * k.toNat <= sizeLine /\
 ∀ p,H p=none->Q (.ref p) (upd H p (.lst (List.replicate k.toNat xs).flatten))
theorem zIg {α:Type} (xs:List α) (k:Nat):(List.replicate k xs).flatten.length=k * xs.length:=by
 induction k with
 | zero=>simp
 | succ k ih=>rw[List.replicate_succ,List.flatten_cons,List.length_append,ih,Nat.succ_mul,Nat.add_comm]
theorem zJj:OpR X (binaryOp .Mult) zJJ:=by
 intro pins s σ H x y v u Q I rx ry h
 obtain⟨l,k,xs,rfl,rfl,hH,h1,h2,hz,q⟩:=h
 cases rx
 obtain⟨t,rfl⟩:=ry
 obtain⟨z,its,n,r,hl,e⟩:=I.lstM hH
 have hlen:its.toArray.size * k.toNat <= sizeLine:=by rw[List.size_toArray,<- hl];exact hz
 have hcap:¬ its.toArray.size * k.toNat > (2 ^ 63 - 1) / 8:=by
  have:(sizeLine:Nat) <= (2 ^ 63 - 1) / 8:=by decide
  omega
 have hfit:¬ (!Builtin.List.listFitsIndex k)=true:=by
  rw[fitsIndex_both h1 h2]
  exact Bool.false_ne_true
 have hlong:¬ Builtin.List.listTooLong (its.toArray.size * k.toNat)=true:=by
  rw[zHM hlen]
  exact Bool.false_ne_true
 have hnew:List.foldl (fun x1 x2=>x1++x2) #[] (List.replicate (if its.toArray.isEmpty=true then 0 else k.toNat) its.toArray)=(List.replicate k.toNat its).flatten.toArray:=by
  have f0:∀ m:Nat,List.foldl (fun x1 x2=>x1++x2) #[] (List.replicate m its.toArray)=(List.replicate m its).flatten.toArray:=fun m=>by
   have:=zBv its m []
   rw[List.nil_append] at this
   exact this
  rw[f0]
  cases its with
  | nil=>simp
  | cons a r'=>rw[if_neg (by simp)]
 refine wpAny_binaryOp_repeat_ref (T := "list") (U := "int") (by decide) ⟨_,e,rfl⟩ (fun s'=>typeIs_int s' k t) noFill_list_mul F.fills_int_mul F.slot_int_rmul repeat_list F.slot_int_index.lookup
  (call_meets F.slot_int_rmul (typeIs_int s k t) F.entry_int_rmul (F.args_int_rmul_2 _ _) (int___rmul___int_list k t l its.toArray n)
   ⟨e,rfl,⟨_,e,rfl⟩,call_meets F.slot_list_mul ⟨_,e,rfl⟩ F.entry_list_mul (F.args_list_mul_2 _ _) (AutoListH.list___mul___list_int_3 l its.toArray n k t hfit hcap hlong) ⟨e,?_⟩⟩)
 rw[hnew]
 exact⟨.ref _,_,I.lnew (t':=s.toks) (r.rep k.toNat) (by rw[zIg,Nat.mul_comm];exact hz),rfl,q _ I.fresh⟩
end
section
variable {prog:Program}{w:World}{A:Around}{E:Value->Shared->Prop}{s:Shared}
set_option maxRecDepth 100000 in
end
end L2
namespace L2
open PySem PySem.Spec PyProof.Rows
section
variable {κ:Type} [DecidableEq κ]
noncomputable def yC (kvs:List (κ×V)) (k:κ):Option V:=(kvs.find? fun kv=>decide (kv.1=k)).map (·.2)
noncomputable def ZK (kvs:List (κ×V)) (k:κ) (v:V):List (κ×V) :=
 if (kvs.any fun kv=>decide (kv.1=k))=true then kvs.map (fun kv=>if kv.1=k then (kv.1,v) else kv) else kvs++[(k,v)]
theorem Q3 {p:κ×V}{r:List (κ×V)}{k:κ} (e:p.1=k):yC (p::r) k=some p.2:=by simp[yC,List.find?_cons,e]
theorem Q7 {p:κ×V}{r:List (κ×V)}{k:κ} (e:¬ p.1=k):yC (p::r) k=yC r k:=by simp[yC,List.find?_cons,e]
theorem zCt (k:κ):∀ kvs:List (κ×V),(kvs.any fun kv=>decide (kv.1=k))=(yC kvs k).isSome
 | []=>rfl
 | p::r=>by
  rw[List.any_cons]
  by_cases e:p.1=k
  ·simp only[Q3 e,decide_eq_true e,Bool.true_or,Option.isSome_some]
  ·rw[Q7 e,decide_eq_false e,Bool.false_or];exact zCt k r
theorem J6 (kvs:List (κ×V)) (k:κ) (v:V):(ZK kvs k v).length <= kvs.length+1:=by
 unfold ZK
 split
 ·rw[List.length_map];omega
 ·rw[List.length_append,List.length_cons,List.length_nil];omega
theorem yu.isSome_eq {o:Option V}{u:Option Value} (r:yu o u):o.isSome=u.isSome:=by
 cases o with
 | none=>cases u with
  | none=>rfl
  | some _=>exact (show False from r).elim
 | some _=>cases u with
  | none=>exact (show False from r).elim
  | some _=>rfl
theorem KV.val {kvs:List (κ×V)}{vs:List (κ×Value)} (r:KV kvs vs) (k:κ):yu (yC kvs k) (valueAt vs k):=by
 unfold KV at r
 induction r with
 | nil=>exact True.intro
 | @cons p q ps qs h t ih =>
  obtain⟨h1,h2⟩:=h
  by_cases e:p.1=k
  ·have e':q.1=k:=h1.symm.trans e
   have b:valueAt (q::qs) k=some q.2:=by simp[valueAt,List.find?_cons,e']
   rw[Q3 e,b];exact h2
  ·have e':¬ q.1=k:=fun z=>e (h1.trans z)
   have b:valueAt (q::qs) k=valueAt qs k:=by simp[valueAt,List.find?_cons,e']
   rw[Q7 e,b];exact ih
theorem KV.any {kvs:List (κ×V)}{vs:List (κ×Value)} (r:KV kvs vs) (k:κ):(kvs.any fun kv=>decide (kv.1=k))=vs.any fun kv=>decide (kv.1=k):=by
 unfold KV at r
 induction r with
 | nil=>rfl
 | cons h t ih=>rw[List.any_cons,List.any_cons,ih,h.1]
theorem KV.repl {kvs:List (κ×V)}{vs:List (κ×Value)} (r:KV kvs vs) (k:κ) {y:V}{u:Value} (ry:zY y u) :
  KV (kvs.map fun kv=>if kv.1=k then (kv.1,y) else kv) (vs.map fun kv=>if kv.1=k then (kv.1,u) else kv):=by
 unfold KV at r ⊢
 induction r with
 | nil=>exact .nil
 | @cons p q ps qs h t ih =>
  rw[List.map_cons,List.map_cons]
  refine .cons ?_ ih
  obtain⟨h1,h2⟩:=h
  by_cases e:p.1=k
  ·rw[if_pos e,if_pos (h1.symm.trans e)];exact⟨h1,ry⟩
  ·rw[if_neg e,if_neg (fun z=>e (h1.trans z))];exact⟨h1,h2⟩
theorem KV.put {kvs:List (κ×V)}{vs:List (κ×Value)} (r:KV kvs vs) (k:κ) {y:V}{u:Value} (ry:zY y u):KV (ZK kvs k y) (stored vs k u):=by
 unfold ZK stored
 rw[r.any k]
 by_cases e:(vs.any fun kv=>decide (kv.1=k))=true
 ·rw[if_pos e,if_pos e];exact r.repl k ry
 ·rw[if_neg e,if_neg e];exact Paired.snoc r ⟨rfl,ry⟩
theorem KV.keys {kvs:List (κ×V)}{vs:List (κ×Value)} (r:KV kvs vs):kvs.map (·.1)=vs.map (·.1):=by
 unfold KV at r
 induction r with
 | nil=>rfl
 | cons h t ih=>rw[List.map_cons,List.map_cons,ih,h.1]
theorem KV.length {kvs:List (κ×V)}{vs:List (κ×Value)} (r:KV kvs vs):kvs.length=vs.length:=Paired.length r
end
theorem zCN {P:Program}{w:World}{k:Key}{u:Value} (r:zY (kV k) u):(qA P w).is k u=true:=by
 cases k with
 | inl i=>obtain⟨t,e⟩:=(show ∃ t,u=Value.int i t from r);subst e;exact zDl P w i t
 | inr x=>obtain⟨t,e⟩:=(show ∃ t,u=Value.str x t from r);subst e;exact zDs P w x t
theorem zBk {P:Program}{w:World}:∀ {ks:List Key}{us:List Value},zX (ks.map kV) us->ItemsAre (qA P w) ks us
 | [],_,r=>by rw[List.map_nil] at r;cases r;exact .nil
 | k::ks,_,r=>by
  rw[List.map_cons] at r
  cases r with
  | cons h t=>exact .cons (zCN h) (zBk t)
noncomputable abbrev KT (H:Hp):List (List Key×V)->List (List Key×Addr×Value)->Prop:=Paired fun p q=>p.1=q.1/\H q.2.1=some (.tup (p.1.map kV))/\zY p.2 q.2.2
theorem KT.val {H:Hp}{kvs:List (List Key×V)}{xs:List (List Key×Addr×Value)} (r:KT H kvs xs) (k:List Key):yu (yC kvs k) ((atKey xs k).map (·.2)):=by
 induction r with
 | nil=>exact True.intro
 | @cons p q ps qs h t ih =>
  obtain⟨h1,_,h2⟩:=h
  by_cases e:p.1=k
  ·have e':q.1=k:=h1.symm.trans e
   have b:atKey (q::qs) k=some q.2:=by simp[atKey,List.find?_cons,e']
   rw[Q3 e,b];exact h2
  ·have e':¬ q.1=k:=fun z=>e (h1.trans z)
   have b:atKey (q::qs) k=atKey qs k:=by simp[atKey,List.find?_cons,e']
   rw[Q7 e,b];exact ih
theorem KT.repl {H:Hp}{kvs:List (List Key×V)}{xs:List (List Key×Addr×Value)} (r:KT H kvs xs) (k:List Key) {y:V}{u:Value} (ry:zY y u) :
  KT H (kvs.map fun kv=>if kv.1=k then (kv.1,y) else kv) (xs.map (putAt k u)):=by
 induction r with
 | nil=>exact .nil
 | @cons p q ps qs h t ih =>
  rw[List.map_cons,List.map_cons]
  refine .cons ?_ ih
  obtain⟨h1,h2,h3⟩:=h
  unfold putAt
  by_cases e:p.1=k
  ·rw[if_pos e,if_pos (h1.symm.trans e)];exact⟨h1,h2,ry⟩
  ·rw[if_neg e,if_neg (fun z=>e (h1.trans z))];exact⟨h1,h2,h3⟩
theorem KT.put {H:Hp}{kvs:List (List Key×V)}{xs:List (List Key×Addr×Value)} (r:KT H kvs xs) (k:List Key) {b:Addr}{y:V}{u:Value} (hb:H b=some (.tup (k.map kV))) (ry:zY y u) :
  KT H (ZK kvs k y) (storedH xs k b u):=by
 have e:(kvs.any fun kv=>decide (kv.1=k))=(atKey xs k).isSome:=by
  rw[zCt,(r.val k).isSome_eq,Option.isSome_map]
 unfold ZK storedH
 rw[e]
 by_cases q:(atKey xs k).isSome=true
 ·rw[if_pos q,if_pos q];exact r.repl k ry
 ·rw[if_neg q,if_neg q];exact Paired.snoc r ⟨rfl,hb,ry⟩
theorem KT.keeps {H H':Hp}{kvs:List (List Key×V)}{xs:List (List Key×Addr×Value)} (r:KT H kvs xs) (ht:∀ b ys,H b=some (.tup ys)->H' b=some (.tup ys)):KT H' kvs xs :=
 Paired.mapP r fun _ _ z=>⟨z.1,ht _ _ z.2.1,z.2.2⟩
section
variable {P:Program}{w:World}{H:Hp}{h:Heap}{a:Addr}
theorem zHd {u:HO} (ok:HOk P w H h) (e:Rd H a u):jH P w H h a u:=e.ok ok
theorem zAo {kvs:List (Key×V)} (ok:HOk P w H h) (e:Rd H a (.dK kvs)):kvs.length <= sizeLine/\(a == sysModules)=false/\∃ vs,KV kvs vs/\h.DictOf (qA P w) a vs :=
 show jH P w H h a (.dK kvs) from zHd ok e
theorem Js {kvs:List (Key×V)} (ok:HOk P w H h) (e:H a=some (.dK kvs)):kvs.length <= sizeLine/\(a == sysModules)=false/\∃ vs,KV kvs vs/\h.DictOf (qA P w) a vs:=zAo ok (.inl e)
theorem zAg {ks:List Key} (ok:HOk P w H h) (e:H a=some (.tup (ks.map kV))):(tupleKind (qA P w)).is h ks a:=by
 obtain⟨_,its,r,o,h1,h2,n,h3⟩:=(show jH P w H h a (.tup (ks.map kV)) from ok a _ e)
 exact⟨o,its.toArray,n,h1,h2,h3,by simpa using zBk r⟩
theorem zCY {kvs:List (List Key×V)} (ok:HOk P w H h) (e:Rd H a (.dT kvs)):kvs.length <= sizeLine/\(a == sysModules)=false /\
  ∃ xs,KT H kvs xs/\h.DictOfH (tupleKind (qA P w)) a xs:=by
 obtain⟨z,y,xs,r,o,es,ep,h1,h2,h3,h4,h5⟩:=(show jH P w H h a (.dT kvs) from zHd ok e)
 refine⟨z,y,xs,r,o,es,ep,h1,h2,h3,h4,fun x hx=>?_,h5⟩
 have all:∀ {l:List (List Key×V)}{m:List (List Key×Addr×Value)},KT H l m->∀ x∈m,(tupleKind (qA P w)).is h x.1 x.2.1:=by
  intro l m q
  induction q with
  | nil=>intro x hx;exact nomatch hx
  | @cons p q ps qs hq t ih =>
   intro x hx
   rcases List.mem_cons.mp hx with e | hx
   ·subst e
    exact zAg ok (by rw[<- hq.1];exact hq.2.1)
   ·exact ih x hx
 exact all r x hx
theorem zLP {kvs:List (List Key×V)} (ok:HOk P w H h) (e:H a=some (.dT kvs)):kvs.length <= sizeLine/\(a == sysModules)=false /\
  ∃ xs,KT H kvs xs/\h.DictOfH (tupleKind (qA P w)) a xs:=zCY ok (.inl e)
end
noncomputable def Q2 (H:Hp) (a:Addr) (y:V) (r:Option V):Prop :=
 (∃ kvs k,Rd H a (.dK kvs)/\y=kV k/\r=yC kvs k)\/∃ kvs k b,Rd H a (.dT kvs)/\y=.ref b/\H b=some (.tup (k.map kV))/\r=yC kvs k
noncomputable def zDS (H:Hp) (a:Addr) (y v:V) (H':Hp):Prop :=
 (∃ kvs k,H a=some (.dK kvs)/\y=kV k/\kvs.length < sizeLine/\H'=upd H a (.dK (ZK kvs k v))) \/
 ∃ kvs k b,H a=some (.dT kvs)/\y=.ref b/\H b=some (.tup (k.map kV))/\kvs.length < sizeLine/\H'=upd H a (.dT (ZK kvs k v))
theorem Q2.k {H:Hp}{a:Addr}{kvs:List (Key×V)}{k:Key} (e:H a=some (.dK kvs)):Q2 H a (kV k) (yC kvs k):=.inl ⟨kvs,k,.inl e,rfl,rfl⟩
theorem zDS.k {H:Hp}{a:Addr}{kvs:List (Key×V)}{k:Key}{v:V} (e:H a=some (.dK kvs)) (hl:kvs.length < sizeLine):zDS H a (kV k) v (upd H a (.dK (ZK kvs k v))):=.inl ⟨kvs,k,e,rfl,hl,rfl⟩
section
variable {X:Cx}{pins:List (Addr×Obj)}{σ:St}{H:Hp}{s:Shared}{a:Addr}{y v:V}{u r:Value}{o:Option V}{A:Around}{E:Value->Shared->Prop}
theorem Inv.big (I:Inv X pins σ H s):sysModules < s.heap.objs.size:=by
 have h:mainGlobals < s.heap.objs.size:=(I.mod.glob.keeps I.bk).lt
 exact Nat.lt_trans (by decide) h
theorem zF3 {Q:Value->Shared->Prop} (hu:A.units+1 < cLine) (I:Inv X pins σ H s) (g:Q2 H a y (some v)) (ry:zY y u) (h:∀ w' s',Inv X pins σ H s'->zY v w'->Q w' s') :
  wpAny (model X.prog X.w) A (getItem (.ref a) u) Q E s:=by
 rcases g with ⟨kvs,k,e,ey,l⟩ | ⟨kvs,k,b,e,ey,eb,l⟩
 ·subst ey
  obtain⟨z,hd,vs,rel,dd⟩:=zAo I.hok e
  obtain⟨w',hw,rw'⟩:=yu.some_of (v:=v) (o:=valueAt vs k) (by rw[l];exact rel.val k)
  exact wpAny_getItem_of (zCN ry) dd.mapOf hw (h w' _ (I.tok _) rw')
 ·subst ey
  cases (show u=Value.ref b from ry)
  obtain⟨z,hd,xs,rel,dd⟩:=zCY I.hok e
  obtain⟨w',hw,rw'⟩:=yu.some_of (v:=v) (o:=(atKey xs k).map (·.2)) (by rw[l];exact rel.val k)
  obtain⟨p,hp,hp2⟩:=Option.map_eq_some_iff.mp hw
  refine wpAny_getItem_heap (tupleKind_room_in1 hu) (zAg I.hok eb) dd hp ?_
  rw[hp2]
  exact h w' _ (I.tok _) rw'
theorem zI8 {Q:Value->Shared->Prop} (hu:A.units+1 < cLine) (I:Inv X pins σ H s) (g:Q2 H a y o) (ry:zY y u) (h:∀ s',Inv X pins σ H s'->Q (.bool (!o.isSome)) s') :
  wpAny (model X.prog X.w) A (compareOp .NotIn u (.ref a)) Q E s:=by
 rcases g with ⟨kvs,k,e,ey,l⟩ | ⟨kvs,k,b,e,ey,eb,l⟩
 ·subst ey
  obtain⟨z,hd,vs,rel,dd⟩:=zAo I.hok e
  refine wpAny_notIn_of (zCN ry) hd dd.mapOf ?_
  rw[<- (rel.val k).isSome_eq,<- l]
  exact h _ (I.tok _)
 ·subst ey
  cases (show u=Value.ref b from ry)
  obtain⟨z,hd,xs,rel,dd⟩:=zCY I.hok e
  refine wpAny_notIn_heap (tupleKind_room_in1 hu) (zAg I.hok eb) hd dd ?_
  have q:=(rel.val k).isSome_eq
  rw[Option.isSome_map] at q
  rw[<- q,<- l]
  exact h _ (I.tok _)
theorem Jp {h':Heap}{t':Nat}{ob:HO} (I:Inv X pins σ H s) (mu:Mut (H a)) (hs:Heap.SameBut a s.heap h') (he:∃ q,h'.get? a=some q) (new:jH X.prog X.w (upd H a ob) h' a ob) (ht:0 < t':=by first | exact Nat.succ_pos _ | assumption | exact Inv.tk (by assumption) | omega) :
  Inv X pins σ (upd H a ob) { s with heap:=h',toks:=t' } :=
 I.write (x:=a) (e:=a) mu (.inl rfl) (fun b q hb z=>(hs.2 b hb).trans z) he new
theorem zKR {P:Program}{w:World}{H':Hp}{h':Heap}{kvs:List (Key×V)}{vs:List (Key×Value)} (z:kvs.length <= sizeLine) (hd:(a == sysModules)=false) (rel:KV kvs vs) (dd:h'.DictOf (qA P w) a vs) :
  jH P w H' h' a (.dK kvs):=⟨z,hd,vs,rel,dd⟩
theorem zFj {H':Hp}{Q:Unit->Shared->Prop} (hu:A.units+1 < cLine) (I:Inv X pins σ H s) (g:zDS H a y v H') (ry:zY y u) (rv:zY v r) (h:∀ s',Inv X pins σ H' s'->Q () s') :
  wpAny (model X.prog X.w) A (setItem (.ref a) u r) Q E s:=by
 rcases g with ⟨kvs,k,e,ey,l,eH⟩ | ⟨kvs,k,b,e,ey,eb,l,eH⟩
 ·subst ey eH
  obtain⟨z,hd,vs,rel,dd⟩:=Js I.hok e
  have hz:vs.length <= sizeLine:=by rw[<- rel.length];exact z
  have hl:(ZK kvs k v).length <= sizeLine:=by have:=J6 kvs k v;omega
  refine wpAny_setItem_pairs (hsz:=hz) (zCN ry) dd fun h' dd' hs=>h _ ?_
  have he:∃ q,h'.get? a=some q:=let ⟨q,_,_,hq,_⟩:=dd';⟨q,hq⟩
  exact Jp I (by rw[e];exact True.intro) hs he (zKR hl hd (rel.put k rv) dd')
 ·subst ey eH
  cases (show u=Value.ref b from ry)
  obtain⟨z,hd,xs,rel,dd⟩:=zLP I.hok e
  have hz:xs.length <= sizeLine:=by rw[<- Paired.length rel];exact z
  have hl:(ZK kvs k v).length <= sizeLine:=by have:=J6 kvs k v;omega
  refine wpAny_setItem_heap (hsz:=hz) (tupleKind_room_in1 hu) (zAg I.hok eb) dd fun h' dd' hs=>h _ ?_
  obtain⟨q,es,ep,hq,h2,h3,h4,_,h5⟩:=dd'
  refine Jp I (by rw[e];exact True.intro) hs ⟨q,hq⟩ ⟨hl,hd,_,(rel.put k eb rv).keeps fun c ys ec=>?_,q,es,ep,hq,h2,h3,h4,h5⟩
  rw[zV (zK0 ec e (fun z=>nomatch z))]
  exact ec
end
section
variable {X:Cx}{pins:List (Addr×Obj)}{σ:St}{H:Hp}{s:Shared}{a:Addr}{kvs:List (Key×V)}{k:Key}{u:Value}{A:Around}{E:Value->Shared->Prop}
theorem zLQ {Q:Value->Shared->Prop} (I:Inv X pins σ H s) (e:Rd H a (.dK kvs)) (h:∀ t s',Inv X pins σ H s'->Q (.int kvs.length t) s'):wpAny (model X.prog X.w) A (call (.builtin "len") [.ref a]) Q E s:=by
 obtain⟨z,hd,vs,rel,dd⟩:=zAo I.hok e
 refine call_len_dict hd dd (by rw[<- rel.length];rw[sizeLine_eq] at z;omega) ?_
 rw[<- rel.length]
 exact h _ _ (I.tok _)
end
theorem zDw {X:Cx}{pins:List (Addr×Obj)}{σ:St}{H:Hp}{s:Shared}{a:Addr}{y:V}{o:Option V} (I:Inv X pins σ H s) (g:Q2 H a y o):s.TypeIs (.ref a) "dict" := by
 rcases g with ⟨kvs,k,e,_,_⟩ | ⟨kvs,k,b,e,_,_,_⟩
 ·obtain⟨_,_,vs,_,dd⟩:=zAo I.hok e
  exact dd.typeIs
 ·obtain⟨_,_,xs,_,dd⟩:=zCY I.hok e
  exact dd.typeIs
noncomputable def zLW (td ty tv:TE):TS:=fun D σ H=>tv σ H fun v H1=>td σ H1 fun x H2=>ty σ H2 fun y H3=>∃ a H4,x=.ref a/\zDS H3 a y v H4/\D.nx σ H4
section
variable {X:Cx}{o i e value:Expr}{pos pos' tpos:Pos}{td ty tv:TE}
theorem zIM (hu:X.A.units+1 < cLine) (ho:PE X o td) (hi:PE X i ty) (hv:PE X value tv) (hs:swapsWith value (some (.Subscript o i pos')) pos.line X.env=pure false) :
  PS X (.Assign [.Subscript o i pos'] value pos) (zLW td ty tv):=by
 intro pins s σ H D I h
 refine wpAny_Assign_Subscript (thn (hv pins s σ H _ I h) fun r s1 ⟨v,H1,I1,rv,q1⟩=>thn (ho pins s1 σ H1 _ I1 q1) fun u s2 ⟨x,H2,I2,rx,q2⟩=>thn (hi pins s2 σ H2 _ I2 q2) fun iv s3 ⟨y,H3,I3,ry,a,H4,ex,g,q3⟩=>?_) hs
 subst ex
 obtain rfl:u=Value.ref a:=rx
 exact zFj hu I3 g ry rv fun s4 I4=>⟨σ,H4,I4,q3⟩
end
structure M1 (X:Cx) (o:Expr) (m:Str) (apos:Pos) (e:Expr) (cpos:Pos):Prop where
 base:attributeBase o m X.env (eval o X.env)=eval o X.env
 few:((backTo cpos (starEach [e] X.env)).all (fun x=>!x.1) && (backToKw cpos (keywordEach [] X.env)).all (fun x=>x.1.isSome)
  && decide (([e]:List Expr).length+([]:List Keyword).length+(if ([]:List Keyword).isEmpty then 0 else 1) < 30))=true
 line:(apos.endLine == cpos.line)=true
 trees:backTo cpos (starEach [e] X.env)=[(false,eval e X.env)]
structure M2 (X:Cx) (o:Expr) (m:Str) (apos:Pos) (e f:Expr) (cpos:Pos):Prop where
 base:attributeBase o m X.env (eval o X.env)=eval o X.env
 few:((backTo cpos (starEach [e,f] X.env)).all (fun x=>!x.1) && (backToKw cpos (keywordEach [] X.env)).all (fun x=>x.1.isSome)
  && decide (([e,f]:List Expr).length+([]:List Keyword).length+(if ([]:List Keyword).isEmpty then 0 else 1) < 30))=true
 line:(apos.endLine == cpos.line)=true
 trees:backTo cpos (starEach [e,f] X.env)=[(false,eval e X.env),(false,eval f X.env)]
end L2
namespace Att
open PySem PySem.W PySem.Calls PyProof.Rows
theorem zAh {P:Params}{h:Heap}:∀ (ns:List Int) (vs:List Value),WellAll P h vs (ns.map WData.int)->IntsAre vs ns:=by
 intro ns
 induction ns with
 | nil =>
  intro vs w
  rw[List.map_nil] at w
  cases w
  exact .nil
 | cons n ns ih =>
  intro vs w
  rw[List.map_cons] at w
  cases w with
  | cons a b =>
   cases a
   exact .cons _ _ (ih _ b)
theorem zFn {l:OpenLaw}{n:Nat} (hn:l.most=some n) {P:Params}{h:Heap}{args:List WData}{vals:List Value}
  (hpre:l.row.toRowW.claim.pre args=true) (hwl:WellAll P h vals args) :
  ∃ a vs ns,vals=[Value.ref a]/\args=[WData.list (ns.map WData.int)]/\h.get? a=some { cls:=.type "list",data:=.seq vs.toArray }/\IntsAre vs ns/\ns.length <= n:=by
 have hsh:WShape.hasAll [] args [.list .int]=true:=(pre_splitW hpre).1
 have hc:l.pre.holds [] { args:=args }=true:=(pre_splitW hpre).2
 obtain⟨d,r,rfl,h1,h2⟩:=hasAllW_cons hsh
 obtain rfl:=hasAllW_nil h2
 obtain⟨xs,rfl,h3⟩:=hasW_list h1
 obtain⟨ns,rfl⟩:=items_int h3
 have hlen:ns.length <= n:=by
  unfold OpenLaw.pre at hc
  have h4:(WTm.not (.lt (.lit (.int (n:Int))) (.len (.arg 0)))).holds [] { args:=[.list (ns.map .int)] }=true:=by
   have h4:=(holds_andW hc).1
   rw[hn] at h4
   exact h4
  have h5:=condW_of h4 (w_not (w_lt w_lit (w_len_list (w_arg rfl))))
  rw[List.length_map] at h5
  refine Nat.le_of_not_lt fun q=>?_
  have q':(n:Int) < ((ns.length:Nat):Int):=by omega
  first
   | (rw[decide_eq_true q'] at h5;exact absurd h5 (by decide))
   | (simp at h5;omega)
 cases hwl with
 | cons w1 w2 =>
  cases w2
  cases w1 with
  | list ho hall=>exact⟨_,_,ns,rfl,rfl,ho,zAh ns _ hall,hlen⟩
theorem zFp (l:OpenLaw) (args:List WData):l.row.toRowW.claim.post args (.bool true) args=true :=
 postW_of (r:=l.row.toRowW) (X:=(true == true))
  (show WShape.has [] (.bool true) .bool=true by first | rfl | decide | simp[WShape.has,WShape.arms,WShape.armsAll])
  (show (WTm.eq .res (.lit (.bool true))).value [] { args:=args,res:=some (.bool true),after:=args }=some (.bool (true == true)) from w_eq_bool (w_res rfl) w_lit) rfl
theorem zDo {l:OpenLaw}{n:Nat}{q:Program}{loose:List Str}{XP:(Str->Option Value)->Heap->Prop}{YP:World->Heap->Prop}{d:DefRec}
  (hn:l.most=some n) (hdf:d.params.defaults=[])
  (call:∀ (w:World) (s₀ s₁:Shared) (mg mb:Str->Option Value) (fa:Addr) (o:Obj) (pm cd doc:Value) (a:Addr) (vs:List Value) (ns:List Int),
   Ground q loose [] XP w s₀ mg mb s₁.heap->YP w s₁.heap ->
   s₁.heap.get? fa=some o->o.data=.func (docDef d.name d.params d.body d.scope pm cd doc)->s₁.heap.CodeRec cd d.name->mg d.name=some (.ref fa) ->
   s₁.heap.get? a=some { cls:=.type "list",data:=.seq vs.toArray }->IntsAre vs ns->ns.length <= n->s₁.gens = #[] ->
   codeAny (model l.prog w) callerA (.call (.ref fa) ⟨[.ref a],[]⟩) (fun r s'=>r=.ok (.ret (.bool true))/\OldK s₁.heap s'.heap/\s'.os=s₁.os/\AllBare s'.gens) s₁) :
  WalkO q loose XP YP l.row.toRowW d [] (fun f vs=>PySem.call f vs):=by
 intro w s₀ s₁ mg mb G Y fa o pm cd doc dV kV ho hd hcd hD hmg hg args vals as hpre hlay hrd hwl hlo
 obtain rfl:dV=.none:=Dflts.none hD hdf
 obtain rfl:kV=.none:=Dflts.noKw hD
 obtain⟨a,vs,ns,rfl,rfl,hobj,hints,hlen⟩:=zFn hn hpre hwl
 refine enter_call (codeAny_mono (call w s₀ s₁ mg mb fa o pm cd doc a vs ns G Y ho (fd_plain hd) hcd hmg hobj hints hlen hg) fun r s' hq=>?_)
 obtain⟨rfl,h2,h3,h4⟩:=hq
 exact⟨.inl ⟨.bool true,.bool true,[],rfl,fun _=>rfl,.bool true,zFp l _,fun _=>⟨List.Pairwise.nil,fun _ hm=>(nomatch hm)⟩⟩,h2,h3,h4⟩
end Att
namespace L2
open PySem PySem.Spec PyProof.Rows
theorem zBl:∀ {vs:List Value}{ns:List Int},IntsAre vs ns->zX (ns.map V.int) vs
 | _,_,.nil=>.nil
 | _,_,.cons n t h=>.cons ⟨t,rfl⟩ (zBl h)
noncomputable def zDP (H:Hp):Prop:=∀ b,H b=none\/∃ o xs,H b=some (.frz o (.lst xs))
theorem zG1 {P:Program}{w:World}{K:PySem.W.Frag}{mg mb:Str->Option Value}{CX:CXT}{k:Nat}{fa a:Addr}{fd:FuncData}{x:Str}{sp:Sp}{s₁:Shared}{vs:List Value}{ns:List Int}
  (KX:K.In s₁.heap) (hns:s₁.heap.Ns mainGlobals mg) (hb:s₁.heap.Ns builtinsNs mb) (hbb:∀ x:Str,x ≠ "__name__" -> mb x=bootBuiltins x) (hlim:s₁.heap.NoLimit) (hg:s₁.gens = #[])
  (ha:s₁.heap.get? a=some { cls:=.type "list",data:=.seq vs.toArray }) (hi:IntsAre vs ns) (hl:ns.length <= sizeLine) (hr:zy k callerA)
  (F:∀ base:Heap,K.In base->base.Ns mainGlobals mg->jc P w K mg base CX k fa fd [x] sp) (hT:fd.scope.names.lookup x=some .local) (hbind:∀ (s:Shared) (u:Value),BindsTo s fd ⟨[u],[]⟩ [(x,u)])
  (hsp:∀ H:Hp,zDP H->SqL K H a (ns.map V.int)->sp [.ref a] H (fun v _=>v=.bl true) fun _ _ _=>False)
  (hCX:∀ H e s',CX [] H s₁ (fun _ _ _=>False) e s'->False) :
  codeAny (model P w) callerA (.call (.ref fa) ⟨[.ref a],[]⟩) (fun r s'=>r=.ok (.ret (.bool true))/\OldK s₁.heap s'.heap/\s'.os=s₁.os/\AllBare s'.gens) s₁:=by
 have rv:=zBl hi
 have lenV:=hi.length
 have core:∀ H:Hp,zDP H->SqL K H a (ns.map V.int)->HOk P w H s₁.heap->(∀ b,H b≠none->b=a)->(H a≠none->K.lookup a=none) ->
   codeAny (model P w) callerA (.call (.ref fa) ⟨[.ref a],[]⟩) (fun r s'=>r=.ok (.ret (.bool true))/\OldK s₁.heap s'.heap/\s'.os=s₁.os/\AllBare s'.gens) s₁:=by
  intro H hO hS hok hA hK
  have base_of:∀ {b:Addr}{o:Obj},s₁.heap.get? b=some o->H b=none->(Q4 s₁.heap H).get? b=some o:=fun e n=>zHI e n
  have noA:∀ {b:Addr}{o:Obj}{es:Array DictEntry}{ep:Nat},s₁.heap.get? b=some o->o.data=.dict es ep->H b=none:=fun {b o es ep} e d=>by
   cases q:H b with
   | none=>rfl
   | some u =>
    have e':b=a:=hA b (by rw[q];simp)
    subst e'
    rw[ha] at e;cases e
    have d':Data.seq vs.toArray _=Data.dict es ep:=d
    cases d'
  have nsK:∀ {b:Addr}{m:Str->Option Value},s₁.heap.Ns b m->(Q4 s₁.heap H).Ns b m:=fun {b m} ⟨o,es,ep,e,d,r⟩=>⟨o,es,ep,base_of e (noA e d),d,r⟩
  have hKb:K.In (Q4 s₁.heap H):=fun b o e=>base_of (KX b o e) (by
   cases q:H b with
   | none=>rfl
   | some u =>
    have e':b=a:=hA b (by rw[q];simp)
    subst e'
    rw[hK (by rw[q];simp)] at e;cases e)
  have hM:Mod K mg (Q4 s₁.heap H):=⟨hKb,nsK hns,⟨mb,nsK hb,hbb⟩,let ⟨mc,h1,h2⟩:=hlim;⟨mc,nsK h1,h2⟩⟩
  have e0:zAL P w K mg (Q4 s₁.heap H) callerA [] s₁ H:=⟨rfl,hM,fun b o e=>zIQ e,Nat.le_of_eq (zGI _ _),trivial,fun b hb=>absurd (show b∈([]:List Addr) from hb) (by simp),hok,.of_eq hg⟩
  refine codeAny_mono ((F _ hKb (nsK hns)).run callerA [] s₁ H ⟨[.ref a],[]⟩ [.ref a] [.ref a] _ _ hr e0 (.inr ⟨x,List.mem_singleton.mpr rfl,hT⟩) (hbind s₁ (.ref a)) (.cons rfl .nil) (hsp H hO hS)) fun r s' h=>?_
  cases r with
  | error e=>exact (hCX H e s' h).elim
  | ok fl =>
   cases fl with
   | next=>exact False.elim h
   | brk=>exact False.elim h
   | cont=>exact False.elim h
   | ret u =>
    obtain⟨v,H',os,bare,un,hok',r',q⟩:=h
    have q':v=.bl true:=q
    subst q'
    obtain rfl:u=Value.bool true:=r'
    refine⟨rfl,OldK.of_keep fun b o e=>?_,os,bare⟩
    cases q:H b with
    | none=>exact un.keep b o e q (by intro z;exact absurd (show b∈([]:List Addr) from z) (by simp)) (by simp)
    | some u =>
     rcases hO b with z | ⟨ob,xs,z⟩
     ·rw[q] at z;cases z
     ·have z2:=un.frzs b ob _ z
      obtain⟨e1,_⟩:=hok b _ z
      obtain⟨e2,_⟩:=hok' b _ z2
      rw[e] at e1;cases e1
      exact e2
 cases hk:K.lookup a with
 | some o =>
  have e:=KX a o hk
  rw[ha] at e
  cases e
  refine core (fun _=>none) (fun _=>.inl rfl) (.inr ⟨_,vs.toArray,_,hk,rfl,rfl,rfl,by rw[List.size_toArray,lenV];exact hl,by simpa using rv⟩) (fun b u z=>by have z':(none:Option HO)=some u:=z;cases z') (fun b z=>absurd rfl z) fun z=>absurd rfl z
 | none =>
  refine core (fun b=>if b=a then some (.frz { cls:=.type "list",data:=.seq vs.toArray } (.lst (ns.map V.int))) else none) (fun b=>?_) (.inl (.inr ⟨{ cls:=.type "list",data:=.seq vs.toArray },if_pos rfl⟩)) (fun b u z=>?_) (fun b z=>?_) fun _=>hk
  ·by_cases hb:b=a
   ·exact .inr ⟨_,_,if_pos hb⟩
   ·exact .inl (if_neg hb)
  ·by_cases hb:b=a
   ·have z':=(if_pos hb).symm.trans z
    cases z'
    subst hb
    exact⟨ha,by rw[List.length_map];exact hl,vs,_,rv,ha⟩
   ·have z':=(if_neg hb).symm.trans z
    cases z'
  ·by_cases hb:b=a
   ·exact hb
   ·exact absurd (if_neg hb) z
end L2
namespace L2
open PySem PySem.Spec PyProof.Rows
theorem zIx {l:PySem.W.OpenLaw}{n k:Nat}{q:Program}{loose:List Str}{XP:(Str->Option Value)->Heap->Prop}{YP:World->Heap->Prop}{d:DefRec}{K:Params->PySem.W.Frag}{CX:World->CXT}{sp:World->Sp}{x:Str}
  (hn:l.most=some n) (hn2:n <= sizeLine) (hdf:d.params.defaults=[]) (hr:zy k callerA)
  (hY:∀ (w:World) (h:Heap),YP w h->(K w.params).In h)
  (F:∀ (w:World) (mg:Str->Option Value) (fa:Addr) (h:Heap),(K w.params).In h->h.Ns mainGlobals mg->mg d.name=some (.ref fa) ->
   ∃ fd:FuncData,(∀ (s:Shared) (u:Value),BindsTo s fd ⟨[u],[]⟩ [(x,u)])/\fd.scope.names.lookup x=some .local /\
    ∀ base:Heap,(K w.params).In base->base.Ns mainGlobals mg->jc l.prog w (K w.params) mg base (CX w) k fa fd [x] (sp w))
  (hsp:∀ (w:World) (H:Hp) (a:Addr) (ns:List Int),ns.length <= n->zDP H->SqL (K w.params) H a (ns.map V.int)->sp w [.ref a] H (fun v _=>v=.bl true) fun _ _ _=>False)
  (hCX:∀ (w:World) (H:Hp) (s:Shared) (e:Value) (s':Shared),CX w [] H s (fun _ _ _=>False) e s'->False) :
  PySem.W.WalkO q loose XP YP l.row.toRowW d [] (fun f vs=>PySem.call f vs):=by
 refine Att.zDo hn hdf fun w s₀ s₁ mg mb fa o pm cd doc a vs ns G Y ho hd hcd hmg hobj hints hlen hg=>?_
 have KX:=hY w _ Y
 obtain⟨fd,hb,hT,hF⟩:=F w mg fa _ KX G.T.g hmg
 exact zG1 KX G.T.g G.T.b G.T.builtins G.T.nolimit hg hobj hints (Nat.le_trans hlen hn2) hr hF hT hb (fun H hO hS=>hsp w H a ns hlen hO hS) fun H e s'=>hCX w H s₁ e s'
end L2
namespace L2
open PySem PySem.Spec PyProof.Rows
noncomputable def zBU (s:Stmt) (j:Nat):Stmt:=match s with
 | .ClassDef _ _ _ body _ _ _ _ _ _ _=>body.getD j (.Pass ⟨0,0,0,0⟩)
 | _=>.Pass ⟨0,0,0,0⟩
noncomputable def jr (s:Stmt):Arguments:=match s with
 | .FunctionDef _ a _ _ _ _ _ _ _ _=>a
 | _=>{ posonlyargs:=[],args:=[],vararg:=none,kwonlyargs:=[],kw_defaults:=[],kwarg:=none,defaults:=[] }
noncomputable def jN (s:Stmt):List Stmt:=match s with
 | .FunctionDef _ _ b _ _ _ _ _ _ _=>b
 | _=>[]
noncomputable def zQ (s:Stmt):Scope:=match s with
 | .FunctionDef _ _ _ _ _ _ sc _ _ _=>sc
 | _=>{ kind:=.function,names:=[],isGenerator:=false,isCoroutine:=false }
noncomputable abbrev CX0:CXT:=fun _ _ _ _ _ _=>False
noncomputable abbrev E0:XK:=fun _ _ _=>False
theorem JH {X:Cx}:qr CX0 X E0:=fun _ _ _ _ _ _ _ h=>h.elim
structure Fun (K:PySem.W.Frag) (x qual:Str) (st:Stmt) (f:Addr) (fd:FuncData):Prop where
 ex:∃ (oc:Value) (od:Option Addr) (kV doc pm:Value) (an:Option Addr) (cdv ct:Value) (osl:Array (Option Value)),
  fd=PySem.W.fnOf x qual (jr st) (jN st) (zQ st) .none kV doc pm an cdv ct/\K.lookup f=some ⟨oc,od,.func fd,osl⟩/\PySem.W.codeIn K cdv qual=true
 kp:PySem.W.keepIn K (.ref f)=true
section
variable {P:Program}{w:World}{K:PySem.W.Frag}{mg:Str->Option Value}{base:Heap}
theorem Fun.ok {x qual:Str}{st:Stmt}{f:Addr}{fd:FuncData}{N ps:List Str}{k:Nat}{sp:Sp} (F:Fun K x qual st f fd) (S:jb N ps (zQ st)) (len:∀ vs H Q E,sp vs H Q E->vs.length=ps.length)
  (hbody:∀ (cdv:Value) (A:Around) (outer:List Env) (s:Shared) (H:Hp) (vs:List V) (Q:VK) (E:XK),zy k (A.deeper (envOfC qual (zQ st) s.heap.objs.size f cdv))->sp vs H Q E ->
   ∃ t,PSs (QG CX0 P w K mg base N qual (zQ st) f cdv A outer s H E).nox (jN st) t/\t { nx:=fun _ H'=>Q .non H',rt:=Q } (yY N vs) H):jc P w K mg base CX0 (k+1) f fd ps sp:=by
 obtain⟨oc,od,kV,doc,pm,an,cdv,ct,osl,rfl,lk,hcd⟩:=F.ex
 refine zLj lk hcd S len fun A outer s H vs Q E hr hsp=>?_
 obtain⟨t,h,q⟩:=hbody cdv A outer s H vs Q E hr hsp
 exact⟨t,h.nox,q⟩
theorem Fun.binds {x qual:Str}{st:Stmt}{f:Addr}{fd:FuncData}{ps:List Str} (F:Fun K x qual st f fd)
  (h:∀ (kV doc pm:Value) (an:Option Addr) (cdv ct:Value) (us:List Value),us.length=ps.length->bindArgs (PySem.W.fnOf x qual (jr st) (jN st) (zQ st) .none kV doc pm an cdv ct) ⟨us,[]⟩=pure (ps.zip us)):ZB K fd ps []:=by
 obtain⟨oc,od,kV,doc,pm,an,cdv,ct,osl,rfl,lk,hcd⟩:=F.ex
 exact .all (h kV doc pm an cdv ct)
theorem yI {x qual:Str}{st:Stmt}{f:Addr}{oc:Value}{od an:Option Addr}{osl:Array (Option Value)}{kV doc pm cdv ct:Value} (l:K.lookup f=some ⟨oc,od,.func (PySem.W.fnOf x qual (jr st) (jN st) (zQ st) .none kV doc pm an cdv ct),osl⟩)
  (c:PySem.W.codeIn K cdv qual=true) (k:PySem.W.keepIn K (.ref f)=true):Fun K x qual st f (PySem.W.fnOf x qual (jr st) (jN st) (zQ st) .none kV doc pm an cdv ct):=⟨⟨oc,od,kV,doc,pm,an,cdv,ct,osl,rfl,l,c⟩,k⟩
end
theorem zHl {A:Around}{k:Nat} (hr:zy k A):A.units+1 < cLine:=Nat.lt_of_le_of_lt (Nat.add_le_add_left (by decide:1 <= 64) _) hr.units
theorem zDV {A B:Prop} (h:B):if false=true then A else B:=by
 rw[if_neg Bool.false_ne_true]
 exact h
theorem zCq {A B:Prop} (h:A):if true=true then A else B:=by
 rw[if_pos rfl]
 exact h
end L2
namespace L2
open PySem PySem.Spec PyProof.Rows
section
variable {X:Cx}
theorem zGC:jU X (.builtin "len") (fun xs H Q=>∃ a kvs,xs=[V.ref a]/\H a=some (.dK kvs)/\Q (.int kvs.length) H):=by
 intro pins s σ H xs us Q I r h
 obtain⟨a,kvs,rfl,ha,q⟩:=h
 obtain⟨u,rfl,ru⟩:=Zm r
 cases ru
 exact zLQ I (.inl ha) fun t s' I'=>⟨.int kvs.length,H,I',⟨t,rfl⟩,q⟩
end
end L2
set_option maxHeartbeats 4000000
namespace L2
open PySem PySem.Spec PyProof.Rows
noncomputable abbrev zn (X:Cx) (vars:List Str) (scope:Scope) (cl:List (Str×Addr)) (C:Addr) (fp:List Addr) (s₂:Shared) (H₂:Hp):Cx where
 prog:=X.prog
 w:=X.w
 K:=X.K
 mg:=X.mg
 base:=X.base
 A:=X.A
 N:=X.N++vars
 s₀:=s₂
 H₀:=H₂
 env:=compEnvC scope cl C X.env
 outer:=X.stack
 stack:=X.stack
 ex:=fp
 fn:=fun _=>false
 calm:=X.calm
 pn:=[]
 xe:=fun _ _=>False
noncomputable def Qz (cells:List (Str×Addr)):List (Str×Addr)->Prop
 | []=>True
 | p::r=>cells.lookup p.1=some p.2/\Qz cells r
theorem Qz.get {cells:List (Str×Addr)}:∀ {cl:List (Str×Addr)}{x:Str}{c:Addr},Qz cells cl->cl.lookup x=some c->cells.lookup x=some c
 | [],_,_,_,e=>by simp at e
 | (y,d)::r,x,c,h,e=>by
  cases hx:x == y with
  | true =>
   simp only[List.lookup_cons,hx] at e
   have e1:x=y:=eq_of_beq hx
   subst e1
   rw[<- e]
   exact h.1
  | false =>
   simp only[List.lookup_cons,hx] at e
   exact Qz.get h.2 e
noncomputable def okK (on:List (Str×NameKind)) (vars:List Str) (cl:List (Str×Addr)) (x:Str):NameKind->Bool
 | .local=>x == (".0" : Str) || vars.contains x
 | .cell=>false
 | .free=>(cl.lookup x).isSome && (on.lookup x == some .cell || on.lookup x == some .free)
 | _=>true
structure jJ (X:Cx) (vars:List Str) (scope:Scope) (cl:List (Str×Addr)):Prop where
 kind:scope.kind=.function
 clos:closureFor scope X.env=pure cl
 dis:(vars.all fun x=>!X.N.contains x)=true
 zero:X.N.contains (".0" : Str)=false
 names:∀ y∈scope.names,y.2=.local->scope.names.lookup y.1=some .local
 cells:Qz X.env.cells cl
 ok:(scope.names.all fun p=>okK X.env.scope.names vars cl p.1 p.2)=true
theorem Zi {env:Env}{x:Str}:∀ {names:List (Str×NameKind)},
  (names.map fun (n,k)=>if (k == NameKind.free && env.scope.kind == .function && env.kindOf n == some .cell) then (n,NameKind.cell) else (n,k)).lookup x =
   (names.lookup x).map fun k=>if (k == NameKind.free && env.scope.kind == .function && env.kindOf x == some .cell) then NameKind.cell else k
 | []=>rfl
 | (n,k)::r=>by
  have ih:=@Zi env x r
  show List.lookup x ((if (k == NameKind.free && env.scope.kind == .function && env.kindOf n == some .cell)=true then (n,NameKind.cell) else (n,k))::_)=_
  cases hx:x == n with
  | true =>
   have e:x=n:=eq_of_beq hx
   subst e
   by_cases hc:(k == NameKind.free && env.scope.kind == .function && env.kindOf x == some .cell)=true
   ·rw[if_pos hc];simp only[List.lookup_cons,hx,Option.map_some,if_pos hc]
   ·rw[if_neg hc];simp only[List.lookup_cons,hx,Option.map_some,if_neg hc]
  | false =>
   by_cases hc:(k == NameKind.free && env.scope.kind == .function && env.kindOf n == some .cell)=true
   ·rw[if_pos hc];simp only[List.lookup_cons,hx];exact ih
   ·rw[if_neg hc];simp only[List.lookup_cons,hx];exact ih
section
variable {X:Cx}{vars:List Str}{scope:Scope}{cl:List (Str×Addr)}{C D:Addr}{fp:List Addr}{s₂:Shared}{H:Hp}{pins:List (Addr×Obj)}{σ:St}
theorem jJ.okAt (S:jJ X vars scope cl) {x:Str}{k:NameKind} (h:scope.names.lookup x=some k):okK X.env.scope.names vars cl x k=true:=by
 have:=List.all_eq_true.mp S.ok (x,k) (PySem.mem_of_lookup h)
 exact this
theorem jJ.noCell (S:jJ X vars scope cl):∀ y∈scope.names,y.2≠.cell:=fun y hy e=>by
 have h:=List.all_eq_true.mp S.ok y hy
 rw[e] at h
 exact absurd (show false=true from h) Bool.false_ne_true
theorem jJ.freeOf (S:jJ X vars scope cl) {x:Str} (h:(compEnvC scope cl C X.env).kindOf x=some .cell\/(compEnvC scope cl C X.env).kindOf x=some .free):scope.names.lookup x=some .free:=by
 have e:(compEnvC scope cl C X.env).kindOf x=(scope.names.lookup x).map fun k=>if (k == NameKind.free && X.env.scope.kind == .function && X.env.kindOf x == some .cell) then NameKind.cell else k:=Zi
 rw[e] at h
 cases q:scope.names.lookup x with
 | none=>rw[q] at h;simp at h
 | some k =>
  rw[q] at h
  by_cases hk:k=.free
  ·rw[hk]
  ·have hb:(k == NameKind.free)=false:=by simpa using hk
   simp only[Option.map_some,hb,Bool.false_and,Bool.false_eq_true,if_false,Option.some.injEq] at h
   rcases h with h | h
   ·subst h
    exact absurd rfl (S.noCell (x,.cell) (PySem.mem_of_lookup q))
   ·exact absurd h hk
theorem jJ.localOf (S:jJ X vars scope cl) {x:Str} (h:(compEnvC scope cl C X.env).kindOf x=some .local):scope.names.lookup x=some .local:=by
 have e:(compEnvC scope cl C X.env).kindOf x=(scope.names.lookup x).map fun k=>if (k == NameKind.free && X.env.scope.kind == .function && X.env.kindOf x == some .cell) then NameKind.cell else k:=Zi
 rw[e] at h
 cases q:scope.names.lookup x with
 | none=>rw[q] at h;simp at h
 | some k =>
  rw[q] at h
  simp only[Option.map_some,Option.some.injEq] at h
  split at h
  ·cases h
  ·rw[h]
theorem zE7 (I:Inv X pins σ H s₂) (S:jJ X vars scope cl) (hf:∀ b∈fp,QW X pins H b) (hob:∀ b∈fp,∃ o,s₂.heap.get? b=some o)
  {h₁:Heap}{tk:Nat} (hD:s₂.heap.objs.size <= D) (hC:s₂.heap.objs.size <= C) (hDC:D≠C) {oD:Obj} (eD:h₁.get? D=some oD) (cD:∀ v,oD.data≠.cell v) {m:Str->Option Value} (hn:h₁.Ns C m)
  (old:∀ b o,s₂.heap.get? b=some o->h₁.get? b=some o) (ht:0 < tk:=by first | exact Nat.succ_pos _ | assumption | exact Inv.tk (by assumption) | omega) :
  Inv (zn X vars scope cl C fp s₂ H) [(D,oD)] (σ++List.replicate vars.length none) H { s₂ with heap:=h₁,toks:=tk }:=by
 have fpst:∀ b∈fp,b∉frs X.stack:=fun b hb z=>by
  rcases List.mem_cons.mp (I.stkSub b z) with e | e
  ·exact (hf b hb).2.1 e
  ·exact (hf b hb).2.2.1 e
 have cget:∀ x c,cl.lookup x=some c->X.env.cells.lookup x=some c:=fun x c e=>S.cells.get e
 have fpl:∀ b∈fp,b < s₂.heap.objs.size:=fun b hb=>by
  obtain⟨o,e⟩:=hob b hb
  exact Heap.lt_size e
 have ok:(zn X vars scope cl C fp s₂ H).Ok:=by
  refine⟨I.ok.mod,S.kind,I.ok.glob,I.ok.blt,hC,fun x y c h1 h2=>I.ok.inj x y c (cget x c h1) (cget y c h2),fun x hx=>?_,fun x c h _=>absurd (show false=true from h) Bool.false_ne_true,I.ok.hd,I.ok.frames,.inl rfl,
   fun b hb=>⟨Nat.ne_of_lt (Nat.lt_of_lt_of_le (fpl b hb) hC),fun x c e z=>(hf b hb).2.2.2.2.1 x c (cget x c e) z⟩,I.bs,Nat.le_trans I.ok.bsz I.sz,fun b o e hb=>?_,fpst,I.stack,I.stkFree⟩
  ·have q:=S.okAt (S.freeOf (C:=C) hx)
   have q1:((cl.lookup x).isSome && (X.env.scope.names.lookup x == some .cell || X.env.scope.names.lookup x == some .free))=true:=q
   rw[Bool.and_eq_true] at q1
   exact Option.isSome_iff_exists.mp q1.1
  ·rcases (hf b hb).2.2.2.1 with z | z
   ·exact I.ok.noex b o e z
   ·exact absurd (Nat.lt_of_lt_of_le (Heap.lt_size e) (Nat.le_trans I.ok.bsz z)) (Nat.lt_irrefl _)
 have nst:D∉frs X.stack:=fun z=>by
  rcases List.mem_cons.mp (I.stkSub D z) with e | e
  ·exact absurd (Nat.lt_of_lt_of_le (e ▸ I.lt) hD) (Nat.lt_irrefl _)
  ·exact I.nofs hD e
 refine⟨ok,rfl,I.bare,Un.kept old,⟨m,hn,fun i x v h1 h2 h3=>?_⟩,fun x c e=>?_,I.hok.fresh hC,fun x c e=>I.freeC x c (cget x c e),fun p hp=>?_,I.hok.kept old,?_,ht⟩
 ·have hlen:=I.len
  have h1':(X.N++vars)[i]? = some x:=h1
  by_cases hi:i < σ.length
  ·rw[List.getElem?_append_left (by omega)] at h1'
   rw[List.getElem?_append_left hi] at h2
   have inN:X.N.contains x=true:=by
    rw[List.contains_iff_exists_mem_beq]
    exact⟨x,List.mem_of_getElem? h1',by simp⟩
   have hk:(compEnvC scope cl C X.env).kindOf x=some .cell\/(compEnvC scope cl C X.env).kindOf x=some .free:=by
    rcases h3 with h3 | h3
    ·have q:=S.okAt (S.localOf (C:=C) h3)
     have q1:(x == (".0" : Str) || vars.contains x)=true:=q
     rw[Bool.or_eq_true] at q1
     rcases q1 with q1 | q1
     ·have e0:x=(".0" : Str):=eq_of_beq q1
      rw[e0,S.zero] at inN
      cases inN
     ·have q2:=List.all_eq_true.mp S.dis x (by simpa using q1)
      rw[inN] at q2
      cases q2
    ·exact h3
   have q:=S.okAt (S.freeOf (C:=C) hk)
   have q1:((cl.lookup x).isSome && (X.env.scope.names.lookup x == some .cell || X.env.scope.names.lookup x == some .free))=true:=q
   rw[Bool.and_eq_true,Bool.or_eq_true] at q1
   obtain⟨c,hc⟩:=Option.isSome_iff_exists.mp q1.1
   have ho:X.env.scope.names.lookup x=some .cell\/X.env.scope.names.lookup x=some .free:=by
    rcases q1.2 with z | z
    ·exact .inl (eq_of_beq z)
    ·exact .inr (eq_of_beq z)
   obtain⟨m0,_,hl⟩:=I.loc
   obtain⟨u,r,l⟩:=hl i x v h1' h2 (.inr ho)
   refine⟨u,r,.inr ⟨hk,c,hc,?_⟩⟩
   rcases l with ⟨l1,_⟩ | ⟨_,c',e',o,eo,ed⟩
   ·have l2:X.env.scope.names.lookup x=some .local:=l1
    rcases ho with z | z
    ·rw[l2] at z;cases z
    ·rw[l2] at z;cases z
   ·rw[cget x c hc] at e'
    cases e'
    exact⟨o,old _ _ eo,ed⟩
  ·rw[List.getElem?_append_right (by omega),List.getElem?_replicate] at h2
   split at h2<;>cases h2
 ·obtain⟨v,o,eo,ed⟩:=I.cell x c (cget x c e)
  exact⟨v,o,old _ _ eo,ed⟩
 ·have e:p=(D,oD):=by simpa using hp
  subst e
  exact⟨eD,I.hok.fresh hD,hDC,nst,cD⟩
 ·show (σ++List.replicate vars.length none).length=(X.N++vars).length
  rw[List.length_append,List.length_append,List.length_replicate,I.len]
end
noncomputable def ZU (X:Cx) (ifs:List Expr) (t:TT):Prop :=
 ∀ (pins:List (Addr×Obj)) (s:Shared) (σ:St) (H:Hp) (Q:Bool->Hp->Prop),Inv X pins σ H s->t σ H Q ->
  wpAny (model X.prog X.w) X.A (forIn ifs true fun c r=>if r=true then do let ok <- isTrue c X.env (eval c X.env);pure (ForInStep.yield ok) else pure (ForInStep.yield r)) (TP X pins σ Q) X.xe s
noncomputable def Zf:TT:=fun _ H Q=>Q true H
theorem zHX {X:Cx}:ZU X [] Zf:=fun _ _ _ H _ I h=>wpAny_tests_nil ⟨H,I,h⟩
theorem zGW {X:Cx}{c:Expr}{t:TT} (h:PT X c t):ZU X [c] t:=fun pins s σ H Q I hw=>wpAny_tests_one (h pins s σ H Q I hw)
noncomputable def Wk (σ σ':St):Prop:=σ.length=σ'.length/\∀ (i:Nat) v,σ[i]? = some (some v)->σ'[i]? = some (some v)
noncomputable def zE6 (n:Nat) (wi:TI) (g:TG) (ti:TT) (te:TE):TE:=fun σ H Q=>wi σ H fun J H1=>∃ W:Nat->Nat->List V->Hp->Prop,(∃ m,W 0 m [] H1)/\∀ i m ys H2,W i m ys H2->ys.length <= sizeLine /\
 ((J.stop i H2/\∀ D,H2 D=none->Q (.ref D) (upd H2 D (.lst ys))) \/
  (J.go i H2/\∀ x H3,J.yld i H2 x H3->g x (σ++List.replicate n none) H3 fun σ2 H4=>Wk (σ++List.replicate n none) σ2/\ti σ2 H4 fun b H5 =>
   if b=true then te σ2 H5 fun y H6=>∃ m',m' < m/\W (i+1) m' (ys++[y]) H6 else ∃ m',m' < m/\W (i+1) m' ys H5))
theorem Inv.track {X:Cx}{pins:List (Addr×Obj)}{σ:St}{H:Hp}{s:Shared}{D:Addr}{o:HO} (I:Inv X pins σ H s) (hD:X.s₀.heap.objs.size <= D) (hn:H D=none) (hL:D≠X.env.locals)
  (hcl:∀ x c,X.env.cells.lookup x=some c->c≠D) (hp:∀ p∈X.pn++pins,p.1≠D) (new:jH X.prog X.w (upd H D o) s.heap D o):Inv X pins σ (upd H D o) s:=by
 have ne:∀ {b u},H b=some u->b≠D:=fun e z=>by rw[z,hn] at e;cases e
 refine⟨I.ok,I.os,I.bare,⟨I.base.keep,I.base.slot,fun b ob e n hx=>?_,I.base.there,fun b xs e=>?_,fun b ob u e=>?_,fun b ps e=>?_⟩,I.loc,I.cell,?_,fun x c e=>?_,fun p hp'=>?_,fun b u e=>?_,I.len,I.tk⟩
 ·rw[zV (Nat.ne_of_lt (Nat.lt_of_lt_of_le (Heap.lt_size e) hD))]
  exact I.base.free b ob e n hx
 ·have q:=I.base.tups b xs e
  rw[zV (ne q)];exact q
 ·have q:=I.base.frzs b ob u e
  rw[zV (ne q)];exact q
 ·obtain⟨mo,q⟩:=I.base.tbls b ps e
  exact⟨mo,by rw[zV (ne q)];exact q⟩
 ·rw[zV (Ne.symm hL)];exact I.free
 ·rw[zV (hcl x c e)];exact I.freeC x c e
 ·obtain⟨e1,e2,e3,e4,e5⟩:=I.pin p hp'
  exact⟨e1,by rw[zV (hp p hp')];exact e2,e3,e4,e5⟩
 ·by_cases hb:b=D
  ·subst hb;rw[z5] at e;cases e;exact new
  ·rw[zV hb] at e
   exact (I.hok b u e).stay (fun _ _ _ q=>q) (fun c q=>by rw[zV (ne q)];exact q) fun c xs q=>by rw[zV (ne q)];exact q
noncomputable abbrev JC (us:List Value) (n:Nat):Obj:={ cls:=.type "list",data:=.seq us.toArray n }
section
variable {X:Cx}{vars:List Str}{scope:Scope}{cl:List (Str×Addr)}{C D it:Addr}{fp:List Addr}{s₂:Shared}{H₂:Hp}{tg elt iter:Expr}{ifs:List Expr}{pos:Pos}{J:It}{tn:Nat->Heap->Prop}
 {g:TG}{ti:TT}{te:TE}{R:Result->Shared->Prop}
theorem zGJ (hc:X.calm=true) (T:JW X.prog X.w X.K tg J fp it tn) (hg:PG (zn X vars scope cl C fp s₂ H₂) tg g) (hi:ZU (zn X vars scope cl C fp s₂ H₂) ifs ti) (he:PE (zn X vars scope cl C fp s₂ H₂) elt te)
  {σ0:St} (W:Nat->Nat->List V->Hp->Prop) {F:List V->Hp->Prop} (hD0:s₂.heap.objs.size <= D) (hDC:D≠C) (hDs:D∉frs X.stack) (hDc:∀ x c,cl.lookup x=some c->c≠D)
  (hS:∀ b∈fp,b≠C/\b∉frs X.stack/\(∀ x c,cl.lookup x=some c->c≠b)/\D≠b)
  (turn:∀ i m ys H2,W i m ys H2->ys.length <= sizeLine/\((J.stop i H2/\F ys H2) \/
   (J.go i H2/\∀ x H3,J.yld i H2 x H3->g x σ0 H3 fun σ2 H4=>Wk σ0 σ2/\ti σ2 H4 fun b H5 =>
    if b=true then te σ2 H5 fun y H6=>∃ m',m' < m/\W (i+1) m' (ys++[y]) H6 else ∃ m',m' < m/\W (i+1) m' ys H5)))
  (hR:∀ s' ys us n H2,Inv (zn X vars scope cl C fp s₂ H₂) [(D,JC us n)] σ0 H2 s'->zX ys us->ys.length <= sizeLine->F ys H2->R (.ok .next) s')
  {s:Shared}{m0:Nat}{n0:Nat}{H0:Hp} (I0:Inv (zn X vars scope cl C fp s₂ H₂) [(D,JC [] n0)] σ0 H0 s) (st0:tn 0 s.heap) (f0:∀ b∈fp,H0 b=none) (w0:W 0 m0 [] H0) :
  codeAny (model X.prog X.w) X.A (.compLoop (.ListComp elt [⟨tg,iter,ifs,0⟩] scope pos) 0 (.ref it) (.ref D) (compEnvC scope cl C X.env)) R s:=by
 have stat:∀ {H':Hp}{o:Obj},(∀ b∈fp,H' b=none)->∀ b∈fp,QW (zn X vars scope cl C fp s₂ H₂) [(D,o)] H' b:=fun {H' o} hn b hb =>
  ⟨hn b hb,(hS b hb).1,(hS b hb).2.1,.inl hb,(hS b hb).2.2.1,fun p hp=>by
   have e:p=(D,o):=by simpa using hp
   subst e
   exact (hS b hb).2.2.2⟩
 refine codeAny_loop rfl (fun n s=>∃ i ys us nn H',Inv (zn X vars scope cl C fp s₂ H₂) [(D,JC us nn)] σ0 H' s/\zX ys us/\tn i s.heap/\(∀ b∈fp,H' b=none)/\W i n ys H') (fun n s hI=>?_) m0 ⟨0,[],[],n0,H0,I0,.nil,st0,f0,w0⟩
 show wpAny _ X.A ((compTurn (.ListComp elt [⟨tg,iter,ifs,0⟩] scope pos) 0 (.ref it) (.ref D) (compEnvC scope cl C X.env)).onRaise (fun x=>do noteFrame x (compEnvC scope cl C X.env);theTreesLotGoes x)) _ _ s
 refine wpAny_noted ?_
 rw[compTurn_list]
 obtain⟨i,ys,us,nn,H',I,rv,st,fr,w⟩:=hI
 obtain⟨hz,tt⟩:=turn i n ys H' w
 refine wpAny_bind (wpAny_standAt (wpAny_bind ?_))
 rcases tt with ⟨stop,q⟩ | ⟨go,q⟩
 ·refine wpAny_mono (T.done (zn X vars scope cl C fp s₂ H₂) rfl rfl rfl hc i _ s σ0 H' _ I (stat fr) st stop) (fun r s1 ⟨hr,I1⟩=>?_) (fun _ _ e=>e)
  subst hr
  exact wpAny_pure (hR s1 ys us nn H' I1 rv hz q)
 ·refine wpAny_mono (T.item (zn X vars scope cl C fp s₂ H₂) rfl rfl rfl hc i _ s σ0 H' _ I (stat fr) st go) (fun r s1 ⟨u,hr,h1⟩=>?_) (fun _ _ e=>e)
  subst hr
  refine wpAny_bind (wpAny_mono h1 (fun _ s2 ⟨x,H3,I3,r3,y3,st3,fr3⟩=>?_) (fun _ _ e=>e))
  have I3':=I3.pinned (stat fr3) (T.obj _ _ st3)
  refine wpAny_bind (wpAny_mono (hg _ s2 σ0 H3 x u _ I3' r3 (q x H3 y3)) (fun _ s3 ⟨σ4,H4,I4,wk,q4⟩=>?_) (fun _ _ f=>False.elim f))
  refine wpAny_bind (wpAny_mono (hi _ s3 σ4 H4 _ I4 q4) (fun b s4 ⟨H5,I5,q5⟩=>?_) (fun _ _ f=>False.elim f))
  have back:∀ {s7:Shared}{H7:Hp}{o:Obj},Inv (zn X vars scope cl C fp s₂ H₂) ((D,o)::yw fp s2.heap) σ4 H7 s7->tn (i+1) s7.heap/\∀ b∈fp,H7 b=none:=fun {s7 H7 o} I7=>by
   refine⟨T.keep _ _ _ st3 fun b hb ob e=>(I7.pin (b,ob) (List.mem_append_right _ (List.mem_cons_of_mem _ (Z2 hb e)))).1,fun b hb=>?_⟩
   obtain⟨ob,e,d⟩:=T.obj _ _ st3 b hb
   exact (I7.pin (b,ob) (List.mem_append_right _ (List.mem_cons_of_mem _ (Z2 hb e)))).2.1
  have one:∀ {s7:Shared}{H7:Hp}{o:Obj},Inv (zn X vars scope cl C fp s₂ H₂) ((D,o)::yw fp s2.heap) σ4 H7 s7->Inv (zn X vars scope cl C fp s₂ H₂) [(D,o)] σ0 H7 s7:=fun {s7 H7 o} I7 =>
   (I7.pins_of (pins':=[(D,o)]) fun p hp=>by
    have e:p=(D,o):=by simpa using hp
    subst e
    exact I7.pin (D,o) (List.mem_append_right _ List.mem_cons_self)).weak wk.1 wk.2
  cases b with
  | false =>
   obtain⟨m',hm,w'⟩:=q5
   obtain⟨b1,b2⟩:=back I5
   exact wpAny_pure ⟨rfl,m',hm,i+1,ys,us,nn,H5,one I5,rv,b1,b2,w'⟩
  | true =>
   refine wpAny_bind (wpAny_bind (wpAny_mono (he _ s4 σ4 H5 _ I5 q5) (fun v s5 ⟨y,H6,I6,r6,q6⟩=>?_) (fun _ _ f=>False.elim f)))
   obtain⟨m',hm,w'⟩:=q6
   obtain⟨eD,nD,_,_,_⟩:=I6.pin (D,JC us nn) (List.mem_append_right _ List.mem_cons_self)
   have hul:us.toArray.size <= sizeLine:=by rw[List.size_toArray,<- rv.length];exact hz
   refine wpAny_bind (wpAny_list_append_plain (hsz:=hul) ⟨nn,eD⟩ fun h' hp hs=>wpAny_pure (wpAny_pure ⟨rfl,?_⟩))
   obtain⟨n',hp⟩:=hp
   have hp':h'.get? D=some (JC (us++[v]) n'):=by rw[hp];simp
   have I7:Inv (zn X vars scope cl C fp s₂ H₂) (yw fp s2.heap) σ4 H6 { s5 with heap:=h',toks:=s5.toks }:=by
    refine Inv.turned (it:=D) (I6.pins_of (pins':=yw fp s2.heap) fun p hp=>I6.pin p (List.mem_append_right _ (List.mem_cons_of_mem _ hp))) (fun b o hb e=>(hs.2 b hb).trans e) nD hDC (.inr hD0) (fun x c e=>hDc x c e) fun p hp=>?_
    have hp2:p∈yw fp s2.heap:=by simpa using hp
    exact Ne.symm (hS p.1 (zBs hp2).1).2.2.2
   have I8:Inv (zn X vars scope cl C fp s₂ H₂) ((D,JC (us++[v]) n')::yw fp s2.heap) σ4 H6 { s5 with heap:=h',toks:=s5.toks }:=I7.pins_of fun p hp=>by
    rcases List.mem_cons.mp hp with rfl | hp
    ·exact⟨hp',nD,hDC,hDs,fun v z=>by cases z⟩
    ·exact I7.pin p (List.mem_append_right _ hp)
   obtain⟨b1,b2⟩:=back I8
   exact⟨m',hm,i+1,ys++[y],us++[v],n',H6,one I8,rv.append (.cons r6 .nil),b1,b2,w'⟩
end
section
variable {X:Cx}{vars:List Str}{scope:Scope}{cl:List (Str×Addr)}{tg elt iter:Expr}{ifs:List Expr}{pos:Pos}{wi:TI}{g:TG}{ti:TT}{te:TE}
theorem zAb (hc:X.calm=true) (S:jJ X vars scope cl) (hg:∀ C fp s₂ H₂,PG (zn X vars scope cl C fp s₂ H₂) tg g) (ht:∀ C fp s₂ H₂,ZU (zn X vars scope cl C fp s₂ H₂) ifs ti)
  (he:∀ C fp s₂ H₂,PE (zn X vars scope cl C fp s₂ H₂) elt te) {pins:List (Addr×Obj)}{σ:St}{s2:Shared}{E:Value->Shared->Prop}{F:Addr->Hp->Prop}{RR:Value->Addr->Result->Shared->Prop}{itv:Value}
  (h2:PIE X pins σ tg (fun J H1=>∃ W:Nat->Nat->List V->Hp->Prop,(∃ m,W 0 m [] H1)/\∀ i m ys H2,W i m ys H2->ys.length <= sizeLine /\
   ((J.stop i H2/\∀ D,H2 D=none->F D (upd H2 D (.lst ys))) \/
    (J.go i H2/\∀ x H3,J.yld i H2 x H3->g x (σ++List.replicate vars.length none) H3 fun σ2 H4=>Wk (σ++List.replicate vars.length none) σ2/\ti σ2 H4 fun b H5 =>
     if b=true then te σ2 H5 fun y H6=>∃ m',m' < m/\W (i+1) m' (ys++[y]) H6 else ∃ m',m' < m/\W (i+1) m' ys H5))) itv s2)
  (hRR:∀ D C s' H',(∃ m,s'.heap.Ns C m)->C≠X.env.locals->(∀ x c,X.env.cells.lookup x=some c->c≠C)->Inv X pins σ H' s'->(∀ (h':Heap),Heap.SameBut C s'.heap h'->∀ (s'':Shared),s''={ s' with heap:=h' }->Inv X pins σ H' s'') ->
   (∀ (σ':St) (s3:Shared),Inv X pins σ' H' s3->(∃ a,Heap.SameBut a s'.heap s3.heap/\(a=X.env.locals\/∃ x,X.env.cells.lookup x=some a))->∀ (h':Heap),Heap.SameBut C s3.heap h'->Inv X pins σ' H' { s3 with heap:=h' }) ->
   F D H'->RR (.ref D) C (.ok .next) s') :
  wpAny (model X.prog X.w) X.A (newList []) (fun acc s₃=>wpAny (model X.prog X.w) X.A (newFunctionEnv scope X.env.globals cl [] X.env.qual none .none (some X.env)) (fun cenv s₄ =>
   codeAny (model X.prog X.w) X.A (.compStart (.ListComp elt [⟨tg,iter,ifs,0⟩] scope pos) 0 itv acc { cenv with scope:=relabel scope X.env }) (RR acc cenv.locals) s₄) E s₃) E s2:=by
 obtain⟨it,fp,tn,J,H2,e,I2,T,st2,f2,W,⟨m0,w0⟩,turn⟩:=h2
 subst e
 refine wpAny_newObj_type (wpAny_newFunctionEnv S.noCell (by intro y hy;simp at hy) (fun h₁ hns₁ hsb₁=>?_) S.kind)
 dsimp only at hns₁ hsb₁ ⊢
 generalize hH2:s2.heap.push { cls:=.type "list",dict:=none,data:=.seq ([]:List Value).toArray }=P2 at hns₁ hsb₁ ⊢
 have hC:P2.objs.size=s2.heap.objs.size+1:=by rw[<- hH2,Heap.size_push]
 have hDC:s2.heap.objs.size≠P2.objs.size:=by rw[hC];exact Nat.ne_of_lt (Nat.lt_succ_self _)
 have hCle:s2.heap.objs.size <= P2.objs.size:=by rw[hC];exact Nat.le_succ _
 have below:∀ b,b < s2.heap.objs.size->b≠P2.objs.size/\b≠s2.heap.objs.size:=fun b hb=>⟨by rw[hC];exact Nat.ne_of_lt (Nat.lt_succ_of_lt hb),Nat.ne_of_lt hb⟩
 have old:∀ b o,s2.heap.get? b=some o->h₁.get? b=some o:=fun b o e=>hsb₁.extBut b o (below b (Heap.lt_size e)).1 (Heap.get?_push_of_some _ (hH2 ▸ Heap.get?_push_of_some _ e))
 have hacc:h₁.get? s2.heap.objs.size=some (JC [] 0):=hsb₁.extBut _ _ hDC (Heap.get?_push_of_some _ (hH2 ▸ Heap.get?_push_size _ rfl))
 have hst₁:tn 0 h₁:=T.keep _ _ _ st2 fun b _ o e=>old b o e
 have hob:∀ b∈fp,∃ o,s2.heap.get? b=some o:=fun b hb=>by
  obtain⟨o,e,_⟩:=T.obj _ _ st2 b hb
  exact⟨o,e⟩
 have fpl:∀ b∈fp,b < s2.heap.objs.size:=fun b hb=>by
  obtain⟨o,e⟩:=hob b hb
  exact Heap.lt_size e
 have cget:∀ x c,cl.lookup x=some c->X.env.cells.lookup x=some c:=fun x c e=>S.cells.get e
 have celt:∀ x c,X.env.cells.lookup x=some c->c < s2.heap.objs.size:=fun x c e=>by
  obtain⟨v,q⟩:=I2.cell x c e
  exact q.lt
 have pint:∀ p∈X.pn++pins,p.1 < s2.heap.objs.size:=fun p hp=>Heap.lt_size (I2.pin p hp).1
 have fpst:∀ b∈fp,b∉frs X.stack:=fun b hb z=>by
  rcases List.mem_cons.mp (I2.stkSub b z) with e | e
  ·exact (f2 b hb).2.1 e
  ·exact (f2 b hb).2.2.1 e
 have nst:s2.heap.objs.size∉frs X.stack:=fun z=>by
  rcases List.mem_cons.mp (I2.stkSub _ z) with e | e
  ·exact absurd (e ▸ I2.lt) (Nat.lt_irrefl _)
  ·exact I2.nofs (Nat.le_refl _) e
 have CL:P2.objs.size≠X.env.locals:=fun z=>absurd (Nat.lt_of_lt_of_le (z ▸ I2.lt) hCle) (Nat.lt_irrefl _)
 have CC:∀ x c,X.env.cells.lookup x=some c->c≠P2.objs.size:=fun x c e=>Nat.ne_of_lt (Nat.lt_of_lt_of_le (celt x c e) hCle)
 have CP:∀ p∈X.pn++pins,p.1≠P2.objs.size:=fun p hp=>Nat.ne_of_lt (Nat.lt_of_lt_of_le (pint p hp) hCle)
 have loop:∀ s₃:Shared,s₃={ s2 with heap:=h₁,toks:=s2.toks+([]:List (Str×Value)).length } ->
   codeAny (model X.prog X.w) X.A (.compLoop (.ListComp elt [⟨tg,iter,ifs,0⟩] scope pos) 0 (.ref it) (.ref s2.heap.objs.size) (compEnvC scope cl P2.objs.size X.env)) (RR (.ref s2.heap.objs.size) P2.objs.size) s₃:=by
  rintro s₃ rfl
  have I0:Inv (zn X vars scope cl P2.objs.size fp s2 H2) [(s2.heap.objs.size,JC [] 0)] (σ++List.replicate vars.length none) H2 { s2 with heap:=h₁,toks:=s2.toks+([]:List (Str×Value)).length } :=
   zE7 I2 S f2 hob (Nat.le_refl _) hCle hDC hacc (fun v z=>by cases z) hns₁ old
  refine zGJ hc T (hg _ _ _ _) (ht _ _ _ _) (he _ _ _ _) (D:=s2.heap.objs.size) W (F:=fun ys H'=>∀ D,H' D=none->F D (upd H' D (.lst ys))) (Nat.le_refl _) hDC nst (fun x c e=>Nat.ne_of_lt (celt x c (cget x c e)))
   (fun b hb=>⟨(below b (fpl b hb)).1,fpst b hb,fun x c e z=>(f2 b hb).2.2.2.2.1 x c (cget x c e) z,Nat.ne_of_gt (fpl b hb)⟩) turn ?_ I0 hst₁ (fun b hb=>(f2 b hb).1) w0
  intro s' ys us n H' I' rv hz q
  obtain⟨eD,nD,_,_,_⟩:=I'.pin (s2.heap.objs.size,JC us n) (List.mem_append_right _ List.mem_cons_self)
  have J1:Inv X pins σ H' s':=I2.call' I'.os I'.base I'.hok I'.bare (fun b hb=>⟨(f2 b hb).2.2.2.1,(f2 b hb).2.1,(f2 b hb).2.2.2.2.1,(f2 b hb).2.2.2.2.2⟩) I'.tk
  have J2:Inv X pins σ (upd H' s2.heap.objs.size (.lst ys)) s':=J1.track I2.sz nD (fun z=>absurd (z ▸ I2.lt) (Nat.lt_irrefl _)) (fun x c e=>Nat.ne_of_lt (celt x c e)) (fun p hp=>Nat.ne_of_lt (pint p hp)) ⟨hz,us,n,rv,eD⟩
  have nC:upd H' s2.heap.objs.size (.lst ys) P2.objs.size=none:=by
   rw[zV (Ne.symm hDC)]
   exact I'.free
  refine hRR _ _ s' _ ?_ CL CC J2 (fun h' hs s'' e=>?_) (fun σ' s3 I3 _ h' hs=>?_) (q _ nD)
  ·obtain⟨m,hn,_⟩:=I'.loc
   exact⟨m,hn⟩
  ·subst e
   exact J2.turned (t':=s'.toks) (it:=P2.objs.size) (fun b o hb e=>(hs.2 b hb).trans e) nC CL (.inr (Nat.le_trans I2.sz hCle)) CC CP
  ·exact I3.turned (t':=s3.toks) (it:=P2.objs.size) (fun b o hb e=>(hs.2 b hb).trans e) nC CL (.inr (Nat.le_trans I2.sz hCle)) CC CP
 exact codeAny_compStart_list (loop _ rfl) (T.self _ 0 _ _ _ hst₁ (loop _ rfl))
theorem zEA (hc:X.calm=true) (S:jJ X vars scope cl) (hi:PI X tg iter wi) (hg:∀ C fp s₂ H₂,PG (zn X vars scope cl C fp s₂ H₂) tg g) (ht:∀ C fp s₂ H₂,ZU (zn X vars scope cl C fp s₂ H₂) ifs ti)
  (he:∀ C fp s₂ H₂,PE (zn X vars scope cl C fp s₂ H₂) elt te) (hs:∀ x,foldedSetIterable iter X.env x=pure x:=by intro _;rfl):PE X (.ListComp elt [⟨tg,iter,ifs,0⟩] scope pos) (zE6 vars.length wi g ti te):=by
 intro pins s σ H Q I h
 rw[eval_ListComp]
 refine wpAny_comprehension_free (use:=none) rfl hs S.clos S.kind S.names (thn (hi pins s σ H _ I h) fun v s1 h1=>thn h1 fun itv s2 h2=>?_)
 refine zAb hc S hg ht he (F:=fun D H'=>Q (.ref D) H') h2 fun D C s' H' hn hCL hCC J2 J3 _ q=>?_
 obtain⟨m,hn⟩:=hn
 exact⟨m,hn,fun h' hs'=>⟨.ref D,H',J3 h' hs' _ rfl,rfl,q⟩⟩
theorem zEz {i:Nat}{y:Str}{py spos:Pos} (hc:X.calm=true) (S:jJ X vars scope cl) (hN:X.N.Nodup) (hiy:X.N[i]? = some y) (hy:Loc X.env.scope y) (hi:PI X tg iter wi)
  (hg:∀ C fp s₂ H₂,PG (zn X vars scope cl C fp s₂ H₂) tg g) (ht:∀ C fp s₂ H₂,ZU (zn X vars scope cl C fp s₂ H₂) ifs ti)
  (he:∀ C fp s₂ H₂,PE (zn X vars scope cl C fp s₂ H₂) elt te) (hs:∀ x,foldedSetIterable iter X.env x=pure x:=by intro _;rfl)
  (hsw:swapsWith (.ListComp elt [⟨tg,iter,ifs,0⟩] scope pos) (some (.Name y py)) spos.line X.env=pure true:=by rfl)
  (hf:X.fn y=true\/X.env.scope.names.lookup y=some .local:=by first | exact .inl rfl | exact .inr rfl | assumption) :
  PS X (.Assign [.Name y py] (.ListComp elt [⟨tg,iter,ifs,0⟩] scope pos) spos) (zHH (zE6 vars.length wi g ti te) (ze i)):=by
 intro pins s σ H D0 I h
 rw[exec_Assign_Name_used _ _ _ _ hsw]
 refine wpAny_bind (wpAny_standAt (wpAny_bind ?_))
 show wpAny _ X.A (do let _ <- comprehension (.ListComp elt [⟨tg,iter,ifs,0⟩] scope pos) scope X.env _ (newList []) false (eval iter X.env) (some (assign (.Name y py) X.env))) _ _ s
 refine wpAny_bind (wpAny_mono (wpAny_comprehension_free (use:=some (assign (.Name y py) X.env)) (Q:=fun _ s'=>SP X pins D0 .next s') rfl hs S.clos S.kind S.names
  (thn (hi pins s σ H _ I h) fun v s1 h1=>thn h1 fun itv s2 h2=>?_)) (fun _ s' hq=>wpAny_pure (wpAny_pure hq)) fun _ _ e=>e)
 refine zAb hc S hg ht he (F:=fun D H'=>D0.nx (σ.set i (some (.ref D))) H') h2 fun D C s' H' hn hCL hCC J2 _ J4 q=>?_
 obtain⟨m,hn⟩:=hn
 show wpAny _ X.A (assign (.Name y py) X.env (.ref D)) _ _ _
 refine wpAny_assign_Name (zBp J2 hN hiy hy (v:=.ref D) rfl (fun s3 I3 ⟨a,hsb,ha⟩=>?_) hf)
 have hCa:C≠a:=by
  rcases ha with rfl | ha
  ·exact hCL
  ·exact Ne.symm (hCC y a ha)
 refine⟨m,hn.sameBut hsb hCa,fun h' hs'=>⟨σ.set i (some (.ref D)),H',J4 _ s3 I3 ⟨a,hsb,?_⟩ h' hs',q⟩⟩
 rcases ha with rfl | ha
 ·exact .inl rfl
 ·exact .inr ⟨y,ha⟩
end
end L2
namespace L2
open PySem PySem.Spec PyProof.Rows
noncomputable def Its (z:Str):It:=⟨fun i _=>i < z.length,fun i H x H'=>H'=H/\∃ c,z.cps[i]? = some c/\x=.str ⟨#[c]⟩,fun i _=>z.length <= i⟩
theorem zF0 {P:Program}{w:World}{K:PySem.W.Frag}{tg:Expr} (it:Addr) (z:Str) (t:Tok):JW P w K tg (Its z) [it] it (fun i h=>h.IsStrIter it "str_ascii_iterator" z t i) where
 mem:=by simp
 obj:=fun i h st b hb=>by
  have e:b=it:=by simpa using hb
  subst e
  obtain⟨o,e,c,d⟩:=st
  exact⟨o,e,fun v z=>by rw[d] at z;cases z⟩
 keep:=fun i h h' st k=>let ⟨o,ho,r⟩:=st;⟨o,k it (by simp) o ho,r⟩
 item:=by
  intro X hP hw hK hc i pins s σ H E I hf st hg
  subst hP hw hK
  obtain⟨f0,f1,f2,f3,f4,f5⟩:=hf it (by simp)
  have hlt:i < z.cps.size:=hg
  refine wpAny_pyNext_ascii_item st (c:=z.cps[i]) (by simp[hlt]) fun h' st' sb=>?_
  have I1:Inv X pins σ H { s with heap:=h',toks:=s.toks+1 }:=I.turned (fun b o hb e=>(sb.2 b hb).trans e) f0 f1 f3 f4 f5
  obtain⟨o,e,c,d⟩:=id st'
  exact⟨_,rfl,zAd (s:={ s with heap:=h',toks:=s.toks+1 }) e c d (by decide) ⟨.str ⟨#[z.cps[i]]⟩,H,I1,⟨_,rfl⟩,⟨rfl,z.cps[i],by simp[hlt],rfl⟩,st',fun b hb=>(hf b hb).1⟩⟩
 done:=by
  intro X hP hw hK hc i pins s σ H E I hf st hg
  subst hP hw hK
  obtain⟨f0,f1,f2,f3,f4,f5⟩:=hf it (by simp)
  have hle:z.cps.size <= i:=hg
  exact wpAny_pyNext_ascii_end (I.ok.hd hc) st (by simp[hle]) fun h' eb=>⟨rfl,I.turned (t':=s.toks) (fun b o hb e=>eb b o hb e) f0 f1 f3 f4 f5⟩
 self:=fun _ _ _ _ _ st h=>wpAny_pyIter_striter_ascii st h
theorem zFu {P:Program}{w:World}{K:PySem.W.Frag}{tg:Expr} (it:Addr) (z:Str) (t:Tok):JW P w K tg (Its z) [it] it (fun i h=>h.IsStrIter it "str_iterator" z t i) where
 mem:=by simp
 obj:=fun i h st b hb=>by
  have e:b=it:=by simpa using hb
  subst e
  obtain⟨o,e,c,d⟩:=st
  exact⟨o,e,fun v z=>by rw[d] at z;cases z⟩
 keep:=fun i h h' st k=>let ⟨o,ho,r⟩:=st;⟨o,k it (by simp) o ho,r⟩
 item:=by
  intro X hP hw hK hc i pins s σ H E I hf st hg
  subst hP hw hK
  obtain⟨f0,f1,f2,f3,f4,f5⟩:=hf it (by simp)
  have hlt:i < z.cps.size:=hg
  refine wpAny_pyNext_wide_item st (c:=z.cps[i]) (by simp[hlt]) fun h' st' sb=>?_
  have I1:Inv X pins σ H { s with heap:=h',toks:=s.toks+1 }:=I.turned (fun b o hb e=>(sb.2 b hb).trans e) f0 f1 f3 f4 f5
  obtain⟨o,e,c,d⟩:=id st'
  exact⟨_,rfl,zAd (s:={ s with heap:=h',toks:=s.toks+1 }) e c d (by decide) ⟨.str ⟨#[z.cps[i]]⟩,H,I1,⟨_,rfl⟩,⟨rfl,z.cps[i],by simp[hlt],rfl⟩,st',fun b hb=>(hf b hb).1⟩⟩
 done:=by
  intro X hP hw hK hc i pins s σ H E I hf st hg
  subst hP hw hK
  obtain⟨f0,f1,f2,f3,f4,f5⟩:=hf it (by simp)
  have hle:z.cps.size <= i:=hg
  exact wpAny_pyNext_wide_end (I.ok.hd hc) st (by simp[hle]) fun h' eb=>⟨rfl,I.turned (t':=s.toks) (fun b o hb e=>eb b o hb e) f0 f1 f3 f4 f5⟩
 self:=fun _ _ _ _ _ st h=>wpAny_pyIter_striter_wide st h
noncomputable def zL4 (tl:TE):TI:=fun σ H R=>tl σ H fun x H1=>∃ z,x=.str z/\R (Its z) H1
theorem zKO {X:Cx}{tg l:Expr}{tl:TE} (hl:PE X l tl):PI X tg l (zL4 tl):=by
 intro pins s σ H R I h
 refine thn (hl pins s σ H _ I h) fun v s1 ⟨x,H1,I1,r1,q1⟩=>?_
 obtain⟨z,e,q⟩:=q1
 subst e
 obtain⟨t,rfl⟩:=r1
 have fin:∀ b∈[s1.heap.objs.size],QW X pins H1 b:=fun b hb=>by
  have e:b=s1.heap.objs.size:=by simpa using hb
  subst e
  exact I1.fpOk (Nat.le_refl _) (I1.hok.fresh (Nat.le_refl _))
 cases ha:z.cps.all (· < 128)
 ·refine wpAny_pyIter_wide ha ?_
  exact⟨s1.heap.objs.size,[s1.heap.objs.size],_,Its z,H1,rfl,I1.kept (t':=s1.toks) fun b o e=>Heap.get?_push_of_some _ e,zFu _ z t,⟨_,Heap.get?_push_size _ rfl,rfl,rfl⟩,fin,q⟩
 ·refine wpAny_pyIter_ascii ha ?_
  exact⟨s1.heap.objs.size,[s1.heap.objs.size],_,Its z,H1,rfl,I1.kept (t':=s1.toks) fun b o e=>Heap.get?_push_of_some _ e,zF0 _ z t,⟨_,Heap.get?_push_size _ rfl,rfl,rfl⟩,fin,q⟩
section
variable {X:Cx}
theorem zFP:OpR X (compareOp .LtE) (fun x y H Q=>∃ i j,x=.str i/\y=.str j/\Q (.bl (!decide (j.cps.toList < i.cps.toList))) H):=by
 intro pins s σ H x y v u Q I rx ry h
 obtain⟨i,j,rfl,rfl,q⟩:=h
 obtain⟨t,rfl⟩:=rx
 obtain⟨t',rfl⟩:=ry
 exact PySem.P.le_str (jB I q rfl)
noncomputable def zBT (z:Str) (lo hi:Option Int):Str:=⟨((z.cps.toList.drop (HT.sIx z.length 0 lo)).take (HT.sIx z.length z.length hi - HT.sIx z.length 0 lo)).toArray⟩
theorem zDM (lo hi:Option Int) (n:Nat):Builtin.Str.strSliceIndices lo hi 1 n=(List.range (HT.sIx n n hi - HT.sIx n 0 lo)).map fun k=>HT.sIx n 0 lo+k:=by
 have clip:∀ v:Int,max 0 (min (if v < 0 then v+(n:Int) else v) (n:Int))=((HT.sIx n 0 (some v):Nat):Int)/\max 0 (min (if v < 0 then v+(n:Int) else v) (n:Int))=((HT.sIx n n (some v):Nat):Int):=fun v=>by
  unfold HT.sIx
  by_cases hv:v < 0
  ·simp only[if_pos hv];omega
  ·simp only[if_neg hv];omega
 have key:∀ a b:Nat,sliceRange (a:Int) (b:Int) 1=(List.range (b - a)).map fun k=>a+k:=fun a b=>by
  unfold sliceRange
  have hc:(if (1:Int) > 0 then (if (a:Int) < (b:Int) then ((b:Int) - a+1 - 1) / 1 else 0) else (if (a:Int) > (b:Int) then ((a:Int) - b - 1 - 1) / (-1) else 0)).toNat=b - a:=by
   rw[if_pos (by decide)]
   by_cases h:(a:Int) < (b:Int)
   ·rw[if_pos h,Int.ediv_one];omega
   ·rw[if_neg h];omega
  dsimp only
  rw[hc]
  refine List.map_congr_left fun k _=>?_
  omega
 unfold Builtin.Str.strSliceIndices
 cases lo with
 | none =>
  cases hi with
  | none=>exact key 0 n
  | some v =>
   simp only[show (1:Int) > 0 by decide,if_true]
   rw[(clip v).2]
   exact key 0 _
 | some u =>
  cases hi with
  | none =>
   simp only[show (1:Int) > 0 by decide,if_true]
   rw[(clip u).1]
   exact key _ n
  | some v =>
   simp only[show (1:Int) > 0 by decide,if_true]
   rw[(clip u).1,(clip v).2]
   exact key _ _
theorem zIf {α:Type} (xs:Array α) (a m:Nat):((List.range m).map fun k=>a+k).filterMap (xs[·]?)=(xs.toList.drop a).take m:=by
 rw[List.filterMap_map]
 induction m generalizing a with
 | zero=>simp
 | succ m ih =>
  rw[List.range_succ,List.filterMap_append,ih,List.take_succ]
  congr 1
  simp only[List.filterMap_cons,List.filterMap_nil,Function.comp]
  rw[List.getElem?_drop,Array.getElem?_toList]
  cases xs[a+m]?<;>rfl
theorem zFe (z:Str) (lo hi:Option Int):Txt.slice z lo hi=zBT z lo hi:=by
 have h1:=HT.zCu z.length 0 (Nat.zero_le _) lo
 have h2:=HT.zCu z.length z.length (Nat.le_refl _) hi
 unfold Txt.slice zBT
 rw[zDM,zIf]
 split
 ·rename_i h
  rw[List.length_map,List.length_range] at h
  have h3:HT.sIx z.length z.length hi - HT.sIx z.length 0 lo=z.length:=by
   have h':=(Bool.and_eq_true_iff.mp h).2
   exact eq_of_beq h'
  have e1:HT.sIx z.length 0 lo=0:=by omega
  rw[h3,e1,List.drop_zero]
  have hl:z.cps.toList.length=z.length:=by simp[Str.length]
  rw[List.take_of_length_le (by omega)]
 ·rfl
noncomputable def zMH:V->Option Int->Option Int->Hp->VK->Prop:=fun x lo hi H Q=>∃ z,x=.str z/\z.length <= sizeLine/\Q (.str (zBT z lo hi)) H
theorem zJN:SlR X zMH:=by
 intro pins s σ H x v vl vu lo hi sl Q I rx hs pl pu h
 obtain⟨z,rfl,hz,q⟩:=h
 obtain⟨t,rfl⟩:=rx
 refine⟨"str",_,F.slot_str_getitem.lookup,typeIs_str _ _ _,wpAny_with_toks (n:=1) I.tk ?_⟩
 obtain⟨o,ho,hc,hd⟩:=hs
 have fin:(Txt.slice z lo hi).length <= sizeLine/\∀ t' k,1 <= ({ s with toks:=k }:Shared).toks->EP X pins σ Q (.str (Txt.slice z lo hi) t') { s with toks:=k } :=
  ⟨Nat.le_trans (Txt.slice_le z lo hi) hz,fun t' k hk=>⟨.str (Txt.slice z lo hi),H,I.tok k hk,⟨_,rfl⟩,by rw[zFe];exact q⟩⟩
 cases pl with
 | none =>
  cases pu with
  | none=>exact wpAny_getItem_str_slice (l:=none) (u:=none) (st:=none) ⟨o,ho,hc,hd⟩ rfl (post_val_or_str fin)
  | int j uj=>exact wpAny_getItem_str_slice (l:=none) (u:=some (j,uj)) (st:=none) ⟨o,ho,hc,hd⟩ rfl (post_val_or_str fin)
 | int i ui =>
  cases pu with
  | none=>exact wpAny_getItem_str_slice (l:=some (i,ui)) (u:=none) (st:=none) ⟨o,ho,hc,hd⟩ rfl (post_val_or_str fin)
  | int j uj=>exact wpAny_getItem_str_slice (l:=some (i,ui)) (u:=some (j,uj)) (st:=none) ⟨o,ho,hc,hd⟩ rfl (post_val_or_str fin)
theorem zAr {ys:List Str}:∀ {us:List Value},zX (ys.map V.str) us->StrsAre us ys:=by
 induction ys with
 | nil=>intro us r;rw[List.map_nil] at r;cases r;exact .nil
 | cons y ys ih =>
  intro us r
  rw[List.map_cons] at r
  cases r with
  | cons r1 r2 =>
   obtain⟨t,e⟩:=r1
   subst e
   exact .cons y t (ih r2)
noncomputable def zCV (K:PySem.W.Frag):V->List V->Hp->VK->Prop:=fun x vs H Q=>∃ z p ys,x=.str z/\vs=[.ref p]/\(SqL K H p (ys.map V.str)\/SqT K H p (ys.map V.str))/\(ys.map (·.length)).sum+ys.length * z.length <= 16777216/\Q (.str (Txt.join z ys)) H
theorem zH3:MtR X "str.join" (zCV X.K):=by
 intro pins s σ H x vs v us Q I rx rv h
 obtain⟨z,p,ys,rfl,rfl,hq,hz,q⟩:=h
 obtain⟨t,rfl⟩:=rx
 obtain⟨u,rfl,ru⟩:=Zm rv
 cases ru
 rcases hq with hq | hq
 ·obtain⟨its,r,pl,_⟩:=I.list hq
  exact wpAny_with_toks (n:=1) I.tk (join_list pl.isList (by simpa using zAr r) hz fun t' k hk=>⟨.str (Txt.join z ys),H,I.tok k hk,⟨_,rfl⟩,q⟩)
 ·obtain⟨its,r,pl,_⟩:=I.tuple hq
  exact wpAny_with_toks (n:=1) I.tk (join_tuple pl (by simpa using zAr r) hz fun t' k hk=>⟨.str (Txt.join z ys),H,I.tok k hk,⟨_,rfl⟩,q⟩)
end
end L2
namespace L2
open PySem PySem.Spec PyProof.Rows PySem.Builtin.Str
section
variable {X:Cx}
theorem zEc:OpR X (binaryOp .Mult) (fun x y H Q=>∃ z n,x=.str z/\y=.int n/\MulOk z n/\Q (.str (Txt.mul z n)) H):=by
 intro pins s σ H x y v u Q I rx ry h
 obtain⟨z,n,rfl,rfl,hm,q⟩:=h
 obtain⟨t,rfl⟩:=rx
 obtain⟨t',rfl⟩:=ry
 exact wpAny_with_toks (n:=1) I.tk (SB.mul hm fun t' k hk=>⟨.str _,H,I.tok k hk,⟨_,rfl⟩,q⟩)
end
mutual
inductive ju (K:PySem.W.Frag) (H:Hp):V->PyData->Prop
 | non:ju K H .non .none
 | bl (b:Bool):ju K H (.bl b) (.bool b)
 | int (i:Int):ju K H (.int i) (.int i)
 | str (x:Str):ju K H (.str x) (.str x)
 | lst {p:Addr}{xs:List V}{ds:List PyData}:SqL K H p xs->yh K H xs ds->ju K H (.ref p) (.list ds)
 | tup {p:Addr}{xs:List V}{ds:List PyData}:SqT K H p xs->yh K H xs ds->ju K H (.ref p) (.tuple ds)
inductive yh (K:PySem.W.Frag) (H:Hp):List V->List PyData->Prop
 | nil:yh K H [] []
 | cons {v:V}{d:PyData}{vs:List V}{ds:List PyData}:ju K H v d->yh K H vs ds->yh K H (v::vs) (d::ds)
end
section
variable {X:Cx}{pins:List (Addr×Obj)}{σ:St}{H:Hp}{s:Shared}
mutual
theorem ju.reads (I:Inv X pins σ H s):∀ {v:V}{d:PyData}{u:Value},ju X.K H v d->zY v u->∃ as,Reads s.heap u d as
 | _,_,_,.non,r=>by cases r;exact⟨_,.none⟩
 | _,_,_,.bl b,r=>by cases r;exact⟨_,.bool b⟩
 | _,_,_,.int i,r=>by obtain⟨t,rfl⟩:=r;exact⟨_,.int i t⟩
 | _,_,_,.str x,r=>by obtain⟨t,rfl⟩:=r;exact⟨_,.str x t⟩
 | _,_,_,.lst hq ha,r=>by
  cases r
  obtain⟨its,rv,⟨o,n,e,hc,hd,hs⟩,_⟩:=I.list hq
  obtain⟨as,ra⟩:=yh.reads I ha rv
  exact⟨_,.list e hc hs (by simpa using ra)⟩
 | _,_,_,.tup hq ha,r=>by
  cases r
  obtain⟨its,rv,⟨o,e,hc,n,hs⟩,_⟩:=I.tuple hq
  obtain⟨as,ra⟩:=yh.reads I ha rv
  exact⟨_,.tuple e hc hs (by simpa using ra)⟩
theorem yh.reads (I:Inv X pins σ H s):∀ {vs:List V}{ds:List PyData}{us:List Value},yh X.K H vs ds->zX vs us->∃ as,ReadsAll s.heap us ds as
 | _,_,_,.nil,r=>by cases r;exact⟨_,.nil⟩
 | _,_,_,.cons h t,r=>by
  cases r with
  | cons r1 r2 =>
   obtain⟨as,ra⟩:=ju.reads I h r1
   obtain⟨bs,rb⟩:=yh.reads I t r2
   exact⟨_,.cons ra rb⟩
end
end
section
variable {X:Cx}
noncomputable def zGj (K:PySem.W.Frag) (neg:Bool):R2:=fun x y H Q=>∃ d e,ju K H x d/\ju K H y e/\SeqAt.shaped d=true/\SeqAt.shaped e=true/\Q (.bl (if neg then !PyData.eqv d e else PyData.eqv d e)) H
theorem zJu {k:Nat} (hr:zy k X.A):OpR X (compareOp .Eq) (zGj X.K false):=by
 intro pins s σ H x y v u Q I rx ry h
 obtain⟨d,e,hd,he,sd,se,q⟩:=h
 obtain⟨as,ra⟩:=hd.reads I rx
 obtain⟨bs,rb⟩:=he.reads I ry
 exact eq_dataH ra rb sd se hr.units ⟨.bl _,H,I,rfl,q⟩
theorem zJk {k:Nat} (hr:zy k X.A):OpR X (compareOp .NotEq) (zGj X.K true):=by
 intro pins s σ H x y v u Q I rx ry h
 obtain⟨d,e,hd,he,sd,se,q⟩:=h
 obtain⟨as,ra⟩:=hd.reads I rx
 obtain⟨bs,rb⟩:=he.reads I ry
 exact ne_dataH ra rb sd se hr.units ⟨.bl _,H,I,rfl,q⟩
where RelC:V->Value->Prop:=fun c cv=>(∃ n,c=.ty n/\cv=.type n)\/∃ a,c=.ref a/\cv=.ref a
end
end L2
namespace L2
open PySem PySem.Spec PyProof.Rows
section
variable {X:Cx}
noncomputable def zGR:R2:=fun x y H Q=>match x,y with
 | .int i,.int j=>Q (.int (i+j)) H
 | .str a,.str b=>a.length+b.length <= sizeLine/\Q (.str (a++b)) H
 | .ref l,.ref b=>∃ xs zs,H l=some (.lst xs)/\H b=some (.lst zs)/\xs.length+zs.length <= sizeLine/\∀ p,H p=none->Q (.ref p) (upd H p (.lst (xs++zs)))
 | _,_=>False
theorem jy:OpR X (binaryOp .Add) zGR:=by
 intro pins s σ H x y v u Q I rx ry h
 cases x with
 | int i =>
  cases y with
  | int j=>exact zJK pins s σ H _ _ v u Q I rx ry ⟨i,j,rfl,rfl,h⟩
  | _=>exact False.elim h
 | str a =>
  cases y with
  | str b=>exact zEf pins s σ H _ _ v u Q I rx ry ⟨a,b,rfl,rfl,h⟩
  | _=>exact False.elim h
 | ref l =>
  cases y with
  | ref b =>
   obtain⟨xs,zs,h1,h2,h3,h4⟩:=h
   exact zKZ pins s σ H _ _ v u Q I rx ry ⟨l,b,xs,zs,rfl,rfl,h1,h2,h3,h4⟩
  | _=>exact False.elim h
 | _=>exact False.elim h
noncomputable def zJF:R2:=fun x y H Q=>match x,y with
 | .int i,.int j=>Q (.int (i - j)) H
 | _,_=>False
theorem zHs:OpR X (binaryOp .Sub) zJF:=by
 intro pins s σ H x y v u Q I rx ry h
 cases x with
 | int i =>
  cases y with
  | int j=>exact zJn pins s σ H _ _ v u Q I rx ry ⟨i,j,rfl,rfl,h⟩
  | _=>exact False.elim h
 | _=>exact False.elim h
noncomputable def zKl:R2:=fun x y H Q=>match x,y with
 | .int i,.int j=>zEd i j/\Q (.int (i * j)) H
 | .str z,.int n=>MulOk z n/\Q (.str (Txt.mul z n)) H
 | _,_=>False
theorem zLS:OpR X (binaryOp .Mult) zKl:=by
 intro pins s σ H x y v u Q I rx ry h
 cases x with
 | int i =>
  cases y with
  | int j=>exact zJV pins s σ H _ _ v u Q I rx ry ⟨i,j,rfl,rfl,h⟩
  | _=>exact False.elim h
 | str z =>
  cases y with
  | int n=>exact zEc pins s σ H _ _ v u Q I rx ry ⟨z,n,rfl,rfl,h⟩
  | _=>exact False.elim h
 | _=>exact False.elim h
noncomputable def zJf:R2:=fun x y H Q=>match x,y with
 | .int i,.int j=>0 < j/\Q (.int (i % j)) H
 | _,_=>False
theorem j8:OpR X (binaryOp .Mod) zJf:=by
 intro pins s σ H x y v u Q I rx ry h
 cases x with
 | int i =>
  cases y with
  | int j=>exact zJ4 pins s σ H _ _ v u Q I rx ry ⟨i,j,rfl,rfl,h⟩
  | _=>exact False.elim h
 | _=>exact False.elim h
noncomputable def zJx:R2:=fun x y H Q=>match x,y with
 | .int i,.int j=>(0 < j/\j < 1073741824)/\Q (.int (i / j)) H
 | _,_=>False
theorem qo:OpR X (binaryOp .FloorDiv) zJx:=by
 intro pins s σ H x y v u Q I rx ry h
 cases x with
 | int i =>
  cases y with
  | int j=>exact zIF pins s σ H _ _ v u Q I rx ry ⟨i,j,rfl,rfl,h⟩
  | _=>exact False.elim h
 | _=>exact False.elim h
noncomputable def uLt:R2:=fun x y H Q=>match x,y with
 | .int i,.int j=>Q (.bl (decide (i < j))) H
 | .str i,.str j=>Q (.bl (decide (i.cps.toList < j.cps.toList))) H
 | _,_=>False
theorem zHT:OpR X (compareOp .Lt) uLt:=by
 intro pins s σ H x y v u Q I rx ry h
 cases x with
 | int i =>
  cases y with
  | int j=>exact zLM pins s σ H _ _ v u Q I rx ry ⟨i,j,rfl,rfl,h⟩
  | _=>exact False.elim h
 | str i =>
  cases y with
  | str j=>exact zFD pins s σ H _ _ v u Q I rx ry ⟨i,j,rfl,rfl,h⟩
  | _=>exact False.elim h
 | _=>exact False.elim h
noncomputable def uLe:R2:=fun x y H Q=>match x,y with
 | .int i,.int j=>Q (.bl (decide (i <= j))) H
 | .str i,.str j=>Q (.bl (!decide (j.cps.toList < i.cps.toList))) H
 | _,_=>False
theorem zJR:OpR X (compareOp .LtE) uLe:=by
 intro pins s σ H x y v u Q I rx ry h
 cases x with
 | int i =>
  cases y with
  | int j=>exact zLa pins s σ H _ _ v u Q I rx ry ⟨i,j,rfl,rfl,h⟩
  | _=>exact False.elim h
 | str i =>
  cases y with
  | str j=>exact zFP pins s σ H _ _ v u Q I rx ry ⟨i,j,rfl,rfl,h⟩
  | _=>exact False.elim h
 | _=>exact False.elim h
noncomputable def uGt:R2:=fun x y H Q=>match x,y with
 | .int i,.int j=>Q (.bl (decide (j < i))) H
 | _,_=>False
theorem zLu:OpR X (compareOp .Gt) uGt:=by
 intro pins s σ H x y v u Q I rx ry h
 cases x with
 | int i =>
  cases y with
  | int j=>exact zLE pins s σ H _ _ v u Q I rx ry ⟨i,j,rfl,rfl,h⟩
  | _=>exact False.elim h
 | _=>exact False.elim h
noncomputable def uIn (K:PySem.W.Frag) (neg:Bool):R2:=fun x y H Q=>match x,y with
 | .str i,.str j=>Q (.bl (xor neg (!(Builtin.Str.occurrences j i 0 j.length 1).isEmpty))) H
 | x,.ref p=>∃ xs,(SqL K H p xs\/SqT K H p xs)/\qp x=true/\xs.all qp=true/\Q (.bl (xor neg (inV x xs))) H
 | _,_=>False
theorem zIC:OpR X (compareOp .NotIn) (uIn X.K true):=by
 intro pins s σ H x y v u Q I rx ry h
 cases y with
 | str j =>
  cases x with
  | str i =>
   have h':Q (.bl (xor true (!(Builtin.Str.occurrences j i 0 j.length 1).isEmpty))) H:=h
   rw[Bool.true_xor] at h'
   exact zDf pins s σ H _ _ v u Q I rx ry ⟨i,j,rfl,rfl,h'⟩
  | _=>exact False.elim h
 | ref p =>
  have h':∃ xs,(SqL X.K H p xs\/SqT X.K H p xs)/\qp x=true/\xs.all qp=true/\Q (.bl (xor true (inV x xs))) H:=by cases x<;>exact h
  obtain⟨xs,h1,h2,h3,h4⟩:=h'
  rw[Bool.true_xor] at h4
  exact zCe pins s σ H _ _ v u Q I rx ry ⟨p,xs,rfl,h1,h2,h3,h4⟩
 | _=>cases x<;>exact False.elim h
noncomputable def uIx (K:PySem.W.Frag):R2:=fun x y H Q=>match x,y with
 | .str z,.int i=>∃ c,z.length <= sizeLine/\atI z.cps.toList i=some c/\Q (.str ⟨#[c]⟩) H
 | .ref p,.int i=>∃ xs v,(SqL K H p xs\/SqT K H p xs)/\atI xs i=some v/\Q v H
 | _,_=>False
theorem zMJ:IxR X (uIx X.K):=by
 intro value slice pins s σ H x y v u Q I rx ry h hs
 cases x with
 | str z =>
  cases y with
  | int i =>
   obtain⟨c,h1,h2,h3⟩:=h
   exact zJ6 value slice pins s σ H _ _ v u Q I rx ry ⟨z,i,c,rfl,rfl,h1,h2,h3⟩ hs
  | _=>exact False.elim h
 | ref p =>
  cases y with
  | int i =>
   obtain⟨xs,c,h1 | h1,h2,h3⟩:=h
   ·exact zIv value slice pins s σ H _ _ v u Q I rx ry ⟨p,xs,i,c,rfl,rfl,h1,h2,h3⟩ hs
   ·exact zJi value slice pins s σ H _ _ v u Q I rx ry ⟨p,xs,i,c,rfl,rfl,h1,h2,h3⟩ hs
  | _=>exact False.elim h
 | _=>exact False.elim h
noncomputable def uSl (K:PySem.W.Frag):V->Option Int->Option Int->Hp->VK->Prop:=fun x lo hi H Q=>match x with
 | .str z=>z.length <= sizeLine/\Q (.str (zBT z lo hi)) H
 | .ref a=>(∃ xs,SqL K H a xs/\∀ p,H p=none->Q (.ref p) (upd H p (.lst (Qc xs lo hi)))) \/
   (∃ xs,SqT K H a xs /\ ¬ (HT.sIx xs.length 0 lo=0/\HT.sIx xs.length xs.length hi=xs.length)/\∀ p,H p=none->Q (.ref p) (upd H p (.tup (Qc xs lo hi))))
 | _=>False
theorem zLv:SlR X (uSl X.K):=by
 intro pins s σ H x v vl vu lo hi sl Q I rx hs pl pu h
 cases x with
 | str z=>exact zJN pins s σ H _ v vl vu lo hi sl Q I rx hs pl pu ⟨z,rfl,h⟩
 | ref a =>
  rcases h with ⟨xs,h1,h2⟩ | ⟨xs,h1,h2,h3⟩
  ·exact zIG pins s σ H _ v vl vu lo hi sl Q I rx hs pl pu ⟨a,xs,rfl,h1,h2⟩
  ·exact zKo pins s σ H _ v vl vu lo hi sl Q I rx hs pl pu ⟨a,xs,rfl,h1,h2,h3⟩
 | _=>exact False.elim h
noncomputable def zJs (K:PySem.W.Frag):List V->Hp->VK->Prop:=fun xs H Q=>match xs with
 | [.str z]=>z.length <= sizeLine/\Q (.int z.length) H
 | [.ref p]=>∃ ys,(SqL K H p ys\/SqT K H p ys)/\Q (.int ys.length) H
 | _=>False
theorem zLU:jU X (.builtin "len") (zJs X.K):=by
 intro pins s σ H xs us Q I r h
 match xs,h with
 | [.str z],h=>exact zDA pins s σ H _ us Q I r ⟨z,rfl,h⟩
 | [.ref p],h =>
  obtain⟨ys,h1,h2⟩:=h
  exact zC4 pins s σ H _ us Q I r ⟨p,ys,rfl,h1,h2⟩
end
theorem Qt:bootBuiltins "len" = some (.builtin "len"):=by decide +kernel
theorem ZD:bootBuiltins "isinstance" = some (.builtin "isinstance"):=by decide +kernel
theorem zFh:bootBuiltins "str" = some (.type "str"):=by decide +kernel
theorem zKU:bootBuiltins "int" = some (.type "int"):=by decide +kernel
theorem zEM:bootBuiltins "bool" = some (.type "bool"):=by decide +kernel
theorem zD8:bootBuiltins "list" = some (.type "list"):=by decide +kernel
theorem zAK:bootBuiltins "tuple" = some (.type "tuple"):=by decide +kernel
structure Has (P:Program) (w:World) (K:PySem.W.Frag) (mg:Str->Option Value) (base:Heap) (x:Str) (k:Nat) (ps:List Str) (sp:Sp):Prop where
 ex:∃ f fd,jc P w K mg base CX0 k f fd ps sp/\ZB K fd ps []/\PySem.W.keepIn K (.ref f)=true/\mg x=some (.ref f)
section
variable {X:Cx}{k kk:Nat}{x:Str}{ps:List Str}{sp:Sp}{e:Expr}{es:List Expr}{t:TA}{p pos:Pos}
theorem zGf (h:Has X.prog X.w X.K X.mg X.base x k ps sp) (hr:zy kk X.A) (hk:k <= kk) (hg:Gl X x) (ha:PA X (e::es) t) (hx:qr CX0 X E0:=by exact JH) (hdb:(x == ("__debug__" : Str))=false:=by decide)
  (he:starEach (e::es) X.env=(false,eval e X.env)::starEach es X.env:=by rfl) (hpl:(backTo pos (starEach es X.env)).any (·.1)=false:=by rfl) :
  PE X (.Call (.Name x p) (e::es) [] pos) (zHr sp [] E0 t):=by
 obtain⟨f,fd,F,b,kp,m⟩:=h.ex
 exact zIo F (hr.mono hk) hg m kp b .nil hx ha hdb he hpl
structure zCg (mg:Str->Option Value) (x:Str) (v:V):Prop where
 ex:∃ u,mg x=some u/\zY v u
theorem zHE {v:V} (h:zCg X.mg x v) (hg:Gl X x) (hd:(x == ("__debug__" : Str))=false:=by decide):PE X (.Name x pos) (tC v):=by
 obtain⟨u,m,r⟩:=h.ex
 exact zH5 hg m r hd
end
noncomputable def zJU:V->Value->Bool
 | .non,.none=>true
 | .bl a,.bool b=>a == b
 | .int i,.int j _=>i == j
 | .str x,.str y _=>x == y
 | _,_=>false
theorem zIr:∀ {v:V}{u:Value},zJU v u=true->zY v u
 | .non,.none,_=>rfl
 | .bl a,.bool b,h=>by
  have e:a=b:=eq_of_beq h
  rw[e];rfl
 | .int i,.int j t,h=>by
  have e:i=j:=eq_of_beq h
  rw[e];exact⟨t,rfl⟩
 | .str x,.str y t,h=>by
  have e:x=y:=eq_of_beq h
  rw[e];exact⟨t,rfl⟩
theorem QB {K:PySem.W.Frag}{A B:String}{b:Bool} (h:(if (Value.type A == Value.type B)=true then some true else if PySem.W.kitMeta B=true then (PySem.fastBuiltinMro A).map (·.contains (Value.type B)) else none)=some b):PySem.W.kitOne K (.type A) (.type B)=some b:=h
end L2
namespace TX
open PySem
noncomputable def sp (y:Nat):Nat:=if y=10 then 32 else y
end TX
namespace TS
open PySem PyProof.Rows
variable {prog:Program}{w:World}{A:Around}{E:Value->Shared->Prop}{s:Shared}{a₀:Array Keyed}{κ:KeyKind}
structure SG (a₀:Array Keyed) (st:SortSt):Prop where
 pm:(arrOf st).Perm a₀
 kd:kindOf st=oneType'
 fl:failedOf st=none
noncomputable def Ri (κ:KeyKind) (xs:Array Keyed) (lo k:Nat):Prop:=∀ i j,i <= j->j < k->κ.kle (KK κ xs (lo+i)) (KK κ xs (lo+j))
structure zMS (a₀:Array Keyed) (lo hi:Nat) (st st':SortSt):Prop where
 ok:SG a₀ st'
 out:∀ k,k < lo\/hi <= k->(arrOf st')[k]? = (arrOf st)[k]?
 pd:pendingOf st'=pendingOf st
noncomputable def kyo (κ:KeyKind) (p:Keyed):κ.α:=(κ.keyOf p.1).getD κ.dflt
noncomputable def zJ3 (κ:KeyKind) (p:Keyed):Prop:=∃ a,κ.keyOf p.1=some a
structure MI (R:Keyed->Keyed->Prop) (l ra rb out:List Keyed):Prop where
 pm:(out++ra++rb).Perm l
 so:out.Pairwise R
 oa:∀ x,x∈out->∀ y,y∈ra->R x y
 ob:∀ x,x∈out->∀ y,y∈rb->R x y
 sa:ra.Pairwise R
 sb:rb.Pairwise R
structure zMR (st st':SortSt):Prop where
 kd:kindOf st'=kindOf st
 ar:arrOf st'=arrOf st
 pd:pendingOf st'=pendingOf st
 fl:failedOf st'=failedOf st
noncomputable def kl (κ:KeyKind) (p q:Keyed):Prop:=κ.kle (kyo κ p) (kyo κ q)
structure MG (κ:KeyKind) (x y:Array Keyed):Prop where
 kx:∀ p,p∈x.toList->zJ3 κ p
 ky:∀ p,p∈y.toList->zJ3 κ p
 rx:Ri κ x 0 x.size
 ry:Ri κ y 0 y.size
 nx:1 <= x.size
 ny:1 <= y.size
 fst:∀ p q,y[0]? = some p->x[0]? = some q->kl κ p q
 lst:∀ p q,y[y.size - 1]? = some p->x[x.size - 1]? = some q->kl κ p q
noncomputable abbrev H7:=Option (Array Keyed)×Nat×Nat×Array Keyed×Nat×Nat×Nat
noncomputable abbrev H6:=Option (Array Keyed)×Nat×Nat×Array Keyed×Nat×Nat
noncomputable abbrev H5:=Option (Array Keyed)×Nat×Nat×Array Keyed×Nat
noncomputable def zKt (κ:KeyKind) (xs:Array Keyed):List (Nat×Nat×Nat)->Nat->Nat->Prop
 | [],lo,hi=>lo=hi
 | r::t,lo,hi=>r.1=lo/\1 <= r.2.1/\Ri κ xs lo r.2.1/\zKt κ xs t (lo+r.2.1) hi
structure PR (κ:KeyKind) (a₀:Array Keyed) (lo:Nat) (st:SortSt):Prop where
 ok:SG a₀ st
 rn:zKt κ (arrOf st) (pendingOf st).toList 0 lo
end TS
namespace M
noncomputable abbrev T:=List Nat
inductive Kd where
 | str | int | bool | list | tuple | dict
 deriving DecidableEq
inductive D where
 | non | bl (b:Bool) | int (i:Int) | str (x:T) | tup (ds:List D) | ro (ds:List D) | ref (i:Nat) | ty (n:Kd)
mutual
noncomputable def D.decEq:(a b:D)->Decidable (a=b)
 | .non,.non=>isTrue rfl
 | .bl a,.bl b=>if h:a=b then isTrue (by rw[h]) else isFalse (fun e=>h (D.bl.inj e))
 | .int a,.int b=>if h:a=b then isTrue (by rw[h]) else isFalse (fun e=>h (D.int.inj e))
 | .str a,.str b=>if h:a=b then isTrue (by rw[h]) else isFalse (fun e=>h (D.str.inj e))
 | .ref a,.ref b=>if h:a=b then isTrue (by rw[h]) else isFalse (fun e=>h (D.ref.inj e))
 | .ty a,.ty b=>if h:a=b then isTrue (by rw[h]) else isFalse (fun e=>h (D.ty.inj e))
 | .tup a,.tup b=>match D.decEqs a b with
  | isTrue h=>isTrue (by rw[h])
  | isFalse h=>isFalse (fun e=>h (D.tup.inj e))
 | .ro a,.ro b=>match D.decEqs a b with
  | isTrue h=>isTrue (by rw[h])
  | isFalse h=>isFalse (fun e=>h (D.ro.inj e))
 | .non,.bl _ | .non,.int _ | .non,.str _ | .non,.tup _ | .non,.ro _ | .non,.ref _ | .non,.ty _=>isFalse (fun e=>nomatch e)
 | .bl _,.non | .bl _,.int _ | .bl _,.str _ | .bl _,.tup _ | .bl _,.ro _ | .bl _,.ref _ | .bl _,.ty _=>isFalse (fun e=>nomatch e)
 | .int _,.non | .int _,.bl _ | .int _,.str _ | .int _,.tup _ | .int _,.ro _ | .int _,.ref _ | .int _,.ty _=>isFalse (fun e=>nomatch e)
 | .str _,.non | .str _,.bl _ | .str _,.int _ | .str _,.tup _ | .str _,.ro _ | .str _,.ref _ | .str _,.ty _=>isFalse (fun e=>nomatch e)
 | .tup _,.non | .tup _,.bl _ | .tup _,.int _ | .tup _,.str _ | .tup _,.ro _ | .tup _,.ref _ | .tup _,.ty _=>isFalse (fun e=>nomatch e)
 | .ro _,.non | .ro _,.bl _ | .ro _,.int _ | .ro _,.str _ | .ro _,.tup _ | .ro _,.ref _ | .ro _,.ty _=>isFalse (fun e=>nomatch e)
 | .ref _,.non | .ref _,.bl _ | .ref _,.int _ | .ref _,.str _ | .ref _,.tup _ | .ref _,.ro _ | .ref _,.ty _=>isFalse (fun e=>nomatch e)
 | .ty _,.non | .ty _,.bl _ | .ty _,.int _ | .ty _,.str _ | .ty _,.tup _ | .ty _,.ro _ | .ty _,.ref _=>isFalse (fun e=>nomatch e)
noncomputable def D.decEqs:(a b:List D)->Decidable (a=b)
 | [],[]=>isTrue rfl
 | [],_::_=>isFalse (fun e=>nomatch e)
 | _::_,[]=>isFalse (fun e=>nomatch e)
 | a::r,b::t=>match D.decEq a b,D.decEqs r t with
  | isTrue h,isTrue k=>isTrue (by rw[h,k])
  | isFalse h,_=>isFalse (fun e=>h (List.cons.inj e).1)
  | _,isFalse k=>isFalse (fun e=>k (List.cons.inj e).2)
end
instance:DecidableEq D:=D.decEq
inductive O where
 | lst (xs:List D) | dct (kvs:List (D×D)) | fdc (kvs:List (D×D)) | dtt (kvs:List (D×D)) | ftt (kvs:List (D×D)) | ins (c:Nat) (fs:List (Option D))
 deriving DecidableEq
noncomputable abbrev S:=List O
noncomputable abbrev St:=List (Option D)
inductive R (α:Type) where
 | ok (a:α) (s:S) | exc (e:D) (s:S) | no
noncomputable def R.bind {α β:Type}:R α->(α->S->R β)->R β
 | .ok a s,f=>f a s
 | .exc e s,_=>.exc e s
 | .no,_=>.no
@[simp] theorem R.bind_ok {α β:Type} (a:α) (s:S) (f:α->S->R β):(R.ok a s).bind f=f a s:=rfl
@[simp] theorem R.bind_no {α β:Type} (f:α->S->R β):(R.no:R α).bind f=.no:=rfl
@[simp] theorem R.bind_exc {α β:Type} (e:D) (s:S) (f:α->S->R β):(R.exc e s:R α).bind f=.exc e s:=rfl
section
variable {α β:Type}{c:Prop} [Decidable c]
@[simp] theorem R.bind_ite (a b:R α) (f:α->S->R β):(if c then a else b).bind f=if c then a.bind f else b.bind f:=by split<;>rfl
@[simp] theorem R.ite_ok (a b:α) (s:S):(if c then R.ok a s else R.ok b s)=R.ok (if c then a else b) s:=by split<;>rfl
@[simp] theorem D.ite_bl (a b:Bool):(if c then D.bl a else D.bl b)=D.bl (if c then a else b):=by split<;>rfl
@[simp] theorem D.ite_int (a b:Int):(if c then D.int a else D.int b)=D.int (if c then a else b):=by split<;>rfl
@[simp] theorem D.ite_str (a b:T):(if c then D.str a else D.str b)=D.str (if c then a else b):=by split<;>rfl
@[simp] theorem D.ite_tup (a b:List D):(if c then D.tup a else D.tup b)=D.tup (if c then a else b):=by split<;>rfl
@[simp] theorem St.ite_some (a b:D):(if c then some a else some b)=some (if c then a else b):=by split<;>rfl
@[simp] theorem St.ite_cons (a b:Option D) (r t:St):(if c then a::r else b::t)=(if c then a else b)::(if c then r else t):=by split<;>rfl
end
noncomputable abbrev EM:=St->S->R D
noncomputable abbrev TM:=St->S->R Bool
noncomputable abbrev AM:=St->S->R (List D)
noncomputable def SZ:Nat:=16777216
@[simp] noncomputable def zA (i:Nat):EM:=fun σ s=>match σ[i]? with
 | some (some d)=>.ok d s
 | _=>.no
@[simp] noncomputable def eC (d:D):EM:=fun _ s=>.ok d s
@[simp] noncomputable def eOp (f:D->D->S->R D) (a b:EM):EM:=fun σ s=>(a σ s).bind fun x s=>(b σ s).bind fun y s=>f x y s
@[simp] noncomputable def eUn (f:D->S->R D) (a:EM):EM:=fun σ s=>(a σ s).bind fun x s=>f x s
@[simp] noncomputable def zI:AM:=fun _ s=>.ok [] s
@[simp] noncomputable def zC (a:EM) (r:AM):AM:=fun σ s=>(a σ s).bind fun x s=>(r σ s).bind fun xs s=>.ok (x::xs) s
@[simp] noncomputable def jv (a:AM):EM:=fun σ s=>(a σ s).bind fun xs s=>if xs.length <= SZ then .ok (.tup xs) s else .no
@[simp] noncomputable def alloc (o:O) (s:S):R D:=.ok (.ref s.length) (s++[o])
@[simp] noncomputable def ZE (a:AM):EM:=fun σ s=>(a σ s).bind fun xs s=>if xs.length <= SZ then alloc (.lst xs) s else .no
@[simp] noncomputable def jO (s:S) (i:Nat):Option (List D):=match s[i]? with
 | some (.lst xs)=>some xs
 | _=>none
@[simp] noncomputable def qE:D->D->S->R D
 | .int i,.int j,s=>.ok (.int (i+j)) s
 | .str a,.str b,s=>if a.length+b.length <= SZ then .ok (.str (a++b)) s else .no
 | .tup a,.tup b,s=>if a≠[]/\a.length+b.length <= SZ then .ok (.tup (a++b)) s else .no
 | .ref i,.ref j,s=>match s[i]?,s[j]? with
  | some (.lst xs),some (.lst ys)=>if xs.length+ys.length <= SZ then alloc (.lst (xs++ys)) s else .no
  | _,_=>.no
 | _,_,_=>.no
@[simp] noncomputable def zE8:D->D->S->R D
 | .int i,.int j,s=>.ok (.int (i - j)) s
 | _,_,_=>.no
noncomputable def qg (i:Int):Bool:=decide (i.natAbs < 18446744073709551616)
@[simp] noncomputable def yZ:D->D->S->R D
 | .int i,.int j,s=>if qg i || qg j then .ok (.int (i * j)) s else .no
 | .str a,.int n,s=>if 0 <= n/\n.natAbs <= 1000000/\a.length * n.natAbs <= 1000000 then .ok (.str (List.replicate n.toNat a).flatten) s else .no
 | .ref p,.int n,s=>match jO s p with
  | some xs=>if n.natAbs <= 1000/\xs.length * n.natAbs <= 1000000 then alloc (.lst (List.replicate n.toNat xs).flatten) s else .no
  | none=>.no
 | _,_,_=>.no
@[simp] noncomputable def j7:D->D->S->R D
 | .int i,.int j,s=>if 0 < j/\j.natAbs < 1073741824 then .ok (.int (i / j)) s else .no
 | _,_,_=>.no
@[simp] noncomputable def jK:D->D->S->R D
 | .int i,.int j,s=>if 0 < j then .ok (.int (i % j)) s else .no
 | _,_,_=>.no
@[simp] noncomputable def zCX:D->D->S->R D
 | .int i,.int j,s=>if 0 <= j/\j.natAbs <= 1000000/\i.natAbs < 18446744073709551616 then .ok (.int (i ^ j.toNat)) s else .no
 | _,_,_=>.no
@[simp] noncomputable def zCQ:D->S->R D
 | .int i,s=>.ok (.int (-i)) s
 | _,_=>.no
noncomputable abbrev CM:=D->D->S->R Bool
@[simp] noncomputable def cLt:CM
 | .int i,.int j,s=>.ok (decide (i < j)) s
 | .str a,.str b,s=>.ok (decide (a < b)) s
 | _,_,_=>.no
@[simp] noncomputable def cLe:CM
 | .int i,.int j,s=>.ok (decide (i <= j)) s
 | .str a,.str b,s=>.ok (!decide (b < a)) s
 | _,_,_=>.no
@[simp] noncomputable def cGt:CM
 | .int i,.int j,s=>.ok (decide (j < i)) s
 | _,_,_=>.no
inductive P where
 | non | bl (b:Bool) | int (i:Int) | str (x:T) | tup (ps:List P) | lst (ps:List P)
mutual
noncomputable def P.eqv:P->P->Bool
 | .non,.non=>true
 | .bl a,.bl b=>a == b
 | .int a,.int b=>a == b
 | .bl a,.int b=>(if a then 1 else 0) == b
 | .int a,.bl b=>a == (if b then 1 else 0)
 | .str a,.str b=>a == b
 | .tup a,.tup b=>P.eqvs a b
 | .lst a,.lst b=>P.eqvs a b
 | _,_=>false
noncomputable def P.eqvs:List P->List P->Bool
 | [],[]=>true
 | a::r,b::t=>P.eqv a b && P.eqvs r t
 | _,_=>false
end
mutual
noncomputable def P.dep:P->Nat
 | .tup ps=>P.deps ps+1
 | .lst ps=>P.deps ps+1
 | _=>0
noncomputable def P.deps:List P->Nat
 | []=>0
 | p::ps=>max (P.dep p) (P.deps ps)
end
noncomputable def qj (g:Nat->Option P):D->Option P
 | .non=>some .non
 | .bl b=>some (.bl b)
 | .int i=>some (.int i)
 | .str x=>some (.str x)
 | .tup ds=>(all ds).map .tup
 | .ro ds=>(all ds).map .lst
 | .ref i=>g i
 | .ty _=>none
where all:List D->Option (List P)
 | []=>some []
 | d::ds=>match qj g d,all ds with
  | some p,some ps=>some (p::ps)
  | _,_=>none
noncomputable def toP:Nat->S->D->Option P
 | 0,_=>qj fun _=>none
 | n+1,s=>qj fun i=>match jO s i with
  | some xs=>(qj.all (fun j=>toP n s (.ref j)) xs).map .lst
  | none=>none
noncomputable def JG:Nat:=9
noncomputable def zo (k:D) (kvs:List (D×D)):Option D:=kvs.lookup k
noncomputable def dEq (s:S) (ws:List (D×D)):List (D×D)->Option Bool
 | []=>some true
 | (k,v)::r=>match zo k ws with
  | none=>some false
  | some w=>match toP 8 s v,toP 8 s w,dEq s ws r with
   | some p,some q,some b=>if P.dep p <= 64/\P.dep q <= 64 then some (P.eqv p q && b) else none
   | _,_,_=>none
noncomputable def zCM (x y:D) (s:S):R Bool:=match x,y with
 | .ref i,.ref j=>match s[i]?,s[j]? with
  | some (.dct ks),some (.dct ws)=>if ks.length=ws.length then (match dEq s ws ks with | some b=>.ok b s | none=>.no) else .ok false s
  | _,_=>.no
 | _,_=>.no
@[simp] noncomputable def eqD (x y:D) (s:S):R Bool:=match x,y with
 | .str a,.str b=>.ok (decide (a=b)) s
 | .int a,.int b=>.ok (decide (a=b)) s
 | .bl a,.bl b=>.ok (decide (a=b)) s
 | .non,.non=>.ok true s
 | x,y=>match toP JG s x,toP JG s y with
  | some p,some q=>if P.dep p <= 64/\P.dep q <= 64 then .ok (P.eqv p q) s else .no
  | _,_=>zCM x y s
@[simp] noncomputable def cEq:CM:=fun x y s=>eqD x y s
@[simp] noncomputable def cNe:CM:=fun x y s=>(eqD x y s).bind fun b s=>.ok (!b) s
noncomputable def JY (a:T):T->Bool
 | []=>a.isEmpty
 | c::r=>a.isPrefixOf (c::r) || JY a r
noncomputable def flat:D->Bool
 | .non=>true
 | .bl _=>true
 | .int _=>true
 | .str _=>true
 | _=>false
noncomputable def eqF:D->D->Bool
 | .non,.non=>true
 | .bl a,.bl b=>a == b
 | .int a,.int b=>a == b
 | .bl a,.int b=>(if a then 1 else 0) == b
 | .int a,.bl b=>a == (if b then 1 else 0)
 | .str a,.str b=>a == b
 | _,_=>false
noncomputable def Ja (x:D) (xs:List D):Bool:=xs.any fun y=>eqF y x
noncomputable def ZC:D->Bool
 | .int _=>true
 | .str _=>true
 | _=>false
@[simp] noncomputable def inD (x y:D) (s:S):R Bool:=match y with
 | .str b=>match x with
  | .str a=>.ok (JY a b) s
  | _=>.no
 | .tup ys=>if flat x && ys.all flat then .ok (Ja x ys) s else .no
 | .ro ys=>if flat x && ys.all flat then .ok (Ja x ys) s else .no
 | .ref i=>match s[i]? with
  | some (.lst ys)=>if flat x && ys.all flat then .ok (Ja x ys) s else .no
  | some (.dct kvs)=>if ZC x then .ok (zo x kvs).isSome s else .no
  | some (.fdc kvs)=>if ZC x then .ok (zo x kvs).isSome s else .no
  | _=>.no
 | _=>.no
@[simp] noncomputable def qI (c:CM) (a b:EM):TM:=fun σ s=>(a σ s).bind fun x s=>(b σ s).bind fun y s=>c x y s
@[simp] noncomputable def zC7 (c d:CM) (a b e:EM):EM:=fun σ s=>(a σ s).bind fun x s=>(b σ s).bind fun y s=>(c x y s).bind fun k s =>
 if k then (e σ s).bind fun z s=>(d y z s).bind fun k s=>.ok (.bl k) s else .ok (.bl false) s
@[simp] noncomputable def zEt:D->Bool
 | .non=>true
 | _=>false
@[simp] noncomputable def zBG (a:EM):TM:=fun σ s=>(a σ s).bind fun x s=>.ok (zEt x) s
@[simp] noncomputable def Zn (a:EM):TM:=fun σ s=>(a σ s).bind fun x s=>.ok (!zEt x) s
@[simp] noncomputable def Zr:D->S->R Bool
 | .non,s=>.ok false s
 | .bl b,s=>.ok b s
 | .int i,s=>.ok (decide (i≠0)) s
 | .str x,s=>if x.length <= SZ then .ok (!x.isEmpty) s else .no
 | .tup ds,s=>.ok (!ds.isEmpty) s
 | .ro ds,s=>.ok (!ds.isEmpty) s
 | .ref i,s=>match s[i]? with
  | some (.lst xs)=>.ok (!xs.isEmpty) s
  | some (.dct kvs)=>.ok (!kvs.isEmpty) s
  | _=>.no
 | .ty _,_=>.no
@[simp] noncomputable def ZZ (a:EM):TM:=fun σ s=>(a σ s).bind Zr
@[simp] noncomputable def QY (a:TM):TM:=fun σ s=>(a σ s).bind fun b s=>.ok (!b) s
@[simp] noncomputable def JX (a b:TM):TM:=fun σ s=>(a σ s).bind fun k s=>if k then b σ s else .ok false s
@[simp] noncomputable def tOr (a b:TM):TM:=fun σ s=>(a σ s).bind fun k s=>if k then .ok true s else b σ s
noncomputable def ixN (n:Nat) (i:Int):Option Nat:=if 0 <= i then (if i < n then some i.toNat else none) else if -(n:Int) <= i then some (i+n).toNat else none
noncomputable def atI {α:Type} (xs:List α) (i:Int):Option α:=(ixN xs.length i).bind fun j=>xs[j]?
@[simp] noncomputable def ZI:D->D->S->R D
 | .str x,.int i,s=>if x.length <= SZ then (match atI x i with | some c=>.ok (.str [c]) s | none=>.no) else .no
 | .tup xs,.int i,s=>match atI xs i with | some d=>.ok d s | none=>.no
 | .ro xs,.int i,s=>match atI xs i with | some d=>.ok d s | none=>.no
 | .ref p,k,s=>match s[p]? with
  | some (.lst xs)=>(match k with | .int i=>(match atI xs i with | some d=>.ok d s | none=>.no) | _=>.no)
  | some (.dct kvs)=>if ZC k then (match zo k kvs with | some d=>.ok d s | none=>.no) else .no
  | some (.fdc kvs)=>if ZC k then (match zo k kvs with | some d=>.ok d s | none=>.no) else .no
  | _=>.no
 | _,_,_=>.no
noncomputable def sIx (n d:Nat):Option Int->Nat
 | none=>d
 | some v=>(if v < 0 then max (v+(n:Int)) 0 else min v (n:Int)).toNat
noncomputable def cut {α:Type} (xs:List α) (lo hi:Option Int):List α:=(xs.drop (sIx xs.length 0 lo)).take (sIx xs.length xs.length hi - sIx xs.length 0 lo)
noncomputable abbrev OM:=St->S->R (Option Int)
@[simp] noncomputable def qO:OM:=fun _ s=>.ok none s
@[simp] noncomputable def qN (a:EM):OM:=fun σ s=>(a σ s).bind fun x s=>match x with | .int i=>.ok (some i) s | _=>.no
@[simp] noncomputable def slD (x:D) (lo hi:Option Int) (s:S):R D:=match x with
 | .str z=>if z.length <= SZ then .ok (.str (cut z lo hi)) s else .no
 | .tup xs=>if sIx xs.length 0 lo=0/\sIx xs.length xs.length hi=xs.length then .no else .ok (.tup (cut xs lo hi)) s
 | .ro xs=>alloc (.lst (cut xs lo hi)) s
 | .ref p=>match jO s p with
  | some xs=>alloc (.lst (cut xs lo hi)) s
  | none=>.no
 | _=>.no
noncomputable abbrev F:=List D->S->R D
@[simp] noncomputable def zU (f:F) (a:AM):EM:=fun σ s=>(a σ s).bind fun xs s=>f xs s
@[simp] noncomputable def Qe (k:Kd) (x:D) (s:S):Bool:=match x with
 | .str _=>(match k with | .str=>true | _=>false)
 | .ro _=>(match k with | .list=>true | _=>false)
 | .ref p=>match s[p]? with
  | some (.lst _)=>(match k with | .list=>true | _=>false)
  | some (.dct _)=>(match k with | .dict=>true | _=>false)
  | some (.dtt _)=>(match k with | .dict=>true | _=>false)
  | _=>false
 | _=>false
@[simp] noncomputable def eM (k:Kd) (f:D->F) (o:EM) (a:AM):EM:=fun σ s=>(o σ s).bind fun x s=>if Qe k x s then (a σ s).bind fun xs s=>f x xs s else .no
@[simp] noncomputable def qm (c:Nat) (f:F) (o:EM) (a:AM):EM:=fun σ s=>(o σ s).bind fun x s=>match x with
 | .ref p=>(match s[p]? with
  | some (.ins c' _)=>if c'=c then (a σ s).bind fun xs s=>f (x::xs) s else .no
  | _=>.no)
 | _=>.no
@[simp] noncomputable def zCW (c:Nat) (n:Nat) (f:F) (a:AM):EM:=fun σ s=>(a σ s).bind fun xs s=>(f (.ref s.length::xs) (s++[.ins c (List.replicate n none)])).bind fun d s'=>if d=.non then .ok (.ref s.length) s' else .no
@[simp] noncomputable def yX (c:Nat) (i:Nat) (o:EM):EM:=fun σ s=>(o σ s).bind fun x s=>match x with
 | .ref p=>(match s[p]? with
  | some (.ins c' fs)=>if c'=c then (match fs[i]? with | some (some d)=>.ok d s | _=>.no) else .no
  | _=>.no)
 | _=>.no
@[simp] noncomputable def Qh:F
 | [.str x],s=>if x.length <= SZ then .ok (.int x.length) s else .no
 | [.tup xs],s=>.ok (.int xs.length) s
 | [.ro xs],s=>.ok (.int xs.length) s
 | [.ref p],s=>match s[p]? with
  | some (.lst xs)=>.ok (.int xs.length) s
  | some (.dct kvs)=>.ok (.int kvs.length) s
  | _=>.no
 | _,_=>.no
@[simp] noncomputable def qe (n:Kd) (x:D) (s:S):R Bool:=match x with
 | .non=>.ok false s
 | .bl _=>.ok (match n with | .bool=>true | .int=>true | _=>false) s
 | .int _=>.ok (match n with | .int=>true | _=>false) s
 | .str _=>.ok (match n with | .str=>true | _=>false) s
 | .tup _=>.ok (match n with | .tuple=>true | _=>false) s
 | .ro _=>.ok (match n with | .list=>true | _=>false) s
 | .ty _=>.no
 | .ref p=>match s[p]? with
  | some (.lst _)=>.ok (match n with | .list=>true | _=>false) s
  | some (.dct _)=>.ok (match n with | .dict=>true | _=>false) s
  | _=>.no
@[simp] noncomputable def Zx:F
 | [x,.ty n],s=>(qe n x s).bind fun b s=>.ok (.bl b) s
 | _,_=>.no
noncomputable def QR:List D->Option (List T)
 | []=>some []
 | .str x::r=>(QR r).map (x :: ·)
 | _::_=>none
@[simp] noncomputable def zMU (k:List D->S->R D):F
 | [.tup xs],s=>k xs s
 | [.ro xs],s=>k xs s
 | [.ref p],s=>match jO s p with
  | some xs=>k xs s
  | none=>.no
 | _,_=>.no
noncomputable def Zo (x:T):List T->T
 | []=>[]
 | [y]=>y
 | y::r=>y++x++Zo x r
noncomputable def ZA (x:T) (xs:List D) (s:S):R D:=match QR xs with
 | some ys=>if (ys.map List.length).sum+ys.length * x.length <= SZ then .ok (.str (Zo x ys)) s else .no
 | none=>.no
noncomputable def Q0 (i:Int):T:=(toString i).toList.map Char.toNat
@[simp] noncomputable def zFB:F
 | [.int i],s=>if qg i then .ok (.str (Q0 i)) s else .no
 | _,_=>.no
@[simp] noncomputable def zCT:F
 | [.tup xs],s=>alloc (.lst xs) s
 | [.ro xs],s=>alloc (.lst xs) s
 | [.ref p],s=>match s[p]? with
  | some (.lst xs)=>alloc (.lst xs) s
  | some (.dct kvs)=>alloc (.lst (kvs.map (·.1))) s
  | _=>.no
 | _,_=>.no
@[simp] noncomputable def zAn:F
 | [.tup xs],s=>.ok (.tup xs) s
 | [.ref p],s=>match jO s p with
  | some xs=>.ok (.tup xs) s
  | none=>.no
 | _,_=>.no
@[simp] noncomputable def yp:D->F
 | .ref p,[y],s=>match s[p]? with
  | some (.lst xs)=>if xs.length < SZ then .ok .non (s.set p (.lst (xs++[y]))) else .no
  | _=>.no
 | _,_,_=>.no
noncomputable def qz (k v:D) (kvs:List (D×D)):List (D×D):=if (kvs.any fun p=>decide (p.1=k))=true then kvs.map fun p=>if p.1=k then (p.1,v) else p else kvs++[(k,v)]
noncomputable def z6 (k:D) (kvs:List (D×D)):List (D×D):=kvs.filter fun p=>decide (p.1≠k)
@[simp] noncomputable def zCR:F
 | [.int i,.int j],s=>.ok (.int (if j < i then j else i)) s
 | _,_=>.no
where insT' (x:T):List T->List T
 | []=>[x]
 | y::r=>if y < x then y::insT' x r else x::y::r
noncomputable abbrev Gd:=List (Nat×O)
noncomputable def zm (g:Gd) (s:S):Bool:=g.all fun p=>decide (s[p.1]? = some p.2)
noncomputable abbrev IM:=St->S->R (List D×Gd)
@[simp] noncomputable def itD:D->S->R (List D×Gd)
 | .str x,s=>if x.length <= SZ then .ok (x.map fun c=>.str [c],[]) s else .no
 | .tup ds,s=>.ok (ds,[]) s
 | .ro ds,s=>.ok (ds,[]) s
 | .ref i,s=>match s[i]? with
  | some (.lst xs)=>.ok (xs,[(i,.lst xs)]) s
  | _=>.no
 | _,_=>.no
@[simp] noncomputable def iE (a:EM):IM:=fun σ s=>(a σ s).bind itD
noncomputable def jq (lo hi:Int):List D:=(List.range (hi - lo).toNat).map fun (k:Nat)=>.int (lo+k)
@[simp] noncomputable def jS (a:EM):IM:=fun σ s=>(a σ s).bind fun x s=>match x with
 | .int j=>if j.natAbs < 4611686018427387904 then .ok (jq 0 j,[]) s else .no
 | _=>.no
@[simp] noncomputable def zMT (a:EM):IM:=fun σ s=>(a σ s).bind fun x s=>match x with
 | .tup ds=>.ok (ds.reverse,[]) s
 | _=>.no
noncomputable abbrev GM:=D->St->Option St
@[simp] noncomputable def ze (i:Nat):GM:=fun d σ=>some (σ.set i (some d))
noncomputable abbrev GMs:=List D->St->Option St
@[simp] noncomputable def Zd:GMs:=fun ds σ=>match ds with | []=>some σ | _=>none
@[simp] noncomputable def jt (g:GM) (r:GMs):GMs:=fun ds σ=>match ds with
 | []=>none
 | d::ds=>match g d σ with
  | some σ'=>r ds σ'
  | none=>none
@[simp] noncomputable def Za (g:GMs):GM:=fun d σ=>match d with
 | .tup ds=>g ds σ
 | _=>none
noncomputable def qf (g:Gd) (f:D->S->R (Option D)):List D->S->R (List D)
 | [],s=>.ok [] s
 | x::xs,s=>(f x s).bind fun o s=>if zm g s then (qf g f xs s).bind fun ys s=>.ok (match o with | some y=>y::ys | none=>ys) s else .no
@[simp] noncomputable def Zf:TM:=fun _ s=>.ok true s
@[simp] noncomputable def qZ (n:Nat) (tg:GM) (c:TM) (e:EM) (σ:St):D->S->R (Option D):=fun x s=>match tg x (σ++List.replicate n none) with
 | none=>.no
 | some σ'=>(c σ' s).bind fun b s=>if b then (e σ' s).bind fun d s=>.ok (some d) s else .ok none s
noncomputable def qy (n:Nat) (it:IM) (tg:GM) (c:TM) (e:EM):AM:=fun σ s=>(it σ s).bind fun p s=>if p.1.length <= SZ/\zm p.2 s=true then qf p.2 (qZ n tg c e σ) p.1 s else .no
@[simp] noncomputable def Q6 (n:Nat) (it:IM) (tg:GM) (c:TM) (e:EM):EM:=fun σ s=>(qy n it tg c e σ s).bind fun ys s=>alloc (.lst ys) s
@[simp] noncomputable def zCz (k:List D->S->R D) (n:Nat) (it:IM) (tg:GM) (c:TM) (e:EM):EM:=fun σ s=>(qy n it tg c e σ s).bind k
inductive RS where
 | nx (σ:St) (s:S) | rt (d:D) (s:S) | bk (σ:St) (s:S) | ct (σ:St) (s:S) | exc (e:D) (σ:St) (s:S) | no
noncomputable abbrev SM:=St->S->RS
noncomputable def R.stm {α:Type} (r:R α) (σ:St) (f:α->S->RS):RS:=match r with
 | .ok a s=>f a s
 | .exc e s=>.exc e σ s
 | .no=>.no
@[simp] theorem R.stm_ok {α:Type} (a:α) (s:S) (σ:St) (f:α->S->RS):(R.ok a s).stm σ f=f a s:=rfl
@[simp] theorem R.stm_no {α:Type} (σ:St) (f:α->S->RS):(R.no:R α).stm σ f=.no:=rfl
noncomputable def RS.then (r:RS) (f:SM):RS:=match r with
 | .nx σ s=>f σ s
 | r=>r
@[simp] theorem RS.then_nx (σ:St) (s:S) (f:SM):(RS.nx σ s).then f=f σ s:=rfl
@[simp] theorem RS.then_rt (d:D) (s:S) (f:SM):(RS.rt d s).then f=.rt d s:=rfl
@[simp] theorem RS.then_no (f:SM):RS.no.then f=.no:=rfl
@[simp] theorem RS.then_bk (σ:St) (s:S) (f:SM):(RS.bk σ s).then f=.bk σ s:=rfl
section
variable {α:Type}{c:Prop} [Decidable c]
@[simp] theorem R.stm_ite (a b:R α) (σ:St) (f:α->S->RS):(if c then a else b).stm σ f=if c then a.stm σ f else b.stm σ f:=by split<;>rfl
@[simp] theorem RS.ite_nx (a b:St) (s:S):(if c then RS.nx a s else RS.nx b s)=RS.nx (if c then a else b) s:=by split<;>rfl
@[simp] theorem RS.ite_rt (a b:D) (s:S):(if c then RS.rt a s else RS.rt b s)=RS.rt (if c then a else b) s:=by split<;>rfl
@[simp] theorem RS.then_ite (a b:RS) (f:SM):(if c then a else b).then f=if c then a.then f else b.then f:=by split<;>rfl
end
@[simp] theorem RS.then_exc (e:D) (σ:St) (s:S) (f:SM):(RS.exc e σ s).then f=.exc e σ s:=rfl
@[simp] theorem R.stm_exc {α:Type} (e:D) (s:S) (σ:St) (f:α->S->RS):(R.exc e s:R α).stm σ f=.exc e σ s:=rfl
@[simp] theorem RS.then_ct (σ:St) (s:S) (f:SM):(RS.ct σ s).then f=.ct σ s:=rfl
@[simp] noncomputable def j5:SM:=fun σ s=>.nx σ s
@[simp] noncomputable def zCp:SM:=fun _ _=>.no
@[simp] noncomputable def zk (a b:SM):SM:=fun σ s=>(a σ s).then b
@[simp] noncomputable def qa (e:EM):SM:=fun σ s=>(e σ s).stm σ fun _ s=>.nx σ s
@[simp] noncomputable def jg (e:EM):SM:=fun σ s=>(e σ s).stm σ fun d s=>.rt d s
@[simp] noncomputable def j6 (i:Nat) (e:EM):SM:=fun σ s=>(e σ s).stm σ fun d s=>.nx (σ.set i (some d)) s
@[simp] noncomputable def zC3 (c:Nat) (i:Nat) (x y:D) (s:S):R Unit:=match x with
 | .ref p=>(match s[p]? with
  | some (.ins c' fs)=>if c'=c then .ok () (s.set p (.ins c (fs.set i (some y)))) else .no
  | _=>.no)
 | _=>.no
@[simp] noncomputable def zA8 (c:Nat) (i:Nat) (o e:EM):SM:=fun σ s=>(e σ s).stm σ fun y s=>(o σ s).stm σ fun x s=>(zC3 c i x y s).stm σ fun _ s=>.nx σ s
@[simp] noncomputable def zFK (c:Nat) (i:Nat) (x:D) (s:S):R D:=match x with
 | .ref p=>(match s[p]? with
  | some (.ins c' fs)=>if c'=c then (match fs[i]? with | some (some d)=>.ok d s | _=>.no) else .no
  | _=>.no)
 | _=>.no
@[simp] noncomputable def qw (x k y:D) (s:S):R Unit:=match x with
 | .ref p=>(match s[p]? with
  | some (.lst xs)=>(match k with
   | .int i=>(match ixN xs.length i with | some j=>.ok () (s.set p (.lst (xs.set j y))) | none=>.no)
   | _=>.no)
  | some (.dct kvs)=>if ZC k && decide (kvs.length < SZ) then .ok () (s.set p (.dct (qz k y kvs))) else .no
  | _=>.no)
 | _=>.no
@[simp] noncomputable def zLq (o k e:EM):SM:=fun σ s=>(e σ s).stm σ fun y s=>(o σ s).stm σ fun x s=>(k σ s).stm σ fun k s=>(qw x k y s).stm σ fun _ s=>.nx σ s
@[simp] noncomputable def sIf (c:TM) (a b:SM):SM:=fun σ s=>(c σ s).stm σ fun k s=>if k then a σ s else b σ s
noncomputable def jX (g:Gd) (f:D->SM):List D->SM
 | [],σ,s=>.nx σ s
 | x::xs,σ,s=>match f x σ s with
  | .nx σ s=>if zm g s then jX g f xs σ s else .no
  | .ct σ s=>if zm g s then jX g f xs σ s else .no
  | .bk σ s=>.nx σ s
  | r=>r
@[simp] noncomputable def jf (tg:GM) (b:SM):D->SM:=fun x σ s=>match tg x σ with
 | some σ'=>b σ' s
 | none=>.no
@[simp] noncomputable def ye (it:IM) (tg:GM) (b:SM):SM:=fun σ s=>(it σ s).stm σ fun p s=>if zm p.2 s=true then jX p.2 (jf tg b) p.1 σ s else .no
@[simp] noncomputable def zCU (i:Nat) (f t:O):RS->RS
 | .nx σ s=>if s[i]? = some f then .nx σ (s.set i t) else .no
 | .bk σ s=>if s[i]? = some f then .bk σ (s.set i t) else .no
 | .ct σ s=>if s[i]? = some f then .ct σ (s.set i t) else .no
 | .rt d s=>if s[i]? = some f then .rt d (s.set i t) else .no
 | _=>.no
@[simp] noncomputable def zE9 (i:Nat):RS->RS
 | .nx σ s=>.nx (σ.set i none) s
 | .bk σ s=>.bk (σ.set i none) s
 | .ct σ s=>.ct (σ.set i none) s
 | .rt d s=>.rt d s
 | _=>.no
@[simp] noncomputable def zE1 (i:Nat) (b:SM):SM:=fun σ s=>zE9 i (b (σ.set i none) s)
noncomputable def RS.out (r:RS):R D:=match r with
 | .rt d s=>.ok d s
 | .nx _ s=>.ok .non s
 | .exc e _ s=>.exc e s
 | _=>.no
@[simp] theorem RS.out_rt (d:D) (s:S):(RS.rt d s).out=.ok d s:=rfl
@[simp] theorem RS.out_nx (σ:St) (s:S):(RS.nx σ s).out=.ok .non s:=rfl
@[simp] theorem RS.out_no:RS.no.out=.no:=rfl
@[simp] theorem RS.out_exc (e:D) (σ:St) (s:S):(RS.exc e σ s).out=.exc e s:=rfl
@[simp] theorem RS.out_ite {c:Prop} [Decidable c] (a b:RS):(if c then a else b).out=if c then a.out else b.out:=by split<;>rfl
@[simp] noncomputable def fn (n:Nat) (b:SM):F:=fun xs s=>(b (xs.map some++List.replicate (n - xs.length) none) s).out
noncomputable def D.cl (n:Nat):D->Bool
 | .ref i=>decide (i < n)
 | .tup ds=>all ds
 | .ro ds=>all ds
 | _=>true
where all:List D->Bool
 | []=>true
 | d::ds=>D.cl n d && all ds
noncomputable def kyD:Nat->D->Bool
 | _,.non=>true
 | _,.int _=>true
 | _,.str _=>true
 | n+1,.tup ds=>ds.all (kyD n)
 | _,_=>false
noncomputable def O.cl (n:Nat):O->Bool
 | .lst xs=>D.cl.all n xs
 | .dct kvs=>kvs.all fun p=>D.cl n p.1 && D.cl n p.2
 | .fdc kvs=>kvs.all fun p=>D.cl n p.1 && D.cl n p.2
 | .dtt kvs=>kvs.all fun p=>D.cl n p.1 && D.cl n p.2
 | .ftt kvs=>kvs.all fun p=>D.cl n p.1 && D.cl n p.2
 | .ins _ fs=>fs.all fun o=>match o with | some d=>D.cl n d | none=>true
noncomputable def clS (n:Nat) (s:S):Bool:=s.all (O.cl n)
noncomputable def D.ren (e:List Nat):D->D
 | .ref i=>.ref (e.getD i i)
 | .tup ds=>.tup (all ds)
 | .ro ds=>.ro (all ds)
 | d=>d
where all:List D->List D
 | []=>[]
 | d::ds=>D.ren e d::all ds
noncomputable def O.ren (e:List Nat):O->O
 | .lst xs=>.lst (D.ren.all e xs)
 | .dct kvs=>.dct (kvs.map fun p=>(D.ren e p.1,D.ren e p.2))
 | .fdc kvs=>.fdc (kvs.map fun p=>(D.ren e p.1,D.ren e p.2))
 | .dtt kvs=>.dtt (kvs.map fun p=>(D.ren e p.1,D.ren e p.2))
 | .ftt kvs=>.ftt (kvs.map fun p=>(D.ren e p.1,D.ren e p.2))
 | .ins c fs=>.ins c (fs.map (Option.map (D.ren e)))
end M
namespace M
structure Emb (n:Nat) (e:List Nat) (S' S1:S):Prop where
 len:e.length=S'.length
 nd:e.Nodup
 le:n <= S'.length
 old:∀ i,i < n->e[i]? = some i
 obj:∀ (i:Nat) o,S'[i]? = some o->∃ j,e[i]? = some j/\S1[j]? = some (O.ren e o)/\O.cl S'.length o=true
noncomputable def jh (n:Nat) (f q:F):Prop:=∀ ds S,ds.length=n->clS S.length S=true->D.cl.all S.length ds=true ->
 q ds S=.no\/∃ d S' S1 e,q ds S=.ok d S'/\f ds S=.ok (D.ren e d) S1/\Emb S.length e S' S1/\D.cl S'.length d=true
section
variable {e:List Nat}
mutual
theorem D.ren_id (h:∀ i,e.getD i i=i):∀ d:D,D.ren e d=d
 | .non=>rfl
 | .bl _=>rfl
 | .int _=>rfl
 | .str _=>rfl
 | .ty _=>rfl
 | .ref i=>by show D.ref (e.getD i i)=_;rw[h]
 | .tup ds=>by show D.tup (D.ren.all e ds)=_;rw[D.rens_id h]
 | .ro ds=>by show D.ro (D.ren.all e ds)=_;rw[D.rens_id h]
theorem D.rens_id (h:∀ i,e.getD i i=i):∀ ds:List D,D.ren.all e ds=ds
 | []=>rfl
 | d::ds=>by show D.ren e d::D.ren.all e ds=_;rw[D.ren_id h,D.rens_id h]
end
theorem O.ren_id (h:∀ i,e.getD i i=i) (o:O):O.ren e o=o:=by
 cases o with
 | lst xs=>show O.lst _=_;rw[D.rens_id h]
 | dct kvs =>
  show O.dct (kvs.map fun p=>(D.ren e p.1,D.ren e p.2))=_
  have:(fun p:D×D=>(D.ren e p.1,D.ren e p.2))=id:=by funext p;rw[D.ren_id h,D.ren_id h];rfl
  rw[this,List.map_id]
 | fdc kvs =>
  show O.fdc (kvs.map fun p=>(D.ren e p.1,D.ren e p.2))=_
  have:(fun p:D×D=>(D.ren e p.1,D.ren e p.2))=id:=by funext p;rw[D.ren_id h,D.ren_id h];rfl
  rw[this,List.map_id]
 | dtt kvs =>
  show O.dtt (kvs.map fun p=>(D.ren e p.1,D.ren e p.2))=_
  have:(fun p:D×D=>(D.ren e p.1,D.ren e p.2))=id:=by funext p;rw[D.ren_id h,D.ren_id h];rfl
  rw[this,List.map_id]
 | ftt kvs =>
  show O.ftt (kvs.map fun p=>(D.ren e p.1,D.ren e p.2))=_
  have:(fun p:D×D=>(D.ren e p.1,D.ren e p.2))=id:=by funext p;rw[D.ren_id h,D.ren_id h];rfl
  rw[this,List.map_id]
 | ins c fs =>
  show O.ins c (fs.map (Option.map (D.ren e)))=_
  have:Option.map (D.ren e)=id:=by funext o;cases o with | none=>rfl | some d=>show some _=_;rw[D.ren_id h];rfl
  rw[this,List.map_id]
theorem Z6 (n i:Nat):(List.range n).getD i i=i:=by
 rw[List.getD_eq_getElem?_getD]
 by_cases h:i < n
 ·rw[List.getElem?_range h];rfl
 ·rw[List.getElem?_eq_none (by simp;omega)];rfl
end
section
variable {e:List Nat}{n:Nat}
mutual
theorem D.ren_old (h:∀ i,i < n->e[i]? = some i):∀ d:D,D.cl n d=true->D.ren e d=d
 | .non,_=>rfl
 | .bl _,_=>rfl
 | .int _,_=>rfl
 | .str _,_=>rfl
 | .ty _,_=>rfl
 | .ref i,c=>by
  have hi:i < n:=of_decide_eq_true c
  show D.ref (e.getD i i)=_
  rw[List.getD_eq_getElem?_getD,h i hi];rfl
 | .tup ds,c=>by show D.tup (D.ren.all e ds)=_;rw[D.rens_old h ds c]
 | .ro ds,c=>by show D.ro (D.ren.all e ds)=_;rw[D.rens_old h ds c]
theorem D.rens_old (h:∀ i,i < n->e[i]? = some i):∀ ds:List D,D.cl.all n ds=true->D.ren.all e ds=ds
 | [],_=>rfl
 | d::ds,c=>by
  have c':(D.cl n d && D.cl.all n ds)=true:=c
  rw[Bool.and_eq_true] at c'
  show D.ren e d::D.ren.all e ds=_
  rw[D.ren_old h d c'.1,D.rens_old h ds c'.2]
end
mutual
theorem D.cl_mono {m:Nat} (h:n <= m):∀ d:D,D.cl n d=true->D.cl m d=true
 | .non,_=>rfl
 | .bl _,_=>rfl
 | .int _,_=>rfl
 | .str _,_=>rfl
 | .ty _,_=>rfl
 | .ref i,c=>decide_eq_true (Nat.lt_of_lt_of_le (of_decide_eq_true c) h)
 | .tup ds,c=>D.cls_mono h ds c
 | .ro ds,c=>D.cls_mono h ds c
theorem D.cls_mono {m:Nat} (h:n <= m):∀ ds:List D,D.cl.all n ds=true->D.cl.all m ds=true
 | [],_=>rfl
 | d::ds,c=>by
  have c':(D.cl n d && D.cl.all n ds)=true:=c
  rw[Bool.and_eq_true] at c'
  show (D.cl m d && D.cl.all m ds)=true
  rw[D.cl_mono h d c'.1,D.cls_mono h ds c'.2];rfl
end
theorem O.cl_mono {m:Nat} (h:n <= m) (o:O) (c:O.cl n o=true):O.cl m o=true:=by
 cases o with
 | lst xs=>exact D.cls_mono h xs c
 | dct kvs =>
  refine List.all_eq_true.mpr fun p hp=>?_
  have c1:=List.all_eq_true.mp c p hp
  rw[Bool.and_eq_true] at c1 ⊢
  exact⟨D.cl_mono h _ c1.1,D.cl_mono h _ c1.2⟩
 | fdc kvs =>
  refine List.all_eq_true.mpr fun p hp=>?_
  have c1:=List.all_eq_true.mp c p hp
  rw[Bool.and_eq_true] at c1 ⊢
  exact⟨D.cl_mono h _ c1.1,D.cl_mono h _ c1.2⟩
 | dtt kvs =>
  refine List.all_eq_true.mpr fun p hp=>?_
  have c1:=List.all_eq_true.mp c p hp
  rw[Bool.and_eq_true] at c1 ⊢
  exact⟨D.cl_mono h _ c1.1,D.cl_mono h _ c1.2⟩
 | ftt kvs =>
  refine List.all_eq_true.mpr fun p hp=>?_
  have c1:=List.all_eq_true.mp c p hp
  rw[Bool.and_eq_true] at c1 ⊢
  exact⟨D.cl_mono h _ c1.1,D.cl_mono h _ c1.2⟩
 | ins cc fs =>
  refine List.all_eq_true.mpr fun p hp=>?_
  have c1:=List.all_eq_true.mp c p hp
  cases p with
  | none=>rfl
  | some d=>exact D.cl_mono h d c1
theorem zIN {S:M.S} (h:clS n S=true) {i:Nat}{o:O} (e:S[i]? = some o):O.cl n o=true:=List.all_eq_true.mp h o (List.mem_of_getElem? e)
end
theorem zG4 {S S' g:M.S} (hn:S.length <= S'.length) (c:clS S'.length S'=true):Emb S.length (List.range S'.length) S' (S'++g) :=
 ⟨by simp,List.nodup_range,hn,fun i hi=>by rw[List.getElem?_range (by omega)],fun i o q=>by
  have hi:i < S'.length:=(List.getElem?_eq_some_iff.mp q).1
  exact⟨i,by rw[List.getElem?_range hi],by rw[List.getElem?_append_left hi,O.ren_id (Z6 _),q],zIN c q⟩⟩
theorem jh.pure {n:Nat}{f q:F} (h:∀ ds S,ds.length=n->clS S.length S=true->D.cl.all S.length ds=true->q ds S=.no\/∃ d g,q ds S=.ok d S/\f ds S=.ok d (S++g)/\D.cl S.length d=true):jh n f q:=fun ds S hl c ca=>by
 rcases h ds S hl c ca with e | ⟨d,g,e1,e2,e3⟩
 ·exact .inl e
 ·exact .inr ⟨d,S,S++g,List.range S.length,e1,by rw[D.ren_id (Z6 _)];exact e2,zG4 (Nat.le_refl _) c,e3⟩
noncomputable def chS (m:F):F:=fun ds s=>@dite (R D) (∃ d g,m ds s=.ok d (s++g)/\D.cl s.length d=true) (Classical.propDecidable _) (fun h=>.ok h.choose s) (fun _=>.no)
theorem Qo {n:Nat} (m:F):jh n m (chS m):=jh.pure fun ds S hl c ca=>by
 unfold chS
 by_cases h:∃ d g,m ds S=.ok d (S++g)/\D.cl S.length d=true
 ·obtain⟨g,e,k⟩:=h.choose_spec
  exact .inr ⟨h.choose,g,by rw[dif_pos h],e,k⟩
 ·exact .inl (by rw[dif_neg h])
theorem QC {m:F}{ds:List D}{s g:S}{d:D} (e:m ds s=.ok d (s++g)) (k:D.cl s.length d=true):chS m ds s=.ok d s:=by
 have h:∃ d g,m ds s=.ok d (s++g)/\D.cl s.length d=true:=⟨d,g,e,k⟩
 obtain⟨g',e',_⟩:=h.choose_spec
 have e2:d=h.choose:=by
  have e3:=e.symm.trans e'
  injection e3
 unfold chS
 rw[dif_pos h,<- e2]
end M
namespace M
theorem zB6 {g:Gd}{f:D->S->R (Option D)}{s:S}{h:D->D} (hg:zm g s=true):∀ {xs:List D},(∀ x∈xs,f x s=.ok (some (h x)) s)->qf g f xs s=.ok (xs.map h) s
 | [],_=>rfl
 | x::xs,e=>by
  show (f x s).bind _=_
  rw[e x List.mem_cons_self,R.bind_ok,if_pos hg,zB6 hg fun y hy=>e y (List.mem_cons_of_mem _ hy)]
  rfl
theorem Jd {g:Gd}{f:D->S->R (Option D)}{s:S}{p:D->Bool}{h:D->D} (hg:zm g s=true):∀ {xs:List D},(∀ x∈xs,f x s=.ok (if p x then some (h x) else none) s)->qf g f xs s=.ok ((xs.filter p).map h) s
 | [],_=>rfl
 | x::xs,e=>by
  show (f x s).bind _=_
  rw[e x List.mem_cons_self,R.bind_ok,if_pos hg,Jd hg fun y hy=>e y (List.mem_cons_of_mem _ hy),R.bind_ok]
  cases hp:p x<;>simp[hp]
theorem zGm {n:Nat}{it:IM}{tg:GM}{e:EM}{σ:St}{s:S}{xs:List D}{g:Gd} (h:D->D) (hi:it σ s=.ok (xs,g) s) (hl:xs.length <= SZ) (hg:zm g s=true) (he:∀ x∈xs,qZ n tg Zf e σ x s=.ok (some (h x)) s):qy n it tg Zf e σ s=.ok (xs.map h) s:=by
 unfold qy
 rw[hi,R.bind_ok,if_pos ⟨hl,hg⟩]
 exact zB6 hg he
theorem zAu {n:Nat}{it:IM}{tg:GM}{e:EM}{σ:St}{s:S}{lo hi:Int} (h:Nat->D) (hit:it σ s=.ok (jq lo hi,[]) s) (hl:(hi - lo).toNat <= SZ) (he:∀ k:Nat,k < (hi - lo).toNat->qZ n tg Zf e σ (.int (lo+k)) s=.ok (some (h k)) s) :
  qy n it tg Zf e σ s=.ok ((List.range (hi - lo).toNat).map h) s:=by
 have:=zGm (n:=n) (tg:=tg) (e:=e) (fun d=>match d with | .int i=>h (i - lo).toNat | d=>d) hit (by simpa [jq] using hl) rfl fun x hx=>by
  obtain⟨k,hk,rfl⟩:=List.mem_map.mp hx
  have e:(lo+(k:Int) - lo).toNat=k:=by omega
  rw[he k (List.mem_range.mp hk)]
  show R.ok (some (h k)) s=R.ok (some (h (lo+(k:Int) - lo).toNat)) s
  rw[e]
 rw[this]
 unfold jq
 rw[List.map_map]
 have e2:∀ k:Nat,(lo+(k:Int) - lo).toNat=k:=fun k=>by omega
 have e3:((fun d=>match d with | .int i=>h (i - lo).toNat | d=>d) ∘ fun (k:Nat)=>D.int (lo+k))=h:=by
  funext k
  show h (lo+(k:Int) - lo).toNat=h k
  rw[e2]
 rw[e3]
theorem Qq {α:Type} (xs:List α) (lo hi:Option Int):(cut xs lo hi).length <= xs.length:=by
 unfold cut
 rw[List.length_take,List.length_drop];omega
theorem zJ1 {α:Type} (xs:List α) {k:Int} (h:0 <= k):cut xs none (some k)=xs.take k.toNat:=by
 unfold cut sIx
 have:¬ k < 0:=by omega
 simp only[List.drop_zero,if_neg this,Nat.sub_zero]
 by_cases hk:k <= xs.length
 ·rw[show (min k (xs.length:Int)).toNat=k.toNat by omega]
 ·rw[List.take_of_length_le (by omega),List.take_of_length_le (by omega)]
theorem zFx {α:Type} (f:α->T) (xs:List α):QR (xs.map fun x=>.str (f x))=some (xs.map f):=by
 induction xs with
 | nil=>rfl
 | cons x xs ih=>show (QR (xs.map fun x=>D.str (f x))).map _=_;rw[ih];rfl
theorem zCC (xs:List T):Zo [] xs=xs.flatten:=by
 induction xs with
 | nil=>rfl
 | cons x xs ih =>
  cases xs with
  | nil=>simp[Zo]
  | cons y ys=>show x++[]++Zo [] (y::ys)=_;rw[ih];simp
theorem zC8 {α β:Type} (f:α->β) (xs:List α):(xs.map fun x=>[f x]).flatten=xs.map f:=by
 induction xs with
 | nil=>rfl
 | cons x xs ih=>rw[List.map_cons,List.flatten_cons,ih];rfl
theorem zGa {α:Type} (f:α->Nat) (xs:List α):((xs.map fun x=>[f x]).map List.length).sum=xs.length:=by
 induction xs with
 | nil=>rfl
 | cons x xs ih=>rw[List.map_cons,List.map_cons,List.sum_cons,ih,List.length_cons];show 1+xs.length=xs.length+1;omega
theorem zFf {α:Type} (f:α->Nat) (xs:List α) (s:S) (h:xs.length <= SZ):ZA [] (xs.map fun x=>.str [f x]) s=.ok (.str (xs.map f)) s:=by
 unfold ZA
 rw[zFx]
 dsimp only
 rw[if_pos,zCC,zC8]
 rw[zGa]
 simpa using h
theorem yk {S:M.S}{p:Nat}{o:O} (e:S[p]? = some o) (g:M.S):(S++g)[p]? = some o:=by
 rw[List.getElem?_append_left (List.getElem?_eq_some_iff.mp e).1]
 exact e
theorem zDR {n:Nat}{it:IM}{tg:GM}{c:TM}{e:EM}{σ:St}{s s1:S}{xs:List D}{g:Gd} (p:D->Bool) (h:D->D) (hi:it σ s=.ok (xs,g) s1) (hl:xs.length <= SZ) (hg:zm g s1=true) (he:∀ x∈xs,qZ n tg c e σ x s1=.ok (if p x then some (h x) else none) s1):qy n it tg c e σ s=.ok ((xs.filter p).map h) s1:=by
 unfold qy
 rw[hi,R.bind_ok,if_pos ⟨hl,hg⟩]
 exact Jd hg he
theorem zG2 {g:Gd}{s t:S} (h:zm g s=true):zm g (s++t)=true:=by
 unfold zm at h ⊢
 rw[List.all_eq_true] at h ⊢
 intro p hp
 exact decide_eq_true (yk (of_decide_eq_true (h p hp)) t)
theorem zAs {g:Gd}{f:D->S->R (Option D)}{s0:S}{h:D->D} (hg:zm g s0=true):∀ {xs:List D} (t:S),(∀ x∈xs,∀ t,∃ t',f x (s0++t)=.ok (some (h x)) (s0++t'))->∃ t',qf g f xs (s0++t)=.ok (xs.map h) (s0++t')
 | [],t,_=>⟨t,rfl⟩
 | x::xs,t,e=>by
  obtain⟨t1,e1⟩:=e x List.mem_cons_self t
  obtain⟨t2,e2⟩:=zAs hg (xs:=xs) t1 fun y hy=>e y (List.mem_cons_of_mem _ hy)
  refine⟨t2,?_⟩
  show (f x (s0++t)).bind _=_
  rw[e1,R.bind_ok,if_pos (zG2 hg),e2]
  rfl
theorem zFy {n:Nat}{it:IM}{tg:GM}{e:EM}{σ:St}{s:S}{xs:List D}{g:Gd} (h:D->D) (hi:it σ s=.ok (xs,g) s) (hl:xs.length <= SZ) (hg:zm g s=true) (he:∀ x∈xs,∀ t,∃ t',qZ n tg Zf e σ x (s++t)=.ok (some (h x)) (s++t')):∃ t',qy n it tg Zf e σ s=.ok (xs.map h) (s++t'):=by
 unfold qy
 rw[hi,R.bind_ok,if_pos ⟨hl,hg⟩]
 have:=zAs (t:=[]) hg he
 rwa [List.append_nil] at this
@[simp] noncomputable def jj:D->D->S->R D
 | .tup [],.tup b,s=>.ok (.tup b) s
 | x,y,s=>qE x y s
@[simp] noncomputable def zMP:D->F
 | .ref p,[],s=>match s[p]? with
  | some (.dct _)=>.ok .non (s.set p (.dct []))
  | _=>.no
 | _,_,_=>.no
end M
namespace M
noncomputable def kyT:D->Bool
 | .tup ds=>kyD 7 (.tup ds)
 | _=>false
@[simp] noncomputable def Jb (x:D) (s:S):Option (Nat×List (D×D)):=match x with
 | .ref p=>(match s[p]? with | some (.dtt kvs)=>some (p,kvs) | _=>none)
 | _=>none
@[simp] noncomputable def zKf (x:D) (s:S):Option (List (D×D)):=match x with
 | .ref p=>(match s[p]? with | some (.dtt kvs)=>some kvs | some (.ftt kvs)=>some kvs | _=>none)
 | _=>none
@[simp] noncomputable def zS (x k:D) (s:S):R D:=match zKf x s with
 | some kvs=>if kyT k then (match zo k kvs with | some d=>.ok d s | none=>.no) else .no
 | none=>ZI x k s
@[simp] noncomputable def zJh (x:D) (lo hi:Option Int) (s:S):R D:=match x with
 | .tup xs=>.ok (.tup (cut xs lo hi)) s
 | x=>slD x lo hi s
@[simp] noncomputable def qh (a:EM) (lo hi:OM):EM:=fun σ s=>(a σ s).bind fun x s=>(lo σ s).bind fun l s=>(hi σ s).bind fun h s=>zJh x l h s
@[simp] noncomputable def yo (m:EM) (tg:GM) (b:SM):SM:=fun σ s=>(m σ s).stm σ fun x s=>match x with
 | .ref i=>(match s[i]? with
  | some (.dtt kvs)=>zCU i (.ftt kvs) (.dtt kvs) (jX [] (jf tg b) (kvs.map fun p=>.tup [p.1,p.2]) σ (s.set i (.ftt kvs)))
  | _=>.no)
 | _=>.no
@[simp] noncomputable def inL (x:D) (ys:List D) (s:S) (r:R Bool):R Bool:=if kyD 7 x && ys.all (kyD 7) then .ok (ys.contains x) s else r
@[simp] noncomputable def inT (x y:D) (s:S):R Bool:=match Jb y s with
 | some (_,kvs)=>if kyT x then .ok (zo x kvs).isSome s else .no
 | none=>(match y with
  | .ref i=>(match jO s i with | some ys=>inL x ys s (inD x y s) | none=>inD x y s)
  | _=>inD x y s)
@[simp] noncomputable def Jh:CM:=fun x y s=>(inT x y s).bind fun b s=>.ok (!b) s
@[simp] noncomputable def ZP:F
 | [x],s=>(match Jb x s with | some (_,kvs)=>.ok (.int kvs.length) s | none=>Qh [x] s)
 | xs,s=>Qh xs s
@[simp] noncomputable def yx:F
 | [x],s=>(match Jb x s with | some (_,kvs)=>alloc (.lst (kvs.map (·.1))) s | none=>zCT [x] s)
 | xs,s=>zCT xs s
@[simp] noncomputable def Ql (x k y:D) (s:S):R Unit:=match Jb x s with
 | some (p,kvs)=>if kyT k && decide (kvs.length < SZ) then .ok () (s.set p (.dtt (qz k y kvs))) else .no
 | none=>qw x k y s
@[simp] noncomputable def Z4 (o k e:EM):SM:=fun σ s=>(e σ s).stm σ fun y s=>(o σ s).stm σ fun x s=>(k σ s).stm σ fun k s=>(Ql x k y s).stm σ fun _ s=>.nx σ s
@[simp] noncomputable def QP:D->F
 | x,[k],s=>(match Jb x s with
  | some (p,kvs)=>if kyT k then (match zo k kvs with | some v=>.ok v (s.set p (.dtt (z6 k kvs))) | none=>.no) else .no
  | none=>.no)
 | x,[k,d],s=>(match Jb x s with
  | some (p,kvs)=>if kyT k then (match zo k kvs with | some v=>.ok v (s.set p (.dtt (z6 k kvs))) | none=>.ok d s) else .no
  | none=>.no)
 | _,_,_=>.no
@[simp] noncomputable def Qm:EM:=fun _ s=>alloc (.dtt []) s
end M
namespace M
noncomputable def zHe (m:F) (ds:List D) (s:S) (p:D×S):Prop:=∃ g,m ds s=.ok p.1 (p.2++g)/\p.2.length=s.length/\clS s.length p.2=true/\D.cl s.length p.1=true
noncomputable def chO (m:F):F:=fun ds s=>@dite (R D) (∃ p,zHe m ds s p) (Classical.propDecidable _) (fun h=>.ok h.choose.1 h.choose.2) (fun _=>.no)
theorem zDT {n:Nat} (m:F):jh n m (chO m):=fun ds S hl c ca=>by
 unfold chO
 split
 ·rename_i h
  obtain⟨g,e,l,c1,c2⟩:=h.choose_spec
  generalize h.choose=p at *
  obtain⟨d,S'⟩:=p
  dsimp only at *
  refine .inr ⟨d,S',S'++g,List.range S.length,rfl,?_,⟨?_,List.nodup_range,Nat.le_of_eq l.symm,fun i hi=>?_,fun i o q=>?_⟩,?_⟩
  ·rw[D.ren_id fun i=>Z6 _ i];exact e
  ·rw[List.length_range,l]
  ·rw[List.getElem?_range hi]
  ·have hi:i < S'.length:=(List.getElem?_eq_some_iff.mp q).1
   refine⟨i,?_,?_,?_⟩
   ·rw[List.getElem?_range (by omega)]
   ·rw[O.ren_id fun i=>Z6 _ i,List.getElem?_append_left hi];exact q
   ·rw[l];exact List.all_eq_true.mp c1 o (List.mem_of_getElem? q)
  ·rw[l];exact c2
 ·exact .inl rfl
theorem JS {m:F}{ds:List D}{s S' g:S}{d:D} (e:m ds s=.ok d (S'++g)) (l:S'.length=s.length) (c:clS s.length S'=true) (k:D.cl s.length d=true):chO m ds s=.ok d S':=by
 have h:∃ p,zHe m ds s p:=⟨(d,S'),g,e,l,c,k⟩
 unfold chO
 rw[dif_pos h]
 obtain⟨g',e',l',_⟩:=h.choose_spec
 generalize h.choose=p at *
 have e2:=e.symm.trans e'
 injection e2 with e1 e2
 have e3:=List.append_inj_left e2 (by omega)
 rw[<- e1,<- e3]
theorem Zq (m:Nat):∀ {n:Nat}{d:D},kyD n d=true->D.cl m d=true:=by
 intro n
 induction n with
 | zero=>intro d h;cases d<;>first | rfl | cases h
 | succ n ih =>
  intro d h
  cases d with
  | tup ds =>
   have h':ds.all (kyD n)=true:=h
   show D.cl.all m ds=true
   clear h
   induction ds with
   | nil=>rfl
   | cons d ds ih2 =>
    rw[List.all_cons,Bool.and_eq_true] at h'
    show (D.cl m d && D.cl.all m ds)=true
    rw[ih h'.1,ih2 h'.2];rfl
  | _=>first | rfl | cases h
theorem zD1:∀ {n k:Nat}{d:D},n <= k->kyD n d=true->kyD k d=true:=by
 intro n
 induction n with
 | zero=>intro k d l h;cases d<;>first | (cases k<;>rfl) | cases h
 | succ n ih =>
  intro k d l h
  obtain⟨k,rfl⟩:∃ j,k=j+1:=⟨k - 1,by omega⟩
  cases d with
  | tup ds =>
   have h':ds.all (kyD n)=true:=h
   exact List.all_eq_true.mpr fun d hd=>ih (by omega) (List.all_eq_true.mp h' d hd)
  | _=>first | rfl | cases h
end M
namespace L2
open PySem PySem.Spec PyProof.Rows
noncomputable def ofT (x:M.T):Str:=⟨x.toArray⟩
theorem jo (x:M.T):(ofT x).length=x.length:=by simp[ofT,Str.length]
theorem ZM (x:M.T):(ofT x).cps.toList=x:=by simp[ofT]
theorem Qw {x y:M.T} (h:ofT x=ofT y):x=y:=by rw[<- ZM x,h,ZM]
theorem zI4 (x y:M.T):ofT x++ofT y=ofT (x++y):=by
 show (⟨x.toArray++y.toArray⟩:Str)=_
 simp[ofT]
noncomputable abbrev okT (x:M.T):Prop:=x.all (fun c=>decide (c < 1114112))=true
theorem zBb {x y:M.T} (h:okT x) (k:okT y):okT (x++y):=by show (x++y).all _=true;rw[List.all_append,h,k];rfl
theorem Jt {x y:M.T} (h:okT x) (k:∀ c∈y,c∈x):okT y:=List.all_eq_true.mpr fun c hc=>List.all_eq_true.mp h c (k c hc)
theorem yq:M.SZ=sizeLine:=by rw[sizeLine_eq];rfl
noncomputable def Zw (K:PySem.W.Frag) (H:Hp) (a:Addr) (xs:List V):Prop :=
 (∃ o,H a=some (.frz o (.lst xs))) \/
  ∃ (o:Obj) (its:Array Value) (n:Nat),K.lookup a=some o/\o.cls=.type "list" /\ o.dict=none/\o.data=.seq its n/\its.size <= sizeLine/\zX xs its.toList
theorem Zw.sq {K:PySem.W.Frag}{H:Hp}{a:Addr}{xs:List V} (h:Zw K H a xs):SqL K H a xs:=by
 rcases h with ⟨o,h⟩ | h
 ·exact .inl (.inr ⟨o,h⟩)
 ·exact .inr h
structure Le (H H':Hp):Prop where
 tups:∀ b xs,H b=some (.tup xs)->H' b=some (.tup xs)
 frzs:∀ b o u,H b=some (.frz o u)->H' b=some (.frz o u)
theorem Le.refl (H:Hp):Le H H:=⟨fun _ _ h=>h,fun _ _ _ h=>h⟩
theorem Le.trans {H H1 H2:Hp} (a:Le H H1) (b:Le H1 H2):Le H H2:=⟨fun c xs h=>b.tups c xs (a.tups c xs h),fun c o u h=>b.frzs c o u (a.frzs c o u h)⟩
theorem Le.new {H:Hp}{p:Addr} (h:H p=none) (o:HO):Le H (upd H p o) :=
 ⟨fun b xs q=>by rw[zV (yD q h)];exact q,fun b o u q=>by rw[zV (yD q h)];exact q⟩
theorem Le.put {H:Hp}{p:Addr} (h:Mut (H p)) (o:HO):Le H (upd H p o) :=
 ⟨fun b xs q=>by rw[zV (fun z=>by subst z;rw[q] at h;exact h)];exact q,fun b o u q=>by rw[zV (fun z=>by subst z;rw[q] at h;exact h)];exact q⟩
theorem Le.rol {K:PySem.W.Frag}{H H':Hp}{a:Addr}{xs:List V} (e:Le H H') (h:Zw K H a xs):Zw K H' a xs:=by
 rcases h with ⟨o,h⟩ | h
 ·exact .inl ⟨o,e.frzs _ _ _ h⟩
 ·exact .inr h
theorem Le.sqT {K:PySem.W.Frag}{H H':Hp}{a:Addr}{xs:List V} (e:Le H H') (h:SqT K H a xs):SqT K H' a xs:=by
 rcases h with (h | ⟨o,h⟩) | h
 ·exact .inl (.inl (e.tups _ _ h))
 ·exact .inl (.inr ⟨o,e.frzs _ _ _ h⟩)
 ·exact .inr h
noncomputable def qF:M.Kd->String
 | .str => "str" | .int => "int" | .bool => "bool" | .list => "list" | .tuple => "tuple" | .dict => "dict"
noncomputable def zG (K:PySem.W.Frag) (ρ:List Addr) (H:Hp):M.D->V->Prop
 | .non,v=>v=.non
 | .bl b,v=>v=.bl b
 | .int i,v=>v=.int i
 | .str x,v=>v=.str (ofT x)/\okT x
 | .ty n,v=>v=.ty (qF n)
 | .ref i,v=>∃ a,v=.ref a/\ρ[i]? = some a
 | .tup ds,v=>∃ a xs,v=.ref a/\SqT K H a xs/\all ds xs
 | .ro ds,v=>∃ a xs,v=.ref a/\Zw K H a xs/\all ds xs
where all:List M.D->List V->Prop
 | [],xs=>xs=[]
 | d::ds,xs=>∃ y ys,xs=y::ys/\zG K ρ H d y/\all ds ys
noncomputable abbrev zJ (K:PySem.W.Frag) (ρ:List Addr) (H:Hp):List M.D->List V->Prop:=zG.all K ρ H
theorem Z7 {ρ ρ':List Addr} (h:ρ <+: ρ') {i:Nat}{a:Addr} (e:ρ[i]? = some a):ρ'[i]? = some a:=by
 obtain⟨t,rfl⟩:=h
 rw[List.getElem?_append_left (List.getElem?_eq_some_iff.mp e).1]
 exact e
section
variable {K:PySem.W.Frag}{ρ ρ':List Addr}{H H':Hp}
mutual
theorem zG.mono (hρ:ρ <+: ρ') (le:Le H H'):∀ {d:M.D}{v:V},zG K ρ H d v->zG K ρ' H' d v
 | .non,_,h=>h
 | .bl _,_,h=>h
 | .int _,_,h=>h
 | .str _,_,h=>h
 | .ty _,_,h=>h
 | .ref _,_,⟨a,e,h⟩=>⟨a,e,Z7 hρ h⟩
 | .tup _,_,⟨a,xs,e,h,r⟩=>⟨a,xs,e,le.sqT h,zJ.mono hρ le r⟩
 | .ro _,_,⟨a,xs,e,h,r⟩=>⟨a,xs,e,le.rol h,zJ.mono hρ le r⟩
theorem zJ.mono (hρ:ρ <+: ρ') (le:Le H H'):∀ {ds:List M.D}{xs:List V},zJ K ρ H ds xs->zJ K ρ' H' ds xs
 | [],_,h=>h
 | _::_,_,⟨y,ys,e,h,r⟩=>⟨y,ys,e,zG.mono hρ le h,zJ.mono hρ le r⟩
end
theorem zJ.length:∀ {ds:List M.D}{xs:List V},zJ K ρ H ds xs->ds.length=xs.length
 | [],_,h=>by cases h;rfl
 | _::_,_,⟨_,_,e,_,r⟩=>by subst e;rw[List.length_cons,List.length_cons,zJ.length r]
theorem zJ.get:∀ {ds:List M.D}{xs:List V}{i:Nat}{d:M.D},zJ K ρ H ds xs->ds[i]? = some d->∃ v,xs[i]? = some v/\zG K ρ H d v
 | [],_,_,_,_,e=>by simp at e
 | _::_,_,0,_,⟨y,_,e1,h,_⟩,e=>by subst e1;simp at e;subst e;exact⟨y,rfl,h⟩
 | _::_,_,i+1,d,⟨_,ys,e1,_,r⟩,e=>by
  subst e1
  obtain⟨v,h1,h2⟩:=zJ.get (i:=i) (d:=d) r (by simpa using e)
  exact⟨v,by simpa using h1,h2⟩
theorem zJ.app:∀ {ds es:List M.D}{xs ys:List V},zJ K ρ H ds xs->zJ K ρ H es ys->zJ K ρ H (ds++es) (xs++ys)
 | [],_,_,_,h,k=>by cases h;exact k
 | _::_,_,_,_,⟨y,ys,e,h,r⟩,k=>by subst e;exact⟨y,_,rfl,h,zJ.app r k⟩
theorem zJ.take:∀ {ds:List M.D}{xs:List V} (n:Nat),zJ K ρ H ds xs->zJ K ρ H (ds.take n) (xs.take n)
 | _,_,0,_=>rfl
 | [],_,_+1,h=>by cases h;rfl
 | _::_,_,n+1,⟨y,ys,e,h,r⟩=>by subst e;exact⟨y,_,rfl,h,zJ.take n r⟩
theorem zJ.drop:∀ {ds:List M.D}{xs:List V} (n:Nat),zJ K ρ H ds xs->zJ K ρ H (ds.drop n) (xs.drop n)
 | _,_,0,h=>h
 | [],_,_+1,h=>by cases h;rfl
 | _::_,_,n+1,⟨y,ys,e,h,r⟩=>by subst e;exact zJ.drop n r
theorem zJ.set {d:M.D}{v:V} (hd:zG K ρ H d v):∀ {ds:List M.D}{xs:List V} (n:Nat),zJ K ρ H ds xs->zJ K ρ H (ds.set n d) (xs.set n v)
 | [],_,_,h=>by cases h;rfl
 | _::_,_,0,⟨y,ys,e,h,r⟩=>by subst e;exact⟨v,ys,rfl,hd,r⟩
 | _::_,_,n+1,⟨y,ys,e,h,r⟩=>by subst e;exact⟨y,_,rfl,h,zJ.set hd n r⟩
end
section
variable {K:PySem.W.Frag}{ρ ρ':List Addr}{H H':Hp}{ds es:List M.D}{xs ys:List V}
theorem zG.all.mono (h:zG.all K ρ H ds xs) (hρ:ρ <+: ρ') (le:Le H H'):zG.all K ρ' H' ds xs:=zJ.mono hρ le h
theorem zG.all.length (h:zG.all K ρ H ds xs):ds.length=xs.length:=zJ.length h
theorem zG.all.app (h:zG.all K ρ H ds xs) (k:zG.all K ρ H es ys):zG.all K ρ H (ds++es) (xs++ys):=zJ.app h k
end
noncomputable def Zy:M.D->Key->Prop
 | .int i,k=>k=.inl i
 | .str x,k=>k=.inr (ofT x)/\okT x
 | _,_=>False
structure Tab where
 tab:Nat->Option (Addr×List Str)
 ha:M.D->Int:=fun _=>0
instance:CoeFun Tab fun _=>Nat->Option (Addr×List Str):=⟨Tab.tab⟩
noncomputable def TD (ha:M.D->Int) (a:Addr) (xs:List (M.D×Addr×Value)) (h:Heap):Prop:=xs.length <= sizeLine/\(a == sysModules)=false/\(xs.map (·.1)).Nodup /\
 ∃ o es ep,h.get? a=some o/\o.ExactDict/\o.data=.dict es ep/\es.toList=xs.map fun x=>⟨ha x.1,.ref x.2.1,x.2.2⟩
noncomputable def TDr (K:PySem.W.Frag) (ρ:List Addr) (H:Hp) (p:M.D×M.D) (q:M.D×Addr×Value):Prop:=q.1=p.1/\M.kyD 7 p.1=true/\zG K ρ H p.1 (.ref q.2.1)/\∃ v,zG K ρ H p.2 v/\zY v q.2.2
theorem TDr.mono {K:PySem.W.Frag}{ρ ρ':List Addr}{H H':Hp} (hρ:ρ <+: ρ') (le:Le H H') {p:M.D×M.D}{q:M.D×Addr×Value} (h:TDr K ρ H p q):TDr K ρ' H' p q :=
 ⟨h.1,h.2.1,h.2.2.1.mono hρ le,let ⟨v,a,b⟩:=h.2.2.2;⟨v,a.mono hρ le,b⟩⟩
structure JZ (K:PySem.W.Frag) (ρ:List Addr) (H:Hp) (N:List Str) (fs:List (Option M.D)) (gs:List (Str×V)):Prop where
 len:fs.length=N.length
 nd:(gs.map (·.1)).Nodup
 within:∀ f∈gs.map (·.1),f∈N
 get:∀ (i:Nat) (f:Str) (d:M.D),N[i]? = some f->fs[i]? = some (some d)->∃ v,gs.lookup f=some v/\zG K ρ H d v
noncomputable def ObR (K:PySem.W.Frag) (Θ:Tab) (ρ:List Addr) (H:Hp) (a:Addr):M.O->Prop
 | .lst ds=>∃ xs,H a=some (.lst xs)/\zJ K ρ H ds xs
 | .dct kvs=>∃ ks,H a=some (.dK ks)/\Paired (fun (p:M.D×M.D) (q:Key×V)=>Zy p.1 q.1/\zG K ρ H p.2 q.2) kvs ks
 | .fdc kvs=>∃ o ks,H a=some (.frz o (.dK ks))/\Paired (fun (p:M.D×M.D) (q:Key×V)=>Zy p.1 q.1/\zG K ρ H p.2 q.2) kvs ks
 | .dtt kvs=>∃ xs,H a=some (.ext (TD Θ.ha a xs))/\Paired (TDr K ρ H) kvs xs
 | .ftt kvs=>∃ o xs,H a=some (.frz o (.ext (TD Θ.ha a xs)))/\Paired (TDr K ρ H) kvs xs
 | .ins c fs=>∃ C dx gs N,H a=some (.ins C dx gs)/\Θ c=some (C,N)/\JZ K ρ H N fs gs
structure zR (K:PySem.W.Frag) (Θ:Tab) (ρ:List Addr) (S:M.S) (H:Hp):Prop where
 len:ρ.length=S.length
 nd:ρ.Nodup
 obj:∀ (i:Nat) (o:M.O),S[i]? = some o->∃ a,ρ[i]? = some a/\ObR K Θ ρ H a o
structure z7 (K:PySem.W.Frag) (ρ:List Addr) (H:Hp) (σ':M.St) (σ:St):Prop where
 len:σ'.length=σ.length
 get:∀ (i:Nat) (d:M.D),σ'[i]? = some (some d)->∃ v,σ[i]? = some (some v)/\zG K ρ H d v
section
variable {K:PySem.W.Frag}{Θ:Tab}{ρ ρ':List Addr}{H H':Hp}{S:M.S}
theorem z7.mono {σ':M.St}{σ:St} (h:z7 K ρ H σ' σ) (hρ:ρ <+: ρ') (le:Le H H'):z7 K ρ' H' σ' σ :=
 ⟨h.len,fun i d e=>let ⟨v,h1,h2⟩:=h.get i d e;⟨v,h1,h2.mono hρ le⟩⟩
theorem z7.set {σ':M.St}{σ:St}{d:M.D}{v:V} (h:z7 K ρ H σ' σ) (hd:zG K ρ H d v) (i:Nat):z7 K ρ H (σ'.set i (some d)) (σ.set i (some v)):=by
 refine⟨by rw[List.length_set,List.length_set,h.len],fun j e q=>?_⟩
 by_cases hj:i=j
 ·subst hj
  by_cases hl:i < σ'.length
  ·rw[List.getElem?_set_self hl] at q
   cases q
   exact⟨v,by rw[List.getElem?_set_self (h.len ▸ hl)],hd⟩
  ·rw[List.getElem?_eq_none (by rw[List.length_set];omega)] at q
   cases q
 ·rw[List.getElem?_set_ne hj] at q
  rw[List.getElem?_set_ne hj]
  exact h.get j e q
theorem z7.more {σ':M.St}{σ:St} (h:z7 K ρ H σ' σ) (n:Nat):z7 K ρ H (σ'++List.replicate n none) (σ++List.replicate n none):=by
 refine⟨by simp[h.len],fun i d q=>?_⟩
 by_cases hl:i < σ'.length
 ·rw[List.getElem?_append_left hl] at q
  rw[List.getElem?_append_left (h.len ▸ hl)]
  exact h.get i d q
 ·rw[List.getElem?_append_right (by omega),List.getElem?_replicate] at q
  split at q<;>cases q
theorem zR.tracked (h:zR K Θ ρ S H) {a:Addr} (m:a∈ρ):∃ o,H a=some o:=by
 obtain⟨i,hi,e⟩:=List.mem_iff_getElem.mp m
 have hl:i < S.length:=h.len ▸ hi
 obtain⟨a',e1,r⟩:=h.obj i S[i] (by simp[hl])
 rw[List.getElem?_eq_getElem hi,e] at e1
 cases e1
 cases q:S[i] with
 | lst ds=>rw[q] at r;obtain⟨xs,e2,_⟩:=r;exact⟨_,e2⟩
 | dct kvs=>rw[q] at r;obtain⟨xs,e2,_⟩:=r;exact⟨_,e2⟩
 | fdc kvs=>rw[q] at r;obtain⟨o,xs,e2,_⟩:=r;exact⟨_,e2⟩
 | dtt kvs=>rw[q] at r;obtain⟨xs,e2,_⟩:=r;exact⟨_,e2⟩
 | ftt kvs=>rw[q] at r;obtain⟨o,xs,e2,_⟩:=r;exact⟨_,e2⟩
 | ins c fs=>rw[q] at r;obtain⟨_,_,_,_,e2,_⟩:=r;exact⟨_,e2⟩
theorem zR.fresh (h:zR K Θ ρ S H) {p:Addr} (hp:H p=none):p∉ρ:=fun m=>by
 obtain⟨o,e⟩:=h.tracked m
 rw[hp] at e;cases e
theorem ObR.stay {a:Addr}{o:M.O} (h:ObR K Θ ρ H a o) (hρ:ρ <+: ρ') (le:Le H H') (e:H' a=H a):ObR K Θ ρ' H' a o:=by
 cases o with
 | lst ds=>obtain⟨xs,e1,r⟩:=h;exact⟨xs,e.trans e1,r.mono hρ le⟩
 | dct kvs=>obtain⟨ks,e1,r⟩:=h;exact⟨ks,e.trans e1,Paired.mapP r fun p q z=>⟨z.1,z.2.mono hρ le⟩⟩
 | fdc kvs=>obtain⟨o,ks,e1,r⟩:=h;exact⟨o,ks,e.trans e1,Paired.mapP r fun p q z=>⟨z.1,z.2.mono hρ le⟩⟩
 | dtt kvs=>obtain⟨xs,e1,r⟩:=h;exact⟨xs,e.trans e1,Paired.mapP r fun p q z=>z.mono hρ le⟩
 | ftt kvs=>obtain⟨o,xs,e1,r⟩:=h;exact⟨o,xs,e.trans e1,Paired.mapP r fun p q z=>z.mono hρ le⟩
 | ins c fs =>
  obtain⟨C,dx,gs,N,e1,e2,r⟩:=h
  exact⟨C,dx,gs,N,e.trans e1,e2,r.len,r.nd,r.within,fun i f d h1 h2=>let ⟨v,k1,k2⟩:=r.get i f d h1 h2;⟨v,k1,k2.mono hρ le⟩⟩
theorem zR.stay (h:zR K Θ ρ S H) (le:Le H H') (e:∀ a∈ρ,H' a=H a):zR K Θ ρ S H' :=
 ⟨h.len,h.nd,fun i o q=>let ⟨a,h1,h2⟩:=h.obj i o q;⟨a,h1,h2.stay (List.prefix_refl _) le (e a (List.mem_of_getElem? h1))⟩⟩
theorem zR.aside (h:zR K Θ ρ S H) {p:Addr} (hp:H p=none) (o:HO):zR K Θ ρ S (upd H p o) :=
 h.stay (Le.new hp o) fun a m=>zV (fun z=>h.fresh hp (z ▸ m))
theorem zR.alloc (h:zR K Θ ρ S H) {p:Addr} (hp:H p=none) {o:M.O}{u:HO} (r:ObR K Θ (ρ++[p]) (upd H p u) p o):zR K Θ (ρ++[p]) (S++[o]) (upd H p u):=by
 refine⟨by simp[h.len],?_,fun i ob q=>?_⟩
 ·rw[List.nodup_append]
  refine⟨h.nd,by simp,fun a ha b hb=>?_⟩
  have hb':b=p:=by simpa using hb
  rw[hb']
  exact fun z=>h.fresh hp (z ▸ ha)
 ·by_cases hl:i < S.length
  ·rw[List.getElem?_append_left hl] at q
   obtain⟨a,h1,h2⟩:=h.obj i ob q
   refine⟨a,Z7 (List.prefix_append _ _) h1,h2.stay (List.prefix_append _ _) (Le.new hp u) (zV fun z=>h.fresh hp (z ▸ List.mem_of_getElem? h1))⟩
  ·rw[List.getElem?_append_right (by omega)] at q
   have hi:i - S.length=0:=by
    cases hz:i - S.length with
    | zero=>rfl
    | succ k=>rw[hz] at q;simp at q
   rw[hi] at q
   simp at q
   subst q
   refine⟨p,?_,r⟩
   rw[List.getElem?_append_right (by rw[h.len];omega),h.len,hi]
   rfl
theorem QD {α:Type}{ρ:List α} (hN:ρ.Nodup) {i j:Nat}{x:α} (a:ρ[i]? = some x) (b:ρ[j]? = some x):i=j:=by
 induction ρ generalizing i j with
 | nil=>simp at a
 | cons y r ih =>
  rw[List.nodup_cons] at hN
  cases i with
  | zero =>
   cases j with
   | zero=>rfl
   | succ j =>
    simp at a b
    subst a
    exact absurd (List.mem_of_getElem? b) hN.1
  | succ i =>
   cases j with
   | zero =>
    simp at a b
    subst b
    exact absurd (List.mem_of_getElem? a) hN.1
   | succ j =>
    simp at a b
    rw[ih hN.2 a b]
theorem zGi {α:Type}{l:List α} (h:∀ (i j:Nat) x,l[i]? = some x->l[j]? = some x->i=j):l.Nodup:=by
 induction l with
 | nil=>exact List.nodup_nil
 | cons y r ih =>
  refine List.nodup_cons.mpr ⟨fun m=>?_,ih fun i j x a b=>?_⟩
  ·obtain⟨j,hj,e⟩:=List.mem_iff_getElem.mp m
   have:=h 0 (j+1) y (by simp) (by simp[e,hj])
   omega
  ·have:=h (i+1) (j+1) x (by simpa using a) (by simpa using b)
   omega
theorem zFk {α:Type}{l:List α} (hN:l.Nodup) {i j:Nat} (hi:i < l.length) (hj:j < l.length) (e:l[i]=l[j]):i=j :=
 QD hN (x:=l[i]) (by simp[hi]) (by rw[e];simp[hj])
theorem zR.put (h:zR K Θ ρ S H) {i:Nat}{a:Addr} (ha:ρ[i]? = some a) {o:M.O}{u:HO} (mu:Mut (H a)) (r:ObR K Θ ρ (upd H a u) a o):zR K Θ ρ (S.set i o) (upd H a u):=by
 refine⟨by simp[h.len],h.nd,fun j ob q=>?_⟩
 by_cases hj:i=j
 ·subst hj
  by_cases hl:i < S.length
  ·rw[List.getElem?_set_self hl] at q
   cases q
   exact⟨a,ha,r⟩
  ·rw[List.getElem?_eq_none (by rw[List.length_set];omega)] at q
   cases q
 ·rw[List.getElem?_set_ne hj] at q
  obtain⟨b,h1,h2⟩:=h.obj j ob q
  refine⟨b,h1,h2.stay (List.prefix_refl _) (Le.put mu u) (zV fun z=>?_)⟩
  subst z
  exact hj (QD h.nd ha h1)
end
noncomputable def zE {α β:Type} (K:PySem.W.Frag) (Θ:Tab) (Rl:List Addr->Hp->α->β->Prop) (ρ:List Addr) (H:Hp):M.R α->(β->Hp->Prop)->Prop
 | .ok a S',Q=>∀ ρ' H' b,ρ <+: ρ'->Le H H'->zR K Θ ρ' S' H'->Rl ρ' H' a b->Q b H'
 | .exc _ _,_=>False
 | .no,_=>False
noncomputable abbrev rB:List Addr->Hp->Bool->Bool->Prop:=fun _ _ a b=>a=b
noncomputable abbrev rO:List Addr->Hp->Option Int->Option Int->Prop:=fun _ _ a b=>a=b
section
variable {K:PySem.W.Frag}{Θ:Tab}{ρ ρ':List Addr}{H H':Hp}{S:M.S}{α β γ δ:Type}{Rl:List Addr->Hp->α->β->Prop}{Rk:List Addr->Hp->γ->δ->Prop}{Q:β->Hp->Prop}{Q':δ->Hp->Prop}
theorem zE.weak {r:M.R α} (h:zE K Θ Rl ρ H r Q) (hρ:ρ <+: ρ') (le:Le H H'):zE K Θ Rl ρ' H' r Q:=by
 cases r with
 | ok a s=>exact fun ρ2 H2 b p l=>h ρ2 H2 b (hρ.trans p) (le.trans l)
 | exc e s=>exact h
 | no=>exact h
theorem zE.bind {r:M.R α}{f:α->M.S->M.R γ} (h:zE K Θ Rk ρ H (r.bind f) Q')
  (k:∀ ρ' H' a b S',ρ <+: ρ'->Le H H'->zR K Θ ρ' S' H'->Rl ρ' H' a b->zE K Θ Rk ρ' H' (f a S') Q'->Q b H'):zE K Θ Rl ρ H r Q:=by
 cases r with
 | ok a s=>exact fun ρ2 H2 b p l rp rl=>k ρ2 H2 a b s p l rp rl (zE.weak h p l)
 | exc e s=>exact h
 | no=>exact h
theorem zE.here {a:α}{b:β} (h:zE K Θ Rl ρ H (.ok a S) Q) (rp:zR K Θ ρ S H) (rl:Rl ρ H a b):Q b H:=h ρ H b (List.prefix_refl _) (Le.refl _) rp rl
end
noncomputable def RdE (K:PySem.W.Frag) (Θ:Tab) (m:M.EM):TE:=fun σ H Q=>∃ ρ σ' S,z7 K ρ H σ' σ/\zR K Θ ρ S H/\zE K Θ (zG K) ρ H (m σ' S) Q
noncomputable def RdT (K:PySem.W.Frag) (Θ:Tab) (m:M.TM):TT:=fun σ H Q=>∃ ρ σ' S,z7 K ρ H σ' σ/\zR K Θ ρ S H/\zE K Θ rB ρ H (m σ' S) Q
noncomputable def RdA (K:PySem.W.Frag) (Θ:Tab) (m:M.AM):TA:=fun σ H Q=>∃ ρ σ' S,z7 K ρ H σ' σ/\zR K Θ ρ S H/\zE K Θ (zJ K) ρ H (m σ' S) Q
noncomputable def RdO (K:PySem.W.Frag) (Θ:Tab) (m:M.OM):TO:=fun σ H Q=>∃ ρ σ' S,z7 K ρ H σ' σ/\zR K Θ ρ S H/\zE K Θ rO ρ H (m σ' S) Q
noncomputable abbrev ME (X:Cx) (Θ:Tab) (e:Expr) (m:M.EM):Prop:=PE X e (RdE X.K Θ m)
@[irreducible] noncomputable def WE (X:Cx) (Θ:Tab) (e:Expr) (m:M.EM):Prop:=ME X Θ e m
noncomputable abbrev MT (X:Cx) (Θ:Tab) (e:Expr) (m:M.TM):Prop:=PT X e (RdT X.K Θ m)
@[irreducible] noncomputable def WT (X:Cx) (Θ:Tab) (e:Expr) (m:M.TM):Prop:=MT X Θ e m
noncomputable abbrev MW (X:Cx) (Θ:Tab) (e:Expr) (m:M.TM):Prop:=PW X e (RdT X.K Θ m)
@[irreducible] noncomputable def WW (X:Cx) (Θ:Tab) (e:Expr) (m:M.TM):Prop:=MW X Θ e m
noncomputable abbrev MA (X:Cx) (Θ:Tab) (es:List Expr) (m:M.AM):Prop:=PA X es (RdA X.K Θ m)
@[irreducible] noncomputable def WA (X:Cx) (Θ:Tab) (es:List Expr) (m:M.AM):Prop:=MA X Θ es m
noncomputable abbrev MO (X:Cx) (Θ:Tab) (e:Option Expr) (m:M.OM):Prop:=PO X e (RdO X.K Θ m)
@[irreducible] noncomputable def WO (X:Cx) (Θ:Tab) (e:Option Expr) (m:M.OM):Prop:=MO X Θ e m
theorem PE.imp {X:Cx}{e:Expr}{t t':TE} (h:PE X e t) (i:∀ σ H Q,t' σ H Q->t σ H Q):PE X e t':=fun pins s σ H Q I q=>h pins s σ H Q I (i σ H Q q)
theorem PT.imp {X:Cx}{e:Expr}{t t':TT} (h:PT X e t) (i:∀ σ H Q,t' σ H Q->t σ H Q):PT X e t':=fun pins s σ H Q I q=>h pins s σ H Q I (i σ H Q q)
theorem PW.imp {X:Cx}{e:Expr}{t t':TT} (h:PW X e t) (i:∀ σ H Q,t' σ H Q->t σ H Q):PW X e t':=fun wh pins s σ H Q I q=>h wh pins s σ H Q I (i σ H Q q)
theorem PA.imp {X:Cx}{es:List Expr}{t t':TA} (h:PA X es t) (i:∀ σ H Q,t' σ H Q->t σ H Q):PA X es t':=fun pos pins s σ H Q I q=>h pos pins s σ H Q I (i σ H Q q)
theorem PO.imp {X:Cx}{e:Option Expr}{t t':TO} (h:PO X e t) (i:∀ σ H Q,t' σ H Q->t σ H Q):PO X e t':=fun pins s σ H Q I q=>h pins s σ H Q I (i σ H Q q)
noncomputable def zv:Expr->Bool
 | .Starred _ _=>false
 | _=>true
theorem j2 {e:Expr}{es:List Expr}{env:Env} (h:zv e=true):starEach (e::es) env=(false,eval e env)::starEach es env:=by
 cases e<;>first | rfl | cases h
theorem ZJ {env:Env}{pos:Pos}:∀ {es:List Expr},es.all zv=true->(backTo pos (starEach es env)).any (·.1)=false
 | [],_=>rfl
 | e::es,h=>by
  rw[List.all_cons,Bool.and_eq_true] at h
  rw[j2 h.1]
  show (false || (backTo pos (starEach es env)).any (·.1))=false
  rw[ZJ h.2];rfl
theorem zDI {env:Env}{pos:Pos}:∀ {es:List Expr},es.all zv=true->(backTo pos (starEach es env)).all (fun x=>!x.1)=true
 | [],_=>rfl
 | e::es,h=>by
  rw[List.all_cons,Bool.and_eq_true] at h
  rw[j2 h.1]
  show (true && (backTo pos (starEach es env)).all (fun x=>!x.1))=true
  rw[zDI h.2];rfl
theorem zDD {env:Env}{pos:Pos}{es:List Expr} (h:es.all zv=true) (hl:es.length < 30):((backTo pos (starEach es env)).all (fun x=>!x.1) && (backToKw pos (keywordEach [] env)).all (fun x=>x.1.isSome)
  && decide (es.length+([]:List Keyword).length+(if ([]:List Keyword).isEmpty then 0 else 1) < 30))=true:=by
 rw[zDI h,Bool.true_and,Bool.and_eq_true]
 exact⟨rfl,decide_eq_true (by simpa using hl)⟩
section
variable {X:Cx}{Θ:Tab}{a b c:Expr}{pos:Pos}{ma mb mc:M.EM}{ta tb:M.TM}{j4:List Expr}
theorem zJc (i:Nat) {x:Str} (hN:X.N[i]? = some x:=by rfl) (hv:Vis X.env.scope x:=by first | exact Or.inl rfl | exact Or.inr (Or.inl rfl) | exact Or.inr (Or.inr rfl)) (hd:(x == ("__debug__" : Str))=false:=by decide)
  (hcd:(x == ("__classdict__" : Str))=false:=by decide):ME X Θ (.Name x pos) (M.zA i):=(zKm hN hv hd hcd).imp fun σ H Q ⟨ρ,σ',S,st,rp,h⟩=>by
 unfold M.zA at h
 split at h
 ·rename_i d e
  obtain⟨v,e1,r⟩:=st.get i d e
  exact⟨v,e1,h.here rp r⟩
 ·exact h.elim
theorem zCs (i:Nat) {x:Str} (hN:X.N[i]? = some x:=by rfl) (hv:Vis X.env.scope x:=by first | exact Or.inl rfl | exact Or.inr (Or.inl rfl) | exact Or.inr (Or.inr rfl)) (hd:(x == ("__debug__" : Str))=false:=by decide)
  (hcd:(x == ("__classdict__" : Str))=false:=by decide):WE X Θ (.Name x pos) (M.zA i):=by with_unfolding_all exact zJc i (x:=x) hN hv hd hcd
theorem Ju {e:Expr}{v:V}{d:M.D} (h:PE X e (tC v)) (r:∀ ρ H,zG X.K ρ H d v):ME X Θ e (M.eC d):=h.imp fun σ H Q ⟨ρ,σ',S,st,rp,h⟩=>h.here rp (r ρ H)
theorem zJo {i:Int}{j:Nat}:ME X Θ (.Constant (.int i) j pos) (M.eC (.int i)):=Ju zJm fun _ _=>rfl
theorem zF {i:Int}{j:Nat}:WE X Θ (.Constant (.int i) j pos) (M.eC (.int i)):=by with_unfolding_all exact zJo (i:=i) (j:=j)
theorem zK7 {k:Bool}{j:Nat}:ME X Θ (.Constant (.bool k) j pos) (M.eC (.bl k)):=Ju zLK fun _ _=>rfl
theorem ZY {k:Bool}{j:Nat}:WE X Θ (.Constant (.bool k) j pos) (M.eC (.bl k)):=by with_unfolding_all exact zK7 (k:=k) (j:=j)
theorem zJd {j:Nat}:ME X Θ (.Constant .none j pos) (M.eC .non):=Ju zKu fun _ _=>rfl
theorem ZL {j:Nat}:WE X Θ (.Constant .none j pos) (M.eC .non):=by with_unfolding_all exact zJd (j:=j)
theorem zKW {y:M.T}{x:Str}{j:Nat} (h:x=ofT y) (ok:okT y):ME X Θ (.Constant (.str x) j pos) (M.eC (.str y)):=Ju zF6 fun _ _=>by rw[h];exact⟨rfl,ok⟩
theorem zGs {y:M.T}{x:Str}{j:Nat} (h:x=ofT y) (ok:okT y):WE X Θ (.Constant (.str x) j pos) (M.eC (.str y)):=by with_unfolding_all exact zKW (y:=y) (x:=x) (j:=j) h ok
theorem zHO {x:Str}{v:V}{d:M.D} (h:zCg X.mg x v) (hg:Gl X x) (r:∀ ρ H,zG X.K ρ H d v) (hd:(x == ("__debug__" : Str))=false:=by decide):ME X Θ (.Name x pos) (M.eC d):=Ju (zHE h hg hd) r
theorem zEW {x:Str}{v:V}{d:M.D} (h:zCg X.mg x v) (hg:Gl X x) (r:∀ ρ H,zG X.K ρ H d v) (hd:(x == ("__debug__" : Str))=false:=by decide):WE X Θ (.Name x pos) (M.eC d):=by with_unfolding_all exact zHO (x:=x) (v:=v) (d:=d) h hg r hd
theorem zK2 (n:M.Kd) {x:Str} (hg:Gl X x) (hm:X.mg x=none) (hv:bootBuiltins x=some (.type (qF n))) (hn:x ≠ "__name__" := by decide) (hd:(x == ("__debug__" : Str))=false:=by decide):ME X Θ (.Name x pos) (M.eC (.ty n)) :=
 Ju (zIT (v:=.ty (qF n)) hg hm hv rfl hn hd) fun _ _=>rfl
theorem Ji (n:M.Kd) {x:Str} (hg:Gl X x) (hm:X.mg x=none) (hv:bootBuiltins x=some (.type (qF n))) (hn:x ≠ "__name__" := by decide) (hd:(x == ("__debug__" : Str))=false:=by decide):WE X Θ (.Name x pos) (M.eC (.ty n)):=by with_unfolding_all exact zK2 n (x:=x) hg hm hv hn hd
noncomputable def Ad2 (K:PySem.W.Frag) (Θ:Tab) (f:M.D->M.D->M.S->M.R M.D) (r:R2):Prop:=∀ ρ H S x y X Y Q,zR K Θ ρ S H->zG K ρ H x X->zG K ρ H y Y->zE K Θ (zG K) ρ H (f x y S) Q->r X Y H Q
noncomputable def AdC (K:PySem.W.Frag) (Θ:Tab) (f:M.CM) (r:R2):Prop:=∀ ρ H S x y X Y (Q:VK),zR K Θ ρ S H->zG K ρ H x X->zG K ρ H y Y->zE K Θ rB ρ H (f x y S) (fun b H'=>Q (.bl b) H')->r X Y H Q
noncomputable def Ad1 (K:PySem.W.Frag) (Θ:Tab) (f:M.D->M.S->M.R M.D) (r:V->Hp->VK->Prop):Prop:=∀ ρ H S x X Q,zR K Θ ρ S H->zG K ρ H x X->zE K Θ (zG K) ρ H (f x S) Q->r X H Q
noncomputable def AdN (K:PySem.W.Frag) (Θ:Tab) (f:M.F) (r:List V->Hp->VK->Prop):Prop:=∀ ρ H S xs Xs Q,zR K Θ ρ S H->zJ K ρ H xs Xs->zE K Θ (zG K) ρ H (f xs S) Q->r Xs H Q
noncomputable def AdM (K:PySem.W.Frag) (Θ:Tab) (f:M.D->M.F) (r:V->List V->Hp->VK->Prop):Prop :=
 ∀ ρ H S x xs X Xs Q,zR K Θ ρ S H->zG K ρ H x X->zJ K ρ H xs Xs->zE K Θ (zG K) ρ H (f x xs S) Q->r X Xs H Q
theorem zLh {op:Operator}{f:M.D->M.D->M.S->M.R M.D}{r:R2} (ho:OpR X (binaryOp op) r) (ad:Ad2 X.K Θ f r) (ha:ME X Θ a ma) (hb:ME X Θ b mb):ME X Θ (.BinOp a op b pos) (M.eOp f ma mb) :=
 (zLl ho ha hb).imp fun σ H Q ⟨ρ,σ',S,st,rp,h⟩=>⟨ρ,σ',S,st,rp,zE.bind h fun ρ1 H1 x X1 S1 p1 l1 rp1 rx h1=>⟨ρ1,σ',S1,st.mono p1 l1,rp1,
  zE.bind h1 fun ρ2 H2 y Y S2 p2 l2 rp2 ry h2=>ad ρ2 H2 S2 x y X1 Y Q rp2 (rx.mono p2 l2) ry h2⟩⟩
theorem zK {op:Operator}{f:M.D->M.D->M.S->M.R M.D}{r:R2} (ho:OpR X (binaryOp op) r) (ad:Ad2 X.K Θ f r) (ha:WE X Θ a ma) (hb:WE X Θ b mb):WE X Θ (.BinOp a op b pos) (M.eOp f ma mb):=by with_unfolding_all exact zLh (op:=op) (f:=f) (r:=r) ho ad ha hb
noncomputable def zDO:Expr->Bool
 | .Slice _ _ _ _=>false
 | .Tuple _ _ _=>false
 | _=>true
theorem zHJ {b:Expr} (h:zDO b=true):zEH b:=fun o i=>by
 cases b<;>first | rfl | cases h
theorem zLC {f:M.D->M.D->M.S->M.R M.D}{r:R2} (ho:IxR X r) (ad:Ad2 X.K Θ f r) (ha:ME X Θ a ma) (hb:ME X Θ b mb) (hs:zDO b=true:=by rfl):ME X Θ (.Subscript a b pos) (M.eOp f ma mb) :=
 (zLD ho ha hb (zHJ hs)).imp fun σ H Q ⟨ρ,σ',S,st,rp,h⟩=>⟨ρ,σ',S,st,rp,zE.bind h fun ρ1 H1 x X1 S1 p1 l1 rp1 rx h1=>⟨ρ1,σ',S1,st.mono p1 l1,rp1,
  zE.bind h1 fun ρ2 H2 y Y S2 p2 l2 rp2 ry h2=>ad ρ2 H2 S2 x y X1 Y Q rp2 (rx.mono p2 l2) ry h2⟩⟩
theorem jL {f:M.D->M.D->M.S->M.R M.D}{r:R2} (ho:IxR X r) (ad:Ad2 X.K Θ f r) (ha:WE X Θ a ma) (hb:WE X Θ b mb) (hs:zDO b=true:=by rfl):WE X Θ (.Subscript a b pos) (M.eOp f ma mb):=by with_unfolding_all exact zLC (f:=f) (r:=r) ho ad ha hb hs
theorem zLL {op:UnaryOp}{f:M.D->M.S->M.R M.D}{r:V->Hp->VK->Prop} (ho:UnR X (unaryOp op) r) (ad:Ad1 X.K Θ f r) (ha:ME X Θ a ma):ME X Θ (.UnaryOp op a pos) (M.eUn f ma) :=
 (zK1 ho ha).imp fun σ H Q ⟨ρ,σ',S,st,rp,h⟩=>⟨ρ,σ',S,st,rp,zE.bind h fun ρ1 H1 x X1 S1 p1 l1 rp1 rx h1=>ad ρ1 H1 S1 x X1 Q rp1 rx h1⟩
theorem zIP {op:UnaryOp}{f:M.D->M.S->M.R M.D}{r:V->Hp->VK->Prop} (ho:UnR X (unaryOp op) r) (ad:Ad1 X.K Θ f r) (ha:WE X Θ a ma):WE X Θ (.UnaryOp op a pos) (M.eUn f ma):=by with_unfolding_all exact zLL (op:=op) (f:=f) (r:=r) ho ad ha
theorem zJQ {op:CmpOp}{f:M.CM}{r:R2} (ho:OpR X (compareOp op) r) (ad:AdC X.K Θ f r) (ha:ME X Θ a ma) (hb:ME X Θ b mb) (hm:behindInMarks op b=false):MT X Θ (.Compare a [op] [b] pos) (M.qI f ma mb) :=
 (zIi ho ha hb hm).imp fun σ H Q ⟨ρ,σ',S,st,rp,h⟩=>⟨ρ,σ',S,st,rp,zE.bind h fun ρ1 H1 x X1 S1 p1 l1 rp1 rx h1=>⟨ρ1,σ',S1,st.mono p1 l1,rp1,
  zE.bind h1 fun ρ2 H2 y Y S2 p2 l2 rp2 ry h2=>ad ρ2 H2 S2 x y X1 Y _ rp2 (rx.mono p2 l2) ry (by
   revert h2
   cases f x y S2 with
   | ok k s=>exact fun h2 ρ3 H3 k' p3 l3 rp3 e=>⟨k',rfl,h2 ρ3 H3 k' p3 l3 rp3 e⟩
   | exc e s=>exact fun h2=>h2
   | no=>exact fun h2=>h2)⟩⟩
theorem jV {op:CmpOp}{f:M.CM}{r:R2} (ho:OpR X (compareOp op) r) (ad:AdC X.K Θ f r) (ha:WE X Θ a ma) (hb:WE X Θ b mb) (hm:behindInMarks op b=false):WT X Θ (.Compare a [op] [b] pos) (M.qI f ma mb):=by with_unfolding_all exact zJQ (op:=op) (f:=f) (r:=r) ho ad ha hb hm
theorem zFS {K:PySem.W.Frag}{ρ:List Addr}{H:Hp}{x:M.D}{v:V} (r:zG K ρ H x v):decide (v=.non)=M.zEt x:=by
 cases x with
 | non=>cases r;rfl
 | bl b=>cases r;rfl
 | int b=>cases r;rfl
 | str b=>obtain⟨rfl,_⟩:=r;rfl
 | ty b=>cases r;rfl
 | ref i=>obtain⟨_,rfl,_⟩:=r;rfl
 | tup i=>obtain⟨_,_,rfl,_⟩:=r;rfl
 | ro i=>obtain⟨_,_,rfl,_⟩:=r;rfl
theorem zJZ {j pos'} (ha:ME X Θ a ma):MT X Θ (.Compare a [.Is] [.Constant .none j pos'] pos) (M.zBG ma):=(zFF (zJH ha)).imp fun σ H Q ⟨ρ,σ',S,st,rp,h⟩=>⟨ρ,σ',S,st,rp,zE.bind h fun ρ1 H1 x X1 S1 p1 l1 rp1 rx h1=>⟨_,rfl,by
 rw[zFS rx];exact h1.here rp1 rfl⟩⟩
theorem zGw {j pos'} (ha:WE X Θ a ma):WT X Θ (.Compare a [.Is] [.Constant .none j pos'] pos) (M.zBG ma):=by with_unfolding_all exact zJZ (j:=j) (pos':=pos') ha
theorem zIO {j pos'} (ha:ME X Θ a ma):MT X Θ (.Compare a [.IsNot] [.Constant .none j pos'] pos) (M.Zn ma):=(zFF (zIm ha)).imp fun σ H Q ⟨ρ,σ',S,st,rp,h⟩=>⟨ρ,σ',S,st,rp,zE.bind h fun ρ1 H1 x X1 S1 p1 l1 rp1 rx h1=>⟨_,rfl,by
 rw[zFS rx];exact h1.here rp1 rfl⟩⟩
theorem zBj {j pos'} (ha:WE X Θ a ma):WT X Θ (.Compare a [.IsNot] [.Constant .none j pos'] pos) (M.Zn ma):=by with_unfolding_all exact zIO (j:=j) (pos':=pos') ha
theorem AdC.to {K:PySem.W.Frag}{f:M.CM}{r:R2} (ad:AdC K Θ f r) {ρ:List Addr}{H:Hp}{S:M.S}{x y:M.D}{X1 Y:V}{Q:VK}{Q':Bool->Hp->Prop} (rp:zR K Θ ρ S H) (rx:zG K ρ H x X1) (ry:zG K ρ H y Y) (h:zE K Θ rB ρ H (f x y S) Q') (e:∀ k H',Q' k H'->Q (.bl k) H'):r X1 Y H Q :=
 ad ρ H S x y X1 Y Q rp rx ry (by
  revert h
  cases f x y S with
  | ok k s=>exact fun h2 ρ3 H3 k' p3 l3 rp3 q=>e _ _ (h2 ρ3 H3 k' p3 l3 rp3 q)
  | exc e s=>exact fun h2=>h2
  | no=>exact fun h2=>h2)
theorem zGg {op op':CmpOp}{f g:M.CM}{r r':R2} (ho:OpR X (compareOp op) r) (ho':OpR X (compareOp op') r') (ad:AdC X.K Θ f r) (ad':AdC X.K Θ g r') (ha:ME X Θ a ma) (hb:ME X Θ b mb) (hc:ME X Θ c mc)
  (hm:lastMarks [op,op'] [b,c]=false:=by with_unfolding_all rfl):ME X Θ (.Compare a [op,op'] [b,c] pos) (M.zC7 f g ma mb mc) :=
 (zHV ho ho' ha hb hc hm).imp fun σ H Q ⟨ρ,σ',S,st,rp,h⟩=>⟨ρ,σ',S,st,rp,zE.bind h fun ρ1 H1 x X1 S1 p1 l1 rp1 rx h1=>⟨ρ1,σ',S1,st.mono p1 l1,rp1,
  zE.bind h1 fun ρ2 H2 y Y S2 p2 l2 rp2 ry h2=>ad.to rp2 (rx.mono p2 l2) ry (zE.bind (Rl:=rB) (Q:=fun k H'=>∃ ρ3 S3,ρ2 <+: ρ3/\Le H2 H'/\zR X.K Θ ρ3 S3 H'/\zE X.K Θ (zG X.K) ρ3 H' (if k=true then (mc σ' S3).bind fun z s=>(g y z s).bind fun k s=>.ok (.bl k) s else .ok (.bl false) S3) Q) h2
   fun ρ3 H3 k k' S3 p3 l3 rp3 e h3=>by cases e;exact⟨ρ3,S3,p3,l3,rp3,h3⟩) fun k H3 ⟨ρ3,S3,p3,l3,rp3,h3⟩=>⟨k,rfl,by
    cases k with
    | false=>exact zDV (zE.here (b:=V.bl false) h3 rp3 rfl)
    | true =>
     refine zCq ⟨ρ3,σ',S3,st.mono (p1.trans (p2.trans p3)) (l1.trans (l2.trans l3)),rp3,zE.bind h3 fun ρ4 H4 z Z S4 p4 l4 rp4 rz h4=>ad'.to rp4 (ry.mono (p3.trans p4) (l3.trans l4)) rz (zE.bind (Rl:=rB) (Q:=fun k H'=>Q (.bl k) H') h4 fun ρ5 H5 k k' S5 p5 l5 rp5 e h5=>by cases e;exact h5.here rp5 rfl) fun _ _ q=>q⟩⟩⟩⟩
theorem zEn {op op':CmpOp}{f g:M.CM}{r r':R2} (ho:OpR X (compareOp op) r) (ho':OpR X (compareOp op') r') (ad:AdC X.K Θ f r) (ad':AdC X.K Θ g r') (ha:WE X Θ a ma) (hb:WE X Θ b mb) (hc:WE X Θ c mc)
  (hm:lastMarks [op,op'] [b,c]=false:=by with_unfolding_all rfl):WE X Θ (.Compare a [op,op'] [b,c] pos) (M.zC7 f g ma mb mc):=by with_unfolding_all exact zGg (op:=op) (op':=op') (f:=f) (g:=g) (r:=r) (r':=r') ho ho' ad ad' ha hb hc hm
theorem zEq (ha:MT X Θ a ta):MW X Θ (.BoolOp .And [a] pos) ta:=zIp ha
theorem QE (ha:WT X Θ a ta):WW X Θ (.BoolOp .And [a] pos) ta:=by with_unfolding_all exact zEq ha
theorem zFc (ha:MT X Θ a ta):MW X Θ (.BoolOp .Or [a] pos) ta:=zJX ha
theorem Qb (ha:WT X Θ a ta):WW X Θ (.BoolOp .Or [a] pos) ta:=by with_unfolding_all exact zFc ha
theorem zKN (ha:MT X Θ a ta) (hb:MW X Θ (.BoolOp .And (b::j4) pos) tb):MW X Θ (.BoolOp .And (a::b::j4) pos) (M.JX ta tb) :=
 (zJM ha hb).imp fun σ H Q ⟨ρ,σ',S,st,rp,h⟩=>⟨ρ,σ',S,st,rp,zE.bind h fun ρ1 H1 k k' S1 p1 l1 rp1 e h1=>by
  cases e
  cases k with
  | true=>exact zCq ⟨ρ1,σ',S1,st.mono p1 l1,rp1,h1⟩
  | false=>exact zDV (zE.here (b:=false) h1 rp1 rfl)⟩
theorem zAC (ha:WT X Θ a ta) (hb:WW X Θ (.BoolOp .And (b::j4) pos) tb):WW X Θ (.BoolOp .And (a::b::j4) pos) (M.JX ta tb):=by with_unfolding_all exact zKN ha hb
theorem zLZ (ha:MT X Θ a ta) (hb:MW X Θ (.BoolOp .Or (b::j4) pos) tb):MW X Θ (.BoolOp .Or (a::b::j4) pos) (M.tOr ta tb) :=
 (zKy ha hb).imp fun σ H Q ⟨ρ,σ',S,st,rp,h⟩=>⟨ρ,σ',S,st,rp,zE.bind h fun ρ1 H1 k k' S1 p1 l1 rp1 e h1=>by
  cases e
  cases k with
  | true=>exact zCq (zE.here (b:=true) h1 rp1 rfl)
  | false=>exact zDV ⟨ρ1,σ',S1,st.mono p1 l1,rp1,h1⟩⟩
theorem Jl (ha:WT X Θ a ta) (hb:WW X Θ (.BoolOp .Or (b::j4) pos) tb):WW X Θ (.BoolOp .Or (a::b::j4) pos) (M.tOr ta tb):=by with_unfolding_all exact zLZ ha hb
theorem zKF (ha:MT X Θ a ta):MT X Θ (.UnaryOp .Not a pos) (M.QY ta):=(zKT ha).imp fun σ H Q ⟨ρ,σ',S,st,rp,h⟩=>⟨ρ,σ',S,st,rp,zE.bind h fun ρ1 H1 k k' S1 p1 l1 rp1 e h1=>by
 cases e;exact zE.here (b:=!k) h1 rp1 rfl⟩
theorem JB (ha:WT X Θ a ta):WT X Θ (.UnaryOp .Not a pos) (M.QY ta):=by with_unfolding_all exact zKF ha
theorem zGA:MA X Θ [] M.zI:=zGN.imp fun σ H Q ⟨ρ,σ',S,st,rp,h⟩=>zE.here (b:=[]) h rp rfl
theorem zH:WA X Θ [] M.zI:=by with_unfolding_all exact zGA
theorem zEL {e:Expr}{es:List Expr}{r:M.AM} (ha:ME X Θ e ma) (hr:MA X Θ es r) (hs:zv e=true:=by rfl):MA X Θ (e::es) (M.zC ma r) :=
 (zDz ha hr (j2 hs)).imp fun σ H Q ⟨ρ,σ',S,st,rp,h⟩=>⟨ρ,σ',S,st,rp,zE.bind h fun ρ1 H1 x X1 S1 p1 l1 rp1 rx h1=>⟨ρ1,σ',S1,st.mono p1 l1,rp1,
  zE.bind h1 fun ρ2 H2 ys Ys S2 p2 l2 rp2 ry h2=>h2.here rp2 ⟨X1,Ys,rfl,rx.mono p2 l2,ry⟩⟩⟩
theorem zB {e:Expr}{es:List Expr}{r:M.AM} (ha:WE X Θ e ma) (hr:WA X Θ es r) (hs:zv e=true:=by rfl):WA X Θ (e::es) (M.zC ma r):=by with_unfolding_all exact zEL (e:=e) (es:=es) (r:=r) ha hr hs
theorem zJW {es:List Expr}{r:M.AM}{x1} (hr:MA X Θ es r):ME X Θ (.Tuple es x1 pos) (M.jv r):=(zJS hr).imp fun σ H Q ⟨ρ,σ',S,st,rp,h⟩=>⟨ρ,σ',S,st,rp,zE.bind h fun ρ1 H1 xs Xs S1 p1 l1 rp1 rx h1=>by
 by_cases hl:xs.length <= M.SZ
 ·rw[if_pos hl] at h1
  rw[yq,rx.length] at hl
  exact⟨hl,fun p hp=>h1 ρ1 _ _ (List.prefix_refl _) (Le.new hp _) (rp1.aside hp _) ⟨p,Xs,rfl,SqT.of z5,rx.mono (List.prefix_refl _) (Le.new hp _)⟩⟩
 ·rw[if_neg hl] at h1
  exact h1.elim⟩
theorem jD {es:List Expr}{r:M.AM}{x1} (hr:WA X Θ es r):WE X Θ (.Tuple es x1 pos) (M.jv r):=by with_unfolding_all exact zJW (es:=es) (r:=r) (x1:=x1) hr
theorem zE.alloc {K:PySem.W.Frag}{ρ:List Addr}{H:Hp}{S:M.S}{ds:List M.D}{xs:List V}{Q:VK} (h:zE K Θ (zG K) ρ H (M.alloc (.lst ds) S) Q) (rp:zR K Θ ρ S H) (r:zJ K ρ H ds xs) {p:Addr} (hp:H p=none):Q (.ref p) (upd H p (.lst xs)) :=
 h (ρ++[p]) _ _ (List.prefix_append _ _) (Le.new hp _) (rp.alloc hp ⟨xs,z5,r.mono (List.prefix_append _ _) (Le.new hp _)⟩) ⟨p,rfl,by rw[<- rp.len];simp⟩
theorem zKw {es:List Expr}{r:M.AM} (hr:MA X Θ es r):ME X Θ (.List es pos) (M.ZE r):=(zKa hr).imp fun σ H Q ⟨ρ,σ',S,st,rp,h⟩=>⟨ρ,σ',S,st,rp,zE.bind h fun ρ1 H1 xs Xs S1 p1 l1 rp1 rx h1=>by
 by_cases hl:xs.length <= M.SZ
 ·rw[if_pos hl] at h1
  rw[yq,rx.length] at hl
  exact⟨hl,fun p hp=>h1.alloc rp1 rx hp⟩
 ·rw[if_neg hl] at h1
  exact h1.elim⟩
theorem yA {es:List Expr}{r:M.AM} (hr:WA X Θ es r):WE X Θ (.List es pos) (M.ZE r):=by with_unfolding_all exact zKw (es:=es) (r:=r) hr
theorem zIn:MO X Θ none M.qO:=zH4.imp fun σ H Q ⟨ρ,σ',S,st,rp,h⟩=>zE.here (b:=none) h rp rfl
theorem qG:WO X Θ none M.qO:=by with_unfolding_all exact zIn
theorem zIz (ha:ME X Θ a ma):MO X Θ (some a) (M.qN ma):=(zIe ha).imp fun σ H Q ⟨ρ,σ',S,st,rp,h⟩=>⟨ρ,σ',S,st,rp,zE.bind h fun ρ1 H1 x X1 S1 p1 l1 rp1 rx h1=>by
 cases x with
 | int i=>cases rx;exact⟨i,rfl,zE.here (b:=some i) h1 rp1 rfl⟩
 | _=>exact h1.elim⟩
theorem qJ (ha:WE X Θ a ma):WO X Θ (some a) (M.qN ma):=by with_unfolding_all exact zIz ha
theorem zHY {x:Str}{p:Pos}{id:String}{e:Expr}{es:List Expr}{f:M.F}{r:List V->Hp->VK->Prop}{m:M.AM} (hc:jU X (.builtin id) r) (ad:AdN X.K Θ f r) (hg:Gl X x) (hm:X.mg x=none) (hv:bootBuiltins x=some (.builtin id)) (ha:MA X Θ (e::es) m)
  (hn:x ≠ "__name__" := by decide) (hdb:(x == ("__debug__" : Str))=false:=by decide) (he:zv e=true:=by rfl) (hpl:es.all zv=true:=by rfl) :
  ME X Θ (.Call (.Name x p) (e::es) [] pos) (M.zU f m):=(zGS hc hg hm hv ha hn hdb (j2 he) (ZJ hpl)).imp fun σ H Q ⟨ρ,σ',S,st,rp,h⟩=>⟨ρ,σ',S,st,rp,zE.bind h fun ρ1 H1 xs Xs S1 p1 l1 rp1 rx h1=>ad ρ1 H1 S1 xs Xs Q rp1 rx h1⟩
theorem jx {x:Str}{p:Pos}{id:String}{e:Expr}{es:List Expr}{f:M.F}{r:List V->Hp->VK->Prop}{m:M.AM} (hc:jU X (.builtin id) r) (ad:AdN X.K Θ f r) (hg:Gl X x) (hm:X.mg x=none) (hv:bootBuiltins x=some (.builtin id)) (ha:WA X Θ (e::es) m)
  (hn:x ≠ "__name__" := by decide) (hdb:(x == ("__debug__" : Str))=false:=by decide) (he:zv e=true:=by rfl) (hpl:es.all zv=true:=by rfl) :
  WE X Θ (.Call (.Name x p) (e::es) [] pos) (M.zU f m):=by with_unfolding_all exact zHY (x:=x) (p:=p) (id:=id) (e:=e) (es:=es) (f:=f) (r:=r) (m:=m) hc ad hg hm hv ha hn hdb he hpl
theorem zFI {x:Str}{p:Pos}{T:String}{e:Expr}{es:List Expr}{f:M.F}{r:List V->Hp->VK->Prop}{m:M.AM} (hc:jU X (.type T) r) (ad:AdN X.K Θ f r) (hg:Gl X x) (hm:X.mg x=none) (hv:bootBuiltins x=some (.type T)) (ha:MA X Θ (e::es) m)
  (hn:x ≠ "__name__" := by decide) (hdb:(x == ("__debug__" : Str))=false:=by decide) (he:zv e=true:=by rfl) (hpl:es.all zv=true:=by rfl) :
  ME X Θ (.Call (.Name x p) (e::es) [] pos) (M.zU f m):=(zFE hc hg hm hv ha hn hdb (j2 he) (ZJ hpl)).imp fun σ H Q ⟨ρ,σ',S,st,rp,h⟩=>⟨ρ,σ',S,st,rp,zE.bind h fun ρ1 H1 xs Xs S1 p1 l1 rp1 rx h1=>ad ρ1 H1 S1 xs Xs Q rp1 rx h1⟩
theorem yQ {x:Str}{p:Pos}{T:String}{e:Expr}{es:List Expr}{f:M.F}{r:List V->Hp->VK->Prop}{m:M.AM} (hc:jU X (.type T) r) (ad:AdN X.K Θ f r) (hg:Gl X x) (hm:X.mg x=none) (hv:bootBuiltins x=some (.type T)) (ha:WA X Θ (e::es) m)
  (hn:x ≠ "__name__" := by decide) (hdb:(x == ("__debug__" : Str))=false:=by decide) (he:zv e=true:=by rfl) (hpl:es.all zv=true:=by rfl) :
  WE X Θ (.Call (.Name x p) (e::es) [] pos) (M.zU f m):=by with_unfolding_all exact zFI (x:=x) (p:=p) (T:=T) (e:=e) (es:=es) (f:=f) (r:=r) (m:=m) hc ad hg hm hv ha hn hdb he hpl
theorem zI0 {K:PySem.W.Frag}{ρ:List Addr}{H:Hp}{S:M.S}{k:M.Kd}{x:M.D}{v:V} (rp:zR K Θ ρ S H) (r:zG K ρ H x v) (h:M.Qe k x S=true):tyV K (qF k) v H:=by
 cases x with
 | str z=>obtain⟨rfl,_⟩:=r;cases k<;>first | rfl | cases h
 | ro ds =>
  obtain⟨a,xs,rfl,q,_⟩:=r
  cases k<;>first | exact .inl ⟨rfl,xs,q.sq⟩ | cases h
 | ref i =>
  obtain⟨a,rfl,e⟩:=r
  cases q:S[i]? with
  | none=>simp[M.Qe,q] at h
  | some o =>
   cases o with
   | lst xs =>
    obtain⟨b,e1,zs,e2,_⟩:=rp.obj _ _ q
    rw[e] at e1;cases e1
    cases k<;>first | exact .inl ⟨rfl,zs,SqL.of e2⟩ | simp[M.Qe,q] at h
   | dct xs =>
    obtain⟨b,e1,zs,e2,_⟩:=rp.obj _ _ q
    rw[e] at e1;cases e1
    cases k<;>first | exact .inr (.inr (.inl ⟨rfl,.inl ⟨zs,e2⟩⟩)) | simp[M.Qe,q] at h
   | fdc _=>simp[M.Qe,q] at h
   | ftt _=>simp[M.Qe,q] at h
   | dtt xs =>
    obtain⟨b,e1,zs,e2,_⟩:=rp.obj _ _ q
    rw[e] at e1;cases e1
    cases k<;>first | exact .inr (.inr (.inl ⟨rfl,.inr (.inr ⟨_,e2,fun h z=>let ⟨_,_,_,o,_,_,z1,z2,_⟩:=z;⟨o,z1,z2⟩⟩)⟩)) | simp[M.Qe,q] at h
   | ins c fs=>simp[M.Qe,q] at h
 | _=>cases h
theorem zLr {k:M.Kd}{T:String}{f:M.D->M.F}{r:V->List V->Hp->VK->Prop}{o e:Expr}{es:List Expr}{mo:M.EM}{m:M.AM}{name:Str}{apos cpos:Pos}{id:String} (pa:PlainAttrs T) (slot:Slot T name id) (hty:typeOf (.builtin id)=pure (.type "method_descriptor")) (hm:MtR X id r) (ad:AdM X.K Θ f r) (hT:T=qF k) (ho:ME X Θ o mo) (ha:MA X Θ (e::es) m)
  (hbase:attributeBase o name X.env (eval o X.env)=eval o X.env:=by rfl)
  (hfew:(e::es).length < 30:=by exact Nat.le_of_ble_eq_true rfl) (hline:(apos.endLine == cpos.line)=true:=by rfl) (hs:zv e=true:=by rfl) (hplain:es.all zv=true:=by rfl) :
  ME X Θ (.Call (.Attribute o name apos) (e::es) [] cpos) (M.eM k f mo m):=(zHn pa slot hty hm ho ha hbase (zDD (by rw[List.all_cons,hs,hplain];rfl) hfew) hline (j2 hs) (ZJ hplain)).imp fun σ H Q ⟨ρ,σ',S,st,rp,h⟩=>⟨ρ,σ',S,st,rp,zE.bind h fun ρ1 H1 x X1 S1 p1 l1 rp1 rx h1=>by
 cases ht:M.Qe k x S1 with
 | false=>rw[ht] at h1;exact h1.elim
 | true =>
  rw[ht] at h1
  exact⟨hT ▸ zI0 rp1 rx ht,ρ1,σ',S1,st.mono p1 l1,rp1,zE.bind h1 fun ρ2 H2 xs Xs S2 p2 l2 rp2 rxs h2=>ad ρ2 H2 S2 x xs X1 Xs Q rp2 (rx.mono p2 l2) rxs h2⟩⟩
theorem Qu {k:M.Kd}{T:String}{f:M.D->M.F}{r:V->List V->Hp->VK->Prop}{o e:Expr}{es:List Expr}{mo:M.EM}{m:M.AM}{name:Str}{apos cpos:Pos}{id:String} (pa:PlainAttrs T) (slot:Slot T name id) (hty:typeOf (.builtin id)=pure (.type "method_descriptor")) (hm:MtR X id r) (ad:AdM X.K Θ f r) (hT:T=qF k) (ho:WE X Θ o mo) (ha:WA X Θ (e::es) m)
  (hbase:attributeBase o name X.env (eval o X.env)=eval o X.env:=by rfl)
  (hfew:(e::es).length < 30:=by exact Nat.le_of_ble_eq_true rfl) (hline:(apos.endLine == cpos.line)=true:=by rfl) (hs:zv e=true:=by rfl) (hplain:es.all zv=true:=by rfl) :
  WE X Θ (.Call (.Attribute o name apos) (e::es) [] cpos) (M.eM k f mo m):=by with_unfolding_all exact zLr (k:=k) (T:=T) (f:=f) (r:=r) (o:=o) (e:=e) (es:=es) (mo:=mo) (m:=m) (name:=name) (apos:=apos) (cpos:=cpos) (id:=id) pa slot hty hm ad hT ho ha hbase hfew hline hs hplain
end
end L2
namespace L2
open PySem PySem.Spec PyProof.Rows
noncomputable def zr (K:PySem.W.Frag) (Θ:Tab) (ρ:List Addr) (H:Hp):M.RS->ZT->Prop
 | .nx σ1 S1,D=>∀ ρ' H' σ,ρ <+: ρ'->Le H H'->zR K Θ ρ' S1 H'->z7 K ρ' H' σ1 σ->D.nx σ H'
 | .rt d S1,D=>∀ ρ' H' v,ρ <+: ρ'->Le H H'->zR K Θ ρ' S1 H'->zG K ρ' H' d v->D.rt v H'
 | .bk σ1 S1,D=>∀ ρ' H' σ,ρ <+: ρ'->Le H H'->zR K Θ ρ' S1 H'->z7 K ρ' H' σ1 σ->D.bk σ H'
 | .ct σ1 S1,D=>∀ ρ' H' σ,ρ <+: ρ'->Le H H'->zR K Θ ρ' S1 H'->z7 K ρ' H' σ1 σ->D.ct σ H'
 | .exc _ _ _,_=>False
 | .no,_=>False
noncomputable def RdS (K:PySem.W.Frag) (Θ:Tab) (m:M.SM):TS:=fun D σ H=>∃ ρ σ' S,z7 K ρ H σ' σ/\zR K Θ ρ S H/\zr K Θ ρ H (m σ' S) D
noncomputable abbrev MS (X:Cx) (Θ:Tab) (st:Stmt) (m:M.SM):Prop:=PS X st (RdS X.K Θ m)
@[irreducible] noncomputable def WS (X:Cx) (Θ:Tab) (st:Stmt) (m:M.SM):Prop:=MS X Θ st m
noncomputable abbrev MSs (X:Cx) (Θ:Tab) (st:List Stmt) (m:M.SM):Prop:=PSs X st (RdS X.K Θ m)
@[irreducible] noncomputable def WSs (X:Cx) (Θ:Tab) (st:List Stmt) (m:M.SM):Prop:=MSs X Θ st m
theorem PS.imp {X:Cx}{e:Stmt}{t t':TS} (h:PS X e t) (i:∀ D σ H,t' D σ H->t D σ H):PS X e t':=fun pins s σ H D I q=>h pins s σ H D I (i D σ H q)
theorem PSs.imp {X:Cx}{e:List Stmt}{t t':TS} (h:PSs X e t) (i:∀ D σ H,t' D σ H->t D σ H):PSs X e t':=fun pins s σ H D I q=>h pins s σ H D I (i D σ H q)
section
variable {K:PySem.W.Frag}{Θ:Tab}{ρ ρ':List Addr}{H H':Hp}{S:M.S}{α β:Type}{Rl:List Addr->Hp->α->β->Prop}{Q:β->Hp->Prop}{D D':ZT}
theorem zr.weak {r:M.RS} (h:zr K Θ ρ H r D) (hρ:ρ <+: ρ') (le:Le H H'):zr K Θ ρ' H' r D:=by
 cases r with
 | nx a s=>exact fun ρ2 H2 b p l=>h ρ2 H2 b (hρ.trans p) (le.trans l)
 | rt a s=>exact fun ρ2 H2 b p l=>h ρ2 H2 b (hρ.trans p) (le.trans l)
 | bk a s=>exact fun ρ2 H2 b p l=>h ρ2 H2 b (hρ.trans p) (le.trans l)
 | ct a s=>exact fun ρ2 H2 b p l=>h ρ2 H2 b (hρ.trans p) (le.trans l)
 | exc e a s=>exact h
 | no=>exact h
theorem zr.stm {r:M.R α}{σ:M.St}{f:α->M.S->M.RS} (h:zr K Θ ρ H (r.stm σ f) D)
  (k:∀ ρ' H' a b S',ρ <+: ρ'->Le H H'->zR K Θ ρ' S' H'->Rl ρ' H' a b->zr K Θ ρ' H' (f a S') D->Q b H'):zE K Θ Rl ρ H r Q:=by
 cases r with
 | ok a s=>exact fun ρ2 H2 b p l rp rl=>k ρ2 H2 a b s p l rp rl (zr.weak h p l)
 | exc e s=>exact h
 | no=>exact h
theorem zr.nx {σ1:M.St}{σ:St} (h:zr K Θ ρ H (.nx σ1 S) D) (rp:zR K Θ ρ S H) (st:z7 K ρ H σ1 σ):D.nx σ H:=h ρ H σ (List.prefix_refl _) (Le.refl _) rp st
theorem zr.rt {d:M.D}{v:V} (h:zr K Θ ρ H (.rt d S) D) (rp:zR K Θ ρ S H) (r:zG K ρ H d v):D.rt v H:=h ρ H v (List.prefix_refl _) (Le.refl _) rp r
end
section
variable {X:Cx}{Θ:Tab}{e:Expr}{pos:Pos}{m:M.EM}{st:Stmt}{j4:List Stmt}{ms mr:M.SM}
theorem zIA:MSs X Θ [] M.j5:=zIY.imp fun D σ H ⟨ρ,σ',S,st,rp,h⟩=>h.nx rp st
theorem jG:WSs X Θ [] M.j5:=by with_unfolding_all exact zIA
theorem zIU (h:MS X Θ st ms):MSs X Θ [st] ms:=zHw h
theorem zT (h:WS X Θ st ms):WSs X Θ [st] ms:=by with_unfolding_all exact zIU h
theorem zGQ (h1:MS X Θ st ms) (h2:MSs X Θ j4 mr):MSs X Θ (st::j4) (M.zk ms mr):=(zGc h1 h2).imp fun D σ H ⟨ρ,σ',S,st,rp,h⟩=>⟨ρ,σ',S,st,rp,by
 have h':zr X.K Θ ρ H ((ms σ' S).then mr) D:=h
 revert h'
 cases ms σ' S with
 | nx a s=>exact fun h' ρ2 H2 σ2 p l rp2 st2=>⟨ρ2,a,s,st2,rp2,zr.weak h' p l⟩
 | rt a s=>exact fun h'=>h'
 | bk a s=>exact fun h'=>h'
 | ct a s=>exact fun h'=>h'
 | exc e a s=>exact fun h'=>h'
 | no=>exact fun h'=>h'⟩
theorem zM (h1:WS X Θ st ms) (h2:WSs X Θ j4 mr):WSs X Θ (st::j4) (M.zk ms mr):=by with_unfolding_all exact zGQ h1 h2
theorem zIs (he:ME X Θ e m) (hs:swapsWith e none pos.line X.env=pure false:=by rfl):MS X Θ (.Expr e pos) (M.qa m):=(zIj he hs).imp fun D σ H ⟨ρ,σ',S,st,rp,h⟩=>⟨ρ,σ',S,st,rp,zr.stm h fun ρ1 H1 x X1 S1 p1 l1 rp1 rx h1=>h1.nx rp1 (st.mono p1 l1)⟩
theorem ZN (he:WE X Θ e m) (hs:swapsWith e none pos.line X.env=pure false:=by rfl):WS X Θ (.Expr e pos) (M.qa m):=by with_unfolding_all exact zIs he hs
theorem zJ2 (he:ME X Θ e m):MS X Θ (.Return (some e) pos) (M.jg m):=(zJL he).imp fun D σ H ⟨ρ,σ',S,st,rp,h⟩=>⟨ρ,σ',S,st,rp,zr.stm h fun ρ1 H1 x X1 S1 p1 l1 rp1 rx h1=>h1.rt rp1 rx⟩
theorem jA (he:WE X Θ e m):WS X Θ (.Return (some e) pos) (M.jg m):=by with_unfolding_all exact zJ2 he
theorem zKY {i:Nat}{x:Str}{pos':Pos} (hN:X.N.Nodup) (hi:X.N[i]? = some x) (hx:Loc X.env.scope x) (he:ME X Θ e m) (hs:swapsWith e (some (.Name x pos')) pos.line X.env=pure false:=by kernel_rfl) (hf:X.fn x=true\/X.env.scope.names.lookup x=some .local:=by first | exact .inl rfl | exact .inr rfl | assumption) :
  MS X Θ (.Assign [.Name x pos'] e pos) (M.j6 i m):=(zKc hN hi hx he hs hf).imp fun D σ H ⟨ρ,σ',S,st,rp,h⟩=>⟨ρ,σ',S,st,rp,zr.stm h fun ρ1 H1 x X1 S1 p1 l1 rp1 rx h1=>h1.nx rp1 ((st.mono p1 l1).set rx i)⟩
theorem jT {i:Nat}{x:Str}{pos':Pos} (hN:X.N.Nodup) (hi:X.N[i]? = some x) (hx:Loc X.env.scope x) (he:WE X Θ e m) (hs:swapsWith e (some (.Name x pos')) pos.line X.env=pure false:=by kernel_rfl) (hf:X.fn x=true\/X.env.scope.names.lookup x=some .local:=by first | exact .inl rfl | exact .inr rfl | assumption) :
  WS X Θ (.Assign [.Name x pos'] e pos) (M.j6 i m):=by with_unfolding_all exact zKY (i:=i) (x:=x) (pos':=pos') hN hi hx he hs hf
theorem zLX {c:Expr}{a b:List Stmt}{tc:M.TM}{ma mb:M.SM} (hc:MT X Θ c tc) (ha:MSs X Θ a ma) (hb:MSs X Θ b mb):MS X Θ (.If c a b pos) (M.sIf tc ma mb):=(zLc hc ha hb).imp fun D σ H ⟨ρ,σ',S,st,rp,h⟩=>⟨ρ,σ',S,st,rp,zr.stm h fun ρ1 H1 k k' S1 p1 l1 rp1 ek h1=>by
 cases ek
 cases k with
 | true=>exact zCq ⟨ρ1,σ',S1,st.mono p1 l1,rp1,h1⟩
 | false=>exact zDV ⟨ρ1,σ',S1,st.mono p1 l1,rp1,h1⟩⟩
theorem ja {c:Expr}{a b:List Stmt}{tc:M.TM}{ma mb:M.SM} (hc:WT X Θ c tc) (ha:WSs X Θ a ma) (hb:WSs X Θ b mb):WS X Θ (.If c a b pos) (M.sIf tc ma mb):=by with_unfolding_all exact zLX (c:=c) (a:=a) (b:=b) (tc:=tc) (ma:=ma) (mb:=mb) hc ha hb
theorem zG0:MS X Θ st (fun _ _=>.no):=zHA.imp fun D σ H ⟨ρ,σ',S,st,rp,h⟩=>h.elim
end
noncomputable def RdG (K:PySem.W.Frag) (Θ:Tab) (js:List Nat) (g:M.GM):TG:=fun v σ H Q=>∃ ρ σ' S d,z7 K ρ H σ' σ/\zR K Θ ρ S H/\zG K ρ H d v/\∃ σ1,g d σ'=some σ1 /\
 ∀ H' σ2,Le H H'->zR K Θ ρ S H'->z7 K ρ H' σ1 σ2->σ2.length=σ.length->(∀ j,j∉js->σ2[j]? = σ[j]?)->Q σ2 H'
noncomputable abbrev MG (X:Cx) (Θ:Tab) (js:List Nat) (tg:Expr) (g:M.GM):Prop:=PG X tg (RdG X.K Θ js g)
@[irreducible] noncomputable def WG (X:Cx) (Θ:Tab) (js:List Nat) (tg:Expr) (g:M.GM):Prop:=MG X Θ js tg g
theorem PG.imp {X:Cx}{e:Expr}{t t':TG} (h:PG X e t) (i:∀ v σ H Q,t' v σ H Q->t v σ H Q):PG X e t':=fun pins s σ H v u Q I r q=>h pins s σ H v u Q I r (i v σ H Q q)
theorem zIu {X:Cx}{Θ:Tab}{pos:Pos}{i:Nat}{x:Str} (hN:X.N.Nodup) (hi:X.N[i]? = some x) (hx:Loc X.env.scope x) (hf:X.fn x=true\/X.env.scope.names.lookup x=some .local:=by first | exact .inl rfl | exact .inr rfl | assumption) :
  MG X Θ [i] (.Name x pos) (M.ze i):=(zHy hN hi hx hf).imp fun v σ H Q ⟨ρ,σ',S,d,st,rp,rv,σ1,e,h⟩=>by
 cases e
 exact h H _ (Le.refl _) rp (st.set rv i) (by rw[List.length_set]) fun j hj=>List.getElem?_set_ne (fun z=>hj (by rw[z];simp))
theorem j1 {X:Cx}{Θ:Tab}{pos:Pos}{i:Nat}{x:Str} (hN:X.N.Nodup) (hi:X.N[i]? = some x) (hx:Loc X.env.scope x) (hf:X.fn x=true\/X.env.scope.names.lookup x=some .local:=by first | exact .inl rfl | exact .inr rfl | assumption) :
  WG X Θ [i] (.Name x pos) (M.ze i):=by with_unfolding_all exact zIu (X:=X) (Θ:=Θ) (pos:=pos) (i:=i) (x:=x) hN hi hx hf
noncomputable def zKQ (K:PySem.W.Frag) (Θ:Tab) (js:List Nat) (g:M.GMs):TGs:=fun vs σ H Q=>∃ ρ σ' S ds,z7 K ρ H σ' σ/\zR K Θ ρ S H/\zJ K ρ H ds vs/\∃ σ1,g ds σ'=some σ1 /\
 ∀ H' σ2,Le H H'->zR K Θ ρ S H'->z7 K ρ H' σ1 σ2->σ2.length=σ.length->(∀ j,j∉js->σ2[j]? = σ[j]?)->Q σ2 H'
noncomputable abbrev MGs (X:Cx) (Θ:Tab) (js:List Nat) (ts:List Expr) (g:M.GMs):Prop:=PGs X ts (zKQ X.K Θ js g)
@[irreducible] noncomputable def WGs (X:Cx) (Θ:Tab) (js:List Nat) (ts:List Expr) (g:M.GMs):Prop:=MGs X Θ js ts g
theorem PGs.imp {X:Cx}{e:List Expr}{t t':TGs} (h:PGs X e t) (i:∀ v σ H Q,t' v σ H Q->t v σ H Q):PGs X e t':=fun pins s σ H v u Q I r q=>h pins s σ H v u Q I r (i v σ H Q q)
theorem zIy {X:Cx}{Θ:Tab}:MGs X Θ [] [] M.Zd:=zHu.imp fun vs σ H Q ⟨ρ,σ',S,ds,st,rp,rv,σ1,e,h⟩=>by
 cases ds with
 | nil=>cases rv;cases e;exact⟨rfl,h H σ (Le.refl _) rp st rfl fun _ _=>rfl⟩
 | cons d ds=>cases e
theorem zFT {X:Cx}{Θ:Tab}:WGs X Θ [] [] M.Zd:=by with_unfolding_all exact zIy (X:=X) (Θ:=Θ)
theorem zG3 {X:Cx}{Θ:Tab}{e:Expr}{es:List Expr}{g:M.GM}{gs:M.GMs}{js ks:List Nat} (h1:MG X Θ js e g) (h2:MGs X Θ ks es gs) (hp:∀ {t:TG}{u:TGs},PG X e t->PGs X es u->PGs X (e::es) (jt t u)):MGs X Θ (js++ks) (e::es) (M.jt g gs) :=
 (hp h1 h2).imp fun vs σ H Q ⟨ρ,σ',S,ds,st,rp,rv,σ1,eq,h⟩=>by
  cases ds with
  | nil=>cases eq
  | cons d ds =>
   obtain⟨y,ys,rfl,r1,r2⟩:=rv
   have eq':(match g d σ' with | some σ'=>gs ds σ' | none=>none)=some σ1:=eq
   cases q:g d σ' with
   | none=>rw[q] at eq';cases eq'
   | some σm =>
    rw[q] at eq'
    refine⟨y,ys,rfl,ρ,σ',S,d,st,rp,r1,σm,q,fun H' σ2 le rp2 st2 hl hj=>⟨ρ,σm,S,ds,st2,rp2,r2.mono (List.prefix_refl _) le,σ1,eq',fun H'' σ3 le2 rp3 st3 hl3 hj3=>h H'' σ3 (le.trans le2) rp3 st3 (hl3.trans hl) fun j hjk=>?_⟩⟩
    rw[List.mem_append] at hjk
    rw[hj3 j fun z=>hjk (.inr z),hj j fun z=>hjk (.inl z)]
theorem zAZ {X:Cx}{Θ:Tab}{e:Expr}{es:List Expr}{g:M.GM}{gs:M.GMs}{js ks:List Nat} (h1:WG X Θ js e g) (h2:WGs X Θ ks es gs) (hp:∀ {t:TG}{u:TGs},PG X e t->PGs X es u->PGs X (e::es) (jt t u)):WGs X Θ (js++ks) (e::es) (M.jt g gs):=by with_unfolding_all exact zG3 (X:=X) (Θ:=Θ) (e:=e) (es:=es) (g:=g) (gs:=gs) (js:=js) (ks:=ks) h1 h2 hp
theorem zKq {X:Cx}{Θ:Tab}{es:List Expr}{g:M.GMs}{js:List Nat}{tg:Expr}{n:Nat} (h:PG X tg (Za X.K n (zKQ X.K Θ js g))) (hn:∀ ds σ σ1,g ds σ=some σ1->ds.length=n):MG X Θ js tg (M.Za g):=h.imp fun v σ H Q ⟨ρ,σ',S,d,st,rp,rv,σ1,eq,h⟩=>by
 cases d with
 | tup ds =>
  obtain⟨a,xs,rfl,hq,r⟩:=rv
  exact⟨a,xs,rfl,hq,by rw[<- r.length];exact hn ds σ' σ1 eq,ρ,σ',S,ds,st,rp,r,σ1,eq,h⟩
 | _=>cases eq
structure ItR (K:PySem.W.Frag) (Θ:Tab) (ρ:List Addr) (H:Hp) (J:It) (xs:List M.D) (g:M.Gd):Prop where
 go:∀ (i:Nat) ρ' S' H',ρ <+: ρ'->Le H H'->zR K Θ ρ' S' H'->M.zm g S'=true->i < xs.length->J.go i H'
 yld:∀ (i:Nat) ρ' S' H' v H2,ρ <+: ρ'->Le H H'->zR K Θ ρ' S' H'->M.zm g S'=true->i < xs.length->J.yld i H' v H2->∃ d,xs[i]? = some d/\zG K ρ' H2 d v/\Le H' H2/\zR K Θ ρ' S' H2
 stop:∀ ρ' S' H',ρ <+: ρ'->Le H H'->zR K Θ ρ' S' H'->M.zm g S'=true->J.stop xs.length H'
noncomputable def RdI (K:PySem.W.Frag) (Θ:Tab) (m:M.IM):TI:=fun σ H R=>∃ ρ σ' S,z7 K ρ H σ' σ/\zR K Θ ρ S H /\
 zE K Θ (fun ρ' H' (p:List M.D×M.Gd) (J:It)=>ItR K Θ ρ' H' J p.1 p.2) ρ H ((m σ' S).bind fun p s=>if M.zm p.2 s then .ok p s else .no) R
noncomputable abbrev MI (X:Cx) (Θ:Tab) (tg iter:Expr) (m:M.IM):Prop:=PI X tg iter (RdI X.K Θ m)
@[irreducible] noncomputable def WI (X:Cx) (Θ:Tab) (tg iter:Expr) (m:M.IM):Prop:=MI X Θ tg iter m
theorem PI.imp {X:Cx}{tg e:Expr}{t t':TI} (h:PI X tg e t) (i:∀ σ H R,t' σ H R->t σ H R):PI X tg e t':=fun pins s σ H R I q=>h pins s σ H R I (i σ H R q)
theorem PI.or {X:Cx}{tg e:Expr}{t t':TI} (h:PI X tg e t) (h':PI X tg e t'):PI X tg e (fun σ H R=>t σ H R\/t' σ H R):=fun pins s σ H R I q=>by
 rcases q with q | q
 ·exact h pins s σ H R I q
 ·exact h' pins s σ H R I q
section
variable {X:Cx}{Θ:Tab}{tg e:Expr}{m:M.EM}
theorem zHN {K:PySem.W.Frag}{ρ:List Addr}{H:Hp}{i:Nat}{a:Addr}{ds:List M.D} (ha:ρ[i]? = some a):ItR K Θ ρ H (Itl K a) ds [(i,.lst ds)]:=by
 have key:∀ {ρ':List Addr}{S':M.S}{H':Hp},ρ <+: ρ'->zR K Θ ρ' S' H'->M.zm [(i,.lst ds)] S'=true->∃ zs,H' a=some (.lst zs)/\zJ K ρ' H' ds zs:=fun {ρ' S' H'} p rp g=>by
  have g':S'[i]? = some (M.O.lst ds):=by simpa [M.zm] using g
  obtain⟨b,e1,zs,e2,r⟩:=rp.obj i _ g'
  rw[Z7 p ha] at e1;cases e1
  exact⟨zs,e2,r⟩
 refine⟨fun j ρ' S' H' p l rp g hj=>?_,fun j ρ' S' H' v H2 p l rp g hj y=>?_,fun ρ' S' H' p l rp g=>?_⟩
 ·obtain⟨zs,e,r⟩:=key p rp g
  obtain⟨v,e1,_⟩:=r.get (i:=j) (d:=ds[j]) (by simp[hj])
  exact⟨zs,v,SqL.of e,e1⟩
 ·obtain⟨zs,e,r⟩:=key p rp g
  obtain⟨v',e1,rv⟩:=r.get (i:=j) (d:=ds[j]) (by simp[hj])
  obtain⟨rfl,y2⟩:=y
  have y3:=y2 zs (SqL.of e)
  rw[e1] at y3;cases y3
  exact⟨ds[j],by simp[hj],rv,Le.refl _,rp⟩
 ·obtain⟨zs,e,r⟩:=key p rp g
  exact⟨zs,SqL.of e,Nat.le_of_eq r.length.symm⟩
theorem zKK {K:PySem.W.Frag}{ρ:List Addr}{H:Hp}{a:Addr}{ds:List M.D}{xs:List V} (hq:Zw K H a xs) (r:zJ K ρ H ds xs):ItR K Θ ρ H (Itl K a) ds []:=by
 refine⟨fun j ρ' S' H' p l rp g hj=>?_,fun j ρ' S' H' v H2 p l rp g hj y=>?_,fun ρ' S' H' p l rp g=>?_⟩
 ·obtain⟨v,e1,_⟩:=r.get (i:=j) (d:=ds[j]) (by simp[hj])
  exact⟨xs,v,(l.rol hq).sq,e1⟩
 ·obtain⟨v',e1,rv⟩:=(r.mono p l).get (i:=j) (d:=ds[j]) (by simp[hj])
  obtain⟨rfl,y2⟩:=y
  have y3:=y2 xs (l.rol hq).sq
  rw[e1] at y3;cases y3
  exact⟨ds[j],by simp[hj],rv,Le.refl _,rp⟩
 ·exact⟨xs,(l.rol hq).sq,Nat.le_of_eq r.length.symm⟩
theorem zIB {K:PySem.W.Frag}{ρ:List Addr}{H:Hp}{a:Addr}{ds:List M.D}{xs:List V} (hq:SqT K H a xs) (r:zJ K ρ H ds xs):ItR K Θ ρ H (Itt K a) ds []:=by
 refine⟨fun j ρ' S' H' p l rp g hj=>?_,fun j ρ' S' H' v H2 p l rp g hj y=>?_,fun ρ' S' H' p l rp g=>?_⟩
 ·obtain⟨v,e1,_⟩:=r.get (i:=j) (d:=ds[j]) (by simp[hj])
  exact⟨xs,v,l.sqT hq,e1⟩
 ·obtain⟨v',e1,rv⟩:=(r.mono p l).get (i:=j) (d:=ds[j]) (by simp[hj])
  obtain⟨rfl,y2⟩:=y
  have y3:=y2 xs (l.sqT hq)
  rw[e1] at y3;cases y3
  exact⟨ds[j],by simp[hj],rv,Le.refl _,rp⟩
 ·exact⟨xs,l.sqT hq,Nat.le_of_eq r.length.symm⟩
theorem zH6 {K:PySem.W.Frag}{ρ:List Addr}{H:Hp}{x:M.T} (ok:okT x):ItR K Θ ρ H (Its (ofT x)) (x.map fun c=>.str [c]) []:=by
 refine⟨fun j ρ' S' H' p l rp g hj=>?_,fun j ρ' S' H' v H2 p l rp g hj y=>?_,fun ρ' S' H' p l rp g=>?_⟩
 ·rw[List.length_map] at hj
  show j < (ofT x).length
  rw[jo];exact hj
 ·obtain⟨rfl,c,hc,rfl⟩:=y
  have hc':x[j]? = some c:=by simpa [ofT] using hc
  exact⟨.str [c],by rw[List.getElem?_map,hc'];rfl,⟨rfl,Jt ok fun d hd=>by rw[List.mem_singleton.mp hd];exact List.mem_of_getElem? hc'⟩,Le.refl _,rp⟩
 ·show (ofT x).length <= _
  rw[jo,List.length_map];exact Nat.le_refl _
theorem zFH {K:PySem.W.Frag}{ρ:List Addr}{H:Hp}{lo hi:Int}:ItR K Θ ρ H (Itr lo (hi - lo).toNat) (M.jq lo hi) []:=by
 refine⟨fun j ρ' S' H' p l rp g hj=>?_,fun j ρ' S' H' v H2 p l rp g hj y=>?_,fun ρ' S' H' p l rp g=>?_⟩
 ·show j < _
  simpa [M.jq] using hj
 ·obtain⟨rfl,rfl⟩:=y
  have hj':j < (hi - lo).toNat:=by simpa [M.jq] using hj
  exact⟨.int (lo+j),by unfold M.jq;rw[List.getElem?_map,List.getElem?_range hj'];rfl,rfl,Le.refl _,rp⟩
 ·show _ <= _
  simp[M.jq]
theorem zMK (he:ME X Θ e m):MI X Θ tg e (M.iE m):=(PI.or (zIK he) (PI.or (zKX he) (zKO he))).imp fun σ H R ⟨ρ,σ',S,st,rp,h⟩=>by
 have h':zE X.K Θ _ ρ H (((m σ' S).bind M.itD).bind fun p s=>if M.zm p.2 s then .ok p s else .no) R:=h
 clear h
 cases hm:m σ' S with
 | no=>rw[hm] at h';exact h'.elim
 | exc a s=>rw[hm] at h';exact h'.elim
 | ok d S1 =>
  rw[hm] at h'
  have go:∀ {Q:VK},(∀ ρ1 H1 v,ρ <+: ρ1->Le H H1->zR X.K Θ ρ1 S1 H1->zG X.K ρ1 H1 d v->Q v H1)->RdE X.K Θ m σ H Q:=fun q=>⟨ρ,σ',S,st,rp,by rw[hm];exact q⟩
  cases d with
  | str x =>
   refine .inr (.inr (go fun ρ1 H1 v p l rp1 rv=>?_))
   have h2:zE X.K Θ _ ρ H ((if x.length <= M.SZ then .ok (x.map fun c=>M.D.str [c],[]) S1 else M.R.no).bind fun p s=>if M.zm p.2 s then .ok p s else .no) R:=h'
   by_cases hl:x.length <= M.SZ
   ·rw[if_pos hl] at h2
    exact⟨ofT x,rv.1,h2 ρ1 H1 _ p l rp1 (zH6 rv.2)⟩
   ·rw[if_neg hl] at h2
    exact h2.elim
  | tup ds =>
   refine .inr (.inl (go fun ρ1 H1 v p l rp1 rv=>?_))
   obtain⟨a,xs,rfl,hq,r⟩:=rv
   exact⟨a,rfl,⟨xs,hq⟩,h' ρ1 H1 _ p l rp1 (zIB hq r)⟩
  | ro ds =>
   refine .inl (go fun ρ1 H1 v p l rp1 rv=>?_)
   obtain⟨a,xs,rfl,hq,r⟩:=rv
   exact⟨a,rfl,⟨xs,hq.sq⟩,h' ρ1 H1 _ p l rp1 (zKK hq r)⟩
  | ref i =>
   have h2:zE X.K Θ _ ρ H ((match S1[i]? with
    | some (.lst xs)=>M.R.ok (xs,[(i,M.O.lst xs)]) S1
    | _=>.no).bind fun p s=>if M.zm p.2 s then .ok p s else .no) R:=h'
   cases q:S1[i]? with
   | none=>rw[q] at h2;exact h2.elim
   | some o =>
    rw[q] at h2
    cases o with
    | lst xs =>
     refine .inl (go fun ρ1 H1 v p l rp1 rv=>?_)
     obtain⟨a,rfl,e1⟩:=rv
     obtain⟨b,e2,zs,e3,r⟩:=rp1.obj i _ q
     rw[e1] at e2;cases e2
     have hg:M.zm [(i,M.O.lst xs)] S1=true:=by simp[M.zm,q]
     have h3:zE X.K Θ _ ρ H (if M.zm [(i,M.O.lst xs)] S1 then M.R.ok (xs,[(i,M.O.lst xs)]) S1 else .no) R:=h2
     rw[if_pos hg] at h3
     exact⟨a,rfl,⟨zs,SqL.of e3⟩,h3 ρ1 H1 _ p l rp1 (zHN e1)⟩
    | dct kvs=>exact h2.elim
    | fdc _=>exact h2.elim
    | dtt _=>exact h2.elim
    | ftt _=>exact h2.elim
    | ins c fs=>exact h2.elim
  | non=>exact h'.elim
  | bl b=>exact h'.elim
  | int b=>exact h'.elim
  | ty b=>exact h'.elim
theorem zFv (he:WE X Θ e m):WI X Θ tg e (M.iE m):=by with_unfolding_all exact zMK he
theorem zFG {p pos:Pos} (hg:Gl X "range") (hm:X.mg "range" = none) (he:ME X Θ e m) (hs:zv e=true:=by rfl):MI X Θ tg (.Call (.Name "range" p) [e] [] pos) (M.jS m) :=
 (zFJ hg hm (zEL he zGA hs) (j2 hs)).imp fun σ H R ⟨ρ,σ',S,st,rp,h⟩=>⟨ρ,σ',S,st,rp,by
  have h':zE X.K Θ _ ρ H (((m σ' S).bind fun x s=>match x with
   | .int j=>if j.natAbs < 4611686018427387904 then M.R.ok (M.jq 0 j,([]:M.Gd)) s else .no
   | _=>.no).bind fun p s=>if M.zm p.2 s then .ok p s else .no) R:=h
  show zE X.K Θ _ ρ H ((m σ' S).bind fun x s=>(M.R.ok [] s).bind fun xs s=>.ok (x::xs) s) _
  cases hm:m σ' S with
  | no=>rw[hm] at h';exact h'.elim
  | exc a s=>rw[hm] at h';exact h'.elim
  | ok d S1 =>
   rw[hm] at h'
   intro ρ1 H1 vs p l rp1 rv
   obtain⟨v,ys,rfl,rv,hy⟩:=rv
   cases hy
   cases d with
   | int j =>
    cases rv
    have h2:zE X.K Θ _ ρ H ((if j.natAbs < 4611686018427387904 then M.R.ok (M.jq 0 j,([]:M.Gd)) S1 else .no).bind fun p s=>if M.zm p.2 s then .ok p s else .no) R:=h'
    by_cases hj:j.natAbs < 4611686018427387904
    ·rw[if_pos hj] at h2
     refine⟨j,rfl,by omega,by omega,?_⟩
     have:=h2 ρ1 H1 _ p l rp1 (zFH (lo:=0) (hi:=j))
     rw[Int.sub_zero] at this
     exact this
    ·rw[if_neg hj] at h2
     exact h2.elim
   | _=>exact h'.elim⟩
theorem qP {p pos:Pos} (hg:Gl X "range") (hm:X.mg "range" = none) (he:WE X Θ e m) (hs:zv e=true:=by rfl):WI X Θ tg (.Call (.Name "range" p) [e] [] pos) (M.jS m):=by with_unfolding_all exact zFG (p:=p) (pos:=pos) hg hm he hs
end
section
variable {X:Cx}{Θ:Tab}{pos:Pos}
theorem zHk {K:PySem.W.Frag}{g:M.GM}{js:List Nat}{mb:M.SM}{xs:List M.D}{gd:M.Gd}{J:It}{ρ1:List Addr}{H1:Hp}{σ:St}{σ':M.St}{S1:M.S}{D:ZT} (itr:ItR K Θ ρ1 H1 J xs gd) (st:z7 K ρ1 H1 σ' σ) (rp1:zR K Θ ρ1 S1 H1) (hgd:M.zm gd S1=true) (h2:zr K Θ ρ1 H1 (M.jX gd (M.jf g mb) xs σ' S1) D) :
  ∃ W:Nat->Nat->St->Hp->Prop,(∃ m,W 0 m σ H1)/\∀ i m σ H,W i m σ H ->
   (J.stop i H/\D.nx σ H)\/(J.go i H/\∃ N:St->Hp->Prop,(∀ σ' H',N σ' H'->∃ m',m' < m/\W (i+1) m' σ' H')/\∀ x H',J.yld i H x H'->RdG K Θ js g x σ H' fun σ2 H2=>RdS K Θ mb { D with nx:=N,ct:=N,bk:=D.nx } σ2 H2):=by
 refine⟨fun i k σ2 H2=>∃ ρ2 σ2' S2,ρ1 <+: ρ2/\Le H1 H2/\z7 K ρ2 H2 σ2' σ2/\zR K Θ ρ2 S2 H2/\M.zm gd S2=true/\k=xs.length - i/\i <= xs.length/\zr K Θ ρ2 H2 (M.jX gd (M.jf g mb) (xs.drop i) σ2' S2) D,
  ⟨xs.length,ρ1,σ',S1,List.prefix_refl _,Le.refl _,st,rp1,hgd,rfl,Nat.zero_le _,h2⟩,?_⟩
 rintro i k σ2 H2 ⟨ρ2,σ2',S2,p2,l2,st2,rp2,g2,rfl,hi2,h3⟩
 by_cases hlt:i < xs.length
 ·refine .inr ⟨itr.go i ρ2 S2 H2 p2 l2 rp2 g2 hlt,fun σ3 H3=>∃ ρ3 σ3' S3,ρ1 <+: ρ3/\Le H1 H3/\z7 K ρ3 H3 σ3' σ3/\zR K Θ ρ3 S3 H3/\M.zm gd S3=true/\zr K Θ ρ3 H3 (M.jX gd (M.jf g mb) (xs.drop (i+1)) σ3' S3) D,
   fun σ3 H3 ⟨ρ3,σ3',S3,a1,a2,a3,a4,a5,a6⟩=>⟨xs.length - (i+1),by omega,ρ3,σ3',S3,a1,a2,a3,a4,a5,rfl,hlt,a6⟩,fun x H' y=>?_⟩
  obtain⟨d,ed,rd,ld,rpd⟩:=itr.yld i ρ2 S2 H2 x H' p2 l2 rp2 g2 hlt y
  have edr:xs.drop i=d::xs.drop (i+1):=by
   obtain⟨_,e⟩:=List.getElem?_eq_some_iff.mp ed
   rw[List.drop_eq_getElem_cons hlt,e]
  rw[edr] at h3
  have h4:zr K Θ ρ2 H2 (match (match g d σ2' with | some σ'=>mb σ' S2 | none=>M.RS.no) with
   | .nx σ s=>if M.zm gd s then M.jX gd (M.jf g mb) (xs.drop (i+1)) σ s else .no
   | .ct σ s=>if M.zm gd s then M.jX gd (M.jf g mb) (xs.drop (i+1)) σ s else .no
   | .bk σ s=>.nx σ s
   | r=>r) D:=h3
  cases hgq:g d σ2' with
  | none=>rw[hgq] at h4;exact h4.elim
  | some σ1 =>
   rw[hgq] at h4
   refine⟨ρ2,σ2',S2,d,st2.mono (List.prefix_refl _) ld,rpd,rd,σ1,hgq,fun H'' σ3 le3 rp3 st3 _ _=>⟨ρ2,σ1,S2,st3,rp3,?_⟩⟩
   have h5:=zr.weak h4 (List.prefix_refl _) (ld.trans le3)
   have h6:zr K Θ ρ2 H'' (match mb σ1 S2 with
    | .nx σ s=>if M.zm gd s then M.jX gd (M.jf g mb) (xs.drop (i+1)) σ s else .no
    | .ct σ s=>if M.zm gd s then M.jX gd (M.jf g mb) (xs.drop (i+1)) σ s else .no
    | .bk σ s=>.nx σ s
    | r=>r) D:=h5
   have more:∀ (a:M.St) (s:M.S),zr K Θ ρ2 H'' (if M.zm gd s then M.jX gd (M.jf g mb) (xs.drop (i+1)) a s else .no) D->∀ ρ4 H4 σ4,ρ2 <+: ρ4->Le H'' H4->zR K Θ ρ4 s H4->z7 K ρ4 H4 a σ4 ->
     ∃ ρ3 σ3' S3,ρ1 <+: ρ3/\Le H1 H4/\z7 K ρ3 H4 σ3' σ4/\zR K Θ ρ3 S3 H4/\M.zm gd S3=true/\zr K Θ ρ3 H4 (M.jX gd (M.jf g mb) (xs.drop (i+1)) σ3' S3) D:=fun a s h7 ρ4 H4 σ4 p4 l4 rp4 st4=>by
    by_cases hs:M.zm gd s=true
    ·rw[if_pos hs] at h7
     exact⟨ρ4,a,s,p2.trans p4,l2.trans (ld.trans (le3.trans l4)),st4,rp4,hs,zr.weak h7 p4 l4⟩
    ·rw[if_neg hs] at h7;exact h7.elim
   revert h6
   cases mb σ1 S2 with
   | nx a s=>exact fun h6=>more a s h6
   | ct a s=>exact fun h6=>more a s h6
   | bk a s=>exact fun h6=>h6
   | rt a s=>exact fun h6=>h6
   | exc e a s=>exact fun h6=>h6
   | no=>exact fun h6=>h6
 ·have e:i=xs.length:=by omega
  subst e
  rw[List.drop_length] at h3
  exact .inl ⟨itr.stop ρ2 S2 H2 p2 l2 rp2 g2,zr.nx (σ:=σ2) h3 rp2 st2⟩
theorem zJ8 {tg iter:Expr}{body:List Stmt}{it:M.IM}{g:M.GM}{js:List Nat}{mb:M.SM} (hp:PassesOwn (model X.prog X.w) X.A X.env X.xe) (hc:X.calm=true) (hi:MI X Θ tg iter it) (hg:MG X Θ js tg g) (hb:MSs X Θ body mb)
  (hs:∀ x,foldedSetIterable iter X.env x=pure x:=by intro _;rfl):MS X Θ (.For tg iter body [] pos) (M.ye it g mb) :=
 (zGH hp hc hi hg hb hs).imp fun D σ H ⟨ρ,σ',S,st,rp,h⟩=>⟨ρ,σ',S,st,rp,by
  have h':zr X.K Θ ρ H ((it σ' S).stm σ' fun p s=>if M.zm p.2 s=true then M.jX p.2 (M.jf g mb) p.1 σ' s else .no) D:=h
  cases hit:it σ' S with
  | no=>rw[hit] at h';exact h'.elim
  | exc a s=>rw[hit] at h';exact h'.elim
  | ok p S1 =>
   rw[hit] at h'
   obtain⟨xs,gd⟩:=p
   show zE X.K Θ _ ρ H (if M.zm gd S1 then M.R.ok (xs,gd) S1 else .no) _
   have h2:zr X.K Θ ρ H (if M.zm gd S1=true then M.jX gd (M.jf g mb) xs σ' S1 else .no) D:=h'
   by_cases hgd:M.zm gd S1=true
   case neg=>rw[if_neg hgd] at h2;exact h2.elim
   rw[if_pos hgd] at h2
   rw[if_pos hgd]
   intro ρ1 H1 J p1 l1 rp1 (itr:ItR X.K Θ ρ1 H1 J xs gd)
   exact zHk itr (st.mono p1 l1) rp1 hgd (zr.weak h2 p1 l1)⟩
theorem Ze {tg iter:Expr}{body:List Stmt}{it:M.IM}{g:M.GM}{js:List Nat}{mb:M.SM} (hp:PassesOwn (model X.prog X.w) X.A X.env X.xe) (hc:X.calm=true) (hi:WI X Θ tg iter it) (hg:WG X Θ js tg g) (hb:WSs X Θ body mb)
  (hs:∀ x,foldedSetIterable iter X.env x=pure x:=by intro _;rfl):WS X Θ (.For tg iter body [] pos) (M.ye it g mb):=by with_unfolding_all exact zJ8 (tg:=tg) (iter:=iter) (body:=body) (it:=it) (g:=g) (js:=js) (mb:=mb) hp hc hi hg hb hs
theorem zKD {K:PySem.W.Frag}{n:Nat}{it:M.IM}{g:M.GM}{js:List Nat}{tc:M.TM}{me:M.EM}{σ:St}{σ':M.St}{S:M.S}{ρ:List Addr}{H:Hp}{R:List V->Hp->Prop} (st:z7 K ρ H σ' σ) (rp:zR K Θ ρ S H) (hj:∀ j∈js,σ.length <= j)
  (h:zE K Θ (zJ K) ρ H (M.qy n it g tc me σ' S) R) :
  RdI K Θ it σ H fun J H1=>∃ W:Nat->Nat->List V->Hp->Prop,(∃ m,W 0 m [] H1)/\∀ i m ys H2,W i m ys H2->ys.length <= sizeLine /\
   ((J.stop i H2/\R ys H2) \/
    (J.go i H2/\∀ x H3,J.yld i H2 x H3->RdG K Θ js g x (σ++List.replicate n none) H3 fun σ2 H4=>Wk (σ++List.replicate n none) σ2/\RdT K Θ tc σ2 H4 fun b H5 =>
     if b=true then RdE K Θ me σ2 H5 fun y H6=>∃ m',m' < m/\W (i+1) m' (ys++[y]) H6 else ∃ m',m' < m/\W (i+1) m' ys H5)):=by
 refine⟨ρ,σ',S,st,rp,?_⟩
 have h':zE K Θ (zJ K) ρ H ((it σ' S).bind fun p s=>if p.1.length <= M.SZ/\M.zm p.2 s=true then M.qf p.2 (M.qZ n g tc me σ') p.1 s else .no) R:=h
 cases hit:it σ' S with
 | no=>rw[hit] at h';exact h'.elim
 | exc a s=>rw[hit] at h';exact h'.elim
 | ok p S1 =>
  rw[hit] at h'
  obtain⟨xs,gd⟩:=p
  show zE K Θ _ ρ H (if M.zm gd S1 then M.R.ok (xs,gd) S1 else .no) _
  have h2:zE K Θ (zJ K) ρ H (if xs.length <= M.SZ/\M.zm gd S1=true then M.qf gd (M.qZ n g tc me σ') xs S1 else .no) R:=h'
  by_cases hgd:xs.length <= M.SZ/\M.zm gd S1=true
  case neg=>rw[if_neg hgd] at h2;exact h2.elim
  rw[if_pos hgd] at h2
  rw[if_pos hgd.2]
  intro ρ1 H1 J p1 l1 rp1 (itr:ItR K Θ ρ1 H1 J xs gd)
  refine⟨fun i k ys H2=>∃ ρ2 S2 ds,ρ1 <+: ρ2/\Le H1 H2/\zR K Θ ρ2 S2 H2/\M.zm gd S2=true/\zJ K ρ2 H2 ds ys/\ds.length <= i/\k=xs.length - i/\i <= xs.length/\zE K Θ (zJ K) ρ2 H2 ((M.qf gd (M.qZ n g tc me σ') (xs.drop i) S2).bind fun es s=>.ok (ds++es) s) R,
   ⟨xs.length,ρ1,S1,[],List.prefix_refl _,Le.refl _,rp1,hgd.2,rfl,Nat.le_refl _,rfl,Nat.zero_le _,?_⟩,?_⟩
  ·have h3:=zE.weak h2 p1 l1
   revert h3
   show zE K Θ (zJ K) ρ1 H1 (M.qf gd (M.qZ n g tc me σ') xs S1) R->_
   rw[List.drop_zero]
   cases M.qf gd (M.qZ n g tc me σ') xs S1 with
   | ok a s=>exact fun h3=>h3
   | exc e s=>exact fun h3=>h3
   | no=>exact fun h3=>h3
  rintro i k ys H2 ⟨ρ2,S2,ds,p2,l2,rp2,g2,rds,hdl,rfl,hi2,h3⟩
  refine⟨by rw[<- rds.length,<- yq];omega,?_⟩
  by_cases hlt:i < xs.length
  ·refine .inr ⟨itr.go i ρ2 S2 H2 p2 l2 rp2 g2 hlt,fun x H3 y=>?_⟩
   obtain⟨d,ed,rd,ld,rpd⟩:=itr.yld i ρ2 S2 H2 x H3 p2 l2 rp2 g2 hlt y
   have edr:xs.drop i=d::xs.drop (i+1):=by
    obtain⟨_,e⟩:=List.getElem?_eq_some_iff.mp ed
    rw[List.drop_eq_getElem_cons hlt,e]
   rw[edr] at h3
   have h4:zE K Θ (zJ K) ρ2 H2 (((match g d (σ'++List.replicate n none) with
     | none=>M.R.no
     | some σ1=>(tc σ1 S2).bind fun b s=>if b then (me σ1 s).bind fun d s=>.ok (some d) s else .ok none s).bind fun o s =>
      if M.zm gd s then (M.qf gd (M.qZ n g tc me σ') (xs.drop (i+1)) s).bind fun ys s=>.ok (match o with | some y=>y::ys | none=>ys) s else .no).bind fun es s=>.ok (ds++es) s) R:=h3
   cases hgq:g d (σ'++List.replicate n none) with
   | none=>rw[hgq] at h4;exact h4.elim
   | some σ1 =>
    rw[hgq] at h4
    refine⟨ρ2,σ'++List.replicate n none,S2,d,((st.mono (p1.trans p2) (l1.trans (l2.trans ld))).more n),rpd,rd,σ1,hgq,fun H4 σ2 le4 rp4 st4 hl4 hj4=>⟨⟨hl4.symm,fun j v e=>?_⟩,ρ2,σ1,S2,st4,rp4,?_⟩⟩
    ·by_cases hjj:j∈js
     ·rw[List.getElem?_append_right (hj j hjj),List.getElem?_replicate] at e
      split at e<;>cases e
     ·rw[hj4 j hjj];exact e
    ·have h5:=zE.weak h4 (List.prefix_refl _) (ld.trans le4)
     dsimp only at h5
     cases htc:tc σ1 S2 with
     | no=>rw[htc] at h5;exact h5.elim
     | exc a s=>rw[htc] at h5;exact h5.elim
     | ok b S3 =>
      rw[htc] at h5
      intro ρ5 H5 b' p5 l5 rp5 eb
      cases eb
      have next:∀ (o:Option M.D) (s:M.S) (ρ6:List Addr) (H6:Hp) (zs:List V),ρ2 <+: ρ6->Le H4 H6->zR K Θ ρ6 s H6->zJ K ρ6 H6 (match o with | some y=>ds++[y] | none=>ds) zs ->
        zE K Θ (zJ K) ρ6 H6 ((if M.zm gd s then (M.qf gd (M.qZ n g tc me σ') (xs.drop (i+1)) s).bind fun ys s=>.ok (match o with | some y=>y::ys | none=>ys) s else .no).bind fun es s=>.ok (ds++es) s) R ->
        ∃ m',m' < xs.length - i/\∃ ρ2 S2 es,ρ1 <+: ρ2/\Le H1 H6/\zR K Θ ρ2 S2 H6/\M.zm gd S2=true/\zJ K ρ2 H6 es zs/\es.length <= i+1/\m'=xs.length - (i+1)/\i+1 <= xs.length /\
         zE K Θ (zJ K) ρ2 H6 ((M.qf gd (M.qZ n g tc me σ') (xs.drop (i+1)) S2).bind fun fs s=>.ok (es++fs) s) R:=fun o s ρ6 H6 zs p6 l6 rp6 rz h6=>by
       by_cases hs:M.zm gd s=true
       case neg=>rw[if_neg hs] at h6;exact h6.elim
       rw[if_pos hs] at h6
       refine⟨xs.length - (i+1),by omega,ρ6,s,_,p2.trans p6,l2.trans (ld.trans (le4.trans l6)),rp6,hs,rz,?_,rfl,hlt,?_⟩
       ·cases o<;>simp<;>omega
       ·revert h6
        cases M.qf gd (M.qZ n g tc me σ') (xs.drop (i+1)) s with
        | ok a s2 =>
         intro h6
         cases o with
         | none=>exact h6
         | some y =>
          show zE K Θ (zJ K) ρ6 H6 (.ok (ds++[y]++a) s2) R
          rw[List.append_assoc]
          exact h6
        | exc e s=>exact fun h6=>h6
        | no=>exact fun h6=>h6
      cases b with
      | false=>exact zDV (next none S3 ρ5 H5 ys p5 l5 rp5 (rds.mono p5 (ld.trans (le4.trans l5))) (zE.weak h5 p5 l5))
      | true =>
       refine zCq ⟨ρ5,σ1,S3,st4.mono p5 l5,rp5,?_⟩
       have h6:=zE.weak h5 p5 l5
       cases hme:me σ1 S3 with
       | no =>
        have h7:zE K Θ (zJ K) ρ5 H5 ((((me σ1 S3).bind fun d s=>M.R.ok (some d) s).bind fun o s=>if M.zm gd s then (M.qf gd (M.qZ n g tc me σ') (xs.drop (i+1)) s).bind fun ys s=>.ok (match o with | some y=>y::ys | none=>ys) s else .no).bind fun es s=>.ok (ds++es) s) R:=h6
        rw[hme] at h7;exact h7.elim
       | exc a s =>
        have h7:zE K Θ (zJ K) ρ5 H5 ((((me σ1 S3).bind fun d s=>M.R.ok (some d) s).bind fun o s=>if M.zm gd s then (M.qf gd (M.qZ n g tc me σ') (xs.drop (i+1)) s).bind fun ys s=>.ok (match o with | some y=>y::ys | none=>ys) s else .no).bind fun es s=>.ok (ds++es) s) R:=h6
        rw[hme] at h7;exact h7.elim
       | ok y S6 =>
        have h7:zE K Θ (zJ K) ρ5 H5 ((((me σ1 S3).bind fun d s=>M.R.ok (some d) s).bind fun o s=>if M.zm gd s then (M.qf gd (M.qZ n g tc me σ') (xs.drop (i+1)) s).bind fun ys s=>.ok (match o with | some y=>y::ys | none=>ys) s else .no).bind fun es s=>.ok (ds++es) s) R:=h6
        rw[hme] at h7
        intro ρ6 H6 v p6 l6 rp6 rv
        exact next (some y) S6 ρ6 H6 (ys++[v]) (p5.trans p6) (l5.trans l6) rp6 ((rds.mono (p5.trans p6) (ld.trans (le4.trans (l5.trans l6)))).app ⟨v,[],rfl,rv,rfl⟩) (zE.weak h7 p6 l6)
  ·have e:i=xs.length:=by omega
   subst e
   rw[List.drop_length] at h3
   refine .inl ⟨itr.stop ρ2 S2 H2 p2 l2 rp2 g2,?_⟩
   have h4:zE K Θ (zJ K) ρ2 H2 (.ok (ds++[]) S2) R:=h3
   rw[List.append_nil] at h4
   exact h4.here rp2 rds
end
end L2
namespace L2
open PySem PySem.Spec PyProof.Rows
section
variable {X:Cx}{Θ:Tab}{pos:Pos}{vars:List Str}{scope:Scope}{cl:List (Str×Addr)}{tg elt iter:Expr}{ifs:List Expr}{it:M.IM}{g:M.GM}{js:List Nat}{tc:M.TM}{me:M.EM}
theorem zA1 {pins:List (Addr×Obj)}{s:Shared}{σ:St}{H:Hp} (I:Inv X pins σ H s) (hj:∀ j∈js,X.N.length <= j) {ρ:List Addr}{σ':M.St}{S:M.S} (st:z7 X.K ρ H σ' σ) (rp:zR X.K Θ ρ S H) {Q:VK}{n:Nat}
  (h:zE X.K Θ (zJ X.K) ρ H (M.qy n it g tc me σ' S) fun ys H2=>∀ D,H2 D=none->Q (.ref D) (upd H2 D (.lst ys))) :
  zE6 n (RdI X.K Θ it) (RdG X.K Θ js g) (RdT X.K Θ tc) (RdE X.K Θ me) σ H Q:=zKD st rp (fun j hjj=>by rw[I.len];exact hj j hjj) h
theorem zHx (hc:X.calm=true) (C:jJ X vars scope cl) (hi:MI X Θ tg iter it) (hg:∀ C fp s₂ H₂,MG (zn X vars scope cl C fp s₂ H₂) Θ js tg g) (ht:∀ C fp s₂ H₂,ZU (zn X vars scope cl C fp s₂ H₂) ifs (RdT X.K Θ tc))
  (he:∀ C fp s₂ H₂,ME (zn X vars scope cl C fp s₂ H₂) Θ elt me) (hj':(js.all fun j=>decide (X.N.length <= j))=true) (hs:∀ x,foldedSetIterable iter X.env x=pure x:=by intro _;rfl):ME X Θ (.ListComp elt [⟨tg,iter,ifs,0⟩] scope pos) (M.Q6 vars.length it g tc me):=by
 intro pins s σ H Q I ⟨ρ,σ',S,st,rp,h⟩
 have hj:∀ j∈js,X.N.length <= j:=fun j hjj=>of_decide_eq_true (List.all_eq_true.mp hj' j hjj)
 exact zEA hc C hi hg ht he hs pins s σ H Q I (zA1 I hj st rp (zE.bind h fun ρ1 H1 ds ys S1 p1 l1 rp1 r1 h1 D hD=>h1.alloc rp1 r1 hD))
theorem zBq (hc:X.calm=true) (C:jJ X vars scope cl) (hi:WI X Θ tg iter it) (hg:∀ C fp s₂ H₂,WG (zn X vars scope cl C fp s₂ H₂) Θ js tg g) (ht:∀ C fp s₂ H₂,ZU (zn X vars scope cl C fp s₂ H₂) ifs (RdT X.K Θ tc))
  (he:∀ C fp s₂ H₂,WE (zn X vars scope cl C fp s₂ H₂) Θ elt me) (hj':(js.all fun j=>decide (X.N.length <= j))=true) (hs:∀ x,foldedSetIterable iter X.env x=pure x:=by intro _;rfl):WE X Θ (.ListComp elt [⟨tg,iter,ifs,0⟩] scope pos) (M.Q6 vars.length it g tc me):=by with_unfolding_all exact zHx hc C hi hg ht he hj' hs
theorem zEw {i:Nat}{y:Str}{py spos:Pos} (hc:X.calm=true) (C:jJ X vars scope cl) (hN:X.N.Nodup) (hiy:X.N[i]? = some y) (hy:Loc X.env.scope y) (hi:MI X Θ tg iter it) (hg:∀ C fp s₂ H₂,MG (zn X vars scope cl C fp s₂ H₂) Θ js tg g) (ht:∀ C fp s₂ H₂,ZU (zn X vars scope cl C fp s₂ H₂) ifs (RdT X.K Θ tc))
  (he:∀ C fp s₂ H₂,ME (zn X vars scope cl C fp s₂ H₂) Θ elt me) (hj':(js.all fun j=>decide (X.N.length <= j))=true) (hs:∀ x,foldedSetIterable iter X.env x=pure x:=by intro _;rfl)
  (hsw:swapsWith (.ListComp elt [⟨tg,iter,ifs,0⟩] scope pos) (some (.Name y py)) spos.line X.env=pure true:=by rfl)
  (hf:X.fn y=true\/X.env.scope.names.lookup y=some .local:=by first | exact .inl rfl | exact .inr rfl | assumption) :
  MS X Θ (.Assign [.Name y py] (.ListComp elt [⟨tg,iter,ifs,0⟩] scope pos) spos) (M.j6 i (M.Q6 vars.length it g tc me)):=by
 intro pins s σ H D I ⟨ρ,σ',S,st,rp,h⟩
 have hj:∀ j∈js,X.N.length <= j:=fun j hjj=>of_decide_eq_true (List.all_eq_true.mp hj' j hjj)
 refine zEz hc C hN hiy hy hi hg ht he hs hsw hf pins s σ H D I (zA1 I hj st rp ?_)
 have h':zr X.K Θ ρ H (((M.qy vars.length it g tc me σ' S).bind fun ys s=>M.alloc (.lst ys) s).stm σ' fun d s=>.nx (σ'.set i (some d)) s) D:=h
 cases hm:M.qy vars.length it g tc me σ' S with
 | no=>rw[hm] at h';exact h'.elim
 | exc a s=>rw[hm] at h';exact h'.elim
 | ok ds S1 =>
  rw[hm] at h'
  intro ρ1 H1 ys p1 l1 rp1 r1 E hE
  have h2:zr X.K Θ ρ H (.nx (σ'.set i (some (.ref S1.length))) (S1++[.lst ds])) D:=h'
  have rp2:zR X.K Θ (ρ1++[E]) (S1++[.lst ds]) (upd H1 E (.lst ys)):=rp1.alloc hE ⟨ys,z5,r1.mono (List.prefix_append _ _) (Le.new hE _)⟩
  exact h2 (ρ1++[E]) _ _ (p1.trans (List.prefix_append _ _)) (l1.trans (Le.new hE _)) rp2 (((st.mono p1 l1).mono (List.prefix_append _ _) (Le.new hE _)).set (show zG X.K (ρ1++[E]) (upd H1 E (.lst ys)) (.ref S1.length) (.ref E) from ⟨E,rfl,by rw[<- rp1.len];simp⟩) i)
theorem zDC {i:Nat}{y:Str}{py spos:Pos} (hc:X.calm=true) (C:jJ X vars scope cl) (hN:X.N.Nodup) (hiy:X.N[i]? = some y) (hy:Loc X.env.scope y) (hi:WI X Θ tg iter it) (hg:∀ C fp s₂ H₂,WG (zn X vars scope cl C fp s₂ H₂) Θ js tg g) (ht:∀ C fp s₂ H₂,ZU (zn X vars scope cl C fp s₂ H₂) ifs (RdT X.K Θ tc))
  (he:∀ C fp s₂ H₂,WE (zn X vars scope cl C fp s₂ H₂) Θ elt me) (hj':(js.all fun j=>decide (X.N.length <= j))=true) (hs:∀ x,foldedSetIterable iter X.env x=pure x:=by intro _;rfl)
  (hsw:swapsWith (.ListComp elt [⟨tg,iter,ifs,0⟩] scope pos) (some (.Name y py)) spos.line X.env=pure true:=by rfl)
  (hf:X.fn y=true\/X.env.scope.names.lookup y=some .local:=by first | exact .inl rfl | exact .inr rfl | assumption) :
  WS X Θ (.Assign [.Name y py] (.ListComp elt [⟨tg,iter,ifs,0⟩] scope pos) spos) (M.j6 i (M.Q6 vars.length it g tc me)):=by with_unfolding_all exact zEw (i:=i) (y:=y) (py:=py) (spos:=spos) hc C hN hiy hy hi hg ht he hj' hs hsw hf
theorem zGy {y:M.T}{z:Str}{j:Nat}{p apos cpos:Pos} (hz:z=ofT y) (hc:X.calm=true) (C:jJ X vars scope cl) (hi:MI X Θ tg iter it) (hg:∀ C fp s₂ H₂,MG (zn X vars scope cl C fp s₂ H₂) Θ js tg g) (ht:∀ C fp s₂ H₂,ZU (zn X vars scope cl C fp s₂ H₂) ifs (RdT X.K Θ tc))
  (he:∀ C fp s₂ H₂,ME (zn X vars scope cl C fp s₂ H₂) Θ elt me) (hj':(js.all fun j=>decide (X.N.length <= j))=true) (ad:∀ ρ H S ds ys p Q,zR X.K Θ ρ S H->zJ X.K ρ H ds ys->SqL X.K H p ys->zE X.K Θ (zG X.K) ρ H (M.ZA y ds S) Q->zCV X.K (.str (ofT y)) [.ref p] H Q) (hs:∀ x,foldedSetIterable iter X.env x=pure x:=by intro _;rfl)
  (hline:(apos.endLine == cpos.line)=true:=by rfl)
  :
  ME X Θ (.Call (.Attribute (.Constant (.str z) j p) "join" apos) [.ListComp elt [⟨tg,iter,ifs,0⟩] scope pos] [] cpos) (M.zCz (M.ZA y) vars.length it g tc me):=by
 intro pins s σ H Q I ⟨ρ,σ',S,st,rp,h⟩
 have hj:∀ j∈js,X.N.length <= j:=fun j hjj=>of_decide_eq_true (List.all_eq_true.mp hj' j hjj)
 subst hz
 refine zHn PySem.F.plainAttrs_str PySem.F.slot_str_join PySem.F.type_str_join zH3 zF6 (zDz (zEA (g:=RdG X.K Θ js g) (ti:=RdT X.K Θ tc) (te:=RdE X.K Θ me) hc C hi hg ht he hs) zGN (j2 rfl)) rfl (zDD rfl (show 1 < 30 by decide)) hline (j2 rfl) rfl pins s σ H Q I ?_
 refine⟨rfl,zA1 I hj st rp (zE.bind h fun ρ1 H1 ds ys S1 p1 l1 rp1 r1 h1 D hD=>?_)⟩
 exact ad ρ1 _ S1 ds ys D Q (rp1.aside hD _) (r1.mono (List.prefix_refl _) (Le.new hD _)) (SqL.of z5) (zE.weak h1 (List.prefix_refl _) (Le.new hD _))
theorem zEQ {y:M.T}{z:Str}{j:Nat}{p apos cpos:Pos} (hz:z=ofT y) (hc:X.calm=true) (C:jJ X vars scope cl) (hi:WI X Θ tg iter it) (hg:∀ C fp s₂ H₂,WG (zn X vars scope cl C fp s₂ H₂) Θ js tg g) (ht:∀ C fp s₂ H₂,ZU (zn X vars scope cl C fp s₂ H₂) ifs (RdT X.K Θ tc))
  (he:∀ C fp s₂ H₂,WE (zn X vars scope cl C fp s₂ H₂) Θ elt me) (hj':(js.all fun j=>decide (X.N.length <= j))=true) (ad:∀ ρ H S ds ys p Q,zR X.K Θ ρ S H->zJ X.K ρ H ds ys->SqL X.K H p ys->zE X.K Θ (zG X.K) ρ H (M.ZA y ds S) Q->zCV X.K (.str (ofT y)) [.ref p] H Q) (hs:∀ x,foldedSetIterable iter X.env x=pure x:=by intro _;rfl)
  (hline:(apos.endLine == cpos.line)=true:=by rfl)
  :
  WE X Θ (.Call (.Attribute (.Constant (.str z) j p) "join" apos) [.ListComp elt [⟨tg,iter,ifs,0⟩] scope pos] [] cpos) (M.zCz (M.ZA y) vars.length it g tc me):=by with_unfolding_all exact zGy (y:=y) (z:=z) (j:=j) (p:=p) (apos:=apos) (cpos:=cpos) hz hc C hi hg ht he hj' ad hs hline
end
noncomputable def SpM (K:PySem.W.Frag) (Θ:Tab) (n:Nat) (f:M.F):Sp:=fun vs H Q _=>∃ ρ ds S,ds.length=n/\zJ K ρ H ds vs/\zR K Θ ρ S H/\zE K Θ (zG K) ρ H (f ds S) Q
noncomputable def Z5 (m:M.AM) (n:Nat):Prop:=∀ σ s xs s',m σ s=.ok xs s'->xs.length=n
theorem j0:Z5 M.zI 0:=fun σ s xs s' h=>by cases h;rfl
theorem zw {a:M.EM}{r:M.AM}{n:Nat} (h:Z5 r n):Z5 (M.zC a r) (n+1):=fun σ s xs s' e=>by
 have e':((a σ s).bind fun x s=>(r σ s).bind fun xs s=>M.R.ok (x::xs) s)=.ok xs s':=e
 cases ha:a σ s with
 | no=>rw[ha] at e';cases e'
 | exc a s=>rw[ha] at e';cases e'
 | ok d S1 =>
  rw[ha] at e'
  have e2:((r σ S1).bind fun xs s=>M.R.ok (d::xs) s)=.ok xs s':=e'
  cases hr:r σ S1 with
  | no=>rw[hr] at e2;cases e2
  | exc a s=>rw[hr] at e2;cases e2
  | ok ds S2 =>
   rw[hr] at e2
   cases e2
   rw[List.length_cons,h _ _ _ _ hr]
section
variable {X:Cx}{Θ:Tab}{pos p:Pos}{x:Str}{ps:List Str}{e:Expr}{es:List Expr}{f:M.F}{m:M.AM}{k kk n:Nat}
theorem zIZ (h:Has X.prog X.w X.K X.mg X.base x k ps (SpM X.K Θ n f)) (hr:zy kk X.A) (hk:k <= kk) (hg:Gl X x) (ha:MA X Θ (e::es) m) (ar:Z5 m n) (hx:qr CX0 X E0:=by exact JH) (hdb:(x == ("__debug__" : Str))=false:=by decide)
  (he:zv e=true:=by rfl) (hpl:es.all zv=true:=by rfl):ME X Θ (.Call (.Name x p) (e::es) [] pos) (M.zU f m) :=
 (zGf h hr hk hg ha hx hdb (j2 he) (ZJ hpl)).imp fun σ H Q ⟨ρ,σ',S,st,rp,h⟩=>⟨ρ,σ',S,st,rp,by
  have h':zE X.K Θ (zG X.K) ρ H ((m σ' S).bind fun xs s=>f xs s) Q:=h
  cases hm:m σ' S with
  | no=>rw[hm] at h';exact h'.elim
  | exc a s=>rw[hm] at h';exact h'.elim
  | ok ds S1 =>
   rw[hm] at h'
   intro ρ1 H1 vs p1 l1 rp1 r1
   rw[List.append_nil]
   exact⟨ρ1,ds,S1,ar _ _ _ _ hm,r1,rp1,zE.weak h' p1 l1⟩⟩
theorem jm (h:Has X.prog X.w X.K X.mg X.base x k ps (SpM X.K Θ n f)) (hr:zy kk X.A) (hk:k <= kk) (hg:Gl X x) (ha:WA X Θ (e::es) m) (ar:Z5 m n) (hx:qr CX0 X E0:=by exact JH) (hdb:(x == ("__debug__" : Str))=false:=by decide)
  (he:zv e=true:=by rfl) (hpl:es.all zv=true:=by rfl):WE X Θ (.Call (.Name x p) (e::es) [] pos) (M.zU f m):=by with_unfolding_all exact zIZ h hr hk hg ha ar hx hdb he hpl
end
theorem zFN {e:List Nat}:∀ {n:Nat}{d:M.D},M.kyD n (M.D.ren e d)=true->M.D.ren e d=d:=by
 intro n
 induction n with
 | zero=>intro d h;cases d<;>first | rfl | cases h
 | succ n ih =>
  intro d h
  cases d with
  | tup ds =>
   show M.D.tup (M.D.ren.all e ds)=_
   have h':(M.D.ren.all e ds).all (M.kyD n)=true:=h
   have:∀ ds:List M.D,(M.D.ren.all e ds).all (M.kyD n)=true->M.D.ren.all e ds=ds:=by
    intro ds
    induction ds with
    | nil=>intro _;rfl
    | cons d ds ih2 =>
     intro h
     have h2:(M.kyD n (M.D.ren e d) && (M.D.ren.all e ds).all (M.kyD n))=true:=h
     rw[Bool.and_eq_true] at h2
     show M.D.ren e d::M.D.ren.all e ds=_
     rw[ih h2.1,ih2 h2.2]
   rw[this ds h']
  | _=>first | rfl | cases h
section
variable {K:PySem.W.Frag}{Θ:Tab}{ρ ρ':List Addr}{H:Hp}{e:List Nat}
mutual
theorem zG.unren (hρ:∀ (i j:Nat) a,e[i]? = some j->ρ[j]? = some a->ρ'[i]? = some a):∀ {d:M.D}{v:V},M.D.cl e.length d=true->zG K ρ H (M.D.ren e d) v->zG K ρ' H d v
 | .non,_,_,h=>h
 | .bl _,_,_,h=>h
 | .int _,_,_,h=>h
 | .str _,_,_,h=>h
 | .ty _,_,_,h=>h
 | .ref i,_,c,⟨a,h1,h2⟩=>by
  have hi:i < e.length:=of_decide_eq_true c
  refine⟨a,h1,hρ i (e.getD i i) a ?_ h2⟩
  rw[List.getD_eq_getElem?_getD,List.getElem?_eq_getElem hi];rfl
 | .tup _,_,c,⟨a,xs,h1,h2,h3⟩=>⟨a,xs,h1,h2,zJ.unren hρ c h3⟩
 | .ro _,_,c,⟨a,xs,h1,h2,h3⟩=>⟨a,xs,h1,h2,zJ.unren hρ c h3⟩
theorem zJ.unren (hρ:∀ (i j:Nat) a,e[i]? = some j->ρ[j]? = some a->ρ'[i]? = some a):∀ {ds:List M.D}{xs:List V},M.D.cl.all e.length ds=true->zJ K ρ H (M.D.ren.all e ds) xs->zJ K ρ' H ds xs
 | [],_,_,h=>h
 | d::ds,_,c,⟨y,ys,h1,h2,h3⟩=>by
  have c':(M.D.cl e.length d && M.D.cl.all e.length ds)=true:=c
  rw[Bool.and_eq_true] at c'
  exact⟨y,ys,h1,zG.unren hρ c'.1 h2,zJ.unren hρ c'.2 h3⟩
end
theorem ObR.unren (hρ:∀ (i j:Nat) a,e[i]? = some j->ρ[j]? = some a->ρ'[i]? = some a) {a:Addr}{o:M.O} (c:M.O.cl e.length o=true) (h:ObR K Θ ρ H a (M.O.ren e o)):ObR K Θ ρ' H a o:=by
 cases o with
 | lst ds=>obtain⟨xs,h1,h2⟩:=h;exact⟨xs,h1,zJ.unren hρ c h2⟩
 | dct kvs =>
  obtain⟨ks,h1,h2⟩:=h
  refine⟨ks,h1,?_⟩
  have c':∀ p∈kvs,(M.D.cl e.length p.1 && M.D.cl e.length p.2)=true:=List.all_eq_true.mp c
  clear h1
  revert h2 c'
  clear c
  induction kvs generalizing ks with
  | nil=>intro h2 c';cases h2;exact .nil
  | cons p kvs ih =>
   intro h2 c'
   rw[List.map_cons] at h2
   cases h2 with
   | cons r1 r2 =>
    have c1:=c' p List.mem_cons_self
    rw[Bool.and_eq_true] at c1
    refine .cons ⟨?_,zG.unren hρ c1.2 r1.2⟩ (ih _ r2 (fun q hq=>c' q (List.mem_cons_of_mem _ hq)))
    have hk:=r1.1
    revert hk
    cases p.1<;>exact fun hk=>hk
 | fdc kvs =>
  obtain⟨o,ks,h1,h2⟩:=h
  refine⟨o,ks,h1,?_⟩
  have c':∀ p∈kvs,(M.D.cl e.length p.1 && M.D.cl e.length p.2)=true:=List.all_eq_true.mp c
  clear h1
  revert h2 c'
  clear c
  induction kvs generalizing ks with
  | nil=>intro h2 c';cases h2;exact .nil
  | cons p kvs ih =>
   intro h2 c'
   rw[List.map_cons] at h2
   cases h2 with
   | cons r1 r2 =>
    have c1:=c' p List.mem_cons_self
    rw[Bool.and_eq_true] at c1
    refine .cons ⟨?_,zG.unren hρ c1.2 r1.2⟩ (ih _ r2 (fun q hq=>c' q (List.mem_cons_of_mem _ hq)))
    have hk:=r1.1
    revert hk
    cases p.1<;>exact fun hk=>hk
 | dtt kvs =>
  obtain⟨xs,h1,h2⟩:=h
  refine⟨xs,h1,?_⟩
  have c':∀ p∈kvs,(M.D.cl e.length p.1 && M.D.cl e.length p.2)=true:=List.all_eq_true.mp c
  clear h1
  revert h2 c'
  clear c
  induction kvs generalizing xs with
  | nil=>intro h2 c';cases h2;exact .nil
  | cons p kvs ih =>
   intro h2 c'
   rw[List.map_cons] at h2
   cases h2 with
   | cons r1 r2 =>
    have c1:=c' p List.mem_cons_self
    rw[Bool.and_eq_true] at c1
    obtain⟨a1,a2,a3,v,a4,a5⟩:=r1
    have e1:=zFN a2
    rw[e1] at a1 a2
    exact .cons ⟨a1,a2,zG.unren hρ c1.1 a3,v,zG.unren hρ c1.2 a4,a5⟩ (ih _ r2 (fun q hq=>c' q (List.mem_cons_of_mem _ hq)))
 | ftt kvs =>
  obtain⟨o,xs,h1,h2⟩:=h
  refine⟨o,xs,h1,?_⟩
  have c':∀ p∈kvs,(M.D.cl e.length p.1 && M.D.cl e.length p.2)=true:=List.all_eq_true.mp c
  clear h1
  revert h2 c'
  clear c
  induction kvs generalizing xs with
  | nil=>intro h2 c';cases h2;exact .nil
  | cons p kvs ih =>
   intro h2 c'
   rw[List.map_cons] at h2
   cases h2 with
   | cons r1 r2 =>
    have c1:=c' p List.mem_cons_self
    rw[Bool.and_eq_true] at c1
    obtain⟨a1,a2,a3,v,a4,a5⟩:=r1
    have e1:=zFN a2
    rw[e1] at a1 a2
    exact .cons ⟨a1,a2,zG.unren hρ c1.1 a3,v,zG.unren hρ c1.2 a4,a5⟩ (ih _ r2 (fun q hq=>c' q (List.mem_cons_of_mem _ hq)))
 | ins cc fs =>
  obtain⟨C,dx,gs,N,h1,h2,h3⟩:=h
  refine⟨C,dx,gs,N,h1,h2,by rw[<- h3.len];simp,h3.nd,h3.within,fun i f d q1 q2=>?_⟩
  obtain⟨v,k1,k2⟩:=h3.get i f (M.D.ren e d) q1 (by rw[List.getElem?_map,q2];rfl)
  refine⟨v,k1,zG.unren hρ ?_ k2⟩
  have:=List.all_eq_true.mp c (some d) (List.mem_of_getElem? q2)
  exact this
theorem zE.gc {S S' S1:M.S}{d:M.D}{Q:VK} (em:M.Emb S.length e S' S1) (cd:M.D.cl S'.length d=true) (rp:zR K Θ ρ S H) (h:zE K Θ (zG K) ρ H (.ok d S') Q):zE K Θ (zG K) ρ H (.ok (M.D.ren e d) S1) Q:=by
 intro ρ1 H1 v p1 l1 rp1 r1
 have hlt:∀ {i j:Nat},e[i]? = some j->j < ρ1.length:=fun {i j} q=>by
  have hi:i < S'.length:=by rw[<- em.len];exact (List.getElem?_eq_some_iff.mp q).1
  obtain⟨j',q1,q2,_⟩:=em.obj i S'[i] (by simp[hi])
  rw[q] at q1;cases q1
  rw[rp1.len];exact (List.getElem?_eq_some_iff.mp q2).1
 have hρ:∀ (i j:Nat) a,e[i]? = some j->ρ1[j]? = some a->(e.map fun j=>ρ1.getD j 0)[i]? = some a:=fun i j a q1 q2=>by
  rw[List.getElem?_map,q1,Option.map_some,List.getD_eq_getElem?_getD,q2];rfl
 refine h (e.map fun j=>ρ1.getD j 0) H1 v ?_ l1 ⟨by rw[List.length_map,em.len],?_,fun i o q=>?_⟩ (zG.unren hρ (by rw[em.len];exact cd) r1)
 ·refine List.prefix_iff_getElem?.mpr fun i hi=>?_
  have hi':i < S.length:=rp.len ▸ hi
  exact hρ i i _ (em.old i hi') (Z7 p1 (List.getElem?_eq_getElem hi))
 ·refine zGi fun i j x a b=>?_
  rw[List.getElem?_map] at a b
  cases ei:e[i]? with
  | none=>rw[ei] at a;cases a
  | some k =>
   cases ej:e[j]? with
   | none=>rw[ej] at b;cases b
   | some l =>
    rw[ei,Option.map_some,List.getD_eq_getElem?_getD,List.getElem?_eq_getElem (hlt ei)] at a
    rw[ej,Option.map_some,List.getD_eq_getElem?_getD,List.getElem?_eq_getElem (hlt ej)] at b
    have e1:ρ1[k]'(hlt ei)=x:=by simpa using a
    have e2:ρ1[l]'(hlt ej)=x:=by simpa using b
    have e3:=zFk rp1.nd (hlt ei) (hlt ej) (e1.trans e2.symm)
    subst e3
    exact QD em.nd ei ej
 ·obtain⟨j,q1,q2,q3⟩:=em.obj i o q
  obtain⟨a,q4,q5⟩:=rp1.obj j _ q2
  exact⟨a,hρ i j a q1 q4,ObR.unren hρ (by rw[em.len];exact q3) q5⟩
end
section
variable {K:PySem.W.Frag}{Θ:Tab}{ρ:List Addr}{H:Hp}
mutual
theorem zG.cl:∀ {d:M.D}{v:V},zG K ρ H d v->M.D.cl ρ.length d=true
 | .non,_,_=>rfl
 | .bl _,_,_=>rfl
 | .int _,_,_=>rfl
 | .str _,_,_=>rfl
 | .ty _,_,_=>rfl
 | .ref _,_,⟨a,_,h2⟩=>decide_eq_true (List.getElem?_eq_some_iff.mp h2).1
 | .tup _,_,⟨_,_,_,_,h⟩=>zJ.cl h
 | .ro _,_,⟨_,_,_,_,h⟩=>zJ.cl h
theorem zJ.cl:∀ {ds:List M.D}{xs:List V},zJ K ρ H ds xs->M.D.cl.all ρ.length ds=true
 | [],_,_=>rfl
 | d::ds,_,⟨_,_,_,h1,h2⟩=>by
  show (M.D.cl ρ.length d && M.D.cl.all ρ.length ds)=true
  rw[zG.cl h1,zJ.cl h2];rfl
end
theorem zR.cl {S:M.S} (rp:zR K Θ ρ S H):M.clS S.length S=true:=by
 refine List.all_eq_true.mpr fun o ho=>?_
 obtain⟨i,hi,rfl⟩:=List.mem_iff_getElem.mp ho
 obtain⟨a,h1,h2⟩:=rp.obj i S[i] (by simp[hi])
 rw[<- rp.len]
 revert h2
 cases S[i] with
 | lst ds=>exact fun ⟨xs,_,r⟩=>r.cl
 | dct kvs =>
  intro ⟨ks,_,r⟩
  refine List.all_eq_true.mpr fun p hp=>?_
  have:∀ {kvs:List (M.D×M.D)}{ks:List (Key×V)},Paired (fun (p:M.D×M.D) (q:Key×V)=>Zy p.1 q.1/\zG K ρ H p.2 q.2) kvs ks->p∈kvs->(M.D.cl ρ.length p.1 && M.D.cl ρ.length p.2)=true:=by
   intro kvs ks r hp
   induction r with
   | nil=>cases hp
   | cons r1 r2 ih =>
    rcases List.mem_cons.mp hp with rfl | hp
    ·rw[r1.2.cl,Bool.and_true]
     have hk:=r1.1
     revert hk
     cases p.1<;>first | exact fun _=>rfl | exact fun hk=>hk.elim
    ·exact ih hp
  exact this r hp
 | fdc kvs =>
  intro ⟨_,ks,_,r⟩
  refine List.all_eq_true.mpr fun p hp=>?_
  have:∀ {kvs:List (M.D×M.D)}{ks:List (Key×V)},Paired (fun (p:M.D×M.D) (q:Key×V)=>Zy p.1 q.1/\zG K ρ H p.2 q.2) kvs ks->p∈kvs->(M.D.cl ρ.length p.1 && M.D.cl ρ.length p.2)=true:=by
   intro kvs ks r hp
   induction r with
   | nil=>cases hp
   | cons r1 r2 ih =>
    rcases List.mem_cons.mp hp with rfl | hp
    ·rw[r1.2.cl,Bool.and_true]
     have hk:=r1.1
     revert hk
     cases p.1<;>first | exact fun _=>rfl | exact fun hk=>hk.elim
    ·exact ih hp
  exact this r hp
 | dtt kvs =>
  intro ⟨xs,_,r⟩
  refine List.all_eq_true.mpr fun p hp=>?_
  have:∀ {kvs:List (M.D×M.D)}{xs:List (M.D×Addr×Value)},Paired (TDr K ρ H) kvs xs->p∈kvs->(M.D.cl ρ.length p.1 && M.D.cl ρ.length p.2)=true:=by
   intro kvs xs r hp
   induction r with
   | nil=>cases hp
   | cons r1 r2 ih =>
    rcases List.mem_cons.mp hp with rfl | hp
    ·obtain⟨_,_,a3,v,a4,_⟩:=r1
     rw[a3.cl,a4.cl];rfl
    ·exact ih hp
  exact this r hp
 | ftt kvs =>
  intro ⟨o,xs,_,r⟩
  refine List.all_eq_true.mpr fun p hp=>?_
  have:∀ {kvs:List (M.D×M.D)}{xs:List (M.D×Addr×Value)},Paired (TDr K ρ H) kvs xs->p∈kvs->(M.D.cl ρ.length p.1 && M.D.cl ρ.length p.2)=true:=by
   intro kvs xs r hp
   induction r with
   | nil=>cases hp
   | cons r1 r2 ih =>
    rcases List.mem_cons.mp hp with rfl | hp
    ·obtain⟨_,_,a3,v,a4,_⟩:=r1
     rw[a3.cl,a4.cl];rfl
    ·exact ih hp
  exact this r hp
 | ins c fs =>
  intro ⟨C,dx,gs,N,_,_,r⟩
  refine List.all_eq_true.mpr fun od hod=>?_
  cases od with
  | none=>rfl
  | some d =>
   obtain⟨j,hj,ej⟩:=List.mem_iff_getElem.mp hod
   have hN:j < N.length:=r.len ▸ hj
   obtain⟨v,_,rv⟩:=r.get j N[j] d (by simp[hN]) (by rw[List.getElem?_eq_getElem hj,ej])
   exact rv.cl
end
section
variable {P:Program}{w:World}{K:PySem.W.Frag}{mg:Str->Option Value}{base:Heap}{Θ:Tab}
theorem zB1 {ρ:List Addr}{H:Hp}{ds:List M.D}{vs:List V} (r:zJ K ρ H ds vs) (N:List Str):z7 K ρ H (ds.map some++List.replicate (N.length - ds.length) none) (yY N vs):=by
 have hl:=r.length
 refine⟨by simp[yY,hl],fun i d q=>?_⟩
 unfold yY
 by_cases hi:i < ds.length
 ·rw[List.getElem?_append_left (by simpa using hi),List.getElem?_map] at q
  cases e:ds[i]? with
  | none=>rw[e] at q;cases q
  | some d' =>
   rw[e] at q
   cases q
   obtain⟨v,e1,rv⟩:=r.get e
   refine⟨v,?_,rv⟩
   rw[List.getElem?_append_left (by simp;omega),List.getElem?_map,e1];rfl
 ·rw[List.getElem?_append_right (by simp;omega),List.getElem?_replicate] at q
  split at q<;>cases q
theorem zLi {x qual:Str}{st:Stmt}{f:Addr}{fd:FuncData}{N ps:List Str}{k:Nat}{b:M.SM}{q:M.F} (F:Fun K x qual st f fd) (Sc:jb N ps (zQ st)) (rf:M.jh ps.length (M.fn N.length b) q)
  (hbody:∀ (cdv:Value) (A:Around) (outer:List Env) (s:Shared) (H:Hp) (E:XK),zy k (A.deeper (envOfC qual (zQ st) s.heap.objs.size f cdv)) ->
   MSs (QG CX0 P w K mg base N qual (zQ st) f cdv A outer s H E).nox Θ (jN st) b):jc P w K mg base CX0 (k+1) f fd ps (SpM K Θ ps.length q):=by
 refine F.ok (k:=k) Sc (fun vs H Q E h=>?_) (fun cdv A outer s H vs Q E hr h=>?_)
 ·obtain⟨ρ,ds,S,hl,r,_⟩:=h
  rw[<- r.length,hl]
 ·obtain⟨ρ,ds,S,hl,r,rp,h⟩:=h
  refine⟨_,hbody cdv A outer s H E hr,ρ,_,S,zB1 r N,rp,?_⟩
  rcases rf ds S hl rp.cl (rp.len ▸ r.cl) with e | ⟨d,S',S1,em,e1,e2,emb,cd⟩
  ·rw[e] at h;exact h.elim
  ·rw[e1] at h
   have h2:=zE.gc emb cd rp h
   have e3:(b (ds.map some++List.replicate (N.length - ds.length) none) S).out=.ok (M.D.ren em d) S1:=e2
   show zr K Θ ρ H (b (ds.map some++List.replicate (N.length - ds.length) none) S) _
   revert e3
   cases b (ds.map some++List.replicate (N.length - ds.length) none) S with
   | rt a s=>intro e3;cases e3;exact h2
   | nx a s =>
    intro e3
    have e4:M.R.ok M.D.non s=.ok (M.D.ren em d) S1:=e3
    injection e4 with e5 e6
    subst e6
    rw[<- e5] at h2
    exact fun ρ1 H1 σ1 p1 l1 rp1 _=>h2 ρ1 H1 .non p1 l1 rp1 rfl
   | bk a s=>intro e3;cases e3
   | ct a s=>intro e3;cases e3
   | exc e a s=>intro e3;cases e3
   | no=>intro e3;cases e3
theorem yW {x qual:Str}{st:Stmt}{f:Addr}{fd:FuncData}{N ps:List Str}{k:Nat}{b:M.SM}{q:M.F} (F:Fun K x qual st f fd) (Sc:jb N ps (zQ st)) (rf:M.jh ps.length (M.fn N.length b) q)
  (hbody:∀ (cdv:Value) (A:Around) (outer:List Env) (s:Shared) (H:Hp) (E:XK),zy k (A.deeper (envOfC qual (zQ st) s.heap.objs.size f cdv)) ->
   WSs (QG CX0 P w K mg base N qual (zQ st) f cdv A outer s H E).nox Θ (jN st) b):jc P w K mg base CX0 (k+1) f fd ps (SpM K Θ ps.length q):=by with_unfolding_all exact zLi (x:=x) (qual:=qual) (st:=st) (f:=f) (fd:=fd) (N:=N) (ps:=ps) (k:=k) (b:=b) (q:=q) F Sc rf hbody
end
end L2
namespace L2
open PySem PySem.Spec PyProof.Rows
section
variable {K:PySem.W.Frag}{Θ:Tab}
theorem zGD:Ad2 K Θ M.zE8 zJF:=by
 intro ρ H S x y X Y Q rp rx ry h
 cases x with
 | int i =>
  cases y with
  | int j=>cases rx;cases ry;exact zE.here (b:=V.int (i - j)) h rp rfl
  | _=>exact h.elim
 | _=>exact h.elim
theorem zDW {i:Int} (h:M.qg i=true):-(2 ^ 64) < i/\i < 2 ^ 64:=by
 have h':i.natAbs < 18446744073709551616:=of_decide_eq_true h
 exact⟨by omega,by omega⟩
theorem qM:Ad2 K Θ M.j7 zJx:=by
 intro ρ H S x y X Y Q rp rx ry h
 cases x with
 | int i =>
  cases y with
  | int j =>
   cases rx;cases ry
   have h':zE K Θ (zG K) ρ H (if 0 < j/\j.natAbs < 1073741824 then M.R.ok (M.D.int (i / j)) S else .no) Q:=h
   by_cases hc:0 < j/\j.natAbs < 1073741824
   ·rw[if_pos hc] at h';exact⟨⟨hc.1,by omega⟩,zE.here (b:=V.int (i / j)) h' rp rfl⟩
   ·rw[if_neg hc] at h';exact h'.elim
  | _=>exact h.elim
 | _=>exact h.elim
theorem je:Ad2 K Θ M.jK zJf:=by
 intro ρ H S x y X Y Q rp rx ry h
 cases x with
 | int i =>
  cases y with
  | int j =>
   cases rx;cases ry
   have h':zE K Θ (zG K) ρ H (if 0 < j then M.R.ok (M.D.int (i % j)) S else .no) Q:=h
   by_cases hc:0 < j
   ·rw[if_pos hc] at h';exact⟨hc,zE.here (b:=V.int (i % j)) h' rp rfl⟩
   ·rw[if_neg hc] at h';exact h'.elim
  | _=>exact h.elim
 | _=>exact h.elim
theorem yg {ρ:List Addr}{S:M.S}{H:Hp} (rp:zR K Θ ρ S H) {i:Nat}{a:Addr} (ha:ρ[i]? = some a) {xs:List M.D} (q:S[i]? = some (.lst xs)):∃ zs,H a=some (.lst zs)/\zJ K ρ H xs zs:=by
 obtain⟨b,e1,zs,e2,r⟩:=rp.obj i _ q
 rw[ha] at e1;cases e1
 exact⟨zs,e2,r⟩
theorem qd:Ad2 K Θ M.qE (fun x y H Q=>zGR x y H Q\/zEx K x y H Q):=by
 intro ρ H S x y X Y Q rp rx ry h
 cases x with
 | int i =>
  cases y with
  | int j=>cases rx;cases ry;exact .inl (zE.here (b:=V.int (i+j)) h rp rfl)
  | _=>exact h.elim
 | str a =>
  cases y with
  | str b =>
   obtain⟨rfl,oka⟩:=rx
   obtain⟨rfl,okb⟩:=ry
   have h':zE K Θ (zG K) ρ H (if a.length+b.length <= M.SZ then M.R.ok (M.D.str (a++b)) S else .no) Q:=h
   by_cases hc:a.length+b.length <= M.SZ
   ·rw[if_pos hc] at h'
    refine .inl ⟨by rw[jo,jo,<- yq];exact hc,?_⟩
    rw[zI4]
    exact zE.here (b:=V.str (ofT (a++b))) h' rp ⟨rfl,zBb oka okb⟩
   ·rw[if_neg hc] at h';exact h'.elim
  | _=>exact h.elim
 | tup a =>
  cases y with
  | tup b =>
   obtain⟨l,xs,rfl,hq,r⟩:=rx
   obtain⟨l',ys,rfl,hq',r'⟩:=ry
   have h':zE K Θ (zG K) ρ H (if a≠[]/\a.length+b.length <= M.SZ then M.R.ok (M.D.tup (a++b)) S else .no) Q:=h
   by_cases hc:a≠[]/\a.length+b.length <= M.SZ
   ·rw[if_pos hc] at h'
    refine .inr ⟨l,l',xs,ys,rfl,rfl,hq,hq',fun z=>hc.1 ?_,by rw[<- r.length,<- r'.length,<- yq];exact hc.2,fun hy=>?_,fun hy p hp=>?_⟩
    ·subst z
     have:=r.length
     exact List.length_eq_zero_iff.mp this
    ·subst hy
     have hb:b=[]:=List.length_eq_zero_iff.mp r'.length
     subst hb
     rw[List.append_nil] at h'
     exact zE.here h' rp ⟨l,xs,rfl,hq,r⟩
    ·exact h' ρ _ _ (List.prefix_refl _) (Le.new hp _) (rp.aside hp _) ⟨p,_,rfl,SqT.of z5,(r.app r').mono (List.prefix_refl _) (Le.new hp _)⟩
   ·rw[if_neg hc] at h';exact h'.elim
  | _=>exact h.elim
 | ref i =>
  cases y with
  | ref j =>
   obtain⟨a,rfl,ea⟩:=rx
   obtain⟨b,rfl,eb⟩:=ry
   have h':zE K Θ (zG K) ρ H (match S[i]?,S[j]? with
    | some (.lst xs),some (.lst ys)=>if xs.length+ys.length <= M.SZ then M.alloc (.lst (xs++ys)) S else .no
    | _,_=>.no) Q:=h
   split at h'
   ·rename_i xs ys q1 q2
    obtain⟨zs,e1,r1⟩:=yg rp ea q1
    obtain⟨ws,e2,r2⟩:=yg rp eb q2
    by_cases hc:xs.length+ys.length <= M.SZ
    ·rw[if_pos hc] at h'
     exact .inl ⟨zs,ws,e1,e2,by rw[<- r1.length,<- r2.length,<- yq];exact hc,fun p hp=>h'.alloc rp (r1.app r2) hp⟩
    ·rw[if_neg hc] at h';exact h'.elim
   ·exact h'.elim
  | _=>exact h.elim
 | _=>exact h.elim
theorem zKI:Ad1 K Θ M.zCQ (rU fun i=>.int (-i)):=by
 intro ρ H S x X Q rp rx h
 cases x with
 | int i=>cases rx;exact⟨i,rfl,zE.here (b:=V.int (-i)) h rp rfl⟩
 | _=>exact h.elim
theorem zE0:AdC K Θ M.cLt uLt:=by
 intro ρ H S x y X Y Q rp rx ry h
 cases x with
 | int i =>
  cases y with
  | int j=>cases rx;cases ry;exact zE.here (b:=decide (i < j)) h rp rfl
  | _=>exact h.elim
 | str a =>
  cases y with
  | str b =>
   obtain⟨rfl,_⟩:=rx
   obtain⟨rfl,_⟩:=ry
   show Q (.bl (decide ((ofT a).cps.toList < (ofT b).cps.toList))) H
   rw[ZM,ZM]
   exact zE.here (b:=decide (a < b)) h rp rfl
  | _=>exact h.elim
 | _=>exact h.elim
theorem zHc:AdC K Θ M.cLe uLe:=by
 intro ρ H S x y X Y Q rp rx ry h
 cases x with
 | int i =>
  cases y with
  | int j=>cases rx;cases ry;exact zE.here (b:=decide (i <= j)) h rp rfl
  | _=>exact h.elim
 | str a =>
  cases y with
  | str b =>
   obtain⟨rfl,_⟩:=rx
   obtain⟨rfl,_⟩:=ry
   show Q (.bl (!decide ((ofT b).cps.toList < (ofT a).cps.toList))) H
   rw[ZM,ZM]
   exact zE.here (b:=!decide (b < a)) h rp rfl
  | _=>exact h.elim
 | _=>exact h.elim
theorem zK9:AdC K Θ M.cGt uGt:=by
 intro ρ H S x y X Y Q rp rx ry h
 cases x with
 | int i =>
  cases y with
  | int j=>cases rx;cases ry;exact zE.here (b:=decide (j < i)) h rp rfl
  | _=>exact h.elim
 | _=>exact h.elim
theorem zBC {ρ:List Addr}{H:Hp}{ds:List M.D}{xs:List V}{i:Int}{d:M.D} (r:zJ K ρ H ds xs) (e:M.atI ds i=some d):∃ v,atI xs i=some v/\zG K ρ H d v:=by
 unfold M.atI at e
 cases q:M.ixN ds.length i with
 | none=>rw[q] at e;cases e
 | some j =>
  rw[q] at e
  obtain⟨v,e1,rv⟩:=r.get (i:=j) e
  have q':ixN xs.length i=some j:=by rw[<- r.length];exact q
  exact⟨v,by unfold atI;rw[q'];exact e1,rv⟩
end
end L2
namespace L2
open PySem PySem.Spec PyProof.Rows
section
variable {K:PySem.W.Frag}{Θ:Tab}
theorem zJp {X:Cx}{a:Expr}{ma:M.EM} (ha:ME X Θ a ma) (he:∀ whole,isTrue a X.env whole=(do let v <- whole;standAt a.pos;holding [v] (truthy v)):=by intro _;rfl):MT X Θ a (M.ZZ ma) :=
 (zGT ha he).imp fun σ H Q ⟨ρ,σ',S,st,rp,h⟩=>⟨ρ,σ',S,st,rp,zE.bind h fun ρ1 H1 x X1 S1 p1 l1 rp1 rx h1=>by
  cases x with
  | non=>cases rx;exact⟨false,rfl,zE.here (b:=false) h1 rp1 rfl⟩
  | bl b=>cases rx;exact⟨b,rfl,zE.here (b:=b) h1 rp1 rfl⟩
  | int i=>cases rx;exact⟨_,rfl,zE.here (b:=(i != 0)) h1 rp1 (by show decide (i≠0)=(i != 0);by_cases hi:i=0<;>simp[hi])⟩
  | str z =>
   obtain⟨rfl,_⟩:=rx
   by_cases hz:z.length <= M.SZ
   ·simp only[M.Zr,if_pos hz] at h1
    refine⟨_,⟨by rw[jo,<- yq];exact hz,rfl⟩,zE.here (b:=(((ofT z).length:Int) != 0)) h1 rp1 ?_⟩
    show (!z.isEmpty)=_
    rw[jo]
    cases z<;>simp<;>omega
   ·simp only[M.Zr,if_neg hz] at h1;exact h1.elim
  | tup ds =>
   obtain⟨l,xs,rfl,hq,r⟩:=rx
   refine⟨_,.inr (.inl ⟨xs,hq,rfl⟩),zE.here (b:=!xs.isEmpty) h1 rp1 ?_⟩
   show (!ds.isEmpty)=_
   have:=r.length
   cases ds<;>cases xs<;>first | rfl | cases this
  | ro ds =>
   obtain⟨l,xs,rfl,hq,r⟩:=rx
   refine⟨_,.inl ⟨xs,hq.sq,rfl⟩,zE.here (b:=!xs.isEmpty) h1 rp1 ?_⟩
   show (!ds.isEmpty)=_
   have:=r.length
   cases ds<;>cases xs<;>first | rfl | cases this
  | ref p =>
   obtain⟨a,rfl,ea⟩:=rx
   cases q:S1[p]? with
   | none=>simp[M.Zr,q] at h1;exact h1.elim
   | some o =>
    cases o with
    | lst xs =>
     simp only[M.Zr,q] at h1
     obtain⟨zs,e1,r⟩:=yg rp1 ea q
     refine⟨_,.inl ⟨zs,SqL.of e1,rfl⟩,zE.here (b:=!zs.isEmpty) h1 rp1 ?_⟩
     show (!xs.isEmpty)=_
     have:=r.length
     cases xs<;>cases zs<;>first | rfl | cases this
    | dct kvs =>
     simp only[M.Zr,q] at h1
     obtain⟨b,e1,zs,e2,r⟩:=rp1.obj _ _ q
     rw[ea] at e1;cases e1
     refine⟨_,.inr (.inr ⟨zs,e2,rfl⟩),zE.here (b:=!zs.isEmpty) h1 rp1 ?_⟩
     cases r<;>rfl
    | fdc _=>simp[M.Zr,q] at h1;exact h1.elim
    | dtt _=>simp[M.Zr,q] at h1;exact h1.elim
    | ftt _=>simp[M.Zr,q] at h1;exact h1.elim
    | ins c fs=>simp[M.Zr,q] at h1;exact h1.elim
  | ty n=>exact h1.elim⟩
theorem ZG {X:Cx}{a:Expr}{ma:M.EM} (ha:WE X Θ a ma) (he:∀ whole,isTrue a X.env whole=(do let v <- whole;standAt a.pos;holding [v] (truthy v)):=by intro _;rfl):WT X Θ a (M.ZZ ma):=by with_unfolding_all exact zJp (X:=X) (a:=a) (ma:=ma) ha he
inductive TyM (K:PySem.W.Frag) (H:Hp):V->String->Prop where
 | of {x:V}{A:String} (h:Zh K H x (.type A)):TyM K H x A
 | sqT {a:Addr}{xs:List V} (h:SqT K H a xs):TyM K H (.ref a) "tuple"
 | sqL {a:Addr}{xs:List V} (h:SqL K H a xs):TyM K H (.ref a) "list"
noncomputable def zGv (K:PySem.W.Frag):List V->Hp->VK->Prop:=fun xs H Q=>∃ x n A b,xs=[x,.ty n]/\TyM K H x A/\PySem.W.kitOne K (.type A) (.type n)=some b/\Q (.bl b) H
theorem JF {X:Cx}:jU X (.builtin "isinstance") (zGv X.K):=by
 intro pins s σ H xs us Q I r h
 obtain⟨x,n,A,b,rfl,ty,e,q⟩:=h
 obtain⟨u,w',rfl,ru,rc⟩:=zHj r
 cases rc
 cases ty with
 | of h=>exact wpAny_with_toks (n:=1) I.tk (zFm I ru h e fun tk hk=>⟨.bl b,H,I.tok tk hk,rfl,q⟩)
 | sqT h =>
  cases ru
  obtain⟨its,_,⟨o,h1,h2,_⟩,_⟩:=I.tuple h
  exact wpAny_with_toks (n:=1) I.tk (PySem.W.kia_one PySem.W.kitx_tuple I.kIn ⟨o,h1,h2⟩ e (fun z=>nomatch z) fun tk hk=>⟨.bl b,H,I.tok tk hk,rfl,q⟩)
 | sqL h =>
  cases ru
  obtain⟨its,_,⟨o,n,h1,h2,_⟩,_⟩:=I.list h
  exact wpAny_with_toks (n:=1) I.tk (PySem.W.kia_one PySem.W.kitx_list I.kIn ⟨o,h1,h2⟩ e (fun z=>nomatch z) fun tk hk=>⟨.bl b,H,I.tok tk hk,rfl,q⟩)
theorem zH7 (n:M.Kd):PySem.W.kitOne K (.type "NoneType") (.type (qF n))=some false/\PySem.W.kitOne K (.type "bool") (.type (qF n))=some (match n with | .bool=>true | .int=>true | _=>false) /\
  PySem.W.kitOne K (.type "int") (.type (qF n))=some (match n with | .int=>true | _=>false)/\PySem.W.kitOne K (.type "str") (.type (qF n))=some (match n with | .str=>true | _=>false) /\
  PySem.W.kitOne K (.type "tuple") (.type (qF n))=some (match n with | .tuple=>true | _=>false)/\PySem.W.kitOne K (.type "list") (.type (qF n))=some (match n with | .list=>true | _=>false) /\
  PySem.W.kitOne K (.type "dict") (.type (qF n))=some (match n with | .dict=>true | _=>false):=by
 cases n<;>exact⟨QB (by decide +kernel),QB (by decide +kernel),QB (by decide +kernel),QB (by decide +kernel),QB (by decide +kernel),QB (by decide +kernel),QB (by decide +kernel)⟩
theorem zAq:AdN K Θ M.Zx (zGv K):=by
 intro ρ H S xs Xs Q rp rx h
 match xs,rx,h with
 | [x,.ty n],rx,h =>
  obtain⟨v,_,rfl,rv,_,_,rfl,rfl,rfl⟩:=rx
  obtain⟨k1,k2,k3,k4,k5,k6,k7⟩:=zH7 (K:=K) n
  have fin:∀ {A:String}{b:Bool},M.qe n x S=.ok b S->TyM K H v A->PySem.W.kitOne K (.type A) (.type (qF n))=some b->zGv K [v,.ty (qF n)] H Q:=fun {A b} e ty k=>by
   have h':zE K Θ (zG K) ρ H ((M.qe n x S).bind fun b s=>.ok (.bl b) s) Q:=h
   rw[e] at h'
   exact⟨v,qF n,A,b,rfl,ty,k,zE.here (b:=V.bl b) h' rp rfl⟩
  cases x with
  | non=>cases rv;exact fin rfl (.of .non) k1
  | bl b=>cases rv;exact fin rfl (.of (.bl b)) k2
  | int i=>cases rv;exact fin rfl (.of (.int i)) k3
  | str z=>obtain⟨rfl,_⟩:=rv;exact fin rfl (.of (.str _)) k4
  | tup ds=>obtain⟨l,ys,rfl,hq,r⟩:=rv;exact fin rfl (.sqT hq) k5
  | ro ds=>obtain⟨l,ys,rfl,hq,r⟩:=rv;exact fin rfl (.sqL hq.sq) k6
  | ty m=>exact h.elim
  | ref p =>
   obtain⟨a,rfl,ea⟩:=rv
   cases q:S[p]? with
   | none=>simp[M.Zx,M.qe,q] at h;exact h.elim
   | some o =>
    cases o with
    | lst xs =>
     obtain⟨zs,e1,r⟩:=yg rp ea q
     refine fin ?_ (.sqL (SqL.of e1)) k6
     simp only[M.qe,q]<;>(cases n<;>rfl)
    | dct kvs =>
     obtain⟨b,e1,zs,e2,r⟩:=rp.obj _ _ q
     rw[ea] at e1;cases e1
     refine fin ?_ (.of (.dK e2)) k7
     simp only[M.qe,q]<;>(cases n<;>rfl)
    | fdc _=>simp[M.Zx,M.qe,q] at h;exact h.elim
    | dtt _=>simp[M.Zx,M.qe,q] at h;exact h.elim
    | ftt _=>simp[M.Zx,M.qe,q] at h;exact h.elim
    | ins c fs=>simp[M.Zx,M.qe,q] at h;exact h.elim
 | [_,.non],_,h=>exact h.elim
 | [_,.bl _],_,h=>exact h.elim
 | [_,.int _],_,h=>exact h.elim
 | [_,.str _],_,h=>exact h.elim
 | [_,.tup _],_,h=>exact h.elim
 | [_,.ro _],_,h=>exact h.elim
 | [_,.ref _],_,h=>exact h.elim
 | [],_,h=>exact h.elim
 | [_],_,h=>exact h.elim
 | _::b::_::_,_,h=>cases b<;>exact h.elim
noncomputable def ofP:M.P->PyData
 | .non=>.none
 | .bl b=>.bool b
 | .int i=>.int i
 | .str x=>.str (ofT x)
 | .tup ps=>.tuple (all ps)
 | .lst ps=>.list (all ps)
where all:List M.P->List PyData
 | []=>[]
 | p::ps=>ofP p::all ps
theorem zD5 (x y:M.T):(ofT x == ofT y)=(x == y):=by
 by_cases h:x=y
 ·subst h;simp
 ·rw[beq_eq_false_iff_ne.mpr h,beq_eq_false_iff_ne.mpr fun e=>h (Qw e)]
mutual
theorem zBV:∀ p q:M.P,PyData.eqv (ofP p) (ofP q)=M.P.eqv p q
 | .non,.non=>rfl
 | .non,.bl _=>rfl
 | .non,.int _=>rfl
 | .non,.str _=>rfl
 | .non,.tup _=>rfl
 | .non,.lst _=>rfl
 | .bl _,.non=>rfl
 | .bl _,.bl _=>rfl
 | .bl _,.int _=>rfl
 | .bl _,.str _=>rfl
 | .bl _,.tup _=>rfl
 | .bl _,.lst _=>rfl
 | .int _,.non=>rfl
 | .int _,.bl _=>rfl
 | .int _,.int _=>rfl
 | .int _,.str _=>rfl
 | .int _,.tup _=>rfl
 | .int _,.lst _=>rfl
 | .str _,.non=>rfl
 | .str _,.bl _=>rfl
 | .str _,.int _=>rfl
 | .str x,.str y=>zD5 x y
 | .str _,.tup _=>rfl
 | .str _,.lst _=>rfl
 | .tup _,.non=>rfl
 | .tup _,.bl _=>rfl
 | .tup _,.int _=>rfl
 | .tup _,.str _=>rfl
 | .tup ps,.tup qs=>zAI ps qs
 | .tup _,.lst _=>rfl
 | .lst _,.non=>rfl
 | .lst _,.bl _=>rfl
 | .lst _,.int _=>rfl
 | .lst _,.str _=>rfl
 | .lst _,.tup _=>rfl
 | .lst ps,.lst qs=>zAI ps qs
theorem zAI:∀ ps qs:List M.P,PyData.eqvAll (ofP.all ps) (ofP.all qs)=M.P.eqvs ps qs
 | [],[]=>rfl
 | [],_::_=>rfl
 | _::_,[]=>rfl
 | p::ps,q::qs=>by
  show (PyData.eqv (ofP p) (ofP q) && PyData.eqvAll (ofP.all ps) (ofP.all qs))=(M.P.eqv p q && M.P.eqvs ps qs)
  rw[zBV p q,zAI ps qs]
end
mutual
theorem Qy:∀ p:M.P,PyData.depth (ofP p)=M.P.dep p
 | .non=>rfl
 | .bl _=>rfl
 | .int _=>rfl
 | .str _=>rfl
 | .tup ps=>by show PyData.depthAll (ofP.all ps)+1=M.P.deps ps+1;rw[zAB ps]
 | .lst ps=>by show PyData.depthAll (ofP.all ps)+1=M.P.deps ps+1;rw[zAB ps]
theorem zAB:∀ ps:List M.P,PyData.depthAll (ofP.all ps)=M.P.deps ps
 | []=>rfl
 | p::ps=>by show max (PyData.depth (ofP p)) (PyData.depthAll (ofP.all ps))=max (M.P.dep p) (M.P.deps ps);rw[Qy p,zAB ps]
end
section
variable {ρ:List Addr}{H:Hp}
mutual
theorem zE2 {g:Nat->Option M.P} (hg:∀ i p v,g i=some p->zG K ρ H (.ref i) v->ju K H v (ofP p)/\(ofP p).canLay0=true):∀ {d:M.D}{p:M.P}{v:V},M.qj g d=some p->zG K ρ H d v->ju K H v (ofP p)/\(ofP p).canLay0=true
 | .non,_,_,e,r=>by cases e;cases r;exact⟨.non,rfl⟩
 | .bl _,_,_,e,r=>by cases e;cases r;exact⟨.bl _,rfl⟩
 | .int _,_,_,e,r=>by cases e;cases r;exact⟨.int _,rfl⟩
 | .str x,_,_,e,r=>by
  cases e
  obtain⟨rfl,ok⟩:=r
  refine⟨.str _,?_⟩
  show PyData.strOk (ofT x)=true
  unfold PyData.strOk ofT
  have ok':x.all (fun c=>decide (c < 1114112))=true:=ok
  simpa using ok'
 | .tup ds,_,_,e,r=>by
  obtain⟨l,xs,rfl,hq,rr⟩:=r
  have e':(M.qj.all g ds).map M.P.tup=some _:=e
  cases q:M.qj.all g ds with
  | none=>rw[q] at e';cases e'
  | some ps =>
   rw[q] at e'
   cases e'
   obtain⟨h1,h2⟩:=zAe hg q rr
   exact⟨.tup hq h1,h2⟩
 | .ro ds,_,_,e,r=>by
  obtain⟨l,xs,rfl,hq,rr⟩:=r
  have e':(M.qj.all g ds).map M.P.lst=some _:=e
  cases q:M.qj.all g ds with
  | none=>rw[q] at e';cases e'
  | some ps =>
   rw[q] at e'
   cases e'
   obtain⟨h1,h2⟩:=zAe hg q rr
   exact⟨.lst hq.sq h1,h2⟩
 | .ref i,_,_,e,r=>hg i _ _ e r
 | .ty _,_,_,e,_=>by cases e
theorem zAe {g:Nat->Option M.P} (hg:∀ i p v,g i=some p->zG K ρ H (.ref i) v->ju K H v (ofP p)/\(ofP p).canLay0=true):∀ {ds:List M.D}{ps:List M.P}{xs:List V},M.qj.all g ds=some ps->zJ K ρ H ds xs->yh K H xs (ofP.all ps)/\PyData.canLayAll0 (ofP.all ps)=true
 | [],_,_,e,r=>by cases e;cases r;exact⟨.nil,rfl⟩
 | d::ds,_,_,e,r=>by
  obtain⟨y,ys,rfl,r1,r2⟩:=r
  have e':(match M.qj g d,M.qj.all g ds with | some p,some ps=>some (p::ps) | _,_=>none)=some _:=e
  cases q1:M.qj g d with
  | none=>rw[q1] at e';cases e'
  | some p =>
   cases q2:M.qj.all g ds with
   | none=>rw[q1,q2] at e';cases e'
   | some ps =>
    rw[q1,q2] at e'
    cases e'
    obtain⟨h1,h2⟩:=zE2 hg q1 r1
    obtain⟨h3,h4⟩:=zAe hg q2 r2
    refine⟨.cons h1 h3,?_⟩
    show (PyData.canLay0 (ofP p) && PyData.canLayAll0 (ofP.all ps))=true
    rw[h2,h4];rfl
end
theorem JU {S:M.S} (rp:zR K Θ ρ S H):∀ (n:Nat) {d:M.D}{p:M.P}{v:V},M.toP n S d=some p->zG K ρ H d v->ju K H v (ofP p)/\(ofP p).canLay0=true
 | 0,_,_,_,e,r=>zE2 (fun i p v e _=>by cases e) e r
 | n+1,_,_,_,e,r=>zE2 (fun i p v e r=>by
   obtain⟨a,rfl,ea⟩:=r
   have e':(match M.jO S i with | some xs=>(M.qj.all (fun j=>M.toP n S (.ref j)) xs).map M.P.lst | none=>none)=some p:=e
   cases q:S[i]? with
   | none=>simp[M.jO,q] at e'
   | some o =>
    cases o with
    | lst xs =>
     simp only[M.jO,q] at e'
     obtain⟨zs,e1,rr⟩:=yg rp ea q
     cases q2:M.qj.all (fun j=>M.toP n S (.ref j)) xs with
     | none=>rw[q2] at e';cases e'
     | some ps =>
      rw[q2] at e'
      cases e'
      obtain⟨h1,h2⟩:=zAe (fun j p v e r=>JU rp n e r) q2 rr
      exact⟨.lst (SqL.of e1) h1,h2⟩
    | dct kvs=>simp[M.jO,q] at e'
    | fdc _=>simp[M.jO,q] at e'
    | dtt _=>simp[M.jO,q] at e'
    | ftt _=>simp[M.jO,q] at e'
    | ins c fs=>simp[M.jO,q] at e') e r
end
noncomputable abbrev DR (K:PySem.W.Frag) (ρ:List Addr) (H:Hp):List (M.D×M.D)->List (Key×V)->Prop:=Paired fun p q=>Zy p.1 q.1/\zG K ρ H p.2 q.2
theorem zAE {d e:M.D}{a b:Key} (ha:Zy d a) (hb:Zy e b):(a=b)=(d=e):=by
 cases d with
 | int i =>
  cases ha
  cases e with
  | int j=>cases hb;exact propext ⟨fun z=>by cases z;rfl,fun z=>by cases z;rfl⟩
  | str y=>obtain⟨rfl,_⟩:=hb;exact propext ⟨fun z=>(nomatch z),fun z=>(nomatch z)⟩
  | _=>exact hb.elim
 | str x =>
  obtain⟨rfl,_⟩:=ha
  cases e with
  | int j=>cases hb;exact propext ⟨fun z=>(nomatch z),fun z=>(nomatch z)⟩
  | str y=>obtain⟨rfl,_⟩:=hb;exact propext ⟨fun z=>by rw[Qw (Sum.inr.inj z)],fun z=>by cases z;rfl⟩
  | _=>exact hb.elim
 | _=>exact ha.elim
theorem Qn {ρ:List Addr}{H:Hp}{d:M.D}{v:V} (h:M.ZC d=true) (r:zG K ρ H d v):∃ k,Zy d k/\v=kV k:=by
 cases d with
 | int i=>cases r;exact⟨.inl i,rfl,rfl⟩
 | str x=>obtain⟨rfl,ok⟩:=r;exact⟨.inr (ofT x),⟨rfl,ok⟩,rfl⟩
 | _=>cases h
section
variable {ρ:List Addr}{H:Hp}{kvs:List (M.D×M.D)}{ks:List (Key×V)}{d:M.D}{k:Key}
theorem DR.val (r:DR K ρ H kvs ks) (hk:Zy d k):match M.zo d kvs with | some e=>∃ v,yC ks k=some v/\zG K ρ H e v | none=>yC ks k=none:=by
 induction r with
 | nil=>exact rfl
 | @cons p q ps qs h t ih =>
  have e:=zAE h.1 hk
  by_cases hd:p.1=d
  ·have hq:q.1=k:=e.mpr hd
   rw[Q3 hq,M.zo,List.lookup_cons,beq_iff_eq.mpr hd.symm]
   exact⟨_,rfl,h.2⟩
  ·have hq:¬ q.1=k:=fun z=>hd (e.mp z)
   rw[Q7 hq,M.zo,List.lookup_cons,beq_eq_false_iff_ne.mpr (Ne.symm hd)]
   exact ih
theorem DR.any (r:DR K ρ H kvs ks) (hk:Zy d k):(ks.any fun kv=>decide (kv.1=k))=kvs.any fun kv=>decide (kv.1=d):=by
 induction r with
 | nil=>rfl
 | @cons p q ps qs h t ih =>
  rw[List.any_cons,List.any_cons,ih]
  congr 1
  exact decide_eq_decide.mpr (zAE h.1 hk ▸ Iff.rfl)
theorem DR.put (r:DR K ρ H kvs ks) (hk:Zy d k) {e:M.D}{v:V} (rv:zG K ρ H e v):DR K ρ H (M.qz d e kvs) (ZK ks k v):=by
 unfold M.qz ZK
 rw[r.any hk]
 by_cases ha:(kvs.any fun kv=>decide (kv.1=d))=true
 ·rw[if_pos ha,if_pos ha]
  clear ha
  induction r with
  | nil=>exact .nil
  | @cons p q ps qs h t ih =>
   rw[List.map_cons,List.map_cons]
   refine .cons ?_ ih
   have eq:=zAE h.1 hk
   by_cases hd:p.1=d
   ·rw[if_pos hd,if_pos (eq.mpr hd)];exact⟨h.1,rv⟩
   ·rw[if_neg hd,if_neg fun z=>hd (eq.mp z)];exact h
 ·rw[if_neg ha,if_neg ha]
  exact Paired.snoc r ⟨hk,rv⟩
end
theorem Qv {ρ:List Addr}{S:M.S}{H:Hp} (rp:zR K Θ ρ S H) {i:Nat}{a:Addr} (ha:ρ[i]? = some a) {kvs:List (M.D×M.D)} (q:S[i]? = some (.dct kvs)):∃ ks,H a=some (.dK ks)/\DR K ρ H kvs ks:=by
 obtain⟨b,e1,zs,e2,r⟩:=rp.obj i _ q
 rw[ha] at e1;cases e1
 exact⟨zs,e2,r⟩
theorem zFX {ρ:List Addr}{S:M.S}{H:Hp} (rp:zR K Θ ρ S H) {i:Nat}{a:Addr} (ha:ρ[i]? = some a) {kvs:List (M.D×M.D)} (q:S[i]? = some (.fdc kvs)):∃ o ks,H a=some (.frz o (.dK ks))/\DR K ρ H kvs ks:=by
 obtain⟨b,e1,o,zs,e2,r⟩:=rp.obj i _ q
 rw[ha] at e1;cases e1
 exact⟨o,zs,e2,r⟩
inductive Zk (K:PySem.W.Frag) (H:Hp) (kb:List (Key×V)):List (Key×V)->Bool->Prop where
 | nil:Zk K H kb [] true
 | miss {k:Key}{v:V}{r:List (Key×V)} (h:yC kb k=none):Zk K H kb ((k,v)::r) false
 | hit {k:Key}{v y:V}{r:List (Key×V)}{d e:PyData}{b:Bool} (h:yC kb k=some y) (hd:ju K H v d) (he:ju K H y e) (sd:SeqAt.shaped d=true) (se:SeqAt.shaped e=true) (t:Zk K H kb r b):Zk K H kb ((k,v)::r) (PyData.eqv d e && b)
noncomputable def zGt (neg:Bool) (K:PySem.W.Frag):R2:=fun x y H Q=>∃ a b ka kb r,x=.ref a/\y=.ref b/\H a=some (.dK ka)/\H b=some (.dK kb)/\(ka.length=kb.length->Zk K H kb ka r)/\Q (.bl (if neg then !(ka.length == kb.length && r) else (ka.length == kb.length && r))) H
theorem zBW {X:Cx}{pins:List (Addr×Obj)}{σ:St}{H:Hp}{s:Shared}{A:Around} (I:Inv X pins σ H s) (hu:A.units+64 < cLine) {kb:List (Key×V)}{vb:List (Key×Value)} (rb:KV kb vb):∀ {ka:List (Key×V)}{va:List (Key×Value)}{r:Bool},KV ka va->Zk X.K H kb ka r->PySem.W.KeqHits A s vb va r
 | _,_,_,ra,.nil=>by cases ra;exact .nil
 | _,_,_,ra,.miss h=>by
  cases ra with
  | @cons p q ps qs h1 t =>
   obtain⟨k,v⟩:=q
   have hk:_=k:=h1.1
   have hv:=rb.val k
   rw[<- hk,h] at hv
   refine .miss ?_
   rw[<- hk]
   cases q2:valueAt vb _ with
   | none=>rfl
   | some w=>rw[q2] at hv;exact hv.elim
 | _,_,_,ra,.hit h hd he sd se t=>by
  cases ra with
  | @cons p q ps qs h1 t1 =>
   obtain⟨k,v⟩:=q
   have hk:_=k:=h1.1
   have hv:=rb.val k
   rw[<- hk,h] at hv
   cases q2:valueAt vb k with
   | none=>rw[hk,q2] at hv;exact hv.elim
   | some w =>
    rw[hk,q2] at hv
    obtain⟨as,r1⟩:=hd.reads I h1.2
    obtain⟨bs,r2⟩:=he.reads I hv
    exact .hit q2 (SeqAt.eqAt_reads _ _ A s _ _ as bs r1 r2 (SeqAt.canLay_of_shaped sd) (SeqAt.canLay_of_shaped se) (SeqAt.room_of_shaped sd hu)) (zBW I hu rb t1 t)
theorem zJI {X:Cx}{k:Nat} (hr:zy k X.A):OpR X (compareOp .Eq) (zGt false X.K):=by
 intro pins s σ H x y v u Q I rx ry h
 obtain⟨a,b,ka,kb,r,rfl,rfl,ha,hb,hh,q⟩:=h
 cases rx;cases ry
 obtain⟨za,la,va,ra,da⟩:=Js I.hok ha
 obtain⟨zb,lb,vb,rb,db⟩:=Js I.hok hb
 refine PySem.W.keq_eq la lb da db hr.units0 (fun e=>zBW I (by show X.A.units+1+64 < _;have:=hr.un;omega) rb ra (hh (by rw[ra.length,rb.length];exact e))) ⟨.bl _,H,I,rfl,?_⟩
 rw[<- ra.length,<- rb.length]
 exact q
theorem zJl {X:Cx}{k:Nat} (hr:zy k X.A):OpR X (compareOp .NotEq) (zGt true X.K):=by
 intro pins s σ H x y v u Q I rx ry h
 obtain⟨a,b,ka,kb,r,rfl,rfl,ha,hb,hh,q⟩:=h
 cases rx;cases ry
 obtain⟨za,la,va,ra,da⟩:=Js I.hok ha
 obtain⟨zb,lb,vb,rb,db⟩:=Js I.hok hb
 refine PySem.W.keq_ne la lb da db hr.units0 (fun e=>zBW I (by show X.A.units+1+64 < _;have:=hr.un;omega) rb ra (hh (by rw[ra.length,rb.length];exact e))) ⟨.bl _,H,I,rfl,?_⟩
 rw[<- ra.length,<- rb.length]
 exact q
theorem zCn {ρ:List Addr}{H:Hp}{S:M.S} (rp:zR K Θ ρ S H) {ws:List (M.D×M.D)}{kb:List (Key×V)} (rb:DR K ρ H ws kb):∀ {ks:List (M.D×M.D)}{ka:List (Key×V)}{b:Bool},DR K ρ H ks ka->M.dEq S ws ks=some b->Zk K H kb ka b
 | _,_,_,.nil,e=>by cases e;exact .nil
 | (k,v)::ks,(kk,vv)::ka,b,.cons h t,e=>by
  have hv:=DR.val rb h.1
  unfold M.dEq at e
  cases q:M.zo k ws with
  | none =>
   rw[q] at e hv
   cases e
   exact .miss hv
  | some w =>
   rw[q] at e hv
   obtain⟨y,hy,ry⟩:=hv
   dsimp only at e
   cases q1:M.toP 8 S v with
   | none=>rw[q1] at e;cases e
   | some p1 =>
    cases q2:M.toP 8 S w with
    | none=>rw[q1,q2] at e;cases e
    | some p2 =>
     cases q3:M.dEq S ws ks with
     | none=>rw[q1,q2,q3] at e;cases e
     | some b' =>
      rw[q1,q2,q3] at e
      dsimp only at e
      by_cases hc:M.P.dep p1 <= 64/\M.P.dep p2 <= 64
      ·rw[if_pos hc] at e
       cases e
       obtain⟨d1,c1⟩:=JU rp _ q1 h.2
       obtain⟨d2,c2⟩:=JU rp _ q2 ry
       rw[<- zBV]
       refine .hit hy d1 d2 ?_ ?_ (zCn rp rb t q3)
       ·unfold SeqAt.shaped;rw[c1,Bool.true_and,Qy];exact decide_eq_true hc.1
       ·unfold SeqAt.shaped;rw[c2,Bool.true_and,Qy];exact decide_eq_true hc.2
      ·rw[if_neg hc] at e;cases e
theorem zCx {ρ:List Addr}{H:Hp}{S:M.S}{x y:M.D}{X1 Y:V}{Q':Bool->Hp->Prop} (rp:zR K Θ ρ S H) (rx:zG K ρ H x X1) (ry:zG K ρ H y Y) (h:zE K Θ rB ρ H (M.zCM x y S) Q') :
  ∃ a b ka kb r,X1=.ref a/\Y=.ref b/\H a=some (.dK ka)/\H b=some (.dK kb)/\(ka.length=kb.length->Zk K H kb ka r)/\Q' (ka.length == kb.length && r) H:=by
 unfold M.zCM at h
 split at h
 ·rename_i i j
  split at h
  ·rename_i ks ws e1 e2
   obtain⟨a,rfl,ha⟩:=rx
   obtain⟨b,rfl,hb⟩:=ry
   obtain⟨ka,h1,r1⟩:=Qv rp ha e1
   obtain⟨kb,h2,r2⟩:=Qv rp hb e2
   have l1:=Paired.length r1
   have l2:=Paired.length r2
   split at h
   ·rename_i hl
    split at h
    ·rename_i bb q
     refine⟨a,b,ka,kb,bb,rfl,rfl,h1,h2,fun _=>zCn rp r2 r1 q,?_⟩
     rw[show (ka.length == kb.length)=true by rw[beq_iff_eq];omega,Bool.true_and]
     exact zE.here (b:=bb) h rp rfl
    ·exact h.elim
   ·rename_i hl
    refine⟨a,b,ka,kb,false,rfl,rfl,h1,h2,fun e=>absurd (by omega) hl,?_⟩
    rw[Bool.and_false]
    exact zE.here (b:=false) h rp rfl
  ·exact h.elim
 ·exact h.elim
noncomputable def zEU (K:PySem.W.Frag) (neg:Bool):R2:=fun x y H Q=>(zBX x y=true/\Q (.bl (if neg then !decide (x=y) else decide (x=y))) H)\/zGj K neg x y H Q\/zGt neg K x y H Q
theorem yv {X:Cx}{k:Nat} (hr:zy k X.A):OpR X (compareOp .Eq) (zEU X.K false):=by
 intro pins s σ H x y v u Q I rx ry h
 rcases h with h | h | h
 ·exact zK8 pins s σ H x y v u Q I rx ry h
 ·exact zJu hr pins s σ H x y v u Q I rx ry h
 ·exact zJI hr pins s σ H x y v u Q I rx ry h
theorem zKr {X:Cx}{k:Nat} (hr:zy k X.A):OpR X (compareOp .NotEq) (zEU X.K true):=by
 intro pins s σ H x y v u Q I rx ry h
 rcases h with h | h | h
 ·exact zLY pins s σ H x y v u Q I rx ry h
 ·exact zJk hr pins s σ H x y v u Q I rx ry h
 ·exact zJl hr pins s σ H x y v u Q I rx ry h
theorem zD7 {ρ:List Addr}{H:Hp}{S:M.S}{x y:M.D}{X1 Y:V}{Q':Bool->Hp->Prop} (rp:zR K Θ ρ S H) (rx:zG K ρ H x X1) (ry:zG K ρ H y Y) (h:zE K Θ rB ρ H (M.eqD x y S) Q') :
  (zBX X1 Y=true/\Q' (decide (X1=Y)) H)\/(∃ d e,ju K H X1 d/\ju K H Y e/\SeqAt.shaped d=true/\SeqAt.shaped e=true/\Q' (PyData.eqv d e) H)\/∃ a b ka kb r,X1=.ref a/\Y=.ref b/\H a=some (.dK ka)/\H b=some (.dK kb)/\(ka.length=kb.length->Zk K H kb ka r)/\Q' (ka.length == kb.length && r) H:=by
 have gen:∀ {p q:M.P},M.toP M.JG S x=some p->M.toP M.JG S y=some q->M.P.dep p <= 64/\M.P.dep q <= 64->Q' (M.P.eqv p q) H->∃ d e,ju K H X1 d/\ju K H Y e/\SeqAt.shaped d=true/\SeqAt.shaped e=true/\Q' (PyData.eqv d e) H:=fun {p q} e1 e2 hd hq=>by
  obtain⟨d1,c1⟩:=JU rp _ e1 rx
  obtain⟨d2,c2⟩:=JU rp _ e2 ry
  refine⟨_,_,d1,d2,?_,?_,by rw[zBV];exact hq⟩
  ·unfold SeqAt.shaped;rw[c1,Bool.true_and,Qy];exact decide_eq_true hd.1
  ·unfold SeqAt.shaped;rw[c2,Bool.true_and,Qy];exact decide_eq_true hd.2
 have j4:zE K Θ rB ρ H (match M.toP M.JG S x,M.toP M.JG S y with
   | some p,some q=>if M.P.dep p <= 64/\M.P.dep q <= 64 then M.R.ok (M.P.eqv p q) S else .no
   | _,_=>M.zCM x y S) Q'->(∃ d e,ju K H X1 d/\ju K H Y e/\SeqAt.shaped d=true/\SeqAt.shaped e=true/\Q' (PyData.eqv d e) H)\/∃ a b ka kb r,X1=.ref a/\Y=.ref b/\H a=some (.dK ka)/\H b=some (.dK kb)/\(ka.length=kb.length->Zk K H kb ka r)/\Q' (ka.length == kb.length && r) H:=fun h'=>by
  cases e1:M.toP M.JG S x with
  | none=>rw[e1] at h';exact .inr (zCx rp rx ry h')
  | some p =>
   cases e2:M.toP M.JG S y with
   | none=>rw[e1,e2] at h';exact .inr (zCx rp rx ry h')
   | some q =>
    rw[e1,e2] at h'
    dsimp only at h'
    by_cases hc:M.P.dep p <= 64/\M.P.dep q <= 64
    ·rw[if_pos hc] at h';exact .inl <| gen e1 e2 hc (zE.here (b:=M.P.eqv p q) h' rp rfl)
    ·rw[if_neg hc] at h';exact h'.elim
 have sc:∀ {b:Bool},zBX X1 Y=true->decide (X1=Y)=b->M.eqD x y S=.ok b S->(zBX X1 Y=true/\Q' (decide (X1=Y)) H):=fun {b} h1 h2 h3=>by
  rw[h3] at h
  rw[h2]
  exact⟨h1,zE.here (b:=b) h rp rfl⟩
 cases x with
 | str a =>
  cases y with
  | str b =>
   obtain⟨rfl,_⟩:=rx
   obtain⟨rfl,_⟩:=ry
   refine .inl (sc rfl ?_ rfl)
   by_cases hab:a=b
   ·subst hab;simp
   ·rw[decide_eq_false hab,decide_eq_false fun e=>hab (Qw (V.str.inj e))]
  | _=>exact .inr (j4 h)
 | int a =>
  cases y with
  | int b =>
   cases rx;cases ry
   refine .inl (sc rfl ?_ rfl)
   by_cases hab:a=b
   ·subst hab;simp
   ·rw[decide_eq_false hab,decide_eq_false fun e=>hab (V.int.inj e)]
  | _=>exact .inr (j4 h)
 | bl a =>
  cases y with
  | bl b =>
   cases rx;cases ry
   refine .inl (sc rfl ?_ rfl)
   by_cases hab:a=b
   ·subst hab;simp
   ·rw[decide_eq_false hab,decide_eq_false fun e=>hab (V.bl.inj e)]
  | _=>exact .inr (j4 h)
 | non =>
  cases y with
  | non=>cases rx;cases ry;exact .inl (sc rfl rfl rfl)
  | _=>exact .inr (j4 h)
 | _=>exact .inr (j4 h)
theorem Zp:AdC K Θ M.cEq (zEU K false):=by
 intro ρ H S x y X1 Y Q rp rx ry h
 rcases zD7 rp rx ry h with h | ⟨d,e,h1,h2,h3,h4,h5⟩ | ⟨a,b,ka,kb,r,h⟩
 ·exact .inl h
 ·exact .inr (.inl ⟨d,e,h1,h2,h3,h4,h5⟩)
 ·exact .inr (.inr ⟨a,b,ka,kb,r,h⟩)
theorem zK6:AdC K Θ M.cNe (zEU K true):=by
 intro ρ H S x y X1 Y Q rp rx ry h
 have h':zE K Θ rB ρ H (M.eqD x y S) (fun b H'=>Q (.bl (!b)) H'):=zE.bind h fun ρ1 H1 b b' S1 p1 l1 rp1 e h1=>by cases e;exact zE.here (b:=!b) h1 rp1 rfl
 rcases zD7 rp rx ry h' with h | ⟨d,e,h1,h2,h3,h4,h5⟩ | ⟨a,b,ka,kb,r,h⟩
 ·exact .inl h
 ·exact .inr (.inl ⟨d,e,h1,h2,h3,h4,h5⟩)
 ·exact .inr (.inr ⟨a,b,ka,kb,r,h⟩)
end
end L2
namespace L2
open PySem PySem.Spec PyProof.Rows
section
variable {K:PySem.W.Frag}{Θ:Tab}
theorem Zt (n d:Nat) (o:Option Int):M.sIx n d o=HT.sIx n d o:=by
 cases o with
 | none=>rfl
 | some v =>
  have:=HT.zA4 v n d
  show (if v < 0 then max (v+(n:Int)) 0 else min v (n:Int)).toNat=_
  rw[this];simp
theorem zIt {x:M.T}{lo hi:Option Int}:∀ c∈M.cut x lo hi,c∈x:=fun c hc=>List.mem_of_mem_drop (List.mem_of_mem_take hc)
theorem zBH {ρ:List Addr}{H:Hp}{ds:List M.D}{xs:List V} (r:zJ K ρ H ds xs) (lo hi:Option Int):zJ K ρ H (M.cut ds lo hi) (Qc xs lo hi):=by
 unfold M.cut Qc
 rw[Zt,Zt,r.length]
 exact (r.drop _).take _
theorem zHq:∀ ρ H S x X1 l u Q,zR K Θ ρ S H->zG K ρ H x X1->zE K Θ (zG K) ρ H (M.slD x l u S) Q->uSl K X1 l u H Q:=by
 intro ρ H S x X1 l u Q rp rx h
 cases x with
 | str z =>
  obtain⟨rfl,ok⟩:=rx
  by_cases hz:z.length <= M.SZ
  ·simp only[M.slD,if_pos hz] at h
   refine⟨by rw[jo,<- yq];exact hz,zE.here h rp ⟨?_,Jt ok zIt⟩⟩
   show V.str (zBT (ofT z) l u)=V.str (ofT (M.cut z l u))
   unfold zBT M.cut ofT
   have e:(⟨z.toArray⟩:Str).length=z.length:=by simp[Str.length]
   rw[e,Zt,Zt]
  ·simp only[M.slD,if_neg hz] at h;exact h.elim
 | tup ds =>
  obtain⟨a,xs,rfl,hq,r⟩:=rx
  by_cases hc:M.sIx ds.length 0 l=0/\M.sIx ds.length ds.length u=ds.length
  ·simp only[M.slD,if_pos hc] at h;exact h.elim
  ·simp only[M.slD,if_neg hc] at h
   refine .inr ⟨xs,hq,?_,fun p hp=>h ρ _ _ (List.prefix_refl _) (Le.new hp _) (rp.aside hp _) ⟨p,_,rfl,SqT.of z5,(zBH r l u).mono (List.prefix_refl _) (Le.new hp _)⟩⟩
   rw[Zt,Zt,r.length] at hc
   exact hc
 | ro ds =>
  obtain⟨a,xs,rfl,hq,r⟩:=rx
  exact .inl ⟨xs,hq.sq,fun p hp=>zE.alloc h rp (zBH r l u) hp⟩
 | ref p =>
  obtain⟨a,rfl,ea⟩:=rx
  cases q:S[p]? with
  | none=>simp[M.slD,M.jO,q] at h;exact h.elim
  | some o =>
   cases o with
   | lst xs =>
    simp only[M.slD,M.jO,q] at h
    obtain⟨zs,e1,r⟩:=yg rp ea q
    exact .inl ⟨zs,SqL.of e1,fun p hp=>zE.alloc h rp (zBH r l u) hp⟩
   | dct kvs=>simp[M.slD,M.jO,q] at h;exact h.elim
   | fdc _=>simp[M.slD,M.jO,q] at h;exact h.elim
   | dtt _=>simp[M.slD,M.jO,q] at h;exact h.elim
   | ftt _=>simp[M.slD,M.jO,q] at h;exact h.elim
   | ins c fs=>simp[M.slD,M.jO,q] at h;exact h.elim
 | _=>exact h.elim
theorem zB7 {ρ:List Addr}{H:Hp}:∀ {ds:List M.D}{ys:List V}{ts:List M.T},M.QR ds=some ts->zJ K ρ H ds ys->ys=(ts.map ofT).map V.str/\∀ t∈ts,okT t
 | [],_,_,e,r=>by cases e;cases r;exact⟨rfl,fun t h=>by cases h⟩
 | .str x::ds,_,_,e,r=>by
  obtain⟨y,ys,rfl,r1,r2⟩:=r
  obtain⟨rfl,ok⟩:=r1
  have e':(M.QR ds).map (x :: ·)=some _:=e
  cases q:M.QR ds with
  | none=>rw[q] at e';cases e'
  | some cs =>
   rw[q] at e'
   cases e'
   obtain⟨h1,h2⟩:=zB7 q r2
   refine⟨by rw[h1];rfl,fun t ht=>?_⟩
   rcases List.mem_cons.mp ht with rfl | ht
   ·exact ok
   ·exact h2 t ht
 | .non::_,_,_,e,_=>by cases e
 | .int _::_,_,_,e,_=>by cases e
 | .bl _::_,_,_,e,_=>by cases e
 | .tup _::_,_,_,e,_=>by cases e
 | .ro _::_,_,_,e,_=>by cases e
 | .ref _::_,_,_,e,_=>by cases e
 | .ty _::_,_,_,e,_=>by cases e
theorem zBn (x:M.T):∀ (ys:List M.T) (acc:M.T),((ys.map ofT).foldl (fun acc p=>acc++(ofT x).cps++p.cps) acc.toArray)=(acc++(ys.map (x ++ ·)).flatten).toArray
 | [],acc=>by simp
 | y::ys,acc=>by
  rw[List.map_cons,List.foldl_cons]
  have e:acc.toArray++(ofT x).cps++(ofT y).cps=(acc++x++y).toArray:=by simp[ofT]
  rw[e,zBn x ys]
  simp
theorem zAc (x y:M.T):∀ ys:List M.T,M.Zo x (y::ys)=y++(ys.map (x ++ ·)).flatten
 | []=>by simp[M.Zo]
 | z::ys=>by
  show y++x++M.Zo x (z::ys)=_
  rw[zAc x z ys];simp
theorem zHv (x:M.T) (ys:List M.T):Txt.join (ofT x) (ys.map ofT)=ofT (M.Zo x ys):=by
 cases ys with
 | nil=>rfl
 | cons y ys =>
  show (⟨(((y::ys).map ofT).drop 1).foldl (fun acc p=>acc++(ofT x).cps++p.cps) (((y::ys).map ofT).headD Str.empty).cps⟩:Str)=_
  rw[zAc,List.map_cons,List.drop_one,List.tail_cons]
  have:=zBn x ys y
  show (⟨(ys.map ofT).foldl _ y.toArray⟩:Str)=_
  rw[this];rfl
theorem zC9 {x:M.T} (hx:okT x):∀ {ys:List M.T},(∀ t∈ys,okT t)->okT (M.Zo x ys)
 | [],_=>rfl
 | [y],h=>h y (by simp)
 | y::z::ys,h=>zBb (zBb (h y (by simp)) hx) (zC9 hx fun t ht=>h t (List.mem_cons_of_mem _ ht))
theorem zH2 (ts:List M.T):((ts.map ofT).map (·.length)).sum=(ts.map List.length).sum:=by
 rw[List.map_map]
 exact congrArg List.sum (List.map_congr_left fun t _=>jo t)
theorem zGp {y:M.T} (hy:okT y):∀ ρ H S ds ys p Q,zR K Θ ρ S H->zJ K ρ H ds ys->(SqL K H p ys\/SqT K H p ys)->zE K Θ (zG K) ρ H (M.ZA y ds S) Q->zCV K (.str (ofT y)) [.ref p] H Q:=by
 intro ρ H S ds ys p Q rp r hq h
 cases e:M.QR ds with
 | none=>simp only[M.ZA,e] at h;exact h.elim
 | some ts =>
  obtain⟨rfl,ok⟩:=zB7 e r
  by_cases hz:(ts.map List.length).sum+ts.length * y.length <= M.SZ
  ·simp only[M.ZA,e,if_pos hz] at h
   refine⟨ofT y,p,ts.map ofT,rfl,rfl,hq,?_,?_⟩
   ·rw[zH2,List.length_map,jo];exact hz
   ·rw[zHv];exact zE.here h rp ⟨rfl,zC9 hy ok⟩
  ·simp only[M.ZA,e,if_neg hz] at h;exact h.elim
end
end L2
namespace L2
open PySem PySem.Spec PyProof.Rows
section
variable {K:PySem.W.Frag}{Θ:Tab}
theorem JM (a:M.T):∀ (n:Nat) (acc:Array Nat),(List.replicate n a.toArray).foldl (· ++ ·) acc=acc++((List.replicate n a).flatten).toArray
 | 0,acc=>by simp
 | n+1,acc=>by
  rw[List.replicate_succ,List.foldl_cons,JM a n,List.replicate_succ,List.flatten_cons]
  simp
theorem zIb (a:M.T) (n:Int) (h0:0 <= n):Txt.mul (ofT a) n=ofT (List.replicate n.toNat a).flatten:=by
 unfold Txt.mul
 by_cases h1:n < 1
 ·have e:n.toNat=0:=by omega
  rw[if_pos h1,e];rfl
 ·rw[if_neg h1]
  by_cases h2:(n == 1 || (ofT a).length == 0)=true
  ·rw[if_pos h2]
   rw[Bool.or_eq_true] at h2
   rcases h2 with h2 | h2
   ·have e:n=1:=eq_of_beq h2
    subst e
    simp
   ·have e:a.length=0:=by rw[<- jo];exact eq_of_beq h2
    have e2:a=[]:=List.length_eq_zero_iff.mp e
    subst e2
    simp[ofT]
  ·rw[if_neg h2]
   have:=JM a n.toNat #[]
   show (⟨(List.replicate n.toNat a.toArray).foldl (· ++ ·) #[]⟩:Str)=_
   rw[this];simp[ofT]
theorem zJC (a:M.T) (n:Int) (h0:0 <= n) (h1:n <= 1000000) (h2:a.length * n.toNat <= 1000000):MulOk (ofT a) n:=by
 refine⟨?_,fun h3 _=>?_,fun h3 _=>?_⟩
 ·rw[Bool.or_eq_false_iff]
  exact⟨decide_eq_false (by omega),decide_eq_false (by omega)⟩
 ·rw[jo]
  have hn:1 <= n.toNat:=by omega
  have ha:a.length <= 1000000:=Nat.le_trans (Nat.le_mul_of_pos_right _ (by omega)) h2
  have hd:(1000000:Int) <= (2 ^ 63 - 1) / n:=Int.le_ediv_of_mul_le (by omega) (by omega)
  omega
 ·rw[jo]
  unfold Builtin.Str.tooLong
  exact decide_eq_false (by rw[sizeLine_eq];omega)
noncomputable def zHb:R2:=fun x y H Q=>zKl x y H Q\/zJJ x y H Q
theorem QI {X:Cx}:OpR X (binaryOp .Mult) zHb:=OpR.or zLS zJj
theorem zJ.flat {ρ:List Addr}{H:Hp}{ds:List M.D}{xs:List V} (h:zJ K ρ H ds xs):∀ n:Nat,zJ K ρ H (List.replicate n ds).flatten (List.replicate n xs).flatten
 | 0=>rfl
 | n+1=>by
  rw[List.replicate_succ,List.replicate_succ,List.flatten_cons,List.flatten_cons]
  exact zJ.app h (zJ.flat h n)
theorem QH:Ad2 K Θ M.yZ zHb:=by
 intro ρ H S x y X Y Q rp rx ry h
 cases x with
 | int i =>
  cases y with
  | int j =>
   cases rx;cases ry
   have h':zE K Θ (zG K) ρ H (if (M.qg i || M.qg j)=true then M.R.ok (M.D.int (i * j)) S else .no) Q:=h
   by_cases hc:(M.qg i || M.qg j)=true
   ·rw[if_pos hc] at h'
    refine .inl ⟨?_,zE.here (b:=V.int (i * j)) h' rp rfl⟩
    rw[Bool.or_eq_true] at hc
    rcases hc with hc | hc
    ·exact .inl (zDW hc)
    ·exact .inr (zDW hc)
   ·rw[if_neg hc] at h';exact h'.elim
  | _=>exact h.elim
 | str a =>
  cases y with
  | int n =>
   obtain⟨rfl,oka⟩:=rx
   cases ry
   have h':zE K Θ (zG K) ρ H (if 0 <= n/\n.natAbs <= 1000000/\a.length * n.natAbs <= 1000000 then M.R.ok (M.D.str (List.replicate n.toNat a).flatten) S else .no) Q:=h
   by_cases hc:0 <= n/\n.natAbs <= 1000000/\a.length * n.natAbs <= 1000000
   ·rw[if_pos hc] at h'
    have hn:n.natAbs=n.toNat:=by omega
    refine .inl ⟨zJC a n hc.1 (by omega) (by rw[<- hn];exact hc.2.2),?_⟩
    show Q (.str (Txt.mul (ofT a) n)) H
    rw[zIb a n hc.1]
    refine zE.here h' rp ⟨rfl,Jt oka fun c hc=>?_⟩
    obtain⟨l,hl,hcl⟩:=List.mem_flatten.mp hc
    rw[(List.mem_replicate.mp hl).2] at hcl
    exact hcl
   ·rw[if_neg hc] at h';exact h'.elim
  | _=>exact h.elim
 | ref p =>
  cases y with
  | int n =>
   cases ry
   have h':zE K Θ (zG K) ρ H (match M.jO S p with | some xs=>if n.natAbs <= 1000/\xs.length * n.natAbs <= 1000000 then M.alloc (.lst (List.replicate n.toNat xs).flatten) S else .no | none=>.no) Q:=h
   cases q:S[p]? with
   | none=>simp only[M.jO,q] at h';exact h'.elim
   | some o =>
    cases o with
    | lst ds =>
     simp only[M.jO,q] at h'
     obtain⟨a,rfl,ea⟩:=rx
     obtain⟨zs,e1,r⟩:=yg rp ea q
     by_cases hc:n.natAbs <= 1000/\ds.length * n.natAbs <= 1000000
     ·rw[if_pos hc] at h'
      have hn:n.toNat <= n.natAbs:=by omega
      refine .inr ⟨a,n,zs,rfl,rfl,e1,by omega,by omega,?_,fun p hp=>zE.alloc h' rp (zJ.flat r n.toNat) hp⟩
      have hm:=Nat.mul_le_mul_left ds.length hn
      rw[<- r.length,sizeLine_eq]
      omega
     ·rw[if_neg hc] at h';exact h'.elim
    | dct _=>simp only[M.jO,q] at h';exact h'.elim
    | fdc _=>simp only[M.jO,q] at h';exact h'.elim
    | dtt _=>simp only[M.jO,q] at h';exact h'.elim
    | ftt _=>simp only[M.jO,q] at h';exact h'.elim
    | ins _ _=>simp only[M.jO,q] at h';exact h'.elim
  | _=>exact h.elim
 | _=>exact h.elim
noncomputable def zGz (K:PySem.W.Frag):R2:=fun x y H Q=>uIx K x y H Q\/∃ a v,x=.ref a/\Q2 H a y (some v)/\Q v H
theorem zMC {X:Cx}{k:Nat} (hr:zy k X.A):IxR X (zGz X.K):=by
 refine IxR.or zMJ ?_
 intro value slice pins s σ H x y v u Q I rx ry h hs
 obtain⟨a,w',rfl,g,q⟩:=h
 cases rx
 exact tail_any (zDw I g) PySem.F.slot_dict_getitem.lookup (zF3 (zHl hr) I g ry fun w2 s3 I3 rw'=>⟨w',H,I3,rw',q⟩) hs
noncomputable def zEk (K:PySem.W.Frag):List V->Hp->VK->Prop:=fun xs H Q=>zJs K xs H Q\/∃ a kvs,xs=[V.ref a]/\H a=some (.dK kvs)/\Q (.int kvs.length) H
theorem zFt {X:Cx}:jU X (.builtin "len") (zEk X.K):=jU.or zLU zGC
theorem zLf:Ad2 K Θ M.ZI (zGz K):=by
 intro ρ H S x y X Y Q rp rx ry h
 cases x with
 | str a =>
  cases y with
  | int i =>
   obtain⟨rfl,oka⟩:=rx
   cases ry
   have h':zE K Θ (zG K) ρ H (if a.length <= M.SZ then (match M.atI a i with | some c=>M.R.ok (M.D.str [c]) S | none=>.no) else .no) Q:=h
   by_cases hc:a.length <= M.SZ
   ·rw[if_pos hc] at h'
    cases q:M.atI a i with
    | none=>rw[q] at h';exact h'.elim
    | some c =>
     rw[q] at h'
     refine .inl ⟨c,by rw[jo,<- yq];exact hc,?_,zE.here (b:=V.str (ofT [c])) h' rp ⟨rfl,Jt oka fun d hd=>by
      have e:d=c:=by simpa using hd
      rw[e]
      unfold M.atI at q
      cases qi:M.ixN a.length i with
      | none=>rw[qi] at q;cases q
      | some j=>rw[qi] at q;exact List.mem_of_getElem? q⟩⟩
     rw[ZM];exact q
   ·rw[if_neg hc] at h';exact h'.elim
  | _=>exact h.elim
 | tup ds =>
  cases y with
  | int i =>
   obtain⟨l,xs,rfl,hq,r⟩:=rx
   cases ry
   have h':zE K Θ (zG K) ρ H (match M.atI ds i with | some d=>M.R.ok d S | none=>.no) Q:=h
   cases q:M.atI ds i with
   | none=>rw[q] at h';exact h'.elim
   | some d =>
    rw[q] at h'
    obtain⟨v,e1,rv⟩:=zBC r q
    exact .inl ⟨xs,v,.inr hq,e1,zE.here h' rp rv⟩
  | _=>exact h.elim
 | ro ds =>
  cases y with
  | int i =>
   obtain⟨l,xs,rfl,hq,r⟩:=rx
   cases ry
   have h':zE K Θ (zG K) ρ H (match M.atI ds i with | some d=>M.R.ok d S | none=>.no) Q:=h
   cases q:M.atI ds i with
   | none=>rw[q] at h';exact h'.elim
   | some d =>
    rw[q] at h'
    obtain⟨v,e1,rv⟩:=zBC r q
    exact .inl ⟨xs,v,.inl hq.sq,e1,zE.here h' rp rv⟩
  | _=>exact h.elim
 | ref p =>
  obtain⟨a,rfl,ea⟩:=rx
  cases q:S[p]? with
  | none=>simp[M.ZI,q] at h;exact h.elim
  | some o =>
   cases o with
   | lst xs =>
    cases y with
    | int i =>
     cases ry
     obtain⟨zs,e1,r⟩:=yg rp ea q
     cases q2:M.atI xs i with
     | none=>simp[M.ZI,q,q2] at h;exact h.elim
     | some d =>
      simp[M.ZI,q,q2] at h
      obtain⟨v,e2,rv⟩:=zBC r q2
      exact .inl ⟨zs,v,.inl (SqL.of e1),e2,zE.here h rp rv⟩
    | _=>simp[M.ZI,q] at h;exact h.elim
   | dct kvs =>
    by_cases hk:M.ZC y=true
    case neg=>simp[M.ZI,q,hk] at h;exact h.elim
    obtain⟨ks,e1,r⟩:=Qv rp ea q
    obtain⟨k,h1,rfl⟩:=Qn hk ry
    have hv:=r.val h1
    cases q2:M.zo y kvs with
    | none=>simp[M.ZI,q,hk,q2] at h;exact h.elim
    | some d =>
     simp[M.ZI,q,hk,q2] at h
     rw[q2] at hv
     obtain⟨v,e2,rv⟩:=hv
     refine .inr ⟨a,v,rfl,?_,zE.here h rp rv⟩
     rw[<- e2]
     exact Q2.k e1
   | dtt _=>simp[M.ZI,q] at h;exact h.elim
   | ftt _=>simp[M.ZI,q] at h;exact h.elim
   | fdc kvs =>
    by_cases hk:M.ZC y=true
    case neg=>simp[M.ZI,q,hk] at h;exact h.elim
    obtain⟨fo,ks,e1,r⟩:=zFX rp ea q
    obtain⟨k,h1,rfl⟩:=Qn hk ry
    have hv:=r.val h1
    cases q2:M.zo y kvs with
    | none=>simp[M.ZI,q,hk,q2] at h;exact h.elim
    | some d =>
     simp[M.ZI,q,hk,q2] at h
     rw[q2] at hv
     obtain⟨v,e2,rv⟩:=hv
     refine .inr ⟨a,v,rfl,?_,zE.here h rp rv⟩
     rw[<- e2]
     exact (.inl ⟨ks,k,.inr ⟨fo,e1⟩,rfl,rfl⟩)
   | ins c fs=>simp[M.ZI,q] at h;exact h.elim
 | _=>exact h.elim
theorem zF1:AdN K Θ M.Qh (zEk K):=by
 intro ρ H S xs Xs Q rp rx h
 match xs,rx,h with
 | [.str a],rx,h =>
  obtain⟨_,_,rfl,⟨rfl,_⟩,rfl⟩:=rx
  have h':zE K Θ (zG K) ρ H (if a.length <= M.SZ then M.R.ok (M.D.int a.length) S else .no) Q:=h
  by_cases hc:a.length <= M.SZ
  ·rw[if_pos hc] at h'
   refine .inl ⟨by rw[jo,<- yq];exact hc,?_⟩
   rw[jo]
   exact zE.here (b:=V.int a.length) h' rp rfl
  ·rw[if_neg hc] at h';exact h'.elim
 | [.tup ds],rx,h =>
  obtain⟨_,_,rfl,⟨l,ys,rfl,hq,r⟩,rfl⟩:=rx
  exact .inl ⟨ys,.inr hq,by rw[<- r.length];exact zE.here (b:=V.int ds.length) h rp rfl⟩
 | [.ro ds],rx,h =>
  obtain⟨_,_,rfl,⟨l,ys,rfl,hq,r⟩,rfl⟩:=rx
  exact .inl ⟨ys,.inl hq.sq,by rw[<- r.length];exact zE.here (b:=V.int ds.length) h rp rfl⟩
 | [.ref p],rx,h =>
  obtain⟨_,_,rfl,⟨a,rfl,ea⟩,rfl⟩:=rx
  cases q:S[p]? with
  | none=>simp[M.Qh,q] at h;exact h.elim
  | some o =>
   cases o with
   | lst xs =>
    simp[M.Qh,q] at h
    obtain⟨zs,e1,r⟩:=yg rp ea q
    exact .inl ⟨zs,.inl (SqL.of e1),by rw[<- r.length];exact zE.here (b:=V.int xs.length) h rp rfl⟩
   | dct kvs =>
    simp[M.Qh,q] at h
    obtain⟨ks,e1,r⟩:=Qv rp ea q
    exact .inr ⟨a,ks,rfl,e1,by rw[<- Paired.length r];exact zE.here (b:=V.int kvs.length) h rp rfl⟩
   | fdc _=>simp[M.Qh,q] at h;exact h.elim
   | dtt _=>simp[M.Qh,q] at h;exact h.elim
   | ftt _=>simp[M.Qh,q] at h;exact h.elim
   | ins c fs=>simp[M.Qh,q] at h;exact h.elim
 | [.non],_,h=>exact h.elim
 | [.bl _],_,h=>exact h.elim
 | [.int _],_,h=>exact h.elim
 | [.ty _],_,h=>exact h.elim
 | [],_,h=>exact h.elim
 | a::_::_,_,h=>cases a<;>exact h.elim
noncomputable def zGV (K:PySem.W.Frag) (neg:Bool):R2:=fun x y H Q=>uIn K neg x y H Q\/∃ a o,y=.ref a/\Q2 H a x o/\Q (.bl (xor neg o.isSome)) H
theorem zGL {X:Cx}{k:Nat} (hr:zy k X.A):OpR X (compareOp .NotIn) (zGV X.K true):=by
 refine OpR.or zIC ?_
 intro pins s σ H x y v u Q I rx ry h
 obtain⟨a,o,rfl,g,q⟩:=h
 cases ry
 exact zI8 (zHl hr) I g rx fun s' I'=>⟨.bl (!o.isSome),H,I',rfl,by rw[Bool.true_xor] at q;exact q⟩
theorem zDQ {ρ:List Addr}{H:Hp}{d:M.D}{v:V} (r:zG K ρ H d v):qp v=M.flat d:=by
 cases d with
 | non=>cases r;rfl
 | bl _=>cases r;rfl
 | int _=>cases r;rfl
 | str _=>obtain⟨rfl,_⟩:=r;rfl
 | ty _=>cases r;rfl
 | ref _=>obtain⟨_,rfl,_⟩:=r;rfl
 | tup _=>obtain⟨_,_,rfl,_⟩:=r;rfl
 | ro _=>obtain⟨_,_,rfl,_⟩:=r;rfl
theorem zIk {ρ:List Addr}{H:Hp}{d e:M.D}{v u:V} (r:zG K ρ H d v) (q:zG K ρ H e u):eqV v u=M.eqF d e:=by
 cases d with
 | non =>
  cases r
  cases e with
  | str _=>obtain⟨rfl,_⟩:=q;rfl
  | ref _=>obtain⟨_,rfl,_⟩:=q;rfl
  | tup _=>obtain⟨_,_,rfl,_⟩:=q;rfl
  | ro _=>obtain⟨_,_,rfl,_⟩:=q;rfl
  | _=>cases q;rfl
 | bl _ =>
  cases r
  cases e with
  | str _=>obtain⟨rfl,_⟩:=q;rfl
  | ref _=>obtain⟨_,rfl,_⟩:=q;rfl
  | tup _=>obtain⟨_,_,rfl,_⟩:=q;rfl
  | ro _=>obtain⟨_,_,rfl,_⟩:=q;rfl
  | _=>cases q;rfl
 | int _ =>
  cases r
  cases e with
  | str _=>obtain⟨rfl,_⟩:=q;rfl
  | ref _=>obtain⟨_,rfl,_⟩:=q;rfl
  | tup _=>obtain⟨_,_,rfl,_⟩:=q;rfl
  | ro _=>obtain⟨_,_,rfl,_⟩:=q;rfl
  | _=>cases q;rfl
 | str x =>
  obtain⟨rfl,_⟩:=r
  cases e with
  | str y=>obtain⟨rfl,_⟩:=q;exact zD5 x y
  | ref _=>obtain⟨_,rfl,_⟩:=q;rfl
  | tup _=>obtain⟨_,_,rfl,_⟩:=q;rfl
  | ro _=>obtain⟨_,_,rfl,_⟩:=q;rfl
  | _=>cases q;rfl
 | ty _=>cases r;rfl
 | ref _=>obtain⟨_,rfl,_⟩:=r;rfl
 | tup _=>obtain⟨_,_,rfl,_⟩:=r;rfl
 | ro _=>obtain⟨_,_,rfl,_⟩:=r;rfl
theorem zBr {ρ:List Addr}{H:Hp}:∀ {ds:List M.D}{xs:List V},zJ K ρ H ds xs->xs.all qp=ds.all M.flat
 | [],_,r=>by cases r;rfl
 | _::_,_,⟨y,ys,e,r1,r2⟩=>by subst e;rw[List.all_cons,List.all_cons,zDQ r1,zBr r2]
theorem zCl {ρ:List Addr}{H:Hp}{x:M.D}{v:V} (rx:zG K ρ H x v):∀ {ds:List M.D}{xs:List V},zJ K ρ H ds xs->inV v xs=M.Ja x ds
 | [],_,r=>by cases r;rfl
 | _::_,_,⟨y,ys,e,r1,r2⟩=>by
  subst e
  unfold inV M.Ja
  rw[List.any_cons,List.any_cons,zIk r1 rx]
  have:=zCl rx r2
  unfold inV M.Ja at this
  rw[this]
theorem zAO (a:M.T):∀ b:M.T,M.JY a b=true ↔ ∃ i,i+a.length <= b.length/\(b.drop i).take a.length=a
 | []=>by
  simp only[M.JY,List.isEmpty_iff]
  constructor
  ·rintro rfl;exact⟨0,by simp,by simp⟩
  ·rintro ⟨i,h,e⟩
   simp at h
   exact h.2
 | c::r=>by
  simp only[M.JY,Bool.or_eq_true,zAO a r]
  constructor
  ·rintro (h | ⟨i,h,e⟩)
   ·have:=List.isPrefixOf_iff_prefix.mp h
    exact⟨0,by simpa using this.length_le,by simpa using (List.prefix_iff_eq_take.mp this).symm⟩
   ·exact⟨i+1,by simp;omega,by simpa using e⟩
  ·rintro ⟨i,h,e⟩
   cases i with
   | zero=>left;exact List.isPrefixOf_iff_prefix.mpr (List.prefix_iff_eq_take.mpr (by simpa using e.symm))
   | succ i=>right;exact⟨i,by simp at h;omega,by simpa using e⟩
theorem zFo (a b:M.T) (i:Nat):StrLaws.At (ofT b) (ofT a) (ofT b).length i↔(i+a.length <= b.length/\(b.drop i).take a.length=a):=by
 unfold StrLaws.At Builtin.Str.subAt
 rw[jo,jo]
 refine and_congr_right fun _=>?_
 rw[beq_iff_eq]
 constructor
 ·intro h
  have:=congrArg Array.toList h
  simpa [ofT,List.extract_eq_take_drop] using this
 ·intro h
  apply Array.ext'
  simpa [ofT,List.extract_eq_take_drop] using h
theorem zH8 (a b:M.T):(!(Builtin.Str.occurrences (ofT b) (ofT a) 0 (ofT b).length 1).isEmpty)=M.JY a b:=by
 rcases StrLaws.occ_head (ofT b) (ofT a) 1 (by decide) with ⟨e,h⟩ | ⟨i,r,e,h,_⟩
 ·rw[e]
  have:¬ M.JY a b=true:=fun q=>by
   obtain⟨i,q⟩:=(zAO a b).mp q
   exact h i ((zFo a b i).mpr q)
  simpa using this
 ·rw[e]
  have:=(zAO a b).mpr ⟨i,(zFo a b i).mp h⟩
  simp[this]
theorem zJA {neg:Bool}{ρ:List Addr}{H:Hp}{S:M.S}{x y:M.D}{X1 Y:V}{Q:VK} (rp:zR K Θ ρ S H) (rx:zG K ρ H x X1) (ry:zG K ρ H y Y) (h:zE K Θ rB ρ H (M.inD x y S) (fun b H'=>Q (.bl (xor neg b)) H')):zGV K neg X1 Y H Q:=by
 have seq:∀ {ds:List M.D}{xs:List V}{a:Addr},(SqL K H a xs\/SqT K H a xs)->zJ K ρ H ds xs->zE K Θ rB ρ H (if (M.flat x && ds.all M.flat)=true then M.R.ok (M.Ja x ds) S else .no) (fun b H'=>Q (.bl (xor neg b)) H')->uIn K neg X1 (.ref a) H Q:=fun {ds xs a} hq r h'=>by
  by_cases hc:(M.flat x && ds.all M.flat)=true
  ·rw[if_pos hc] at h'
   rw[Bool.and_eq_true,<- zDQ rx,<- zBr r] at hc
   have:=zE.here (b:=M.Ja x ds) h' rp rfl
   rw[<- zCl rx r] at this
   have g:∃ xs,(SqL K H a xs\/SqT K H a xs)/\qp X1=true/\xs.all qp=true/\Q (.bl (xor neg (inV X1 xs))) H:=⟨xs,hq,hc.1,hc.2,this⟩
   cases X1<;>exact g
  ·rw[if_neg hc] at h';exact h'.elim
 cases y with
 | str b =>
  cases x with
  | str a =>
   obtain⟨rfl,_⟩:=rx
   obtain⟨rfl,_⟩:=ry
   refine .inl ?_
   show Q (.bl (xor neg (!(Builtin.Str.occurrences (ofT b) (ofT a) 0 (ofT b).length 1).isEmpty))) H
   rw[zH8]
   exact zE.here (b:=M.JY a b) h rp rfl
  | _=>exact h.elim
 | tup ds =>
  obtain⟨l,xs,rfl,hq,r⟩:=ry
  exact .inl (seq (.inr hq) r h)
 | ro ds =>
  obtain⟨l,xs,rfl,hq,r⟩:=ry
  exact .inl (seq (.inl hq.sq) r h)
 | ref p =>
  obtain⟨a,rfl,ea⟩:=ry
  cases q:S[p]? with
  | none=>simp[M.inD,q] at h;exact h.elim
  | some o =>
   cases o with
   | lst ds =>
    obtain⟨zs,e1,r⟩:=yg rp ea q
    refine .inl (seq (.inl (SqL.of e1)) r ?_)
    simp only[M.inD,q] at h
    exact h
   | dct kvs =>
    by_cases hk:M.ZC x=true
    case neg=>simp[M.inD,q,hk] at h;exact h.elim
    simp only[M.inD,q,if_pos hk] at h
    obtain⟨ks,e1,r⟩:=Qv rp ea q
    obtain⟨k,h1,rfl⟩:=Qn hk rx
    have hv:=r.val h1
    refine .inr ⟨a,yC ks k,rfl,Q2.k e1,?_⟩
    have e2:(yC ks k).isSome=(M.zo x kvs).isSome:=by
     cases q2:M.zo x kvs with
     | none=>rw[q2] at hv;rw[hv];rfl
     | some d=>rw[q2] at hv;obtain⟨v,e2,_⟩:=hv;rw[e2];rfl
    rw[e2]
    exact zE.here (b:=(M.zo x kvs).isSome) h rp rfl
   | dtt _=>simp[M.inD,q] at h;exact h.elim
   | ftt _=>simp[M.inD,q] at h;exact h.elim
   | fdc kvs =>
    by_cases hk:M.ZC x=true
    case neg=>simp[M.inD,q,hk] at h;exact h.elim
    simp only[M.inD,q,if_pos hk] at h
    obtain⟨fo,ks,e1,r⟩:=zFX rp ea q
    obtain⟨k,h1,rfl⟩:=Qn hk rx
    have hv:=r.val h1
    refine .inr ⟨a,yC ks k,rfl,(.inl ⟨ks,k,.inr ⟨fo,e1⟩,rfl,rfl⟩),?_⟩
    have e2:(yC ks k).isSome=(M.zo x kvs).isSome:=by
     cases q2:M.zo x kvs with
     | none=>rw[q2] at hv;rw[hv];rfl
     | some d=>rw[q2] at hv;obtain⟨v,e2,_⟩:=hv;rw[e2];rfl
    rw[e2]
    exact zE.here (b:=(M.zo x kvs).isSome) h rp rfl
   | ins c fs=>simp[M.inD,q] at h;exact h.elim
 | _=>exact h.elim
theorem zKs {X:Cx}{e:Expr}{m:M.TM} (h:MW X Θ e m):MT X Θ e m:=PW.pt h
theorem Zb {X:Cx}{e:Expr}{m:M.TM} (h:WW X Θ e m):WT X Θ e m:=by with_unfolding_all exact zKs (X:=X) (e:=e) (m:=m) h
theorem zAJ {X:Cx}:ZU X [] (RdT X.K Θ M.Zf):=fun pins s σ H Q I ⟨ρ,σ',S,st,rp,h⟩=>zHX pins s σ H Q I (zE.here (b:=true) h rp rfl)
theorem zKM {X:Cx}{c:Expr}{t:M.TM} (h:WT X Θ c t):ZU X [c] (RdT X.K Θ t):=zGW (by with_unfolding_all exact h)
theorem zLe {g1 g2:M.GM}:∀ ds σ σ1,(M.jt g1 (M.jt g2 M.Zd)) ds σ=some σ1->ds.length=2:=fun ds σ σ1 e=>by
 match ds,e with
 | [],e=>cases e
 | [a],e =>
  simp[M.jt] at e
  split at e<;>cases e
 | [a,b],_=>rfl
 | a::b::c::r,e =>
  simp[M.jt,M.Zd] at e
  split at e
  ·split at e<;>cases e
  ·cases e
theorem zCj {ρ:List Addr}{H:Hp}:∀ ns:List Int,zJ K ρ H (ns.map .int) (ns.map V.int)
 | []=>rfl
 | n::ns=>⟨_,_,rfl,rfl,zCj ns⟩
theorem zJv {f:M.F} (ht:∀ ns:List Int,ns.length <= 63->∃ s,f [.ro (ns.map .int)] []=.ok (.bl true) s) {H:Hp}{a:Addr}{ns:List Int}{E:XK} (hl:ns.length <= 63) (hO:zDP H) (hS:SqL K H a (ns.map V.int)):SpM K Θ 1 f [.ref a] H (fun v _=>v=.bl true) E:=by
 obtain⟨s,e⟩:=ht ns hl
 refine⟨[],[.ro (ns.map .int)],[],rfl,⟨_,_,rfl,⟨a,ns.map V.int,rfl,?_,zCj ns⟩,rfl⟩,⟨rfl,List.nodup_nil,fun i o q=>by simp at q⟩,?_⟩
 ·rcases hS with (h | h) | h
  ·rcases hO a with z | ⟨o,xs,z⟩
   ·rw[h] at z;cases z
   ·rw[h] at z;cases z
  ·exact .inl h
  ·exact .inr h
 ·rw[e]
  exact fun ρ' H' b _ _ _ r=>r
end
section
variable {P:Program}{w:World}{K:PySem.W.Frag}{mg:Str->Option Value}{base:Heap}{Θ:Tab}
theorem zJg {x qual:Str}{st:Stmt}{f:Addr}{fd:FuncData}{N ps:List Str}{k:Nat}{b:M.SM} (F:Fun K x qual st f fd) (Sc:jb N ps (zQ st))
  (hbody:∀ (cdv:Value) (A:Around) (outer:List Env) (s:Shared) (H:Hp) (E:XK),zy k (A.deeper (envOfC qual (zQ st) s.heap.objs.size f cdv)) ->
   MSs (QG CX0 P w K mg base N qual (zQ st) f cdv A outer s H E).nox Θ (jN st) b):jc P w K mg base CX0 (k+1) f fd ps (SpM K Θ ps.length (M.fn N.length b)):=by
 refine F.ok (k:=k) Sc (fun vs H Q E h=>?_) (fun cdv A outer s H vs Q E hr h=>?_)
 ·obtain⟨ρ,ds,S,hl,r,_⟩:=h
  rw[<- r.length,hl]
 ·obtain⟨ρ,ds,S,hl,r,rp,h⟩:=h
  refine⟨_,hbody cdv A outer s H E hr,ρ,_,S,zB1 r N,rp,?_⟩
  have h':zE K Θ (zG K) ρ H (b (ds.map some++List.replicate (N.length - ds.length) none) S).out Q:=h
  show zr K Θ ρ H (b (ds.map some++List.replicate (N.length - ds.length) none) S) _
  revert h'
  cases b (ds.map some++List.replicate (N.length - ds.length) none) S with
  | rt a s=>exact fun h'=>h'
  | nx a s=>exact fun h' ρ1 H1 σ1 p1 l1 rp1 _=>h' ρ1 H1 .non p1 l1 rp1 rfl
  | bk a s=>exact fun h'=>h'.elim
  | ct a s=>exact fun h'=>h'.elim
  | exc e a s=>exact fun h'=>h'
  | no=>exact fun h'=>h'
theorem zCZ {x qual:Str}{st:Stmt}{f:Addr}{fd:FuncData}{N ps:List Str}{k:Nat}{b:M.SM} (F:Fun K x qual st f fd) (Sc:jb N ps (zQ st))
  (hbody:∀ (cdv:Value) (A:Around) (outer:List Env) (s:Shared) (H:Hp) (E:XK),zy k (A.deeper (envOfC qual (zQ st) s.heap.objs.size f cdv)) ->
   WSs (QG CX0 P w K mg base N qual (zQ st) f cdv A outer s H E).nox Θ (jN st) b):jc P w K mg base CX0 (k+1) f fd ps (SpM K Θ ps.length (M.fn N.length b)):=by with_unfolding_all exact zJg (x:=x) (qual:=qual) (st:=st) (f:=f) (fd:=fd) (N:=N) (ps:=ps) (k:=k) (b:=b) F Sc hbody
end
theorem zKj:bootBuiltins "min" = some (.builtin "min"):=by decide +kernel
end L2
namespace L2
open PySem PySem.Spec PyProof.Rows PySem.Builtin.Str
section
variable {K:PySem.W.Frag}{Θ:Tab}
theorem Jr {ρ:List Addr}{H:Hp}{S:M.S}{p:Nat}{X:V}{ds:List M.D} (rp:zR K Θ ρ S H) (rx:zG K ρ H (.ref p) X) (e:S[p]? = some (.lst ds)):∃ a xs,X=.ref a/\ρ[p]? = some a/\H a=some (.lst xs)/\zJ K ρ H ds xs:=by
 obtain⟨a,rfl,ha⟩:=rx
 obtain⟨b,hb,xs,hx,r⟩:=rp.obj p _ e
 rw[ha] at hb;cases hb
 exact⟨a,xs,rfl,ha,hx,r⟩
theorem Jv {H:Hp}{a:Addr}{xs:List V} (h:H a=some (.lst xs)):Mut (H a):=by rw[h];trivial
theorem JV:AdM K Θ M.yp zEJ:=by
 intro ρ H S x xs X Xs Q rp rx rxs h
 unfold M.yp at h
 split at h
 ·rename_i p y
  obtain⟨Y,r,rfl,ry,rfl⟩:=rxs
  split at h
  ·rename_i ds e
   obtain⟨a,zs,rfl,ha,hx,rz⟩:=Jr rp rx e
   split at h
   ·rename_i hl
    have le:=Le.put (Jv hx) (.lst (zs++[Y]))
    refine⟨a,zs,Y,rfl,rfl,hx,by rw[<- yq,<- rz.length];exact hl,?_⟩
    exact h ρ _ _ (List.prefix_refl _) le (rp.put ha (Jv hx) ⟨_,z5,(rz.mono (List.prefix_refl _) le).app ⟨_,_,rfl,ry.mono (List.prefix_refl _) le,rfl⟩⟩) rfl
   ·exact h.elim
  ·exact h.elim
 ·exact h.elim
end
end L2
namespace L2
open PySem PySem.Spec PyProof.Rows
section
variable {Θ:Tab}
theorem PS.or {X:Cx}{st:Stmt}{t t':TS} (h:PS X st t) (h':PS X st t'):PS X st (fun D σ H=>t D σ H\/t' D σ H):=fun pins s σ H D I q=>by
 rcases q with q | q
 ·exact h pins s σ H D I q
 ·exact h' pins s σ H D I q
theorem zIX {X:Cx}{es:List Expr}{g:M.GMs}{js:List Nat}{k:Nat}{pos:Pos}{n:Nat} (hc:X.calm=true) (h:MGs X Θ js es g) (hl:∀ ds σ σ1,g ds σ=some σ1->ds.length=n) (hn:(assignEach es X.env).length=n:=by rfl) (hst:(assignEach es X.env).findIdx? (·.1)=none:=by rfl):MG X Θ js (.Tuple es k pos) (M.Za g) :=
 zKq (es:=es) (zJq hc h hn hst) hl
theorem zFl {X:Cx}{es:List Expr}{g:M.GMs}{js:List Nat}{k:Nat}{pos:Pos}{n:Nat} (hc:X.calm=true) (h:WGs X Θ js es g) (hl:∀ ds σ σ1,g ds σ=some σ1->ds.length=n) (hn:(assignEach es X.env).length=n:=by rfl) (hst:(assignEach es X.env).findIdx? (·.1)=none:=by rfl):WG X Θ js (.Tuple es k pos) (M.Za g):=by with_unfolding_all exact zIX (X:=X) (es:=es) (g:=g) (js:=js) (k:=k) (pos:=pos) (n:=n) hc h hl hn hst
theorem zFd {H:Hp}{a:Addr}{ks:List (Key×V)} (h:H a=some (.dK ks)):Mut (H a):=by rw[h];trivial
theorem zJ9 {X:Cx}{o i e:Expr}{mo mi me:M.EM}{pos pos':Pos}{n:Nat} (hr:zy n X.A) (ho:ME X Θ o mo) (hi:ME X Θ i mi) (he:ME X Θ e me)
  (ha:∀ v,assign (.Subscript o i pos') X.env v=(do
   let ov <- holding [v] (eval o X.env)
   let iv <- holding [v,ov] (eval i X.env)
   standAt pos'
   holding [v,ov,iv] (setItem ov iv v)
   release [v,ov,iv] []):=by intro _;rfl)
  (hs:swapsWithSole [.Subscript o i pos'] e pos.line X.env=pure false:=by rfl) (hw:swappedStores [.Subscript o i pos'] e X.env=pure none:=by rfl) (h1:(assignEach [.Subscript o i pos'] X.env).map (·.2)=[assign (.Subscript o i pos') X.env]:=by rfl)
  (hs2:swapsWith e (some (.Subscript o i pos')) pos.line X.env=pure false:=by rfl):MS X Θ (.Assign [.Subscript o i pos'] e pos) (M.zLq mo mi me) :=
 (PS.or (zKd he (zKb ho hi zGe ha) hs hw h1) (zIM (by have:=hr.units;omega) ho hi he hs2)).imp fun D σ H ⟨ρ,σ',S,st,rp,h⟩=>by
  have h0:zr X.K Θ ρ H ((me σ' S).stm σ' fun y s=>(mo σ' s).stm σ' fun x s=>(mi σ' s).stm σ' fun k s=>(M.qw x k y s).stm σ' fun _ s=>.nx σ' s) D:=h
  clear h
  cases hE:me σ' S with
  | no=>rw[hE] at h0;exact h0.elim
  | exc a s=>rw[hE] at h0;exact h0.elim
  | ok y S1 =>
   rw[hE,M.R.stm_ok] at h0
   cases hO:mo σ' S1 with
   | no=>rw[hO] at h0;exact h0.elim
   | exc a s=>rw[hO] at h0;exact h0.elim
   | ok x S2 =>
    rw[hO,M.R.stm_ok] at h0
    cases hI:mi σ' S2 with
    | no=>rw[hI] at h0;exact h0.elim
    | exc a s=>rw[hI] at h0;exact h0.elim
    | ok k S3 =>
     rw[hI,M.R.stm_ok] at h0
     cases x with
     | ref p =>
      cases q:S3[p]? with
      | none=>simp only[M.qw,q] at h0;exact h0.elim
      | some ob =>
       cases ob with
       | lst xs =>
        cases k with
        | int j =>
         cases hj:M.ixN xs.length j with
         | none=>simp only[M.qw,q,hj] at h0;exact h0.elim
         | some j' =>
          simp only[M.qw,q,hj,M.R.stm_ok] at h0
          refine .inl ⟨ρ,σ',S,st,rp,?_⟩
          rw[hE]
          intro ρ1 H1 Y p1 l1 rp1 ry
          refine⟨ρ1,σ',S1,st.mono p1 l1,rp1,?_⟩
          rw[hO]
          intro ρ2 H2 Xv p2 l2 rp2 rx
          refine⟨ρ2,σ',S2,st.mono (p1.trans p2) (l1.trans l2),rp2,?_⟩
          rw[hI]
          intro ρ3 H3 Kv p3 l3 rp3 rk
          obtain⟨a,zs,rfl,ha,hx,rz⟩:=Jr rp3 (rx.mono p3 l3) q
          cases rk
          have le:=Le.put (Jv hx) (.lst (zs.set j' Y))
          refine⟨a,zs,j,j',rfl,rfl,hx,by rw[<- rz.length];exact hj,?_⟩
          exact h0 ρ3 _ σ (p1.trans (p2.trans p3)) (l1.trans (l2.trans (l3.trans le))) (rp3.put ha (Jv hx) ⟨_,z5,zJ.set (ry.mono (p2.trans p3) (l2.trans (l3.trans le))) j' (rz.mono (List.prefix_refl _) le)⟩) (st.mono (p1.trans (p2.trans p3)) (l1.trans (l2.trans (l3.trans le))))
        | _=>simp only[M.qw,q] at h0;exact h0.elim
       | dct kvs =>
        cases hk:(M.ZC k && decide (kvs.length < M.SZ)) with
        | false=>simp only[M.qw,q,hk] at h0;exact h0.elim
        | true =>
         have hk2:(if (M.ZC k && decide (kvs.length < M.SZ))=true then M.R.ok () (S3.set p (.dct (M.qz k y kvs))) else .no)=M.R.ok () (S3.set p (.dct (M.qz k y kvs))):=if_pos hk
         simp only[M.qw,q,hk2,M.R.stm_ok] at h0
         rw[Bool.and_eq_true] at hk
         refine .inr ⟨ρ,σ',S,st,rp,?_⟩
         rw[hE]
         intro ρ1 H1 Y p1 l1 rp1 ry
         refine⟨ρ1,σ',S1,st.mono p1 l1,rp1,?_⟩
         rw[hO]
         intro ρ2 H2 Xv p2 l2 rp2 rx
         refine⟨ρ2,σ',S2,st.mono (p1.trans p2) (l1.trans l2),rp2,?_⟩
         rw[hI]
         intro ρ3 H3 Kv p3 l3 rp3 rk
         obtain⟨a,rfl,ea⟩:=rx.mono p3 l3
         obtain⟨b,e1,ks,e2,r⟩:=rp3.obj _ _ q
         rw[ea] at e1;cases e1
         obtain⟨kk,hkk,rfl⟩:=Qn hk.1 rk
         have le:=Le.put (zFd e2) (.dK (ZK ks kk Y))
         refine⟨a,_,rfl,zDS.k e2 (by rw[<- Paired.length r,<- yq];exact of_decide_eq_true hk.2),?_⟩
         have r':DR X.K ρ3 (upd H3 a (.dK (ZK ks kk Y))) kvs ks:=Paired.mapP r fun a b z=>⟨z.1,z.2.mono (List.prefix_refl _) le⟩
         exact h0 ρ3 _ σ (p1.trans (p2.trans p3)) (l1.trans (l2.trans (l3.trans le))) (rp3.put ea (zFd e2) ⟨_,z5,DR.put r' hkk (ry.mono (p2.trans p3) (l2.trans (l3.trans le)))⟩) (st.mono (p1.trans (p2.trans p3)) (l1.trans (l2.trans (l3.trans le))))
       | fdc _=>simp only[M.qw,q] at h0;exact h0.elim
       | dtt _=>simp only[M.qw,q] at h0;exact h0.elim
       | ftt _=>simp only[M.qw,q] at h0;exact h0.elim
       | ins c fs=>simp only[M.qw,q] at h0;exact h0.elim
     | _=>exact h0.elim
end
end L2
namespace L2
open PySem PySem.Spec PyProof.Rows
section
variable {K:PySem.W.Frag}{Θ:Tab}
theorem zAH:∀ {xs:List V}{us:List Value},xs.length=us.length->(∀ (j:Nat) u,us[j]? = some u->∃ x,xs[j]? = some x/\zY x u)->zX xs us
 | [],[],_,_=>.nil
 | [],_::_,h,_=>by simp at h
 | _::_,[],h,_=>by simp at h
 | x::xs,u::us,h,k=>by
  obtain⟨y,e,r⟩:=k 0 u rfl
  cases e
  exact .cons r (zAH (by simpa using h) fun j u hu=>by
   obtain⟨y,e,r⟩:=k (j+1) u (by simpa using hu)
   exact⟨y,by simpa using e,r⟩)
theorem zJt {P:Program}{w:World}{k:Key}{v:Value} (h:(qA P w).is k v=true):zY (kV k) v:=by
 rcases jw (k:=k) (v:=v) h with ⟨i,t,rfl,rfl⟩ | ⟨x,t,rfl,rfl⟩
 ·exact⟨t,rfl⟩
 ·exact⟨t,rfl⟩
noncomputable def zCa (K:PySem.W.Frag):List V->Hp->VK->Prop:=fun xs H Q=>(∃ p ys,xs=[.ref p]/\(SqL K H p ys\/SqT K H p ys)/\∀ l,H l=none->Q (.ref l) (upd H l (.lst ys))) \/
 ∃ p ks,xs=[.ref p]/\H p=some (.dK ks)/\∀ l,H l=none->Q (.ref l) (upd H l (.lst (ks.map fun kv=>kV kv.1)))
theorem zEu {X:Cx}{k:Nat} (hr:zy k X.A):jU X (.type "list") (zCa X.K):=by
 intro pins s σ H xs us Q I r h
 rcases h with h | ⟨p,ks,rfl,hp,q⟩
 ·exact zCo pins s σ H xs us Q I r h
 ·obtain⟨u,rfl,ru⟩:=Zm r
  cases ru
  obtain⟨z,lo,vs,rv,dd⟩:=Js I.hok hp
  obtain⟨ep,da⟩:=dd.dictAt
  have hl:=rv.length
  refine wpAny_with_toks (n:=1) I.tk (PySem.W.kdl_call (PySem.W.kdl_dict lo) hr.hd da (by omega) fun h' tk acc c' keep hS it htk=>?_)
  obtain⟨hsz,hit⟩:=it
  refine⟨.ref s.heap.objs.size,_,I.laid (t':=tk) (o:=.lst (ks.map fun kv=>kV kv.1)) keep (Nat.le_refl _) ⟨by rw[List.length_map];exact z,acc.toList,c',zAH (by simp;omega) fun j u hu=>?_,by simpa using hS⟩ htk,rfl,q _ (I.hok.fresh (Nat.le_refl _))⟩
  obtain⟨k,x,e,hk⟩:=hit j u (by simpa using hu)
  have hj:j < ks.length:=by have:=(List.getElem?_eq_some_iff.mp e).1;omega
  have ek:(ks.map (·.1))[j]? = some k:=by rw[rv.keys,List.getElem?_map,e];rfl
  refine⟨kV k,?_,zJt hk⟩
  rw[List.getElem?_map] at ek ⊢
  cases q2:ks[j]? with
  | none=>rw[q2] at ek;cases ek
  | some kv=>rw[q2] at ek;cases ek;rfl
theorem zDH {ρ:List Addr}{H:Hp}:∀ {kvs:List (M.D×M.D)}{ks:List (Key×V)},DR K ρ H kvs ks->zJ K ρ H (kvs.map (·.1)) (ks.map fun kv=>kV kv.1)
 | _,_,.nil=>rfl
 | (d,_)::_,(k,_)::_,.cons h t=>by
  refine⟨_,_,rfl,?_,zDH t⟩
  have h1:Zy d k:=h.1
  cases d with
  | int i=>cases h1;rfl
  | str x=>obtain⟨rfl,ok⟩:=h1;exact⟨rfl,ok⟩
  | _=>exact h1.elim
theorem zEG:AdN K Θ M.zCT (zCa K):=by
 intro ρ H S xs Xs Q rp rxs h
 unfold M.zCT at h
 split at h
 ·obtain⟨Y,r,rfl,⟨a,zs,rfl,hq,rz⟩,rfl⟩:=rxs
  exact .inl ⟨a,zs,rfl,.inr hq,fun p hp=>zE.alloc h rp rz hp⟩
 ·obtain⟨Y,r,rfl,⟨a,zs,rfl,hq,rz⟩,rfl⟩:=rxs
  exact .inl ⟨a,zs,rfl,.inl hq.sq,fun p hp=>zE.alloc h rp rz hp⟩
 ·rename_i p
  obtain⟨Y,r,rfl,ry,rfl⟩:=rxs
  split at h
  ·rename_i ds e
   obtain⟨a,zs,rfl,ha,hx,rz⟩:=Jr rp ry e
   exact .inl ⟨a,zs,rfl,.inl (SqL.of hx),fun p hp=>zE.alloc h rp rz hp⟩
  ·rename_i kvs e
   obtain⟨a,rfl,ha⟩:=ry
   obtain⟨ks,e2,r⟩:=Qv rp ha e
   exact .inr ⟨a,ks,rfl,e2,fun p hp=>zE.alloc h rp (zDH r) hp⟩
  ·exact h.elim
 ·exact h.elim
end
end L2
namespace L2
open PySem PySem.Spec PyProof.Rows
section
variable {P:Program}{w:World}{A:Around}{E:Value->Shared->Prop}{s:Shared}
noncomputable def zLx (h:Heap) (z TI TO:Addr) (f0:Value) (b:Bool):Prop:=h.get? z=some { cls:=.type "zip",dict:=none,data:=.fields #[f0,.bool b,.bool false,.ref TI,.ref TO],slots:=#[] }
structure ZSt (z TI TO i1 i2 l1 l2:Addr) (xs ys:Array Value) (i:Nat) (h:Heap):Prop where
 zp:∃ f0 b,zLx h z TI TO f0 b/\((i=0/\f0=.none)\/∃ (T:Addr) (o:Obj),f0=rawInt T/\h.get? T=some o)
 ti:IsPair h TI (.ref i1) (.ref i2)
 to:∃ a b,IsPair h TO a b
 n1:h.IsTupleIter i1 l1 i
 n2:h.IsTupleIter i2 l2 i
 t1:h.IsTuple l1 xs
 t2:h.IsTuple l2 ys
structure ZLp (lo z TO i1 i2 S:Addr) (xs ys:List Value) (h0 h:Heap) (ps:List Addr):Prop where
 its:∀ (j:Nat) p,ps[j]? = some p->lo <= p/\∃ x y,xs[j]? = some x/\ys[j]? = some y/\IsPair h p x y
 keep:∀ b o,b≠S->b≠z->b≠TO->b≠i1->b≠i2->h0.get? b=some o->h.get? b=some o
 nd:ps.Nodup
end
end L2
namespace L2
open PySem PySem.Spec PyProof.Rows
inductive zHa:Hp->List (V×V)->List V->Hp->Prop
 | nil (H:Hp):zHa H [] [] H
 | cons {H H':Hp}{a:Addr}{x y:V}{r:List (V×V)}{zs:List V} (h:H a=none) (t:zHa (upd H a (.tup [x,y])) r zs H'):zHa H ((x,y)::r) (.ref a::zs) H'
noncomputable def zHi:List V->Hp->VK->Prop:=fun xs H Q=>∃ i,xs=[.int i]/\i.natAbs.log2 < 1920/\Q (.str (toString i)) H
theorem zB5 {X:Cx}:jU X (.type "str") zHi:=zDa
theorem zEP (i:Int):(Str.ofString (toString i))=ofT (M.Q0 i):=by
 rw[Str.ofString_eq_toList];rfl
theorem zEv (i:Int):okT (M.Q0 i):=List.all_eq_true.mpr fun c hc=>by
 obtain⟨d,_,rfl⟩:=List.mem_map.mp hc
 have:=d.valid
 rw[decide_eq_true_iff]
 rcases this with h | h
 ·exact Nat.lt_trans h (by decide)
 ·exact h.2
theorem zFV {K:PySem.W.Frag}{Θ:Tab}:AdN K Θ M.zFB zHi:=by
 intro ρ H S xs Xs Q rp rxs h
 unfold M.zFB at h
 split at h
 ·rename_i i
  obtain⟨Y,r,rfl,ry,rfl⟩:=rxs
  cases ry
  by_cases hc:M.qg i=true
  ·rw[if_pos hc] at h
   unfold M.qg at hc
   rw[decide_eq_true_iff] at hc
   refine⟨i,rfl,?_,?_⟩
   ·by_cases hz:i.natAbs=0
    ·rw[hz];decide
    ·exact Nat.lt_trans ((Nat.log2_lt hz).mpr (show i.natAbs < 2 ^ 64 from hc)) (by decide)
   ·show Q (.str (Str.ofString (toString i))) H
    rw[zEP]
    exact zE.here h rp ⟨rfl,zEv i⟩
  ·rw[if_neg hc] at h
   exact h.elim
 ·exact h.elim
end L2
namespace L2
open PySem PySem.Spec PyProof.Rows
section
variable {K:PySem.W.Frag}{Θ:Tab}
noncomputable def zHt (K:PySem.W.Frag):List V->Hp->VK->Prop:=fun xs H Q=>∃ p ys,xs=[.ref p]/\((SqL K H p ys/\∀ l,H l=none->Q (.ref l) (upd H l (.tup ys)))\/(SqT K H p ys/\Q (.ref p) H))
theorem J7 {X:Cx}:jU X (.type "tuple") (zHt X.K):=zCE
theorem zDU:AdN K Θ M.zAn (zHt K):=by
 intro ρ H S xs Xs Q rp rxs h
 unfold M.zAn at h
 split at h
 ·rename_i ds
  obtain⟨Y,r,rfl,ry,rfl⟩:=rxs
  obtain⟨a,zs,rfl,hq,rz⟩:=id ry
  exact⟨a,zs,rfl,.inr ⟨hq,zE.here h rp ry⟩⟩
 ·rename_i p
  obtain⟨Y,r,rfl,ry,rfl⟩:=rxs
  split at h
  ·rename_i ds e
   have e':S[p]? = some (.lst ds):=by
    unfold M.jO at e
    split at e
    ·rename_i ds' e1;cases e;exact e1
    ·cases e
   obtain⟨a,zs,rfl,ha,hx,rz⟩:=Jr rp ry e'
   exact⟨a,zs,rfl,.inl ⟨SqL.of hx,fun l hl=>h ρ _ _ (List.prefix_refl _) (Le.new hl _) (rp.aside hl _) ⟨l,zs,rfl,.inl (.inl z5),rz.mono (List.prefix_refl _) (Le.new hl _)⟩⟩⟩
  ·exact h.elim
 ·exact h.elim
end
end L2
namespace L2
open PySem PySem.Spec PyProof.Rows
structure Zz (K:PySem.W.Frag) (Θ:Tab) (c:Nat) (C:Addr) (N:List Str):Prop where
 tab:Θ c=some (C,N)
 cl:Cls K C
 no:∀ f∈N,QK K C f
 few:N.length < 999
 nd:N.Nodup
theorem zEK {α:Type}{Pr:α->Prop}{a:α}{l:List α} (h:Pr a) (k:∀ x∈l,Pr x):∀ x∈a::l,Pr x:=fun x hx=>(List.mem_cons.mp hx).elim (fun e=>by rw[e];exact h) (k x)
theorem zFM {X:Cx}{Θ:Tab}{st:Stmt}:MS X Θ st M.zCp:=zG0
theorem zDy {X:Cx}{Θ:Tab}{st:Stmt}:WS X Θ st M.zCp:=by with_unfolding_all exact zFM (X:=X) (Θ:=Θ) (st:=st)
structure zEi (P:Program) (w:World) (K:PySem.W.Frag) (mg:Str->Option Value) (base:Heap) (C:Addr) (m:Str) (k:Nat) (ps:List Str) (sp:Sp):Prop where
 ex:∃ f fd,jc P w K mg base CX0 k f fd ps sp/\ZB K fd ps []/\zG7 K C m f
structure zGn (P:Program) (w:World) (K:PySem.W.Frag) (mg:Str->Option Value) (base:Heap) (C:Addr) (x:Str) (k:Nat) (ps:List Str) (sp:Sp):Prop where
 ex:∃ f fd,jc P w K mg base CX0 k f fd ps sp/\ZB K fd ps []/\Mk K C f/\mg x=some (.ref C)
theorem zB3 {α:Type} [DecidableEq α]:∀ {l N:List α},l.Nodup->(∀ x∈l,x∈N)->l.length <= N.length
 | [],_,_,_=>Nat.zero_le _
 | a::l,N,h,k=>by
  have ha:=k a List.mem_cons_self
  have hn:=List.nodup_cons.mp h
  have h1:l.length <= (N.erase a).length:=zB3 hn.2 fun x hx=>(List.mem_erase_of_ne (show x≠a from fun e=>hn.1 (by rw[<- e];exact hx))).mpr (k x (List.mem_cons_of_mem _ hx))
  rw[List.length_erase_of_mem ha] at h1
  have h2:=List.length_pos_of_mem ha
  rw[List.length_cons]
  omega
theorem zAA (f:Str) (v:V):∀ fs:List (Str×V),∀ g,g∈(qK f v fs).map (·.1)->g=f\/g∈fs.map (·.1)
 | [],g,h=>by
  have h':g∈[f]:=h
  exact .inl (by simpa using h')
 | (k,x)::r,g,h=>by
  rw[show qK f v ((k,x)::r)=(if k=f then (k,v)::r else (k,x)::qK f v r) from rfl] at h
  by_cases hk:k=f
  ·rw[if_pos hk] at h
   exact .inr h
  ·rw[if_neg hk,List.map_cons] at h
   rcases List.mem_cons.mp h with e | h
   ·exact .inr (by rw[e];simp)
   ·rcases zAA f v r g h with e | e
    ·exact .inl e
    ·exact .inr (List.mem_cons_of_mem _ e)
theorem zAa (f:Str) (v:V):∀ fs:List (Str×V),(fs.map (·.1)).Nodup->((qK f v fs).map (·.1)).Nodup
 | [],_=>by show [f].Nodup;simp
 | (k,x)::r,h=>by
  rw[List.map_cons,List.nodup_cons] at h
  rw[show qK f v ((k,x)::r)=(if k=f then (k,v)::r else (k,x)::qK f v r) from rfl]
  by_cases hk:k=f
  ·rw[if_pos hk,List.map_cons,List.nodup_cons];exact h
  ·rw[if_neg hk,List.map_cons,List.nodup_cons]
   refine⟨fun m=>?_,zAa f v r h.2⟩
   rcases zAA f v r k m with e | e
   ·exact hk e
   ·exact h.1 e
theorem zAz {f:Str}:∀ {gs:List (Str×V)},f∉gs.map (·.1)->gs.lookup f=none
 | [],_=>rfl
 | (g,x)::r,h=>by
  rw[List.map_cons,List.mem_cons,not_or] at h
  have hb:(f == g)=false:=beq_eq_false_iff_ne.mpr h.1
  rw[List.lookup_cons,hb]
  exact zAz h.2
theorem zLg {P:Program}{w:World}{K:PySem.W.Frag}{mg:Str->Option Value}{base:Heap}{Θ:Tab}{k n:Nat}{f:Addr}{fd:FuncData}{ps:List Str}{q:M.F} (h:∀ ds s,q ds s=.no):jc P w K mg base CX0 k f fd ps (SpM K Θ n q) :=
 ⟨fun vs H Q E ⟨ρ,ds,S,_,_,_,z⟩=>by rw[h] at z;exact z.elim,fun A outer s H args us vs Q E _ _ _ _ _ ⟨ρ,ds,S,_,_,_,z⟩=>by rw[h] at z;exact z.elim⟩
section
variable {K:PySem.W.Frag}{Θ:Tab}{ρ:List Addr}{H:Hp}
theorem JZ.few {N:List Str}{fs:List (Option M.D)}{gs:List (Str×V)} (r:JZ K ρ H N fs gs):gs.length <= N.length:=by
 have:=zB3 r.nd r.within
 rwa [List.length_map] at this
theorem JZ.put {H':Hp}{N:List Str}{fs:List (Option M.D)}{gs:List (Str×V)}{i:Nat}{f:Str}{d:M.D}{v:V} (r:JZ K ρ H N fs gs) (hN:N.Nodup) (hi:N[i]? = some f) (le:Le H H') (rv:zG K ρ H' d v):JZ K ρ H' N (fs.set i (some d)) (qK f v gs):=by
 refine⟨by rw[List.length_set];exact r.len,zAa f v gs r.nd,fun g hg=>?_,fun j g e hj he=>?_⟩
 ·rcases zAA f v gs g hg with z | z
  ·rw[z];exact List.mem_of_getElem? hi
  ·exact r.within g z
 ·rw[Qa]
  by_cases hij:i=j
  ·subst hij
   rw[hi] at hj;cases hj
   rw[if_pos rfl]
   have hl:i < fs.length:=by rw[r.len];exact (List.getElem?_eq_some_iff.mp hi).1
   rw[List.getElem?_set_self hl] at he
   cases he
   exact⟨v,rfl,rv⟩
  ·rw[List.getElem?_set_ne hij] at he
   have hne:¬ g=f:=fun z=>hij (QD hN (by rw[hi]) (by rw[hj,z]))
   rw[if_neg hne]
   obtain⟨u,e1,e2⟩:=r.get j g e hj he
   exact⟨u,e1,e2.mono (List.prefix_refl _) le⟩
theorem zCb {S:M.S}{p c:Nat}{a C:Addr}{N:List Str}{fs:List (Option M.D)} (cm:Zz K Θ c C N) (rp:zR K Θ ρ S H) (ha:ρ[p]? = some a) (e:S[p]? = some (.ins c fs)):∃ dx gs,H a=some (.ins C dx gs)/\JZ K ρ H N fs gs:=by
 obtain⟨b,hb,C',dx,gs,N',h1,h2,h3⟩:=rp.obj p _ e
 rw[ha] at hb;cases hb
 rw[cm.tab] at h2;cases h2
 exact⟨dx,gs,h1,h3⟩
theorem zEE {a C dx:Addr}{gs:List (Str×V)} (h:H a=some (.ins C dx gs)):Mut (H a):=by rw[h];trivial
theorem zGx {S:M.S}{c i:Nat}{C:Addr}{N:List Str}{f:Str}{x:M.D}{X1:V}{Q:VK} (cm:Zz K Θ c C N) (hi:N[i]? = some f) (rp:zR K Θ ρ S H) (rx:zG K ρ H x X1) (h:zE K Θ (zG K) ρ H (M.zFK c i x S) Q) :
  ∃ a dx fs v,X1=.ref a/\H a=some (.ins C dx fs)/\fs.lookup f=some v/\Q v H:=by
 unfold M.zFK at h
 split at h
 ·rename_i p
  split at h
  ·rename_i c' fs e
   split at h
   ·rename_i hc
    subst hc
    split at h
    ·rename_i d ed
     obtain⟨a,rfl,ha⟩:=rx
     obtain⟨dx,gs,h1,h3⟩:=zCb cm rp ha e
     obtain⟨v,e1,rv⟩:=h3.get i f d hi ed
     exact⟨a,dx,gs,v,rfl,h1,e1,zE.here h rp rv⟩
    ·exact h.elim
   ·exact h.elim
  ·exact h.elim
 ·exact h.elim
theorem zKJ {X:Cx}{c i:Nat}{C:Addr}{N:List Str}{f:Str}{e:Expr}{m:M.EM}{pos:Pos} (cm:Zz X.K Θ c C N) (hi:N[i]? = some f) (he:ME X Θ e m) (hb:attributeBase e f X.env (eval e X.env)=eval e X.env:=by rfl):ME X Θ (.Attribute e f pos) (M.yX c i m) :=
 (zJw he hb).imp fun σ H Q ⟨ρ,σ',S,st,rp,h⟩=>⟨ρ,σ',S,st,rp,zE.bind h fun ρ1 H1 x X1 S1 p1 l1 rp1 rx h1=>by
  obtain⟨a,dx,fs,v,e1,e2,e3,q⟩:=zGx cm hi rp1 rx h1
  exact⟨a,C,dx,fs,v,e1,e2,cm.cl,cm.no f (List.mem_of_getElem? hi),e3,q⟩⟩
theorem yB {X:Cx}{c i:Nat}{C:Addr}{N:List Str}{f:Str}{e:Expr}{m:M.EM}{pos:Pos} (cm:Zz X.K Θ c C N) (hi:N[i]? = some f) (he:WE X Θ e m) (hb:attributeBase e f X.env (eval e X.env)=eval e X.env:=by rfl):WE X Θ (.Attribute e f pos) (M.yX c i m):=by with_unfolding_all exact zKJ (X:=X) (c:=c) (i:=i) (C:=C) (N:=N) (f:=f) (e:=e) (m:=m) (pos:=pos) cm hi he hb
theorem zHW {S:M.S}{c i:Nat}{C:Addr}{N:List Str}{f:Str}{x y:M.D}{X1 Y:V}{σ1:M.St}{σ:St}{D:ZT} (cm:Zz K Θ c C N) (hi:N[i]? = some f) (rp:zR K Θ ρ S H) (st:z7 K ρ H σ1 σ) (rx:zG K ρ H x X1) (ry:zG K ρ H y Y) (h:zr K Θ ρ H ((M.zC3 c i x y S).stm σ1 fun _ s=>.nx σ1 s) D) :
  ∃ a dx fs,X1=.ref a/\H a=some (.ins C dx fs)/\fs.length < 1000/\D.nx σ (upd H a (.ins C dx (qK f Y fs))):=by
 unfold M.zC3 at h
 split at h
 ·rename_i p
  split at h
  ·rename_i c' fs e
   split at h
   ·rename_i hc
    subst hc
    obtain⟨a,rfl,ha⟩:=rx
    obtain⟨dx,gs,h1,h3⟩:=zCb cm rp ha e
    have le:=Le.put (zEE h1) (.ins C dx (qK f Y gs))
    refine⟨a,dx,gs,rfl,h1,by have:=h3.few;have:=cm.few;omega,?_⟩
    exact h ρ _ σ (List.prefix_refl _) le (rp.put ha (zEE h1) ⟨C,dx,_,N,z5,cm.tab,h3.put cm.nd hi le (ry.mono (List.prefix_refl _) le)⟩) (st.mono (List.prefix_refl _) le)
   ·exact h.elim
  ·exact h.elim
 ·exact h.elim
theorem zJG {X:Cx}{c i:Nat}{C:Addr}{N:List Str}{f:Str}{o e:Expr}{mo m:M.EM}{pos pos':Pos} (cm:Zz X.K Θ c C N) (hi:N[i]? = some f) (ho:ME X Θ o mo) (he:ME X Θ e m) (hs:swapsWith e (some (.Attribute o f pos')) pos.line X.env=pure false:=by kernel_rfl):MS X Θ (.Assign [.Attribute o f pos'] e pos) (M.zA8 c i mo m) :=
 (zKk ho he hs).imp fun D σ H ⟨ρ,σ',S,st,rp,h⟩=>⟨ρ,σ',S,st,rp,zr.stm h fun ρ1 H1 y Y S1 p1 l1 rp1 ry h1=>⟨ρ1,σ',S1,st.mono p1 l1,rp1,zr.stm h1 fun ρ2 H2 x X1 S2 p2 l2 rp2 rx h2=>by
  obtain⟨a,dx,fs,e1,e2,e3,q⟩:=zHW cm hi rp2 (st.mono (p1.trans p2) (l1.trans l2)) rx (ry.mono p2 l2) h2
  exact⟨a,C,dx,fs,e1,e2,cm.cl,cm.no f (List.mem_of_getElem? hi),e3,q⟩⟩⟩
theorem zCi {X:Cx}{c i:Nat}{C:Addr}{N:List Str}{f:Str}{o e:Expr}{mo m:M.EM}{pos pos':Pos} (cm:Zz X.K Θ c C N) (hi:N[i]? = some f) (ho:WE X Θ o mo) (he:WE X Θ e m) (hs:swapsWith e (some (.Attribute o f pos')) pos.line X.env=pure false:=by kernel_rfl):WS X Θ (.Assign [.Attribute o f pos'] e pos) (M.zA8 c i mo m):=by with_unfolding_all exact zJG (X:=X) (c:=c) (i:=i) (C:=C) (N:=N) (f:=f) (o:=o) (e:=e) (mo:=mo) (m:=m) (pos:=pos) (pos':=pos') cm hi ho he hs
theorem zDt {N:List Str}{fs:List (Option M.D)}{gs:List (Str×V)}{m:Str} (r:JZ K ρ H N fs gs) (hm:m∉N):gs.lookup m=none:=zAz fun z=>hm (r.within m z)
theorem zHz {X:Cx}{c k kk n:Nat}{C:Addr}{N ps:List Str}{name:Str}{o e:Expr}{es:List Expr}{mo:M.EM}{m:M.AM}{f:M.F}{pos apos:Pos}{pl:Sem Bool} (cm:Zz X.K Θ c C N) (h:zEi X.prog X.w X.K X.mg X.base C name k ps (SpM X.K Θ (n+1) f)) (hr:zy kk X.A) (hk:k <= kk) (hm:name∉N) (ho:ME X Θ o mo) (ha:MA X Θ (e::es) m) (ar:Z5 m n) (hx:qr CX0 X E0:=by exact JH)
  (he:zv e=true:=by rfl) (hpl:es.all zv=true:=by rfl)
  (ht:eval (.Call (.Attribute o name apos) (e::es) [] pos) X.env=(do
   let ov <- eval o X.env
   standAt apos.atName
   let (f,first) <- holding [ov] (getMethod ov name pl)
   callWith pos f first (backTo pos (starEach (e::es) X.env)) (backToKw pos (keywordEach [] X.env))):=by rfl):ME X Θ (.Call (.Attribute o name apos) (e::es) [] pos) (M.qm c f mo m):=by
 obtain⟨g,fd,F,b,mt⟩:=h.ex
 refine (zIq ho cm.cl mt F (hr.mono hk) b .nil hx ha (j2 he) (ZJ hpl) ht).imp fun σ H Q ⟨ρ,σ',S,st,rp,h⟩=>⟨ρ,σ',S,st,rp,zE.bind h fun ρ1 H1 x X1 S1 p1 l1 rp1 rx h1=>?_⟩
 cases x with
 | ref p =>
  have h1':zE X.K Θ (zG X.K) ρ1 H1 (match S1[p]? with | some (.ins c' _)=>if c'=c then (m σ' S1).bind fun xs s=>f (.ref p::xs) s else .no | _=>.no) Q:=h1
  cases q:S1[p]? with
  | none=>rw[q] at h1';exact h1'.elim
  | some ob =>
   rw[q] at h1'
   cases ob with
   | ins c' fs =>
    by_cases hc:c'=c
    ·subst hc
     have h2:zE X.K Θ (zG X.K) ρ1 H1 (if c'=c' then (m σ' S1).bind fun xs s=>f (.ref p::xs) s else .no) Q:=h1'
     rw[if_pos rfl] at h2
     obtain⟨a,rfl,ha'⟩:=id rx
     obtain⟨dx,gs,e1,e2⟩:=zCb cm rp1 ha' q
     refine⟨a,dx,gs,rfl,e1,zDt e2 hm,ρ1,σ',S1,st.mono p1 l1,rp1,?_⟩
     cases hM:m σ' S1 with
     | no=>rw[hM] at h2;exact h2.elim
     | exc a s=>rw[hM] at h2;exact h2.elim
     | ok ds S2 =>
      rw[hM] at h2
      intro ρ2 H2 vs p2 l2 rp2 r2
      rw[List.append_nil]
      exact⟨ρ2,.ref p::ds,S2,by rw[List.length_cons,ar _ _ _ _ hM],⟨_,_,rfl,rx.mono p2 l2,r2⟩,rp2,zE.weak h2 p2 l2⟩
    ·have h2:zE X.K Θ (zG X.K) ρ1 H1 (if c'=c then (m σ' S1).bind fun xs s=>f (.ref p::xs) s else .no) Q:=h1'
     rw[if_neg hc] at h2
     exact h2.elim
   | lst _=>exact h1'.elim
   | dct _=>exact h1'.elim
   | fdc _=>exact h1'.elim
   | dtt _=>exact h1'.elim
   | ftt _=>exact h1'.elim
 | _=>exact h1.elim
theorem QQ {X:Cx}{c k kk n:Nat}{C:Addr}{N ps:List Str}{name:Str}{o e:Expr}{es:List Expr}{mo:M.EM}{m:M.AM}{f:M.F}{pos apos:Pos}{pl:Sem Bool} (cm:Zz X.K Θ c C N) (h:zEi X.prog X.w X.K X.mg X.base C name k ps (SpM X.K Θ (n+1) f)) (hr:zy kk X.A) (hk:k <= kk) (hm:name∉N) (ho:WE X Θ o mo) (ha:WA X Θ (e::es) m) (ar:Z5 m n) (hx:qr CX0 X E0:=by exact JH)
  (he:zv e=true:=by rfl) (hpl:es.all zv=true:=by rfl)
  (ht:eval (.Call (.Attribute o name apos) (e::es) [] pos) X.env=(do
   let ov <- eval o X.env
   standAt apos.atName
   let (f,first) <- holding [ov] (getMethod ov name pl)
   callWith pos f first (backTo pos (starEach (e::es) X.env)) (backToKw pos (keywordEach [] X.env))):=by rfl):WE X Θ (.Call (.Attribute o name apos) (e::es) [] pos) (M.qm c f mo m):=by with_unfolding_all exact zHz (X:=X) (c:=c) (k:=k) (kk:=kk) (n:=n) (C:=C) (N:=N) (ps:=ps) (name:=name) (o:=o) (e:=e) (es:=es) (mo:=mo) (m:=m) (f:=f) (pos:=pos) (apos:=apos) (pl:=pl) cm h hr hk hm ho ha ar hx he hpl ht
theorem zIS {X:Cx}{c k kk n nf:Nat}{C:Addr}{N ps:List Str}{x:Str}{e:Expr}{es:List Expr}{m:M.AM}{f:M.F}{pos p:Pos} (cm:Zz X.K Θ c C N) (h:zGn X.prog X.w X.K X.mg X.base C x k ps (SpM X.K Θ (n+1) f)) (hr:zy kk X.A) (hk:k+1 <= kk) (hn:N.length=nf) (hg:Gl X x) (ha:MA X Θ (e::es) m) (ar:Z5 m n) (hx:qr CX0 X E0:=by exact JH) (hdb:(x == ("__debug__" : Str))=false:=by decide)
  (he:zv e=true:=by rfl) (hpl:es.all zv=true:=by rfl):ME X Θ (.Call (.Name x p) (e::es) [] pos) (M.zCW c nf f m):=by
 obtain⟨g,fd,F,b,mk,hmg⟩:=h.ex
 refine (zIh mk F (hr.mono hk) hg hmg b .nil hx ha hdb (j2 he) (ZJ hpl)).imp fun σ H Q ⟨ρ,σ',S,st,rp,h⟩=>⟨ρ,σ',S,st,rp,?_⟩
 have h':zE X.K Θ (zG X.K) ρ H ((m σ' S).bind fun xs s=>(f (.ref s.length::xs) (s++[.ins c (List.replicate nf none)])).bind fun d s'=>if d=.non then .ok (.ref s.length) s' else .no) Q:=h
 cases hM:m σ' S with
 | no=>rw[hM] at h';exact h'.elim
 | exc a s=>rw[hM] at h';exact h'.elim
 | ok ds S1 =>
  rw[hM,M.R.bind_ok] at h'
  intro ρ1 H1 vs p1 l1 rp1 r1 y dx hy hdx hne
  rw[List.append_nil]
  have l2:Le H1 (upd H1 dx (.own y)):=Le.new hdx _
  have rp2:=rp1.aside hdx (.own y)
  have hy2:upd H1 dx (.own y) y=none:=by rw[zV (Ne.symm hne)];exact hy
  have l3:Le (upd H1 dx (.own y)) (upd (upd H1 dx (.own y)) y (.ins C dx [])):=Le.new hy2 _
  have pre:ρ1 <+: ρ1++[y]:=List.prefix_append _ _
  have rp3:zR X.K Θ (ρ1++[y]) (S1++[.ins c (List.replicate nf none)]) (upd (upd H1 dx (.own y)) y (.ins C dx [])):=by
   refine rp2.alloc hy2 ⟨C,dx,[],N,z5,cm.tab,by rw[List.length_replicate];exact hn.symm,List.nodup_nil,(fun f hf=>nomatch hf),fun i f d _ q=>?_⟩
   rw[List.getElem?_replicate] at q
   split at q<;>cases q
  have hlast:(ρ1++[y])[S1.length]? = some y:=by rw[<- rp1.len];simp
  refine⟨ρ1++[y],.ref S1.length::ds,_,by rw[List.length_cons,ar _ _ _ _ hM],⟨_,_,rfl,⟨y,rfl,hlast⟩,r1.mono pre (l2.trans l3)⟩,rp3,?_⟩
  refine zE.bind (zE.weak h' (p1.trans pre) (l1.trans (l2.trans l3))) fun ρ4 H4 d v S4 p4 l4 rp4 rv h4=>?_
  by_cases hd:d=.non
  ·subst hd
   rw[if_pos rfl] at h4
   cases rv
   exact⟨rfl,zE.here h4 rp4 ⟨y,rfl,Z7 p4 hlast⟩⟩
  ·rw[if_neg hd] at h4
   exact h4.elim
theorem zBo {X:Cx}{c k kk n nf:Nat}{C:Addr}{N ps:List Str}{x:Str}{e:Expr}{es:List Expr}{m:M.AM}{f:M.F}{pos p:Pos} (cm:Zz X.K Θ c C N) (h:zGn X.prog X.w X.K X.mg X.base C x k ps (SpM X.K Θ (n+1) f)) (hr:zy kk X.A) (hk:k+1 <= kk) (hn:N.length=nf) (hg:Gl X x) (ha:WA X Θ (e::es) m) (ar:Z5 m n) (hx:qr CX0 X E0:=by exact JH) (hdb:(x == ("__debug__" : Str))=false:=by decide)
  (he:zv e=true:=by rfl) (hpl:es.all zv=true:=by rfl):WE X Θ (.Call (.Name x p) (e::es) [] pos) (M.zCW c nf f m):=by with_unfolding_all exact zIS (X:=X) (c:=c) (k:=k) (kk:=kk) (n:=n) (nf:=nf) (C:=C) (N:=N) (ps:=ps) (x:=x) (e:=e) (es:=es) (m:=m) (f:=f) (pos:=pos) (p:=p) cm h hr hk hn hg ha ar hx hdb he hpl
end
end L2
namespace L2
open PySem PySem.Spec PyProof.Rows
noncomputable def SIt (b:Bool) (h:Heap) (it a:Addr) (i:Nat):Prop:=match b with | true=>h.IsListIter it a i | false=>h.IsTupleIter it a i
section
variable {P:Program}{w:World}{A:Around}{E:Value->Shared->Prop}{s:Shared}
structure ZAt (b1 b2:Bool) (z TI TO i1 i2 l1 l2:Addr) (i:Nat) (h:Heap):Prop where
 zp:IsZip h z TI TO .none
 ti:IsPair h TI (.ref i1) (.ref i2)
 to:∃ a b,IsPair h TO a b
 n1:SIt b1 h i1 l1 i
 n2:SIt b2 h i2 l2 i
end
theorem Inv.turnedL {X:Cx}{pins:List (Addr×Obj)}{σ:St}{H:Hp}{s:Shared}{h':Heap}{t':Nat}{ch:List Addr} (I:Inv X pins σ H s) (fp:∀ b∈ch,QW X pins H b)
  (k:∀ b q,b∉ch->s.heap.get? b=some q->h'.get? b=some q) (ht:0 < t'):Inv X pins σ H { s with heap:=h',toks:=t' }:=by
 have nch:∀ {b:Addr}{u:HO},H b=some u->b∉ch:=fun q z=>by rw[(fp _ z).1] at q;cases q
 refine I.step (g':=s.gens) (d':=s.drawn) (ch:=ch) (fun b hb=>⟨(fp b hb).2.2.2.1,(fp b hb).2.1,(fp b hb).2.2.2.2.1,(fp b hb).2.2.2.2.2⟩) (fun b q _ _ hc g _=>k b q hc g) (fun b q _ _ hc g _=>⟨q.slots,k b q hc g⟩)
  (fun _ _ _ _ n=>n) (fun b q hc g=>⟨q,k b q hc g⟩) (fun _ _ g=>g) (fun _ _ _ g=>g) (fun b ps g=>⟨#[],by rw[g];simp⟩) (fun m hm=>?_) (fun b u g=>?_) I.bare ht
 ·obtain⟨q,es,ep,ho,r⟩:=hm
  exact⟨q,es,ep,k _ q (fun z=>(fp _ z).2.1 rfl) ho,r⟩
 ·refine (I.hok b u g).stay (fun c v hc q=>?_) (fun c q=>q) fun c xs q=>q
  rcases hc with z | z
  ·rw[z] at q ⊢;exact k _ _ (nch g) q
  ·exact k _ _ (nch z) q
end L2
namespace L2
open PySem PySem.Spec PyProof.Rows
section
variable {P:Program}{w:World}{A:Around}{E:Value->Shared->Prop}{s:Shared}
set_option maxHeartbeats 4000000 in
end
end L2
namespace L2
open PySem PySem.Spec PyProof.Rows
theorem Inv.swapD {X:Cx}{pins:List (Addr×Obj)}{σ:St}{H:Hp}{s:Shared}{a:Addr}{u0 u1:HO} (I:Inv X pins σ H s) (e:H a=some u0) (n1:∀ xs,u0≠.tup xs) (n2:∀ o u,X.H₀ a≠some (.frz o u)) (n3:∀ ps,u0≠.tbl ps) (n4:∀ x,u0≠.own x)
  (new:jH X.prog X.w (upd H a u1) s.heap a u1):Inv X pins σ (upd H a u1) s:=by
 have nn:∀ {b},H b=none->b≠a:=fun z q=>by rw[q,e] at z;cases z
 refine⟨I.ok,I.os,I.bare,⟨I.base.keep,I.base.slot,fun b ob q n hx=>?_,I.base.there,fun b xs q=>?_,fun b ob u q=>?_,fun b ps q=>?_⟩,I.loc,I.cell,?_,fun x c q=>?_,fun p hp'=>?_,fun b u q=>?_,I.len,I.tk⟩
 ·have z:=I.base.free b ob q n hx
  rw[zV (nn z)];exact z
 ·have z:=I.base.tups b xs q
  rw[zV (fun w=>by rw[w,e] at z;cases z;exact n1 xs rfl)];exact z
 ·have z:=I.base.frzs b ob u q
  rw[zV (fun w=>by rw[w] at q;exact n2 _ _ q)];exact z
 ·obtain⟨mo,z⟩:=I.base.tbls b ps q
  exact⟨mo,by rw[zV (fun w=>by rw[w,e] at z;cases z;exact n3 _ rfl)];exact z⟩
 ·rw[zV (nn I.free)];exact I.free
 ·rw[zV (nn (I.freeC x c q))];exact I.freeC x c q
 ·obtain⟨e1,e2,e3,e4,e5⟩:=I.pin p hp'
  exact⟨e1,by rw[zV (nn e2)];exact e2,e3,e4,e5⟩
 ·by_cases hb:b=a
  ·subst hb;rw[z5] at q;cases q;exact new
  ·rw[zV hb] at q
   exact (I.hok b u q).stay (fun _ _ _ q=>q) (fun c z=>by rw[zV (fun w=>by rw[w,e] at z;cases z;exact n4 _ rfl)];exact z) fun c xs z=>by rw[zV (fun w=>by rw[w,e] at z;cases z;exact n1 _ rfl)];exact z
noncomputable def wk:HO->Bool
 | .dK _=>true
 | .ext _=>true
 | _=>false
theorem Inv.dict_base {X:Cx}{pins:List (Addr×Obj)}{σ:St}{H:Hp}{s:Shared}{a:Addr}{u:HO} (hu:wk u=true) (I:Inv X pins σ H s) (e:H a=some u):∀ o u,X.H₀ a≠some (.frz o u):=fun o u q=>by
 have z:=I.base.frzs a o u q
 rw[e] at z;cases z;cases hu
theorem Inv.thaw {X:Cx}{pins:List (Addr×Obj)}{σ:St}{H:Hp}{s:Shared}{a:Addr}{o:Obj}{u:HO} (hu:wk u=true) (I:Inv X pins σ H s) (e:H a=some (.frz o u)) (n2:∀ o u,X.H₀ a≠some (.frz o u)):Inv X pins σ (upd H a u) s:=by
 obtain⟨_,z⟩:=(show jH X.prog X.w H s.heap a (.frz o u) from I.hok a _ e)
 refine I.swapD e (fun _ q=>nomatch q) n2 (fun _ q=>nomatch q) (fun _ q=>nomatch q) ?_
 cases u with
 | dK _=>exact z
 | ext _=>exact z
 | _=>cases hu
theorem zDX:entryFor table "dict_itemiterator.__iter__" = some Builtin.«dict_keyiterator.__iter__» :=
 entryFor_alias (id' := "dict_keyiterator.__iter__") (by kernel_rfl) (by first | rfl | decide +kernel | (unfold String.splitOn;simp +decide [String.splitOnAux])) (by decide +kernel) (by kernel_rfl)
section
variable {K:PySem.W.Frag}{Θ:Tab}{ρ:List Addr}{H H':Hp}
mutual
theorem zG.move (hT:∀ b xs,SqT K H b xs->SqT K H' b xs) (hR:∀ b xs,Zw K H b xs->Zw K H' b xs):∀ {d:M.D}{v:V},zG K ρ H d v->zG K ρ H' d v
 | .non,_,h=>h
 | .bl _,_,h=>h
 | .int _,_,h=>h
 | .str _,_,h=>h
 | .ty _,_,h=>h
 | .ref _,_,h=>h
 | .tup _,_,⟨a,xs,e,h,r⟩=>⟨a,xs,e,hT a xs h,zJ.move hT hR r⟩
 | .ro _,_,⟨a,xs,e,h,r⟩=>⟨a,xs,e,hR a xs h,zJ.move hT hR r⟩
theorem zJ.move (hT:∀ b xs,SqT K H b xs->SqT K H' b xs) (hR:∀ b xs,Zw K H b xs->Zw K H' b xs):∀ {ds:List M.D}{xs:List V},zJ K ρ H ds xs->zJ K ρ H' ds xs
 | [],_,h=>h
 | _::_,_,⟨y,ys,e,h,r⟩=>⟨y,ys,e,zG.move hT hR h,zJ.move hT hR r⟩
end
section
variable {a:Addr}{o:Obj}{u:HO} (hu:wk u=true) (ha:H a=some (.frz o u))
include hu ha
theorem zF4:∀ b xs,SqT K H b xs->SqT K (upd H a u) b xs:=fun b xs h=>by
 rcases h with (h | ⟨o',h⟩) | h
 ·exact .inl (.inl (by rw[zV (fun z=>by rw[z,ha] at h;cases h)];exact h))
 ·exact .inl (.inr ⟨o',by rw[zV (fun z=>by rw[z,ha] at h;cases h;cases hu)];exact h⟩)
 ·exact .inr h
theorem zF8:∀ b xs,Zw K H b xs->Zw K (upd H a u) b xs:=fun b xs h=>by
 rcases h with ⟨o',h⟩ | h
 ·exact .inl ⟨o',by rw[zV (fun z=>by rw[z,ha] at h;cases h;cases hu)];exact h⟩
 ·exact .inr h
theorem zG.thaw {d:M.D}{v:V} (r:zG K ρ H d v):zG K ρ (upd H a u) d v:=zG.move (zF4 hu ha) (zF8 hu ha) r
theorem z7.thaw {σ':M.St}{σ:St} (h:z7 K ρ H σ' σ):z7 K ρ (upd H a u) σ' σ :=
 ⟨h.len,fun i d e=>let ⟨v,h1,h2⟩:=h.get i d e;⟨v,h1,zG.thaw hu ha h2⟩⟩
theorem TDr.thaw {p:M.D×M.D}{q:M.D×Addr×Value} (z:TDr K ρ H p q):TDr K ρ (upd H a u) p q:=⟨z.1,z.2.1,zG.thaw hu ha z.2.2.1,let ⟨v,a1,a2⟩:=z.2.2.2;⟨v,zG.thaw hu ha a1,a2⟩⟩
theorem ObR.thaw {b:Addr}{ob:M.O} (nb:b≠a) (h:ObR K Θ ρ H b ob):ObR K Θ ρ (upd H a u) b ob:=by
 have e:=zV (H:=H) (o:=u) nb
 cases ob with
 | lst ds=>obtain⟨xs,e1,r⟩:=h;exact⟨xs,e.trans e1,zJ.move (zF4 hu ha) (zF8 hu ha) r⟩
 | dct kvs=>obtain⟨ks,e1,r⟩:=h;exact⟨ks,e.trans e1,Paired.mapP r fun p q z=>⟨z.1,zG.thaw hu ha z.2⟩⟩
 | dtt kvs=>obtain⟨xs,e1,r⟩:=h;exact⟨xs,e.trans e1,Paired.mapP r fun p q z=>TDr.thaw hu ha z⟩
 | ftt kvs=>obtain⟨o',xs,e1,r⟩:=h;exact⟨o',xs,e.trans e1,Paired.mapP r fun p q z=>TDr.thaw hu ha z⟩
 | fdc kvs=>obtain⟨o',ks',e1,r⟩:=h;exact⟨o',ks',e.trans e1,Paired.mapP r fun p q z=>⟨z.1,zG.thaw hu ha z.2⟩⟩
 | ins c fs =>
  obtain⟨C,dx,gs,N,e1,e2,r⟩:=h
  exact⟨C,dx,gs,N,e.trans e1,e2,r.len,r.nd,r.within,fun i f d h1 h2=>let ⟨v,k1,k2⟩:=r.get i f d h1 h2;⟨v,k1,zG.thaw hu ha k2⟩⟩
theorem zR.thaw {S:M.S}{i:Nat}{t:M.O} (h:zR K Θ ρ S H) (hi:ρ[i]? = some a) (r:ObR K Θ ρ (upd H a u) a t):zR K Θ ρ (S.set i t) (upd H a u):=by
 refine⟨by simp[h.len],h.nd,fun j ob q=>?_⟩
 by_cases hj:i=j
 ·subst hj
  by_cases hl:i < S.length
  ·rw[List.getElem?_set_self hl] at q
   cases q
   exact⟨a,hi,r⟩
  ·rw[List.getElem?_eq_none (by rw[List.length_set];omega)] at q
   cases q
 ·rw[List.getElem?_set_ne hj] at q
  obtain⟨b,h1,h2⟩:=h.obj j ob q
  exact⟨b,h1,ObR.thaw hu ha (fun z=>hj (QD h.nd hi (z ▸ h1))) h2⟩
end
theorem zFq {α β:Type}{R:α->β->Prop}{xs:List α}{ys:List β}{i:Nat}{y:β} (h:Paired R xs ys) (e:ys[i]? = some y):∃ x,xs[i]? = some x/\R x y:=by
 induction h generalizing i with
 | nil=>simp at e
 | cons h t ih =>
  cases i with
  | zero=>cases e;exact⟨_,rfl,h⟩
  | succ n =>
   obtain⟨q,hq,r⟩:=ih (by simpa using e)
   exact⟨q,by simpa using hq,r⟩
end
noncomputable def zCP (H₀:Hp) (H:Hp) (Q:Hp->Prop):Prop:=∃ a o u,wk u=true/\H a=some (.frz o u)/\(∀ o u,H₀ a≠some (.frz o u))/\Q (upd H a u)
noncomputable def zHh (H₀:Hp) (D:ZT):ZT where
 nx:=fun σ H=>zCP H₀ H (D.nx σ)
 rt:=fun v H=>zCP H₀ H (D.rt v)
 bk:=fun σ H=>zCP H₀ H (D.bk σ)
 ct:=fun σ H=>zCP H₀ H (D.ct σ)
theorem zI6 {X:Cx}{st:Stmt}{t:TS} (h:PS X st t):PS X st fun D σ H=>t (zHh X.H₀ D) σ H:=fun pins s σ H D I q=>thn (h pins s σ H _ I q) fun f s1 z=>by
 cases f with
 | next=>obtain⟨σ1,H1,I1,a,o,u,hu,e,n,d⟩:=z;exact⟨σ1,_,I1.thaw hu e n,d⟩
 | brk=>obtain⟨σ1,H1,I1,a,o,u,hu,e,n,d⟩:=z;exact⟨σ1,_,I1.thaw hu e n,d⟩
 | cont=>obtain⟨σ1,H1,I1,a,o,u,hu,e,n,d⟩:=z;exact⟨σ1,_,I1.thaw hu e n,d⟩
 | ret _=>obtain⟨v,σ1,H1,I1,r,a,o,u,hu,e,n,d⟩:=z;exact⟨v,σ1,_,I1.thaw hu e n,r,d⟩
section
variable {X:Cx}{Θ:Tab}
theorem zEg {K:PySem.W.Frag}{H₀:Hp}{ρ:List Addr}{H:Hp}{i:Nat}{a:Addr}{o:Obj}{u:HO}{f t:M.O}{r:M.RS}{D:ZT} (hu:wk u=true) (hi:ρ[i]? = some a) (ha:H a=some u) (n:∀ o u,H₀ a≠some (.frz o u)) (ob:∀ {ρ':List Addr}{H':Hp},ρ <+: ρ'->Le H H'->H' a=some u->ObR K Θ ρ' H' a t)
  (h:zr K Θ ρ H (M.zCU i f t r) D):zr K Θ ρ (upd H a (.frz o u)) r (zHh H₀ D):=by
 have key:∀ {ρ':List Addr}{H':Hp}{S:M.S},ρ <+: ρ'->Le (upd H a (.frz o u)) H'->zR K Θ ρ' S H'->H' a=some (.frz o u)/\Le H (upd H' a u)/\zR K Θ ρ' (S.set i t) (upd H' a u):=fun {ρ' H' S} p l rp=>by
  have e:=l.frzs a o u z5
  have le:Le H (upd H' a u):=by
   refine⟨fun b xs q=>?_,fun b ob u' q=>?_⟩
   ·have nb:b≠a:=fun z=>by rw[z,ha] at q;cases q;cases hu
    rw[zV nb]
    exact l.tups b xs (by rw[zV nb];exact q)
   ·have nb:b≠a:=fun z=>by rw[z,ha] at q;cases q;cases hu
    rw[zV nb]
    exact l.frzs b ob u' (by rw[zV nb];exact q)
  exact⟨e,le,rp.thaw hu e (Z7 p hi) (ob p le z5)⟩
 cases r with
 | nx σ1 S1 =>
  intro ρ' H' σ p l rp st
  obtain⟨e,le,rp'⟩:=key p l rp
  have h':zr K Θ ρ H (if S1[i]? = some f then .nx σ1 (S1.set i t) else .no) D:=h
  split at h'
  ·exact⟨a,o,u,hu,e,n,h' ρ' _ σ p le rp' (z7.thaw hu e st)⟩
  ·exact h'.elim
 | bk σ1 S1 =>
  intro ρ' H' σ p l rp st
  obtain⟨e,le,rp'⟩:=key p l rp
  have h':zr K Θ ρ H (if S1[i]? = some f then .bk σ1 (S1.set i t) else .no) D:=h
  split at h'
  ·exact⟨a,o,u,hu,e,n,h' ρ' _ σ p le rp' (z7.thaw hu e st)⟩
  ·exact h'.elim
 | ct σ1 S1 =>
  intro ρ' H' σ p l rp st
  obtain⟨e,le,rp'⟩:=key p l rp
  have h':zr K Θ ρ H (if S1[i]? = some f then .ct σ1 (S1.set i t) else .no) D:=h
  split at h'
  ·exact⟨a,o,u,hu,e,n,h' ρ' _ σ p le rp' (z7.thaw hu e st)⟩
  ·exact h'.elim
 | rt d S1 =>
  intro ρ' H' v p l rp rv
  obtain⟨e,le,rp'⟩:=key p l rp
  have h':zr K Θ ρ H (if S1[i]? = some f then .rt d (S1.set i t) else .no) D:=h
  split at h'
  ·exact⟨a,o,u,hu,e,n,h' ρ' _ v p le rp' (zG.thaw hu e rv)⟩
  ·exact h'.elim
 | exc e σ1 S1=>exact h
 | no=>exact h
end
end L2
namespace L2
open PySem PySem.Spec PyProof.Rows
noncomputable abbrev Qx (X:Cx) (N:List Str):Cx:={ X with N:=N }
theorem zC1 {α:Type}{σ:List (Option α)}{i j:Nat}{v:α} (h:(σ.set i none)[j]? = some (some v)):j≠i/\σ[j]? = some (some v):=by
 by_cases e:i=j
 ·subst e
  by_cases hl:i < σ.length
  ·rw[List.getElem?_set_self hl] at h;cases h
  ·rw[List.getElem?_eq_none (by rw[List.length_set];omega)] at h;cases h
 ·rw[List.getElem?_set_ne e] at h
  exact⟨fun z=>e z.symm,h⟩
theorem Inv.renamed {X:Cx}{N:List Str}{i:Nat}{pins:List (Addr×Obj)}{σ:St}{H:Hp}{s:Shared} (I:Inv X pins σ H s) (hl:N.length=X.N.length) (hN:∀ j,j≠i->N[j]? = X.N[j]?):Inv (Qx X N) pins (σ.set i none) H s where
 ok:=⟨I.ok.mod,I.ok.kind,I.ok.glob,I.ok.blt,I.ok.above,I.ok.inj,I.ok.has,I.ok.cab,I.ok.hd,I.ok.frames,I.ok.stk,I.ok.exf,I.ok.bs,I.ok.bsz,I.ok.noex,I.ok.exfs,I.ok.funs,I.ok.frf⟩
 os:=I.os
 bare:=I.bare
 base:=I.base
 loc:=by
  obtain⟨m,h1,h2⟩:=I.loc
  refine⟨m,h1,fun j x v hj hv=>?_⟩
  obtain⟨ne,hv'⟩:=zC1 hv
  exact h2 j x v (by rw[<- hN j ne];exact hj) hv'
 cell:=I.cell
 free:=I.free
 freeC:=I.freeC
 pin:=I.pin
 hok:=I.hok
 len:=by rw[List.length_set,I.len];exact hl.symm
 tk:=I.tk
noncomputable abbrev zLF (i:Nat) (D:ZT):ZT:=⟨fun σ H=>D.nx (σ.set i none) H,D.rt,fun σ H=>D.bk (σ.set i none) H,fun σ H=>D.ct (σ.set i none) H⟩
theorem zI1 {X:Cx}{i:Nat}{st:Stmt}{t:TS}{N:List Str} (hl:N.length=X.N.length) (hN:∀ j,j≠i->N[j]? = X.N[j]?) (h:PS (Qx X N) st t):PS X st fun D σ H=>t (zLF i D) (σ.set i none) H:=fun pins s σ H D I q=>thn (h pins s _ H _ (I.renamed hl hN) q) fun f s1 z=>by
 have back:∀ {σ1:St}{H1:Hp},Inv (Qx X N) pins σ1 H1 s1->Inv X pins (σ1.set i none) H1 s1:=fun J=>Inv.renamed (X:=Qx X N) (N:=X.N) (i:=i) J hl.symm fun j ne=>(hN j ne).symm
 cases f with
 | next=>obtain⟨σ1,H1,I1,d⟩:=z;exact⟨_,H1,back I1,d⟩
 | brk=>obtain⟨σ1,H1,I1,d⟩:=z;exact⟨_,H1,back I1,d⟩
 | cont=>obtain⟨σ1,H1,I1,d⟩:=z;exact⟨_,H1,back I1,d⟩
 | ret u=>obtain⟨v,σ1,H1,I1,r,d⟩:=z;exact⟨v,_,H1,back I1,r,d⟩
theorem z7.forget {K:PySem.W.Frag}{ρ:List Addr}{H:Hp}{σ':M.St}{σ:St} (h:z7 K ρ H σ' σ) (i:Nat):z7 K ρ H (σ'.set i none) (σ.set i none):=⟨by rw[List.length_set,List.length_set];exact h.len,fun j d e=>by
 obtain⟨ne,e'⟩:=zC1 e
 obtain⟨v,h1,h2⟩:=h.get j d e'
 exact⟨v,by rw[List.getElem?_set_ne (Ne.symm ne)];exact h1,h2⟩⟩
theorem zAl {N N':List Str}{i:Nat} (h:N'=N.set i ""):N'.length=N.length/\∀ j,j≠i->N'[j]? = N[j]? := by
 subst h
 exact⟨List.length_set,fun j ne=>List.getElem?_set_ne (Ne.symm ne)⟩
theorem zIV {X:Cx}{Θ:Tab}{i:Nat}{stm:Stmt}{mb:M.SM}{N:List Str} (hN:N=X.N.set i "") (hb:MS (Qx X N) Θ stm mb):MS X Θ stm (M.zE1 i mb) :=
 (zI1 (zAl hN).1 (zAl hN).2 hb).imp fun D σ H ⟨ρ,σ',S,st,rp,h⟩=>⟨ρ,σ'.set i none,S,st.forget i,rp,by
  have h':zr X.K Θ ρ H (M.zE9 i (mb (σ'.set i none) S)) D:=h
  cases q:mb (σ'.set i none) S with
  | nx σ1 S1=>rw[q] at h';exact fun ρ1 H1 σv p l rp1 st1=>h' ρ1 H1 _ p l rp1 (st1.forget i)
  | bk σ1 S1=>rw[q] at h';exact fun ρ1 H1 σv p l rp1 st1=>h' ρ1 H1 _ p l rp1 (st1.forget i)
  | ct σ1 S1=>rw[q] at h';exact fun ρ1 H1 σv p l rp1 st1=>h' ρ1 H1 _ p l rp1 (st1.forget i)
  | rt d S1=>rw[q] at h';exact fun ρ1 H1 σv p l rp1 st1=>h' ρ1 H1 _ p l rp1 st1
  | exc e a s=>rw[q] at h';exact h'
  | no=>rw[q] at h';exact h'⟩
theorem zFi {X:Cx}{Θ:Tab}{i:Nat}{stm:Stmt}{mb:M.SM}{N:List Str} (hN:N=X.N.set i "") (hb:WS (Qx X N) Θ stm mb):WS X Θ stm (M.zE1 i mb):=by with_unfolding_all exact zIV (X:=X) (Θ:=Θ) (i:=i) (stm:=stm) (mb:=mb) (N:=N) hN hb
end L2
namespace L2
open PySem PySem.Spec PyProof.Rows PySem.Builtin.Str
theorem zII {K:PySem.W.Frag}{Θ:Tab}:AdN K Θ M.zCR (fun xs H Q=>∃ i j,xs=[.int i,.int j]/\Q (.int (if j < i then j else i)) H):=by
 intro ρ H S xs Xs Q rp rxs h
 unfold M.zCR at h
 split at h
 ·rename_i i j
  obtain⟨Y,r,rfl,ry,Z,r2,rfl,rz,rfl⟩:=rxs
  cases ry;cases rz
  exact⟨i,j,rfl,zE.here h rp rfl⟩
 ·exact h.elim
end L2
namespace L2
open PySem PySem.Spec PyProof.Rows PySem.Builtin.Str
noncomputable def zHg (K:PySem.W.Frag):R2:=fun x y H Q=>∃ a b ys,x=.ref a/\y=.ref b/\SqT K H a []/\SqT K H b ys/\Q (.ref b) H
theorem yV {X:Cx}:OpR X (binaryOp .Add) (zHg X.K):=by
 intro pins s σ H x y v u Q I rx ry h
 obtain⟨a,b,ys,rfl,rfl,ha,hb,q⟩:=h
 cases rx
 cases ry
 obtain⟨its,r1,p1,_⟩:=I.tuple ha
 obtain⟨its2,r2,p2,_⟩:=I.tuple hb
 cases r1
 obtain⟨⟨cls,dd,data,sl⟩,ho,hc,n,hd⟩:=id p1
 obtain⟨⟨cls2,dd2,data2,sl2⟩,ho2,hc2,n2,hd2⟩:=id p2
 simp only at hc hd hc2 hd2
 subst hc hd hc2 hd2
 exact concat_meets ⟨_,ho,rfl⟩ ⟨_,ho2,rfl⟩ noFill_tuple_add seq_tuple_add PySem.F.slot_tuple_add PySem.F.entry_tuple_add (PySem.F.args_tuple_add_2 _ _)
  (tuple_addW0 _ _ _ _ n n2 dd dd2 sl sl2 rfl) ⟨ho,ho2,⟨.ref b,H,I,rfl,q⟩⟩
theorem yO {K:PySem.W.Frag}{Θ:Tab}:Ad2 K Θ M.jj (fun x y H Q=>(zGR x y H Q\/zEx K x y H Q)\/zHg K x y H Q):=by
 intro ρ H S x y X Y Q rp rx ry h
 by_cases hc:∃ b,x=.tup []/\y=.tup b
 ·obtain⟨b,rfl,rfl⟩:=hc
  obtain⟨l,xs,rfl,hq,r⟩:=id rx
  obtain⟨l',ys,rfl,hq',r'⟩:=id ry
  have hx:xs=[]:=List.length_eq_zero_iff.mp r.length.symm
  subst hx
  exact .inr ⟨l,l',ys,rfl,rfl,hq,hq',zE.here h rp ⟨l',ys,rfl,hq',r'⟩⟩
 ·have e:M.jj x y S=M.qE x y S:=by
   unfold M.jj
   split
   ·exact absurd ⟨_,rfl,rfl⟩ hc
   ·rfl
  rw[e] at h
  exact .inl (qd ρ H S x y X Y Q rp rx ry h)
end L2
namespace L2
open PySem PySem.Spec PyProof.Rows PySem.SeqAt
section
variable (w:World)
noncomputable def haD:Nat->M.D->Int
 | _,.non=>reduceHash 0xFCA86420
 | _,.int i=>hashInt i
 | _,.str x=>hashStr w (ofT x)
 | n+1,.tup ds=>reduceHash (Builtin.Tuple.tupleHashOf (ds.map (haD n)))
 | _,_=>0
end
noncomputable def drD:Nat->M.D->Nat
 | n+1,.tup ds=>(ds.map (drD n)).sum+1
 | _,_=>1
mutual
inductive IsV (h:Heap):Nat->M.D->Value->Prop
 | non {n:Nat}:IsV h n .non .none
 | int {n:Nat}{i:Int}{t:Tok}:IsV h n (.int i) (.int i t)
 | str {n:Nat}{x:M.T}{t:Tok}:IsV h n (.str x) (.str (ofT x) t)
 | tup {n:Nat}{ds:List M.D}{a:Addr}{us:List Value}:h.IsTuple a us.toArray->qH h n ds us->IsV h (n+1) (.tup ds) (.ref a)
inductive qH (h:Heap):Nat->List M.D->List Value->Prop
 | nil {n:Nat}:qH h n [] []
 | cons {n:Nat}{d:M.D}{ds:List M.D}{u:Value}{us:List Value}:IsV h n d u->qH h n ds us->qH h n (d::ds) (u::us)
end
theorem zED {h:Heap}{a:Addr}{x y:List Value} (p:h.IsTuple a x.toArray) (q:h.IsTuple a y.toArray):x=y:=by
 obtain⟨o,e,_,n,d⟩:=p
 obtain⟨o',e',_,n',d'⟩:=q
 rw[e] at e'
 cases e'
 rw[d] at d'
 injection d' with z _
 simpa using z
section
variable {h h':Heap}
mutual
theorem IsV.inj:∀ {n:Nat}{x y:M.D}{v:Value},IsV h n x v->IsV h n y v->x=y
 | _,_,_,_,.non,b=>by cases b;rfl
 | _,_,_,_,.int,b=>by cases b;rfl
 | _,_,_,_,.str (x:=x),b=>by
  generalize hv:ofT x=z at b
  cases b
  rw[Qw hv]
 | _,_,_,_,.tup p r,b=>by
  cases b with
  | tup q t=>rw[zED p q] at r;rw[qH.inj r t]
theorem qH.inj:∀ {n:Nat}{x y:List M.D}{v:List Value},qH h n x v->qH h n y v->x=y
 | _,_,_,_,.nil,b=>by cases b;rfl
 | _,_,_,_,.cons p r,b=>by
  cases b with
  | cons q t=>rw[IsV.inj p q,qH.inj r t]
end
mutual
theorem IsV.keep (k:∀ a us,h.IsTuple a us->h'.IsTuple a us):∀ {n:Nat}{x:M.D}{v:Value},IsV h n x v->IsV h' n x v
 | _,_,_,.non=>.non
 | _,_,_,.int=>.int
 | _,_,_,.str=>.str
 | _,_,_,.tup p r=>.tup (k _ _ p) (qH.keep k r)
theorem qH.keep (k:∀ a us,h.IsTuple a us->h'.IsTuple a us):∀ {n:Nat}{x:List M.D}{v:List Value},qH h n x v->qH h' n x v
 | _,_,_,.nil=>.nil
 | _,_,_,.cons p r=>.cons (IsV.keep k p) (qH.keep k r)
end
theorem qH.len:∀ {n:Nat}{x:List M.D}{v:List Value},qH h n x v->x.length=v.length
 | _,_,_,.nil=>rfl
 | _,_,_,.cons _ r=>by rw[List.length_cons,List.length_cons,r.len]
theorem qH.at:∀ {n:Nat}{x:List M.D}{v:List Value},qH h n x v->∀ (j:Nat) (h1:j < x.length) (h2:j < v.length),IsV h n x[j] v[j]
 | _,_,_,.cons p r,0,_,_=>p
 | _,_,_,.cons p r,j+1,h1,h2=>r.at j (by simpa using h1) (by simpa using h2)
end
section
variable {A:Around}{s:Shared}
theorem zIL (x y:M.T):(ofT x == ofT y)=decide (x=y):=by
 by_cases e:x=y
 ·subst e;simp
 ·rw[decide_eq_false e]
  exact beq_false_of_ne fun z=>e (Qw z)
theorem zKn {x y:List M.D}:((List.range (min x.length y.length)).all (fun j=>decide (x[j]? = y[j]?)) && x.length == y.length)=decide (x=y):=by
 by_cases e:x=y
 ·subst e;simp
 ·rw[decide_eq_false e,Bool.and_eq_false_iff]
  by_cases l:x.length=y.length
  ·refine .inl ?_
   rw[List.all_eq_false]
   apply Classical.byContradiction
   intro n
   refine e (List.ext_getElem l fun j h1 h2=>?_)
   have:=fun q=>n ⟨j,List.mem_range.mpr (by omega),q⟩
   simp[h1,h2] at this
   exact this
  ·exact .inr (by simpa using l)
theorem qc {α:Type} [DecidableEq α] {x y:α} (h:x≠y):decide (x=y)=false:=decide_eq_false h
theorem eqF {A:Around}{x y:M.D}{u v:Value} (h:¬ x=y) (k:EqAt A s u v false):EqAt A s u v (decide (x=y)):=by rw[qc h];exact k
theorem zD2 (i j:Int):decide (M.D.int i=M.D.int j)=(i == j):=by
 by_cases e:i=j
 ·subst e;simp
 ·rw[qc fun z=>e (M.D.int.inj z),beq_false_of_ne e]
theorem zD4 (x y:M.T):decide (M.D.str x=M.D.str y)=(ofT x == ofT y):=by
 rw[zIL]
 by_cases e:x=y
 ·subst e;simp
 ·rw[qc fun z=>e (M.D.str.inj z),qc e]
theorem zJ0 {n:Nat}{A:Around}{ds es:List M.D}{a b:Addr}{us ws:List Value} (hu:A.units+(n+1) < cLine)
  (ih:∀ {A:Around}{x y:M.D}{u v:Value},A.units+n < cLine->IsV s.heap n x u->IsV s.heap n y v->EqAt A s u v (decide (x=y)))
  (p1:s.heap.IsTuple a us.toArray) (r1:qH s.heap n ds us) (p2:s.heap.IsTuple b ws.toArray) (r2:qH s.heap n es ws):EqAt A s (.ref a) (.ref b) (decide (M.D.tup ds=M.D.tup es)):=by
 have td:decide (M.D.tup ds=M.D.tup es)=decide (ds=es):=by
  by_cases e:ds=es
  ·subst e;simp
  ·rw[qc fun z=>e (M.D.tup.inj z),qc e]
 rw[td]
 by_cases ab:a=b
 ·subst ab
  rw[zED p1 p2] at r1
  rw[qH.inj r1 r2,decide_eq_true rfl]
  exact EqAt.same _
 ·have l1:=r1.len
  have l2:=r2.len
  have z:=RcAt.tuples (A:=A) (e:=fun j=>decide (ds[j]? = es[j]?)) p1 p2 (by omega) fun j h1 h2=>by
   have h1':j < us.length:=by simpa using h1
   have h2':j < ws.length:=by simpa using h2
   have:=ih (A:=A.in1) (by rw[Around.in1_units];omega) (r1.at j (by omega) h1') (r2.at j (by omega) h2')
   have e:decide (ds[j]? = es[j]?)=decide (ds[j]=es[j]):=by
    rw[List.getElem?_eq_getElem (by omega),List.getElem?_eq_getElem (by omega)]
    by_cases e:ds[j]=es[j]
    ·rw[e];simp
    ·rw[qc e,qc fun z=>e (Option.some.inj z)]
   rw[e]
   exact this
  have e1:us.toArray.size=ds.length:=by simp[l1]
  have e2:ws.toArray.size=es.length:=by simp[l2]
  rw[e1,e2,zKn] at z
  exact EqAt.of_refs ab z
theorem IsV.eq:∀ {n:Nat}{A:Around}{x y:M.D}{u v:Value},A.units+n < cLine->IsV s.heap n x u->IsV s.heap n y v->EqAt A s u v (decide (x=y)):=by
 intro n
 induction n with
 | zero =>
  intro A x y u v hu p q
  cases p with
  | non =>
   cases q with
   | non=>rw[decide_eq_true rfl];exact EqAt.same _
   | int=>refine eqF (fun z=>nomatch z) ?_;exact EqAt.none_int _ _
   | str=>refine eqF (fun z=>nomatch z) ?_;exact EqAt.none_str _ _
  | int =>
   cases q with
   | non=>refine eqF (fun z=>nomatch z) ?_;exact EqAt.int_none _ _
   | int=>rw[zD2];exact EqAt.int_int _ _ _ _
   | str=>refine eqF (fun z=>nomatch z) ?_;exact EqAt.int_str _ _ _ _
  | str =>
   cases q with
   | non=>refine eqF (fun z=>nomatch z) ?_;exact EqAt.str_none _ _
   | int=>refine eqF (fun z=>nomatch z) ?_;exact EqAt.str_int _ _ _ _
   | str=>rw[zD4];exact EqAt.str_str _ _ _ _
 | succ n ih =>
  intro A x y u v hu p q
  cases p with
  | non =>
   cases q with
   | non=>rw[decide_eq_true rfl];exact EqAt.same _
   | int=>refine eqF (fun z=>nomatch z) ?_;exact EqAt.none_int _ _
   | str=>refine eqF (fun z=>nomatch z) ?_;exact EqAt.none_str _ _
   | tup p2 r2=>refine eqF (fun z=>nomatch z) ?_;exact EqAt.none_tuple p2 (by omega)
  | int =>
   cases q with
   | non=>refine eqF (fun z=>nomatch z) ?_;exact EqAt.int_none _ _
   | int=>rw[zD2];exact EqAt.int_int _ _ _ _
   | str=>refine eqF (fun z=>nomatch z) ?_;exact EqAt.int_str _ _ _ _
   | tup p2 r2=>refine eqF (fun z=>nomatch z) ?_;exact EqAt.int_tuple _ _ p2 (by omega)
  | str =>
   cases q with
   | non=>refine eqF (fun z=>nomatch z) ?_;exact EqAt.str_none _ _
   | int=>refine eqF (fun z=>nomatch z) ?_;exact EqAt.str_int _ _ _ _
   | str=>rw[zD4];exact EqAt.str_str _ _ _ _
   | tup p2 r2=>refine eqF (fun z=>nomatch z) ?_;exact EqAt.str_tuple _ _ p2 (by omega)
  | tup p1 r1 =>
   cases q with
   | non=>refine eqF (fun z=>nomatch z) ?_;exact EqAt.tuple_none p1 (by omega)
   | int=>refine eqF (fun z=>nomatch z) ?_;exact EqAt.tuple_int _ _ p1 (by omega)
   | str=>refine eqF (fun z=>nomatch z) ?_;exact EqAt.tuple_str _ _ p1 (by omega)
   | tup p2 r2=>exact zJ0 hu (fun {A x y u v}=>ih (A:=A) (x:=x) (y:=y) (u:=u) (v:=v)) p1 r1 p2 r2
end
section
variable {pg:Program}{w:World}{Er:Value->Shared->Prop}
noncomputable def zD3 (pg:Program) (w:World) (Er:Value->Shared->Prop) (n:Nat):Prop:=∀ {A:Around}{s:Shared}{d:M.D}{v:Value}{Q:Int->Shared->Prop},A.units+n < cLine->IsV s.heap n d v->Q (haD w n d) { s with toks:=s.toks+drD n d }->wpAny (model pg w) A (pyHash v) Q Er s
theorem zF7 {n:Nat} (ih:zD3 pg w Er n) {A:Around} (hu:A.units+n < cLine):∀ {vs:List Value}{ds:List M.D}{s:Shared}{b:Array Int}{Q:Array Int->Shared->Prop},qH s.heap n ds vs ->
  (∀ b',b'.toList=b.toList++ds.map (haD w n)->Q b' { s with toks:=s.toks+(ds.map (drD n)).sum }) ->
  wpAny (model pg w) A (forIn vs b fun x r=>pyHash x >>= fun y=>(pure PUnit.unit:Sem PUnit) >>= fun _=>pure (ForInStep.yield (r.push y))) Q Er s:=by
 intro vs
 induction vs with
 | nil =>
  intro ds s b Q r h
  cases r
  rw[List.forIn_nil]
  exact wpAny_pure (h b (by simp))
 | cons v vs hv =>
  intro ds s b Q r h
  cases r with
  | @cons _ d ds' _ _ r1 r2 =>
   rw[List.forIn_cons]
   apply wpAny_bind
   apply wpAny_bind
   apply ih hu r1
   apply wpAny_bind
   apply wpAny_pure
   apply wpAny_pure
   refine hv (s:={ s with toks:=s.toks+drD n d }) r2 fun b' e=>?_
   have:=h b' (by rw[e];simp)
   simpa [Nat.add_assoc] using this
theorem IsV.hash:∀ n,zD3 pg w Er n:=by
 have leaf:∀ {n:Nat}{A:Around}{s:Shared}{d:M.D}{v:Value}{Q:Int->Shared->Prop},(∀ ds,d≠.tup ds)->IsV s.heap n d v->Q (haD w n d) { s with toks:=s.toks+drD n d }->wpAny (model pg w) A (pyHash v) Q Er s:=by
  intro n A s d v Q nt p h
  cases p with
  | non =>
   refine PySem.W.pyHash_slot (T := "NoneType") rfl F.slot_NoneType_hash F.entry_NoneType_hash (F.args_NoneType_hash_1 _) (beq_builtin_none _) (.inl rfl) ?_
   apply wpAny_bind
   apply wpAny_pure
   apply wpAny_bind
   apply wpAny_mkInt
   apply wpAny_pure
   exact⟨_,_,rfl,by cases n<;>exact h⟩
  | int=>exact wpAny_pyHash_int (by cases n<;>exact h)
  | str=>exact wpAny_pyHash_str (by cases n<;>exact h)
  | tup _ _=>exact absurd rfl (nt _)
 intro n
 induction n with
 | zero=>intro A s d v Q hu p h;exact leaf (fun ds e=>by subst e;cases p) p h
 | succ n ih =>
  intro A s d v Q hu p h
  cases p with
  | non=>exact leaf (fun _ e=>by cases e) .non h
  | int=>exact leaf (fun _ e=>by cases e) .int h
  | str=>exact leaf (fun _ e=>by cases e) .str h
  | @tup _ ds a us q r =>
   obtain⟨o,o1,o2,nn,o3⟩:=q
   refine PySem.W.pyHash_slot (T := "tuple") ⟨o,o1,o2⟩ F.slot_tuple_hash F.entry_tuple_hash (F.args_tuple_hash_1 _) (beq_builtin_none _) (.inr (by omega)) ?_
   change wpAny _ _ (Builtin.Tuple.tupleItemsOf (.ref a) >>= _) _ _ s
   apply wpAny_bind
   apply wpAny_tupleItemsOf o1 o3
   apply wpAny_bind
   rw[<- Array.forIn_toList]
   refine zF7 ih (A:=A.in1) (by rw[Around.in1_units];omega) r fun b' e=>?_
   change wpAny _ _ (retInt (Builtin.Tuple.tupleHashOf b'.toList)) _ _ _
   rw[e]
   apply wpAny_bind
   apply wpAny_mkInt
   apply wpAny_pure
   refine⟨_,_,rfl,?_⟩
   have h':=h
   simp only[haD,drD] at h'
   simpa [Nat.add_assoc] using h'
theorem IsV.quiet:∀ {n k:Nat}{A:Around}{s:Shared}{d:M.D}{v:Value}{Q:Bool->Shared->Prop},n <= k->IsV s.heap n d v->Q true s->wpAny (model pg w) A (eqIsQuiet k v) Q Er s:=by
 have leaf:∀ {n k:Nat}{A:Around}{s:Shared}{d:M.D}{v:Value}{Q:Bool->Shared->Prop},(∀ ds,d≠.tup ds)->IsV s.heap n d v->Q true s->wpAny (model pg w) A (eqIsQuiet k v) Q Er s:=by
  intro n k A s d v Q nt p q
  have:eqIsQuiet k v=pure true:=by
   cases p with
   | non=>exact eqIsQuiet_byValue k rfl
   | int=>exact eqIsQuiet_byValue k rfl
   | str=>exact eqIsQuiet_byValue k rfl
   | tup _ _=>exact absurd rfl (nt _)
  rw[this]
  exact wpAny_pure q
 intro n
 induction n with
 | zero=>intro k A s d v Q hk p q;exact leaf (fun ds e=>by subst e;cases p) p q
 | succ n ih =>
  intro k A s d v Q hk p q
  cases p with
  | non=>exact leaf (n:=n) (fun _ e=>by cases e) .non q
  | int=>exact leaf (n:=n) (fun _ e=>by cases e) .int q
  | str=>exact leaf (n:=n) (fun _ e=>by cases e) .str q
  | @tup _ ds a us t r =>
   obtain⟨k,rfl⟩:∃ j,k=j+1:=⟨k - 1,by omega⟩
   obtain⟨o,o1,o2,nn,o3⟩:=t
   have ty:s.TypeIs (.ref a) "tuple" := ⟨o,o1,o2⟩
   unfold eqIsQuiet
   apply wpAny_bind
   apply wpAny_specialOf ty F.slot_tuple_eq.lookup
   change wpAny _ _ (isInstance (.ref a) (.type "tuple") >>= _) _ _ s
   apply wpAny_bind
   apply wpAny_isInstance ty isSubtype_tuple_tuple
   simp only[Bool.not_true,Bool.false_eq_true,if_false]
   apply wpAny_bind
   apply wpAny_seqItems o1 o3
   apply wpAny_bind
   change wpAny _ _ (forIn us.toArray _ _) _ _ s
   rw[<- Array.forIn_toList]
   refine wpAny_forIn_list _ (fun l b s1=>b.1=none/\s1=s/\∃ es,qH s.heap n es l) _ ?_ ?_ _ _ ⟨rfl,rfl,ds,r⟩
   ·intro y l b s1 ⟨e1,e2,es,r'⟩
    cases e2
    cases r' with
    | cons r1 r2 =>
     apply wpAny_bind
     apply ih (by omega) r1
     simp only[Bool.not_true,Bool.false_eq_true,if_false]
     apply wpAny_pure
     exact⟨rfl,rfl,_,r2⟩
   ·intro b s1 ⟨e1,e2,_⟩
    cases e2
    obtain⟨b1,b2⟩:=b
    cases (show b1=none from e1)
    exact wpAny_pure q
end
noncomputable def kyK (pg:Program) (w:World):HeapKind pg w M.D where
 is:=fun h d a=>(∃ ds,d=.tup ds)/\IsV h 7 d (.ref a)
 hash:=haD w 7
 draws:=drD 7
 room:=fun A=>A.units+7 < cLine
 inj:=fun p q=>IsV.inj p.2 q.2
 keeps:=fun {h h' k a d o es ep} p ho hd hs=>⟨p.1,p.2.keep fun b us ⟨ob,e,c,n,dd⟩=>⟨ob,(hs.2 b (fun z=>by subst z;rw[ho] at e;cases e;rw[hd] at dd;cases dd)).trans e,c,n,dd⟩⟩
 pyHash:=fun hu p q=>IsV.hash 7 hu p.2 q
 eqBool:=fun hu p q h=>IsV.eq hu p.2 q.2 _ _ _ _ h
 quiet:=fun p q=>IsV.quiet (by omega) p.2 q
section
variable {pg:Program}{w:World}{κ:Type} [DecidableEq κ] {kn:HeapKind pg w κ}{A:Around}{Er:Value->Shared->Prop}{s:Shared}{d a:Addr}{k:κ}{xs:List (κ×Addr×Value)}
theorem JT:∀ {xs:List (κ×Addr×Value)}{j:Nat}{p:Addr×Value},(xs.map (·.1)).Nodup->xs[j]? = some (k,p)->xs.eraseIdx j=xs.filter fun x=>decide (x.1≠k)
 | [],_,_,_,h=>by simp at h
 | x::xs,0,p,nd,h=>by
  simp only[List.getElem?_cons_zero,Option.some.injEq] at h
  subst h
  rw[List.map_cons,List.nodup_cons] at nd
  rw[List.eraseIdx_cons_zero,List.filter_cons_of_neg (by simp)]
  refine (List.filter_eq_self.mpr fun y hy=>?_).symm
  refine decide_eq_true fun e=>nd.1 ?_
  exact List.mem_map.mpr ⟨y,hy,e⟩
 | x::xs,j+1,p,nd,h=>by
  rw[List.map_cons,List.nodup_cons] at nd
  have h':xs[j]? = some (k,p):=by simpa using h
  rw[List.eraseIdx_cons_succ,JT nd.2 h',List.filter_cons_of_pos]
  refine decide_eq_true fun e=>nd.1 ?_
  rw[e]
  exact List.mem_map.mpr ⟨(k,p),List.mem_of_getElem? h',rfl⟩
theorem zB0 {α β:Type} (f:α->β):∀ (xs:List α) (j:Nat),(xs.map f).eraseIdx j=(xs.eraseIdx j).map f
 | [],_=>rfl
 | _::_,0=>rfl
 | x::xs,j+1=>by rw[List.map_cons,List.eraseIdx_cons_succ,List.eraseIdx_cons_succ,List.map_cons,zB0 f xs j]
theorem zCm {Q:Option DictEntry->Shared->Prop} (hu:kn.room A) (hk:kn.is s.heap k a) (hm:s.heap.DictOfH kn d xs) (hz:xs.length <= sizeLine)
  (h0:atKey xs k=none->Q none { s with toks:=s.toks+kn.draws k })
  (h1:∀ p e h',atKey xs k=some p->e.val=p.2->h'.DictOfH kn d (xs.filter fun x=>decide (x.1≠k))->Heap.SameBut d s.heap h'->Q (some e) { s with heap:=h',toks:=s.toks+kn.draws k }) :
  wpAny (model pg w) A (Builtin.Dict.takeOut d (.ref a)) Q Er s:=by
 obtain⟨o,es,ep,ho,hc,hd,he,hi,hn⟩:=hm
 unfold Builtin.Dict.takeOut
 apply wpAny_holding
 apply wpAny_bind
 apply kn.pyHash hu hk
 apply wpAny_bind
 refine wpAny_dictFind_heap (s:={ s with toks:=s.toks+kn.draws k }) hu hk ho hd he hi hn (fun no=>wpAny_pure (h0 (atKey_none_of_get no))) fun j p hj=>?_
 apply wpAny_bind
 refine wpAny_dictEntries (s:={ s with toks:=s.toks+kn.draws k }) ho hd ?_
 rw[entry_at he j,hj]
 apply wpAny_bind
 have ez:=size_of_entries he
 have hj':j < xs.length:=(List.getElem?_eq_some_iff.mp hj).1
 refine wpAny_updateDictKeys (hz:=by omega) (s:={ s with toks:=s.toks+kn.draws k }) ho hd (wpAny_pure (h1 p _ _ (atKey_of_get hn hj) rfl ?_ (Heap.SameBut.update ..)))
 ·refine⟨_,_,ep+1,Heap.get?_update_self _ ho (Obj.isFreed_of_dict (Obj.data_mapDictKeys hd _)),hc.mapDictKeys _,Obj.data_mapDictKeys hd _,?_,fun x hx=>?_,?_⟩
  ·rw[<- JT hn hj]
   obtain⟨l⟩:=es
   have hl:l=xs.map (entryOfKey kn):=he
   subst hl
   show (Array.eraseIdxIfInBounds ⟨xs.map (entryOfKey kn)⟩ j).toList=_
   unfold Array.eraseIdxIfInBounds
   rw[dif_pos (by simpa using hj')]
   rw[<- zB0]
   simp
  ·exact kn.keeps (hi x ((List.mem_filter.mp hx).1)) ho hd (Heap.SameBut.update ..)
  ·exact hn.sublist (List.Sublist.map _ List.filter_sublist)
theorem zCw {es:Array DictEntry} (hp:atKey xs k≠none) (he:es.toList=xs.map (entryOfKey kn)):es.isEmpty=false:=by
 have:=size_of_entries he
 cases xs with
 | nil=>exact absurd rfl hp
 | cons _ _ =>
  obtain⟨l⟩:=es
  cases l with
  | nil=>simp at this
  | cons _ _=>rfl
theorem zFs {more:List Value} (hr:more=[]\/∃ x,more=[x]):MeetsIn pg w (Builtin.«dict.pop» ⟨.ref d::.ref a::more,[]⟩) (fun A R s=>kn.room A.in1/\∃ xs k p,kn.is s.heap k a/\s.heap.DictOfH kn d xs/\xs.length <= sizeLine/\atKey xs k=some p /\
  ∀ h',h'.DictOfH kn d (xs.filter fun x=>decide (x.1≠k))->Heap.SameBut d s.heap h'->R (.ok (.ret p.2)) { s with heap:=h',toks:=s.toks+kn.draws k }) :=
 .of_wp fun A R s ⟨hu,xs,k,p,hk,hm,hz,hp,q⟩=>by
  obtain⟨o,es,ep,ho,hc,hd,he,hi,hn⟩:=id hm
  have ne:=zCw (k:=k) (fun z=>by rw[z] at hp;cases hp) he
  unfold Builtin.«dict.pop»
  apply wpAny_bind
  unfold Builtin.Dict.keyAndDefault
  apply wpAny_bind
  apply wpAny_notOrdered_dict hm.typeIs
  have fin:∀ (df:Option Value) (e:DictEntry) (h':Heap),e.val=p.2->h'.DictOfH kn d (xs.filter fun x=>decide (x.1≠k))->Heap.SameBut d s.heap h' ->
    wpAny (model pg w) A.in1 (letGo [e.key] [e.val] >>= fun _=>ret e.val) (fun f s'=>∃ v,f=.done (.ret v)/\R (.ok (.ret v)) s') (fun e s'=>R (.error e) s') { s with heap:=h',toks:=s.toks+kn.draws k }:=by
   intro df e h' e2 e3 e4
   apply wpAny_bind
   apply wpAny_letGo
   apply wpAny_pure
   exact⟨_,rfl,by rw[e2];exact q h' e3 e4⟩
  have kp:¬ (keyPart (Value.ref a)).isSome=true:=by simp[keyPart]
  rcases hr with rfl | ⟨x,rfl⟩
  ·change wpAny _ _ (pure (d,Value.ref a,none)) _ _ s
   apply wpAny_pure
   dsimp only
   rw[if_neg kp]
   repeat first
    | (with_reducible refine wpAny_dictEntries ho hd ?_)
    | (with_reducible refine wpAny_pure ?_)
    | (with_reducible refine wpAny_bind ?_)
   rw[if_neg (by rw[ne];exact Bool.false_ne_true)]
   apply wpAny_bind
   refine zCm hu hk hm hz (fun z=>by rw[z] at hp;cases hp) fun p' e h' e1 e2 e3 e4=>?_
   cases hp.symm.trans e1
   exact fin none e h' e2 e3 e4
  ·change wpAny _ _ (pure (d,Value.ref a,some x)) _ _ s
   apply wpAny_pure
   dsimp only
   rw[if_neg kp]
   repeat first
    | (with_reducible refine wpAny_dictEntries ho hd ?_)
    | (with_reducible refine wpAny_pure ?_)
    | (with_reducible refine wpAny_bind ?_)
   rw[if_neg (by rw[ne];exact Bool.false_ne_true)]
   apply wpAny_bind
   refine zCm hu hk hm hz (fun z=>by rw[z] at hp;cases hp) fun p' e h' e1 e2 e3 e4=>?_
   cases hp.symm.trans e1
   exact fin none e h' e2 e3 e4
theorem zEb {x:Value} (hs:(d == sysModules)=false):MeetsIn pg w (Builtin.«dict.pop» ⟨[.ref d,.ref a,x],[]⟩) (fun A R s=>kn.room A.in1/\∃ xs k,kn.is s.heap k a/\s.heap.DictOfH kn d xs/\xs.length <= sizeLine/\atKey xs k=none /\
  ∀ t,s.toks <= t->R (.ok (.ret x)) { s with toks:=t }) :=
 .of_wp fun A R s ⟨hu,xs,k,hk,hm,hz,hp,q⟩=>by
  obtain⟨o,es,ep,ho,hc,hd,he,hi,hn⟩:=id hm
  unfold Builtin.«dict.pop»
  apply wpAny_bind
  unfold Builtin.Dict.keyAndDefault
  apply wpAny_bind
  apply wpAny_notOrdered_dict hm.typeIs
  have kp:¬ (keyPart (Value.ref a)).isSome=true:=by simp[keyPart]
  change wpAny _ _ (pure (d,Value.ref a,some x)) _ _ s
  apply wpAny_pure
  dsimp only
  rw[if_neg kp]
  have fin:∀ t,s.toks <= t->wpAny (model pg w) A.in1 (Builtin.Dict.missedRemoval d (.ref a) >>= fun _=>rule "dict.pop.default" >>= fun _=>ret x) (fun f s'=>∃ v,f=.done (.ret v)/\R (.ok (.ret v)) s') (fun e s'=>R (.error e) s') { s with toks:=t }:=by
   intro t ht
   apply wpAny_bind
   apply wpAny_missedRemoval_other hs
   apply wpAny_bind
   apply wpAny_rule
   apply wpAny_pure
   exact⟨_,rfl,q t ht⟩
  cases hE:es.isEmpty with
  | true =>
   repeat first
    | (with_reducible refine wpAny_dictEntries ho hd ?_)
    | (with_reducible refine wpAny_pure ?_)
    | (with_reducible refine wpAny_bind ?_)
   rw[if_pos hE]
   apply wpAny_bind
   apply wpAny_rule
   apply wpAny_bind
   apply wpAny_pure
   exact fin s.toks (Nat.le_refl _)
  | false =>
   repeat first
    | (with_reducible refine wpAny_dictEntries ho hd ?_)
    | (with_reducible refine wpAny_pure ?_)
    | (with_reducible refine wpAny_bind ?_)
   rw[if_neg (by rw[hE];exact Bool.false_ne_true)]
   apply wpAny_bind
   refine zCm hu hk hm hz (fun _=>?_) fun p' e h' e1 e2 e3 e4=>?_
   ·exact fin _ (Nat.le_add_right _ _)
   ·cases hp.symm.trans e1
end
section
variable {X:Cx}{pins:List (Addr×Obj)}{σ:St}{H:Hp}{s:Shared}
theorem zDJ (I:Inv X pins σ H s) {ρ:List Addr}:∀ {n:Nat}{d:M.D}{x:V}{u:Value},M.kyD n d=true->zG X.K ρ H d x->zY x u->IsV s.heap n d u:=by
 intro n
 induction n with
 | zero =>
  intro d x u k r rv
  cases d with
  | non=>cases r;cases rv;exact .non
  | int i=>cases r;obtain⟨t,rfl⟩:=rv;exact .int
  | str z=>obtain⟨rfl,_⟩:=r;obtain⟨t,rfl⟩:=rv;exact .str
  | _=>cases k
 | succ n ih =>
  intro d x u k r rv
  cases d with
  | non=>cases r;cases rv;exact .non
  | int i=>cases r;obtain⟨t,rfl⟩:=rv;exact .int
  | str z=>obtain⟨rfl,_⟩:=r;obtain⟨t,rfl⟩:=rv;exact .str
  | tup ds =>
   obtain⟨a,xs,rfl,q,r⟩:=r
   cases rv
   obtain⟨its,vs,pl,_⟩:=I.tuple q
   have go:∀ (ds:List M.D) (xs:List V) (its:List Value),ds.all (M.kyD n)=true->zG.all X.K ρ H ds xs->zX xs its->qH s.heap n ds its:=by
    intro ds
    induction ds with
    | nil=>intro xs its _ r vs;cases r;cases vs;exact .nil
    | cons d ds ih2 =>
     intro xs its k r vs
     obtain⟨y,ys,rfl,r1,r2⟩:=r
     rw[List.all_cons,Bool.and_eq_true] at k
     cases vs with
     | cons v1 v2=>exact .cons (ih k.1 r1 v1) (ih2 _ _ k.2 r2 v2)
   exact .tup (us:=its) pl (go ds xs its k r vs)
  | _=>cases k
noncomputable def QN (K:PySem.W.Frag) (H:Hp) (d:M.D) (x:V):Prop:=M.kyT d=true/\∃ ρ,zG K ρ H d x
theorem QN.is {d:M.D}{x:V}{u:Value} (k:QN X.K H d x) (I:Inv X pins σ H s) (r:zY x u):∃ b,u=.ref b/\(kyK X.prog X.w).is s.heap d b:=by
 obtain⟨k,ρ,rd⟩:=k
 cases d with
 | tup ds =>
  have v:=zDJ I (n:=7) k rd r
  obtain⟨a,xs,rfl,_⟩:=rd
  cases r
  exact⟨a,rfl,⟨ds,rfl⟩,v⟩
 | _=>cases k
end
section
variable {pg:Program}{w:World}{A:Around}{Er:Value->Shared->Prop}{s:Shared}{d it:Addr}{es:Array DictEntry}{i ep:Nat}
noncomputable def DAt (h:Heap) (d:Addr) (es:Array DictEntry) (ep:Nat):Prop:=∃ o,h.get? d=some o/\o.ExactDict/\o.data=.dict es ep
theorem DAt.ty (x:DAt s.heap d es ep):s.TypeIs (.ref d) "dict" := let ⟨o,e,c,_⟩:=x;⟨o,e,c.1⟩
theorem zIW {Q:Value->Shared->Prop} (ns:(d == sysModules)=false) (x:DAt s.heap d es ep)
  (q:Q (.ref s.heap.objs.size) { s with heap:=s.heap.push { cls:=.type "dict_keyiterator",data:=.fields #[.ref d,.int 0 0,.int es.size 0,.int ep 0] } }):wpAny (model pg w) A (pyIter (.ref d)) Q Er s:=by
 obtain⟨o,e1,e2,e3⟩:=id x
 refine wpAny_pyIter_slot x.ty F.slot_dict_iter (wpAny_call_entry F.slot_dict_iter x.ty F.entry_dict_iter ?_ (F.args_dict_iter_1 _))
 unfold Builtin.«dict.__iter__» Builtin.Dict.dictSlotNone
 apply wpAny_bind
 apply wpAny_bind
 apply wpAny_notOrdered_dict x.ty
 change wpAny _ _ (pure (Value.ref d)) _ _ s
 apply wpAny_pure
 change wpAny _ _ (Builtin.Dict.showsAll d >>= _) _ _ s
 unfold Builtin.Dict.showsAll
 rw[ns,if_neg Bool.false_ne_true]
 apply wpAny_bind
 apply wpAny_pure
 apply wpAny_bind
 apply wpAny_dictEntries e1 e3
 apply wpAny_bind
 apply wpAny_dictEpoch e1 e3
 apply wpAny_bind
 refine wpAny_newObj_type ?_ (by size_fits)
 apply wpAny_pure
 refine⟨_,rfl,"dict_keyiterator",_,⟨_,Heap.get?_push_size _ rfl,rfl⟩,F.slot_dict_keyiterator_next.lookup,?_⟩
 simpa [rawInt] using q
theorem zHB {Q:PySem.Fin->Shared->Prop} (hi:s.heap.IsKeyIter it d i es.size ep) (x:DAt s.heap d es ep) (hx:i < es.size)
  (q:∀ h',h'.IsKeyIter it d (i+1) es.size ep->Heap.SameBut it s.heap h'->Q (.done (.ret es[i].key)) { s with heap:=h' }) :
  wpAny (model pg w) A (Builtin.«dict_keyiterator.__next__» ⟨[.ref it],[]⟩) Q Er s:=by
 have ty:=hi.typeIs
 obtain⟨o,e1,e2,e3⟩:=id hi
 obtain⟨od,f1,f2,f3⟩:=id x
 apply wpAny_bind
 apply wpAny_pure
 apply wpAny_bind
 apply wpAny_bind
 first
  | refine wpAny_bind (wpAny_typeNameOfWhole_keyiter ty ?_)
  | refine wpAny_bind (wpAny_typeNameOf_keyiter ty ?_)
 apply wpAny_pure
 apply wpAny_bind
 apply wpAny_fieldsOf e1 e3
 have ow:Builtin.Dict_items.ownsTuple "dict_keyiterator" = false:=by decide
 simp only[ow,Bool.false_eq_true,if_false]
 change wpAny _ _ (if (Value.ref d == Value.none)=true then _ else _) _ _ s
 rw[if_neg (show ¬ (Value.ref d == Value.none)=true from Bool.false_ne_true)]
 apply wpAny_bind
 apply wpAny_pure
 apply wpAny_bind
 apply wpAny_dictEntries f1 f3
 rw[if_neg (by simp)]
 apply wpAny_bind
 apply wpAny_pure
 apply wpAny_bind
 apply wpAny_dictEpoch f1 f3
 rw[if_neg (by simp)]
 apply wpAny_pure
 have ni:¬ (i:Int) < 0:=by omega
 simp only[ni,if_false,Int.toNat_natCast,Array.getElem?_eq_getElem hx]
 apply wpAny_bind
 first
  | refine wpAny_bind (wpAny_typeNameOfWhole_keyiter ty ?_)
  | refine wpAny_bind (wpAny_typeNameOf_keyiter ty ?_)
 apply wpAny_pure
 apply wpAny_bind
 apply wpAny_isOneOf_keyiter ty
 change wpAny _ _ (setField (.ref it) 1 (rawInt ((i:Int)+1)) >>= _) _ _ s
 apply wpAny_bind
 refine wpAny_setField e1 e3 (by simp) ?_
 generalize hg:s.heap.update it (Obj.mapFields (·.setIfInBounds 1 (rawInt ((i:Int)+1))))=g
 have gi:g.IsKeyIter it d (i+1) es.size ep:=by
  rw[<- hg]
  refine⟨_,Heap.get?_update_self _ e1 (Obj.isFreed_of_fields (Obj.data_mapFields e3 _)),(Obj.cls_mapFields ..).trans e2,?_⟩
  rw[Obj.data_mapFields e3]
  simp[rawInt]
 have gs:Heap.SameBut it s.heap g:=by rw[<- hg];exact Heap.SameBut.update ..
 apply wpAny_bind
 apply wpAny_holding
 apply wpAny_bind
 apply wpAny_isOneOf_keyiter (s:={ s with heap:=g }) gi.typeIs
 change wpAny _ _ (pure es[i].key) _ _ _
 apply wpAny_pure
 apply wpAny_pure
 exact q g gi gs
theorem zH9 {Q:PySem.Fin->Shared->Prop} (hh:A.handled=none) (hi:s.heap.IsKeyIter it d i es.size ep) (x:DAt s.heap d es ep) (hx:es.size <= i)
  (q:∀ h' e,Heap.ExtBut it s.heap h'->Shared.TypeIs { s with heap:=h' } e "StopIteration" -> Er e { s with heap:=h' }) :
  wpAny (model pg w) A (Builtin.«dict_keyiterator.__next__» ⟨[.ref it],[]⟩) Q Er s:=by
 have ty:=hi.typeIs
 obtain⟨o,e1,e2,e3⟩:=id hi
 obtain⟨od,f1,f2,f3⟩:=id x
 apply wpAny_bind
 apply wpAny_pure
 apply wpAny_bind
 apply wpAny_bind
 first
  | refine wpAny_bind (wpAny_typeNameOfWhole_keyiter ty ?_)
  | refine wpAny_bind (wpAny_typeNameOf_keyiter ty ?_)
 apply wpAny_pure
 apply wpAny_bind
 apply wpAny_fieldsOf e1 e3
 have ow:Builtin.Dict_items.ownsTuple "dict_keyiterator" = false:=by decide
 simp only[ow,Bool.false_eq_true,if_false]
 change wpAny _ _ (if (Value.ref d == Value.none)=true then _ else _) _ _ s
 rw[if_neg (show ¬ (Value.ref d == Value.none)=true from Bool.false_ne_true)]
 apply wpAny_bind
 apply wpAny_pure
 apply wpAny_bind
 apply wpAny_dictEntries f1 f3
 rw[if_neg (by simp)]
 apply wpAny_bind
 apply wpAny_pure
 apply wpAny_bind
 apply wpAny_dictEpoch f1 f3
 rw[if_neg (by simp)]
 apply wpAny_pure
 have ni:¬ (i:Int) < 0:=by omega
 simp only[ni,if_false,Int.toNat_natCast,Array.getElem?_eq_none hx]
 apply wpAny_bind
 first
  | refine wpAny_bind (wpAny_typeNameOfWhole_keyiter ty ?_)
  | refine wpAny_bind (wpAny_typeNameOf_keyiter ty ?_)
 apply wpAny_pure
 change wpAny _ _ (setField (.ref it) 0 .none >>= _) _ _ s
 apply wpAny_bind
 refine wpAny_setField e1 e3 (by simp) ?_
 change wpAny _ _ (newExc (.type "StopIteration") [] >>= _) _ _ _
 apply wpAny_bind
 simp only[newExc,newTuple]
 apply wpAny_bind
 refine wpAny_newObj_type ?_ (by size_fits)
 refine wpAny_bind (m:=firstArgMember _ _) (wpAny_of_eq (a:=Value.none) ?_ ?_)
 ·first
   | rfl
   | (simp only[firstArgMember];rfl)
 refine wpAny_newObj_type ?_ (by size_fits)
 simp only[raiseNew]
 apply wpAny_bind
 apply wpAny_handled
 rw[hh]
 refine wpAny_throw ?_
 exact q _ _ (((Heap.SameBut.update ..).extBut.push _).push _) ⟨_,Heap.get?_push_size _ rfl,rfl⟩
theorem zLR {Q:Option Value->Shared->Prop} (st:s.heap.IsKeyIter it d i es.size ep) (x:DAt s.heap d es ep) (hx:i < es.size)
  (q:∀ h',h'.IsKeyIter it d (i+1) es.size ep->Heap.SameBut it s.heap h'->Q (some es[i].key) { s with heap:=h' }):wpAny (model pg w) A (pyNext (.ref it)) Q Er s:=by
 unfold pyNext
 apply wpAny_bind
 apply wpAny_attempt
 refine wpAny_callSpecial?_slot (name:=Str.ofString "__next__") st.typeIs F.slot_dict_keyiterator_next (wpAny_call_entry F.slot_dict_keyiterator_next st.typeIs F.entry_dict_keyiterator_next ?_ (F.args_dict_keyiterator_next_1 _))
 exact zHB st x hx fun h' k1 k2=>⟨_,rfl,wpAny_pure (q h' k1 k2)⟩
theorem zK4 {Q:Option Value->Shared->Prop} (hh:A.handled=none) (st:s.heap.IsKeyIter it d i es.size ep) (x:DAt s.heap d es ep) (hx:es.size <= i)
  (q:∀ h',Heap.ExtBut it s.heap h'->Q none { s with heap:=h' }):wpAny (model pg w) A (pyNext (.ref it)) Q Er s:=by
 unfold pyNext
 apply wpAny_bind
 apply wpAny_attempt
 refine wpAny_callSpecial?_slot (name:=Str.ofString "__next__") st.typeIs F.slot_dict_keyiterator_next (wpAny_call_entry F.slot_dict_keyiterator_next st.typeIs F.entry_dict_keyiterator_next ?_ (F.args_dict_keyiterator_next_1 _))
 refine zH9 hh st x hx fun h' e k1 k2=>?_
 apply wpAny_bind
 apply wpAny_isInstance (T := "StopIteration") (b:=true) k2 isSubtype_stop
 apply wpAny_pure
 exact q h' k1
theorem zLA (hh:A.handled=none) (ne:d≠it):Walks pg w A it [it,d] [it] es.size (fun i v=>∃ e,es[i]? = some e/\v=e.key) (fun i h=>h.IsKeyIter it d i es.size ep/\DAt h d es ep) where
 sub:=fun b hb=>List.mem_cons.mpr (.inl (List.mem_singleton.mp hb))
 frame:=fun _ _ _ st hk=>⟨st.1.at fun o e=>hk it (List.mem_cons_self) o e,let ⟨o,e,r⟩:=st.2;⟨o,hk d (List.mem_cons_of_mem _ (List.mem_singleton.mpr rfl)) o e,r⟩⟩
 item:=fun i s Q E hi st hQ=>zLR st.1 st.2 hi fun h' k1 k2=>hQ _ h' s.toks ⟨es[i],by simp[hi],rfl⟩ ⟨k1,let ⟨o,e,r⟩:=st.2;⟨o,k2.extBut d o ne e,r⟩⟩ fun b o hb e=>k2.extBut b o (fun z=>hb (by rw[z];exact List.mem_singleton.mpr rfl)) e
 done:=fun s Q E st hQ=>zK4 hh st.1 st.2 (Nat.le_refl _) fun h' k1=>hQ h' s.toks fun b o hb e=>k1 b o (fun z=>hb (by rw[z];exact List.mem_singleton.mpr rfl)) e
 self:=fun _ _ _ _ st hQ=>wpAny_pyIter_keyiter st.1 hQ
theorem zL2 (ns:(d == sysModules)=false):PySem.W.KdlSrc pg w "dict" d d es.size (fun i v=>∃ e,es[i]? = some e/\v=e.key) (fun h=>DAt h d es ep) where
 type:=fun _ x=>x.ty
 there:=fun _ ⟨_,e,_⟩=>⟨Heap.lt_size e,Heap.lt_size e⟩
 keep:=fun _ _ ⟨o,e,r⟩ hk=>⟨o,hk d (.inl rfl) o e,r⟩
 notList:=by decide
 notTuple:=by decide
 hint:=fun _ _ _ _ x q=>PySem.W.kdl_hint_dict x.ty q
 iter:=fun _ _ hh x=>⟨_,_,fun _ _ q=>zIW ns x q,zLA hh (let ⟨_,e,_⟩:=x;Nat.ne_of_lt (Heap.lt_size e)),⟨_,Heap.get?_push_size _ rfl,rfl,rfl⟩,let ⟨o,e,r⟩:=x;⟨o,Heap.get?_push_of_some _ e,r⟩⟩
end
section
variable {pg:Program}{w:World}{A:Around}{Er:Value->Shared->Prop}{s:Shared}{d:Addr}{es:Array DictEntry}{ep:Nat}
theorem zFa (ns:(d == sysModules)=false):MeetsIn pg w (Builtin.«dict.__len__» ⟨[.ref d],[]⟩) (fun _ R s=>∃ es ep,DAt s.heap d es ep/\R (.ok (.ret (.int es.size s.toks))) { s with toks:=s.toks+1 }) :=
 .of_wp fun A R s ⟨es,ep,x,q⟩=>by
  obtain⟨o,e1,e2,e3⟩:=id x
  change wpAny _ _ (dictSize d >>= _) _ _ s
  unfold dictSize
  apply wpAny_bind
  apply wpAny_bind
  apply wpAny_dictEntries e1 e3
  apply wpAny_pure
  change wpAny _ _ (Builtin.Dict.pendingCount d >>= _) _ _ s
  apply wpAny_bind
  apply wpAny_pendingCount_other ns
  apply wpAny_ret_mkInt
  rw[Nat.add_zero]
  exact q
theorem zKz {Q:Value->Shared->Prop} (ns:(d == sysModules)=false) (x:DAt s.heap d es ep) (z:es.size <= sizeLine) (h:∀ t k,0 < k->Q (.int es.size t) { s with toks:=k }):wpAny (model pg w) A (call (.builtin "len") [.ref d]) Q Er s:=by
 have z':(es.size:Int) < 2 ^ 63:=by rw[sizeLine_eq] at z;omega
 refine Calls.call_function_entry kind_len plain_len entry_len (args_len1 _) ?_
 unfold Builtin.«len»
 refine wpAny_bind (m:=oneArg "len" _) (wpAny_pure ?_)
 refine wpAny_bind (m:=callSpecial? (.ref d) (Str.ofString "__len__")) (wpAny_callSpecial?_slot (name:=Str.ofString "__len__") x.ty F.slot_dict_len ?_)
 refine call_meetsIn F.slot_dict_len x.ty F.entry_dict_len (F.args_dict_len_1 _) (zFa ns) ⟨es,ep,x,?_⟩
 change wpAny _ _ _ _ _ { s with toks:=s.toks+1 }
 apply wpAny_bind
 apply wpAny_holding
 apply wpAny_pure
 apply wpAny_bind
 apply wpAny_letGo
 change wpAny _ _ (if ((es.size:Nat):Int) < 0 then _ else _) _ _ _
 rw[if_neg (by omega)]
 change wpAny _ _ (if ((es.size:Nat):Int) ≥ 2 ^ 63 then _ else _) _ _ _
 rw[if_neg (by omega)]
 apply wpAny_bind
 apply wpAny_mkInt
 apply wpAny_pure
 exact⟨_,rfl,h _ _ (Nat.succ_pos _)⟩
end
section
variable {X:Cx}{pins:List (Addr×Obj)}{σ:St}{H:Hp}{s:Shared}{Θ:Tab}{K:PySem.W.Frag}{ρ:List Addr}{S:M.S}
structure TDt (K:PySem.W.Frag) (H:Hp) (ha:M.D->Int) (a:Addr) (xs:List (M.D×Addr×Value)):Prop where
 at':H a=some (.ext (TD ha a xs))
 ks:∀ q∈xs,QN K H q.1 (.ref q.2.1)
structure TDx (K:PySem.W.Frag) (H:Hp) (ha:M.D->Int) (a:Addr) (xs:List (M.D×Addr×Value)):Prop where
 at':H a=some (.ext (TD ha a xs))\/∃ o,H a=some (.frz o (.ext (TD ha a xs)))
 ks:∀ q∈xs,QN K H q.1 (.ref q.2.1)
theorem TDx.dict {ha:M.D->Int}{a:Addr}{xs:List (M.D×Addr×Value)} (t:TDx X.K H ha a xs) (hw:ha=haD X.w 7) (I:Inv X pins σ H s):xs.length <= sizeLine/\(a == sysModules)=false/\s.heap.DictOfH (kyK X.prog X.w) a xs:=by
 have td:TD ha a xs s.heap:=by
  rcases t.at' with e | ⟨o,e⟩
  ·exact (I.hok a _ e).1
  ·exact (show jH X.prog X.w H s.heap a (.frz o (.ext (TD ha a xs))) from I.hok a _ e).2.1
 obtain⟨z,y,nd,o,es,ep,h1,h2,h3,h4⟩:=td
 refine⟨z,y,o,es,ep,h1,h2,h3,by rw[h4,hw];rfl,fun q hq=>?_,nd⟩
 obtain⟨b,e,i⟩:=(t.ks q hq).is I rfl
 cases e
 exact i
theorem TDt.dict {ha:M.D->Int}{a:Addr}{xs:List (M.D×Addr×Value)} (t:TDt X.K H ha a xs) (hw:ha=haD X.w 7) (I:Inv X pins σ H s):xs.length <= sizeLine/\(a == sysModules)=false/\s.heap.DictOfH (kyK X.prog X.w) a xs:=TDx.dict ⟨.inl t.at',t.ks⟩ hw I
theorem TDt.obj {ha:M.D->Int}{a:Addr}{xs:List (M.D×Addr×Value)} (t:TDt X.K H ha a xs) (I:Inv X pins σ H s):(a == sysModules)=false/\xs.length <= sizeLine/\∃ es ep,DAt s.heap a es ep/\es.toList.map (·.key)=xs.map (fun x=>Value.ref x.2.1):=by
 obtain⟨z,y,nd,o,es,ep,h1,h2,h3,h4⟩:=(I.hok a _ t.at').1
 refine⟨y,z,es,ep,⟨o,h1,h2,h3⟩,?_⟩
 rw[h4,List.map_map]
 rfl
theorem zEe {P:Program}{w:World}{H':Hp}{h':Heap}{ha:M.D->Int}{a:Addr}{xs:List (M.D×Addr×Value)} (hw:ha=haD w 7) (z:xs.length <= sizeLine) (y:(a == sysModules)=false) (dd:h'.DictOfH (kyK P w) a xs):jH P w H' h' a (.ext (TD ha a xs)):=by
 obtain⟨o,es,ep,h1,h2,h3,h4,_,nd⟩:=dd
 refine⟨⟨z,y,nd,o,es,ep,h1,h2,h3,by rw[h4,hw];rfl⟩,⟨o,h1⟩,fun g1 g2 ⟨z,y,nd,o,es,ep,h1,h2⟩ k=>⟨z,y,nd,o,es,ep,k o h1,h2⟩⟩
theorem Jq {k:Nat} (hr:zy k X.A):(kyK X.prog X.w).room X.A.in1:=by
 have:=hr.units
 show X.A.in1.units+7 < cLine
 rw[Around.in1_units]
 omega
theorem TDr.ky {p:M.D×M.D}{q:M.D×Addr×Value} (h:TDr K ρ H p q):QN K H q.1 (.ref q.2.1):=by
 obtain⟨e,k,r,_⟩:=h
 rw[e]
 refine⟨?_,ρ,r⟩
 revert k r
 cases p.1 with
 | tup ds=>exact fun k _=>k
 | non=>intro _ r;cases r
 | int i=>intro _ r;cases r
 | str z=>intro _ r;cases r.1
 | _=>intro k;cases k
theorem zEZ {kvs:List (M.D×M.D)}{xs:List (M.D×Addr×Value)} (r:Paired (TDr K ρ H) kvs xs):∀ q∈xs,QN K H q.1 (.ref q.2.1):=fun q hq=>by
 induction r with
 | nil=>cases hq
 | cons r1 r2 ih =>
  rcases List.mem_cons.mp hq with rfl | hq
  ·exact r1.ky
  ·exact ih hq
theorem TDt.of {a:Addr}{kvs:List (M.D×M.D)}{xs:List (M.D×Addr×Value)}{ha:M.D->Int} (e:H a=some (.ext (TD ha a xs))) (r:Paired (TDr K ρ H) kvs xs):TDt K H ha a xs:=⟨e,zEZ r⟩
theorem zLH {x:M.D}{v:V}{kvs:List (M.D×M.D)} (rp:zR K Θ ρ S H) (rx:zG K ρ H x v) (hd:M.zKf x S=some kvs):∃ a xs,v=.ref a/\TDx K H Θ.ha a xs/\Paired (TDr K ρ H) kvs xs:=by
 cases x with
 | ref i =>
  obtain⟨a,rfl,ea⟩:=rx
  have hd':(match S[i]? with | some (.dtt kvs)=>some kvs | some (.ftt kvs)=>some kvs | _=>none)=some kvs:=hd
  split at hd'
  ·rename_i kvs' q
   cases hd'
   obtain⟨b,e1,xs,e2,r⟩:=rp.obj _ _ q
   rw[ea] at e1
   cases e1
   exact⟨a,xs,rfl,⟨.inl e2,zEZ r⟩,r⟩
  ·rename_i kvs' q
   cases hd'
   obtain⟨b,e1,o,xs,e2,r⟩:=rp.obj _ _ q
   rw[ea] at e1
   cases e1
   exact⟨a,xs,rfl,⟨.inr ⟨o,e2⟩,zEZ r⟩,r⟩
  ·cases hd'
 | _=>cases hd
theorem Jf {x:M.D}{v:V}{p:Nat}{kvs:List (M.D×M.D)} (rp:zR K Θ ρ S H) (rx:zG K ρ H x v) (hd:M.Jb x S=some (p,kvs)):∃ a xs,x=.ref p/\v=.ref a/\ρ[p]? = some a/\S[p]? = some (.dtt kvs)/\TDt K H Θ.ha a xs/\Paired (TDr K ρ H) kvs xs:=by
 cases x with
 | ref i =>
  obtain⟨a,rfl,ea⟩:=rx
  have hd':(match S[i]? with | some (.dtt kvs)=>some (i,kvs) | _=>none)=some (p,kvs):=hd
  split at hd'
  ·rename_i kvs' q
   cases hd'
   obtain⟨b,e1,xs,e2,r⟩:=rp.obj _ _ q
   rw[ea] at e1
   cases e1
   exact⟨a,xs,rfl,rfl,ea,q,TDt.of e2 r,r⟩
  ·cases hd'
 | _=>cases hd
theorem zAx {kvs:List (M.D×M.D)}{xs:List (M.D×Addr×Value)} (r:Paired (TDr K ρ H) kvs xs) (y:M.D):match M.zo y kvs with
  | some d=>∃ p v,atKey xs y=some p/\zG K ρ H d v/\zY v p.2
  | none=>atKey xs y=none:=by
 induction r with
 | nil=>rfl
 | @cons p q kvs xs r1 r2 ih =>
  obtain⟨e,k,_,v,r3,r4⟩:=r1
  unfold M.zo at ih ⊢
  obtain⟨p1,p2⟩:=p
  rw[List.lookup_cons]
  by_cases h:y=p1
  ·subst h
   rw[show (y == y)=true by simp]
   refine⟨q.2,v,?_,r3,r4⟩
   unfold atKey
   rw[List.find?_cons_of_pos (by simpa using e)]
   rfl
  ·rw[show (y == p1)=false by simpa using h]
   have:atKey (q::xs) y=atKey xs y:=by
    unfold atKey
    rw[List.find?_cons_of_neg (by
     have e':q.1=p1:=e
     rw[e']
     simpa using fun z=>h z.symm)]
   rw[this]
   exact ih
theorem Jk {d:M.D}{v:V} (k:M.kyT d=true) (r:zG K ρ H d v):QN K H d v:=⟨k,ρ,r⟩
noncomputable def zKi (K:PySem.W.Frag) (ha:M.D->Int):R2:=fun x y H Q=>(∃ a xs d p v,x=.ref a/\TDx K H ha a xs/\QN K H d y/\atKey xs d=some p/\zY v p.2/\Q v H)\/zGz K x y H Q
theorem qU {k:Nat} (hw:Θ.ha=haD X.w 7) (hr:zy k X.A):IxR X (zKi X.K Θ.ha):=by
 refine IxR.or ?_ (zMC hr)
 intro value slice pins s σ H x y v u Q I rx ry h hs
 obtain⟨a,xs,d,p,w',rfl,t,kk,hp,rv,q⟩:=h
 cases rx
 obtain⟨z,ns,dd⟩:=t.dict hw I
 obtain⟨b,rfl,ki⟩:=kk.is I ry
 exact tail_any dd.typeIs PySem.F.slot_dict_getitem.lookup (wpAny_getItem_heap (Jq hr) ki dd hp ⟨w',H,I.tok _ (Nat.lt_of_lt_of_le I.tk (Nat.le_add_right _ _)),rv,q⟩) hs
theorem jY:Ad2 K Θ M.zS (zKi K Θ.ha):=by
 intro ρ H S x y X Y Q rp rx ry h
 unfold M.zS at h
 split at h
 ·rename_i kvs hd
  obtain⟨a,xs,rfl,t,r⟩:=zLH rp rx hd
  split at h
  ·rename_i hk
   have g:=zAx r y
   cases q2:M.zo y kvs with
   | none=>rw[q2] at h;exact h.elim
   | some d =>
    rw[q2] at h g
    obtain⟨p,v,e1,e2,e3⟩:=g
    exact .inl ⟨a,xs,y,p,v,rfl,t,Jk hk ry,e1,e3,zE.here h rp e2⟩
  ·exact h.elim
 ·exact .inr (zLf ρ H S x y X Y Q rp rx ry h)
noncomputable def zHm (K:PySem.W.Frag) (ha:M.D->Int):List V->Hp->VK->Prop:=fun vs H Q=>(∃ a xs,vs=[V.ref a]/\TDt K H ha a xs/\Q (.int xs.length) H)\/zEk K vs H Q
theorem ZO:jU X (.builtin "len") (zHm X.K Θ.ha):=by
 refine jU.or ?_ zFt
 intro pins s σ H xs us Q I r h
 obtain⟨a,xs,rfl,t,q⟩:=h
 obtain⟨u,rfl,ru⟩:=Zm r
 cases ru
 obtain⟨ns,z,es,ep,x,e⟩:=t.obj I
 have e':es.size=xs.length:=by have:=congrArg List.length e;simpa using this
 refine zKz ns x (by omega) fun t k hk=>⟨.int xs.length,H,I.tok _ hk,⟨t,by rw[e']⟩,q⟩
theorem zAk {kvs:List (M.D×M.D)}{xs:List (M.D×Addr×Value)} (r:Paired (TDr K ρ H) kvs xs):kvs.length=xs.length:=Paired.length r
theorem Z8:AdN K Θ M.ZP (zHm K Θ.ha):=by
 intro ρ H S xs Xs Q rp rxs h
 unfold M.ZP at h
 split at h
 ·rename_i x
  obtain⟨Y,r,rfl,ry,rfl⟩:=id rxs
  split at h
  ·rename_i p kvs hd
   obtain⟨a,xs,rfl,rfl,ea,q,t,r⟩:=Jf rp ry hd
   refine .inl ⟨a,xs,rfl,t,?_⟩
   rw[<- zAk r]
   exact zE.here h rp rfl
  ·exact .inr (zF1 ρ H S _ _ Q rp rxs h)
 ·exact .inr (zF1 ρ H S _ _ Q rp rxs h)
noncomputable def zEo (K:PySem.W.Frag) (ha:M.D->Int) (neg:Bool):R2:=fun x y H Q=>(∃ a xs d,y=.ref a/\TDt K H ha a xs/\QN K H d x/\Q (.bl (xor neg (atKey xs d).isSome)) H) \/
 (∃ a vs ds d ρ,y=.ref a/\SqL K H a vs/\zJ K ρ H ds vs/\zG K ρ H d x/\M.kyD 7 d=true/\ds.all (M.kyD 7)=true/\Q (.bl (xor neg (ds.contains d))) H)\/zGV K neg x y H Q
theorem zKA {A:Around}{ds:List M.D}{us:List Value}{d:M.D}{u:Value} (hu:A.units+7 < cLine) (r:qH s.heap 7 ds us) (p:IsV s.heap 7 d u):∃ e:Value->Bool,(∀ y∈us,EqAt A s y u (e y))/\us.any e=ds.contains d:=by
 classical
 refine⟨fun y=>decide (IsV s.heap 7 d y),fun y hy=>?_,?_⟩
 ·have:∃ c,IsV s.heap 7 c y:=by
   clear p
   induction us generalizing ds with
   | nil=>cases hy
   | cons v us ih =>
    cases r with
    | cons r1 r2 =>
     rcases List.mem_cons.mp hy with rfl | hy
     ·exact⟨_,r1⟩
     ·exact ih r2 hy
  obtain⟨c,hc⟩:=this
  have z:=IsV.eq hu hc p
  have:decide (c=d)=decide (IsV s.heap 7 d y):=by
   by_cases h:c=d
   ·subst h;simp[hc]
   ·rw[qc h,decide_eq_false fun k=>h (IsV.inj hc k)]
  show EqAt A s y u (decide (IsV s.heap 7 d y))
  rw[<- this]
  exact z
 ·induction us generalizing ds with
  | nil=>cases r;rfl
  | cons v us ih =>
   cases r with
   | @cons _ c ds' _ _ r1 r2 =>
    rw[List.any_cons,ih r2,List.contains_cons]
    congr 1
    by_cases h:d=c
    ·subst h;simp[r1]
    ·rw[decide_eq_false fun k=>h (IsV.inj k r1)]
     exact (beq_false_of_ne h).symm
theorem zJa (I:Inv X pins σ H s) {ρ:List Addr}:∀ {ds:List M.D}{xs:List V}{us:List Value},ds.all (M.kyD 7)=true->zJ X.K ρ H ds xs->zX xs us->qH s.heap 7 ds us:=by
 intro ds
 induction ds with
 | nil=>intro xs us _ r vs;cases r;cases vs;exact .nil
 | cons d ds ih =>
  intro xs us k r vs
  obtain⟨y,ys,rfl,r1,r2⟩:=r
  rw[List.all_cons,Bool.and_eq_true] at k
  cases vs with
  | cons v1 v2=>exact .cons (zDJ I k.1 r1 v1) (ih k.2 r2 v2)
theorem zB2 {k:Nat} (hw:Θ.ha=haD X.w 7) (hr:zy k X.A):OpR X (compareOp .NotIn) (zEo X.K Θ.ha true):=by
 intro pins s σ H x y v u Q I rx ry h
 rcases h with ⟨a,xs,d,rfl,t,kk,q⟩ | ⟨a,vs,ds,d,ρ,rfl,hq,rs,rd,k1,k2,q⟩ | h
 ·cases ry
  obtain⟨z,ns,dd⟩:=t.dict hw I
  obtain⟨b,rfl,ki⟩:=kk.is I rx
  refine wpAny_notIn_heap (Jq hr) ki ns dd ⟨.bl (!(atKey xs d).isSome),H,I.tok _ (Nat.lt_of_lt_of_le I.tk (Nat.le_add_right _ _)),rfl,?_⟩
  rw[Bool.true_xor] at q
  exact q
 ·cases ry
  obtain⟨its,rv,pl,z⟩:=I.list hq
  obtain⟨e,h1,h2⟩:=zKA (A:=X.A.in1) (by have:=Jq hr;exact this) (zJa I k2 rs rv) (zDJ I k1 rd rx)
  refine notIn_listAt e pl.isList (fun y hy=>h1 y (by simpa using hy)) ?_
  refine⟨.bl (!ds.contains d),H,I,?_,?_⟩
  ·show Value.bool _=_
   rw[<- h2]
   simp
  ·rw[Bool.true_xor] at q
   exact q
 ·exact zGL hr pins s σ H x y v u Q I rx ry h
theorem zGX {neg:Bool}{x y:M.D}{X1 Y:V}{Q:VK} (rp:zR K Θ ρ S H) (rx:zG K ρ H x X1) (ry:zG K ρ H y Y) (h:zE K Θ rB ρ H (M.inT x y S) (fun b H'=>Q (.bl (xor neg b)) H')):zEo K Θ.ha neg X1 Y H Q:=by
 have old:zE K Θ rB ρ H (M.inD x y S) (fun b H'=>Q (.bl (xor neg b)) H')->zEo K Θ.ha neg X1 Y H Q:=fun h=>.inr (.inr (zJA rp rx ry h))
 unfold M.inT at h
 split at h
 ·rename_i p kvs hd
  obtain⟨a,xs,rfl,rfl,ea,q,t,r⟩:=Jf rp ry hd
  split at h
  ·rename_i hk
   refine .inl ⟨a,xs,x,rfl,t,Jk hk rx,?_⟩
   have g:=zAx r x
   have:(atKey xs x).isSome=(M.zo x kvs).isSome:=by
    cases q2:M.zo x kvs with
    | none=>rw[q2] at g;rw[g];rfl
    | some d=>rw[q2] at g;obtain⟨_,_,g,_⟩:=g;rw[g];rfl
   rw[this]
   exact zE.here (b:=(M.zo x kvs).isSome) h rp rfl
  ·exact h.elim
 ·split at h
  ·rename_i i _
   split at h
   ·rename_i ys hy
    unfold M.inL at h
    split at h
    ·rename_i hk
     rw[Bool.and_eq_true] at hk
     obtain⟨a,rfl,ea⟩:=id ry
     have q:S[i]? = some (M.O.lst ys):=by
      unfold M.jO at hy
      split at hy
      ·rename_i z;cases hy;exact z
      ·cases hy
     obtain⟨zs,e1,r⟩:=yg rp ea q
     exact .inr (.inl ⟨a,zs,ys,x,ρ,rfl,SqL.of e1,r,rx,hk.1,hk.2,zE.here (b:=ys.contains x) h rp rfl⟩)
    ·exact old h
   ·exact old h
  ·exact old h
theorem zBm:AdC K Θ M.Jh (zEo K Θ.ha true):=by
 intro ρ H S x y X1 Y Q rp rx ry h
 exact zGX rp rx ry (zE.bind h fun ρ1 H1 b b' S1 p1 l1 rp1 e h1=>by cases e;rw[Bool.true_xor];exact zE.here (b:=!b) h1 rp1 rfl)
noncomputable def zGG (K:PySem.W.Frag) (ha:M.D->Int):List V->Hp->VK->Prop:=fun vs H Q=>(∃ a xs,vs=[V.ref a]/\TDt K H ha a xs/\∀ l,H l=none->Q (.ref l) (upd H l (.lst (xs.map fun x=>V.ref x.2.1))))\/zCa K vs H Q
theorem zAf {k:Nat} (hr:zy k X.A):jU X (.type "list") (zGG X.K Θ.ha):=by
 refine jU.or ?_ (zEu hr)
 intro pins s σ H vs us Q I r h
 obtain⟨a,xs,rfl,t,q⟩:=h
 obtain⟨u,rfl,ru⟩:=Zm r
 cases ru
 obtain⟨ns,z,es,ep,x,e⟩:=t.obj I
 have e':es.size=xs.length:=by have:=congrArg List.length e;simpa using this
 refine wpAny_with_toks (n:=1) I.tk (PySem.W.kdl_call (zL2 ns) hr.hd x (by omega) fun h' tk acc c' keep hS it htk=>?_)
 obtain⟨hsz,hit⟩:=it
 refine⟨.ref s.heap.objs.size,_,I.laid (t':=tk) (o:=.lst (xs.map fun x=>V.ref x.2.1)) keep (Nat.le_refl _) ⟨by rw[List.length_map];exact z,acc.toList,c',zAH (by simp;omega) fun j u hu=>?_,by simpa using hS⟩ htk,rfl,q _ (I.hok.fresh (Nat.le_refl _))⟩
 obtain⟨en,h1,rfl⟩:=hit j u (by simpa using hu)
 have h2:(es.toList.map (·.key))[j]? = some en.key:=by
  rw[List.getElem?_map,Array.getElem?_toList,h1];rfl
 rw[e,List.getElem?_map] at h2
 rw[List.getElem?_map]
 cases q2:xs[j]? with
 | none=>rw[q2] at h2;cases h2
 | some y=>rw[q2] at h2;exact⟨_,rfl,(Option.some.inj h2).symm⟩
theorem zFQ {kvs:List (M.D×M.D)}{xs:List (M.D×Addr×Value)} (r:Paired (TDr K ρ H) kvs xs):zJ K ρ H (kvs.map (·.1)) (xs.map fun x=>V.ref x.2.1):=by
 induction r with
 | nil=>rfl
 | cons r1 r2 ih=>exact⟨_,_,rfl,r1.2.2.1,ih⟩
theorem zCc:AdN K Θ M.yx (zGG K Θ.ha):=by
 intro ρ H S xs Xs Q rp rxs h
 unfold M.yx at h
 split at h
 ·rename_i x
  obtain⟨Y,r,rfl,ry,rfl⟩:=id rxs
  split at h
  ·rename_i p kvs hd
   obtain⟨a,xs,rfl,rfl,ea,q,t,r⟩:=Jf rp ry hd
   exact .inl ⟨a,xs,rfl,t,fun l hl=>zE.alloc h rp (zFQ r) hl⟩
  ·exact .inr (zEG ρ H S _ _ Q rp rxs h)
 ·exact .inr (zEG ρ H S _ _ Q rp rxs h)
end
section
variable {X:Cx}{pins:List (Addr×Obj)}{σ:St}{H:Hp}{s:Shared}{Θ:Tab}{K:PySem.W.Frag}{ρ:List Addr}{S:M.S}
theorem yT {a:Addr}{φ:Heap->Prop} (h:H a=some (.ext φ)):Mut (H a):=by rw[h];trivial
theorem zD9 {kvs:List (M.D×M.D)}{xs:List (M.D×Addr×Value)} (r:Paired (TDr K ρ H) kvs xs) (k:M.D):Paired (TDr K ρ H) (M.z6 k kvs) (xs.filter fun x=>decide (x.1≠k)):=by
 unfold M.z6
 induction r with
 | nil=>exact .nil
 | @cons p q kvs xs r1 r2 ih =>
  have e:q.1=p.1:=r1.1
  by_cases h:p.1=k
  ·rw[List.filter_cons_of_neg (by simpa using h),List.filter_cons_of_neg (by rw[e];simpa using h)]
   exact ih
  ·rw[List.filter_cons_of_pos (by simpa using h),List.filter_cons_of_pos (by rw[e];simpa using h)]
   exact .cons r1 ih
theorem zKe {kvs:List (M.D×M.D)}{xs:List (M.D×Addr×Value)} (r:Paired (TDr K ρ H) kvs xs) (k:M.D):(kvs.any fun p=>decide (p.1=k))=(atKey xs k).isSome:=by
 induction r with
 | nil=>rfl
 | @cons p q kvs xs r1 r2 ih =>
  have e:q.1=p.1:=r1.1
  rw[List.any_cons,ih]
  unfold atKey
  by_cases h:p.1=k
  ·rw[List.find?_cons_of_pos (by rw[e];simpa using h)]
   simp[h]
  ·rw[List.find?_cons_of_neg (by rw[e];simpa using h)]
   simp[h]
theorem zKG {kvs:List (M.D×M.D)}{xs:List (M.D×Addr×Value)} (r:Paired (TDr K ρ H) kvs xs) {k d:M.D}{b:Addr}{u:Value}{v:V} (hk:M.kyD 7 k=true) (rk:zG K ρ H k (.ref b)) (rd:zG K ρ H d v) (rv:zY v u):Paired (TDr K ρ H) (M.qz k d kvs) (storedH xs k b u):=by
 unfold M.qz storedH
 rw[zKe r k]
 split
 ·induction r with
  | nil=>exact .nil
  | @cons p q kvs xs r1 r2 ih =>
   rw[List.map_cons,List.map_cons]
   refine .cons ?_ ?_
   ·obtain⟨e,a2,a3,w,a4,a5⟩:=r1
    unfold putAt
    by_cases h:p.1=k
    ·rw[if_pos h,if_pos (e.trans h)]
     exact⟨e,a2,a3,v,rd,rv⟩
    ·rw[if_neg h,if_neg (fun z=>h (e.symm.trans z))]
     exact⟨e,a2,a3,w,a4,a5⟩
   ·by_cases h:(atKey xs k).isSome=true
    ·exact ih h
    ·have nk:∀ q∈xs,q.1≠k:=fun q hq z=>h (by
      unfold atKey
      rw[Option.isSome_map,List.find?_isSome]
      exact⟨q,hq,by simpa using z⟩)
     have:∀ {kvs:List (M.D×M.D)}{xs:List (M.D×Addr×Value)},Paired (TDr K ρ H) kvs xs->(∀ q∈xs,q.1≠k)->Paired (TDr K ρ H) (kvs.map fun p=>if p.1=k then (p.1,d) else p) (xs.map (putAt k u)):=by
      intro kvs xs r
      induction r with
      | nil=>exact fun _=>.nil
      | @cons p q kvs xs r1 r2 ih =>
       intro nk
       have z:=nk q List.mem_cons_self
       have e:q.1=p.1:=r1.1
       rw[List.map_cons,List.map_cons]
       unfold putAt
       rw[if_neg (fun y=>z (e.trans y)),if_neg z]
       exact .cons r1 (ih fun q hq=>nk q (List.mem_cons_of_mem _ hq))
     exact this r2 nk
 ·have:∀ {kvs:List (M.D×M.D)}{xs:List (M.D×Addr×Value)},Paired (TDr K ρ H) kvs xs->Paired (TDr K ρ H) (kvs++[(k,d)]) (xs++[(k,b,u)]):=by
   intro kvs xs r
   induction r with
   | nil=>exact .cons ⟨rfl,hk,rk,v,rd,rv⟩ .nil
   | cons r1 r2 ih=>exact .cons r1 ih
  exact this r
theorem zEp {xs:List (M.D×Addr×Value)}{k:M.D}{b:Addr}{u:Value}:(storedH xs k b u).length <= xs.length+1:=by
 unfold storedH
 split<;>simp
noncomputable def zLI (K:PySem.W.Frag) (ha:M.D->Int) (td ty tv:TE):TS:=fun D σ H=>tv σ H fun v H1=>td σ H1 fun x H2=>ty σ H2 fun y H3=>∃ a xs d,x=.ref a/\TDt K H3 ha a xs/\QN K H3 d y/\xs.length < sizeLine /\
 ∀ b u,y=.ref b->zY v u->D.nx σ (upd H3 a (.ext (TD ha a (storedH xs d b u))))
theorem zIJ {k:Nat}{o i value:Expr}{pos pos':Pos}{td ty tv:TE} (hw:Θ.ha=haD X.w 7) (hr:zy k X.A) (ho:PE X o td) (hi:PE X i ty) (hv:PE X value tv) (hs:swapsWith value (some (.Subscript o i pos')) pos.line X.env=pure false) :
  PS X (.Assign [.Subscript o i pos'] value pos) (zLI X.K Θ.ha td ty tv):=by
 intro pins s σ H D I h
 refine wpAny_Assign_Subscript (thn (hv pins s σ H _ I h) fun r s1 ⟨v,H1,I1,rv,q1⟩=>thn (ho pins s1 σ H1 _ I1 q1) fun u s2 ⟨x,H2,I2,rx,q2⟩=>thn (hi pins s2 σ H2 _ I2 q2) fun iv s3 ⟨y,H3,I3,ry,a,xs,d,ex,t,kk,z,q3⟩=>?_) hs
 subst ex
 obtain rfl:u=Value.ref a:=rx
 obtain⟨z1,ns,dd⟩:=t.dict hw I3
 obtain⟨b,rfl,ki⟩:=kk.is I3 ry
 refine wpAny_setItem_heap (hsz:=z1) (Jq hr) ki dd fun h' dd' sb=>?_
 have yb:y=.ref b:=by
  obtain⟨k1,ρ,rd⟩:=kk
  cases d with
  | tup ds=>obtain⟨c,_,rfl,_⟩:=rd;cases ry;rfl
  | _=>cases k1
 have he:∃ q,h'.get? a=some q:=let ⟨q,_,_,hq,_⟩:=dd';⟨q,hq⟩
 exact⟨σ,_,Jp (t':=s3.toks+(kyK X.prog X.w).draws d) I3 (yT t.at') sb he (zEe hw (by have:=zEp (xs:=xs) (k:=d) (b:=b) (u:=r);omega) ns dd') (Nat.lt_of_lt_of_le I3.tk (Nat.le_add_right _ _)),q3 b r yb rv⟩
theorem zH1 {o i e:Expr}{mo mi me:M.EM}{pos pos':Pos}{n:Nat} (hw:Θ.ha=haD X.w 7) (hr:zy n X.A) (ho:ME X Θ o mo) (hi:ME X Θ i mi) (he:ME X Θ e me)
  (ha:∀ v,assign (.Subscript o i pos') X.env v=(do
   let ov <- holding [v] (eval o X.env)
   let iv <- holding [v,ov] (eval i X.env)
   standAt pos'
   holding [v,ov,iv] (setItem ov iv v)
   release [v,ov,iv] []):=by intro _;rfl)
  (hs:swapsWithSole [.Subscript o i pos'] e pos.line X.env=pure false:=by rfl) (hw':swappedStores [.Subscript o i pos'] e X.env=pure none:=by rfl) (h1:(assignEach [.Subscript o i pos'] X.env).map (·.2)=[assign (.Subscript o i pos') X.env]:=by rfl)
  (hs2:swapsWith e (some (.Subscript o i pos')) pos.line X.env=pure false:=by rfl):MS X Θ (.Assign [.Subscript o i pos'] e pos) (M.Z4 mo mi me) :=
 (PS.or (zIJ (Θ:=Θ) hw hr ho hi he hs2) (zJ9 hr ho hi he ha hs hw' h1 hs2)).imp fun D σ H ⟨ρ,σ',S,st,rp,h⟩=>by
  have h0:zr X.K Θ ρ H ((me σ' S).stm σ' fun y s=>(mo σ' s).stm σ' fun x s=>(mi σ' s).stm σ' fun k s=>(M.Ql x k y s).stm σ' fun _ s=>.nx σ' s) D:=h
  clear h
  cases hE:me σ' S with
  | no=>rw[hE] at h0;exact h0.elim
  | exc a s=>rw[hE] at h0;exact h0.elim
  | ok y S1 =>
   rw[hE,M.R.stm_ok] at h0
   cases hO:mo σ' S1 with
   | no=>rw[hO] at h0;exact h0.elim
   | exc a s=>rw[hO] at h0;exact h0.elim
   | ok x S2 =>
    rw[hO,M.R.stm_ok] at h0
    cases hI:mi σ' S2 with
    | no=>rw[hI] at h0;exact h0.elim
    | exc a s=>rw[hI] at h0;exact h0.elim
    | ok k S3 =>
     rw[hI,M.R.stm_ok] at h0
     cases hd:M.Jb x S3 with
     | none =>
      refine .inr ⟨ρ,σ',S,st,rp,?_⟩
      have e0:M.Ql x k y S3=M.qw x k y S3:=by unfold M.Ql;rw[hd]
      rw[e0] at h0
      show zr X.K Θ ρ H ((me σ' S).stm σ' fun y s=>(mo σ' s).stm σ' fun x s=>(mi σ' s).stm σ' fun k s=>(M.qw x k y s).stm σ' fun _ s=>.nx σ' s) D
      rw[hE,M.R.stm_ok,hO,M.R.stm_ok,hI,M.R.stm_ok]
      exact h0
     | some pk =>
      obtain⟨p,kvs⟩:=pk
      have e0:M.Ql x k y S3=(if (M.kyT k && decide (kvs.length < M.SZ))=true then M.R.ok () (S3.set p (.dtt (M.qz k y kvs))) else .no):=by unfold M.Ql;rw[hd]
      rw[e0] at h0
      cases hk:(M.kyT k && decide (kvs.length < M.SZ)) with
      | false=>rw[hk] at h0;exact h0.elim
      | true =>
       rw[hk,if_pos rfl,M.R.stm_ok] at h0
       rw[Bool.and_eq_true] at hk
       refine .inl ⟨ρ,σ',S,st,rp,?_⟩
       rw[hE]
       intro ρ1 H1 Y p1 l1 rp1 ry
       refine⟨ρ1,σ',S1,st.mono p1 l1,rp1,?_⟩
       rw[hO]
       intro ρ2 H2 Xv p2 l2 rp2 rx
       refine⟨ρ2,σ',S2,st.mono (p1.trans p2) (l1.trans l2),rp2,?_⟩
       rw[hI]
       intro ρ3 H3 Kv p3 l3 rp3 rk
       obtain⟨a,xs,rfl,rfl,ea,q,t,r⟩:=Jf rp3 (rx.mono p3 l3) hd
       have kk:=Jk hk.1 rk
       refine⟨a,xs,k,rfl,t,kk,by rw[<- zAk r,<- yq];exact of_decide_eq_true hk.2,fun b u yb rv=>?_⟩
       subst yb
       have le:=Le.put (yT t.at') (.ext (TD Θ.ha a (storedH xs k b u)))
       have hk7:M.kyD 7 k=true:=by
        have:=hk.1
        revert this
        cases k<;>first | exact fun z=>z | (intro z;cases z)
       have r':=Paired.mapP r fun p q z=>TDr.mono (List.prefix_refl _) le z
       exact h0 ρ3 _ σ (p1.trans (p2.trans p3)) (l1.trans (l2.trans (l3.trans le))) (rp3.put ea (yT t.at') ⟨_,z5,zKG r' hk7 (rk.mono (List.prefix_refl _) le) (ry.mono (p2.trans p3) (l2.trans (l3.trans le))) rv⟩) (st.mono (p1.trans (p2.trans p3)) (l1.trans (l2.trans (l3.trans le))))
theorem QT {o i e:Expr}{mo mi me:M.EM}{pos pos':Pos}{n:Nat} (hw:Θ.ha=haD X.w 7) (hr:zy n X.A) (ho:WE X Θ o mo) (hi:WE X Θ i mi) (he:WE X Θ e me)
  (ha:∀ v,assign (.Subscript o i pos') X.env v=(do
   let ov <- holding [v] (eval o X.env)
   let iv <- holding [v,ov] (eval i X.env)
   standAt pos'
   holding [v,ov,iv] (setItem ov iv v)
   release [v,ov,iv] []):=by intro _;rfl)
  (hs:swapsWithSole [.Subscript o i pos'] e pos.line X.env=pure false:=by rfl) (hw':swappedStores [.Subscript o i pos'] e X.env=pure none:=by rfl) (h1:(assignEach [.Subscript o i pos'] X.env).map (·.2)=[assign (.Subscript o i pos') X.env]:=by rfl)
  (hs2:swapsWith e (some (.Subscript o i pos')) pos.line X.env=pure false:=by rfl):WS X Θ (.Assign [.Subscript o i pos'] e pos) (M.Z4 mo mi me):=by with_unfolding_all exact zH1 (o:=o) (i:=i) (e:=e) (mo:=mo) (mi:=mi) (me:=me) (pos:=pos) (pos':=pos') (n:=n) hw hr ho hi he ha hs hw' h1 hs2
noncomputable def zHf (K:PySem.W.Frag) (ha:M.D->Int):V->List V->Hp->VK->Prop:=fun x vs H Q=>∃ a xs d y more,x=.ref a/\vs=y::more/\TDt K H ha a xs/\QN K H d y /\
 (((more=[]\/∃ m,more=[m])/\∃ p v,atKey xs d=some p/\zY v p.2/\Q v (upd H a (.ext (TD ha a (xs.filter fun x=>decide (x.1≠d))))))\/∃ m,more=[m]/\atKey xs d=none/\Q m H)
theorem zBE {k:Nat} (hw:Θ.ha=haD X.w 7) (hr:zy k X.A):MtM X "dict.pop" (zHf X.K Θ.ha):=by
 intro pins s σ H x vs v us Q I rx rv h
 obtain⟨a,xs,d,y,more,rfl,rfl,t,kk,h⟩:=h
 cases rx
 cases rv with
 | @cons _ u _ us' r1 r2 =>
  obtain⟨z,ns,dd⟩:=t.dict hw I
  obtain⟨b,rfl,ki⟩:=kk.is I r1
  rcases h with ⟨hm,p,w',hp,rv,q⟩ | ⟨m,rfl,hp,q⟩
  ·have hm':us'=[]\/∃ x,us'=[x]:=by
    rcases hm with rfl | ⟨m,rfl⟩
    ·cases r2;exact .inl rfl
    ·cases r2 with | cons _ r3=>cases r3;exact .inr ⟨_,rfl⟩
   have ar:argsOk "dict.pop" ⟨.ref a::.ref b::us',[]⟩:=by
    rcases hm' with rfl | ⟨x,rfl⟩
    ·exact PySem.F.args_dict_pop_2 _ _
    ·exact PySem.F.args_dict_pop_3 _ _ _
   refine call_meetsIn PySem.F.slot_dict_pop dd.typeIs PySem.F.entry_dict_pop ar (zFs (kn:=kyK X.prog X.w) hm') ⟨Jq hr,xs,d,p,ki,dd,z,hp,fun h' dd' sb=>?_⟩
   have he:∃ q,h'.get? a=some q:=let ⟨q,_,_,hq,_⟩:=dd';⟨q,hq⟩
   exact⟨w',_,Jp (t':=s.toks+(kyK X.prog X.w).draws d) I (yT t.at') sb he (zEe hw (Nat.le_trans (List.length_filter_le _ _) z) ns dd') (Nat.lt_of_lt_of_le I.tk (Nat.le_add_right _ _)),rv,q⟩
  ·cases r2 with
   | cons rm r3 =>
    cases r3
    refine call_meetsIn PySem.F.slot_dict_pop dd.typeIs PySem.F.entry_dict_pop (PySem.F.args_dict_pop_3 _ _ _) (zEb (kn:=kyK X.prog X.w) ns) ⟨Jq hr,xs,d,ki,dd,z,hp,fun tk hk=>?_⟩
    exact⟨m,H,I.tok _ (Nat.lt_of_lt_of_le I.tk hk),rm,q⟩
theorem zBh:AdM K Θ M.QP (zHf K Θ.ha):=by
 intro ρ H S x xs X Xs Q rp rx rxs h
 unfold M.QP at h
 split at h
 ·rename_i y
  obtain⟨Y,r,rfl,ry,rfl⟩:=rxs
  split at h
  ·rename_i p kvs hd
   obtain⟨a,zs,rfl,rfl,ea,q,t,r⟩:=Jf rp rx hd
   split at h
   ·rename_i hk
    have g:=zAx r y
    cases q2:M.zo y kvs with
    | none=>rw[q2] at h;exact h.elim
    | some d =>
     rw[q2] at h g
     obtain⟨pp,v,e1,e2,e3⟩:=g
     have le:=Le.put (yT t.at') (.ext (TD Θ.ha a (zs.filter fun x=>decide (x.1≠y))))
     refine⟨a,zs,y,Y,[],rfl,rfl,t,Jk hk ry,.inl ⟨.inl rfl,pp,v,e1,e3,?_⟩⟩
     exact h ρ _ v (List.prefix_refl _) le (rp.put ea (yT t.at') ⟨_,z5,Paired.mapP (zD9 r y) fun p q z=>TDr.mono (List.prefix_refl _) le z⟩) (e2.mono (List.prefix_refl _) le)
   ·exact h.elim
  ·exact h.elim
 ·rename_i y m
  obtain⟨Y,r,rfl,ry,Z,r',rfl,rz,rfl⟩:=rxs
  split at h
  ·rename_i p kvs hd
   obtain⟨a,zs,rfl,rfl,ea,q,t,r⟩:=Jf rp rx hd
   split at h
   ·rename_i hk
    have g:=zAx r y
    cases q2:M.zo y kvs with
    | none =>
     rw[q2] at h g
     exact⟨a,zs,y,Y,[Z],rfl,rfl,t,Jk hk ry,.inr ⟨Z,rfl,g,zE.here h rp rz⟩⟩
    | some d =>
     rw[q2] at h g
     obtain⟨pp,v,e1,e2,e3⟩:=g
     have le:=Le.put (yT t.at') (.ext (TD Θ.ha a (zs.filter fun x=>decide (x.1≠y))))
     refine⟨a,zs,y,Y,[Z],rfl,rfl,t,Jk hk ry,.inl ⟨.inr ⟨Z,rfl⟩,pp,v,e1,e3,?_⟩⟩
     exact h ρ _ v (List.prefix_refl _) le (rp.put ea (yT t.at') ⟨_,z5,Paired.mapP (zD9 r y) fun p q z=>TDr.mono (List.prefix_refl _) le z⟩) (e2.mono (List.prefix_refl _) le)
   ·exact h.elim
  ·exact h.elim
 ·exact h.elim
theorem zHF {pos:Pos} (hw:Θ.ha=haD X.w 7):PE X (.Dict [] [] pos) (fun _ H Q=>∀ p,H p=none->Q (.ref p) (upd H p (.ext (TD Θ.ha p [])))):=fun pins s σ H Q I h =>
 wpAny_Dict_empty ⟨.ref s.heap.objs.size,_,I.laid (a:=s.heap.objs.size) (o:=.ext (TD Θ.ha s.heap.objs.size [])) (t':=s.toks) (fun _ _ q=>Heap.get?_push_of_some _ q) (Nat.le_refl _) (zEe hw (Nat.zero_le _) (beq_eq_false_iff_ne.mpr (Ne.symm (Nat.ne_of_lt I.big))) (Heap.DictOfH.new s.heap)),rfl,h _ (I.hok.fresh (Nat.le_refl _))⟩
theorem zHP {pos:Pos} (hw:Θ.ha=haD X.w 7):ME X Θ (.Dict [] [] pos) M.Qm:=(zHF hw).imp fun σ H Q ⟨ρ,σ',S,st,rp,h⟩=>fun p hp=>by
 have h':zE X.K Θ (zG X.K) ρ H (M.alloc (.dtt []) S) Q:=h
 exact h' (ρ++[p]) _ _ (List.prefix_append _ _) (Le.new hp _) (rp.alloc hp ⟨[],z5,.nil⟩) ⟨p,rfl,by rw[<- rp.len];simp⟩
theorem JD {pos:Pos} (hw:Θ.ha=haD X.w 7):WE X Θ (.Dict [] [] pos) M.Qm:=by with_unfolding_all exact zHP (pos:=pos) hw
end
theorem zFR {K:PySem.W.Frag}{Θ:Tab}:Ad2 K Θ M.zCX (rI zKV fun i j=>.int (i ^ j.toNat)):=by
 intro ρ H S x y X Y Q rp rx ry h
 unfold M.zCX at h
 split at h
 ·rename_i i j
  cases rx
  cases ry
  split at h
  ·rename_i c
   exact⟨i,j,rfl,rfl,⟨c.1,by omega,c.2.2⟩,zE.here (b:=V.int (i ^ j.toNat)) h rp rfl⟩
  ·exact h.elim
 ·exact h.elim
end L2
namespace L2
open PySem PySem.Spec PyProof.Rows
theorem Inv.freezeX {X:Cx}{pins:List (Addr×Obj)}{σ:St}{H:Hp}{s:Shared}{a:Addr}{φ:Heap->Prop} (I:Inv X pins σ H s) (e:H a=some (.ext φ)):∃ o,Inv X pins σ (upd H a (.frz o (.ext φ))) s:=by
 obtain⟨p,⟨o,go⟩,k⟩:=(show jH X.prog X.w H s.heap a (.ext φ) from I.hok a _ e)
 exact⟨o,I.swapD e (fun _ q=>nomatch q) (I.dict_base rfl e) (fun _ q=>nomatch q) (fun _ q=>nomatch q) ⟨go,p,⟨o,go⟩,k⟩⟩
section
variable {ha:M.D->Int}{a:Addr}{o:Obj}{xs:List (M.D×Addr×Value)}
noncomputable def FzT (ha:M.D->Int) (a:Addr) (o:Obj) (xs:List (M.D×Addr×Value)) (es:Array DictEntry) (ep:Nat):Prop:=es.toList=xs.map (fun x=>⟨ha x.1,.ref x.2.1,x.2.2⟩)/\∀ h:Heap,h.get? a=some o->DAt h a es ep
theorem FzT.size {es:Array DictEntry}{ep:Nat} (h:FzT ha a o xs es ep):es.size=xs.length:=by
 have:=congrArg List.length h.1
 simpa using this
theorem FzT.at {es:Array DictEntry}{ep:Nat} (h:FzT ha a o xs es ep) {i:Nat}{p:M.D×Addr×Value} (e:xs[i]? = some p) (hi:i < es.size):es[i]=⟨ha p.1,.ref p.2.1,p.2.2⟩:=by
 have h1:es.toList[i]? = some ⟨ha p.1,.ref p.2.1,p.2.2⟩:=by rw[h.1,List.getElem?_map,e];rfl
 rw[Array.getElem?_toList,Array.getElem?_eq_getElem hi] at h1
 exact Option.some.inj h1
theorem zLk {X:Cx}{pins:List (Addr×Obj)}{σ:St}{H:Hp}{s:Shared} (I:Inv X pins σ H s) (e:H a=some (.frz o (.ext (TD ha a xs)))):(a == sysModules)=false/\s.heap.get? a=some o/\∃ es ep,FzT ha a o xs es ep:=by
 obtain⟨go,⟨_,ns,_,o',es,ep,h1,h2,h3,h4⟩,_⟩:=(show jH X.prog X.w H s.heap a (.frz o (.ext (TD ha a xs))) from I.hok a _ e)
 rw[go] at h1
 cases h1
 exact⟨ns,go,es,ep,h4,fun h q=>⟨o,q,h2,h3⟩⟩
end
end L2
namespace L2
open PySem PySem.Spec PyProof.Rows
section
variable {pg:Program}{w:World}{A:Around}{Er:Value->Shared->Prop}{s:Shared}{d it:Addr}{es:Array DictEntry}{i ep:Nat}
theorem zDd (ns:(d == sysModules)=false):MeetsIn pg w (Builtin.«dict.items» ⟨[.ref d],[]⟩) (fun _ R s=>s.TypeIs (.ref d) "dict" /\ R (.ok (.ret (.ref s.heap.objs.size))) { s with heap:=s.heap.push { cls:=.type "dict_items",data:=.fields #[.ref d] } }) :=
 .of_wp fun A R s ⟨ty,q⟩=>by
  unfold Builtin.«dict.items» Builtin.Dict.noArgs
  apply wpAny_bind
  apply wpAny_bind
  apply wpAny_notOrdered_dict ty
  change wpAny _ _ (pure d) _ _ s
  apply wpAny_pure
  change wpAny _ _ (Builtin.Dict.showsAll d >>= _) _ _ s
  unfold Builtin.Dict.showsAll
  rw[ns,if_neg Bool.false_ne_true]
  apply wpAny_bind
  apply wpAny_pure
  apply wpAny_bind
  refine wpAny_newObj_type ?_
  apply wpAny_pure
  exact⟨_,rfl,q⟩
theorem zHC {v:Addr}{Q:Value->Shared->Prop} (hv:s.heap.IsItemsView v d) (x:DAt s.heap d es ep)
  (q:Q (.ref s.heap.objs.size) { s with heap:=s.heap.push { cls:=.type "dict_itemiterator",data:=.fields #[.none,.bool false,.ref d,.int 0 0,.int es.size 0,.int ep 0,.none,.none] } }):wpAny (model pg w) A (pyIter (.ref v)) Q Er s:=by
 obtain⟨_,g1,_,g3⟩:=id hv
 obtain⟨o,e1,e2,e3⟩:=id x
 refine wpAny_pyIter_slot hv.typeIs F.slot_dict_items_iter (wpAny_call_entry F.slot_dict_items_iter hv.typeIs F.entry_dict_items_iter ?_ (F.args_dict_items_iter_1 _))
 unfold Builtin.«dict_items.__iter__»
 apply wpAny_bind
 apply wpAny_pure
 apply wpAny_bind
 unfold Builtin.Dict_items.dictOf
 apply wpAny_bind
 refine wpAny_field g1 g3 (x:=.ref d) rfl ?_
 apply wpAny_pure
 apply wpAny_bind
 unfold Builtin.Dict_items.newIterator
 apply wpAny_bind
 apply wpAny_dictEntries e1 e3
 apply wpAny_bind
 apply wpAny_dictEpoch e1 e3
 have ow:Builtin.Dict_items.ownsTuple "dict_itemiterator" = true:=by decide
 simp only[ow,if_true]
 refine wpAny_newObj_type ?_ (by simp only[sizeOk,Builtin.Dict_items.ownedTupleFields,List.size_toArray,List.length_append,List.length_cons,List.length_nil,sizeLine_eq];omega)
 apply wpAny_pure
 refine⟨_,rfl,"dict_itemiterator",_,⟨_,Heap.get?_push_size _ rfl,rfl⟩,F.slot_dict_itemiterator_next.lookup,?_⟩
 simpa [rawInt,Builtin.Dict_items.ownedTupleFields] using q
theorem zFY {x y:Value}{Q:Option Value->Shared->Prop} (hi:IsItemIter s.heap it d i es.size ep x y) (da:DAt s.heap d es ep) (hx:i < es.size)
  (q:∀ h',IsItemIterOut h' it d (i+1) es.size ep es[i].key es[i].val s.heap.objs.size->h'.get? s.heap.objs.size=some { cls:=.type "tuple",data:=.seq #[es[i].key,es[i].val] }->h'.objs.size=s.heap.objs.size+1 ->
   (∀ b o,b≠it->s.heap.get? b=some o->h'.get? b=some o)->Q (some (.ref s.heap.objs.size)) { s with heap:=h' }):wpAny (model pg w) A (pyNext (.ref it)) Q Er s:=by
 obtain⟨o,e1,e2,e3⟩:=id da
 have ty:s.TypeIs (.ref it) "dict_itemiterator" := ⟨_,hi,rfl⟩
 unfold pyNext
 apply wpAny_bind
 apply wpAny_attempt
 refine wpAny_callSpecial?_slot (name:=Str.ofString "__next__") ty F.slot_dict_itemiterator_next (wpAny_call_entry F.slot_dict_itemiterator_next ty F.entry_dict_itemiterator_next ?_ (F.args_dict_itemiterator_next_1 _))
 apply wpAny_bind
 apply wpAny_pure
 apply wpAny_bind
 apply wpAny_bind
 apply wpAny_bind
 first
  | apply wpAny_typeNameOfWhole_itemiter ty
  | apply wpAny_typeNameOf_itemiter ty
 apply wpAny_pure
 apply wpAny_bind
 apply wpAny_fieldsOf hi rfl
 have ow:Builtin.Dict_items.ownsTuple "dict_itemiterator" = true:=by decide
 simp only[ow,if_true]
 change wpAny _ _ (if (Value.ref d == Value.none)=true then _ else _) _ _ s
 rw[if_neg (show ¬ (Value.ref d == Value.none)=true from Bool.false_ne_true)]
 apply wpAny_bind
 apply wpAny_pure
 apply wpAny_bind
 apply wpAny_dictEntries e1 e3
 rw[if_neg (by simp)]
 apply wpAny_bind
 apply wpAny_pure
 apply wpAny_bind
 apply wpAny_dictEpoch e1 e3
 rw[if_neg (by simp)]
 apply wpAny_pure
 have ni:¬ (i:Int) < 0:=by omega
 simp only[ni,if_false,Int.toNat_natCast,Array.getElem?_eq_getElem hx]
 apply wpAny_bind
 apply wpAny_bind
 first
  | apply wpAny_typeNameOfWhole_itemiter ty
  | apply wpAny_typeNameOf_itemiter ty
 apply wpAny_pure
 apply wpAny_bind
 apply wpAny_isOneOf_itemiter ty
 change wpAny _ _ (setField (.ref it) 3 (rawInt ((i:Int)+1)) >>= _) _ _ s
 apply wpAny_bind
 refine wpAny_setField_rec hi (by simp) fun g1 f1 s1=>?_
 have f1':IsItemIter g1 it d (i+1) es.size ep x y:=by
  have z:((i+1:Nat):Int)=(i:Int)+1:=by omega
  unfold IsItemIter
  rw[z]
  simpa [rawInt] using f1
 have ty1:Shared.TypeIs { s with heap:=g1 } (.ref it) "dict_itemiterator" := ⟨_,f1',rfl⟩
 apply wpAny_bind
 apply wpAny_holding
 apply wpAny_bind
 apply wpAny_isOneOf_itemiter ty1
 apply wpAny_bind
 apply wpAny_isOneOf_itemiter ty1
 change wpAny _ _ (Builtin.Dict_items.pairFromOwner (.ref it) 6 es[i].key es[i].val) _ _ { s with heap:=g1 }
 unfold Builtin.Dict_items.pairFromOwner
 apply wpAny_bind
 refine wpAny_newTuple ?_
 have lt:it < s.heap.objs.size:=Heap.lt_size hi
 have z1:g1.objs.size=s.heap.objs.size:=s1.1
 obtain⟨g2,hg⟩:∃ g2,g2=g1.push { cls:=.type "tuple",data:=.seq #[es[i].key,es[i].val] }:=⟨_,rfl⟩
 have f2:IsItemIter g2 it d (i+1) es.size ep x y:=by rw[hg];exact Heap.get?_push_of_some _ f1'
 have t2:g2.get? s.heap.objs.size=some { cls:=.type "tuple",data:=.seq #[es[i].key,es[i].val] }:=by rw[hg,<- z1];exact Heap.get?_push_size _ rfl
 have z2:g2.objs.size=s.heap.objs.size+1:=by rw[hg,Heap.size_push,z1]
 have k2:∀ b o,b≠it->s.heap.get? b=some o->g2.get? b=some o:=fun b o hb e=>by rw[hg];exact Heap.get?_push_of_some _ (s1.extBut b o hb e)
 change wpAny _ _ (Builtin.Dict_items.ownedTupleIsFree (.ref it) >>= _) _ _ { s with heap:=g1.push _ }
 rw[<- hg]
 change wpAny _ _ _ _ _ { s with heap:=g2 }
 rw[show g1.objs.size=s.heap.objs.size from z1]
 apply wpAny_bind
 unfold Builtin.Dict_items.ownedTupleIsFree
 apply wpAny_bind
 refine wpAny_field f2 rfl (x:=.none) rfl ?_
 apply wpAny_pure
 simp only[if_true]
 apply wpAny_bind
 refine wpAny_field f2 rfl (x:=x) rfl ?_
 apply wpAny_bind
 refine wpAny_field f2 rfl (x:=y) rfl ?_
 apply wpAny_bind
 refine wpAny_setField_rec f2 (by simp) fun g3 f3 s3=>?_
 have f3':IsItemIter g3 it d (i+1) es.size ep es[i].key y:=f3
 apply wpAny_bind
 refine wpAny_setField_rec f3' (by simp) fun g4 f4 s4=>?_
 have f4':IsItemIter g4 it d (i+1) es.size ep es[i].key es[i].val:=f4
 apply wpAny_bind
 refine wpAny_setField_rec f4' (by simp) fun g5 f5 s5=>?_
 have f5':IsItemIterOut g5 it d (i+1) es.size ep es[i].key es[i].val s.heap.objs.size:=f5
 apply wpAny_bind
 refine wpAny_setField_rec f5' (by simp) fun g6 f6 s6=>?_
 apply wpAny_bind
 apply wpAny_letGo
 apply wpAny_pure
 apply wpAny_pure
 refine⟨_,rfl,wpAny_pure (q g6 f6 ?_ ?_ fun b o hb e=>s6.extBut b o hb (s5.extBut b o hb (s4.extBut b o hb (s3.extBut b o hb (k2 b o hb e)))))⟩
 ·have n:=Nat.ne_of_gt lt
  exact s6.extBut _ _ n (s5.extBut _ _ n (s4.extBut _ _ n (s3.extBut _ _ n t2)))
 ·exact s6.1.trans (s5.1.trans (s4.1.trans (s3.1.trans z2)))
theorem zGY {x y:Value}{Q:Option Value->Shared->Prop} (hh:A.handled=none) (hi:IsItemIter s.heap it d i es.size ep x y) (da:DAt s.heap d es ep) (hx:es.size <= i)
  (q:∀ h',Heap.ExtBut it s.heap h'->Q none { s with heap:=h' }):wpAny (model pg w) A (pyNext (.ref it)) Q Er s:=by
 obtain⟨o,e1,e2,e3⟩:=id da
 have ty:s.TypeIs (.ref it) "dict_itemiterator" := ⟨_,hi,rfl⟩
 unfold pyNext
 apply wpAny_bind
 apply wpAny_attempt
 refine wpAny_callSpecial?_slot (name:=Str.ofString "__next__") ty F.slot_dict_itemiterator_next (wpAny_call_entry F.slot_dict_itemiterator_next ty F.entry_dict_itemiterator_next ?_ (F.args_dict_itemiterator_next_1 _))
 apply wpAny_bind
 apply wpAny_pure
 apply wpAny_bind
 apply wpAny_bind
 apply wpAny_bind
 first
  | apply wpAny_typeNameOfWhole_itemiter ty
  | apply wpAny_typeNameOf_itemiter ty
 apply wpAny_pure
 apply wpAny_bind
 apply wpAny_fieldsOf hi rfl
 have ow:Builtin.Dict_items.ownsTuple "dict_itemiterator" = true:=by decide
 simp only[ow,if_true]
 change wpAny _ _ (if (Value.ref d == Value.none)=true then _ else _) _ _ s
 rw[if_neg (show ¬ (Value.ref d == Value.none)=true from Bool.false_ne_true)]
 apply wpAny_bind
 apply wpAny_pure
 apply wpAny_bind
 apply wpAny_dictEntries e1 e3
 rw[if_neg (by simp)]
 apply wpAny_bind
 apply wpAny_pure
 apply wpAny_bind
 apply wpAny_dictEpoch e1 e3
 rw[if_neg (by simp)]
 apply wpAny_pure
 have ni:¬ (i:Int) < 0:=by omega
 simp only[ni,if_false,Int.toNat_natCast,Array.getElem?_eq_none hx]
 apply wpAny_bind
 apply wpAny_bind
 first
  | apply wpAny_typeNameOfWhole_itemiter ty
  | apply wpAny_typeNameOf_itemiter ty
 apply wpAny_pure
 change wpAny _ _ (setField (.ref it) 2 .none >>= _) _ _ s
 apply wpAny_bind
 refine wpAny_setField hi rfl (by simp) ?_
 change wpAny _ _ (newExc (.type "StopIteration") [] >>= _) _ _ _
 apply wpAny_bind
 simp only[newExc,newTuple]
 apply wpAny_bind
 refine wpAny_newObj_type ?_ (by size_fits)
 refine wpAny_bind (m:=firstArgMember _ _) (wpAny_of_eq (a:=Value.none) ?_ ?_)
 ·first
   | rfl
   | (simp only[firstArgMember];rfl)
 refine wpAny_newObj_type ?_ (by size_fits)
 simp only[raiseNew]
 apply wpAny_bind
 apply wpAny_handled
 rw[show A.in1.handled=none from hh]
 refine wpAny_bind (wpAny_pure ?_)
 apply wpAny_throw
 apply wpAny_bind
 refine wpAny_isInstance (T := "StopIteration") (b:=true) ⟨_,Heap.get?_push_size _ rfl,rfl⟩ isSubtype_stop ?_
 apply wpAny_pure
 exact q _ (((Heap.SameBut.update ..).extBut.push _).push _)
end
section
variable {ha:M.D->Int}{a:Addr}{o:Obj}{xs:List (M.D×Addr×Value)}{vs:List V}
noncomputable def ItV (ha:M.D->Int) (a:Addr) (o:Obj) (xs:List (M.D×Addr×Value)) (vs:List V):It :=
 ⟨fun i H=>H a=some (.frz o (.ext (TD ha a xs)))/\∃ p,xs[i]? = some p,fun i H v H'=>∃ q p u,H q=none/\v=.ref q/\xs[i]? = some p/\vs[i]? = some u/\H'=upd H q (.tup [.ref p.2.1,u]),fun i H=>H a=some (.frz o (.ext (TD ha a xs)))/\xs.length <= i⟩
noncomputable abbrev VsR (xs:List (M.D×Addr×Value)) (vs:List V):Prop:=∀ (i:Nat) (p:M.D×Addr×Value),xs[i]? = some p->∃ u,vs[i]? = some u/\zY u p.2.2
theorem zJy {P:Program}{w:World}{K:PySem.W.Frag}{elts:List Expr}{kt:_}{tp:Pos}{it:Addr}{es:Array DictEntry}{ep:Nat} (fz:FzT ha a o xs es ep) (hv:VsR xs vs):JW P w K (.Tuple elts kt tp) (ItV ha a o xs vs) [it] it (fun i h=>∃ x y,IsItemIter h it a i es.size ep x y) where
 mem:=by simp
 obj:=fun i h ⟨x,y,hi⟩ b hb=>by
  have z:b=it:=by simpa using hb
  subst z
  exact⟨_,hi,fun v z=>nomatch z⟩
 keep:=fun i h h' ⟨x,y,hi⟩ k=>⟨x,y,k it (by simp) _ hi⟩
 item:=by
  intro X hP hw hK hc i pins s σ H E I hf ⟨x,y,hi⟩ hg
  subst hP hw hK
  obtain⟨hq,p,hp⟩:=hg
  obtain⟨go,_⟩:=(show jH X.prog X.w H s.heap a (.frz o (.ext (TD ha a xs))) from I.hok a _ hq)
  have hx:i < es.size:=by rw[fz.size];exact (List.getElem?_eq_some_iff.mp hp).1
  obtain⟨u,hu,ru⟩:=hv i p hp
  obtain⟨f0,f1,f2,f3,f4,f5⟩:=hf it (by simp)
  have hit:it≠s.heap.objs.size:=Nat.ne_of_lt (Heap.lt_size hi)
  refine zFY hi (fz.2 _ go) hx fun h' ho hT hsz kk=>?_
  rw[fz.at hp hx] at hT ho
  refine⟨_,rfl,wpAny_letOwnedTupleGo_items ho fun h2 hi2 hs2=>?_⟩
  have hn:H s.heap.objs.size=none:=I.hok.fresh (Nat.le_refl _)
  have I1:Inv X pins σ H { s with heap:=h2,toks:=s.toks }:=I.turnedL (ch:=[it]) hf (fun b ob hb g=>by
   have nb:b≠it:=fun z=>hb (by simp[z])
   exact hs2.extBut _ _ nb (kk b ob nb g)) I.tk
  have I2:Inv X pins σ (upd H s.heap.objs.size (.tup [.ref p.2.1,u])) { s with heap:=h2 }:=I1.track I.sz hn (Nat.ne_of_gt I.lt) (fun x c e=>by obtain⟨v,hv⟩:=I.cell x c e;exact Nat.ne_of_lt hv.lt) (fun p hp=>Nat.ne_of_lt (Heap.lt_size (I.pin p hp).1))
   ⟨show 2 <= sizeLine by decide,[.ref p.2.1,p.2.2],.cons rfl (.cons ru .nil),⟨_,hs2.extBut _ _ (Ne.symm hit) hT,rfl,_,rfl⟩⟩
  refine⟨.ref s.heap.objs.size,_,I2,rfl,⟨_,p,u,hn,rfl,hp,hu,rfl⟩,⟨_,_,hi2⟩,fun c hc=>?_⟩
  have z:c=it:=by simpa using hc
  subst z
  rw[zV hit]
  exact f0
 done:=by
  intro X hP hw hK hc i pins s σ H E I hf ⟨x,y,hi⟩ hg
  subst hP hw hK
  obtain⟨hq,hl⟩:=hg
  obtain⟨go,_⟩:=(show jH X.prog X.w H s.heap a (.frz o (.ext (TD ha a xs))) from I.hok a _ hq)
  exact zGY (I.ok.hd hc) hi (fz.2 _ go) (by rw[fz.size];exact hl) fun h' hk=>⟨rfl,I.turnedL (t':=s.toks) (ch:=[it]) hf (fun b ob hb g=>hk b ob (fun z=>hb (by simp[z])) g) I.tk⟩
 self:=fun A i s Q E ⟨x,y,hi⟩ h=>by
  have hT:s.TypeIs (.ref it) "dict_itemiterator" := ⟨_,hi,rfl⟩
  refine wpAny_pyIter_slot hT PySem.F.slot_dict_itemiterator_iter (wpAny_call_entry PySem.F.slot_dict_itemiterator_iter hT zDX ?_ (PySem.F.args_dict_itemiterator_iter_1 _))
  show wpAny (model P w) _ (ret (.ref it)) _ _ s
  exact wpAny_pure ⟨_,rfl,"dict_itemiterator",_,hT,PySem.F.slot_dict_itemiterator_next.lookup,h⟩
noncomputable def zLp (H₀:Hp) (ha:M.D->Int) (te:TE):TI:=fun σ H R=>te σ H fun v H1=>∃ a xs vs,v=.ref a/\H1 a=some (.ext (TD ha a xs))/\VsR xs vs/\∀ o,(∀ o u,H₀ a≠some (.frz o u))->R (ItV ha a o xs vs) (upd H1 a (.frz o (.ext (TD ha a xs))))
theorem zMF {X:Cx}{e:Expr}{te:TE}{apos cpos:Pos}{elts:List Expr}{kt:_}{tp:Pos} (he:PE X e te)
  (hbase:attributeBase e "items" X.env (eval e X.env)=eval e X.env:=by rfl) (hline:(apos.endLine == cpos.line)=true:=by rfl):PI X (.Tuple elts kt tp) (.Call (.Attribute e "items" apos) [] [] cpos) (zLp X.H₀ ha te):=by
 intro pins s σ H R I h
 refine wpAny_Call_method0_late hbase hline (thn (he pins s σ H _ I h) fun v s1 ⟨x,H1,I1,r1,q1⟩=>?_)
 obtain⟨a,xs,vs,rfl,e1,hv,q⟩:=q1
 have ty:tyV X.K "dict" (.ref a) H1:=.inr (.inr (.inl ⟨rfl,.inr (.inr ⟨_,e1,fun h z=>let ⟨_,_,_,o,_,_,z1,z2,_⟩:=z;⟨o,z1,z2⟩⟩)⟩))
 obtain⟨t1,t2⟩:=zGK (T := "dict") I1 r1 ty
 obtain rfl:v=Value.ref a:=r1
 obtain⟨o,I2⟩:=I1.freezeX e1
 obtain⟨ns,go,es,ep,fz⟩:=zLk I2 z5
 have dd:=fz.2 _ go
 refine⟨"dict","dict.items",PySem.F.plainAttrs_dict,PySem.F.slot_dict_items,PySem.F.type_dict_items,t1,t2,Calls.callWith_builtin rfl (PySem.evalArgs_none ?_)⟩
 refine call_meetsIn PySem.F.slot_dict_items dd.ty PySem.F.entry_dict_items (PySem.F.args_dict_items_1 _) (zDd ns) ⟨dd.ty,?_⟩
 have up:∀ {h:Heap}{o p b},h.get? b=some o->(h.push p).get? b=some o:=fun e=>Heap.get?_push_of_some _ e
 refine zHC ⟨_,Heap.get?_push_size _ rfl,rfl,rfl⟩ (fz.2 _ (up go)) ?_
 have n1:(s1.heap.push { cls:=.type "dict_items",data:=.fields #[.ref a] }).objs.size=s1.heap.objs.size+1:=Heap.size_push ..
 refine⟨s1.heap.objs.size+1,[s1.heap.objs.size+1],_,_,upd H1 a (.frz o (.ext (TD ha a xs))),by rw[<- n1],I2.kept (t':=s1.toks) (fun b ob e=>up (up e)),zJy fz hv,⟨Value.none,Value.none,?_⟩,fun b hb=>?_,q o (I1.dict_base rfl e1)⟩
 ·have g:=Heap.get?_push_size (h:=s1.heap.push { cls:=.type "dict_items",data:=.fields #[.ref a] }) (o:={ cls:=.type "dict_itemiterator",data:=.fields #[.none,.bool false,.ref a,.int 0 0,.int es.size 0,.int ep 0,.none,.none] }) rfl
  rw[n1] at g
  exact g
 ·have zb:b=s1.heap.objs.size+1:=by simpa using hb
  subst zb
  exact I2.fpOk (Nat.le_succ _) (I2.hok.fresh (Nat.le_succ _))
end
section
variable {K:PySem.W.Frag}{Θ:Tab}{ρ:List Addr}{H:Hp}
theorem zIw {kvs:List (M.D×M.D)}{xs:List (M.D×Addr×Value)} (r:Paired (TDr K ρ H) kvs xs):∃ vs:List V,VsR xs vs/\∀ (i:Nat) (x:M.D×M.D),kvs[i]? = some x->∃ u,vs[i]? = some u/\zG K ρ H x.2 u:=by
 induction r with
 | nil=>exact⟨[],fun i p e=>by simp at e,fun i p e=>by simp at e⟩
 | cons r1 r2 ih =>
  obtain⟨vs,h1,h2⟩:=ih
  obtain⟨_,_,_,v,a1,a2⟩:=r1
  refine⟨v::vs,fun i p e=>?_,fun i p e=>?_⟩
  ·cases i with
   | zero=>simp at e;subst e;exact⟨v,rfl,a2⟩
   | succ n=>exact h1 n p (by simpa using e)
  ·cases i with
   | zero=>simp at e;subst e;exact⟨v,rfl,a1⟩
   | succ n=>exact h2 n p (by simpa using e)
theorem zLm {ha:M.D->Int}{a:Addr}{o:Obj}{xs:List (M.D×Addr×Value)}{vs:List V}{kvs:List (M.D×M.D)} (hq:H a=some (.frz o (.ext (TD ha a xs)))) (r:Paired (TDr K ρ H) kvs xs) (hd:∀ (i:Nat) (x:M.D×M.D),kvs[i]? = some x->∃ u,vs[i]? = some u/\zG K ρ H x.2 u):ItR K Θ ρ H (ItV ha a o xs vs) (kvs.map fun p=>.tup [p.1,p.2]) []:=by
 have el:kvs.length=xs.length:=Paired.length r
 refine⟨fun j ρ' S' H' p l rp g hj=>?_,fun j ρ' S' H' v H2 p l rp g hj y=>?_,fun ρ' S' H' p l rp g=>?_⟩
 ·rw[List.length_map,el] at hj
  exact⟨l.frzs _ _ _ hq,xs[j],by simp[hj]⟩
 ·obtain⟨q,kv,u,hn,rfl,hk,hu,rfl⟩:=y
  obtain⟨x,hx,_,_,r3,_⟩:=zFq r hk
  obtain⟨u',e1,e2⟩:=hd j x hx
  rw[hu] at e1
  cases e1
  have ln:=Le.new hn (.tup [.ref kv.2.1,u])
  exact⟨.tup [x.1,x.2],by rw[List.getElem?_map,hx];rfl,⟨q,_,rfl,SqT.of z5,_,_,rfl,r3.mono p (l.trans ln),_,_,rfl,e2.mono p (l.trans ln),rfl⟩,ln,rp.aside hn _⟩
 ·exact⟨l.frzs _ _ _ hq,by rw[List.length_map,el];exact Nat.le_refl _⟩
end
section
variable {X:Cx}{Θ:Tab}
theorem zC5 {e:Expr}{m:M.EM}{elts:List Expr}{kt:_}{tp pos apos cpos:Pos}{body:List Stmt}{g:M.GM}{js:List Nat}{mb:M.SM} (hp:PassesOwn (model X.prog X.w) X.A X.env X.xe) (hc:X.calm=true) (he:ME X Θ e m) (hg:MG X Θ js (.Tuple elts kt tp) g) (hb:MSs X Θ body mb)
  (hbase:attributeBase e "items" X.env (eval e X.env)=eval e X.env:=by rfl) (hline:(apos.endLine == cpos.line)=true:=by rfl) (hs:∀ x,foldedSetIterable (.Call (.Attribute e "items" apos) [] [] cpos) X.env x=pure x:=by intro _;rfl):MS X Θ (.For (.Tuple elts kt tp) (.Call (.Attribute e "items" apos) [] [] cpos) body [] pos) (M.yo m g mb) :=
 (zI6 (zGH hp hc (zMF (ha:=Θ.ha) he hbase hline) hg hb hs)).imp fun D σ H ⟨ρ,σ',S,st,rp,h⟩=>by
  refine⟨ρ,σ',S,st,rp,zr.stm h fun ρ1 H1 d v S1 p1 l1 rp1 rv h1=>?_⟩
  cases d with
  | ref i =>
   obtain⟨a,rfl,hi⟩:=rv
   have h1':zr X.K Θ ρ1 H1 (match S1[i]? with
    | some (.dtt kvs)=>M.zCU i (.ftt kvs) (.dtt kvs) (M.jX [] (M.jf g mb) (kvs.map fun p=>.tup [p.1,p.2]) σ' (S1.set i (.ftt kvs)))
    | _=>.no) D:=h1
   cases q:S1[i]? with
   | none=>rw[q] at h1';exact h1'.elim
   | some ob =>
    rw[q] at h1'
    cases ob with
    | dtt kvs =>
     obtain⟨b,hb',xs,e1,pr⟩:=rp1.obj i _ q
     rw[hi] at hb';cases hb'
     obtain⟨vs,hv,hd⟩:=zIw pr
     refine⟨a,xs,vs,rfl,e1,hv,fun o n=>?_⟩
     have le:Le H1 (upd H1 a (.frz o (.ext (TD Θ.ha a xs)))):=Le.put (yT e1) _
     have pr':=Paired.mapP pr fun x y z=>z.mono (List.prefix_refl _) le
     exact zHk (zLm z5 pr' fun i x e=>let ⟨u,a1,a2⟩:=hd i x e;⟨u,a1,a2.mono (List.prefix_refl _) le⟩) (st.mono p1 (l1.trans le)) (rp1.put (o:=.ftt kvs) hi (yT e1) ⟨o,xs,z5,pr'⟩) rfl
      (zEg (f:=.ftt kvs) (t:=.dtt kvs) rfl hi e1 n (fun p le e=>⟨xs,e,Paired.mapP pr fun x y z=>z.mono p le⟩) h1')
    | _=>exact h1'.elim
  | _=>exact h1.elim
theorem zBK {e:Expr}{m:M.EM}{elts:List Expr}{kt:_}{tp pos apos cpos:Pos}{body:List Stmt}{g:M.GM}{js:List Nat}{mb:M.SM} (hp:PassesOwn (model X.prog X.w) X.A X.env X.xe) (hc:X.calm=true) (he:WE X Θ e m) (hg:WG X Θ js (.Tuple elts kt tp) g) (hb:WSs X Θ body mb)
  (hbase:attributeBase e "items" X.env (eval e X.env)=eval e X.env:=by rfl) (hline:(apos.endLine == cpos.line)=true:=by rfl) (hs:∀ x,foldedSetIterable (.Call (.Attribute e "items" apos) [] [] cpos) X.env x=pure x:=by intro _;rfl):WS X Θ (.For (.Tuple elts kt tp) (.Call (.Attribute e "items" apos) [] [] cpos) body [] pos) (M.yo m g mb):=by with_unfolding_all exact zC5 (e:=e) (m:=m) (elts:=elts) (kt:=kt) (tp:=tp) (pos:=pos) (apos:=apos) (cpos:=cpos) (body:=body) (g:=g) (js:=js) (mb:=mb) hp hc he hg hb hbase hline hs
end
end L2
namespace HT
open PySem PySem.Spec PyProof.Rows
theorem zB9 {prog:Program}{w:World}{A:Around}{E:Value->Shared->Prop}{s:Shared}{t sl:Addr}{items:Array Value}{vl vu:Value}{lo hi:Option Int}{Q:Value->Shared->Prop} (ht:IsTup s.heap t items) (hs:s.heap.IsSliceOf sl vl vu .none) (pl:IsPart vl lo) (pu:IsPart vu hi)
  (h0:sIx items.size 0 lo=0) (h1:sIx items.size items.size hi=items.size) (q:Q (.ref t) s):wpAny (model prog w) A (getItem (.ref t) (.ref sl)) Q E s:=by
 obtain⟨os,e1,e2,_⟩:=id hs
 have ty:s.TypeIs (.ref sl) "slice" := ⟨os,e1,e2⟩
 unfold getItem
 try (with_reducible refine wpAny_holding ?_)
 first
  | refine wpAny_bind (wpAny_pure ?_)
  | skip
 apply wpAny_bind
 refine wpAny_sequenceKey ht.typeIs (by decide) ?_
 apply wpAny_bind
 refine wpAny_callSpecial?_slot (name:=Str.ofString "__getitem__") ht.typeIs PyProof.Rows.slot_tuple_getitem (wpAny_call_entry PyProof.Rows.slot_tuple_getitem ht.typeIs entry_tuple_getitem ?_ (args_tuple_getitem _ _))
 change wpAny _ _ (Builtin.Tuple.tupleItemsOf (.ref t) >>= _) _ _ s
 apply wpAny_bind
 apply tupleItemsOf_ ht
 apply wpAny_bind
 apply wpAny_typeOf ty
 rw[if_pos (by decide)]
 apply wpAny_bind
 refine QJ hs pl pu ?_
 change wpAny _ _ (if (((sIx items.size 0 lo:Nat):Int) == 0 && (1:Int) == 1 && (sIx items.size items.size hi - sIx items.size 0 lo) == items.size)=true then _ else _) _ _ s
 rw[h0,h1,if_pos (by simp)]
 unfold Builtin.Tuple.tupleIsExact
 apply wpAny_bind
 apply wpAny_bind
 apply wpAny_typeOf ht.typeIs
 apply wpAny_pure
 rw[if_pos (by decide)]
 apply wpAny_bind
 apply wpAny_rule
 exact wpAny_pure ⟨_,rfl,wpAny_pure q⟩
end HT
namespace L2
open PySem PySem.Spec PyProof.Rows
section
variable {X:Cx}{Θ:Tab}{K:PySem.W.Frag}
noncomputable def zJ5 (K:PySem.W.Frag):V->Option Int->Option Int->Hp->VK->Prop:=fun x lo hi H Q=>∃ a xs,x=.ref a/\SqT K H a xs/\HT.sIx xs.length 0 lo=0/\HT.sIx xs.length xs.length hi=xs.length/\Q (.ref a) H
theorem zJP:SlR X (zJ5 X.K):=by
 intro pins s σ H x v vl vu lo hi sl Q I rx hs pl pu h
 obtain⟨a,xs,rfl,hx,h0,h1,q⟩:=h
 cases rx
 obtain⟨its,r,ht,hz⟩:=I.tuple hx
 have hl:its.toArray.size=xs.length:=by rw[List.size_toArray];exact r.length.symm
 exact⟨"tuple",_,PyProof.Rows.slot_tuple_getitem.lookup,ht.typeIs,HT.zB9 ht hs pl pu (by rw[hl];exact h0) (by rw[hl];exact h1) ⟨.ref a,H,I,rfl,q⟩⟩
theorem zJO:∀ ρ H S x X1 l u Q,zR K Θ ρ S H->zG K ρ H x X1->zE K Θ (zG K) ρ H (M.zJh x l u S) Q->uSl K X1 l u H Q\/zJ5 K X1 l u H Q:=by
 intro ρ H S x X1 l u Q rp rx h
 cases x with
 | tup ds =>
  by_cases hc:M.sIx ds.length 0 l=0/\M.sIx ds.length ds.length u=ds.length
  ·obtain⟨a,xs,rfl,hq,r⟩:=id rx
   have e:M.cut ds l u=ds:=by
    unfold M.cut
    rw[hc.1,hc.2]
    simp
   have h':zE K Θ (zG K) ρ H (.ok (.tup (M.cut ds l u)) S) Q:=h
   rw[e] at h'
   rw[Zt,Zt,r.length] at hc
   exact .inr ⟨a,xs,rfl,hq,hc.1,hc.2,zE.here h' rp rx⟩
  ·have e:M.slD (.tup ds) l u S=.ok (.tup (M.cut ds l u)) S:=by
    show (if _ then _ else _)=_
    rw[if_neg hc]
   exact .inl (zHq ρ H S _ X1 l u Q rp rx (by rw[e];exact h))
 | _=>exact .inl (zHq ρ H S _ X1 l u Q rp rx h)
theorem zKg {a:Expr}{pos:Pos}{ma:M.EM}{lo hi:Option Expr}{p2:Pos}{ml mh:M.OM} (ha:ME X Θ a ma) (hl:MO X Θ lo ml) (hh:MO X Θ hi mh):ME X Θ (.Subscript a (.Slice lo hi none p2) pos) (M.qh ma ml mh) :=
 (zG5 (SlR.or zLv zJP) ha hl hh).imp fun σ H Q ⟨ρ,σ',S,st,rp,h⟩=>⟨ρ,σ',S,st,rp,zE.bind h fun ρ1 H1 x X1 S1 p1 l1 rp1 rx h1=>⟨ρ1,σ',S1,st.mono p1 l1,rp1,
  zE.bind h1 fun ρ2 H2 l l' S2 p2 l2 rp2 e2 h2=>by
   cases e2
   exact⟨ρ2,σ',S2,st.mono (p1.trans p2) (l1.trans l2),rp2,zE.bind h2 fun ρ3 H3 u u' S3 p3 l3 rp3 e3 h3=>by
    cases e3
    exact zJO ρ3 H3 S3 x X1 l u Q rp3 (rx.mono (p2.trans p3) (l2.trans l3)) h3⟩⟩⟩
theorem qY {a:Expr}{pos:Pos}{ma:M.EM}{lo hi:Option Expr}{p2:Pos}{ml mh:M.OM} (ha:WE X Θ a ma) (hl:WO X Θ lo ml) (hh:WO X Θ hi mh):WE X Θ (.Subscript a (.Slice lo hi none p2) pos) (M.qh ma ml mh):=by with_unfolding_all exact zKg (a:=a) (pos:=pos) (ma:=ma) (lo:=lo) (hi:=hi) (p2:=p2) (ml:=ml) (mh:=mh) ha hl hh
end
end L2
set_option maxHeartbeats 4000000
namespace M
noncomputable section
noncomputable def ql (d:D):Prop:=∃ ks,d=.tup ks/\kyD 4 d=true/\ks.length <= 200
theorem ql.t {d:D} (h:ql d):kyT d=true:=by
 obtain⟨ks,rfl,h,_⟩:=h
 exact zD1 (k:=7) (by omega) h
theorem Zc {α:Type} (xs:List α) (i:Nat) (d:α) (h:xs[i]? = some d):atI xs (i:Int)=some d:=by
 have:=(List.getElem?_eq_some_iff.mp h).1
 unfold atI ixN
 rw[if_pos (by omega),if_pos (by omega)]
 simpa using h
theorem at0 {α:Type} (a:α) (l:List α):atI (a::l) 0=some a:=Zc _ 0 _ rfl
theorem at1 {α:Type} (a b:α) (l:List α):atI (a::b::l) 1=some b:=Zc _ 1 _ rfl
theorem at2 {α:Type} (a b c:α) (l:List α):atI (a::b::c::l) 2=some c:=Zc _ 2 _ rfl
theorem at3 {α:Type} (a b c d:α) (l:List α):atI (a::b::c::d::l) 3=some d:=Zc _ 3 _ rfl
theorem at4 {α:Type} (a b c d e:α) (l:List α):atI (a::b::c::d::e::l) 4=some e:=Zc _ 4 _ rfl
theorem sz5:∀ n:Nat,n <= 2000->n <= SZ:=fun n h=>Nat.le_trans h (by decide)
theorem sz0:¬ SZ=0:=by decide
noncomputable def Z1:SM :=
  (zk (sIf (tOr (QY (ZZ (zU Zx (zC (zA 0) (zC (eC (.ty .int)) zI))))) (ZZ (zU Zx (zC (zA 0) (zC (eC (.ty .bool)) zI)))))
  (jg (eC (.bl false)))
  j5)
  (jg (zC7 cLe cLe (eC (.int 0)) (zA 0) (eC (.int 1000)))))
noncomputable def Q5:F:=fn 1 Z1
noncomputable def ZQ:F:=chS Q5
theorem zDp:jh 1 Q5 ZQ:=Qo _
theorem zDj {b:Int} (h0:0 <= b) (h1:b <= 1000) (s:M.S):ZQ [.int b] s=.ok (.bl true) s:=QC (g:=[]) (by simp[Q5,Z1,h0,h1]) rfl
noncomputable def qx:SM :=
  (zk (sIf (QY (ZZ (zU ZQ (zC (zA 1) zI))))
  zCp
  j5)
  (zk (zA8 5 0 (zA 0) (zA 1))
  (zA8 5 1 (zA 0) Qm)))
noncomputable def ZH:F:=fn 2 qx
noncomputable abbrev q0:F:=ZH
theorem Zg {S:M.S}{p:Nat}{o:O} (hp:S[p]? = some o) (u:O):(S.set p u)[p]? = some u:=List.getElem?_set_self (List.getElem?_eq_some_iff.mp hp).1
theorem zEF {S:M.S}{p:Nat}{o:O} (hp:S[p]? = some o) (u:O) (g:M.S):(S++g).set p u=S.set p u++g:=List.set_append_left _ _ (List.getElem?_eq_some_iff.mp hp).1
theorem zAW {b:Int} (h0:0 <= b) (h1:b <= 1000) {S:M.S}{p:Nat} (hp:S[p]? = some (.ins 5 [none,none])) :
  ZH [.ref p,.int b] S=.ok .non (S.set p (.ins 5 [some (.int b),some (.ref S.length)])++[.dtt []]):=by
 have e1:=Zg hp (.ins 5 [some (.int b),none])
 have e2:(S.set p (.ins 5 [some (.int b),none])++[O.dtt []])[p]? = some (.ins 5 [some (.int b),none]):=yk e1 _
 have e3:=zEF e1 (.ins 5 [some (.int b),some (.ref S.length)]) [O.dtt []]
 rw[List.set_set] at e3
 simp[ZH,qx,zDj h0 h1,hp,e1,e2,e3]
structure Shf (S:M.S) (p d:Nat) (b:Int) (kvs:List (D×D)):Prop where
 ob:S[p]? = some (.ins 5 [some (.int b),some (.ref d)])
 di:S[d]? = some (.dtt kvs)
theorem yy {S:M.S}{d:Nat}{o:O}{n:Nat} (h:clS n S=true) (k:O.cl n o=true):clS n (S.set d o)=true:=by
 unfold clS at h ⊢
 refine List.all_eq_true.mpr fun x hx=>?_
 rcases List.mem_or_eq_of_mem_set hx with h1 | rfl
 ·exact List.all_eq_true.mp h x h1
 ·exact k
theorem zDE (k v:D) (kvs:List (D×D)):qz k v (z6 k kvs)=z6 k kvs++[(k,v)]:=by
 unfold qz
 rw[if_neg]
 intro h
 obtain⟨p,hp,e⟩:=List.any_eq_true.mp h
 have:=(List.mem_filter.mp hp).2
 simp at this e
 exact this e
theorem zER {S:M.S}{d:Nat}{kvs:List (D×D)} (cS:clS S.length S=true) (h:S[d]? = some (.dtt kvs)):∀ q∈kvs,D.cl S.length q.1=true/\D.cl S.length q.2=true:=fun q hq=>by
 have:=List.all_eq_true.mp cS _ (List.mem_of_getElem? h)
 have z:=List.all_eq_true.mp this q hq
 rwa [Bool.and_eq_true] at z
theorem zCS {n:Nat}{kvs:List (D×D)} (h:∀ q∈kvs,D.cl n q.1=true/\D.cl n q.2=true):O.cl n (.dtt kvs)=true:=List.all_eq_true.mpr fun q hq=>by
 rw[(h q hq).1,(h q hq).2];rfl
noncomputable abbrev ky (l:List (D×D)):List D:=l.map (·.1)
theorem Jg {k v:D}{kvs:List (D×D)} (h:zo k kvs=some v):(k,v)∈kvs:=by
 unfold zo at h
 induction kvs with
 | nil=>cases h
 | cons p r ih =>
  obtain⟨p1,p2⟩:=p
  rw[List.lookup_cons] at h
  by_cases z:k=p1
  ·rw[show (k == p1)=true by simpa using z] at h
   cases h
   rw[z]
   exact List.mem_cons_self
  ·rw[show (k == p1)=false by simpa using z] at h
   exact List.mem_cons_of_mem _ (ih h)
theorem zG6 {k v:D}{l:List (D×D)} (nd:(ky l).Nodup) (h:(k,v)∈l):zo k l=some v:=by
 unfold zo
 induction l with
 | nil=>cases h
 | cons p r ih =>
  obtain⟨p1,p2⟩:=p
  rw[show ky ((p1,p2)::r)=p1::ky r from rfl,List.nodup_cons] at nd
  rw[List.lookup_cons]
  rcases List.mem_cons.mp h with e | h
  ·cases e;simp
  ·have:k≠p1:=fun z=>nd.1 (z ▸ List.mem_map.mpr ⟨(k,v),h,rfl⟩)
   rw[show (k == p1)=false by simpa using this]
   exact ih nd.2 h
theorem zCf {k:D}{l:List (D×D)}{q:D×D}:q∈z6 k l↔q∈l/\q.1≠k:=by
 unfold z6
 rw[List.mem_filter]
 simp
noncomputable def PrD (l:List (D×D)):Prop:=∀ q∈l,ql q.1/\kyD 2 q.2=true/\q.2≠.non
theorem ql.cl {d:D} (h:ql d) (n:Nat):D.cl n d=true:=by
 obtain⟨_,_,h,_⟩:=h
 exact Zq n h
theorem Qp (n:Nat) {l:List D} (h:∀ d∈l,ql d):D.cl.all n l=true:=by
 induction l with
 | nil=>rfl
 | cons x l ih =>
  show (D.cl n x && D.cl.all n l)=true
  rw[(h x List.mem_cons_self).cl n,ih fun y hy=>h y (List.mem_cons_of_mem _ hy)];rfl
theorem PrD.cl {l:List (D×D)} (h:PrD l) (n:Nat):O.cl n (.dtt l)=true:=zCS fun q hq=>⟨(h q hq).1.cl n,Zq n (h q hq).2.1⟩
theorem QS {S:M.S}{d:Nat}{o:O} (h:S[d]? = some o):S.set d o=S:=List.ext_getElem? fun i=>by
 by_cases hi:d=i
 ·subst hi;rw[Zg h,h]
 ·rw[List.getElem?_set_ne hi]
theorem Jc {a:IM}{tg:GM}{b:SM}{σ:St}{s:M.S}{xs:List D}{w:Gd}{r:RS} (it:a σ s=.ok (xs,w) s) (gd:zm w s=true) (e:jX w (jf tg b) xs σ s=r):ye a tg b σ s=r:=by
 unfold ye
 rw[it]
 show (if zm w s=true then _ else _)=_
 rw[if_pos gd]
 exact e
theorem zBu {k:D}{kvs:List (D×D)} (h:zo k kvs=none):z6 k kvs=kvs:=by
 unfold z6
 refine List.filter_eq_self.mpr fun q hq=>decide_eq_true fun e=>?_
 unfold zo at h
 induction kvs with
 | nil=>cases hq
 | cons p r ih =>
  obtain⟨p1,p2⟩:=p
  rw[List.lookup_cons] at h
  by_cases z:k=p1
  ·rw[show (k == p1)=true by simpa using z] at h;cases h
  ·rw[show (k == p1)=false by simpa using z] at h
   rcases List.mem_cons.mp hq with rfl | hq
   ·exact z e.symm
   ·exact ih h hq
theorem J9 (k t x:D):∀ A:List (D×D),(A.map fun p=>if p.1=k then (p.1,t) else p).lookup x=if x=k then (A.lookup x).map (fun _=>t) else A.lookup x
 | []=>by simp
 | (p1,p2)::r=>by
  rw[List.map_cons,List.lookup_cons]
  by_cases h:p1=k
  ·subst h
   simp only[if_true,List.lookup_cons]
   by_cases z:x=p1
   ·subst z;simp
   ·rw[show (x == p1)=false by simpa using z,J9 p1 t x r]
  ·simp only[h,if_false,List.lookup_cons]
   by_cases z:x=p1
   ·subst z;simp[h]
   ·rw[show (x == p1)=false by simpa using z,J9 k t x r]
theorem zAN (k t x:D):∀ A:List (D×D),(A++[(k,t)]).lookup x=match A.lookup x with | some v=>some v | none=>if x=k then some t else none
 | []=>by
  show List.lookup x [(k,t)]=_
  rw[List.lookup_cons]
  by_cases z:x=k
  ·subst z;simp
  ·rw[show (x == k)=false by simpa using z];simp[z]
 | (p1,p2)::r=>by
  rw[List.cons_append,List.lookup_cons,List.lookup_cons]
  by_cases z:x=p1
  ·subst z;simp
  ·rw[show (x == p1)=false by simpa using z,zAN k t x r]
theorem zI2 (k t x:D) (A:List (D×D)):zo x (qz k t A)=if x=k then some t else zo x A:=by
 unfold qz zo
 by_cases h:(A.any fun p=>decide (p.1=k))=true
 ·rw[if_pos h,J9]
  by_cases z:x=k
  ·subst z
   rw[if_pos rfl,if_pos rfl]
   cases e:A.lookup x with
   | some v=>rfl
   | none =>
    exfalso
    obtain⟨p,hp,e2⟩:=List.any_eq_true.mp h
    have e3:zo x A=none:=e
    have:=zBu e3
    have:p∈z6 x A:=this.symm ▸ hp
    exact (zCf.mp this).2 (of_decide_eq_true e2)
  ·rw[if_neg z,if_neg z]
 ·rw[if_neg h,zAN]
  by_cases z:x=k
  ·subst z
   have:A.lookup x=none:=by
    cases e:A.lookup x with
    | none=>rfl
    | some v =>
     exfalso
     have e3:zo x A=some v:=e
     exact h (List.any_eq_true.mpr ⟨_,Jg e3,by simp⟩)
   rw[this,if_pos rfl]
  ·rw[if_neg z]
   cases A.lookup x<;>simp[z]
theorem zIR {k t:D}{A:List (D×D)}{q:D×D} (h:q∈qz k t A):q∈A\/q=(k,t):=by
 unfold qz at h
 split at h
 ·obtain⟨p,hp,rfl⟩:=List.mem_map.mp h
  by_cases z:p.1=k
  ·rw[if_pos z,z];exact .inr rfl
  ·rw[if_neg z];exact .inl hp
 ·rcases List.mem_append.mp h with z | z
  ·exact .inl z
  ·exact .inr (List.mem_singleton.mp z)
theorem zAa {k t:D}{A:List (D×D)} (nd:(ky A).Nodup):(ky (qz k t A)).Nodup:=by
 unfold qz
 split
 ·have:ky (A.map fun p=>if p.1=k then (p.1,t) else p)=ky A:=by
   unfold ky
   rw[List.map_map]
   refine List.map_congr_left fun p _=>?_
   show (if p.1=k then (p.1,t) else p).1=p.1
   split<;>rfl
  rw[this]
  exact nd
 ·rename_i h
  rw[show ky (A++[(k,t)])=ky A++[k] by simp[ky],List.nodup_append]
  refine⟨nd,by simp,fun x hx y hy=>?_⟩
  rw[List.mem_singleton.mp hy]
  intro e
  obtain⟨q,hq,e2⟩:=List.mem_map.mp hx
  exact h (List.any_eq_true.mpr ⟨q,hq,by simpa using e2.trans e⟩)
theorem zBe {p:Nat->Prop} (h0:p 0) (h1:p 1):∀ a < 2,p a:=fun a ha=>by
 rcases (show a=0\/a=1 by omega) with rfl | rfl
 ·exact h0
 ·exact h1
noncomputable def two (x y:Int):Nat->Int:=fun a=>if a=0 then x else y
noncomputable def fup {α:Type} (f:Nat->α) (a:Nat) (x:α):Nat->α:=fun b=>if b=a then x else f b
theorem yG {α:Type} (f:Nat->α) (a:Nat) (x:α):fup f a x a=x:=if_pos rfl
theorem yF {α:Type}{f:Nat->α}{a b:Nat}{x:α} (h:b≠a):fup f a x b=f b:=if_neg h
theorem zJB {s g:M.S} (h:clS s.length s=true) (hg:clS (s++g).length g=true):clS (s++g).length (s++g)=true:=by
 unfold clS at *
 rw[List.all_append,Bool.and_eq_true]
 exact⟨List.all_eq_true.mpr fun o ho=>O.cl_mono (by simp) o (List.all_eq_true.mp h o ho),hg⟩
theorem zDB {i:Nat}{e:EM}{σ:St}{s s':M.S}{d:D} (h:e σ s=.ok d s') (r:SM):(zk (j6 i e) r) σ s=r (σ.set i (some d)) s':=by
 show ((e σ s).stm _ _).then _=_
 rw[h]
 rfl
theorem jk {a:SM}{σ σ':St}{s s':M.S} (h:a σ s=.nx σ' s') (r:SM):(zk a r) σ s=r σ' s':=by
 show (a σ s).then r=_
 rw[h]
 rfl
theorem zEV {t:TM}{a b:SM}{σ:St}{s s':M.S}{c:Bool} (h:t σ s=.ok c s'):(sIf t a b) σ s=if c=true then a σ s' else b σ s':=by
 show (t σ s).stm _ _=_
 rw[h]
 cases c<;>rfl
theorem zFw (a b c:SM) (σ:St) (s:M.S):(zk a (zk b c)) σ s=(zk (zk a b) c) σ s:=by
 show (a σ s).then _=((a σ s).then _).then _
 cases a σ s<;>rfl
theorem zDh {s:M.S}{i a:Nat}{f:Nat->D} (e:s[i]? = some (.lst [f 0,f 1])) (ha:a < 2):zS (.ref i) (.int a) s=.ok (f a) s:=by
 rcases (show a=0\/a=1 by omega) with rfl | rfl
 ·simp[e,at0]
 ·simp[e,at1]
noncomputable def ZV:SM :=
  (jg (eOp jK (eOp yZ (eOp qE (zA 0) (eOp yZ (eC (.int 7919)) (zA 1))) (eC (.int 48271))) (eC (.int 2147483647))))
noncomputable def QO:F:=fn 2 ZV
noncomputable def zAD (c k:Int):Int:=(c+7919 * k) * 48271 % 2147483647
noncomputable def jW:F:=chS QO
theorem zCG:jh 2 QO jW:=Qo _
theorem sm1:qg 48271=true:=by decide
theorem sm2:qg 7919=true:=by decide
theorem zAG (c k:Int) (s:M.S):jW [.int c,.int k] s=.ok (.int (zAD c k)) s:=QC (g:=[]) (by simp[QO,ZV,zAD,sm1,sm2]) rfl
noncomputable def zf (r__law_part:F):SM :=
  (j6 2 (eOp jK (zA 0) (eC (.int 8))))
noncomputable def zi (r__law_part:F):SM :=
  (j6 3 (eOp zE8 (eOp jK (eOp j7 (zA 0) (eC (.int 8))) (eC (.int 2001))) (eC (.int 1000))))
noncomputable def zh (r__law_part:F):SM :=
  (sIf (qI cEq (zA 2) (eC (.int 0)))
  (jg (zA 3))
  j5)
noncomputable def zg (r__law_part:F):SM :=
  (sIf (qI cEq (zA 2) (eC (.int 1)))
  (jg (zU zFB (zC (zA 3) zI)))
  j5)
noncomputable def zq (r__law_part:F):SM :=
  (sIf (qI cEq (zA 2) (eC (.int 2)))
  (jg (eOp zS (ZE (zC (eC .non) (zC (eC (.str [78,111,110,101])) (zC (eC (.str [])) (zC (jv zI) zI))))) (eOp jK (eOp j7 (zA 0) (eC (.int 8))) (eC (.int 4)))))
  j5)
noncomputable def z9 (r__law_part:F):SM :=
  (sIf (JX (qI cEq (zA 2) (eC (.int 3))) (qI cLt (zA 1) (eC (.int 3))))
  (jg (jv (zC (zU r__law_part (zC (eOp j7 (zA 0) (eC (.int 8))) (zC (eOp qE (zA 1) (eC (.int 1))) zI))) zI)))
  j5)
noncomputable def jC (r__law_part:F):SM :=
  (sIf (JX (qI cEq (zA 2) (eC (.int 4))) (qI cLt (zA 1) (eC (.int 3))))
  (jg (zU zAn (zC (Q6 1 (jS (eOp jK (eOp j7 (zA 0) (eC (.int 8))) (eC (.int 7)))) (ze 6) Zf (zU r__law_part (zC (zU jW (zC (zA 0) (zC (zA 6) zI))) (zC (eOp qE (zA 1) (eC (.int 1))) zI)))) zI)))
  j5)
noncomputable def jF (r__law_part:F):SM :=
  (sIf (qI cEq (zA 2) (eC (.int 5)))
  (jg (eOp zS (ZE (zC (eC (.int 0)) (zC (eC (.int 1)) (zC (eC (.int 2)) (zC (eOp zCX (eC (.int 10)) (eC (.int 20))) (zC (eOp qE (eOp zCX (eC (.int 10)) (eC (.int 20))) (eC (.int 1))) zI)))))) (eOp jK (eOp j7 (zA 0) (eC (.int 8))) (eC (.int 5)))))
  j5)
noncomputable def j3 (r__law_part:F):SM :=
  (sIf (qI cEq (zA 2) (eC (.int 6)))
  (zk (j6 4 (eOp jK (eOp j7 (zA 0) (eC (.int 8))) (eC (.int 90))))
  (zk (sIf (qI cEq (eOp jK (eOp j7 (zA 0) (eC (.int 720))) (eC (.int 8))) (eC (.int 1)))
  (j6 4 (eOp jK (eOp j7 (zA 0) (eC (.int 5760))) (eC (.int 900))))
  j5)
  (zk (j6 5 (eOp jK (eOp j7 (zA 0) (eC (.int 7))) (eOp qE (zA 4) (eC (.int 1)))))
  (jg (eOp qE (eOp qE (eOp yZ (eC (.str [97])) (zA 5)) (eC (.str [98]))) (eOp yZ (eC (.str [97])) (eOp zE8 (zA 4) (zA 5))))))))
  j5)
noncomputable def yr (r__law_part:F):SM :=
  (jg (zCz (ZA []) 1 (jS (eOp jK (eOp j7 (zA 0) (eC (.int 512))) (eC (.int 4)))) (ze 6) Zf (eOp zS (eC (.str [97,98,49,32])) (eOp jK (eOp j7 (zA 0) (eOp zS (ZE (zC (eC (.int 8)) (zC (eC (.int 32)) (zC (eC (.int 128)) zI)))) (zA 6))) (eC (.int 4))))))
noncomputable def zt (r__law_part:F):SM:=(zk (zf r__law_part) (zk (zi r__law_part) (zk (zh r__law_part) (zk (zg r__law_part) (zk (zq r__law_part) (zk (z9 r__law_part) (zk (jC r__law_part) (zk (jF r__law_part) (zk (j3 r__law_part) (yr r__law_part))))))))))
noncomputable def zu (r__law_part:F):F:=fn 6 (zt r__law_part)
noncomputable def zN:Nat->F
 | 0=>fun _ _=>.no
 | n+1=>chS (zu (zN n))
theorem zCD (ds:List D) (s:M.S):zN 0 ds s=.no:=rfl
noncomputable abbrev Zl:F:=zN 3
theorem zDe (n:Nat):jh 2 (zu (zN n)) (zN (n+1)):=Qo _
noncomputable def sgn (c j:Int):Nat:=([97,98,49,32]:List Nat).getD (c / (if j=0 then 8 else if j=1 then 32 else 128) % 4).toNat 0
theorem zGo (c j:Int) (hj:j=0\/j=1\/j=2) (a b d:Option D) (s:M.S):∃ o,qZ 1 (ze 6) Zf (eOp zS (eC (.str [97,98,49,32])) (eOp jK (eOp j7 (zA 0) (eOp zS (ZE (zC (eC (.int 8)) (zC (eC (.int 32)) (zC (eC (.int 128)) zI)))) (zA 6))) (eC (.int 4)))) [some (.int c),d,a,b,none,none] (.int j) s=.ok (some (.str [sgn c j])) (s++[o]):=by
 rcases hj with rfl | rfl | rfl
 ·have v:c / 8 % 4=0\/c / 8 % 4=1\/c / 8 % 4=2\/c / 8 % 4=3:=by omega
  rcases v with v | v | v | v<;>exact⟨.lst [.int 8,.int 32,.int 128],by simp[v,sgn,at0,at1,at2,at3,sz5]⟩
 ·have v:c / 32 % 4=0\/c / 32 % 4=1\/c / 32 % 4=2\/c / 32 % 4=3:=by omega
  rcases v with v | v | v | v<;>exact⟨.lst [.int 8,.int 32,.int 128],by simp[v,sgn,at0,at1,at2,at3,sz5]⟩
 ·have v:c / 128 % 4=0\/c / 128 % 4=1\/c / 128 % 4=2\/c / 128 % 4=3:=by omega
  rcases v with v | v | v | v<;>exact⟨.lst [.int 8,.int 32,.int 128],by simp[v,sgn,at0,at1,at2,at3,sz5]⟩
theorem Je (r:F) (c deep:Int) (a b:Option D):∃ x,∀ s:M.S,∃ g,yr r [some (.int c),some (.int deep),a,b,none,none] s=.rt (.str x) (s++g):=by
 have hm:0 <= c / 512 % 4/\c / 512 % 4 < 4:=by omega
 refine⟨(List.range (c / 512 % 4 - 0).toNat).map fun k:Nat=>sgn c (0+(k:Int)),fun s=>?_⟩
 obtain⟨g,e⟩:=zFy (n:=1) (it:=jS (eOp jK (eOp j7 (zA 0) (eC (.int 512))) (eC (.int 4)))) (tg:=ze 6)
  (e:=eOp zS (eC (.str [97,98,49,32])) (eOp jK (eOp j7 (zA 0) (eOp zS (ZE (zC (eC (.int 8)) (zC (eC (.int 32)) (zC (eC (.int 128)) zI)))) (zA 6))) (eC (.int 4))))
  (σ:=[some (.int c),some (.int deep),a,b,none,none]) (s:=s) (xs:=jq 0 (c / 512 % 4)) (g:=[]) (fun x=>match x with | .int j=>.str [sgn c j] | d=>d)
  (by simp;omega) (by simp[jq,SZ];omega) rfl fun x hx t=>by
   obtain⟨k,hk,rfl⟩:=List.mem_map.mp hx
   have hk':=List.mem_range.mp hk
   obtain⟨o,e⟩:=zGo c (0+(k:Int)) (by omega) a b (some (.int deep)) (s++t)
   exact⟨t++[o],by rw[e,List.append_assoc]⟩
 refine⟨g,?_⟩
 have jn:=zFf (fun k:Nat=>sgn c (0+(k:Int))) (List.range (c / 512 % 4 - 0).toNat) (s++g) (by simp[SZ];omega)
 have mp:(jq 0 (c / 512 % 4)).map (fun x=>match x with | .int j=>D.str [sgn c j] | d=>d)=(List.range (c / 512 % 4 - 0).toNat).map fun k:Nat=>D.str [sgn c (0+(k:Int))]:=by
  unfold jq
  rw[List.map_map]
  rfl
 rw[mp] at e
 show ((qy _ _ _ _ _ _ _).bind (ZA [])).stm _ _=_
 rw[e,R.bind_ok,jn]
 rfl
noncomputable def wdD:D->Bool
 | .tup es=>decide (es.length <= 6)
 | _=>true
theorem zKh (n:Nat) (deep:Int) (h1:1 <= deep) (h2:deep <= 3) (ih:deep < 3->∀ c,∃ d,(∀ s:M.S,zN n [.int c,.int (deep+1)] s=.ok d s)/\kyD (3 - deep).toNat d=true) (c:Int) :
  ∃ d,(∀ s:M.S,∃ g,zu (zN n) [.int c,.int deep] s=.ok d (s++g))/\kyD (4 - deep).toNat d=true/\wdD d=true:=by
 obtain⟨k,hk⟩:∃ k,(4 - deep).toNat=k+1:=⟨(4 - deep).toNat - 1,by omega⟩
 have hk':(3 - deep).toNat=k:=by omega
 rw[hk]
 rw[hk'] at ih
 have w:c % 8=0\/c % 8=1\/c % 8=2\/c % 8=3\/c % 8=4\/c % 8=5\/c % 8=6\/c % 8=7:=by omega
 have sn:qg (c / 8 % 2001 - 1000)=true:=by unfold qg;simp;omega
 rcases w with w | w | w | w | w | w | w | w
 ·exact⟨.int (c / 8 % 2001 - 1000),fun s=>⟨[],by simp[zu,zt,zf,zi,zh,zg,w]⟩,rfl,rfl⟩
 ·exact⟨.str (Q0 (c / 8 % 2001 - 1000)),fun s=>⟨[],by simp[zu,zt,zf,zi,zh,zg,w,sn]⟩,rfl,rfl⟩
 ·have v:c / 8 % 4=0\/c / 8 % 4=1\/c / 8 % 4=2\/c / 8 % 4=3:=by omega
  rcases v with v | v | v | v
  ·exact⟨.non,fun s=>⟨[_],by simp[zu,zt,zf,zi,zh,zg,zq,w,v];rfl⟩,rfl,rfl⟩
  ·exact⟨.str [78,111,110,101],fun s=>⟨[_],by simp[zu,zt,zf,zi,zh,zg,zq,w,v];rfl⟩,rfl,rfl⟩
  ·exact⟨.str [],fun s=>⟨[_],by simp[zu,zt,zf,zi,zh,zg,zq,w,v];rfl⟩,rfl,rfl⟩
  ·exact⟨.tup [],fun s=>⟨[_],by simp[zu,zt,zf,zi,zh,zg,zq,w,v];rfl⟩,rfl,rfl⟩
 ·by_cases hd:deep < 3
  ·obtain⟨d,e1,e2⟩:=ih hd (c / 8)
   refine⟨.tup [d],fun s=>⟨[],by simp[zu,zt,zf,zi,zh,zg,zq,z9,w,hd,e1,sz0]⟩,?_,rfl⟩
   show [d].all (kyD k)=true
   simp[e2]
  ·obtain⟨x,e⟩:=Je (zN n) c deep (some (.int (c % 8))) (some (.int (c / 8 % 2001 - 1000)))
   rw[w] at e
   exact⟨.str x,fun s=>let ⟨g,e⟩:=e s;⟨g,by simp[zu,zt,zf,zi,zh,zg,zq,z9,jC,jF,j3,w,hd,e]⟩,rfl,rfl⟩
 ·by_cases hd:deep < 3
  ·have hm:0 <= c / 8 % 7/\c / 8 % 7 < 7:=by omega
   have f:=fun j:Nat=>ih hd (zAD c (j:Int))
   let h:Nat->D:=fun j=>(f j).choose
   have h1':∀ (j:Nat) (s:M.S),zN n [.int (zAD c (j:Int)),.int (deep+1)] s=.ok (h j) s:=fun j s=>(f j).choose_spec.1 s
   have h2':∀ j,kyD k (h j)=true:=fun j=>(f j).choose_spec.2
   refine⟨.tup ((List.range (c / 8 % 7 - 0).toNat).map h),fun s=>⟨[.lst ((List.range (c / 8 % 7 - 0).toNat).map h)],?_⟩,?_,decide_eq_true (by simp;omega)⟩
   ·have e:=zAu (n:=1) (it:=jS (eOp jK (eOp j7 (zA 0) (eC (.int 8))) (eC (.int 7)))) (tg:=ze 6) (e:=zU (zN n) (zC (zU jW (zC (zA 0) (zC (zA 6) zI))) (zC (eOp qE (zA 1) (eC (.int 1))) zI)))
     (σ:=[some (.int c),some (.int deep),some (.int 4),some (.int (c / 8 % 2001 - 1000)),none,none]) (s:=s) (lo:=0) (hi:=c / 8 % 7) h (by simp;omega) (sz5 _ (by omega)) fun j hj=>by simp[zAG,h1']
    simp[zu,zt,zf,zi,zh,zg,zq,z9,jC,w,hd,e]
   ·show ((List.range (c / 8 % 7 - 0).toNat).map h).all (kyD k)=true
    rw[List.all_map]
    exact List.all_eq_true.mpr fun j _=>h2' j
  ·obtain⟨x,e⟩:=Je (zN n) c deep (some (.int (c % 8))) (some (.int (c / 8 % 2001 - 1000)))
   rw[w] at e
   exact⟨.str x,fun s=>let ⟨g,e⟩:=e s;⟨g,by simp[zu,zt,zf,zi,zh,zg,zq,z9,jC,jF,j3,w,hd,e]⟩,rfl,rfl⟩
 ·have v:c / 8 % 5=0\/c / 8 % 5=1\/c / 8 % 5=2\/c / 8 % 5=3\/c / 8 % 5=4:=by omega
  rcases v with v | v | v | v | v
  ·exact⟨.int 0,fun s=>⟨[_],by simp[zu,zt,zf,zi,zh,zg,zq,z9,jC,jF,w,v,at0];rfl⟩,rfl,rfl⟩
  ·exact⟨.int 1,fun s=>⟨[_],by simp[zu,zt,zf,zi,zh,zg,zq,z9,jC,jF,w,v,at1];rfl⟩,rfl,rfl⟩
  ·exact⟨.int 2,fun s=>⟨[_],by simp[zu,zt,zf,zi,zh,zg,zq,z9,jC,jF,w,v,at2];rfl⟩,rfl,rfl⟩
  ·exact⟨.int 100000000000000000000,fun s=>⟨[_],by simp[zu,zt,zf,zi,zh,zg,zq,z9,jC,jF,w,v,at3];rfl⟩,rfl,rfl⟩
  ·exact⟨.int 100000000000000000001,fun s=>⟨[_],by simp[zu,zt,zf,zi,zh,zg,zq,z9,jC,jF,w,v,at4];rfl⟩,rfl,rfl⟩
 ·by_cases hz:c / 720 % 8=1
  ·have zb:0 <= c / 5760 % 900/\c / 5760 % 900 < 900:=by omega
   generalize hzz:c / 5760 % 900=z at *
   have m0:0 <= c / 7 % (z+1):=Int.emod_nonneg _ (by omega)
   have m1:c / 7 % (z+1) < z+1:=Int.emod_lt_of_pos _ (by omega)
   have zp:0 < z+1:=by omega
   refine⟨.str (List.replicate (c / 7 % (z+1)).toNat 97++98::List.replicate (z - c / 7 % (z+1)).toNat 97),fun s=>⟨[],?_⟩,rfl,rfl⟩
   generalize hy:c / 7 % (z+1)=y at *
   simp[zu,zt,zf,zi,zh,zg,zq,z9,jC,jF,j3,w,hz,hzz,zp,hy]
   rw[if_pos (by omega),if_pos (sz5 _ (by omega)),if_pos (by omega),if_pos (sz5 _ (by omega))]
  ·have zb:0 <= c / 8 % 90/\c / 8 % 90 < 90:=by omega
   generalize hzz:c / 8 % 90=z at *
   have m0:0 <= c / 7 % (z+1):=Int.emod_nonneg _ (by omega)
   have m1:c / 7 % (z+1) < z+1:=Int.emod_lt_of_pos _ (by omega)
   have zp:0 < z+1:=by omega
   refine⟨.str (List.replicate (c / 7 % (z+1)).toNat 97++98::List.replicate (z - c / 7 % (z+1)).toNat 97),fun s=>⟨[],?_⟩,rfl,rfl⟩
   generalize hy:c / 7 % (z+1)=y at *
   simp[zu,zt,zf,zi,zh,zg,zq,z9,jC,jF,j3,w,hz,hzz,zp,hy]
   rw[if_pos (by omega),if_pos (sz5 _ (by omega)),if_pos (by omega),if_pos (sz5 _ (by omega))]
 ·obtain⟨x,e⟩:=Je (zN n) c deep (some (.int (c % 8))) (some (.int (c / 8 % 2001 - 1000)))
  rw[w] at e
  exact⟨.str x,fun s=>let ⟨g,e⟩:=e s;⟨g,by simp[zu,zt,zf,zi,zh,zg,zq,z9,jC,jF,j3,w,e]⟩,rfl,rfl⟩
theorem zIH:∀ (n:Nat) (deep:Int),1 <= deep->deep <= 3->3 - deep < n->∀ c,∃ d,(∀ s:M.S,zN n [.int c,.int deep] s=.ok d s)/\kyD (4 - deep).toNat d=true/\wdD d=true:=by
 intro n
 induction n with
 | zero=>intro deep h1 h2 h3;omega
 | succ n ih =>
  intro deep h1 h2 h3 c
  obtain⟨d,e,k⟩:=zKh n deep h1 h2 (fun hd c=>by
   obtain⟨d,e,k,_⟩:=ih (deep+1) (by omega) (by omega) (by omega) c
   rw[show (4 - (deep+1))=3 - deep by omega] at k
   exact⟨d,e,k⟩) c
  exact⟨d,fun s=>let ⟨g,e⟩:=e s;QC e (Zq _ k.1),k⟩
noncomputable def Z3:SM :=
  (jg (zU zAn (zC (Q6 1 (jS (eOp jK (zA 0) (eC (.int 4)))) (ze 1) Zf (zU Zl (zC (zU jW (zC (zA 0) (zC (zA 1) zI))) (zC (eC (.int 1)) zI)))) zI)))
noncomputable def Q8:F:=fn 1 Z3
noncomputable def q9:F:=chS Q8
theorem zDu:jh 1 Q8 q9:=Qo _
theorem zJT (c:Int):∃ ds:List D,(∀ s:M.S,q9 [.int c] s=.ok (.tup ds) s)/\kyD 4 (.tup ds)=true/\ds.length <= 3/\∀ d∈ds,wdD d=true:=by
 have hm:0 <= c % 4/\c % 4 < 4:=by omega
 have f:=fun j:Nat=>zIH 3 1 (by omega) (by omega) (by omega) (zAD c (j:Int))
 let h:Nat->D:=fun j=>(f j).choose
 have h1':∀ (j:Nat) (s:M.S),Zl [.int (zAD c (j:Int)),.int 1] s=.ok (h j) s:=fun j s=>(f j).choose_spec.1 s
 have h2':∀ j,kyD 3 (h j)=true:=fun j=>(f j).choose_spec.2.1
 have ky:kyD 4 (.tup ((List.range (c % 4 - 0).toNat).map h))=true:=by
  show ((List.range (c % 4 - 0).toNat).map h).all (kyD 3)=true
  rw[List.all_map]
  exact List.all_eq_true.mpr fun j _=>h2' j
 refine⟨(List.range (c % 4 - 0).toNat).map h,fun s=>QC (g:=[.lst ((List.range (c % 4 - 0).toNat).map h)]) ?_ (Zq _ ky),ky,by simp;omega,fun d hd=>by obtain⟨j,_,rfl⟩:=List.mem_map.mp hd;exact (f j).choose_spec.2.2⟩
 have e:=zAu (n:=1) (it:=jS (eOp jK (zA 0) (eC (.int 4)))) (tg:=ze 1) (e:=zU Zl (zC (zU jW (zC (zA 0) (zC (zA 1) zI))) (zC (eC (.int 1)) zI)))
  (σ:=[some (.int c)]) (s:=s) (lo:=0) (hi:=c % 4) h (by simp;omega) (sz5 _ (by omega)) fun j hj=>by simp[zAG,h1']
 simp[Q8,Z3,e]
noncomputable def yz:SM :=
  (zk (sIf (qI cLt (zA 1) (zU ZP (zC (zA 0) zI)))
  (jg (eOp zS (zA 0) (zA 1)))
  j5)
  (jg (eC (.int 0))))
noncomputable def QU:F:=fn 2 yz
noncomputable def JA (xs:List D) (k:Int):D:=xs.getD k.toNat (.int 0)
noncomputable def jI:F
 | [.ro xs,.int k],s=>if 0 <= k then .ok (JA xs k) s else .no
 | _,_=>.no
theorem zKC {α:Type}{xs:List α}{k:Int} (h0:0 <= k) (h:k < xs.length) (d:α):atI xs k=some (xs.getD k.toNat d):=by
 unfold atI ixN
 rw[if_pos h0,if_pos h]
 have hk:k.toNat < xs.length:=by omega
 simp[List.getD_eq_getElem?_getD,hk]
theorem zIl {n:Nat}{xs:List D} (h:D.cl.all n xs=true) (k:Nat) (d:D) (hd:D.cl n d=true):D.cl n (xs.getD k d)=true:=by
 induction xs generalizing k with
 | nil=>exact hd
 | cons x xs ih =>
  have h':(D.cl n x && D.cl.all n xs)=true:=h
  rw[Bool.and_eq_true] at h'
  cases k with
  | zero=>exact h'.1
  | succ k=>exact ih h'.2 k
theorem zDg:jh 2 QU jI:=jh.pure fun ds S hl c ca=>by
 match ds,hl with
 | [a,b],_ =>
  cases a with
  | ro xs =>
   cases b with
   | int k =>
    by_cases h0:0 <= k
    ·refine .inr ⟨JA xs k,[],by simp[jI,h0],?_,?_⟩
     ·by_cases h:k < (xs.length:Int)
      ·simp[QU,yz,h,zKC h0 h (.int 0),JA]
      ·have h2:JA xs k=.int 0:=by unfold JA;rw[List.getD_eq_getElem?_getD,List.getElem?_eq_none (by omega)];rfl
       simp[QU,yz,h,h2]
     ·have ca':(D.cl.all S.length xs && true)=true:=ca
      rw[Bool.and_true] at ca'
      exact zIl ca' _ _ rfl
    ·exact .inl (by simp[jI,h0])
   | _=>exact .inl rfl
  | _=>exact .inl rfl
noncomputable def ZR:SM :=
  (zk (j6 1 (ZE (zC (eC (.int 0)) (zC (eC (.str [])) (zC (jv zI) (zC (jv (zC (eC .non) zI)) (zC (eC (.str [78,111,110,101])) (zC (jv (zC (eC (.str [116,101,120,116])) (zC (eC (.str [])) zI))) (zC (eOp jK (eOp j7 (zA 0) (eC (.int 8))) (eC (.int 1000))) (zC (jv (zC (eC (.str [102,97,105,108,115])) (zC (zU zFB (zC (eOp jK (eOp j7 (zA 0) (eC (.int 8))) (eC (.int 7))) zI)) zI))) zI))))))))))
  (jg (eOp zS (zA 1) (eOp jK (zA 0) (eC (.int 8))))))
noncomputable def QF:F:=fn 2 ZR
noncomputable def Zu (c:Int):D:=([.int 0,.str [],.tup [],.tup [.non],.str [78,111,110,101],.tup [.str [116,101,120,116],.str []],.int (c / 8 % 1000),.tup [.str [102,97,105,108,115],.str (Q0 (c / 8 % 7))]]:List D).getD (c % 8).toNat .non
noncomputable def qT:F:=chS QF
theorem zCB:jh 1 QF qT:=Qo _
theorem zC2 (c:Int):kyD 2 (Zu c)=true:=by
 have v:c % 8=0\/c % 8=1\/c % 8=2\/c % 8=3\/c % 8=4\/c % 8=5\/c % 8=6\/c % 8=7:=by omega
 unfold Zu
 rcases v with v | v | v | v | v | v | v | v<;>rw[v]<;>rfl
theorem zGk (c:Int) (s:M.S):qT [.int c] s=.ok (Zu c) s:=by
 have v:c % 8=0\/c % 8=1\/c % 8=2\/c % 8=3\/c % 8=4\/c % 8=5\/c % 8=6\/c % 8=7:=by omega
 have sn:qg (c / 8 % 7)=true:=by unfold qg;simp;omega
 have ts:∀ n:Nat,n <= 2000->n <= SZ:=sz5
 refine QC (g:=[.lst [.int 0,.str [],.tup [],.tup [.non],.str [78,111,110,101],.tup [.str [116,101,120,116],.str []],.int (c / 8 % 1000),.tup [.str [102,97,105,108,115],.str (Q0 (c / 8 % 7))]]]) ?_ (Zq _ (zC2 c))
 have at5:∀ (a b c d e f:D) (l:List D),atI (a::b::c::d::e::f::l) 5=some f:=fun a b c d e f l=>Zc _ 5 _ rfl
 have at6:∀ (a b c d e f g:D) (l:List D),atI (a::b::c::d::e::f::g::l) 6=some g:=fun a b c d e f g l=>Zc _ 6 _ rfl
 have at7:∀ (a b c d e f g h:D) (l:List D),atI (a::b::c::d::e::f::g::h::l) 7=some h:=fun a b c d e f g h l=>Zc _ 7 _ rfl
 unfold Zu
 rcases v with v | v | v | v | v | v | v | v<;>simp[QF,ZR,v,sn,sz0,sz5,at0,at1,at2,at3,at4,at5,at6,at7]
mutual
theorem P.eqv_refl:∀ p:P,P.eqv p p=true
 | .non=>by simp[P.eqv]
 | .bl b=>by simp[P.eqv]
 | .int i=>by simp[P.eqv]
 | .str x=>by simp[P.eqv]
 | .tup ps=>by simp[P.eqv,P.eqvs_refl ps]
 | .lst ps=>by simp[P.eqv,P.eqvs_refl ps]
theorem P.eqvs_refl:∀ ps:List P,P.eqvs ps ps=true
 | []=>by simp[P.eqvs]
 | p::ps=>by simp[P.eqvs,P.eqv_refl p,P.eqvs_refl ps]
end
theorem zMA (g:Nat->Option P):∀ (n:Nat) (d:D),kyD n d=true->∃ p,qj g d=some p/\P.dep p <= n:=by
 intro n
 induction n with
 | zero=>intro d h;cases d<;>first | exact⟨_,rfl,by simp[P.dep]⟩ | cases h
 | succ n ih =>
  intro d h
  cases d with
  | tup ds =>
   have h':ds.all (kyD n)=true:=h
   have:∀ ds:List D,ds.all (kyD n)=true->∃ ps,qj.all g ds=some ps/\P.deps ps <= n:=by
    intro ds
    induction ds with
    | nil=>exact fun _=>⟨[],rfl,by simp[P.deps]⟩
    | cons d ds ih2 =>
     intro h
     rw[List.all_cons,Bool.and_eq_true] at h
     obtain⟨p,e1,d1⟩:=ih d h.1
     obtain⟨ps,e2,d2⟩:=ih2 h.2
     refine⟨p::ps,by simp[qj.all,e1,e2],?_⟩
     simp only[P.deps]
     omega
   obtain⟨ps,e,dp⟩:=this ds h'
   exact⟨.tup ps,by simp[qj,e],by simp only[P.dep];omega⟩
  | _=>first | exact⟨_,rfl,by simp[P.dep]⟩ | cases h
theorem zHL {d:D} (h:kyD 7 d=true) (s:M.S):eqD d d s=.ok true s:=by
 obtain⟨p,e,dp⟩:=zMA (fun i=>match jO s i with | some xs=>(qj.all (fun j=>toP 8 s (.ref j)) xs).map .lst | none=>none) 7 d h
 have e':toP JG s d=some p:=e
 cases d with
 | tup ds =>
  have:P.dep p <= 64:=by omega
  simp[e',P.eqv_refl,this]
 | non=>rfl
 | int i=>simp
 | str x=>simp
 | _=>cases h
theorem zGb (c:Int):Zu c≠.non:=by
 have v:c % 8=0\/c % 8=1\/c % 8=2\/c % 8=3\/c % 8=4\/c % 8=5\/c % 8=6\/c % 8=7:=by omega
 unfold Zu
 rcases v with v | v | v | v | v | v | v | v<;>rw[v]<;>simp
noncomputable def y9:SM :=
  (zE1 3 (j6 2 (Q6 1 (jS (zU ZP (zC (zA 0) zI))) (ze 7) (ZZ (zU Zx (zC (eOp zS (zA 0) (zA 7)) (zC (eC (.ty .tuple)) zI)))) (zA 7))))
noncomputable def qb:SM :=
  (sIf (QY (ZZ (zA 2)))
  (jg (eOp jj (zA 0) (jv (zC (eC .non) zI))))
  j5)
noncomputable def yH:SM :=
  (j6 3 (eOp zS (zA 2) (eOp jK (zA 1) (zU ZP (zC (zA 2) zI)))))
noncomputable def yL:SM :=
  (j6 4 (eOp zS (zA 0) (zA 3)))
noncomputable def yK:SM :=
  (j6 5 (eOp jK (eOp j7 (zA 1) (eC (.int 3))) (eOp qE (zU ZP (zC (zA 4) zI)) (eC (.int 1)))))
noncomputable def yE:SM :=
  (j6 6 (ZE (zC (eOp jj (qh (zA 4) qO (qN (zA 5))) (qh (zA 4) (qN (eOp qE (zA 5) (eC (.int 1)))) qO)) (zC (eOp jj (eOp jj (qh (zA 4) qO (qN (zA 5))) (jv (zC (eC (.int 0)) zI))) (qh (zA 4) (qN (zA 5)) qO)) (zC (eOp jj (eOp jj (qh (zA 4) qO (qN (zA 5))) (jv (zC (eC (.str [63])) zI))) (qh (zA 4) (qN (eOp qE (zA 5) (eC (.int 1)))) qO)) zI)))))
noncomputable def yJ:SM :=
  (jg (eOp jj (eOp jj (qh (zA 0) qO (qN (zA 3))) (jv (zC (eOp zS (zA 6) (eOp jK (eOp j7 (zA 1) (eC (.int 21))) (eC (.int 3)))) zI))) (qh (zA 0) (qN (eOp qE (zA 3) (eC (.int 1)))) qO)))
noncomputable def yS:SM:=(zk y9 (zk qb (zk yH (zk yL (zk yK (zk yE yJ))))))
noncomputable def QV:F:=fn 7 yS
noncomputable def qk:F:=chS QV
theorem zCy:jh 2 QV qk:=Qo _
theorem q8 {a b:List D} (h:a.length+b.length <= 2000) (s:M.S):jj (.tup a) (.tup b) s=.ok (.tup (a++b)) s:=by
 cases a with
 | nil=>rfl
 | cons x a =>
  have z:(x::a).length+b.length <= SZ:=sz5 _ h
  show (if x::a≠[]/\(x::a).length+b.length <= SZ then _ else _)=_
  rw[if_pos ⟨by simp,z⟩]
theorem Z9 {n:Nat}{ds:List D} (h:ds.all (kyD n)=true) (lo hi:Option Int):(cut ds lo hi).all (kyD n)=true :=
 List.all_eq_true.mpr fun d hd=>List.all_eq_true.mp h d (List.mem_of_mem_drop (List.mem_of_mem_take hd))
noncomputable def zBd:D->Bool
 | .tup _=>true
 | _=>false
theorem zGh {d:D} (h:kyD 3 d=true) (s:M.S):qe .tuple d s=.ok (zBd d) s:=by
 cases d with
 | non=>rfl
 | int i=>rfl
 | str x=>rfl
 | tup ds=>rfl
 | _=>cases h
theorem zIc {ds:List D} (hk:kyD 4 (.tup ds)=true) (hl:ds.length <= 3) (hw:∀ d∈ds,wdD d=true) (c:Int):∃ es:List D,(∀ s:M.S,qk [.tup ds,.int c] s=.ok (.tup es) s)/\kyD 4 (.tup es)=true/\es.length <= 10:=by
 have all3:ds.all (kyD 3)=true:=hk
 have k3:∀ {j:Nat}{d:D},ds[j]? = some d->kyD 3 d=true:=fun e=>List.all_eq_true.mp all3 _ (List.mem_of_getElem? e)
 let J:List D:=(jq 0 ds.length).filter fun x=>match x with | .int i=>zBd (ds.getD i.toNat .non) | _=>false
 have n2:(ds.length:Int).natAbs < 4611686018427387904:=by omega
 have hJ:∀ s:M.S,y9 [some (.tup ds),some (.int c),none,none,none,none,none] s=.nx [some (.tup ds),some (.int c),some (.ref s.length),none,none,none,none] (s++[.lst J]):=fun s=>by
  have it:jS (zU ZP (zC (zA 0) zI)) [some (.tup ds),some (.int c),none,none,none,none,none] s=.ok (jq 0 ds.length,[]) s:=by
   simp
   omega
  have cc:=zDR (n:=1) (tg:=ze 7) (c:=ZZ (zU Zx (zC (eOp zS (zA 0) (zA 7)) (zC (eC (.ty .tuple)) zI)))) (e:=zA 7) (σ:=[some (.tup ds),some (.int c),none,none,none,none,none]) (fun x=>match x with | .int i=>zBd (ds.getD i.toNat .non) | _=>false) id it (Nat.le_trans (by simp[jq];omega) (sz5 10 (by omega))) rfl fun x hx=>by
   obtain⟨j,hj,rfl⟩:=List.mem_map.mp hx
   have jl:j < ds.length:=by have:=List.mem_range.mp hj;omega
   have e0:ds[j]? = some ds[j]:=by simp[jl]
   have e1:atI ds (0+(j:Int))=some ds[j]:=by rw[Int.zero_add];exact Zc ds j _ e0
   have e2:ds.getD (0+(j:Int)).toNat .non=ds[j]:=by rw[Int.zero_add,Int.toNat_natCast,List.getD_eq_getElem?_getD,e0];rfl
   have kk:=zGh (k3 e0) s
   show _=R.ok (if zBd (ds.getD (0+(j:Int)).toNat .non)=true then _ else _) s
   rw[e2]
   generalize ds[j]=d at *
   generalize (0+(j:Int))=i at *
   cases hd:zBd d<;>rw[hd] at kk<;>simp[-qe,e1,kk]
  rw[List.map_id] at cc
  show zE9 3 (((qy 1 _ (ze 7) _ _ [some (.tup ds),some (.int c),none,none,none,none,none] s).bind _).stm [some (.tup ds),some (.int c),none,none,none,none,none] _)=_
  rw[cc]
  rfl
 have st:∀ s:M.S,QV [.tup ds,.int c] s=(yS [some (.tup ds),some (.int c),none,none,none,none,none] s).out:=fun s=>rfl
 have eJ:∀ s:M.S,(s++[O.lst J])[s.length]? = some (.lst J):=fun s=>by simp
 by_cases hE:J=[]
 ·refine⟨ds++[.non],fun s=>?_,?_,by simp;omega⟩
  ·have ky':kyD 4 (.tup (ds++[.non]))=true:=by
    show (ds++[D.non]).all (kyD 3)=true
    rw[List.all_append,all3];rfl
   refine QC (g:=[.lst J]) ?_ (Zq _ ky')
   rw[st]
   unfold yS
   rw[jk (hJ s)]
   have z1:1 <= SZ:=sz5 _ (by omega)
   have e:=eJ s
   rw[hE] at e ⊢
   have ad:=q8 (a:=ds) (b:=[.non]) (by simp;omega) (s++[O.lst []])
   simp[-jj,qb,e,z1,ad]
  ·show (ds++[D.non]).all (kyD 3)=true
   rw[List.all_append,all3];rfl
 ·have jp:0 < J.length:=List.length_pos_iff.mpr hE
  have z0:0 <= c % (J.length:Int):=Int.emod_nonneg _ (by omega)
  have z1:c % (J.length:Int) < J.length:=Int.emod_lt_of_pos _ (by omega)
  have zl:(c % (J.length:Int)).toNat < J.length:=by omega
  obtain⟨x,ex,hx⟩:∃ x,atI J (c % (J.length:Int))=some x/\x∈J:=by
   refine⟨J[(c % (J.length:Int)).toNat],?_,List.getElem_mem _⟩
   have:=Zc J (c % (J.length:Int)).toNat J[(c % (J.length:Int)).toNat] (by simp[zl])
   rwa [Int.toNat_of_nonneg z0] at this
  have hx':=List.mem_filter.mp hx
  obtain⟨j,hj,rfl⟩:=List.mem_map.mp hx'.1
  have jl:j < ds.length:=by have:=List.mem_range.mp hj;omega
  have e0:ds[j]? = some ds[j]:=by simp[jl]
  have e1:atI ds (j:Int)=some ds[j]:=Zc ds j _ e0
  have e2:ds.getD (0+(j:Int)).toNat .non=ds[j]:=by rw[Int.zero_add,Int.toNat_natCast,List.getD_eq_getElem?_getD,e0];rfl
  have tp:zBd ds[j]=true:=by
   have:=hx'.2
   rw[<- e2]
   exact this
  rw[Int.zero_add] at ex
  obtain⟨es,hes⟩:∃ es,ds[j]=.tup es:=by
   cases q:ds[j] with
   | tup es=>exact⟨es,rfl⟩
   | _=>rw[q] at tp;cases tp
  rw[hes] at e0 e1
  have k2:es.all (kyD 2)=true:=k3 e0
  have ez:es.length <= 6:=of_decide_eq_true (hw _ (List.mem_of_getElem? e0))
  obtain⟨A,eA⟩:∃ A,A=c / 3 % ((es.length:Int)+1):=⟨_,rfl⟩
  have A0:0 <= A:=by rw[eA];exact Int.emod_nonneg _ (by omega)
  have ep:(0:Int) < (es.length:Int)+1:=by omega
  have le1:(cut es none (some A)).length <= 6:=Nat.le_trans (Qq _ _ _) ez
  have le2:(cut es (some (A+1)) none).length <= 6:=Nat.le_trans (Qq _ _ _) ez
  have le3:(cut es (some A) none).length <= 6:=Nat.le_trans (Qq _ _ _) ez
  have c1:=Z9 k2 none (some A)
  have c2:=Z9 k2 (some (A+1)) none
  have c3:=Z9 k2 (some A) none
  obtain⟨X,eX⟩:∃ X,X=cut es none (some A):=⟨_,rfl⟩
  obtain⟨Y,eY⟩:∃ Y,Y=cut es (some (A+1)) none:=⟨_,rfl⟩
  obtain⟨Z,eZ⟩:∃ Z,Z=cut es (some A) none:=⟨_,rfl⟩
  rw[<- eX] at le1 c1
  rw[<- eY] at le2 c2
  rw[<- eZ] at le3 c3
  have z1:1 <= SZ:=sz5 _ (by omega)
  have z3:3 <= SZ:=sz5 _ (by omega)
  obtain⟨T,hT,tk⟩:∃ T,atI [D.tup (X++Y),.tup (X++[.int 0]++Z),.tup (X++[.str [63]]++Y)] (c / 21 % 3)=some T/\kyD 3 T=true:=by
   have y1:kyD 3 (.tup (X++Y))=true:=by show (X++Y).all (kyD 2)=true;rw[List.all_append,c1,c2];rfl
   have y2:kyD 3 (.tup (X++[.int 0]++Z))=true:=by show (X++[D.int 0]++Z).all (kyD 2)=true;rw[List.all_append,List.all_append,c1,c3];rfl
   have y3:kyD 3 (.tup (X++[.str [63]]++Y))=true:=by show (X++[D.str [63]]++Y).all (kyD 2)=true;rw[List.all_append,List.all_append,c1,c2];rfl
   have v:c / 21 % 3=0\/c / 21 % 3=1\/c / 21 % 3=2:=by omega
   rcases v with v | v | v<;>rw[v]
   ·exact⟨_,at0 _ _,y1⟩
   ·exact⟨_,at1 _ _ _,y2⟩
   ·exact⟨_,at2 _ _ _ _,y3⟩
  obtain⟨P1,eP⟩:∃ P1,P1=cut ds none (some (j:Int)):=⟨_,rfl⟩
  obtain⟨P2,eP2⟩:∃ P2,P2=cut ds (some ((j:Int)+1)) none:=⟨_,rfl⟩
  have lp1:P1.length <= 3:=by rw[eP];exact Nat.le_trans (Qq _ _ _) hl
  have lp2:P2.length <= 3:=by rw[eP2];exact Nat.le_trans (Qq _ _ _) hl
  have ky':kyD 4 (.tup (P1++[T]++P2))=true:=by
   show (P1++[T]++P2).all (kyD 3)=true
   have q1:=Z9 all3 none (some (j:Int))
   have q2:=Z9 all3 (some ((j:Int)+1)) none
   rw[<- eP] at q1
   rw[<- eP2] at q2
   rw[List.all_append,List.all_append,q1,q2]
   simp[tk]
  refine⟨P1++[T]++P2,fun s=>?_,ky',by simp;omega⟩
  refine QC (g:=[.lst J,.lst [.tup (X++Y),.tup (X++[.int 0]++Z),.tup (X++[.str [63]]++Y)]]) ?_ (Zq _ ky')
  rw[st]
  unfold yS
  rw[jk (hJ s)]
  have e:=eJ s
  have a2:qb [some (.tup ds),some (.int c),some (.ref s.length),none,none,none,none] (s++[.lst J])=.nx [some (.tup ds),some (.int c),some (.ref s.length),none,none,none,none] (s++[.lst J]):=by
   have hE':J.isEmpty=false:=by simpa using hE
   simp[qb,e,hE]
  have a3:yH [some (.tup ds),some (.int c),some (.ref s.length),none,none,none,none] (s++[.lst J])=.nx [some (.tup ds),some (.int c),some (.ref s.length),some (.int j),none,none,none] (s++[.lst J]):=by
   have jp':(0:Int) < J.length:=by omega
   generalize J=J' at *
   simp[yH,e,jp,ex]
  have a4:yL [some (.tup ds),some (.int c),some (.ref s.length),some (.int j),none,none,none] (s++[.lst J])=.nx [some (.tup ds),some (.int c),some (.ref s.length),some (.int j),some (.tup es),none,none] (s++[.lst J]):=by
   simp[yL,e1]
  have a5:yK [some (.tup ds),some (.int c),some (.ref s.length),some (.int j),some (.tup es),none,none] (s++[.lst J])=.nx [some (.tup ds),some (.int c),some (.ref s.length),some (.int j),some (.tup es),some (.int A),none] (s++[.lst J]):=by
   rw[eA]
   simp[yK,ep]
  have d1:=fun s=>q8 (a:=X) (b:=Y) (by omega) s
  have d2:=fun s=>q8 (a:=X) (b:=[.int 0]) (by simp;omega) s
  have d3:=fun s=>q8 (a:=X++[.int 0]) (b:=Z) (by simp;omega) s
  have d4:=fun s=>q8 (a:=X) (b:=[.str [63]]) (by simp;omega) s
  have d5:=fun s=>q8 (a:=X++[.str [63]]) (b:=Y) (by simp;omega) s
  have d6:=fun s=>q8 (a:=P1) (b:=[T]) (by simp;omega) s
  have d7:=fun s=>q8 (a:=P1++[T]) (b:=P2) (by simp;omega) s
  have a6:yE [some (.tup ds),some (.int c),some (.ref s.length),some (.int j),some (.tup es),some (.int A),none] (s++[.lst J])=.nx [some (.tup ds),some (.int c),some (.ref s.length),some (.int j),some (.tup es),some (.int A),some (.ref (s.length+1))] (s++[.lst J,.lst [.tup (X++Y),.tup (X++[.int 0]++Z),.tup (X++[.str [63]]++Y)]]):=by
   simp only[List.append_assoc] at d3 d5 ⊢
   simp[-jj,yE,<- eX,<- eY,<- eZ,d1,d2,d3,d4,d5,z1,z3]
  have e6:(s++[O.lst J,.lst [.tup (X++Y),.tup (X++[.int 0]++Z),.tup (X++[.str [63]]++Y)]])[s.length+1]? = some (.lst [.tup (X++Y),.tup (X++[.int 0]++Z),.tup (X++[.str [63]]++Y)]):=by
   rw[List.getElem?_append_right (by omega)];simp
  generalize [D.tup (X++Y),.tup (X++[.int 0]++Z),.tup (X++[.str [63]]++Y)]=G at *
  have a7:yJ [some (.tup ds),some (.int c),some (.ref s.length),some (.int j),some (.tup es),some (.int A),some (.ref (s.length+1))] (s++[.lst J,.lst G])=.rt (.tup (P1++[T]++P2)) (s++[.lst J,.lst G]):=by
   simp only[List.append_assoc] at d7 ⊢
   simp[-jj,yJ,<- eP,<- eP2,e6,hT,d6,d7,z1]
  rw[jk a2,jk a3,jk a4,jk a5,jk a6,a7]
  rfl
noncomputable def yR:SM :=
  (zk (qa (eM .dict QP (yX 5 1 (zA 0)) (zC (zA 1) (zC (eC .non) zI))))
  (zk (Z4 (yX 5 1 (zA 0)) (zA 1) (zA 2))
  (sIf (qI cGt (zU ZP (zC (yX 5 1 (zA 0)) zI)) (yX 5 0 (zA 0)))
  (qa (eM .dict QP (yX 5 1 (zA 0)) (zC (eOp zS (zU yx (zC (yX 5 1 (zA 0)) zI)) (eC (.int 0))) zI)))
  j5)))
noncomputable def J8:F:=fn 3 yR
noncomputable def jP:F:=chO J8
theorem zDZ:jh 3 J8 jP:=zDT _
noncomputable def laid (b:Int) (k t:D) (kvs:List (D×D)):List (D×D):=if ((z6 k kvs++[(k,t)]).length:Int) > b then (z6 k kvs++[(k,t)]).tail else z6 k kvs++[(k,t)]
theorem zFz {q:D×D}{r:List (D×D)} (nd:((q::r).map (·.1)).Nodup):z6 q.1 (q::r)=r:=by
 unfold z6
 rw[List.map_cons,List.nodup_cons] at nd
 rw[List.filter_cons_of_neg (by simp)]
 exact List.filter_eq_self.mpr fun p hp=>decide_eq_true fun e=>nd.1 (e ▸ List.mem_map.mpr ⟨p,hp,rfl⟩)
theorem zBA {k t:D}{kvs:List (D×D)} (nd:(kvs.map (·.1)).Nodup):((z6 k kvs++[(k,t)]).map (·.1)).Nodup:=by
 rw[List.map_append,List.nodup_append]
 refine⟨nd.sublist (List.Sublist.map _ List.filter_sublist),by simp,fun x hx y hy=>?_⟩
 obtain⟨p,hp,rfl⟩:=List.mem_map.mp hx
 have:=of_decide_eq_true (List.mem_filter.mp hp).2
 simp at hy
 rw[hy]
 exact this
theorem zKp {S:M.S}{p d:Nat}{b:Int}{kvs:List (D×D)} (h:Shf S p d b kvs) (cS:clS S.length S=true) {k t:D} (hk:kyT k=true) (ks:∀ q∈kvs,kyT q.1=true) (nd:(kvs.map (·.1)).Nodup) (hz:kvs.length < SZ)
  (c1:D.cl S.length k=true) (c2:D.cl S.length t=true):jP [.ref p,k,t] S=.ok .non (S.set d (.dtt (laid b k t kvs))):=by
 have pd:p≠d:=fun e=>by have:=h.ob;rw[e,h.di] at this;cases this
 have hz':(z6 k kvs).length < SZ:=Nat.lt_of_le_of_lt (List.length_filter_le _ _) hz
 have ob:∀ o,(S.set d o)[p]? = some (.ins 5 [some (.int b),some (.ref d)]):=fun o=>by rw[List.getElem?_set_ne pd.symm];exact h.ob
 have di:∀ o,(S.set d o)[d]? = some o:=fun o=>Zg h.di o
 have e1:∃ v,(eM .dict QP (yX 5 1 (zA 0)) (zC (zA 1) (zC (eC .non) zI))) [some (.ref p),some k,some t] S=.ok v (S.set d (.dtt (z6 k kvs))):=by
  cases hv:zo k kvs with
  | some v=>exact⟨v,by simp[h.ob,h.di,hk,hv]⟩
  | none =>
   refine⟨.non,?_⟩
   have:S.set d (.dtt (z6 k kvs))=S:=by
    rw[zBu hv]
    exact List.ext_getElem? fun i=>by
     by_cases hi:d=i
     ·subst hi;rw[di,h.di]
     ·rw[List.getElem?_set_ne hi]
   rw[this]
   simp[h.ob,h.di,hk,hv]
 obtain⟨v,e1⟩:=e1
 have l0:(z6 k kvs++[(k,t)])≠[]:=by simp
 have nl:=zBA (t:=t) (k:=k) nd
 have cl0:∀ q∈z6 k kvs++[(k,t)],D.cl S.length q.1=true/\D.cl S.length q.2=true:=fun q hq=>by
  rcases List.mem_append.mp hq with h1 | h1
  ·exact zER cS h.di q (List.mem_filter.mp h1).1
  ·rw[List.mem_singleton.mp h1];exact⟨c1,c2⟩
 have kl:∀ q∈z6 k kvs++[(k,t)],kyT q.1=true:=fun q hq=>by
  rcases List.mem_append.mp hq with h1 | h1
  ·exact ks q (List.mem_filter.mp h1).1
  ·rw[List.mem_singleton.mp h1];exact hk
 have yY:yR [some (.ref p),some k,some t] S=(sIf (qI cGt (zU ZP (zC (yX 5 1 (zA 0)) zI)) (yX 5 0 (zA 0)))
   (qa (eM .dict QP (yX 5 1 (zA 0)) (zC (eOp zS (zU yx (zC (yX 5 1 (zA 0)) zI)) (eC (.int 0))) zI))) j5) [some (.ref p),some k,some t] (S.set d (.dtt (z6 k kvs++[(k,t)]))):=by
  have a1:(qa (eM .dict QP (yX 5 1 (zA 0)) (zC (zA 1) (zC (eC .non) zI)))) [some (.ref p),some k,some t] S=.nx [some (.ref p),some k,some t] (S.set d (.dtt (z6 k kvs))):=by
   show ((eM _ _ _ _ _ _).stm _ _)=_
   rw[e1];rfl
  have a2:(Z4 (yX 5 1 (zA 0)) (zA 1) (zA 2)) [some (.ref p),some k,some t] (S.set d (.dtt (z6 k kvs)))=.nx [some (.ref p),some k,some t] (S.set d (.dtt (z6 k kvs++[(k,t)]))):=by
   simp[ob,di,hk,hz',zDE]
  show ((qa _ _ _).then _)=_
  rw[a1]
  show ((Z4 _ _ _ _ _).then _)=_
  rw[a2]
  rfl
 generalize hl:z6 k kvs++[(k,t)]=l at *
 by_cases hb:(l.length:Int) > b
 ·obtain⟨q,r,rfl⟩:∃ q r,l=q::r:=by cases l with | nil=>exact absurd rfl l0 | cons q r=>exact⟨q,r,rfl⟩
  have q1:zo q.1 (q::r)=some q.2:=by unfold zo;obtain⟨x,y⟩:=q;simp[List.lookup_cons]
  have q2:=zFz nl
  have lw:laid b k t kvs=r:=by unfold laid;rw[hl,if_pos hb];rfl
  have q3:=kl q List.mem_cons_self
  rw[lw]
  refine JS (g:=[.lst ((q::r).map (·.1))]) ?_ (by simp) (yy cS (zCS fun x hx=>cl0 x (List.mem_cons_of_mem _ hx))) rfl
  show (yR ([some (.ref p),some k,some t]) S).out=_
  rw[yY]
  have f2:(S.set d (.dtt (q::r))++[O.lst (q.1::r.map (·.1))])[d]? = some (.dtt (q::r)):=yk (di _) _
  have f3:=zEF (di (.dtt (q::r))) (.dtt r) [O.lst (q.1::r.map (·.1))]
  rw[List.set_set] at f3
  have f4:(S.set d (.dtt (q::r))++[O.lst (q.1::r.map (·.1))])[S.length]? = some (O.lst (q.1::r.map (·.1))):=by
   rw[List.getElem?_append_right (by simp)];simp
  have hb':b < (r.length:Int)+1:=by simpa using hb
  simp[ob,di,hb',f2,f3,f4,at0,q1,q2,q3]
 ·have lw:laid b k t kvs=l:=by unfold laid;rw[hl,if_neg hb]
  rw[lw]
  refine JS (g:=[]) ?_ (by simp) (yy cS (zCS cl0)) rfl
  show (yR ([some (.ref p),some k,some t]) S).out=_
  rw[yY]
  have hb':l.length <= b:=by omega
  simp[ob,di,hb,hb']
noncomputable def qq:SM :=
  (sIf (qI Jh (zA 1) (yX 5 1 (zA 0)))
  (jg (eC .non))
  j5)
noncomputable def yl:SM :=
  (j6 2 (eM .dict QP (yX 5 1 (zA 0)) (zC (zA 1) zI)))
noncomputable def yn:SM :=
  (Z4 (yX 5 1 (zA 0)) (zA 1) (zA 2))
noncomputable def ym:SM :=
  (jg (zA 2))
noncomputable def yd:SM:=(zk qq (zk yl (zk yn ym)))
noncomputable def ZS:F:=fn 3 yd
noncomputable def jZ:F:=chO ZS
theorem zB8:jh 2 ZS jZ:=zDT _
theorem zBw {S:M.S}{p d:Nat}{b:Int}{kvs:List (D×D)} (h:Shf S p d b kvs) (cS:clS S.length S=true) {k:D} (hk:kyT k=true) (hn:zo k kvs=none):jZ [.ref p,k] S=.ok .non S:=by
 refine JS (g:=[]) ?_ rfl cS rfl
 simp[ZS,yd,qq,h.ob,h.di,hk,hn]
theorem zF2 {S:M.S}{p d:Nat}{b:Int}{kvs:List (D×D)} (h:Shf S p d b kvs) (cS:clS S.length S=true) {k v:D} (hk:kyT k=true) (hv:zo k kvs=some v) (hz:kvs.length < SZ)
  (c1:D.cl S.length k=true) (c2:D.cl S.length v=true):jZ [.ref p,k] S=.ok v (S.set d (.dtt (z6 k kvs++[(k,v)]))):=by
 have pd:p≠d:=fun e=>by have:=h.ob;rw[e,h.di] at this;cases this
 have hz':(z6 k kvs).length < SZ:=Nat.lt_of_le_of_lt (List.length_filter_le _ _) hz
 have e1:=Zg h.di (.dtt (z6 k kvs))
 have e2:(S.set d (.dtt (z6 k kvs)))[p]? = some (.ins 5 [some (.int b),some (.ref d)]):=by rw[List.getElem?_set_ne pd.symm];exact h.ob
 refine JS (g:=[]) ?_ (by simp) (yy cS ?_) c2
 ·simp[ZS,yd,qq,yl,yn,ym,h.ob,h.di,hk,hv,e1,e2,hz',zDE]
 ·refine zCS fun q hq=>?_
  rcases List.mem_append.mp hq with h1 | h1
  ·exact zER cS h.di q (List.mem_filter.mp h1).1
  ·rw[List.mem_singleton.mp h1];exact⟨c1,c2⟩
noncomputable def qV (k:D) (kvs:List (D×D)):List (D×D):=match zo k kvs with
 | some v=>z6 k kvs++[(k,v)]
 | none=>kvs
theorem zI7 {S:M.S}{p d:Nat}{b:Int}{kvs:List (D×D)} (h:Shf S p d b kvs) (cS:clS S.length S=true) {k:D} (hk:kyT k=true) (hz:kvs.length < SZ):jZ [.ref p,k] S=.ok ((zo k kvs).getD .non) (S.set d (.dtt (qV k kvs))):=by
 unfold qV
 cases hv:zo k kvs with
 | none=>rw[zBw h cS hk hv];show _=R.ok D.non (S.set d (.dtt kvs));rw[QS h.di]
 | some v =>
  have m:=zER cS h.di _ (Jg hv)
  rw[zF2 h cS hk hv hz m.1 m.2]
  rfl
theorem zE5 {k:D}{kvs:List (D×D)}{q:D×D} (h:q∈qV k kvs):q∈kvs:=by
 unfold qV at h
 cases hv:zo k kvs with
 | none=>rw[hv] at h;exact h
 | some v =>
  rw[hv] at h
  rcases List.mem_append.mp h with h | h
  ·exact (List.mem_filter.mp h).1
  ·rw[List.mem_singleton.mp h];exact Jg hv
theorem zGM {k:D}{l:List (D×D)} (h:PrD l):PrD (qV k l):=fun q hq=>h q (zE5 hq)
noncomputable def QZ:SM :=
  (zk (yo (zA 1) (Za (jt (ze 3) (jt (ze 4) Zd)))
  (zk (j6 5 (qm 5 jZ (zA 0) (zC (zA 3) zI)))
  (sIf (tOr (zBG (zA 5)) (tOr (qI cNe (zA 5) (zA 4)) (ZZ (zU Zx (zC (zA 5) (zC (eC (.ty .bool)) zI))))))
  (jg (eC (.bl false)))
  j5)))
  (zk (ye (iE (zA 2)) (ze 3)
  (sIf (JX (qI Jh (zA 3) (zA 1)) (Zn (qm 5 jZ (zA 0) (zC (zA 3) zI))))
  (jg (eC (.bl false)))
  j5))
  (jg (eC (.bl true)))))
noncomputable def QX:F:=fn 6 QZ
theorem zHR (k x:D) (l:List (D×D)):zo x (z6 k l)=if x=k then none else zo x l:=by
 unfold zo z6
 induction l with
 | nil=>simp
 | cons p r ih =>
  obtain⟨p1,p2⟩:=p
  by_cases h:p1=k
  ·rw[List.filter_cons_of_neg (by simpa using h),ih,List.lookup_cons]
   by_cases hx:x=k
   ·rw[if_pos hx,if_pos hx]
   ·rw[if_neg hx,if_neg hx,show (x == p1)=false by simp;exact fun z=>hx (z.trans h)]
  ·rw[List.filter_cons_of_pos (by simpa using h),List.lookup_cons,List.lookup_cons,ih]
   by_cases hx:x=p1
   ·subst hx;simp[h]
   ·rw[show (x == p1)=false by simpa using hx]
theorem zB4 (k v x:D) (l:List (D×D)):zo x (z6 k l++[(k,v)])=if x=k then some v else zo x l:=by
 have:=zAN k v x (z6 k l)
 have g:=zHR k x l
 unfold zo at g ⊢
 rw[this,g]
 by_cases h:x=k
 ·simp[h]
 ·rw[if_neg h,if_neg h,if_neg h]
  cases List.lookup x l<;>rfl
theorem zEX (k x:D) (l:List (D×D)):zo x (qV k l)=zo x l:=by
 unfold qV
 cases h:zo k l with
 | none=>rfl
 | some v =>
  show zo x (z6 k l++[(k,v)])=_
  rw[zB4]
  by_cases e:x=k
  ·rw[if_pos e,e,h]
  ·rw[if_neg e]
theorem zFr {k:D}{l:List (D×D)} (nd:(ky l).Nodup):(ky (qV k l)).Nodup:=by
 unfold qV
 cases h:zo k l with
 | none=>exact nd
 | some v=>exact zBA nd
theorem zE3 {k:D}{l:List (D×D)}:(qV k l).length <= l.length:=by
 unfold qV
 cases h:zo k l with
 | none=>exact Nat.le_refl _
 | some v =>
  have:(z6 k l).length < l.length:=by
   unfold z6
   exact List.length_filter_lt_length_iff_exists.mpr ⟨_,Jg h,by simp⟩
  simp
  omega
structure MI (L W:List (D×D)) (n:Nat):Prop where
 nL:(ky L).Nodup
 nW:(ky W).Nodup
 pL:PrD L
 pW:PrD W
 eq:∀ k,zo k L=zo k W
 zL:L.length <= n
 zW:W.length <= n
theorem MI.look {L W:List (D×D)}{n:Nat} (h:MI L W n) (k:D):MI (qV k L) W n:=⟨zFr h.nL,h.nW,zGM h.pL,h.pW,fun x=>by rw[zEX];exact h.eq x,Nat.le_trans zE3 h.zL,h.zW⟩
noncomputable def qD:F:=chO QX
theorem zCh:jh 3 QX qD:=zDT _
noncomputable abbrev kpB:SM:=(zk (j6 5 (qm 5 jZ (zA 0) (zC (zA 3) zI)))
  (sIf (tOr (zBG (zA 5)) (tOr (qI cNe (zA 5) (zA 4)) (ZZ (zU Zx (zC (zA 5) (zC (eC (.ty .bool)) zI))))))
  (jg (eC (.bl false)))
  j5))
noncomputable abbrev kpO:SM:=(sIf (JX (qI Jh (zA 3) (zA 1)) (Zn (qm 5 jZ (zA 0) (zC (zA 3) zI))))
  (jg (eC (.bl false)))
  j5)
theorem zE4 {S:M.S}{p d w l:Nat}{b:Int}{W:List (D×D)}{n:Nat} (hn:n <= 1000) (ob:S[p]? = some (.ins 5 [some (.int b),some (.ref d)])) (pd:p≠d) (dl:d < S.length) (cS:clS S.length S=true):∀ (ps:List (D×D)) (L:List (D×D)) (v3 v4 v5:Option D),(∀ q∈ps,q∈W)->MI L W n ->
  ∃ L' v3' v4' v5',jX [] (jf (Za (jt (ze 3) (jt (ze 4) Zd))) kpB) (ps.map fun q=>.tup [q.1,q.2]) [some (.ref p),some (.ref w),some (.ref l),v3,v4,v5] (S.set d (.dtt L))=.nx [some (.ref p),some (.ref w),some (.ref l),v3',v4',v5'] (S.set d (.dtt L'))/\MI L' W n:=by
 intro ps
 induction ps with
 | nil=>intro L v3 v4 v5 _ h;exact⟨L,v3,v4,v5,rfl,h⟩
 | cons q ps ih =>
  intro L v3 v4 v5 hq h
  have qW:=hq q List.mem_cons_self
  have kd:=(h.pW q qW).1
  have kt:=kd.t
  obtain⟨k,v⟩:=q
  have gv:zo k L=some v:=by rw[h.eq];exact zG6 h.nW qW
  have v2:kyD 2 v=true:=(h.pW _ qW).2.1
  have vn:v≠.non:=(h.pW _ qW).2.2
  have cL:clS (S.set d (.dtt L)).length (S.set d (.dtt L))=true:=by rw[List.length_set];exact yy cS (h.pL.cl _)
  have hs:Shf (S.set d (.dtt L)) p d b L:=⟨by rw[List.getElem?_set_ne pd.symm];exact ob,List.getElem?_set_self dl⟩
  have lz:L.length < SZ:=Nat.lt_of_lt_of_le (m:=2000) (by have:=h.zL;omega) (sz5 _ (Nat.le_refl _))
  have lo:=zI7 hs cL kt lz
  rw[gv,List.set_set] at lo
  have lo':jZ [.ref p,k] (S.set d (.dtt L))=.ok v (S.set d (.dtt (qV k L))):=lo
  have eq:=fun s=>zHL (d:=v) (zD1 (by omega) v2) s
  have ne:∀ s,qe .bool v s=.ok false s:=fun s=>by
   cases v with
   | non=>exact absurd rfl vn
   | int i=>rfl
   | str x=>rfl
   | tup ds=>rfl
   | _=>cases v2
  have f:jf (Za (jt (ze 3) (jt (ze 4) Zd))) kpB (.tup [k,v]) [some (.ref p),some (.ref w),some (.ref l),v3,v4,v5] (S.set d (.dtt L))=.nx [some (.ref p),some (.ref w),some (.ref l),some k,some v,some v] (S.set d (.dtt (qV k L))):=by
   simp[-eqD,-qe,hs.ob,lo',eq,ne,vn]
  obtain⟨L',x3,x4,x5,e,h'⟩:=ih (qV k L) (some k) (some v) (some v) (fun q hq'=>hq q (List.mem_cons_of_mem _ hq')) (h.look k)
  refine⟨L',x3,x4,x5,?_,h'⟩
  rw[List.map_cons]
  unfold jX
  rw[f]
  exact e
theorem zDx {S:M.S}{p d w l:Nat}{b:Int}{L W:List (D×D)}{n:Nat}{Os:List D} (hs:Shf S p d b L) (hw:S[w]? = some (.dtt W)) (hl:S[l]? = some (.lst Os)) (cS:clS S.length S=true) (h:MI L W n) (hn:n <= 1000):∀ (xs:List D) (v3 v4 v5:Option D),(∀ x∈xs,ql x) ->
  ∃ v3',jX [(l,.lst Os)] (jf (ze 3) kpO) xs [some (.ref p),some (.ref w),some (.ref l),v3,v4,v5] S=.nx [some (.ref p),some (.ref w),some (.ref l),v3',v4,v5] S:=by
 intro xs
 induction xs with
 | nil=>intro v3 v4 v5 _;exact⟨v3,rfl⟩
 | cons x xs ih =>
  intro v3 v4 v5 hx
  have kd:=hx x List.mem_cons_self
  have kt:=kd.t
  have f:jf (ze 3) kpO x [some (.ref p),some (.ref w),some (.ref l),v3,v4,v5] S=.nx [some (.ref p),some (.ref w),some (.ref l),some x,v4,v5] S:=by
   cases g:zo x W with
   | some v=>simp[hw,kt,g]
   | none =>
    have gn:zo x L=none:=by rw[h.eq];exact g
    have lo:=zBw hs cS kt gn
    simp[hw,kt,g,hs.ob,lo]
  obtain⟨x3,e⟩:=ih (some x) v4 v5 fun y hy=>hx y (List.mem_cons_of_mem _ hy)
  refine⟨x3,?_⟩
  have gd:zm [(l,O.lst Os)] S=true:=by simp[zm,hl]
  unfold jX
  rw[f]
  show (if zm _ _=true then _ else _)=_
  rw[if_pos gd]
  exact e
theorem zIE {S:M.S}{p d w l:Nat}{b:Int}{L W:List (D×D)}{n:Nat}{Os:List D} (hs:Shf S p d b L) (hw:S[w]? = some (.dtt W)) (dw:d≠w) (hl:S[l]? = some (.lst Os)) (cS:clS S.length S=true) (h:MI L W n) (hn:n <= 1000) (ho:∀ x∈Os,ql x) :
  ∃ L',qD [.ref p,.ref w,.ref l] S=.ok (.bl true) (S.set d (.dtt L'))/\MI L' W n:=by
 have pd:p≠d:=fun e=>by have:=hs.ob;rw[e,hs.di] at this;cases this
 have pw:p≠w:=fun e=>by have:=hs.ob;rw[e,hw] at this;cases this
 have dlt:d < S.length:=(List.getElem?_eq_some_iff.mp hs.di).1
 have wlt:w < S.length:=(List.getElem?_eq_some_iff.mp hw).1
 have wl:w≠l:=fun e=>by rw[e,hl] at hw;cases hw
 have dl:d≠l:=fun e=>by have:=hs.di;rw[e,hl] at this;cases this
 obtain⟨F,eF⟩:∃ F,F=S.set w (.ftt W):=⟨_,rfl⟩
 have cF:clS F.length F=true:=by
  rw[eF,List.length_set]
  exact yy cS (h.pW.cl S.length)
 have Fd:F.set d (.dtt L)=F:=QS (by rw[eF,List.getElem?_set_ne dw.symm];exact hs.di)
 obtain⟨L',x3,x4,x5,e1,h1⟩:=zE4 (S:=F) (p:=p) (d:=d) (w:=w) (l:=l) (b:=b) (W:=W) hn (by rw[eF,List.getElem?_set_ne pw.symm];exact hs.ob) pd (by rw[eF,List.length_set];exact dlt) cF W L none none none (fun _ z=>z) h
 rw[Fd] at e1
 have cS':clS (S.set d (.dtt L')).length (S.set d (.dtt L'))=true:=by rw[List.length_set];exact yy cS (h1.pL.cl _)
 refine⟨L',JS (g:=[]) ?_ (by simp) (yy cS (h1.pL.cl _)) rfl,h1⟩
 have hs1:Shf (S.set d (.dtt L')) p d b L':=⟨by rw[List.getElem?_set_ne pd.symm];exact hs.ob,List.getElem?_set_self dlt⟩
 have hw1:(S.set d (.dtt L'))[w]? = some (.dtt W):=by rw[List.getElem?_set_ne dw];exact hw
 have hl1:(S.set d (.dtt L'))[l]? = some (.lst Os):=by rw[List.getElem?_set_ne dl];exact hl
 obtain⟨y3,e2⟩:=zDx hs1 hw1 hl1 cS' h1 hn Os x3 x4 x5 ho
 have a1:(yo (zA 1) (Za (jt (ze 3) (jt (ze 4) Zd))) kpB) [some (.ref p),some (.ref w),some (.ref l),none,none,none] S=.nx [some (.ref p),some (.ref w),some (.ref l),x3,x4,x5] (S.set d (.dtt L')):=by
  have:(yo (zA 1) (Za (jt (ze 3) (jt (ze 4) Zd))) kpB) [some (.ref p),some (.ref w),some (.ref l),none,none,none] S=zCU w (.ftt W) (.dtt W) (jX [] (jf (Za (jt (ze 3) (jt (ze 4) Zd))) kpB) (W.map fun p=>.tup [p.1,p.2]) [some (.ref p),some (.ref w),some (.ref l),none,none,none] (S.set w (.ftt W))):=by
   show (match S[w]? with | some (.dtt kvs)=>_ | _=>_)=_
   rw[hw]
  rw[this,<- eF,e1]
  have g:(F.set d (.dtt L'))[w]? = some (.ftt W):=by rw[List.getElem?_set_ne dw,eF];exact List.getElem?_set_self wlt
  show (if _=_ then RS.nx _ _ else _)=_
  rw[if_pos g,eF,List.set_comm _ _ dw.symm,List.set_set,QS hw1]
 have a2:(ye (iE (zA 2)) (ze 3) kpO) [some (.ref p),some (.ref w),some (.ref l),x3,x4,x5] (S.set d (.dtt L'))=.nx [some (.ref p),some (.ref w),some (.ref l),y3,x4,x5] (S.set d (.dtt L')):=by
  have it:iE (zA 2) [some (.ref p),some (.ref w),some (.ref l),x3,x4,x5] (S.set d (.dtt L'))=.ok (Os,[(l,.lst Os)]) (S.set d (.dtt L')):=by simp[hl1]
  have gd:zm [(l,O.lst Os)] (S.set d (.dtt L'))=true:=by simp[zm,hl1]
  exact Jc it gd e2
 have st:QX [.ref p,.ref w,.ref l] S=((zk (yo (zA 1) (Za (jt (ze 3) (jt (ze 4) Zd))) kpB) (zk (ye (iE (zA 2)) (ze 3) kpO) (jg (eC (.bl true))))) [some (.ref p),some (.ref w),some (.ref l),none,none,none] S).out:=rfl
 rw[st,jk a1,jk a2,List.append_nil]
 rfl
noncomputable def Qk:SM :=
  (j6 1 (eOp jj (eC (.int 60)) (eOp jK (zU jI (zC (zA 0) (zC (eC (.int 0)) zI))) (eC (.int 941)))))
noncomputable def Qj:SM :=
  (j6 2 (ZE (zC (zCW 5 2 q0 (zC (zA 1) zI)) (zC (zCW 5 2 q0 (zC (eC (.int 60)) zI)) zI))))
noncomputable def Qs:SM :=
  (j6 3 (ZE (zC Qm (zC Qm zI))))
noncomputable def Qr:SM :=
  (j6 4 (ZE (zC (jv zI) (zC (jv (zC (eC (.str [])) zI)) (zC (jv (zC (eC .non) zI)) (zC (jv (zC (eC (.int 0)) zI)) (zC (jv (zC (eC (.str [48])) zI)) (zC (jv (zC (jv zI) zI)) (zC (jv (zC (eC (.str [97])) (zC (eC (.str [98])) zI))) (zC (jv (zC (eC (.str [97,98])) zI)) zI))))))))))
noncomputable def Jj:SM :=
  (ye (jS (zU zCR (zC (eOp j7 (zU ZP (zC (zA 0) zI)) (eC (.int 2))) (zC (eC (.int 31)) zI)))) (ze 5)
  (zk (j6 6 (zU q9 (zC (eOp zS (zA 0) (eOp yZ (eC (.int 2)) (zA 5))) zI)))
  (zk (j6 7 (ZE (zC (zU qT (zC (eOp zS (zA 0) (eOp qE (eOp yZ (eC (.int 2)) (zA 5)) (eC (.int 1)))) zI)) (zC (jv (zC (eC (.str [111,116,104,101,114])) (zC (zA 5) zI))) zI))))
  (zk (qa (eM .list yp (zA 4) (zC (eOp jj (zA 6) (jv (zC (eC .non) zI))) zI)))
  (zk (qa (eM .list yp (zA 4) (zC (qh (zA 6) qO (qN (eUn zCQ (eC (.int 1))))) zI)))
  (zk (qa (eM .list yp (zA 4) (zC (zU qk (zC (zA 6) (zC (zU jW (zC (eOp zS (zA 0) (eOp qE (eOp yZ (eC (.int 2)) (zA 5)) (eC (.int 1)))) (zC (zA 5) zI))) zI))) zI)))
  (ye (jS (eC (.int 2))) (ze 8)
  (sIf (tOr (qI cEq (zA 8) (eC (.int 0))) (qI cEq (eOp jK (zA 5) (eC (.int 2))) (eC (.int 1))))
  (zk (sIf (Zn (qm 5 jP (eOp zS (zA 2) (zA 8)) (zC (zA 6) (zC (eOp zS (zA 7) (zA 8)) zI))))
  (jg (eC (.bl false)))
  j5)
  (Z4 (eOp zS (zA 3) (zA 8)) (zA 6) (eOp zS (zA 7) (zA 8))))
  j5))))))))
noncomputable def Jm:SM :=
  (ye (jS (eC (.int 2))) (ze 9)
  (zk (ye (jS (eC (.int 2))) (ze 8)
  (sIf (QY (ZZ (zU qD (zC (eOp zS (zA 2) (zA 8)) (zC (eOp zS (zA 3) (zA 8)) (zC (zA 4) zI))))))
  (jg (eC (.bl false)))
  j5))
  (ye (iE (qh (qh (zU yx (zC (eOp zS (zA 3) (eC (.int 0))) zI)) (qN (eOp jK (zU jI (zC (zA 0) (zC (eC (.int 1)) zI))) (eC (.int 7)))) qO) qO (qN (eC (.int 1))))) (ze 6)
  (zk (qa (qm 5 jP (eOp zS (zA 2) (eC (.int 0))) (zC (zA 6) (zC (jv (zC (eC (.str [110,101,119])) zI)) zI))))
  (Z4 (eOp zS (zA 3) (eC (.int 0))) (zA 6) (jv (zC (eC (.str [110,101,119])) zI)))))))
noncomputable def zBM:SM :=
  (jg (eC (.bl true)))
noncomputable def zAp:SM:=(zk Qk (zk Qj (zk Qs (zk Qr (zk Jj (zk Jm zBM))))))
noncomputable def zCO:F:=fn 10 zAp
theorem zF9 {b:Int}{k t:D}{L:List (D×D)} (h:(L.length:Int)+1 <= b):laid b k t L=z6 k L++[(k,t)]:=by
 unfold laid
 rw[if_neg]
 have:(z6 k L).length <= L.length:=List.length_filter_le _ _
 simp
 omega
theorem MI.lay {L W:List (D×D)}{n:Nat} (h:MI L W n) {b:Int} (hb:(n:Int)+1 <= b) {k t:D} (kd:ql k) (t2:kyD 2 t=true) (tn:t≠.non):MI (laid b k t L) (qz k t W) (n+1):=by
 have zL:=h.zL
 have zW:=h.zW
 rw[zF9 (by omega)]
 have dl:(z6 k L).length <= L.length:=List.length_filter_le _ _
 refine⟨zBA h.nL,zAa h.nW,fun q hq=>?_,fun q hq=>?_,fun x=>by rw[zB4,zI2,h.eq],by simp;omega,?_⟩
 ·rcases List.mem_append.mp hq with z | z
  ·exact h.pL q (zCf.mp z).1
  ·rw[List.mem_singleton.mp z];exact⟨kd,t2,tn⟩
 ·rcases zIR hq with z | rfl
  ·exact h.pW q z
  ·exact⟨kd,t2,tn⟩
 ·unfold qz
  split
  ·rw[List.length_map];omega
  ·simp;omega
structure VI (B:Nat->Int) (s:M.S) (L W:Nat->List (D×D)) (Os:List D) (N:Nat->Nat) (z:Nat):Prop where
 sh:s[4]? = some (.lst [.ref 0,.ref 2])
 us:s[7]? = some (.lst [.ref 5,.ref 6])
 ot:s[8]? = some (.lst Os)
 ob:∀ a < 2,Shf s (2 * a) (1+2 * a) (B a) (L a)
 w:∀ a < 2,s[5+a]? = some (.dtt (W a))
 cl:clS s.length s=true
 bd:∀ a < 2,60 <= B a
 oe:∀ x∈Os,ql x
 oz:Os.length <= z
 mi:∀ a < 2,MI (L a) (W a) (N a)
section
variable {B:Nat->Int}{s:M.S}{L W:Nat->List (D×D)}{Os:List D}{N:Nat->Nat}{z:Nat}
theorem MI.mono {L W:List (D×D)}{n m:Nat} (h:MI L W n) (l:n <= m):MI L W m:=⟨h.nL,h.nW,h.pL,h.pW,h.eq,Nat.le_trans h.zL l,Nat.le_trans h.zW l⟩
theorem VI.mono (h:VI B s L W Os N z) {N':Nat->Nat} (l:∀ a < 2,N a <= N' a):VI B s L W Os N' z:=⟨h.sh,h.us,h.ot,h.ob,h.w,h.cl,h.bd,h.oe,h.oz,fun a ha=>(h.mi a ha).mono (l a ha)⟩
theorem VI.app (h:VI B s L W Os N z) {g:M.S} (hg:clS (s++g).length g=true):VI B (s++g) L W Os N z :=
 ⟨yk h.sh g,yk h.us g,yk h.ot g,fun a ha=>⟨yk (h.ob a ha).ob g,yk (h.ob a ha).di g⟩,fun a ha=>yk (h.w a ha) g,zJB h.cl hg,h.bd,h.oe,h.oz,h.mi⟩
theorem VI.setD (h:VI B s L W Os N z) {a:Nat} (ha:a < 2) {l w:List (D×D)}{m:Nat} (mi:MI l w m) :
  VI B ((s.set (1+2 * a) (.dtt l)).set (5+a) (.dtt w)) (fup L a l) (fup W a w) Os (fup N a m) z:=by
 have g:∀ {i:Nat}{o:O},i≠1+2 * a->i≠5+a->s[i]? = some o->((s.set (1+2 * a) (O.dtt l)).set (5+a) (.dtt w))[i]? = some o:=fun {i o} n1 n2 e=>by
  rw[List.getElem?_set_ne (Ne.symm n2),List.getElem?_set_ne (Ne.symm n1)];exact e
 refine⟨g (by omega) (by omega) h.sh,g (by omega) (by omega) h.us,g (by omega) (by omega) h.ot,fun c hc=>⟨g (by omega) (by omega) (h.ob c hc).ob,?_⟩,fun c hc=>?_,?_,h.bd,h.oe,h.oz,fun c hc=>?_⟩
 ·by_cases q:c=a
  ·subst q
   rw[yG,List.getElem?_set_ne (by omega)]
   exact Zg (h.ob c hc).di _
  ·rw[yF q]
   exact g (by omega) (by omega) (h.ob c hc).di
 ·by_cases q:c=a
  ·subst q
   rw[yG]
   exact Zg (o:=.dtt (W c)) (by rw[List.getElem?_set_ne (by omega)];exact h.w c hc) _
  ·rw[yF q]
   exact g (by omega) (by omega) (h.w c hc)
 ·have l2:((s.set (1+2 * a) (.dtt l)).set (5+a) (.dtt w)).length=s.length:=by simp
  rw[l2]
  exact yy (yy h.cl (mi.pL.cl _)) (mi.pW.cl _)
 ·by_cases q:c=a
  ·subst q
   rw[yG,yG,yG]
   exact mi
  ·rw[yF q,yF q,yF q]
   exact h.mi c hc
theorem VI.other (h:VI B s L W Os N z) {x:D} (kx:ql x):VI B (s.set 8 (.lst (Os++[x]))) L W (Os++[x]) N (z+1):=by
 have g:∀ {i:Nat}{o:O},i≠8->s[i]? = some o->(s.set 8 (O.lst (Os++[x])))[i]? = some o:=fun {i o} n e=>by rw[List.getElem?_set_ne (Ne.symm n)];exact e
 have oe:∀ y∈Os++[x],ql y:=fun y hy=>by
  rcases List.mem_append.mp hy with q | q
  ·exact h.oe y q
  ·rw[List.mem_singleton.mp q];exact kx
 refine⟨g (by omega) h.sh,g (by omega) h.us,Zg h.ot _,fun a ha=>⟨g (by omega) (h.ob a ha).ob,g (by omega) (h.ob a ha).di⟩,fun a ha=>g (by omega) (h.w a ha),?_,h.bd,oe,by have:=h.oz;simp;omega,h.mi⟩
 rw[List.length_set]
 exact yy h.cl (Qp _ oe)
theorem VI.shI (h:VI B s L W Os N z) {a:Nat} (ha:a < 2):zS (.ref 4) (.int a) s=.ok (.ref (2 * a)) s:=zDh (f:=fun a=>.ref (2 * a)) h.sh ha
theorem VI.usI (h:VI B s L W Os N z) {a:Nat} (ha:a < 2):zS (.ref 7) (.int a) s=.ok (.ref (5+a)) s:=zDh (f:=fun a=>.ref (5+a)) h.us ha
noncomputable abbrev lyS (eI eT:EM):SM:=Z4 (eOp zS (zA 3) eI) (zA 6) eT
theorem zEN (h:VI B s L W Os N z) {a:Nat} (ha:a < 2) (hn:N a <= 50) {σ:St}{eI eT:EM}{k t:D} (σ2:σ[2]? = some (some (.ref 4))) (σ3:σ[3]? = some (some (.ref 7))) (σ6:σ[6]? = some (some k)) (hI:∀ s',eI σ s'=.ok (.int a) s') (hT:eT σ s=.ok t s) (hT':∀ l,eT σ (s.set (1+2 * a) (.dtt l))=.ok t (s.set (1+2 * a) (.dtt l))) (kd:ql k) (t2:kyD 2 t=true) (tn:t≠.non) :
  ∃ s1 s' L' W',(qm 5 jP (eOp zS (zA 2) eI) (zC (zA 6) (zC eT zI))) σ s=.ok .non s1/\lyS eI eT σ s1=.nx σ s'/\VI B s' L' W' Os (fup N a (N a+1)) z/\∃ l w,s'=(s.set (1+2 * a) (.dtt l)).set (5+a) (.dtt w):=by
 have mi:=h.mi a ha
 have bd:=h.bd a ha
 have zL:=mi.zL
 have zW:=mi.zW
 have z1:(L a).length < SZ:=Nat.lt_of_lt_of_le (m:=2000) (by omega) (sz5 _ (Nat.le_refl _))
 have z2:(W a).length < SZ:=Nat.lt_of_lt_of_le (m:=2000) (by omega) (sz5 _ (Nat.le_refl _))
 have la:=zKp (h.ob a ha) h.cl kd.t (fun q hq=>(mi.pL q hq).1.t) mi.nL z1 (kd.cl _) (Zq _ t2)
 have kt:=kd.t
 refine⟨s.set (1+2 * a) (.dtt (laid (B a) k t (L a))),_,_,_,?_,?_,h.setD ha (mi.lay (b:=B a) (by omega) kd t2 tn),_,_,rfl⟩
 ·simp[-zS,σ2,σ6,hI,h.shI ha,(h.ob a ha).ob,hT,la]
 ·have us1:(s.set (1+2 * a) (.dtt (laid (B a) k t (L a))))[7]? = some (.lst [.ref 5,.ref 6]):=by rw[List.getElem?_set_ne (by omega)];exact h.us
  have w1:(s.set (1+2 * a) (.dtt (laid (B a) k t (L a))))[5+a]? = some (.dtt (W a)):=by rw[List.getElem?_set_ne (by omega)];exact h.w a ha
  have ui:=zDh (f:=fun a=>.ref (5+a)) us1 ha
  have ht:=hT' (laid (B a) k t (L a))
  simp[-zS,σ3,σ6,hI,ht,ui,w1,kt,z2]
theorem zA3 (h:VI B s L W Os N z) (hz:z <= 500) {σ:St}{e:EM}{x:D} (σ4:σ[4]? = some (some (.ref 8))) (he:e σ s=.ok x s) (kx:ql x):(qa (eM .list yp (zA 4) (zC e zI))) σ s=.nx σ (s.set 8 (.lst (Os++[x])))/\VI B (s.set 8 (.lst (Os++[x]))) L W (Os++[x]) N (z+1):=by
 refine⟨?_,h.other kx⟩
 have oz:Os.length < SZ:=Nat.lt_of_lt_of_le (m:=2000) (by have:=h.oz;omega) (sz5 _ (Nat.le_refl _))
 simp[σ4,h.ot,he,oz]
noncomputable abbrev sgW (ro:D) (rm:Int) (v5 v6 v7 v8 v9:Option D):St:=[some ro,some (.int rm),some (.ref 4),some (.ref 7),some (.ref 8),v5,v6,v7,v8,v9]
noncomputable abbrev thX:EM:=eOp zS (zA 7) (zA 8)
noncomputable abbrev inB:SM:=(sIf (tOr (qI cEq (zA 8) (eC (.int 0))) (qI cEq (eOp jK (zA 5) (eC (.int 2))) (eC (.int 1))))
  (zk (sIf (Zn (qm 5 jP (eOp zS (zA 2) (zA 8)) (zC (zA 6) (zC thX zI))))
  (jg (eC (.bl false)))
  j5)
  (lyS (zA 8) thX))
  j5)
theorem zD0 (h:VI B s L W Os N z) {a:Nat} (ha:a < 2) (hn:N a <= 50) (ro:D) (rm:Int) {j:Int}{k t0 t1:D}{g:Nat} (v9:Option D) (hg:s[g]? = some (.lst [t0,t1])) (g9:8 < g) (kd:ql k) (y0:kyD 2 t0=true/\t0≠.non) (y1:kyD 2 t1=true/\t1≠.non) :
  ∃ s' L' W',inB (sgW ro rm (some (.int j)) (some k) (some (.ref g)) (some (.int a)) v9) s=.nx (sgW ro rm (some (.int j)) (some k) (some (.ref g)) (some (.int a)) v9) s'/\VI B s' L' W' Os (fup N a (N a+1)) z/\s'[g]? = some (.lst [t0,t1]):=by
 obtain⟨t,ht,t2,tn⟩:∃ t,(∀ s':M.S,s'[g]? = some (.lst [t0,t1])->zS (.ref g) (.int a) s'=.ok t s')/\kyD 2 t=true/\t≠.non:=by
  rcases (show a=0\/a=1 by omega) with rfl | rfl
  ·exact⟨t0,fun s' e=>by simp[e,at0],y0⟩
  ·exact⟨t1,fun s' e=>by simp[e,at1],y1⟩
 have g1:∀ l,(s.set (1+2 * a) (.dtt l))[g]? = some (.lst [t0,t1]):=fun l=>by rw[List.getElem?_set_ne (by omega)];exact hg
 have tc:∃ c:Bool,(tOr (qI cEq (zA 8) (eC (.int 0))) (qI cEq (eOp jK (zA 5) (eC (.int 2))) (eC (.int 1)))) (sgW ro rm (some (.int j)) (some k) (some (.ref g)) (some (.int a)) v9) s=.ok c s:=by
  by_cases q:(a:Int)=0
  ·exact⟨true,by simp[q]⟩
  ·have q':¬ a=0:=by omega
   exact⟨decide (j % 2=1),by simp[q']⟩
 obtain⟨c,tc⟩:=tc
 unfold inB
 rw[zEV tc]
 cases c with
 | true =>
  obtain⟨s1,s',L',W',e1,e2,u,l,w,es⟩:=zEN h ha hn (σ:=sgW ro rm (some (.int j)) (some k) (some (.ref g)) (some (.int a)) v9) (eI:=zA 8) (eT:=thX) (t:=t) rfl rfl rfl (fun _=>rfl) (ht s hg) (fun l=>ht _ (g1 l)) kd t2 tn
  refine⟨s',L',W',?_,u,?_⟩
  ·rw[if_pos rfl]
   have t3:(Zn (qm 5 jP (eOp zS (zA 2) (zA 8)) (zC (zA 6) (zC thX zI)))) (sgW ro rm (some (.int j)) (some k) (some (.ref g)) (some (.int a)) v9) s=.ok false s1:=by
    show ((qm 5 jP (eOp zS (zA 2) (zA 8)) (zC (zA 6) (zC thX zI))) _ s).bind _=_
    rw[e1]
    rfl
   have s3:(sIf (Zn (qm 5 jP (eOp zS (zA 2) (zA 8)) (zC (zA 6) (zC thX zI)))) (jg (eC (.bl false))) j5) (sgW ro rm (some (.int j)) (some k) (some (.ref g)) (some (.int a)) v9) s=.nx (sgW ro rm (some (.int j)) (some k) (some (.ref g)) (some (.int a)) v9) s1:=by
    rw[zEV t3]
    rfl
   rw[jk s3]
   exact e2
  ·rw[es,List.getElem?_set_ne (by omega),List.getElem?_set_ne (by omega)]
   exact hg
 | false=>exact⟨s,L,W,rfl,h.mono fun c _=>by by_cases q:c=a<;>simp[fup,q],hg⟩
noncomputable abbrev B5:SM:=(zk (j6 6 (zU q9 (zC (eOp zS (zA 0) (eOp yZ (eC (.int 2)) (zA 5))) zI)))
  (zk (j6 7 (ZE (zC (zU qT (zC (eOp zS (zA 0) (eOp qE (eOp yZ (eC (.int 2)) (zA 5)) (eC (.int 1)))) zI)) (zC (jv (zC (eC (.str [111,116,104,101,114])) (zC (zA 5) zI))) zI))))
  (zk (qa (eM .list yp (zA 4) (zC (eOp jj (zA 6) (jv (zC (eC .non) zI))) zI)))
  (zk (qa (eM .list yp (zA 4) (zC (qh (zA 6) qO (qN (eUn zCQ (eC (.int 1))))) zI)))
  (zk (qa (eM .list yp (zA 4) (zC (zU qk (zC (zA 6) (zC (zU jW (zC (eOp zS (zA 0) (eOp qE (eOp yZ (eC (.int 2)) (zA 5)) (eC (.int 1)))) (zC (zA 5) zI))) zI))) zI)))
  (ye (jS (eC (.int 2))) (ze 8) inB))))))
theorem zLb {ns:List Int}{j:Nat} (h:VI B s L W Os (fun _=>j) z) (hj:2 * j+1 < ns.length) (jz:j <= 40) (hz:z <= 400) (rm:Int) (v6 v7 v8 v9:Option D) :
  ∃ s' L' W' Os' v6' v7' v8',B5 (sgW (.ro (ns.map .int)) rm (some (.int j)) v6 v7 v8 v9) s=.nx (sgW (.ro (ns.map .int)) rm (some (.int j)) v6' v7' v8' v9) s'/\VI B s' L' W' Os' (fun _=>j+1) (z+3):=by
 have i0:atI (ns.map D.int) (2 * (j:Int))=some (.int ns[2 * j]):=by
  have:=Zc (ns.map D.int) (2 * j) (.int ns[2 * j]) (by simp[show 2 * j < ns.length by omega])
  rwa [show ((2 * j:Nat):Int)=2 * (j:Int) by omega] at this
 have i1:atI (ns.map D.int) (2 * (j:Int)+1)=some (.int ns[2 * j+1]):=by
  have:=Zc (ns.map D.int) (2 * j+1) (.int ns[2 * j+1]) (by simp[hj])
  rwa [show ((2 * j+1:Nat):Int)=2 * (j:Int)+1 by omega] at this
 generalize ns[2 * j]=x at i0
 generalize ns[2 * j+1]=y at i1
 obtain⟨ds,ek,k4,kl,kw⟩:=zJT x
 obtain⟨es,en,n4,nl⟩:=zIc k4 kl kw (zAD y j)
 have kd:ql (.tup ds):=⟨ds,rfl,k4,by omega⟩
 have s2:qg 2=true:=by decide
 have z1:1 <= SZ:=sz5 _ (by omega)
 have z2:2 <= SZ:=sz5 _ (by omega)
 have hro:∀ s:M.S,zS (.ro (ns.map .int)) (.int (2 * (j:Int))) s=.ok (.int x) s:=fun s=>by simp[i0]
 have hro1:∀ s:M.S,zS (.ro (ns.map .int)) (.int (2 * (j:Int)+1)) s=.ok (.int y) s:=fun s=>by simp[i1]
 generalize D.ro (ns.map .int)=ro at *
 have e1:(zU q9 (zC (eOp zS (zA 0) (eOp yZ (eC (.int 2)) (zA 5))) zI)) (sgW ro rm (some (.int j)) v6 v7 v8 v9) s=.ok (.tup ds) s:=by
  simp[-zS,s2,hro,ek]
 have e2:(ZE (zC (zU qT (zC (eOp zS (zA 0) (eOp qE (eOp yZ (eC (.int 2)) (zA 5)) (eC (.int 1)))) zI)) (zC (jv (zC (eC (.str [111,116,104,101,114])) (zC (zA 5) zI))) zI))) (sgW ro rm (some (.int j)) (some (.tup ds)) v7 v8 v9) s=.ok (.ref s.length) (s++[.lst [Zu y,.tup [.str [111,116,104,101,114],.int j]]]):=by
  simp[-zS,s2,hro1,zGk,z2]
 have l8:8 < s.length:=(List.getElem?_eq_some_iff.mp h.ot).1
 have ty:=zC2 y
 have tn:=zGb y
 generalize Zu y=t0 at *
 obtain⟨t1,et⟩:∃ t1,t1=D.tup [.str [111,116,104,101,114],.int j]:=⟨_,rfl⟩
 have ty1:kyD 2 t1=true/\t1≠.non:=by rw[et];exact⟨rfl,by simp⟩
 rw[<- et] at e2
 have h1:=h.app (g:=[.lst [t0,t1]]) (by
  show (O.cl _ (.lst [t0,t1]) && true)=true
  rw[Bool.and_true]
  show (D.cl _ t0 && (D.cl _ t1 && true))=true
  rw[Zq _ ty,Zq _ ty1.1];rfl)
 have hg:(s++[O.lst [t0,t1]])[s.length]? = some (.lst [t0,t1]):=by simp
 obtain⟨S1,eS1⟩:∃ S1,S1=s++[O.lst [t0,t1]]:=⟨_,rfl⟩
 rw[<- eS1] at e2 h1 hg
 obtain⟨f1,u1⟩:=zA3 h1 (by omega) (σ:=sgW ro rm (some (.int j)) (some (.tup ds)) (some (.ref s.length)) v8 v9) (e:=eOp jj (zA 6) (jv (zC (eC .non) zI))) (x:=.tup (ds++[.non])) rfl (by
  have ad:=q8 (a:=ds) (b:=[.non]) (by simp;omega) S1
  simp[-jj,z1,ad]) ⟨_,rfl,by show (ds++[D.non]).all (kyD 3)=true;rw[List.all_append,show ds.all (kyD 3)=true from k4];rfl,by simp;omega⟩
 obtain⟨f2,u2⟩:=zA3 u1 (by omega) (σ:=sgW ro rm (some (.int j)) (some (.tup ds)) (some (.ref s.length)) v8 v9) (e:=qh (zA 6) qO (qN (eUn zCQ (eC (.int 1))))) (x:=.tup (cut ds none (some (-1)))) rfl (by simp) ⟨_,rfl,Z9 (n:=3) k4 _ _,Nat.le_trans (Qq _ _ _) (by omega)⟩
 obtain⟨f3,u3⟩:=zA3 u2 (by omega) (σ:=sgW ro rm (some (.int j)) (some (.tup ds)) (some (.ref s.length)) v8 v9) (e:=zU qk (zC (zA 6) (zC (zU jW (zC (eOp zS (zA 0) (eOp qE (eOp yZ (eC (.int 2)) (zA 5)) (eC (.int 1)))) (zC (zA 5) zI))) zI))) (x:=.tup es) rfl (by
  simp[-zS,s2,hro1,zAG,en]) ⟨_,rfl,n4,by omega⟩
 generalize hO:Os++[D.tup (ds++[.non])]++[D.tup (cut ds none (some (-1)))]++[D.tup es]=O3 at *
 generalize hS3:List.set (List.set (S1.set 8 (O.lst (Os++[D.tup (ds++[.non])]))) 8 (O.lst (Os++[D.tup (ds++[.non])]++[D.tup (cut ds none (some (-1)))]))) 8 (O.lst O3)=S3 at *
 have hg3:S3[s.length]? = some (.lst [t0,t1]):=by
  rw[<- hS3,List.getElem?_set_ne (by omega),List.getElem?_set_ne (by omega),List.getElem?_set_ne (by omega)]
  exact hg
 obtain⟨s4,L4,W4,e4,u4,g4⟩:=zD0 u3 (a:=0) (by omega) (by omega) ro rm (j:=j) v9 hg3 l8 kd ⟨ty,tn⟩ ty1
 obtain⟨s5,L5,W5,e5,u5,g5⟩:=zD0 u4 (a:=1) (by omega) (by rw[yF (by omega)];omega) ro rm (j:=j) v9 g4 l8 kd ⟨ty,tn⟩ ty1
 refine⟨s5,L5,W5,O3,some (.tup ds),some (.ref s.length),some (.int 1),?_,u5.mono fun a ha=>by
  rcases (show a=0\/a=1 by omega) with rfl | rfl<;>simp[fup]⟩
 unfold B5
 rw[zDB e1]
 show (zk (j6 7 _) _) (sgW ro rm (some (.int j)) (some (.tup ds)) v7 v8 v9) s=_
 rw[zDB e2]
 show (zk (qa _) _) (sgW ro rm (some (.int j)) (some (.tup ds)) (some (.ref s.length)) v8 v9) _=_
 rw[jk f1,jk f2,jk f3]
 have it:jS (eC (.int 2)) (sgW ro rm (some (.int j)) (some (.tup ds)) (some (.ref s.length)) v8 v9) S3=.ok ([.int 0,.int 1],[]) S3:=rfl
 refine Jc it rfl ?_
 have g1:jf (ze 8) inB (.int 0) (sgW ro rm (some (.int j)) (some (.tup ds)) (some (.ref s.length)) v8 v9) S3=.nx (sgW ro rm (some (.int j)) (some (.tup ds)) (some (.ref s.length)) (some (.int 0)) v9) s4:=e4
 have g2:jf (ze 8) inB (.int 1) (sgW ro rm (some (.int j)) (some (.tup ds)) (some (.ref s.length)) (some (.int 0)) v9) s4=.nx (sgW ro rm (some (.int j)) (some (.tup ds)) (some (.ref s.length)) (some (.int 1)) v9) s5:=e5
 unfold jX
 rw[g1]
 show jX [] (jf (ze 8) inB) [.int 1] _ s4=_
 unfold jX
 rw[g2]
 rfl
end
theorem zK3 {ns:List Int}{B:Nat->Int} (rm:Int) (v9:Option D):∀ (c i:Nat) (s:M.S) (L W:Nat->List (D×D)) (Os:List D) (v5 v6 v7 v8:Option D),2 * (i+c) <= ns.length->i+c <= 31->VI B s L W Os (fun _=>i) (8+3 * i) ->
  ∃ s' L' W' Os' v5' v6' v7' v8',jX [] (jf (ze 5) B5) ((List.range' i c).map fun j:Nat=>.int (0+j)) (sgW (.ro (ns.map .int)) rm v5 v6 v7 v8 v9) s=.nx (sgW (.ro (ns.map .int)) rm v5' v6' v7' v8' v9) s'/\VI B s' L' W' Os' (fun _=>31) 200:=by
 intro c
 induction c with
 | zero =>
  intro i s L W Os v5 v6 v7 v8 _ hi h
  have h':VI B s L W Os (fun _=>i) 200:=⟨h.sh,h.us,h.ot,h.ob,h.w,h.cl,h.bd,h.oe,by have:=h.oz;omega,h.mi⟩
  exact⟨s,L,W,Os,v5,v6,v7,v8,rfl,h'.mono fun _ _=>by omega⟩
 | succ c ih =>
  intro i s L W Os v5 v6 v7 v8 hn hi h
  obtain⟨s1,L1,W1,O1,w6,w7,w8,e1,h1⟩:=zLb (ns:=ns) h (by omega) (by omega) (by omega) rm v6 v7 v8 v9
  obtain⟨s2,L2,W2,O2,x5,x6,x7,x8,e2,h2⟩:=ih (i+1) s1 L1 W1 O1 (some (.int i)) w6 w7 w8 (by omega) (by omega) h1
  refine⟨s2,L2,W2,O2,x5,x6,x7,x8,?_,h2⟩
  have f:jf (ze 5) B5 (.int (0+(i:Int))) (sgW (.ro (ns.map .int)) rm v5 v6 v7 v8 v9) s=.nx (sgW (.ro (ns.map .int)) rm (some (.int i)) w6 w7 w8 v9) s1:=by
   rw[Int.zero_add]
   exact e1
  rw[List.range'_succ,List.map_cons]
  unfold jX
  rw[f]
  exact e2
section
variable {B:Nat->Int}{s:M.S}{L W:Nat->List (D×D)}{Os:List D}{N:Nat->Nat}{z:Nat}
theorem zDc {α:Type} (f:Nat->α) (a:Nat):fup f a (f a)=f:=by funext c;by_cases q:c=a<;>simp[fup,q]
theorem VI.setL (h:VI B s L W Os N z) {a:Nat} (ha:a < 2) {l:List (D×D)} (mi:MI l (W a) (N a)):VI B (s.set (1+2 * a) (.dtt l)) (fup L a l) W Os N z:=by
 have:=h.setD ha mi
 rw[zDc,zDc,QS (show (s.set (1+2 * a) (O.dtt l))[5+a]? = some (.dtt (W a)) by rw[List.getElem?_set_ne (by omega)];exact h.w a ha)] at this
 exact this
noncomputable abbrev kpS:SM:=sIf (QY (ZZ (zU qD (zC (eOp zS (zA 2) (zA 8)) (zC (eOp zS (zA 3) (zA 8)) (zC (zA 4) zI)))))) (jg (eC (.bl false))) j5
theorem zBt (h:VI B s L W Os N z) {a:Nat} (ha:a < 2) (hn:N a <= 1000) (ro:D) (rm:Int) (v5 v6 v7 v9:Option D) :
  ∃ s' L',kpS (sgW ro rm v5 v6 v7 (some (.int a)) v9) s=.nx (sgW ro rm v5 v6 v7 (some (.int a)) v9) s'/\VI B s' L' W Os N z:=by
 obtain⟨L',e,mi⟩:=zIE (h.ob a ha) (h.w a ha) (by omega) h.ot h.cl (h.mi a ha) hn h.oe
 refine⟨_,_,?_,h.setL ha mi⟩
 have tc:(QY (ZZ (zU qD (zC (eOp zS (zA 2) (zA 8)) (zC (eOp zS (zA 3) (zA 8)) (zC (zA 4) zI)))))) (sgW ro rm v5 v6 v7 (some (.int a)) v9) s=.ok false (s.set (1+2 * a) (.dtt L')):=by
  have le:(zU qD (zC (eOp zS (zA 2) (zA 8)) (zC (eOp zS (zA 3) (zA 8)) (zC (zA 4) zI)))) (sgW ro rm v5 v6 v7 (some (.int a)) v9) s=.ok (.bl true) (s.set (1+2 * a) (.dtt L')):=by
   simp[-zS,h.shI ha,h.usI ha]
   exact e
  show ((zU qD _ _ _).bind _).bind _=_
  rw[le]
  rfl
 unfold kpS
 rw[zEV tc]
 rfl
noncomputable abbrev nwT:EM:=jv (zC (eC (.str [110,101,119])) zI)
noncomputable abbrev nwB:SM:=zk (qa (qm 5 jP (eOp zS (zA 2) (eC (.int 0))) (zC (zA 6) (zC nwT zI)))) (lyS (eC (.int 0)) nwT)
theorem zHU {g:Nat}{G:List D} (g9:8 < g) (ro:D) (rm:Int) (v5 v7 v8 v9:Option D):∀ (xs:List D) (s:M.S) (L W:Nat->List (D×D)) (N:Nat->Nat) (v6:Option D),(∀ x∈xs,ql x)->VI B s L W Os N z->s[g]? = some (.lst G)->N 0+xs.length <= 50 ->
  ∃ s' L' W' v6',jX [(g,.lst G)] (jf (ze 6) nwB) xs (sgW ro rm v5 v6 v7 v8 v9) s=.nx (sgW ro rm v5 v6' v7 v8 v9) s'/\VI B s' L' W' Os (fup N 0 (N 0+xs.length)) z:=by
 intro xs
 induction xs with
 | nil=>intro s L W N v6 _ h _ _;exact⟨s,L,W,v6,rfl,by rw[show N 0+([]:List D).length=N 0 from rfl,zDc];exact h⟩
 | cons x xs ih =>
  intro s L W N v6 hx h hg hn
  rw[List.length_cons] at hn
  have z1:1 <= SZ:=sz5 _ (by omega)
  have ht:∀ s':M.S,nwT (sgW ro rm v5 (some x) v7 v8 v9) s'=.ok (.tup [.str [110,101,119]]) s':=fun s'=>by simp[z1]
  obtain⟨s1,s',L',W',e1,e2,u,l,w,es⟩:=zEN h (a:=0) (by omega) (by omega) (σ:=sgW ro rm v5 (some x) v7 v8 v9) (eI:=eC (.int 0)) (eT:=nwT) (t:=.tup [.str [110,101,119]]) rfl rfl rfl (fun _=>rfl) (ht s) (fun l=>ht _) (hx x List.mem_cons_self) rfl (by simp)
  have hg':s'[g]? = some (.lst G):=by rw[es,List.getElem?_set_ne (by omega),List.getElem?_set_ne (by omega)];exact hg
  obtain⟨s2,L2,W2,x6,e3,u2⟩:=ih s' L' W' _ (some x) (fun y hy=>hx y (List.mem_cons_of_mem _ hy)) u hg' (by rw[yG];omega)
  refine⟨s2,L2,W2,x6,?_,u2.mono fun c _=>?_⟩
  ·have s1':(qa (qm 5 jP (eOp zS (zA 2) (eC (.int 0))) (zC (zA 6) (zC nwT zI)))) (sgW ro rm v5 (some x) v7 v8 v9) s=.nx (sgW ro rm v5 (some x) v7 v8 v9) s1:=by
    show ((qm 5 jP _ _ _ _).stm _ _)=_
    rw[e1]
    rfl
   have f:jf (ze 6) nwB x (sgW ro rm v5 v6 v7 v8 v9) s=.nx (sgW ro rm v5 (some x) v7 v8 v9) s':=by
    show nwB (sgW ro rm v5 (some x) v7 v8 v9) s=_
    unfold nwB
    rw[jk s1']
    exact e2
   have gd:zm [(g,O.lst G)] s'=true:=by simp[zm,hg']
   unfold jX
   rw[f]
   show (if zm _ _=true then _ else _)=_
   rw[if_pos gd]
   exact e3
  ·by_cases q:c=0
   ·subst q;rw[yG,yG,yG,List.length_cons];omega
   ·rw[yF q,yF q,yF q];exact Nat.le_refl _
noncomputable abbrev nwI:IM:=iE (qh (qh (zU yx (zC (eOp zS (zA 3) (eC (.int 0))) zI)) (qN (eOp jK (zU jI (zC (zA 0) (zC (eC (.int 1)) zI))) (eC (.int 7)))) qO) qO (qN (eC (.int 1))))
noncomputable abbrev B6:SM:=zk (ye (jS (eC (.int 2))) (ze 8) kpS) (ye nwI (ze 6) nwB)
theorem zHp (h:VI B s L W Os N z) (h0:N 0 <= 40) (h1:N 1 <= 40) {ro:D}{c1:Int} (cq1:∀ s:M.S,jI [ro,.int 1] s=.ok (.int c1) s) (rm:Int) (v5 v6 v7 v8 v9:Option D) :
  ∃ s' L' W' v6' v8',B6 (sgW ro rm v5 v6 v7 v8 v9) s=.nx (sgW ro rm v5 v6' v7 v8' v9) s'/\VI B s' L' W' Os (fup N 0 (N 0+1)) z:=by
 obtain⟨s1,L1,e1,u1⟩:=zBt h (a:=0) (by omega) (by omega) ro rm v5 v6 v7 v9
 obtain⟨s2,L2,e2,u2⟩:=zBt u1 (a:=1) (by omega) (by omega) ro rm v5 v6 v7 v9
 have f6:(ye (jS (eC (.int 2))) (ze 8) kpS) (sgW ro rm v5 v6 v7 v8 v9) s=.nx (sgW ro rm v5 v6 v7 (some (.int 1)) v9) s2:=by
  have it:jS (eC (.int 2)) (sgW ro rm v5 v6 v7 v8 v9) s=.ok ([.int 0,.int 1],[]) s:=rfl
  refine Jc it rfl ?_
  have g1:jf (ze 8) kpS (.int 0) (sgW ro rm v5 v6 v7 v8 v9) s=.nx (sgW ro rm v5 v6 v7 (some (.int 0)) v9) s1:=e1
  have g2:jf (ze 8) kpS (.int 1) (sgW ro rm v5 v6 v7 (some (.int 0)) v9) s1=.nx (sgW ro rm v5 v6 v7 (some (.int 1)) v9) s2:=e2
  unfold jX
  rw[g1]
  show jX [] (jf (ze 8) kpS) [.int 1] _ s1=_
  unfold jX
  rw[g2]
  rfl
 have w0:=u2.w 0 (by omega)
 have kW:∀ x∈ky (W 0),ql x:=fun x hx=>by obtain⟨q,hq,rfl⟩:=List.mem_map.mp hx;exact ((u2.mi 0 (by omega)).pW q hq).1
 obtain⟨K1,eK1⟩:∃ K1,K1=cut (ky (W 0)) (some (c1 % 7)) none:=⟨_,rfl⟩
 obtain⟨K2,eK2⟩:∃ K2,K2=cut K1 none (some 1):=⟨_,rfl⟩
 have k1:∀ x∈K1,ql x:=fun x hx=>kW x (by rw[eK1] at hx;exact List.mem_of_mem_drop (List.mem_of_mem_take hx))
 have k2:∀ x∈K2,ql x:=fun x hx=>k1 x (by rw[eK2] at hx;exact List.mem_of_mem_drop (List.mem_of_mem_take hx))
 have l2:K2.length <= 1:=by
  rw[eK2,zJ1 _ (by omega)]
  exact List.length_take_le _ _
 have l8:8 < s2.length:=(List.getElem?_eq_some_iff.mp u2.ot).1
 have u3:=u2.app (g:=[.lst (ky (W 0)),.lst K1,.lst K2]) (by
  show (O.cl _ (.lst (ky (W 0))) && (O.cl _ (.lst K1) && (O.cl _ (.lst K2) && true)))=true
  rw[show ∀ n,O.cl n (.lst (ky (W 0)))=true from fun n=>Qp n kW,show ∀ n,O.cl n (.lst K1)=true from fun n=>Qp n k1,show ∀ n,O.cl n (.lst K2)=true from fun n=>Qp n k2]
  rfl)
 have hg:(s2++[O.lst (ky (W 0)),.lst K1,.lst K2])[s2.length+2]? = some (.lst K2):=by rw[List.getElem?_append_right (by omega)];simp
 obtain⟨s4,L4,W4,x6,e4,u4⟩:=zHU (g:=s2.length+2) (G:=K2) (by omega) ro rm v5 v7 (some (.int 1)) v9 K2 _ _ _ _ v6 k2 u3 hg (by omega)
 refine⟨s4,L4,W4,x6,some (.int 1),?_,u4.mono fun c _=>?_⟩
 ·have gi:=u2.usI (a:=0) (by omega)
  have gi':zS (.ref 7) (.int 0) s2=.ok (.ref 5) s2:=gi
  have w0':s2[5]? = some (.dtt (W 0)):=w0
  have q1:(s2++[O.lst (ky (W 0))])[s2.length]? = some (.lst (ky (W 0))):=by simp
  have q2:(s2++[O.lst (ky (W 0)),.lst K1])[s2.length+1]? = some (.lst K1):=by rw[List.getElem?_append_right (by omega)];simp
  have it:nwI (sgW ro rm v5 v6 v7 (some (.int 1)) v9) s2=.ok (K2,[(s2.length+2,.lst K2)]) (s2++[.lst (ky (W 0)),.lst K1,.lst K2]):=by
   have la:(zU yx (zC (eOp zS (zA 3) (eC (.int 0))) zI)) (sgW ro rm v5 v6 v7 (some (.int 1)) v9) s2=.ok (.ref s2.length) (s2++[.lst (ky (W 0))]):=by
    simp[-zS,gi',w0']
   have lb:(qh (zU yx (zC (eOp zS (zA 3) (eC (.int 0))) zI)) (qN (eOp jK (zU jI (zC (zA 0) (zC (eC (.int 1)) zI))) (eC (.int 7)))) qO) (sgW ro rm v5 v6 v7 (some (.int 1)) v9) s2=.ok (.ref (s2.length+1)) (s2++[.lst (ky (W 0)),.lst K1]):=by
    rw[eK1]
    show ((zU yx _ _ _).bind _)=_
    rw[la]
    simp[cq1,q1]
   show ((qh (qh _ _ _) _ _ _ _).bind itD)=_
   show (((qh (zU yx (zC (eOp zS (zA 3) (eC (.int 0))) zI)) (qN (eOp jK (zU jI (zC (zA 0) (zC (eC (.int 1)) zI))) (eC (.int 7)))) qO) (sgW ro rm v5 v6 v7 (some (.int 1)) v9) s2).bind _).bind itD=_
   rw[lb]
   simp[q2,<- eK2,hg]
  unfold B6
  rw[jk f6]
  have gd:zm [(s2.length+2,O.lst K2)] (s2++[.lst (ky (W 0)),.lst K1,.lst K2])=true:=by simp[zm,hg]
  unfold ye
  rw[it]
  show (if zm _ _=true then _ else _)=_
  rw[if_pos gd]
  exact e4
 ·by_cases q:c=0
  ·subst q;rw[yG,yG];omega
  ·rw[yF q,yF q];exact Nat.le_refl _
end
noncomputable abbrev stV (b0:Int) (Os:List D):M.S:=[.ins 5 [some (.int b0),some (.ref 1)],.dtt [],.ins 5 [some (.int 60),some (.ref 3)],.dtt [],.lst [.ref 0,.ref 2],.dtt [],.dtt [],.lst [.ref 5,.ref 6],.lst Os]
noncomputable abbrev Q9:List D:=[.tup [],.tup [.str []],.tup [.non],.tup [.int 0],.tup [.str [48]],.tup [.tup []],.tup [.str [97],.str [98]],.tup [.str [97,98]]]
theorem zHo:∀ x∈Q9,ql x:=fun x hx=>by
 simp only[Q9,List.mem_cons,List.not_mem_nil,or_false] at hx
 rcases hx with rfl | rfl | rfl | rfl | rfl | rfl | rfl | rfl<;>exact⟨_,rfl,rfl,by simp⟩
theorem zLo {b0:Int} (h0:60 <= b0):VI (two b0 60) (stV b0 Q9) (fun _=>[]) (fun _=>[]) Q9 (fun _=>0) 8:=by
 have m0:MI [] [] 0:=⟨List.nodup_nil,List.nodup_nil,fun _ h=>(nomatch h),fun _ h=>(nomatch h),fun _=>rfl,Nat.le_refl _,Nat.le_refl _⟩
 refine⟨rfl,rfl,rfl,zBe ⟨rfl,rfl⟩ ⟨rfl,rfl⟩,zBe rfl rfl,?_,zBe h0 (Int.le_refl _),zHo,Nat.le_refl _,fun _ _=>m0⟩
 have c1:O.cl 9 (.lst Q9)=true:=Qp _ zHo
 simp[clS]
 simp[O.cl,D.cl,D.cl.all]
theorem zGq (ns:List Int) (hl:ns.length <= 63):∃ s,zCO [.ro (ns.map .int)] []=.ok (.bl true) s:=by
 have cq:∀ (k:Nat) (s:M.S),jI [.ro (ns.map .int),.int k] s=.ok (.int (ns.getD k 0)) s:=fun k s=>by
  have:JA (ns.map .int) (k:Int)=.int (ns.getD k 0):=by
   unfold JA
   rw[Int.toNat_natCast,List.getD_eq_getElem?_getD,List.getD_eq_getElem?_getD,List.getElem?_map]
   cases ns[k]?<;>rfl
  simp[jI,this]
 have cq0:∀ s:M.S,jI [.ro (ns.map .int),.int 0] s=.ok (.int (ns.getD 0 0)) s:=cq 0
 have cq1:∀ s:M.S,jI [.ro (ns.map .int),.int 1] s=.ok (.int (ns.getD 1 0)) s:=cq 1
 generalize ns.getD 0 0=c at cq0
 generalize ns.getD 1 0=c1 at cq1
 obtain⟨b,eb⟩:∃ b,b=60+c % 941:=⟨_,rfl⟩
 have b0:60 <= b:=by omega
 have b1:b <= 1000:=by omega
 have z2:2 <= SZ:=sz5 _ (by omega)
 have z1:1 <= SZ:=sz5 _ (by omega)
 have z8:8 <= SZ:=sz5 _ (by omega)
 have sh1:=zAW (b:=b) (by omega) (by omega) (S:=[.ins 5 [none,none]]) (p:=0) rfl
 have sh2:=zAW (b:=60) (by omega) (by omega) (S:=[.ins 5 [some (.int b),some (.ref 1)],.dtt [],.ins 5 [none,none]]) (p:=2) rfl
 have a1:Qk [some (.ro (ns.map .int)),none,none,none,none,none,none,none,none,none] []=.nx [some (.ro (ns.map .int)),some (.int b),none,none,none,none,none,none,none,none] []:=by
  rw[eb]
  simp[Qk,cq0]
 have a2:Qj [some (.ro (ns.map .int)),some (.int b),none,none,none,none,none,none,none,none] []=.nx [some (.ro (ns.map .int)),some (.int b),some (.ref 4),none,none,none,none,none,none,none] [.ins 5 [some (.int b),some (.ref 1)],.dtt [],.ins 5 [some (.int 60),some (.ref 3)],.dtt [],.lst [.ref 0,.ref 2]]:=by
  simp[Qj] at sh1 sh2 ⊢
  simp[sh1,sh2,z2]
 have a3:(zk Qs Qr) [some (.ro (ns.map .int)),some (.int b),some (.ref 4),none,none,none,none,none,none,none] [.ins 5 [some (.int b),some (.ref 1)],.dtt [],.ins 5 [some (.int 60),some (.ref 3)],.dtt [],.lst [.ref 0,.ref 2]]=.nx (sgW (.ro (ns.map .int)) b none none none none none) (stV b Q9):=by
  simp[Qs,Qr,z1,z2,z8]
 obtain⟨m,em⟩:∃ m:Nat,m=min (ns.length / 2) 31:=⟨_,rfl⟩
 obtain⟨s1,L1,W1,O1,w5,w6,w7,w8,e5,h5⟩:=zK3 (ns:=ns) b none m 0 _ _ _ _ none none none none (by omega) (by omega) (zLo b0)
 have f5:Jj (sgW (.ro (ns.map .int)) b none none none none none) (stV b Q9)=.nx (sgW (.ro (ns.map .int)) b w5 w6 w7 w8 none) s1:=by
  have it:jS (zU zCR (zC (eOp j7 (zU ZP (zC (zA 0) zI)) (eC (.int 2))) (zC (eC (.int 31)) zI))) (sgW (.ro (ns.map .int)) b none none none none none) (stV b Q9)=.ok ((List.range' 0 m).map fun j:Nat=>.int (0+j),[]) (stV b Q9):=by
   have r:jq 0 (m:Int)=(List.range' 0 m).map fun j:Nat=>.int (0+j):=by
    unfold jq
    rw[Int.sub_zero,Int.toNat_natCast,List.range_eq_range']
   have mi:(if (31:Int) < (ns.length:Int) / 2 then (31:Int) else (ns.length:Int) / 2)=(m:Int):=by
    split<;>omega
   have ml:(m:Int).natAbs < 4611686018427387904:=by omega
   rw[<- r]
   simp[mi]
   omega
  exact Jc it rfl e5
 obtain⟨s2,L2,W2,x6,x8,e6,h6⟩:=zHp h5 (by omega) (by omega) cq1 b w5 w6 w7 w8 (some (.int 0))
 obtain⟨s3,L3,W3,y6,y8,e7,h7⟩:=zHp h6 (by rw[yG];omega) (by rw[yF (by omega)];omega) cq1 b w5 x6 w7 x8 (some (.int 1))
 have f6:Jm (sgW (.ro (ns.map .int)) b w5 w6 w7 w8 none) s1=.nx (sgW (.ro (ns.map .int)) b w5 y6 w7 y8 (some (.int 1))) s3:=by
  have it:jS (eC (.int 2)) (sgW (.ro (ns.map .int)) b w5 w6 w7 w8 none) s1=.ok ([.int 0,.int 1],[]) s1:=rfl
  refine Jc it rfl ?_
  have g1:jf (ze 9) B6 (.int 0) (sgW (.ro (ns.map .int)) b w5 w6 w7 w8 none) s1=.nx (sgW (.ro (ns.map .int)) b w5 x6 w7 x8 (some (.int 0))) s2:=e6
  have g2:jf (ze 9) B6 (.int 1) (sgW (.ro (ns.map .int)) b w5 x6 w7 x8 (some (.int 0))) s2=.nx (sgW (.ro (ns.map .int)) b w5 y6 w7 y8 (some (.int 1))) s3:=e7
  unfold jX
  rw[g1]
  show jX [] (jf (ze 9) B6) [.int 1] _ s2=_
  unfold jX
  rw[g2]
  rfl
 refine⟨s3,?_⟩
 have:zCO [.ro (ns.map .int)] []=(zAp [some (.ro (ns.map .int)),none,none,none,none,none,none,none,none,none] []).out:=rfl
 rw[this]
 unfold zAp
 rw[jk a1,jk a2,zFw,jk a3,jk f5,jk f6]
 rfl
end
end M
namespace My
open PySem L2 PyProof.Rows
noncomputable def top (i:Nat):Stmt:=PySem.Challenge.pw_thingyard_k51_keys_apart.main.body.getD i (.Pass ⟨0,0,0,0⟩)
theorem vv {X:Cx}{Θ:Tab}{pos:Pos}{x:Str} (i:Nat) (h1:X.N[i]? = some x:=by rfl) (h2:Vis X.env.scope x:=by exact Or.inl (by kernel_rfl)) (h3:(x == ("__debug__" : Str))=false:=by kernel_rfl) (h4:(x == ("__classdict__" : Str))=false:=by kernel_rfl):WE X Θ (.Name x pos) (M.zA i):=zCs i h1 h2 h3 h4
theorem vc {X:Cx}{Θ:Tab}{pos:Pos}{x:Str} (i:Nat) (h1:X.N[i]? = some x:=by rfl) (h2:Vis X.env.scope x:=by exact Or.inr (Or.inl (by kernel_rfl))) (h3:(x == ("__debug__" : Str))=false:=by kernel_rfl) (h4:(x == ("__classdict__" : Str))=false:=by kernel_rfl):WE X Θ (.Name x pos) (M.zA i):=zCs i h1 h2 h3 h4
theorem zz {X:Cx}{Θ:Tab}{pos:Pos}{y:M.T}{x:Str}{j:Nat} (h:x=ofT y:=by decide +kernel) (ok:okT y:=by decide +kernel):WE X Θ (.Constant (.str x) j pos) (M.eC (.str y)):=zGs h ok
theorem gk {X:Cx}{x:Str} (h:X.env.kindOf x=some .globalImplicit:=by kernel_rfl):Gl X x:=h
noncomputable abbrev cX (P:Program) (w:World) (K:PySem.W.Frag) (mg:Str->Option Value) (base:Heap) (N:List Str) (n:Str) (st:Stmt) (f:Addr) (cdv:Value) (A:Around) (outer:List Env) (s:Shared) (H:Hp) (E:XK):Cx:=(QG CX0 P w K mg base N n (zQ st) f cdv A outer s H E).nox
noncomputable abbrev RM (k:Nat) (n:Str) (st:Stmt) (A:Around) (s:Shared) (f:Addr) (cdv:Value):Prop:=zy k (A.deeper (envOfC n (zQ st) s.heap.objs.size f cdv))
noncomputable abbrev bd (st:Stmt) (j:Nat):Stmt:=(jN st).getD j (.Pass ⟨0,0,0,0⟩)
noncomputable def zCL (K:PySem.W.Frag):Sp:=fun vs H Q E=>∀ Θ:Tab,SpM K Θ 1 M.zCO vs H Q E
theorem zGd {K:PySem.W.Frag}{H:Hp}{a:Addr}{ns:List Int}{E:XK} (hl:ns.length <= 63) (hO:zDP H) (hS:SqL K H a (ns.map V.int)):zCL K [.ref a] H (fun v _=>v=.bl true) E:=fun _=>zJv M.zGq hl hO hS
noncomputable def Θ1 (w:World) (zD:Addr):Tab:=⟨fun c=>if c=5 then some (zD,["bound","kept"]) else none,haD w 7⟩
section
variable (P:Program) (w:World) (K:PySem.W.Frag) (mg:Str->Option Value) (base:Heap) (zD:Addr)
noncomputable abbrev zAm:Prop:=Has P w K mg base "is_bound" 1 ["thing"] (SpM K (Θ1 w zD) 1 M.ZQ)
noncomputable abbrev ZF:Prop:=zGn P w K mg base zD "Shelf" 2 ["self","bound"] (SpM K (Θ1 w zD) 2 M.q0)
noncomputable abbrev jE:Prop:=Has P w K mg base "_law_mixed" 1 ["_law_cell_here","_law_k"] (SpM K (Θ1 w zD) 2 M.jW)
noncomputable abbrev J5:Prop:=Has P w K mg base "_law_part" 4 ["_law_cell_here","_law_deep"] (SpM K (Θ1 w zD) 2 M.Zl)
noncomputable abbrev JE:Prop:=Has P w K mg base "_law_key" 5 ["_law_cell_here"] (SpM K (Θ1 w zD) 1 M.q9)
noncomputable abbrev Zj:Prop:=Has P w K mg base "_law_cell" 1 ["_law_script","_law_k"] (SpM K (Θ1 w zD) 2 M.jI)
noncomputable abbrev QL:Prop:=Has P w K mg base "_law_thing" 1 ["_law_cell_here"] (SpM K (Θ1 w zD) 1 M.qT)
noncomputable abbrev Qg:Prop:=Has P w K mg base "_law_near" 1 ["_law_key_here","_law_cell_here"] (SpM K (Θ1 w zD) 2 M.qk)
noncomputable abbrev Zs:Prop:=zEi P w K mg base zD "lay" 1 ["self","key","thing"] (SpM K (Θ1 w zD) 3 M.jP)
noncomputable abbrev JQ:Prop:=zEi P w K mg base zD "look" 1 ["self","key"] (SpM K (Θ1 w zD) 2 M.jZ)
noncomputable abbrev Qf:Prop:=Has P w K mg base "_law_kept" 2 ["_law_shelf","_law_due","_law_others"] (SpM K (Θ1 w zD) 3 M.qD)
end
variable {P:Program}{w:World}{K:PySem.W.Frag}{mg:Str->Option Value}{base:Heap}{f:Addr}{fd:FuncData}{cdv:Value}{A:Around}{outer:List Env}{s:Shared}{H:Hp}{E:XK}{zD:Addr}
noncomputable abbrev qL (w:World) (K:PySem.W.Frag) (zD:Addr):Prop:=Zz K (Θ1 w zD) 5 zD ["bound","kept"]
noncomputable abbrev yt:Stmt:=top 6
noncomputable abbrev zEa:List Str:=["thing"]
theorem zDv:jb zEa ["thing"] (zQ yt):=⟨rfl,rfl,rfl,by decide +kernel,rfl,by decide +kernel,by decide +kernel⟩
theorem zDk (F:Fun K "is_bound" "is_bound" yt f fd) (jQ:mg "isinstance" = none) (Q1:mg "bool" = none) (zFC:mg "int" = none) (Qi:zCg mg "MOST_KEYS" (.int 1000)) :
  jc P w K mg base CX0 1 f fd ["thing"] (SpM K (Θ1 w zD) 1 M.ZQ):=by
 refine yW (b:=M.Z1) F zDv M.zDp fun cdv A outer s H E hr=>?_
 unfold M.Z1
 exact (zM (ja (Zb (Jl (JB (ZG (jx JF zAq gk jQ ZD (zB (vv 0) (zB (Ji .int gk zFC zKU) zH))))) (Qb (ZG (jx JF zAq gk jQ ZD (zB (vv 0) (zB (Ji .bool gk Q1 zEM) zH)))))))
  (zT (jA ZY))
  jG)
  (zT (jA (zEn zJR zJR zHc zHc zF (vv 0) (zEW Qi gk (fun _ _=>rfl))))))
noncomputable abbrev qB:Stmt:=zBU (top 7) 0
noncomputable abbrev QA:List Str:=["self","bound"]
theorem Jy:jb QA ["self","bound"] (zQ qB):=⟨rfl,rfl,rfl,by decide +kernel,rfl,by decide +kernel,by decide +kernel⟩
theorem Jx (F:Fun K "__init__" "Shelf.__init__" qB f fd) (zj:qL w K zD) (JI:zAm P w K mg base zD) :
  jc P w K mg base CX0 2 f fd ["self","bound"] (SpM K (Θ1 w zD) 2 M.q0):=by
 refine zCZ (N:=QA) (b:=M.qx) F Jy fun cdv A outer s H E hr=>?_
 unfold M.qx
 exact (zM (ja (JB (ZG (jm JI hr (by decide) gk (zB (vv 1) zH) (zw j0))))
  (zT zDy)
  jG)
  (zM (zCi (i:=0) zj rfl (vv 0) (vv 1))
  (zT (zCi (i:=1) zj rfl (vv 0) (JD rfl)))))
noncomputable abbrev qv:Stmt:=top 10
noncomputable abbrev zDF:List Str:=["_law_cell_here","_law_k"]
theorem zCA:jb zDF ["_law_cell_here","_law_k"] (zQ qv):=⟨rfl,rfl,rfl,by decide +kernel,rfl,by decide +kernel,by decide +kernel⟩
theorem zCH (F:Fun K "_law_mixed" "_law_mixed" qv f fd) :
  jc P w K mg base CX0 1 f fd ["_law_cell_here","_law_k"] (SpM K (Θ1 w zD) 2 M.jW):=by
 refine yW (b:=M.ZV) F zCA M.zCG fun cdv A outer s H E hr=>?_
 unfold M.ZV
 exact (zT (jA (zK j8 je (zK QI QH (zK (OpR.or jy jM) qd (vv 0) (zK QI QH zF (vv 1))) zF) zF)))
noncomputable abbrev zO:Stmt:=top 11
noncomputable abbrev ji:List Str:=["_law_cell_here","_law_deep","_law_way","_law_number","_law_size","_law_at"]
theorem qu:jb ji ["_law_cell_here","_law_deep"] (zQ zO):=⟨rfl,rfl,rfl,by decide +kernel,rfl,by decide +kernel,by decide +kernel⟩
theorem zBa:(["_law_cell_here","_law_deep","_law_way","_law_number","_law_size","_law_at","_law_j"]:List Str).Nodup:=by decide +kernel
theorem zA9:(["_law_cell_here","_law_deep","_law_way","_law_number","_law_size","_law_at","_law_j"]:List Str).Nodup:=by decide +kernel
theorem zBP {kr:Nat} (zd:Has P w K mg base "_law_part" (1+kr) ["_law_cell_here","_law_deep"] (SpM K (Θ1 w zD) 2 (M.zN kr))) (zP:jE P w K mg base zD) (jd:mg "str" = none) (zx:mg "tuple" = none) (zc:mg "range" = none) (hr:RM (1+kr) "_law_part" zO A s f cdv):WS (cX P w K mg base ji "_law_part" zO f cdv A outer s H E) (Θ1 w zD) (bd zO 0) (M.zf (M.zN kr)):=by
 unfold M.zf
 exact (jT (i:=2) qu.nd rfl (Or.inl (by kernel_rfl)) (zK j8 je (vc 0) zF))
theorem zA6 {kr:Nat} (zd:Has P w K mg base "_law_part" (1+kr) ["_law_cell_here","_law_deep"] (SpM K (Θ1 w zD) 2 (M.zN kr))) (zP:jE P w K mg base zD) (jd:mg "str" = none) (zx:mg "tuple" = none) (zc:mg "range" = none) (hr:RM (1+kr) "_law_part" zO A s f cdv):WS (cX P w K mg base ji "_law_part" zO f cdv A outer s H E) (Θ1 w zD) (bd zO 1) (M.zi (M.zN kr)):=by
 unfold M.zi
 exact (jT (i:=3) qu.nd rfl (Or.inl (by kernel_rfl)) (zK zHs zGD (zK j8 je (zK qo qM (vc 0) zF) zF) zF))
theorem zBL {kr:Nat} (zd:Has P w K mg base "_law_part" (1+kr) ["_law_cell_here","_law_deep"] (SpM K (Θ1 w zD) 2 (M.zN kr))) (zP:jE P w K mg base zD) (jd:mg "str" = none) (zx:mg "tuple" = none) (zc:mg "range" = none) (hr:RM (1+kr) "_law_part" zO A s f cdv):WS (cX P w K mg base ji "_law_part" zO f cdv A outer s H E) (Θ1 w zD) (bd zO 2) (M.zh (M.zN kr)):=by
 unfold M.zh
 exact (ja (jV (yv hr) Zp (vv 2) zF (qX _))
  (zT (jA (vv 3)))
  jG)
theorem zA5 {kr:Nat} (zd:Has P w K mg base "_law_part" (1+kr) ["_law_cell_here","_law_deep"] (SpM K (Θ1 w zD) 2 (M.zN kr))) (zP:jE P w K mg base zD) (jd:mg "str" = none) (zx:mg "tuple" = none) (zc:mg "range" = none) (hr:RM (1+kr) "_law_part" zO A s f cdv):WS (cX P w K mg base ji "_law_part" zO f cdv A outer s H E) (Θ1 w zD) (bd zO 3) (M.zg (M.zN kr)):=by
 unfold M.zg
 exact (ja (jV (yv hr) Zp (vv 2) zF (qX _))
  (zT (jA (yQ zB5 zFV gk jd zFh (zB (vv 3) zH))))
  jG)
theorem zBS {kr:Nat} (zd:Has P w K mg base "_law_part" (1+kr) ["_law_cell_here","_law_deep"] (SpM K (Θ1 w zD) 2 (M.zN kr))) (zP:jE P w K mg base zD) (jd:mg "str" = none) (zx:mg "tuple" = none) (zc:mg "range" = none) (hr:RM (1+kr) "_law_part" zO A s f cdv):WS (cX P w K mg base ji "_law_part" zO f cdv A outer s H E) (Θ1 w zD) (bd zO 4) (M.zq (M.zN kr)):=by
 unfold M.zq
 exact (ja (jV (yv hr) Zp (vv 2) zF (qX _))
  (zT (jA (jL (qU rfl hr) jY (yA (zB ZL (zB zz (zB zz (zB (jD zH) zH))))) (zK j8 je (zK qo qM (vc 0) zF) zF))))
  jG)
theorem zBB {kr:Nat} (zd:Has P w K mg base "_law_part" (1+kr) ["_law_cell_here","_law_deep"] (SpM K (Θ1 w zD) 2 (M.zN kr))) (zP:jE P w K mg base zD) (jd:mg "str" = none) (zx:mg "tuple" = none) (zc:mg "range" = none) (hr:RM (1+kr) "_law_part" zO A s f cdv):WS (cX P w K mg base ji "_law_part" zO f cdv A outer s H E) (Θ1 w zD) (bd zO 5) (M.z9 (M.zN kr)):=by
 unfold M.z9
 exact (ja (Zb (zAC (jV (yv hr) Zp (vv 2) zF (qX _)) (QE (jV zHT zE0 (vc 1) zF (qX _)))))
  (zT (jA (jD (zB (jm zd hr (by omega) gk (zB (zK qo qM (vc 0) zF) (zB (zK (OpR.or jy jM) qd (vc 1) zF) zH)) (zw (zw j0))) zH))))
  jG)
theorem zBY {kr:Nat} (zd:Has P w K mg base "_law_part" (1+kr) ["_law_cell_here","_law_deep"] (SpM K (Θ1 w zD) 2 (M.zN kr))) (zP:jE P w K mg base zD) (jd:mg "str" = none) (zx:mg "tuple" = none) (zc:mg "range" = none) (hr:RM (1+kr) "_law_part" zO A s f cdv):WS (cX P w K mg base ji "_law_part" zO f cdv A outer s H E) (Θ1 w zD) (bd zO 6) (M.jC (M.zN kr)):=by
 unfold M.jC
 exact (ja (Zb (zAC (jV (yv hr) Zp (vv 2) zF (qX _)) (QE (jV zHT zE0 (vc 1) zF (qX _)))))
  (zT (jA (yQ J7 zDU gk zx zAK (zB (zBq (vars:=["_law_j"]) rfl ⟨rfl,rfl,(by kernel_rfl),(by kernel_rfl),(by decide +kernel),⟨(by kernel_rfl),(by kernel_rfl),trivial⟩,(by kernel_rfl)⟩ (qP gk zc (zK j8 je (zK qo qM (vc 0) zF) zF)) (fun _ _ _ _=>(j1 (i:=6) zBa rfl (Or.inl (by kernel_rfl)) (.inr (by kernel_rfl)))) (fun _ _ _ _=>zAJ) (fun _ _ _ _=>(jm zd hr (by omega) gk (zB (jm zP hr (by omega) gk (zB (vc 0) (zB (vv 6) zH)) (zw (zw j0))) (zB (zK (OpR.or jy jM) qd (vc 1) zF) zH)) (zw (zw j0)))) (by kernel_rfl)) zH))))
  jG)
theorem zA2 {kr:Nat} (zd:Has P w K mg base "_law_part" (1+kr) ["_law_cell_here","_law_deep"] (SpM K (Θ1 w zD) 2 (M.zN kr))) (zP:jE P w K mg base zD) (jd:mg "str" = none) (zx:mg "tuple" = none) (zc:mg "range" = none) (hr:RM (1+kr) "_law_part" zO A s f cdv):WS (cX P w K mg base ji "_law_part" zO f cdv A outer s H E) (Θ1 w zD) (bd zO 7) (M.jF (M.zN kr)):=by
 unfold M.jF
 exact (ja (jV (yv hr) Zp (vv 2) zF (qX _))
  (zT (jA (jL (qU rfl hr) jY (yA (zB zF (zB zF (zB zF (zB (zK zFb zFR zF zF) (zB (zK (OpR.or jy jM) qd (zK zFb zFR zF zF) zF) zH)))))) (zK j8 je (zK qo qM (vc 0) zF) zF))))
  jG)
theorem zBN {kr:Nat} (zd:Has P w K mg base "_law_part" (1+kr) ["_law_cell_here","_law_deep"] (SpM K (Θ1 w zD) 2 (M.zN kr))) (zP:jE P w K mg base zD) (jd:mg "str" = none) (zx:mg "tuple" = none) (zc:mg "range" = none) (hr:RM (1+kr) "_law_part" zO A s f cdv):WS (cX P w K mg base ji "_law_part" zO f cdv A outer s H E) (Θ1 w zD) (bd zO 8) (M.j3 (M.zN kr)):=by
 unfold M.j3
 exact (ja (jV (yv hr) Zp (vv 2) zF (qX _))
  (zM (jT (i:=4) qu.nd rfl (Or.inl (by kernel_rfl)) (zK j8 je (zK qo qM (vc 0) zF) zF))
  (zM (ja (jV (yv hr) Zp (zK j8 je (zK qo qM (vc 0) zF) zF) zF (qX _))
  (zT (jT (i:=4) qu.nd rfl (Or.inl (by kernel_rfl)) (zK j8 je (zK qo qM (vc 0) zF) zF)))
  jG)
  (zM (jT (i:=5) qu.nd rfl (Or.inl (by kernel_rfl)) (zK j8 je (zK qo qM (vc 0) zF) (zK (OpR.or jy jM) qd (vv 4) zF)))
  (zT (jA (zK (OpR.or jy jM) qd (zK (OpR.or jy jM) qd (zK QI QH zz (vv 5)) zz) (zK QI QH zz (zK zHs zGD (vv 4) (vv 5)))))))))
  jG)
theorem zAi {kr:Nat} (zd:Has P w K mg base "_law_part" (1+kr) ["_law_cell_here","_law_deep"] (SpM K (Θ1 w zD) 2 (M.zN kr))) (zP:jE P w K mg base zD) (jd:mg "str" = none) (zx:mg "tuple" = none) (zc:mg "range" = none) (hr:RM (1+kr) "_law_part" zO A s f cdv):WS (cX P w K mg base ji "_law_part" zO f cdv A outer s H E) (Θ1 w zD) (bd zO 9) (M.yr (M.zN kr)):=by
 unfold M.yr
 exact (jA (zEQ (by decide +kernel) (vars:=["_law_j"]) rfl ⟨rfl,rfl,(by kernel_rfl),(by kernel_rfl),(by decide +kernel),⟨(by kernel_rfl),trivial⟩,(by kernel_rfl)⟩ (qP gk zc (zK j8 je (zK qo qM (vc 0) zF) zF)) (fun _ _ _ _=>(j1 (i:=6) zA9 rfl (Or.inl (by kernel_rfl)) (.inr (by kernel_rfl)))) (fun _ _ _ _=>zAJ) (fun _ _ _ _=>(jL (qU rfl hr) jY zz (zK j8 je (zK qo qM (vc 0) (jL (qU rfl hr) jY (yA (zB zF (zB zF (zB zF zH)))) (vv 6))) zF))) (by kernel_rfl) (fun ρ H S ds ys p Q rp r hq h=>zGp (by decide +kernel) ρ H S ds ys p Q rp r (.inl hq) h)))
theorem JP (F:Fun K "_law_part" "_law_part" zO f fd) (Bf:ZB K fd ["_law_cell_here","_law_deep"] []) (kf:PySem.W.keepIn K (.ref f)=true) (mf:mg "_law_part" = some (.ref f)) (zP:jE P w K mg base zD) (jd:mg "str" = none) (zx:mg "tuple" = none) (zc:mg "range" = none) :
  ∀ kr,jc P w K mg base CX0 (1+kr) f fd ["_law_cell_here","_law_deep"] (SpM K (Θ1 w zD) 2 (M.zN kr))
 | 0=>zLg M.zCD
 | kr+1=>by
  have zd:Has P w K mg base "_law_part" (1+kr) ["_law_cell_here","_law_deep"] (SpM K (Θ1 w zD) 2 (M.zN kr)):=⟨⟨_,_,JP F Bf kf mf zP jd zx zc kr,Bf,kf,mf⟩⟩
  refine yW (k:=(1+kr)) (b:=M.zt (M.zN kr)) F qu (M.zDe kr) fun cdv A outer s H E hr=>?_
  unfold M.zt
  exact (zM (zBP zd zP jd zx zc hr) (zM (zA6 zd zP jd zx zc hr) (zM (zBL zd zP jd zx zc hr) (zM (zA5 zd zP jd zx zc hr) (zM (zBS zd zP jd zx zc hr) (zM (zBB zd zP jd zx zc hr) (zM (zBY zd zP jd zx zc hr) (zM (zA2 zd zP jd zx zc hr) (zM (zBN zd zP jd zx zc hr) (zT (zAi zd zP jd zx zc hr)))))))))))
noncomputable abbrev yj:Stmt:=top 12
noncomputable abbrev zEY:List Str:=["_law_cell_here"]
theorem zDm:jb zEY ["_law_cell_here"] (zQ yj):=⟨rfl,rfl,rfl,by decide +kernel,rfl,by decide +kernel,by decide +kernel⟩
theorem zCJ:(["_law_cell_here","_law_j"]:List Str).Nodup:=by decide +kernel
theorem zDn (F:Fun K "_law_key" "_law_key" yj f fd) (zd:J5 P w K mg base zD) (zP:jE P w K mg base zD) (zx:mg "tuple" = none) (zc:mg "range" = none) :
  jc P w K mg base CX0 5 f fd ["_law_cell_here"] (SpM K (Θ1 w zD) 1 M.q9):=by
 refine yW (b:=M.Z3) F zDm M.zDu fun cdv A outer s H E hr=>?_
 unfold M.Z3
 exact (zT (jA (yQ J7 zDU gk zx zAK (zB (zBq (vars:=["_law_j"]) rfl ⟨rfl,rfl,(by kernel_rfl),(by kernel_rfl),(by decide +kernel),⟨(by kernel_rfl),trivial⟩,(by kernel_rfl)⟩ (qP gk zc (zK j8 je (vc 0) zF)) (fun _ _ _ _=>(j1 (i:=1) zCJ rfl (Or.inl (by kernel_rfl)) (.inr (by kernel_rfl)))) (fun _ _ _ _=>zAJ) (fun _ _ _ _=>(jm zd hr (by decide) gk (zB (jm zP hr (by decide) gk (zB (vc 0) (zB (vv 1) zH)) (zw (zw j0))) (zB zF zH)) (zw (zw j0)))) (by kernel_rfl)) zH))))
noncomputable abbrev yN:Stmt:=top 9
noncomputable abbrev zDr:List Str:=["_law_script","_law_k"]
theorem zDK:jb zDr ["_law_script","_law_k"] (zQ yN):=⟨rfl,rfl,rfl,by decide +kernel,rfl,by decide +kernel,by decide +kernel⟩
theorem zDY (F:Fun K "_law_cell" "_law_cell" yN f fd) (j9:mg "len" = none) :
  jc P w K mg base CX0 1 f fd ["_law_script","_law_k"] (SpM K (Θ1 w zD) 2 M.jI):=by
 refine yW (b:=M.yz) F zDK M.zDg fun cdv A outer s H E hr=>?_
 unfold M.yz
 exact (zM (ja (jV zHT zE0 (vv 1) (jx ZO Z8 gk j9 Qt (zB (vv 0) zH)) (qX _))
  (zT (jA (jL (qU rfl hr) jY (vv 0) (vv 1))))
  jG)
  (zT (jA zF)))
noncomputable abbrev qt:Stmt:=top 13
noncomputable abbrev zC0:List Str:=["_law_cell_here","_law_some"]
theorem JL:jb zC0 ["_law_cell_here"] (zQ qt):=⟨rfl,rfl,rfl,by decide +kernel,rfl,by decide +kernel,by decide +kernel⟩
theorem zCF (F:Fun K "_law_thing" "_law_thing" qt f fd) (jd:mg "str" = none) :
  jc P w K mg base CX0 1 f fd ["_law_cell_here"] (SpM K (Θ1 w zD) 1 M.qT):=by
 refine yW (b:=M.ZR) F JL M.zCB fun cdv A outer s H E hr=>?_
 unfold M.ZR
 exact (zM (jT (i:=1) JL.nd rfl (Or.inl (by kernel_rfl)) (yA (zB zF (zB zz (zB (jD zH) (zB (jD (zB ZL zH)) (zB zz (zB (jD (zB zz (zB zz zH))) (zB (zK j8 je (zK qo qM (vv 0) zF) zF) (zB (jD (zB zz (zB (yQ zB5 zFV gk jd zFh (zB (zK j8 je (zK qo qM (vv 0) zF) zF) zH)) zH))) zH))))))))))
  (zT (jA (jL (qU rfl hr) jY (vv 1) (zK j8 je (vv 0) zF)))))
noncomputable abbrev zZ:Stmt:=top 14
noncomputable abbrev qQ:List Str:=["_law_key_here","_law_cell_here","_law_inside","_law_j","_law_part_here","_law_at","_law_some"]
theorem ya:jb qQ ["_law_key_here","_law_cell_here"] (zQ zZ):=⟨rfl,rfl,rfl,by decide +kernel,rfl,by decide +kernel,by decide +kernel⟩
theorem zBO:(["_law_key_here","_law_cell_here","_law_inside","","_law_part_here","_law_at","_law_some"]:List Str).Nodup:=by decide +kernel
theorem zBJ:(["_law_key_here","_law_cell_here","_law_inside","","_law_part_here","_law_at","_law_some","_law_j"]:List Str).Nodup:=by decide +kernel
theorem zBf (zc:mg "range" = none) (jQ:mg "isinstance" = none) (zx:mg "tuple" = none) (j9:mg "len" = none) (hr:RM 0 "_law_near" zZ A s f cdv):WS (cX P w K mg base qQ "_law_near" zZ f cdv A outer s H E) (Θ1 w zD) (bd zZ 0) M.y9:=by
 unfold M.y9
 exact (zFi (i:=3) (N:=["_law_key_here","_law_cell_here","_law_inside","","_law_part_here","_law_at","_law_some"]) rfl (zDC (vars:=["_law_j"]) (i:=2) rfl ⟨rfl,rfl,(by kernel_rfl),(by kernel_rfl),(by decide +kernel),⟨(by kernel_rfl),trivial⟩,(by kernel_rfl)⟩ zBO rfl (Or.inl (by kernel_rfl)) (qP gk zc (jx ZO Z8 gk j9 Qt (zB (vc 0) zH))) (fun _ _ _ _=>(j1 (i:=7) zBJ rfl (Or.inl (by kernel_rfl)) (.inr (by kernel_rfl)))) (fun _ _ _ _=>(zKM (ZG (jx JF zAq gk jQ ZD (zB (jL (qU rfl hr) jY (vc 0) (vv 7)) (zB (Ji .tuple gk zx zAK) zH)))))) (fun _ _ _ _=>(vv 7)) (by kernel_rfl)))
theorem zBD (hr:RM 0 "_law_near" zZ A s f cdv):WS (cX P w K mg base qQ "_law_near" zZ f cdv A outer s H E) (Θ1 w zD) (bd zZ 1) M.qb:=by
 unfold M.qb
 exact (ja (JB (ZG (vv 2)))
  (zT (jA (zK (OpR.or (OpR.or jy jM) yV) yO (vc 0) (jD (zB ZL zH)))))
  jG)
theorem zBg (j9:mg "len" = none) (hr:RM 0 "_law_near" zZ A s f cdv):WS (cX P w K mg base qQ "_law_near" zZ f cdv A outer s H E) (Θ1 w zD) (bd zZ 2) M.yH:=by
 unfold M.yH
 exact (jT (i:=3) ya.nd rfl (Or.inl (by kernel_rfl)) (jL (qU rfl hr) jY (vv 2) (zK j8 je (vv 1) (jx ZO Z8 gk j9 Qt (zB (vv 2) zH)))))
theorem zBF (hr:RM 0 "_law_near" zZ A s f cdv):WS (cX P w K mg base qQ "_law_near" zZ f cdv A outer s H E) (Θ1 w zD) (bd zZ 3) M.yL:=by
 unfold M.yL
 exact (jT (i:=4) ya.nd rfl (Or.inl (by kernel_rfl)) (jL (qU rfl hr) jY (vc 0) (vv 3)))
theorem zBZ (j9:mg "len" = none) (hr:RM 0 "_law_near" zZ A s f cdv):WS (cX P w K mg base qQ "_law_near" zZ f cdv A outer s H E) (Θ1 w zD) (bd zZ 4) M.yK:=by
 unfold M.yK
 exact (jT (i:=5) ya.nd rfl (Or.inl (by kernel_rfl)) (zK j8 je (zK qo qM (vv 1) zF) (zK (OpR.or jy jM) qd (jx ZO Z8 gk j9 Qt (zB (vv 4) zH)) zF)))
theorem zBc (hr:RM 0 "_law_near" zZ A s f cdv):WS (cX P w K mg base qQ "_law_near" zZ f cdv A outer s H E) (Θ1 w zD) (bd zZ 5) M.yE:=by
 unfold M.yE
 exact (jT (i:=6) ya.nd rfl (Or.inl (by kernel_rfl)) (yA (zB (zK (OpR.or (OpR.or jy jM) yV) yO (qY (vv 4) qG (qJ (vv 5))) (qY (vv 4) (qJ (zK (OpR.or jy jM) qd (vv 5) zF)) qG)) (zB (zK (OpR.or (OpR.or jy jM) yV) yO (zK (OpR.or (OpR.or jy jM) yV) yO (qY (vv 4) qG (qJ (vv 5))) (jD (zB zF zH))) (qY (vv 4) (qJ (vv 5)) qG)) (zB (zK (OpR.or (OpR.or jy jM) yV) yO (zK (OpR.or (OpR.or jy jM) yV) yO (qY (vv 4) qG (qJ (vv 5))) (jD (zB zz zH))) (qY (vv 4) (qJ (zK (OpR.or jy jM) qd (vv 5) zF)) qG)) zH)))))
theorem zBQ (hr:RM 0 "_law_near" zZ A s f cdv):WS (cX P w K mg base qQ "_law_near" zZ f cdv A outer s H E) (Θ1 w zD) (bd zZ 6) M.yJ:=by
 unfold M.yJ
 exact (jA (zK (OpR.or (OpR.or jy jM) yV) yO (zK (OpR.or (OpR.or jy jM) yV) yO (qY (vc 0) qG (qJ (vv 3))) (jD (zB (jL (qU rfl hr) jY (vv 6) (zK j8 je (zK qo qM (vv 1) zF) zF)) zH))) (qY (vc 0) (qJ (zK (OpR.or jy jM) qd (vv 3) zF)) qG)))
theorem zDb (F:Fun K "_law_near" "_law_near" zZ f fd) (zc:mg "range" = none) (jQ:mg "isinstance" = none) (zx:mg "tuple" = none) (j9:mg "len" = none) :
  jc P w K mg base CX0 1 f fd ["_law_key_here","_law_cell_here"] (SpM K (Θ1 w zD) 2 M.qk):=by
 refine yW (b:=M.yS) F ya M.zCy fun cdv A outer s H E hr=>?_
 unfold M.yS
 exact (zM (zBf zc jQ zx j9 hr) (zM (zBD hr) (zM (zBg j9 hr) (zM (zBF hr) (zM (zBZ j9 hr) (zM (zBc hr) (zT (zBQ hr))))))))
noncomputable abbrev yU:Stmt:=zBU (top 7) 2
noncomputable abbrev zDq:List Str:=["self","key","thing"]
theorem zCk:jb zDq ["self","key","thing"] (zQ yU):=⟨rfl,rfl,rfl,by decide +kernel,rfl,by decide +kernel,by decide +kernel⟩
theorem zDL (F:Fun K "lay" "Shelf.lay" yU f fd) (zj:qL w K zD) (j9:mg "len" = none) (Zv:mg "list" = none) :
  jc P w K mg base CX0 1 f fd ["self","key","thing"] (SpM K (Θ1 w zD) 3 M.jP):=by
 refine yW (b:=M.yR) F zCk M.zDZ fun cdv A outer s H E hr=>?_
 unfold M.yR
 exact (zM (ZN (Qu PySem.F.plainAttrs_dict PySem.F.slot_dict_pop PySem.F.type_dict_pop (zBE rfl hr) zBh rfl (yB (i:=1) zj rfl (vv 0)) (zB (vv 1) (zB ZL zH))))
  (zM (QT rfl hr (yB (i:=1) zj rfl (vv 0)) (vv 1) (vv 2))
  (zT (ja (jV zLu zK9 (jx ZO Z8 gk j9 Qt (zB (yB (i:=1) zj rfl (vv 0)) zH)) (yB (i:=0) zj rfl (vv 0)) (qX _))
  (zT (ZN (Qu PySem.F.plainAttrs_dict PySem.F.slot_dict_pop PySem.F.type_dict_pop (zBE rfl hr) zBh rfl (yB (i:=1) zj rfl (vv 0)) (zB (jL (qU rfl hr) jY (yQ (zAf hr) zCc gk Zv zD8 (zB (yB (i:=1) zj rfl (vv 0)) zH)) zF) zH))))
  jG))))
noncomputable abbrev z4:Stmt:=zBU (top 7) 1
noncomputable abbrev yc:List Str:=["self","key","thing"]
theorem JN:jb yc ["self","key"] (zQ z4):=⟨rfl,rfl,rfl,by decide +kernel,rfl,by decide +kernel,by decide +kernel⟩
theorem zAX (zj:qL w K zD) (hr:RM 0 "Shelf.look" z4 A s f cdv):WS (cX P w K mg base yc "Shelf.look" z4 f cdv A outer s H E) (Θ1 w zD) (bd z4 0) M.qq:=by
 unfold M.qq
 exact (ja (jV (zB2 rfl hr) zBm (vv 1) (yB (i:=1) zj rfl (vv 0)) (by rfl))
  (zT (jA ZL))
  jG)
theorem zAv (zj:qL w K zD) (hr:RM 0 "Shelf.look" z4 A s f cdv):WS (cX P w K mg base yc "Shelf.look" z4 f cdv A outer s H E) (Θ1 w zD) (bd z4 1) M.yl:=by
 unfold M.yl
 exact (jT (i:=2) JN.nd rfl (Or.inl (by kernel_rfl)) (Qu PySem.F.plainAttrs_dict PySem.F.slot_dict_pop PySem.F.type_dict_pop (zBE rfl hr) zBh rfl (yB (i:=1) zj rfl (vv 0)) (zB (vv 1) zH)))
theorem zAt (zj:qL w K zD) (hr:RM 0 "Shelf.look" z4 A s f cdv):WS (cX P w K mg base yc "Shelf.look" z4 f cdv A outer s H E) (Θ1 w zD) (bd z4 2) M.yn:=by
 unfold M.yn
 exact (QT rfl hr (yB (i:=1) zj rfl (vv 0)) (vv 1) (vv 2))
theorem zAw (hr:RM 0 "Shelf.look" z4 A s f cdv):WS (cX P w K mg base yc "Shelf.look" z4 f cdv A outer s H E) (Θ1 w zD) (bd z4 3) M.ym:=by
 unfold M.ym
 exact (jA (vv 2))
theorem zCI (F:Fun K "look" "Shelf.look" z4 f fd) (zj:qL w K zD) :
  jc P w K mg base CX0 1 f fd ["self","key"] (SpM K (Θ1 w zD) 2 M.jZ):=by
 refine yW (b:=M.yd) F JN M.zB8 fun cdv A outer s H E hr=>?_
 unfold M.yd
 exact (zM (zAX zj hr) (zM (zAv zj hr) (zM (zAt zj hr) (zT (zAw hr)))))
noncomputable abbrev yP:Stmt:=top 15
noncomputable abbrev zDi:List Str:=["_law_shelf","_law_due","_law_others","_law_key_here","_law_thing_here","_law_found"]
theorem yf:jb zDi ["_law_shelf","_law_due","_law_others"] (zQ yP):=⟨rfl,rfl,rfl,by decide +kernel,rfl,by decide +kernel,by decide +kernel⟩
theorem zCd (F:Fun K "_law_kept" "_law_kept" yP f fd) (zj:qL w K zD) (ZW:JQ P w K mg base zD) (jQ:mg "isinstance" = none) (Q1:mg "bool" = none) :
  jc P w K mg base CX0 2 f fd ["_law_shelf","_law_due","_law_others"] (SpM K (Θ1 w zD) 3 M.qD):=by
 refine yW (b:=M.QZ) F yf M.zCh fun cdv A outer s H E hr=>?_
 unfold M.QZ
 exact (zM (zBK PassesOwn.never rfl (vv 1) (zFl (n:=2) rfl (zAZ (j1 (i:=3) yf.nd rfl (Or.inl (by kernel_rfl)) (.inl rfl)) (zAZ (j1 (i:=4) yf.nd rfl (Or.inl (by kernel_rfl)) (.inl rfl)) zFT (fun a b=>zCr a b)) (fun a b=>zCr a b)) (zLe))
  (zM (jT (i:=5) yf.nd rfl (Or.inl (by kernel_rfl)) (QQ zj ZW hr (by decide) (by decide +kernel) (vv 0) (zB (vv 3) zH) (zw j0)))
  (zT (ja (Zb (Jl (zGw (vv 5)) (Jl (jV (zKr hr) zK6 (vv 5) (vv 4) (qX _)) (Qb (ZG (jx JF zAq gk jQ ZD (zB (vv 5) (zB (Ji .bool gk Q1 zEM) zH))))))))
  (zT (jA ZY))
  jG))))
  (zM (Ze PassesOwn.never rfl (zFv (vv 2)) (j1 (i:=3) yf.nd rfl (Or.inl (by kernel_rfl)) (.inl rfl))
  (zT (ja (Zb (zAC (jV (zB2 rfl hr) zBm (vv 3) (vv 1) (by rfl)) (QE (zBj (QQ zj ZW hr (by decide) (by decide +kernel) (vv 0) (zB (vv 3) zH) (zw j0))))))
  (zT (jA ZY))
  jG)))
  (zT (jA ZY))))
noncomputable abbrev jR:Stmt:=top 16
noncomputable abbrev Z0:List Str:=["_law_script","_law_room","_law_shelves","_law_due","_law_others","_law_k","_law_key_here","_law_things","_law_at","_law_turn"]
theorem yM:jb Z0 ["_law_script"] (zQ jR):=⟨rfl,rfl,rfl,by decide +kernel,rfl,by decide +kernel,by decide +kernel⟩
theorem zG9 (qR:Zj P w K mg base zD) (hr:RM 5 "law" jR A s f cdv):WS (cX P w K mg base Z0 "law" jR f cdv A outer s H E) (Θ1 w zD) (bd jR 0) M.Qk:=by
 unfold M.Qk
 exact (jT (i:=1) yM.nd rfl (Or.inl (by kernel_rfl)) (zK (OpR.or (OpR.or jy jM) yV) yO zF (zK j8 je (jm qR hr (by decide) gk (zB (vv 0) (zB zF zH)) (zw (zw j0))) zF)))
theorem zGl (zj:qL w K zD) (qC:ZF P w K mg base zD) (hr:RM 5 "law" jR A s f cdv):WS (cX P w K mg base Z0 "law" jR f cdv A outer s H E) (Θ1 w zD) (bd jR 1) M.Qj:=by
 unfold M.Qj
 exact (jT (i:=2) yM.nd rfl (Or.inl (by kernel_rfl)) (yA (zB (zBo zj qC hr (by decide) rfl gk (zB (vv 1) zH) (zw j0)) (zB (zBo zj qC hr (by decide) rfl gk (zB zF zH) (zw j0)) zH))))
theorem zHQ (hr:RM 5 "law" jR A s f cdv):WS (cX P w K mg base Z0 "law" jR f cdv A outer s H E) (Θ1 w zD) (bd jR 2) M.Qs:=by
 unfold M.Qs
 exact (jT (i:=3) yM.nd rfl (Or.inl (by kernel_rfl)) (yA (zB (JD rfl) (zB (JD rfl) zH))))
theorem zGZ (hr:RM 5 "law" jR A s f cdv):WS (cX P w K mg base Z0 "law" jR f cdv A outer s H E) (Θ1 w zD) (bd jR 3) M.Qr:=by
 unfold M.Qr
 exact (jT (i:=4) yM.nd rfl (Or.inl (by kernel_rfl)) (yA (zB (jD zH) (zB (jD (zB zz zH)) (zB (jD (zB ZL zH)) (zB (jD (zB zF zH)) (zB (jD (zB zz zH)) (zB (jD (zB (jD zH) zH)) (zB (jD (zB zz (zB zz zH))) (zB (jD (zB zz zH)) zH))))))))))
theorem zHZ (zj:qL w K zD) (ZX:JE P w K mg base zD) (yi:QL P w K mg base zD) (y4:Qg P w K mg base zD) (qS:Zs P w K mg base zD) (zP:jE P w K mg base zD) (zc:mg "range" = none) (zA0:mg "min" = none) (j9:mg "len" = none) (hr:RM 5 "law" jR A s f cdv):WS (cX P w K mg base Z0 "law" jR f cdv A outer s H E) (Θ1 w zD) (bd jR 4) M.Jj:=by
 unfold M.Jj
 exact (Ze PassesOwn.never rfl (qP gk zc (jx (zGB rfl) zII gk zA0 zKj (zB (zK qo qM (jx ZO Z8 gk j9 Qt (zB (vv 0) zH)) zF) (zB zF zH)))) (j1 (i:=5) yM.nd rfl (Or.inl (by kernel_rfl)) (.inl rfl))
  (zM (jT (i:=6) yM.nd rfl (Or.inl (by kernel_rfl)) (jm ZX hr (by decide) gk (zB (jL (qU rfl hr) jY (vv 0) (zK QI QH zF (vv 5))) zH) (zw j0)))
  (zM (jT (i:=7) yM.nd rfl (Or.inl (by kernel_rfl)) (yA (zB (jm yi hr (by decide) gk (zB (jL (qU rfl hr) jY (vv 0) (zK (OpR.or jy jM) qd (zK QI QH zF (vv 5)) zF)) zH) (zw j0)) (zB (jD (zB zz (zB (vv 5) zH))) zH))))
  (zM (ZN (Qu PySem.F.plainAttrs_list PySem.F.slot_list_append PySem.F.type_list_append JR JV rfl (vv 4) (zB (zK (OpR.or (OpR.or jy jM) yV) yO (vv 6) (jD (zB ZL zH))) zH)))
  (zM (ZN (Qu PySem.F.plainAttrs_list PySem.F.slot_list_append PySem.F.type_list_append JR JV rfl (vv 4) (zB (qY (vv 6) qG (qJ (zIP zJ7 zKI zF))) zH)))
  (zM (ZN (Qu PySem.F.plainAttrs_list PySem.F.slot_list_append PySem.F.type_list_append JR JV rfl (vv 4) (zB (jm y4 hr (by decide) gk (zB (vv 6) (zB (jm zP hr (by decide) gk (zB (jL (qU rfl hr) jY (vv 0) (zK (OpR.or jy jM) qd (zK QI QH zF (vv 5)) zF)) (zB (vv 5) zH)) (zw (zw j0))) zH)) (zw (zw j0))) zH)))
  (zT (Ze PassesOwn.never rfl (qP gk zc zF) (j1 (i:=8) yM.nd rfl (Or.inl (by kernel_rfl)) (.inl rfl))
  (zT (ja (Zb (Jl (jV (yv hr) Zp (vv 8) zF (qX _)) (Qb (jV (yv hr) Zp (zK j8 je (vv 5) zF) zF (qX _)))))
  (zM (ja (zBj (QQ zj qS hr (by decide) (by decide +kernel) (jL (qU rfl hr) jY (vv 2) (vv 8)) (zB (vv 6) (zB (jL (qU rfl hr) jY (vv 7) (vv 8)) zH)) (zw (zw j0))))
  (zT (jA ZY))
  jG)
  (zT (QT rfl hr (jL (qU rfl hr) jY (vv 3) (vv 8)) (vv 6) (jL (qU rfl hr) jY (vv 7) (vv 8)))))
  jG))))))))))
theorem zHD (zj:qL w K zD) (qR:Zj P w K mg base zD) (qS:Zs P w K mg base zD) (y7:Qf P w K mg base zD) (zc:mg "range" = none) (Zv:mg "list" = none) (hr:RM 5 "law" jR A s f cdv):WS (cX P w K mg base Z0 "law" jR f cdv A outer s H E) (Θ1 w zD) (bd jR 5) M.Jm:=by
 unfold M.Jm
 exact (Ze PassesOwn.never rfl (qP gk zc zF) (j1 (i:=9) yM.nd rfl (Or.inl (by kernel_rfl)) (.inl rfl))
  (zM (Ze PassesOwn.never rfl (qP gk zc zF) (j1 (i:=8) yM.nd rfl (Or.inl (by kernel_rfl)) (.inl rfl))
  (zT (ja (JB (ZG (jm y7 hr (by decide) gk (zB (jL (qU rfl hr) jY (vv 2) (vv 8)) (zB (jL (qU rfl hr) jY (vv 3) (vv 8)) (zB (vv 4) zH))) (zw (zw (zw j0))))))
  (zT (jA ZY))
  jG)))
  (zT (Ze PassesOwn.never rfl (zFv (qY (qY (yQ (zAf hr) zCc gk Zv zD8 (zB (jL (qU rfl hr) jY (vv 3) zF) zH)) (qJ (zK j8 je (jm qR hr (by decide) gk (zB (vv 0) (zB zF zH)) (zw (zw j0))) zF)) qG) qG (qJ zF))) (j1 (i:=6) yM.nd rfl (Or.inl (by kernel_rfl)) (.inl rfl))
  (zM (ZN (QQ zj qS hr (by decide) (by decide +kernel) (jL (qU rfl hr) jY (vv 2) zF) (zB (vv 6) (zB (jD (zB zz zH)) zH)) (zw (zw j0))))
  (zT (QT rfl hr (jL (qU rfl hr) jY (vv 3) zF) (vv 6) (jD (zB zz zH)))))))))
theorem zGO (hr:RM 5 "law" jR A s f cdv):WS (cX P w K mg base Z0 "law" jR f cdv A outer s H E) (Θ1 w zD) (bd jR 6) M.zBM:=by
 unfold M.zBM
 exact (jA ZY)
theorem zJE (F:Fun K "law" "law" jR f fd) (zj:qL w K zD) (qC:ZF P w K mg base zD) (ZX:JE P w K mg base zD) (qR:Zj P w K mg base zD) (yi:QL P w K mg base zD) (y4:Qg P w K mg base zD) (qS:Zs P w K mg base zD) (zP:jE P w K mg base zD) (y7:Qf P w K mg base zD) (zc:mg "range" = none) (zA0:mg "min" = none) (j9:mg "len" = none) (Zv:mg "list" = none) :
  jc P w K mg base CX0 6 f fd ["_law_script"] (SpM K (Θ1 w zD) 1 M.zCO):=by
 refine zCZ (N:=Z0) (b:=M.zAp) F yM fun cdv A outer s H E hr=>?_
 unfold M.zAp
 exact (zM (zG9 qR hr) (zM (zGl zj qC hr) (zM (zHQ hr) (zM (zGZ hr) (zM (zHZ zj ZX yi y4 qS zP zc zA0 j9 hr) (zM (zHD zj qR qS y7 zc Zv hr) (zT (zGO hr))))))))
theorem zKB {l:PySem.W.OpenLaw}{w:World}{K:PySem.W.Frag}{h:Heap}{mg:Str->Option Value}{fa f1 f2 f3 f4 f5 f6 f7 f8 f9 f10 f11 f12:Addr}{zD:Addr} (X:K.In h) (G:h.Ns mainGlobals mg) (hfa:mg "law" = some (.ref fa))
  {od1 an1 od2 an2 od3 an3 od4 an4 od5 an5 od6 an6 od7 an7 od8 an8 od9 an9 od10 an10 od11 an11 od12 an12:Option Addr}{sl1 sl2 sl3 sl4 sl5 sl6 sl7 sl8 sl9 sl10 sl11 sl12:Array (Option Value)}{oc1 kV1 dc1 pm1 cd1 ct1 oc2 kV2 dc2 pm2 cd2 ct2 oc3 kV3 dc3 pm3 cd3 ct3 oc4 kV4 dc4 pm4 cd4 ct4 oc5 kV5 dc5 pm5 cd5 ct5 oc6 kV6 dc6 pm6 cd6 ct6 oc7 kV7 dc7 pm7 cd7 ct7 oc8 kV8 dc8 pm8 cd8 ct8 oc9 kV9 dc9 pm9 cd9 ct9 oc10 kV10 dc10 pm10 cd10 ct10 oc11 kV11 dc11 pm11 cd11 ct11 oc12 kV12 dc12 pm12 cd12 ct12:Value}
  (zAP:PySem.W.nsIn K mainGlobals "Shelf" = some (some (.ref zD))) (zAQ:PySem.W.plainGet K zD Str.empty=true) (zAR:PySem.W.hasDictIn K zD=true) (zAS:PySem.W.plainOver K zD=true) (zAT:PySem.W.findIn K (.ref zD) "__setattr__" = some (some (.builtin "object.__setattr__"))) (zAU:PySem.W.makesIn K zD=true) (zAV:PySem.W.keepIn K (.ref zD)=true)
  (JJ:PySem.W.findIn K (.ref zD) "bound" = some none)
  (JK:PySem.W.findIn K (.ref zD) "kept" = some none)
  (a1:PySem.W.nsIn K mainGlobals "is_bound" = some (some (.ref f1))) (l1:K.lookup f1=some ⟨oc1,od1,.func (PySem.W.fnOf "is_bound" "is_bound" (jr yt) (jN yt) (zQ yt) .none kV1 dc1 pm1 an1 cd1 ct1),sl1⟩) (c1:PySem.W.codeIn K cd1 "is_bound" = true) (k1:PySem.W.keepIn K (.ref f1)=true)
  (a2:PySem.W.findIn K (.ref zD) "__init__" = some (some (.ref f2))) (i2:PySem.W.isFn K (.ref f2)=true) (l2:K.lookup f2=some ⟨oc2,od2,.func (PySem.W.fnOf "__init__" "Shelf.__init__" (jr qB) (jN qB) (zQ qB) .none kV2 dc2 pm2 an2 cd2 ct2),sl2⟩) (c2:PySem.W.codeIn K cd2 "Shelf.__init__" = true) (k2:PySem.W.keepIn K (.ref f2)=true)
  (a3:PySem.W.nsIn K mainGlobals "_law_mixed" = some (some (.ref f3))) (l3:K.lookup f3=some ⟨oc3,od3,.func (PySem.W.fnOf "_law_mixed" "_law_mixed" (jr qv) (jN qv) (zQ qv) .none kV3 dc3 pm3 an3 cd3 ct3),sl3⟩) (c3:PySem.W.codeIn K cd3 "_law_mixed" = true) (k3:PySem.W.keepIn K (.ref f3)=true)
  (a4:PySem.W.nsIn K mainGlobals "_law_part" = some (some (.ref f4))) (l4:K.lookup f4=some ⟨oc4,od4,.func (PySem.W.fnOf "_law_part" "_law_part" (jr zO) (jN zO) (zQ zO) .none kV4 dc4 pm4 an4 cd4 ct4),sl4⟩) (c4:PySem.W.codeIn K cd4 "_law_part" = true) (k4:PySem.W.keepIn K (.ref f4)=true)
  (a5:PySem.W.nsIn K mainGlobals "_law_key" = some (some (.ref f5))) (l5:K.lookup f5=some ⟨oc5,od5,.func (PySem.W.fnOf "_law_key" "_law_key" (jr yj) (jN yj) (zQ yj) .none kV5 dc5 pm5 an5 cd5 ct5),sl5⟩) (c5:PySem.W.codeIn K cd5 "_law_key" = true) (k5:PySem.W.keepIn K (.ref f5)=true)
  (a6:PySem.W.nsIn K mainGlobals "_law_cell" = some (some (.ref f6))) (l6:K.lookup f6=some ⟨oc6,od6,.func (PySem.W.fnOf "_law_cell" "_law_cell" (jr yN) (jN yN) (zQ yN) .none kV6 dc6 pm6 an6 cd6 ct6),sl6⟩) (c6:PySem.W.codeIn K cd6 "_law_cell" = true) (k6:PySem.W.keepIn K (.ref f6)=true)
  (a7:PySem.W.nsIn K mainGlobals "_law_thing" = some (some (.ref f7))) (l7:K.lookup f7=some ⟨oc7,od7,.func (PySem.W.fnOf "_law_thing" "_law_thing" (jr qt) (jN qt) (zQ qt) .none kV7 dc7 pm7 an7 cd7 ct7),sl7⟩) (c7:PySem.W.codeIn K cd7 "_law_thing" = true) (k7:PySem.W.keepIn K (.ref f7)=true)
  (a8:PySem.W.nsIn K mainGlobals "_law_near" = some (some (.ref f8))) (l8:K.lookup f8=some ⟨oc8,od8,.func (PySem.W.fnOf "_law_near" "_law_near" (jr zZ) (jN zZ) (zQ zZ) .none kV8 dc8 pm8 an8 cd8 ct8),sl8⟩) (c8:PySem.W.codeIn K cd8 "_law_near" = true) (k8:PySem.W.keepIn K (.ref f8)=true)
  (a9:PySem.W.findIn K (.ref zD) "lay" = some (some (.ref f9))) (i9:PySem.W.isFn K (.ref f9)=true) (l9:K.lookup f9=some ⟨oc9,od9,.func (PySem.W.fnOf "lay" "Shelf.lay" (jr yU) (jN yU) (zQ yU) .none kV9 dc9 pm9 an9 cd9 ct9),sl9⟩) (c9:PySem.W.codeIn K cd9 "Shelf.lay" = true) (k9:PySem.W.keepIn K (.ref f9)=true)
  (a10:PySem.W.findIn K (.ref zD) "look" = some (some (.ref f10))) (i10:PySem.W.isFn K (.ref f10)=true) (l10:K.lookup f10=some ⟨oc10,od10,.func (PySem.W.fnOf "look" "Shelf.look" (jr z4) (jN z4) (zQ z4) .none kV10 dc10 pm10 an10 cd10 ct10),sl10⟩) (c10:PySem.W.codeIn K cd10 "Shelf.look" = true) (k10:PySem.W.keepIn K (.ref f10)=true)
  (a11:PySem.W.nsIn K mainGlobals "_law_kept" = some (some (.ref f11))) (l11:K.lookup f11=some ⟨oc11,od11,.func (PySem.W.fnOf "_law_kept" "_law_kept" (jr yP) (jN yP) (zQ yP) .none kV11 dc11 pm11 an11 cd11 ct11),sl11⟩) (c11:PySem.W.codeIn K cd11 "_law_kept" = true) (k11:PySem.W.keepIn K (.ref f11)=true)
  (a12:PySem.W.nsIn K mainGlobals "law" = some (some (.ref f12))) (l12:K.lookup f12=some ⟨oc12,od12,.func (PySem.W.fnOf "law" "law" (jr jR) (jN jR) (zQ jR) .none kV12 dc12 pm12 an12 cd12 ct12),sl12⟩) (c12:PySem.W.codeIn K cd12 "law" = true) (k12:PySem.W.keepIn K (.ref f12)=true)
  (z_isinstance:PySem.W.nsIn K mainGlobals "isinstance" = some none)
  (z_bool:PySem.W.nsIn K mainGlobals "bool" = some none)
  (z_int:PySem.W.nsIn K mainGlobals "int" = some none)
  (z_str:PySem.W.nsIn K mainGlobals "str" = some none)
  (z_tuple:PySem.W.nsIn K mainGlobals "tuple" = some none)
  (z_range:PySem.W.nsIn K mainGlobals "range" = some none)
  (z_len:PySem.W.nsIn K mainGlobals "len" = some none)
  (z_list:PySem.W.nsIn K mainGlobals "list" = some none)
  (z_min:PySem.W.nsIn K mainGlobals "min" = some none)
  {u_MOST_KEYS:Value} (v_MOST_KEYS:PySem.W.nsIn K mainGlobals "MOST_KEYS" = some (some u_MOST_KEYS)) (r_MOST_KEYS:zJU (.int 1000) u_MOST_KEYS=true)
  : ∃ fd:FuncData,(∀ (s:Shared) (v:Value),BindsTo s fd ⟨[v],[]⟩ [("_law_script",v)])/\fd.scope.names.lookup ("_law_script" : Str)=some .local/\∀ base:Heap,K.In base->base.Ns mainGlobals mg->jc l.prog w K mg base CX0 6 fa fd ["_law_script"] (zCL K):=by
 have e:=hfa.symm.trans (PySem.W.mg_of X G a12)
 cases e
 have F1:=yI (x := "is_bound") (qual := "is_bound") (st:=yt) l1 c1 k1
 have B1:=F1.binds (ps:=["thing"]) fun _ _ _ _ _ _ us hl=>match us,hl with | [_],_=>rfl
 have F2:=yI (x := "__init__") (qual := "Shelf.__init__") (st:=qB) l2 c2 k2
 have B2:=F2.binds (ps:=["self","bound"]) fun _ _ _ _ _ _ us hl=>match us,hl with | [_,_],_=>rfl
 have F3:=yI (x := "_law_mixed") (qual := "_law_mixed") (st:=qv) l3 c3 k3
 have B3:=F3.binds (ps:=["_law_cell_here","_law_k"]) fun _ _ _ _ _ _ us hl=>match us,hl with | [_,_],_=>rfl
 have F4:=yI (x := "_law_part") (qual := "_law_part") (st:=zO) l4 c4 k4
 have B4:=F4.binds (ps:=["_law_cell_here","_law_deep"]) fun _ _ _ _ _ _ us hl=>match us,hl with | [_,_],_=>rfl
 have F5:=yI (x := "_law_key") (qual := "_law_key") (st:=yj) l5 c5 k5
 have B5:=F5.binds (ps:=["_law_cell_here"]) fun _ _ _ _ _ _ us hl=>match us,hl with | [_],_=>rfl
 have F6:=yI (x := "_law_cell") (qual := "_law_cell") (st:=yN) l6 c6 k6
 have B6:=F6.binds (ps:=["_law_script","_law_k"]) fun _ _ _ _ _ _ us hl=>match us,hl with | [_,_],_=>rfl
 have F7:=yI (x := "_law_thing") (qual := "_law_thing") (st:=qt) l7 c7 k7
 have B7:=F7.binds (ps:=["_law_cell_here"]) fun _ _ _ _ _ _ us hl=>match us,hl with | [_],_=>rfl
 have F8:=yI (x := "_law_near") (qual := "_law_near") (st:=zZ) l8 c8 k8
 have B8:=F8.binds (ps:=["_law_key_here","_law_cell_here"]) fun _ _ _ _ _ _ us hl=>match us,hl with | [_,_],_=>rfl
 have F9:=yI (x := "lay") (qual := "Shelf.lay") (st:=yU) l9 c9 k9
 have B9:=F9.binds (ps:=["self","key","thing"]) fun _ _ _ _ _ _ us hl=>match us,hl with | [_,_,_],_=>rfl
 have F10:=yI (x := "look") (qual := "Shelf.look") (st:=z4) l10 c10 k10
 have B10:=F10.binds (ps:=["self","key"]) fun _ _ _ _ _ _ us hl=>match us,hl with | [_,_],_=>rfl
 have F11:=yI (x := "_law_kept") (qual := "_law_kept") (st:=yP) l11 c11 k11
 have B11:=F11.binds (ps:=["_law_shelf","_law_due","_law_others"]) fun _ _ _ _ _ _ us hl=>match us,hl with | [_,_,_],_=>rfl
 have F12:=yI (x := "law") (qual := "law") (st:=jR) l12 c12 k12
 have jQ:=PySem.W.mg_none_of X G z_isinstance
 have Q1:=PySem.W.mg_none_of X G z_bool
 have zFC:=PySem.W.mg_none_of X G z_int
 have jd:=PySem.W.mg_none_of X G z_str
 have zx:=PySem.W.mg_none_of X G z_tuple
 have zc:=PySem.W.mg_none_of X G z_range
 have j9:=PySem.W.mg_none_of X G z_len
 have Zv:=PySem.W.mg_none_of X G z_list
 have zA0:=PySem.W.mg_none_of X G z_min
 have Qi:zCg mg "MOST_KEYS" (.int 1000):=⟨_,PySem.W.mg_of X G v_MOST_KEYS,zIr r_MOST_KEYS⟩
 have zj:qL w K zD:=⟨rfl,⟨zAQ,zAR,zAS,zAT⟩,zEK JJ (zEK JK (fun f hf=>nomatch hf)),by decide +kernel,by decide +kernel⟩
 refine⟨(PySem.W.fnOf "law" "law" (jr jR) (jN jR) (zQ jR) .none kV12 dc12 pm12 an12 cd12 ct12),fun s v=>.of_eq rfl,by kernel_rfl,fun base _ _=>?_⟩
 have JI:zAm l.prog w K mg base zD:=⟨⟨_,_,zDk F1 jQ Q1 zFC Qi,B1,k1,PySem.W.mg_of X G a1⟩⟩
 have qC:ZF l.prog w K mg base zD:=⟨⟨_,_,Jx F2 zj JI,B2,⟨zAU,a2,i2,zAV⟩,PySem.W.mg_of X G zAP⟩⟩
 have zP:jE l.prog w K mg base zD:=⟨⟨_,_,zCH F3,B3,k3,PySem.W.mg_of X G a3⟩⟩
 have zd:J5 l.prog w K mg base zD:=⟨⟨_,_,JP F4 B4 k4 (PySem.W.mg_of X G a4) zP jd zx zc 3,B4,k4,PySem.W.mg_of X G a4⟩⟩
 have ZX:JE l.prog w K mg base zD:=⟨⟨_,_,zDn F5 zd zP zx zc,B5,k5,PySem.W.mg_of X G a5⟩⟩
 have qR:Zj l.prog w K mg base zD:=⟨⟨_,_,zDY F6 j9,B6,k6,PySem.W.mg_of X G a6⟩⟩
 have yi:QL l.prog w K mg base zD:=⟨⟨_,_,zCF F7 jd,B7,k7,PySem.W.mg_of X G a7⟩⟩
 have y4:Qg l.prog w K mg base zD:=⟨⟨_,_,zDb F8 zc jQ zx j9,B8,k8,PySem.W.mg_of X G a8⟩⟩
 have qS:Zs l.prog w K mg base zD:=⟨⟨_,_,zDL F9 zj j9 Zv,B9,⟨a9,i9,k9⟩⟩⟩
 have ZW:JQ l.prog w K mg base zD:=⟨⟨_,_,zCI F10 zj,B10,⟨a10,i10,k10⟩⟩⟩
 have y7:Qf l.prog w K mg base zD:=⟨⟨_,_,zCd F11 zj ZW jQ Q1,B11,k11,PySem.W.mg_of X G a11⟩⟩
 exact (zJE F12 zj qC ZX qR yi y4 qS zP y7 zc zA0 j9 Zv).imp fun _ _ _ _ h=>h _
theorem zMG {l:PySem.W.OpenLaw}{q:Program}{loose:List Str}{XP:(Str->Option Value)->Heap->Prop}{YP:World->Heap->Prop}{d:DefRec}{K:Params->PySem.W.Frag} (hn:l.most=some 63) (hdf:d.params.defaults=[])
  (hY:∀ (w:World) (h:Heap),YP w h->(K w.params).In h)
  (F:∀ (w:World) (mg:Str->Option Value) (fa:Addr) (h:Heap),(K w.params).In h->h.Ns mainGlobals mg->mg d.name=some (.ref fa) ->
   ∃ fd:FuncData,(∀ (s:Shared) (u:Value),BindsTo s fd ⟨[u],[]⟩ [("_law_script",u)])/\fd.scope.names.lookup ("_law_script" : Str)=some .local/\∀ base:Heap,(K w.params).In base->base.Ns mainGlobals mg->jc l.prog w (K w.params) mg base CX0 6 fa fd ["_law_script"] (zCL (K w.params))) :
  PySem.W.WalkO q loose XP YP l.row.toRowW d [] (fun f vs=>PySem.call f vs) :=
 L2.zIx (n:=63) (k:=6) (x := "_law_script") (CX:=fun _=>CX0) (sp:=fun w=>zCL (K w.params)) hn (by decide) hdf ⟨rfl,by decide,by decide⟩ hY F (fun _ _ _ _ hl hO hS=>zGd hl hO hS) fun _ _ _ _ _ z=>z
end My
theorem PySem.W.Fast.tw12105239118814787180:True:=trivial
theorem PySem.W.Fast.tw2573919908410857532:True:=trivial
theorem PySem.W.Fast.tw14678703236474243589:True:=trivial
theorem PySem.W.Fast.tw8082919318924650310:True:=trivial
theorem PySem.W.Fast.tw6712813140490919185:True:=trivial
theorem PySem.W.Fast.tw5929601968318613906:True:=trivial
theorem PySem.W.Fast.tw11522133809468904044:True:=trivial
theorem PySem.W.Fast.tw17240548951861561040:True:=trivial
theorem PySem.W.Fast.tw4066832916770811734:True:=trivial
theorem PySem.W.Fast.tw6915451967977655195:True:=trivial
theorem PySem.W.Fast.tw2266885868157007358:True:=trivial
theorem PySem.W.Fast.tw11364778801889239045:True:=trivial
theorem PySem.W.Fast.tw3811146685981227281:True:=trivial
theorem PySem.W.Fast.tw1270456251968023490:True:=trivial
theorem PySem.W.Fast.tw17695930579344850062:True:=trivial
theorem PySem.W.Fast.tw3392366804955909530:True:=trivial
theorem PySem.W.Fast.tw17991772277867392525:True:=trivial
theorem PySem.W.Fast.tw15817914906665288888:True:=trivial
theorem PySem.W.Fast.tw10127184789890493665:True:=trivial
theorem PySem.W.Fast.tw1391950126747119322:True:=trivial
theorem PySem.W.Fast.tw16241766494203651192:True:=trivial
theorem PySem.W.Fast.tw13668676005557899824:True:=trivial
theorem PySem.W.Fast.tw5682714395762510121:True:=trivial
theorem PySem.W.Fast.tw8652106953537953537:True:=trivial
theorem PySem.W.Fast.tw12652371971961118899:True:=trivial
theorem PySem.W.Fast.tw2839174136838740791:True:=trivial
theorem PySem.W.Fast.tw3256583348871420580:True:=trivial
theorem PySem.W.Fast.tw1690589261080517448:True:=trivial
theorem PySem.W.Fast.tw513263142255793148:True:=trivial
theorem PySem.W.Fast.tw13068059424372472431:True:=trivial
theorem PySem.W.Fast.tw3243440399605715893:True:=trivial
theorem PySem.W.Fast.tw10203219996720824418:True:=trivial
theorem PySem.W.Fast.tw5437125030773354908:True:=trivial
theorem PySem.W.Fast.tw13238077528976025112:True:=trivial
theorem PySem.W.Fast.tw2195271766999422499:True:=trivial
theorem PySem.W.Fast.tw1247639544587723053:True:=trivial
theorem PySem.W.Fast.tw1451515748173486409:True:=trivial
theorem PySem.W.Fast.tw16464537952465999600:True:=trivial
theorem PySem.W.Fast.tw209936171322645271:True:=trivial
open PySem PySem.W PyProof.Rows
set_option maxRecDepth 100000 in
set_option maxHeartbeats 0 in
theorem PySem.Challenge.cw_thingyard_k51_keys_apart_holds : PySem.Challenge.rw_thingyard_k51_keys_apart.Holds := by
 w_on;o_law;k_head;(case hw=>w_witness2)
 k_fill
 refine My.zMG (l:=PySem.Challenge.rw_thingyard_k51_keys_apart) rfl rfl (fun w h Y=>PySem.W.kIn_of Y) ?F
 case F =>
  intro w mg fa h KX G hmg
  refine' My.zKB KX G hmg ?zAP ?zAQ ?zAR ?zAS ?zAT ?zAU ?zAV ?JJ ?JK ?a1 ?l1 ?c1 ?k1 ?a2 ?i2 ?l2 ?c2 ?k2 ?a3 ?l3 ?c3 ?k3 ?a4 ?l4 ?c4 ?k4 ?a5 ?l5 ?c5 ?k5 ?a6 ?l6 ?c6 ?k6 ?a7 ?l7 ?c7 ?k7 ?a8 ?l8 ?c8 ?k8 ?a9 ?i9 ?l9 ?c9 ?k9 ?a10 ?i10 ?l10 ?c10 ?k10 ?a11 ?l11 ?c11 ?k11 ?a12 ?l12 ?c12 ?k12 ?z_isinstance ?z_bool ?z_int ?z_str ?z_tuple ?z_range ?z_len ?z_list ?z_min ?v_MOST_KEYS ?r_MOST_KEYS
  (case zAP=>k_is)
  (case zAQ=>k_is)
  (case zAR=>k_is)
  (case zAS=>k_is)
  (case zAT=>k_is)
  (case zAU=>k_is)
  (case zAV=>k_is)
  (case JJ=>k_is)
  (case JK=>k_is)
  (case a1=>k_is)
  (case l1=>k_is)
  (case c1=>k_is)
  (case k1=>k_is)
  (case a2=>k_is)
  (case i2=>k_is)
  (case l2=>k_is)
  (case c2=>k_is)
  (case k2=>k_is)
  (case a3=>k_is)
  (case l3=>k_is)
  (case c3=>k_is)
  (case k3=>k_is)
  (case a4=>k_is)
  (case l4=>k_is)
  (case c4=>k_is)
  (case k4=>k_is)
  (case a5=>k_is)
  (case l5=>k_is)
  (case c5=>k_is)
  (case k5=>k_is)
  (case a6=>k_is)
  (case l6=>k_is)
  (case c6=>k_is)
  (case k6=>k_is)
  (case a7=>k_is)
  (case l7=>k_is)
  (case c7=>k_is)
  (case k7=>k_is)
  (case a8=>k_is)
  (case l8=>k_is)
  (case c8=>k_is)
  (case k8=>k_is)
  (case a9=>k_is)
  (case i9=>k_is)
  (case l9=>k_is)
  (case c9=>k_is)
  (case k9=>k_is)
  (case a10=>k_is)
  (case i10=>k_is)
  (case l10=>k_is)
  (case c10=>k_is)
  (case k10=>k_is)
  (case a11=>k_is)
  (case l11=>k_is)
  (case c11=>k_is)
  (case k11=>k_is)
  (case a12=>k_is)
  (case l12=>k_is)
  (case c12=>k_is)
  (case k12=>k_is)
  (case z_isinstance=>k_is)
  (case z_bool=>k_is)
  (case z_int=>k_is)
  (case z_str=>k_is)
  (case z_tuple=>k_is)
  (case z_range=>k_is)
  (case z_len=>k_is)
  (case z_list=>k_is)
  (case z_min=>k_is)
  (case v_MOST_KEYS=>k_is)
  (case r_MOST_KEYS=>rfl)
