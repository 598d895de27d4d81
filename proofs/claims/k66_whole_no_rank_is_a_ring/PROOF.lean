import PyProof.Rows.All
import Wide.All
import OpenK.AllK
import Wide.FinOn
import Lean
import PyProof.EqAt
import PyProof.EqKinds
import PyProof.TupleCall
import PySem.Challenge.RW_thingyard_k66_whole_no_rank_is_a_ring
set_option Elab.async false
set_option linter.all false
set_option maxRecDepth 100000
namespace L2
open PySem PySem.Spec PyProof.Rows
abbrev Key:=Sum Int Str
def zCy:Key->Value->Bool
 | .inl k,v=>Value.isInt k v
 | .inr x,v=>Value.isStrOf x v
def zRG (w:World):Key->Int
 | .inl k=>hashInt k
 | .inr x=>hashStr w x
theorem qd:∀ {k:Key}{v:Value},zCy k v=true->(∃ i t,k=Sum.inl i/\v=Value.int i t)\/(∃ x t,k=Sum.inr x/\v=Value.str x t)
 | .inl i,v,h=>by
  obtain⟨t,e⟩:=Value.isInt_shape (k:=i) (v:=v) h
  exact .inl ⟨i,t,rfl,e⟩
 | .inr x,v,h=>by
  obtain⟨t,e⟩:=Value.isStrOf_shape (x:=x) (v:=v) h
  exact .inr ⟨x,t,rfl,e⟩
theorem zKu (i:Int) (t:Tok):zCy (.inl i) (.int i t)=true:=by simp[zCy,Value.isInt]
theorem zJw (x:Str) (t:Tok):zCy (.inr x) (.str x t)=true:=by simp[zCy,Value.isStrOf]
theorem zOc (a b:Int):decide ((Sum.inl a:Key)=Sum.inl b)=(a == b):=by
 by_cases e:a=b
 ·subst e;simp
 ·have h:¬ (Sum.inl a:Key)=Sum.inl b:=fun q=>e (Sum.inl.inj q)
  rw[decide_eq_false h]
  exact (beq_eq_false_iff_ne.mpr e).symm
theorem zPN (a b:Str):decide ((Sum.inr a:Key)=Sum.inr b)=decide (a=b):=by
 by_cases e:a=b
 ·subst e;simp
 ·have h:¬ (Sum.inr a:Key)=Sum.inr b:=fun q=>e (Sum.inr.inj q)
  rw[decide_eq_false h,decide_eq_false e]
theorem zOj (a:Int) (b:Str):decide ((Sum.inl a:Key)=Sum.inr b)=false:=decide_eq_false (fun q=>nomatch q)
theorem zPG (a:Str) (b:Int):decide ((Sum.inr a:Key)=Sum.inl b)=false:=decide_eq_false (fun q=>nomatch q)
def jF (prog:Program) (w:World):PySem.KeyKind prog w Key where
 is:=zCy
 hash:=zRG w
 inj:=fun v a b ha hb=>by
  rcases qd ha with ⟨i,t,rfl,rfl⟩ | ⟨x,t,rfl,rfl⟩
  ·rcases qd hb with ⟨j,u,rfl,e⟩ | ⟨y,u,rfl,e⟩
   ·injection e with e1 _;rw[e1]
   ·exact nomatch e
  ·rcases qd hb with ⟨j,u,rfl,e⟩ | ⟨y,u,rfl,e⟩
   ·exact nomatch e
   ·injection e with e1 _;rw[e1]
 byValue:=fun k v h=>by
  rcases qd h with ⟨i,t,rfl,rfl⟩ | ⟨x,t,rfl,rfl⟩<;>rfl
 pyHash:=fun hv h=>by
  rcases qd hv with ⟨i,t,rfl,rfl⟩ | ⟨x,t,rfl,rfl⟩
  ·exact wpAny_pyHash_int h
  ·exact wpAny_pyHash_str h
 eqBool:=fun hu hv h=>by
  rcases qd hu with ⟨i,t,rfl,rfl⟩ | ⟨x,t,rfl,rfl⟩
  ·rcases qd hv with ⟨j,u,rfl,rfl⟩ | ⟨y,u,rfl,rfl⟩
   ·rw[zOc] at h;exact wpAny_eqBool_int h
   ·rw[zOj] at h;exact SeqAt.EqAt.int_str i t y u _ _ _ _ h
  ·rcases qd hv with ⟨j,u,rfl,rfl⟩ | ⟨y,u,rfl,rfl⟩
   ·rw[zPG] at h;exact SeqAt.EqAt.str_int x t j u _ _ _ _ h
   ·rw[zPN] at h;exact wpAny_eqBool_str h
 «strs» := fun k x t v h=>by
  rcases qd h with ⟨i,u,rfl,e⟩ | ⟨y,u,rfl,e⟩
  ·exact nomatch e
  ·injection e with e1 _
   subst e1
   cases v<;>rfl
theorem zH8 (prog:Program) (w:World) (i:Int) (t:Tok):(jF prog w).is (.inl i) (.int i t)=true:=zKu i t
theorem zH6 (prog:Program) (w:World) (x:Str) (t:Tok):(jF prog w).is (.inr x) (.str x t)=true:=zJw x t
end L2
namespace L2
open PySem PySem.Spec PyProof.Rows
inductive V where
 | non | bl (b:Bool) | int (i:Int) | str (x:Str) | byt (b:Array UInt8) | flt (b:UInt64) | ref (a:Addr) | ty (n:String)
 deriving DecidableEq
def zj:V->Value->Prop
 | .non,u=>u=Value.none
 | .bl b,u=>u=Value.bool b
 | .int i,u=>∃ t,u=Value.int i t
 | .str x,u=>∃ t,u=Value.str x t
 | .byt b,u=>∃ t,u=Value.bytes b t
 | .flt b,u=>∃ t,u=Value.float b t
 | .ref a,u=>u=Value.ref a
 | .ty n,u=>u=Value.type n
abbrev zh:List V->List Value->Prop:=Paired zj
theorem zh.length {xs:List V}{us:List Value} (r:zh xs us):xs.length=us.length:=Paired.length r
theorem zh.get:∀ {xs:List V}{us:List Value}{i:Nat}{x:V},zh xs us->xs[i]? = some x->∃ u,us[i]? = some u/\zj x u
 | _,_,_,_,.nil,e=>by simp at e
 | _,_,0,_,.cons r _,e=>by simp at e;subst e;exact⟨_,rfl,r⟩
 | _,_,i+1,x,.cons _ t,e=>by
  obtain⟨u,h1,h2⟩:=zh.get (i:=i) (x:=x) t (by simpa using e)
  exact⟨u,by simpa using h1,h2⟩
theorem zh.set {x:V}{u:Value} (r:zj x u):∀ {xs:List V}{us:List Value} (i:Nat),zh xs us->zh (xs.set i x) (us.set i u)
 | _,_,_,.nil=>.nil
 | _,_,0,.cons _ t=>.cons r t
 | _,_,i+1,.cons q t=>.cons q (zh.set r i t)
theorem zh.append:∀ {xs ys:List V}{us ws:List Value},zh xs us->zh ys ws->zh (xs++ys) (us++ws)
 | _,_,_,_,.nil,s=>s
 | _,_,_,_,.cons r t,s=>.cons r (zh.append t s)
theorem zh.take:∀ {xs:List V}{us:List Value} (n:Nat),zh xs us->zh (xs.take n) (us.take n)
 | _,_,0,_=>.nil
 | _,_,_+1,.nil=>.nil
 | _,_,n+1,.cons r t=>.cons r (zh.take n t)
theorem zh.drop:∀ {xs:List V}{us:List Value} (n:Nat),zh xs us->zh (xs.drop n) (us.drop n)
 | _,_,0,r=>r
 | _,_,_+1,.nil=>.nil
 | _,_,n+1,.cons _ t=>zh.drop n t
def Jj:Option V->Option Value->Prop
 | some v,some u=>zj v u
 | none,none=>True
 | _,_=>False
def KV {κ:Type}:List (κ×V)->List (κ×Value)->Prop:=Paired fun (p:κ×V) (q:κ×Value)=>p.1=q.1/\zj p.2 q.2
def kV:Key->V
 | .inl i=>.int i
 | .inr x=>.str x
inductive HO where
 | lst (xs:List V)
 | tup (xs:List V)
 | dK (kvs:List (Key×V)) | dT (kvs:List (List Key×V))
 | set (S:Int->Bool) (n:Nat)
 | ins (C dx:Addr) (fs:List (Str×V))
 | own (x:Addr)
 | xd (fs:List (Str×V))
 | met (f x:Addr)
 | rng (lo hi:Int)
 | frz (o:Obj) (u:HO)
 | tbl (ps:Array Value)
 | ext (φ:Heap->Prop)
abbrev Hp:=Addr->Option HO
def upd (H:Hp) (a:Addr) (o:HO):Hp:=fun b=>if b=a then some o else H b
theorem jM {H:Hp}{a:Addr}{o:HO}:upd H a o a=some o:=by unfold upd;rw[if_pos rfl]
theorem zk {H:Hp}{a b:Addr}{o:HO} (h:b≠a):upd H a o b=H b:=by unfold upd;rw[if_neg h]
theorem zQR {H:Hp}{a b:Addr}{o u:HO} (h:H a=some o) (h':H b=some u) (d:o≠u):a≠b:=by
 intro e;subst e;rw[h] at h';exact d (Option.some.inj h')
theorem Zi {H:Hp}{a b:Addr}{o:HO} (h:H a=some o) (h':H b=none):a≠b:=by
 intro e;subst e;rw[h] at h';cases h'
section
variable (P:Program) (w:World)
def jr (H:Hp) (h:Heap) (a:Addr):HO->Prop
 | .lst xs=>xs.length <= sizeLine/\∃ (its:List Value) (n:Nat),zh xs its/\h.get? a=some { cls:=.type "list",data:=.seq its.toArray n }
 | .tup xs=>xs.length <= sizeLine/\∃ its:List Value,zh xs its/\IsTup h a its.toArray
 | .dK kvs=>kvs.length <= sizeLine/\(a == sysModules)=false/\∃ vs,KV kvs vs/\h.DictOf (jF P w) a vs
 | .dT kvs=>kvs.length <= sizeLine/\(a == sysModules)=false/\∃ xs:List (List Key×Addr×Value),
   Paired (fun (p:List Key×V) (q:List Key×Addr×Value)=>p.1=q.1/\H q.2.1=some (.tup (p.1.map kV))/\zj p.2 q.2.2) kvs xs /\
   ∃ o es ep,h.get? a=some o/\o.ExactDict/\o.data=.dict es ep/\es.toList=xs.map (entryOfKey (tupleKind (jF P w)))/\(xs.map (·.1)).Nodup
 | .set S n=>h.SetOf (intKind P w) a S n
 | .ins C dx fs=>H dx=some (.own a)/\fs.length <= 1000/\dx≠a/\h.get? a=some (PySem.W.instObj C dx) /\
   ∃ mA,h.Ns1 dx mA/\(∀ f,Jj (fs.lookup f) (mA f))/\PySem.Within mA (fs.map (·.1))
 | .own _=>∃ o,h.get? a=some o
 | .xd fs=>∃ mA,h.Ns1 a mA/\∀ f,Jj (fs.lookup f) (mA f)
 | .rng lo hi=>∃ t u v,h.get? a=some { cls:=.type "range",data:=.fields #[.int lo t,.int hi u,.int 1 v] }
 | .frz o u=>h.get? a=some o/\jr H h a u
 | .tbl ps=>h.get? a=some { cls:=.none,data:=.fields ps }
 | .met f x=>h.get? a=some (PySem.W.methodObj (.ref f) (.ref x))
 | .ext φ=>φ h/\(∃ o,h.get? a=some o)/\∀ h1 h2:Heap,φ h1->(∀ o,h1.get? a=some o->h2.get? a=some o)->φ h2
def HOk (H:Hp) (h:Heap):Prop:=∀ a o,H a=some o->jr P w H h a o
end
section
variable {P:Program}{w:World}{H H':Hp}{h h':Heap}{a:Addr}{o:HO}
theorem jr.lt (x:jr P w H h a o):a < h.objs.size:=by
 cases o with
 | lst xs=>obtain⟨_,_,_,_,e⟩:=x;exact Heap.lt_size e
 | tup xs=>obtain⟨_,_,_,p⟩:=x;exact p.lt
 | dK kvs=>obtain⟨_,_,_,_,o,_,_,e,_⟩:=x;exact Heap.lt_size e
 | dT kvs=>obtain⟨_,_,_,_,o,_,_,e,_⟩:=x;exact Heap.lt_size e
 | set S n=>obtain⟨o,_,_,_,e,_⟩:=x;exact Heap.lt_size e
 | ins C dx fs=>obtain⟨_,_,_,e,_⟩:=x;exact Heap.lt_size e
 | own y=>obtain⟨_,e⟩:=x;exact Heap.lt_size e
 | xd fs=>obtain⟨_,⟨_,_,_,e,_⟩,_⟩:=x;exact Heap.lt_size e
 | rng lo hi=>obtain⟨_,_,_,e⟩:=x;exact Heap.lt_size e
 | frz ob u=>obtain⟨e,_⟩:=x;exact Heap.lt_size e
 | tbl ps=>exact Heap.lt_size (show h.get? a=some _ from x)
 | met f y=>exact Heap.lt_size (show h.get? a=some _ from x)
 | ext φ=>obtain⟨_,⟨_,e⟩,_⟩:=x;exact Heap.lt_size e
theorem Paired.mapP {α β:Type}{F G:α->β->Prop}:∀ {l₁:List α}{l₂:List β},Paired F l₁ l₂->(∀ a b,F a b->G a b)->Paired G l₁ l₂
 | _,_,.nil,_=>.nil
 | _,_,.cons r t,f=>.cons (f _ _ r) (Paired.mapP t f)
theorem jr.stay (x:jr P w H h a o) (k:∀ b u,(b=a\/H b=some (.own a))->h.get? b=some u->h'.get? b=some u)
  (ho:∀ b,H b=some (.own a)->H' b=some (.own a)) (ht:∀ b xs,H b=some (.tup xs)->H' b=some (.tup xs)):jr P w H' h' a o:=by
 induction o with
 | lst xs=>obtain⟨z,its,n,r,e⟩:=x;exact⟨z,its,n,r,k _ _ (.inl rfl) e⟩
 | tup xs=>obtain⟨z,its,r,ob,e,c⟩:=x;exact⟨z,its,r,ob,k _ _ (.inl rfl) e,c⟩
 | dK kvs=>obtain⟨z,y,vs,r,ob,es,ep,e,c⟩:=x;exact⟨z,y,vs,r,ob,es,ep,k _ _ (.inl rfl) e,c⟩
 | dT kvs =>
  obtain⟨z,y,xs,r,ob,es,ep,e,c⟩:=x
  exact⟨z,y,xs,Paired.mapP r fun p q z=>⟨z.1,ht _ _ z.2.1,z.2.2⟩,ob,es,ep,k _ _ (.inl rfl) e,c⟩
 | set S n=>obtain⟨ob,es,ep,t,e,c⟩:=x;exact⟨ob,es,ep,t,k _ _ (.inl rfl) e,c⟩
 | ins C dx fs =>
  obtain⟨d,z,ne,e,mA,⟨od,es,ep,e2,c⟩,r⟩:=x
  exact⟨ho _ d,z,ne,k _ _ (.inl rfl) e,mA,⟨od,es,ep,k _ _ (.inr d) e2,c⟩,r⟩
 | own y=>obtain⟨ob,e⟩:=x;exact⟨ob,k _ _ (.inl rfl) e⟩
 | xd fs=>obtain⟨mA,⟨od,es,ep,e,c⟩,r⟩:=x;exact⟨mA,⟨od,es,ep,k _ _ (.inl rfl) e,c⟩,r⟩
 | rng lo hi=>obtain⟨t,u,v,e⟩:=x;exact⟨t,u,v,k _ _ (.inl rfl) e⟩
 | frz ob u ih=>obtain⟨e,q⟩:=x;exact⟨k _ _ (.inl rfl) e,ih q⟩
 | tbl ps =>
  have e:h.get? a=some { cls:=.none,data:=.fields ps }:=x
  show h'.get? a=some { cls:=.none,data:=.fields ps }
  exact k a _ (.inl rfl) e
 | met f y =>
  have e:h.get? a=some (PySem.W.methodObj (.ref f) (.ref y)):=x
  show h'.get? a=some (PySem.W.methodObj (.ref f) (.ref y))
  exact k a _ (.inl rfl) e
 | ext φ=>obtain⟨p,⟨o,e⟩,st⟩:=x;exact⟨st _ _ p fun o q=>k _ _ (.inl rfl) q,⟨o,k _ _ (.inl rfl) e⟩,st⟩
theorem HOk.lt (x:HOk P w H h) (e:H a=some o):a < h.objs.size:=(x a o e).lt
theorem HOk.fresh (x:HOk P w H h) (e:h.objs.size <= a):H a=none:=by
 cases q:H a with
 | none=>rfl
 | some u=>exact absurd (Nat.lt_of_lt_of_le (x.lt q) e) (Nat.lt_irrefl _)
theorem HOk.kept (x:HOk P w H h) (k:∀ b u,h.get? b=some u->h'.get? b=some u):HOk P w H h':=fun a o e =>
 (x a o e).stay (fun b u _ q=>k b u q) (fun _ q=>q) fun _ _ q=>q
theorem HOk.laid (x:HOk P w H h) (k:∀ b u,h.get? b=some u->h'.get? b=some u) (hp:h.objs.size <= a) (new:jr P w (upd H a o) h' a o):HOk P w (upd H a o) h':=fun b u e=>by
 have hn:=x.fresh hp
 by_cases hb:b=a
 ·subst hb;rw[jM] at e;cases e;exact new
 ·rw[zk hb] at e
  exact (x b u e).stay (fun c v _ q=>k c v q) (fun c q=>by rw[zk (Zi q hn)];exact q) fun c xs q=>by rw[zk (Zi q hn)];exact q
end
def Rd (H:Hp) (a:Addr) (u:HO):Prop:=H a=some u\/∃ o,H a=some (.frz o u)
theorem Rd.ok {P:Program}{w:World}{H:Hp}{h:Heap}{a:Addr}{u:HO} (r:Rd H a u) (x:HOk P w H h):jr P w H h a u:=by
 rcases r with r | ⟨o,r⟩
 ·exact x a u r
 ·obtain⟨_,q⟩:=x a _ r
  exact q
def Mut:Option HO->Prop
 | some (.lst _)=>True
 | some (.dK _)=>True
 | some (.dT _)=>True
 | some (.set _ _)=>True
 | some (.ins _ _ _)=>True
 | some (.ext _)=>True
 | _=>False
section
variable {P:Program}{w:World}{H:Hp}{h h':Heap}{x e:Addr}{o':HO}
theorem HOk.write (ok:HOk P w H h) (mu:Mut (H x)) (he:e=x\/H e=some (.own x)) (k:∀ b u,b≠e->h.get? b=some u->h'.get? b=some u) (heo:∃ u,h'.get? e=some u)
  (new:jr P w (upd H x o') h' x o'):HOk P w (upd H x o') h':=fun b u q=>by
 have nown:∀ c y,H c=some (.own y)->c≠x:=fun c y r z=>by subst z;rw[r] at mu;exact mu
 have ntup:∀ c xs,H c=some (.tup xs)->c≠x:=fun c xs r z=>by subst z;rw[r] at mu;exact mu
 by_cases hb:b=x
 ·subst hb;rw[jM] at q;cases q;exact new
 ·rw[zk hb] at q
  by_cases hbe:b=e
  ·have q':H b=some (.own x):=by
    rcases he with z | z
    ·exact absurd (hbe.trans z) hb
    ·rw[hbe];exact z
   rw[q] at q';cases q'
   obtain⟨v,hv⟩:=heo
   exact⟨v,by rw[hbe];exact hv⟩
  ·refine (ok b u q).stay (fun c v hc r=>k c v ?_ r) (fun c r=>by rw[zk (nown c b r)];exact r) fun c xs r=>by rw[zk (ntup c xs r)];exact r
   rcases hc with rfl | hc
   ·exact hbe
   ·rintro rfl
    rcases he with z | z
    ·exact nown c b hc z
    ·rw[hc] at z;cases z;exact hb rfl
end
structure Un (fs ex:List Addr) (H H':Hp) (h h':Heap):Prop where
 keep:∀ b o,h.get? b=some o->H b=none->b∉fs->b∉ex->h'.get? b=some o
 slot:∀ b o,h.get? b=some o->H b=none->b∈fs->b∉ex->∃ sl,h'.get? b=some { o with slots:=sl }
 free:∀ b o,h.get? b=some o->H b=none->b∉ex->H' b=none
 there:∀ b o,h.get? b=some o->b∉ex->∃ o',h'.get? b=some o'
 tups:∀ b xs,H b=some (.tup xs)->H' b=some (.tup xs)
 frzs:∀ b o u,H b=some (.frz o u)->H' b=some (.frz o u)
 tbls:∀ b ps,H b=some (.tbl ps)->∃ more,H' b=some (.tbl (ps++more))
section
variable {fs fs' ex ex':List Addr}{H H1 H2:Hp}{h h1 h2 h':Heap}{a x e:Addr}{o:HO}
theorem Un.any (u:Un fs ex H H1 h h1) {b:Addr}{ob:Obj} (q:h.get? b=some ob) (n:H b=none) (hx:b∉ex):∃ sl,h1.get? b=some { ob with slots:=sl }:=by
 by_cases hb:b∈fs
 ·exact u.slot b ob q n hb hx
 ·exact⟨ob.slots,u.keep b ob q n hb hx⟩
theorem Un.kept (k:∀ b u,h.get? b=some u->h'.get? b=some u):Un fs ex H H h h' :=
 ⟨fun b ob q _ _ _=>k b ob q,fun b ob q _ _ _=>⟨ob.slots,k b ob q⟩,fun _ _ _ n _=>n,fun b ob q _=>⟨ob,k b ob q⟩,fun _ _ q=>q,fun _ _ _ q=>q,fun _ ps q=>⟨#[],by rw[q];simp⟩⟩
theorem Un.refl:Un fs ex H H h h:=Un.kept fun _ _ q=>q
theorem Un.laid (k:∀ b u,h.get? b=some u->h'.get? b=some u) (hp:h.objs.size <= a) (hn:H a=none):Un fs ex H (upd H a o) h h' where
 keep:=fun b u q _ _ _=>k b u q
 slot:=fun b u q _ _ _=>⟨u.slots,k b u q⟩
 free:=fun b u q n _=>by rw[zk (Nat.ne_of_lt (Nat.lt_of_lt_of_le (Heap.lt_size q) hp))];exact n
 there:=fun b u q _=>⟨u,k b u q⟩
 tups:=fun b xs q=>by rw[zk (Zi q hn)];exact q
 frzs:=fun b u xs q=>by rw[zk (Zi q hn)];exact q
 tbls:=fun b ps q=>⟨#[],by rw[zk (Zi q hn),q];simp⟩
theorem Un.write (mu:Mut (H x)) (he:e=x\/H e=some (.own x)) (k:∀ b u,b≠e->h.get? b=some u->h'.get? b=some u) (heo:∃ u,h'.get? e=some u):Un fs ex H (upd H x o) h h':=by
 have hx:∀ b,H b=none->b≠x:=fun b n z=>by subst z;rw[n] at mu;exact mu
 have hb:∀ b,H b=none->b≠e:=fun b n z=>by
  subst z
  rcases he with r | r
  ·exact hx b n r
  ·rw[n] at r;cases r
 have hm:∀ b u,H b=some u -> ¬ Mut (some u)->b≠x:=fun b u q nm z=>by subst z;rw[q] at mu;exact nm mu
 refine⟨fun b u q n _ _=>k b u (hb b n) q,fun b u q n _ _=>⟨u.slots,k b u (hb b n) q⟩,fun b u q n _=>by rw[zk (hx b n)];exact n,fun b u q _=>?_,
  fun b xs q=>by rw[zk (hm b _ q fun z=>z)];exact q,fun b u xs q=>by rw[zk (hm b _ q fun z=>z)];exact q,fun b ps q=>⟨#[],by rw[zk (hm b _ q fun z=>z),q];simp⟩⟩
 by_cases hbe:b=e
 ·subst hbe;exact heo
 ·exact⟨u,k b u hbe q⟩
end
def trk (h:Heap) (H:Hp):List Addr:=(List.range h.objs.size).filter fun a=>(H a).isSome
def zB5 (h:Heap) (H:Hp):Heap:=PySem.W.hideAll h (trk h H)
theorem zK8 (h:Heap) (H:Hp):(zB5 h H).objs.size=h.objs.size:=PySem.W.hideAll_size _ _
theorem zLy {h:Heap}{H:Hp}{b:Addr}{o:Obj} (e:h.get? b=some o) (n:H b=none):(zB5 h H).get? b=some o :=
 PySem.W.hideAll_get _ e fun hm=>by
  have q:(H b).isSome=true:=(List.mem_filter.mp hm).2
  rw[n] at q;simp at q
theorem zN9 {h:Heap}{H:Hp}{b:Addr}{o:Obj} (e:(zB5 h H).get? b=some o):h.get? b=some o/\H b=none:=by
 have e':h.get? b=some o:=PySem.W.of_hideAll (trk h H) e
 refine⟨e',?_⟩
 cases q:H b with
 | none=>rfl
 | some x =>
  have hm:b∈trk h H:=List.mem_filter.mpr ⟨List.mem_range.mpr (Heap.lt_size e'),by simp[q]⟩
  have z:(zB5 h H).get? b=none:=PySem.W.hideAll_none (trk h H) hm
  rw[z] at e;cases e
def zNC (g h:Heap) (L:Addr):List (Addr×Obj):=(List.range h.objs.size).filterMap fun a=>if a=L\/(g.get? a).isSome=true then none else (h.get? a).map fun o=>(a,o)
def qF (g h:Heap) (L d:Addr):List (Addr×Obj):=(zNC g h L).filter fun p=>decide (p.1≠d)
end L2
namespace L2
open PySem PySem.Spec PyProof.Rows
structure Mod (K:PySem.W.Frag) (mg:Str->Option Value) (base:Heap):Prop where
 kin:K.In base
 glob:base.Ns mainGlobals mg
 blt:∃ mb,base.Ns builtinsNs mb/\∀ x:Str,x ≠ "__name__" -> mb x=bootBuiltins x
 nolimit:base.NoLimit
structure Cx where
 prog:Program
 w:World
 K:PySem.W.Frag
 mg:Str->Option Value
 base:Heap
 A:Around
 N:List Str
 s₀:Shared
 H₀:Hp
 env:Env
 outer:List Env
 stack:List Env
 ex:List Addr
 fn:Str->Bool
 calm:Bool
 pn:List (Addr×Obj)
 xe:Value->Shared->Prop
def frs (l:List Env):List Addr:=l.filterMap (·.frame)
abbrev Cx.fs (X:Cx):List Addr:=frs X.outer
def Vis (sc:Scope) (x:Str):Prop:=sc.names.lookup x=some .local\/sc.names.lookup x=some .cell\/sc.names.lookup x=some .free
def Loc (sc:Scope) (x:Str):Prop:=sc.names.lookup x=some .local\/sc.names.lookup x=some .cell
def zQy (env:Env) (h:Heap) (m:Str->Option Value) (x:Str) (u:Value):Prop :=
 (env.kindOf x=some .local/\m x=some u)\/((env.kindOf x=some .cell\/env.kindOf x=some .free)/\∃ c,env.cells.lookup x=some c/\h.IsCell c (some u))
structure Cx.Ok (X:Cx):Prop where
 mod:Mod X.K X.mg X.base
 kind:X.env.scope.kind=.function
 glob:X.env.globals=mainGlobals
 blt:X.env.builtins=builtinsNs
 above:X.s₀.heap.objs.size <= X.env.locals
 inj:∀ x y c,X.env.cells.lookup x=some c->X.env.cells.lookup y=some c->x=y
 has:∀ x,(X.env.kindOf x=some .cell\/X.env.kindOf x=some .free)->∃ c,X.env.cells.lookup x=some c
 cab:∀ x c,X.fn x=true->X.env.cells.lookup x=some c->X.s₀.heap.objs.size <= c
 hd:X.calm=true->X.A.handled=none
 frames:X.A.frames=some X.stack
 stk:X.stack=X.outer\/(X.stack=X.env::X.outer/\X.env.frame=some X.env.locals)
 exf:∀ b∈X.ex,b≠X.env.locals/\∀ x c,X.env.cells.lookup x=some c->c≠b
 bs:∀ b o,X.base.get? b=some o->X.s₀.heap.get? b=some o/\X.H₀ b=none
 bsz:X.base.objs.size <= X.s₀.heap.objs.size
 noex:∀ b o,X.base.get? b=some o->b∉X.ex
 exfs:∀ b∈X.ex,b∉X.fs
 funs:X.s₀.heap.FunFrames X.base X.outer
 frf:∀ b∈X.fs,X.H₀ b=none
structure Inv (X:Cx) (pins:List (Addr×Obj)) (σ:List (Option V)) (H:Hp) (s:Shared):Prop where
 ok:X.Ok
 os:s.os=X.s₀.os
 bare:AllBare s.gens
 base:Un X.fs X.ex X.H₀ H X.s₀.heap s.heap
 loc:∃ m,s.heap.Ns X.env.locals m/\∀ (i:Nat) (x:Str) (v:V),X.N[i]? = some x->σ[i]? = some (some v)->Vis X.env.scope x->∃ u,zj v u/\zQy X.env s.heap m x u
 cell:∀ x c,X.env.cells.lookup x=some c->∃ v,s.heap.IsCell c v
 free:H X.env.locals=none
 freeC:∀ x c,X.env.cells.lookup x=some c->H c=none
 pin:∀ p∈X.pn++pins,s.heap.get? p.1=some p.2/\H p.1=none/\p.1≠X.env.locals/\p.1∉X.fs/\∀ v,p.2.data≠.cell v
 hok:HOk X.prog X.w H s.heap
 len:σ.length=X.N.length
 tk:0 < s.toks
section
variable {X:Cx}{pins:List (Addr×Obj)}{σ:List (Option V)}{H H':Hp}{s:Shared}{h':Heap}
theorem Cx.Ok.nofr (ok:X.Ok) {b:Addr}{o:Obj} (e:X.base.get? b=some o):b∉X.fs:=fun hb=>by
 have:=(ok.funs.mem hb).1
 rw[e] at this;cases this
theorem Inv.bs (I:Inv X pins σ H s):∀ b o,X.base.get? b=some o->s.heap.get? b=some o/\H b=none:=fun b o e =>
 ⟨I.base.keep b o (I.ok.bs b o e).1 (I.ok.bs b o e).2 (I.ok.nofr e) (I.ok.noex b o e),I.base.free b o (I.ok.bs b o e).1 (I.ok.bs b o e).2 (I.ok.noex b o e)⟩
theorem Inv.bk (I:Inv X pins σ H s):∀ b o,X.base.get? b=some o->s.heap.get? b=some o:=fun b o e=>(I.bs b o e).1
theorem Inv.mod (I:Inv X pins σ H s):Mod X.K X.mg X.base:=I.ok.mod
theorem Inv.kIn (I:Inv X pins σ H s):X.K.In s.heap:=I.ok.mod.kin.keeps I.bk
theorem Inv.fr (I:Inv X pins σ H s):∃ m,Fr X.base X.env.locals s.heap m :=
 let ⟨m,hn,_⟩:=I.loc
 ⟨m,hn,I.bk,Nat.le_trans I.ok.bsz I.ok.above⟩
theorem Inv.lt (I:Inv X pins σ H s):X.env.locals < s.heap.objs.size:=let ⟨_,hn,_⟩:=I.loc;hn.lt
theorem Inv.sz (I:Inv X pins σ H s):X.s₀.heap.objs.size <= s.heap.objs.size:=Nat.le_trans I.ok.above (Nat.le_of_lt I.lt)
theorem Inv.nofs (I:Inv X pins σ H s) {a:Addr} (h:s.heap.objs.size <= a):a∉X.fs:=fun hb=>by
 obtain⟨_,o,ho,_⟩:=I.ok.funs.mem hb
 exact absurd (Nat.lt_of_lt_of_le (Heap.lt_size ho) (Nat.le_trans I.sz h)) (Nat.lt_irrefl _)
theorem Inv.cne (I:Inv X pins σ H s):∀ x c,X.env.cells.lookup x=some c->c≠X.env.locals:=fun x c e z=>by
 obtain⟨v,o,ho,hd⟩:=I.cell x c e
 obtain⟨m,⟨o',es,ep,ho',hd',_⟩,_⟩:=I.loc
 rw[z,ho'] at ho;cases ho;rw[hd'] at hd;cases hd
theorem Inv.funs (I:Inv X pins σ H s):s.heap.FunFrames X.base X.outer:=by
 have all:∀ (l:List Env),(∀ b∈frs l,b∈X.fs)->X.s₀.heap.FunFrames X.base l->s.heap.FunFrames X.base l:=by
  intro l
  induction l with
  | nil=>intro _ _;trivial
  | cons env r ih =>
   intro hs hl
   obtain⟨hk,⟨L,o,hf,hn,ho,hd⟩,hr⟩:=hl
   have hL:L∈X.fs:=hs L (by unfold frs;rw[List.filterMap_cons,hf];exact List.mem_cons_self)
   obtain⟨sl,e⟩:=I.base.slot L o ho (I.ok.frf L hL) hL fun z=>I.ok.exfs L z hL
   exact⟨hk,⟨L,_,hf,hn,e,hd⟩,ih (fun b hb=>hs b (by unfold frs;rw[List.filterMap_cons,hf];exact List.mem_cons_of_mem _ hb)) hr⟩
 exact all X.outer (fun _ hb=>hb) I.ok.funs
theorem Inv.stack (I:Inv X pins σ H s):s.heap.FunFrames X.base X.stack:=by
 rcases I.ok.stk with e | ⟨e,hf⟩
 ·rw[e];exact I.funs
 ·rw[e]
  obtain⟨m,hn,_⟩:=I.loc
  refine .cons (by rw[I.ok.kind];decide) hf hn ?_ I.funs
  exact Heap.get?_none_of_le (Nat.le_trans I.ok.bsz I.ok.above)
theorem Inv.stkSub (I:Inv X pins σ H s):∀ b∈frs X.stack,b∈X.env.locals::X.fs:=fun b hb=>by
 rcases I.ok.stk with e | ⟨e,hf⟩
 ·rw[e] at hb;exact List.mem_cons_of_mem _ hb
 ·rw[e] at hb
  unfold frs at hb
  rw[List.filterMap_cons,hf] at hb
  exact hb
theorem Inv.stkFree (I:Inv X pins σ H s):∀ b∈frs X.stack,H b=none:=fun b hb=>by
 rcases List.mem_cons.mp (I.stkSub b hb) with e | hb
 ·rw[e];exact I.free
 ·obtain⟨_,o,ho,_⟩:=I.ok.funs.mem hb
  exact I.base.free b o ho (I.ok.frf b hb) fun z=>I.ok.exfs b z hb
theorem Inv.step {g':Array GenState}{t':Nat}{d':Drawn}{ch:List Addr} (I:Inv X pins σ H s)
  (hch:∀ b∈ch,(b∈X.ex\/X.s₀.heap.objs.size <= b)/\b≠X.env.locals/\(∀ x c,X.env.cells.lookup x=some c->c≠b)/\∀ p∈X.pn++pins,p.1≠b)
  (keep:∀ b o,b≠X.env.locals->b∉X.fs->b∉ch->s.heap.get? b=some o->H b=none->h'.get? b=some o)
  (slot:∀ b o,b≠X.env.locals->b∈X.fs->b∉ch->s.heap.get? b=some o->H b=none->∃ sl,h'.get? b=some { o with slots:=sl }) (free:∀ b o,b∉ch->s.heap.get? b=some o->H b=none->H' b=none)
  (there:∀ b o,b∉ch->s.heap.get? b=some o->∃ o',h'.get? b=some o')
  (tups:∀ b xs,H b=some (.tup xs)->H' b=some (.tup xs)) (frzs:∀ b o u,H b=some (.frz o u)->H' b=some (.frz o u)) (tbls:∀ b ps,H b=some (.tbl ps)->∃ more,H' b=some (.tbl (ps++more)))
  (ns:∀ m,s.heap.Ns X.env.locals m->h'.Ns X.env.locals m) (hok:HOk X.prog X.w H' h') (hg:AllBare g') (ht:0 < t':=by first | exact Nat.succ_pos _ | assumption | exact Inv.tk (by assumption) | omega) :
  Inv X pins σ H' { s with heap:=h',gens:=g',drawn:=d',toks:=t' }:=by
 have neL:∀ b o,X.s₀.heap.get? b=some o->b≠X.env.locals:=fun b o e=>Nat.ne_of_lt (Nat.lt_of_lt_of_le (Heap.lt_size e) I.ok.above)
 have neC:∀ b o,X.s₀.heap.get? b=some o->b∉X.ex->b∉ch:=fun b o e hx hb=>by
  rcases (hch b hb).1 with z | z
  ·exact hx z
  ·exact absurd (Nat.lt_of_lt_of_le (Heap.lt_size e) z) (Nat.lt_irrefl _)
 have cellK:∀ x c,X.env.cells.lookup x=some c->∀ v,s.heap.IsCell c v->h'.IsCell c v:=fun x c e v ⟨o,ho,hd⟩=>by
  have nch:c∉ch:=fun z=>(hch c z).2.2.1 x c e rfl
  by_cases hc:c∈X.fs
  ·obtain⟨sl,q⟩:=slot c o (I.cne x c e) hc nch ho (I.freeC x c e)
   exact⟨_,q,hd⟩
  ·exact⟨o,keep c o (I.cne x c e) hc nch ho (I.freeC x c e),hd⟩
 refine⟨I.ok,I.os,hg,⟨fun b o e n hb hx=>?_,fun b o e n hb hx=>?_,fun b o e n hx=>?_,fun b o e hx=>?_,fun b xs e=>tups b xs (I.base.tups b xs e),fun b o xs e=>frzs b o xs (I.base.frzs b o xs e),fun b ps e=>?_⟩,?_,fun x c e=>?_,?_,fun x c e=>?_,fun p hp=>?_,hok,I.len,ht⟩
 ·exact keep b o (neL b o e) hb (neC b o e hx) (I.base.keep b o e n hb hx) (I.base.free b o e n hx)
 ·obtain⟨sl,e1⟩:=I.base.slot b o e n hb hx
  obtain⟨sl',e2⟩:=slot b _ (neL b o e) hb (neC b o e hx) e1 (I.base.free b o e n hx)
  exact⟨sl',e2⟩
 ·obtain⟨o',e1⟩:=I.base.there b o e hx
  exact free b o' (neC b o e hx) e1 (I.base.free b o e n hx)
 ·obtain⟨o',e1⟩:=I.base.there b o e hx
  exact there b o' (neC b o e hx) e1
 ·obtain⟨m1,e1⟩:=I.base.tbls b ps e
  obtain⟨m2,e2⟩:=tbls b _ e1
  exact⟨m1++m2,by rw[e2,Array.append_assoc]⟩
 ·obtain⟨m,hn,hl⟩:=I.loc
  refine⟨m,ns m hn,fun i x v e1 e2 e3=>?_⟩
  obtain⟨u,r,l⟩:=hl i x v e1 e2 e3
  refine⟨u,r,?_⟩
  rcases l with l | ⟨k,c,e,z⟩
  ·exact .inl l
  ·exact .inr ⟨k,c,e,cellK x c e _ z⟩
 ·obtain⟨v,z⟩:=I.cell x c e
  exact⟨v,cellK x c e v z⟩
 ·obtain⟨m,⟨o,_,_,ho,_⟩,_⟩:=I.loc
  exact free _ o (fun z=>(hch _ z).2.1 rfl) ho I.free
 ·obtain⟨v,o,ho,hd⟩:=I.cell x c e
  exact free c o (fun z=>(hch c z).2.2.1 x c e rfl) ho (I.freeC x c e)
 ·obtain⟨e,n,ne,nf,d⟩:=I.pin p hp
  have nch:p.1∉ch:=fun z=>(hch p.1 z).2.2.2 p hp rfl
  exact⟨keep p.1 p.2 ne nf nch e n,free p.1 p.2 nch e n,ne,nf,d⟩
theorem Inv.un {t':Nat} (I:Inv X pins σ H s) (u:Un X.fs [] H H' s.heap h') (hok:HOk X.prog X.w H' h') (ht:0 < t':=by first | exact Nat.succ_pos _ | assumption | exact Inv.tk (by assumption) | omega):Inv X pins σ H' { s with heap:=h',toks:=t' }:=by
 obtain⟨m,⟨o,es,ep,ho,r⟩,_⟩:=id I.loc
 obtain⟨sl,hL⟩:=u.any ho I.free (by simp)
 exact I.step (g':=s.gens) (d':=s.drawn) (ch:=[]) (fun _ z=>nomatch z) (fun b o _ hb _ e n=>u.keep b o e n hb (by simp)) (fun b o _ hb _ e n=>u.slot b o e n hb (by simp)) (fun b o _ e n=>u.free b o e n (by simp)) (fun b o _ e=>u.there b o e (by simp)) u.tups u.frzs u.tbls (fun m' hm=>by
  obtain⟨o',es',ep',ho',r'⟩:=hm
  rw[ho] at ho';cases ho'
  exact⟨_,es',ep',hL,r'⟩) hok I.bare ht
theorem Inv.call {g':Array GenState}{t':Nat}{d':Drawn}{ch:List Addr} (I:Inv X pins σ H s) (u:Un (frs X.stack) ch H H' s.heap h') (hok:HOk X.prog X.w H' h') (hg:AllBare g')
  (hch:∀ b∈ch,(b∈X.ex\/X.s₀.heap.objs.size <= b)/\b≠X.env.locals/\(∀ x c,X.env.cells.lookup x=some c->c≠b)/\∀ p∈X.pn++pins,p.1≠b) (ht:0 < t':=by first | exact Nat.succ_pos _ | assumption | exact Inv.tk (by assumption) | omega) :
  Inv X pins σ H' { s with heap:=h',gens:=g',drawn:=d',toks:=t' }:=by
 obtain⟨m,⟨o,es,ep,ho,r⟩,_⟩:=id I.loc
 obtain⟨sl,hL⟩:=u.any ho I.free fun z=>(hch _ z).2.1 rfl
 exact I.step (ch:=ch) hch (fun b o hL hb hc e n=>u.keep b o e n (fun z=>(List.mem_cons.mp (I.stkSub b z)).elim hL hb) hc) (fun b o _ _ hc e n=>u.any e n hc) (fun b o hc e n=>u.free b o e n hc) (fun b o hc e=>u.there b o e hc) u.tups u.frzs u.tbls (fun m' hm=>by
  obtain⟨o',es',ep',ho',r'⟩:=hm
  rw[ho] at ho';cases ho'
  exact⟨_,es',ep',hL,r'⟩) hok hg ht
theorem Inv.turned {t':Nat}{it:Addr} (I:Inv X pins σ H s) (k:∀ b o,b≠it->s.heap.get? b=some o->h'.get? b=some o) (hn:H it=none) (hL:it≠X.env.locals)
  (h1:it∈X.ex\/X.s₀.heap.objs.size <= it) (h2:∀ x c,X.env.cells.lookup x=some c->c≠it) (h3:∀ p∈X.pn++pins,p.1≠it) (ht:0 < t':=by first | exact Nat.succ_pos _ | assumption | exact Inv.tk (by assumption) | omega):Inv X pins σ H { s with heap:=h',toks:=t' }:=by
 have nit:∀ b u,H b=some u->b≠it:=fun b u e z=>by rw[z,hn] at e;cases e
 refine I.step (g':=s.gens) (d':=s.drawn) (ch:=[it]) (fun b hb=>?_) (fun b o _ _ hc e _=>k b o (fun z=>hc (by simp[z])) e) (fun b o _ _ hc e _=>⟨o.slots,k b o (fun z=>hc (by simp[z])) e⟩) (fun _ _ _ _ n=>n)
  (fun b o hc e=>⟨o,k b o (fun z=>hc (by simp[z])) e⟩) (fun _ _ e=>e) (fun _ _ _ e=>e) (fun b ps e=>⟨#[],by rw[e];simp⟩) (fun m hm=>?_) (fun b u e=>?_) I.bare ht
 ·have e:b=it:=by simpa using hb
  subst e
  exact⟨h1,hL,h2,h3⟩
 ·obtain⟨o,es,ep,ho,r⟩:=hm
  exact⟨o,es,ep,k _ o (Ne.symm hL) ho,r⟩
 ·refine (I.hok b u e).stay (fun c v hc q=>k c v ?_ q) (fun _ q=>q) fun _ _ q=>q
  rcases hc with z | z
  ·rw[z];exact nit b u e
  ·exact nit c _ z
theorem Inv.tok (I:Inv X pins σ H s) (t:Nat) (ht:0 < t:=by first | exact Nat.succ_pos _ | assumption | exact Inv.tk (by assumption) | omega):Inv X pins σ H { s with toks:=t }:=I.un (h':=s.heap) (t':=t) Un.refl I.hok ht
theorem Inv.kept {t':Nat} (I:Inv X pins σ H s) (k:∀ b u,s.heap.get? b=some u->h'.get? b=some u) (ht:0 < t':=by first | exact Nat.succ_pos _ | assumption | exact Inv.tk (by assumption) | omega):Inv X pins σ H { s with heap:=h',toks:=t' }:=I.un (Un.kept k) (I.hok.kept k) ht
theorem Inv.laid {a:Addr}{o:HO}{t':Nat} (I:Inv X pins σ H s) (k:∀ b u,s.heap.get? b=some u->h'.get? b=some u) (hp:s.heap.objs.size <= a) (new:jr X.prog X.w (upd H a o) h' a o) (ht:0 < t':=by first | exact Nat.succ_pos _ | assumption | exact Inv.tk (by assumption) | omega) :
  Inv X pins σ (upd H a o) { s with heap:=h',toks:=t' }:=I.un (Un.laid k hp (I.hok.fresh hp)) (I.hok.laid k hp new) ht
theorem Inv.write {x e:Addr}{o:HO}{t':Nat} (I:Inv X pins σ H s) (mu:Mut (H x)) (he:e=x\/H e=some (.own x)) (k:∀ b u,b≠e->s.heap.get? b=some u->h'.get? b=some u) (heo:∃ u,h'.get? e=some u)
  (new:jr X.prog X.w (upd H x o) h' x o) (ht:0 < t':=by first | exact Nat.succ_pos _ | assumption | exact Inv.tk (by assumption) | omega):Inv X pins σ (upd H x o) { s with heap:=h',toks:=t' }:=I.un (Un.write mu he k heo) (I.hok.write mu he k heo new) ht
theorem Inv.weak {σ':List (Option V)} (I:Inv X pins σ H s) (hl:σ'.length=σ.length) (w:∀ (i:Nat) v,σ'[i]? = some (some v)->σ[i]? = some (some v)):Inv X pins σ' H s :=
 ⟨I.ok,I.os,I.bare,I.base,let ⟨m,hn,hl'⟩:=I.loc;⟨m,hn,fun i x v e1 e2 e3=>hl' i x v e1 (w i v e2) e3⟩,I.cell,I.free,I.freeC,I.pin,I.hok,hl.trans I.len,I.tk⟩
theorem Inv.pins_of {pins':List (Addr×Obj)} (I:Inv X pins σ H s) (h:∀ p∈pins',s.heap.get? p.1=some p.2/\H p.1=none/\p.1≠X.env.locals/\p.1∉X.fs/\∀ v,p.2.data≠.cell v):Inv X pins' σ H s :=
 ⟨I.ok,I.os,I.bare,I.base,I.loc,I.cell,I.free,I.freeC,fun p hp=>(List.mem_append.mp hp).elim (fun z=>I.pin p (List.mem_append_left _ z)) (h p),I.hok,I.len,I.tk⟩
theorem zHv {N:List Str} (hN:N.Nodup) {i j:Nat}{x:Str} (a:N[i]? = some x) (b:N[j]? = some x):i=j:=by
 obtain⟨h1,e1⟩:=List.getElem?_eq_some_iff.mp a
 obtain⟨h2,e2⟩:=List.getElem?_eq_some_iff.mp b
 exact (List.getElem_inj hN).mp (e1.trans e2.symm)
theorem zFg {M:Model}{A:Around}{E:Value->Shared->Prop}{i:Nat}{x:Str}{v:V}{u:Value}{Q:Unit->Shared->Prop} (I:Inv X pins σ H s) (hN:X.N.Nodup) (hi:X.N[i]? = some x) (hx:Loc X.env.scope x) (r:zj v u)
  (h:∀ s',Inv X pins (σ.set i (some v)) H s'->(∃ a,Heap.SameBut a s.heap s'.heap/\(a=X.env.locals\/X.env.cells.lookup x=some a))->Q () s') (hf:X.fn x=true\/X.env.scope.names.lookup x=some .local:=by first | exact .inl rfl | exact .inr rfl | assumption):wpAny M A (storeName X.env x u) Q E s:=by
 obtain⟨m,hn,hl⟩:=id I.loc
 have hcls:(X.env.scope.kind == .class || (X.env.scope.kind == .module && X.env.locals != X.env.globals))=false:=by rw[I.ok.kind];rfl
 have hiσ:i < σ.length:=by rw[I.len];exact (List.getElem?_eq_some_iff.mp hi).1
 have cne:=I.cne
 have tracked:∀ {a:Addr}{h':Heap},(∃ o,s.heap.get? a=some o/\H a=none)->Heap.SameBut a s.heap h'->HOk X.prog X.w H h':=fun {a h'} ha hs b ob e=>by
  obtain⟨_,_,hfree⟩:=ha
  refine (I.hok b ob e).stay (fun c w' hc q=>(hs.2 c ?_).trans q) (fun _ q=>q) fun _ _ q=>q
  rintro rfl
  rcases hc with rfl | hc
  ·rw[hfree] at e;cases e
  ·rw[hfree] at hc;cases hc
 rcases hx with hk | hk
 ·refine wpAny_storeName_local hk hn (fun h' hn' hs=>?_) hcls
  obtain⟨oL,_,_,hoL,_⟩:=id hn
  refine h _ ⟨I.ok,I.os,I.bare,⟨fun b o e n hb hx=>?_,fun b o e n hb hx=>?_,I.base.free,fun b o e hx=>?_,I.base.tups,I.base.frzs,I.base.tbls⟩,⟨_,hn',fun j y v' e1 e2 e3=>?_⟩,fun y c e=>?_,I.free,I.freeC,fun p hp=>?_,tracked ⟨oL,hoL,I.free⟩ hs,by simpa using I.len,Nat.succ_pos _⟩ ⟨_,hs,.inl rfl⟩
  ·exact (hs.2 b (Nat.ne_of_lt (Nat.lt_of_lt_of_le (Heap.lt_size e) I.ok.above))).trans (I.base.keep b o e n hb hx)
  ·obtain⟨sl,e1⟩:=I.base.slot b o e n hb hx
   exact⟨sl,(hs.2 b (Nat.ne_of_lt (Nat.lt_of_lt_of_le (Heap.lt_size e) I.ok.above))).trans e1⟩
  ·obtain⟨o',e1⟩:=I.base.there b o e hx
   exact⟨o',(hs.2 b (Nat.ne_of_lt (Nat.lt_of_lt_of_le (Heap.lt_size e) I.ok.above))).trans e1⟩
  ·by_cases hj:j=i
   ·subst hj
    rw[hi] at e1;cases e1
    rw[List.getElem?_set_self hiσ] at e2
    cases e2
    exact⟨u,r,.inl ⟨hk,by simp⟩⟩
   ·rw[List.getElem?_set_ne (Ne.symm hj)] at e2
    obtain⟨u',r',q⟩:=hl j y v' e1 e2 e3
    refine⟨u',r',?_⟩
    rcases q with ⟨k,e⟩ | ⟨k,c,e,z⟩
    ·refine .inl ⟨k,?_⟩
     have:y≠x:=fun e=>hj (zHv hN e1 (e ▸ hi))
     simp[this,e]
    ·exact .inr ⟨k,c,e,z.sameBut hs (cne y c e)⟩
  ·obtain⟨w',z⟩:=I.cell y c e
   exact⟨w',z.sameBut hs (cne y c e)⟩
  ·obtain⟨e,n,ne,nf,d⟩:=I.pin p hp
   exact⟨(hs.2 p.1 ne).trans e,n,ne,nf,d⟩
 ·have hfn:X.fn x=true:=by
   rcases hf with z | z
   ·exact z
   ·rw[z] at hk;cases hk
  obtain⟨c,hc⟩:=I.ok.has x (.inl hk)
  obtain⟨w',z⟩:=I.cell x c hc
  refine wpAny_storeName_cell I.ok.kind hk hc z (fun h' hc' hs=>?_)
  obtain⟨oc,hoc,hocd⟩:=id z
  refine h { s with heap:=h' } ⟨I.ok,I.os,I.bare,⟨fun b o e n hb hx=>?_,fun b o e n hb hx=>?_,I.base.free,fun b o e hx=>?_,I.base.tups,I.base.frzs,I.base.tbls⟩,⟨m,hn.sameBut hs (Ne.symm (cne x c hc)),fun j y v' e1 e2 e3=>?_⟩,fun y c' e=>?_,I.free,I.freeC,fun p hp=>?_,tracked ⟨oc,hoc,I.freeC x c hc⟩ hs,by simpa using I.len,I.tk⟩ ⟨c,hs,.inr hc⟩
  ·exact (hs.2 b (Nat.ne_of_lt (Nat.lt_of_lt_of_le (Heap.lt_size e) (I.ok.cab x c hfn hc)))).trans (I.base.keep b o e n hb hx)
  ·obtain⟨sl,e1⟩:=I.base.slot b o e n hb hx
   exact⟨sl,(hs.2 b (Nat.ne_of_lt (Nat.lt_of_lt_of_le (Heap.lt_size e) (I.ok.cab x c hfn hc)))).trans e1⟩
  ·obtain⟨o',e1⟩:=I.base.there b o e hx
   exact⟨o',(hs.2 b (Nat.ne_of_lt (Nat.lt_of_lt_of_le (Heap.lt_size e) (I.ok.cab x c hfn hc)))).trans e1⟩
  ·by_cases hj:j=i
   ·subst hj
    rw[hi] at e1;cases e1
    rw[List.getElem?_set_self hiσ] at e2
    cases e2
    exact⟨u,r,.inr ⟨.inl hk,c,hc,hc'⟩⟩
   ·rw[List.getElem?_set_ne (Ne.symm hj)] at e2
    obtain⟨u',r',q⟩:=hl j y v' e1 e2 e3
    refine⟨u',r',?_⟩
    rcases q with q | ⟨k,c',e,z'⟩
    ·exact .inl q
    ·refine .inr ⟨k,c',e,z'.sameBut hs ?_⟩
     rintro rfl
     exact hj (zHv hN e1 (I.ok.inj _ _ _ e hc ▸ hi))
  ·by_cases hcc:c'=c
   ·subst hcc;exact⟨_,hc'⟩
   ·obtain⟨w2,z2⟩:=I.cell y c' e
    exact⟨w2,z2.sameBut hs hcc⟩
  ·obtain⟨e,n,ne,nf,d⟩:=I.pin p hp
   refine⟨(hs.2 p.1 ?_).trans e,n,ne,nf,d⟩
   intro q
   rw[q,hoc] at e
   have q':oc=p.2:=Option.some.inj e
   exact d w' (by rw[<- q'];exact hocd)
theorem zDW {M:Model}{A:Around}{E:Value->Shared->Prop}{i:Nat}{x:Str}{v:V}{u:Value}{Q:Unit->Shared->Prop} (I:Inv X pins σ H s) (hN:X.N.Nodup) (hi:X.N[i]? = some x) (hx:Loc X.env.scope x) (r:zj v u)
  (h:∀ s',Inv X pins (σ.set i (some v)) H s'->Q () s') (hf:X.fn x=true\/X.env.scope.names.lookup x=some .local:=by first | exact .inl rfl | exact .inr rfl | assumption):wpAny M A (storeName X.env x u) Q E s :=
 zFg I hN hi hx r (fun s' I' _=>h s' I') hf
theorem Inv.call' {s':Shared}{ch:List Addr} (I:Inv X pins σ H s) (ho:s'.os=s.os) (u:Un (frs X.stack) ch H H' s.heap s'.heap) (hok:HOk X.prog X.w H' s'.heap) (hg:AllBare s'.gens)
  (hch:∀ b∈ch,(b∈X.ex\/X.s₀.heap.objs.size <= b)/\b≠X.env.locals/\(∀ x c,X.env.cells.lookup x=some c->c≠b)/\∀ p∈X.pn++pins,p.1≠b) (ht:0 < s'.toks):Inv X pins σ H' s':=by
 obtain⟨h',g',d',t',o'⟩:=s'
 have e:o'=s.os:=ho
 subst e
 exact I.call (g':=g') (t':=t') (d':=d') u hok hg hch ht
end
abbrev XK:=Value->Option Addr->Hp->Prop
abbrev St:=List (Option V)
abbrev VK:=V->Hp->Prop
abbrev TE:=St->Hp->VK->Prop
abbrev TT:=St->Hp->(Bool->Hp->Prop)->Prop
abbrev TA:=St->Hp->(List V->Hp->Prop)->Prop
structure Jc where
 nx:St->Hp->Prop
 rt:VK
 bk:St->Hp->Prop:=fun _ _=>False
 ct:St->Hp->Prop:=fun _ _=>False
abbrev TS:=Jc->St->Hp->Prop
def EP (X:Cx) (pins:List (Addr×Obj)) (σ:St) (Q:VK) (u:Value) (s':Shared):Prop:=∃ v H',Inv X pins σ H' s'/\zj v u/\Q v H'
def TP (X:Cx) (pins:List (Addr×Obj)) (σ:St) (Q:Bool->Hp->Prop) (b:Bool) (s':Shared):Prop:=∃ H',Inv X pins σ H' s'/\Q b H'
def AP (X:Cx) (pins:List (Addr×Obj)) (σ:St) (Q:List V->Hp->Prop) (us:List Value) (s':Shared):Prop:=∃ vs H',Inv X pins σ H' s'/\zh vs us/\Q vs H'
def SP (X:Cx) (pins:List (Addr×Obj)) (D:Jc) (f:Flow) (s':Shared):Prop :=
 match f with
 | .next=>∃ σ' H',Inv X pins σ' H' s'/\D.nx σ' H'
 | .brk=>∃ σ' H',Inv X pins σ' H' s'/\D.bk σ' H'
 | .cont=>∃ σ' H',Inv X pins σ' H' s'/\D.ct σ' H'
 | .ret u=>∃ v σ' H',Inv X pins σ' H' s'/\zj v u/\D.rt v H'
def PE (X:Cx) (e:Expr) (t:TE):Prop :=
 ∀ (pins:List (Addr×Obj)) (s:Shared) (σ:St) (H:Hp) (Q:VK),Inv X pins σ H s->t σ H Q->wpAny (model X.prog X.w) X.A (eval e X.env) (EP X pins σ Q) X.xe s
def PT (X:Cx) (e:Expr) (t:TT):Prop :=
 ∀ (pins:List (Addr×Obj)) (s:Shared) (σ:St) (H:Hp) (Q:Bool->Hp->Prop),Inv X pins σ H s->t σ H Q->wpAny (model X.prog X.w) X.A (isTrue e X.env (eval e X.env)) (TP X pins σ Q) X.xe s
def PW (X:Cx) (e:Expr) (t:TT):Prop :=
 ∀ (whole:Sem Value) (pins:List (Addr×Obj)) (s:Shared) (σ:St) (H:Hp) (Q:Bool->Hp->Prop),Inv X pins σ H s->t σ H Q->wpAny (model X.prog X.w) X.A (isTrue e X.env whole) (TP X pins σ Q) X.xe s
theorem PW.pt {X:Cx}{e:Expr}{t:TT} (h:PW X e t):PT X e t:=h _
def PA (X:Cx) (es:List Expr) (t:TA):Prop :=
 ∀ (pos:Pos) (pins:List (Addr×Obj)) (s:Shared) (σ:St) (H:Hp) (Q:List V->Hp->Prop),Inv X pins σ H s->t σ H Q->wpAny (model X.prog X.w) X.A (spliced (backTo pos (starEach es X.env))) (AP X pins σ Q) X.xe s
def PS (X:Cx) (st:Stmt) (t:TS):Prop :=
 ∀ (pins:List (Addr×Obj)) (s:Shared) (σ:St) (H:Hp) (D:Jc),Inv X pins σ H s->t D σ H->wpAny (model X.prog X.w) X.A (exec st X.env) (SP X pins D) X.xe s
def PSs (X:Cx) (st:List Stmt) (t:TS):Prop :=
 ∀ (pins:List (Addr×Obj)) (s:Shared) (σ:St) (H:Hp) (D:Jc),Inv X pins σ H s->t D σ H->wpAny (model X.prog X.w) X.A (execs st X.env) (SP X pins D) X.xe s
theorem thn {α:Type}{t:Sem α}{Q Q':α->Shared->Prop}{M:Model}{A:Around}{E:Value->Shared->Prop}{s:Shared} (h:wpAny M A t Q E s) (hQ:∀ a s,Q a s->Q' a s):wpAny M A t Q' E s:=wpAny_mono h hQ fun _ _ x=>x
end L2
namespace L2
open PySem PySem.Spec PyProof.Rows
section
variable {X:Cx}
def zRO (i:Nat):TE:=fun σ H Q=>∃ v,σ[i]? = some (some v)/\Q v H
def tC (v:V):TE:=fun _ H Q=>Q v H
theorem zPL {i:Nat}{x:Str}{pos:Pos} (hN:X.N[i]? = some x) (hv:Vis X.env.scope x) (hd:(x == ("__debug__" : Str))=false:=by decide) (hcd:(x == ("__classdict__" : Str))=false:=by decide):PE X (.Name x pos) (zRO i):=by
 intro pins s σ H Q I h
 obtain⟨v,e,h⟩:=h
 obtain⟨m,hn,hl⟩:=I.loc
 obtain⟨u,r,l⟩:=hl i x v hN e hv
 have fin:EP X pins σ Q u s:=⟨v,H,I,r,h⟩
 rcases l with ⟨hk,hm⟩ | ⟨hk,c,hc,hcell⟩
 ·exact wpAny_Name (wpAny_loadName_local I.ok.kind hk hn hm fin) hd
 ·rcases hk with hk | hk
  ·exact wpAny_Name (wpAny_loadName_cell I.ok.kind hk hc hcell fin) hd
  ·exact wpAny_Name (wpAny_loadName_free I.ok.kind hk hc hcell fin hcd) hd
theorem zPw {i j pos}:PE X (.Constant (.int i) j pos) (tC (.int i)):=fun _ _ _ H _ I h=>wpAny_Constant_int ⟨.int i,H,I.tok _,⟨_,rfl⟩,h⟩
theorem zQa {b j pos}:PE X (.Constant (.bool b) j pos) (tC (.bl b)):=fun _ _ _ H _ I h=>Constant_bool ⟨.bl b,H,I,rfl,h⟩
theorem zPs {j pos}:PE X (.Constant .none j pos) (tC .non):=fun _ _ _ H _ I h=>Constant_none ⟨.non,H,I,rfl,h⟩
theorem zK7 {x j pos}:PE X (.Constant (.str x) j pos) (tC (.str x)):=fun _ _ _ H _ I h=>Calls.Constant_str ⟨.str x,H,I.tok _,⟨_,rfl⟩,h⟩
def Gl (X:Cx) (x:Str):Prop:=X.env.kindOf x=some .globalImplicit
theorem zNP {E:Value->Shared->Prop}{pins:List (Addr×Obj)}{s:Shared}{σ:St}{H:Hp}{x:Str}{u:Value}{pos:Pos}{Q:Value->Shared->Prop} (I:Inv X pins σ H s) (hg:Gl X x) (hm:X.mg x=some u) (h:Q u s)
  (hd:(x == ("__debug__" : Str))=false:=by decide):wpAny (model X.prog X.w) X.A (eval (.Name x pos) X.env) Q E s :=
 Calls.Name_function_global I.ok.kind hg (Calls.loadGlobal_global (by rw[I.ok.glob];exact I.mod.glob.keeps I.bk) hm h) hd
theorem zAC {E:Value->Shared->Prop}{pins:List (Addr×Obj)}{s:Shared}{σ:St}{H:Hp}{x:Str}{u:Value}{pos:Pos}{Q:Value->Shared->Prop} (I:Inv X pins σ H s) (hg:Gl X x) (hm:X.mg x=none) (hv:bootBuiltins x=some u) (h:Q u s)
  (hn:x ≠ "__name__" := by decide) (hd:(x == ("__debug__" : Str))=false:=by decide):wpAny (model X.prog X.w) X.A (eval (.Name x pos) X.env) Q E s:=by
 obtain⟨mb,h1,h2⟩:=I.mod.blt
 exact Calls.Name_function_global I.ok.kind hg (Calls.loadGlobal_builtin (by rw[I.ok.glob];exact I.mod.glob.keeps I.bk) hm (by rw[I.ok.blt];exact h1.keeps I.bk) ((h2 x hn).trans hv) h) hd
theorem zM7 {x:Str}{v:V}{u:Value}{pos:Pos} (hg:Gl X x) (hm:X.mg x=none) (hv:bootBuiltins x=some u) (r:zj v u) (hn:x ≠ "__name__" := by decide) (hd:(x == ("__debug__" : Str))=false:=by decide):PE X (.Name x pos) (tC v) :=
 fun _ _ _ H _ I h=>zAC I hg hm hv ⟨v,H,I,r,h⟩ hn hd
variable {a b:Expr}{ta tb:TE}{pos:Pos}
def PC (X:Cx) (op:CmpOp) (a b:Expr) (t:TE):Prop :=
 ∀ (pins:List (Addr×Obj)) (s:Shared) (σ:St) (H:Hp) (Q:VK),Inv X pins σ H s->t σ H Q ->
  wpAny (model X.prog X.w) X.A (eval a X.env) (fun v s₁=>wpAny (model X.prog X.w) X.A (eval b X.env) (fun u s₂=>wpAny (model X.prog X.w) X.A (compareOp op v u) (EP X pins σ Q) X.xe s₂) X.xe s₁) X.xe s
theorem zHh (b:Expr) {op:CmpOp} (h:op≠.In) (h2:op≠.NotIn):behindInMarks op b=false:=by
 have e1:(op == CmpOp.In)=false:=by cases op<;>first | rfl | exact absurd rfl h
 have e2:(op == CmpOp.NotIn)=false:=by cases op<;>first | rfl | exact absurd rfl h2
 cases b<;>simp[behindInMarks,e1,e2]
def Qz (ta:TE):TE:=fun σ H Q=>ta σ H fun x H1=>Q (.bl (decide (x=.non))) H1
def yS (ta:TE):TE:=fun σ H Q=>ta σ H fun x H1=>Q (.bl (!decide (x=.non))) H1
theorem zj.none_iff {x:V}{v:Value} (r:zj x v):(v == Value.none)=decide (x=.non):=by
 cases x with
 | non=>cases r;rfl
 | bl _=>cases r;rfl
 | int _=>obtain⟨t,rfl⟩:=r;rfl
 | str _=>obtain⟨t,rfl⟩:=r;rfl
 | byt _=>obtain⟨t,rfl⟩:=r;rfl
 | flt _=>obtain⟨t,rfl⟩:=r;rfl
 | ref _=>cases r;rfl
 | ty _=>cases r;rfl
theorem zKE {j pos'} (ha:PE X a ta):PC X .Is a (.Constant .none j pos') (Qz ta):=by
 intro pins s σ H Q I h
 refine thn (ha pins s σ H _ I h) fun v s1 ⟨x,H1,I1,r1,q1⟩=>?_
 exact Constant_none (is_none_gen ⟨.bl _,H1,I1,by rw[r1.none_iff];rfl,q1⟩)
theorem zNX {j pos'} (ha:PE X a ta):PC X .IsNot a (.Constant .none j pos') (yS ta):=by
 intro pins s σ H Q I h
 refine thn (ha pins s σ H _ I h) fun v s1 ⟨x,H1,I1,r1,q1⟩=>?_
 exact Constant_none (isnot_none_gen ⟨.bl _,H1,I1,by rw[r1.none_iff];rfl,q1⟩)
def tB (t:TE):TT:=fun σ H Q=>t σ H fun x H1=>∃ c,x=.bl c/\Q c H1
theorem zPt {op:CmpOp}{t:TE} (h:PC X op a b t) (h1:behindInMarks op b=false:=by first | exact zHh _ (by decide) (by decide) | rfl):PE X (.Compare a [op] [b] pos) t:=fun pins s σ H Q I hw=>wpAny_Compare1 (h pins s σ H Q I hw) h1
theorem zKV {op:CmpOp}{t:TE} (h:PC X op a b t) (h1:behindInMarks op b=false:=by first | exact zHh _ (by decide) (by decide) | rfl):PT X (.Compare a [op] [b] pos) (tB t):=by
 intro pins s σ H Q I hw
 refine wpAny_isTrue_Compare1 (thn (h pins s σ H _ I hw) fun v s1 h1=>thn h1 fun u s2 h2=>thn h2 fun c s3 ⟨x,H1,I1,r1,q1⟩=>?_) h1
 obtain⟨d,rfl,q⟩:=q1
 cases r1
 exact wpAny_truthy_bool ⟨H1,I1,q⟩
variable {tA tB':TT}{qF:List Expr}
def JS (t u:TT):TT:=fun σ H Q=>t σ H fun c H1=>if c=true then u σ H1 Q else Q false H1
def tOr (t u:TT):TT:=fun σ H Q=>t σ H fun c H1=>if c=true then Q true H1 else u σ H1 Q
def ZE (t:TT):TT:=fun σ H Q=>t σ H fun c H1=>Q (!c) H1
theorem zN0 (ha:PT X a tA):PW X (.BoolOp .And [a] pos) tA:=by
 intro wh pins s σ H Q I h
 refine isTrue_and (thn (ha pins s σ H Q I h) fun c s1 e=>?_)
 cases c with
 | true=>exact isTrue_and_nil e
 | false=>exact e
theorem zPl (ha:PT X a tA):PW X (.BoolOp .Or [a] pos) tA:=by
 intro wh pins s σ H Q I h
 refine isTrue_or (thn (ha pins s σ H Q I h) fun c s1 e=>?_)
 cases c with
 | false=>exact isTrue_or_nil e
 | true=>exact e
theorem zQC (ha:PT X a tA) (hb:PW X (.BoolOp .And (b::qF) pos) tB'):PW X (.BoolOp .And (a::b::qF) pos) (JS tA tB'):=by
 intro wh pins s σ H Q I h
 refine isTrue_and (thn (ha pins s σ H _ I h) fun c s1 ⟨H1,I1,q1⟩=>?_)
 cases c with
 | true=>exact hb wh pins s1 σ H1 Q I1 q1
 | false=>exact⟨H1,I1,q1⟩
theorem zQU (ha:PT X a tA) (hb:PW X (.BoolOp .Or (b::qF) pos) tB'):PW X (.BoolOp .Or (a::b::qF) pos) (tOr tA tB'):=by
 intro wh pins s σ H Q I h
 refine isTrue_or (thn (ha pins s σ H _ I h) fun c s1 ⟨H1,I1,q1⟩=>?_)
 cases c with
 | true=>exact⟨H1,I1,q1⟩
 | false=>exact hb wh pins s1 σ H1 Q I1 q1
theorem zPA (ha:PT X a tA):PT X (.UnaryOp .Not a pos) (ZE tA):=by
 intro pins s σ H Q I h
 exact isTrue_not (ha pins s σ H (fun c H1=>Q (!c) H1) I h)
def zQF (ta tb:TE):TE:=fun σ H Q=>ta σ H fun x H1=>∃ c,x=.bl c/\if c=true then tb σ H1 Q else Q (.bl false) H1
theorem zPo {op}{t:TE} (h:PE X a t):PE X (.BoolOp op [a] pos) t:=fun pins s σ H Q I hw=>BoolOp_one (h pins s σ H Q I hw)
theorem zPX (ha:PE X a ta) (hb:PE X (.BoolOp .And (b::qF) pos) tb):PE X (.BoolOp .And (a::b::qF) pos) (zQF ta tb):=by
 intro pins s σ H Q I h
 refine BoolOp_and (thn (ha pins s σ H _ I h) fun v s1 ⟨x,H1,I1,r1,q1⟩=>?_)
 obtain⟨c,rfl,q1⟩:=q1
 cases r1
 refine wpAny_truthy_bool ?_
 cases c with
 | true=>exact hb pins s1 σ H1 Q I1 q1
 | false=>exact⟨.bl false,H1,I1,rfl,q1⟩
end
end L2
namespace L2
open PySem PySem.Spec PyProof.Rows
def SqL (K:PySem.W.Frag) (H:Hp) (a:Addr) (xs:List V):Prop :=
 Rd H a (.lst xs) \/
  ∃ (o:Obj) (its:Array Value) (n:Nat),K.lookup a=some o/\o.cls=.type "list" /\ o.dict=none/\o.data=.seq its n/\its.size <= sizeLine/\zh xs its.toList
def SqT (K:PySem.W.Frag) (H:Hp) (a:Addr) (xs:List V):Prop :=
 Rd H a (.tup xs) \/
  ∃ (o:Obj) (its:Array Value) (n:Nat),K.lookup a=some o/\o.cls=.type "tuple" /\ o.data=.seq its n/\its.size <= sizeLine/\zh xs its.toList
def zRU:Value->Option V
 | .none=>some .non
 | .bool b=>some (.bl b)
 | .int i _=>some (.int i)
 | .str x _=>some (.str x)
 | .bytes b _=>some (.byt b)
 | .float b _=>some (.flt b)
 | .ref a=>some (.ref a)
 | .type n=>some (.ty n)
 | _=>none
theorem zj.abs {x:V}{u:Value} (r:zj x u):zRU u=some x:=by
 cases x with
 | non=>cases r;rfl
 | bl _=>cases r;rfl
 | int _=>obtain⟨t,rfl⟩:=r;rfl
 | str _=>obtain⟨t,rfl⟩:=r;rfl
 | byt _=>obtain⟨t,rfl⟩:=r;rfl
 | flt _=>obtain⟨t,rfl⟩:=r;rfl
 | ref _=>cases r;rfl
 | ty _=>cases r;rfl
theorem zj.inj {x y:V}{u:Value} (r:zj x u) (q:zj y u):x=y:=Option.some.inj (r.abs.symm.trans q.abs)
theorem zh.inj:∀ {xs ys:List V}{us:List Value},zh xs us->zh ys us->xs=ys
 | _,_,_,.nil,.nil=>rfl
 | _,_,_,.cons r t,.cons r' t'=>by rw[r.inj r',zh.inj t t']
section
variable {X:Cx}{pins:List (Addr×Obj)}{σ:St}{H:Hp}{s:Shared}{a:Addr}{xs ys:List V}
theorem SqL.of {K:PySem.W.Frag} (h:H a=some (.lst xs)):SqL K H a xs:=.inl (.inl h)
theorem SqT.of {K:PySem.W.Frag} (h:H a=some (.tup xs)):SqT K H a xs:=.inl (.inl h)
theorem Inv.list (I:Inv X pins σ H s) (h:SqL X.K H a xs):∃ its:List Value,zh xs its/\PlainL s.heap a its.toArray/\xs.length <= sizeLine:=by
 rcases h with h | ⟨o,its,n,hk,hc,hd,hs,hz,r⟩
 ·obtain⟨z,its,n,r,e⟩:=h.ok I.hok
  exact⟨its,r,⟨_,n,e,rfl,rfl,rfl⟩,z⟩
 ·refine⟨its.toList,r,⟨o,n,I.kIn a o hk,hc,hd,by simpa using hs⟩,?_⟩
  have e:=r.length
  simp only[Array.length_toList] at e
  omega
theorem Inv.tuple (I:Inv X pins σ H s) (h:SqT X.K H a xs):∃ its:List Value,zh xs its/\IsTup s.heap a its.toArray/\xs.length <= sizeLine:=by
 rcases h with h | ⟨o,its,n,hk,hc,hs,hz,r⟩
 ·obtain⟨z,its,r,p⟩:=h.ok I.hok
  exact⟨its,r,p,z⟩
 ·refine⟨its.toList,r,⟨o,I.kIn a o hk,hc,n,by simpa using hs⟩,?_⟩
  have e:=r.length
  simp only[Array.length_toList] at e
  omega
theorem Inv.list_inj (I:Inv X pins σ H s) (h:SqL X.K H a xs) (h':SqL X.K H a ys):xs=ys:=by
 obtain⟨its,r,⟨o,n,e,_,_,d⟩,_⟩:=I.list h
 obtain⟨its',r',⟨o',n',e',_,_,d'⟩,_⟩:=I.list h'
 rw[e] at e';cases e'
 rw[d] at d'
 injection d' with d1 _
 have:its=its':=by simpa using congrArg Array.toList d1
 subst this
 exact r.inj r'
theorem Inv.tuple_inj (I:Inv X pins σ H s) (h:SqT X.K H a xs) (h':SqT X.K H a ys):xs=ys:=by
 obtain⟨its,r,⟨o,e,_,n,d⟩,_⟩:=I.tuple h
 obtain⟨its',r',⟨o',e',_,n',d'⟩,_⟩:=I.tuple h'
 rw[e] at e';cases e'
 rw[d] at d'
 injection d' with d1 _
 have:its=its':=by simpa using congrArg Array.toList d1
 subst this
 exact r.inj r'
end
abbrev Cx.wish (X:Cx) (E:Value->Shared->Prop):Cx:={ X with xe:=E }
abbrev Cx.nox (X:Cx):Cx:=X.wish fun _ _=>False
theorem Cx.Ok.wish {X:Cx} (ok:X.Ok) (E:Value->Shared->Prop):(X.wish E).Ok :=
 ⟨ok.mod,ok.kind,ok.glob,ok.blt,ok.above,ok.inj,ok.has,ok.cab,ok.hd,ok.frames,ok.stk,ok.exf,ok.bs,ok.bsz,ok.noex,ok.exfs,ok.funs,ok.frf⟩
theorem Cx.Ok.unwish {X:Cx}{E:Value->Shared->Prop} (ok:(X.wish E).Ok):X.Ok :=
 ⟨ok.mod,ok.kind,ok.glob,ok.blt,ok.above,ok.inj,ok.has,ok.cab,ok.hd,ok.frames,ok.stk,ok.exf,ok.bs,ok.bsz,ok.noex,ok.exfs,ok.funs,ok.frf⟩
section
variable {X:Cx}{pins:List (Addr×Obj)}{σ:St}{H:Hp}{s:Shared}{E:Value->Shared->Prop}
theorem Inv.wish (I:Inv X pins σ H s) (E:Value->Shared->Prop):Inv (X.wish E) pins σ H s:=⟨I.ok.wish E,I.os,I.bare,I.base,I.loc,I.cell,I.free,I.freeC,I.pin,I.hok,I.len,I.tk⟩
theorem Inv.unwish (I:Inv (X.wish E) pins σ H s):Inv X pins σ H s:=⟨I.ok.unwish,I.os,I.bare,I.base,I.loc,I.cell,I.free,I.freeC,I.pin,I.hok,I.len,I.tk⟩
theorem SP.unwish {D:Jc}{f:Flow}{s':Shared} (h:SP (X.wish E) pins D f s'):SP X pins D f s':=by
 cases f with
 | next=>obtain⟨σ',H',I,q⟩:=h;exact⟨σ',H',I.unwish,q⟩
 | brk=>obtain⟨σ',H',I,q⟩:=h;exact⟨σ',H',I.unwish,q⟩
 | cont=>obtain⟨σ',H',I,q⟩:=h;exact⟨σ',H',I.unwish,q⟩
 | ret u=>obtain⟨v,σ',H',I,r,q⟩:=h;exact⟨v,σ',H',I.unwish,r,q⟩
theorem PSs.nox {st:List Stmt}{t:TS} (h:PSs X.nox st t):PSs X st t:=fun pins s σ H D I hw =>
 wpAny_mono (h pins s σ H D (I.wish _) hw) (fun _ _ q=>q.unwish) fun _ _ z=>False.elim z
end
section
variable {X:Cx}{st:Stmt}{qF:List Stmt}{t u:TS}{e:Expr}{te:TE}{pos:Pos}
def zQr:TS:=fun D σ H=>D.nx σ H
def zQ0 (t u:TS):TS:=fun D σ H=>t { D with nx:=u D } σ H
theorem zN4:PSs X [] zQr:=fun _ _ σ H _ I h=>wpAny_execs_nil ⟨σ,H,I,h⟩
theorem zMC (h1:PS X st t) (h2:PSs X qF u):PSs X (st::qF) (zQ0 t u):=by
 intro pins s σ H D I h
 refine wpAny_execs_cons (thn (h1 pins s σ H { D with nx:=u D } I h) fun f s1 q=>?_)
 cases f with
 | next =>
  obtain⟨σ',H',I',q⟩:=q
  exact h2 pins s1 σ' H' D I' q
 | ret v=>exact q
 | brk=>exact q
 | cont=>exact q
theorem zNJ (h1:PS X st t):PSs X [st] t:=by
 intro pins s σ H D I h
 refine wpAny_execs_cons (thn (h1 pins s σ H D I h) fun f s1 q=>?_)
 cases f with
 | next=>exact wpAny_execs_nil q
 | ret v=>exact q
 | brk=>exact q
 | cont=>exact q
theorem Inv.quiet {pins:List (Addr×Obj)}{σ:St}{H:Hp}{s:Shared} (I:Inv X pins σ H s):interactive X.env=false:=by simp[interactive,I.ok.kind]
def zQE (te:TE):TS:=fun D σ H=>te σ H fun _ H1=>D.nx σ H1
theorem zNB (he:PE X e te) (hs:swapsWith e none pos.line X.env=pure false:=by rfl):PS X (.Expr e pos) (zQE te):=by
 intro pins s σ H D I h
 exact wpAny_Expr_any (thn (he pins s σ H _ I h) fun v s1 ⟨x,H1,I1,r1,q1⟩=>⟨σ,H1,I1,q1⟩) I.quiet hs
def zRS (te:TE):TS:=fun D σ H=>te σ H D.rt
theorem zPU (he:PE X e te):PS X (.Return (some e) pos) (zRS te):=by
 intro pins s σ H D I h
 exact wpAny_Return_some (thn (he pins s σ H _ I h) fun v s1 ⟨x,H1,I1,r1,q1⟩=>⟨x,σ,H1,I1,r1,q1⟩)
def zRJ (c:TT) (t u:TS):TS:=fun D σ H=>c σ H fun b H1=>if b=true then t D σ H1 else u D σ H1
theorem zQQ {c:Expr}{a b:List Stmt}{tc:TT} (hc:PT X c tc) (ha:PSs X a t) (hb:PSs X b u):PS X (.If c a b pos) (zRJ tc t u):=by
 intro pins s σ H D I h
 refine wpAny_If (thn (hc pins s σ H _ I h) fun d s1 ⟨H1,I1,q1⟩=>?_)
 cases d with
 | true=>exact ha pins s1 σ H1 D I1 q1
 | false=>exact hb pins s1 σ H1 D I1 q1
end
abbrev TG:=V->St->Hp->(St->Hp->Prop)->Prop
abbrev TGs:=List V->St->Hp->(St->Hp->Prop)->Prop
def PG (X:Cx) (target:Expr) (t:TG):Prop :=
 ∀ (pins:List (Addr×Obj)) (s:Shared) (σ:St) (H:Hp) (v:V) (u:Value) (Q:St->Hp->Prop),Inv X pins σ H s->zj v u->t v σ H Q ->
  wpAny (model X.prog X.w) X.A (assign target X.env u) (fun _ s'=>∃ σ' H',Inv X pins σ' H' s'/\Q σ' H') X.xe s
def PGs (X:Cx) (ts:List Expr) (t:TGs):Prop :=
 ∀ (pins:List (Addr×Obj)) (s:Shared) (σ:St) (H:Hp) (vs:List V) (us:List Value) (Q:St->Hp->Prop),Inv X pins σ H s->zh vs us->t vs σ H Q ->
  wpAny (model X.prog X.w) X.A (assignInOrder ((assignEach ts X.env).map (·.2)) us) (fun _ s'=>∃ σ' H',Inv X pins σ' H' s'/\Q σ' H') X.xe s
abbrev zMU:=V->V->V->Hp->(Hp->Prop)->Prop
def zQD (X:Cx) (t:zMU):Prop :=
 ∀ (pins:List (Addr×Obj)) (s:Shared) (σ:St) (H:Hp) (o i v:V) (ov iv u:Value) (Q:Hp->Prop),Inv X pins σ H s->zj o ov->zj i iv->zj v u->t o i v H Q ->
  wpAny (model X.prog X.w) X.A (setItem ov iv u) (fun _ s'=>∃ H',Inv X pins σ H' s'/\Q H') X.xe s
abbrev TIp:=V->V->Hp->VK->Prop
def PIp (X:Cx) (op:Operator) (t:TIp):Prop :=
 ∀ (pins:List (Addr×Obj)) (s:Shared) (σ:St) (H:Hp) (x y:V) (v u:Value) (Q:VK),Inv X pins σ H s->zj x v->zj y u->t x y H Q ->
  wpAny (model X.prog X.w) X.A (inplaceOp op v u) (EP X pins σ Q) X.xe s
section
variable {X:Cx}{pos:Pos}
def zK (i:Nat):TG:=fun v σ H Q=>Q (σ.set i (some v)) H
theorem zNm {i:Nat}{x:Str} (hN:X.N.Nodup) (hi:X.N[i]? = some x) (hx:Loc X.env.scope x) (hf:X.fn x=true\/X.env.scope.names.lookup x=some .local:=by first | exact .inl rfl | exact .inr rfl | assumption):PG X (.Name x pos) (zK i):=by
 intro pins s σ H v u Q I r h
 exact wpAny_assign_Name (zDW I hN hi hx r (fun s' I'=>⟨_,H,I',h⟩) hf)
def JJ:TGs:=fun vs σ H Q=>vs=[]/\Q σ H
def qg (t:TG) (u:TGs):TGs:=fun vs σ H Q=>∃ v r,vs=v::r/\t v σ H fun σ' H'=>u r σ' H' Q
theorem zNN:PGs X [] JJ:=by
 intro pins s σ H vs us Q I r h
 obtain⟨e,h⟩:=h
 subst e
 cases r
 exact assignInOrder_nil ⟨σ,H,I,h⟩
theorem Jk {e:Expr}{es:List Expr}{t:TG}{u:TGs} (h1:PG X e t) (h2:PGs X es u)
  (hs:(assignEach (e::es) X.env).map (·.2)=assign e X.env::(assignEach es X.env).map (·.2):=by rfl):PGs X (e::es) (qg t u):=by
 intro pins s σ H vs us Q I r h
 obtain⟨v,vr,e1,h⟩:=h
 subst e1
 cases r with
 | cons r rr =>
  rw[hs]
  refine assignInOrder_cons (thn (h1 pins s σ H _ _ _ I r h) fun _ s1 ⟨σ1,H1,I1,q1⟩=>?_)
  exact h2 pins s1 σ1 H1 _ _ Q I1 rr q1
def JN (K:PySem.W.Frag) (n:Nat) (t:TGs):TG:=fun v σ H Q=>∃ a xs,v=.ref a/\SqT K H a xs/\xs.length=n/\t xs σ H Q
theorem zP5 {es:List Expr}{k:Nat}{t:TGs}{n:Nat} (hc:X.calm=true) (h:PGs X es t)
  (hn:(assignEach es X.env).length=n:=by rfl) (hst:(assignEach es X.env).findIdx? (·.1)=none:=by rfl):PG X (.Tuple es k pos) (JN X.K n t):=by
 intro pins s σ H v u Q I r hw
 obtain⟨a,xs,e1,hq,hl,hw⟩:=hw
 subst e1
 cases r
 obtain⟨its,rv,ht,hz⟩:=I.tuple hq
 refine assign_Tuple_tuple (I.ok.hd hc) ht (by simp[hn,<- hl,rv.length]) hst fun h' hx=>?_
 have I1:Inv X pins σ H { s with heap:=h' }:=I.kept (t':=s.toks) fun b o e=>hx b o (Nat.ne_of_lt (Heap.lt_size e)) e
 exact h pins _ σ H xs _ Q I1 (by simpa using rv) hw
def zRN (to ti:TE) (t:zMU):TG:=fun v σ H Q=>to σ H fun o H1=>ti σ H1 fun i H2=>t o i v H2 fun H3=>Q σ H3
theorem zP3 {o i:Expr}{to ti:TE}{t:zMU} (ho:PE X o to) (hi:PE X i ti) (hs:zQD X t)
  (ha:∀ v,assign (.Subscript o i pos) X.env v=(do
   let ov <- holding [v] (eval o X.env)
   let iv <- holding [v,ov] (eval i X.env)
   standAt pos
   holding [v,ov,iv] (setItem ov iv v)
   release [v,ov,iv] []):=by intro _;rfl):PG X (.Subscript o i pos) (zRN to ti t):=by
 intro pins s σ H v u Q I r h
 rw[ha]
 refine wpAny_bind (wpAny_holding (thn (ho pins s σ H _ I h) fun ov s1 ⟨x,H1,I1,r1,q1⟩=>?_))
 refine wpAny_bind (wpAny_holding (thn (hi pins s1 σ H1 _ I1 q1) fun iv s2 ⟨y,H2,I2,r2,q2⟩=>?_))
 refine wpAny_bind (wpAny_standAt (wpAny_bind (wpAny_holding (thn (hs pins s2 σ H2 x y v ov iv u _ I2 r1 r2 r q2) fun _ s3 ⟨H3,I3,q3⟩=>?_))))
 exact wpAny_release ⟨σ,H3,I3,q3⟩
def zLa (te:TE) (g:TG):TS:=fun D σ H=>te σ H fun x H1=>g x σ H1 D.nx
theorem zOO {tg e:Expr}{te:TE}{g:TG} (he:PE X e te) (hg:PG X tg g) (hs:swapsWithSole [tg] e pos.line X.env=pure false:=by rfl) (hw:swappedStores [tg] e X.env=pure none:=by rfl)
  (h1:(assignEach [tg] X.env).map (·.2)=[assign tg X.env]:=by rfl):PS X (.Assign [tg] e pos) (zLa te g):=by
 intro pins s σ H D I h
 refine wpAny_Assign_stores (thn (he pins s σ H _ I h) fun v s1 ⟨x,H1,I1,r1,q1⟩=>?_) hs hw
 rw[h1]
 exact thn (hg pins s1 σ H1 x v _ I1 r1 q1) fun _ s2 q=>q
theorem zPv {i:Nat}{x:Str}{e:Expr}{te:TE}{pos':Pos} (hN:X.N.Nodup) (hi:X.N[i]? = some x) (hx:Loc X.env.scope x) (he:PE X e te) (hs:swapsWith e (some (.Name x pos')) pos.line X.env=pure false:=by rfl) (hf:X.fn x=true\/X.env.scope.names.lookup x=some .local:=by first | exact .inl rfl | exact .inr rfl | assumption) :
  PS X (.Assign [.Name x pos'] e pos) (zLa te (zK i)):=by
 intro pins s σ H D I h
 refine wpAny_Assign_Name (thn (he pins s σ H _ I h) fun v s1 ⟨y,H1,I1,r1,q1⟩=>?_) hs
 exact zDW I1 hN hi hx r1 (fun s2 I2=>⟨_,H1,I2,q1⟩) hf
def zQ2 (i:Nat) (te:TE) (ti:TIp):TS:=fun D σ H=>∃ x,σ[i]? = some (some x)/\te σ H fun y H1=>ti x y H1 fun z H2=>D.nx (σ.set i (some z)) H2
theorem zPq {i:Nat}{x:Str}{e:Expr}{te:TE}{op:Operator}{ti:TIp}{pos':Pos} (hN:X.N.Nodup) (hi:X.N[i]? = some x) (hx:Loc X.env.scope x) (he:PE X e te) (ho:PIp X op ti) (hf:X.fn x=true\/X.env.scope.names.lookup x=some .local:=by first | exact .inl rfl | exact .inr rfl | assumption) :
  PS X (.AugAssign (.Name x pos') op e pos) (zQ2 i te ti):=by
 intro pins s σ H D I h
 obtain⟨v,e1,h⟩:=h
 obtain⟨m,hn,hl⟩:=I.loc
 have vis:Vis X.env.scope x:=by rcases hx with k | k;exact .inl k;exact .inr (.inl k)
 obtain⟨u,r,l⟩:=hl i x v hi e1 vis
 refine wpAny_AugAssign_Name ?_
 have go:wpAny (model X.prog X.w) X.A (eval e X.env) (fun w s₂=>wpAny (model X.prog X.w) X.A (inplaceOp op u w) (fun r s₃=>wpAny (model X.prog X.w) X.A (storeName X.env x r) (fun _=>SP X pins D .next) X.xe s₃) X.xe s₂) X.xe s:=by
  refine thn (he pins s σ H _ I h) fun w s1 ⟨y,H1,I1,r1,q1⟩=>?_
  refine thn (ho pins s1 σ H1 v y u w _ I1 r r1 q1) fun z s2 ⟨zv,H2,I2,r2,q2⟩=>?_
  exact zDW I2 hN hi hx r2 (fun s3 I3=>⟨_,H2,I3,q2⟩) hf
 rcases l with ⟨hk,hm⟩ | ⟨hk,c,hc,hcell⟩
 ·exact wpAny_loadName_local I.ok.kind hk hn hm go
 ·rcases hk with hk | hk
  ·exact wpAny_loadName_cell I.ok.kind hk hc hcell go
  ·rcases hx with k | k
   ·have:X.env.scope.names.lookup x=some .free:=hk
    rw[k] at this;cases this
   ·have:X.env.scope.names.lookup x=some .free:=hk
    rw[k] at this;cases this
def ipI (f:Int->Int->Int):TIp:=fun x y H Q=>∃ i j,x=.int i/\y=.int j/\Q (.int (f i j)) H
theorem zPF:PIp X .Add (ipI fun i j=>i+j):=by
 intro pins s σ H x y v u Q I r1 r2 h
 obtain⟨i,j,e1,e2,q⟩:=h
 subst e1;subst e2
 obtain⟨t,rfl⟩:=r1
 obtain⟨t',rfl⟩:=r2
 exact iadd_int ⟨.int _,H,I.tok _,⟨_,rfl⟩,q⟩
theorem zO7:PIp X .Sub (ipI fun i j=>i - j):=by
 intro pins s σ H x y v u Q I r1 r2 h
 obtain⟨i,j,e1,e2,q⟩:=h
 subst e1;subst e2
 obtain⟨t,rfl⟩:=r1
 obtain⟨t',rfl⟩:=r2
 exact isub_int ⟨.int _,H,I.tok _,⟨_,rfl⟩,q⟩
end
section
variable {X:Cx}{pos:Pos}
def zPr (c:TT) (tb:TS):TS:=fun D σ H=>∃ W:Nat->St->Hp->Prop,(∃ m,W m σ H)/\∀ m σ H,W m σ H ->
 c σ H fun b H1=>if b=true then ∃ N:St->Hp->Prop,(∀ σ' H',N σ' H'->∃ m',m' < m/\W m' σ' H')/\tb { D with nx:=N,ct:=N,bk:=D.nx } σ H1 else D.nx σ H1
theorem zMD {c:Expr}{body:List Stmt}{tc:TT}{tb:TS} (hp:PassesOwn (model X.prog X.w) X.A X.env X.xe) (hc:PT X c tc) (hb:PSs X body tb):PS X (.While c body [] pos) (zPr tc tb):=by
 intro pins s σ H D I h
 obtain⟨W,⟨m0,w0⟩,turn⟩:=h
 refine wpAny_While (codeAny_whileLoop (fun n s'=>∃ σ' H',Inv X pins σ' H' s'/\W n σ' H') ?_ m0 ⟨σ,H,I,w0⟩)
 rintro n s1 ⟨σ1,H1,I1,w1⟩
 refine wpAny_passesOwn hp (thn (hc pins s1 σ1 H1 _ I1 (turn n σ1 H1 w1)) fun b s2 ⟨H2,I2,q2⟩=>?_)
 cases b with
 | true =>
  obtain⟨N,hN,q2⟩:=q2
  rw[if_pos rfl]
  refine wpAny_passesOwn hp (thn (hb pins s2 σ1 H2 _ I2 q2) fun f s3 q3=>?_)
  cases f with
  | next =>
   obtain⟨σ3,H3,I3,n3⟩:=q3
   obtain⟨m',hm,w3⟩:=hN σ3 H3 n3
   exact⟨m',hm,σ3,H3,I3,w3⟩
  | cont =>
   obtain⟨σ3,H3,I3,n3⟩:=q3
   obtain⟨m',hm,w3⟩:=hN σ3 H3 n3
   exact⟨m',hm,σ3,H3,I3,w3⟩
  | brk=>exact q3
  | ret v=>exact q3
 | false =>
  rw[if_neg Bool.false_ne_true]
  exact wpAny_execs_nil ⟨σ1,H2,I2,q2⟩
end
structure It where
 go:Nat->Hp->Prop
 yld:Nat->Hp->V->Hp->Prop
 stop:Nat->Hp->Prop
def zBC (X:Cx) (pins:List (Addr×Obj)) (H:Hp) (b:Addr):Prop :=
 H b=none/\b≠X.env.locals/\b∉X.fs/\(b∈X.ex\/X.s₀.heap.objs.size <= b)/\(∀ x c,X.env.cells.lookup x=some c->c≠b)/\∀ p∈X.pn++pins,p.1≠b
theorem Inv.fpOk {X:Cx}{pins:List (Addr×Obj)}{σ:St}{H H':Hp}{s:Shared}{b:Addr} (I:Inv X pins σ H s) (hb:s.heap.objs.size <= b) (hn:H' b=none):zBC X pins H' b:=by
 refine⟨hn,Nat.ne_of_gt (Nat.lt_of_lt_of_le I.lt hb),I.nofs hb,.inr (Nat.le_trans I.sz hb),fun x c e z=>?_,fun p hp z=>?_⟩
 ·obtain⟨v,q⟩:=I.cell x c e
  exact absurd (Nat.lt_of_lt_of_le q.lt (by rw[z];exact hb)) (Nat.lt_irrefl _)
 ·exact absurd (Nat.lt_of_lt_of_le (Heap.lt_size (I.pin p hp).1) (by rw[z];exact hb)) (Nat.lt_irrefl _)
structure zBM (P:Program) (w:World) (K:PySem.W.Frag) (tg:Expr) (J:It) (fp:List Addr) (it:Addr) (tn:Nat->Heap->Prop):Prop where
 mem:it∈fp
 obj:∀ i h,tn i h->∀ b∈fp,∃ o,h.get? b=some o/\∀ v,o.data≠.cell v
 keep:∀ i h h',tn i h->(∀ b∈fp,∀ o,h.get? b=some o->h'.get? b=some o)->tn i h'
 item:∀ (X:Cx),X.prog=P->X.w=w->X.K=K->X.calm=true->∀ (i:Nat) (pins:List (Addr×Obj)) (s:Shared) (σ:St) (H:Hp) (E:Value->Shared->Prop),Inv X pins σ H s->(∀ b∈fp,zBC X pins H b)->tn i s.heap->J.go i H ->
  wpAny (model P w) X.A (pyNext (.ref it)) (fun r s1=>∃ u,r=some u /\
   wpAny (model P w) X.A (letOwnedTupleGo tg (.ref it) u) (fun _ s2=>∃ x H',Inv X pins σ H' s2/\zj x u/\J.yld i H x H'/\tn (i+1) s2.heap/\∀ b∈fp,H' b=none) E s1) E s
 done:∀ (X:Cx),X.prog=P->X.w=w->X.K=K->X.calm=true->∀ (i:Nat) (pins:List (Addr×Obj)) (s:Shared) (σ:St) (H:Hp) (E:Value->Shared->Prop),Inv X pins σ H s->(∀ b∈fp,zBC X pins H b)->tn i s.heap->J.stop i H ->
  wpAny (model P w) X.A (pyNext (.ref it)) (fun r s1=>r=none/\Inv X pins σ H s1) E s
 self:∀ (A:Around) (i:Nat) (s:Shared) (Q:Value->Shared->Prop) (E:Value->Shared->Prop),tn i s.heap->Q (.ref it) s->wpAny (model P w) A (pyIter (.ref it)) Q E s
abbrev TI:=St->Hp->(It->Hp->Prop)->Prop
def PIE (X:Cx) (pins:List (Addr×Obj)) (σ:St) (tg:Expr) (R:It->Hp->Prop) (itv:Value) (s2:Shared):Prop :=
 ∃ (it:Addr) (fp:List Addr) (tn:Nat->Heap->Prop) (J:It) (H':Hp),itv=.ref it/\Inv X pins σ H' s2/\zBM X.prog X.w X.K tg J fp it tn/\tn 0 s2.heap/\(∀ b∈fp,zBC X pins H' b)/\R J H'
def PI (X:Cx) (tg iter:Expr) (wi:TI):Prop :=
 ∀ (pins:List (Addr×Obj)) (s:Shared) (σ:St) (H:Hp) (R:It->Hp->Prop),Inv X pins σ H s->wi σ H R ->
  wpAny (model X.prog X.w) X.A (eval iter X.env) (fun v s1=>wpAny (model X.prog X.w) X.A (pyIter v) (PIE X pins σ tg R) X.xe s1) X.xe s
theorem zCw {M:Model}{A:Around}{E:Value->Shared->Prop}{s:Shared}{tg:Expr}{it:Addr}{u:Value}{o:Obj}{n:String}{vs:Array Value}{Q:Unit->Shared->Prop} (ho:s.heap.get? it=some o) (hc:o.cls=.type n) (hd:o.data=.fields vs)
  (hn:["enumerate","zip","dict_itemiterator","dict_reverseitemiterator","odict_iterator","itertools.zip_longest","itertools.pairwise"].contains n=false) (hQ:Q () s):wpAny M A (letOwnedTupleGo tg (.ref it) u) Q E s:=by
 unfold letOwnedTupleGo
 cases tg<;>first
  | exact wpAny_pure hQ
  | (cases u<;>first
      | exact wpAny_pure hQ
      | (refine wpAny_bind (wpAny_load ho ?_)
         rw[hc,hd]
         show wpAny M A (if (["enumerate","zip","dict_itemiterator","dict_reverseitemiterator","odict_iterator","itertools.zip_longest","itertools.pairwise"].contains n && vs[0]? == some (rawInt _))=true then _ else _) Q E s
         rw[if_neg (by intro h;rw[hn,Bool.false_and] at h;cases h)]
         exact wpAny_pure hQ))
def Itl (K:PySem.W.Frag) (a:Addr):It :=
 ⟨fun i H=>∃ xs x,SqL K H a xs/\xs[i]? = some x,fun i H x H'=>H'=H/\∀ xs,SqL K H a xs->xs[i]? = some x,fun i H=>∃ xs,SqL K H a xs/\xs.length <= i⟩
def Itt (K:PySem.W.Frag) (a:Addr):It :=
 ⟨fun i H=>∃ xs x,SqT K H a xs/\xs[i]? = some x,fun i H x H'=>H'=H/\∀ xs,SqT K H a xs->xs[i]? = some x,fun i H=>∃ xs,SqT K H a xs/\xs.length <= i⟩
def Itr (lo:Int) (n:Nat):It:=⟨fun i _=>i < n,fun i H x H'=>H'=H/\x=.int (lo+i),fun i _=>n <= i⟩
theorem zKc {P:Program}{w:World}{K:PySem.W.Frag}{tg:Expr} (a it:Addr):zBM P w K tg (Itl K a) [it] it (fun i h=>h.IsListIter it a i) where
 mem:=by simp
 obj:=fun i h st b hb=>by
  have e:b=it:=by simpa using hb
  subst e
  obtain⟨o,e,c,d⟩:=st
  exact⟨o,e,fun v z=>by rw[d] at z;cases z⟩
 keep:=fun i h h' st k=>st.at fun o e=>k it (by simp) o e
 item:=by
  intro X hP hw hK hc i pins s σ H E I hf st hg
  subst hP hw hK
  obtain⟨xs,x,hq,hx⟩:=hg
  obtain⟨its,rv,p,hz⟩:=I.list hq
  obtain⟨u,hu,ru⟩:=rv.get hx
  obtain⟨f0,f1,f2,f3,f4,f5⟩:=hf it (by simp)
  refine wpAny_pyNext_list_item st p.isList (x:=u) (by simpa using hu) fun h' st' sb=>?_
  have I1:Inv X pins σ H { s with heap:=h' }:=I.turned (t':=s.toks) (fun b o hb e=>(sb.2 b hb).trans e) f0 f1 f3 f4 f5
  obtain⟨o,e,c,d⟩:=id st'
  exact⟨u,rfl,zCw (s:={ s with heap:=h' }) e c d (by decide) ⟨x,H,I1,ru,⟨rfl,fun ys hy=>by rw[I.list_inj hy hq];exact hx⟩,st',fun b hb=>(hf b hb).1⟩⟩
 done:=by
  intro X hP hw hK hc i pins s σ H E I hf st hg
  subst hP hw hK
  obtain⟨xs,hq,hx⟩:=hg
  obtain⟨its,rv,p,hz⟩:=I.list hq
  obtain⟨f0,f1,f2,f3,f4,f5⟩:=hf it (by simp)
  have hl:=rv.length
  exact wpAny_pyNext_list_end (I.ok.hd hc) st p.isList (by simp;omega) fun h' eb=>⟨rfl,I.turned (t':=s.toks) (fun b o hb e=>eb b o hb e) f0 f1 f3 f4 f5⟩
 self:=fun _ _ _ _ _ st h=>wpAny_pyIter_listiter st h
theorem zJo {P:Program}{w:World}{K:PySem.W.Frag}{tg:Expr} (a it:Addr):zBM P w K tg (Itt K a) [it] it (fun i h=>h.IsTupleIter it a i) where
 mem:=by simp
 obj:=fun i h st b hb=>by
  have e:b=it:=by simpa using hb
  subst e
  obtain⟨o,e,c,d⟩:=st
  exact⟨o,e,fun v z=>by rw[d] at z;cases z⟩
 keep:=fun i h h' st k=>st.at fun o e=>k it (by simp) o e
 item:=by
  intro X hP hw hK hc i pins s σ H E I hf st hg
  subst hP hw hK
  obtain⟨xs,x,hq,hx⟩:=hg
  obtain⟨its,rv,p,hz⟩:=I.tuple hq
  obtain⟨u,hu,ru⟩:=rv.get hx
  obtain⟨f0,f1,f2,f3,f4,f5⟩:=hf it (by simp)
  refine wpAny_pyNext_tuple_item st (show s.heap.IsTuple a its.toArray from p) (x:=u) (by simpa using hu) fun h' st' sb=>?_
  have I1:Inv X pins σ H { s with heap:=h' }:=I.turned (t':=s.toks) (fun b o hb e=>(sb.2 b hb).trans e) f0 f1 f3 f4 f5
  obtain⟨o,e,c,d⟩:=id st'
  exact⟨u,rfl,zCw (s:={ s with heap:=h' }) e c d (by decide) ⟨x,H,I1,ru,⟨rfl,fun ys hy=>by rw[I.tuple_inj hy hq];exact hx⟩,st',fun b hb=>(hf b hb).1⟩⟩
 done:=by
  intro X hP hw hK hc i pins s σ H E I hf st hg
  subst hP hw hK
  obtain⟨xs,hq,hx⟩:=hg
  obtain⟨its,rv,p,hz⟩:=I.tuple hq
  obtain⟨f0,f1,f2,f3,f4,f5⟩:=hf it (by simp)
  have hl:=rv.length
  exact wpAny_pyNext_tuple_end (I.ok.hd hc) st (show s.heap.IsTuple a its.toArray from p) (by simp;omega) fun h' eb=>⟨rfl,I.turned (t':=s.toks) (fun b o hb e=>eb b o hb e) f0 f1 f3 f4 f5⟩
 self:=fun _ _ _ _ _ st h=>wpAny_pyIter_tupleiter st h
theorem zJE {P:Program}{w:World}{K:PySem.W.Frag}{tg:Expr} (it:Addr) (lo:Int) (n:Nat):zBM P w K tg (Itr lo n) [it] it (fun i h=>IsRangeIter h it (lo+(i:Nat) * 1) ((n:Int) - (i:Nat)) 1) where
 mem:=by simp
 obj:=fun i h st b hb=>by
  have e:b=it:=by simpa using hb
  subst e
  exact⟨_,st,fun v z=>by
   have z':Data.fields _=Data.cell v:=z
   cases z'⟩
 keep:=fun i h h' st k=>k it (by simp) _ st
 item:=by
  intro X hP hw hK hc i pins s σ H E I hf st hg
  subst hP hw hK
  obtain⟨f0,f1,f2,f3,f4,f5⟩:=hf it (by simp)
  have W:=Walks.range (prog:=X.prog) (w:=X.w) (I.ok.hd hc) it lo 1 n
  refine wpAny_with_toks (n:=1) I.tk (W.item i s _ _ hg st fun v h' tk hv st' kk htk=>?_)
  obtain⟨t,rfl⟩:=hv
  have I1:Inv X pins σ H { s with heap:=h',toks:=tk }:=I.turned (fun b o hb e=>kk b o (by simpa using hb) e) f0 f1 f3 f4 f5
  refine⟨_,rfl,zCw (s:={ s with heap:=h',toks:=tk }) (n := "range_iterator") st' rfl rfl (by decide) ⟨.int (lo+i),H,I1,⟨t,?_⟩,⟨rfl,rfl⟩,st',fun b hb=>(hf b hb).1⟩⟩
  rw[Int.mul_one]
 done:=by
  intro X hP hw hK hc i pins s σ H E I hf st hg
  subst hP hw hK
  obtain⟨f0,f1,f2,f3,f4,f5⟩:=hf it (by simp)
  exact wpAny_pyNext_range_end (I.ok.hd hc) st (by have:n <= i:=hg;omega) fun h' eb=>⟨rfl,I.turned (t':=s.toks) (fun b o hb e=>eb b o hb e) f0 f1 f3 f4 f5⟩
 self:=fun _ _ _ _ _ st h=>wpAny_pyIter_rangeiter st h
end L2
namespace L2
open PySem PySem.Spec PyProof.Rows
section
variable {X:Cx}{tg:Expr}
def zQs (K:PySem.W.Frag) (tl:TE):TI:=fun σ H R=>tl σ H fun x H1=>∃ a,x=.ref a/\(∃ xs,SqL K H1 a xs)/\R (Itl K a) H1
def zQz (K:PySem.W.Frag) (tl:TE):TI:=fun σ H R=>tl σ H fun x H1=>∃ a,x=.ref a/\(∃ xs,SqT K H1 a xs)/\R (Itt K a) H1
theorem zNc {l:Expr}{tl:TE} (hl:PE X l tl):PI X tg l (zQs X.K tl):=by
 intro pins s σ H R I h
 refine thn (hl pins s σ H _ I h) fun v s1 ⟨x,H1,I1,r1,q1⟩=>?_
 obtain⟨a,e,⟨xs,hq⟩,q⟩:=q1
 subst e
 cases r1
 obtain⟨its,rv,p,hz⟩:=I1.list hq
 refine wpAny_pyIter_list p.isList ?_
 refine⟨s1.heap.objs.size,[s1.heap.objs.size],_,_,H1,rfl,I1.kept (t':=s1.toks) fun b o e=>Heap.get?_push_of_some _ e,zKc a _,⟨_,Heap.get?_push_size _ rfl,rfl,rfl⟩,fun b hb=>?_,q⟩
 have e:b=s1.heap.objs.size:=by simpa using hb
 subst e
 exact I1.fpOk (Nat.le_refl _) (I1.hok.fresh (Nat.le_refl _))
theorem zOy {l:Expr}{tl:TE} (hl:PE X l tl):PI X tg l (zQz X.K tl):=by
 intro pins s σ H R I h
 refine thn (hl pins s σ H _ I h) fun v s1 ⟨x,H1,I1,r1,q1⟩=>?_
 obtain⟨a,e,⟨xs,hq⟩,q⟩:=q1
 subst e
 cases r1
 obtain⟨its,rv,p,hz⟩:=I1.tuple hq
 refine wpAny_pyIter_tuple (show s1.heap.IsTuple a its.toArray from p) ?_
 refine⟨s1.heap.objs.size,[s1.heap.objs.size],_,_,H1,rfl,I1.kept (t':=s1.toks) fun b o e=>Heap.get?_push_of_some _ e,zJo a _,⟨_,Heap.get?_push_size _ rfl,rfl,rfl⟩,fun b hb=>?_,q⟩
 have e:b=s1.heap.objs.size:=by simpa using hb
 subst e
 exact I1.fpOk (Nat.le_refl _) (I1.hok.fresh (Nat.le_refl _))
theorem zLg {pins:List (Addr×Obj)}{σ:St}{H:Hp}{s:Shared}{R:It->Hp->Prop}{E:Value->Shared->Prop}{lo hi:Int}{t u v:Tok}{tk:Nat} (I:Inv X pins σ H s) (h1:-(2 ^ 62) <= lo) (h2:lo < 2 ^ 62) (h3:-(2 ^ 62) <= hi) (h4:hi < 2 ^ 62)
  (q:R (Itr lo (hi - lo).toNat) H) (htk:0 < tk:=by first | exact Nat.succ_pos _ | assumption | exact Inv.tk (by assumption) | omega):wpAny (model X.prog X.w) X.A (pyIter (.ref s.heap.objs.size)) (PIE X pins σ tg R) E { s with heap:=s.heap.push { cls:=.type "range",data:=.fields #[.int lo t,.int hi u,.int 1 v] },toks:=tk }:=by
 refine wpAny_pyIter_range (IsRange.new ..) (small_one h1 h2 h3 h4) ?_
 have I1:Inv X pins σ H { s with heap:=s.heap.push { cls:=.type "range",data:=.fields #[.int lo t,.int hi u,.int 1 v] },toks:=tk }:=I.kept fun b o e=>Heap.get?_push_of_some _ e
 refine⟨(s.heap.push { cls:=.type "range",data:=.fields #[.int lo t,.int hi u,.int 1 v] }).objs.size,[(s.heap.push { cls:=.type "range",data:=.fields #[.int lo t,.int hi u,.int 1 v] }).objs.size],_,_,H,rfl,
  I1.kept (t':=tk) fun b o e=>Heap.get?_push_of_some _ e,zJE _ lo (hi - lo).toNat,?_,fun b hb=>?_,q⟩
 ·have e1:lo+((0:Nat):Int) * 1=lo:=by simp
  have e2:(((hi - lo).toNat:Nat):Int) - ((0:Nat):Int)=Builtin.Range.rangeSize lo hi 1:=by rw[rangeSize_one];split<;>omega
  show IsRangeIter _ _ (lo+((0:Nat):Int) * 1) ((((hi - lo).toNat:Nat):Int) - ((0:Nat):Int)) 1
  rw[e1,e2]
  exact Heap.get?_push_size _ rfl
 ·have e:b=(s.heap.push { cls:=.type "range",data:=.fields #[.int lo t,.int hi u,.int 1 v] }).objs.size:=by simpa using hb
  subst e
  exact I1.fpOk (Nat.le_refl _) (I1.hok.fresh (Nat.le_refl _))
def zQG (ta:TA):TI:=fun σ H R=>ta σ H fun vs H1=>∃ j:Int,vs=[.int j] /\ -(2 ^ 62) <= j/\j < 2 ^ 62/\R (Itr 0 j.toNat) H1
theorem zJ9 {a:Expr}{ta:TA}{p pos:Pos} (hg:Gl X "range") (hm:X.mg "range" = none) (ha:PA X [a] ta) (hs:starEach [a] X.env=[(false,eval a X.env)]:=by rfl):PI X tg (.Call (.Name "range" p) [a] [] pos) (zQG ta):=by
 intro pins s σ H R I h
 refine Call_ (zAC I hg hm boot_range (PyProof.Rows.callWith_type1 (thn (ha pos pins s σ H _ I h) fun us s1 ⟨vs,H1,I1,r1,q1⟩=>?_) hs rfl))
 obtain⟨j,e,q1,q2,q⟩:=q1
 subst e
 cases r1 with
 | cons r rr =>
  cases rr
  obtain⟨t,rfl⟩:=r
  exact call_range_1 (zLg I1 (by omega) (by omega) q1 q2 (by simpa using q))
def zRQ (wi:TI) (g:TG) (tb:TS):TS:=fun D σ H=>wi σ H fun J H1=>∃ W:Nat->Nat->St->Hp->Prop,(∃ m,W 0 m σ H1)/\∀ i m σ H,W i m σ H ->
 (J.stop i H/\D.nx σ H)\/(J.go i H/\∃ N:St->Hp->Prop,(∀ σ' H',N σ' H'->∃ m',m' < m/\W (i+1) m' σ' H')/\∀ x H',J.yld i H x H'->g x σ H' fun σ2 H2=>tb { D with nx:=N,ct:=N,bk:=D.nx } σ2 H2)
def Qn (fp:List Addr) (h:Heap):List (Addr×Obj):=fp.filterMap fun b=>(h.get? b).map fun o=>(b,o)
theorem zAT {fp:List Addr}{h:Heap}{b:Addr}{o:Obj} (hb:b∈fp) (e:h.get? b=some o):(b,o)∈Qn fp h:=List.mem_filterMap.mpr ⟨b,hb,by rw[e];rfl⟩
theorem zFu {fp:List Addr}{h:Heap}{p:Addr×Obj} (hp:p∈Qn fp h):p.1∈fp/\h.get? p.1=some p.2:=by
 obtain⟨b,hb,e⟩:=List.mem_filterMap.mp hp
 cases q:h.get? b with
 | none=>rw[q] at e;cases e
 | some o =>
  rw[q] at e
  have e':(b,o)=p:=Option.some.inj e
  subst e'
  exact⟨hb,q⟩
theorem Inv.pinned {pins:List (Addr×Obj)}{σ:St}{H:Hp}{s:Shared}{fp:List Addr} (I:Inv X pins σ H s) (hf:∀ b∈fp,zBC X pins H b) (ho:∀ b∈fp,∃ o,s.heap.get? b=some o/\∀ v,o.data≠.cell v):Inv X (pins++Qn fp s.heap) σ H s :=
 I.pins_of fun p hp=>(List.mem_append.mp hp).elim (fun z=>I.pin p (List.mem_append_right _ z)) fun z=>by
  obtain⟨hb,e⟩:=zFu z
  obtain⟨f0,f1,f2,_⟩:=hf p.1 hb
  obtain⟨o,e',d⟩:=ho p.1 hb
  rw[e] at e';cases e'
  exact⟨e,f0,f1,f2,d⟩
theorem Inv.unpinned {pins pl:List (Addr×Obj)}{σ:St}{H:Hp}{s:Shared} (I:Inv X (pins++pl) σ H s):Inv X pins σ H s:=I.pins_of fun p hp=>I.pin p (List.mem_append_right _ (List.mem_append_left _ hp))
theorem zGW {iter:Expr}{body:List Stmt}{wi:TI}{g:TG}{tb:TS}{pos:Pos} (hp:PassesOwn (model X.prog X.w) X.A X.env X.xe) (hc:X.calm=true) (hi:PI X tg iter wi) (hg:PG X tg g) (hb:PSs X body tb)
  (hs:∀ x,foldedSetIterable iter X.env x=pure x:=by intro _;rfl):PS X (.For tg iter body [] pos) (zRQ wi g tb):=by
 intro pins s σ H D I h
 refine wpAny_For (thn (hi pins s σ H _ I h) fun v s1 h1=>thn h1 fun itv s2 h2=>?_) hs
 obtain⟨it,fp,tn,J,H2,e,I2,T,st2,f2,W,⟨m0,w0⟩,turn⟩:=h2
 subst e
 have stat:∀ {H':Hp},(∀ b∈fp,H' b=none)->∀ b∈fp,zBC X pins H' b:=fun hn b hb=>⟨hn b hb,(f2 b hb).2⟩
 refine codeAny_forLoop_any (fun n s'=>∃ i σ' H',Inv X pins σ' H' s'/\tn i s'.heap/\(∀ b∈fp,H' b=none)/\W i n σ' H') ?_ m0 ⟨0,σ,H2,I2,st2,fun b hb=>(f2 b hb).1,w0⟩
 rintro n s3 ⟨i,σ3,H3,I3,st3,fr3,w3⟩
 rcases turn i n σ3 H3 w3 with ⟨stop,qn⟩ | ⟨go,N,hN,step⟩
 ·refine wpAny_passesOwn hp (thn (T.done X rfl rfl rfl hc i pins s3 σ3 H3 X.xe I3 (stat fr3) st3 stop) fun r s4 ⟨hr,I4⟩=>?_)
  subst hr
  exact wpAny_execs_nil ⟨σ3,H3,I4,qn⟩
 ·refine wpAny_passesOwn hp (thn (T.item X rfl rfl rfl hc i pins s3 σ3 H3 X.xe I3 (stat fr3) st3 go) fun r s4 ⟨u,hr,h4⟩=>?_)
  subst hr
  refine wpAny_passesOwn hp (thn h4 fun _ s5 ⟨x,H5,I5,r5,y5,st5,fr5⟩=>?_)
  have I5':=I5.pinned (stat fr5) (T.obj _ _ st5)
  refine wpAny_passesOwn hp (thn (hg _ s5 σ3 H5 x u _ I5' r5 (step x H5 y5)) fun _ s6 ⟨σ6,H6,I6,q6⟩=>?_)
  refine wpAny_passesOwn hp (thn (hb _ s6 σ6 H6 _ I6 q6) fun f s7 q7=>?_)
  have again:∀ {σ7:St}{H7:Hp},Inv X (pins++Qn fp s5.heap) σ7 H7 s7->N σ7 H7->∃ m,m < n/\∃ i σ' H',Inv X pins σ' H' s7/\tn i s7.heap/\(∀ b∈fp,H' b=none)/\W i m σ' H':=fun {σ7 H7} I7 n7=>by
   obtain⟨m',hm,w7⟩:=hN σ7 H7 n7
   refine⟨m',hm,i+1,σ7,H7,I7.unpinned,T.keep _ _ _ st5 fun b hb o e=>(I7.pin (b,o) (List.mem_append_right _ (List.mem_append_right _ (zAT hb e)))).1,fun b hb=>?_,w7⟩
   obtain⟨o,e,d⟩:=T.obj _ _ st5 b hb
   exact (I7.pin (b,o) (List.mem_append_right _ (List.mem_append_right _ (zAT hb e)))).2.1
  cases f with
  | next=>obtain⟨σ7,H7,I7,n7⟩:=q7;exact again I7 n7
  | cont=>obtain⟨σ7,H7,I7,n7⟩:=q7;exact again I7 n7
  | brk=>obtain⟨σ7,H7,I7,q7⟩:=q7;exact⟨σ7,H7,I7.unpinned,q7⟩
  | ret v=>obtain⟨x7,σ7,H7,I7,r7,q7⟩:=q7;exact⟨x7,σ7,H7,I7.unpinned,r7,q7⟩
end
end L2
namespace L2
open PySem PySem.Spec PyProof.Rows
abbrev R2:=V->V->Hp->VK->Prop
def OpR (X:Cx) (f:Value->Value->Sem Value) (r:R2):Prop :=
 ∀ (pins:List (Addr×Obj)) (s:Shared) (σ:St) (H:Hp) (x y:V) (v u:Value) (Q:VK),Inv X pins σ H s->zj x v->zj y u->r x y H Q ->
  wpAny (model X.prog X.w) X.A (f v u) (EP X pins σ Q) X.xe s
def qQ (X:Cx) (f:Value) (r:List V->Hp->VK->Prop):Prop :=
 ∀ (pins:List (Addr×Obj)) (s:Shared) (σ:St) (H:Hp) (xs:List V) (us:List Value) (Q:VK),Inv X pins σ H s->zh xs us->r xs H Q ->
  wpAny (model X.prog X.w) X.A (call f us) (EP X pins σ Q) X.xe s
def zRL (X:Cx) (r:V->Hp->(Bool->Hp->Prop)->Prop):Prop :=
 ∀ (pins:List (Addr×Obj)) (s:Shared) (σ:St) (H:Hp) (x:V) (v:Value) (Q:Bool->Hp->Prop),Inv X pins σ H s->zj x v->r x H Q ->
  wpAny (model X.prog X.w) X.A (truthy v) (TP X pins σ Q) X.xe s
def tOp (r:R2) (ta tb:TE):TE:=fun σ H Q=>ta σ H fun x H1=>tb σ H1 fun y H2=>r x y H2 Q
def rI (C:Int->Int->Prop) (g:Int->Int->V):R2:=fun x y H Q=>∃ i j,x=.int i/\y=.int j/\C i j/\Q (g i j) H
def rI0 (g:Int->Int->V):R2:=fun x y H Q=>∃ i j,x=.int i/\y=.int j/\Q (g i j) H
section
variable {X:Cx}{a b c:Expr}{ta tb tc:TE}{pos:Pos}
theorem zLX (ha:PE X a ta) (hb:PE X b tb) {pins:List (Addr×Obj)}{s:Shared}{σ:St}{H:Hp}{R:V->V->Hp->Prop} (I:Inv X pins σ H s)
  (h:ta σ H fun x H1=>tb σ H1 fun y H2=>R x y H2) {Q:Value->Shared->Prop}{f:Value->Value->Sem Value}
  (hf:∀ v u s2 x y H2,Inv X pins σ H2 s2->zj x v->zj y u->R x y H2->wpAny (model X.prog X.w) X.A (f v u) Q X.xe s2) :
  wpAny (model X.prog X.w) X.A (eval a X.env) (fun v s₁=>wpAny (model X.prog X.w) X.A (eval b X.env) (fun u s₂=>wpAny (model X.prog X.w) X.A (f v u) Q X.xe s₂) X.xe s₁) X.xe s:=by
 refine thn (ha pins s σ H _ I h) fun v s1 ⟨x,H1,I1,r1,q1⟩=>?_
 refine thn (hb pins s1 σ H1 _ I1 q1) fun u s2 ⟨y,H2,I2,r2,q2⟩=>?_
 exact hf v u s2 x y H2 I2 r1 r2 q2
theorem zQX {op:Operator}{r:R2} (ho:OpR X (binaryOp op) r) (ha:PE X a ta) (hb:PE X b tb):PE X (.BinOp a op b pos) (tOp r ta tb):=by
 intro pins s σ H Q I h
 exact wpAny_BinOp (zLX ha hb I h fun v u s2 x y H2 I2 rx ry q=>ho pins s2 σ H2 x y v u Q I2 rx ry q)
theorem opI {f:Value->Value->Sem Value}{C:Int->Int->Prop}{g:Int->Int->Int}
  (rule:∀ (i j:Int) (t u:Tok) (s:Shared) (Q:Value->Shared->Prop) (E:Value->Shared->Prop),C i j->Q (.int (g i j) s.toks) { s with toks:=s.toks+1 }->wpAny (model X.prog X.w) X.A (f (.int i t) (.int j u)) Q E s) :
  OpR X f (rI C fun i j=>.int (g i j)):=by
 intro pins s σ H x y v u Q I rx ry h
 obtain⟨i,j,rfl,rfl,hc,q⟩:=h
 obtain⟨t,rfl⟩:=rx
 obtain⟨t',rfl⟩:=ry
 exact rule i j t t' s _ _ hc ⟨.int (g i j),H,I.tok _,⟨_,rfl⟩,q⟩
theorem zPK {f:Value->Value->Sem Value}{g:Int->Int->Int}
  (rule:∀ (i j:Int) (t u:Tok) (s:Shared) (Q:Value->Shared->Prop) (E:Value->Shared->Prop),Q (.int (g i j) s.toks) { s with toks:=s.toks+1 }->wpAny (model X.prog X.w) X.A (f (.int i t) (.int j u)) Q E s) :
  OpR X f (rI0 fun i j=>.int (g i j)):=by
 intro pins s σ H x y v u Q I rx ry h
 obtain⟨i,j,rfl,rfl,q⟩:=h
 obtain⟨t,rfl⟩:=rx
 obtain⟨t',rfl⟩:=ry
 exact rule i j t t' s _ _ ⟨.int (g i j),H,I.tok _,⟨_,rfl⟩,q⟩
theorem zL0 {f:Value->Value->Sem Value}{g:Int->Int->Bool}
  (rule:∀ (i j:Int) (t u:Tok) (s:Shared) (Q:Value->Shared->Prop) (E:Value->Shared->Prop),Q (.bool (g i j)) s->wpAny (model X.prog X.w) X.A (f (.int i t) (.int j u)) Q E s) :
  OpR X f (rI0 fun i j=>.bl (g i j)):=by
 intro pins s σ H x y v u Q I rx ry h
 obtain⟨i,j,rfl,rfl,q⟩:=h
 obtain⟨t,rfl⟩:=rx
 obtain⟨t',rfl⟩:=ry
 exact rule i j t t' s _ _ ⟨.bl (g i j),H,I,rfl,q⟩
def zQu (i j:Int):Prop:=0 < j/\j < 1073741824
def zJm (i j:Int):Prop:=(-(2 ^ 64) < i/\i < 2 ^ 64)\/(-(2 ^ 64) < j/\j < 2 ^ 64)
theorem zJm.ok {i j:Int} (h:zJm i j):IntMulOk i j:=by
 rcases h with ⟨h1,h2⟩ | ⟨h1,h2⟩
 ·exact .of_left (intBits_le_64 h1 h2)
 ·exact .of_right (intBits_le_64 h1 h2)
theorem zOP:OpR X (binaryOp .Add) (rI0 fun i j=>.int (i+j)):=zPK fun _ _ _ _ _ _ _ q=>add_int q
theorem zOR:OpR X (binaryOp .Sub) (rI0 fun i j=>.int (i - j)):=zPK fun _ _ _ _ _ _ _ q=>sub_int q
theorem zPb:OpR X (binaryOp .Mult) (rI zJm fun i j=>.int (i * j)):=opI fun _ _ _ _ _ _ _ hc q=>mul_int q hc.ok
theorem zNo:OpR X (binaryOp .FloorDiv) (rI zQu fun i j=>.int (i / j)):=opI fun i j _ _ _ _ _ hc q=>by
 have h1:(0:Int) < j:=hc.1
 have h2:j < 1073741824:=hc.2
 exact floordiv_int (by omega) (by rw[Int.fdiv_eq_ediv_of_nonneg i (by omega)];exact q) (.inl (PyProof.noPylong_small (by omega)))
theorem zOV:OpR X (binaryOp .Mod) (rI (fun _ j=>0 < j) fun i j=>.int (i % j)):=opI fun i j _ _ _ _ _ hc q=>by
 have h1:(0:Int) < j:=hc
 exact mod_int' (by omega) (by rw[Int.fmod_eq_emod_of_nonneg i (by omega)];exact q)
end
def zE9:V->V->Bool
 | .non,.non=>true | .non,.int _=>true | .int _,.non=>true | .non,.bl _=>true | .bl _,.non=>true | .non,.str _=>true | .str _,.non=>true
 | .int _,.int _=>true | .bl _,.bl _=>true | .str _,.str _=>true | .byt _,.byt _=>true
 | .int _,.str _=>true | .str _,.int _=>true | .bl _,.str _=>true | .str _,.bl _=>true
 | _,_=>false
def rEq:R2:=fun x y H Q=>zE9 x y=true/\Q (.bl (decide (x=y))) H
def rNe:R2:=fun x y H Q=>zE9 x y=true/\Q (.bl (!decide (x=y))) H
theorem zIf {i j:Int}:decide (V.int i=V.int j)=(i == j):=by
 rw[Bool.eq_iff_iff]
 simp
theorem zKo {i j:Bool}:decide (V.bl i=V.bl j)=(i == j):=by
 rw[Bool.eq_iff_iff]
 simp
theorem zId {i j:Str}:decide (V.str i=V.str j)=(i == j):=by
 rw[Bool.eq_iff_iff]
 simp
theorem zIN {i j:Array UInt8}:decide (V.byt i=V.byt j)=(i.toList == j.toList):=by
 rw[Bool.eq_iff_iff]
 cases i
 cases j
 simp
section
variable {X:Cx}{a b c:Expr}{ta tb tc:TE}{pos:Pos}
theorem jZ {pins:List (Addr×Obj)}{σ:St}{H:Hp}{s:Shared}{Q:VK}{k k':Bool} (I:Inv X pins σ H s) (q:Q (.bl k) H) (e:k=k'):EP X pins σ Q (.bool k') s:=by
 subst e
 exact⟨.bl k,H,I,rfl,q⟩
theorem zQV:OpR X (compareOp .Eq) rEq:=by
 intro pins s σ H x y v u Q I rx ry h
 obtain⟨hs,q⟩:=h
 cases x with
 | non =>
  cases rx
  cases y with
  | non=>cases ry;exact PySem.EqNone.eq_none_none (jZ I q (by simp))
  | bl j=>cases ry;exact PySem.EqNone.eq_none_bool (jZ I q (by simp))
  | int j=>obtain⟨t',rfl⟩:=ry;exact PySem.EqNone.eq_none_int (jZ I q (by simp))
  | str j=>obtain⟨t',rfl⟩:=ry;exact PySem.EqNone.eq_none_str (jZ I q (by simp))
  | _=>exact absurd (show false=true from hs) Bool.false_ne_true
 | bl i =>
  cases rx
  cases y with
  | non=>cases ry;exact PySem.EqNone.eq_bool_none (jZ I q (by simp))
  | bl j=>cases ry;exact eq_bool (jZ I q zKo)
  | str j=>obtain⟨t',rfl⟩:=ry;exact PySem.EqMixed.eq_bool_str (jZ I q (by simp))
  | _=>exact absurd (show false=true from hs) Bool.false_ne_true
 | int i =>
  obtain⟨t,rfl⟩:=rx
  cases y with
  | non=>cases ry;exact PySem.EqNone.eq_int_none (jZ I q (by simp))
  | int j=>obtain⟨t',rfl⟩:=ry;exact eq_int (jZ I q zIf)
  | str j=>obtain⟨t',rfl⟩:=ry;exact PySem.EqMixed.eq_int_str (jZ I q (by simp))
  | _=>exact absurd (show false=true from hs) Bool.false_ne_true
 | str i =>
  obtain⟨t,rfl⟩:=rx
  cases y with
  | non=>cases ry;exact PySem.EqNone.eq_str_none (jZ I q (by simp))
  | bl j=>cases ry;exact PySem.EqMixed.eq_str_bool (jZ I q (by simp))
  | int j=>obtain⟨t',rfl⟩:=ry;exact PySem.EqMixed.eq_str_int (jZ I q (by simp))
  | str j=>obtain⟨t',rfl⟩:=ry;exact eq_str (jZ I q zId)
  | _=>exact absurd (show false=true from hs) Bool.false_ne_true
 | byt i =>
  obtain⟨t,rfl⟩:=rx
  cases y with
  | byt j=>obtain⟨t',rfl⟩:=ry;exact PySem.W.eq_bytes (jZ I q zIN)
  | _=>exact absurd (show false=true from hs) Bool.false_ne_true
 | _=>cases y<;>exact absurd (show false=true from hs) Bool.false_ne_true
theorem zQi:OpR X (compareOp .NotEq) rNe:=by
 intro pins s σ H x y v u Q I rx ry h
 obtain⟨hs,q⟩:=h
 cases x with
 | non =>
  cases rx
  cases y with
  | non=>cases ry;exact PySem.EqNone.ne_none_none (jZ I q (by simp))
  | bl j=>cases ry;exact PySem.EqNone.ne_none_bool (jZ I q (by simp))
  | int j=>obtain⟨t',rfl⟩:=ry;exact PySem.EqNone.ne_none_int (jZ I q (by simp))
  | str j=>obtain⟨t',rfl⟩:=ry;exact PySem.EqNone.ne_none_str (jZ I q (by simp))
  | _=>exact absurd (show false=true from hs) Bool.false_ne_true
 | bl i =>
  cases rx
  cases y with
  | non=>cases ry;exact PySem.EqNone.ne_bool_none (jZ I q (by simp))
  | bl j=>cases ry;exact ne_bool (jZ I q (congrArg not zKo))
  | str j=>obtain⟨t',rfl⟩:=ry;exact PySem.EqMixed.ne_bool_str (jZ I q (by simp))
  | _=>exact absurd (show false=true from hs) Bool.false_ne_true
 | int i =>
  obtain⟨t,rfl⟩:=rx
  cases y with
  | non=>cases ry;exact PySem.EqNone.ne_int_none (jZ I q (by simp))
  | int j=>obtain⟨t',rfl⟩:=ry;exact ne_int (jZ I q (congrArg not zIf))
  | str j=>obtain⟨t',rfl⟩:=ry;exact PySem.EqMixed.ne_int_str (jZ I q (by simp))
  | _=>exact absurd (show false=true from hs) Bool.false_ne_true
 | str i =>
  obtain⟨t,rfl⟩:=rx
  cases y with
  | non=>cases ry;exact PySem.EqNone.ne_str_none (jZ I q (by simp))
  | bl j=>cases ry;exact PySem.EqMixed.ne_str_bool (jZ I q (by simp))
  | int j=>obtain⟨t',rfl⟩:=ry;exact PySem.EqMixed.ne_str_int (jZ I q (by simp))
  | str j=>obtain⟨t',rfl⟩:=ry;exact ne_str (jZ I q (congrArg not zId))
  | _=>exact absurd (show false=true from hs) Bool.false_ne_true
 | byt i =>
  obtain⟨t,rfl⟩:=rx
  cases y with
  | byt j=>obtain⟨t',rfl⟩:=ry;exact PySem.W.ne_bytes (jZ I q (congrArg not zIN))
  | _=>exact absurd (show false=true from hs) Bool.false_ne_true
 | _=>cases y<;>exact absurd (show false=true from hs) Bool.false_ne_true
theorem zQg:OpR X (compareOp .Lt) (rI0 fun i j=>.bl (decide (i < j))):=zL0 fun _ _ _ _ _ _ _ q=>lt_int q
theorem zQe:OpR X (compareOp .Gt) (rI0 fun i j=>.bl (decide (j < i))):=zL0 fun _ _ _ _ _ _ _ q=>gt_int q
theorem zQk:OpR X (compareOp .GtE) (rI0 fun i j=>.bl (decide (j <= i))):=zL0 fun _ _ _ _ _ _ _ q=>ge_int q
theorem zKN:OpR X (compareOp .Lt) (fun x y H Q=>∃ i j,x=.str i/\y=.str j/\Q (.bl (decide (i.cps.toList < j.cps.toList))) H):=by
 intro pins s σ H x y v u Q I rx ry h
 obtain⟨i,j,rfl,rfl,q⟩:=h
 obtain⟨t,rfl⟩:=rx
 obtain⟨t',rfl⟩:=ry
 exact lt_str (jZ I q rfl)
theorem zKX:OpR X (compareOp .In) (fun x y H Q=>∃ i j,x=.str i/\y=.str j/\Q (.bl (!(Builtin.Str.occurrences j i 0 j.length 1).isEmpty)) H):=by
 intro pins s σ H x y v u Q I rx ry h
 obtain⟨i,j,rfl,rfl,q⟩:=h
 obtain⟨t,rfl⟩:=rx
 obtain⟨t',rfl⟩:=ry
 exact in_str (jZ I q rfl)
theorem zGp:OpR X (compareOp .NotIn) (fun x y H Q=>∃ i j,x=.str i/\y=.str j/\Q (.bl (!(!(Builtin.Str.occurrences j i 0 j.length 1).isEmpty))) H):=by
 intro pins s σ H x y v u Q I rx ry h
 obtain⟨i,j,rfl,rfl,q⟩:=h
 obtain⟨t,rfl⟩:=rx
 obtain⟨t',rfl⟩:=ry
 exact notIn_str (jZ I q rfl)
theorem OpR.or {f:Value->Value->Sem Value}{r r':R2} (h:OpR X f r) (h':OpR X f r'):OpR X f (fun x y H Q=>r x y H Q\/r' x y H Q):=by
 intro pins s σ H x y v u Q I rx ry q
 rcases q with q | q
 ·exact h pins s σ H x y v u Q I rx ry q
 ·exact h' pins s σ H x y v u Q I rx ry q
theorem yG (b:Expr) {op:CmpOp} (h:op≠.In:=by decide) (h2:op≠.NotIn:=by decide):behindInMarks op b=false:=by
 have e1:(op == CmpOp.In)=false:=by cases op<;>first | rfl | exact absurd rfl h
 have e2:(op == CmpOp.NotIn)=false:=by cases op<;>first | rfl | exact absurd rfl h2
 cases b<;>simp[behindInMarks,e1,e2]
theorem zNk {op:CmpOp}{r:R2} (ho:OpR X (compareOp op) r) (ha:PE X a ta) (hb:PE X b tb) (hm:behindInMarks op b=false):PE X (.Compare a [op] [b] pos) (tOp r ta tb):=by
 intro pins s σ H Q I h
 exact wpAny_Compare1 (zLX ha hb I h fun v u s2 x y H2 I2 rx ry q=>ho pins s2 σ H2 x y v u Q I2 rx ry q) hm
def zQl (t:TE):TT:=fun σ H Q=>t σ H fun x H'=>∃ k,x=.bl k/\Q k H'
theorem zNl {op:CmpOp}{r:R2} (ho:OpR X (compareOp op) r) (ha:PE X a ta) (hb:PE X b tb) (hm:behindInMarks op b=false):PT X (.Compare a [op] [b] pos) (zQl (tOp r ta tb)):=by
 intro pins s σ H Q I h
 refine wpAny_isTrue_Compare1 (thn (ha pins s σ H _ I h) fun v s1 ⟨x,H1,I1,r1,q1⟩=>thn (hb pins s1 σ H1 _ I1 q1) fun u s2 ⟨y,H2,I2,r2,q2⟩ =>
  thn (ho pins s2 σ H2 x y v u _ I2 r1 r2 q2) fun c s3 ⟨z,H3,I3,r3,k,e,q3⟩=>?_) hm
 subst e
 cases r3
 exact wpAny_truthy_bool ⟨H3,I3,q3⟩
def zPI (K:PySem.W.Frag) (x:V) (H:Hp) (k:Bool):Prop :=
 match x with
 | .non=>k=false
 | .bl b=>k=b
 | .int i=>k=(i != 0)
 | .str y=>y.length <= sizeLine/\k=((y.length:Int) != 0)
 | .byt y=>y.size <= sizeLine/\k=((y.size:Int) != 0)
 | .ref p=>(∃ xs,SqL K H p xs/\k = !xs.isEmpty)\/(∃ xs,SqT K H p xs/\k = !xs.isEmpty)\/∃ kvs,H p=some (.dK kvs)/\k = !kvs.isEmpty
 | _=>False
theorem zIr {κ:Type}{kvs:List (κ×V)}{vs:List (κ×Value)} (r:KV kvs vs):(!vs.isEmpty) = !kvs.isEmpty:=by
 cases r<;>rfl
theorem zEL {xs:List V}{its:List Value} (r:zh xs its):(!its.toArray.isEmpty) = !xs.isEmpty:=by
 cases r<;>simp
theorem zAc:(sizeLine:Nat) < 2 ^ 63:=by rw[sizeLine_eq];decide
theorem zP1:zRL X (fun x H Q=>∃ k,zPI X.K x H k/\Q k H):=by
 intro pins s σ H x v Q I rx h
 obtain⟨k,e,q⟩:=h
 have hl:=zAc
 have hs:sizeLine=16777216:=sizeLine_eq
 cases x with
 | non =>
  cases rx
  have e':k=false:=e
  subst e'
  exact truthy_none ⟨H,I,q⟩
 | bl b =>
  cases rx
  have e':k=b:=e
  subst e'
  exact wpAny_truthy_bool ⟨H,I,q⟩
 | int i =>
  obtain⟨t,rfl⟩:=rx
  have e':k=(i != 0):=e
  subst e'
  exact PySem.P.truthy_int ⟨H,I,q⟩
 | str y =>
  obtain⟨t,rfl⟩:=rx
  obtain⟨hy,e'⟩:y.length <= sizeLine/\k=((y.length:Int) != 0):=e
  subst e'
  exact PySem.P.truthy_str (by omega) ⟨H,I.tok _,q⟩
 | byt y =>
  obtain⟨t,rfl⟩:=rx
  obtain⟨hy,e'⟩:y.size <= sizeLine/\k=((y.size:Int) != 0):=e
  subst e'
  exact PySem.W.truthy_bytes (by omega) ⟨H,I.tok _,q⟩
 | ref p =>
  cases rx
  have e':(∃ xs,SqL X.K H p xs/\k = !xs.isEmpty)\/(∃ xs,SqT X.K H p xs/\k = !xs.isEmpty)\/∃ kvs,H p=some (.dK kvs)/\k = !kvs.isEmpty:=e
  rcases e' with ⟨xs,hx,e'⟩ | ⟨xs,hx,e'⟩ | ⟨kvs,hx,e'⟩
  ·subst e'
   obtain⟨its,r,pl,hz⟩:=I.list hx
   have hlen:=r.length
   exact wpAny_truthy_list pl.isList (by simp only[List.size_toArray];omega) ⟨H,I.tok _,by rw[zEL r];exact q⟩
  ·subst e'
   obtain⟨its,r,pl,hz⟩:=I.tuple hx
   have hlen:=r.length
   exact truthy_tuple pl (by simp only[List.size_toArray];omega) ⟨H,I.tok _,by rw[zEL r];exact q⟩
  ·subst e'
   obtain⟨hz,hS,vs,r,m⟩:kvs.length <= sizeLine/\(p == sysModules)=false/\∃ vs,KV kvs vs/\s.heap.DictOf (jF X.prog X.w) p vs:=I.hok p _ hx
   have hlen:kvs.length=vs.length:=Paired.length r
   exact wpAny_truthy_dict hS m (by omega) ⟨H,I.tok _,by rw[zIr r];exact q⟩
 | _=>exact (show False from e).elim
theorem zMl (ha:PE X a ta) (he:∀ whole,isTrue a X.env whole=(do let v <- whole;standAt a.pos;holding [v] (truthy v))) :
  PT X a (fun σ H Q=>ta σ H fun x H'=>∃ k,zPI X.K x H' k/\Q k H'):=by
 intro pins s σ H Q I h
 exact isTrue_plain (thn (ha pins s σ H _ I h) fun v s1 ⟨x,H1,I1,r1,q1⟩=>zP1 pins s1 σ H1 x v Q I1 r1 q1) (he _)
theorem zJX:OpR X (binaryOp .Add) (fun x y H Q=>∃ i j,x=.str i/\y=.str j/\i.length+j.length <= sizeLine/\Q (.str (i++j)) H):=by
 intro pins s σ H x y v u Q I rx ry h
 obtain⟨i,j,rfl,rfl,hz,q⟩:=h
 obtain⟨t,rfl⟩:=rx
 obtain⟨t',rfl⟩:=ry
 exact wpAny_with_toks (n:=1) I.tk (add_str (fun t' tk htk=>⟨.str (i++j),H,I.tok _ htk,⟨_,rfl⟩,q⟩) hz)
theorem zH0:OpR X (inplaceOp .Add) (fun x y H Q=>∃ i j,x=.str i/\y=.str j/\i.length+j.length <= sizeLine/\Q (.str (i++j)) H):=by
 intro pins s σ H x y v u Q I rx ry h
 obtain⟨i,j,rfl,rfl,hz,q⟩:=h
 obtain⟨t,rfl⟩:=rx
 obtain⟨t',rfl⟩:=ry
 exact wpAny_with_toks (n:=1) I.tk (iadd_str (fun t' tk htk=>⟨.str (i++j),H,I.tok _ htk,⟨_,rfl⟩,q⟩) hz)
theorem Qd {x:V}{us:List Value} (r:zh [x] us):∃ u,us=[u]/\zj x u:=by
 cases r with
 | cons r1 r2=>cases r2;exact⟨_,rfl,r1⟩
theorem zMy {x y:V}{us:List Value} (r:zh [x,y] us):∃ u w',us=[u,w']/\zj x u/\zj y w':=by
 cases r with
 | cons r1 r2 =>
  cases r2 with
  | cons r3 r4=>cases r4;exact⟨_,_,rfl,r1,r3⟩
theorem zJx (hc:X.calm=true):qQ X (.builtin "max") (fun xs H Q=>∃ i j,xs=[.int i,.int j]/\Q (.int (if j > i then j else i)) H):=by
 intro pins s σ H xs us Q I r h
 obtain⟨i,j,rfl,q⟩:=h
 obtain⟨u,w',rfl,⟨t,rfl⟩,⟨t',rfl⟩⟩:=zMy r
 refine wpAny_with_toks (n:=1) I.tk (max_two_ints (I.ok.hd hc) fun h' tk k htk=>⟨_,H,I.kept k htk,?_,q⟩)
 by_cases hj:j > i
 ·rw[if_pos hj,if_pos hj];exact⟨_,rfl⟩
 ·rw[if_neg hj,if_neg hj];exact⟨_,rfl⟩
theorem zKl:qQ X (.type "int") (fun xs H Q=>(∃ i,xs=[.int i]/\Q (.int i) H)\/∃ k,xs=[.bl k]/\Q (.int (if k then 1 else 0)) H):=by
 intro pins s σ H xs us Q I r h
 rcases h with ⟨i,rfl,q⟩ | ⟨k,rfl,q⟩
 ·obtain⟨u,rfl,t,rfl⟩:=Qd r
  exact call_int_int ⟨.int i,H,I,⟨_,rfl⟩,q⟩
 ·obtain⟨u,rfl,r1⟩:=Qd r
  cases r1
  exact call_int_bool ⟨.int (if k then 1 else 0),H,I.tok _,⟨_,rfl⟩,q⟩
end
end L2
namespace L2
open PySem PySem.Spec PyProof.Rows
structure zLz (h:Heap) (x dx C:Addr) (mA:Str->Option Value):Prop where
 obj:h.get? x=some (PySem.W.instObj C dx)
 ns:h.Ns1 dx mA
 ne:dx≠x
theorem zKw {h:Heap}{dx:Addr}{mA:Str->Option Value} (n:h.Ns1 dx mA):∃ od,h.get? dx=some od/\∀ name,PySem.W.lookIn name od=some (mA name):=by
 obtain⟨o,es,ep,ho,hd,hk,_,hm⟩:=n
 refine⟨o,ho,fun name=>?_⟩
 have e:=hm name
 unfold nsFind findBy at e
 rw[<- Array.find?_toList] at e
 unfold PySem.W.lookIn
 rw[hd]
 dsimp only
 split
 ·rename_i y q
  rw[q] at e
  exact congrArg some e
 ·rename_i q
  rw[q] at e
  have a:es.toList.any (·.refKey)=false:=by
   rw[List.any_eq_false]
   intro y hy
   obtain⟨z,t,hkey⟩:=hk y (Array.mem_toList_iff.mp hy)
   simp[DictEntry.refKey,hkey]
  have a':¬ es.toList.any (·.refKey)=true:=by rw[a];exact Bool.false_ne_true
  rw[if_neg a']
  exact congrArg some e
theorem zLz.look {h:Heap}{x dx C:Addr}{mA:Str->Option Value} (I:zLz h x dx C mA):∃ od,PySem.W.InstAt h x (PySem.W.instObj C dx) C (some od)/\∀ name,PySem.W.lookIn name od=some (mA name) :=
 let ⟨od,ho,hl⟩:=zKw I.ns
 ⟨od,⟨I.obj,rfl,rfl,ho⟩,hl⟩
theorem Jj.some_of {v:V}{o:Option Value} (r:Jj (some v) o):∃ u,o=some u/\zj v u:=by
 cases o with
 | none=>exact (show False from r).elim
 | some u=>exact⟨u,rfl,r⟩
section
variable {P:Program}{w:World}{H H':Hp}{h h':Heap}{a C dx:Addr}{fs fs':List (Str×V)}
theorem zNf (hok:HOk P w H h) (e:H a=some (.ins C dx fs)):∃ mA,zLz h a dx C mA/\(∀ f,Jj (fs.lookup f) (mA f))/\PySem.Within mA (fs.map (·.1))/\fs.length <= 1000/\H dx=some (.own a):=by
 obtain⟨d,z,ne,ob,mA,n,r,q⟩:=(show jr P w H h a (.ins C dx fs) from hok a _ e)
 exact⟨mA,⟨ob,n,ne⟩,r,q,z,d⟩
end
structure Cls (K:PySem.W.Frag) (C:Addr):Prop where
 pg:PySem.W.plainGet K C Str.empty=true
 hd:PySem.W.hasDictIn K C=true
 po:PySem.W.plainOver K C=true
 sa:PySem.W.findIn K (.ref C) "__setattr__" = some (some (.builtin "object.__setattr__"))
theorem Cls.get {K:PySem.W.Frag}{C:Addr} (c:Cls K C) (f:Str):PySem.W.plainGet K C f=true:=c.pg
def zQB (K:PySem.W.Frag) (C:Addr) (f:Str):Prop:=PySem.W.findIn K (.ref C) f=some none
structure Con (K:PySem.W.Frag) (C:Addr) (f:Str) (v:V) (u:Value):Prop where
 at_:PySem.W.findIn K (.ref C) f=some (some u)
 rel:zj v u
 get:PySem.W.specialIn K u "__get__" = some none
 cp:PySem.W.copiedNames.contains f=false
structure zQv (K:PySem.W.Frag) (C:Addr) (m:Str) (f:Addr):Prop where
 at_:PySem.W.findIn K (.ref C) m=some (some (.ref f))
 fn:PySem.W.isFn K (.ref f)=true
 kp:PySem.W.keepIn K (.ref f)=true
def zQ1 (X:Cx) (op:Operator) (rd:V->V->Hp->VK->Prop):Prop :=
 ∀ (pins:List (Addr×Obj)) (s:Shared) (σ:St) (H:Hp) (x y:V) (u v:Value) (Q:VK),Inv X pins σ H s->zj x u->zj y v->rd x y H Q->wpAny (model X.prog X.w) X.A (inplaceOp op u v) (EP X pins σ Q) X.xe s
section
variable {X:Cx}{pins:List (Addr×Obj)}{σ:St}{H:Hp}{s:Shared}{A:Around}{E:Value->Shared->Prop}{Q:Value->Shared->Prop}{c:Value}{b:Bool}
inductive Jh (K:PySem.W.Frag) (H:Hp):V->Value->Prop where
 | non:Jh K H .non (.type "NoneType")
 | bl (x:Bool):Jh K H (.bl x) (.type "bool")
 | int (i:Int):Jh K H (.int i) (.type "int")
 | str (x:Str):Jh K H (.str x) (.type "str")
 | flt (x:UInt64):Jh K H (.flt x) (.type "float")
 | lst {a:Addr}{xs:List V} (e:H a=some (.lst xs)):Jh K H (.ref a) (.type "list")
 | frz {a:Addr}{o:Obj}{xs:List V} (e:H a=some (.frz o (.lst xs))):Jh K H (.ref a) (.type "list")
 | tup {a:Addr}{xs:List V} (e:H a=some (.tup xs)):Jh K H (.ref a) (.type "tuple")
 | dK {a:Addr}{kvs:List (Key×V)} (e:H a=some (.dK kvs)):Jh K H (.ref a) (.type "dict")
 | dT {a:Addr}{kvs:List (List Key×V)} (e:H a=some (.dT kvs)):Jh K H (.ref a) (.type "dict")
 | ins {a C dx:Addr}{fs:List (Str×V)} (e:H a=some (.ins C dx fs)) (cl:Cls K C) (ha:PySem.W.findIn K (.ref C) "__class__" = some (some (.builtin "object.__class__")))
   (hn:PySem.W.specialIn K (.builtin "object.__class__") "__get__" = some (some (.builtin "getset_descriptor.__get__"))) (htk:PySem.W.takesIn K (.builtin "object.__class__")=some true)
   (hm:PySem.W.mroIn K C (.type "object")=some true):Jh K H (.ref a) (.ref C)
theorem zKG {x:V}{u t:Value} (I:Inv X pins σ H s) (rx:zj x u) (ty:Jh X.K H x t) (e:PySem.W.kitOne X.K t c=some b) (h:∀ tk,Q (.bool b) { s with toks:=tk }) :
  wpAny (model X.prog X.w) A (call (.builtin "isinstance") [u,c]) Q E s:=by
 cases ty with
 | non=>cases (show u=Value.none from rx);exact PySem.W.kia_one PySem.W.kitx_none I.kIn True.intro e (fun z=>nomatch z) h
 | bl y=>cases (show u=Value.bool y from rx);exact PySem.W.kia_one PySem.W.kitx_bool I.kIn True.intro e (fun z=>nomatch z) h
 | int i=>obtain⟨t,q⟩:=(show ∃ t,u=Value.int i t from rx);cases q;exact PySem.W.kia_one PySem.W.kitx_int I.kIn True.intro e (fun z=>nomatch z) h
 | str y=>obtain⟨t,q⟩:=(show ∃ t,u=Value.str y t from rx);cases q;exact PySem.W.kia_one PySem.W.kitx_str I.kIn True.intro e (fun z=>nomatch z) h
 | flt y=>obtain⟨t,q⟩:=(show ∃ t,u=Value.float y t from rx);cases q;exact PySem.W.kia_one PySem.W.kitx_float I.kIn True.intro e (fun z=>nomatch z) h
 | @lst a xs ea =>
  cases (show u=Value.ref a from rx)
  obtain⟨_,_,n,_,h1⟩:=(show jr X.prog X.w H s.heap a (.lst xs) from I.hok a _ ea)
  exact PySem.W.kia_one PySem.W.kitx_list I.kIn ⟨_,h1,rfl⟩ e (fun z=>nomatch z) h
 | @frz a ob xs ea =>
  cases (show u=Value.ref a from rx)
  obtain⟨_,_,_,n,_,h1⟩:=(show jr X.prog X.w H s.heap a (.frz ob (.lst xs)) from I.hok a _ ea)
  exact PySem.W.kia_one PySem.W.kitx_list I.kIn ⟨_,h1,rfl⟩ e (fun z=>nomatch z) h
 | @tup a xs ea =>
  cases (show u=Value.ref a from rx)
  obtain⟨_,_,_,p⟩:=(show jr X.prog X.w H s.heap a (.tup xs) from I.hok a _ ea)
  obtain⟨o,h1,h2,_⟩:=p
  exact PySem.W.kia_one PySem.W.kitx_tuple I.kIn ⟨o,h1,h2⟩ e (fun z=>nomatch z) h
 | @dK a kvs ea =>
  cases (show u=Value.ref a from rx)
  obtain⟨_,_,vs,_,p⟩:=(show jr X.prog X.w H s.heap a (.dK kvs) from I.hok a _ ea)
  obtain⟨o,es,ep,h1,h2,_⟩:=p
  exact PySem.W.kia_one PySem.W.kitx_dict I.kIn ⟨o,h1,h2.1⟩ e (fun z=>nomatch z) h
 | @dT a kvs ea =>
  cases (show u=Value.ref a from rx)
  obtain⟨_,_,xs,_,o,es,ep,h1,h2,_⟩:=(show jr X.prog X.w H s.heap a (.dT kvs) from I.hok a _ ea)
  exact PySem.W.kia_one PySem.W.kitx_dict I.kIn ⟨o,h1,h2.1⟩ e (fun z=>nomatch z) h
 | @ins a C dx fs ea cl ha hn htk hm =>
  cases (show u=Value.ref a from rx)
  obtain⟨mA,O,_⟩:=zNf I.hok ea
  obtain⟨od,J,_⟩:=O.look
  exact PySem.W.kia_one (PySem.W.kitx_own (cl.get _) cl.hd ha hn htk hm) I.kIn J e (fun z=>nomatch z) h
end
end L2
namespace L2
open PySem PySem.Spec PyProof.Rows
structure jb (k:Nat) (A:Around):Prop where
 hd:A.handled=none
 dp:A.depth+3 * k+5 < recursionLimit
 un:A.units+16 * k+200 < cLine
theorem jb.mono {j k:Nat}{A:Around} (r:jb k A) (h:j <= k):jb j A:=⟨r.hd,by have:=r.dp;omega,by have:=r.un;omega⟩
theorem jb.deeper {k:Nat}{A:Around} (r:jb (k+1) A) (env:Env):jb k (A.deeper env) :=
 ⟨r.hd,by have:=r.dp;show A.depth+1+3 * k+5 < _;omega,by have:=r.un;show A.units+3+16 * k+200 < _;omega⟩
theorem jb.depth {k:Nat}{A:Around} (r:jb k A):A.depth < recursionLimit:=by have:=r.dp;omega
theorem jb.units {k:Nat}{A:Around} (r:jb k A):A.units+64 < cLine:=by have:=r.un;omega
theorem jb.units0 {k:Nat}{A:Around} (r:jb k A):A.units < cLine:=by have:=r.un;omega
def zQ5:TA:=fun _ H Q=>Q [] H
def zQc (ta:TE) (tr:TA):TA:=fun σ H Q=>ta σ H fun x H1=>tr σ H1 fun xs H2=>Q (x::xs) H2
section
variable {X:Cx}{e:Expr}{es:List Expr}{te:TE}{t:TA}{pos:Pos}
theorem zG3:PA X [] zQ5:=fun _ _ _ _ H Q I h=>Calls.spliced_nil ⟨[],H,I,.nil,h⟩
theorem zE6 (ha:PE X e te) (hr:PA X es t) (hs:starEach (e::es) X.env=(false,eval e X.env)::starEach es X.env:=by rfl):PA X (e::es) (zQc te t):=by
 intro pos pins s σ H Q I h
 rw[hs]
 show wpAny _ _ (spliced ((false,eval e X.env)::backTo pos (starEach es X.env))) _ _ s
 refine Calls.spliced_cons (thn (ha pins s σ H _ I h) fun u s1 ⟨x,H1,I1,r1,q1⟩=>?_)
 exact thn (hr pos pins s1 σ H1 _ I1 q1) fun us s2 ⟨xs,H2,I2,r2,q2⟩=>⟨x::xs,H2,I2,.cons r1 r2,q2⟩
def zRB (t:TA):TE:=fun σ H Q=>t σ H fun xs H1=>xs.length <= sizeLine/\∀ p,H1 p=none->Q (.ref p) (upd H1 p (.tup xs))
def zRF (t:TA):TE:=fun σ H Q=>t σ H fun xs H1=>xs.length <= sizeLine/\∀ p,H1 p=none->Q (.ref p) (upd H1 p (.lst xs))
theorem zOg {x1} (h:PA X es t):PE X (.Tuple es x1 pos) (zRB t):=by
 intro pins s σ H Q I hq
 refine wpAny_Tuple_spliced (thn (h pos pins s σ H _ I hq) fun us s1 ⟨xs,H1,I1,r,z,q⟩=>⟨by rw[<- r.length];exact z,?_⟩)
 have hf:H1 s1.heap.objs.size=none:=I1.hok.fresh (Nat.le_refl _)
 refine⟨.ref s1.heap.objs.size,upd H1 s1.heap.objs.size (.tup xs),I1.laid (t':=s1.toks) (fun b u e=>Heap.get?_push_of_some _ e) (Nat.le_refl _) ?_,rfl,q _ hf⟩
 exact⟨z,us,r,⟨_,Heap.get?_push_size _ rfl,rfl,_,rfl⟩⟩
theorem zOx (h:PA X es t):PE X (.List es pos) (zRF t):=by
 intro pins s σ H Q I hq
 refine wpAny_List_spliced (thn (h pos pins s σ H _ I hq) fun us s1 ⟨xs,H1,I1,r,z,q⟩=>⟨by rw[<- r.length];exact z,?_⟩)
 have hf:H1 s1.heap.objs.size=none:=I1.hok.fresh (Nat.le_refl _)
 refine⟨.ref s1.heap.objs.size,upd H1 s1.heap.objs.size (.lst xs),I1.laid (t':=s1.toks) (fun b u e=>Heap.get?_push_of_some _ e) (Nat.le_refl _) ?_,rfl,q _ hf⟩
 exact⟨z,us,0,r,Heap.get?_push_size _ rfl⟩
end
abbrev Sp:=List V->Hp->VK->XK->Prop
abbrev CXT:=List Env->Hp->Shared->XK->Value->Shared->Prop
structure zJQ (P:Program) (w:World) (K:PySem.W.Frag) (mg:Str->Option Value) (base:Heap) (A:Around) (outer:List Env) (s:Shared) (H:Hp):Prop where
 frames:A.frames=some outer
 mod:Mod K mg base
 bs:∀ b o,base.get? b=some o->s.heap.get? b=some o/\H b=none
 bsz:base.objs.size <= s.heap.objs.size
 funs:s.heap.FunFrames base outer
 frf:∀ b∈frs outer,H b=none
 hok:HOk P w H s.heap
 bare:AllBare s.gens
def CE (outer:List Env) (P:Program) (w:World) (H:Hp) (s:Shared) (Q:VK) (u:Value) (s':Shared):Prop :=
 ∃ v H',s'.os=s.os/\AllBare s'.gens/\Un (frs outer) [] H H' s.heap s'.heap/\HOk P w H' s'.heap/\zj v u/\Q v H'
def CR (CX:CXT) (outer:List Env) (P:Program) (w:World) (H:Hp) (s:Shared) (Q:VK) (E:XK) (r:Result) (s':Shared):Prop :=
 match r with
 | .ok (.ret u)=>CE outer P w H s Q u s'
 | .ok _=>False
 | .error e=>CX outer H s E e s'
structure qH (P:Program) (w:World) (K:PySem.W.Frag) (mg:Str->Option Value) (base:Heap) (CX:CXT) (k:Nat) (f:Addr) (fd:FuncData) (ps:List Str) (sp:Sp):Prop where
 len:∀ vs H Q E,sp vs H Q E->vs.length=ps.length
 run:∀ (A:Around) (outer:List Env) (s:Shared) (H:Hp) (args:Args) (us:List Value) (vs:List V) (Q:VK) (E:XK),jb k A->zJQ P w K mg base A outer s H->(0 < s.toks\/∃ p∈ps,fd.scope.names.lookup p=some .local)->BindsTo s fd args (ps.zip us)->zh vs us->sp vs H Q E ->
  codeAny (model P w) A (.call (.ref f) args) (CR CX outer P w H s Q E) s
section
variable {X:Cx}{pins:List (Addr×Obj)}{σ:St}{H:Hp}{s s':Shared}
theorem Inv.env0 (I:Inv X pins σ H s):zJQ X.prog X.w X.K X.mg X.base X.A X.stack s H :=
 ⟨I.ok.frames,I.ok.mod,I.bs,Nat.le_trans I.ok.bsz I.sz,I.stack,I.stkFree,I.hok,I.bare⟩
theorem Inv.after {Q:VK}{u:Value} (I:Inv X pins σ H s) (h:CE X.stack X.prog X.w H s Q u s') (ht:0 < s'.toks):EP X pins σ Q u s':=by
 obtain⟨v,H',os,bare,un,hok,r,q⟩:=h
 obtain⟨hh,g,d,t,os'⟩:=s'
 obtain rfl:os'=s.os:=os
 exact⟨v,H',I.call (h':=hh) (g':=g) (d':=d) (t':=t) (ch:=[]) un hok bare (fun b z=>absurd z (by simp)) ht,r,q⟩
end
def zM0 (sp:Sp) (dvs:List V) (E:XK) (t:TA):TE:=fun σ H Q=>t σ H fun vs H1=>sp (vs++dvs) H1 Q E
def zA7 (K:PySem.W.Frag) (fd:FuncData) (ps:List Str) (ds:List Value):Prop :=
 ∀ (s:Shared) (us:List Value),K.In s.heap->(us++ds).length=ps.length->BindsTo s fd ⟨us,[]⟩ (ps.zip (us++ds))
theorem zA7.all {K:PySem.W.Frag}{fd:FuncData}{ps:List Str} (h:∀ us:List Value,us.length=ps.length->bindArgs fd ⟨us,[]⟩=pure (ps.zip us)):zA7 K fd ps []:=fun s us _ hl=>by
 rw[List.append_nil] at hl ⊢
 exact .of_eq (h us hl)
def zBW (CX:CXT) (X:Cx) (E:XK):Prop:=∀ (pins:List (Addr×Obj)) (σ:St) (H:Hp) (s:Shared) (e:Value) (s':Shared),Inv X pins σ H s->CX X.stack H s E e s'->X.xe e s'
section
variable {X:Cx}{CX:CXT}{k:Nat}{f C:Addr}{fd:FuncData}{ps:List Str}{sp:Sp}{dvs:List V}{ds:List Value}{E:XK}{x m:Str}{p pos apos:Pos}{e o:Expr}{es:List Expr}{ta:TE}{t:TA}
theorem zPR {pins:List (Addr×Obj)}{σ:St}{H:Hp}{s:Shared}{Q:VK}{us:List Value}{vs:List V} (F:qH X.prog X.w X.K X.mg X.base CX k f fd ps sp) (hr:jb k X.A) (hb:zA7 X.K fd ps ds) (hd:zh dvs ds) (hx:zBW CX X E)
  (I:Inv X pins σ H s) (r:zh vs us) (h:sp (vs++dvs) H Q E):wpAny (model X.prog X.w) X.A (call (.ref f) us) (EP X pins σ Q) X.xe s:=by
 have r2:zh (vs++dvs) (us++ds):=r.append hd
 have hl:(us++ds).length=ps.length:=by rw[<- r2.length];exact F.len _ _ _ _ h
 refine wpAny_call (codeAny_mono (codeAny_toks_of (n:=1) I.tk (F.run X.A X.stack s H ⟨us,[]⟩ (us++ds) (vs++dvs) Q E hr I.env0 (.inl I.tk) (hb s us I.kIn hl) r2 h)) fun r s' ⟨htk,hq⟩=>?_)
 cases r with
 | error e=>exact hx pins σ H s e s' I hq
 | ok fl =>
  cases fl with
  | ret u=>exact I.after hq htk
  | next=>exact False.elim hq
  | brk=>exact False.elim hq
  | cont=>exact False.elim hq
theorem zOA (F:qH X.prog X.w X.K X.mg X.base CX k f fd ps sp) (hr:jb k X.A) (hg:Gl X x) (hm:X.mg x=some (.ref f)) (hk:PySem.W.keepIn X.K (.ref f)=true) (hb:zA7 X.K fd ps ds) (hd:zh dvs ds) (hx:zBW CX X E)
  (ha:PA X (e::es) t) (hdb:(x == ("__debug__" : Str))=false:=by decide) (he:starEach (e::es) X.env=(false,eval e X.env)::starEach es X.env:=by rfl) (hpl:(backTo pos (starEach es X.env)).any (·.1)=false:=by rfl) :
  PE X (.Call (.Name x p) (e::es) [] pos) (zM0 sp dvs E t):=by
 intro pins s σ H Q I h
 refine wpAny_Call_Name_kw (zNP I hg hm ?_ hdb)
 refine PySem.W.callWith_K (h₀:=X.base) I.ok.mod.kin hk (thn (ha pos pins s σ H _ I h) fun us s1 ⟨vs,H1,I1,r,q⟩=>⟨I1.kIn,?_⟩) he hpl
 exact zPR F hr hb hd hx I1 r q
structure Mk (K:PySem.W.Frag) (C f:Addr):Prop where
 makes:PySem.W.makesIn K C=true
 init:PySem.W.findIn K (.ref C) "__init__" = some (some (.ref f))
 fn:PySem.W.isFn K (.ref f)=true
 kp:PySem.W.keepIn K (.ref C)=true
end
section
variable {X:Cx}{CX:CXT}{k:Nat}{f C:Addr}{fd:FuncData}{ps ks:List Str}{sp:Sp}{E:XK}{x m:Str}{p pos apos kpos:Pos}{e o:Expr}{es:List Expr}{kws:List Keyword}{te ta:TE}{t tk:TA}{nm:Option Str}
structure zRY (K:PySem.W.Frag) (fd:FuncData) (ps ks:List Str) (g:List Value->List Value->List Value) (gV:List V->List V->List V):Prop where
 to:∀ (s:Shared) (us ws:List Value),K.In s.heap->(g us ws).length=ps.length->BindsTo s fd ⟨us,ks.zip ws⟩ (ps.zip (g us ws))
 rel:∀ {vs:List V}{us:List Value}{zs:List V}{ws:List Value},zh vs us->zh zs ws->zh (gV vs zs) (g us ws)
variable {g:List Value->List Value->List Value}{gV:List V->List V->List V}
end
structure ja (N P:List Str) (sc:Scope):Prop where
 kind:sc.kind=.function
 co:sc.isCoroutine=false
 gen:sc.isGenerator=false
 nd:N.Nodup
 pre:N.take P.length=P
 par:∀ x∈P,sc.names.lookup x=some .local\/sc.names.lookup x=some .cell
 nofree:∀ y∈sc.names,y.2≠.free
theorem zFL {kindOf:Str->Option NameKind}{x:Str}:∀ {binds:List (Str×Value)}{m:Str->Option Value},(∀ v,(x,v)∉binds)->bindL kindOf binds m x=m x
 | [],_,_=>rfl
 | (n,v)::r,m,h=>by
  unfold bindL
  rw[zFL fun w hw=>h w (List.mem_cons_of_mem _ hw)]
  split
  ·have:x≠n:=by rintro rfl;exact h v List.mem_cons_self
   simp[this]
  ·rfl
theorem zFh {kindOf:Str->Option NameKind}{x:Str}:∀ {binds:List (Str×Value)}{m:Str->Option Value},(∀ v,(x,v)∉binds)->bindC kindOf binds m x=m x
 | [],_,_=>rfl
 | (n,v)::r,m,h=>by
  unfold bindC
  rw[zFh fun w hw=>h w (List.mem_cons_of_mem _ hw)]
  split
  ·rfl
  ·have:x≠n:=by rintro rfl;exact h v List.mem_cons_self
   simp[this]
theorem zFQ {kindOf:Str->Option NameKind}{x:Str}{v:Value}:∀ {P:List Str}{vs:List Value}{i:Nat}{m:Str->Option Value},P.Nodup->P[i]? = some x->vs[i]? = some v->kindOf x=some .local ->
  bindL kindOf (P.zip vs) m x=some v
 | [],_,_,_,_,h,_,_=>by simp at h
 | _::_,[],_,_,_,_,h,_=>by simp at h
 | p::P,w::vs,0,m,nd,h1,h2,hk=>by
  simp at h1 h2;subst h1;subst h2
  show bindL kindOf ((p,w)::P.zip vs) m p=_
  unfold bindL
  rw[zFL fun v hv=>(List.nodup_cons.mp nd).1 (List.of_mem_zip hv).1,if_pos hk]
  simp
 | p::P,w::vs,i+1,m,nd,h1,h2,hk=>by
  show bindL kindOf ((p,w)::P.zip vs) m x=_
  unfold bindL
  exact zFQ (i:=i) (List.nodup_cons.mp nd).2 (by simpa using h1) (by simpa using h2) hk
theorem zFP {kindOf:Str->Option NameKind}{x:Str}{v:Value}:∀ {P:List Str}{vs:List Value}{i:Nat}{m:Str->Option Value},P.Nodup->P[i]? = some x->vs[i]? = some v->kindOf x≠some .local ->
  bindC kindOf (P.zip vs) m x=some v
 | [],_,_,_,_,h,_,_=>by simp at h
 | _::_,[],_,_,_,_,h,_=>by simp at h
 | p::P,w::vs,0,m,nd,h1,h2,hk=>by
  simp at h1 h2;subst h1;subst h2
  show bindC kindOf ((p,w)::P.zip vs) m p=_
  unfold bindC
  rw[zFh fun v hv=>(List.nodup_cons.mp nd).1 (List.of_mem_zip hv).1,if_neg hk]
  simp
 | p::P,w::vs,i+1,m,nd,h1,h2,hk=>by
  show bindC kindOf ((p,w)::P.zip vs) m x=_
  unfold bindC
  exact zFP (i:=i) (List.nodup_cons.mp nd).2 (by simpa using h1) (by simpa using h2) hk
def start (N:List Str) (vs:List V):St:=vs.map some++List.replicate (N.length - vs.length) none
def zAe (CX:CXT) (P:Program) (w:World) (K:PySem.W.Frag) (mg:Str->Option Value) (base:Heap) (N:List Str) (qual:Str) (scope:Scope) (f:Addr) (cd:Value) (A:Around) (outer:List Env) (s:Shared) (H:Hp) (E:XK):Cx where
 prog:=P
 w:=w
 K:=K
 mg:=mg
 base:=base
 A:=A.deeper (envOfC qual scope s.heap.objs.size f cd)
 N:=N
 s₀:=s
 H₀:=H
 env:=envOfC qual scope s.heap.objs.size f cd
 outer:=outer
 stack:=envOfC qual scope s.heap.objs.size f cd::outer
 ex:=[]
 calm:=true
 fn:=fun _=>true
 pn:=[]
 xe:=fun e s'=>wpAny (model P w) (A.deeper (envOfC qual scope s.heap.objs.size f cd)) (leaving (envOfC qual scope s.heap.objs.size f cd) e) (fun _ s''=>CX outer H s E e s'') (fun e' s''=>CX outer H s E e' s'') s'
theorem zG4 {sc:Scope}{n:Nat}{x:Str} (h:sc.names.lookup x=some .cell):∃ c,(cellsFrom n sc.names []).lookup x=some c:=by
 have q:=PySem.W.cellsFrom_some sc.names n [] (.inl h)
 exact Option.isSome_iff_exists.mp q
theorem zBH {M:Model}{A:Around}{E:Value->Shared->Prop}{s₀:Shared}{env:Env} (f:Str×Value->PUnit->Sem (ForInStep PUnit)) (hf:∀ n v u,f (n,v) u=(do storeName env n v;pure (.yield ⟨⟩))) (hk:env.scope.kind=.function) :
  ∀ (binds:List (Str×Value)) (m cm:Str->Option Value) (s:Shared) (Q:PUnit->Shared->Prop),InCallC s₀ env.locals m env.cells cm s ->
   (∀ x∈binds,env.kindOf x.1=some .local\/(env.kindOf x.1=some .cell/\(env.cells.lookup x.1).isSome=true)) ->
   (∀ s',InCallC s₀ env.locals (bindL env.kindOf binds m) env.cells (bindC env.kindOf binds cm) s'->((0 < s.toks\/∃ b∈binds,env.kindOf b.1=some .local)->0 < s'.toks)->Q ⟨⟩ s')->wpAny M A (forIn binds ⟨⟩ f) Q E s
 | [],m,cm,s,Q,x,_,h=>by
  rw[List.forIn_nil]
  exact wpAny_pure (h s x fun z=>z.elim id fun ⟨b,hb,_⟩=>absurd hb (by simp))
 | (n,v)::r,m,cm,s,Q,x,hkind,h=>by
  rw[List.forIn_cons,hf]
  have hr:∀ y∈r,env.kindOf y.1=some .local\/(env.kindOf y.1=some .cell/\(env.cells.lookup y.1).isSome=true):=fun y hy=>hkind y (List.mem_cons_of_mem _ hy)
  rcases hkind (n,v) List.mem_cons_self with hl | ⟨hl,hc⟩
  ·refine wpAny_bind (wpAny_bind (wpAny_storeName_local hl x.toInCall.ns (fun h' hn' hs'=>wpAny_pure (zBH f hf hk r (fun y=>if y=n then some v else m y) cm _ Q ⟨⟨?_,hn',fun b o e=>?_,x.toInCall.fresh⟩,fun k c hc=>?_,x.apart,x.above⟩ hr fun s'' x'' ht=>h s'' ?_ fun _=>ht (.inl (Nat.succ_pos _)))) (by rw[hk];rfl)))
   ·obtain⟨h₁,tk,rfl⟩:=x.toInCall.same
    exact⟨h',_,rfl⟩
   ·exact hs'.extBut b o (Nat.ne_of_lt (Nat.lt_of_lt_of_le (Heap.lt_size e) x.toInCall.fresh)) (x.toInCall.keep b o e)
   ·exact (x.cell k c hc).sameBut hs' (Nat.ne_of_gt (x.above k c (PySem.mem_of_lookup hc)))
   ·unfold bindL bindC;rw[if_pos hl,if_pos hl];exact x''
  ·obtain⟨c,hc⟩:=Option.isSome_iff_exists.mp hc
   have hnl:¬ env.kindOf n=some .local:=by rw[hl];decide
   refine wpAny_bind (wpAny_bind (wpAny_with_toks (n:=s.toks) (Nat.le_refl _) (stCC x hk hl hc fun s' x' hle=>wpAny_pure (zBH f hf hk r m _ s' Q x' hr fun s'' x'' ht=>h s'' ?_ fun z=>ht ?_))))
   ·unfold bindL bindC;rw[if_neg hnl,if_neg hnl];exact x''
   ·rcases z with z | ⟨b,hb,hbl⟩
    ·exact .inl (Nat.lt_of_lt_of_le z hle)
    ·rcases List.mem_cons.mp hb with rfl | hb
     ·exact absurd hbl hnl
     ·exact .inr ⟨b,hb,hbl⟩
theorem zNQ {M:Model}{A:Around}{E:Value->Shared->Prop}{s:Shared}{scope:Scope}{globals:Addr}{binds:List (Str×Value)}{qual:Str}{func:Option Addr}{code:Value}{builtins:Addr}{Q:Env->Shared->Prop}
  (hk:scope.kind=.function)
  (hkind:∀ x∈binds,scope.names.lookup x.1=some .local\/(scope.names.lookup x.1=some .cell/\((cellsFrom (s.heap.objs.size+1) scope.names []).lookup x.1).isSome=true))
  (hQ:∀ env,env=newEnv scope s.heap.objs.size globals (cellsFrom (s.heap.objs.size+1) scope.names []) qual func code none builtins ->
   ∀ s',InCallC s env.locals (bindL env.kindOf binds fun _=>none) env.cells (bindC env.kindOf binds fun _=>none) s'->((0 < s.toks\/∃ b∈binds,scope.names.lookup b.1=some .local)->0 < s'.toks)->Q env s') :
  wpAny M A (newFunctionEnv scope globals [] binds qual func code none builtins) Q E s:=by
 simp only[newFunctionEnv,Option.isSome_none,Bool.false_eq_true,if_false]
 refine wpAny_bind (wpAny_alloc ?_)
 refine wpAny_bind (wpAny_layCells _ (fun name kind cells=>by cases hkc:kind == NameKind.cell<;>simp[hkc]) _ _ _ _ ?_)
 have ok:=cellsFrom_ok scope.names (s.heap.push { cls:=.type "frame",data:=.dict #[] }) (s.heap.objs.size+1) [] ⟨fun _ _ hm=>(nomatch hm),List.Pairwise.nil⟩ (by rw[Heap.size_push];exact Nat.le_refl _)
 rw[Heap.size_push] at ok
 rw[show ({ s with heap:=s.heap.push { cls:=.type "frame",data:=.dict #[] } }:Shared).heap.objs.size=s.heap.objs.size+1 from Heap.size_push ..]
 refine wpAny_bind (zBH (s₀:=s) (env:=newEnv scope s.heap.objs.size globals (cellsFrom (s.heap.objs.size+1) scope.names []) qual func code none builtins)
  _ (fun _ _ _=>rfl) hk binds (fun _=>none) (fun _=>none) _ _
  ⟨⟨⟨_,_,rfl⟩,(Heap.Ns.new s.heap (.type "frame")).keeps (pushCells_keeps _ _),fun b o e=>pushCells_keeps _ _ b o (Heap.get?_push_of_some _ e),Nat.le_refl _⟩,
   fun n c hc=>(ok.empty n c (PySem.mem_of_lookup hc)).1,ok.apart,fun n c hm=>(ok.empty n c hm).2⟩
  hkind fun s' x ht=>wpAny_pure (hQ _ rfl s' x ht))
theorem zK2 {CX:CXT}{P:Program}{w:World}{K:PySem.W.Frag}{mg:Str->Option Value}{base:Heap}{N ps:List Str}{qual:Str}{scope:Scope}{f:Addr}{cd:Value}{A:Around}{outer:List Env}{s s1:Shared}{H:Hp}{E:XK}{us:List Value}{vs:List V}
  (S:ja N ps scope) (hd:A.handled=none) (e0:zJQ P w K mg base A outer s H) (hl:vs.length=ps.length) (r:zh vs us)
  (x:InCallC s s.heap.objs.size (bindL (envOfC qual scope s.heap.objs.size f cd).kindOf (ps.zip us) fun _=>none) (cellsFrom (s.heap.objs.size+1) scope.names []) (bindC (envOfC qual scope s.heap.objs.size f cd).kindOf (ps.zip us) fun _=>none) s1) (ht:0 < s1.toks) :
  Inv (zAe CX P w K mg base N qual scope f cd A outer s H E) [] (start N vs) H s1:=by
 have hpl:ps.length <= N.length:=by have:=congrArg List.length S.pre;rw[List.length_take] at this;omega
 obtain⟨h1,tk,rfl,hk⟩:=x.done
 have noA:∀ b:Addr,b∉(zAe CX P w K mg base N qual scope f cd A outer s H E).ex:=fun b z=>absurd (show b∈([]:List Addr) from z) (by simp)
 refine⟨⟨e0.mod,S.kind,rfl,rfl,Nat.le_refl _,fun y z c h1 h2=>?_,fun y hy=>?_,fun y c _ h=>?_,fun _=>hd,Around.frames_deeper e0.frames,.inr ⟨rfl,rfl⟩,fun b z=>absurd z (noA b),e0.bs,e0.bsz,fun b _ _=>noA b,fun b z=>absurd z (noA b),e0.funs,e0.frf⟩,
  rfl,e0.bare,Un.kept hk,⟨_,x.toInCall.ns,fun i y v h1 h2 h3=>?_⟩,fun y c h=>⟨_,x.cell y c h⟩,e0.hok.fresh (Nat.le_refl _),fun y c h=>?_,fun p hp=>absurd (show p∈([]:List (Addr×Obj)) from hp) (by simp),e0.hok.kept hk,?_,ht⟩
 ·exact name_of_addr x.apart (PySem.mem_of_lookup h1) (PySem.mem_of_lookup h2)
 ·have hy:scope.names.lookup y=some .cell\/scope.names.lookup y=some .free:=hy
  rcases hy with hy | hy
  ·exact zG4 hy
  ·exact absurd rfl (S.nofree _ (PySem.mem_of_lookup hy))
 ·exact Nat.le_of_lt (x.above y c (PySem.mem_of_lookup h))
 ·have hi:i < vs.length:=by
   unfold start at h2
   by_cases hi:i < vs.length
   ·exact hi
   ·rw[List.getElem?_append_right (by simpa using hi)] at h2
    rw[List.getElem?_replicate] at h2
    split at h2<;>cases h2
  have ha:vs[i]? = some v:=by
   unfold start at h2
   rw[List.getElem?_append_left (by simpa using hi),List.getElem?_map] at h2
   cases e:vs[i]? with
   | none=>rw[e] at h2;cases h2
   | some a=>rw[e] at h2;cases h2;rfl
  obtain⟨u,hu,rv⟩:=r.get ha
  have hp:ps[i]? = some y:=by
   rw[<- S.pre,List.getElem?_take_of_lt (by omega)];exact h1
  have ndP:ps.Nodup:=by rw[<- S.pre];exact S.nd.sublist (List.take_sublist _ _)
  refine⟨u,rv,?_⟩
  rcases S.par y (List.mem_of_getElem? hp) with k | k
  ·exact .inl ⟨k,zFQ ndP hp hu k⟩
  ·obtain⟨c,e⟩:=zG4 (n:=s.heap.objs.size+1) k
   refine .inr ⟨.inl k,c,e,?_⟩
   have q:=x.cell y c e
   rw[zFP ndP hp hu (by show scope.names.lookup y≠_;rw[k];decide)] at q
   exact q
 ·exact e0.hok.fresh (Nat.le_of_lt (x.above y c (PySem.mem_of_lookup h)))
 ·unfold start
  show _=N.length
  rw[List.length_append,List.length_map,List.length_replicate]
  omega
theorem zQO {CX:CXT}{P:Program}{w:World}{K:PySem.W.Frag}{mg:Str->Option Value}{base:Heap}{k:Nat}{f:Addr}{name qual:Str}{params:Arguments}{body:List Stmt}{scope:Scope}{dV kV doc pm cdv ct oc:Value}{an od:Option Addr}
  {osl:Array (Option Value)}{N ps:List Str}{sp:Sp} (lk:K.lookup f=some ⟨oc,od,.func (PySem.W.fnOf name qual params body scope dV kV doc pm an cdv ct),osl⟩) (hcd:PySem.W.codeIn K cdv qual=true) (S:ja N ps scope)
  (len:∀ vs H Q E,sp vs H Q E->vs.length=ps.length)
  (hbody:∀ (A:Around) (outer:List Env) (s:Shared) (H:Hp) (vs:List V) (Q:VK) (E:XK),jb k (A.deeper (envOfC qual scope s.heap.objs.size f cdv))->sp vs H Q E ->
   ∃ t,PSs (zAe CX P w K mg base N qual scope f cdv A outer s H E) body t/\t { nx:=fun _ H'=>Q .non H',rt:=Q } (start N vs) H) :
  qH P w K mg base CX (k+1) f (PySem.W.fnOf name qual params body scope dV kV doc pm an cdv ct) ps sp:=by
 refine⟨len,fun A outer s H args us vs Q E hr e0 htk hb r hsp=>?_⟩
 have hl:=len _ _ _ _ hsp
 have KX:K.In s.heap:=e0.mod.kin.keeps fun b o e=>(e0.bs b o e).1
 have lim:s.heap.NoLimit:=e0.mod.nolimit.keeps fun b o e=>(e0.bs b o e).1
 have hkind:∀ y∈ps.zip us,scope.names.lookup y.1=some .local\/(scope.names.lookup y.1=some .cell/\((cellsFrom (s.heap.objs.size+1) scope.names []).lookup y.1).isSome=true):=fun ⟨n,v⟩ hy=>by
  rcases S.par n (List.of_mem_zip hy).1 with q | q
  ·exact .inl q
  ·exact .inr ⟨q,PySem.W.cellsFrom_some _ _ _ (.inl q)⟩
 refine codeAny_call_function hr.depth (KX _ _ lk) rfl S.co S.gen rfl (PySem.W.codeRec_of KX hcd) (hb _ _ _ _ ?_)
 refine zNQ S.kind hkind fun env he s1 x htk1=>?_
 subst he
 refine⟨lim.keeps x.toInCall.keep,codeAny_func ?_⟩
 obtain⟨t,ht,hq⟩:=hbody A outer s H vs Q E (hr.deeper _) hsp
 have I:Inv (zAe CX P w K mg base N qual scope f cdv A outer s H E) [] (start N vs) H s1:=zK2 S hr.hd e0 hl r x (htk1 (htk.imp id fun ⟨p,hp,hpl⟩=>by
  obtain⟨i,hi,e⟩:=List.mem_iff_getElem.mp hp
  have hu:i < us.length:=by rw[<- r.length,hl];exact hi
  exact⟨(p,us[i]),List.mem_iff_getElem.mpr ⟨i,by rw[List.length_zip];omega,by rw[List.getElem_zip,e]⟩,hpl⟩))
 refine wpAny_mono (ht [] s1 (start N vs) H _ I hq) (fun fl s' hs=>?_) fun e s' hs=>hs
 have fin:∀ {σ':St}{H':Hp}{v:V}{u:Value},Inv (zAe CX P w K mg base N qual scope f cdv A outer s H E) [] σ' H' s'->zj v u->Q v H'->CE outer P w H s Q u s' :=
  fun {σ' H' v u} J rv q=>⟨v,H',J.os,J.bare,J.base,J.hok,rv,q⟩
 cases fl with
 | ret u =>
  obtain⟨v,σ',H',J,rv,q⟩:=hs
  exact fin J rv q
 | next =>
  obtain⟨σ',H',J,q⟩:=hs
  exact fin (v:=V.non) (u:=Value.none) J rfl q
 | brk =>
  obtain⟨_,_,_,q⟩:=hs
  exact False.elim q
 | cont =>
  obtain⟨_,_,_,q⟩:=hs
  exact False.elim q
end L2
namespace L2
open PySem PySem.Spec PyProof.Rows
section
variable {X:Cx}{x:Str}{p pos:Pos}{e:Expr}{es:List Expr}{t:TA}{id T:String}{r:List V->Hp->VK->Prop}
def tCB (r:List V->Hp->VK->Prop) (t:TA):TE:=fun σ H Q=>t σ H fun vs H1=>r vs H1 Q
theorem zHb (hc:qQ X (.builtin id) r) (hg:Gl X x) (hm:X.mg x=none) (hv:bootBuiltins x=some (.builtin id)) (ha:PA X (e::es) t) (hn:x ≠ "__name__" := by decide) (hdb:(x == ("__debug__" : Str))=false:=by decide)
  (he:starEach (e::es) X.env=(false,eval e X.env)::starEach es X.env:=by rfl) (hpl:(backTo pos (starEach es X.env)).any (·.1)=false:=by rfl):PE X (.Call (.Name x p) (e::es) [] pos) (tCB r t):=by
 intro pins s σ H Q I h
 refine wpAny_Call_Name_kw (zAC I hg hm hv ?_ hn hdb)
 exact PyProof.Rows.callWith_builtin1 (thn (ha pos pins s σ H _ I h) fun us s1 ⟨vs,H1,I1,r1,q1⟩=>hc pins s1 σ H1 vs us Q I1 r1 q1) he hpl
theorem zKW (hc:qQ X (.type T) r) (hg:Gl X x) (hm:X.mg x=none) (hv:bootBuiltins x=some (.type T)) (ha:PA X (e::es) t) (hn:x ≠ "__name__" := by decide) (hdb:(x == ("__debug__" : Str))=false:=by decide)
  (he:starEach (e::es) X.env=(false,eval e X.env)::starEach es X.env:=by rfl) (hpl:(backTo pos (starEach es X.env)).any (·.1)=false:=by rfl):PE X (.Call (.Name x p) (e::es) [] pos) (tCB r t):=by
 intro pins s σ H Q I h
 refine wpAny_Call_Name_kw (zAC I hg hm hv ?_ hn hdb)
 exact PyProof.Rows.callWith_type1 (thn (ha pos pins s σ H _ I h) fun us s1 ⟨vs,H1,I1,r1,q1⟩=>hc pins s1 σ H1 vs us Q I1 r1 q1) he hpl
end
end L2
namespace HT
open PySem PyProof.Rows
section
variable {prog:Program}{w:World}{A:Around}{E:Value->Shared->Prop}{s:Shared}
theorem zNv {t b:Addr}{vs ws:List Value}{Q:Value->Shared->Prop} (ht:IsTup s.heap t vs.toArray) (hb:IsTup s.heap b ws.toArray) (hv:vs≠[])
  (h1:ws=[]->Q (.ref t) s) (h2:ws≠[]->Q (.ref s.heap.objs.size) { s with heap:=s.heap.push { cls:=.type "tuple",data:=.seq (vs++ws).toArray } })
  (hsz:vs.length+ws.length <= sizeLine):wpAny (model prog w) A (binaryOp .Add (.ref t) (.ref b)) Q E s:=by
 obtain⟨⟨cls,dd,data,sl⟩,ho,hc,n,hd⟩:=id ht
 obtain⟨⟨cls2,dd2,data2,sl2⟩,ho2,hc2,n2,hd2⟩:=id hb
 simp only at hc hd hc2 hd2
 subst hc hd hc2 hd2
 have e:vs.toArray++ws.toArray=(vs++ws).toArray:=by simp
 by_cases hw:ws=[]
 ·exact concat_meets ⟨_,ho,rfl⟩ ⟨_,ho2,rfl⟩ noFill_tuple_add seq_tuple_add PySem.F.slot_tuple_add PySem.F.entry_tuple_add (PySem.F.args_tuple_add_2 _ _)
   (tuple_addW1 t b vs.toArray ws.toArray n n2 dd dd2 sl sl2 (by simpa using hv) (by simp[hw])) ⟨ho,ho2,h1 hw⟩
 ·refine concat_meets ⟨_,ho,rfl⟩ ⟨_,ho2,rfl⟩ noFill_tuple_add seq_tuple_add PySem.F.slot_tuple_add PySem.F.entry_tuple_add (PySem.F.args_tuple_add_2 _ _)
   (tuple_addW2 t b vs.toArray ws.toArray n n2 dd dd2 sl sl2 (by simpa using hv) (by simpa using hw) (by rw[List.size_toArray,List.size_toArray];exact hsz)) ⟨ho,ho2,?_⟩
  rw[e]
  exact h2 hw
def sIx (n d:Nat):Option Int->Nat
 | none=>d
 | some v=>if v < 0 then (v+(n:Int)).toNat else min v.toNat n
theorem zGU (n d:Nat) (hd:d <= n) (o:Option Int):sIx n d o <= n:=by
 cases o with
 | none=>exact hd
 | some v =>
  show (if v < 0 then (v+(n:Int)).toNat else min v.toNat n) <= n
  by_cases hv:v < 0
  ·rw[if_pos hv];omega
  ·rw[if_neg hv];exact Nat.min_le_right _ _
theorem zFC (v:Int) (n d:Nat):(if v < 0 then max (v+(n:Int)) 0 else min v (n:Int))=((sIx n d (some v):Nat):Int):=by
 show (if v < 0 then max (v+(n:Int)) 0 else min v (n:Int))=(((if v < 0 then (v+(n:Int)).toNat else min v.toNat n):Nat):Int)
 by_cases hv:v < 0
 ·simp only[if_pos hv];omega
 ·simp only[if_neg hv];omega
theorem zIv (lo hi:Option Int) (n:Nat):Builtin.Slice.sliceAdjust lo hi 1 (n:Int)=(((sIx n 0 lo:Nat):Int),((sIx n n hi:Nat):Int)):=by
 have h1:¬ ((1:Int) < 0):=by omega
 unfold Builtin.Slice.sliceAdjust
 simp only[h1,if_false]
 refine Prod.ext ?_ ?_
 ·cases lo with
  | none=>rfl
  | some v=>exact zFC v n 0
 ·cases hi with
  | none=>rfl
  | some v=>exact zFC v n n
theorem zJA (i j:Nat):Builtin.Slice.slicePlaces (i:Int) (j:Int) 1=j - i:=by
 unfold Builtin.Slice.slicePlaces
 have h1:(1:Int) > 0:=by omega
 simp only[h1,if_true,Int.ediv_one]
 split<;>omega
theorem zEM {v:Value}{o:Option Int}{Q:Option Int->Shared->Prop} (p:IsPart v o) (h:Q o s):wpAny (model prog w) A (Builtin.Slice.slicePartIndex v) Q E s:=by
 cases p with
 | none=>exact slicePart_none h
 | int i t=>exact slicePart_int h
theorem zDe {sl:Addr}{vl vu:Value}{lo hi:Option Int}{n:Nat}{Q:Int×Int×Nat->Shared->Prop} (hs:s.heap.IsSliceOf sl vl vu .none) (pl:IsPart vl lo) (pu:IsPart vu hi)
  (h:Q (((sIx n 0 lo:Nat):Int),1,sIx n n hi - sIx n 0 lo) s):wpAny (model prog w) A (Builtin.Slice.sliceApplied (.ref sl) (pure (n:Int))) Q E s:=by
 obtain⟨os,hos,hcs,hds⟩:=id hs
 unfold Builtin.Slice.sliceApplied Builtin.Slice.sliceFields
 refine wpAny_bind (wpAny_bind (wpAny_field hos hds (x:=vl) rfl (wpAny_bind (wpAny_field hos hds (x:=vu) rfl (wpAny_bind (wpAny_field hos hds (x:=.none) rfl (wpAny_pure ?_)))))))
 refine wpAny_bind (slicePart_none ?_)
 show wpAny _ _ (if ((1:Int) == 0)=true then _ else _) _ _ s
 rw[if_neg (by decide)]
 refine wpAny_bind (zEM pl (wpAny_bind (zEM pu (wpAny_bind (wpAny_pure ?_)))))
 show wpAny _ _ (match Builtin.Slice.sliceAdjust lo hi 1 (n:Int) with | (lo,hi)=>pure (lo,(1:Int),Builtin.Slice.slicePlaces lo hi 1)) _ _ s
 rw[zIv lo hi n]
 show wpAny _ _ (pure (((sIx n 0 lo:Nat):Int),(1:Int),Builtin.Slice.slicePlaces ((sIx n 0 lo:Nat):Int) ((sIx n n hi:Nat):Int) 1)) _ _ s
 rw[zJA]
 exact wpAny_pure h
theorem zMn (xs:Array Value) (i k:Nat):((List.range k).filterMap fun (m:Nat)=>xs[((i:Int)+(m:Int) * 1).toNat]?).toArray=((xs.toList.drop i).take k).toArray:=by
 have e:(fun (m:Nat)=>xs[((i:Int)+(m:Int) * 1).toNat]?)=fun m=>xs[i+m]? := by
  funext m
  have:((i:Int)+(m:Int) * 1).toNat=i+m:=by omega
  rw[this]
 rw[e]
 have:=pick_run xs i k
 rw[List.filterMap_map] at this
 have e2:((fun x=>xs[x]?) ∘ fun x=>i+x)=fun m=>xs[i+m]? := rfl
 rw[e2] at this
 rw[this]
theorem zDH {t sl:Addr}{items:Array Value}{vl vu:Value}{lo hi:Option Int}{Q:Value->Shared->Prop} (ht:IsTup s.heap t items) (hs:s.heap.IsSliceOf sl vl vu .none) (pl:IsPart vl lo) (pu:IsPart vu hi)
  (hw:¬ (sIx items.size 0 lo=0/\sIx items.size items.size hi=items.size))
  (h:Q (.ref s.heap.objs.size) { s with heap:=s.heap.push { cls:=.type "tuple",data:=.seq ((items.toList.drop (sIx items.size 0 lo)).take (sIx items.size items.size hi - sIx items.size 0 lo)).toArray } })
  (hsz:items.size <= sizeLine):wpAny (model prog w) A (getItem (.ref t) (.ref sl)) Q E s:=by
 have htake:sizeOk (.seq ((items.toList.drop (sIx items.size 0 lo)).take (sIx items.size items.size hi - sIx items.size 0 lo)).toArray):=by
  show ((items.toList.drop (sIx items.size 0 lo)).take (sIx items.size items.size hi - sIx items.size 0 lo)).toArray.size <= sizeLine
  rw[List.size_toArray,List.length_take,List.length_drop,Array.length_toList]
  omega
 have hj:sIx items.size items.size hi <= items.size:=zGU _ _ (Nat.le_refl _) hi
 obtain⟨os,hos,hcs,hds⟩:=id hs
 have hTs:s.TypeIs (.ref sl) "slice" := ⟨os,hos,hcs⟩
 unfold getItem
 try with_reducible refine wpAny_holding ?_
 first | refine wpAny_bind (wpAny_pure ?_) | skip
 refine wpAny_bind (wpAny_sequenceKey ht.typeIs (by decide) ?_)
 refine wpAny_bind (wpAny_callSpecial?_slot (name:=Str.ofString "__getitem__") ht.typeIs PyProof.Rows.slot_tuple_getitem
  (wpAny_call_entry PyProof.Rows.slot_tuple_getitem ht.typeIs entry_tuple_getitem ?_ (args_tuple_getitem _ _)))
 show wpAny _ _ (Builtin.Tuple.tupleItemsOf (.ref t) >>= _) _ _ s
 refine wpAny_bind (tupleItemsOf_ ht ?_)
 refine wpAny_bind (wpAny_typeOf hTs ?_)
 rw[if_pos (by decide)]
 refine wpAny_bind (zDe hs pl pu ?_)
 have hno:¬ ((((sIx items.size 0 lo:Nat):Int) == 0 && (1:Int) == 1 && (sIx items.size items.size hi - sIx items.size 0 lo) == items.size)=true):=by
  intro q
  rw[Bool.and_eq_true,Bool.and_eq_true] at q
  have q1:((sIx items.size 0 lo:Nat):Int)=0:=eq_of_beq q.1.1
  have q2:sIx items.size items.size hi - sIx items.size 0 lo=items.size:=eq_of_beq q.2
  exact hw ⟨by omega,by omega⟩
 show wpAny _ _ (if (((sIx items.size 0 lo:Nat):Int) == 0 && (1:Int) == 1 && (sIx items.size items.size hi - sIx items.size 0 lo) == items.size)=true then _ else _) _ _ s
 rw[if_neg hno,zMn]
 first
  | exact wpAny_bind (m:=Builtin.Tuple.tupleExact _) (wpAny_newObj_type (wpAny_pure ⟨_,rfl,wpAny_pure h⟩) htake)
  | exact wpAny_bind (m:=Builtin.Tuple.tupleExact _) (wpAny_newObj_type (wpAny_bind (wpAny_pure (wpAny_pure ⟨_,rfl,wpAny_pure h⟩))) htake)
  | exact wpAny_bind (wpAny_bind (m:=Builtin.Tuple.tupleExact _) (wpAny_newObj_type (wpAny_pure (wpAny_pure ⟨_,rfl,wpAny_pure h⟩)) htake))
  | exact wpAny_bind (wpAny_bind (m:=Builtin.Tuple.tupleExact _) (wpAny_newObj_type (wpAny_pure ⟨_,rfl,wpAny_pure h⟩) htake))
end
end HT
namespace L2
open PySem PySem.Spec PyProof.Rows
abbrev TO:=St->Hp->(Option Int->Hp->Prop)->Prop
def PO (X:Cx) (e:Option Expr) (t:TO):Prop :=
 ∀ (pins:List (Addr×Obj)) (s:Shared) (σ:St) (H:Hp) (Q:Option Int->Hp->Prop),Inv X pins σ H s->t σ H Q ->
  wpAny (model X.prog X.w) X.A (evalPart e X.env) (fun u s'=>∃ o H',Inv X pins σ H' s'/\IsPart u o/\Q o H') X.xe s
def zNS:TO:=fun _ H Q=>Q none H
def zQY (t:TE):TO:=fun σ H Q=>t σ H fun x H1=>∃ i,x=.int i/\Q (some i) H1
section
variable {X:Cx}{e:Expr}{te:TE}{lo hi:Option Expr}{tl th:TO}{pos p2:Pos}
theorem zND:PO X none zNS:=by
 intro pins s σ H Q I h
 rw[evalPart_none]
 exact wpAny_pure ⟨none,H,I,.none,h⟩
theorem zNR (h:PE X e te):PO X (some e) (zQY te):=by
 intro pins s σ H Q I hw
 rw[evalPart_some]
 refine thn (h pins s σ H _ I hw) fun u s1 ⟨x,H1,I1,r1,q1⟩=>?_
 obtain⟨i,rfl,q⟩:=q1
 obtain⟨t,rfl⟩:=r1
 exact⟨some i,H1,I1,.int i t,q⟩
def SlR (X:Cx) (r:V->Option Int->Option Int->Hp->VK->Prop):Prop :=
 ∀ (pins:List (Addr×Obj)) (s:Shared) (σ:St) (H:Hp) (x:V) (v vl vu:Value) (lo hi:Option Int) (sl:Addr) (Q:VK),Inv X pins σ H s->zj x v->s.heap.IsSliceOf sl vl vu .none->IsPart vl lo->IsPart vu hi->r x lo hi H Q ->
  ∃ T id,typeLookup (.type T) "__getitem__" = pure (some (.builtin id))/\s.TypeIs v T/\wpAny (model X.prog X.w) X.A (getItem v (.ref sl)) (EP X pins σ Q) X.xe s
def tSl (r:V->Option Int->Option Int->Hp->VK->Prop) (te:TE) (tl th:TO):TE:=fun σ H Q=>te σ H fun x H1=>tl σ H1 fun l H2=>th σ H2 fun u H3=>r x l u H3 Q
theorem zLV {r:V->Option Int->Option Int->Hp->VK->Prop} (hr:SlR X r) (he:PE X e te) (hl:PO X lo tl) (hu:PO X hi th):PE X (.Subscript e (.Slice lo hi none p2) pos) (tSl r te tl th):=by
 intro pins s σ H Q I h
 refine Subscript_ (thn (he pins s σ H _ I h) fun v s1 ⟨x,H1,I1,r1,q1⟩=>?_)
 refine wpAny_Slice (thn (hl pins s1 σ H1 _ I1 q1) fun vl s2 ⟨l,H2,I2,pl,q2⟩=>thn (hu pins s2 σ H2 _ I2 q2) fun vu s3 ⟨u,H3,I3,pu,q3⟩=>?_)
 rw[evalPart_none]
 refine wpAny_pure ?_
 have I4:Inv X pins σ H3 { s3 with heap:=s3.heap.push { cls:=.type "slice",data:=.fields #[vl,vu,.none] } }:=I3.kept (t':=s3.toks) fun b ob q=>Heap.get?_push_of_some _ q
 obtain⟨T,id,hT,ht,hg⟩:=hr pins { s3 with heap:=s3.heap.push { cls:=.type "slice",data:=.fields #[vl,vu,.none] } } σ H3 x v vl vu l u s3.heap.objs.size Q I4 r1 (Heap.IsSliceOf.new ..) pl pu q3
 show wpAny (model X.prog X.w) X.A (subscriptTail e (.Slice lo hi none p2) v (.ref s3.heap.objs.size)) (EP X pins σ Q) X.xe { s3 with heap:=s3.heap.push { cls:=.type "slice",data:=.fields #[vl,vu,.none] } }
 exact tail_any (ops:=[.ref s3.heap.objs.size,v]) ht hT hg (by with_unfolding_all rfl)
def zBN (xs:List V) (lo hi:Option Int):List V:=(xs.drop (HT.sIx xs.length 0 lo)).take (HT.sIx xs.length xs.length hi - HT.sIx xs.length 0 lo)
theorem zDI (xs:List V) (lo hi:Option Int):(zBN xs lo hi).length <= xs.length:=by
 unfold zBN
 rw[List.length_take,List.length_drop]
 omega
def zRE (K:PySem.W.Frag):V->Option Int->Option Int->Hp->VK->Prop:=fun x lo hi H Q=>∃ a xs,x=.ref a/\SqT K H a xs /\
 ¬ (HT.sIx xs.length 0 lo=0/\HT.sIx xs.length xs.length hi=xs.length)/\∀ p,H p=none->Q (.ref p) (upd H p (.tup (zBN xs lo hi)))
theorem zPB:SlR X (zRE X.K):=by
 intro pins s σ H x v vl vu lo hi sl Q I rx hs pl pu h
 obtain⟨a,xs,rfl,hx,hw,q⟩:=h
 cases rx
 obtain⟨its,r,ht,hz⟩:=I.tuple hx
 have hlen:its.toArray.size=xs.length:=by rw[List.size_toArray];exact r.length.symm
 refine⟨"tuple",_,PyProof.Rows.slot_tuple_getitem.lookup,ht.typeIs,?_⟩
 refine HT.zDH ht hs pl pu (by rw[hlen];exact hw) ?_ (by rw[hlen];exact hz)
 rw[hlen]
 refine⟨.ref s.heap.objs.size,_,I.laid (t':=s.toks) (o:=.tup (zBN xs lo hi)) (fun b ob q=>Heap.get?_push_of_some _ q) (Nat.le_refl _) ?_,rfl,q _ (I.hok.fresh (Nat.le_refl _))⟩
 exact⟨Nat.le_trans (zDI xs lo hi) hz,_,(r.drop (HT.sIx xs.length 0 lo)).take (HT.sIx xs.length xs.length hi - HT.sIx xs.length 0 lo),IsTup.new _ _⟩
def zMs (K:PySem.W.Frag):R2:=fun x y H Q=>∃ a b xs ys,x=.ref a/\y=.ref b/\SqT K H a xs/\SqT K H b ys/\xs≠[]/\xs.length+ys.length <= sizeLine /\
 (ys=[]->Q (.ref a) H)/\(ys≠[]->∀ p,H p=none->Q (.ref p) (upd H p (.tup (xs++ys))))
theorem zh.nil_iff {xs:List V}{us:List Value} (r:zh xs us):us=[]↔xs=[]:=by
 cases r with
 | nil=>simp
 | cons _ _=>simp
theorem j5:OpR X (binaryOp .Add) (zMs X.K):=by
 intro pins s σ H x y v u Q I rx ry h
 obtain⟨a,b,xs,ys,rfl,rfl,ha,hb,hx,hz,q1,q2⟩:=h
 cases rx
 cases ry
 obtain⟨its,r1,p1,_⟩:=I.tuple ha
 obtain⟨its2,r2,p2,_⟩:=I.tuple hb
 refine HT.zNv p1 p2 (fun z=>hx (r1.nil_iff.mp z)) (fun z=>⟨.ref a,H,I,rfl,q1 (r2.nil_iff.mp z)⟩) (fun z=>?_) (by rw[<- r1.length,<- r2.length];exact hz)
 refine⟨.ref s.heap.objs.size,_,I.laid (t':=s.toks) (o:=.tup (xs++ys)) (fun b ob q=>Heap.get?_push_of_some _ q) (Nat.le_refl _) ?_,rfl,q2 (fun w=>z (r2.nil_iff.mpr w)) _ (I.hok.fresh (Nat.le_refl _))⟩
 exact⟨by rw[List.length_append];exact hz,_,r1.append r2,IsTup.new _ _⟩
end
end L2
namespace L2
open PySem PySem.Spec PyProof.Rows
def ixN (n:Nat) (i:Int):Option Nat:=if 0 <= i then (if i < n then some i.toNat else none) else if -(n:Int) <= i then some (i+n).toNat else none
def atI {α:Type} (xs:List α) (i:Int):Option α:=(ixN xs.length i).bind fun j=>xs[j]?
theorem zIl {n:Nat}{i:Int}{j:Nat} (h:ixN n i=some j):seqIndex? i n=some j/\j < n /\ -(n:Int) <= i/\i < n:=by
 unfold ixN at h
 by_cases h0:0 <= i
 ·rw[if_pos h0] at h
  by_cases h1:i < n
  ·rw[if_pos h1] at h
   have e:i.toNat=j:=Option.some.inj h
   exact⟨by rw[seqIndex_of h0 h1,e],by omega,by omega,h1⟩
  ·rw[if_neg h1] at h;cases h
 ·rw[if_neg h0] at h
  by_cases h1:-(n:Int) <= i
  ·rw[if_pos h1] at h
   have e:(i+n).toNat=j:=Option.some.inj h
   exact⟨by rw[seqIndex_neg (by omega) h1,e],by omega,h1,by omega⟩
  ·rw[if_neg h1] at h;cases h
theorem zEv {α:Type}{xs:List α}{i:Int}{v:α} (h:atI xs i=some v):∃ j,seqIndex? i xs.length=some j/\xs[j]? = some v/\j < xs.length /\ -(xs.length:Int) <= i/\i < xs.length:=by
 unfold atI at h
 cases e:ixN xs.length i with
 | none=>rw[e] at h;cases h
 | some j =>
  rw[e] at h
  obtain⟨h1,h2,h3,h4⟩:=zIl e
  exact⟨j,h1,h,h2,h3,h4⟩
def zIF (b:Expr):Prop:=∀ o i,subscripted b false o i=operate [o,i] (getItem o i)
def IxR (X:Cx) (r:R2):Prop :=
 ∀ (value slice:Expr) (pins:List (Addr×Obj)) (s:Shared) (σ:St) (H:Hp) (x y:V) (v u:Value) (Q:VK),Inv X pins σ H s->zj x v->zj y u->r x y H Q ->
  subscripted slice false v u=operate [v,u] (getItem v u)->wpAny (model X.prog X.w) X.A (subscriptTail value slice v u) (EP X pins σ Q) X.xe s
def MtR (X:Cx) (id:String) (r:V->List V->Hp->VK->Prop):Prop :=
 ∀ (pins:List (Addr×Obj)) (s:Shared) (σ:St) (H:Hp) (x:V) (xs:List V) (v:Value) (us:List Value) (Q:VK),Inv X pins σ H s->zj x v->zh xs us->r x xs H Q ->
  wpAny (model X.prog X.w) X.A (call (.builtin id) (v::us)) (EP X pins σ Q) X.xe s
section
variable {X:Cx}{a b:Expr}{ta tb:TE}{pos:Pos}
theorem IxR.or {r r':R2} (h:IxR X r) (h':IxR X r'):IxR X (fun x y H Q=>r x y H Q\/r' x y H Q):=by
 intro value slice pins s σ H x y v u Q I rx ry q hs
 rcases q with q | q
 ·exact h value slice pins s σ H x y v u Q I rx ry q hs
 ·exact h' value slice pins s σ H x y v u Q I rx ry q hs
theorem zQh {r:R2} (hr:IxR X r) (ha:PE X a ta) (hb:PE X b tb) (hs:zIF b):PE X (.Subscript a b pos) (tOp r ta tb):=by
 intro pins s σ H Q I h
 exact Subscript_ (zLX ha hb I h fun v u s2 x y H2 I2 rx ry q=>hr a b pins s2 σ H2 x y v u Q I2 rx ry q (hs _ _))
def zRT (K:PySem.W.Frag):R2:=fun x y H Q=>∃ p xs i v,x=.ref p/\y=.int i/\SqL K H p xs/\atI xs i=some v/\Q v H
def zRA (K:PySem.W.Frag):R2:=fun x y H Q=>∃ p xs i v,x=.ref p/\y=.int i/\SqT K H p xs/\atI xs i=some v/\Q v H
def zRI:R2:=fun x y H Q=>∃ z i c,x=.str z/\y=.int i/\z.length <= sizeLine/\atI z.cps.toList i=some c/\Q (.str ⟨#[c]⟩) H
theorem zM4:IxR X (zRT X.K):=by
 intro value slice pins s σ H x y v u Q I rx ry h hs
 obtain⟨p,xs,i,z,rfl,rfl,hq,he,q⟩:=h
 cases rx
 obtain⟨t,rfl⟩:=ry
 obtain⟨its,r,pl,hz⟩:=I.list hq
 obtain⟨j,h1,h2,h3,h4,h5⟩:=zEv he
 obtain⟨w,ew,rw'⟩:=r.get h2
 have hl:=r.length
 have hn:=zAc
 have fin:EP X pins σ Q w s:=⟨z,H,I,rw',q⟩
 by_cases h0:0 <= i
 ·have hj:i.toNat=j:=by
   rw[seqIndex_of h0 h5] at h1
   exact Option.some.inj h1
  exact item_listR pl.isList h0 (by omega) (by rw[hj];simpa using ew) fin hs
 ·have hj:(i+(its.toArray.size:Int)).toNat=j:=by
   rw[seqIndex_neg (by omega) h4] at h1
   rw[List.size_toArray,<- hl]
   exact Option.some.inj h1
  exact subscriptTail_builtinR (x:=w) pl.isList.typeIs slot_list_getitem.lookup
   (wpAny_getItem_list_neg (Q:=fun r s'=>r=w/\EP X pins σ Q r s') pl.isList (by omega) (by rw[List.size_toArray]<;>omega) (by omega) (by rw[hj];simpa using ew) ⟨rfl,fin⟩) hs
theorem zOv:IxR X (zRA X.K):=by
 intro value slice pins s σ H x y v u Q I rx ry h hs
 obtain⟨p,xs,i,z,rfl,rfl,hq,he,q⟩:=h
 cases rx
 obtain⟨t,rfl⟩:=ry
 obtain⟨its,r,pl,hz⟩:=I.tuple hq
 obtain⟨j,h1,h2,h3,h4,h5⟩:=zEv he
 obtain⟨w,ew,rw'⟩:=r.get h2
 have hl:=r.length
 have hn:=zAc
 have fin:EP X pins σ Q w s:=⟨z,H,I,rw',q⟩
 exact subscriptTail_builtinR (x:=w) pl.typeIs slot_tuple_getitem.lookup
  (getItem_tuple (j:=j) (Q:=fun r s'=>r=w/\EP X pins σ Q r s') pl (by omega) (by omega) (by rw[List.size_toArray,<- hl];exact h1) (by simpa using ew) ⟨rfl,fin⟩) hs
theorem zP4:IxR X zRI:=by
 intro value slice pins s σ H x y v u Q I rx ry h hs
 obtain⟨z,i,c,rfl,rfl,hz,he,q⟩:=h
 obtain⟨t,rfl⟩:=rx
 obtain⟨t',rfl⟩:=ry
 obtain⟨j,h1,h2,h3,h4,h5⟩:=zEv he
 have hl:z.cps.toList.length=z.length:=by simp[Str.length]
 rw[hl] at h1 h4 h5
 have hn:=zAc
 exact tail_any (typeIs_str s z t) slot_str_getitem.lookup (getItem_str (c:=c) (by
  have e1:decide (i < -(2 ^ 63:Int))=false:=decide_eq_false (by omega)
  have e2:decide (i ≥ 2 ^ 63)=false:=decide_eq_false (by omega)
  rw[e1,e2,Bool.or_false]) (by rw[h1];simpa using h2) ⟨.str ⟨#[c]⟩,H,I.tok _,⟨_,rfl⟩,q⟩) hs
theorem zJZ (its:List Value) (n j:Nat) (u:Value):Obj.mapSeq (·.setIfInBounds j u) { cls:=.type "list",data:=.seq its.toArray n }={ cls:=.type "list",data:=.seq (its.set j u).toArray n }:=by
 simp[Obj.mapSeq]
theorem Inv.lst {pins:List (Addr×Obj)}{σ:St}{H:Hp}{s:Shared}{p:Addr}{xs:List V} (I:Inv X pins σ H s) (h:H p=some (.lst xs)) :
  ∃ (its:List Value) (n:Nat),zh xs its/\s.heap.get? p=some { cls:=.type "list",data:=.seq its.toArray n }/\xs.length <= sizeLine:=by
 obtain⟨z,its,n,r,e⟩:=I.hok p _ h
 exact⟨its,n,r,e,z⟩
theorem Inv.lstUpd {pins:List (Addr×Obj)}{σ:St}{H:Hp}{s:Shared}{p:Addr}{xs ys:List V}{its its':List Value}{n n':Nat}{f:Obj->Obj} (I:Inv X pins σ H s) (h:H p=some (.lst xs))
  (ho:s.heap.get? p=some { cls:=.type "list",data:=.seq its.toArray n }) (hf:f { cls:=.type "list",data:=.seq its.toArray n }={ cls:=.type "list",data:=.seq its'.toArray n' }) (r:zh ys its') (hz:ys.length <= sizeLine) (t:Nat) (ht:0 < t:=by first | exact Nat.succ_pos _ | assumption | exact Inv.tk (by assumption) | omega) :
  Inv X pins σ (upd H p (.lst ys)) { s with heap:=s.heap.update p f,toks:=t }:=by
 have e:(s.heap.update p f).get? p=some { cls:=.type "list",data:=.seq its'.toArray n' }:=by
  rw[Heap.get?_update_self f ho (by rw[hf]<;>rfl),hf]
 refine I.write (x:=p) (e:=p) (by rw[h];trivial) (.inl rfl) (fun b u hb q=>(Heap.get?_update_other _ _ (Ne.symm hb)).trans q) ⟨_,e⟩ ?_
 exact⟨hz,its',n',r,e⟩
def zQH:V->V->V->Hp->(Hp->Prop)->Prop:=fun o i v H Q=>∃ p xs k j,o=.ref p/\i=.int k/\H p=some (.lst xs)/\ixN xs.length k=some j/\Q (upd H p (.lst (xs.set j v)))
theorem zL1:zQD X zQH:=by
 intro pins s σ H o i v ov iv u Q I ro ri rv h
 obtain⟨p,xs,k,j,rfl,rfl,hp,hj,q⟩:=h
 cases ro
 obtain⟨t,rfl⟩:=ri
 obtain⟨its,n,r,ho,hz⟩:=I.lst hp
 obtain⟨h1,h2,h3,h4⟩:=zIl hj
 have hl:=r.length
 have hn:=zAc
 have I':Inv X pins σ (upd H p (.lst (xs.set j v))) { s with heap:=s.heap.update p (Obj.mapSeq (·.setIfInBounds j u)) } :=
  I.lstUpd hp ho (zJZ its n j u) (r.set rv j) (by rw[List.length_set];exact hz) s.toks
 by_cases h0:0 <= k
 ·have hk:k.toNat=j:=by
   rw[seqIndex_of h0 h4] at h1
   exact Option.some.inj h1
  exact PySem.W.ki_setAt ho h0 (by omega) (by rw[List.size_toArray,<- hl];exact h4) (by rw[hk];exact⟨_,I',q⟩)
 ·have hk:(k+(its.toArray.size:Int)).toNat=j:=by
   rw[seqIndex_neg (by omega) h3] at h1
   rw[List.size_toArray,<- hl]
   exact Option.some.inj h1
  exact PySem.W.ki_setBack ho (by omega) (by rw[List.size_toArray,<- hl];exact h3) (by omega) (by rw[hk];exact⟨_,I',q⟩)
theorem zHo (lo hi:Option Int) (n:Nat):(sliceBounds lo hi none n).1=((HT.sIx n 0 lo:Nat):Int)/\(sliceBounds lo hi none n).2.1=((HT.sIx n n hi:Nat):Int)/\(sliceBounds lo hi none n).2.2=1:=by
 refine⟨?_,?_,rfl⟩
 ·cases lo with
  | none=>simp[sliceBounds,HT.sIx]
  | some i =>
   simp only[sliceBounds,HT.sIx,Option.getD_none,show (1:Int) > 0 by decide,if_true]
   by_cases h:i < 0
   ·simp only[h,if_true]<;>omega
   ·simp only[h,if_false]<;>omega
 ·cases hi with
  | none=>simp[sliceBounds,HT.sIx]
  | some i =>
   simp only[sliceBounds,HT.sIx,Option.getD_none,show (1:Int) > 0 by decide,if_true]
   by_cases h:i < 0
   ·simp only[h,if_true]<;>omega
   ·simp only[h,if_false]<;>omega
theorem zGA (its:List Value) (lo hi:Option Int):slicePick its.toArray lo hi none=((its.drop (HT.sIx its.length 0 lo)).take (HT.sIx its.length its.length hi - HT.sIx its.length 0 lo)).toArray:=by
 obtain⟨h1,h2,h3⟩:=zHo lo hi its.toArray.size
 unfold slicePick
 rw[h1,h2,h3]
 simp only[sliceRange_one,pick_run,List.size_toArray]<;>rfl
def zQ8 (K:PySem.W.Frag):V->Option Int->Option Int->Hp->VK->Prop:=fun x lo hi H Q=>∃ a xs,x=.ref a/\SqL K H a xs/\∀ p,H p=none->Q (.ref p) (upd H p (.lst (zBN xs lo hi)))
theorem zN7:SlR X (zQ8 X.K):=by
 intro pins s σ H x v vl vu lo hi sl Q I rx hs pl pu h
 obtain⟨a,xs,rfl,hx,q⟩:=h
 cases rx
 obtain⟨its,r,ht,hz⟩:=I.list hx
 have hlen:=r.length
 refine⟨"list",_,slot_list_getitem.lookup,ht.isList.typeIs,?_⟩
 refine wpAny_getItem_list_slice ht.isList hs pl pu .none (by simp) ?_ (by rw[List.size_toArray]<;>omega)
 rw[zGA,<- hlen]
 refine⟨.ref s.heap.objs.size,_,I.laid (t':=s.toks) (o:=.lst (zBN xs lo hi)) (fun b ob q=>Heap.get?_push_of_some _ q) (Nat.le_refl _) ?_,rfl,q _ (I.hok.fresh (Nat.le_refl _))⟩
 exact⟨Nat.le_trans (zDI xs lo hi) hz,_,0,(r.drop (HT.sIx xs.length 0 lo)).take (HT.sIx xs.length xs.length hi - HT.sIx xs.length 0 lo),Heap.get?_push_size _ rfl⟩
def yX:V->Bool
 | .non=>true
 | .bl _=>true
 | .int _=>true
 | .str _=>true
 | _=>false
def eqV:V->V->Bool
 | .non,.non=>true
 | .bl a,.bl b=>a == b
 | .bl a,.int b=>(if a then 1 else 0) == b
 | .int a,.bl b=>a == (if b then 1 else 0)
 | .int a,.int b=>a == b
 | .str a,.str b=>a == b
 | _,_=>false
theorem zOz {A:Around}{s:Shared}{y x:V}{u v:Value} (ry:zj y u) (rx:zj x v) (fy:yX y=true) (fx:yX x=true):SeqAt.EqAt A s u v (eqV y x):=by
 cases y with
 | non =>
  cases ry
  cases x with
  | non=>cases rx;exact SeqAt.EqAt.same _
  | bl b=>cases rx;exact SeqAt.EqAt.none_bool b
  | int b=>obtain⟨t,rfl⟩:=rx;exact SeqAt.EqAt.none_int b t
  | str b=>obtain⟨t,rfl⟩:=rx;exact SeqAt.EqAt.none_str b t
  | _=>exact absurd (show false=true from fx) Bool.false_ne_true
 | bl a =>
  cases ry
  cases x with
  | non=>cases rx;exact SeqAt.EqAt.bool_none a
  | bl b=>cases rx;exact SeqAt.EqAt.bool_bool a b
  | int b=>obtain⟨t,rfl⟩:=rx;exact SeqAt.EqAt.bool_int a b t
  | str b=>obtain⟨t,rfl⟩:=rx;exact SeqAt.EqAt.bool_str a b t
  | _=>exact absurd (show false=true from fx) Bool.false_ne_true
 | int a =>
  obtain⟨t',rfl⟩:=ry
  cases x with
  | non=>cases rx;exact SeqAt.EqAt.int_none a t'
  | bl b=>cases rx;exact SeqAt.EqAt.int_bool a t' b
  | int b=>obtain⟨t,rfl⟩:=rx;exact SeqAt.EqAt.int_int a t' b t
  | str b=>obtain⟨t,rfl⟩:=rx;exact SeqAt.EqAt.int_str a t' b t
  | _=>exact absurd (show false=true from fx) Bool.false_ne_true
 | str a =>
  obtain⟨t',rfl⟩:=ry
  cases x with
  | non=>cases rx;exact SeqAt.EqAt.str_none a t'
  | bl b=>cases rx;exact SeqAt.EqAt.str_bool a t' b
  | int b=>obtain⟨t,rfl⟩:=rx;exact SeqAt.EqAt.str_int a t' b t
  | str b=>obtain⟨t,rfl⟩:=rx;exact SeqAt.EqAt.str_str a t' b t
  | _=>exact absurd (show false=true from fx) Bool.false_ne_true
 | _=>exact absurd (show false=true from fy) Bool.false_ne_true
def eqU (x:V) (u:Value):Bool:=match u with
 | .none=>eqV .non x
 | .bool b=>eqV (.bl b) x
 | .int i _=>eqV (.int i) x
 | .str z _=>eqV (.str z) x
 | _=>false
theorem zG1 {x y:V}{u:Value} (r:zj y u) (f:yX y=true):eqU x u=eqV y x:=by
 cases y with
 | non=>cases r;rfl
 | bl b=>cases r;rfl
 | int i=>obtain⟨t,rfl⟩:=r;rfl
 | str z=>obtain⟨t,rfl⟩:=r;rfl
 | _=>exact absurd (show false=true from f) Bool.false_ne_true
theorem zBj {x:V}:∀ {xs:List V}{us:List Value},zh xs us->xs.all yX=true->us.any (eqU x)=xs.any fun y=>eqV y x
 | _,_,.nil,_=>rfl
 | y::xs,u::us,.cons r t,f=>by
  rw[List.all_cons,Bool.and_eq_true] at f
  rw[List.any_cons,List.any_cons,zG1 r f.1,zBj t f.2]
theorem Jm {A:Around}{s:Shared}{x:V}{v:Value} (rx:zj x v) (fx:yX x=true):∀ {xs:List V}{us:List Value},zh xs us->xs.all yX=true->∀ u∈us,SeqAt.EqAt A s u v (eqU x u)
 | _,_,.nil,_=>fun u hu=>by cases hu
 | y::xs,u::us,.cons r t,f=>fun u' hu=>by
  rw[List.all_cons,Bool.and_eq_true] at f
  rcases List.mem_cons.mp hu with rfl | hu
  ·rw[zG1 r f.1];exact zOz r rx f.1 fx
  ·exact Jm rx fx t f.2 u' hu
def inV (x:V) (xs:List V):Bool:=xs.any fun y=>eqV y x
def rIn (K:PySem.W.Frag) (neg:Bool):R2:=fun x y H Q=>∃ p xs,y=.ref p/\(SqL K H p xs\/SqT K H p xs)/\yX x=true/\xs.all yX=true/\Q (.bl (if neg then !inV x xs else inV x xs)) H
theorem zKL:OpR X (compareOp .In) (rIn X.K false):=by
 intro pins s σ H x y v u Q I rx ry h
 obtain⟨p,xs,rfl,hq,fx,fs,q⟩:=h
 cases ry
 rcases hq with hq | hq
 ·obtain⟨its,r,pl,hz⟩:=I.list hq
  refine SeqAt.in_listAt (eqU x) pl.isList (fun w hw=>Jm rx fx r fs w (by simpa using hw)) ⟨.bl _,H,I,rfl,?_⟩
  rw[show its.toArray.any (eqU x)=its.any (eqU x) by simp,zBj r fs]
  exact q
 ·obtain⟨its,r,pl,hz⟩:=I.tuple hq
  refine SeqAt.in_tupleAt (eqU x) pl (fun w hw=>Jm rx fx r fs w (by simpa using hw)) ⟨.bl _,H,I,rfl,?_⟩
  rw[show its.toArray.any (eqU x)=its.any (eqU x) by simp,zBj r fs]
  exact q
theorem zHz:OpR X (compareOp .NotIn) (rIn X.K true):=by
 intro pins s σ H x y v u Q I rx ry h
 obtain⟨p,xs,rfl,hq,fx,fs,q⟩:=h
 cases ry
 rcases hq with hq | hq
 ·obtain⟨its,r,pl,hz⟩:=I.list hq
  refine SeqAt.notIn_listAt (eqU x) pl.isList (fun w hw=>Jm rx fx r fs w (by simpa using hw)) ⟨.bl _,H,I,rfl,?_⟩
  rw[show its.toArray.any (eqU x)=its.any (eqU x) by simp,zBj r fs]
  exact q
 ·obtain⟨its,r,pl,hz⟩:=I.tuple hq
  refine SeqAt.notIn_tupleAt (eqU x) pl (fun w hw=>Jm rx fx r fs w (by simpa using hw)) ⟨.bl _,H,I,rfl,?_⟩
  rw[show its.toArray.any (eqU x)=its.any (eqU x) by simp,zBj r fs]
  exact q
theorem zHX:qQ X (.builtin "len") (fun xs H Q=>∃ p ys,xs=[.ref p]/\(SqL X.K H p ys\/SqT X.K H p ys)/\Q (.int ys.length) H):=by
 intro pins s σ H xs us Q I r h
 obtain⟨p,ys,rfl,hq,q⟩:=h
 obtain⟨u,rfl,rx⟩:=Qd r
 cases rx
 have hn:=zAc
 rcases hq with hq | hq
 ·obtain⟨its,r',pl,hz⟩:=I.list hq
  have hlen:=r'.length
  exact Calls.call_len_list pl.isList (by simp only[List.size_toArray]<;>omega) ⟨.int ys.length,H,I.tok _,⟨s.toks+1,by rw[List.size_toArray,hlen]⟩,q⟩
 ·obtain⟨its,r',pl,hz⟩:=I.tuple hq
  have hlen:=r'.length
  exact len_tuple pl (by simp only[List.size_toArray]<;>omega) ⟨.int ys.length,H,I.tok _,⟨s.toks+1,by rw[List.size_toArray,hlen]⟩,q⟩
theorem zGT:qQ X (.builtin "len") (fun xs H Q=>∃ z,xs=[.str z]/\z.length <= sizeLine/\Q (.int z.length) H):=by
 intro pins s σ H xs us Q I r h
 obtain⟨z,rfl,hz,q⟩:=h
 obtain⟨u,rfl,t,rfl⟩:=Qd r
 have hn:=zAc
 exact len_str (by omega) ⟨.int z.length,H,I.tok _,⟨_,rfl⟩,q⟩
theorem qQ.or {f:Value}{r r':List V->Hp->VK->Prop} (h:qQ X f r) (h':qQ X f r'):qQ X f (fun xs H Q=>r xs H Q\/r' xs H Q):=by
 intro pins s σ H xs us Q I rs q
 rcases q with q | q
 ·exact h pins s σ H xs us Q I rs q
 ·exact h' pins s σ H xs us Q I rs q
theorem zHd:qQ X (.type "list") (fun xs H Q=>∃ p ys,xs=[.ref p]/\(SqL X.K H p ys\/SqT X.K H p ys)/\∀ l,H l=none->Q (.ref l) (upd H l (.lst ys))):=by
 intro pins s σ H xs us Q I r h
 obtain⟨p,ys,rfl,hq,q⟩:=h
 obtain⟨u,rfl,rx⟩:=Qd r
 cases rx
 have fin:∀ (its:List Value),zh ys its->ys.length <= sizeLine->∀ (h':Heap) (c':Nat),(∀ b o',s.heap.get? b=some o'->h'.get? b=some o') ->
   h'.get? s.heap.objs.size=some { cls:=.type "list",dict:=none,data:=.seq its.toArray c',slots:=#[] }->EP X pins σ Q (.ref s.heap.objs.size) { s with heap:=h' }:=fun its r' hz h' c' kp e =>
  ⟨.ref s.heap.objs.size,_,I.laid (t':=s.toks) kp (Nat.le_refl _) (show jr X.prog X.w _ h' _ (.lst ys) from ⟨hz,its,c',r',e⟩),rfl,q _ (I.hok.fresh (Nat.le_refl _))⟩
 rcases hq with hq | hq
 ·obtain⟨its,r',pl,hz⟩:=I.list hq
  have hlen:=r'.length
  obtain⟨o,ho,hc,n,hd⟩:=pl.isList
  exact call_list_seq p (.inl rfl) ho hc hd (fun h' c' kp e=>fin its r' hz h' c' kp e) (by simp only[List.size_toArray]<;>omega)
 ·obtain⟨its,r',pl,hz⟩:=I.tuple hq
  have hlen:=r'.length
  obtain⟨o,ho,hc,n,hd⟩:=pl
  exact call_list_seq p (.inr rfl) ho hc hd (fun h' c' kp e=>fin its r' hz h' c' kp e) (by simp only[List.size_toArray]<;>omega)
def tyV (K:PySem.W.Frag) (T:String) (x:V) (H:Hp):Prop:=match x with
 | .str _=>T = "str"
 | .int _=>T = "int"
 | .ref p=>(T = "list" /\ ∃ xs,SqL K H p xs)\/(T = "tuple" /\ ∃ o,K.lookup p=some o/\o.cls=.type "tuple" /\ o.dict=none) \/
   (T = "dict" /\ ((∃ kvs,H p=some (.dK kvs))\/∃ kvs,H p=some (.dT kvs)))\/(T = "set" /\ ∃ S n,H p=some (.set S n))
 | _=>False
theorem zGz {pins:List (Addr×Obj)}{σ:St}{H:Hp}{s:Shared}{T:String}{x:V}{v:Value} (I:Inv X pins σ H s) (r:zj x v) (ty:tyV X.K T x H) :
  s.TypeIs v T/\∀ a,v=.ref a->∃ ob,s.heap.get? a=some ob/\ob.dict=none:=by
 cases x with
 | str z =>
  obtain⟨t,rfl⟩:=r
  cases (show T = "str" from ty)
  exact⟨typeIs_str s z t,fun _ e=>nomatch e⟩
 | int i =>
  obtain⟨t,rfl⟩:=r
  cases (show T = "int" from ty)
  exact⟨typeIs_int s i t,fun _ e=>nomatch e⟩
 | ref p =>
  cases r
  rcases ty with ⟨rfl,xs,hq⟩ | ⟨rfl,o,hk,hc,hd⟩ | ⟨rfl,hk⟩ | ⟨rfl,S,n,hk⟩
  ·obtain⟨its,_,pl,_⟩:=I.list hq
   refine⟨pl.isList.typeIs,fun a e=>?_⟩
   cases e
   obtain⟨o,n,e,c,hd,_⟩:=pl
   exact⟨o,e,hd⟩
  ·refine⟨⟨o,I.kIn p o hk,hc⟩,fun a e=>?_⟩
   cases e
   exact⟨o,I.kIn _ o hk,hd⟩
  ·have z:∃ o,s.heap.get? p=some o/\o.ExactDict:=by
    rcases hk with ⟨kvs,hk⟩ | ⟨kvs,hk⟩
    ·obtain⟨_,_,_,_,o,_,_,e,ex,_⟩:=I.hok p _ hk
     exact⟨o,e,ex⟩
    ·obtain⟨_,_,_,_,o,_,_,e,ex,_⟩:=I.hok p _ hk
     exact⟨o,e,ex⟩
   obtain⟨o,e,ex⟩:=z
   refine⟨⟨o,e,ex.1⟩,fun a e2=>?_⟩
   cases e2
   exact⟨o,e,ex.2.1⟩
  ·obtain⟨o,_,_,_,e,ex,_⟩:=I.hok p _ hk
   refine⟨⟨o,e,ex.1⟩,fun a e2=>?_⟩
   cases e2
   exact⟨o,e,ex.2.1⟩
 | _=>exact False.elim ty
def zRH (K:PySem.W.Frag) (T:String) (r:V->List V->Hp->VK->Prop) (to:TE):TE:=fun σ H Q=>to σ H fun x H1=>tyV K T x H1/\r x [] H1 Q
def tBM (K:PySem.W.Frag) (T:String) (r:V->List V->Hp->VK->Prop) (to:TE) (t:TA):TE:=fun σ H Q=>to σ H fun x H1=>tyV K T x H1/\t σ H1 fun xs H2=>r x xs H2 Q
variable {o e:Expr}{es:List Expr}{to:TE}{t:TA}{name:Str}{apos cpos:Pos}{T id:String}{r:V->List V->Hp->VK->Prop}
theorem zP2 (pa:PlainAttrs T) (slot:Slot T name id) (hty:typeOf (.builtin id)=pure (.type "method_descriptor")) (hm:MtR X id r) (ho:PE X o to)
  (hbase:attributeBase o name X.env (eval o X.env)=eval o X.env:=by rfl) (hline:(apos.endLine == cpos.line)=true:=by rfl):PE X (.Call (.Attribute o name apos) [] [] cpos) (zRH X.K T r to):=by
 intro pins s σ H Q I h
 refine wpAny_Call_method0_late hbase hline (thn (ho pins s σ H _ I h) fun v s1 ⟨x,H1,I1,r1,ty,q1⟩=>?_)
 obtain⟨h1,h2⟩:=zGz I1 r1 ty
 exact⟨T,id,pa,slot,hty,h1,h2,Calls.callWith_builtin rfl (PySem.evalArgs_none (hm pins s1 σ H1 x [] v [] Q I1 r1 .nil q1))⟩
theorem zMr (pa:PlainAttrs T) (slot:Slot T name id) (hty:typeOf (.builtin id)=pure (.type "method_descriptor")) (hm:MtR X id r) (ho:PE X o to) (ha:PA X (e::es) t)
  (hbase:attributeBase o name X.env (eval o X.env)=eval o X.env:=by rfl)
  (hfew:((backTo cpos (starEach (e::es) X.env)).all (fun x=>!x.1) && (backToKw cpos (keywordEach [] X.env)).all (fun x=>x.1.isSome)
   && decide ((e::es).length+([]:List Keyword).length+(if ([]:List Keyword).isEmpty then 0 else 1) < 30))=true:=by rfl)
  (hline:(apos.endLine == cpos.line)=true:=by rfl) (hs:starEach (e::es) X.env=(false,eval e X.env)::starEach es X.env:=by rfl) (hplain:(backTo cpos (starEach es X.env)).any (·.1)=false:=by rfl) :
  PE X (.Call (.Attribute o name apos) (e::es) [] cpos) (tBM X.K T r to t):=by
 intro pins s σ H Q I h
 refine wpAny_Call_method_late hbase hfew hline rfl (thn (ho pins s σ H _ I h) fun v s1 ⟨x,H1,I1,r1,ty,q1⟩=>?_)
 obtain⟨h1,h2⟩:=zGz I1 r1 ty
 refine⟨T,id,pa,slot,hty,h1,h2,?_⟩
 have hA:=ha cpos pins s1 σ H1 _ I1 q1
 rw[hs] at hA ⊢
 refine Calls.callWith_builtin (by show (false || (backTo cpos (starEach es X.env)).any (·.1))=false;rw[hplain]<;>rfl) (Calls.evalArgs_plain ?_)
 exact thn hA fun us s2 ⟨vs,H2,I2,r2,q2⟩=>hm pins s2 σ H2 x vs v us Q I2 r1 r2 q2
end
end L2
namespace L2
open PySem PySem.Spec PyProof.Rows
def MtM (X:Cx) (id:String) (r:V->List V->Hp->VK->Prop):Prop :=
 ∀ (pins:List (Addr×Obj)) (s:Shared) (σ:St) (H:Hp) (x:V) (xs:List V) (v:Value) (us:List Value) (Q:VK),Inv X pins σ H s->zj x v->zh xs us->r x xs H Q ->
  wpAny (model X.prog X.w) X.A (call (.builtin id) (v::us)) (EP X pins σ Q) X.xe s
theorem zh.one:∀ {x:V}{us:List Value},zh [x] us->∃ u,us=[u]/\zj x u
 | _,_,.cons r .nil=>⟨_,rfl,r⟩
theorem zh.zero:∀ {us:List Value},zh [] us->us=[]
 | _,.nil=>rfl
theorem zh.dropLast {xs:List V}{us:List Value} (h:zh xs us):zh xs.dropLast us.dropLast:=by
 induction h with
 | nil=>exact .nil
 | cons r t ih =>
  cases t with
  | nil=>exact .nil
  | cons q t'=>exact .cons r ih
theorem zh.rep {xs:List V}{us:List Value} (h:zh xs us):∀ k:Nat,zh (List.replicate k xs).flatten (List.replicate k us).flatten
 | 0=>.nil
 | k+1=>by
  rw[List.replicate_succ,List.replicate_succ,List.flatten_cons,List.flatten_cons]
  exact zh.append h (zh.rep h k)
theorem zJf {α:Type} (l:List α):l.eraseIdx (l.length - 1)=l.dropLast:=by
 induction l with
 | nil=>rfl
 | cons a r ih =>
  cases r with
  | nil=>rfl
  | cons b r =>
   have e:(a::b::r).length - 1=((b::r).length - 1)+1:=by
    have h1:(a::b::r).length=r.length+2:=rfl
    have h2:(b::r).length=r.length+1:=rfl
    omega
   rw[e,List.eraseIdx_cons_succ,ih]
   all_goals rfl
theorem zFU (its:List Value):∀ (k:Nat) (acc:List Value),
  List.foldl (fun x1 x2=>x1++x2) acc.toArray (List.replicate k its.toArray)=(acc++(List.replicate k its).flatten).toArray
 | 0,acc=>by simp
 | k+1,acc=>by
  have e:acc.toArray++its.toArray=(acc++its).toArray:=by simp
  have e2:(acc++its)++(List.replicate k its).flatten=acc++(List.replicate (k+1) its).flatten:=by
   rw[List.replicate_succ,List.flatten_cons,List.append_assoc]
  rw[<- e2,<- zFU its k (acc++its),<- e,List.replicate_succ,List.foldl_cons]
section
variable {X:Cx}{pins:List (Addr×Obj)}{σ:St}{H:Hp}{s:Shared}{l b:Addr}{xs ys zs:List V}
theorem Inv.lset {its its':List Value}{n:Nat}{f:Array Value->Array Value}{t':Nat} (I:Inv X pins σ H s) (hH:H l=some (.lst xs))
  (e:s.heap.get? l=some { cls:=.type "list",data:=.seq its.toArray n }) (hf:f its.toArray=its'.toArray) (hv:zh ys its') (hz:ys.length <= sizeLine) (ht:0 < t':=by first | exact Nat.succ_pos _ | assumption | exact Inv.tk (by assumption) | omega) :
  Inv X pins σ (upd H l (.lst ys)) { s with heap:=s.heap.update l (Obj.mapSeq f),toks:=t' }:=by
 have q:=PySem.IsL.update e f
 rw[hf] at q
 refine I.write (x:=l) (e:=l) (by rw[hH];exact trivial) (.inl rfl) (fun b' u hb hu=>(Heap.get?_update_other s.heap (Obj.mapSeq f) (Ne.symm hb)).trans hu) ⟨_,q⟩ ?_
 exact⟨hz,its',_,hv,q⟩
theorem Inv.lnew {its:List Value}{t':Nat} (I:Inv X pins σ H s) (hv:zh ys its) (hz:ys.length <= sizeLine) (ht:0 < t':=by first | exact Nat.succ_pos _ | assumption | exact Inv.tk (by assumption) | omega) :
  Inv X pins σ (upd H s.heap.objs.size (.lst ys)) { s with heap:=s.heap.push { cls:=.type "list",data:=.seq its.toArray },toks:=t' } :=
 I.laid (fun _ _ q=>Heap.get?_push_of_some _ q) (Nat.le_refl _) ⟨hz,its,0,hv,Heap.get?_push_size _ rfl⟩
theorem Inv.fresh (I:Inv X pins σ H s):H s.heap.objs.size=none:=I.hok.fresh (Nat.le_refl _)
theorem Inv.lstM (I:Inv X pins σ H s) (hH:H l=some (.lst xs)):xs.length <= sizeLine/\∃ (its:List Value) (n:Nat),zh xs its/\xs.length=its.length/\s.heap.get? l=some { cls:=.type "list",data:=.seq its.toArray n }:=by
 obtain⟨z,its,n,r,e⟩:=I.hok l _ hH
 exact⟨z,its,n,r,r.length,e⟩
theorem zHe {n:Nat} (h:n <= sizeLine):Builtin.List.listTooLong n=false:=by
 unfold Builtin.List.listTooLong
 exact decide_eq_false (by omega)
end
section
variable {X:Cx}
def zIi:V->List V->Hp->VK->Prop:=fun x vs H Q=>∃ l xs y,x=.ref l/\vs=[y]/\H l=some (.lst xs)/\xs.length < sizeLine/\Q .non (upd H l (.lst (xs++[y])))
theorem zA0:MtM X "list.append" zIi:=by
 intro pins s σ H x vs v us Q I rx rv h
 obtain⟨l,xs,y,rfl,rfl,hH,hz,q⟩:=h
 cases rx
 obtain⟨u,rfl,ru⟩:=rv.one
 obtain⟨z,its,n,r,hl,e⟩:=I.lstM hH
 refine call_meets F.slot_list_append ⟨_,e,rfl⟩ F.entry_list_append (F.args_list_append_2 _ _) (PySem.list_append l its.toArray n u (by rw[List.size_toArray];omega)) ⟨e,?_⟩
 refine⟨.non,_,I.lset (its':=its++[u]) hH e (by simp) (r.append (.cons ru .nil)) ?_,rfl,q⟩
 rw[List.length_append,List.length_singleton]
 omega
def zIJ:V->List V->Hp->VK->Prop:=fun x vs H Q=>∃ l b xs zs,x=.ref l/\vs=[.ref b]/\H l=some (.lst xs)/\H b=some (.lst zs)/\xs.length+zs.length <= sizeLine/\Q .non (upd H l (.lst (xs++zs)))
theorem zKZ:MtM X "list.extend" zIJ:=by
 intro pins s σ H x vs v us Q I rx rv h
 obtain⟨l,b,xs,zs,rfl,rfl,hH,hB,hz,q⟩:=h
 cases rx
 obtain⟨u,rfl,ru⟩:=rv.one
 cases ru
 obtain⟨z,its,n,r,hl,e⟩:=I.lstM hH
 obtain⟨z2,its2,n2,r2,hl2,e2⟩:=I.lstM hB
 have hsz:its.toArray.size+its2.toArray.size <= sizeLine:=by rw[List.size_toArray,List.size_toArray];omega
 have hlong:¬ (!its.toArray.isEmpty && Builtin.List.listTooLong (its.toArray.size+its2.toArray.size))=true:=by
  rw[zHe hsz,Bool.and_false]
  exact Bool.false_ne_true
 refine call_meets F.slot_list_extend ⟨_,e,rfl⟩ F.entry_list_extend (F.args_list_extend_2 _ _)
  (AutoSeq1.list_extend_list_list_0 l its.toArray n b its2.toArray n2 hlong (by rw[List.size_toArray];omega) (by omega)) ⟨e,e2,?_⟩
 refine⟨.non,_,I.lset (its':=its++its2) hH e (by simp) (r.append r2) ?_,rfl,q⟩
 rw[List.length_append]
 omega
def zO6:V->List V->Hp->VK->Prop:=fun x vs H Q=>∃ l xs y,x=.ref l/\vs=[]/\H l=some (.lst xs)/\xs[xs.length - 1]? = some y/\Q y (upd H l (.lst xs.dropLast))
theorem zOM:MtM X "list.pop" zO6:=by
 intro pins s σ H x vs v us Q I rx rv h
 obtain⟨l,xs,y,rfl,rfl,hH,hy,q⟩:=h
 cases rx
 have hus:=rv.zero
 subst hus
 obtain⟨z,its,n,r,hl,e⟩:=I.lstM hH
 obtain⟨u,hu,ru⟩:=r.get hy
 have hy':its.toArray[its.toArray.size - 1]? = some u:=by
  show its.toArray[its.length - 1]? = some u
  rw[<- Array.getElem?_toList,<- hl]
  exact hu
 refine call_meets F.slot_list_pop ⟨_,e,rfl⟩ F.entry_list_pop (F.args_list_pop_1 _) (MeetsSeq.list_pop_last l its.toArray n u hy' (by rw[List.size_toArray];omega)) ⟨e,?_⟩
 refine⟨y,_,I.lset (its':=its.dropLast) hH e ?_ r.dropLast ?_,ru,q⟩
 ·show its.toArray.eraseIdxIfInBounds (its.toArray.size - 1)=its.dropLast.toArray
  rw[List.size_toArray,List.eraseIdxIfInBounds_toArray,zJf]
 ·rw[List.length_dropLast]
  omega
def zQ9:R2:=fun x y H Q=>∃ l b xs zs,x=.ref l/\y=.ref b/\H l=some (.lst xs)/\H b=some (.lst zs)/\xs.length+zs.length <= sizeLine/\∀ p,H p=none->Q (.ref p) (upd H p (.lst (xs++zs)))
theorem zPE:OpR X (binaryOp .Add) zQ9:=by
 intro pins s σ H x y v u Q I rx ry h
 obtain⟨l,b,xs,zs,rfl,rfl,hH,hB,hz,q⟩:=h
 cases rx
 cases ry
 obtain⟨z,its,n,r,hl,e⟩:=I.lstM hH
 obtain⟨z2,its2,n2,r2,hl2,e2⟩:=I.lstM hB
 refine PySem.P.add_list e e2 ?_ (by rw[List.size_toArray,List.size_toArray];omega)
 have ea:its.toArray++its2.toArray=(its++its2).toArray:=by simp
 rw[ea]
 exact⟨.ref _,_,I.lnew (t':=s.toks) (r.append r2) (by rw[List.length_append];omega),rfl,q _ I.fresh⟩
def zOk:R2:=fun x y H Q=>∃ l k xs,x=.ref l/\y=.int k/\H l=some (.lst xs) /\ -(2 ^ 63) <= k/\k < 2 ^ 63/\xs.length * k.toNat <= sizeLine /\
 ∀ p,H p=none->Q (.ref p) (upd H p (.lst (List.replicate k.toNat xs).flatten))
theorem zNO {α:Type} (xs:List α) (k:Nat):(List.replicate k xs).flatten.length=k * xs.length:=by
 induction k with
 | zero=>simp
 | succ k ih=>rw[List.replicate_succ,List.flatten_cons,List.length_append,ih,Nat.succ_mul,Nat.add_comm]
theorem zPW:OpR X (binaryOp .Mult) zOk:=by
 intro pins s σ H x y v u Q I rx ry h
 obtain⟨l,k,xs,rfl,rfl,hH,h1,h2,hz,q⟩:=h
 cases rx
 obtain⟨t,rfl⟩:=ry
 obtain⟨z,its,n,r,hl,e⟩:=I.lstM hH
 have hlen:its.toArray.size * k.toNat <= sizeLine:=by rw[List.size_toArray,<- hl];exact hz
 have hcap:¬ its.toArray.size * k.toNat > (2 ^ 63 - 1) / 8:=by
  have:(sizeLine:Nat) <= (2 ^ 63 - 1) / 8:=by decide
  omega
 have hfit:¬ (!Builtin.List.listFitsIndex k)=true:=by
  rw[fitsIndex_both h1 h2]
  exact Bool.false_ne_true
 have hlong:¬ Builtin.List.listTooLong (its.toArray.size * k.toNat)=true:=by
  rw[zHe hlen]
  exact Bool.false_ne_true
 have hnew:List.foldl (fun x1 x2=>x1++x2) #[] (List.replicate (if its.toArray.isEmpty=true then 0 else k.toNat) its.toArray)=(List.replicate k.toNat its).flatten.toArray:=by
  have f0:∀ m:Nat,List.foldl (fun x1 x2=>x1++x2) #[] (List.replicate m its.toArray)=(List.replicate m its).flatten.toArray:=fun m=>by
   have:=zFU its m []
   rw[List.nil_append] at this
   exact this
  rw[f0]
  cases its with
  | nil=>simp
  | cons a r'=>rw[if_neg (by simp)]
 refine wpAny_binaryOp_repeat_ref (T := "list") (U := "int") (by decide) ⟨_,e,rfl⟩ (fun s'=>typeIs_int s' k t) noFill_list_mul F.fills_int_mul F.slot_int_rmul repeat_list F.slot_int_index.lookup
  (call_meets F.slot_int_rmul (typeIs_int s k t) F.entry_int_rmul (F.args_int_rmul_2 _ _) (int___rmul___int_list k t l its.toArray n)
   ⟨e,rfl,⟨_,e,rfl⟩,call_meets F.slot_list_mul ⟨_,e,rfl⟩ F.entry_list_mul (F.args_list_mul_2 _ _) (AutoListH.list___mul___list_int_3 l its.toArray n k t hfit hcap hlong) ⟨e,?_⟩⟩)
 rw[hnew]
 exact⟨.ref _,_,I.lnew (t':=s.toks) (r.rep k.toNat) (by rw[zNO,Nat.mul_comm];exact hz),rfl,q _ I.fresh⟩
end
section
variable {prog:Program}{w:World}{A:Around}{E:Value->Shared->Prop}{s:Shared}
set_option maxRecDepth 100000 in
end
end L2
namespace L2
open PySem PySem.Spec PyProof.Rows
section
variable {κ:Type} [DecidableEq κ]
def yk (kvs:List (κ×V)) (k:κ):Option V:=(kvs.find? fun kv=>decide (kv.1=k)).map (·.2)
def ZB (kvs:List (κ×V)) (k:κ) (v:V):List (κ×V) :=
 if (kvs.any fun kv=>decide (kv.1=k))=true then kvs.map (fun kv=>if kv.1=k then (kv.1,v) else kv) else kvs++[(k,v)]
theorem zBw {p:κ×V}{r:List (κ×V)}{k:κ} (e:p.1=k):yk (p::r) k=some p.2:=by simp[yk,List.find?_cons,e]
theorem zBs {p:κ×V}{r:List (κ×V)}{k:κ} (e:¬ p.1=k):yk (p::r) k=yk r k:=by simp[yk,List.find?_cons,e]
theorem zG5 (k:κ):∀ kvs:List (κ×V),(kvs.any fun kv=>decide (kv.1=k))=(yk kvs k).isSome
 | []=>rfl
 | p::r=>by
  rw[List.any_cons]
  by_cases e:p.1=k
  ·simp only[zBw e,decide_eq_true e,Bool.true_or,Option.isSome_some]
  ·rw[zBs e,decide_eq_false e,Bool.false_or];exact zG5 k r
theorem zDO (kvs:List (κ×V)) (k:κ) (v:V):(ZB kvs k v).length <= kvs.length+1:=by
 unfold ZB
 split
 ·rw[List.length_map];omega
 ·rw[List.length_append,List.length_cons,List.length_nil];omega
theorem Jj.isSome_eq {o:Option V}{u:Option Value} (r:Jj o u):o.isSome=u.isSome:=by
 cases o with
 | none=>cases u with
  | none=>rfl
  | some _=>exact (show False from r).elim
 | some _=>cases u with
  | none=>exact (show False from r).elim
  | some _=>rfl
theorem Jj.getD {o:Option V}{u:Option Value}{d:V}{d':Value} (r:Jj o u) (rd:zj d d'):zj (o.getD d) (u.getD d'):=by
 cases o with
 | none=>cases u with
  | none=>exact rd
  | some _=>exact (show False from r).elim
 | some _=>cases u with
  | none=>exact (show False from r).elim
  | some _=>exact r
theorem KV.val {kvs:List (κ×V)}{vs:List (κ×Value)} (r:KV kvs vs) (k:κ):Jj (yk kvs k) (valueAt vs k):=by
 unfold KV at r
 induction r with
 | nil=>exact True.intro
 | @cons p q ps qs h t ih =>
  obtain⟨h1,h2⟩:=h
  by_cases e:p.1=k
  ·have e':q.1=k:=h1.symm.trans e
   have b:valueAt (q::qs) k=some q.2:=by simp[valueAt,List.find?_cons,e']
   rw[zBw e,b];exact h2
  ·have e':¬ q.1=k:=fun z=>e (h1.trans z)
   have b:valueAt (q::qs) k=valueAt qs k:=by simp[valueAt,List.find?_cons,e']
   rw[zBs e,b];exact ih
theorem KV.any {kvs:List (κ×V)}{vs:List (κ×Value)} (r:KV kvs vs) (k:κ):(kvs.any fun kv=>decide (kv.1=k))=vs.any fun kv=>decide (kv.1=k):=by
 unfold KV at r
 induction r with
 | nil=>rfl
 | cons h t ih=>rw[List.any_cons,List.any_cons,ih,h.1]
theorem KV.repl {kvs:List (κ×V)}{vs:List (κ×Value)} (r:KV kvs vs) (k:κ) {y:V}{u:Value} (ry:zj y u) :
  KV (kvs.map fun kv=>if kv.1=k then (kv.1,y) else kv) (vs.map fun kv=>if kv.1=k then (kv.1,u) else kv):=by
 unfold KV at r ⊢
 induction r with
 | nil=>exact .nil
 | @cons p q ps qs h t ih =>
  rw[List.map_cons,List.map_cons]
  refine .cons ?_ ih
  obtain⟨h1,h2⟩:=h
  by_cases e:p.1=k
  ·rw[if_pos e,if_pos (h1.symm.trans e)];exact⟨h1,ry⟩
  ·rw[if_neg e,if_neg (fun z=>e (h1.trans z))];exact⟨h1,h2⟩
theorem KV.put {kvs:List (κ×V)}{vs:List (κ×Value)} (r:KV kvs vs) (k:κ) {y:V}{u:Value} (ry:zj y u):KV (ZB kvs k y) (stored vs k u):=by
 unfold ZB stored
 rw[r.any k]
 by_cases e:(vs.any fun kv=>decide (kv.1=k))=true
 ·rw[if_pos e,if_pos e];exact r.repl k ry
 ·rw[if_neg e,if_neg e];exact Paired.snoc r ⟨rfl,ry⟩
theorem KV.keys {kvs:List (κ×V)}{vs:List (κ×Value)} (r:KV kvs vs):kvs.map (·.1)=vs.map (·.1):=by
 unfold KV at r
 induction r with
 | nil=>rfl
 | cons h t ih=>rw[List.map_cons,List.map_cons,ih,h.1]
theorem KV.length {kvs:List (κ×V)}{vs:List (κ×Value)} (r:KV kvs vs):kvs.length=vs.length:=Paired.length r
end
theorem zAy {P:Program}{w:World}{k:Key}{u:Value} (r:zj (kV k) u):(jF P w).is k u=true:=by
 cases k with
 | inl i=>obtain⟨t,e⟩:=(show ∃ t,u=Value.int i t from r);subst e;exact zH8 P w i t
 | inr x=>obtain⟨t,e⟩:=(show ∃ t,u=Value.str x t from r);subst e;exact zH6 P w x t
theorem zFO {P:Program}{w:World}:∀ {ks:List Key}{us:List Value},zh (ks.map kV) us->ItemsAre (jF P w) ks us
 | [],_,r=>by rw[List.map_nil] at r;cases r;exact .nil
 | k::ks,_,r=>by
  rw[List.map_cons] at r
  cases r with
  | cons h t=>exact .cons (zAy h) (zFO t)
abbrev KT (H:Hp):List (List Key×V)->List (List Key×Addr×Value)->Prop:=Paired fun p q=>p.1=q.1/\H q.2.1=some (.tup (p.1.map kV))/\zj p.2 q.2.2
theorem KT.val {H:Hp}{kvs:List (List Key×V)}{xs:List (List Key×Addr×Value)} (r:KT H kvs xs) (k:List Key):Jj (yk kvs k) ((atKey xs k).map (·.2)):=by
 induction r with
 | nil=>exact True.intro
 | @cons p q ps qs h t ih =>
  obtain⟨h1,_,h2⟩:=h
  by_cases e:p.1=k
  ·have e':q.1=k:=h1.symm.trans e
   have b:atKey (q::qs) k=some q.2:=by simp[atKey,List.find?_cons,e']
   rw[zBw e,b];exact h2
  ·have e':¬ q.1=k:=fun z=>e (h1.trans z)
   have b:atKey (q::qs) k=atKey qs k:=by simp[atKey,List.find?_cons,e']
   rw[zBs e,b];exact ih
theorem KT.repl {H:Hp}{kvs:List (List Key×V)}{xs:List (List Key×Addr×Value)} (r:KT H kvs xs) (k:List Key) {y:V}{u:Value} (ry:zj y u) :
  KT H (kvs.map fun kv=>if kv.1=k then (kv.1,y) else kv) (xs.map (putAt k u)):=by
 induction r with
 | nil=>exact .nil
 | @cons p q ps qs h t ih =>
  rw[List.map_cons,List.map_cons]
  refine .cons ?_ ih
  obtain⟨h1,h2,h3⟩:=h
  unfold putAt
  by_cases e:p.1=k
  ·rw[if_pos e,if_pos (h1.symm.trans e)];exact⟨h1,h2,ry⟩
  ·rw[if_neg e,if_neg (fun z=>e (h1.trans z))];exact⟨h1,h2,h3⟩
theorem KT.put {H:Hp}{kvs:List (List Key×V)}{xs:List (List Key×Addr×Value)} (r:KT H kvs xs) (k:List Key) {b:Addr}{y:V}{u:Value} (hb:H b=some (.tup (k.map kV))) (ry:zj y u) :
  KT H (ZB kvs k y) (storedH xs k b u):=by
 have e:(kvs.any fun kv=>decide (kv.1=k))=(atKey xs k).isSome:=by
  rw[zG5,(r.val k).isSome_eq,Option.isSome_map]
 unfold ZB storedH
 rw[e]
 by_cases q:(atKey xs k).isSome=true
 ·rw[if_pos q,if_pos q];exact r.repl k ry
 ·rw[if_neg q,if_neg q];exact Paired.snoc r ⟨rfl,hb,ry⟩
theorem KT.keeps {H H':Hp}{kvs:List (List Key×V)}{xs:List (List Key×Addr×Value)} (r:KT H kvs xs) (ht:∀ b ys,H b=some (.tup ys)->H' b=some (.tup ys)):KT H' kvs xs :=
 Paired.mapP r fun _ _ z=>⟨z.1,ht _ _ z.2.1,z.2.2⟩
section
variable {P:Program}{w:World}{H:Hp}{h:Heap}{a:Addr}
theorem zMt {u:HO} (ok:HOk P w H h) (e:Rd H a u):jr P w H h a u:=e.ok ok
theorem zA4 {kvs:List (Key×V)} (ok:HOk P w H h) (e:Rd H a (.dK kvs)):kvs.length <= sizeLine/\(a == sysModules)=false/\∃ vs,KV kvs vs/\h.DictOf (jF P w) a vs :=
 show jr P w H h a (.dK kvs) from zMt ok e
theorem zBy {kvs:List (Key×V)} (ok:HOk P w H h) (e:H a=some (.dK kvs)):kvs.length <= sizeLine/\(a == sysModules)=false/\∃ vs,KV kvs vs/\h.DictOf (jF P w) a vs:=zA4 ok (.inl e)
theorem zAt {ks:List Key} (ok:HOk P w H h) (e:H a=some (.tup (ks.map kV))):(tupleKind (jF P w)).is h ks a:=by
 obtain⟨_,its,r,o,h1,h2,n,h3⟩:=(show jr P w H h a (.tup (ks.map kV)) from ok a _ e)
 exact⟨o,its.toArray,n,h1,h2,h3,by simpa using zFO r⟩
theorem zBm {kvs:List (List Key×V)} (ok:HOk P w H h) (e:Rd H a (.dT kvs)):kvs.length <= sizeLine/\(a == sysModules)=false /\
  ∃ xs,KT H kvs xs/\h.DictOfH (tupleKind (jF P w)) a xs:=by
 obtain⟨z,y,xs,r,o,es,ep,h1,h2,h3,h4,h5⟩:=(show jr P w H h a (.dT kvs) from zMt ok e)
 refine⟨z,y,xs,r,o,es,ep,h1,h2,h3,h4,fun x hx=>?_,h5⟩
 have all:∀ {l:List (List Key×V)}{m:List (List Key×Addr×Value)},KT H l m->∀ x∈m,(tupleKind (jF P w)).is h x.1 x.2.1:=by
  intro l m q
  induction q with
  | nil=>intro x hx;exact nomatch hx
  | @cons p q ps qs hq t ih =>
   intro x hx
   rcases List.mem_cons.mp hx with e | hx
   ·subst e
    exact zAt ok (by rw[<- hq.1];exact hq.2.1)
   ·exact ih x hx
 exact all r x hx
theorem zQn {kvs:List (List Key×V)} (ok:HOk P w H h) (e:H a=some (.dT kvs)):kvs.length <= sizeLine/\(a == sysModules)=false /\
  ∃ xs,KT H kvs xs/\h.DictOfH (tupleKind (jF P w)) a xs:=zBm ok (.inl e)
end
def Qk (H:Hp) (a:Addr) (y:V) (r:Option V):Prop :=
 (∃ kvs k,Rd H a (.dK kvs)/\y=kV k/\r=yk kvs k)\/∃ kvs k b,Rd H a (.dT kvs)/\y=.ref b/\H b=some (.tup (k.map kV))/\r=yk kvs k
def zDq (H:Hp) (a:Addr) (y v:V) (H':Hp):Prop :=
 (∃ kvs k,H a=some (.dK kvs)/\y=kV k/\kvs.length < sizeLine/\H'=upd H a (.dK (ZB kvs k v))) \/
 ∃ kvs k b,H a=some (.dT kvs)/\y=.ref b/\H b=some (.tup (k.map kV))/\kvs.length < sizeLine/\H'=upd H a (.dT (ZB kvs k v))
theorem Qk.k {H:Hp}{a:Addr}{kvs:List (Key×V)}{k:Key} (e:H a=some (.dK kvs)):Qk H a (kV k) (yk kvs k):=.inl ⟨kvs,k,.inl e,rfl,rfl⟩
theorem zDq.k {H:Hp}{a:Addr}{kvs:List (Key×V)}{k:Key}{v:V} (e:H a=some (.dK kvs)) (hl:kvs.length < sizeLine):zDq H a (kV k) v (upd H a (.dK (ZB kvs k v))):=.inl ⟨kvs,k,e,rfl,hl,rfl⟩
section
variable {X:Cx}{pins:List (Addr×Obj)}{σ:St}{H:Hp}{s:Shared}{a:Addr}{y v:V}{u r:Value}{o:Option V}{A:Around}{E:Value->Shared->Prop}
theorem Inv.big (I:Inv X pins σ H s):sysModules < s.heap.objs.size:=by
 have h:mainGlobals < s.heap.objs.size:=(I.mod.glob.keeps I.bk).lt
 exact Nat.lt_trans (by decide) h
theorem zFS {Q:Value->Shared->Prop} (hu:A.units+1 < cLine) (I:Inv X pins σ H s) (g:Qk H a y (some v)) (ry:zj y u) (h:∀ w' s',Inv X pins σ H s'->zj v w'->Q w' s') :
  wpAny (model X.prog X.w) A (getItem (.ref a) u) Q E s:=by
 rcases g with ⟨kvs,k,e,ey,l⟩ | ⟨kvs,k,b,e,ey,eb,l⟩
 ·subst ey
  obtain⟨z,hd,vs,rel,dd⟩:=zA4 I.hok e
  obtain⟨w',hw,rw'⟩:=Jj.some_of (v:=v) (o:=valueAt vs k) (by rw[l];exact rel.val k)
  exact wpAny_getItem_of (zAy ry) dd.mapOf hw (h w' _ (I.tok _) rw')
 ·subst ey
  cases (show u=Value.ref b from ry)
  obtain⟨z,hd,xs,rel,dd⟩:=zBm I.hok e
  obtain⟨w',hw,rw'⟩:=Jj.some_of (v:=v) (o:=(atKey xs k).map (·.2)) (by rw[l];exact rel.val k)
  obtain⟨p,hp,hp2⟩:=Option.map_eq_some_iff.mp hw
  refine wpAny_getItem_heap (tupleKind_room_in1 hu) (zAt I.hok eb) dd hp ?_
  rw[hp2]
  exact h w' _ (I.tok _) rw'
theorem zQ6 {Q:Value->Shared->Prop} (hu:A.units+1 < cLine) (I:Inv X pins σ H s) (g:Qk H a y o) (ry:zj y u) (h:∀ s',Inv X pins σ H s'->Q (.bool o.isSome) s') :
  wpAny (model X.prog X.w) A (compareOp .In u (.ref a)) Q E s:=by
 rcases g with ⟨kvs,k,e,ey,l⟩ | ⟨kvs,k,b,e,ey,eb,l⟩
 ·subst ey
  obtain⟨z,hd,vs,rel,dd⟩:=zA4 I.hok e
  refine wpAny_in_of (zAy ry) hd dd.mapOf ?_
  rw[<- (rel.val k).isSome_eq,<- l]
  exact h _ (I.tok _)
 ·subst ey
  cases (show u=Value.ref b from ry)
  obtain⟨z,hd,xs,rel,dd⟩:=zBm I.hok e
  refine wpAny_in_heap (tupleKind_room_in1 hu) (zAt I.hok eb) hd dd ?_
  have q:=(rel.val k).isSome_eq
  rw[Option.isSome_map] at q
  rw[<- q,<- l]
  exact h _ (I.tok _)
theorem zNb {Q:Value->Shared->Prop} (hu:A.units+1 < cLine) (I:Inv X pins σ H s) (g:Qk H a y o) (ry:zj y u) (h:∀ s',Inv X pins σ H s'->Q (.bool (!o.isSome)) s') :
  wpAny (model X.prog X.w) A (compareOp .NotIn u (.ref a)) Q E s:=by
 rcases g with ⟨kvs,k,e,ey,l⟩ | ⟨kvs,k,b,e,ey,eb,l⟩
 ·subst ey
  obtain⟨z,hd,vs,rel,dd⟩:=zA4 I.hok e
  refine wpAny_notIn_of (zAy ry) hd dd.mapOf ?_
  rw[<- (rel.val k).isSome_eq,<- l]
  exact h _ (I.tok _)
 ·subst ey
  cases (show u=Value.ref b from ry)
  obtain⟨z,hd,xs,rel,dd⟩:=zBm I.hok e
  refine wpAny_notIn_heap (tupleKind_room_in1 hu) (zAt I.hok eb) hd dd ?_
  have q:=(rel.val k).isSome_eq
  rw[Option.isSome_map] at q
  rw[<- q,<- l]
  exact h _ (I.tok _)
theorem zIY {h':Heap}{t':Nat}{ob:HO} (I:Inv X pins σ H s) (mu:Mut (H a)) (hs:Heap.SameBut a s.heap h') (he:∃ q,h'.get? a=some q) (new:jr X.prog X.w (upd H a ob) h' a ob) (ht:0 < t':=by first | exact Nat.succ_pos _ | assumption | exact Inv.tk (by assumption) | omega) :
  Inv X pins σ (upd H a ob) { s with heap:=h',toks:=t' } :=
 I.write (x:=a) (e:=a) mu (.inl rfl) (fun b q hb z=>(hs.2 b hb).trans z) he new
theorem zKj {P:Program}{w:World}{H':Hp}{h':Heap}{kvs:List (Key×V)}{vs:List (Key×Value)} (z:kvs.length <= sizeLine) (hd:(a == sysModules)=false) (rel:KV kvs vs) (dd:h'.DictOf (jF P w) a vs) :
  jr P w H' h' a (.dK kvs):=⟨z,hd,vs,rel,dd⟩
theorem zFl {H':Hp}{Q:Unit->Shared->Prop} (hu:A.units+1 < cLine) (I:Inv X pins σ H s) (g:zDq H a y v H') (ry:zj y u) (rv:zj v r) (h:∀ s',Inv X pins σ H' s'->Q () s') :
  wpAny (model X.prog X.w) A (setItem (.ref a) u r) Q E s:=by
 rcases g with ⟨kvs,k,e,ey,l,eH⟩ | ⟨kvs,k,b,e,ey,eb,l,eH⟩
 ·subst ey eH
  obtain⟨z,hd,vs,rel,dd⟩:=zBy I.hok e
  have hz:vs.length <= sizeLine:=by rw[<- rel.length];exact z
  have hl:(ZB kvs k v).length <= sizeLine:=by have:=zDO kvs k v;omega
  refine wpAny_setItem_pairs (hsz:=hz) (zAy ry) dd fun h' dd' hs=>h _ ?_
  have he:∃ q,h'.get? a=some q:=let ⟨q,_,_,hq,_⟩:=dd';⟨q,hq⟩
  exact zIY I (by rw[e];exact True.intro) hs he (zKj hl hd (rel.put k rv) dd')
 ·subst ey eH
  cases (show u=Value.ref b from ry)
  obtain⟨z,hd,xs,rel,dd⟩:=zQn I.hok e
  have hz:xs.length <= sizeLine:=by rw[<- Paired.length rel];exact z
  have hl:(ZB kvs k v).length <= sizeLine:=by have:=zDO kvs k v;omega
  refine wpAny_setItem_heap (hsz:=hz) (tupleKind_room_in1 hu) (zAt I.hok eb) dd fun h' dd' hs=>h _ ?_
  obtain⟨q,es,ep,hq,h2,h3,h4,_,h5⟩:=dd'
  refine zIY I (by rw[e];exact True.intro) hs ⟨q,hq⟩ ⟨hl,hd,_,(rel.put k eb rv).keeps fun c ys ec=>?_,q,es,ep,hq,h2,h3,h4,h5⟩
  rw[zk (zQR ec e (fun z=>nomatch z))]
  exact ec
end
section
variable {X:Cx}{pins:List (Addr×Obj)}{σ:St}{H:Hp}{s:Shared}{a:Addr}{kvs:List (Key×V)}{k:Key}{u:Value}{A:Around}{E:Value->Shared->Prop}
theorem zQo {Q:Value->Shared->Prop} (I:Inv X pins σ H s) (e:Rd H a (.dK kvs)) (h:∀ t s',Inv X pins σ H s'->Q (.int kvs.length t) s'):wpAny (model X.prog X.w) A (call (.builtin "len") [.ref a]) Q E s:=by
 obtain⟨z,hd,vs,rel,dd⟩:=zA4 I.hok e
 refine call_len_dict hd dd (by rw[<- rel.length];rw[sizeLine_eq] at z;omega) ?_
 rw[<- rel.length]
 exact h _ _ (I.tok _)
end
theorem zH7 {X:Cx}{pins:List (Addr×Obj)}{σ:St}{H:Hp}{s:Shared}{a:Addr}{y:V}{o:Option V} (I:Inv X pins σ H s) (g:Qk H a y o):s.TypeIs (.ref a) "dict" := by
 rcases g with ⟨kvs,k,e,_,_⟩ | ⟨kvs,k,b,e,_,_,_⟩
 ·obtain⟨_,_,vs,_,dd⟩:=zA4 I.hok e
  exact dd.typeIs
 ·obtain⟨_,_,xs,_,dd⟩:=zBm I.hok e
  exact dd.typeIs
def zQK (td ty tv:TE):TS:=fun D σ H=>tv σ H fun v H1=>td σ H1 fun x H2=>ty σ H2 fun y H3=>∃ a H4,x=.ref a/\zDq H3 a y v H4/\D.nx σ H4
def zAS (td ty tv:TE) (rd:V->V->Hp->VK->Prop):TS:=fun D σ H=>td σ H fun x H1=>ty σ H1 fun y H2=>∃ a v,x=.ref a/\Qk H2 a y (some v) /\
 tv σ H2 fun y2 H3=>rd v y2 H3 fun z H4=>∃ H5,zDq H4 a y z H5/\D.nx σ H5
section
variable {X:Cx}{o i e value:Expr}{pos pos' tpos:Pos}{td ty tv:TE}
theorem zNi (hu:X.A.units+1 < cLine) (ho:PE X o td) (hi:PE X i ty) (hv:PE X value tv) (hs:swapsWith value (some (.Subscript o i pos')) pos.line X.env=pure false) :
  PS X (.Assign [.Subscript o i pos'] value pos) (zQK td ty tv):=by
 intro pins s σ H D I h
 refine wpAny_Assign_Subscript (thn (hv pins s σ H _ I h) fun r s1 ⟨v,H1,I1,rv,q1⟩=>thn (ho pins s1 σ H1 _ I1 q1) fun u s2 ⟨x,H2,I2,rx,q2⟩=>thn (hi pins s2 σ H2 _ I2 q2) fun iv s3 ⟨y,H3,I3,ry,a,H4,ex,g,q3⟩=>?_) hs
 subst ex
 obtain rfl:u=Value.ref a:=rx
 exact zFl hu I3 g ry rv fun s4 I4=>⟨σ,H4,I4,q3⟩
theorem zNh {op:Operator}{rd:V->V->Hp->VK->Prop} (hu:X.A.units+1 < cLine) (ho:PE X o td) (hi:PE X i ty) (hv:PE X value tv) (hop:zQ1 X op rd)
  (ha:∀ ov iv new,augStore i ov iv new=(do holding [new,ov,iv] (setItem ov iv new);release [new,ov,iv] [];pure .next)):PS X (.AugAssign (.Subscript o i tpos) op value pos) (zAS td ty tv rd):=by
 intro pins s σ H D I h
 refine wpAny_AugAssign_SubscriptAny (thn (ho pins s σ H _ I h) fun u s1 ⟨x,H1,I1,rx,q1⟩=>thn (hi pins s1 σ H1 _ I1 q1) fun iv s2 ⟨y,H2,I2,ry,a,v,ex,g,q2⟩=>?_) ha
 subst ex
 obtain rfl:u=Value.ref a:=rx
 refine zFS hu I2 g ry fun w' s3 I3 rw'=>thn (hv pins s3 σ H2 _ I3 q2) fun w2 s4 ⟨y2,H3,I4,ry2,q3⟩=>thn (hop pins s4 σ H3 v y2 w' w2 _ I4 rw' ry2 q3) fun w3 s5 ⟨z,H4,I5,rz,H5,g5,q4⟩=>?_
 exact zFl hu I5 g5 ry rz fun s6 I6=>⟨σ,H5,I6,q4⟩
end
theorem zMb {P:Program}{w:World}{H:Hp} (h:Heap) (hb:sysModules < h.objs.size):jr P w H (h.push { cls:=.type "dict",data:=.dict #[] }) h.objs.size (.dK []) :=
 ⟨Nat.zero_le _,beq_eq_false_iff_ne.mpr (Ne.symm (Nat.ne_of_lt hb)),[],.nil,Heap.DictOf.new h⟩
def zOd:TE:=fun _ H Q=>∀ p,H p=none->Q (.ref p) (upd H p (.dK []))
section
variable {X:Cx}{pos:Pos}
theorem zLU:PE X (.Dict [] [] pos) zOd:=fun pins s σ H Q I h =>
 wpAny_Dict_empty ⟨.ref s.heap.objs.size,_,I.laid (a:=s.heap.objs.size) (o:=.dK []) (t':=s.toks) (fun _ _ q=>Heap.get?_push_of_some _ q) (Nat.le_refl _) (zMb s.heap I.big),rfl,h _ (I.hok.fresh (Nat.le_refl _))⟩
end
structure M1 (X:Cx) (o:Expr) (m:Str) (apos:Pos) (e:Expr) (cpos:Pos):Prop where
 base:attributeBase o m X.env (eval o X.env)=eval o X.env
 few:((backTo cpos (starEach [e] X.env)).all (fun x=>!x.1) && (backToKw cpos (keywordEach [] X.env)).all (fun x=>x.1.isSome)
  && decide (([e]:List Expr).length+([]:List Keyword).length+(if ([]:List Keyword).isEmpty then 0 else 1) < 30))=true
 line:(apos.endLine == cpos.line)=true
 trees:backTo cpos (starEach [e] X.env)=[(false,eval e X.env)]
structure M2 (X:Cx) (o:Expr) (m:Str) (apos:Pos) (e f:Expr) (cpos:Pos):Prop where
 base:attributeBase o m X.env (eval o X.env)=eval o X.env
 few:((backTo cpos (starEach [e,f] X.env)).all (fun x=>!x.1) && (backToKw cpos (keywordEach [] X.env)).all (fun x=>x.1.isSome)
  && decide (([e,f]:List Expr).length+([]:List Keyword).length+(if ([]:List Keyword).isEmpty then 0 else 1) < 30))=true
 line:(apos.endLine == cpos.line)=true
 trees:backTo cpos (starEach [e,f] X.env)=[(false,eval e X.env),(false,eval f X.env)]
section
variable {X:Cx}{pins:List (Addr×Obj)}{σ:St}{H:Hp}{s:Shared}{a:Addr}{y d:V}{u r:Value}{o:Option V}{A:Around}{E:Value->Shared->Prop}
theorem zPz {Q:Value->Shared->Prop} (hu:A.units+1 < cLine) (I:Inv X pins σ H s) (g:Qk H a y o) (ry:zj y u) (h:∀ w' s',Inv X pins σ H s'->zj (o.getD .non) w'->Q w' s') :
  wpAny (model X.prog X.w) A (call (.builtin "dict.get") [.ref a,u]) Q E s:=by
 rcases g with ⟨kvs,k,e,ey,l⟩ | ⟨kvs,k,b,e,ey,eb,l⟩
 ·subst ey
  obtain⟨z,hd,vs,rel,dd⟩:=zA4 I.hok e
  refine call_meetsIn PySem.F.slot_dict_get dd.typeIs PySem.F.entry_dict_get (PySem.F.args_dict_get_2 _ _) (meets_dict_get (jF X.prog X.w) a (zAy ry) hd) ⟨_,dd.mapOf,h _ _ (I.tok _) ?_⟩
  rw[l]
  exact (rel.val k).getD rfl
 ·subst ey
  cases (show u=Value.ref b from ry)
  obtain⟨z,hd,xs,rel,dd⟩:=zBm I.hok e
  refine call_meetsIn PySem.F.slot_dict_get dd.typeIs PySem.F.entry_dict_get (PySem.F.args_dict_get_2 _ _) (meetsH_dict_get (tupleKind (jF X.prog X.w)) a b hd) ⟨tupleKind_room_in1 hu,k,xs,zAt I.hok eb,dd,h _ _ (I.tok _) ?_⟩
  rw[l]
  exact (rel.val k).getD rfl
theorem zPP {Q:Value->Shared->Prop} (hu:A.units+1 < cLine) (I:Inv X pins σ H s) (g:Qk H a y o) (ry:zj y u) (rd:zj d r) (h:∀ w' s',Inv X pins σ H s'->zj (o.getD d) w'->Q w' s') :
  wpAny (model X.prog X.w) A (call (.builtin "dict.get") [.ref a,u,r]) Q E s:=by
 rcases g with ⟨kvs,k,e,ey,l⟩ | ⟨kvs,k,b,e,ey,eb,l⟩
 ·subst ey
  obtain⟨z,hd,vs,rel,dd⟩:=zA4 I.hok e
  refine call_meetsIn PySem.F.slot_dict_get dd.typeIs PySem.F.entry_dict_get (PySem.F.args_dict_get_3 _ _ _) (meets_dict_get_default (jF X.prog X.w) a (zAy ry) hd r) ⟨_,dd.mapOf,h _ _ (I.tok _) ?_⟩
  rw[l]
  exact (rel.val k).getD rd
 ·subst ey
  cases (show u=Value.ref b from ry)
  obtain⟨z,hd,xs,rel,dd⟩:=zBm I.hok e
  refine call_meetsIn PySem.F.slot_dict_get dd.typeIs PySem.F.entry_dict_get (PySem.F.args_dict_get_3 _ _ _) (meetsH_dict_get_default (tupleKind (jF X.prog X.w)) a b hd r) ⟨tupleKind_room_in1 hu,k,xs,zAt I.hok eb,dd,h _ _ (I.tok _) ?_⟩
  rw[l]
  exact (rel.val k).getD rd
end
end L2
namespace Att
open PySem PySem.W PySem.Calls PyProof.Rows
theorem zDs {P:Params}{h:Heap}:∀ (ns:List Int) (vs:List Value),WellAll P h vs (ns.map WData.int)->IntsAre vs ns:=by
 intro ns
 induction ns with
 | nil =>
  intro vs w
  rw[List.map_nil] at w
  cases w
  exact .nil
 | cons n ns ih =>
  intro vs w
  rw[List.map_cons] at w
  cases w with
  | cons a b =>
   cases a
   exact .cons _ _ (ih _ b)
theorem zK6 {l:OpenLaw}{n:Nat} (hn:l.most=some n) {P:Params}{h:Heap}{args:List WData}{vals:List Value}
  (hpre:l.row.toRowW.claim.pre args=true) (hwl:WellAll P h vals args) :
  ∃ a vs ns,vals=[Value.ref a]/\args=[WData.list (ns.map WData.int)]/\h.get? a=some { cls:=.type "list",data:=.seq vs.toArray }/\IntsAre vs ns/\ns.length <= n:=by
 have hsh:WShape.hasAll [] args [.list .int]=true:=(pre_splitW hpre).1
 have hc:l.pre.holds [] { args:=args }=true:=(pre_splitW hpre).2
 obtain⟨d,r,rfl,h1,h2⟩:=hasAllW_cons hsh
 obtain rfl:=hasAllW_nil h2
 obtain⟨xs,rfl,h3⟩:=hasW_list h1
 obtain⟨ns,rfl⟩:=items_int h3
 have hlen:ns.length <= n:=by
  unfold OpenLaw.pre at hc
  have h4:(WTm.not (.lt (.lit (.int (n:Int))) (.len (.arg 0)))).holds [] { args:=[.list (ns.map .int)] }=true:=by
   have h4:=(holds_andW hc).1
   rw[hn] at h4
   exact h4
  have h5:=condW_of h4 (w_not (w_lt w_lit (w_len_list (w_arg rfl))))
  rw[List.length_map] at h5
  refine Nat.le_of_not_lt fun q=>?_
  have q':(n:Int) < ((ns.length:Nat):Int):=by omega
  first
   | (rw[decide_eq_true q'] at h5;exact absurd h5 (by decide))
   | (simp at h5;omega)
 cases hwl with
 | cons w1 w2 =>
  cases w2
  cases w1 with
  | list ho hall=>exact⟨_,_,ns,rfl,rfl,ho,zDs ns _ hall,hlen⟩
theorem zKs (l:OpenLaw) (args:List WData):l.row.toRowW.claim.post args (.bool true) args=true :=
 postW_of (r:=l.row.toRowW) (X:=(true == true))
  (show WShape.has [] (.bool true) .bool=true by first | rfl | decide | simp[WShape.has,WShape.arms,WShape.armsAll])
  (show (WTm.eq .res (.lit (.bool true))).value [] { args:=args,res:=some (.bool true),after:=args }=some (.bool (true == true)) from w_eq_bool (w_res rfl) w_lit) rfl
theorem zH1 {l:OpenLaw}{n:Nat}{q:Program}{loose:List Str}{XP:(Str->Option Value)->Heap->Prop}{YP:World->Heap->Prop}{d:DefRec}
  (hn:l.most=some n) (hdf:d.params.defaults=[])
  (call:∀ (w:World) (s₀ s₁:Shared) (mg mb:Str->Option Value) (fa:Addr) (o:Obj) (pm cd doc:Value) (a:Addr) (vs:List Value) (ns:List Int),
   Ground q loose [] XP w s₀ mg mb s₁.heap->YP w s₁.heap ->
   s₁.heap.get? fa=some o->o.data=.func (docDef d.name d.params d.body d.scope pm cd doc)->s₁.heap.CodeRec cd d.name->mg d.name=some (.ref fa) ->
   s₁.heap.get? a=some { cls:=.type "list",data:=.seq vs.toArray }->IntsAre vs ns->ns.length <= n->s₁.gens = #[] ->
   codeAny (model l.prog w) callerA (.call (.ref fa) ⟨[.ref a],[]⟩) (fun r s'=>r=.ok (.ret (.bool true))/\OldK s₁.heap s'.heap/\s'.os=s₁.os/\AllBare s'.gens) s₁) :
  WalkO q loose XP YP l.row.toRowW d [] (fun f vs=>PySem.call f vs):=by
 intro w s₀ s₁ mg mb G Y fa o pm cd doc dV kV ho hd hcd hD hmg hg args vals as hpre hlay hrd hwl hlo
 obtain rfl:dV=.none:=Dflts.none hD hdf
 obtain rfl:kV=.none:=Dflts.noKw hD
 obtain⟨a,vs,ns,rfl,rfl,hobj,hints,hlen⟩:=zK6 hn hpre hwl
 refine enter_call (codeAny_mono (call w s₀ s₁ mg mb fa o pm cd doc a vs ns G Y ho (fd_plain hd) hcd hmg hobj hints hlen hg) fun r s' hq=>?_)
 obtain⟨rfl,h2,h3,h4⟩:=hq
 exact⟨.inl ⟨.bool true,.bool true,[],rfl,fun _=>rfl,.bool true,zKs l _,fun _=>⟨List.Pairwise.nil,fun _ hm=>(nomatch hm)⟩⟩,h2,h3,h4⟩
end Att
namespace L2
open PySem PySem.Spec PyProof.Rows
theorem zFf:∀ {vs:List Value}{ns:List Int},IntsAre vs ns->zh (ns.map V.int) vs
 | _,_,.nil=>.nil
 | _,_,.cons n t h=>.cons ⟨t,rfl⟩ (zFf h)
def zJY (H:Hp):Prop:=∀ b,H b=none\/∃ o xs,H b=some (.frz o (.lst xs))
theorem zMO {P:Program}{w:World}{K:PySem.W.Frag}{mg mb:Str->Option Value}{CX:CXT}{k:Nat}{fa a:Addr}{fd:FuncData}{x:Str}{sp:Sp}{s₁:Shared}{vs:List Value}{ns:List Int}
  (KX:K.In s₁.heap) (hns:s₁.heap.Ns mainGlobals mg) (hb:s₁.heap.Ns builtinsNs mb) (hbb:∀ x:Str,x ≠ "__name__" -> mb x=bootBuiltins x) (hlim:s₁.heap.NoLimit) (hg:s₁.gens = #[])
  (ha:s₁.heap.get? a=some { cls:=.type "list",data:=.seq vs.toArray }) (hi:IntsAre vs ns) (hl:ns.length <= sizeLine) (hr:jb k callerA)
  (F:∀ base:Heap,K.In base->base.Ns mainGlobals mg->qH P w K mg base CX k fa fd [x] sp) (hT:fd.scope.names.lookup x=some .local) (hbind:∀ (s:Shared) (u:Value),BindsTo s fd ⟨[u],[]⟩ [(x,u)])
  (hsp:∀ H:Hp,zJY H->SqL K H a (ns.map V.int)->sp [.ref a] H (fun v _=>v=.bl true) fun _ _ _=>False)
  (hCX:∀ H e s',CX [] H s₁ (fun _ _ _=>False) e s'->False) :
  codeAny (model P w) callerA (.call (.ref fa) ⟨[.ref a],[]⟩) (fun r s'=>r=.ok (.ret (.bool true))/\OldK s₁.heap s'.heap/\s'.os=s₁.os/\AllBare s'.gens) s₁:=by
 have rv:=zFf hi
 have lenV:=hi.length
 have core:∀ H:Hp,zJY H->SqL K H a (ns.map V.int)->HOk P w H s₁.heap->(∀ b,H b≠none->b=a)->(H a≠none->K.lookup a=none) ->
   codeAny (model P w) callerA (.call (.ref fa) ⟨[.ref a],[]⟩) (fun r s'=>r=.ok (.ret (.bool true))/\OldK s₁.heap s'.heap/\s'.os=s₁.os/\AllBare s'.gens) s₁:=by
  intro H hO hS hok hA hK
  have base_of:∀ {b:Addr}{o:Obj},s₁.heap.get? b=some o->H b=none->(zB5 s₁.heap H).get? b=some o:=fun e n=>zLy e n
  have noA:∀ {b:Addr}{o:Obj}{es:Array DictEntry}{ep:Nat},s₁.heap.get? b=some o->o.data=.dict es ep->H b=none:=fun {b o es ep} e d=>by
   cases q:H b with
   | none=>rfl
   | some u =>
    have e':b=a:=hA b (by rw[q];simp)
    subst e'
    rw[ha] at e;cases e
    have d':Data.seq vs.toArray _=Data.dict es ep:=d
    cases d'
  have nsK:∀ {b:Addr}{m:Str->Option Value},s₁.heap.Ns b m->(zB5 s₁.heap H).Ns b m:=fun {b m} ⟨o,es,ep,e,d,r⟩=>⟨o,es,ep,base_of e (noA e d),d,r⟩
  have hKb:K.In (zB5 s₁.heap H):=fun b o e=>base_of (KX b o e) (by
   cases q:H b with
   | none=>rfl
   | some u =>
    have e':b=a:=hA b (by rw[q];simp)
    subst e'
    rw[hK (by rw[q];simp)] at e;cases e)
  have hM:Mod K mg (zB5 s₁.heap H):=⟨hKb,nsK hns,⟨mb,nsK hb,hbb⟩,let ⟨mc,h1,h2⟩:=hlim;⟨mc,nsK h1,h2⟩⟩
  have e0:zJQ P w K mg (zB5 s₁.heap H) callerA [] s₁ H:=⟨rfl,hM,fun b o e=>zN9 e,Nat.le_of_eq (zK8 _ _),trivial,fun b hb=>absurd (show b∈([]:List Addr) from hb) (by simp),hok,.of_eq hg⟩
  refine codeAny_mono ((F _ hKb (nsK hns)).run callerA [] s₁ H ⟨[.ref a],[]⟩ [.ref a] [.ref a] _ _ hr e0 (.inr ⟨x,List.mem_singleton.mpr rfl,hT⟩) (hbind s₁ (.ref a)) (.cons rfl .nil) (hsp H hO hS)) fun r s' h=>?_
  cases r with
  | error e=>exact (hCX H e s' h).elim
  | ok fl =>
   cases fl with
   | next=>exact False.elim h
   | brk=>exact False.elim h
   | cont=>exact False.elim h
   | ret u =>
    obtain⟨v,H',os,bare,un,hok',r',q⟩:=h
    have q':v=.bl true:=q
    subst q'
    obtain rfl:u=Value.bool true:=r'
    refine⟨rfl,OldK.of_keep fun b o e=>?_,os,bare⟩
    cases q:H b with
    | none=>exact un.keep b o e q (by intro z;exact absurd (show b∈([]:List Addr) from z) (by simp)) (by simp)
    | some u =>
     rcases hO b with z | ⟨ob,xs,z⟩
     ·rw[q] at z;cases z
     ·have z2:=un.frzs b ob _ z
      obtain⟨e1,_⟩:=hok b _ z
      obtain⟨e2,_⟩:=hok' b _ z2
      rw[e] at e1;cases e1
      exact e2
 cases hk:K.lookup a with
 | some o =>
  have e:=KX a o hk
  rw[ha] at e
  cases e
  refine core (fun _=>none) (fun _=>.inl rfl) (.inr ⟨_,vs.toArray,_,hk,rfl,rfl,rfl,by rw[List.size_toArray,lenV];exact hl,by simpa using rv⟩) (fun b u z=>by have z':(none:Option HO)=some u:=z;cases z') (fun b z=>absurd rfl z) fun z=>absurd rfl z
 | none =>
  refine core (fun b=>if b=a then some (.frz { cls:=.type "list",data:=.seq vs.toArray } (.lst (ns.map V.int))) else none) (fun b=>?_) (.inl (.inr ⟨{ cls:=.type "list",data:=.seq vs.toArray },if_pos rfl⟩)) (fun b u z=>?_) (fun b z=>?_) fun _=>hk
  ·by_cases hb:b=a
   ·exact .inr ⟨_,_,if_pos hb⟩
   ·exact .inl (if_neg hb)
  ·by_cases hb:b=a
   ·have z':=(if_pos hb).symm.trans z
    cases z'
    subst hb
    exact⟨ha,by rw[List.length_map];exact hl,vs,_,rv,ha⟩
   ·have z':=(if_neg hb).symm.trans z
    cases z'
  ·by_cases hb:b=a
   ·exact hb
   ·exact absurd (if_neg hb) z
end L2
namespace L2
open PySem PySem.Spec PyProof.Rows
theorem zNg {l:PySem.W.OpenLaw}{n k:Nat}{q:Program}{loose:List Str}{XP:(Str->Option Value)->Heap->Prop}{YP:World->Heap->Prop}{d:DefRec}{K:Params->PySem.W.Frag}{CX:World->CXT}{sp:World->Sp}{x:Str}
  (hn:l.most=some n) (hn2:n <= sizeLine) (hdf:d.params.defaults=[]) (hr:jb k callerA)
  (hY:∀ (w:World) (h:Heap),YP w h->(K w.params).In h)
  (F:∀ (w:World) (mg:Str->Option Value) (fa:Addr) (h:Heap),(K w.params).In h->h.Ns mainGlobals mg->mg d.name=some (.ref fa) ->
   ∃ fd:FuncData,(∀ (s:Shared) (u:Value),BindsTo s fd ⟨[u],[]⟩ [(x,u)])/\fd.scope.names.lookup x=some .local /\
    ∀ base:Heap,(K w.params).In base->base.Ns mainGlobals mg->qH l.prog w (K w.params) mg base (CX w) k fa fd [x] (sp w))
  (hsp:∀ (w:World) (H:Hp) (a:Addr) (ns:List Int),ns.length <= n->zJY H->SqL (K w.params) H a (ns.map V.int)->sp w [.ref a] H (fun v _=>v=.bl true) fun _ _ _=>False)
  (hCX:∀ (w:World) (H:Hp) (s:Shared) (e:Value) (s':Shared),CX w [] H s (fun _ _ _=>False) e s'->False) :
  PySem.W.WalkO q loose XP YP l.row.toRowW d [] (fun f vs=>PySem.call f vs):=by
 refine Att.zH1 hn hdf fun w s₀ s₁ mg mb fa o pm cd doc a vs ns G Y ho hd hcd hmg hobj hints hlen hg=>?_
 have KX:=hY w _ Y
 obtain⟨fd,hb,hT,hF⟩:=F w mg fa _ KX G.T.g hmg
 exact zMO KX G.T.g G.T.b G.T.builtins G.T.nolimit hg hobj hints (Nat.le_trans hlen hn2) hr hF hT hb (fun H hO hS=>hsp w H a ns hlen hO hS) fun H e s'=>hCX w H s₁ e s'
end L2
namespace L2
open PySem PySem.Spec PyProof.Rows
def jh (s:Stmt):Arguments:=match s with
 | .FunctionDef _ a _ _ _ _ _ _ _ _=>a
 | _=>{ posonlyargs:=[],args:=[],vararg:=none,kwonlyargs:=[],kw_defaults:=[],kwarg:=none,defaults:=[] }
def jP (s:Stmt):List Stmt:=match s with
 | .FunctionDef _ _ b _ _ _ _ _ _ _=>b
 | _=>[]
def zO (s:Stmt):Scope:=match s with
 | .FunctionDef _ _ _ _ _ _ sc _ _ _=>sc
 | _=>{ kind:=.function,names:=[],isGenerator:=false,isCoroutine:=false }
abbrev CX0:CXT:=fun _ _ _ _ _ _=>False
abbrev E0:XK:=fun _ _ _=>False
theorem zJp {X:Cx}:zBW CX0 X E0:=fun _ _ _ _ _ _ _ h=>h.elim
structure Fun (K:PySem.W.Frag) (x qual:Str) (st:Stmt) (f:Addr) (fd:FuncData):Prop where
 ex:∃ (oc:Value) (od:Option Addr) (kV doc pm:Value) (an:Option Addr) (cdv ct:Value) (osl:Array (Option Value)),
  fd=PySem.W.fnOf x qual (jh st) (jP st) (zO st) .none kV doc pm an cdv ct/\K.lookup f=some ⟨oc,od,.func fd,osl⟩/\PySem.W.codeIn K cdv qual=true
 kp:PySem.W.keepIn K (.ref f)=true
section
variable {P:Program}{w:World}{K:PySem.W.Frag}{mg:Str->Option Value}{base:Heap}
theorem Fun.ok {x qual:Str}{st:Stmt}{f:Addr}{fd:FuncData}{N ps:List Str}{k:Nat}{sp:Sp} (F:Fun K x qual st f fd) (S:ja N ps (zO st)) (len:∀ vs H Q E,sp vs H Q E->vs.length=ps.length)
  (hbody:∀ (cdv:Value) (A:Around) (outer:List Env) (s:Shared) (H:Hp) (vs:List V) (Q:VK) (E:XK),jb k (A.deeper (envOfC qual (zO st) s.heap.objs.size f cdv))->sp vs H Q E ->
   ∃ t,PSs (zAe CX0 P w K mg base N qual (zO st) f cdv A outer s H E).nox (jP st) t/\t { nx:=fun _ H'=>Q .non H',rt:=Q } (start N vs) H):qH P w K mg base CX0 (k+1) f fd ps sp:=by
 obtain⟨oc,od,kV,doc,pm,an,cdv,ct,osl,rfl,lk,hcd⟩:=F.ex
 refine zQO lk hcd S len fun A outer s H vs Q E hr hsp=>?_
 obtain⟨t,h,q⟩:=hbody cdv A outer s H vs Q E hr hsp
 exact⟨t,h.nox,q⟩
theorem Fun.binds {x qual:Str}{st:Stmt}{f:Addr}{fd:FuncData}{ps:List Str} (F:Fun K x qual st f fd)
  (h:∀ (kV doc pm:Value) (an:Option Addr) (cdv ct:Value) (us:List Value),us.length=ps.length->bindArgs (PySem.W.fnOf x qual (jh st) (jP st) (zO st) .none kV doc pm an cdv ct) ⟨us,[]⟩=pure (ps.zip us)):zA7 K fd ps []:=by
 obtain⟨oc,od,kV,doc,pm,an,cdv,ct,osl,rfl,lk,hcd⟩:=F.ex
 exact .all (h kV doc pm an cdv ct)
theorem qa {x qual:Str}{st:Stmt}{f:Addr}{oc:Value}{od an:Option Addr}{osl:Array (Option Value)}{kV doc pm cdv ct:Value} (l:K.lookup f=some ⟨oc,od,.func (PySem.W.fnOf x qual (jh st) (jP st) (zO st) .none kV doc pm an cdv ct),osl⟩)
  (c:PySem.W.codeIn K cdv qual=true) (k:PySem.W.keepIn K (.ref f)=true):Fun K x qual st f (PySem.W.fnOf x qual (jh st) (jP st) (zO st) .none kV doc pm an cdv ct):=⟨⟨oc,od,kV,doc,pm,an,cdv,ct,osl,rfl,l,c⟩,k⟩
end
theorem zDw {A:Around}{k:Nat} (hr:jb k A):A.units+1 < cLine:=Nat.lt_of_le_of_lt (Nat.add_le_add_left (by decide:1 <= 64) _) hr.units
theorem zEi {A B:Prop} (h:B):if false=true then A else B:=by
 rw[if_neg Bool.false_ne_true]
 exact h
theorem zEu {A B:Prop} (h:A):if true=true then A else B:=by
 rw[if_pos rfl]
 exact h
end L2
namespace L2
open PySem PySem.Spec PyProof.Rows
section
variable {X:Cx}
theorem zLI:qQ X (.builtin "len") (fun xs H Q=>∃ a kvs,xs=[V.ref a]/\H a=some (.dK kvs)/\Q (.int kvs.length) H):=by
 intro pins s σ H xs us Q I r h
 obtain⟨a,kvs,rfl,ha,q⟩:=h
 obtain⟨u,rfl,ru⟩:=Qd r
 cases ru
 exact zQo I (.inl ha) fun t s' I'=>⟨.int kvs.length,H,I',⟨t,rfl⟩,q⟩
end
end L2
set_option maxHeartbeats 4000000
namespace L2
open PySem PySem.Spec PyProof.Rows
abbrev zu (X:Cx) (vars:List Str) (scope:Scope) (cl:List (Str×Addr)) (C:Addr) (fp:List Addr) (s₂:Shared) (H₂:Hp):Cx where
 prog:=X.prog
 w:=X.w
 K:=X.K
 mg:=X.mg
 base:=X.base
 A:=X.A
 N:=X.N++vars
 s₀:=s₂
 H₀:=H₂
 env:=compEnvC scope cl C X.env
 outer:=X.stack
 stack:=X.stack
 ex:=fp
 fn:=fun _=>false
 calm:=X.calm
 pn:=[]
 xe:=fun _ _=>False
def zBY (cells:List (Str×Addr)):List (Str×Addr)->Prop
 | []=>True
 | p::r=>cells.lookup p.1=some p.2/\zBY cells r
theorem zBY.get {cells:List (Str×Addr)}:∀ {cl:List (Str×Addr)}{x:Str}{c:Addr},zBY cells cl->cl.lookup x=some c->cells.lookup x=some c
 | [],_,_,_,e=>by simp at e
 | (y,d)::r,x,c,h,e=>by
  cases hx:x == y with
  | true =>
   simp only[List.lookup_cons,hx] at e
   have e1:x=y:=eq_of_beq hx
   subst e1
   rw[<- e]
   exact h.1
  | false =>
   simp only[List.lookup_cons,hx] at e
   exact zBY.get h.2 e
def okK (on:List (Str×NameKind)) (vars:List Str) (cl:List (Str×Addr)) (x:Str):NameKind->Bool
 | .local=>x == (".0" : Str) || vars.contains x
 | .cell=>false
 | .free=>(cl.lookup x).isSome && (on.lookup x == some .cell || on.lookup x == some .free)
 | _=>true
structure ji (X:Cx) (vars:List Str) (scope:Scope) (cl:List (Str×Addr)):Prop where
 kind:scope.kind=.function
 clos:closureFor scope X.env=pure cl
 dis:(vars.all fun x=>!X.N.contains x)=true
 zero:X.N.contains (".0" : Str)=false
 names:∀ y∈scope.names,y.2=.local->scope.names.lookup y.1=some .local
 cells:zBY X.env.cells cl
 ok:(scope.names.all fun p=>okK X.env.scope.names vars cl p.1 p.2)=true
theorem Jw {env:Env}{x:Str}:∀ {names:List (Str×NameKind)},
  (names.map fun (n,k)=>if (k == NameKind.free && env.scope.kind == .function && env.kindOf n == some .cell) then (n,NameKind.cell) else (n,k)).lookup x =
   (names.lookup x).map fun k=>if (k == NameKind.free && env.scope.kind == .function && env.kindOf x == some .cell) then NameKind.cell else k
 | []=>rfl
 | (n,k)::r=>by
  have ih:=@Jw env x r
  show List.lookup x ((if (k == NameKind.free && env.scope.kind == .function && env.kindOf n == some .cell)=true then (n,NameKind.cell) else (n,k))::_)=_
  cases hx:x == n with
  | true =>
   have e:x=n:=eq_of_beq hx
   subst e
   by_cases hc:(k == NameKind.free && env.scope.kind == .function && env.kindOf x == some .cell)=true
   ·rw[if_pos hc];simp only[List.lookup_cons,hx,Option.map_some,if_pos hc]
   ·rw[if_neg hc];simp only[List.lookup_cons,hx,Option.map_some,if_neg hc]
  | false =>
   by_cases hc:(k == NameKind.free && env.scope.kind == .function && env.kindOf n == some .cell)=true
   ·rw[if_pos hc];simp only[List.lookup_cons,hx];exact ih
   ·rw[if_neg hc];simp only[List.lookup_cons,hx];exact ih
section
variable {X:Cx}{vars:List Str}{scope:Scope}{cl:List (Str×Addr)}{C D:Addr}{fp:List Addr}{s₂:Shared}{H:Hp}{pins:List (Addr×Obj)}{σ:St}
theorem ji.okAt (S:ji X vars scope cl) {x:Str}{k:NameKind} (h:scope.names.lookup x=some k):okK X.env.scope.names vars cl x k=true:=by
 have:=List.all_eq_true.mp S.ok (x,k) (PySem.mem_of_lookup h)
 exact this
theorem ji.noCell (S:ji X vars scope cl):∀ y∈scope.names,y.2≠.cell:=fun y hy e=>by
 have h:=List.all_eq_true.mp S.ok y hy
 rw[e] at h
 exact absurd (show false=true from h) Bool.false_ne_true
theorem ji.freeOf (S:ji X vars scope cl) {x:Str} (h:(compEnvC scope cl C X.env).kindOf x=some .cell\/(compEnvC scope cl C X.env).kindOf x=some .free):scope.names.lookup x=some .free:=by
 have e:(compEnvC scope cl C X.env).kindOf x=(scope.names.lookup x).map fun k=>if (k == NameKind.free && X.env.scope.kind == .function && X.env.kindOf x == some .cell) then NameKind.cell else k:=Jw
 rw[e] at h
 cases q:scope.names.lookup x with
 | none=>rw[q] at h;simp at h
 | some k =>
  rw[q] at h
  by_cases hk:k=.free
  ·rw[hk]
  ·have hb:(k == NameKind.free)=false:=by simpa using hk
   simp only[Option.map_some,hb,Bool.false_and,Bool.false_eq_true,if_false,Option.some.injEq] at h
   rcases h with h | h
   ·subst h
    exact absurd rfl (S.noCell (x,.cell) (PySem.mem_of_lookup q))
   ·exact absurd h hk
theorem ji.localOf (S:ji X vars scope cl) {x:Str} (h:(compEnvC scope cl C X.env).kindOf x=some .local):scope.names.lookup x=some .local:=by
 have e:(compEnvC scope cl C X.env).kindOf x=(scope.names.lookup x).map fun k=>if (k == NameKind.free && X.env.scope.kind == .function && X.env.kindOf x == some .cell) then NameKind.cell else k:=Jw
 rw[e] at h
 cases q:scope.names.lookup x with
 | none=>rw[q] at h;simp at h
 | some k =>
  rw[q] at h
  simp only[Option.map_some,Option.some.injEq] at h
  split at h
  ·cases h
  ·rw[h]
theorem zIw (I:Inv X pins σ H s₂) (S:ji X vars scope cl) (hf:∀ b∈fp,zBC X pins H b) (hob:∀ b∈fp,∃ o,s₂.heap.get? b=some o)
  {h₁:Heap}{tk:Nat} (hD:s₂.heap.objs.size <= D) (hC:s₂.heap.objs.size <= C) (hDC:D≠C) {oD:Obj} (eD:h₁.get? D=some oD) (cD:∀ v,oD.data≠.cell v) {m:Str->Option Value} (hn:h₁.Ns C m)
  (old:∀ b o,s₂.heap.get? b=some o->h₁.get? b=some o) (ht:0 < tk:=by first | exact Nat.succ_pos _ | assumption | exact Inv.tk (by assumption) | omega) :
  Inv (zu X vars scope cl C fp s₂ H) [(D,oD)] (σ++List.replicate vars.length none) H { s₂ with heap:=h₁,toks:=tk }:=by
 have fpst:∀ b∈fp,b∉frs X.stack:=fun b hb z=>by
  rcases List.mem_cons.mp (I.stkSub b z) with e | e
  ·exact (hf b hb).2.1 e
  ·exact (hf b hb).2.2.1 e
 have cget:∀ x c,cl.lookup x=some c->X.env.cells.lookup x=some c:=fun x c e=>S.cells.get e
 have fpl:∀ b∈fp,b < s₂.heap.objs.size:=fun b hb=>by
  obtain⟨o,e⟩:=hob b hb
  exact Heap.lt_size e
 have ok:(zu X vars scope cl C fp s₂ H).Ok:=by
  refine⟨I.ok.mod,S.kind,I.ok.glob,I.ok.blt,hC,fun x y c h1 h2=>I.ok.inj x y c (cget x c h1) (cget y c h2),fun x hx=>?_,fun x c h _=>absurd (show false=true from h) Bool.false_ne_true,I.ok.hd,I.ok.frames,.inl rfl,
   fun b hb=>⟨Nat.ne_of_lt (Nat.lt_of_lt_of_le (fpl b hb) hC),fun x c e z=>(hf b hb).2.2.2.2.1 x c (cget x c e) z⟩,I.bs,Nat.le_trans I.ok.bsz I.sz,fun b o e hb=>?_,fpst,I.stack,I.stkFree⟩
  ·have q:=S.okAt (S.freeOf (C:=C) hx)
   have q1:((cl.lookup x).isSome && (X.env.scope.names.lookup x == some .cell || X.env.scope.names.lookup x == some .free))=true:=q
   rw[Bool.and_eq_true] at q1
   exact Option.isSome_iff_exists.mp q1.1
  ·rcases (hf b hb).2.2.2.1 with z | z
   ·exact I.ok.noex b o e z
   ·exact absurd (Nat.lt_of_lt_of_le (Heap.lt_size e) (Nat.le_trans I.ok.bsz z)) (Nat.lt_irrefl _)
 have nst:D∉frs X.stack:=fun z=>by
  rcases List.mem_cons.mp (I.stkSub D z) with e | e
  ·exact absurd (Nat.lt_of_lt_of_le (e ▸ I.lt) hD) (Nat.lt_irrefl _)
  ·exact I.nofs hD e
 refine⟨ok,rfl,I.bare,Un.kept old,⟨m,hn,fun i x v h1 h2 h3=>?_⟩,fun x c e=>?_,I.hok.fresh hC,fun x c e=>I.freeC x c (cget x c e),fun p hp=>?_,I.hok.kept old,?_,ht⟩
 ·have hlen:=I.len
  have h1':(X.N++vars)[i]? = some x:=h1
  by_cases hi:i < σ.length
  ·rw[List.getElem?_append_left (by omega)] at h1'
   rw[List.getElem?_append_left hi] at h2
   have inN:X.N.contains x=true:=by
    rw[List.contains_iff_exists_mem_beq]
    exact⟨x,List.mem_of_getElem? h1',by simp⟩
   have hk:(compEnvC scope cl C X.env).kindOf x=some .cell\/(compEnvC scope cl C X.env).kindOf x=some .free:=by
    rcases h3 with h3 | h3
    ·have q:=S.okAt (S.localOf (C:=C) h3)
     have q1:(x == (".0" : Str) || vars.contains x)=true:=q
     rw[Bool.or_eq_true] at q1
     rcases q1 with q1 | q1
     ·have e0:x=(".0" : Str):=eq_of_beq q1
      rw[e0,S.zero] at inN
      cases inN
     ·have q2:=List.all_eq_true.mp S.dis x (by simpa using q1)
      rw[inN] at q2
      cases q2
    ·exact h3
   have q:=S.okAt (S.freeOf (C:=C) hk)
   have q1:((cl.lookup x).isSome && (X.env.scope.names.lookup x == some .cell || X.env.scope.names.lookup x == some .free))=true:=q
   rw[Bool.and_eq_true,Bool.or_eq_true] at q1
   obtain⟨c,hc⟩:=Option.isSome_iff_exists.mp q1.1
   have ho:X.env.scope.names.lookup x=some .cell\/X.env.scope.names.lookup x=some .free:=by
    rcases q1.2 with z | z
    ·exact .inl (eq_of_beq z)
    ·exact .inr (eq_of_beq z)
   obtain⟨m0,_,hl⟩:=I.loc
   obtain⟨u,r,l⟩:=hl i x v h1' h2 (.inr ho)
   refine⟨u,r,.inr ⟨hk,c,hc,?_⟩⟩
   rcases l with ⟨l1,_⟩ | ⟨_,c',e',o,eo,ed⟩
   ·have l2:X.env.scope.names.lookup x=some .local:=l1
    rcases ho with z | z
    ·rw[l2] at z;cases z
    ·rw[l2] at z;cases z
   ·rw[cget x c hc] at e'
    cases e'
    exact⟨o,old _ _ eo,ed⟩
  ·rw[List.getElem?_append_right (by omega),List.getElem?_replicate] at h2
   split at h2<;>cases h2
 ·obtain⟨v,o,eo,ed⟩:=I.cell x c (cget x c e)
  exact⟨v,o,old _ _ eo,ed⟩
 ·have e:p=(D,oD):=by simpa using hp
  subst e
  exact⟨eD,I.hok.fresh hD,hDC,nst,cD⟩
 ·show (σ++List.replicate vars.length none).length=(X.N++vars).length
  rw[List.length_append,List.length_append,List.length_replicate,I.len]
end
def Qj (X:Cx) (ifs:List Expr) (t:TT):Prop :=
 ∀ (pins:List (Addr×Obj)) (s:Shared) (σ:St) (H:Hp) (Q:Bool->Hp->Prop),Inv X pins σ H s->t σ H Q ->
  wpAny (model X.prog X.w) X.A (forIn ifs true fun c r=>if r=true then do let ok <- isTrue c X.env (eval c X.env);pure (ForInStep.yield ok) else pure (ForInStep.yield r)) (TP X pins σ Q) X.xe s
def qc:TT:=fun _ H Q=>Q true H
theorem zMo {X:Cx}:Qj X [] qc:=fun _ _ _ H _ I h=>wpAny_tests_nil ⟨H,I,h⟩
theorem zLp {X:Cx}{c:Expr}{t:TT} (h:PT X c t):Qj X [c] t:=fun pins s σ H Q I hw=>wpAny_tests_one (h pins s σ H Q I hw)
def Wk (σ σ':St):Prop:=σ.length=σ'.length/\∀ (i:Nat) v,σ[i]? = some (some v)->σ'[i]? = some (some v)
def zGI (n:Nat) (wi:TI) (g:TG) (ti:TT) (te:TE):TE:=fun σ H Q=>wi σ H fun J H1=>∃ W:Nat->Nat->List V->Hp->Prop,(∃ m,W 0 m [] H1)/\∀ i m ys H2,W i m ys H2->ys.length <= sizeLine /\
 ((J.stop i H2/\∀ D,H2 D=none->Q (.ref D) (upd H2 D (.lst ys))) \/
  (J.go i H2/\∀ x H3,J.yld i H2 x H3->g x (σ++List.replicate n none) H3 fun σ2 H4=>Wk (σ++List.replicate n none) σ2/\ti σ2 H4 fun b H5 =>
   if b=true then te σ2 H5 fun y H6=>∃ m',m' < m/\W (i+1) m' (ys++[y]) H6 else ∃ m',m' < m/\W (i+1) m' ys H5))
theorem Inv.track {X:Cx}{pins:List (Addr×Obj)}{σ:St}{H:Hp}{s:Shared}{D:Addr}{o:HO} (I:Inv X pins σ H s) (hD:X.s₀.heap.objs.size <= D) (hn:H D=none) (hL:D≠X.env.locals)
  (hcl:∀ x c,X.env.cells.lookup x=some c->c≠D) (hp:∀ p∈X.pn++pins,p.1≠D) (new:jr X.prog X.w (upd H D o) s.heap D o):Inv X pins σ (upd H D o) s:=by
 have ne:∀ {b u},H b=some u->b≠D:=fun e z=>by rw[z,hn] at e;cases e
 refine⟨I.ok,I.os,I.bare,⟨I.base.keep,I.base.slot,fun b ob e n hx=>?_,I.base.there,fun b xs e=>?_,fun b ob u e=>?_,fun b ps e=>?_⟩,I.loc,I.cell,?_,fun x c e=>?_,fun p hp'=>?_,fun b u e=>?_,I.len,I.tk⟩
 ·rw[zk (Nat.ne_of_lt (Nat.lt_of_lt_of_le (Heap.lt_size e) hD))]
  exact I.base.free b ob e n hx
 ·have q:=I.base.tups b xs e
  rw[zk (ne q)];exact q
 ·have q:=I.base.frzs b ob u e
  rw[zk (ne q)];exact q
 ·obtain⟨mo,q⟩:=I.base.tbls b ps e
  exact⟨mo,by rw[zk (ne q)];exact q⟩
 ·rw[zk (Ne.symm hL)];exact I.free
 ·rw[zk (hcl x c e)];exact I.freeC x c e
 ·obtain⟨e1,e2,e3,e4,e5⟩:=I.pin p hp'
  exact⟨e1,by rw[zk (hp p hp')];exact e2,e3,e4,e5⟩
 ·by_cases hb:b=D
  ·subst hb;rw[jM] at e;cases e;exact new
  ·rw[zk hb] at e
   exact (I.hok b u e).stay (fun _ _ _ q=>q) (fun c q=>by rw[zk (ne q)];exact q) fun c xs q=>by rw[zk (ne q)];exact q
abbrev zB6 (us:List Value) (n:Nat):Obj:={ cls:=.type "list",data:=.seq us.toArray n }
section
variable {X:Cx}{vars:List Str}{scope:Scope}{cl:List (Str×Addr)}{C D it:Addr}{fp:List Addr}{s₂:Shared}{H₂:Hp}{tg elt iter:Expr}{ifs:List Expr}{pos:Pos}{J:It}{tn:Nat->Heap->Prop}
 {g:TG}{ti:TT}{te:TE}{R:Result->Shared->Prop}
theorem zJ5 (hc:X.calm=true) (T:zBM X.prog X.w X.K tg J fp it tn) (hg:PG (zu X vars scope cl C fp s₂ H₂) tg g) (hi:Qj (zu X vars scope cl C fp s₂ H₂) ifs ti) (he:PE (zu X vars scope cl C fp s₂ H₂) elt te)
  {σ0:St} (W:Nat->Nat->List V->Hp->Prop) {F:List V->Hp->Prop} (hD0:s₂.heap.objs.size <= D) (hDC:D≠C) (hDs:D∉frs X.stack) (hDc:∀ x c,cl.lookup x=some c->c≠D)
  (hS:∀ b∈fp,b≠C/\b∉frs X.stack/\(∀ x c,cl.lookup x=some c->c≠b)/\D≠b)
  (turn:∀ i m ys H2,W i m ys H2->ys.length <= sizeLine/\((J.stop i H2/\F ys H2) \/
   (J.go i H2/\∀ x H3,J.yld i H2 x H3->g x σ0 H3 fun σ2 H4=>Wk σ0 σ2/\ti σ2 H4 fun b H5 =>
    if b=true then te σ2 H5 fun y H6=>∃ m',m' < m/\W (i+1) m' (ys++[y]) H6 else ∃ m',m' < m/\W (i+1) m' ys H5)))
  (hR:∀ s' ys us n H2,Inv (zu X vars scope cl C fp s₂ H₂) [(D,zB6 us n)] σ0 H2 s'->zh ys us->ys.length <= sizeLine->F ys H2->R (.ok .next) s')
  {s:Shared}{m0:Nat}{n0:Nat}{H0:Hp} (I0:Inv (zu X vars scope cl C fp s₂ H₂) [(D,zB6 [] n0)] σ0 H0 s) (st0:tn 0 s.heap) (f0:∀ b∈fp,H0 b=none) (w0:W 0 m0 [] H0) :
  codeAny (model X.prog X.w) X.A (.compLoop (.ListComp elt [⟨tg,iter,ifs,0⟩] scope pos) 0 (.ref it) (.ref D) (compEnvC scope cl C X.env)) R s:=by
 have stat:∀ {H':Hp}{o:Obj},(∀ b∈fp,H' b=none)->∀ b∈fp,zBC (zu X vars scope cl C fp s₂ H₂) [(D,o)] H' b:=fun {H' o} hn b hb =>
  ⟨hn b hb,(hS b hb).1,(hS b hb).2.1,.inl hb,(hS b hb).2.2.1,fun p hp=>by
   have e:p=(D,o):=by simpa using hp
   subst e
   exact (hS b hb).2.2.2⟩
 refine codeAny_loop rfl (fun n s=>∃ i ys us nn H',Inv (zu X vars scope cl C fp s₂ H₂) [(D,zB6 us nn)] σ0 H' s/\zh ys us/\tn i s.heap/\(∀ b∈fp,H' b=none)/\W i n ys H') (fun n s hI=>?_) m0 ⟨0,[],[],n0,H0,I0,.nil,st0,f0,w0⟩
 show wpAny _ X.A ((compTurn (.ListComp elt [⟨tg,iter,ifs,0⟩] scope pos) 0 (.ref it) (.ref D) (compEnvC scope cl C X.env)).onRaise (fun x=>do noteFrame x (compEnvC scope cl C X.env);theTreesLotGoes x)) _ _ s
 refine wpAny_noted ?_
 rw[compTurn_list]
 obtain⟨i,ys,us,nn,H',I,rv,st,fr,w⟩:=hI
 obtain⟨hz,tt⟩:=turn i n ys H' w
 refine wpAny_bind (wpAny_standAt (wpAny_bind ?_))
 rcases tt with ⟨stop,q⟩ | ⟨go,q⟩
 ·refine wpAny_mono (T.done (zu X vars scope cl C fp s₂ H₂) rfl rfl rfl hc i _ s σ0 H' _ I (stat fr) st stop) (fun r s1 ⟨hr,I1⟩=>?_) (fun _ _ e=>e)
  subst hr
  exact wpAny_pure (hR s1 ys us nn H' I1 rv hz q)
 ·refine wpAny_mono (T.item (zu X vars scope cl C fp s₂ H₂) rfl rfl rfl hc i _ s σ0 H' _ I (stat fr) st go) (fun r s1 ⟨u,hr,h1⟩=>?_) (fun _ _ e=>e)
  subst hr
  refine wpAny_bind (wpAny_mono h1 (fun _ s2 ⟨x,H3,I3,r3,y3,st3,fr3⟩=>?_) (fun _ _ e=>e))
  have I3':=I3.pinned (stat fr3) (T.obj _ _ st3)
  refine wpAny_bind (wpAny_mono (hg _ s2 σ0 H3 x u _ I3' r3 (q x H3 y3)) (fun _ s3 ⟨σ4,H4,I4,wk,q4⟩=>?_) (fun _ _ f=>False.elim f))
  refine wpAny_bind (wpAny_mono (hi _ s3 σ4 H4 _ I4 q4) (fun b s4 ⟨H5,I5,q5⟩=>?_) (fun _ _ f=>False.elim f))
  have back:∀ {s7:Shared}{H7:Hp}{o:Obj},Inv (zu X vars scope cl C fp s₂ H₂) ((D,o)::Qn fp s2.heap) σ4 H7 s7->tn (i+1) s7.heap/\∀ b∈fp,H7 b=none:=fun {s7 H7 o} I7=>by
   refine⟨T.keep _ _ _ st3 fun b hb ob e=>(I7.pin (b,ob) (List.mem_append_right _ (List.mem_cons_of_mem _ (zAT hb e)))).1,fun b hb=>?_⟩
   obtain⟨ob,e,d⟩:=T.obj _ _ st3 b hb
   exact (I7.pin (b,ob) (List.mem_append_right _ (List.mem_cons_of_mem _ (zAT hb e)))).2.1
  have one:∀ {s7:Shared}{H7:Hp}{o:Obj},Inv (zu X vars scope cl C fp s₂ H₂) ((D,o)::Qn fp s2.heap) σ4 H7 s7->Inv (zu X vars scope cl C fp s₂ H₂) [(D,o)] σ0 H7 s7:=fun {s7 H7 o} I7 =>
   (I7.pins_of (pins':=[(D,o)]) fun p hp=>by
    have e:p=(D,o):=by simpa using hp
    subst e
    exact I7.pin (D,o) (List.mem_append_right _ List.mem_cons_self)).weak wk.1 wk.2
  cases b with
  | false =>
   obtain⟨m',hm,w'⟩:=q5
   obtain⟨b1,b2⟩:=back I5
   exact wpAny_pure ⟨rfl,m',hm,i+1,ys,us,nn,H5,one I5,rv,b1,b2,w'⟩
  | true =>
   refine wpAny_bind (wpAny_bind (wpAny_mono (he _ s4 σ4 H5 _ I5 q5) (fun v s5 ⟨y,H6,I6,r6,q6⟩=>?_) (fun _ _ f=>False.elim f)))
   obtain⟨m',hm,w'⟩:=q6
   obtain⟨eD,nD,_,_,_⟩:=I6.pin (D,zB6 us nn) (List.mem_append_right _ List.mem_cons_self)
   have hul:us.toArray.size <= sizeLine:=by rw[List.size_toArray,<- rv.length];exact hz
   refine wpAny_bind (wpAny_list_append_plain (hsz:=hul) ⟨nn,eD⟩ fun h' hp hs=>wpAny_pure (wpAny_pure ⟨rfl,?_⟩))
   obtain⟨n',hp⟩:=hp
   have hp':h'.get? D=some (zB6 (us++[v]) n'):=by rw[hp];simp
   have I7:Inv (zu X vars scope cl C fp s₂ H₂) (Qn fp s2.heap) σ4 H6 { s5 with heap:=h',toks:=s5.toks }:=by
    refine Inv.turned (it:=D) (I6.pins_of (pins':=Qn fp s2.heap) fun p hp=>I6.pin p (List.mem_append_right _ (List.mem_cons_of_mem _ hp))) (fun b o hb e=>(hs.2 b hb).trans e) nD hDC (.inr hD0) (fun x c e=>hDc x c e) fun p hp=>?_
    have hp2:p∈Qn fp s2.heap:=by simpa using hp
    exact Ne.symm (hS p.1 (zFu hp2).1).2.2.2
   have I8:Inv (zu X vars scope cl C fp s₂ H₂) ((D,zB6 (us++[v]) n')::Qn fp s2.heap) σ4 H6 { s5 with heap:=h',toks:=s5.toks }:=I7.pins_of fun p hp=>by
    rcases List.mem_cons.mp hp with rfl | hp
    ·exact⟨hp',nD,hDC,hDs,fun v z=>by cases z⟩
    ·exact I7.pin p (List.mem_append_right _ hp)
   obtain⟨b1,b2⟩:=back I8
   exact⟨m',hm,i+1,ys++[y],us++[v],n',H6,one I8,rv.append (.cons r6 .nil),b1,b2,w'⟩
end
section
variable {X:Cx}{vars:List Str}{scope:Scope}{cl:List (Str×Addr)}{tg elt iter:Expr}{ifs:List Expr}{pos:Pos}{wi:TI}{g:TG}{ti:TT}{te:TE}
theorem zDx (hc:X.calm=true) (S:ji X vars scope cl) (hg:∀ C fp s₂ H₂,PG (zu X vars scope cl C fp s₂ H₂) tg g) (ht:∀ C fp s₂ H₂,Qj (zu X vars scope cl C fp s₂ H₂) ifs ti)
  (he:∀ C fp s₂ H₂,PE (zu X vars scope cl C fp s₂ H₂) elt te) {pins:List (Addr×Obj)}{σ:St}{s2:Shared}{E:Value->Shared->Prop}{F:Addr->Hp->Prop}{RR:Value->Addr->Result->Shared->Prop}{itv:Value}
  (h2:PIE X pins σ tg (fun J H1=>∃ W:Nat->Nat->List V->Hp->Prop,(∃ m,W 0 m [] H1)/\∀ i m ys H2,W i m ys H2->ys.length <= sizeLine /\
   ((J.stop i H2/\∀ D,H2 D=none->F D (upd H2 D (.lst ys))) \/
    (J.go i H2/\∀ x H3,J.yld i H2 x H3->g x (σ++List.replicate vars.length none) H3 fun σ2 H4=>Wk (σ++List.replicate vars.length none) σ2/\ti σ2 H4 fun b H5 =>
     if b=true then te σ2 H5 fun y H6=>∃ m',m' < m/\W (i+1) m' (ys++[y]) H6 else ∃ m',m' < m/\W (i+1) m' ys H5))) itv s2)
  (hRR:∀ D C s' H',(∃ m,s'.heap.Ns C m)->C≠X.env.locals->(∀ x c,X.env.cells.lookup x=some c->c≠C)->Inv X pins σ H' s'->(∀ (h':Heap),Heap.SameBut C s'.heap h'->∀ (s'':Shared),s''={ s' with heap:=h' }->Inv X pins σ H' s'') ->
   (∀ (σ':St) (s3:Shared),Inv X pins σ' H' s3->(∃ a,Heap.SameBut a s'.heap s3.heap/\(a=X.env.locals\/∃ x,X.env.cells.lookup x=some a))->∀ (h':Heap),Heap.SameBut C s3.heap h'->Inv X pins σ' H' { s3 with heap:=h' }) ->
   F D H'->RR (.ref D) C (.ok .next) s') :
  wpAny (model X.prog X.w) X.A (newList []) (fun acc s₃=>wpAny (model X.prog X.w) X.A (newFunctionEnv scope X.env.globals cl [] X.env.qual none .none (some X.env)) (fun cenv s₄ =>
   codeAny (model X.prog X.w) X.A (.compStart (.ListComp elt [⟨tg,iter,ifs,0⟩] scope pos) 0 itv acc { cenv with scope:=relabel scope X.env }) (RR acc cenv.locals) s₄) E s₃) E s2:=by
 obtain⟨it,fp,tn,J,H2,e,I2,T,st2,f2,W,⟨m0,w0⟩,turn⟩:=h2
 subst e
 refine wpAny_newObj_type (wpAny_newFunctionEnv S.noCell (by intro y hy;simp at hy) (fun h₁ hns₁ hsb₁=>?_) S.kind)
 dsimp only at hns₁ hsb₁ ⊢
 generalize hH2:s2.heap.push { cls:=.type "list",dict:=none,data:=.seq ([]:List Value).toArray }=P2 at hns₁ hsb₁ ⊢
 have hC:P2.objs.size=s2.heap.objs.size+1:=by rw[<- hH2,Heap.size_push]
 have hDC:s2.heap.objs.size≠P2.objs.size:=by rw[hC];exact Nat.ne_of_lt (Nat.lt_succ_self _)
 have hCle:s2.heap.objs.size <= P2.objs.size:=by rw[hC];exact Nat.le_succ _
 have below:∀ b,b < s2.heap.objs.size->b≠P2.objs.size/\b≠s2.heap.objs.size:=fun b hb=>⟨by rw[hC];exact Nat.ne_of_lt (Nat.lt_succ_of_lt hb),Nat.ne_of_lt hb⟩
 have old:∀ b o,s2.heap.get? b=some o->h₁.get? b=some o:=fun b o e=>hsb₁.extBut b o (below b (Heap.lt_size e)).1 (Heap.get?_push_of_some _ (hH2 ▸ Heap.get?_push_of_some _ e))
 have hacc:h₁.get? s2.heap.objs.size=some (zB6 [] 0):=hsb₁.extBut _ _ hDC (Heap.get?_push_of_some _ (hH2 ▸ Heap.get?_push_size _ rfl))
 have hst₁:tn 0 h₁:=T.keep _ _ _ st2 fun b _ o e=>old b o e
 have hob:∀ b∈fp,∃ o,s2.heap.get? b=some o:=fun b hb=>by
  obtain⟨o,e,_⟩:=T.obj _ _ st2 b hb
  exact⟨o,e⟩
 have fpl:∀ b∈fp,b < s2.heap.objs.size:=fun b hb=>by
  obtain⟨o,e⟩:=hob b hb
  exact Heap.lt_size e
 have cget:∀ x c,cl.lookup x=some c->X.env.cells.lookup x=some c:=fun x c e=>S.cells.get e
 have celt:∀ x c,X.env.cells.lookup x=some c->c < s2.heap.objs.size:=fun x c e=>by
  obtain⟨v,q⟩:=I2.cell x c e
  exact q.lt
 have pint:∀ p∈X.pn++pins,p.1 < s2.heap.objs.size:=fun p hp=>Heap.lt_size (I2.pin p hp).1
 have fpst:∀ b∈fp,b∉frs X.stack:=fun b hb z=>by
  rcases List.mem_cons.mp (I2.stkSub b z) with e | e
  ·exact (f2 b hb).2.1 e
  ·exact (f2 b hb).2.2.1 e
 have nst:s2.heap.objs.size∉frs X.stack:=fun z=>by
  rcases List.mem_cons.mp (I2.stkSub _ z) with e | e
  ·exact absurd (e ▸ I2.lt) (Nat.lt_irrefl _)
  ·exact I2.nofs (Nat.le_refl _) e
 have CL:P2.objs.size≠X.env.locals:=fun z=>absurd (Nat.lt_of_lt_of_le (z ▸ I2.lt) hCle) (Nat.lt_irrefl _)
 have CC:∀ x c,X.env.cells.lookup x=some c->c≠P2.objs.size:=fun x c e=>Nat.ne_of_lt (Nat.lt_of_lt_of_le (celt x c e) hCle)
 have CP:∀ p∈X.pn++pins,p.1≠P2.objs.size:=fun p hp=>Nat.ne_of_lt (Nat.lt_of_lt_of_le (pint p hp) hCle)
 have loop:∀ s₃:Shared,s₃={ s2 with heap:=h₁,toks:=s2.toks+([]:List (Str×Value)).length } ->
   codeAny (model X.prog X.w) X.A (.compLoop (.ListComp elt [⟨tg,iter,ifs,0⟩] scope pos) 0 (.ref it) (.ref s2.heap.objs.size) (compEnvC scope cl P2.objs.size X.env)) (RR (.ref s2.heap.objs.size) P2.objs.size) s₃:=by
  rintro s₃ rfl
  have I0:Inv (zu X vars scope cl P2.objs.size fp s2 H2) [(s2.heap.objs.size,zB6 [] 0)] (σ++List.replicate vars.length none) H2 { s2 with heap:=h₁,toks:=s2.toks+([]:List (Str×Value)).length } :=
   zIw I2 S f2 hob (Nat.le_refl _) hCle hDC hacc (fun v z=>by cases z) hns₁ old
  refine zJ5 hc T (hg _ _ _ _) (ht _ _ _ _) (he _ _ _ _) (D:=s2.heap.objs.size) W (F:=fun ys H'=>∀ D,H' D=none->F D (upd H' D (.lst ys))) (Nat.le_refl _) hDC nst (fun x c e=>Nat.ne_of_lt (celt x c (cget x c e)))
   (fun b hb=>⟨(below b (fpl b hb)).1,fpst b hb,fun x c e z=>(f2 b hb).2.2.2.2.1 x c (cget x c e) z,Nat.ne_of_gt (fpl b hb)⟩) turn ?_ I0 hst₁ (fun b hb=>(f2 b hb).1) w0
  intro s' ys us n H' I' rv hz q
  obtain⟨eD,nD,_,_,_⟩:=I'.pin (s2.heap.objs.size,zB6 us n) (List.mem_append_right _ List.mem_cons_self)
  have J1:Inv X pins σ H' s':=I2.call' I'.os I'.base I'.hok I'.bare (fun b hb=>⟨(f2 b hb).2.2.2.1,(f2 b hb).2.1,(f2 b hb).2.2.2.2.1,(f2 b hb).2.2.2.2.2⟩) I'.tk
  have J2:Inv X pins σ (upd H' s2.heap.objs.size (.lst ys)) s':=J1.track I2.sz nD (fun z=>absurd (z ▸ I2.lt) (Nat.lt_irrefl _)) (fun x c e=>Nat.ne_of_lt (celt x c e)) (fun p hp=>Nat.ne_of_lt (pint p hp)) ⟨hz,us,n,rv,eD⟩
  have nC:upd H' s2.heap.objs.size (.lst ys) P2.objs.size=none:=by
   rw[zk (Ne.symm hDC)]
   exact I'.free
  refine hRR _ _ s' _ ?_ CL CC J2 (fun h' hs s'' e=>?_) (fun σ' s3 I3 _ h' hs=>?_) (q _ nD)
  ·obtain⟨m,hn,_⟩:=I'.loc
   exact⟨m,hn⟩
  ·subst e
   exact J2.turned (t':=s'.toks) (it:=P2.objs.size) (fun b o hb e=>(hs.2 b hb).trans e) nC CL (.inr (Nat.le_trans I2.sz hCle)) CC CP
  ·exact I3.turned (t':=s3.toks) (it:=P2.objs.size) (fun b o hb e=>(hs.2 b hb).trans e) nC CL (.inr (Nat.le_trans I2.sz hCle)) CC CP
 exact codeAny_compStart_list (loop _ rfl) (T.self _ 0 _ _ _ hst₁ (loop _ rfl))
theorem zFD (hc:X.calm=true) (S:ji X vars scope cl) (hi:PI X tg iter wi) (hg:∀ C fp s₂ H₂,PG (zu X vars scope cl C fp s₂ H₂) tg g) (ht:∀ C fp s₂ H₂,Qj (zu X vars scope cl C fp s₂ H₂) ifs ti)
  (he:∀ C fp s₂ H₂,PE (zu X vars scope cl C fp s₂ H₂) elt te) (hs:∀ x,foldedSetIterable iter X.env x=pure x:=by intro _;rfl):PE X (.ListComp elt [⟨tg,iter,ifs,0⟩] scope pos) (zGI vars.length wi g ti te):=by
 intro pins s σ H Q I h
 rw[eval_ListComp]
 refine wpAny_comprehension_free (use:=none) rfl hs S.clos S.kind S.names (thn (hi pins s σ H _ I h) fun v s1 h1=>thn h1 fun itv s2 h2=>?_)
 refine zDx hc S hg ht he (F:=fun D H'=>Q (.ref D) H') h2 fun D C s' H' hn hCL hCC J2 J3 _ q=>?_
 obtain⟨m,hn⟩:=hn
 exact⟨m,hn,fun h' hs'=>⟨.ref D,H',J3 h' hs' _ rfl,rfl,q⟩⟩
theorem zI0 {i:Nat}{y:Str}{py spos:Pos} (hc:X.calm=true) (S:ji X vars scope cl) (hN:X.N.Nodup) (hiy:X.N[i]? = some y) (hy:Loc X.env.scope y) (hi:PI X tg iter wi)
  (hg:∀ C fp s₂ H₂,PG (zu X vars scope cl C fp s₂ H₂) tg g) (ht:∀ C fp s₂ H₂,Qj (zu X vars scope cl C fp s₂ H₂) ifs ti)
  (he:∀ C fp s₂ H₂,PE (zu X vars scope cl C fp s₂ H₂) elt te) (hs:∀ x,foldedSetIterable iter X.env x=pure x:=by intro _;rfl)
  (hsw:swapsWith (.ListComp elt [⟨tg,iter,ifs,0⟩] scope pos) (some (.Name y py)) spos.line X.env=pure true:=by rfl)
  (hf:X.fn y=true\/X.env.scope.names.lookup y=some .local:=by first | exact .inl rfl | exact .inr rfl | assumption) :
  PS X (.Assign [.Name y py] (.ListComp elt [⟨tg,iter,ifs,0⟩] scope pos) spos) (zLa (zGI vars.length wi g ti te) (zK i)):=by
 intro pins s σ H D0 I h
 rw[exec_Assign_Name_used _ _ _ _ hsw]
 refine wpAny_bind (wpAny_standAt (wpAny_bind ?_))
 show wpAny _ X.A (do let _ <- comprehension (.ListComp elt [⟨tg,iter,ifs,0⟩] scope pos) scope X.env _ (newList []) false (eval iter X.env) (some (assign (.Name y py) X.env))) _ _ s
 refine wpAny_bind (wpAny_mono (wpAny_comprehension_free (use:=some (assign (.Name y py) X.env)) (Q:=fun _ s'=>SP X pins D0 .next s') rfl hs S.clos S.kind S.names
  (thn (hi pins s σ H _ I h) fun v s1 h1=>thn h1 fun itv s2 h2=>?_)) (fun _ s' hq=>wpAny_pure (wpAny_pure hq)) fun _ _ e=>e)
 refine zDx hc S hg ht he (F:=fun D H'=>D0.nx (σ.set i (some (.ref D))) H') h2 fun D C s' H' hn hCL hCC J2 _ J4 q=>?_
 obtain⟨m,hn⟩:=hn
 show wpAny _ X.A (assign (.Name y py) X.env (.ref D)) _ _ _
 refine wpAny_assign_Name (zFg J2 hN hiy hy (v:=.ref D) rfl (fun s3 I3 ⟨a,hsb,ha⟩=>?_) hf)
 have hCa:C≠a:=by
  rcases ha with rfl | ha
  ·exact hCL
  ·exact Ne.symm (hCC y a ha)
 refine⟨m,hn.sameBut hsb hCa,fun h' hs'=>⟨σ.set i (some (.ref D)),H',J4 _ s3 I3 ⟨a,hsb,?_⟩ h' hs',q⟩⟩
 rcases ha with rfl | ha
 ·exact .inl rfl
 ·exact .inr ⟨y,ha⟩
end
end L2
namespace L2
open PySem PySem.Spec PyProof.Rows
def Its (z:Str):It:=⟨fun i _=>i < z.length,fun i H x H'=>H'=H/\∃ c,z.cps[i]? = some c/\x=.str ⟨#[c]⟩,fun i _=>z.length <= i⟩
theorem zKn {P:Program}{w:World}{K:PySem.W.Frag}{tg:Expr} (it:Addr) (z:Str) (t:Tok):zBM P w K tg (Its z) [it] it (fun i h=>h.IsStrIter it "str_ascii_iterator" z t i) where
 mem:=by simp
 obj:=fun i h st b hb=>by
  have e:b=it:=by simpa using hb
  subst e
  obtain⟨o,e,c,d⟩:=st
  exact⟨o,e,fun v z=>by rw[d] at z;cases z⟩
 keep:=fun i h h' st k=>let ⟨o,ho,r⟩:=st;⟨o,k it (by simp) o ho,r⟩
 item:=by
  intro X hP hw hK hc i pins s σ H E I hf st hg
  subst hP hw hK
  obtain⟨f0,f1,f2,f3,f4,f5⟩:=hf it (by simp)
  have hlt:i < z.cps.size:=hg
  refine wpAny_pyNext_ascii_item st (c:=z.cps[i]) (by simp[hlt]) fun h' st' sb=>?_
  have I1:Inv X pins σ H { s with heap:=h',toks:=s.toks+1 }:=I.turned (fun b o hb e=>(sb.2 b hb).trans e) f0 f1 f3 f4 f5
  obtain⟨o,e,c,d⟩:=id st'
  exact⟨_,rfl,zCw (s:={ s with heap:=h',toks:=s.toks+1 }) e c d (by decide) ⟨.str ⟨#[z.cps[i]]⟩,H,I1,⟨_,rfl⟩,⟨rfl,z.cps[i],by simp[hlt],rfl⟩,st',fun b hb=>(hf b hb).1⟩⟩
 done:=by
  intro X hP hw hK hc i pins s σ H E I hf st hg
  subst hP hw hK
  obtain⟨f0,f1,f2,f3,f4,f5⟩:=hf it (by simp)
  have hle:z.cps.size <= i:=hg
  exact wpAny_pyNext_ascii_end (I.ok.hd hc) st (by simp[hle]) fun h' eb=>⟨rfl,I.turned (t':=s.toks) (fun b o hb e=>eb b o hb e) f0 f1 f3 f4 f5⟩
 self:=fun _ _ _ _ _ st h=>wpAny_pyIter_striter_ascii st h
theorem zJ3 {P:Program}{w:World}{K:PySem.W.Frag}{tg:Expr} (it:Addr) (z:Str) (t:Tok):zBM P w K tg (Its z) [it] it (fun i h=>h.IsStrIter it "str_iterator" z t i) where
 mem:=by simp
 obj:=fun i h st b hb=>by
  have e:b=it:=by simpa using hb
  subst e
  obtain⟨o,e,c,d⟩:=st
  exact⟨o,e,fun v z=>by rw[d] at z;cases z⟩
 keep:=fun i h h' st k=>let ⟨o,ho,r⟩:=st;⟨o,k it (by simp) o ho,r⟩
 item:=by
  intro X hP hw hK hc i pins s σ H E I hf st hg
  subst hP hw hK
  obtain⟨f0,f1,f2,f3,f4,f5⟩:=hf it (by simp)
  have hlt:i < z.cps.size:=hg
  refine wpAny_pyNext_wide_item st (c:=z.cps[i]) (by simp[hlt]) fun h' st' sb=>?_
  have I1:Inv X pins σ H { s with heap:=h',toks:=s.toks+1 }:=I.turned (fun b o hb e=>(sb.2 b hb).trans e) f0 f1 f3 f4 f5
  obtain⟨o,e,c,d⟩:=id st'
  exact⟨_,rfl,zCw (s:={ s with heap:=h',toks:=s.toks+1 }) e c d (by decide) ⟨.str ⟨#[z.cps[i]]⟩,H,I1,⟨_,rfl⟩,⟨rfl,z.cps[i],by simp[hlt],rfl⟩,st',fun b hb=>(hf b hb).1⟩⟩
 done:=by
  intro X hP hw hK hc i pins s σ H E I hf st hg
  subst hP hw hK
  obtain⟨f0,f1,f2,f3,f4,f5⟩:=hf it (by simp)
  have hle:z.cps.size <= i:=hg
  exact wpAny_pyNext_wide_end (I.ok.hd hc) st (by simp[hle]) fun h' eb=>⟨rfl,I.turned (t':=s.toks) (fun b o hb e=>eb b o hb e) f0 f1 f3 f4 f5⟩
 self:=fun _ _ _ _ _ st h=>wpAny_pyIter_striter_wide st h
def zQ3 (tl:TE):TI:=fun σ H R=>tl σ H fun x H1=>∃ z,x=.str z/\R (Its z) H1
theorem zPY {X:Cx}{tg l:Expr}{tl:TE} (hl:PE X l tl):PI X tg l (zQ3 tl):=by
 intro pins s σ H R I h
 refine thn (hl pins s σ H _ I h) fun v s1 ⟨x,H1,I1,r1,q1⟩=>?_
 obtain⟨z,e,q⟩:=q1
 subst e
 obtain⟨t,rfl⟩:=r1
 have fin:∀ b∈[s1.heap.objs.size],zBC X pins H1 b:=fun b hb=>by
  have e:b=s1.heap.objs.size:=by simpa using hb
  subst e
  exact I1.fpOk (Nat.le_refl _) (I1.hok.fresh (Nat.le_refl _))
 cases ha:z.cps.all (· < 128)
 ·refine wpAny_pyIter_wide ha ?_
  exact⟨s1.heap.objs.size,[s1.heap.objs.size],_,Its z,H1,rfl,I1.kept (t':=s1.toks) fun b o e=>Heap.get?_push_of_some _ e,zJ3 _ z t,⟨_,Heap.get?_push_size _ rfl,rfl,rfl⟩,fin,q⟩
 ·refine wpAny_pyIter_ascii ha ?_
  exact⟨s1.heap.objs.size,[s1.heap.objs.size],_,Its z,H1,rfl,I1.kept (t':=s1.toks) fun b o e=>Heap.get?_push_of_some _ e,zKn _ z t,⟨_,Heap.get?_push_size _ rfl,rfl,rfl⟩,fin,q⟩
section
variable {X:Cx}
def zEg (z:Str) (lo hi:Option Int):Str:=⟨((z.cps.toList.drop (HT.sIx z.length 0 lo)).take (HT.sIx z.length z.length hi - HT.sIx z.length 0 lo)).toArray⟩
theorem zHa (lo hi:Option Int) (n:Nat):Builtin.Str.strSliceIndices lo hi 1 n=(List.range (HT.sIx n n hi - HT.sIx n 0 lo)).map fun k=>HT.sIx n 0 lo+k:=by
 have clip:∀ v:Int,max 0 (min (if v < 0 then v+(n:Int) else v) (n:Int))=((HT.sIx n 0 (some v):Nat):Int)/\max 0 (min (if v < 0 then v+(n:Int) else v) (n:Int))=((HT.sIx n n (some v):Nat):Int):=fun v=>by
  unfold HT.sIx
  by_cases hv:v < 0
  ·simp only[if_pos hv];omega
  ·simp only[if_neg hv];omega
 have key:∀ a b:Nat,sliceRange (a:Int) (b:Int) 1=(List.range (b - a)).map fun k=>a+k:=fun a b=>by
  unfold sliceRange
  have hc:(if (1:Int) > 0 then (if (a:Int) < (b:Int) then ((b:Int) - a+1 - 1) / 1 else 0) else (if (a:Int) > (b:Int) then ((a:Int) - b - 1 - 1) / (-1) else 0)).toNat=b - a:=by
   rw[if_pos (by decide)]
   by_cases h:(a:Int) < (b:Int)
   ·rw[if_pos h,Int.ediv_one];omega
   ·rw[if_neg h];omega
  dsimp only
  rw[hc]
  refine List.map_congr_left fun k _=>?_
  omega
 unfold Builtin.Str.strSliceIndices
 cases lo with
 | none =>
  cases hi with
  | none=>exact key 0 n
  | some v =>
   simp only[show (1:Int) > 0 by decide,if_true]
   rw[(clip v).2]
   exact key 0 _
 | some u =>
  cases hi with
  | none =>
   simp only[show (1:Int) > 0 by decide,if_true]
   rw[(clip u).1]
   exact key _ n
  | some v =>
   simp only[show (1:Int) > 0 by decide,if_true]
   rw[(clip u).1,(clip v).2]
   exact key _ _
theorem zN3 {α:Type} (xs:Array α) (a m:Nat):((List.range m).map fun k=>a+k).filterMap (xs[·]?)=(xs.toList.drop a).take m:=by
 rw[List.filterMap_map]
 induction m generalizing a with
 | zero=>simp
 | succ m ih =>
  rw[List.range_succ,List.filterMap_append,ih,List.take_succ]
  congr 1
  simp only[List.filterMap_cons,List.filterMap_nil,Function.comp]
  rw[List.getElem?_drop,Array.getElem?_toList]
  cases xs[a+m]?<;>rfl
theorem zJy (z:Str) (lo hi:Option Int):Txt.slice z lo hi=zEg z lo hi:=by
 have h1:=HT.zGU z.length 0 (Nat.zero_le _) lo
 have h2:=HT.zGU z.length z.length (Nat.le_refl _) hi
 unfold Txt.slice zEg
 rw[zHa,zN3]
 split
 ·rename_i h
  rw[List.length_map,List.length_range] at h
  have h3:HT.sIx z.length z.length hi - HT.sIx z.length 0 lo=z.length:=by
   have h':=(Bool.and_eq_true_iff.mp h).2
   exact eq_of_beq h'
  have e1:HT.sIx z.length 0 lo=0:=by omega
  rw[h3,e1,List.drop_zero]
  have hl:z.cps.toList.length=z.length:=by simp[Str.length]
  rw[List.take_of_length_le (by omega)]
 ·rfl
def zQ7:V->Option Int->Option Int->Hp->VK->Prop:=fun x lo hi H Q=>∃ z,x=.str z/\z.length <= sizeLine/\Q (.str (zEg z lo hi)) H
theorem zOb:SlR X zQ7:=by
 intro pins s σ H x v vl vu lo hi sl Q I rx hs pl pu h
 obtain⟨z,rfl,hz,q⟩:=h
 obtain⟨t,rfl⟩:=rx
 refine⟨"str",_,F.slot_str_getitem.lookup,typeIs_str _ _ _,wpAny_with_toks (n:=1) I.tk ?_⟩
 obtain⟨o,ho,hc,hd⟩:=hs
 have fin:(Txt.slice z lo hi).length <= sizeLine/\∀ t' k,1 <= ({ s with toks:=k }:Shared).toks->EP X pins σ Q (.str (Txt.slice z lo hi) t') { s with toks:=k } :=
  ⟨Nat.le_trans (Txt.slice_le z lo hi) hz,fun t' k hk=>⟨.str (Txt.slice z lo hi),H,I.tok k hk,⟨_,rfl⟩,by rw[zJy];exact q⟩⟩
 cases pl with
 | none =>
  cases pu with
  | none=>exact wpAny_getItem_str_slice (l:=none) (u:=none) (st:=none) ⟨o,ho,hc,hd⟩ rfl (post_val_or_str fin)
  | int j uj=>exact wpAny_getItem_str_slice (l:=none) (u:=some (j,uj)) (st:=none) ⟨o,ho,hc,hd⟩ rfl (post_val_or_str fin)
 | int i ui =>
  cases pu with
  | none=>exact wpAny_getItem_str_slice (l:=some (i,ui)) (u:=none) (st:=none) ⟨o,ho,hc,hd⟩ rfl (post_val_or_str fin)
  | int j uj=>exact wpAny_getItem_str_slice (l:=some (i,ui)) (u:=some (j,uj)) (st:=none) ⟨o,ho,hc,hd⟩ rfl (post_val_or_str fin)
theorem zEa {ys:List Str}:∀ {us:List Value},zh (ys.map V.str) us->StrsAre us ys:=by
 induction ys with
 | nil=>intro us r;rw[List.map_nil] at r;cases r;exact .nil
 | cons y ys ih =>
  intro us r
  rw[List.map_cons] at r
  cases r with
  | cons r1 r2 =>
   obtain⟨t,e⟩:=r1
   subst e
   exact .cons y t (ih r2)
def zGH (K:PySem.W.Frag):V->List V->Hp->VK->Prop:=fun x vs H Q=>∃ z p ys,x=.str z/\vs=[.ref p]/\(SqL K H p (ys.map V.str)\/SqT K H p (ys.map V.str))/\(ys.map (·.length)).sum+ys.length * z.length <= 16777216/\Q (.str (Txt.join z ys)) H
theorem zOC:MtR X "str.join" (zGH X.K):=by
 intro pins s σ H x vs v us Q I rx rv h
 obtain⟨z,p,ys,rfl,rfl,hq,hz,q⟩:=h
 obtain⟨t,rfl⟩:=rx
 obtain⟨u,rfl,ru⟩:=Qd rv
 cases ru
 rcases hq with hq | hq
 ·obtain⟨its,r,pl,_⟩:=I.list hq
  exact wpAny_with_toks (n:=1) I.tk (join_list pl.isList (by simpa using zEa r) hz fun t' k hk=>⟨.str (Txt.join z ys),H,I.tok k hk,⟨_,rfl⟩,q⟩)
 ·obtain⟨its,r,pl,_⟩:=I.tuple hq
  exact wpAny_with_toks (n:=1) I.tk (join_tuple pl (by simpa using zEa r) hz fun t' k hk=>⟨.str (Txt.join z ys),H,I.tok k hk,⟨_,rfl⟩,q⟩)
end
end L2
namespace L2
open PySem PySem.Spec PyProof.Rows PySem.Builtin.Str
section
variable {X:Cx}
theorem zJn:OpR X (binaryOp .Mult) (fun x y H Q=>∃ z n,x=.str z/\y=.int n/\MulOk z n/\Q (.str (Txt.mul z n)) H):=by
 intro pins s σ H x y v u Q I rx ry h
 obtain⟨z,n,rfl,rfl,hm,q⟩:=h
 obtain⟨t,rfl⟩:=rx
 obtain⟨t',rfl⟩:=ry
 exact wpAny_with_toks (n:=1) I.tk (SB.mul hm fun t' k hk=>⟨.str _,H,I.tok k hk,⟨_,rfl⟩,q⟩)
theorem zLh {bs:List Bool}:∀ {us:List Value},zh (bs.map V.bl) us->us=bs.map Value.bool:=by
 induction bs with
 | nil=>intro us r;rw[List.map_nil] at r;cases r;rfl
 | cons b bs ih =>
  intro us r
  rw[List.map_cons] at r
  cases r with
  | cons r1 r2=>rw[ih r2];cases r1;rfl
theorem zEm (bs:List Bool):((List.range bs.length).all fun i=>bs.getD i false)=bs.all id:=by
 induction bs with
 | nil=>rfl
 | cons b bs ih =>
  rw[List.length_cons,List.range_succ_eq_map,List.all_cons,List.all_map,List.all_cons,<- ih]
  rfl
def zPh (K:PySem.W.Frag):List V->Hp->VK->Prop:=fun xs H Q=>∃ (p:Addr) (bs:List Bool),xs=[.ref p]/\SqL K H p (bs.map V.bl)/\Q (.bl (bs.all id)) H
theorem zGt (hc:X.calm=true):qQ X (.builtin "all") (zPh X.K):=by
 intro pins s σ H xs us Q I r h
 obtain⟨p,bs,rfl,hq,q⟩:=h
 obtain⟨u,rfl,ru⟩:=Qd r
 cases ru
 obtain⟨its,rv,pl,hz⟩:=I.list hq
 have e:=zLh rv
 subst e
 obtain⟨o,ho,ho2⟩:=pl.isList
 have hlt:p < s.heap.objs.size:=Heap.lt_size ho
 refine wpAny_with_toks (n:=1) I.tk (call_all_walk (wpAny_pyIter_list pl.isList ?_))
 refine⟨s.heap.objs.size,_,_,_,_,_,fun i=>bs.getD i false,rfl,Walks.list (show X.A.in1.handled=none from I.ok.hd hc) s.heap.objs.size p (Nat.ne_of_lt hlt) (bs.map Value.bool).toArray,⟨⟨_,Heap.get?_push_size _ rfl,rfl,rfl⟩,pl.isList.push _⟩,?_,fun h' tk hk htk=>?_⟩
 ·intro i v s' Q' E' hP hQ
  have hP':(bs.map Value.bool)[i]? = some v:=by simpa using hP
  rw[List.getElem?_map] at hP'
  cases hb:bs[i]? with
  | none=>rw[hb] at hP';cases hP'
  | some b =>
   rw[hb] at hP'
   cases hP'
   have e:bs.getD i false=b:=by simp[List.getD,hb]
   dsimp only at hQ
   rw[e] at hQ
   exact wpAny_truthy_bool hQ
 ·have hk':∀ b o,s.heap.get? b=some o->h'.get? b=some o:=fun b o e=>hk b o (by simpa using Nat.ne_of_lt (Heap.lt_size e)) (Heap.get?_push_of_some _ e)
  refine⟨.bl (bs.all id),H,I.kept hk' htk,?_,q⟩
  show Value.bool _=Value.bool _
  rw[<- zEm]
  simp
end
mutual
inductive qo (K:PySem.W.Frag) (H:Hp):V->PyData->Prop
 | non:qo K H .non .none
 | bl (b:Bool):qo K H (.bl b) (.bool b)
 | int (i:Int):qo K H (.int i) (.int i)
 | str (x:Str):qo K H (.str x) (.str x)
 | lst {p:Addr}{xs:List V}{ds:List PyData}:SqL K H p xs->QM K H xs ds->qo K H (.ref p) (.list ds)
 | tup {p:Addr}{xs:List V}{ds:List PyData}:SqT K H p xs->QM K H xs ds->qo K H (.ref p) (.tuple ds)
inductive QM (K:PySem.W.Frag) (H:Hp):List V->List PyData->Prop
 | nil:QM K H [] []
 | cons {v:V}{d:PyData}{vs:List V}{ds:List PyData}:qo K H v d->QM K H vs ds->QM K H (v::vs) (d::ds)
end
section
variable {X:Cx}{pins:List (Addr×Obj)}{σ:St}{H:Hp}{s:Shared}
mutual
theorem qo.reads (I:Inv X pins σ H s):∀ {v:V}{d:PyData}{u:Value},qo X.K H v d->zj v u->∃ as,Reads s.heap u d as
 | _,_,_,.non,r=>by cases r;exact⟨_,.none⟩
 | _,_,_,.bl b,r=>by cases r;exact⟨_,.bool b⟩
 | _,_,_,.int i,r=>by obtain⟨t,rfl⟩:=r;exact⟨_,.int i t⟩
 | _,_,_,.str x,r=>by obtain⟨t,rfl⟩:=r;exact⟨_,.str x t⟩
 | _,_,_,.lst hq ha,r=>by
  cases r
  obtain⟨its,rv,⟨o,n,e,hc,hd,hs⟩,_⟩:=I.list hq
  obtain⟨as,ra⟩:=QM.reads I ha rv
  exact⟨_,.list e hc hs (by simpa using ra)⟩
 | _,_,_,.tup hq ha,r=>by
  cases r
  obtain⟨its,rv,⟨o,e,hc,n,hs⟩,_⟩:=I.tuple hq
  obtain⟨as,ra⟩:=QM.reads I ha rv
  exact⟨_,.tuple e hc hs (by simpa using ra)⟩
theorem QM.reads (I:Inv X pins σ H s):∀ {vs:List V}{ds:List PyData}{us:List Value},QM X.K H vs ds->zh vs us->∃ as,ReadsAll s.heap us ds as
 | _,_,_,.nil,r=>by cases r;exact⟨_,.nil⟩
 | _,_,_,.cons h t,r=>by
  cases r with
  | cons r1 r2 =>
   obtain⟨as,ra⟩:=qo.reads I h r1
   obtain⟨bs,rb⟩:=QM.reads I t r2
   exact⟨_,.cons ra rb⟩
end
end
section
variable {X:Cx}
def zLq (K:PySem.W.Frag) (neg:Bool):R2:=fun x y H Q=>∃ d e,qo K H x d/\qo K H y e/\SeqAt.shaped d=true/\SeqAt.shaped e=true/\Q (.bl (if neg then !PyData.eqv d e else PyData.eqv d e)) H
theorem zPe {k:Nat} (hr:jb k X.A):OpR X (compareOp .Eq) (zLq X.K false):=by
 intro pins s σ H x y v u Q I rx ry h
 obtain⟨d,e,hd,he,sd,se,q⟩:=h
 obtain⟨as,ra⟩:=hd.reads I rx
 obtain⟨bs,rb⟩:=he.reads I ry
 exact eq_dataH ra rb sd se hr.units ⟨.bl _,H,I,rfl,q⟩
theorem zOQ {k:Nat} (hr:jb k X.A):OpR X (compareOp .NotEq) (zLq X.K true):=by
 intro pins s σ H x y v u Q I rx ry h
 obtain⟨d,e,hd,he,sd,se,q⟩:=h
 obtain⟨as,ra⟩:=hd.reads I rx
 obtain⟨bs,rb⟩:=he.reads I ry
 exact ne_dataH ra rb sd se hr.units ⟨.bl _,H,I,rfl,q⟩
where RelC:V->Value->Prop:=fun c cv=>(∃ n,c=.ty n/\cv=.type n)\/∃ a,c=.ref a/\cv=.ref a
end
end L2
namespace L2
open PySem PySem.Spec PyProof.Rows
section
variable {X:Cx}
def zPj:R2:=fun x y H Q=>match x,y with
 | .int i,.int j=>Q (.int (i+j)) H
 | .str a,.str b=>a.length+b.length <= sizeLine/\Q (.str (a++b)) H
 | .ref l,.ref b=>∃ xs zs,H l=some (.lst xs)/\H b=some (.lst zs)/\xs.length+zs.length <= sizeLine/\∀ p,H p=none->Q (.ref p) (upd H p (.lst (xs++zs)))
 | _,_=>False
theorem yF:OpR X (binaryOp .Add) zPj:=by
 intro pins s σ H x y v u Q I rx ry h
 cases x with
 | int i =>
  cases y with
  | int j=>exact zOP pins s σ H _ _ v u Q I rx ry ⟨i,j,rfl,rfl,h⟩
  | _=>exact False.elim h
 | str a =>
  cases y with
  | str b=>exact zJX pins s σ H _ _ v u Q I rx ry ⟨a,b,rfl,rfl,h⟩
  | _=>exact False.elim h
 | ref l =>
  cases y with
  | ref b =>
   obtain⟨xs,zs,h1,h2,h3,h4⟩:=h
   exact zPE pins s σ H _ _ v u Q I rx ry ⟨l,b,xs,zs,rfl,rfl,h1,h2,h3,h4⟩
  | _=>exact False.elim h
 | _=>exact False.elim h
def zO3:R2:=fun x y H Q=>match x,y with
 | .int i,.int j=>Q (.int (i - j)) H
 | _,_=>False
theorem zI6:OpR X (binaryOp .Sub) zO3:=by
 intro pins s σ H x y v u Q I rx ry h
 cases x with
 | int i =>
  cases y with
  | int j=>exact zOR pins s σ H _ _ v u Q I rx ry ⟨i,j,rfl,rfl,h⟩
  | _=>exact False.elim h
 | _=>exact False.elim h
def zPc:R2:=fun x y H Q=>match x,y with
 | .int i,.int j=>zJm i j/\Q (.int (i * j)) H
 | .str z,.int n=>MulOk z n/\Q (.str (Txt.mul z n)) H
 | _,_=>False
theorem zQJ:OpR X (binaryOp .Mult) zPc:=by
 intro pins s σ H x y v u Q I rx ry h
 cases x with
 | int i =>
  cases y with
  | int j=>exact zPb pins s σ H _ _ v u Q I rx ry ⟨i,j,rfl,rfl,h⟩
  | _=>exact False.elim h
 | str z =>
  cases y with
  | int n=>exact zJn pins s σ H _ _ v u Q I rx ry ⟨z,n,rfl,rfl,h⟩
  | _=>exact False.elim h
 | _=>exact False.elim h
def zPM:R2:=fun x y H Q=>match x,y with
 | .int i,.int j=>0 < j/\Q (.int (i % j)) H
 | _,_=>False
theorem qy:OpR X (binaryOp .Mod) zPM:=by
 intro pins s σ H x y v u Q I rx ry h
 cases x with
 | int i =>
  cases y with
  | int j=>exact zOV pins s σ H _ _ v u Q I rx ry ⟨i,j,rfl,rfl,h⟩
  | _=>exact False.elim h
 | _=>exact False.elim h
def zO1:R2:=fun x y H Q=>match x,y with
 | .int i,.int j=>(0 < j/\j < 1073741824)/\Q (.int (i / j)) H
 | _,_=>False
theorem zC4:OpR X (binaryOp .FloorDiv) zO1:=by
 intro pins s σ H x y v u Q I rx ry h
 cases x with
 | int i =>
  cases y with
  | int j=>exact zNo pins s σ H _ _ v u Q I rx ry ⟨i,j,rfl,rfl,h⟩
  | _=>exact False.elim h
 | _=>exact False.elim h
def uLt:R2:=fun x y H Q=>match x,y with
 | .int i,.int j=>Q (.bl (decide (i < j))) H
 | .str i,.str j=>Q (.bl (decide (i.cps.toList < j.cps.toList))) H
 | _,_=>False
theorem zRK:OpR X (compareOp .Lt) uLt:=by
 intro pins s σ H x y v u Q I rx ry h
 cases x with
 | int i =>
  cases y with
  | int j=>exact zQg pins s σ H _ _ v u Q I rx ry ⟨i,j,rfl,rfl,h⟩
  | _=>exact False.elim h
 | str i =>
  cases y with
  | str j=>exact zKN pins s σ H _ _ v u Q I rx ry ⟨i,j,rfl,rfl,h⟩
  | _=>exact False.elim h
 | _=>exact False.elim h
def uGt:R2:=fun x y H Q=>match x,y with
 | .int i,.int j=>Q (.bl (decide (j < i))) H
 | _,_=>False
theorem zGg:OpR X (compareOp .Gt) uGt:=by
 intro pins s σ H x y v u Q I rx ry h
 cases x with
 | int i =>
  cases y with
  | int j=>exact zQe pins s σ H _ _ v u Q I rx ry ⟨i,j,rfl,rfl,h⟩
  | _=>exact False.elim h
 | _=>exact False.elim h
def uGe:R2:=fun x y H Q=>match x,y with
 | .int i,.int j=>Q (.bl (decide (j <= i))) H
 | _,_=>False
theorem zOu:OpR X (compareOp .GtE) uGe:=by
 intro pins s σ H x y v u Q I rx ry h
 cases x with
 | int i =>
  cases y with
  | int j=>exact zQk pins s σ H _ _ v u Q I rx ry ⟨i,j,rfl,rfl,h⟩
  | _=>exact False.elim h
 | _=>exact False.elim h
def uIn (K:PySem.W.Frag) (neg:Bool):R2:=fun x y H Q=>match x,y with
 | .str i,.str j=>Q (.bl (xor neg (!(Builtin.Str.occurrences j i 0 j.length 1).isEmpty))) H
 | x,.ref p=>∃ xs,(SqL K H p xs\/SqT K H p xs)/\yX x=true/\xs.all yX=true/\Q (.bl (xor neg (inV x xs))) H
 | _,_=>False
theorem zQ4:OpR X (compareOp .In) (uIn X.K false):=by
 intro pins s σ H x y v u Q I rx ry h
 cases y with
 | str j =>
  cases x with
  | str i =>
   have h':Q (.bl (xor false (!(Builtin.Str.occurrences j i 0 j.length 1).isEmpty))) H:=h
   rw[Bool.false_xor] at h'
   exact zKX pins s σ H _ _ v u Q I rx ry ⟨i,j,rfl,rfl,h'⟩
  | _=>exact False.elim h
 | ref p =>
  have h':∃ xs,(SqL X.K H p xs\/SqT X.K H p xs)/\yX x=true/\xs.all yX=true/\Q (.bl (xor false (inV x xs))) H:=by cases x<;>exact h
  obtain⟨xs,h1,h2,h3,h4⟩:=h'
  rw[Bool.false_xor] at h4
  exact zKL pins s σ H _ _ v u Q I rx ry ⟨p,xs,rfl,h1,h2,h3,h4⟩
 | _=>cases x<;>exact False.elim h
theorem zOG:OpR X (compareOp .NotIn) (uIn X.K true):=by
 intro pins s σ H x y v u Q I rx ry h
 cases y with
 | str j =>
  cases x with
  | str i =>
   have h':Q (.bl (xor true (!(Builtin.Str.occurrences j i 0 j.length 1).isEmpty))) H:=h
   rw[Bool.true_xor] at h'
   exact zGp pins s σ H _ _ v u Q I rx ry ⟨i,j,rfl,rfl,h'⟩
  | _=>exact False.elim h
 | ref p =>
  have h':∃ xs,(SqL X.K H p xs\/SqT X.K H p xs)/\yX x=true/\xs.all yX=true/\Q (.bl (xor true (inV x xs))) H:=by cases x<;>exact h
  obtain⟨xs,h1,h2,h3,h4⟩:=h'
  rw[Bool.true_xor] at h4
  exact zHz pins s σ H _ _ v u Q I rx ry ⟨p,xs,rfl,h1,h2,h3,h4⟩
 | _=>cases x<;>exact False.elim h
def uIx (K:PySem.W.Frag):R2:=fun x y H Q=>match x,y with
 | .str z,.int i=>∃ c,z.length <= sizeLine/\atI z.cps.toList i=some c/\Q (.str ⟨#[c]⟩) H
 | .ref p,.int i=>∃ xs v,(SqL K H p xs\/SqT K H p xs)/\atI xs i=some v/\Q v H
 | _,_=>False
theorem zQw:IxR X (uIx X.K):=by
 intro value slice pins s σ H x y v u Q I rx ry h hs
 cases x with
 | str z =>
  cases y with
  | int i =>
   obtain⟨c,h1,h2,h3⟩:=h
   exact zP4 value slice pins s σ H _ _ v u Q I rx ry ⟨z,i,c,rfl,rfl,h1,h2,h3⟩ hs
  | _=>exact False.elim h
 | ref p =>
  cases y with
  | int i =>
   obtain⟨xs,c,h1 | h1,h2,h3⟩:=h
   ·exact zM4 value slice pins s σ H _ _ v u Q I rx ry ⟨p,xs,i,c,rfl,rfl,h1,h2,h3⟩ hs
   ·exact zOv value slice pins s σ H _ _ v u Q I rx ry ⟨p,xs,i,c,rfl,rfl,h1,h2,h3⟩ hs
  | _=>exact False.elim h
 | _=>exact False.elim h
def uSl (K:PySem.W.Frag):V->Option Int->Option Int->Hp->VK->Prop:=fun x lo hi H Q=>match x with
 | .str z=>z.length <= sizeLine/\Q (.str (zEg z lo hi)) H
 | .ref a=>(∃ xs,SqL K H a xs/\∀ p,H p=none->Q (.ref p) (upd H p (.lst (zBN xs lo hi)))) \/
   (∃ xs,SqT K H a xs /\ ¬ (HT.sIx xs.length 0 lo=0/\HT.sIx xs.length xs.length hi=xs.length)/\∀ p,H p=none->Q (.ref p) (upd H p (.tup (zBN xs lo hi))))
 | _=>False
theorem zAn:SlR X (uSl X.K):=by
 intro pins s σ H x v vl vu lo hi sl Q I rx hs pl pu h
 cases x with
 | str z=>exact zOb pins s σ H _ v vl vu lo hi sl Q I rx hs pl pu ⟨z,rfl,h⟩
 | ref a =>
  rcases h with ⟨xs,h1,h2⟩ | ⟨xs,h1,h2,h3⟩
  ·exact zN7 pins s σ H _ v vl vu lo hi sl Q I rx hs pl pu ⟨a,xs,rfl,h1,h2⟩
  ·exact zPB pins s σ H _ v vl vu lo hi sl Q I rx hs pl pu ⟨a,xs,rfl,h1,h2,h3⟩
 | _=>exact False.elim h
def zOn (K:PySem.W.Frag):List V->Hp->VK->Prop:=fun xs H Q=>match xs with
 | [.str z]=>z.length <= sizeLine/\Q (.int z.length) H
 | [.ref p]=>∃ ys,(SqL K H p ys\/SqT K H p ys)/\Q (.int ys.length) H
 | _=>False
theorem zQW:qQ X (.builtin "len") (zOn X.K):=by
 intro pins s σ H xs us Q I r h
 match xs,h with
 | [.str z],h=>exact zGT pins s σ H _ us Q I r ⟨z,rfl,h⟩
 | [.ref p],h =>
  obtain⟨ys,h1,h2⟩:=h
  exact zHX pins s σ H _ us Q I r ⟨p,ys,rfl,h1,h2⟩
theorem zM6:PIp X .Add (fun x y H Q=>match x,y with | .int i,.int j=>Q (.int (i+j)) H | .str a,.str b=>a.length+b.length <= sizeLine/\Q (.str (a++b)) H | _,_=>False):=by
 intro pins s σ H x y v u Q I rx ry h
 cases x with
 | int i =>
  cases y with
  | int j=>exact zPF pins s σ H _ _ v u Q I rx ry ⟨i,j,rfl,rfl,h⟩
  | _=>exact False.elim h
 | str a =>
  cases y with
  | str b=>exact zH0 pins s σ H _ _ v u Q I rx ry ⟨a,b,rfl,rfl,h⟩
  | _=>exact False.elim h
 | _=>exact False.elim h
end
theorem qw:bootBuiltins "len" = some (.builtin "len"):=by decide +kernel
theorem zJ1:bootBuiltins "all" = some (.builtin "all"):=by decide +kernel
theorem zCC:bootBuiltins "isinstance" = some (.builtin "isinstance"):=by decide +kernel
theorem zO4:bootBuiltins "str" = some (.type "str"):=by decide +kernel
theorem zOl:bootBuiltins "int" = some (.type "int"):=by decide +kernel
theorem zCx:bootBuiltins "list" = some (.type "list"):=by decide +kernel
theorem zE3:bootBuiltins "dict" = some (.type "dict"):=by decide +kernel
structure Has (P:Program) (w:World) (K:PySem.W.Frag) (mg:Str->Option Value) (base:Heap) (x:Str) (k:Nat) (ps:List Str) (sp:Sp):Prop where
 ex:∃ f fd,qH P w K mg base CX0 k f fd ps sp/\zA7 K fd ps []/\PySem.W.keepIn K (.ref f)=true/\mg x=some (.ref f)
section
variable {X:Cx}{k kk:Nat}{x:Str}{ps:List Str}{sp:Sp}{e:Expr}{es:List Expr}{t:TA}{p pos:Pos}
theorem zMj (h:Has X.prog X.w X.K X.mg X.base x k ps sp) (hr:jb kk X.A) (hk:k <= kk) (hg:Gl X x) (ha:PA X (e::es) t) (hx:zBW CX0 X E0:=by exact zJp) (hdb:(x == ("__debug__" : Str))=false:=by decide)
  (he:starEach (e::es) X.env=(false,eval e X.env)::starEach es X.env:=by rfl) (hpl:(backTo pos (starEach es X.env)).any (·.1)=false:=by rfl) :
  PE X (.Call (.Name x p) (e::es) [] pos) (zM0 sp [] E0 t):=by
 obtain⟨f,fd,F,b,kp,m⟩:=h.ex
 exact zOA F (hr.mono hk) hg m kp b .nil hx ha hdb he hpl
structure zRg (mg:Str->Option Value) (x:Str) (v:V):Prop where
 ex:∃ u,mg x=some u/\zj v u
end
theorem zAp {K:PySem.W.Frag}{A B:String}{b:Bool} (h:(if (Value.type A == Value.type B)=true then some true else if PySem.W.kitMeta B=true then (PySem.fastBuiltinMro A).map (·.contains (Value.type B)) else none)=some b):PySem.W.kitOne K (.type A) (.type B)=some b:=h
end L2
namespace TX
open PySem
def sp (y:Nat):Nat:=if y=10 then 32 else y
end TX
namespace M
abbrev T:=List Nat
inductive Kd where
 | str | int | bool | list | tuple | dict
 deriving DecidableEq
inductive D where
 | non | bl (b:Bool) | int (i:Int) | str (x:T) | tup (ds:List D) | ro (ds:List D) | ref (i:Nat) | ty (n:Kd)
mutual
def D.decEq:(a b:D)->Decidable (a=b)
 | .non,.non=>isTrue rfl
 | .bl a,.bl b=>if h:a=b then isTrue (by rw[h]) else isFalse (fun e=>h (D.bl.inj e))
 | .int a,.int b=>if h:a=b then isTrue (by rw[h]) else isFalse (fun e=>h (D.int.inj e))
 | .str a,.str b=>if h:a=b then isTrue (by rw[h]) else isFalse (fun e=>h (D.str.inj e))
 | .ref a,.ref b=>if h:a=b then isTrue (by rw[h]) else isFalse (fun e=>h (D.ref.inj e))
 | .ty a,.ty b=>if h:a=b then isTrue (by rw[h]) else isFalse (fun e=>h (D.ty.inj e))
 | .tup a,.tup b=>match D.decEqs a b with
  | isTrue h=>isTrue (by rw[h])
  | isFalse h=>isFalse (fun e=>h (D.tup.inj e))
 | .ro a,.ro b=>match D.decEqs a b with
  | isTrue h=>isTrue (by rw[h])
  | isFalse h=>isFalse (fun e=>h (D.ro.inj e))
 | .non,.bl _ | .non,.int _ | .non,.str _ | .non,.tup _ | .non,.ro _ | .non,.ref _ | .non,.ty _=>isFalse (fun e=>nomatch e)
 | .bl _,.non | .bl _,.int _ | .bl _,.str _ | .bl _,.tup _ | .bl _,.ro _ | .bl _,.ref _ | .bl _,.ty _=>isFalse (fun e=>nomatch e)
 | .int _,.non | .int _,.bl _ | .int _,.str _ | .int _,.tup _ | .int _,.ro _ | .int _,.ref _ | .int _,.ty _=>isFalse (fun e=>nomatch e)
 | .str _,.non | .str _,.bl _ | .str _,.int _ | .str _,.tup _ | .str _,.ro _ | .str _,.ref _ | .str _,.ty _=>isFalse (fun e=>nomatch e)
 | .tup _,.non | .tup _,.bl _ | .tup _,.int _ | .tup _,.str _ | .tup _,.ro _ | .tup _,.ref _ | .tup _,.ty _=>isFalse (fun e=>nomatch e)
 | .ro _,.non | .ro _,.bl _ | .ro _,.int _ | .ro _,.str _ | .ro _,.tup _ | .ro _,.ref _ | .ro _,.ty _=>isFalse (fun e=>nomatch e)
 | .ref _,.non | .ref _,.bl _ | .ref _,.int _ | .ref _,.str _ | .ref _,.tup _ | .ref _,.ro _ | .ref _,.ty _=>isFalse (fun e=>nomatch e)
 | .ty _,.non | .ty _,.bl _ | .ty _,.int _ | .ty _,.str _ | .ty _,.tup _ | .ty _,.ro _ | .ty _,.ref _=>isFalse (fun e=>nomatch e)
def D.decEqs:(a b:List D)->Decidable (a=b)
 | [],[]=>isTrue rfl
 | [],_::_=>isFalse (fun e=>nomatch e)
 | _::_,[]=>isFalse (fun e=>nomatch e)
 | a::r,b::t=>match D.decEq a b,D.decEqs r t with
  | isTrue h,isTrue k=>isTrue (by rw[h,k])
  | isFalse h,_=>isFalse (fun e=>h (List.cons.inj e).1)
  | _,isFalse k=>isFalse (fun e=>k (List.cons.inj e).2)
end
instance:DecidableEq D:=D.decEq
inductive O where
 | lst (xs:List D) | dct (kvs:List (D×D)) | fdc (kvs:List (D×D)) | ins (c:Nat) (fs:List (Option D))
 deriving DecidableEq
abbrev S:=List O
abbrev St:=List (Option D)
inductive R (α:Type) where
 | ok (a:α) (s:S) | exc (e:D) (s:S) | no
def R.bind {α β:Type}:R α->(α->S->R β)->R β
 | .ok a s,f=>f a s
 | .exc e s,_=>.exc e s
 | .no,_=>.no
@[simp] theorem R.bind_ok {α β:Type} (a:α) (s:S) (f:α->S->R β):(R.ok a s).bind f=f a s:=rfl
@[simp] theorem R.bind_no {α β:Type} (f:α->S->R β):(R.no:R α).bind f=.no:=rfl
@[simp] theorem R.bind_exc {α β:Type} (e:D) (s:S) (f:α->S->R β):(R.exc e s:R α).bind f=.exc e s:=rfl
section
variable {α β:Type}{c:Prop} [Decidable c]
@[simp] theorem R.bind_ite (a b:R α) (f:α->S->R β):(if c then a else b).bind f=if c then a.bind f else b.bind f:=by split<;>rfl
@[simp] theorem R.ite_ok (a b:α) (s:S):(if c then R.ok a s else R.ok b s)=R.ok (if c then a else b) s:=by split<;>rfl
@[simp] theorem D.ite_bl (a b:Bool):(if c then D.bl a else D.bl b)=D.bl (if c then a else b):=by split<;>rfl
@[simp] theorem D.ite_int (a b:Int):(if c then D.int a else D.int b)=D.int (if c then a else b):=by split<;>rfl
@[simp] theorem D.ite_str (a b:T):(if c then D.str a else D.str b)=D.str (if c then a else b):=by split<;>rfl
@[simp] theorem D.ite_tup (a b:List D):(if c then D.tup a else D.tup b)=D.tup (if c then a else b):=by split<;>rfl
@[simp] theorem St.ite_some (a b:D):(if c then some a else some b)=some (if c then a else b):=by split<;>rfl
@[simp] theorem St.ite_cons (a b:Option D) (r t:St):(if c then a::r else b::t)=(if c then a else b)::(if c then r else t):=by split<;>rfl
end
abbrev EM:=St->S->R D
abbrev TM:=St->S->R Bool
abbrev AM:=St->S->R (List D)
def SZ:Nat:=16777216
@[simp] def zA (i:Nat):EM:=fun σ s=>match σ[i]? with
 | some (some d)=>.ok d s
 | _=>.no
@[simp] def eC (d:D):EM:=fun _ s=>.ok d s
@[simp] def eOp (f:D->D->S->R D) (a b:EM):EM:=fun σ s=>(a σ s).bind fun x s=>(b σ s).bind fun y s=>f x y s
@[simp] def zD:AM:=fun _ s=>.ok [] s
@[simp] def zB (a:EM) (r:AM):AM:=fun σ s=>(a σ s).bind fun x s=>(r σ s).bind fun xs s=>.ok (x::xs) s
@[simp] def Jp (a:AM):EM:=fun σ s=>(a σ s).bind fun xs s=>if xs.length <= SZ then .ok (.tup xs) s else .no
@[simp] def alloc (o:O) (s:S):R D:=.ok (.ref s.length) (s++[o])
@[simp] def qD (a:AM):EM:=fun σ s=>(a σ s).bind fun xs s=>if xs.length <= SZ then alloc (.lst xs) s else .no
@[simp] def jf (s:S) (i:Nat):Option (List D):=match s[i]? with
 | some (.lst xs)=>some xs
 | _=>none
@[simp] def jW:D->D->S->R D
 | .int i,.int j,s=>.ok (.int (i+j)) s
 | .str a,.str b,s=>if a.length+b.length <= SZ then .ok (.str (a++b)) s else .no
 | .tup a,.tup b,s=>if a≠[]/\a.length+b.length <= SZ then .ok (.tup (a++b)) s else .no
 | .ref i,.ref j,s=>match s[i]?,s[j]? with
  | some (.lst xs),some (.lst ys)=>if xs.length+ys.length <= SZ then alloc (.lst (xs++ys)) s else .no
  | _,_=>.no
 | _,_,_=>.no
@[simp] def zAQ:D->D->S->R D
 | .int i,.int j,s=>.ok (.int (i - j)) s
 | _,_,_=>.no
def JT (i:Int):Bool:=decide (i.natAbs < 18446744073709551616)
@[simp] def zEW:D->D->S->R D
 | .int i,.int j,s=>if JT i || JT j then .ok (.int (i * j)) s else .no
 | .str a,.int n,s=>if 0 <= n/\n.natAbs <= 1000000/\a.length * n.natAbs <= 1000000 then .ok (.str (List.replicate n.toNat a).flatten) s else .no
 | .ref p,.int n,s=>match jf s p with
  | some xs=>if n.natAbs <= 1000/\xs.length * n.natAbs <= 1000000 then alloc (.lst (List.replicate n.toNat xs).flatten) s else .no
  | none=>.no
 | _,_,_=>.no
@[simp] def zAR:D->D->S->R D
 | .int i,.int j,s=>if 0 < j/\j.natAbs < 1073741824 then .ok (.int (i / j)) s else .no
 | _,_,_=>.no
@[simp] def jg:D->D->S->R D
 | .int i,.int j,s=>if 0 < j then .ok (.int (i % j)) s else .no
 | _,_,_=>.no
abbrev CM:=D->D->S->R Bool
@[simp] def cLt:CM
 | .int i,.int j,s=>.ok (decide (i < j)) s
 | .str a,.str b,s=>.ok (decide (a < b)) s
 | _,_,_=>.no
@[simp] def cGt:CM
 | .int i,.int j,s=>.ok (decide (j < i)) s
 | _,_,_=>.no
@[simp] def cGe:CM
 | .int i,.int j,s=>.ok (decide (j <= i)) s
 | _,_,_=>.no
inductive P where
 | non | bl (b:Bool) | int (i:Int) | str (x:T) | tup (ps:List P) | lst (ps:List P)
mutual
def P.eqv:P->P->Bool
 | .non,.non=>true
 | .bl a,.bl b=>a == b
 | .int a,.int b=>a == b
 | .bl a,.int b=>(if a then 1 else 0) == b
 | .int a,.bl b=>a == (if b then 1 else 0)
 | .str a,.str b=>a == b
 | .tup a,.tup b=>P.eqvs a b
 | .lst a,.lst b=>P.eqvs a b
 | _,_=>false
def P.eqvs:List P->List P->Bool
 | [],[]=>true
 | a::r,b::t=>P.eqv a b && P.eqvs r t
 | _,_=>false
end
mutual
def P.dep:P->Nat
 | .tup ps=>P.deps ps+1
 | .lst ps=>P.deps ps+1
 | _=>0
def P.deps:List P->Nat
 | []=>0
 | p::ps=>max (P.dep p) (P.deps ps)
end
def Qi (g:Nat->Option P):D->Option P
 | .non=>some .non
 | .bl b=>some (.bl b)
 | .int i=>some (.int i)
 | .str x=>some (.str x)
 | .tup ds=>(all ds).map .tup
 | .ro ds=>(all ds).map .lst
 | .ref i=>g i
 | .ty _=>none
where all:List D->Option (List P)
 | []=>some []
 | d::ds=>match Qi g d,all ds with
  | some p,some ps=>some (p::ps)
  | _,_=>none
def toP:Nat->S->D->Option P
 | 0,_=>Qi fun _=>none
 | n+1,s=>Qi fun i=>match jf s i with
  | some xs=>(Qi.all (fun j=>toP n s (.ref j)) xs).map .lst
  | none=>none
def zCZ:Nat:=9
def jT (k:D) (kvs:List (D×D)):Option D:=kvs.lookup k
def dEq (s:S) (ws:List (D×D)):List (D×D)->Option Bool
 | []=>some true
 | (k,v)::r=>match jT k ws with
  | none=>some false
  | some w=>match toP 8 s v,toP 8 s w,dEq s ws r with
   | some p,some q,some b=>if P.dep p <= 64/\P.dep q <= 64 then some (P.eqv p q && b) else none
   | _,_,_=>none
def zGJ (x y:D) (s:S):R Bool:=match x,y with
 | .ref i,.ref j=>match s[i]?,s[j]? with
  | some (.dct ks),some (.dct ws)=>if ks.length=ws.length then (match dEq s ws ks with | some b=>.ok b s | none=>.no) else .ok false s
  | _,_=>.no
 | _,_=>.no
@[simp] def eqD (x y:D) (s:S):R Bool:=match x,y with
 | .str a,.str b=>.ok (decide (a=b)) s
 | .int a,.int b=>.ok (decide (a=b)) s
 | .bl a,.bl b=>.ok (decide (a=b)) s
 | .non,.non=>.ok true s
 | x,y=>match toP zCZ s x,toP zCZ s y with
  | some p,some q=>if P.dep p <= 64/\P.dep q <= 64 then .ok (P.eqv p q) s else .no
  | _,_=>zGJ x y s
@[simp] def cEq:CM:=fun x y s=>eqD x y s
@[simp] def cNe:CM:=fun x y s=>(eqD x y s).bind fun b s=>.ok (!b) s
def zCk (a:T):T->Bool
 | []=>a.isEmpty
 | c::r=>a.isPrefixOf (c::r) || zCk a r
def flat:D->Bool
 | .non=>true
 | .bl _=>true
 | .int _=>true
 | .str _=>true
 | _=>false
def eqF:D->D->Bool
 | .non,.non=>true
 | .bl a,.bl b=>a == b
 | .int a,.int b=>a == b
 | .bl a,.int b=>(if a then 1 else 0) == b
 | .int a,.bl b=>a == (if b then 1 else 0)
 | .str a,.str b=>a == b
 | _,_=>false
def zBA (x:D) (xs:List D):Bool:=xs.any fun y=>eqF y x
def jA:D->Bool
 | .int _=>true
 | .str _=>true
 | _=>false
@[simp] def inD (x y:D) (s:S):R Bool:=match y with
 | .str b=>match x with
  | .str a=>.ok (zCk a b) s
  | _=>.no
 | .tup ys=>if flat x && ys.all flat then .ok (zBA x ys) s else .no
 | .ro ys=>if flat x && ys.all flat then .ok (zBA x ys) s else .no
 | .ref i=>match s[i]? with
  | some (.lst ys)=>if flat x && ys.all flat then .ok (zBA x ys) s else .no
  | some (.dct kvs)=>if jA x then .ok (jT x kvs).isSome s else .no
  | some (.fdc kvs)=>if jA x then .ok (jT x kvs).isSome s else .no
  | _=>.no
 | _=>.no
@[simp] def cIn:CM:=fun x y s=>inD x y s
@[simp] def jU:CM:=fun x y s=>(inD x y s).bind fun b s=>.ok (!b) s
@[simp] def zAI (c:CM) (a b:EM):EM:=fun σ s=>(a σ s).bind fun x s=>(b σ s).bind fun y s=>(c x y s).bind fun k s=>.ok (.bl k) s
@[simp] def zc (c:CM) (a b:EM):TM:=fun σ s=>(a σ s).bind fun x s=>(b σ s).bind fun y s=>c x y s
@[simp] def zB9:D->Bool
 | .non=>true
 | _=>false
@[simp] def zJH (a:EM):EM:=fun σ s=>(a σ s).bind fun x s=>.ok (.bl (zB9 x)) s
@[simp] def Qz (a:EM):TM:=fun σ s=>(a σ s).bind fun x s=>.ok (zB9 x) s
@[simp] def yS (a:EM):TM:=fun σ s=>(a σ s).bind fun x s=>.ok (!zB9 x) s
@[simp] def yo:D->S->R Bool
 | .non,s=>.ok false s
 | .bl b,s=>.ok b s
 | .int i,s=>.ok (decide (i≠0)) s
 | .str x,s=>if x.length <= SZ then .ok (!x.isEmpty) s else .no
 | .tup ds,s=>.ok (!ds.isEmpty) s
 | .ro ds,s=>.ok (!ds.isEmpty) s
 | .ref i,s=>match s[i]? with
  | some (.lst xs)=>.ok (!xs.isEmpty) s
  | some (.dct kvs)=>.ok (!kvs.isEmpty) s
  | _=>.no
 | .ty _,_=>.no
@[simp] def qe (a:EM):TM:=fun σ s=>(a σ s).bind yo
@[simp] def ZE (a:TM):TM:=fun σ s=>(a σ s).bind fun b s=>.ok (!b) s
@[simp] def JS (a b:TM):TM:=fun σ s=>(a σ s).bind fun k s=>if k then b σ s else .ok false s
@[simp] def tOr (a b:TM):TM:=fun σ s=>(a σ s).bind fun k s=>if k then .ok true s else b σ s
@[simp] def asB:D->S->R Bool
 | .bl b,s=>.ok b s
 | _,_=>.no
@[simp] def zJM (a b:EM):EM:=fun σ s=>(a σ s).bind fun x s=>(asB x s).bind fun k s=>if k then b σ s else .ok (.bl false) s
def ixN (n:Nat) (i:Int):Option Nat:=if 0 <= i then (if i < n then some i.toNat else none) else if -(n:Int) <= i then some (i+n).toNat else none
def atI {α:Type} (xs:List α) (i:Int):Option α:=(ixN xs.length i).bind fun j=>xs[j]?
@[simp] def zU:D->D->S->R D
 | .str x,.int i,s=>if x.length <= SZ then (match atI x i with | some c=>.ok (.str [c]) s | none=>.no) else .no
 | .tup xs,.int i,s=>match atI xs i with | some d=>.ok d s | none=>.no
 | .ro xs,.int i,s=>match atI xs i with | some d=>.ok d s | none=>.no
 | .ref p,k,s=>match s[p]? with
  | some (.lst xs)=>(match k with | .int i=>(match atI xs i with | some d=>.ok d s | none=>.no) | _=>.no)
  | some (.dct kvs)=>if jA k then (match jT k kvs with | some d=>.ok d s | none=>.no) else .no
  | some (.fdc kvs)=>if jA k then (match jT k kvs with | some d=>.ok d s | none=>.no) else .no
  | _=>.no
 | _,_,_=>.no
def sIx (n d:Nat):Option Int->Nat
 | none=>d
 | some v=>(if v < 0 then max (v+(n:Int)) 0 else min v (n:Int)).toNat
def cut {α:Type} (xs:List α) (lo hi:Option Int):List α:=(xs.drop (sIx xs.length 0 lo)).take (sIx xs.length xs.length hi - sIx xs.length 0 lo)
abbrev OM:=St->S->R (Option Int)
@[simp] def Qb:OM:=fun _ s=>.ok none s
@[simp] def qz (a:EM):OM:=fun σ s=>(a σ s).bind fun x s=>match x with | .int i=>.ok (some i) s | _=>.no
@[simp] def slD (x:D) (lo hi:Option Int) (s:S):R D:=match x with
 | .str z=>if z.length <= SZ then .ok (.str (cut z lo hi)) s else .no
 | .tup xs=>if sIx xs.length 0 lo=0/\sIx xs.length xs.length hi=xs.length then .no else .ok (.tup (cut xs lo hi)) s
 | .ro xs=>alloc (.lst (cut xs lo hi)) s
 | .ref p=>match jf s p with
  | some xs=>alloc (.lst (cut xs lo hi)) s
  | none=>.no
 | _=>.no
@[simp] def eSl (a:EM) (lo hi:OM):EM:=fun σ s=>(a σ s).bind fun x s=>(lo σ s).bind fun l s=>(hi σ s).bind fun h s=>slD x l h s
abbrev F:=List D->S->R D
@[simp] def zI (f:F) (a:AM):EM:=fun σ s=>(a σ s).bind fun xs s=>f xs s
@[simp] def ZX (k:Kd) (x:D) (s:S):Bool:=match x with
 | .str _=>(match k with | .str=>true | _=>false)
 | .ro _=>(match k with | .list=>true | _=>false)
 | .ref p=>match s[p]? with
  | some (.lst _)=>(match k with | .list=>true | _=>false)
  | some (.dct _)=>(match k with | .dict=>true | _=>false)
  | _=>false
 | _=>false
@[simp] def eM (k:Kd) (f:D->F) (o:EM) (a:AM):EM:=fun σ s=>(o σ s).bind fun x s=>if ZX k x s then (a σ s).bind fun xs s=>f x xs s else .no
@[simp] def zRZ (c:Nat) (f:F) (o:EM) (a:AM):EM:=fun σ s=>(o σ s).bind fun x s=>match x with
 | .ref p=>(match s[p]? with
  | some (.ins c' _)=>if c'=c then (a σ s).bind fun xs s=>f (x::xs) s else .no
  | _=>.no)
 | _=>.no
@[simp] def jo:F
 | [.str x],s=>if x.length <= SZ then .ok (.int x.length) s else .no
 | [.tup xs],s=>.ok (.int xs.length) s
 | [.ro xs],s=>.ok (.int xs.length) s
 | [.ref p],s=>match s[p]? with
  | some (.lst xs)=>.ok (.int xs.length) s
  | some (.dct kvs)=>.ok (.int kvs.length) s
  | _=>.no
 | _,_=>.no
@[simp] def JQ (n:Kd) (x:D) (s:S):R Bool:=match x with
 | .non=>.ok false s
 | .bl _=>.ok (match n with | .bool=>true | .int=>true | _=>false) s
 | .int _=>.ok (match n with | .int=>true | _=>false) s
 | .str _=>.ok (match n with | .str=>true | _=>false) s
 | .tup _=>.ok (match n with | .tuple=>true | _=>false) s
 | .ro _=>.ok (match n with | .list=>true | _=>false) s
 | .ty _=>.no
 | .ref p=>match s[p]? with
  | some (.lst _)=>.ok (match n with | .list=>true | _=>false) s
  | some (.dct _)=>.ok (match n with | .dict=>true | _=>false) s
  | _=>.no
@[simp] def zB2:F
 | [x,.ty n],s=>(JQ n x s).bind fun b s=>.ok (.bl b) s
 | _,_=>.no
def zA1:List D->Option (List Bool)
 | []=>some []
 | .bl b::r=>(zA1 r).map (b :: ·)
 | _::_=>none
def qG:List D->Option (List T)
 | []=>some []
 | .str x::r=>(qG r).map (x :: ·)
 | _::_=>none
def ZI:List D->Option (List Int)
 | []=>some []
 | .int x::r=>(ZI r).map (x :: ·)
 | _::_=>none
def zB7 (xs:List D) (s:S):R D:=match zA1 xs with
 | some bs=>.ok (.bl (bs.all id)) s
 | none=>.no
@[simp] def zRc (k:List D->S->R D):F
 | [.tup xs],s=>k xs s
 | [.ro xs],s=>k xs s
 | [.ref p],s=>match jf s p with
  | some xs=>k xs s
  | none=>.no
 | _,_=>.no
def J5 (x:T):List T->T
 | []=>[]
 | [y]=>y
 | y::r=>y++x++J5 x r
def JM (x:T) (xs:List D) (s:S):R D:=match qG xs with
 | some ys=>if (ys.map List.length).sum+ys.length * x.length <= SZ then .ok (.str (J5 x ys)) s else .no
 | none=>.no
def zKi (c:Nat):T->List T
 | []=>[[]]
 | d::r=>if d=c then []::zKi c r else match zKi c r with
  | []=>[[d]]
  | p::ps=>(d::p)::ps
@[simp] def zIs:F
 | [.int i],s=>.ok (.int i) s
 | [.bl b],s=>.ok (.int (if b then 1 else 0)) s
 | _,_=>.no
@[simp] def zB3:F
 | [.tup xs],s=>alloc (.lst xs) s
 | [.ro xs],s=>alloc (.lst xs) s
 | [.ref p],s=>match s[p]? with
  | some (.lst xs)=>alloc (.lst xs) s
  | some (.dct kvs)=>alloc (.lst (kvs.map (·.1))) s
  | _=>.no
 | _,_=>.no
@[simp] def zRb:F
 | [.ref p],s=>match s[p]? with
  | some (.dct kvs)=>alloc (.dct kvs) s
  | _=>.no
 | _,_=>.no
@[simp] def zRX:F
 | [.tup xs],s=>.ok (.tup xs) s
 | [.ref p],s=>match jf s p with
  | some xs=>.ok (.tup xs) s
  | none=>.no
 | _,_=>.no
@[simp] def q8:D->F
 | .ref p,[y],s=>match s[p]? with
  | some (.lst xs)=>if xs.length < SZ then .ok .non (s.set p (.lst (xs++[y]))) else .no
  | _=>.no
 | _,_,_=>.no
@[simp] def zDo:D->F
 | .ref p,[],s=>match s[p]? with
  | some (.lst xs)=>(match xs.getLast? with | some y=>.ok y (s.set p (.lst xs.dropLast)) | none=>.no)
  | _=>.no
 | _,_,_=>.no
@[simp] def zAa:D->F
 | .ref p,[.ref q],s=>match s[p]?,s[q]? with
  | some (.lst xs),some (.lst ys)=>if xs.length+ys.length <= SZ/\p≠q then .ok .non (s.set p (.lst (xs++ys))) else .no
  | _,_=>.no
 | _,_,_=>.no
def jx (k v:D) (kvs:List (D×D)):List (D×D):=if (kvs.any fun p=>decide (p.1=k))=true then kvs.map fun p=>if p.1=k then (p.1,v) else p else kvs++[(k,v)]
def JW:List D->Option (List (D×D))
 | []=>some []
 | .tup [k,v]::r=>if jA k then (JW r).map ((k,v) :: ·) else none
 | _::_=>none
def zGF (ps:List (D×D)):List (D×D):=ps.foldl (fun a p=>jx p.1 p.2 a) []
@[simp] def JH:F
 | [.ref p],s=>match s[p]? with
  | some (.lst xs)=>(match JW xs with | some ps=>if ps.length <= 1000 then alloc (.dct (zGF ps)) s else .no | none=>.no)
  | _=>.no
 | _,_=>.no
@[simp] def jw:EM:=fun _ s=>alloc (.dct []) s
@[simp] def ZA:D->F
 | .ref p,[k],s=>match s[p]? with
  | some (.dct kvs)=>if jA k then .ok ((jT k kvs).getD .non) s else .no
  | _=>.no
 | .ref p,[k,d],s=>match s[p]? with
  | some (.dct kvs)=>if jA k then .ok ((jT k kvs).getD d) s else .no
  | _=>.no
 | _,_,_=>.no
def zRM:List T->Option T
 | []=>none
 | x::r=>some (r.foldl (fun b y=>if y < b then y else b) x)
def zHK (xs:List D) (s:S):R D:=match qG xs with
 | some ys=>(match zRM ys with | some y=>.ok (.str y) s | none=>.no)
 | none=>.no
@[simp] def zME (k:List D->S->R D):F
 | [.ref p],s=>match jf s p with
  | some xs=>k xs s
  | none=>.no
 | _,_=>.no
@[simp] def zBr:F:=fun xs s=>zME zHK xs s
@[simp] def zRa:F
 | [.int i,.int j],s=>.ok (.int (if j < i then j else i)) s
 | _,_=>.no
@[simp] def zJD:F
 | [.int i,.int j],s=>.ok (.int (if j > i then j else i)) s
 | _,_=>.no
def qp:List T->List T
 | []=>[]
 | x::r=>insT' x (qp r)
where insT' (x:T):List T->List T
 | []=>[x]
 | y::r=>if y < x then y::insT' x r else x::y::r
def zDB (xs:List D) (s:S):R D:=match qG xs with
 | some ys=>if ys.length < 64 then alloc (.lst ((qp ys).map .str)) s else .no
 | none=>.no
@[simp] def Jb:F
 | [.ref p],s=>match s[p]? with
  | some (.dct kvs)=>zDB (kvs.map (·.1)) s
  | _=>.no
 | _,_=>.no
def zDm (x:D):List D->Option Nat
 | []=>none
 | y::r=>if eqF y x then some 0 else (zDm x r).map (· + 1)
@[simp] def zGY:D->F
 | .ref p,[x],s=>match jf s p with
  | some xs=>if flat x && xs.all flat then (match zDm x xs with | some j=>.ok (.int j) s | none=>.no) else .no
  | none=>.no
 | _,_,_=>.no
def yj:List T->List T->List T
 | acc,[]=>acc
 | acc,x::r=>yj (if acc.contains x then acc else acc++[x]) r
@[simp] def ZQ:F
 | [.ref p],s=>match jf s p with
  | some xs=>(match qG xs with | some ys=>if ys.length <= 1000 then .ok (.int (yj [] ys).length) s else .no | none=>.no)
  | none=>.no
 | _,_=>.no
abbrev Gd:=List (Nat×O)
def zW (g:Gd) (s:S):Bool:=g.all fun p=>decide (s[p.1]? = some p.2)
abbrev IM:=St->S->R (List D×Gd)
@[simp] def itD:D->S->R (List D×Gd)
 | .str x,s=>if x.length <= SZ then .ok (x.map fun c=>.str [c],[]) s else .no
 | .tup ds,s=>.ok (ds,[]) s
 | .ro ds,s=>.ok (ds,[]) s
 | .ref i,s=>match s[i]? with
  | some (.lst xs)=>.ok (xs,[(i,.lst xs)]) s
  | _=>.no
 | _,_=>.no
@[simp] def iE (a:EM):IM:=fun σ s=>(a σ s).bind itD
def jq (lo hi:Int):List D:=(List.range (hi - lo).toNat).map fun (k:Nat)=>.int (lo+k)
@[simp] def qV (a:EM):IM:=fun σ s=>(a σ s).bind fun x s=>match x with
 | .int j=>if j.natAbs < 4611686018427387904 then .ok (jq 0 j,[]) s else .no
 | _=>.no
def ZK:List D->List D->List D
 | a::r,b::t=>.tup [a,b]::ZK r t
 | _,_=>[]
@[simp] def zGn:List D->S->R (List D×Gd)
 | [.ref i,.tup ds],s=>(match s[i]? with | some (.lst xs)=>.ok (ZK xs ds,[(i,.lst xs)]) s | _=>.no)
 | [.ref i,.ref j],s=>(match jf s i,jf s j with | some xs,some ys=>.ok (ZK xs ys,[(i,.lst xs),(j,.lst ys)]) s | _,_=>.no)
 | _,_=>.no
@[simp] def zFE (a b:EM):IM:=fun σ s=>(zB a (zB b zD) σ s).bind zGn
@[simp] def zRe (a:EM):IM:=fun σ s=>(a σ s).bind fun x s=>match x with
 | .tup ds=>.ok (ds.reverse,[]) s
 | _=>.no
@[simp] def yY (a:EM):IM:=fun σ s=>(a σ s).bind fun x s=>match x with
 | .ref i=>(match s[i]? with | some (.fdc kvs)=>.ok (kvs.map (·.1),[]) s | _=>.no)
 | _=>.no
abbrev GM:=D->St->Option St
@[simp] def zK (i:Nat):GM:=fun d σ=>some (σ.set i (some d))
abbrev GMs:=List D->St->Option St
@[simp] def JJ:GMs:=fun ds σ=>match ds with | []=>some σ | _=>none
@[simp] def qg (g:GM) (r:GMs):GMs:=fun ds σ=>match ds with
 | []=>none
 | d::ds=>match g d σ with
  | some σ'=>r ds σ'
  | none=>none
@[simp] def JN (g:GMs):GM:=fun d σ=>match d with
 | .tup ds=>g ds σ
 | _=>none
def ye (g:Gd) (f:D->S->R (Option D)):List D->S->R (List D)
 | [],s=>.ok [] s
 | x::xs,s=>(f x s).bind fun o s=>if zW g s then (ye g f xs s).bind fun ys s=>.ok (match o with | some y=>y::ys | none=>ys) s else .no
@[simp] def qc:TM:=fun _ s=>.ok true s
@[simp] def qP (n:Nat) (tg:GM) (c:TM) (e:EM) (σ:St):D->S->R (Option D):=fun x s=>match tg x (σ++List.replicate n none) with
 | none=>.no
 | some σ'=>(c σ' s).bind fun b s=>if b then (e σ' s).bind fun d s=>.ok (some d) s else .ok none s
def qJ (n:Nat) (it:IM) (tg:GM) (c:TM) (e:EM):AM:=fun σ s=>(it σ s).bind fun p s=>if p.1.length <= SZ/\zW p.2 s=true then ye p.2 (qP n tg c e σ) p.1 s else .no
@[simp] def jY (n:Nat) (it:IM) (tg:GM) (c:TM) (e:EM):EM:=fun σ s=>(qJ n it tg c e σ s).bind fun ys s=>alloc (.lst ys) s
@[simp] def JE (k:List D->S->R D) (n:Nat) (it:IM) (tg:GM) (c:TM) (e:EM):EM:=fun σ s=>(qJ n it tg c e σ s).bind k
inductive RS where
 | nx (σ:St) (s:S) | rt (d:D) (s:S) | bk (σ:St) (s:S) | ct (σ:St) (s:S) | exc (e:D) (σ:St) (s:S) | no
abbrev SM:=St->S->RS
def R.stm {α:Type} (r:R α) (σ:St) (f:α->S->RS):RS:=match r with
 | .ok a s=>f a s
 | .exc e s=>.exc e σ s
 | .no=>.no
@[simp] theorem R.stm_ok {α:Type} (a:α) (s:S) (σ:St) (f:α->S->RS):(R.ok a s).stm σ f=f a s:=rfl
@[simp] theorem R.stm_no {α:Type} (σ:St) (f:α->S->RS):(R.no:R α).stm σ f=.no:=rfl
def RS.then (r:RS) (f:SM):RS:=match r with
 | .nx σ s=>f σ s
 | r=>r
@[simp] theorem RS.then_nx (σ:St) (s:S) (f:SM):(RS.nx σ s).then f=f σ s:=rfl
@[simp] theorem RS.then_rt (d:D) (s:S) (f:SM):(RS.rt d s).then f=.rt d s:=rfl
@[simp] theorem RS.then_no (f:SM):RS.no.then f=.no:=rfl
@[simp] theorem RS.then_bk (σ:St) (s:S) (f:SM):(RS.bk σ s).then f=.bk σ s:=rfl
section
variable {α:Type}{c:Prop} [Decidable c]
@[simp] theorem R.stm_ite (a b:R α) (σ:St) (f:α->S->RS):(if c then a else b).stm σ f=if c then a.stm σ f else b.stm σ f:=by split<;>rfl
@[simp] theorem RS.ite_nx (a b:St) (s:S):(if c then RS.nx a s else RS.nx b s)=RS.nx (if c then a else b) s:=by split<;>rfl
@[simp] theorem RS.ite_rt (a b:D) (s:S):(if c then RS.rt a s else RS.rt b s)=RS.rt (if c then a else b) s:=by split<;>rfl
@[simp] theorem RS.then_ite (a b:RS) (f:SM):(if c then a else b).then f=if c then a.then f else b.then f:=by split<;>rfl
end
@[simp] theorem RS.then_exc (e:D) (σ:St) (s:S) (f:SM):(RS.exc e σ s).then f=.exc e σ s:=rfl
@[simp] theorem R.stm_exc {α:Type} (e:D) (s:S) (σ:St) (f:α->S->RS):(R.exc e s:R α).stm σ f=.exc e σ s:=rfl
@[simp] theorem RS.then_ct (σ:St) (s:S) (f:SM):(RS.ct σ s).then f=.ct σ s:=rfl
@[simp] def jE:SM:=fun σ s=>.nx σ s
@[simp] def zJ (a b:SM):SM:=fun σ s=>(a σ s).then b
@[simp] def yR (e:EM):SM:=fun σ s=>(e σ s).stm σ fun _ s=>.nx σ s
@[simp] def jK (e:EM):SM:=fun σ s=>(e σ s).stm σ fun d s=>.rt d s
@[simp] def zT (i:Nat) (e:EM):SM:=fun σ s=>(e σ s).stm σ fun d s=>.nx (σ.set i (some d)) s
@[simp] def zHy (f:D->D->S->R D) (i:Nat) (e:EM):SM:=fun σ s=>match σ[i]? with
 | some (some x)=>(e σ s).stm σ fun y s=>(f x y s).stm σ fun z s=>.nx (σ.set i (some z)) s
 | _=>.no
@[simp] def zJq:D->D->S->R D
 | .int i,.int j,s=>.ok (.int (i+j)) s
 | .str a,.str b,s=>if a.length+b.length <= SZ then .ok (.str (a++b)) s else .no
 | _,_,_=>.no
@[simp] def zC3:D->D->S->R D
 | .int i,.int j,s=>.ok (.int (i - j)) s
 | _,_,_=>.no
@[simp] def y1 (x k y:D) (s:S):R Unit:=match x with
 | .ref p=>(match s[p]? with
  | some (.lst xs)=>(match k with
   | .int i=>(match ixN xs.length i with | some j=>.ok () (s.set p (.lst (xs.set j y))) | none=>.no)
   | _=>.no)
  | some (.dct kvs)=>if jA k && decide (kvs.length < SZ) then .ok () (s.set p (.dct (jx k y kvs))) else .no
  | _=>.no)
 | _=>.no
@[simp] def jz (o k e:EM):SM:=fun σ s=>(e σ s).stm σ fun y s=>(o σ s).stm σ fun x s=>(k σ s).stm σ fun k s=>(y1 x k y s).stm σ fun _ s=>.nx σ s
@[simp] def zA8 (x k:D) (s:S):R D:=match x with
 | .ref p=>(match s[p]? with
  | some (.dct kvs)=>if jA k then (match jT k kvs with | some v=>.ok v s | none=>.no) else .no
  | _=>.no)
 | _=>.no
@[simp] def J9 (x k y:D) (s:S):R Unit:=match x with
 | .ref p=>(match s[p]? with
  | some (.dct kvs)=>if jA k && decide (kvs.length < SZ) then .ok () (s.set p (.dct (jx k y kvs))) else .no
  | _=>.no)
 | _=>.no
@[simp] def zAS (f:D->D->S->R D) (o k e:EM):SM:=fun σ s=>(o σ s).stm σ fun x s=>(k σ s).stm σ fun k s=>(zA8 x k s).stm σ fun v s=>(e σ s).stm σ fun y s=>(f v y s).stm σ fun z s=>(J9 x k z s).stm σ fun _ s=>.nx σ s
@[simp] def sIf (c:TM) (a b:SM):SM:=fun σ s=>(c σ s).stm σ fun k s=>if k then a σ s else b σ s
def qK (g:Gd) (f:D->SM):List D->SM
 | [],σ,s=>.nx σ s
 | x::xs,σ,s=>match f x σ s with
  | .nx σ s=>if zW g s then qK g f xs σ s else .no
  | .ct σ s=>if zW g s then qK g f xs σ s else .no
  | .bk σ s=>.nx σ s
  | r=>r
@[simp] def jm (tg:GM) (b:SM):D->SM:=fun x σ s=>match tg x σ with
 | some σ'=>b σ' s
 | none=>.no
@[simp] def qq (it:IM) (tg:GM) (b:SM):SM:=fun σ s=>(it σ s).stm σ fun p s=>if zW p.2 s=true then qK p.2 (jm tg b) p.1 σ s else .no
@[simp] def thaw (i:Nat) (kvs:List (D×D)):RS->RS
 | .nx σ s=>if s[i]? = some (.fdc kvs) then .nx σ (s.set i (.dct kvs)) else .no
 | .bk σ s=>if s[i]? = some (.fdc kvs) then .bk σ (s.set i (.dct kvs)) else .no
 | .ct σ s=>if s[i]? = some (.fdc kvs) then .ct σ (s.set i (.dct kvs)) else .no
 | .rt d s=>if s[i]? = some (.fdc kvs) then .rt d (s.set i (.dct kvs)) else .no
 | _=>.no
@[simp] def yg (m:EM) (tg:GM) (b:SM):SM:=fun σ s=>(m σ s).stm σ fun x s=>match x with
 | .ref i=>(match s[i]? with
  | some (.dct kvs)=>thaw i kvs (qK [] (jm tg b) (kvs.map fun p=>.tup [p.1,p.2]) σ (s.set i (.fdc kvs)))
  | _=>.no)
 | _=>.no
@[simp] def qA (m:EM) (tg:GM) (b:SM):SM:=fun σ s=>(m σ s).stm σ fun x s=>match x with
 | .ref i=>(match s[i]? with
  | some (.dct kvs)=>thaw i kvs (qK [] (jm tg b) (kvs.map (·.1)) σ (s.set i (.fdc kvs)))
  | _=>.no)
 | _=>.no
@[simp] def Z7 (i:Nat) (b:SM):SM:=fun σ s=>match σ[i]? with
 | some (some (.ref p))=>(match s[p]? with
  | some (.dct kvs)=>thaw p kvs (b σ (s.set p (.fdc kvs)))
  | _=>.no)
 | _=>.no
@[simp] def zC1 (i:Nat):RS->RS
 | .nx σ s=>.nx (σ.set i none) s
 | .bk σ s=>.bk (σ.set i none) s
 | .ct σ s=>.ct (σ.set i none) s
 | .rt d s=>.rt d s
 | _=>.no
@[simp] def Qv (i:Nat) (b:SM):SM:=fun σ s=>zC1 i (b (σ.set i none) s)
def qE:Nat->TM->SM->SM
 | 0,_,_,_,_=>.no
 | n+1,c,b,σ,s=>(c σ s).stm σ fun k s=>if k then (match b σ s with
  | .nx σ s=>qE n c b σ s
  | .ct σ s=>qE n c b σ s
  | .bk σ s=>.nx σ s
  | r=>r) else .nx σ s
def zAH:Nat:=1000000000000
@[simp] def zAi (c:TM) (b:SM):SM:=fun σ s=>qE zAH c b σ s
def RS.out (r:RS):R D:=match r with
 | .rt d s=>.ok d s
 | .nx _ s=>.ok .non s
 | .exc e _ s=>.exc e s
 | _=>.no
@[simp] theorem RS.out_rt (d:D) (s:S):(RS.rt d s).out=.ok d s:=rfl
@[simp] theorem RS.out_nx (σ:St) (s:S):(RS.nx σ s).out=.ok .non s:=rfl
@[simp] theorem RS.out_no:RS.no.out=.no:=rfl
@[simp] theorem RS.out_exc (e:D) (σ:St) (s:S):(RS.exc e σ s).out=.exc e s:=rfl
@[simp] theorem RS.out_ite {c:Prop} [Decidable c] (a b:RS):(if c then a else b).out=if c then a.out else b.out:=by split<;>rfl
@[simp] def fn (n:Nat) (b:SM):F:=fun xs s=>(b (xs.map some++List.replicate (n - xs.length) none) s).out
def D.cl (n:Nat):D->Bool
 | .ref i=>decide (i < n)
 | .tup ds=>all ds
 | .ro ds=>all ds
 | _=>true
where all:List D->Bool
 | []=>true
 | d::ds=>D.cl n d && all ds
def O.cl (n:Nat):O->Bool
 | .lst xs=>D.cl.all n xs
 | .dct kvs=>kvs.all fun p=>D.cl n p.1 && D.cl n p.2
 | .fdc kvs=>kvs.all fun p=>D.cl n p.1 && D.cl n p.2
 | .ins _ fs=>fs.all fun o=>match o with | some d=>D.cl n d | none=>true
def clS (n:Nat) (s:S):Bool:=s.all (O.cl n)
def D.ren (e:List Nat):D->D
 | .ref i=>.ref (e.getD i i)
 | .tup ds=>.tup (all ds)
 | .ro ds=>.ro (all ds)
 | d=>d
where all:List D->List D
 | []=>[]
 | d::ds=>D.ren e d::all ds
def O.ren (e:List Nat):O->O
 | .lst xs=>.lst (D.ren.all e xs)
 | .dct kvs=>.dct (kvs.map fun p=>(D.ren e p.1,D.ren e p.2))
 | .fdc kvs=>.fdc (kvs.map fun p=>(D.ren e p.1,D.ren e p.2))
 | .ins c fs=>.ins c (fs.map (Option.map (D.ren e)))
end M
namespace M
structure Emb (n:Nat) (e:List Nat) (S' S1:S):Prop where
 len:e.length=S'.length
 nd:e.Nodup
 le:n <= S'.length
 old:∀ i,i < n->e[i]? = some i
 obj:∀ (i:Nat) o,S'[i]? = some o->∃ j,e[i]? = some j/\S1[j]? = some (O.ren e o)/\O.cl S'.length o=true
def jO (n:Nat) (f q:F):Prop:=∀ ds S,ds.length=n->clS S.length S=true->D.cl.all S.length ds=true ->
 q ds S=.no\/∃ d S' S1 e,q ds S=.ok d S'/\f ds S=.ok (D.ren e d) S1/\Emb S.length e S' S1/\D.cl S'.length d=true
section
variable {e:List Nat}
mutual
theorem D.ren_id (h:∀ i,e.getD i i=i):∀ d:D,D.ren e d=d
 | .non=>rfl
 | .bl _=>rfl
 | .int _=>rfl
 | .str _=>rfl
 | .ty _=>rfl
 | .ref i=>by show D.ref (e.getD i i)=_;rw[h]
 | .tup ds=>by show D.tup (D.ren.all e ds)=_;rw[D.rens_id h]
 | .ro ds=>by show D.ro (D.ren.all e ds)=_;rw[D.rens_id h]
theorem D.rens_id (h:∀ i,e.getD i i=i):∀ ds:List D,D.ren.all e ds=ds
 | []=>rfl
 | d::ds=>by show D.ren e d::D.ren.all e ds=_;rw[D.ren_id h,D.rens_id h]
end
theorem O.ren_id (h:∀ i,e.getD i i=i) (o:O):O.ren e o=o:=by
 cases o with
 | lst xs=>show O.lst _=_;rw[D.rens_id h]
 | dct kvs =>
  show O.dct (kvs.map fun p=>(D.ren e p.1,D.ren e p.2))=_
  have:(fun p:D×D=>(D.ren e p.1,D.ren e p.2))=id:=by funext p;rw[D.ren_id h,D.ren_id h];rfl
  rw[this,List.map_id]
 | fdc kvs =>
  show O.fdc (kvs.map fun p=>(D.ren e p.1,D.ren e p.2))=_
  have:(fun p:D×D=>(D.ren e p.1,D.ren e p.2))=id:=by funext p;rw[D.ren_id h,D.ren_id h];rfl
  rw[this,List.map_id]
 | ins c fs =>
  show O.ins c (fs.map (Option.map (D.ren e)))=_
  have:Option.map (D.ren e)=id:=by funext o;cases o with | none=>rfl | some d=>show some _=_;rw[D.ren_id h];rfl
  rw[this,List.map_id]
theorem zEN (n i:Nat):(List.range n).getD i i=i:=by
 rw[List.getD_eq_getElem?_getD]
 by_cases h:i < n
 ·rw[List.getElem?_range h];rfl
 ·rw[List.getElem?_eq_none (by simp;omega)];rfl
end
section
variable {e:List Nat}{n:Nat}
mutual
theorem D.ren_old (h:∀ i,i < n->e[i]? = some i):∀ d:D,D.cl n d=true->D.ren e d=d
 | .non,_=>rfl
 | .bl _,_=>rfl
 | .int _,_=>rfl
 | .str _,_=>rfl
 | .ty _,_=>rfl
 | .ref i,c=>by
  have hi:i < n:=of_decide_eq_true c
  show D.ref (e.getD i i)=_
  rw[List.getD_eq_getElem?_getD,h i hi];rfl
 | .tup ds,c=>by show D.tup (D.ren.all e ds)=_;rw[D.rens_old h ds c]
 | .ro ds,c=>by show D.ro (D.ren.all e ds)=_;rw[D.rens_old h ds c]
theorem D.rens_old (h:∀ i,i < n->e[i]? = some i):∀ ds:List D,D.cl.all n ds=true->D.ren.all e ds=ds
 | [],_=>rfl
 | d::ds,c=>by
  have c':(D.cl n d && D.cl.all n ds)=true:=c
  rw[Bool.and_eq_true] at c'
  show D.ren e d::D.ren.all e ds=_
  rw[D.ren_old h d c'.1,D.rens_old h ds c'.2]
end
theorem O.ren_old (h:∀ i,i < n->e[i]? = some i) (o:O) (c:O.cl n o=true):O.ren e o=o:=by
 cases o with
 | lst xs=>show O.lst _=_;rw[D.rens_old h xs c]
 | dct kvs =>
  show O.dct (kvs.map fun p=>(D.ren e p.1,D.ren e p.2))=_
  congr 1
  conv=>rhs;rw[<- List.map_id kvs]
  refine List.map_congr_left fun p hp=>?_
  have c1:=List.all_eq_true.mp c p hp
  rw[Bool.and_eq_true] at c1
  rw[D.ren_old h _ c1.1,D.ren_old h _ c1.2];rfl
 | fdc kvs =>
  show O.fdc (kvs.map fun p=>(D.ren e p.1,D.ren e p.2))=_
  congr 1
  conv=>rhs;rw[<- List.map_id kvs]
  refine List.map_congr_left fun p hp=>?_
  have c1:=List.all_eq_true.mp c p hp
  rw[Bool.and_eq_true] at c1
  rw[D.ren_old h _ c1.1,D.ren_old h _ c1.2];rfl
 | ins cc fs =>
  show O.ins cc (fs.map (Option.map (D.ren e)))=_
  congr 1
  conv=>rhs;rw[<- List.map_id fs]
  refine List.map_congr_left fun p hp=>?_
  cases p with
  | none=>rfl
  | some d =>
   have c1:=List.all_eq_true.mp c (some d) hp
   show some _=some _
   rw[D.ren_old h d c1]
mutual
theorem D.cl_mono {m:Nat} (h:n <= m):∀ d:D,D.cl n d=true->D.cl m d=true
 | .non,_=>rfl
 | .bl _,_=>rfl
 | .int _,_=>rfl
 | .str _,_=>rfl
 | .ty _,_=>rfl
 | .ref i,c=>decide_eq_true (Nat.lt_of_lt_of_le (of_decide_eq_true c) h)
 | .tup ds,c=>D.cls_mono h ds c
 | .ro ds,c=>D.cls_mono h ds c
theorem D.cls_mono {m:Nat} (h:n <= m):∀ ds:List D,D.cl.all n ds=true->D.cl.all m ds=true
 | [],_=>rfl
 | d::ds,c=>by
  have c':(D.cl n d && D.cl.all n ds)=true:=c
  rw[Bool.and_eq_true] at c'
  show (D.cl m d && D.cl.all m ds)=true
  rw[D.cl_mono h d c'.1,D.cls_mono h ds c'.2];rfl
end
theorem O.cl_mono {m:Nat} (h:n <= m) (o:O) (c:O.cl n o=true):O.cl m o=true:=by
 cases o with
 | lst xs=>exact D.cls_mono h xs c
 | dct kvs =>
  refine List.all_eq_true.mpr fun p hp=>?_
  have c1:=List.all_eq_true.mp c p hp
  rw[Bool.and_eq_true] at c1 ⊢
  exact⟨D.cl_mono h _ c1.1,D.cl_mono h _ c1.2⟩
 | fdc kvs =>
  refine List.all_eq_true.mpr fun p hp=>?_
  have c1:=List.all_eq_true.mp c p hp
  rw[Bool.and_eq_true] at c1 ⊢
  exact⟨D.cl_mono h _ c1.1,D.cl_mono h _ c1.2⟩
 | ins cc fs =>
  refine List.all_eq_true.mpr fun p hp=>?_
  have c1:=List.all_eq_true.mp c p hp
  cases p with
  | none=>rfl
  | some d=>exact D.cl_mono h d c1
theorem zII {S:M.S} (h:clS n S=true) {i:Nat}{o:O} (e:S[i]? = some o):O.cl n o=true:=List.all_eq_true.mp h o (List.mem_of_getElem? e)
end
theorem zL2 {S S' g:M.S} (hn:S.length <= S'.length) (c:clS S'.length S'=true):Emb S.length (List.range S'.length) S' (S'++g) :=
 ⟨by simp,List.nodup_range,hn,fun i hi=>by rw[List.getElem?_range (by omega)],fun i o q=>by
  have hi:i < S'.length:=(List.getElem?_eq_some_iff.mp q).1
  exact⟨i,by rw[List.getElem?_range hi],by rw[List.getElem?_append_left hi,O.ren_id (zEN _),q],zII c q⟩⟩
theorem zNK {S g:M.S}{o:O}{j:Nat} (c:clS S.length S=true) (co:O.cl S.length o=true) (hj:(S++g)[j]? = some o) (hle:S.length <= j):Emb S.length (List.range S.length++[j]) (S++[o]) (S++g):=by
 have old:∀ i,i < S.length->(List.range S.length++[j])[i]? = some i:=fun i hi=>by
  rw[List.getElem?_append_left (by simpa using hi),List.getElem?_range hi]
 refine⟨by simp,?_,by simp,old,fun i ob q=>?_⟩
 ·rw[List.nodup_append]
  refine⟨List.nodup_range,by simp,fun a ha b hb=>?_⟩
  have h1:=List.mem_range.mp ha
  have h2:b=j:=by simpa using hb
  omega
 ·by_cases hi:i < S.length
  ·rw[List.getElem?_append_left hi] at q
   have cq:=zII c q
   exact⟨i,old i hi,by rw[List.getElem?_append_left hi,O.ren_old old ob cq,q],O.cl_mono (by simp) ob cq⟩
  ·rw[List.getElem?_append_right (by omega)] at q
   have hz:i - S.length=0:=by
    cases hz:i - S.length with
    | zero=>rfl
    | succ k=>rw[hz] at q;simp at q
   rw[hz] at q
   simp at q
   subst q
   refine⟨j,?_,by rw[O.ren_old old o co,hj],O.cl_mono (by simp) o co⟩
   rw[List.getElem?_append_right (by simp;omega)]
   simp[hz]
theorem jO.pure {n:Nat}{f q:F} (h:∀ ds S,ds.length=n->clS S.length S=true->D.cl.all S.length ds=true->q ds S=.no\/∃ d g,q ds S=.ok d S/\f ds S=.ok d (S++g)/\D.cl S.length d=true):jO n f q:=fun ds S hl c ca=>by
 rcases h ds S hl c ca with e | ⟨d,g,e1,e2,e3⟩
 ·exact .inl e
 ·exact .inr ⟨d,S,S++g,List.range S.length,e1,by rw[D.ren_id (zEN _)];exact e2,zL2 (Nat.le_refl _) c,e3⟩
theorem jO.new {n:Nat}{f q:F} (h:∀ ds S,ds.length=n->clS S.length S=true->D.cl.all S.length ds=true->q ds S=.no\/∃ o j g,q ds S=alloc o S/\f ds S=.ok (.ref j) (S++g)/\(S++g)[j]? = some o/\S.length <= j/\O.cl S.length o=true):jO n f q:=fun ds S hl c ca=>by
 rcases h ds S hl c ca with e | ⟨o,j,g,e1,e2,e3,e4,e5⟩
 ·exact .inl e
 ·refine .inr ⟨.ref S.length,S++[o],S++g,List.range S.length++[j],e1,?_,zNK c e5 e3 e4,?_⟩
  ·rw[e2]
   show R.ok (D.ref j) _=R.ok (D.ref ((List.range S.length++[j]).getD S.length S.length)) _
   rw[List.getD_eq_getElem?_getD,List.getElem?_append_right (by simp)]
   simp
  ·show decide (S.length < (S++[o]).length)=true
   simp
noncomputable def chS (m:F):F:=fun ds s=>@dite (R D) (∃ d g,m ds s=.ok d (s++g)/\D.cl s.length d=true) (Classical.propDecidable _) (fun h=>.ok h.choose s) (fun _=>.no)
theorem zCY {n:Nat} (m:F):jO n m (chS m):=jO.pure fun ds S hl c ca=>by
 unfold chS
 by_cases h:∃ d g,m ds S=.ok d (S++g)/\D.cl S.length d=true
 ·obtain⟨g,e,k⟩:=h.choose_spec
  exact .inr ⟨h.choose,g,by rw[dif_pos h],e,k⟩
 ·exact .inl (by rw[dif_neg h])
theorem zCn {m:F}{ds:List D}{s g:S}{d:D} (e:m ds s=.ok d (s++g)) (k:D.cl s.length d=true):chS m ds s=.ok d s:=by
 have h:∃ d g,m ds s=.ok d (s++g)/\D.cl s.length d=true:=⟨d,g,e,k⟩
 obtain⟨g',e',_⟩:=h.choose_spec
 have e2:d=h.choose:=by
  have e3:=e.symm.trans e'
  injection e3
 unfold chS
 rw[dif_pos h,<- e2]
noncomputable def chN (m:F):F:=fun ds s=>@dite (R D) (∃ o j g,m ds s=.ok (.ref j) (s++g)/\(s++g)[j]? = some o/\s.length <= j/\O.cl s.length o=true) (Classical.propDecidable _) (fun h=>alloc h.choose s) (fun _=>.no)
theorem zCh {n:Nat} (m:F):jO n m (chN m):=jO.new fun ds S hl c ca=>by
 unfold chN
 by_cases h:∃ o j g,m ds S=.ok (.ref j) (S++g)/\(S++g)[j]? = some o/\S.length <= j/\O.cl S.length o=true
 ·obtain⟨j,g,e,k⟩:=h.choose_spec
  exact .inr ⟨h.choose,j,g,by rw[dif_pos h],e,k⟩
 ·exact .inl (by rw[dif_neg h])
theorem zCR {m:F}{ds:List D}{s g:S}{j:Nat}{o:O} (e:m ds s=.ok (.ref j) (s++g)) (q:(s++g)[j]? = some o) (l:s.length <= j) (k:O.cl s.length o=true):chN m ds s=alloc o s:=by
 have h:∃ o j g,m ds s=.ok (.ref j) (s++g)/\(s++g)[j]? = some o/\s.length <= j/\O.cl s.length o=true:=⟨o,j,g,e,q,l,k⟩
 obtain⟨j',g',e',q',_⟩:=h.choose_spec
 have e4:=e.symm.trans e'
 injection e4 with e1 e2
 injection e1 with e1
 have e3:o=h.choose:=by
  have q2:=q
  rw[e2,e1] at q2
  exact Option.some.inj (q2.symm.trans q')
 unfold chN
 rw[dif_pos h,<- e3]
end M
namespace M
theorem zCm {g:Gd}{f:D->S->R (Option D)}{s:S}{h:D->D} (hg:zW g s=true):∀ {xs:List D},(∀ x∈xs,f x s=.ok (some (h x)) s)->ye g f xs s=.ok (xs.map h) s
 | [],_=>rfl
 | x::xs,e=>by
  show (f x s).bind _=_
  rw[e x List.mem_cons_self,R.bind_ok,if_pos hg,zCm hg fun y hy=>e y (List.mem_cons_of_mem _ hy)]
  rfl
theorem zCX {g:Gd}{f:D->S->R (Option D)}{s:S}{p:D->Bool}{h:D->D} (hg:zW g s=true):∀ {xs:List D},(∀ x∈xs,f x s=.ok (if p x then some (h x) else none) s)->ye g f xs s=.ok ((xs.filter p).map h) s
 | [],_=>rfl
 | x::xs,e=>by
  show (f x s).bind _=_
  rw[e x List.mem_cons_self,R.bind_ok,if_pos hg,zCX hg fun y hy=>e y (List.mem_cons_of_mem _ hy),R.bind_ok]
  cases hp:p x<;>simp[hp]
theorem zDY {n:Nat}{it:IM}{tg:GM}{e:EM}{σ:St}{s:S}{xs:List D}{g:Gd} (h:D->D) (hi:it σ s=.ok (xs,g) s) (hl:xs.length <= SZ) (hg:zW g s=true) (he:∀ x∈xs,qP n tg qc e σ x s=.ok (some (h x)) s):qJ n it tg qc e σ s=.ok (xs.map h) s:=by
 unfold qJ
 rw[hi,R.bind_ok,if_pos ⟨hl,hg⟩]
 exact zCm hg he
theorem zBq {n:Nat}{it:IM}{tg:GM}{e:EM}{σ:St}{s:S}{lo hi:Int} (h:Nat->D) (hit:it σ s=.ok (jq lo hi,[]) s) (hl:(hi - lo).toNat <= SZ) (he:∀ k:Nat,k < (hi - lo).toNat->qP n tg qc e σ (.int (lo+k)) s=.ok (some (h k)) s) :
  qJ n it tg qc e σ s=.ok ((List.range (hi - lo).toNat).map h) s:=by
 have:=zDY (n:=n) (tg:=tg) (e:=e) (fun d=>match d with | .int i=>h (i - lo).toNat | d=>d) hit (by simpa [jq] using hl) rfl fun x hx=>by
  obtain⟨k,hk,rfl⟩:=List.mem_map.mp hx
  have e:(lo+(k:Int) - lo).toNat=k:=by omega
  rw[he k (List.mem_range.mp hk)]
  show R.ok (some (h k)) s=R.ok (some (h (lo+(k:Int) - lo).toNat)) s
  rw[e]
 rw[this]
 unfold jq
 rw[List.map_map]
 have e2:∀ k:Nat,(lo+(k:Int) - lo).toNat=k:=fun k=>by omega
 have e3:((fun d=>match d with | .int i=>h (i - lo).toNat | d=>d) ∘ fun (k:Nat)=>D.int (lo+k))=h:=by
  funext k
  show h (lo+(k:Int) - lo).toNat=h k
  rw[e2]
 rw[e3]
theorem zLG {α:Type} (f:α->Bool) (xs:List α):zA1 (xs.map fun x=>.bl (f x))=some (xs.map f):=by
 induction xs with
 | nil=>rfl
 | cons x xs ih=>show (zA1 (xs.map fun x=>D.bl (f x))).map _=_;rw[ih];rfl
theorem all_map {α:Type} (f:α->Bool) (xs:List α) (s:S):zB7 (xs.map fun x=>.bl (f x)) s=.ok (.bl (xs.all f)) s:=by
 unfold zB7
 rw[zLG]
 simp[List.all_map]
theorem zGO {α:Type} (xs:List α) {k:Int} (h:0 <= k):cut xs none (some k)=xs.take k.toNat:=by
 unfold cut sIx
 have:¬ k < 0:=by omega
 simp only[List.drop_zero,if_neg this,Nat.sub_zero]
 by_cases hk:k <= xs.length
 ·rw[show (min k (xs.length:Int)).toNat=k.toNat by omega]
 ·rw[List.take_of_length_le (by omega),List.take_of_length_le (by omega)]
theorem zCN {α:Type} (xs:List α) {k:Int} (h:0 <= k):cut xs (some k) none=xs.drop k.toNat:=by
 unfold cut sIx
 have:¬ k < 0:=by omega
 simp only[if_neg this]
 by_cases hk:k <= xs.length
 ·rw[show (min k (xs.length:Int)).toNat=k.toNat by omega,List.take_of_length_le (by rw[List.length_drop];omega)]
 ·rw[List.drop_of_length_le (by omega),List.drop_of_length_le (by omega)];simp
theorem zFs {α:Type} (f:α->T) (xs:List α):qG (xs.map fun x=>.str (f x))=some (xs.map f):=by
 induction xs with
 | nil=>rfl
 | cons x xs ih=>show (qG (xs.map fun x=>D.str (f x))).map _=_;rw[ih];rfl
theorem Q2 (xs:List T):qG (xs.map .str)=some xs:=by
 have:=zFs (fun x:T=>x) xs
 rwa [List.map_id'] at this
theorem zF5 (xs:List T):J5 [] xs=xs.flatten:=by
 induction xs with
 | nil=>rfl
 | cons x xs ih =>
  cases xs with
  | nil=>simp[J5]
  | cons y ys=>show x++[]++J5 [] (y::ys)=_;rw[ih];simp
theorem zHx {α β:Type} (f:α->β) (xs:List α):(xs.map fun x=>[f x]).flatten=xs.map f:=by
 induction xs with
 | nil=>rfl
 | cons x xs ih=>rw[List.map_cons,List.flatten_cons,ih];rfl
theorem zLY {α:Type} (f:α->Nat) (xs:List α):((xs.map fun x=>[f x]).map List.length).sum=xs.length:=by
 induction xs with
 | nil=>rfl
 | cons x xs ih=>rw[List.map_cons,List.map_cons,List.sum_cons,ih,List.length_cons];show 1+xs.length=xs.length+1;omega
theorem zJ6 {α:Type} (f:α->Nat) (xs:List α) (s:S) (h:xs.length <= SZ):JM [] (xs.map fun x=>.str [f x]) s=.ok (.str (xs.map f)) s:=by
 unfold JM
 rw[zFs]
 dsimp only
 rw[if_pos,zF5,zHx]
 rw[zLY]
 simpa using h
theorem JC (n:Nat):∀ ts:List T,D.cl.all n (ts.map .str)=true
 | []=>rfl
 | _::ts=>by
  show (D.cl n (.str _) && D.cl.all n (ts.map .str))=true
  rw[JC n ts];rfl
theorem zDi (x:T):∀ ts:List T,zBA (.str x) (ts.map .str)=ts.contains x
 | []=>rfl
 | t::ts=>by
  have:=zDi x ts
  unfold zBA at this ⊢
  rw[List.map_cons,List.any_cons,this,List.contains_cons]
  simp[eqF,BEq.comm (a:=t)]
theorem zCQ (ts:List T):(ts.map D.str).all flat=true:=by
 rw[List.all_map];exact List.all_eq_true.mpr fun _ _=>rfl
theorem zEh {α:Type}{xs:List α}{k:Int} (h0:0 <= k) (h:k < xs.length) (d:α):atI xs k=some (xs.getD k.toNat d):=by
 unfold atI ixN
 rw[if_pos h0,if_pos h]
 have hk:k.toNat < xs.length:=by omega
 simp[List.getD_eq_getElem?_getD,hk]
theorem zm {S:M.S}{p:Nat}{o:O} (e:S[p]? = some o) (g:M.S):(S++g)[p]? = some o:=by
 rw[List.getElem?_append_left (List.getElem?_eq_some_iff.mp e).1]
 exact e
theorem zLB {n:Nat}{it:IM}{tg:GM}{e:EM}{σ:St}{s s1:S}{xs:List D}{g:Gd} (h:D->D) (hi:it σ s=.ok (xs,g) s1) (hl:xs.length <= SZ) (hg:zW g s1=true) (he:∀ x∈xs,qP n tg qc e σ x s1=.ok (some (h x)) s1):qJ n it tg qc e σ s=.ok (xs.map h) s1:=by
 unfold qJ
 rw[hi,R.bind_ok,if_pos ⟨hl,hg⟩]
 exact zCm hg he
theorem zHF {n:Nat}{it:IM}{tg:GM}{c:TM}{e:EM}{σ:St}{s s1:S}{xs:List D}{g:Gd} (p:D->Bool) (h:D->D) (hi:it σ s=.ok (xs,g) s1) (hl:xs.length <= SZ) (hg:zW g s1=true) (he:∀ x∈xs,qP n tg c e σ x s1=.ok (if p x then some (h x) else none) s1):qJ n it tg c e σ s=.ok ((xs.filter p).map h) s1:=by
 unfold qJ
 rw[hi,R.bind_ok,if_pos ⟨hl,hg⟩]
 exact zCX hg he
theorem JX {n:Nat}{it:IM}{tg:GM}{c:TM}{e:EM}{σ:St}{s s1:S}{ts:List T}{g:Gd} (p:T->Bool) (hi:it σ s=.ok (ts.map .str,g) s1) (hl:ts.length <= SZ) (hg:zW g s1=true) (he:∀ x∈ts,qP n tg c e σ (.str x) s1=.ok (if p x then some (.str x) else none) s1):qJ n it tg c e σ s=.ok ((ts.filter p).map .str) s1:=by
 rw[zHF (fun d=>match d with | .str y=>p y | _=>false) id hi (by simpa using hl) hg fun d hd=>by
  obtain⟨y,hy,rfl⟩:=List.mem_map.mp hd
  exact he y hy]
 rw[List.map_id,List.filter_map]
 rfl
theorem zHD {g:Gd}{f:D->SM}{s:S} (hg:zW g s=true) (I:St->Prop):∀ (xs:List D) (σ:St),I σ->(∀ x∈xs,∀ σ,I σ->∃ σ',f x σ s=.nx σ' s/\I σ')->∃ σ',qK g f xs σ s=.nx σ' s/\I σ'
 | [],σ,h,_=>⟨σ,rfl,h⟩
 | x::xs,σ,h,e=>by
  obtain⟨σ1,e1,h1⟩:=e x List.mem_cons_self σ h
  obtain⟨σ2,e2,h2⟩:=zHD hg I xs σ1 h1 fun y hy=>e y (List.mem_cons_of_mem _ hy)
  refine⟨σ2,?_,h2⟩
  show (match f x σ s with | .nx σ s=>if zW g s then qK g f xs σ s else .no | .ct σ s=>if zW g s then qK g f xs σ s else .no | .bk σ s=>.nx σ s | r=>r)=_
  rw[e1]
  dsimp only
  rw[if_pos hg,e2]
theorem yf {g:Gd}{f:D->SM} (I:Nat->St->S->Prop):∀ (xs:List D) (i:Nat) (σ:St) (s:S),I i σ s->(∀ (j:Nat) x,xs[j]? = some x->∀ σ s,I (i+j) σ s->∃ σ' s',f x σ s=.nx σ' s'/\zW g s'=true/\I (i+j+1) σ' s')->∃ σ' s',qK g f xs σ s=.nx σ' s'/\I (i+xs.length) σ' s'
 | [],i,σ,s,h,_=>⟨σ,s,rfl,h⟩
 | x::xs,i,σ,s,h,e=>by
  obtain⟨σ1,s1,e1,hg,h1⟩:=e 0 x rfl σ s h
  obtain⟨σ2,s2,e2,h2⟩:=yf I xs (i+1) σ1 s1 h1 fun j y hy σ s hI=>by
   have:=e (j+1) y (by simpa using hy) σ s (by rw[show i+(j+1)=i+1+j by omega];exact hI)
   rwa [show i+(j+1)+1=i+1+j+1 by omega] at this
  refine⟨σ2,s2,?_,by rw[List.length_cons,show i+(xs.length+1)=i+1+xs.length by omega];exact h2⟩
  show (match f x σ s with | .nx σ s=>if zW g s then qK g f xs σ s else .no | .ct σ s=>if zW g s then qK g f xs σ s else .no | .bk σ s=>.nx σ s | r=>r)=_
  rw[e1]
  dsimp only
  rw[if_pos hg,e2]
theorem zMg {g:Gd}{s t:S} (h:zW g s=true):zW g (s++t)=true:=by
 unfold zW at h ⊢
 rw[List.all_eq_true] at h ⊢
 intro p hp
 exact decide_eq_true (zm (of_decide_eq_true (h p hp)) t)
theorem zD0 {g:Gd}{f:D->S->R (Option D)}{s0:S}{h:D->D} (hg:zW g s0=true):∀ {xs:List D} (t:S),(∀ x∈xs,∀ t,∃ t',f x (s0++t)=.ok (some (h x)) (s0++t'))->∃ t',ye g f xs (s0++t)=.ok (xs.map h) (s0++t')
 | [],t,_=>⟨t,rfl⟩
 | x::xs,t,e=>by
  obtain⟨t1,e1⟩:=e x List.mem_cons_self t
  obtain⟨t2,e2⟩:=zD0 hg (xs:=xs) t1 fun y hy=>e y (List.mem_cons_of_mem _ hy)
  refine⟨t2,?_⟩
  show (f x (s0++t)).bind _=_
  rw[e1,R.bind_ok,if_pos (zMg hg),e2]
  rfl
theorem zFM {n:Nat}{it:IM}{tg:GM}{e:EM}{σ:St}{s:S}{xs:List D}{g:Gd} (h:D->D) (hi:it σ s=.ok (xs,g) s) (hl:xs.length <= SZ) (hg:zW g s=true) (he:∀ x∈xs,∀ t,∃ t',qP n tg qc e σ x (s++t)=.ok (some (h x)) (s++t')):∃ t',qJ n it tg qc e σ s=.ok (xs.map h) (s++t'):=by
 unfold qJ
 rw[hi,R.bind_ok,if_pos ⟨hl,hg⟩]
 have:=zD0 (t:=[]) hg he
 rwa [List.append_nil] at this
end M
namespace L2
open PySem PySem.Spec PyProof.Rows
def ofT (x:M.T):Str:=⟨x.toArray⟩
theorem qO (x:M.T):(ofT x).length=x.length:=by simp[ofT,Str.length]
theorem Zk (x:M.T):(ofT x).cps.toList=x:=by simp[ofT]
theorem zC0 {x y:M.T} (h:ofT x=ofT y):x=y:=by rw[<- Zk x,h,Zk]
theorem zIV (x y:M.T):ofT x++ofT y=ofT (x++y):=by
 show (⟨x.toArray++y.toArray⟩:Str)=_
 simp[ofT]
abbrev okT (x:M.T):Prop:=x.all (fun c=>decide (c < 1114112))=true
theorem zC9 {x y:M.T} (h:okT x) (k:okT y):okT (x++y):=by show (x++y).all _=true;rw[List.all_append,h,k];rfl
theorem zC8 {x y:M.T} (h:okT x) (k:∀ c∈y,c∈x):okT y:=List.all_eq_true.mpr fun c hc=>List.all_eq_true.mp h c (k c hc)
theorem Zc:M.SZ=sizeLine:=by rw[sizeLine_eq];rfl
def zAK (K:PySem.W.Frag) (H:Hp) (a:Addr) (xs:List V):Prop :=
 (∃ o,H a=some (.frz o (.lst xs))) \/
  ∃ (o:Obj) (its:Array Value) (n:Nat),K.lookup a=some o/\o.cls=.type "list" /\ o.dict=none/\o.data=.seq its n/\its.size <= sizeLine/\zh xs its.toList
theorem zAK.sq {K:PySem.W.Frag}{H:Hp}{a:Addr}{xs:List V} (h:zAK K H a xs):SqL K H a xs:=by
 rcases h with ⟨o,h⟩ | h
 ·exact .inl (.inr ⟨o,h⟩)
 ·exact .inr h
structure Le (H H':Hp):Prop where
 tups:∀ b xs,H b=some (.tup xs)->H' b=some (.tup xs)
 frzs:∀ b o u,H b=some (.frz o u)->H' b=some (.frz o u)
theorem Le.refl (H:Hp):Le H H:=⟨fun _ _ h=>h,fun _ _ _ h=>h⟩
theorem Le.trans {H H1 H2:Hp} (a:Le H H1) (b:Le H1 H2):Le H H2:=⟨fun c xs h=>b.tups c xs (a.tups c xs h),fun c o u h=>b.frzs c o u (a.frzs c o u h)⟩
theorem Le.new {H:Hp}{p:Addr} (h:H p=none) (o:HO):Le H (upd H p o) :=
 ⟨fun b xs q=>by rw[zk (Zi q h)];exact q,fun b o u q=>by rw[zk (Zi q h)];exact q⟩
theorem Le.put {H:Hp}{p:Addr} (h:Mut (H p)) (o:HO):Le H (upd H p o) :=
 ⟨fun b xs q=>by rw[zk (fun z=>by subst z;rw[q] at h;exact h)];exact q,fun b o u q=>by rw[zk (fun z=>by subst z;rw[q] at h;exact h)];exact q⟩
theorem Le.rol {K:PySem.W.Frag}{H H':Hp}{a:Addr}{xs:List V} (e:Le H H') (h:zAK K H a xs):zAK K H' a xs:=by
 rcases h with ⟨o,h⟩ | h
 ·exact .inl ⟨o,e.frzs _ _ _ h⟩
 ·exact .inr h
theorem Le.sqT {K:PySem.W.Frag}{H H':Hp}{a:Addr}{xs:List V} (e:Le H H') (h:SqT K H a xs):SqT K H' a xs:=by
 rcases h with (h | ⟨o,h⟩) | h
 ·exact .inl (.inl (e.tups _ _ h))
 ·exact .inl (.inr ⟨o,e.frzs _ _ _ h⟩)
 ·exact .inr h
def q0:M.Kd->String
 | .str => "str" | .int => "int" | .bool => "bool" | .list => "list" | .tuple => "tuple" | .dict => "dict"
def zQ (K:PySem.W.Frag) (ρ:List Addr) (H:Hp):M.D->V->Prop
 | .non,v=>v=.non
 | .bl b,v=>v=.bl b
 | .int i,v=>v=.int i
 | .str x,v=>v=.str (ofT x)/\okT x
 | .ty n,v=>v=.ty (q0 n)
 | .ref i,v=>∃ a,v=.ref a/\ρ[i]? = some a
 | .tup ds,v=>∃ a xs,v=.ref a/\SqT K H a xs/\all ds xs
 | .ro ds,v=>∃ a xs,v=.ref a/\zAK K H a xs/\all ds xs
where all:List M.D->List V->Prop
 | [],xs=>xs=[]
 | d::ds,xs=>∃ y ys,xs=y::ys/\zQ K ρ H d y/\all ds ys
abbrev zM (K:PySem.W.Frag) (ρ:List Addr) (H:Hp):List M.D->List V->Prop:=zQ.all K ρ H
theorem Q7 {ρ ρ':List Addr} (h:ρ <+: ρ') {i:Nat}{a:Addr} (e:ρ[i]? = some a):ρ'[i]? = some a:=by
 obtain⟨t,rfl⟩:=h
 rw[List.getElem?_append_left (List.getElem?_eq_some_iff.mp e).1]
 exact e
section
variable {K:PySem.W.Frag}{ρ ρ':List Addr}{H H':Hp}
mutual
theorem zQ.mono (hρ:ρ <+: ρ') (le:Le H H'):∀ {d:M.D}{v:V},zQ K ρ H d v->zQ K ρ' H' d v
 | .non,_,h=>h
 | .bl _,_,h=>h
 | .int _,_,h=>h
 | .str _,_,h=>h
 | .ty _,_,h=>h
 | .ref _,_,⟨a,e,h⟩=>⟨a,e,Q7 hρ h⟩
 | .tup _,_,⟨a,xs,e,h,r⟩=>⟨a,xs,e,le.sqT h,zM.mono hρ le r⟩
 | .ro _,_,⟨a,xs,e,h,r⟩=>⟨a,xs,e,le.rol h,zM.mono hρ le r⟩
theorem zM.mono (hρ:ρ <+: ρ') (le:Le H H'):∀ {ds:List M.D}{xs:List V},zM K ρ H ds xs->zM K ρ' H' ds xs
 | [],_,h=>h
 | _::_,_,⟨y,ys,e,h,r⟩=>⟨y,ys,e,zQ.mono hρ le h,zM.mono hρ le r⟩
end
theorem zM.length:∀ {ds:List M.D}{xs:List V},zM K ρ H ds xs->ds.length=xs.length
 | [],_,h=>by cases h;rfl
 | _::_,_,⟨_,_,e,_,r⟩=>by subst e;rw[List.length_cons,List.length_cons,zM.length r]
theorem zM.get:∀ {ds:List M.D}{xs:List V}{i:Nat}{d:M.D},zM K ρ H ds xs->ds[i]? = some d->∃ v,xs[i]? = some v/\zQ K ρ H d v
 | [],_,_,_,_,e=>by simp at e
 | _::_,_,0,_,⟨y,_,e1,h,_⟩,e=>by subst e1;simp at e;subst e;exact⟨y,rfl,h⟩
 | _::_,_,i+1,d,⟨_,ys,e1,_,r⟩,e=>by
  subst e1
  obtain⟨v,h1,h2⟩:=zM.get (i:=i) (d:=d) r (by simpa using e)
  exact⟨v,by simpa using h1,h2⟩
theorem zM.app:∀ {ds es:List M.D}{xs ys:List V},zM K ρ H ds xs->zM K ρ H es ys->zM K ρ H (ds++es) (xs++ys)
 | [],_,_,_,h,k=>by cases h;exact k
 | _::_,_,_,_,⟨y,ys,e,h,r⟩,k=>by subst e;exact⟨y,_,rfl,h,zM.app r k⟩
theorem zM.take:∀ {ds:List M.D}{xs:List V} (n:Nat),zM K ρ H ds xs->zM K ρ H (ds.take n) (xs.take n)
 | _,_,0,_=>rfl
 | [],_,_+1,h=>by cases h;rfl
 | _::_,_,n+1,⟨y,ys,e,h,r⟩=>by subst e;exact⟨y,_,rfl,h,zM.take n r⟩
theorem zM.drop:∀ {ds:List M.D}{xs:List V} (n:Nat),zM K ρ H ds xs->zM K ρ H (ds.drop n) (xs.drop n)
 | _,_,0,h=>h
 | [],_,_+1,h=>by cases h;rfl
 | _::_,_,n+1,⟨y,ys,e,h,r⟩=>by subst e;exact zM.drop n r
theorem zM.set {d:M.D}{v:V} (hd:zQ K ρ H d v):∀ {ds:List M.D}{xs:List V} (n:Nat),zM K ρ H ds xs->zM K ρ H (ds.set n d) (xs.set n v)
 | [],_,_,h=>by cases h;rfl
 | _::_,_,0,⟨y,ys,e,h,r⟩=>by subst e;exact⟨v,ys,rfl,hd,r⟩
 | _::_,_,n+1,⟨y,ys,e,h,r⟩=>by subst e;exact⟨y,_,rfl,h,zM.set hd n r⟩
theorem zM.dropLast {ds:List M.D}{xs:List V} (h:zM K ρ H ds xs):zM K ρ H ds.dropLast xs.dropLast:=by
 rw[List.dropLast_eq_take,List.dropLast_eq_take,h.length]
 exact h.take _
end
section
variable {K:PySem.W.Frag}{ρ ρ':List Addr}{H H':Hp}{ds es:List M.D}{xs ys:List V}
theorem zQ.all.mono (h:zQ.all K ρ H ds xs) (hρ:ρ <+: ρ') (le:Le H H'):zQ.all K ρ' H' ds xs:=zM.mono hρ le h
theorem zQ.all.length (h:zQ.all K ρ H ds xs):ds.length=xs.length:=zM.length h
theorem zQ.all.app (h:zQ.all K ρ H ds xs) (k:zQ.all K ρ H es ys):zQ.all K ρ H (ds++es) (xs++ys):=zM.app h k
end
def yr:M.D->Key->Prop
 | .int i,k=>k=.inl i
 | .str x,k=>k=.inr (ofT x)/\okT x
 | _,_=>False
abbrev Tab:=Nat->Option (Addr×List Str)
structure zRP (K:PySem.W.Frag) (ρ:List Addr) (H:Hp) (N:List Str) (fs:List (Option M.D)) (gs:List (Str×V)):Prop where
 len:fs.length=N.length
 nd:(gs.map (·.1)).Nodup
 within:∀ f∈gs.map (·.1),f∈N
 get:∀ (i:Nat) (f:Str) (d:M.D),N[i]? = some f->fs[i]? = some (some d)->∃ v,gs.lookup f=some v/\zQ K ρ H d v
def ObR (K:PySem.W.Frag) (Θ:Tab) (ρ:List Addr) (H:Hp) (a:Addr):M.O->Prop
 | .lst ds=>∃ xs,H a=some (.lst xs)/\zM K ρ H ds xs
 | .dct kvs=>∃ ks,H a=some (.dK ks)/\Paired (fun (p:M.D×M.D) (q:Key×V)=>yr p.1 q.1/\zQ K ρ H p.2 q.2) kvs ks
 | .fdc kvs=>∃ o ks,H a=some (.frz o (.dK ks))/\Paired (fun (p:M.D×M.D) (q:Key×V)=>yr p.1 q.1/\zQ K ρ H p.2 q.2) kvs ks
 | .ins c fs=>∃ C dx gs N,H a=some (.ins C dx gs)/\Θ c=some (C,N)/\zRP K ρ H N fs gs
structure zf (K:PySem.W.Frag) (Θ:Tab) (ρ:List Addr) (S:M.S) (H:Hp):Prop where
 len:ρ.length=S.length
 nd:ρ.Nodup
 obj:∀ (i:Nat) (o:M.O),S[i]? = some o->∃ a,ρ[i]? = some a/\ObR K Θ ρ H a o
structure jV (K:PySem.W.Frag) (ρ:List Addr) (H:Hp) (σ':M.St) (σ:St):Prop where
 len:σ'.length=σ.length
 get:∀ (i:Nat) (d:M.D),σ'[i]? = some (some d)->∃ v,σ[i]? = some (some v)/\zQ K ρ H d v
section
variable {K:PySem.W.Frag}{Θ:Tab}{ρ ρ':List Addr}{H H':Hp}{S:M.S}
theorem jV.mono {σ':M.St}{σ:St} (h:jV K ρ H σ' σ) (hρ:ρ <+: ρ') (le:Le H H'):jV K ρ' H' σ' σ :=
 ⟨h.len,fun i d e=>let ⟨v,h1,h2⟩:=h.get i d e;⟨v,h1,h2.mono hρ le⟩⟩
theorem jV.set {σ':M.St}{σ:St}{d:M.D}{v:V} (h:jV K ρ H σ' σ) (hd:zQ K ρ H d v) (i:Nat):jV K ρ H (σ'.set i (some d)) (σ.set i (some v)):=by
 refine⟨by rw[List.length_set,List.length_set,h.len],fun j e q=>?_⟩
 by_cases hj:i=j
 ·subst hj
  by_cases hl:i < σ'.length
  ·rw[List.getElem?_set_self hl] at q
   cases q
   exact⟨v,by rw[List.getElem?_set_self (h.len ▸ hl)],hd⟩
  ·rw[List.getElem?_eq_none (by rw[List.length_set];omega)] at q
   cases q
 ·rw[List.getElem?_set_ne hj] at q
  rw[List.getElem?_set_ne hj]
  exact h.get j e q
theorem jV.more {σ':M.St}{σ:St} (h:jV K ρ H σ' σ) (n:Nat):jV K ρ H (σ'++List.replicate n none) (σ++List.replicate n none):=by
 refine⟨by simp[h.len],fun i d q=>?_⟩
 by_cases hl:i < σ'.length
 ·rw[List.getElem?_append_left hl] at q
  rw[List.getElem?_append_left (h.len ▸ hl)]
  exact h.get i d q
 ·rw[List.getElem?_append_right (by omega),List.getElem?_replicate] at q
  split at q<;>cases q
theorem zf.tracked (h:zf K Θ ρ S H) {a:Addr} (m:a∈ρ):∃ o,H a=some o:=by
 obtain⟨i,hi,e⟩:=List.mem_iff_getElem.mp m
 have hl:i < S.length:=h.len ▸ hi
 obtain⟨a',e1,r⟩:=h.obj i S[i] (by simp[hl])
 rw[List.getElem?_eq_getElem hi,e] at e1
 cases e1
 cases q:S[i] with
 | lst ds=>rw[q] at r;obtain⟨xs,e2,_⟩:=r;exact⟨_,e2⟩
 | dct kvs=>rw[q] at r;obtain⟨xs,e2,_⟩:=r;exact⟨_,e2⟩
 | fdc kvs=>rw[q] at r;obtain⟨o,xs,e2,_⟩:=r;exact⟨_,e2⟩
 | ins c fs=>rw[q] at r;obtain⟨_,_,_,_,e2,_⟩:=r;exact⟨_,e2⟩
theorem zf.fresh (h:zf K Θ ρ S H) {p:Addr} (hp:H p=none):p∉ρ:=fun m=>by
 obtain⟨o,e⟩:=h.tracked m
 rw[hp] at e;cases e
theorem ObR.stay {a:Addr}{o:M.O} (h:ObR K Θ ρ H a o) (hρ:ρ <+: ρ') (le:Le H H') (e:H' a=H a):ObR K Θ ρ' H' a o:=by
 cases o with
 | lst ds=>obtain⟨xs,e1,r⟩:=h;exact⟨xs,e.trans e1,r.mono hρ le⟩
 | dct kvs=>obtain⟨ks,e1,r⟩:=h;exact⟨ks,e.trans e1,Paired.mapP r fun p q z=>⟨z.1,z.2.mono hρ le⟩⟩
 | fdc kvs=>obtain⟨o,ks,e1,r⟩:=h;exact⟨o,ks,e.trans e1,Paired.mapP r fun p q z=>⟨z.1,z.2.mono hρ le⟩⟩
 | ins c fs =>
  obtain⟨C,dx,gs,N,e1,e2,r⟩:=h
  exact⟨C,dx,gs,N,e.trans e1,e2,r.len,r.nd,r.within,fun i f d h1 h2=>let ⟨v,k1,k2⟩:=r.get i f d h1 h2;⟨v,k1,k2.mono hρ le⟩⟩
theorem zf.stay (h:zf K Θ ρ S H) (le:Le H H') (e:∀ a∈ρ,H' a=H a):zf K Θ ρ S H' :=
 ⟨h.len,h.nd,fun i o q=>let ⟨a,h1,h2⟩:=h.obj i o q;⟨a,h1,h2.stay (List.prefix_refl _) le (e a (List.mem_of_getElem? h1))⟩⟩
theorem zf.aside (h:zf K Θ ρ S H) {p:Addr} (hp:H p=none) (o:HO):zf K Θ ρ S (upd H p o) :=
 h.stay (Le.new hp o) fun a m=>zk (fun z=>h.fresh hp (z ▸ m))
theorem zf.alloc (h:zf K Θ ρ S H) {p:Addr} (hp:H p=none) {o:M.O}{u:HO} (r:ObR K Θ (ρ++[p]) (upd H p u) p o):zf K Θ (ρ++[p]) (S++[o]) (upd H p u):=by
 refine⟨by simp[h.len],?_,fun i ob q=>?_⟩
 ·rw[List.nodup_append]
  refine⟨h.nd,by simp,fun a ha b hb=>?_⟩
  have hb':b=p:=by simpa using hb
  rw[hb']
  exact fun z=>h.fresh hp (z ▸ ha)
 ·by_cases hl:i < S.length
  ·rw[List.getElem?_append_left hl] at q
   obtain⟨a,h1,h2⟩:=h.obj i ob q
   refine⟨a,Q7 (List.prefix_append _ _) h1,h2.stay (List.prefix_append _ _) (Le.new hp u) (zk fun z=>h.fresh hp (z ▸ List.mem_of_getElem? h1))⟩
  ·rw[List.getElem?_append_right (by omega)] at q
   have hi:i - S.length=0:=by
    cases hz:i - S.length with
    | zero=>rfl
    | succ k=>rw[hz] at q;simp at q
   rw[hi] at q
   simp at q
   subst q
   refine⟨p,?_,r⟩
   rw[List.getElem?_append_right (by rw[h.len];omega),h.len,hi]
   rfl
theorem zB4 {α:Type}{ρ:List α} (hN:ρ.Nodup) {i j:Nat}{x:α} (a:ρ[i]? = some x) (b:ρ[j]? = some x):i=j:=by
 induction ρ generalizing i j with
 | nil=>simp at a
 | cons y r ih =>
  rw[List.nodup_cons] at hN
  cases i with
  | zero =>
   cases j with
   | zero=>rfl
   | succ j =>
    simp at a b
    subst a
    exact absurd (List.mem_of_getElem? b) hN.1
  | succ i =>
   cases j with
   | zero =>
    simp at a b
    subst b
    exact absurd (List.mem_of_getElem? a) hN.1
   | succ j =>
    simp at a b
    rw[ih hN.2 a b]
theorem zMd {α:Type}{l:List α} (h:∀ (i j:Nat) x,l[i]? = some x->l[j]? = some x->i=j):l.Nodup:=by
 induction l with
 | nil=>exact List.nodup_nil
 | cons y r ih =>
  refine List.nodup_cons.mpr ⟨fun m=>?_,ih fun i j x a b=>?_⟩
  ·obtain⟨j,hj,e⟩:=List.mem_iff_getElem.mp m
   have:=h 0 (j+1) y (by simp) (by simp[e,hj])
   omega
  ·have:=h (i+1) (j+1) x (by simpa using a) (by simpa using b)
   omega
theorem zLJ {α:Type}{l:List α} (hN:l.Nodup) {i j:Nat} (hi:i < l.length) (hj:j < l.length) (e:l[i]=l[j]):i=j :=
 zB4 hN (x:=l[i]) (by simp[hi]) (by rw[e];simp[hj])
theorem zf.put (h:zf K Θ ρ S H) {i:Nat}{a:Addr} (ha:ρ[i]? = some a) {o:M.O}{u:HO} (mu:Mut (H a)) (r:ObR K Θ ρ (upd H a u) a o):zf K Θ ρ (S.set i o) (upd H a u):=by
 refine⟨by simp[h.len],h.nd,fun j ob q=>?_⟩
 by_cases hj:i=j
 ·subst hj
  by_cases hl:i < S.length
  ·rw[List.getElem?_set_self hl] at q
   cases q
   exact⟨a,ha,r⟩
  ·rw[List.getElem?_eq_none (by rw[List.length_set];omega)] at q
   cases q
 ·rw[List.getElem?_set_ne hj] at q
  obtain⟨b,h1,h2⟩:=h.obj j ob q
  refine⟨b,h1,h2.stay (List.prefix_refl _) (Le.put mu u) (zk fun z=>?_)⟩
  subst z
  exact hj (zB4 h.nd ha h1)
end
def zG {α β:Type} (K:PySem.W.Frag) (Θ:Tab) (Rl:List Addr->Hp->α->β->Prop) (ρ:List Addr) (H:Hp):M.R α->(β->Hp->Prop)->Prop
 | .ok a S',Q=>∀ ρ' H' b,ρ <+: ρ'->Le H H'->zf K Θ ρ' S' H'->Rl ρ' H' a b->Q b H'
 | .exc _ _,_=>False
 | .no,_=>False
abbrev rB:List Addr->Hp->Bool->Bool->Prop:=fun _ _ a b=>a=b
abbrev rO:List Addr->Hp->Option Int->Option Int->Prop:=fun _ _ a b=>a=b
section
variable {K:PySem.W.Frag}{Θ:Tab}{ρ ρ':List Addr}{H H':Hp}{S:M.S}{α β γ δ:Type}{Rl:List Addr->Hp->α->β->Prop}{Rk:List Addr->Hp->γ->δ->Prop}{Q:β->Hp->Prop}{Q':δ->Hp->Prop}
theorem zG.weak {r:M.R α} (h:zG K Θ Rl ρ H r Q) (hρ:ρ <+: ρ') (le:Le H H'):zG K Θ Rl ρ' H' r Q:=by
 cases r with
 | ok a s=>exact fun ρ2 H2 b p l=>h ρ2 H2 b (hρ.trans p) (le.trans l)
 | exc e s=>exact h
 | no=>exact h
theorem zG.bind {r:M.R α}{f:α->M.S->M.R γ} (h:zG K Θ Rk ρ H (r.bind f) Q')
  (k:∀ ρ' H' a b S',ρ <+: ρ'->Le H H'->zf K Θ ρ' S' H'->Rl ρ' H' a b->zG K Θ Rk ρ' H' (f a S') Q'->Q b H'):zG K Θ Rl ρ H r Q:=by
 cases r with
 | ok a s=>exact fun ρ2 H2 b p l rp rl=>k ρ2 H2 a b s p l rp rl (zG.weak h p l)
 | exc e s=>exact h
 | no=>exact h
theorem zG.here {a:α}{b:β} (h:zG K Θ Rl ρ H (.ok a S) Q) (rp:zf K Θ ρ S H) (rl:Rl ρ H a b):Q b H:=h ρ H b (List.prefix_refl _) (Le.refl _) rp rl
end
def RdE (K:PySem.W.Frag) (Θ:Tab) (m:M.EM):TE:=fun σ H Q=>∃ ρ σ' S,jV K ρ H σ' σ/\zf K Θ ρ S H/\zG K Θ (zQ K) ρ H (m σ' S) Q
def RdT (K:PySem.W.Frag) (Θ:Tab) (m:M.TM):TT:=fun σ H Q=>∃ ρ σ' S,jV K ρ H σ' σ/\zf K Θ ρ S H/\zG K Θ rB ρ H (m σ' S) Q
def RdA (K:PySem.W.Frag) (Θ:Tab) (m:M.AM):TA:=fun σ H Q=>∃ ρ σ' S,jV K ρ H σ' σ/\zf K Θ ρ S H/\zG K Θ (zM K) ρ H (m σ' S) Q
def RdO (K:PySem.W.Frag) (Θ:Tab) (m:M.OM):TO:=fun σ H Q=>∃ ρ σ' S,jV K ρ H σ' σ/\zf K Θ ρ S H/\zG K Θ rO ρ H (m σ' S) Q
abbrev ME (X:Cx) (Θ:Tab) (e:Expr) (m:M.EM):Prop:=PE X e (RdE X.K Θ m)
@[irreducible] def WE (X:Cx) (Θ:Tab) (e:Expr) (m:M.EM):Prop:=ME X Θ e m
abbrev MT (X:Cx) (Θ:Tab) (e:Expr) (m:M.TM):Prop:=PT X e (RdT X.K Θ m)
@[irreducible] def WT (X:Cx) (Θ:Tab) (e:Expr) (m:M.TM):Prop:=MT X Θ e m
abbrev MW (X:Cx) (Θ:Tab) (e:Expr) (m:M.TM):Prop:=PW X e (RdT X.K Θ m)
@[irreducible] def WW (X:Cx) (Θ:Tab) (e:Expr) (m:M.TM):Prop:=MW X Θ e m
abbrev MA (X:Cx) (Θ:Tab) (es:List Expr) (m:M.AM):Prop:=PA X es (RdA X.K Θ m)
@[irreducible] def WA (X:Cx) (Θ:Tab) (es:List Expr) (m:M.AM):Prop:=MA X Θ es m
abbrev MO (X:Cx) (Θ:Tab) (e:Option Expr) (m:M.OM):Prop:=PO X e (RdO X.K Θ m)
@[irreducible] def WO (X:Cx) (Θ:Tab) (e:Option Expr) (m:M.OM):Prop:=MO X Θ e m
theorem PE.imp {X:Cx}{e:Expr}{t t':TE} (h:PE X e t) (i:∀ σ H Q,t' σ H Q->t σ H Q):PE X e t':=fun pins s σ H Q I q=>h pins s σ H Q I (i σ H Q q)
theorem PT.imp {X:Cx}{e:Expr}{t t':TT} (h:PT X e t) (i:∀ σ H Q,t' σ H Q->t σ H Q):PT X e t':=fun pins s σ H Q I q=>h pins s σ H Q I (i σ H Q q)
theorem PW.imp {X:Cx}{e:Expr}{t t':TT} (h:PW X e t) (i:∀ σ H Q,t' σ H Q->t σ H Q):PW X e t':=fun wh pins s σ H Q I q=>h wh pins s σ H Q I (i σ H Q q)
theorem PA.imp {X:Cx}{es:List Expr}{t t':TA} (h:PA X es t) (i:∀ σ H Q,t' σ H Q->t σ H Q):PA X es t':=fun pos pins s σ H Q I q=>h pos pins s σ H Q I (i σ H Q q)
theorem PO.imp {X:Cx}{e:Option Expr}{t t':TO} (h:PO X e t) (i:∀ σ H Q,t' σ H Q->t σ H Q):PO X e t':=fun pins s σ H Q I q=>h pins s σ H Q I (i σ H Q q)
def jI:Expr->Bool
 | .Starred _ _=>false
 | _=>true
theorem j3 {e:Expr}{es:List Expr}{env:Env} (h:jI e=true):starEach (e::es) env=(false,eval e env)::starEach es env:=by
 cases e<;>first | rfl | cases h
theorem QC {env:Env}{pos:Pos}:∀ {es:List Expr},es.all jI=true->(backTo pos (starEach es env)).any (·.1)=false
 | [],_=>rfl
 | e::es,h=>by
  rw[List.all_cons,Bool.and_eq_true] at h
  rw[j3 h.1]
  show (false || (backTo pos (starEach es env)).any (·.1))=false
  rw[QC h.2];rfl
theorem zGq {env:Env}{pos:Pos}:∀ {es:List Expr},es.all jI=true->(backTo pos (starEach es env)).all (fun x=>!x.1)=true
 | [],_=>rfl
 | e::es,h=>by
  rw[List.all_cons,Bool.and_eq_true] at h
  rw[j3 h.1]
  show (true && (backTo pos (starEach es env)).all (fun x=>!x.1))=true
  rw[zGq h.2];rfl
theorem zGX {env:Env}{pos:Pos}{es:List Expr} (h:es.all jI=true) (hl:es.length < 30):((backTo pos (starEach es env)).all (fun x=>!x.1) && (backToKw pos (keywordEach [] env)).all (fun x=>x.1.isSome)
  && decide (es.length+([]:List Keyword).length+(if ([]:List Keyword).isEmpty then 0 else 1) < 30))=true:=by
 rw[zGq h,Bool.true_and,Bool.and_eq_true]
 exact⟨rfl,decide_eq_true (by simpa using hl)⟩
section
variable {X:Cx}{Θ:Tab}{a b c:Expr}{pos:Pos}{ma mb mc:M.EM}{ta tb:M.TM}{qF:List Expr}
theorem zPa (i:Nat) {x:Str} (hN:X.N[i]? = some x:=by rfl) (hv:Vis X.env.scope x:=by first | exact Or.inl rfl | exact Or.inr (Or.inl rfl) | exact Or.inr (Or.inr rfl)) (hd:(x == ("__debug__" : Str))=false:=by decide)
  (hcd:(x == ("__classdict__" : Str))=false:=by decide):ME X Θ (.Name x pos) (M.zA i):=(zPL hN hv hd hcd).imp fun σ H Q ⟨ρ,σ',S,st,rp,h⟩=>by
 unfold M.zA at h
 split at h
 ·rename_i d e
  obtain⟨v,e1,r⟩:=st.get i d e
  exact⟨v,e1,h.here rp r⟩
 ·exact h.elim
theorem zHg (i:Nat) {x:Str} (hN:X.N[i]? = some x:=by rfl) (hv:Vis X.env.scope x:=by first | exact Or.inl rfl | exact Or.inr (Or.inl rfl) | exact Or.inr (Or.inr rfl)) (hd:(x == ("__debug__" : Str))=false:=by decide)
  (hcd:(x == ("__classdict__" : Str))=false:=by decide):WE X Θ (.Name x pos) (M.zA i):=by with_unfolding_all exact zPa i (x:=x) hN hv hd hcd
theorem zET {e:Expr}{v:V}{d:M.D} (h:PE X e (tC v)) (r:∀ ρ H,zQ X.K ρ H d v):ME X Θ e (M.eC d):=h.imp fun σ H Q ⟨ρ,σ',S,st,rp,h⟩=>h.here rp (r ρ H)
theorem zP9 {i:Int}{j:Nat}:ME X Θ (.Constant (.int i) j pos) (M.eC (.int i)):=zET zPw fun _ _=>rfl
theorem zP {i:Int}{j:Nat}:WE X Θ (.Constant (.int i) j pos) (M.eC (.int i)):=by with_unfolding_all exact zP9 (i:=i) (j:=j)
theorem zQT {k:Bool}{j:Nat}:ME X Θ (.Constant (.bool k) j pos) (M.eC (.bl k)):=zET zQa fun _ _=>rfl
theorem qZ {k:Bool}{j:Nat}:WE X Θ (.Constant (.bool k) j pos) (M.eC (.bl k)):=by with_unfolding_all exact zQT (k:=k) (j:=j)
theorem zO8 {j:Nat}:ME X Θ (.Constant .none j pos) (M.eC .non):=zET zPs fun _ _=>rfl
theorem zMH {j:Nat}:WE X Θ (.Constant .none j pos) (M.eC .non):=by with_unfolding_all exact zO8 (j:=j)
theorem zOt {y:M.T}{x:Str}{j:Nat} (h:x=ofT y) (ok:okT y):ME X Θ (.Constant (.str x) j pos) (M.eC (.str y)):=zET zK7 fun _ _=>by rw[h];exact⟨rfl,ok⟩
theorem zMh {y:M.T}{x:Str}{j:Nat} (h:x=ofT y) (ok:okT y):WE X Θ (.Constant (.str x) j pos) (M.eC (.str y)):=by with_unfolding_all exact zOt (y:=y) (x:=x) (j:=j) h ok
theorem zQt (n:M.Kd) {x:Str} (hg:Gl X x) (hm:X.mg x=none) (hv:bootBuiltins x=some (.type (q0 n))) (hn:x ≠ "__name__" := by decide) (hd:(x == ("__debug__" : Str))=false:=by decide):ME X Θ (.Name x pos) (M.eC (.ty n)) :=
 zET (zM7 (v:=.ty (q0 n)) hg hm hv rfl hn hd) fun _ _=>rfl
theorem zIS (n:M.Kd) {x:Str} (hg:Gl X x) (hm:X.mg x=none) (hv:bootBuiltins x=some (.type (q0 n))) (hn:x ≠ "__name__" := by decide) (hd:(x == ("__debug__" : Str))=false:=by decide):WE X Θ (.Name x pos) (M.eC (.ty n)):=by with_unfolding_all exact zQt n (x:=x) hg hm hv hn hd
def Ad2 (K:PySem.W.Frag) (Θ:Tab) (f:M.D->M.D->M.S->M.R M.D) (r:R2):Prop:=∀ ρ H S x y X Y Q,zf K Θ ρ S H->zQ K ρ H x X->zQ K ρ H y Y->zG K Θ (zQ K) ρ H (f x y S) Q->r X Y H Q
def AdC (K:PySem.W.Frag) (Θ:Tab) (f:M.CM) (r:R2):Prop:=∀ ρ H S x y X Y (Q:VK),zf K Θ ρ S H->zQ K ρ H x X->zQ K ρ H y Y->zG K Θ rB ρ H (f x y S) (fun b H'=>Q (.bl b) H')->r X Y H Q
def AdN (K:PySem.W.Frag) (Θ:Tab) (f:M.F) (r:List V->Hp->VK->Prop):Prop:=∀ ρ H S xs Xs Q,zf K Θ ρ S H->zM K ρ H xs Xs->zG K Θ (zQ K) ρ H (f xs S) Q->r Xs H Q
def AdM (K:PySem.W.Frag) (Θ:Tab) (f:M.D->M.F) (r:V->List V->Hp->VK->Prop):Prop :=
 ∀ ρ H S x xs X Xs Q,zf K Θ ρ S H->zQ K ρ H x X->zM K ρ H xs Xs->zG K Θ (zQ K) ρ H (f x xs S) Q->r X Xs H Q
theorem zQd {op:Operator}{f:M.D->M.D->M.S->M.R M.D}{r:R2} (ho:OpR X (binaryOp op) r) (ad:Ad2 X.K Θ f r) (ha:ME X Θ a ma) (hb:ME X Θ b mb):ME X Θ (.BinOp a op b pos) (M.eOp f ma mb) :=
 (zQX ho ha hb).imp fun σ H Q ⟨ρ,σ',S,st,rp,h⟩=>⟨ρ,σ',S,st,rp,zG.bind h fun ρ1 H1 x X1 S1 p1 l1 rp1 rx h1=>⟨ρ1,σ',S1,st.mono p1 l1,rp1,
  zG.bind h1 fun ρ2 H2 y Y S2 p2 l2 rp2 ry h2=>ad ρ2 H2 S2 x y X1 Y Q rp2 (rx.mono p2 l2) ry h2⟩⟩
theorem zX {op:Operator}{f:M.D->M.D->M.S->M.R M.D}{r:R2} (ho:OpR X (binaryOp op) r) (ad:Ad2 X.K Θ f r) (ha:WE X Θ a ma) (hb:WE X Θ b mb):WE X Θ (.BinOp a op b pos) (M.eOp f ma mb):=by with_unfolding_all exact zQd (op:=op) (f:=f) (r:=r) ho ad ha hb
def zHH:Expr->Bool
 | .Slice _ _ _ _=>false
 | .Tuple _ _ _=>false
 | _=>true
theorem zLn {b:Expr} (h:zHH b=true):zIF b:=fun o i=>by
 cases b<;>first | rfl | cases h
theorem zQM {f:M.D->M.D->M.S->M.R M.D}{r:R2} (ho:IxR X r) (ad:Ad2 X.K Θ f r) (ha:ME X Θ a ma) (hb:ME X Θ b mb) (hs:zHH b=true:=by rfl):ME X Θ (.Subscript a b pos) (M.eOp f ma mb) :=
 (zQh ho ha hb (zLn hs)).imp fun σ H Q ⟨ρ,σ',S,st,rp,h⟩=>⟨ρ,σ',S,st,rp,zG.bind h fun ρ1 H1 x X1 S1 p1 l1 rp1 rx h1=>⟨ρ1,σ',S1,st.mono p1 l1,rp1,
  zG.bind h1 fun ρ2 H2 y Y S2 p2 l2 rp2 ry h2=>ad ρ2 H2 S2 x y X1 Y Q rp2 (rx.mono p2 l2) ry h2⟩⟩
theorem jG {f:M.D->M.D->M.S->M.R M.D}{r:R2} (ho:IxR X r) (ad:Ad2 X.K Θ f r) (ha:WE X Θ a ma) (hb:WE X Θ b mb) (hs:zHH b=true:=by rfl):WE X Θ (.Subscript a b pos) (M.eOp f ma mb):=by with_unfolding_all exact zQM (f:=f) (r:=r) ho ad ha hb hs
theorem zQA {op:CmpOp}{f:M.CM}{r:R2} (ho:OpR X (compareOp op) r) (ad:AdC X.K Θ f r) (ha:ME X Θ a ma) (hb:ME X Θ b mb) (hm:behindInMarks op b=false):ME X Θ (.Compare a [op] [b] pos) (M.zAI f ma mb) :=
 (zNk ho ha hb hm).imp fun σ H Q ⟨ρ,σ',S,st,rp,h⟩=>⟨ρ,σ',S,st,rp,zG.bind h fun ρ1 H1 x X1 S1 p1 l1 rp1 rx h1=>⟨ρ1,σ',S1,st.mono p1 l1,rp1,
  zG.bind h1 fun ρ2 H2 y Y S2 p2 l2 rp2 ry h2=>ad ρ2 H2 S2 x y X1 Y Q rp2 (rx.mono p2 l2) ry (zG.bind h2 fun ρ3 H3 k k' S3 p3 l3 rp3 e h3=>by cases e;exact h3.here rp3 rfl)⟩⟩
theorem zBo {op:CmpOp}{f:M.CM}{r:R2} (ho:OpR X (compareOp op) r) (ad:AdC X.K Θ f r) (ha:WE X Θ a ma) (hb:WE X Θ b mb) (hm:behindInMarks op b=false):WE X Θ (.Compare a [op] [b] pos) (M.zAI f ma mb):=by with_unfolding_all exact zQA (op:=op) (f:=f) (r:=r) ho ad ha hb hm
theorem zOh {op:CmpOp}{f:M.CM}{r:R2} (ho:OpR X (compareOp op) r) (ad:AdC X.K Θ f r) (ha:ME X Θ a ma) (hb:ME X Θ b mb) (hm:behindInMarks op b=false):MT X Θ (.Compare a [op] [b] pos) (M.zc f ma mb) :=
 (zNl ho ha hb hm).imp fun σ H Q ⟨ρ,σ',S,st,rp,h⟩=>⟨ρ,σ',S,st,rp,zG.bind h fun ρ1 H1 x X1 S1 p1 l1 rp1 rx h1=>⟨ρ1,σ',S1,st.mono p1 l1,rp1,
  zG.bind h1 fun ρ2 H2 y Y S2 p2 l2 rp2 ry h2=>ad ρ2 H2 S2 x y X1 Y _ rp2 (rx.mono p2 l2) ry (by
   revert h2
   cases f x y S2 with
   | ok k s=>exact fun h2 ρ3 H3 k' p3 l3 rp3 e=>⟨k',rfl,h2 ρ3 H3 k' p3 l3 rp3 e⟩
   | exc e s=>exact fun h2=>h2
   | no=>exact fun h2=>h2)⟩⟩
theorem jN {op:CmpOp}{f:M.CM}{r:R2} (ho:OpR X (compareOp op) r) (ad:AdC X.K Θ f r) (ha:WE X Θ a ma) (hb:WE X Θ b mb) (hm:behindInMarks op b=false):WT X Θ (.Compare a [op] [b] pos) (M.zc f ma mb):=by with_unfolding_all exact zOh (op:=op) (f:=f) (r:=r) ho ad ha hb hm
theorem zHr {K:PySem.W.Frag}{ρ:List Addr}{H:Hp}{x:M.D}{v:V} (r:zQ K ρ H x v):decide (v=.non)=M.zB9 x:=by
 cases x with
 | non=>cases r;rfl
 | bl b=>cases r;rfl
 | int b=>cases r;rfl
 | str b=>obtain⟨rfl,_⟩:=r;rfl
 | ty b=>cases r;rfl
 | ref i=>obtain⟨_,rfl,_⟩:=r;rfl
 | tup i=>obtain⟨_,_,rfl,_⟩:=r;rfl
 | ro i=>obtain⟨_,_,rfl,_⟩:=r;rfl
theorem zOi {j pos'} (ha:ME X Θ a ma):ME X Θ (.Compare a [.Is] [.Constant .none j pos'] pos) (M.zJH ma):=(zPt (zKE ha)).imp fun σ H Q ⟨ρ,σ',S,st,rp,h⟩=>⟨ρ,σ',S,st,rp,zG.bind h fun ρ1 H1 x X1 S1 p1 l1 rp1 rx h1=>h1.here rp1 (by
 show V.bl _=V.bl _
 rw[zHr rx])⟩
theorem zMM {j pos'} (ha:WE X Θ a ma):WE X Θ (.Compare a [.Is] [.Constant .none j pos'] pos) (M.zJH ma):=by with_unfolding_all exact zOi (j:=j) (pos':=pos') ha
theorem zOf {j pos'} (ha:ME X Θ a ma):MT X Θ (.Compare a [.Is] [.Constant .none j pos'] pos) (M.Qz ma):=(zKV (zKE ha)).imp fun σ H Q ⟨ρ,σ',S,st,rp,h⟩=>⟨ρ,σ',S,st,rp,zG.bind h fun ρ1 H1 x X1 S1 p1 l1 rp1 rx h1=>⟨_,rfl,by
 rw[zHr rx];exact h1.here rp1 rfl⟩⟩
theorem zDp {j pos'} (ha:WE X Θ a ma):WT X Θ (.Compare a [.Is] [.Constant .none j pos'] pos) (M.Qz ma):=by with_unfolding_all exact zOf (j:=j) (pos':=pos') ha
theorem zNL {j pos'} (ha:ME X Θ a ma):MT X Θ (.Compare a [.IsNot] [.Constant .none j pos'] pos) (M.yS ma):=(zKV (zNX ha)).imp fun σ H Q ⟨ρ,σ',S,st,rp,h⟩=>⟨ρ,σ',S,st,rp,zG.bind h fun ρ1 H1 x X1 S1 p1 l1 rp1 rx h1=>⟨_,rfl,by
 rw[zHr rx];exact h1.here rp1 rfl⟩⟩
theorem zA5 {j pos'} (ha:WE X Θ a ma):WT X Θ (.Compare a [.IsNot] [.Constant .none j pos'] pos) (M.yS ma):=by with_unfolding_all exact zNL (j:=j) (pos':=pos') ha
theorem zJl (ha:MT X Θ a ta):MW X Θ (.BoolOp .And [a] pos) ta:=zN0 ha
theorem zAu (ha:WT X Θ a ta):WW X Θ (.BoolOp .And [a] pos) ta:=by with_unfolding_all exact zJl ha
theorem zKC (ha:MT X Θ a ta):MW X Θ (.BoolOp .Or [a] pos) ta:=zPl ha
theorem ZH (ha:WT X Θ a ta):WW X Θ (.BoolOp .Or [a] pos) ta:=by with_unfolding_all exact zKC ha
theorem zOm (ha:MT X Θ a ta) (hb:MW X Θ (.BoolOp .And (b::qF) pos) tb):MW X Θ (.BoolOp .And (a::b::qF) pos) (M.JS ta tb) :=
 (zQC ha hb).imp fun σ H Q ⟨ρ,σ',S,st,rp,h⟩=>⟨ρ,σ',S,st,rp,zG.bind h fun ρ1 H1 k k' S1 p1 l1 rp1 e h1=>by
  cases e
  cases k with
  | true=>exact zEu ⟨ρ1,σ',S1,st.mono p1 l1,rp1,h1⟩
  | false=>exact zEi (zG.here (b:=false) h1 rp1 rfl)⟩
theorem zDh (ha:WT X Θ a ta) (hb:WW X Θ (.BoolOp .And (b::qF) pos) tb):WW X Θ (.BoolOp .And (a::b::qF) pos) (M.JS ta tb):=by with_unfolding_all exact zOm ha hb
theorem zQP (ha:MT X Θ a ta) (hb:MW X Θ (.BoolOp .Or (b::qF) pos) tb):MW X Θ (.BoolOp .Or (a::b::qF) pos) (M.tOr ta tb) :=
 (zQU ha hb).imp fun σ H Q ⟨ρ,σ',S,st,rp,h⟩=>⟨ρ,σ',S,st,rp,zG.bind h fun ρ1 H1 k k' S1 p1 l1 rp1 e h1=>by
  cases e
  cases k with
  | true=>exact zEu (zG.here (b:=true) h1 rp1 rfl)
  | false=>exact zEi ⟨ρ1,σ',S1,st.mono p1 l1,rp1,h1⟩⟩
theorem Jo (ha:WT X Θ a ta) (hb:WW X Θ (.BoolOp .Or (b::qF) pos) tb):WW X Θ (.BoolOp .Or (a::b::qF) pos) (M.tOr ta tb):=by with_unfolding_all exact zQP ha hb
theorem zOp (ha:MT X Θ a ta):MT X Θ (.UnaryOp .Not a pos) (M.ZE ta):=(zPA ha).imp fun σ H Q ⟨ρ,σ',S,st,rp,h⟩=>⟨ρ,σ',S,st,rp,zG.bind h fun ρ1 H1 k k' S1 p1 l1 rp1 e h1=>by
 cases e;exact zG.here (b:=!k) h1 rp1 rfl⟩
theorem Q0 (ha:WT X Θ a ta):WT X Θ (.UnaryOp .Not a pos) (M.ZE ta):=by with_unfolding_all exact zOp ha
theorem zOZ {op} (ha:ME X Θ a ma):ME X Θ (.BoolOp op [a] pos) ma:=zPo ha
theorem zLv {op} (ha:WE X Θ a ma):WE X Θ (.BoolOp op [a] pos) ma:=by with_unfolding_all exact zOZ (op:=op) ha
theorem zPg {K:PySem.W.Frag}{γ δ:Type}{Rk:List Addr->Hp->γ->δ->Prop}{ρ:List Addr}{H:Hp}{x:M.D}{v:V}{S:M.S}{f:Bool->M.S->M.R γ}{Q:δ->Hp->Prop} (r:zQ K ρ H x v) (h:zG K Θ Rk ρ H ((M.asB x S).bind f) Q):∃ k,v=.bl k/\zG K Θ Rk ρ H (f k S) Q:=by
 cases x with
 | bl b=>cases r;exact⟨b,rfl,h⟩
 | _=>exact h.elim
theorem zPm (ha:ME X Θ a ma) (hb:ME X Θ (.BoolOp .And (b::qF) pos) mb):ME X Θ (.BoolOp .And (a::b::qF) pos) (M.zJM ma mb) :=
 (zPX ha hb).imp fun σ H Q ⟨ρ,σ',S,st,rp,h⟩=>⟨ρ,σ',S,st,rp,zG.bind h fun ρ1 H1 x X1 S1 p1 l1 rp1 rx h1=>by
  obtain⟨k,e,h2⟩:=zPg rx h1
  refine⟨k,e,?_⟩
  cases k with
  | true=>exact zEu ⟨ρ1,σ',S1,st.mono p1 l1,rp1,h2⟩
  | false=>exact zEi (zG.here (b:=V.bl false) h2 rp1 rfl)⟩
theorem zMQ (ha:WE X Θ a ma) (hb:WE X Θ (.BoolOp .And (b::qF) pos) mb):WE X Θ (.BoolOp .And (a::b::qF) pos) (M.zJM ma mb):=by with_unfolding_all exact zPm ha hb
theorem zEZ:MA X Θ [] M.zD:=zG3.imp fun σ H Q ⟨ρ,σ',S,st,rp,h⟩=>zG.here (b:=[]) h rp rfl
theorem zH:WA X Θ [] M.zD:=by with_unfolding_all exact zEZ
theorem zAb {e:Expr}{es:List Expr}{r:M.AM} (ha:ME X Θ e ma) (hr:MA X Θ es r) (hs:jI e=true:=by rfl):MA X Θ (e::es) (M.zB ma r) :=
 (zE6 ha hr (j3 hs)).imp fun σ H Q ⟨ρ,σ',S,st,rp,h⟩=>⟨ρ,σ',S,st,rp,zG.bind h fun ρ1 H1 x X1 S1 p1 l1 rp1 rx h1=>⟨ρ1,σ',S1,st.mono p1 l1,rp1,
  zG.bind h1 fun ρ2 H2 ys Ys S2 p2 l2 rp2 ry h2=>h2.here rp2 ⟨X1,Ys,rfl,rx.mono p2 l2,ry⟩⟩⟩
theorem zC {e:Expr}{es:List Expr}{r:M.AM} (ha:WE X Θ e ma) (hr:WA X Θ es r) (hs:jI e=true:=by rfl):WA X Θ (e::es) (M.zB ma r):=by with_unfolding_all exact zAb (e:=e) (es:=es) (r:=r) ha hr hs
theorem zP6 {es:List Expr}{r:M.AM}{x1} (hr:MA X Θ es r):ME X Θ (.Tuple es x1 pos) (M.Jp r):=(zOg hr).imp fun σ H Q ⟨ρ,σ',S,st,rp,h⟩=>⟨ρ,σ',S,st,rp,zG.bind h fun ρ1 H1 xs Xs S1 p1 l1 rp1 rx h1=>by
 by_cases hl:xs.length <= M.SZ
 ·rw[if_pos hl] at h1
  rw[Zc,rx.length] at hl
  exact⟨hl,fun p hp=>h1 ρ1 _ _ (List.prefix_refl _) (Le.new hp _) (rp1.aside hp _) ⟨p,Xs,rfl,SqT.of jM,rx.mono (List.prefix_refl _) (Le.new hp _)⟩⟩
 ·rw[if_neg hl] at h1
  exact h1.elim⟩
theorem zDU {es:List Expr}{r:M.AM}{x1} (hr:WA X Θ es r):WE X Θ (.Tuple es x1 pos) (M.Jp r):=by with_unfolding_all exact zP6 (es:=es) (r:=r) (x1:=x1) hr
theorem zG.alloc {K:PySem.W.Frag}{ρ:List Addr}{H:Hp}{S:M.S}{ds:List M.D}{xs:List V}{Q:VK} (h:zG K Θ (zQ K) ρ H (M.alloc (.lst ds) S) Q) (rp:zf K Θ ρ S H) (r:zM K ρ H ds xs) {p:Addr} (hp:H p=none):Q (.ref p) (upd H p (.lst xs)) :=
 h (ρ++[p]) _ _ (List.prefix_append _ _) (Le.new hp _) (rp.alloc hp ⟨xs,jM,r.mono (List.prefix_append _ _) (Le.new hp _)⟩) ⟨p,rfl,by rw[<- rp.len];simp⟩
theorem zPp {es:List Expr}{r:M.AM} (hr:MA X Θ es r):ME X Θ (.List es pos) (M.qD r):=(zOx hr).imp fun σ H Q ⟨ρ,σ',S,st,rp,h⟩=>⟨ρ,σ',S,st,rp,zG.bind h fun ρ1 H1 xs Xs S1 p1 l1 rp1 rx h1=>by
 by_cases hl:xs.length <= M.SZ
 ·rw[if_pos hl] at h1
  rw[Zc,rx.length] at hl
  exact⟨hl,fun p hp=>h1.alloc rp1 rx hp⟩
 ·rw[if_neg hl] at h1
  exact h1.elim⟩
theorem qj {es:List Expr}{r:M.AM} (hr:WA X Θ es r):WE X Θ (.List es pos) (M.qD r):=by with_unfolding_all exact zPp (es:=es) (r:=r) hr
theorem zM9:MO X Θ none M.Qb:=zND.imp fun σ H Q ⟨ρ,σ',S,st,rp,h⟩=>zG.here (b:=none) h rp rfl
theorem Za:WO X Θ none M.Qb:=by with_unfolding_all exact zM9
theorem zN2 (ha:ME X Θ a ma):MO X Θ (some a) (M.qz ma):=(zNR ha).imp fun σ H Q ⟨ρ,σ',S,st,rp,h⟩=>⟨ρ,σ',S,st,rp,zG.bind h fun ρ1 H1 x X1 S1 p1 l1 rp1 rx h1=>by
 cases x with
 | int i=>cases rx;exact⟨i,rfl,zG.here (b:=some i) h1 rp1 rfl⟩
 | _=>exact h1.elim⟩
theorem qT (ha:WE X Θ a ma):WO X Θ (some a) (M.qz ma):=by with_unfolding_all exact zN2 ha
theorem zQS {lo hi:Option Expr}{p2:Pos}{ml mh:M.OM}{r:V->Option Int->Option Int->Hp->VK->Prop} (hr:SlR X r) (ad:∀ ρ H S x X1 l u Q,zf X.K Θ ρ S H->zQ X.K ρ H x X1->zG X.K Θ (zQ X.K) ρ H (M.slD x l u S) Q->r X1 l u H Q) (ha:ME X Θ a ma) (hl:MO X Θ lo ml) (hh:MO X Θ hi mh) :
  ME X Θ (.Subscript a (.Slice lo hi none p2) pos) (M.eSl ma ml mh):=(zLV hr ha hl hh).imp fun σ H Q ⟨ρ,σ',S,st,rp,h⟩=>⟨ρ,σ',S,st,rp,zG.bind h fun ρ1 H1 x X1 S1 p1 l1 rp1 rx h1=>⟨ρ1,σ',S1,st.mono p1 l1,rp1,
  zG.bind h1 fun ρ2 H2 l l' S2 p2 l2 rp2 e2 h2=>by
   cases e2
   exact⟨ρ2,σ',S2,st.mono (p1.trans p2) (l1.trans l2),rp2,zG.bind h2 fun ρ3 H3 u u' S3 p3 l3 rp3 e3 h3=>by
    cases e3
    exact ad ρ3 H3 S3 x X1 l u Q rp3 (rx.mono (p2.trans p3) (l2.trans l3)) h3⟩⟩⟩
theorem ZW {lo hi:Option Expr}{p2:Pos}{ml mh:M.OM}{r:V->Option Int->Option Int->Hp->VK->Prop} (hr:SlR X r) (ad:∀ ρ H S x X1 l u Q,zf X.K Θ ρ S H->zQ X.K ρ H x X1->zG X.K Θ (zQ X.K) ρ H (M.slD x l u S) Q->r X1 l u H Q) (ha:WE X Θ a ma) (hl:WO X Θ lo ml) (hh:WO X Θ hi mh) :
  WE X Θ (.Subscript a (.Slice lo hi none p2) pos) (M.eSl ma ml mh):=by with_unfolding_all exact zQS (lo:=lo) (hi:=hi) (p2:=p2) (ml:=ml) (mh:=mh) (r:=r) hr ad ha hl hh
theorem zMF {x:Str}{p:Pos}{id:String}{e:Expr}{es:List Expr}{f:M.F}{r:List V->Hp->VK->Prop}{m:M.AM} (hc:qQ X (.builtin id) r) (ad:AdN X.K Θ f r) (hg:Gl X x) (hm:X.mg x=none) (hv:bootBuiltins x=some (.builtin id)) (ha:MA X Θ (e::es) m)
  (hn:x ≠ "__name__" := by decide) (hdb:(x == ("__debug__" : Str))=false:=by decide) (he:jI e=true:=by rfl) (hpl:es.all jI=true:=by rfl) :
  ME X Θ (.Call (.Name x p) (e::es) [] pos) (M.zI f m):=(zHb hc hg hm hv ha hn hdb (j3 he) (QC hpl)).imp fun σ H Q ⟨ρ,σ',S,st,rp,h⟩=>⟨ρ,σ',S,st,rp,zG.bind h fun ρ1 H1 xs Xs S1 p1 l1 rp1 rx h1=>ad ρ1 H1 S1 xs Xs Q rp1 rx h1⟩
theorem jJ {x:Str}{p:Pos}{id:String}{e:Expr}{es:List Expr}{f:M.F}{r:List V->Hp->VK->Prop}{m:M.AM} (hc:qQ X (.builtin id) r) (ad:AdN X.K Θ f r) (hg:Gl X x) (hm:X.mg x=none) (hv:bootBuiltins x=some (.builtin id)) (ha:WA X Θ (e::es) m)
  (hn:x ≠ "__name__" := by decide) (hdb:(x == ("__debug__" : Str))=false:=by decide) (he:jI e=true:=by rfl) (hpl:es.all jI=true:=by rfl) :
  WE X Θ (.Call (.Name x p) (e::es) [] pos) (M.zI f m):=by with_unfolding_all exact zMF (x:=x) (p:=p) (id:=id) (e:=e) (es:=es) (f:=f) (r:=r) (m:=m) hc ad hg hm hv ha hn hdb he hpl
theorem zKT {x:Str}{p:Pos}{T:String}{e:Expr}{es:List Expr}{f:M.F}{r:List V->Hp->VK->Prop}{m:M.AM} (hc:qQ X (.type T) r) (ad:AdN X.K Θ f r) (hg:Gl X x) (hm:X.mg x=none) (hv:bootBuiltins x=some (.type T)) (ha:MA X Θ (e::es) m)
  (hn:x ≠ "__name__" := by decide) (hdb:(x == ("__debug__" : Str))=false:=by decide) (he:jI e=true:=by rfl) (hpl:es.all jI=true:=by rfl) :
  ME X Θ (.Call (.Name x p) (e::es) [] pos) (M.zI f m):=(zKW hc hg hm hv ha hn hdb (j3 he) (QC hpl)).imp fun σ H Q ⟨ρ,σ',S,st,rp,h⟩=>⟨ρ,σ',S,st,rp,zG.bind h fun ρ1 H1 xs Xs S1 p1 l1 rp1 rx h1=>ad ρ1 H1 S1 xs Xs Q rp1 rx h1⟩
theorem ZF {x:Str}{p:Pos}{T:String}{e:Expr}{es:List Expr}{f:M.F}{r:List V->Hp->VK->Prop}{m:M.AM} (hc:qQ X (.type T) r) (ad:AdN X.K Θ f r) (hg:Gl X x) (hm:X.mg x=none) (hv:bootBuiltins x=some (.type T)) (ha:WA X Θ (e::es) m)
  (hn:x ≠ "__name__" := by decide) (hdb:(x == ("__debug__" : Str))=false:=by decide) (he:jI e=true:=by rfl) (hpl:es.all jI=true:=by rfl) :
  WE X Θ (.Call (.Name x p) (e::es) [] pos) (M.zI f m):=by with_unfolding_all exact zKT (x:=x) (p:=p) (T:=T) (e:=e) (es:=es) (f:=f) (r:=r) (m:=m) hc ad hg hm hv ha hn hdb he hpl
theorem zIG {K:PySem.W.Frag}{ρ:List Addr}{H:Hp}{S:M.S}{k:M.Kd}{x:M.D}{v:V} (rp:zf K Θ ρ S H) (r:zQ K ρ H x v) (h:M.ZX k x S=true):tyV K (q0 k) v H:=by
 cases x with
 | str z=>obtain⟨rfl,_⟩:=r;cases k<;>first | rfl | cases h
 | ro ds =>
  obtain⟨a,xs,rfl,q,_⟩:=r
  cases k<;>first | exact .inl ⟨rfl,xs,q.sq⟩ | cases h
 | ref i =>
  obtain⟨a,rfl,e⟩:=r
  cases q:S[i]? with
  | none=>simp[M.ZX,q] at h
  | some o =>
   cases o with
   | lst xs =>
    obtain⟨b,e1,zs,e2,_⟩:=rp.obj _ _ q
    rw[e] at e1;cases e1
    cases k<;>first | exact .inl ⟨rfl,zs,SqL.of e2⟩ | simp[M.ZX,q] at h
   | dct xs =>
    obtain⟨b,e1,zs,e2,_⟩:=rp.obj _ _ q
    rw[e] at e1;cases e1
    cases k<;>first | exact .inr (.inr (.inl ⟨rfl,.inl ⟨zs,e2⟩⟩)) | simp[M.ZX,q] at h
   | fdc _=>simp[M.ZX,q] at h
   | ins c fs=>simp[M.ZX,q] at h
 | _=>cases h
theorem zRR {k:M.Kd}{T:String}{f:M.D->M.F}{r:V->List V->Hp->VK->Prop}{o e:Expr}{es:List Expr}{mo:M.EM}{m:M.AM}{name:Str}{apos cpos:Pos}{id:String} (pa:PlainAttrs T) (slot:Slot T name id) (hty:typeOf (.builtin id)=pure (.type "method_descriptor")) (hm:MtR X id r) (ad:AdM X.K Θ f r) (hT:T=q0 k) (ho:ME X Θ o mo) (ha:MA X Θ (e::es) m)
  (hbase:attributeBase o name X.env (eval o X.env)=eval o X.env:=by rfl)
  (hfew:(e::es).length < 30:=by exact Nat.le_of_ble_eq_true rfl) (hline:(apos.endLine == cpos.line)=true:=by rfl) (hs:jI e=true:=by rfl) (hplain:es.all jI=true:=by rfl) :
  ME X Θ (.Call (.Attribute o name apos) (e::es) [] cpos) (M.eM k f mo m):=(zMr pa slot hty hm ho ha hbase (zGX (by rw[List.all_cons,hs,hplain];rfl) hfew) hline (j3 hs) (QC hplain)).imp fun σ H Q ⟨ρ,σ',S,st,rp,h⟩=>⟨ρ,σ',S,st,rp,zG.bind h fun ρ1 H1 x X1 S1 p1 l1 rp1 rx h1=>by
 cases ht:M.ZX k x S1 with
 | false=>rw[ht] at h1;exact h1.elim
 | true =>
  rw[ht] at h1
  exact⟨hT ▸ zIG rp1 rx ht,ρ1,σ',S1,st.mono p1 l1,rp1,zG.bind h1 fun ρ2 H2 xs Xs S2 p2 l2 rp2 rxs h2=>ad ρ2 H2 S2 x xs X1 Xs Q rp2 (rx.mono p2 l2) rxs h2⟩⟩
theorem Zp {k:M.Kd}{T:String}{f:M.D->M.F}{r:V->List V->Hp->VK->Prop}{o e:Expr}{es:List Expr}{mo:M.EM}{m:M.AM}{name:Str}{apos cpos:Pos}{id:String} (pa:PlainAttrs T) (slot:Slot T name id) (hty:typeOf (.builtin id)=pure (.type "method_descriptor")) (hm:MtR X id r) (ad:AdM X.K Θ f r) (hT:T=q0 k) (ho:WE X Θ o mo) (ha:WA X Θ (e::es) m)
  (hbase:attributeBase o name X.env (eval o X.env)=eval o X.env:=by rfl)
  (hfew:(e::es).length < 30:=by exact Nat.le_of_ble_eq_true rfl) (hline:(apos.endLine == cpos.line)=true:=by rfl) (hs:jI e=true:=by rfl) (hplain:es.all jI=true:=by rfl) :
  WE X Θ (.Call (.Attribute o name apos) (e::es) [] cpos) (M.eM k f mo m):=by with_unfolding_all exact zRR (k:=k) (T:=T) (f:=f) (r:=r) (o:=o) (e:=e) (es:=es) (mo:=mo) (m:=m) (name:=name) (apos:=apos) (cpos:=cpos) (id:=id) pa slot hty hm ad hT ho ha hbase hfew hline hs hplain
theorem zQI {k:M.Kd}{T:String}{f:M.D->M.F}{r:V->List V->Hp->VK->Prop}{o:Expr}{mo:M.EM}{name:Str}{apos cpos:Pos}{id:String} (pa:PlainAttrs T) (slot:Slot T name id) (hty:typeOf (.builtin id)=pure (.type "method_descriptor")) (hm:MtR X id r) (ad:AdM X.K Θ f r) (hT:T=q0 k) (ho:ME X Θ o mo)
  (hbase:attributeBase o name X.env (eval o X.env)=eval o X.env:=by rfl) (hline:(apos.endLine == cpos.line)=true:=by rfl) :
  ME X Θ (.Call (.Attribute o name apos) [] [] cpos) (M.eM k f mo M.zD):=(zP2 pa slot hty hm ho hbase hline).imp fun σ H Q ⟨ρ,σ',S,st,rp,h⟩=>⟨ρ,σ',S,st,rp,zG.bind h fun ρ1 H1 x X1 S1 p1 l1 rp1 rx h1=>by
 cases ht:M.ZX k x S1 with
 | false=>rw[ht] at h1;exact h1.elim
 | true =>
  rw[ht] at h1
  exact⟨hT ▸ zIG rp1 rx ht,ad ρ1 H1 S1 x [] X1 [] Q rp1 rx rfl h1⟩⟩
theorem zNq {k:M.Kd}{T:String}{f:M.D->M.F}{r:V->List V->Hp->VK->Prop}{o:Expr}{mo:M.EM}{name:Str}{apos cpos:Pos}{id:String} (pa:PlainAttrs T) (slot:Slot T name id) (hty:typeOf (.builtin id)=pure (.type "method_descriptor")) (hm:MtR X id r) (ad:AdM X.K Θ f r) (hT:T=q0 k) (ho:WE X Θ o mo)
  (hbase:attributeBase o name X.env (eval o X.env)=eval o X.env:=by rfl) (hline:(apos.endLine == cpos.line)=true:=by rfl) :
  WE X Θ (.Call (.Attribute o name apos) [] [] cpos) (M.eM k f mo M.zD):=by with_unfolding_all exact zQI (k:=k) (T:=T) (f:=f) (r:=r) (o:=o) (mo:=mo) (name:=name) (apos:=apos) (cpos:=cpos) (id:=id) pa slot hty hm ad hT ho hbase hline
end
end L2
namespace L2
open PySem PySem.Spec PyProof.Rows
def zn (K:PySem.W.Frag) (Θ:Tab) (ρ:List Addr) (H:Hp):M.RS->Jc->Prop
 | .nx σ1 S1,D=>∀ ρ' H' σ,ρ <+: ρ'->Le H H'->zf K Θ ρ' S1 H'->jV K ρ' H' σ1 σ->D.nx σ H'
 | .rt d S1,D=>∀ ρ' H' v,ρ <+: ρ'->Le H H'->zf K Θ ρ' S1 H'->zQ K ρ' H' d v->D.rt v H'
 | .bk σ1 S1,D=>∀ ρ' H' σ,ρ <+: ρ'->Le H H'->zf K Θ ρ' S1 H'->jV K ρ' H' σ1 σ->D.bk σ H'
 | .ct σ1 S1,D=>∀ ρ' H' σ,ρ <+: ρ'->Le H H'->zf K Θ ρ' S1 H'->jV K ρ' H' σ1 σ->D.ct σ H'
 | .exc _ _ _,_=>False
 | .no,_=>False
def RdS (K:PySem.W.Frag) (Θ:Tab) (m:M.SM):TS:=fun D σ H=>∃ ρ σ' S,jV K ρ H σ' σ/\zf K Θ ρ S H/\zn K Θ ρ H (m σ' S) D
abbrev MS (X:Cx) (Θ:Tab) (st:Stmt) (m:M.SM):Prop:=PS X st (RdS X.K Θ m)
@[irreducible] def WS (X:Cx) (Θ:Tab) (st:Stmt) (m:M.SM):Prop:=MS X Θ st m
abbrev MSs (X:Cx) (Θ:Tab) (st:List Stmt) (m:M.SM):Prop:=PSs X st (RdS X.K Θ m)
@[irreducible] def WSs (X:Cx) (Θ:Tab) (st:List Stmt) (m:M.SM):Prop:=MSs X Θ st m
theorem PS.imp {X:Cx}{e:Stmt}{t t':TS} (h:PS X e t) (i:∀ D σ H,t' D σ H->t D σ H):PS X e t':=fun pins s σ H D I q=>h pins s σ H D I (i D σ H q)
theorem PSs.imp {X:Cx}{e:List Stmt}{t t':TS} (h:PSs X e t) (i:∀ D σ H,t' D σ H->t D σ H):PSs X e t':=fun pins s σ H D I q=>h pins s σ H D I (i D σ H q)
section
variable {K:PySem.W.Frag}{Θ:Tab}{ρ ρ':List Addr}{H H':Hp}{S:M.S}{α β:Type}{Rl:List Addr->Hp->α->β->Prop}{Q:β->Hp->Prop}{D D':Jc}
theorem zn.weak {r:M.RS} (h:zn K Θ ρ H r D) (hρ:ρ <+: ρ') (le:Le H H'):zn K Θ ρ' H' r D:=by
 cases r with
 | nx a s=>exact fun ρ2 H2 b p l=>h ρ2 H2 b (hρ.trans p) (le.trans l)
 | rt a s=>exact fun ρ2 H2 b p l=>h ρ2 H2 b (hρ.trans p) (le.trans l)
 | bk a s=>exact fun ρ2 H2 b p l=>h ρ2 H2 b (hρ.trans p) (le.trans l)
 | ct a s=>exact fun ρ2 H2 b p l=>h ρ2 H2 b (hρ.trans p) (le.trans l)
 | exc e a s=>exact h
 | no=>exact h
theorem zn.stm {r:M.R α}{σ:M.St}{f:α->M.S->M.RS} (h:zn K Θ ρ H (r.stm σ f) D)
  (k:∀ ρ' H' a b S',ρ <+: ρ'->Le H H'->zf K Θ ρ' S' H'->Rl ρ' H' a b->zn K Θ ρ' H' (f a S') D->Q b H'):zG K Θ Rl ρ H r Q:=by
 cases r with
 | ok a s=>exact fun ρ2 H2 b p l rp rl=>k ρ2 H2 a b s p l rp rl (zn.weak h p l)
 | exc e s=>exact h
 | no=>exact h
theorem zn.nx {σ1:M.St}{σ:St} (h:zn K Θ ρ H (.nx σ1 S) D) (rp:zf K Θ ρ S H) (st:jV K ρ H σ1 σ):D.nx σ H:=h ρ H σ (List.prefix_refl _) (Le.refl _) rp st
theorem zn.rt {d:M.D}{v:V} (h:zn K Θ ρ H (.rt d S) D) (rp:zf K Θ ρ S H) (r:zQ K ρ H d v):D.rt v H:=h ρ H v (List.prefix_refl _) (Le.refl _) rp r
end
section
variable {X:Cx}{Θ:Tab}{e:Expr}{pos:Pos}{m:M.EM}{st:Stmt}{qF:List Stmt}{ms mr:M.SM}
theorem zNz:MSs X Θ [] M.jE:=zN4.imp fun D σ H ⟨ρ,σ',S,st,rp,h⟩=>h.nx rp st
theorem jL:WSs X Θ [] M.jE:=by with_unfolding_all exact zNz
theorem zOH (h:MS X Θ st ms):MSs X Θ [st] ms:=zNJ h
theorem zL (h:WS X Θ st ms):WSs X Θ [st] ms:=by with_unfolding_all exact zOH h
theorem zLL (h1:MS X Θ st ms) (h2:MSs X Θ qF mr):MSs X Θ (st::qF) (M.zJ ms mr):=(zMC h1 h2).imp fun D σ H ⟨ρ,σ',S,st,rp,h⟩=>⟨ρ,σ',S,st,rp,by
 have h':zn X.K Θ ρ H ((ms σ' S).then mr) D:=h
 revert h'
 cases ms σ' S with
 | nx a s=>exact fun h' ρ2 H2 σ2 p l rp2 st2=>⟨ρ2,a,s,st2,rp2,zn.weak h' p l⟩
 | rt a s=>exact fun h'=>h'
 | bk a s=>exact fun h'=>h'
 | ct a s=>exact fun h'=>h'
 | exc e a s=>exact fun h'=>h'
 | no=>exact fun h'=>h'⟩
theorem zF (h1:WS X Θ st ms) (h2:WSs X Θ qF mr):WSs X Θ (st::qF) (M.zJ ms mr):=by with_unfolding_all exact zLL h1 h2
theorem zNe (he:ME X Θ e m) (hs:swapsWith e none pos.line X.env=pure false:=by rfl):MS X Θ (.Expr e pos) (M.yR m):=(zNB he hs).imp fun D σ H ⟨ρ,σ',S,st,rp,h⟩=>⟨ρ,σ',S,st,rp,zn.stm h fun ρ1 H1 x X1 S1 p1 l1 rp1 rx h1=>h1.nx rp1 (st.mono p1 l1)⟩
theorem zAE (he:WE X Θ e m) (hs:swapsWith e none pos.line X.env=pure false:=by rfl):WS X Θ (.Expr e pos) (M.yR m):=by with_unfolding_all exact zNe he hs
theorem zO9 (he:ME X Θ e m):MS X Θ (.Return (some e) pos) (M.jK m):=(zPU he).imp fun D σ H ⟨ρ,σ',S,st,rp,h⟩=>⟨ρ,σ',S,st,rp,zn.stm h fun ρ1 H1 x X1 S1 p1 l1 rp1 rx h1=>h1.rt rp1 rx⟩
theorem zx (he:WE X Θ e m):WS X Θ (.Return (some e) pos) (M.jK m):=by with_unfolding_all exact zO9 he
theorem zPy {i:Nat}{x:Str}{pos':Pos} (hN:X.N.Nodup) (hi:X.N[i]? = some x) (hx:Loc X.env.scope x) (he:ME X Θ e m) (hs:swapsWith e (some (.Name x pos')) pos.line X.env=pure false:=by kernel_rfl) (hf:X.fn x=true\/X.env.scope.names.lookup x=some .local:=by first | exact .inl rfl | exact .inr rfl | assumption) :
  MS X Θ (.Assign [.Name x pos'] e pos) (M.zT i m):=(zPv hN hi hx he hs hf).imp fun D σ H ⟨ρ,σ',S,st,rp,h⟩=>⟨ρ,σ',S,st,rp,zn.stm h fun ρ1 H1 x X1 S1 p1 l1 rp1 rx h1=>h1.nx rp1 ((st.mono p1 l1).set rx i)⟩
theorem zY {i:Nat}{x:Str}{pos':Pos} (hN:X.N.Nodup) (hi:X.N[i]? = some x) (hx:Loc X.env.scope x) (he:WE X Θ e m) (hs:swapsWith e (some (.Name x pos')) pos.line X.env=pure false:=by kernel_rfl) (hf:X.fn x=true\/X.env.scope.names.lookup x=some .local:=by first | exact .inl rfl | exact .inr rfl | assumption) :
  WS X Θ (.Assign [.Name x pos'] e pos) (M.zT i m):=by with_unfolding_all exact zPy (i:=i) (x:=x) (pos':=pos') hN hi hx he hs hf
theorem zQL {c:Expr}{a b:List Stmt}{tc:M.TM}{ma mb:M.SM} (hc:MT X Θ c tc) (ha:MSs X Θ a ma) (hb:MSs X Θ b mb):MS X Θ (.If c a b pos) (M.sIf tc ma mb):=(zQQ hc ha hb).imp fun D σ H ⟨ρ,σ',S,st,rp,h⟩=>⟨ρ,σ',S,st,rp,zn.stm h fun ρ1 H1 k k' S1 p1 l1 rp1 ek h1=>by
 cases ek
 cases k with
 | true=>exact zEu ⟨ρ1,σ',S1,st.mono p1 l1,rp1,h1⟩
 | false=>exact zEi ⟨ρ1,σ',S1,st.mono p1 l1,rp1,h1⟩⟩
theorem jn {c:Expr}{a b:List Stmt}{tc:M.TM}{ma mb:M.SM} (hc:WT X Θ c tc) (ha:WSs X Θ a ma) (hb:WSs X Θ b mb):WS X Θ (.If c a b pos) (M.sIf tc ma mb):=by with_unfolding_all exact zQL (c:=c) (a:=a) (b:=b) (tc:=tc) (ma:=ma) (mb:=mb) hc ha hb
theorem zPd {i:Nat}{x:Str}{op:Operator}{f:M.D->M.D->M.S->M.R M.D}{r:R2}{pos':Pos} (hN:X.N.Nodup) (hi:X.N[i]? = some x) (hx:Loc X.env.scope x) (he:ME X Θ e m) (hop:PIp X op r) (ad:Ad2 X.K Θ f r)
  (hf:X.fn x=true\/X.env.scope.names.lookup x=some .local:=by first | exact .inl rfl | exact .inr rfl | assumption):MS X Θ (.AugAssign (.Name x pos') op e pos) (M.zHy f i m):=(zPq hN hi hx he hop hf).imp fun D σ H ⟨ρ,σ',S,st,rp,h⟩=>by
 unfold M.zHy at h
 split at h
 ·rename_i d e
  obtain⟨v,e1,rv⟩:=st.get i d e
  exact⟨v,e1,ρ,σ',S,st,rp,zn.stm h fun ρ1 H1 y Y S1 p1 l1 rp1 ry h1=>ad ρ1 H1 S1 d y v Y _ rp1 (rv.mono p1 l1) ry (zn.stm h1 fun ρ2 H2 z Z S2 p2 l2 rp2 rz h2=>h2.nx rp2 ((st.mono (p1.trans p2) (l1.trans l2)).set rz i))⟩
 ·exact h.elim
theorem zMR {i:Nat}{x:Str}{op:Operator}{f:M.D->M.D->M.S->M.R M.D}{r:R2}{pos':Pos} (hN:X.N.Nodup) (hi:X.N[i]? = some x) (hx:Loc X.env.scope x) (he:WE X Θ e m) (hop:PIp X op r) (ad:Ad2 X.K Θ f r)
  (hf:X.fn x=true\/X.env.scope.names.lookup x=some .local:=by first | exact .inl rfl | exact .inr rfl | assumption):WS X Θ (.AugAssign (.Name x pos') op e pos) (M.zHy f i m):=by with_unfolding_all exact zPd (i:=i) (x:=x) (op:=op) (f:=f) (r:=r) (pos':=pos') hN hi hx he hop ad hf
end
def RdG (K:PySem.W.Frag) (Θ:Tab) (js:List Nat) (g:M.GM):TG:=fun v σ H Q=>∃ ρ σ' S d,jV K ρ H σ' σ/\zf K Θ ρ S H/\zQ K ρ H d v/\∃ σ1,g d σ'=some σ1 /\
 ∀ H' σ2,Le H H'->zf K Θ ρ S H'->jV K ρ H' σ1 σ2->σ2.length=σ.length->(∀ j,j∉js->σ2[j]? = σ[j]?)->Q σ2 H'
abbrev MG (X:Cx) (Θ:Tab) (js:List Nat) (tg:Expr) (g:M.GM):Prop:=PG X tg (RdG X.K Θ js g)
@[irreducible] def WG (X:Cx) (Θ:Tab) (js:List Nat) (tg:Expr) (g:M.GM):Prop:=MG X Θ js tg g
theorem PG.imp {X:Cx}{e:Expr}{t t':TG} (h:PG X e t) (i:∀ v σ H Q,t' v σ H Q->t v σ H Q):PG X e t':=fun pins s σ H v u Q I r q=>h pins s σ H v u Q I r (i v σ H Q q)
theorem zNY {X:Cx}{Θ:Tab}{pos:Pos}{i:Nat}{x:Str} (hN:X.N.Nodup) (hi:X.N[i]? = some x) (hx:Loc X.env.scope x) (hf:X.fn x=true\/X.env.scope.names.lookup x=some .local:=by first | exact .inl rfl | exact .inr rfl | assumption) :
  MG X Θ [i] (.Name x pos) (M.zK i):=(zNm hN hi hx hf).imp fun v σ H Q ⟨ρ,σ',S,d,st,rp,rv,σ1,e,h⟩=>by
 cases e
 exact h H _ (Le.refl _) rp (st.set rv i) (by rw[List.length_set]) fun j hj=>List.getElem?_set_ne (fun z=>hj (by rw[z];simp))
theorem zo {X:Cx}{Θ:Tab}{pos:Pos}{i:Nat}{x:Str} (hN:X.N.Nodup) (hi:X.N[i]? = some x) (hx:Loc X.env.scope x) (hf:X.fn x=true\/X.env.scope.names.lookup x=some .local:=by first | exact .inl rfl | exact .inr rfl | assumption) :
  WG X Θ [i] (.Name x pos) (M.zK i):=by with_unfolding_all exact zNY (X:=X) (Θ:=Θ) (pos:=pos) (i:=i) (x:=x) hN hi hx hf
def zP7 (K:PySem.W.Frag) (Θ:Tab) (js:List Nat) (g:M.GMs):TGs:=fun vs σ H Q=>∃ ρ σ' S ds,jV K ρ H σ' σ/\zf K Θ ρ S H/\zM K ρ H ds vs/\∃ σ1,g ds σ'=some σ1 /\
 ∀ H' σ2,Le H H'->zf K Θ ρ S H'->jV K ρ H' σ1 σ2->σ2.length=σ.length->(∀ j,j∉js->σ2[j]? = σ[j]?)->Q σ2 H'
abbrev MGs (X:Cx) (Θ:Tab) (js:List Nat) (ts:List Expr) (g:M.GMs):Prop:=PGs X ts (zP7 X.K Θ js g)
@[irreducible] def WGs (X:Cx) (Θ:Tab) (js:List Nat) (ts:List Expr) (g:M.GMs):Prop:=MGs X Θ js ts g
theorem PGs.imp {X:Cx}{e:List Expr}{t t':TGs} (h:PGs X e t) (i:∀ v σ H Q,t' v σ H Q->t v σ H Q):PGs X e t':=fun pins s σ H v u Q I r q=>h pins s σ H v u Q I r (i v σ H Q q)
theorem zOB {X:Cx}{Θ:Tab}:MGs X Θ [] [] M.JJ:=zNN.imp fun vs σ H Q ⟨ρ,σ',S,ds,st,rp,rv,σ1,e,h⟩=>by
 cases ds with
 | nil=>cases rv;cases e;exact⟨rfl,h H σ (Le.refl _) rp st rfl fun _ _=>rfl⟩
 | cons d ds=>cases e
theorem zCT {X:Cx}{Θ:Tab}:WGs X Θ [] [] M.JJ:=by with_unfolding_all exact zOB (X:=X) (Θ:=Θ)
theorem zLk {X:Cx}{Θ:Tab}{e:Expr}{es:List Expr}{g:M.GM}{gs:M.GMs}{js ks:List Nat} (h1:MG X Θ js e g) (h2:MGs X Θ ks es gs) (hp:∀ {t:TG}{u:TGs},PG X e t->PGs X es u->PGs X (e::es) (qg t u)):MGs X Θ (js++ks) (e::es) (M.qg g gs) :=
 (hp h1 h2).imp fun vs σ H Q ⟨ρ,σ',S,ds,st,rp,rv,σ1,eq,h⟩=>by
  cases ds with
  | nil=>cases eq
  | cons d ds =>
   obtain⟨y,ys,rfl,r1,r2⟩:=rv
   have eq':(match g d σ' with | some σ'=>gs ds σ' | none=>none)=some σ1:=eq
   cases q:g d σ' with
   | none=>rw[q] at eq';cases eq'
   | some σm =>
    rw[q] at eq'
    refine⟨y,ys,rfl,ρ,σ',S,d,st,rp,r1,σm,q,fun H' σ2 le rp2 st2 hl hj=>⟨ρ,σm,S,ds,st2,rp2,r2.mono (List.prefix_refl _) le,σ1,eq',fun H'' σ3 le2 rp3 st3 hl3 hj3=>h H'' σ3 (le.trans le2) rp3 st3 (hl3.trans hl) fun j hjk=>?_⟩⟩
    rw[List.mem_append] at hjk
    rw[hj3 j fun z=>hjk (.inr z),hj j fun z=>hjk (.inl z)]
theorem Qg {X:Cx}{Θ:Tab}{e:Expr}{es:List Expr}{g:M.GM}{gs:M.GMs}{js ks:List Nat} (h1:WG X Θ js e g) (h2:WGs X Θ ks es gs) (hp:∀ {t:TG}{u:TGs},PG X e t->PGs X es u->PGs X (e::es) (qg t u)):WGs X Θ (js++ks) (e::es) (M.qg g gs):=by with_unfolding_all exact zLk (X:=X) (Θ:=Θ) (e:=e) (es:=es) (g:=g) (gs:=gs) (js:=js) (ks:=ks) h1 h2 hp
theorem zP8 {X:Cx}{Θ:Tab}{es:List Expr}{g:M.GMs}{js:List Nat}{tg:Expr}{n:Nat} (h:PG X tg (JN X.K n (zP7 X.K Θ js g))) (hn:∀ ds σ σ1,g ds σ=some σ1->ds.length=n):MG X Θ js tg (M.JN g):=h.imp fun v σ H Q ⟨ρ,σ',S,d,st,rp,rv,σ1,eq,h⟩=>by
 cases d with
 | tup ds =>
  obtain⟨a,xs,rfl,hq,r⟩:=rv
  exact⟨a,xs,rfl,hq,by rw[<- r.length];exact hn ds σ' σ1 eq,ρ,σ',S,ds,st,rp,r,σ1,eq,h⟩
 | _=>cases eq
structure ItR (K:PySem.W.Frag) (Θ:Tab) (ρ:List Addr) (H:Hp) (J:It) (xs:List M.D) (g:M.Gd):Prop where
 go:∀ (i:Nat) ρ' S' H',ρ <+: ρ'->Le H H'->zf K Θ ρ' S' H'->M.zW g S'=true->i < xs.length->J.go i H'
 yld:∀ (i:Nat) ρ' S' H' v H2,ρ <+: ρ'->Le H H'->zf K Θ ρ' S' H'->M.zW g S'=true->i < xs.length->J.yld i H' v H2->∃ d,xs[i]? = some d/\zQ K ρ' H2 d v/\Le H' H2/\zf K Θ ρ' S' H2
 stop:∀ ρ' S' H',ρ <+: ρ'->Le H H'->zf K Θ ρ' S' H'->M.zW g S'=true->J.stop xs.length H'
def RdI (K:PySem.W.Frag) (Θ:Tab) (m:M.IM):TI:=fun σ H R=>∃ ρ σ' S,jV K ρ H σ' σ/\zf K Θ ρ S H /\
 zG K Θ (fun ρ' H' (p:List M.D×M.Gd) (J:It)=>ItR K Θ ρ' H' J p.1 p.2) ρ H ((m σ' S).bind fun p s=>if M.zW p.2 s then .ok p s else .no) R
abbrev MI (X:Cx) (Θ:Tab) (tg iter:Expr) (m:M.IM):Prop:=PI X tg iter (RdI X.K Θ m)
@[irreducible] def WI (X:Cx) (Θ:Tab) (tg iter:Expr) (m:M.IM):Prop:=MI X Θ tg iter m
theorem PI.imp {X:Cx}{tg e:Expr}{t t':TI} (h:PI X tg e t) (i:∀ σ H R,t' σ H R->t σ H R):PI X tg e t':=fun pins s σ H R I q=>h pins s σ H R I (i σ H R q)
theorem PI.or {X:Cx}{tg e:Expr}{t t':TI} (h:PI X tg e t) (h':PI X tg e t'):PI X tg e (fun σ H R=>t σ H R\/t' σ H R):=fun pins s σ H R I q=>by
 rcases q with q | q
 ·exact h pins s σ H R I q
 ·exact h' pins s σ H R I q
section
variable {X:Cx}{Θ:Tab}{tg e:Expr}{m:M.EM}
theorem zLS {K:PySem.W.Frag}{ρ:List Addr}{H:Hp}{i:Nat}{a:Addr}{ds:List M.D} (ha:ρ[i]? = some a):ItR K Θ ρ H (Itl K a) ds [(i,.lst ds)]:=by
 have key:∀ {ρ':List Addr}{S':M.S}{H':Hp},ρ <+: ρ'->zf K Θ ρ' S' H'->M.zW [(i,.lst ds)] S'=true->∃ zs,H' a=some (.lst zs)/\zM K ρ' H' ds zs:=fun {ρ' S' H'} p rp g=>by
  have g':S'[i]? = some (M.O.lst ds):=by simpa [M.zW] using g
  obtain⟨b,e1,zs,e2,r⟩:=rp.obj i _ g'
  rw[Q7 p ha] at e1;cases e1
  exact⟨zs,e2,r⟩
 refine⟨fun j ρ' S' H' p l rp g hj=>?_,fun j ρ' S' H' v H2 p l rp g hj y=>?_,fun ρ' S' H' p l rp g=>?_⟩
 ·obtain⟨zs,e,r⟩:=key p rp g
  obtain⟨v,e1,_⟩:=r.get (i:=j) (d:=ds[j]) (by simp[hj])
  exact⟨zs,v,SqL.of e,e1⟩
 ·obtain⟨zs,e,r⟩:=key p rp g
  obtain⟨v',e1,rv⟩:=r.get (i:=j) (d:=ds[j]) (by simp[hj])
  obtain⟨rfl,y2⟩:=y
  have y3:=y2 zs (SqL.of e)
  rw[e1] at y3;cases y3
  exact⟨ds[j],by simp[hj],rv,Le.refl _,rp⟩
 ·obtain⟨zs,e,r⟩:=key p rp g
  exact⟨zs,SqL.of e,Nat.le_of_eq r.length.symm⟩
theorem zOL {K:PySem.W.Frag}{ρ:List Addr}{H:Hp}{a:Addr}{ds:List M.D}{xs:List V} (hq:zAK K H a xs) (r:zM K ρ H ds xs):ItR K Θ ρ H (Itl K a) ds []:=by
 refine⟨fun j ρ' S' H' p l rp g hj=>?_,fun j ρ' S' H' v H2 p l rp g hj y=>?_,fun ρ' S' H' p l rp g=>?_⟩
 ·obtain⟨v,e1,_⟩:=r.get (i:=j) (d:=ds[j]) (by simp[hj])
  exact⟨xs,v,(l.rol hq).sq,e1⟩
 ·obtain⟨v',e1,rv⟩:=(r.mono p l).get (i:=j) (d:=ds[j]) (by simp[hj])
  obtain⟨rfl,y2⟩:=y
  have y3:=y2 xs (l.rol hq).sq
  rw[e1] at y3;cases y3
  exact⟨ds[j],by simp[hj],rv,Le.refl _,rp⟩
 ·exact⟨xs,(l.rol hq).sq,Nat.le_of_eq r.length.symm⟩
theorem zOD {K:PySem.W.Frag}{ρ:List Addr}{H:Hp}{a:Addr}{ds:List M.D}{xs:List V} (hq:SqT K H a xs) (r:zM K ρ H ds xs):ItR K Θ ρ H (Itt K a) ds []:=by
 refine⟨fun j ρ' S' H' p l rp g hj=>?_,fun j ρ' S' H' v H2 p l rp g hj y=>?_,fun ρ' S' H' p l rp g=>?_⟩
 ·obtain⟨v,e1,_⟩:=r.get (i:=j) (d:=ds[j]) (by simp[hj])
  exact⟨xs,v,l.sqT hq,e1⟩
 ·obtain⟨v',e1,rv⟩:=(r.mono p l).get (i:=j) (d:=ds[j]) (by simp[hj])
  obtain⟨rfl,y2⟩:=y
  have y3:=y2 xs (l.sqT hq)
  rw[e1] at y3;cases y3
  exact⟨ds[j],by simp[hj],rv,Le.refl _,rp⟩
 ·exact⟨xs,l.sqT hq,Nat.le_of_eq r.length.symm⟩
theorem zN1 {K:PySem.W.Frag}{ρ:List Addr}{H:Hp}{x:M.T} (ok:okT x):ItR K Θ ρ H (Its (ofT x)) (x.map fun c=>.str [c]) []:=by
 refine⟨fun j ρ' S' H' p l rp g hj=>?_,fun j ρ' S' H' v H2 p l rp g hj y=>?_,fun ρ' S' H' p l rp g=>?_⟩
 ·rw[List.length_map] at hj
  show j < (ofT x).length
  rw[qO];exact hj
 ·obtain⟨rfl,c,hc,rfl⟩:=y
  have hc':x[j]? = some c:=by simpa [ofT] using hc
  exact⟨.str [c],by rw[List.getElem?_map,hc'];rfl,⟨rfl,zC8 ok fun d hd=>by rw[List.mem_singleton.mp hd];exact List.mem_of_getElem? hc'⟩,Le.refl _,rp⟩
 ·show (ofT x).length <= _
  rw[qO,List.length_map];exact Nat.le_refl _
theorem zJ0 {K:PySem.W.Frag}{ρ:List Addr}{H:Hp}{lo hi:Int}:ItR K Θ ρ H (Itr lo (hi - lo).toNat) (M.jq lo hi) []:=by
 refine⟨fun j ρ' S' H' p l rp g hj=>?_,fun j ρ' S' H' v H2 p l rp g hj y=>?_,fun ρ' S' H' p l rp g=>?_⟩
 ·show j < _
  simpa [M.jq] using hj
 ·obtain⟨rfl,rfl⟩:=y
  have hj':j < (hi - lo).toNat:=by simpa [M.jq] using hj
  exact⟨.int (lo+j),by unfold M.jq;rw[List.getElem?_map,List.getElem?_range hj'];rfl,rfl,Le.refl _,rp⟩
 ·show _ <= _
  simp[M.jq]
theorem zRD (he:ME X Θ e m):MI X Θ tg e (M.iE m):=(PI.or (zNc he) (PI.or (zOy he) (zPY he))).imp fun σ H R ⟨ρ,σ',S,st,rp,h⟩=>by
 have h':zG X.K Θ _ ρ H (((m σ' S).bind M.itD).bind fun p s=>if M.zW p.2 s then .ok p s else .no) R:=h
 clear h
 cases hm:m σ' S with
 | no=>rw[hm] at h';exact h'.elim
 | exc a s=>rw[hm] at h';exact h'.elim
 | ok d S1 =>
  rw[hm] at h'
  have go:∀ {Q:VK},(∀ ρ1 H1 v,ρ <+: ρ1->Le H H1->zf X.K Θ ρ1 S1 H1->zQ X.K ρ1 H1 d v->Q v H1)->RdE X.K Θ m σ H Q:=fun q=>⟨ρ,σ',S,st,rp,by rw[hm];exact q⟩
  cases d with
  | str x =>
   refine .inr (.inr (go fun ρ1 H1 v p l rp1 rv=>?_))
   have h2:zG X.K Θ _ ρ H ((if x.length <= M.SZ then .ok (x.map fun c=>M.D.str [c],[]) S1 else M.R.no).bind fun p s=>if M.zW p.2 s then .ok p s else .no) R:=h'
   by_cases hl:x.length <= M.SZ
   ·rw[if_pos hl] at h2
    exact⟨ofT x,rv.1,h2 ρ1 H1 _ p l rp1 (zN1 rv.2)⟩
   ·rw[if_neg hl] at h2
    exact h2.elim
  | tup ds =>
   refine .inr (.inl (go fun ρ1 H1 v p l rp1 rv=>?_))
   obtain⟨a,xs,rfl,hq,r⟩:=rv
   exact⟨a,rfl,⟨xs,hq⟩,h' ρ1 H1 _ p l rp1 (zOD hq r)⟩
  | ro ds =>
   refine .inl (go fun ρ1 H1 v p l rp1 rv=>?_)
   obtain⟨a,xs,rfl,hq,r⟩:=rv
   exact⟨a,rfl,⟨xs,hq.sq⟩,h' ρ1 H1 _ p l rp1 (zOL hq r)⟩
  | ref i =>
   have h2:zG X.K Θ _ ρ H ((match S1[i]? with
    | some (.lst xs)=>M.R.ok (xs,[(i,M.O.lst xs)]) S1
    | _=>.no).bind fun p s=>if M.zW p.2 s then .ok p s else .no) R:=h'
   cases q:S1[i]? with
   | none=>rw[q] at h2;exact h2.elim
   | some o =>
    rw[q] at h2
    cases o with
    | lst xs =>
     refine .inl (go fun ρ1 H1 v p l rp1 rv=>?_)
     obtain⟨a,rfl,e1⟩:=rv
     obtain⟨b,e2,zs,e3,r⟩:=rp1.obj i _ q
     rw[e1] at e2;cases e2
     have hg:M.zW [(i,M.O.lst xs)] S1=true:=by simp[M.zW,q]
     have h3:zG X.K Θ _ ρ H (if M.zW [(i,M.O.lst xs)] S1 then M.R.ok (xs,[(i,M.O.lst xs)]) S1 else .no) R:=h2
     rw[if_pos hg] at h3
     exact⟨a,rfl,⟨zs,SqL.of e3⟩,h3 ρ1 H1 _ p l rp1 (zLS e1)⟩
    | dct kvs=>exact h2.elim
    | fdc _=>exact h2.elim
    | ins c fs=>exact h2.elim
  | non=>exact h'.elim
  | bl b=>exact h'.elim
  | int b=>exact h'.elim
  | ty b=>exact h'.elim
theorem Z6 (he:WE X Θ e m):WI X Θ tg e (M.iE m):=by with_unfolding_all exact zRD he
theorem zKA {p pos:Pos} (hg:Gl X "range") (hm:X.mg "range" = none) (he:ME X Θ e m) (hs:jI e=true:=by rfl):MI X Θ tg (.Call (.Name "range" p) [e] [] pos) (M.qV m) :=
 (zJ9 hg hm (zAb he zEZ hs) (j3 hs)).imp fun σ H R ⟨ρ,σ',S,st,rp,h⟩=>⟨ρ,σ',S,st,rp,by
  have h':zG X.K Θ _ ρ H (((m σ' S).bind fun x s=>match x with
   | .int j=>if j.natAbs < 4611686018427387904 then M.R.ok (M.jq 0 j,([]:M.Gd)) s else .no
   | _=>.no).bind fun p s=>if M.zW p.2 s then .ok p s else .no) R:=h
  show zG X.K Θ _ ρ H ((m σ' S).bind fun x s=>(M.R.ok [] s).bind fun xs s=>.ok (x::xs) s) _
  cases hm:m σ' S with
  | no=>rw[hm] at h';exact h'.elim
  | exc a s=>rw[hm] at h';exact h'.elim
  | ok d S1 =>
   rw[hm] at h'
   intro ρ1 H1 vs p l rp1 rv
   obtain⟨v,ys,rfl,rv,hy⟩:=rv
   cases hy
   cases d with
   | int j =>
    cases rv
    have h2:zG X.K Θ _ ρ H ((if j.natAbs < 4611686018427387904 then M.R.ok (M.jq 0 j,([]:M.Gd)) S1 else .no).bind fun p s=>if M.zW p.2 s then .ok p s else .no) R:=h'
    by_cases hj:j.natAbs < 4611686018427387904
    ·rw[if_pos hj] at h2
     refine⟨j,rfl,by omega,by omega,?_⟩
     have:=h2 ρ1 H1 _ p l rp1 (zJ0 (lo:=0) (hi:=j))
     rw[Int.sub_zero] at this
     exact this
    ·rw[if_neg hj] at h2
     exact h2.elim
   | _=>exact h'.elim⟩
theorem Zw {p pos:Pos} (hg:Gl X "range") (hm:X.mg "range" = none) (he:WE X Θ e m) (hs:jI e=true:=by rfl):WI X Θ tg (.Call (.Name "range" p) [e] [] pos) (M.qV m):=by with_unfolding_all exact zKA (p:=p) (pos:=pos) hg hm he hs
end
section
variable {X:Cx}{Θ:Tab}{pos:Pos}
theorem zMk {c:Expr}{body:List Stmt}{tc:M.TM}{mb:M.SM} (hp:PassesOwn (model X.prog X.w) X.A X.env X.xe) (hc:MT X Θ c tc) (hb:MSs X Θ body mb):MS X Θ (.While c body [] pos) (M.zAi tc mb) :=
 (zMD hp hc hb).imp fun D σ H ⟨ρ,σ',S,st,rp,h⟩=>by
  refine⟨fun k σ2 H2=>∃ ρ2 σ2' S2,jV X.K ρ2 H2 σ2' σ2/\zf X.K Θ ρ2 S2 H2/\zn X.K Θ ρ2 H2 (M.qE k tc mb σ2' S2) D,⟨M.zAH,ρ,σ',S,st,rp,h⟩,?_⟩
  rintro k σ2 H2 ⟨ρ2,σ2',S2,st2,rp2,h2⟩
  cases k with
  | zero=>exact h2.elim
  | succ k =>
   refine⟨ρ2,σ2',S2,st2,rp2,zn.stm h2 fun ρ3 H3 b b' S3 p3 l3 rp3 eb h3=>?_⟩
   cases eb
   cases b with
   | false=>exact zEi (zn.nx (σ:=σ2) h3 rp3 (st2.mono p3 l3))
   | true =>
    refine zEu ⟨fun σ4 H4=>∃ ρ4 σ4' S4,jV X.K ρ4 H4 σ4' σ4/\zf X.K Θ ρ4 S4 H4/\zn X.K Θ ρ4 H4 (M.qE k tc mb σ4' S4) D,fun σ4 H4 q=>⟨k,Nat.lt_succ_self k,q⟩,ρ3,σ2',S3,st2.mono p3 l3,rp3,?_⟩
    have h4:zn X.K Θ ρ3 H3 (match mb σ2' S3 with
     | .nx σ s=>M.qE k tc mb σ s
     | .ct σ s=>M.qE k tc mb σ s
     | .bk σ s=>.nx σ s
     | r=>r) D:=h3
    revert h4
    cases mb σ2' S3 with
    | nx a s=>exact fun h4 ρ4 H4 σ4 p4 l4 rp4 st4=>⟨ρ4,a,s,st4,rp4,zn.weak h4 p4 l4⟩
    | ct a s=>exact fun h4 ρ4 H4 σ4 p4 l4 rp4 st4=>⟨ρ4,a,s,st4,rp4,zn.weak h4 p4 l4⟩
    | bk a s=>exact fun h4=>h4
    | rt a s=>exact fun h4=>h4
    | exc e a s=>exact fun h4=>h4
    | no=>exact fun h4=>h4
theorem zAU {c:Expr}{body:List Stmt}{tc:M.TM}{mb:M.SM} (hp:PassesOwn (model X.prog X.w) X.A X.env X.xe) (hc:WT X Θ c tc) (hb:WSs X Θ body mb):WS X Θ (.While c body [] pos) (M.zAi tc mb):=by with_unfolding_all exact zMk (c:=c) (body:=body) (tc:=tc) (mb:=mb) hp hc hb
theorem zJj {K:PySem.W.Frag}{g:M.GM}{js:List Nat}{mb:M.SM}{xs:List M.D}{gd:M.Gd}{J:It}{ρ1:List Addr}{H1:Hp}{σ:St}{σ':M.St}{S1:M.S}{D:Jc} (itr:ItR K Θ ρ1 H1 J xs gd) (st:jV K ρ1 H1 σ' σ) (rp1:zf K Θ ρ1 S1 H1) (hgd:M.zW gd S1=true) (h2:zn K Θ ρ1 H1 (M.qK gd (M.jm g mb) xs σ' S1) D) :
  ∃ W:Nat->Nat->St->Hp->Prop,(∃ m,W 0 m σ H1)/\∀ i m σ H,W i m σ H ->
   (J.stop i H/\D.nx σ H)\/(J.go i H/\∃ N:St->Hp->Prop,(∀ σ' H',N σ' H'->∃ m',m' < m/\W (i+1) m' σ' H')/\∀ x H',J.yld i H x H'->RdG K Θ js g x σ H' fun σ2 H2=>RdS K Θ mb { D with nx:=N,ct:=N,bk:=D.nx } σ2 H2):=by
 refine⟨fun i k σ2 H2=>∃ ρ2 σ2' S2,ρ1 <+: ρ2/\Le H1 H2/\jV K ρ2 H2 σ2' σ2/\zf K Θ ρ2 S2 H2/\M.zW gd S2=true/\k=xs.length - i/\i <= xs.length/\zn K Θ ρ2 H2 (M.qK gd (M.jm g mb) (xs.drop i) σ2' S2) D,
  ⟨xs.length,ρ1,σ',S1,List.prefix_refl _,Le.refl _,st,rp1,hgd,rfl,Nat.zero_le _,h2⟩,?_⟩
 rintro i k σ2 H2 ⟨ρ2,σ2',S2,p2,l2,st2,rp2,g2,rfl,hi2,h3⟩
 by_cases hlt:i < xs.length
 ·refine .inr ⟨itr.go i ρ2 S2 H2 p2 l2 rp2 g2 hlt,fun σ3 H3=>∃ ρ3 σ3' S3,ρ1 <+: ρ3/\Le H1 H3/\jV K ρ3 H3 σ3' σ3/\zf K Θ ρ3 S3 H3/\M.zW gd S3=true/\zn K Θ ρ3 H3 (M.qK gd (M.jm g mb) (xs.drop (i+1)) σ3' S3) D,
   fun σ3 H3 ⟨ρ3,σ3',S3,a1,a2,a3,a4,a5,a6⟩=>⟨xs.length - (i+1),by omega,ρ3,σ3',S3,a1,a2,a3,a4,a5,rfl,hlt,a6⟩,fun x H' y=>?_⟩
  obtain⟨d,ed,rd,ld,rpd⟩:=itr.yld i ρ2 S2 H2 x H' p2 l2 rp2 g2 hlt y
  have edr:xs.drop i=d::xs.drop (i+1):=by
   obtain⟨_,e⟩:=List.getElem?_eq_some_iff.mp ed
   rw[List.drop_eq_getElem_cons hlt,e]
  rw[edr] at h3
  have h4:zn K Θ ρ2 H2 (match (match g d σ2' with | some σ'=>mb σ' S2 | none=>M.RS.no) with
   | .nx σ s=>if M.zW gd s then M.qK gd (M.jm g mb) (xs.drop (i+1)) σ s else .no
   | .ct σ s=>if M.zW gd s then M.qK gd (M.jm g mb) (xs.drop (i+1)) σ s else .no
   | .bk σ s=>.nx σ s
   | r=>r) D:=h3
  cases hgq:g d σ2' with
  | none=>rw[hgq] at h4;exact h4.elim
  | some σ1 =>
   rw[hgq] at h4
   refine⟨ρ2,σ2',S2,d,st2.mono (List.prefix_refl _) ld,rpd,rd,σ1,hgq,fun H'' σ3 le3 rp3 st3 _ _=>⟨ρ2,σ1,S2,st3,rp3,?_⟩⟩
   have h5:=zn.weak h4 (List.prefix_refl _) (ld.trans le3)
   have h6:zn K Θ ρ2 H'' (match mb σ1 S2 with
    | .nx σ s=>if M.zW gd s then M.qK gd (M.jm g mb) (xs.drop (i+1)) σ s else .no
    | .ct σ s=>if M.zW gd s then M.qK gd (M.jm g mb) (xs.drop (i+1)) σ s else .no
    | .bk σ s=>.nx σ s
    | r=>r) D:=h5
   have more:∀ (a:M.St) (s:M.S),zn K Θ ρ2 H'' (if M.zW gd s then M.qK gd (M.jm g mb) (xs.drop (i+1)) a s else .no) D->∀ ρ4 H4 σ4,ρ2 <+: ρ4->Le H'' H4->zf K Θ ρ4 s H4->jV K ρ4 H4 a σ4 ->
     ∃ ρ3 σ3' S3,ρ1 <+: ρ3/\Le H1 H4/\jV K ρ3 H4 σ3' σ4/\zf K Θ ρ3 S3 H4/\M.zW gd S3=true/\zn K Θ ρ3 H4 (M.qK gd (M.jm g mb) (xs.drop (i+1)) σ3' S3) D:=fun a s h7 ρ4 H4 σ4 p4 l4 rp4 st4=>by
    by_cases hs:M.zW gd s=true
    ·rw[if_pos hs] at h7
     exact⟨ρ4,a,s,p2.trans p4,l2.trans (ld.trans (le3.trans l4)),st4,rp4,hs,zn.weak h7 p4 l4⟩
    ·rw[if_neg hs] at h7;exact h7.elim
   revert h6
   cases mb σ1 S2 with
   | nx a s=>exact fun h6=>more a s h6
   | ct a s=>exact fun h6=>more a s h6
   | bk a s=>exact fun h6=>h6
   | rt a s=>exact fun h6=>h6
   | exc e a s=>exact fun h6=>h6
   | no=>exact fun h6=>h6
 ·have e:i=xs.length:=by omega
  subst e
  rw[List.drop_length] at h3
  exact .inl ⟨itr.stop ρ2 S2 H2 p2 l2 rp2 g2,zn.nx (σ:=σ2) h3 rp2 st2⟩
theorem zO5 {tg iter:Expr}{body:List Stmt}{it:M.IM}{g:M.GM}{js:List Nat}{mb:M.SM} (hp:PassesOwn (model X.prog X.w) X.A X.env X.xe) (hc:X.calm=true) (hi:MI X Θ tg iter it) (hg:MG X Θ js tg g) (hb:MSs X Θ body mb)
  (hs:∀ x,foldedSetIterable iter X.env x=pure x:=by intro _;rfl):MS X Θ (.For tg iter body [] pos) (M.qq it g mb) :=
 (zGW hp hc hi hg hb hs).imp fun D σ H ⟨ρ,σ',S,st,rp,h⟩=>⟨ρ,σ',S,st,rp,by
  have h':zn X.K Θ ρ H ((it σ' S).stm σ' fun p s=>if M.zW p.2 s=true then M.qK p.2 (M.jm g mb) p.1 σ' s else .no) D:=h
  cases hit:it σ' S with
  | no=>rw[hit] at h';exact h'.elim
  | exc a s=>rw[hit] at h';exact h'.elim
  | ok p S1 =>
   rw[hit] at h'
   obtain⟨xs,gd⟩:=p
   show zG X.K Θ _ ρ H (if M.zW gd S1 then M.R.ok (xs,gd) S1 else .no) _
   have h2:zn X.K Θ ρ H (if M.zW gd S1=true then M.qK gd (M.jm g mb) xs σ' S1 else .no) D:=h'
   by_cases hgd:M.zW gd S1=true
   case neg=>rw[if_neg hgd] at h2;exact h2.elim
   rw[if_pos hgd] at h2
   rw[if_pos hgd]
   intro ρ1 H1 J p1 l1 rp1 (itr:ItR X.K Θ ρ1 H1 J xs gd)
   exact zJj itr (st.mono p1 l1) rp1 hgd (zn.weak h2 p1 l1)⟩
theorem QO {tg iter:Expr}{body:List Stmt}{it:M.IM}{g:M.GM}{js:List Nat}{mb:M.SM} (hp:PassesOwn (model X.prog X.w) X.A X.env X.xe) (hc:X.calm=true) (hi:WI X Θ tg iter it) (hg:WG X Θ js tg g) (hb:WSs X Θ body mb)
  (hs:∀ x,foldedSetIterable iter X.env x=pure x:=by intro _;rfl):WS X Θ (.For tg iter body [] pos) (M.qq it g mb):=by with_unfolding_all exact zO5 (tg:=tg) (iter:=iter) (body:=body) (it:=it) (g:=g) (js:=js) (mb:=mb) hp hc hi hg hb hs
theorem zOa {K:PySem.W.Frag}{n:Nat}{it:M.IM}{g:M.GM}{js:List Nat}{tc:M.TM}{me:M.EM}{σ:St}{σ':M.St}{S:M.S}{ρ:List Addr}{H:Hp}{R:List V->Hp->Prop} (st:jV K ρ H σ' σ) (rp:zf K Θ ρ S H) (hj:∀ j∈js,σ.length <= j)
  (h:zG K Θ (zM K) ρ H (M.qJ n it g tc me σ' S) R) :
  RdI K Θ it σ H fun J H1=>∃ W:Nat->Nat->List V->Hp->Prop,(∃ m,W 0 m [] H1)/\∀ i m ys H2,W i m ys H2->ys.length <= sizeLine /\
   ((J.stop i H2/\R ys H2) \/
    (J.go i H2/\∀ x H3,J.yld i H2 x H3->RdG K Θ js g x (σ++List.replicate n none) H3 fun σ2 H4=>Wk (σ++List.replicate n none) σ2/\RdT K Θ tc σ2 H4 fun b H5 =>
     if b=true then RdE K Θ me σ2 H5 fun y H6=>∃ m',m' < m/\W (i+1) m' (ys++[y]) H6 else ∃ m',m' < m/\W (i+1) m' ys H5)):=by
 refine⟨ρ,σ',S,st,rp,?_⟩
 have h':zG K Θ (zM K) ρ H ((it σ' S).bind fun p s=>if p.1.length <= M.SZ/\M.zW p.2 s=true then M.ye p.2 (M.qP n g tc me σ') p.1 s else .no) R:=h
 cases hit:it σ' S with
 | no=>rw[hit] at h';exact h'.elim
 | exc a s=>rw[hit] at h';exact h'.elim
 | ok p S1 =>
  rw[hit] at h'
  obtain⟨xs,gd⟩:=p
  show zG K Θ _ ρ H (if M.zW gd S1 then M.R.ok (xs,gd) S1 else .no) _
  have h2:zG K Θ (zM K) ρ H (if xs.length <= M.SZ/\M.zW gd S1=true then M.ye gd (M.qP n g tc me σ') xs S1 else .no) R:=h'
  by_cases hgd:xs.length <= M.SZ/\M.zW gd S1=true
  case neg=>rw[if_neg hgd] at h2;exact h2.elim
  rw[if_pos hgd] at h2
  rw[if_pos hgd.2]
  intro ρ1 H1 J p1 l1 rp1 (itr:ItR K Θ ρ1 H1 J xs gd)
  refine⟨fun i k ys H2=>∃ ρ2 S2 ds,ρ1 <+: ρ2/\Le H1 H2/\zf K Θ ρ2 S2 H2/\M.zW gd S2=true/\zM K ρ2 H2 ds ys/\ds.length <= i/\k=xs.length - i/\i <= xs.length/\zG K Θ (zM K) ρ2 H2 ((M.ye gd (M.qP n g tc me σ') (xs.drop i) S2).bind fun es s=>.ok (ds++es) s) R,
   ⟨xs.length,ρ1,S1,[],List.prefix_refl _,Le.refl _,rp1,hgd.2,rfl,Nat.le_refl _,rfl,Nat.zero_le _,?_⟩,?_⟩
  ·have h3:=zG.weak h2 p1 l1
   revert h3
   show zG K Θ (zM K) ρ1 H1 (M.ye gd (M.qP n g tc me σ') xs S1) R->_
   rw[List.drop_zero]
   cases M.ye gd (M.qP n g tc me σ') xs S1 with
   | ok a s=>exact fun h3=>h3
   | exc e s=>exact fun h3=>h3
   | no=>exact fun h3=>h3
  rintro i k ys H2 ⟨ρ2,S2,ds,p2,l2,rp2,g2,rds,hdl,rfl,hi2,h3⟩
  refine⟨by rw[<- rds.length,<- Zc];omega,?_⟩
  by_cases hlt:i < xs.length
  ·refine .inr ⟨itr.go i ρ2 S2 H2 p2 l2 rp2 g2 hlt,fun x H3 y=>?_⟩
   obtain⟨d,ed,rd,ld,rpd⟩:=itr.yld i ρ2 S2 H2 x H3 p2 l2 rp2 g2 hlt y
   have edr:xs.drop i=d::xs.drop (i+1):=by
    obtain⟨_,e⟩:=List.getElem?_eq_some_iff.mp ed
    rw[List.drop_eq_getElem_cons hlt,e]
   rw[edr] at h3
   have h4:zG K Θ (zM K) ρ2 H2 (((match g d (σ'++List.replicate n none) with
     | none=>M.R.no
     | some σ1=>(tc σ1 S2).bind fun b s=>if b then (me σ1 s).bind fun d s=>.ok (some d) s else .ok none s).bind fun o s =>
      if M.zW gd s then (M.ye gd (M.qP n g tc me σ') (xs.drop (i+1)) s).bind fun ys s=>.ok (match o with | some y=>y::ys | none=>ys) s else .no).bind fun es s=>.ok (ds++es) s) R:=h3
   cases hgq:g d (σ'++List.replicate n none) with
   | none=>rw[hgq] at h4;exact h4.elim
   | some σ1 =>
    rw[hgq] at h4
    refine⟨ρ2,σ'++List.replicate n none,S2,d,((st.mono (p1.trans p2) (l1.trans (l2.trans ld))).more n),rpd,rd,σ1,hgq,fun H4 σ2 le4 rp4 st4 hl4 hj4=>⟨⟨hl4.symm,fun j v e=>?_⟩,ρ2,σ1,S2,st4,rp4,?_⟩⟩
    ·by_cases hjj:j∈js
     ·rw[List.getElem?_append_right (hj j hjj),List.getElem?_replicate] at e
      split at e<;>cases e
     ·rw[hj4 j hjj];exact e
    ·have h5:=zG.weak h4 (List.prefix_refl _) (ld.trans le4)
     dsimp only at h5
     cases htc:tc σ1 S2 with
     | no=>rw[htc] at h5;exact h5.elim
     | exc a s=>rw[htc] at h5;exact h5.elim
     | ok b S3 =>
      rw[htc] at h5
      intro ρ5 H5 b' p5 l5 rp5 eb
      cases eb
      have next:∀ (o:Option M.D) (s:M.S) (ρ6:List Addr) (H6:Hp) (zs:List V),ρ2 <+: ρ6->Le H4 H6->zf K Θ ρ6 s H6->zM K ρ6 H6 (match o with | some y=>ds++[y] | none=>ds) zs ->
        zG K Θ (zM K) ρ6 H6 ((if M.zW gd s then (M.ye gd (M.qP n g tc me σ') (xs.drop (i+1)) s).bind fun ys s=>.ok (match o with | some y=>y::ys | none=>ys) s else .no).bind fun es s=>.ok (ds++es) s) R ->
        ∃ m',m' < xs.length - i/\∃ ρ2 S2 es,ρ1 <+: ρ2/\Le H1 H6/\zf K Θ ρ2 S2 H6/\M.zW gd S2=true/\zM K ρ2 H6 es zs/\es.length <= i+1/\m'=xs.length - (i+1)/\i+1 <= xs.length /\
         zG K Θ (zM K) ρ2 H6 ((M.ye gd (M.qP n g tc me σ') (xs.drop (i+1)) S2).bind fun fs s=>.ok (es++fs) s) R:=fun o s ρ6 H6 zs p6 l6 rp6 rz h6=>by
       by_cases hs:M.zW gd s=true
       case neg=>rw[if_neg hs] at h6;exact h6.elim
       rw[if_pos hs] at h6
       refine⟨xs.length - (i+1),by omega,ρ6,s,_,p2.trans p6,l2.trans (ld.trans (le4.trans l6)),rp6,hs,rz,?_,rfl,hlt,?_⟩
       ·cases o<;>simp<;>omega
       ·revert h6
        cases M.ye gd (M.qP n g tc me σ') (xs.drop (i+1)) s with
        | ok a s2 =>
         intro h6
         cases o with
         | none=>exact h6
         | some y =>
          show zG K Θ (zM K) ρ6 H6 (.ok (ds++[y]++a) s2) R
          rw[List.append_assoc]
          exact h6
        | exc e s=>exact fun h6=>h6
        | no=>exact fun h6=>h6
      cases b with
      | false=>exact zEi (next none S3 ρ5 H5 ys p5 l5 rp5 (rds.mono p5 (ld.trans (le4.trans l5))) (zG.weak h5 p5 l5))
      | true =>
       refine zEu ⟨ρ5,σ1,S3,st4.mono p5 l5,rp5,?_⟩
       have h6:=zG.weak h5 p5 l5
       cases hme:me σ1 S3 with
       | no =>
        have h7:zG K Θ (zM K) ρ5 H5 ((((me σ1 S3).bind fun d s=>M.R.ok (some d) s).bind fun o s=>if M.zW gd s then (M.ye gd (M.qP n g tc me σ') (xs.drop (i+1)) s).bind fun ys s=>.ok (match o with | some y=>y::ys | none=>ys) s else .no).bind fun es s=>.ok (ds++es) s) R:=h6
        rw[hme] at h7;exact h7.elim
       | exc a s =>
        have h7:zG K Θ (zM K) ρ5 H5 ((((me σ1 S3).bind fun d s=>M.R.ok (some d) s).bind fun o s=>if M.zW gd s then (M.ye gd (M.qP n g tc me σ') (xs.drop (i+1)) s).bind fun ys s=>.ok (match o with | some y=>y::ys | none=>ys) s else .no).bind fun es s=>.ok (ds++es) s) R:=h6
        rw[hme] at h7;exact h7.elim
       | ok y S6 =>
        have h7:zG K Θ (zM K) ρ5 H5 ((((me σ1 S3).bind fun d s=>M.R.ok (some d) s).bind fun o s=>if M.zW gd s then (M.ye gd (M.qP n g tc me σ') (xs.drop (i+1)) s).bind fun ys s=>.ok (match o with | some y=>y::ys | none=>ys) s else .no).bind fun es s=>.ok (ds++es) s) R:=h6
        rw[hme] at h7
        intro ρ6 H6 v p6 l6 rp6 rv
        exact next (some y) S6 ρ6 H6 (ys++[v]) (p5.trans p6) (l5.trans l6) rp6 ((rds.mono (p5.trans p6) (ld.trans (le4.trans (l5.trans l6)))).app ⟨v,[],rfl,rv,rfl⟩) (zG.weak h7 p6 l6)
  ·have e:i=xs.length:=by omega
   subst e
   rw[List.drop_length] at h3
   refine .inl ⟨itr.stop ρ2 S2 H2 p2 l2 rp2 g2,?_⟩
   have h4:zG K Θ (zM K) ρ2 H2 (.ok (ds++[]) S2) R:=h3
   rw[List.append_nil] at h4
   exact h4.here rp2 rds
end
end L2
namespace L2
open PySem PySem.Spec PyProof.Rows
section
variable {X:Cx}{Θ:Tab}{pos:Pos}{vars:List Str}{scope:Scope}{cl:List (Str×Addr)}{tg elt iter:Expr}{ifs:List Expr}{it:M.IM}{g:M.GM}{js:List Nat}{tc:M.TM}{me:M.EM}
theorem zDD {pins:List (Addr×Obj)}{s:Shared}{σ:St}{H:Hp} (I:Inv X pins σ H s) (hj:∀ j∈js,X.N.length <= j) {ρ:List Addr}{σ':M.St}{S:M.S} (st:jV X.K ρ H σ' σ) (rp:zf X.K Θ ρ S H) {Q:VK}{n:Nat}
  (h:zG X.K Θ (zM X.K) ρ H (M.qJ n it g tc me σ' S) fun ys H2=>∀ D,H2 D=none->Q (.ref D) (upd H2 D (.lst ys))) :
  zGI n (RdI X.K Θ it) (RdG X.K Θ js g) (RdT X.K Θ tc) (RdE X.K Θ me) σ H Q:=zOa st rp (fun j hjj=>by rw[I.len];exact hj j hjj) h
theorem zNa (hc:X.calm=true) (C:ji X vars scope cl) (hi:MI X Θ tg iter it) (hg:∀ C fp s₂ H₂,MG (zu X vars scope cl C fp s₂ H₂) Θ js tg g) (ht:∀ C fp s₂ H₂,Qj (zu X vars scope cl C fp s₂ H₂) ifs (RdT X.K Θ tc))
  (he:∀ C fp s₂ H₂,ME (zu X vars scope cl C fp s₂ H₂) Θ elt me) (hj':(js.all fun j=>decide (X.N.length <= j))=true) (hs:∀ x,foldedSetIterable iter X.env x=pure x:=by intro _;rfl):ME X Θ (.ListComp elt [⟨tg,iter,ifs,0⟩] scope pos) (M.jY vars.length it g tc me):=by
 intro pins s σ H Q I ⟨ρ,σ',S,st,rp,h⟩
 have hj:∀ j∈js,X.N.length <= j:=fun j hjj=>of_decide_eq_true (List.all_eq_true.mp hj' j hjj)
 exact zFD hc C hi hg ht he hs pins s σ H Q I (zDD I hj st rp (zG.bind h fun ρ1 H1 ds ys S1 p1 l1 rp1 r1 h1 D hD=>h1.alloc rp1 r1 hD))
theorem ZZ (hc:X.calm=true) (C:ji X vars scope cl) (hi:WI X Θ tg iter it) (hg:∀ C fp s₂ H₂,WG (zu X vars scope cl C fp s₂ H₂) Θ js tg g) (ht:∀ C fp s₂ H₂,Qj (zu X vars scope cl C fp s₂ H₂) ifs (RdT X.K Θ tc))
  (he:∀ C fp s₂ H₂,WE (zu X vars scope cl C fp s₂ H₂) Θ elt me) (hj':(js.all fun j=>decide (X.N.length <= j))=true) (hs:∀ x,foldedSetIterable iter X.env x=pure x:=by intro _;rfl):WE X Θ (.ListComp elt [⟨tg,iter,ifs,0⟩] scope pos) (M.jY vars.length it g tc me):=by with_unfolding_all exact zNa hc C hi hg ht he hj' hs
theorem zJC {i:Nat}{y:Str}{py spos:Pos} (hc:X.calm=true) (C:ji X vars scope cl) (hN:X.N.Nodup) (hiy:X.N[i]? = some y) (hy:Loc X.env.scope y) (hi:MI X Θ tg iter it) (hg:∀ C fp s₂ H₂,MG (zu X vars scope cl C fp s₂ H₂) Θ js tg g) (ht:∀ C fp s₂ H₂,Qj (zu X vars scope cl C fp s₂ H₂) ifs (RdT X.K Θ tc))
  (he:∀ C fp s₂ H₂,ME (zu X vars scope cl C fp s₂ H₂) Θ elt me) (hj':(js.all fun j=>decide (X.N.length <= j))=true) (hs:∀ x,foldedSetIterable iter X.env x=pure x:=by intro _;rfl)
  (hsw:swapsWith (.ListComp elt [⟨tg,iter,ifs,0⟩] scope pos) (some (.Name y py)) spos.line X.env=pure true:=by rfl)
  (hf:X.fn y=true\/X.env.scope.names.lookup y=some .local:=by first | exact .inl rfl | exact .inr rfl | assumption) :
  MS X Θ (.Assign [.Name y py] (.ListComp elt [⟨tg,iter,ifs,0⟩] scope pos) spos) (M.zT i (M.jY vars.length it g tc me)):=by
 intro pins s σ H D I ⟨ρ,σ',S,st,rp,h⟩
 have hj:∀ j∈js,X.N.length <= j:=fun j hjj=>of_decide_eq_true (List.all_eq_true.mp hj' j hjj)
 refine zI0 hc C hN hiy hy hi hg ht he hs hsw hf pins s σ H D I (zDD I hj st rp ?_)
 have h':zn X.K Θ ρ H (((M.qJ vars.length it g tc me σ' S).bind fun ys s=>M.alloc (.lst ys) s).stm σ' fun d s=>.nx (σ'.set i (some d)) s) D:=h
 cases hm:M.qJ vars.length it g tc me σ' S with
 | no=>rw[hm] at h';exact h'.elim
 | exc a s=>rw[hm] at h';exact h'.elim
 | ok ds S1 =>
  rw[hm] at h'
  intro ρ1 H1 ys p1 l1 rp1 r1 E hE
  have h2:zn X.K Θ ρ H (.nx (σ'.set i (some (.ref S1.length))) (S1++[.lst ds])) D:=h'
  have rp2:zf X.K Θ (ρ1++[E]) (S1++[.lst ds]) (upd H1 E (.lst ys)):=rp1.alloc hE ⟨ys,jM,r1.mono (List.prefix_append _ _) (Le.new hE _)⟩
  exact h2 (ρ1++[E]) _ _ (p1.trans (List.prefix_append _ _)) (l1.trans (Le.new hE _)) rp2 (((st.mono p1 l1).mono (List.prefix_append _ _) (Le.new hE _)).set (show zQ X.K (ρ1++[E]) (upd H1 E (.lst ys)) (.ref S1.length) (.ref E) from ⟨E,rfl,by rw[<- rp1.len];simp⟩) i)
theorem QF {i:Nat}{y:Str}{py spos:Pos} (hc:X.calm=true) (C:ji X vars scope cl) (hN:X.N.Nodup) (hiy:X.N[i]? = some y) (hy:Loc X.env.scope y) (hi:WI X Θ tg iter it) (hg:∀ C fp s₂ H₂,WG (zu X vars scope cl C fp s₂ H₂) Θ js tg g) (ht:∀ C fp s₂ H₂,Qj (zu X vars scope cl C fp s₂ H₂) ifs (RdT X.K Θ tc))
  (he:∀ C fp s₂ H₂,WE (zu X vars scope cl C fp s₂ H₂) Θ elt me) (hj':(js.all fun j=>decide (X.N.length <= j))=true) (hs:∀ x,foldedSetIterable iter X.env x=pure x:=by intro _;rfl)
  (hsw:swapsWith (.ListComp elt [⟨tg,iter,ifs,0⟩] scope pos) (some (.Name y py)) spos.line X.env=pure true:=by rfl)
  (hf:X.fn y=true\/X.env.scope.names.lookup y=some .local:=by first | exact .inl rfl | exact .inr rfl | assumption) :
  WS X Θ (.Assign [.Name y py] (.ListComp elt [⟨tg,iter,ifs,0⟩] scope pos) spos) (M.zT i (M.jY vars.length it g tc me)):=by with_unfolding_all exact zJC (i:=i) (y:=y) (py:=py) (spos:=spos) hc C hN hiy hy hi hg ht he hj' hs hsw hf
def AdK (K:PySem.W.Frag) (Θ:Tab) (k:List M.D->M.S->M.R M.D) (r:List V->Hp->VK->Prop):Prop:=∀ ρ H S ds ys p Q,zf K Θ ρ S H->zM K ρ H ds ys->SqL K H p ys->zG K Θ (zQ K) ρ H (k ds S) Q->r [.ref p] H Q
theorem zML {x:Str}{p:Pos}{id:String}{pos2:Pos}{k:List M.D->M.S->M.R M.D}{r:List V->Hp->VK->Prop} (hcr:qQ X (.builtin id) r) (ad:AdK X.K Θ k r) (hgl:Gl X x) (hm:X.mg x=none) (hv:bootBuiltins x=some (.builtin id))
  (hc:X.calm=true) (C:ji X vars scope cl) (hi:MI X Θ tg iter it) (hg:∀ C fp s₂ H₂,MG (zu X vars scope cl C fp s₂ H₂) Θ js tg g) (ht:∀ C fp s₂ H₂,Qj (zu X vars scope cl C fp s₂ H₂) ifs (RdT X.K Θ tc))
  (he:∀ C fp s₂ H₂,ME (zu X vars scope cl C fp s₂ H₂) Θ elt me) (hj':(js.all fun j=>decide (X.N.length <= j))=true) (hs:∀ x,foldedSetIterable iter X.env x=pure x:=by intro _;rfl)
  (hn:x ≠ "__name__" := by decide) (hdb:(x == ("__debug__" : Str))=false:=by decide)
  :
  ME X Θ (.Call (.Name x p) [.ListComp elt [⟨tg,iter,ifs,0⟩] scope pos] [] pos2) (M.JE k vars.length it g tc me):=by
 intro pins s σ H Q I ⟨ρ,σ',S,st,rp,h⟩
 have hj:∀ j∈js,X.N.length <= j:=fun j hjj=>of_decide_eq_true (List.all_eq_true.mp hj' j hjj)
 refine zHb hcr hgl hm hv (zE6 (zFD (g:=RdG X.K Θ js g) (ti:=RdT X.K Θ tc) (te:=RdE X.K Θ me) hc C hi hg ht he hs) zG3 (j3 rfl)) hn hdb (j3 rfl) rfl pins s σ H Q I ?_
 show zGI vars.length _ _ _ _ σ H (fun x H1=>r [x] H1 Q)
 refine zDD I hj st rp (zG.bind h fun ρ1 H1 ds ys S1 p1 l1 rp1 r1 h1 D hD=>?_)
 exact ad ρ1 _ S1 ds ys D Q (rp1.aside hD _) (r1.mono (List.prefix_refl _) (Le.new hD _)) (SqL.of jM) (zG.weak h1 (List.prefix_refl _) (Le.new hD _))
theorem zD1 {x:Str}{p:Pos}{id:String}{pos2:Pos}{k:List M.D->M.S->M.R M.D}{r:List V->Hp->VK->Prop} (hcr:qQ X (.builtin id) r) (ad:AdK X.K Θ k r) (hgl:Gl X x) (hm:X.mg x=none) (hv:bootBuiltins x=some (.builtin id))
  (hc:X.calm=true) (C:ji X vars scope cl) (hi:WI X Θ tg iter it) (hg:∀ C fp s₂ H₂,WG (zu X vars scope cl C fp s₂ H₂) Θ js tg g) (ht:∀ C fp s₂ H₂,Qj (zu X vars scope cl C fp s₂ H₂) ifs (RdT X.K Θ tc))
  (he:∀ C fp s₂ H₂,WE (zu X vars scope cl C fp s₂ H₂) Θ elt me) (hj':(js.all fun j=>decide (X.N.length <= j))=true) (hs:∀ x,foldedSetIterable iter X.env x=pure x:=by intro _;rfl)
  (hn:x ≠ "__name__" := by decide) (hdb:(x == ("__debug__" : Str))=false:=by decide)
  :
  WE X Θ (.Call (.Name x p) [.ListComp elt [⟨tg,iter,ifs,0⟩] scope pos] [] pos2) (M.JE k vars.length it g tc me):=by with_unfolding_all exact zML (x:=x) (p:=p) (id:=id) (pos2:=pos2) (k:=k) (r:=r) hcr ad hgl hm hv hc C hi hg ht he hj' hs hn hdb
theorem zLZ {y:M.T}{z:Str}{j:Nat}{p apos cpos:Pos} (hz:z=ofT y) (hc:X.calm=true) (C:ji X vars scope cl) (hi:MI X Θ tg iter it) (hg:∀ C fp s₂ H₂,MG (zu X vars scope cl C fp s₂ H₂) Θ js tg g) (ht:∀ C fp s₂ H₂,Qj (zu X vars scope cl C fp s₂ H₂) ifs (RdT X.K Θ tc))
  (he:∀ C fp s₂ H₂,ME (zu X vars scope cl C fp s₂ H₂) Θ elt me) (hj':(js.all fun j=>decide (X.N.length <= j))=true) (ad:∀ ρ H S ds ys p Q,zf X.K Θ ρ S H->zM X.K ρ H ds ys->SqL X.K H p ys->zG X.K Θ (zQ X.K) ρ H (M.JM y ds S) Q->zGH X.K (.str (ofT y)) [.ref p] H Q) (hs:∀ x,foldedSetIterable iter X.env x=pure x:=by intro _;rfl)
  (hline:(apos.endLine == cpos.line)=true:=by rfl)
  :
  ME X Θ (.Call (.Attribute (.Constant (.str z) j p) "join" apos) [.ListComp elt [⟨tg,iter,ifs,0⟩] scope pos] [] cpos) (M.JE (M.JM y) vars.length it g tc me):=by
 intro pins s σ H Q I ⟨ρ,σ',S,st,rp,h⟩
 have hj:∀ j∈js,X.N.length <= j:=fun j hjj=>of_decide_eq_true (List.all_eq_true.mp hj' j hjj)
 subst hz
 refine zMr PySem.F.plainAttrs_str PySem.F.slot_str_join PySem.F.type_str_join zOC zK7 (zE6 (zFD (g:=RdG X.K Θ js g) (ti:=RdT X.K Θ tc) (te:=RdE X.K Θ me) hc C hi hg ht he hs) zG3 (j3 rfl)) rfl (zGX rfl (show 1 < 30 by decide)) hline (j3 rfl) rfl pins s σ H Q I ?_
 refine⟨rfl,zDD I hj st rp (zG.bind h fun ρ1 H1 ds ys S1 p1 l1 rp1 r1 h1 D hD=>?_)⟩
 exact ad ρ1 _ S1 ds ys D Q (rp1.aside hD _) (r1.mono (List.prefix_refl _) (Le.new hD _)) (SqL.of jM) (zG.weak h1 (List.prefix_refl _) (Le.new hD _))
theorem zJc {y:M.T}{z:Str}{j:Nat}{p apos cpos:Pos} (hz:z=ofT y) (hc:X.calm=true) (C:ji X vars scope cl) (hi:WI X Θ tg iter it) (hg:∀ C fp s₂ H₂,WG (zu X vars scope cl C fp s₂ H₂) Θ js tg g) (ht:∀ C fp s₂ H₂,Qj (zu X vars scope cl C fp s₂ H₂) ifs (RdT X.K Θ tc))
  (he:∀ C fp s₂ H₂,WE (zu X vars scope cl C fp s₂ H₂) Θ elt me) (hj':(js.all fun j=>decide (X.N.length <= j))=true) (ad:∀ ρ H S ds ys p Q,zf X.K Θ ρ S H->zM X.K ρ H ds ys->SqL X.K H p ys->zG X.K Θ (zQ X.K) ρ H (M.JM y ds S) Q->zGH X.K (.str (ofT y)) [.ref p] H Q) (hs:∀ x,foldedSetIterable iter X.env x=pure x:=by intro _;rfl)
  (hline:(apos.endLine == cpos.line)=true:=by rfl)
  :
  WE X Θ (.Call (.Attribute (.Constant (.str z) j p) "join" apos) [.ListComp elt [⟨tg,iter,ifs,0⟩] scope pos] [] cpos) (M.JE (M.JM y) vars.length it g tc me):=by with_unfolding_all exact zLZ (y:=y) (z:=z) (j:=j) (p:=p) (apos:=apos) (cpos:=cpos) hz hc C hi hg ht he hj' ad hs hline
end
def SpM (K:PySem.W.Frag) (Θ:Tab) (n:Nat) (f:M.F):Sp:=fun vs H Q _=>∃ ρ ds S,ds.length=n/\zM K ρ H ds vs/\zf K Θ ρ S H/\zG K Θ (zQ K) ρ H (f ds S) Q
def zEX (m:M.AM) (n:Nat):Prop:=∀ σ s xs s',m σ s=.ok xs s'->xs.length=n
theorem jR:zEX M.zD 0:=fun σ s xs s' h=>by cases h;rfl
theorem zS {a:M.EM}{r:M.AM}{n:Nat} (h:zEX r n):zEX (M.zB a r) (n+1):=fun σ s xs s' e=>by
 have e':((a σ s).bind fun x s=>(r σ s).bind fun xs s=>M.R.ok (x::xs) s)=.ok xs s':=e
 cases ha:a σ s with
 | no=>rw[ha] at e';cases e'
 | exc a s=>rw[ha] at e';cases e'
 | ok d S1 =>
  rw[ha] at e'
  have e2:((r σ S1).bind fun xs s=>M.R.ok (d::xs) s)=.ok xs s':=e'
  cases hr:r σ S1 with
  | no=>rw[hr] at e2;cases e2
  | exc a s=>rw[hr] at e2;cases e2
  | ok ds S2 =>
   rw[hr] at e2
   cases e2
   rw[List.length_cons,h _ _ _ _ hr]
section
variable {X:Cx}{Θ:Tab}{pos p:Pos}{x:Str}{ps:List Str}{e:Expr}{es:List Expr}{f:M.F}{m:M.AM}{k kk n:Nat}
theorem zNG (h:Has X.prog X.w X.K X.mg X.base x k ps (SpM X.K Θ n f)) (hr:jb kk X.A) (hk:k <= kk) (hg:Gl X x) (ha:MA X Θ (e::es) m) (ar:zEX m n) (hx:zBW CX0 X E0:=by exact zJp) (hdb:(x == ("__debug__" : Str))=false:=by decide)
  (he:jI e=true:=by rfl) (hpl:es.all jI=true:=by rfl):ME X Θ (.Call (.Name x p) (e::es) [] pos) (M.zI f m) :=
 (zMj h hr hk hg ha hx hdb (j3 he) (QC hpl)).imp fun σ H Q ⟨ρ,σ',S,st,rp,h⟩=>⟨ρ,σ',S,st,rp,by
  have h':zG X.K Θ (zQ X.K) ρ H ((m σ' S).bind fun xs s=>f xs s) Q:=h
  cases hm:m σ' S with
  | no=>rw[hm] at h';exact h'.elim
  | exc a s=>rw[hm] at h';exact h'.elim
  | ok ds S1 =>
   rw[hm] at h'
   intro ρ1 H1 vs p1 l1 rp1 r1
   rw[List.append_nil]
   exact⟨ρ1,ds,S1,ar _ _ _ _ hm,r1,rp1,zG.weak h' p1 l1⟩⟩
theorem zi (h:Has X.prog X.w X.K X.mg X.base x k ps (SpM X.K Θ n f)) (hr:jb kk X.A) (hk:k <= kk) (hg:Gl X x) (ha:WA X Θ (e::es) m) (ar:zEX m n) (hx:zBW CX0 X E0:=by exact zJp) (hdb:(x == ("__debug__" : Str))=false:=by decide)
  (he:jI e=true:=by rfl) (hpl:es.all jI=true:=by rfl):WE X Θ (.Call (.Name x p) (e::es) [] pos) (M.zI f m):=by with_unfolding_all exact zNG h hr hk hg ha ar hx hdb he hpl
end
section
variable {K:PySem.W.Frag}{Θ:Tab}{ρ ρ':List Addr}{H:Hp}{e:List Nat}
mutual
theorem zQ.unren (hρ:∀ (i j:Nat) a,e[i]? = some j->ρ[j]? = some a->ρ'[i]? = some a):∀ {d:M.D}{v:V},M.D.cl e.length d=true->zQ K ρ H (M.D.ren e d) v->zQ K ρ' H d v
 | .non,_,_,h=>h
 | .bl _,_,_,h=>h
 | .int _,_,_,h=>h
 | .str _,_,_,h=>h
 | .ty _,_,_,h=>h
 | .ref i,_,c,⟨a,h1,h2⟩=>by
  have hi:i < e.length:=of_decide_eq_true c
  refine⟨a,h1,hρ i (e.getD i i) a ?_ h2⟩
  rw[List.getD_eq_getElem?_getD,List.getElem?_eq_getElem hi];rfl
 | .tup _,_,c,⟨a,xs,h1,h2,h3⟩=>⟨a,xs,h1,h2,zM.unren hρ c h3⟩
 | .ro _,_,c,⟨a,xs,h1,h2,h3⟩=>⟨a,xs,h1,h2,zM.unren hρ c h3⟩
theorem zM.unren (hρ:∀ (i j:Nat) a,e[i]? = some j->ρ[j]? = some a->ρ'[i]? = some a):∀ {ds:List M.D}{xs:List V},M.D.cl.all e.length ds=true->zM K ρ H (M.D.ren.all e ds) xs->zM K ρ' H ds xs
 | [],_,_,h=>h
 | d::ds,_,c,⟨y,ys,h1,h2,h3⟩=>by
  have c':(M.D.cl e.length d && M.D.cl.all e.length ds)=true:=c
  rw[Bool.and_eq_true] at c'
  exact⟨y,ys,h1,zQ.unren hρ c'.1 h2,zM.unren hρ c'.2 h3⟩
end
theorem ObR.unren (hρ:∀ (i j:Nat) a,e[i]? = some j->ρ[j]? = some a->ρ'[i]? = some a) {a:Addr}{o:M.O} (c:M.O.cl e.length o=true) (h:ObR K Θ ρ H a (M.O.ren e o)):ObR K Θ ρ' H a o:=by
 cases o with
 | lst ds=>obtain⟨xs,h1,h2⟩:=h;exact⟨xs,h1,zM.unren hρ c h2⟩
 | dct kvs =>
  obtain⟨ks,h1,h2⟩:=h
  refine⟨ks,h1,?_⟩
  have c':∀ p∈kvs,(M.D.cl e.length p.1 && M.D.cl e.length p.2)=true:=List.all_eq_true.mp c
  clear h1
  revert h2 c'
  clear c
  induction kvs generalizing ks with
  | nil=>intro h2 c';cases h2;exact .nil
  | cons p kvs ih =>
   intro h2 c'
   rw[List.map_cons] at h2
   cases h2 with
   | cons r1 r2 =>
    have c1:=c' p List.mem_cons_self
    rw[Bool.and_eq_true] at c1
    refine .cons ⟨?_,zQ.unren hρ c1.2 r1.2⟩ (ih _ r2 (fun q hq=>c' q (List.mem_cons_of_mem _ hq)))
    have hk:=r1.1
    revert hk
    cases p.1<;>exact fun hk=>hk
 | fdc kvs =>
  obtain⟨o,ks,h1,h2⟩:=h
  refine⟨o,ks,h1,?_⟩
  have c':∀ p∈kvs,(M.D.cl e.length p.1 && M.D.cl e.length p.2)=true:=List.all_eq_true.mp c
  clear h1
  revert h2 c'
  clear c
  induction kvs generalizing ks with
  | nil=>intro h2 c';cases h2;exact .nil
  | cons p kvs ih =>
   intro h2 c'
   rw[List.map_cons] at h2
   cases h2 with
   | cons r1 r2 =>
    have c1:=c' p List.mem_cons_self
    rw[Bool.and_eq_true] at c1
    refine .cons ⟨?_,zQ.unren hρ c1.2 r1.2⟩ (ih _ r2 (fun q hq=>c' q (List.mem_cons_of_mem _ hq)))
    have hk:=r1.1
    revert hk
    cases p.1<;>exact fun hk=>hk
 | ins cc fs =>
  obtain⟨C,dx,gs,N,h1,h2,h3⟩:=h
  refine⟨C,dx,gs,N,h1,h2,by rw[<- h3.len];simp,h3.nd,h3.within,fun i f d q1 q2=>?_⟩
  obtain⟨v,k1,k2⟩:=h3.get i f (M.D.ren e d) q1 (by rw[List.getElem?_map,q2];rfl)
  refine⟨v,k1,zQ.unren hρ ?_ k2⟩
  have:=List.all_eq_true.mp c (some d) (List.mem_of_getElem? q2)
  exact this
theorem zG.gc {S S' S1:M.S}{d:M.D}{Q:VK} (em:M.Emb S.length e S' S1) (cd:M.D.cl S'.length d=true) (rp:zf K Θ ρ S H) (h:zG K Θ (zQ K) ρ H (.ok d S') Q):zG K Θ (zQ K) ρ H (.ok (M.D.ren e d) S1) Q:=by
 intro ρ1 H1 v p1 l1 rp1 r1
 have hlt:∀ {i j:Nat},e[i]? = some j->j < ρ1.length:=fun {i j} q=>by
  have hi:i < S'.length:=by rw[<- em.len];exact (List.getElem?_eq_some_iff.mp q).1
  obtain⟨j',q1,q2,_⟩:=em.obj i S'[i] (by simp[hi])
  rw[q] at q1;cases q1
  rw[rp1.len];exact (List.getElem?_eq_some_iff.mp q2).1
 have hρ:∀ (i j:Nat) a,e[i]? = some j->ρ1[j]? = some a->(e.map fun j=>ρ1.getD j 0)[i]? = some a:=fun i j a q1 q2=>by
  rw[List.getElem?_map,q1,Option.map_some,List.getD_eq_getElem?_getD,q2];rfl
 refine h (e.map fun j=>ρ1.getD j 0) H1 v ?_ l1 ⟨by rw[List.length_map,em.len],?_,fun i o q=>?_⟩ (zQ.unren hρ (by rw[em.len];exact cd) r1)
 ·refine List.prefix_iff_getElem?.mpr fun i hi=>?_
  have hi':i < S.length:=rp.len ▸ hi
  exact hρ i i _ (em.old i hi') (Q7 p1 (List.getElem?_eq_getElem hi))
 ·refine zMd fun i j x a b=>?_
  rw[List.getElem?_map] at a b
  cases ei:e[i]? with
  | none=>rw[ei] at a;cases a
  | some k =>
   cases ej:e[j]? with
   | none=>rw[ej] at b;cases b
   | some l =>
    rw[ei,Option.map_some,List.getD_eq_getElem?_getD,List.getElem?_eq_getElem (hlt ei)] at a
    rw[ej,Option.map_some,List.getD_eq_getElem?_getD,List.getElem?_eq_getElem (hlt ej)] at b
    have e1:ρ1[k]'(hlt ei)=x:=by simpa using a
    have e2:ρ1[l]'(hlt ej)=x:=by simpa using b
    have e3:=zLJ rp1.nd (hlt ei) (hlt ej) (e1.trans e2.symm)
    subst e3
    exact zB4 em.nd ei ej
 ·obtain⟨j,q1,q2,q3⟩:=em.obj i o q
  obtain⟨a,q4,q5⟩:=rp1.obj j _ q2
  exact⟨a,hρ i j a q1 q4,ObR.unren hρ (by rw[em.len];exact q3) q5⟩
end
section
variable {K:PySem.W.Frag}{Θ:Tab}{ρ:List Addr}{H:Hp}
mutual
theorem zQ.cl:∀ {d:M.D}{v:V},zQ K ρ H d v->M.D.cl ρ.length d=true
 | .non,_,_=>rfl
 | .bl _,_,_=>rfl
 | .int _,_,_=>rfl
 | .str _,_,_=>rfl
 | .ty _,_,_=>rfl
 | .ref _,_,⟨a,_,h2⟩=>decide_eq_true (List.getElem?_eq_some_iff.mp h2).1
 | .tup _,_,⟨_,_,_,_,h⟩=>zM.cl h
 | .ro _,_,⟨_,_,_,_,h⟩=>zM.cl h
theorem zM.cl:∀ {ds:List M.D}{xs:List V},zM K ρ H ds xs->M.D.cl.all ρ.length ds=true
 | [],_,_=>rfl
 | d::ds,_,⟨_,_,_,h1,h2⟩=>by
  show (M.D.cl ρ.length d && M.D.cl.all ρ.length ds)=true
  rw[zQ.cl h1,zM.cl h2];rfl
end
theorem zf.cl {S:M.S} (rp:zf K Θ ρ S H):M.clS S.length S=true:=by
 refine List.all_eq_true.mpr fun o ho=>?_
 obtain⟨i,hi,rfl⟩:=List.mem_iff_getElem.mp ho
 obtain⟨a,h1,h2⟩:=rp.obj i S[i] (by simp[hi])
 rw[<- rp.len]
 revert h2
 cases S[i] with
 | lst ds=>exact fun ⟨xs,_,r⟩=>r.cl
 | dct kvs =>
  intro ⟨ks,_,r⟩
  refine List.all_eq_true.mpr fun p hp=>?_
  have:∀ {kvs:List (M.D×M.D)}{ks:List (Key×V)},Paired (fun (p:M.D×M.D) (q:Key×V)=>yr p.1 q.1/\zQ K ρ H p.2 q.2) kvs ks->p∈kvs->(M.D.cl ρ.length p.1 && M.D.cl ρ.length p.2)=true:=by
   intro kvs ks r hp
   induction r with
   | nil=>cases hp
   | cons r1 r2 ih =>
    rcases List.mem_cons.mp hp with rfl | hp
    ·rw[r1.2.cl,Bool.and_true]
     have hk:=r1.1
     revert hk
     cases p.1<;>first | exact fun _=>rfl | exact fun hk=>hk.elim
    ·exact ih hp
  exact this r hp
 | fdc kvs =>
  intro ⟨_,ks,_,r⟩
  refine List.all_eq_true.mpr fun p hp=>?_
  have:∀ {kvs:List (M.D×M.D)}{ks:List (Key×V)},Paired (fun (p:M.D×M.D) (q:Key×V)=>yr p.1 q.1/\zQ K ρ H p.2 q.2) kvs ks->p∈kvs->(M.D.cl ρ.length p.1 && M.D.cl ρ.length p.2)=true:=by
   intro kvs ks r hp
   induction r with
   | nil=>cases hp
   | cons r1 r2 ih =>
    rcases List.mem_cons.mp hp with rfl | hp
    ·rw[r1.2.cl,Bool.and_true]
     have hk:=r1.1
     revert hk
     cases p.1<;>first | exact fun _=>rfl | exact fun hk=>hk.elim
    ·exact ih hp
  exact this r hp
 | ins c fs =>
  intro ⟨C,dx,gs,N,_,_,r⟩
  refine List.all_eq_true.mpr fun od hod=>?_
  cases od with
  | none=>rfl
  | some d =>
   obtain⟨j,hj,ej⟩:=List.mem_iff_getElem.mp hod
   have hN:j < N.length:=r.len ▸ hj
   obtain⟨v,_,rv⟩:=r.get j N[j] d (by simp[hN]) (by rw[List.getElem?_eq_getElem hj,ej])
   exact rv.cl
end
section
variable {P:Program}{w:World}{K:PySem.W.Frag}{mg:Str->Option Value}{base:Heap}{Θ:Tab}
theorem zFk {ρ:List Addr}{H:Hp}{ds:List M.D}{vs:List V} (r:zM K ρ H ds vs) (N:List Str):jV K ρ H (ds.map some++List.replicate (N.length - ds.length) none) (start N vs):=by
 have hl:=r.length
 refine⟨by simp[start,hl],fun i d q=>?_⟩
 unfold start
 by_cases hi:i < ds.length
 ·rw[List.getElem?_append_left (by simpa using hi),List.getElem?_map] at q
  cases e:ds[i]? with
  | none=>rw[e] at q;cases q
  | some d' =>
   rw[e] at q
   cases q
   obtain⟨v,e1,rv⟩:=r.get e
   refine⟨v,?_,rv⟩
   rw[List.getElem?_append_left (by simp;omega),List.getElem?_map,e1];rfl
 ·rw[List.getElem?_append_right (by simp;omega),List.getElem?_replicate] at q
  split at q<;>cases q
theorem zQm {x qual:Str}{st:Stmt}{f:Addr}{fd:FuncData}{N ps:List Str}{k:Nat}{b:M.SM}{q:M.F} (F:Fun K x qual st f fd) (Sc:ja N ps (zO st)) (rf:M.jO ps.length (M.fn N.length b) q)
  (hbody:∀ (cdv:Value) (A:Around) (outer:List Env) (s:Shared) (H:Hp) (E:XK),jb k (A.deeper (envOfC qual (zO st) s.heap.objs.size f cdv)) ->
   MSs (zAe CX0 P w K mg base N qual (zO st) f cdv A outer s H E).nox Θ (jP st) b):qH P w K mg base CX0 (k+1) f fd ps (SpM K Θ ps.length q):=by
 refine F.ok (k:=k) Sc (fun vs H Q E h=>?_) (fun cdv A outer s H vs Q E hr h=>?_)
 ·obtain⟨ρ,ds,S,hl,r,_⟩:=h
  rw[<- r.length,hl]
 ·obtain⟨ρ,ds,S,hl,r,rp,h⟩:=h
  refine⟨_,hbody cdv A outer s H E hr,ρ,_,S,zFk r N,rp,?_⟩
  rcases rf ds S hl rp.cl (rp.len ▸ r.cl) with e | ⟨d,S',S1,em,e1,e2,emb,cd⟩
  ·rw[e] at h;exact h.elim
  ·rw[e1] at h
   have h2:=zG.gc emb cd rp h
   have e3:(b (ds.map some++List.replicate (N.length - ds.length) none) S).out=.ok (M.D.ren em d) S1:=e2
   show zn K Θ ρ H (b (ds.map some++List.replicate (N.length - ds.length) none) S) _
   revert e3
   cases b (ds.map some++List.replicate (N.length - ds.length) none) S with
   | rt a s=>intro e3;cases e3;exact h2
   | nx a s =>
    intro e3
    have e4:M.R.ok M.D.non s=.ok (M.D.ren em d) S1:=e3
    injection e4 with e5 e6
    subst e6
    rw[<- e5] at h2
    exact fun ρ1 H1 σ1 p1 l1 rp1 _=>h2 ρ1 H1 .non p1 l1 rp1 rfl
   | bk a s=>intro e3;cases e3
   | ct a s=>intro e3;cases e3
   | exc e a s=>intro e3;cases e3
   | no=>intro e3;cases e3
theorem yA {x qual:Str}{st:Stmt}{f:Addr}{fd:FuncData}{N ps:List Str}{k:Nat}{b:M.SM}{q:M.F} (F:Fun K x qual st f fd) (Sc:ja N ps (zO st)) (rf:M.jO ps.length (M.fn N.length b) q)
  (hbody:∀ (cdv:Value) (A:Around) (outer:List Env) (s:Shared) (H:Hp) (E:XK),jb k (A.deeper (envOfC qual (zO st) s.heap.objs.size f cdv)) ->
   WSs (zAe CX0 P w K mg base N qual (zO st) f cdv A outer s H E).nox Θ (jP st) b):qH P w K mg base CX0 (k+1) f fd ps (SpM K Θ ps.length q):=by with_unfolding_all exact zQm (x:=x) (qual:=qual) (st:=st) (f:=f) (fd:=fd) (N:=N) (ps:=ps) (k:=k) (b:=b) (q:=q) F Sc rf hbody
end
end L2
namespace L2
open PySem PySem.Spec PyProof.Rows
section
variable {K:PySem.W.Frag}{Θ:Tab}
theorem zG9:Ad2 K Θ M.zAQ zO3:=by
 intro ρ H S x y X Y Q rp rx ry h
 cases x with
 | int i =>
  cases y with
  | int j=>cases rx;cases ry;exact zG.here (b:=V.int (i - j)) h rp rfl
  | _=>exact h.elim
 | _=>exact h.elim
theorem zHS {i:Int} (h:M.JT i=true):-(2 ^ 64) < i/\i < 2 ^ 64:=by
 have h':i.natAbs < 18446744073709551616:=of_decide_eq_true h
 exact⟨by omega,by omega⟩
theorem zBc:Ad2 K Θ M.zAR zO1:=by
 intro ρ H S x y X Y Q rp rx ry h
 cases x with
 | int i =>
  cases y with
  | int j =>
   cases rx;cases ry
   have h':zG K Θ (zQ K) ρ H (if 0 < j/\j.natAbs < 1073741824 then M.R.ok (M.D.int (i / j)) S else .no) Q:=h
   by_cases hc:0 < j/\j.natAbs < 1073741824
   ·rw[if_pos hc] at h';exact⟨⟨hc.1,by omega⟩,zG.here (b:=V.int (i / j)) h' rp rfl⟩
   ·rw[if_neg hc] at h';exact h'.elim
  | _=>exact h.elim
 | _=>exact h.elim
theorem qL:Ad2 K Θ M.jg zPM:=by
 intro ρ H S x y X Y Q rp rx ry h
 cases x with
 | int i =>
  cases y with
  | int j =>
   cases rx;cases ry
   have h':zG K Θ (zQ K) ρ H (if 0 < j then M.R.ok (M.D.int (i % j)) S else .no) Q:=h
   by_cases hc:0 < j
   ·rw[if_pos hc] at h';exact⟨hc,zG.here (b:=V.int (i % j)) h' rp rfl⟩
   ·rw[if_neg hc] at h';exact h'.elim
  | _=>exact h.elim
 | _=>exact h.elim
theorem Qr {ρ:List Addr}{S:M.S}{H:Hp} (rp:zf K Θ ρ S H) {i:Nat}{a:Addr} (ha:ρ[i]? = some a) {xs:List M.D} (q:S[i]? = some (.lst xs)):∃ zs,H a=some (.lst zs)/\zM K ρ H xs zs:=by
 obtain⟨b,e1,zs,e2,r⟩:=rp.obj i _ q
 rw[ha] at e1;cases e1
 exact⟨zs,e2,r⟩
theorem qR:Ad2 K Θ M.jW (fun x y H Q=>zPj x y H Q\/zMs K x y H Q):=by
 intro ρ H S x y X Y Q rp rx ry h
 cases x with
 | int i =>
  cases y with
  | int j=>cases rx;cases ry;exact .inl (zG.here (b:=V.int (i+j)) h rp rfl)
  | _=>exact h.elim
 | str a =>
  cases y with
  | str b =>
   obtain⟨rfl,oka⟩:=rx
   obtain⟨rfl,okb⟩:=ry
   have h':zG K Θ (zQ K) ρ H (if a.length+b.length <= M.SZ then M.R.ok (M.D.str (a++b)) S else .no) Q:=h
   by_cases hc:a.length+b.length <= M.SZ
   ·rw[if_pos hc] at h'
    refine .inl ⟨by rw[qO,qO,<- Zc];exact hc,?_⟩
    rw[zIV]
    exact zG.here (b:=V.str (ofT (a++b))) h' rp ⟨rfl,zC9 oka okb⟩
   ·rw[if_neg hc] at h';exact h'.elim
  | _=>exact h.elim
 | tup a =>
  cases y with
  | tup b =>
   obtain⟨l,xs,rfl,hq,r⟩:=rx
   obtain⟨l',ys,rfl,hq',r'⟩:=ry
   have h':zG K Θ (zQ K) ρ H (if a≠[]/\a.length+b.length <= M.SZ then M.R.ok (M.D.tup (a++b)) S else .no) Q:=h
   by_cases hc:a≠[]/\a.length+b.length <= M.SZ
   ·rw[if_pos hc] at h'
    refine .inr ⟨l,l',xs,ys,rfl,rfl,hq,hq',fun z=>hc.1 ?_,by rw[<- r.length,<- r'.length,<- Zc];exact hc.2,fun hy=>?_,fun hy p hp=>?_⟩
    ·subst z
     have:=r.length
     exact List.length_eq_zero_iff.mp this
    ·subst hy
     have hb:b=[]:=List.length_eq_zero_iff.mp r'.length
     subst hb
     rw[List.append_nil] at h'
     exact zG.here h' rp ⟨l,xs,rfl,hq,r⟩
    ·exact h' ρ _ _ (List.prefix_refl _) (Le.new hp _) (rp.aside hp _) ⟨p,_,rfl,SqT.of jM,(r.app r').mono (List.prefix_refl _) (Le.new hp _)⟩
   ·rw[if_neg hc] at h';exact h'.elim
  | _=>exact h.elim
 | ref i =>
  cases y with
  | ref j =>
   obtain⟨a,rfl,ea⟩:=rx
   obtain⟨b,rfl,eb⟩:=ry
   have h':zG K Θ (zQ K) ρ H (match S[i]?,S[j]? with
    | some (.lst xs),some (.lst ys)=>if xs.length+ys.length <= M.SZ then M.alloc (.lst (xs++ys)) S else .no
    | _,_=>.no) Q:=h
   split at h'
   ·rename_i xs ys q1 q2
    obtain⟨zs,e1,r1⟩:=Qr rp ea q1
    obtain⟨ws,e2,r2⟩:=Qr rp eb q2
    by_cases hc:xs.length+ys.length <= M.SZ
    ·rw[if_pos hc] at h'
     exact .inl ⟨zs,ws,e1,e2,by rw[<- r1.length,<- r2.length,<- Zc];exact hc,fun p hp=>h'.alloc rp (r1.app r2) hp⟩
    ·rw[if_neg hc] at h';exact h'.elim
   ·exact h'.elim
  | _=>exact h.elim
 | _=>exact h.elim
theorem zQq:AdC K Θ M.cLt uLt:=by
 intro ρ H S x y X Y Q rp rx ry h
 cases x with
 | int i =>
  cases y with
  | int j=>cases rx;cases ry;exact zG.here (b:=decide (i < j)) h rp rfl
  | _=>exact h.elim
 | str a =>
  cases y with
  | str b =>
   obtain⟨rfl,_⟩:=rx
   obtain⟨rfl,_⟩:=ry
   show Q (.bl (decide ((ofT a).cps.toList < (ofT b).cps.toList))) H
   rw[Zk,Zk]
   exact zG.here (b:=decide (a < b)) h rp rfl
  | _=>exact h.elim
 | _=>exact h.elim
theorem zD2:AdC K Θ M.cGt uGt:=by
 intro ρ H S x y X Y Q rp rx ry h
 cases x with
 | int i =>
  cases y with
  | int j=>cases rx;cases ry;exact zG.here (b:=decide (j < i)) h rp rfl
  | _=>exact h.elim
 | _=>exact h.elim
theorem zMw:AdC K Θ M.cGe uGe:=by
 intro ρ H S x y X Y Q rp rx ry h
 cases x with
 | int i =>
  cases y with
  | int j=>cases rx;cases ry;exact zG.here (b:=decide (j <= i)) h rp rfl
  | _=>exact h.elim
 | _=>exact h.elim
theorem zFB {ρ:List Addr}{H:Hp}{ds:List M.D}{xs:List V}{i:Int}{d:M.D} (r:zM K ρ H ds xs) (e:M.atI ds i=some d):∃ v,atI xs i=some v/\zQ K ρ H d v:=by
 unfold M.atI at e
 cases q:M.ixN ds.length i with
 | none=>rw[q] at e;cases e
 | some j =>
  rw[q] at e
  obtain⟨v,e1,rv⟩:=r.get (i:=j) e
  have q':ixN xs.length i=some j:=by rw[<- r.length];exact q
  exact⟨v,by unfold atI;rw[q'];exact e1,rv⟩
end
end L2
namespace L2
open PySem PySem.Spec PyProof.Rows
section
variable {K:PySem.W.Frag}{Θ:Tab}
theorem zOT {X:Cx}{a:Expr}{ma:M.EM} (ha:ME X Θ a ma) (he:∀ whole,isTrue a X.env whole=(do let v <- whole;standAt a.pos;holding [v] (truthy v)):=by intro _;rfl):MT X Θ a (M.qe ma) :=
 (zMl ha he).imp fun σ H Q ⟨ρ,σ',S,st,rp,h⟩=>⟨ρ,σ',S,st,rp,zG.bind h fun ρ1 H1 x X1 S1 p1 l1 rp1 rx h1=>by
  cases x with
  | non=>cases rx;exact⟨false,rfl,zG.here (b:=false) h1 rp1 rfl⟩
  | bl b=>cases rx;exact⟨b,rfl,zG.here (b:=b) h1 rp1 rfl⟩
  | int i=>cases rx;exact⟨_,rfl,zG.here (b:=(i != 0)) h1 rp1 (by show decide (i≠0)=(i != 0);by_cases hi:i=0<;>simp[hi])⟩
  | str z =>
   obtain⟨rfl,_⟩:=rx
   by_cases hz:z.length <= M.SZ
   ·simp only[M.yo,if_pos hz] at h1
    refine⟨_,⟨by rw[qO,<- Zc];exact hz,rfl⟩,zG.here (b:=(((ofT z).length:Int) != 0)) h1 rp1 ?_⟩
    show (!z.isEmpty)=_
    rw[qO]
    cases z<;>simp<;>omega
   ·simp only[M.yo,if_neg hz] at h1;exact h1.elim
  | tup ds =>
   obtain⟨l,xs,rfl,hq,r⟩:=rx
   refine⟨_,.inr (.inl ⟨xs,hq,rfl⟩),zG.here (b:=!xs.isEmpty) h1 rp1 ?_⟩
   show (!ds.isEmpty)=_
   have:=r.length
   cases ds<;>cases xs<;>first | rfl | cases this
  | ro ds =>
   obtain⟨l,xs,rfl,hq,r⟩:=rx
   refine⟨_,.inl ⟨xs,hq.sq,rfl⟩,zG.here (b:=!xs.isEmpty) h1 rp1 ?_⟩
   show (!ds.isEmpty)=_
   have:=r.length
   cases ds<;>cases xs<;>first | rfl | cases this
  | ref p =>
   obtain⟨a,rfl,ea⟩:=rx
   cases q:S1[p]? with
   | none=>simp[M.yo,q] at h1;exact h1.elim
   | some o =>
    cases o with
    | lst xs =>
     simp only[M.yo,q] at h1
     obtain⟨zs,e1,r⟩:=Qr rp1 ea q
     refine⟨_,.inl ⟨zs,SqL.of e1,rfl⟩,zG.here (b:=!zs.isEmpty) h1 rp1 ?_⟩
     show (!xs.isEmpty)=_
     have:=r.length
     cases xs<;>cases zs<;>first | rfl | cases this
    | dct kvs =>
     simp only[M.yo,q] at h1
     obtain⟨b,e1,zs,e2,r⟩:=rp1.obj _ _ q
     rw[ea] at e1;cases e1
     refine⟨_,.inr (.inr ⟨zs,e2,rfl⟩),zG.here (b:=!zs.isEmpty) h1 rp1 ?_⟩
     cases r<;>rfl
    | fdc _=>simp[M.yo,q] at h1;exact h1.elim
    | ins c fs=>simp[M.yo,q] at h1;exact h1.elim
  | ty n=>exact h1.elim⟩
theorem ym {X:Cx}{a:Expr}{ma:M.EM} (ha:WE X Θ a ma) (he:∀ whole,isTrue a X.env whole=(do let v <- whole;standAt a.pos;holding [v] (truthy v)):=by intro _;rfl):WT X Θ a (M.qe ma):=by with_unfolding_all exact zOT (X:=X) (a:=a) (ma:=ma) ha he
inductive TyM (K:PySem.W.Frag) (H:Hp):V->String->Prop where
 | of {x:V}{A:String} (h:Jh K H x (.type A)):TyM K H x A
 | sqT {a:Addr}{xs:List V} (h:SqT K H a xs):TyM K H (.ref a) "tuple"
 | sqL {a:Addr}{xs:List V} (h:SqL K H a xs):TyM K H (.ref a) "list"
def zMP (K:PySem.W.Frag):List V->Hp->VK->Prop:=fun xs H Q=>∃ x n A b,xs=[x,.ty n]/\TyM K H x A/\PySem.W.kitOne K (.type A) (.type n)=some b/\Q (.bl b) H
theorem zGh {X:Cx}:qQ X (.builtin "isinstance") (zMP X.K):=by
 intro pins s σ H xs us Q I r h
 obtain⟨x,n,A,b,rfl,ty,e,q⟩:=h
 obtain⟨u,w',rfl,ru,rc⟩:=zMy r
 cases rc
 cases ty with
 | of h=>exact wpAny_with_toks (n:=1) I.tk (zKG I ru h e fun tk hk=>⟨.bl b,H,I.tok tk hk,rfl,q⟩)
 | sqT h =>
  cases ru
  obtain⟨its,_,⟨o,h1,h2,_⟩,_⟩:=I.tuple h
  exact wpAny_with_toks (n:=1) I.tk (PySem.W.kia_one PySem.W.kitx_tuple I.kIn ⟨o,h1,h2⟩ e (fun z=>nomatch z) fun tk hk=>⟨.bl b,H,I.tok tk hk,rfl,q⟩)
 | sqL h =>
  cases ru
  obtain⟨its,_,⟨o,n,h1,h2,_⟩,_⟩:=I.list h
  exact wpAny_with_toks (n:=1) I.tk (PySem.W.kia_one PySem.W.kitx_list I.kIn ⟨o,h1,h2⟩ e (fun z=>nomatch z) fun tk hk=>⟨.bl b,H,I.tok tk hk,rfl,q⟩)
theorem zNM (n:M.Kd):PySem.W.kitOne K (.type "NoneType") (.type (q0 n))=some false/\PySem.W.kitOne K (.type "bool") (.type (q0 n))=some (match n with | .bool=>true | .int=>true | _=>false) /\
  PySem.W.kitOne K (.type "int") (.type (q0 n))=some (match n with | .int=>true | _=>false)/\PySem.W.kitOne K (.type "str") (.type (q0 n))=some (match n with | .str=>true | _=>false) /\
  PySem.W.kitOne K (.type "tuple") (.type (q0 n))=some (match n with | .tuple=>true | _=>false)/\PySem.W.kitOne K (.type "list") (.type (q0 n))=some (match n with | .list=>true | _=>false) /\
  PySem.W.kitOne K (.type "dict") (.type (q0 n))=some (match n with | .dict=>true | _=>false):=by
 cases n<;>exact⟨zAp (by decide +kernel),zAp (by decide +kernel),zAp (by decide +kernel),zAp (by decide +kernel),zAp (by decide +kernel),zAp (by decide +kernel),zAp (by decide +kernel)⟩
theorem zKU:AdN K Θ M.zB2 (zMP K):=by
 intro ρ H S xs Xs Q rp rx h
 match xs,rx,h with
 | [x,.ty n],rx,h =>
  obtain⟨v,_,rfl,rv,_,_,rfl,rfl,rfl⟩:=rx
  obtain⟨k1,k2,k3,k4,k5,k6,k7⟩:=zNM (K:=K) n
  have fin:∀ {A:String}{b:Bool},M.JQ n x S=.ok b S->TyM K H v A->PySem.W.kitOne K (.type A) (.type (q0 n))=some b->zMP K [v,.ty (q0 n)] H Q:=fun {A b} e ty k=>by
   have h':zG K Θ (zQ K) ρ H ((M.JQ n x S).bind fun b s=>.ok (.bl b) s) Q:=h
   rw[e] at h'
   exact⟨v,q0 n,A,b,rfl,ty,k,zG.here (b:=V.bl b) h' rp rfl⟩
  cases x with
  | non=>cases rv;exact fin rfl (.of .non) k1
  | bl b=>cases rv;exact fin rfl (.of (.bl b)) k2
  | int i=>cases rv;exact fin rfl (.of (.int i)) k3
  | str z=>obtain⟨rfl,_⟩:=rv;exact fin rfl (.of (.str _)) k4
  | tup ds=>obtain⟨l,ys,rfl,hq,r⟩:=rv;exact fin rfl (.sqT hq) k5
  | ro ds=>obtain⟨l,ys,rfl,hq,r⟩:=rv;exact fin rfl (.sqL hq.sq) k6
  | ty m=>exact h.elim
  | ref p =>
   obtain⟨a,rfl,ea⟩:=rv
   cases q:S[p]? with
   | none=>simp[M.zB2,M.JQ,q] at h;exact h.elim
   | some o =>
    cases o with
    | lst xs =>
     obtain⟨zs,e1,r⟩:=Qr rp ea q
     refine fin ?_ (.sqL (SqL.of e1)) k6
     simp only[M.JQ,q]<;>(cases n<;>rfl)
    | dct kvs =>
     obtain⟨b,e1,zs,e2,r⟩:=rp.obj _ _ q
     rw[ea] at e1;cases e1
     refine fin ?_ (.of (.dK e2)) k7
     simp only[M.JQ,q]<;>(cases n<;>rfl)
    | fdc _=>simp[M.zB2,M.JQ,q] at h;exact h.elim
    | ins c fs=>simp[M.zB2,M.JQ,q] at h;exact h.elim
 | [_,.non],_,h=>exact h.elim
 | [_,.bl _],_,h=>exact h.elim
 | [_,.int _],_,h=>exact h.elim
 | [_,.str _],_,h=>exact h.elim
 | [_,.tup _],_,h=>exact h.elim
 | [_,.ro _],_,h=>exact h.elim
 | [_,.ref _],_,h=>exact h.elim
 | [],_,h=>exact h.elim
 | [_],_,h=>exact h.elim
 | _::b::_::_,_,h=>cases b<;>exact h.elim
def ofP:M.P->PyData
 | .non=>.none
 | .bl b=>.bool b
 | .int i=>.int i
 | .str x=>.str (ofT x)
 | .tup ps=>.tuple (all ps)
 | .lst ps=>.list (all ps)
where all:List M.P->List PyData
 | []=>[]
 | p::ps=>ofP p::all ps
theorem zIo (x y:M.T):(ofT x == ofT y)=(x == y):=by
 by_cases h:x=y
 ·subst h;simp
 ·rw[beq_eq_false_iff_ne.mpr h,beq_eq_false_iff_ne.mpr fun e=>h (zC0 e)]
mutual
theorem zEz:∀ p q:M.P,PyData.eqv (ofP p) (ofP q)=M.P.eqv p q
 | .non,.non=>rfl
 | .non,.bl _=>rfl
 | .non,.int _=>rfl
 | .non,.str _=>rfl
 | .non,.tup _=>rfl
 | .non,.lst _=>rfl
 | .bl _,.non=>rfl
 | .bl _,.bl _=>rfl
 | .bl _,.int _=>rfl
 | .bl _,.str _=>rfl
 | .bl _,.tup _=>rfl
 | .bl _,.lst _=>rfl
 | .int _,.non=>rfl
 | .int _,.bl _=>rfl
 | .int _,.int _=>rfl
 | .int _,.str _=>rfl
 | .int _,.tup _=>rfl
 | .int _,.lst _=>rfl
 | .str _,.non=>rfl
 | .str _,.bl _=>rfl
 | .str _,.int _=>rfl
 | .str x,.str y=>zIo x y
 | .str _,.tup _=>rfl
 | .str _,.lst _=>rfl
 | .tup _,.non=>rfl
 | .tup _,.bl _=>rfl
 | .tup _,.int _=>rfl
 | .tup _,.str _=>rfl
 | .tup ps,.tup qs=>zDQ ps qs
 | .tup _,.lst _=>rfl
 | .lst _,.non=>rfl
 | .lst _,.bl _=>rfl
 | .lst _,.int _=>rfl
 | .lst _,.str _=>rfl
 | .lst _,.tup _=>rfl
 | .lst ps,.lst qs=>zDQ ps qs
theorem zDQ:∀ ps qs:List M.P,PyData.eqvAll (ofP.all ps) (ofP.all qs)=M.P.eqvs ps qs
 | [],[]=>rfl
 | [],_::_=>rfl
 | _::_,[]=>rfl
 | p::ps,q::qs=>by
  show (PyData.eqv (ofP p) (ofP q) && PyData.eqvAll (ofP.all ps) (ofP.all qs))=(M.P.eqv p q && M.P.eqvs ps qs)
  rw[zEz p q,zDQ ps qs]
end
mutual
theorem zBf:∀ p:M.P,PyData.depth (ofP p)=M.P.dep p
 | .non=>rfl
 | .bl _=>rfl
 | .int _=>rfl
 | .str _=>rfl
 | .tup ps=>by show PyData.depthAll (ofP.all ps)+1=M.P.deps ps+1;rw[zDc ps]
 | .lst ps=>by show PyData.depthAll (ofP.all ps)+1=M.P.deps ps+1;rw[zDc ps]
theorem zDc:∀ ps:List M.P,PyData.depthAll (ofP.all ps)=M.P.deps ps
 | []=>rfl
 | p::ps=>by show max (PyData.depth (ofP p)) (PyData.depthAll (ofP.all ps))=max (M.P.dep p) (M.P.deps ps);rw[zBf p,zDc ps]
end
section
variable {ρ:List Addr}{H:Hp}
mutual
theorem zI5 {g:Nat->Option M.P} (hg:∀ i p v,g i=some p->zQ K ρ H (.ref i) v->qo K H v (ofP p)/\(ofP p).canLay0=true):∀ {d:M.D}{p:M.P}{v:V},M.Qi g d=some p->zQ K ρ H d v->qo K H v (ofP p)/\(ofP p).canLay0=true
 | .non,_,_,e,r=>by cases e;cases r;exact⟨.non,rfl⟩
 | .bl _,_,_,e,r=>by cases e;cases r;exact⟨.bl _,rfl⟩
 | .int _,_,_,e,r=>by cases e;cases r;exact⟨.int _,rfl⟩
 | .str x,_,_,e,r=>by
  cases e
  obtain⟨rfl,ok⟩:=r
  refine⟨.str _,?_⟩
  show PyData.strOk (ofT x)=true
  unfold PyData.strOk ofT
  have ok':x.all (fun c=>decide (c < 1114112))=true:=ok
  simpa using ok'
 | .tup ds,_,_,e,r=>by
  obtain⟨l,xs,rfl,hq,rr⟩:=r
  have e':(M.Qi.all g ds).map M.P.tup=some _:=e
  cases q:M.Qi.all g ds with
  | none=>rw[q] at e';cases e'
  | some ps =>
   rw[q] at e'
   cases e'
   obtain⟨h1,h2⟩:=zEF hg q rr
   exact⟨.tup hq h1,h2⟩
 | .ro ds,_,_,e,r=>by
  obtain⟨l,xs,rfl,hq,rr⟩:=r
  have e':(M.Qi.all g ds).map M.P.lst=some _:=e
  cases q:M.Qi.all g ds with
  | none=>rw[q] at e';cases e'
  | some ps =>
   rw[q] at e'
   cases e'
   obtain⟨h1,h2⟩:=zEF hg q rr
   exact⟨.lst hq.sq h1,h2⟩
 | .ref i,_,_,e,r=>hg i _ _ e r
 | .ty _,_,_,e,_=>by cases e
theorem zEF {g:Nat->Option M.P} (hg:∀ i p v,g i=some p->zQ K ρ H (.ref i) v->qo K H v (ofP p)/\(ofP p).canLay0=true):∀ {ds:List M.D}{ps:List M.P}{xs:List V},M.Qi.all g ds=some ps->zM K ρ H ds xs->QM K H xs (ofP.all ps)/\PyData.canLayAll0 (ofP.all ps)=true
 | [],_,_,e,r=>by cases e;cases r;exact⟨.nil,rfl⟩
 | d::ds,_,_,e,r=>by
  obtain⟨y,ys,rfl,r1,r2⟩:=r
  have e':(match M.Qi g d,M.Qi.all g ds with | some p,some ps=>some (p::ps) | _,_=>none)=some _:=e
  cases q1:M.Qi g d with
  | none=>rw[q1] at e';cases e'
  | some p =>
   cases q2:M.Qi.all g ds with
   | none=>rw[q1,q2] at e';cases e'
   | some ps =>
    rw[q1,q2] at e'
    cases e'
    obtain⟨h1,h2⟩:=zI5 hg q1 r1
    obtain⟨h3,h4⟩:=zEF hg q2 r2
    refine⟨.cons h1 h3,?_⟩
    show (PyData.canLay0 (ofP p) && PyData.canLayAll0 (ofP.all ps))=true
    rw[h2,h4];rfl
end
theorem zCO {S:M.S} (rp:zf K Θ ρ S H):∀ (n:Nat) {d:M.D}{p:M.P}{v:V},M.toP n S d=some p->zQ K ρ H d v->qo K H v (ofP p)/\(ofP p).canLay0=true
 | 0,_,_,_,e,r=>zI5 (fun i p v e _=>by cases e) e r
 | n+1,_,_,_,e,r=>zI5 (fun i p v e r=>by
   obtain⟨a,rfl,ea⟩:=r
   have e':(match M.jf S i with | some xs=>(M.Qi.all (fun j=>M.toP n S (.ref j)) xs).map M.P.lst | none=>none)=some p:=e
   cases q:S[i]? with
   | none=>simp[M.jf,q] at e'
   | some o =>
    cases o with
    | lst xs =>
     simp only[M.jf,q] at e'
     obtain⟨zs,e1,rr⟩:=Qr rp ea q
     cases q2:M.Qi.all (fun j=>M.toP n S (.ref j)) xs with
     | none=>rw[q2] at e';cases e'
     | some ps =>
      rw[q2] at e'
      cases e'
      obtain⟨h1,h2⟩:=zEF (fun j p v e r=>zCO rp n e r) q2 rr
      exact⟨.lst (SqL.of e1) h1,h2⟩
    | dct kvs=>simp[M.jf,q] at e'
    | fdc _=>simp[M.jf,q] at e'
    | ins c fs=>simp[M.jf,q] at e') e r
end
abbrev DR (K:PySem.W.Frag) (ρ:List Addr) (H:Hp):List (M.D×M.D)->List (Key×V)->Prop:=Paired fun p q=>yr p.1 q.1/\zQ K ρ H p.2 q.2
theorem zDl {d e:M.D}{a b:Key} (ha:yr d a) (hb:yr e b):(a=b)=(d=e):=by
 cases d with
 | int i =>
  cases ha
  cases e with
  | int j=>cases hb;exact propext ⟨fun z=>by cases z;rfl,fun z=>by cases z;rfl⟩
  | str y=>obtain⟨rfl,_⟩:=hb;exact propext ⟨fun z=>(nomatch z),fun z=>(nomatch z)⟩
  | _=>exact hb.elim
 | str x =>
  obtain⟨rfl,_⟩:=ha
  cases e with
  | int j=>cases hb;exact propext ⟨fun z=>(nomatch z),fun z=>(nomatch z)⟩
  | str y=>obtain⟨rfl,_⟩:=hb;exact propext ⟨fun z=>by rw[zC0 (Sum.inr.inj z)],fun z=>by cases z;rfl⟩
  | _=>exact hb.elim
 | _=>exact ha.elim
theorem Qa {ρ:List Addr}{H:Hp}{d:M.D}{v:V} (h:M.jA d=true) (r:zQ K ρ H d v):∃ k,yr d k/\v=kV k:=by
 cases d with
 | int i=>cases r;exact⟨.inl i,rfl,rfl⟩
 | str x=>obtain⟨rfl,ok⟩:=r;exact⟨.inr (ofT x),⟨rfl,ok⟩,rfl⟩
 | _=>cases h
section
variable {ρ:List Addr}{H:Hp}{kvs:List (M.D×M.D)}{ks:List (Key×V)}{d:M.D}{k:Key}
theorem DR.val (r:DR K ρ H kvs ks) (hk:yr d k):match M.jT d kvs with | some e=>∃ v,yk ks k=some v/\zQ K ρ H e v | none=>yk ks k=none:=by
 induction r with
 | nil=>exact rfl
 | @cons p q ps qs h t ih =>
  have e:=zDl h.1 hk
  by_cases hd:p.1=d
  ·have hq:q.1=k:=e.mpr hd
   rw[zBw hq,M.jT,List.lookup_cons,beq_iff_eq.mpr hd.symm]
   exact⟨_,rfl,h.2⟩
  ·have hq:¬ q.1=k:=fun z=>hd (e.mp z)
   rw[zBs hq,M.jT,List.lookup_cons,beq_eq_false_iff_ne.mpr (Ne.symm hd)]
   exact ih
theorem DR.any (r:DR K ρ H kvs ks) (hk:yr d k):(ks.any fun kv=>decide (kv.1=k))=kvs.any fun kv=>decide (kv.1=d):=by
 induction r with
 | nil=>rfl
 | @cons p q ps qs h t ih =>
  rw[List.any_cons,List.any_cons,ih]
  congr 1
  exact decide_eq_decide.mpr (zDl h.1 hk ▸ Iff.rfl)
theorem DR.put (r:DR K ρ H kvs ks) (hk:yr d k) {e:M.D}{v:V} (rv:zQ K ρ H e v):DR K ρ H (M.jx d e kvs) (ZB ks k v):=by
 unfold M.jx ZB
 rw[r.any hk]
 by_cases ha:(kvs.any fun kv=>decide (kv.1=d))=true
 ·rw[if_pos ha,if_pos ha]
  clear ha
  induction r with
  | nil=>exact .nil
  | @cons p q ps qs h t ih =>
   rw[List.map_cons,List.map_cons]
   refine .cons ?_ ih
   have eq:=zDl h.1 hk
   by_cases hd:p.1=d
   ·rw[if_pos hd,if_pos (eq.mpr hd)];exact⟨h.1,rv⟩
   ·rw[if_neg hd,if_neg fun z=>hd (eq.mp z)];exact h
 ·rw[if_neg ha,if_neg ha]
  exact Paired.snoc r ⟨hk,rv⟩
end
theorem QQ {ρ:List Addr}{S:M.S}{H:Hp} (rp:zf K Θ ρ S H) {i:Nat}{a:Addr} (ha:ρ[i]? = some a) {kvs:List (M.D×M.D)} (q:S[i]? = some (.dct kvs)):∃ ks,H a=some (.dK ks)/\DR K ρ H kvs ks:=by
 obtain⟨b,e1,zs,e2,r⟩:=rp.obj i _ q
 rw[ha] at e1;cases e1
 exact⟨zs,e2,r⟩
theorem zJ8 {ρ:List Addr}{S:M.S}{H:Hp} (rp:zf K Θ ρ S H) {i:Nat}{a:Addr} (ha:ρ[i]? = some a) {kvs:List (M.D×M.D)} (q:S[i]? = some (.fdc kvs)):∃ o ks,H a=some (.frz o (.dK ks))/\DR K ρ H kvs ks:=by
 obtain⟨b,e1,o,zs,e2,r⟩:=rp.obj i _ q
 rw[ha] at e1;cases e1
 exact⟨o,zs,e2,r⟩
inductive J6 (K:PySem.W.Frag) (H:Hp) (kb:List (Key×V)):List (Key×V)->Bool->Prop where
 | nil:J6 K H kb [] true
 | miss {k:Key}{v:V}{r:List (Key×V)} (h:yk kb k=none):J6 K H kb ((k,v)::r) false
 | hit {k:Key}{v y:V}{r:List (Key×V)}{d e:PyData}{b:Bool} (h:yk kb k=some y) (hd:qo K H v d) (he:qo K H y e) (sd:SeqAt.shaped d=true) (se:SeqAt.shaped e=true) (t:J6 K H kb r b):J6 K H kb ((k,v)::r) (PyData.eqv d e && b)
def zLc (neg:Bool) (K:PySem.W.Frag):R2:=fun x y H Q=>∃ a b ka kb r,x=.ref a/\y=.ref b/\H a=some (.dK ka)/\H b=some (.dK kb)/\(ka.length=kb.length->J6 K H kb ka r)/\Q (.bl (if neg then !(ka.length == kb.length && r) else (ka.length == kb.length && r))) H
theorem zFG {X:Cx}{pins:List (Addr×Obj)}{σ:St}{H:Hp}{s:Shared}{A:Around} (I:Inv X pins σ H s) (hu:A.units+64 < cLine) {kb:List (Key×V)}{vb:List (Key×Value)} (rb:KV kb vb):∀ {ka:List (Key×V)}{va:List (Key×Value)}{r:Bool},KV ka va->J6 X.K H kb ka r->PySem.W.KeqHits A s vb va r
 | _,_,_,ra,.nil=>by cases ra;exact .nil
 | _,_,_,ra,.miss h=>by
  cases ra with
  | @cons p q ps qs h1 t =>
   obtain⟨k,v⟩:=q
   have hk:_=k:=h1.1
   have hv:=rb.val k
   rw[<- hk,h] at hv
   refine .miss ?_
   rw[<- hk]
   cases q2:valueAt vb _ with
   | none=>rfl
   | some w=>rw[q2] at hv;exact hv.elim
 | _,_,_,ra,.hit h hd he sd se t=>by
  cases ra with
  | @cons p q ps qs h1 t1 =>
   obtain⟨k,v⟩:=q
   have hk:_=k:=h1.1
   have hv:=rb.val k
   rw[<- hk,h] at hv
   cases q2:valueAt vb k with
   | none=>rw[hk,q2] at hv;exact hv.elim
   | some w =>
    rw[hk,q2] at hv
    obtain⟨as,r1⟩:=hd.reads I h1.2
    obtain⟨bs,r2⟩:=he.reads I hv
    exact .hit q2 (SeqAt.eqAt_reads _ _ A s _ _ as bs r1 r2 (SeqAt.canLay_of_shaped sd) (SeqAt.canLay_of_shaped se) (SeqAt.room_of_shaped sd hu)) (zFG I hu rb t1 t)
theorem zPQ {X:Cx}{k:Nat} (hr:jb k X.A):OpR X (compareOp .Eq) (zLc false X.K):=by
 intro pins s σ H x y v u Q I rx ry h
 obtain⟨a,b,ka,kb,r,rfl,rfl,ha,hb,hh,q⟩:=h
 cases rx;cases ry
 obtain⟨za,la,va,ra,da⟩:=zBy I.hok ha
 obtain⟨zb,lb,vb,rb,db⟩:=zBy I.hok hb
 refine PySem.W.keq_eq la lb da db hr.units0 (fun e=>zFG I (by show X.A.units+1+64 < _;have:=hr.un;omega) rb ra (hh (by rw[ra.length,rb.length];exact e))) ⟨.bl _,H,I,rfl,?_⟩
 rw[<- ra.length,<- rb.length]
 exact q
theorem zPO {X:Cx}{k:Nat} (hr:jb k X.A):OpR X (compareOp .NotEq) (zLc true X.K):=by
 intro pins s σ H x y v u Q I rx ry h
 obtain⟨a,b,ka,kb,r,rfl,rfl,ha,hb,hh,q⟩:=h
 cases rx;cases ry
 obtain⟨za,la,va,ra,da⟩:=zBy I.hok ha
 obtain⟨zb,lb,vb,rb,db⟩:=zBy I.hok hb
 refine PySem.W.keq_ne la lb da db hr.units0 (fun e=>zFG I (by show X.A.units+1+64 < _;have:=hr.un;omega) rb ra (hh (by rw[ra.length,rb.length];exact e))) ⟨.bl _,H,I,rfl,?_⟩
 rw[<- ra.length,<- rb.length]
 exact q
theorem zHi {ρ:List Addr}{H:Hp}{S:M.S} (rp:zf K Θ ρ S H) {ws:List (M.D×M.D)}{kb:List (Key×V)} (rb:DR K ρ H ws kb):∀ {ks:List (M.D×M.D)}{ka:List (Key×V)}{b:Bool},DR K ρ H ks ka->M.dEq S ws ks=some b->J6 K H kb ka b
 | _,_,_,.nil,e=>by cases e;exact .nil
 | (k,v)::ks,(kk,vv)::ka,b,.cons h t,e=>by
  have hv:=DR.val rb h.1
  unfold M.dEq at e
  cases q:M.jT k ws with
  | none =>
   rw[q] at e hv
   cases e
   exact .miss hv
  | some w =>
   rw[q] at e hv
   obtain⟨y,hy,ry⟩:=hv
   dsimp only at e
   cases q1:M.toP 8 S v with
   | none=>rw[q1] at e;cases e
   | some p1 =>
    cases q2:M.toP 8 S w with
    | none=>rw[q1,q2] at e;cases e
    | some p2 =>
     cases q3:M.dEq S ws ks with
     | none=>rw[q1,q2,q3] at e;cases e
     | some b' =>
      rw[q1,q2,q3] at e
      dsimp only at e
      by_cases hc:M.P.dep p1 <= 64/\M.P.dep p2 <= 64
      ·rw[if_pos hc] at e
       cases e
       obtain⟨d1,c1⟩:=zCO rp _ q1 h.2
       obtain⟨d2,c2⟩:=zCO rp _ q2 ry
       rw[<- zEz]
       refine .hit hy d1 d2 ?_ ?_ (zHi rp rb t q3)
       ·unfold SeqAt.shaped;rw[c1,Bool.true_and,zBf];exact decide_eq_true hc.1
       ·unfold SeqAt.shaped;rw[c2,Bool.true_and,zBf];exact decide_eq_true hc.2
      ·rw[if_neg hc] at e;cases e
theorem zHn {ρ:List Addr}{H:Hp}{S:M.S}{x y:M.D}{X1 Y:V}{Q':Bool->Hp->Prop} (rp:zf K Θ ρ S H) (rx:zQ K ρ H x X1) (ry:zQ K ρ H y Y) (h:zG K Θ rB ρ H (M.zGJ x y S) Q') :
  ∃ a b ka kb r,X1=.ref a/\Y=.ref b/\H a=some (.dK ka)/\H b=some (.dK kb)/\(ka.length=kb.length->J6 K H kb ka r)/\Q' (ka.length == kb.length && r) H:=by
 unfold M.zGJ at h
 split at h
 ·rename_i i j
  split at h
  ·rename_i ks ws e1 e2
   obtain⟨a,rfl,ha⟩:=rx
   obtain⟨b,rfl,hb⟩:=ry
   obtain⟨ka,h1,r1⟩:=QQ rp ha e1
   obtain⟨kb,h2,r2⟩:=QQ rp hb e2
   have l1:=Paired.length r1
   have l2:=Paired.length r2
   split at h
   ·rename_i hl
    split at h
    ·rename_i bb q
     refine⟨a,b,ka,kb,bb,rfl,rfl,h1,h2,fun _=>zHi rp r2 r1 q,?_⟩
     rw[show (ka.length == kb.length)=true by rw[beq_iff_eq];omega,Bool.true_and]
     exact zG.here (b:=bb) h rp rfl
    ·exact h.elim
   ·rename_i hl
    refine⟨a,b,ka,kb,false,rfl,rfl,h1,h2,fun e=>absurd (by omega) hl,?_⟩
    rw[Bool.and_false]
    exact zG.here (b:=false) h rp rfl
  ·exact h.elim
 ·exact h.elim
def zIt (K:PySem.W.Frag) (neg:Bool):R2:=fun x y H Q=>(zE9 x y=true/\Q (.bl (if neg then !decide (x=y) else decide (x=y))) H)\/zLq K neg x y H Q\/zLc neg K x y H Q
theorem JF {X:Cx}{k:Nat} (hr:jb k X.A):OpR X (compareOp .Eq) (zIt X.K false):=by
 intro pins s σ H x y v u Q I rx ry h
 rcases h with h | h | h
 ·exact zQV pins s σ H x y v u Q I rx ry h
 ·exact zPe hr pins s σ H x y v u Q I rx ry h
 ·exact zPQ hr pins s σ H x y v u Q I rx ry h
theorem zPT {X:Cx}{k:Nat} (hr:jb k X.A):OpR X (compareOp .NotEq) (zIt X.K true):=by
 intro pins s σ H x y v u Q I rx ry h
 rcases h with h | h | h
 ·exact zQi pins s σ H x y v u Q I rx ry h
 ·exact zOQ hr pins s σ H x y v u Q I rx ry h
 ·exact zPO hr pins s σ H x y v u Q I rx ry h
theorem zIW {ρ:List Addr}{H:Hp}{S:M.S}{x y:M.D}{X1 Y:V}{Q':Bool->Hp->Prop} (rp:zf K Θ ρ S H) (rx:zQ K ρ H x X1) (ry:zQ K ρ H y Y) (h:zG K Θ rB ρ H (M.eqD x y S) Q') :
  (zE9 X1 Y=true/\Q' (decide (X1=Y)) H)\/(∃ d e,qo K H X1 d/\qo K H Y e/\SeqAt.shaped d=true/\SeqAt.shaped e=true/\Q' (PyData.eqv d e) H)\/∃ a b ka kb r,X1=.ref a/\Y=.ref b/\H a=some (.dK ka)/\H b=some (.dK kb)/\(ka.length=kb.length->J6 K H kb ka r)/\Q' (ka.length == kb.length && r) H:=by
 have gen:∀ {p q:M.P},M.toP M.zCZ S x=some p->M.toP M.zCZ S y=some q->M.P.dep p <= 64/\M.P.dep q <= 64->Q' (M.P.eqv p q) H->∃ d e,qo K H X1 d/\qo K H Y e/\SeqAt.shaped d=true/\SeqAt.shaped e=true/\Q' (PyData.eqv d e) H:=fun {p q} e1 e2 hd hq=>by
  obtain⟨d1,c1⟩:=zCO rp _ e1 rx
  obtain⟨d2,c2⟩:=zCO rp _ e2 ry
  refine⟨_,_,d1,d2,?_,?_,by rw[zEz];exact hq⟩
  ·unfold SeqAt.shaped;rw[c1,Bool.true_and,zBf];exact decide_eq_true hd.1
  ·unfold SeqAt.shaped;rw[c2,Bool.true_and,zBf];exact decide_eq_true hd.2
 have qF:zG K Θ rB ρ H (match M.toP M.zCZ S x,M.toP M.zCZ S y with
   | some p,some q=>if M.P.dep p <= 64/\M.P.dep q <= 64 then M.R.ok (M.P.eqv p q) S else .no
   | _,_=>M.zGJ x y S) Q'->(∃ d e,qo K H X1 d/\qo K H Y e/\SeqAt.shaped d=true/\SeqAt.shaped e=true/\Q' (PyData.eqv d e) H)\/∃ a b ka kb r,X1=.ref a/\Y=.ref b/\H a=some (.dK ka)/\H b=some (.dK kb)/\(ka.length=kb.length->J6 K H kb ka r)/\Q' (ka.length == kb.length && r) H:=fun h'=>by
  cases e1:M.toP M.zCZ S x with
  | none=>rw[e1] at h';exact .inr (zHn rp rx ry h')
  | some p =>
   cases e2:M.toP M.zCZ S y with
   | none=>rw[e1,e2] at h';exact .inr (zHn rp rx ry h')
   | some q =>
    rw[e1,e2] at h'
    dsimp only at h'
    by_cases hc:M.P.dep p <= 64/\M.P.dep q <= 64
    ·rw[if_pos hc] at h';exact .inl <| gen e1 e2 hc (zG.here (b:=M.P.eqv p q) h' rp rfl)
    ·rw[if_neg hc] at h';exact h'.elim
 have sc:∀ {b:Bool},zE9 X1 Y=true->decide (X1=Y)=b->M.eqD x y S=.ok b S->(zE9 X1 Y=true/\Q' (decide (X1=Y)) H):=fun {b} h1 h2 h3=>by
  rw[h3] at h
  rw[h2]
  exact⟨h1,zG.here (b:=b) h rp rfl⟩
 cases x with
 | str a =>
  cases y with
  | str b =>
   obtain⟨rfl,_⟩:=rx
   obtain⟨rfl,_⟩:=ry
   refine .inl (sc rfl ?_ rfl)
   by_cases hab:a=b
   ·subst hab;simp
   ·rw[decide_eq_false hab,decide_eq_false fun e=>hab (zC0 (V.str.inj e))]
  | _=>exact .inr (qF h)
 | int a =>
  cases y with
  | int b =>
   cases rx;cases ry
   refine .inl (sc rfl ?_ rfl)
   by_cases hab:a=b
   ·subst hab;simp
   ·rw[decide_eq_false hab,decide_eq_false fun e=>hab (V.int.inj e)]
  | _=>exact .inr (qF h)
 | bl a =>
  cases y with
  | bl b =>
   cases rx;cases ry
   refine .inl (sc rfl ?_ rfl)
   by_cases hab:a=b
   ·subst hab;simp
   ·rw[decide_eq_false hab,decide_eq_false fun e=>hab (V.bl.inj e)]
  | _=>exact .inr (qF h)
 | non =>
  cases y with
  | non=>cases rx;cases ry;exact .inl (sc rfl rfl rfl)
  | _=>exact .inr (qF h)
 | _=>exact .inr (qF h)
theorem zAP:AdC K Θ M.cEq (zIt K false):=by
 intro ρ H S x y X1 Y Q rp rx ry h
 rcases zIW rp rx ry h with h | ⟨d,e,h1,h2,h3,h4,h5⟩ | ⟨a,b,ka,kb,r,h⟩
 ·exact .inl h
 ·exact .inr (.inl ⟨d,e,h1,h2,h3,h4,h5⟩)
 ·exact .inr (.inr ⟨a,b,ka,kb,r,h⟩)
theorem zQZ:AdC K Θ M.cNe (zIt K true):=by
 intro ρ H S x y X1 Y Q rp rx ry h
 have h':zG K Θ rB ρ H (M.eqD x y S) (fun b H'=>Q (.bl (!b)) H'):=zG.bind h fun ρ1 H1 b b' S1 p1 l1 rp1 e h1=>by cases e;exact zG.here (b:=!b) h1 rp1 rfl
 rcases zIW rp rx ry h' with h | ⟨d,e,h1,h2,h3,h4,h5⟩ | ⟨a,b,ka,kb,r,h⟩
 ·exact .inl h
 ·exact .inr (.inl ⟨d,e,h1,h2,h3,h4,h5⟩)
 ·exact .inr (.inr ⟨a,b,ka,kb,r,h⟩)
end
end L2
namespace L2
open PySem PySem.Spec PyProof.Rows
section
variable {K:PySem.W.Frag}{Θ:Tab}
theorem zBX (n d:Nat) (o:Option Int):M.sIx n d o=HT.sIx n d o:=by
 cases o with
 | none=>rfl
 | some v =>
  have:=HT.zFC v n d
  show (if v < 0 then max (v+(n:Int)) 0 else min v (n:Int)).toNat=_
  rw[this];simp
theorem zBe {x:M.T}{lo hi:Option Int}:∀ c∈M.cut x lo hi,c∈x:=fun c hc=>List.mem_of_mem_drop (List.mem_of_mem_take hc)
theorem zFI {ρ:List Addr}{H:Hp}{ds:List M.D}{xs:List V} (r:zM K ρ H ds xs) (lo hi:Option Int):zM K ρ H (M.cut ds lo hi) (zBN xs lo hi):=by
 unfold M.cut zBN
 rw[zBX,zBX,r.length]
 exact (r.drop _).take _
theorem JO:∀ ρ H S x X1 l u Q,zf K Θ ρ S H->zQ K ρ H x X1->zG K Θ (zQ K) ρ H (M.slD x l u S) Q->uSl K X1 l u H Q:=by
 intro ρ H S x X1 l u Q rp rx h
 cases x with
 | str z =>
  obtain⟨rfl,ok⟩:=rx
  by_cases hz:z.length <= M.SZ
  ·simp only[M.slD,if_pos hz] at h
   refine⟨by rw[qO,<- Zc];exact hz,zG.here h rp ⟨?_,zC8 ok zBe⟩⟩
   show V.str (zEg (ofT z) l u)=V.str (ofT (M.cut z l u))
   unfold zEg M.cut ofT
   have e:(⟨z.toArray⟩:Str).length=z.length:=by simp[Str.length]
   rw[e,zBX,zBX]
  ·simp only[M.slD,if_neg hz] at h;exact h.elim
 | tup ds =>
  obtain⟨a,xs,rfl,hq,r⟩:=rx
  by_cases hc:M.sIx ds.length 0 l=0/\M.sIx ds.length ds.length u=ds.length
  ·simp only[M.slD,if_pos hc] at h;exact h.elim
  ·simp only[M.slD,if_neg hc] at h
   refine .inr ⟨xs,hq,?_,fun p hp=>h ρ _ _ (List.prefix_refl _) (Le.new hp _) (rp.aside hp _) ⟨p,_,rfl,SqT.of jM,(zFI r l u).mono (List.prefix_refl _) (Le.new hp _)⟩⟩
   rw[zBX,zBX,r.length] at hc
   exact hc
 | ro ds =>
  obtain⟨a,xs,rfl,hq,r⟩:=rx
  exact .inl ⟨xs,hq.sq,fun p hp=>zG.alloc h rp (zFI r l u) hp⟩
 | ref p =>
  obtain⟨a,rfl,ea⟩:=rx
  cases q:S[p]? with
  | none=>simp[M.slD,M.jf,q] at h;exact h.elim
  | some o =>
   cases o with
   | lst xs =>
    simp only[M.slD,M.jf,q] at h
    obtain⟨zs,e1,r⟩:=Qr rp ea q
    exact .inl ⟨zs,SqL.of e1,fun p hp=>zG.alloc h rp (zFI r l u) hp⟩
   | dct kvs=>simp[M.slD,M.jf,q] at h;exact h.elim
   | fdc _=>simp[M.slD,M.jf,q] at h;exact h.elim
   | ins c fs=>simp[M.slD,M.jf,q] at h;exact h.elim
 | _=>exact h.elim
theorem zFt {ρ:List Addr}{H:Hp}:∀ {ds:List M.D}{ys:List V}{bs:List Bool},M.zA1 ds=some bs->zM K ρ H ds ys->ys=bs.map V.bl
 | [],_,_,e,r=>by cases e;cases r;rfl
 | .bl b::ds,_,_,e,r=>by
  obtain⟨y,ys,rfl,r1,r2⟩:=r
  cases r1
  have e':(M.zA1 ds).map (b :: ·)=some _:=e
  cases q:M.zA1 ds with
  | none=>rw[q] at e';cases e'
  | some cs=>rw[q] at e';cases e';rw[zFt q r2];rfl
 | .non::_,_,_,e,_=>by cases e
 | .int _::_,_,_,e,_=>by cases e
 | .str _::_,_,_,e,_=>by cases e
 | .tup _::_,_,_,e,_=>by cases e
 | .ro _::_,_,_,e,_=>by cases e
 | .ref _::_,_,_,e,_=>by cases e
 | .ty _::_,_,_,e,_=>by cases e
theorem zIp:AdK K Θ M.zB7 (zPh K):=by
 intro ρ H S ds ys p Q rp r hq h
 cases e:M.zA1 ds with
 | none=>simp only[M.zB7,e] at h;exact h.elim
 | some bs =>
  simp only[M.zB7,e] at h
  have:=zFt e r
  subst this
  exact⟨p,bs,rfl,hq,zG.here (b:=V.bl (bs.all id)) h rp rfl⟩
theorem J7 {ρ:List Addr}{H:Hp}:∀ {ds:List M.D}{ys:List V}{ts:List M.T},M.qG ds=some ts->zM K ρ H ds ys->ys=(ts.map ofT).map V.str/\∀ t∈ts,okT t
 | [],_,_,e,r=>by cases e;cases r;exact⟨rfl,fun t h=>by cases h⟩
 | .str x::ds,_,_,e,r=>by
  obtain⟨y,ys,rfl,r1,r2⟩:=r
  obtain⟨rfl,ok⟩:=r1
  have e':(M.qG ds).map (x :: ·)=some _:=e
  cases q:M.qG ds with
  | none=>rw[q] at e';cases e'
  | some cs =>
   rw[q] at e'
   cases e'
   obtain⟨h1,h2⟩:=J7 q r2
   refine⟨by rw[h1];rfl,fun t ht=>?_⟩
   rcases List.mem_cons.mp ht with rfl | ht
   ·exact ok
   ·exact h2 t ht
 | .non::_,_,_,e,_=>by cases e
 | .int _::_,_,_,e,_=>by cases e
 | .bl _::_,_,_,e,_=>by cases e
 | .tup _::_,_,_,e,_=>by cases e
 | .ro _::_,_,_,e,_=>by cases e
 | .ref _::_,_,_,e,_=>by cases e
 | .ty _::_,_,_,e,_=>by cases e
theorem zFK (x:M.T):∀ (ys:List M.T) (acc:M.T),((ys.map ofT).foldl (fun acc p=>acc++(ofT x).cps++p.cps) acc.toArray)=(acc++(ys.map (x ++ ·)).flatten).toArray
 | [],acc=>by simp
 | y::ys,acc=>by
  rw[List.map_cons,List.foldl_cons]
  have e:acc.toArray++(ofT x).cps++(ofT y).cps=(acc++x++y).toArray:=by simp[ofT]
  rw[e,zFK x ys]
  simp
theorem zEY (x y:M.T):∀ ys:List M.T,M.J5 x (y::ys)=y++(ys.map (x ++ ·)).flatten
 | []=>by simp[M.J5]
 | z::ys=>by
  show y++x++M.J5 x (z::ys)=_
  rw[zEY x z ys];simp
theorem zN8 (x:M.T) (ys:List M.T):Txt.join (ofT x) (ys.map ofT)=ofT (M.J5 x ys):=by
 cases ys with
 | nil=>rfl
 | cons y ys =>
  show (⟨(((y::ys).map ofT).drop 1).foldl (fun acc p=>acc++(ofT x).cps++p.cps) (((y::ys).map ofT).headD Str.empty).cps⟩:Str)=_
  rw[zEY,List.map_cons,List.drop_one,List.tail_cons]
  have:=zFK x ys y
  show (⟨(ys.map ofT).foldl _ y.toArray⟩:Str)=_
  rw[this];rfl
theorem zG7 {x:M.T} (hx:okT x):∀ {ys:List M.T},(∀ t∈ys,okT t)->okT (M.J5 x ys)
 | [],_=>rfl
 | [y],h=>h y (by simp)
 | y::z::ys,h=>zC9 (zC9 (h y (by simp)) hx) (zG7 hx fun t ht=>h t (List.mem_cons_of_mem _ ht))
theorem zNI (ts:List M.T):((ts.map ofT).map (·.length)).sum=(ts.map List.length).sum:=by
 rw[List.map_map]
 exact congrArg List.sum (List.map_congr_left fun t _=>qO t)
theorem zMf {y:M.T} (hy:okT y):∀ ρ H S ds ys p Q,zf K Θ ρ S H->zM K ρ H ds ys->(SqL K H p ys\/SqT K H p ys)->zG K Θ (zQ K) ρ H (M.JM y ds S) Q->zGH K (.str (ofT y)) [.ref p] H Q:=by
 intro ρ H S ds ys p Q rp r hq h
 cases e:M.qG ds with
 | none=>simp only[M.JM,e] at h;exact h.elim
 | some ts =>
  obtain⟨rfl,ok⟩:=J7 e r
  by_cases hz:(ts.map List.length).sum+ts.length * y.length <= M.SZ
  ·simp only[M.JM,e,if_pos hz] at h
   refine⟨ofT y,p,ts.map ofT,rfl,rfl,hq,?_,?_⟩
   ·rw[zNI,List.length_map,qO];exact hz
   ·rw[zN8];exact zG.here h rp ⟨rfl,zG7 hy ok⟩
  ·simp only[M.JM,e,if_neg hz] at h;exact h.elim
end
end L2
namespace L2
open PySem PySem.Spec PyProof.Rows
section
variable {K:PySem.W.Frag}{Θ:Tab}
theorem zCD (a:M.T):∀ (n:Nat) (acc:Array Nat),(List.replicate n a.toArray).foldl (· ++ ·) acc=acc++((List.replicate n a).flatten).toArray
 | 0,acc=>by simp
 | n+1,acc=>by
  rw[List.replicate_succ,List.foldl_cons,zCD a n,List.replicate_succ,List.flatten_cons]
  simp
theorem zNs (a:M.T) (n:Int) (h0:0 <= n):Txt.mul (ofT a) n=ofT (List.replicate n.toNat a).flatten:=by
 unfold Txt.mul
 by_cases h1:n < 1
 ·have e:n.toNat=0:=by omega
  rw[if_pos h1,e];rfl
 ·rw[if_neg h1]
  by_cases h2:(n == 1 || (ofT a).length == 0)=true
  ·rw[if_pos h2]
   rw[Bool.or_eq_true] at h2
   rcases h2 with h2 | h2
   ·have e:n=1:=eq_of_beq h2
    subst e
    simp
   ·have e:a.length=0:=by rw[<- qO];exact eq_of_beq h2
    have e2:a=[]:=List.length_eq_zero_iff.mp e
    subst e2
    simp[ofT]
  ·rw[if_neg h2]
   have:=zCD a n.toNat #[]
   show (⟨(List.replicate n.toNat a.toArray).foldl (· ++ ·) #[]⟩:Str)=_
   rw[this];simp[ofT]
theorem zPV (a:M.T) (n:Int) (h0:0 <= n) (h1:n <= 1000000) (h2:a.length * n.toNat <= 1000000):MulOk (ofT a) n:=by
 refine⟨?_,fun h3 _=>?_,fun h3 _=>?_⟩
 ·rw[Bool.or_eq_false_iff]
  exact⟨decide_eq_false (by omega),decide_eq_false (by omega)⟩
 ·rw[qO]
  have hn:1 <= n.toNat:=by omega
  have ha:a.length <= 1000000:=Nat.le_trans (Nat.le_mul_of_pos_right _ (by omega)) h2
  have hd:(1000000:Int) <= (2 ^ 63 - 1) / n:=Int.le_ediv_of_mul_le (by omega) (by omega)
  omega
 ·rw[qO]
  unfold Builtin.Str.tooLong
  exact decide_eq_false (by rw[sizeLine_eq];omega)
def zMx:R2:=fun x y H Q=>zPc x y H Q\/zOk x y H Q
theorem zHm {X:Cx}:OpR X (binaryOp .Mult) zMx:=OpR.or zQJ zPW
theorem zM.flat {ρ:List Addr}{H:Hp}{ds:List M.D}{xs:List V} (h:zM K ρ H ds xs):∀ n:Nat,zM K ρ H (List.replicate n ds).flatten (List.replicate n xs).flatten
 | 0=>rfl
 | n+1=>by
  rw[List.replicate_succ,List.replicate_succ,List.flatten_cons,List.flatten_cons]
  exact zM.app h (zM.flat h n)
theorem zHP:Ad2 K Θ M.zEW zMx:=by
 intro ρ H S x y X Y Q rp rx ry h
 cases x with
 | int i =>
  cases y with
  | int j =>
   cases rx;cases ry
   have h':zG K Θ (zQ K) ρ H (if (M.JT i || M.JT j)=true then M.R.ok (M.D.int (i * j)) S else .no) Q:=h
   by_cases hc:(M.JT i || M.JT j)=true
   ·rw[if_pos hc] at h'
    refine .inl ⟨?_,zG.here (b:=V.int (i * j)) h' rp rfl⟩
    rw[Bool.or_eq_true] at hc
    rcases hc with hc | hc
    ·exact .inl (zHS hc)
    ·exact .inr (zHS hc)
   ·rw[if_neg hc] at h';exact h'.elim
  | _=>exact h.elim
 | str a =>
  cases y with
  | int n =>
   obtain⟨rfl,oka⟩:=rx
   cases ry
   have h':zG K Θ (zQ K) ρ H (if 0 <= n/\n.natAbs <= 1000000/\a.length * n.natAbs <= 1000000 then M.R.ok (M.D.str (List.replicate n.toNat a).flatten) S else .no) Q:=h
   by_cases hc:0 <= n/\n.natAbs <= 1000000/\a.length * n.natAbs <= 1000000
   ·rw[if_pos hc] at h'
    have hn:n.natAbs=n.toNat:=by omega
    refine .inl ⟨zPV a n hc.1 (by omega) (by rw[<- hn];exact hc.2.2),?_⟩
    show Q (.str (Txt.mul (ofT a) n)) H
    rw[zNs a n hc.1]
    refine zG.here h' rp ⟨rfl,zC8 oka fun c hc=>?_⟩
    obtain⟨l,hl,hcl⟩:=List.mem_flatten.mp hc
    rw[(List.mem_replicate.mp hl).2] at hcl
    exact hcl
   ·rw[if_neg hc] at h';exact h'.elim
  | _=>exact h.elim
 | ref p =>
  cases y with
  | int n =>
   cases ry
   have h':zG K Θ (zQ K) ρ H (match M.jf S p with | some xs=>if n.natAbs <= 1000/\xs.length * n.natAbs <= 1000000 then M.alloc (.lst (List.replicate n.toNat xs).flatten) S else .no | none=>.no) Q:=h
   cases q:S[p]? with
   | none=>simp only[M.jf,q] at h';exact h'.elim
   | some o =>
    cases o with
    | lst ds =>
     simp only[M.jf,q] at h'
     obtain⟨a,rfl,ea⟩:=rx
     obtain⟨zs,e1,r⟩:=Qr rp ea q
     by_cases hc:n.natAbs <= 1000/\ds.length * n.natAbs <= 1000000
     ·rw[if_pos hc] at h'
      have hn:n.toNat <= n.natAbs:=by omega
      refine .inr ⟨a,n,zs,rfl,rfl,e1,by omega,by omega,?_,fun p hp=>zG.alloc h' rp (zM.flat r n.toNat) hp⟩
      have hm:=Nat.mul_le_mul_left ds.length hn
      rw[<- r.length,sizeLine_eq]
      omega
     ·rw[if_neg hc] at h';exact h'.elim
    | dct _=>simp only[M.jf,q] at h';exact h'.elim
    | fdc _=>simp only[M.jf,q] at h';exact h'.elim
    | ins _ _=>simp only[M.jf,q] at h';exact h'.elim
  | _=>exact h.elim
 | _=>exact h.elim
def zPS (K:PySem.W.Frag):R2:=fun x y H Q=>uIx K x y H Q\/∃ a v,x=.ref a/\Qk H a y (some v)/\Q v H
theorem qI {X:Cx}{k:Nat} (hr:jb k X.A):IxR X (zPS X.K):=by
 refine IxR.or zQw ?_
 intro value slice pins s σ H x y v u Q I rx ry h hs
 obtain⟨a,w',rfl,g,q⟩:=h
 cases rx
 exact tail_any (zH7 I g) PySem.F.slot_dict_getitem.lookup (zFS (zDw hr) I g ry fun w2 s3 I3 rw'=>⟨w',H,I3,rw',q⟩) hs
def zM2 (K:PySem.W.Frag):List V->Hp->VK->Prop:=fun xs H Q=>zOn K xs H Q\/∃ a kvs,xs=[V.ref a]/\H a=some (.dK kvs)/\Q (.int kvs.length) H
theorem j4 {X:Cx}:qQ X (.builtin "len") (zM2 X.K):=qQ.or zQW zLI
theorem jl:Ad2 K Θ M.zU (zPS K):=by
 intro ρ H S x y X Y Q rp rx ry h
 cases x with
 | str a =>
  cases y with
  | int i =>
   obtain⟨rfl,oka⟩:=rx
   cases ry
   have h':zG K Θ (zQ K) ρ H (if a.length <= M.SZ then (match M.atI a i with | some c=>M.R.ok (M.D.str [c]) S | none=>.no) else .no) Q:=h
   by_cases hc:a.length <= M.SZ
   ·rw[if_pos hc] at h'
    cases q:M.atI a i with
    | none=>rw[q] at h';exact h'.elim
    | some c =>
     rw[q] at h'
     refine .inl ⟨c,by rw[qO,<- Zc];exact hc,?_,zG.here (b:=V.str (ofT [c])) h' rp ⟨rfl,zC8 oka fun d hd=>by
      have e:d=c:=by simpa using hd
      rw[e]
      unfold M.atI at q
      cases qi:M.ixN a.length i with
      | none=>rw[qi] at q;cases q
      | some j=>rw[qi] at q;exact List.mem_of_getElem? q⟩⟩
     rw[Zk];exact q
   ·rw[if_neg hc] at h';exact h'.elim
  | _=>exact h.elim
 | tup ds =>
  cases y with
  | int i =>
   obtain⟨l,xs,rfl,hq,r⟩:=rx
   cases ry
   have h':zG K Θ (zQ K) ρ H (match M.atI ds i with | some d=>M.R.ok d S | none=>.no) Q:=h
   cases q:M.atI ds i with
   | none=>rw[q] at h';exact h'.elim
   | some d =>
    rw[q] at h'
    obtain⟨v,e1,rv⟩:=zFB r q
    exact .inl ⟨xs,v,.inr hq,e1,zG.here h' rp rv⟩
  | _=>exact h.elim
 | ro ds =>
  cases y with
  | int i =>
   obtain⟨l,xs,rfl,hq,r⟩:=rx
   cases ry
   have h':zG K Θ (zQ K) ρ H (match M.atI ds i with | some d=>M.R.ok d S | none=>.no) Q:=h
   cases q:M.atI ds i with
   | none=>rw[q] at h';exact h'.elim
   | some d =>
    rw[q] at h'
    obtain⟨v,e1,rv⟩:=zFB r q
    exact .inl ⟨xs,v,.inl hq.sq,e1,zG.here h' rp rv⟩
  | _=>exact h.elim
 | ref p =>
  obtain⟨a,rfl,ea⟩:=rx
  cases q:S[p]? with
  | none=>simp[M.zU,q] at h;exact h.elim
  | some o =>
   cases o with
   | lst xs =>
    cases y with
    | int i =>
     cases ry
     obtain⟨zs,e1,r⟩:=Qr rp ea q
     cases q2:M.atI xs i with
     | none=>simp[M.zU,q,q2] at h;exact h.elim
     | some d =>
      simp[M.zU,q,q2] at h
      obtain⟨v,e2,rv⟩:=zFB r q2
      exact .inl ⟨zs,v,.inl (SqL.of e1),e2,zG.here h rp rv⟩
    | _=>simp[M.zU,q] at h;exact h.elim
   | dct kvs =>
    by_cases hk:M.jA y=true
    case neg=>simp[M.zU,q,hk] at h;exact h.elim
    obtain⟨ks,e1,r⟩:=QQ rp ea q
    obtain⟨k,h1,rfl⟩:=Qa hk ry
    have hv:=r.val h1
    cases q2:M.jT y kvs with
    | none=>simp[M.zU,q,hk,q2] at h;exact h.elim
    | some d =>
     simp[M.zU,q,hk,q2] at h
     rw[q2] at hv
     obtain⟨v,e2,rv⟩:=hv
     refine .inr ⟨a,v,rfl,?_,zG.here h rp rv⟩
     rw[<- e2]
     exact Qk.k e1
   | fdc kvs =>
    by_cases hk:M.jA y=true
    case neg=>simp[M.zU,q,hk] at h;exact h.elim
    obtain⟨fo,ks,e1,r⟩:=zJ8 rp ea q
    obtain⟨k,h1,rfl⟩:=Qa hk ry
    have hv:=r.val h1
    cases q2:M.jT y kvs with
    | none=>simp[M.zU,q,hk,q2] at h;exact h.elim
    | some d =>
     simp[M.zU,q,hk,q2] at h
     rw[q2] at hv
     obtain⟨v,e2,rv⟩:=hv
     refine .inr ⟨a,v,rfl,?_,zG.here h rp rv⟩
     rw[<- e2]
     exact (.inl ⟨ks,k,.inr ⟨fo,e1⟩,rfl,rfl⟩)
   | ins c fs=>simp[M.zU,q] at h;exact h.elim
 | _=>exact h.elim
theorem yU:AdN K Θ M.jo (zM2 K):=by
 intro ρ H S xs Xs Q rp rx h
 match xs,rx,h with
 | [.str a],rx,h =>
  obtain⟨_,_,rfl,⟨rfl,_⟩,rfl⟩:=rx
  have h':zG K Θ (zQ K) ρ H (if a.length <= M.SZ then M.R.ok (M.D.int a.length) S else .no) Q:=h
  by_cases hc:a.length <= M.SZ
  ·rw[if_pos hc] at h'
   refine .inl ⟨by rw[qO,<- Zc];exact hc,?_⟩
   rw[qO]
   exact zG.here (b:=V.int a.length) h' rp rfl
  ·rw[if_neg hc] at h';exact h'.elim
 | [.tup ds],rx,h =>
  obtain⟨_,_,rfl,⟨l,ys,rfl,hq,r⟩,rfl⟩:=rx
  exact .inl ⟨ys,.inr hq,by rw[<- r.length];exact zG.here (b:=V.int ds.length) h rp rfl⟩
 | [.ro ds],rx,h =>
  obtain⟨_,_,rfl,⟨l,ys,rfl,hq,r⟩,rfl⟩:=rx
  exact .inl ⟨ys,.inl hq.sq,by rw[<- r.length];exact zG.here (b:=V.int ds.length) h rp rfl⟩
 | [.ref p],rx,h =>
  obtain⟨_,_,rfl,⟨a,rfl,ea⟩,rfl⟩:=rx
  cases q:S[p]? with
  | none=>simp[M.jo,q] at h;exact h.elim
  | some o =>
   cases o with
   | lst xs =>
    simp[M.jo,q] at h
    obtain⟨zs,e1,r⟩:=Qr rp ea q
    exact .inl ⟨zs,.inl (SqL.of e1),by rw[<- r.length];exact zG.here (b:=V.int xs.length) h rp rfl⟩
   | dct kvs =>
    simp[M.jo,q] at h
    obtain⟨ks,e1,r⟩:=QQ rp ea q
    exact .inr ⟨a,ks,rfl,e1,by rw[<- Paired.length r];exact zG.here (b:=V.int kvs.length) h rp rfl⟩
   | fdc _=>simp[M.jo,q] at h;exact h.elim
   | ins c fs=>simp[M.jo,q] at h;exact h.elim
 | [.non],_,h=>exact h.elim
 | [.bl _],_,h=>exact h.elim
 | [.int _],_,h=>exact h.elim
 | [.ty _],_,h=>exact h.elim
 | [],_,h=>exact h.elim
 | a::_::_,_,h=>cases a<;>exact h.elim
def zGy (K:PySem.W.Frag) (neg:Bool):R2:=fun x y H Q=>uIn K neg x y H Q\/∃ a o,y=.ref a/\Qk H a x o/\Q (.bl (xor neg o.isSome)) H
theorem zBS {X:Cx}{k:Nat} (hr:jb k X.A):OpR X (compareOp .In) (zGy X.K false):=by
 refine OpR.or zQ4 ?_
 intro pins s σ H x y v u Q I rx ry h
 obtain⟨a,o,rfl,g,q⟩:=h
 cases ry
 exact zQ6 (zDw hr) I g rx fun s' I'=>⟨.bl o.isSome,H,I',rfl,by rw[Bool.false_xor] at q;exact q⟩
theorem Zb {X:Cx}{k:Nat} (hr:jb k X.A):OpR X (compareOp .NotIn) (zGy X.K true):=by
 refine OpR.or zOG ?_
 intro pins s σ H x y v u Q I rx ry h
 obtain⟨a,o,rfl,g,q⟩:=h
 cases ry
 exact zNb (zDw hr) I g rx fun s' I'=>⟨.bl (!o.isSome),H,I',rfl,by rw[Bool.true_xor] at q;exact q⟩
theorem zDZ {ρ:List Addr}{H:Hp}{d:M.D}{v:V} (r:zQ K ρ H d v):yX v=M.flat d:=by
 cases d with
 | non=>cases r;rfl
 | bl _=>cases r;rfl
 | int _=>cases r;rfl
 | str _=>obtain⟨rfl,_⟩:=r;rfl
 | ty _=>cases r;rfl
 | ref _=>obtain⟨_,rfl,_⟩:=r;rfl
 | tup _=>obtain⟨_,_,rfl,_⟩:=r;rfl
 | ro _=>obtain⟨_,_,rfl,_⟩:=r;rfl
theorem zIL {ρ:List Addr}{H:Hp}{d e:M.D}{v u:V} (r:zQ K ρ H d v) (q:zQ K ρ H e u):eqV v u=M.eqF d e:=by
 cases d with
 | non =>
  cases r
  cases e with
  | str _=>obtain⟨rfl,_⟩:=q;rfl
  | ref _=>obtain⟨_,rfl,_⟩:=q;rfl
  | tup _=>obtain⟨_,_,rfl,_⟩:=q;rfl
  | ro _=>obtain⟨_,_,rfl,_⟩:=q;rfl
  | _=>cases q;rfl
 | bl _ =>
  cases r
  cases e with
  | str _=>obtain⟨rfl,_⟩:=q;rfl
  | ref _=>obtain⟨_,rfl,_⟩:=q;rfl
  | tup _=>obtain⟨_,_,rfl,_⟩:=q;rfl
  | ro _=>obtain⟨_,_,rfl,_⟩:=q;rfl
  | _=>cases q;rfl
 | int _ =>
  cases r
  cases e with
  | str _=>obtain⟨rfl,_⟩:=q;rfl
  | ref _=>obtain⟨_,rfl,_⟩:=q;rfl
  | tup _=>obtain⟨_,_,rfl,_⟩:=q;rfl
  | ro _=>obtain⟨_,_,rfl,_⟩:=q;rfl
  | _=>cases q;rfl
 | str x =>
  obtain⟨rfl,_⟩:=r
  cases e with
  | str y=>obtain⟨rfl,_⟩:=q;exact zIo x y
  | ref _=>obtain⟨_,rfl,_⟩:=q;rfl
  | tup _=>obtain⟨_,_,rfl,_⟩:=q;rfl
  | ro _=>obtain⟨_,_,rfl,_⟩:=q;rfl
  | _=>cases q;rfl
 | ty _=>cases r;rfl
 | ref _=>obtain⟨_,rfl,_⟩:=r;rfl
 | tup _=>obtain⟨_,_,rfl,_⟩:=r;rfl
 | ro _=>obtain⟨_,_,rfl,_⟩:=r;rfl
theorem zCM {ρ:List Addr}{H:Hp}:∀ {ds:List M.D}{xs:List V},zM K ρ H ds xs->xs.all yX=ds.all M.flat
 | [],_,r=>by cases r;rfl
 | _::_,_,⟨y,ys,e,r1,r2⟩=>by subst e;rw[List.all_cons,List.all_cons,zDZ r1,zCM r2]
theorem zHl {ρ:List Addr}{H:Hp}{x:M.D}{v:V} (rx:zQ K ρ H x v):∀ {ds:List M.D}{xs:List V},zM K ρ H ds xs->inV v xs=M.zBA x ds
 | [],_,r=>by cases r;rfl
 | _::_,_,⟨y,ys,e,r1,r2⟩=>by
  subst e
  unfold inV M.zBA
  rw[List.any_cons,List.any_cons,zIL r1 rx]
  have:=zHl rx r2
  unfold inV M.zBA at this
  rw[this]
theorem zDk (a:M.T):∀ b:M.T,M.zCk a b=true ↔ ∃ i,i+a.length <= b.length/\(b.drop i).take a.length=a
 | []=>by
  simp only[M.zCk,List.isEmpty_iff]
  constructor
  ·rintro rfl;exact⟨0,by simp,by simp⟩
  ·rintro ⟨i,h,e⟩
   simp at h
   exact h.2
 | c::r=>by
  simp only[M.zCk,Bool.or_eq_true,zDk a r]
  constructor
  ·rintro (h | ⟨i,h,e⟩)
   ·have:=List.isPrefixOf_iff_prefix.mp h
    exact⟨0,by simpa using this.length_le,by simpa using (List.prefix_iff_eq_take.mp this).symm⟩
   ·exact⟨i+1,by simp;omega,by simpa using e⟩
  ·rintro ⟨i,h,e⟩
   cases i with
   | zero=>left;exact List.isPrefixOf_iff_prefix.mpr (List.prefix_iff_eq_take.mpr (by simpa using e.symm))
   | succ i=>right;exact⟨i,by simp at h;omega,by simpa using e⟩
theorem zKF (a b:M.T) (i:Nat):StrLaws.At (ofT b) (ofT a) (ofT b).length i↔(i+a.length <= b.length/\(b.drop i).take a.length=a):=by
 unfold StrLaws.At Builtin.Str.subAt
 rw[qO,qO]
 refine and_congr_right fun _=>?_
 rw[beq_iff_eq]
 constructor
 ·intro h
  have:=congrArg Array.toList h
  simpa [ofT,List.extract_eq_take_drop] using this
 ·intro h
  apply Array.ext'
  simpa [ofT,List.extract_eq_take_drop] using h
theorem zNA (a b:M.T):(!(Builtin.Str.occurrences (ofT b) (ofT a) 0 (ofT b).length 1).isEmpty)=M.zCk a b:=by
 rcases StrLaws.occ_head (ofT b) (ofT a) 1 (by decide) with ⟨e,h⟩ | ⟨i,r,e,h,_⟩
 ·rw[e]
  have:¬ M.zCk a b=true:=fun q=>by
   obtain⟨i,q⟩:=(zDk a b).mp q
   exact h i ((zKF a b i).mpr q)
  simpa using this
 ·rw[e]
  have:=(zDk a b).mpr ⟨i,(zKF a b i).mp h⟩
  simp[this]
theorem zIR {neg:Bool}{ρ:List Addr}{H:Hp}{S:M.S}{x y:M.D}{X1 Y:V}{Q:VK} (rp:zf K Θ ρ S H) (rx:zQ K ρ H x X1) (ry:zQ K ρ H y Y) (h:zG K Θ rB ρ H (M.inD x y S) (fun b H'=>Q (.bl (xor neg b)) H')):zGy K neg X1 Y H Q:=by
 have seq:∀ {ds:List M.D}{xs:List V}{a:Addr},(SqL K H a xs\/SqT K H a xs)->zM K ρ H ds xs->zG K Θ rB ρ H (if (M.flat x && ds.all M.flat)=true then M.R.ok (M.zBA x ds) S else .no) (fun b H'=>Q (.bl (xor neg b)) H')->uIn K neg X1 (.ref a) H Q:=fun {ds xs a} hq r h'=>by
  by_cases hc:(M.flat x && ds.all M.flat)=true
  ·rw[if_pos hc] at h'
   rw[Bool.and_eq_true,<- zDZ rx,<- zCM r] at hc
   have:=zG.here (b:=M.zBA x ds) h' rp rfl
   rw[<- zHl rx r] at this
   have g:∃ xs,(SqL K H a xs\/SqT K H a xs)/\yX X1=true/\xs.all yX=true/\Q (.bl (xor neg (inV X1 xs))) H:=⟨xs,hq,hc.1,hc.2,this⟩
   cases X1<;>exact g
  ·rw[if_neg hc] at h';exact h'.elim
 cases y with
 | str b =>
  cases x with
  | str a =>
   obtain⟨rfl,_⟩:=rx
   obtain⟨rfl,_⟩:=ry
   refine .inl ?_
   show Q (.bl (xor neg (!(Builtin.Str.occurrences (ofT b) (ofT a) 0 (ofT b).length 1).isEmpty))) H
   rw[zNA]
   exact zG.here (b:=M.zCk a b) h rp rfl
  | _=>exact h.elim
 | tup ds =>
  obtain⟨l,xs,rfl,hq,r⟩:=ry
  exact .inl (seq (.inr hq) r h)
 | ro ds =>
  obtain⟨l,xs,rfl,hq,r⟩:=ry
  exact .inl (seq (.inl hq.sq) r h)
 | ref p =>
  obtain⟨a,rfl,ea⟩:=ry
  cases q:S[p]? with
  | none=>simp[M.inD,q] at h;exact h.elim
  | some o =>
   cases o with
   | lst ds =>
    obtain⟨zs,e1,r⟩:=Qr rp ea q
    refine .inl (seq (.inl (SqL.of e1)) r ?_)
    simp only[M.inD,q] at h
    exact h
   | dct kvs =>
    by_cases hk:M.jA x=true
    case neg=>simp[M.inD,q,hk] at h;exact h.elim
    simp only[M.inD,q,if_pos hk] at h
    obtain⟨ks,e1,r⟩:=QQ rp ea q
    obtain⟨k,h1,rfl⟩:=Qa hk rx
    have hv:=r.val h1
    refine .inr ⟨a,yk ks k,rfl,Qk.k e1,?_⟩
    have e2:(yk ks k).isSome=(M.jT x kvs).isSome:=by
     cases q2:M.jT x kvs with
     | none=>rw[q2] at hv;rw[hv];rfl
     | some d=>rw[q2] at hv;obtain⟨v,e2,_⟩:=hv;rw[e2];rfl
    rw[e2]
    exact zG.here (b:=(M.jT x kvs).isSome) h rp rfl
   | fdc kvs =>
    by_cases hk:M.jA x=true
    case neg=>simp[M.inD,q,hk] at h;exact h.elim
    simp only[M.inD,q,if_pos hk] at h
    obtain⟨fo,ks,e1,r⟩:=zJ8 rp ea q
    obtain⟨k,h1,rfl⟩:=Qa hk rx
    have hv:=r.val h1
    refine .inr ⟨a,yk ks k,rfl,(.inl ⟨ks,k,.inr ⟨fo,e1⟩,rfl,rfl⟩),?_⟩
    have e2:(yk ks k).isSome=(M.jT x kvs).isSome:=by
     cases q2:M.jT x kvs with
     | none=>rw[q2] at hv;rw[hv];rfl
     | some d=>rw[q2] at hv;obtain⟨v,e2,_⟩:=hv;rw[e2];rfl
    rw[e2]
    exact zG.here (b:=(M.jT x kvs).isSome) h rp rfl
   | ins c fs=>simp[M.inD,q] at h;exact h.elim
 | _=>exact h.elim
theorem zDC:AdC K Θ M.cIn (zGy K false):=by
 intro ρ H S x y X1 Y Q rp rx ry h
 refine zIR rp rx ry ?_
 have h':zG K Θ rB ρ H (M.inD x y S) (fun b H'=>Q (.bl b) H'):=h
 revert h'
 cases M.inD x y S with
 | ok b s=>exact fun h' ρ1 H1 b' p l rp1 e=>by cases e;rw[Bool.false_xor];exact h' ρ1 H1 b p l rp1 rfl
 | exc e s=>exact fun h'=>h'
 | no=>exact fun h'=>h'
theorem QE:AdC K Θ M.jU (zGy K true):=by
 intro ρ H S x y X1 Y Q rp rx ry h
 exact zIR rp rx ry (zG.bind h fun ρ1 H1 b b' S1 p1 l1 rp1 e h1=>by cases e;rw[Bool.true_xor];exact zG.here (b:=!b) h1 rp1 rfl)
theorem zPi {X:Cx}{e:Expr}{m:M.TM} (h:MW X Θ e m):MT X Θ e m:=PW.pt h
theorem ZD {X:Cx}{e:Expr}{m:M.TM} (h:WW X Θ e m):WT X Θ e m:=by with_unfolding_all exact zPi (X:=X) (e:=e) (m:=m) h
theorem Zj {X:Cx}:Qj X [] (RdT X.K Θ M.qc):=fun pins s σ H Q I ⟨ρ,σ',S,st,rp,h⟩=>zMo pins s σ H Q I (zG.here (b:=true) h rp rfl)
theorem zAm {X:Cx}{c:Expr}{t:M.TM} (h:WT X Θ c t):Qj X [c] (RdT X.K Θ t):=zLp (by with_unfolding_all exact h)
theorem zI3 {g1 g2:M.GM}:∀ ds σ σ1,(M.qg g1 (M.qg g2 M.JJ)) ds σ=some σ1->ds.length=2:=fun ds σ σ1 e=>by
 match ds,e with
 | [],e=>cases e
 | [a],e =>
  simp[M.qg] at e
  split at e<;>cases e
 | [a,b],_=>rfl
 | a::b::c::r,e =>
  simp[M.qg,M.JJ] at e
  split at e
  ·split at e<;>cases e
  ·cases e
theorem zGe {ρ:List Addr}{H:Hp}:∀ ns:List Int,zM K ρ H (ns.map .int) (ns.map V.int)
 | []=>rfl
 | n::ns=>⟨_,_,rfl,rfl,zGe ns⟩
theorem zO0 {f:M.F} (ht:∀ ns:List Int,ns.length <= 63->∃ s,f [.ro (ns.map .int)] []=.ok (.bl true) s) {H:Hp}{a:Addr}{ns:List Int}{E:XK} (hl:ns.length <= 63) (hO:zJY H) (hS:SqL K H a (ns.map V.int)):SpM K Θ 1 f [.ref a] H (fun v _=>v=.bl true) E:=by
 obtain⟨s,e⟩:=ht ns hl
 refine⟨[],[.ro (ns.map .int)],[],rfl,⟨_,_,rfl,⟨a,ns.map V.int,rfl,?_,zGe ns⟩,rfl⟩,⟨rfl,List.nodup_nil,fun i o q=>by simp at q⟩,?_⟩
 ·rcases hS with (h | h) | h
  ·rcases hO a with z | ⟨o,xs,z⟩
   ·rw[h] at z;cases z
   ·rw[h] at z;cases z
  ·exact .inl h
  ·exact .inr h
 ·rw[e]
  exact fun ρ' H' b _ _ _ r=>r
end
section
variable {P:Program}{w:World}{K:PySem.W.Frag}{mg:Str->Option Value}{base:Heap}{Θ:Tab}
theorem zPH {x qual:Str}{st:Stmt}{f:Addr}{fd:FuncData}{N ps:List Str}{k:Nat}{b:M.SM} (F:Fun K x qual st f fd) (Sc:ja N ps (zO st))
  (hbody:∀ (cdv:Value) (A:Around) (outer:List Env) (s:Shared) (H:Hp) (E:XK),jb k (A.deeper (envOfC qual (zO st) s.heap.objs.size f cdv)) ->
   MSs (zAe CX0 P w K mg base N qual (zO st) f cdv A outer s H E).nox Θ (jP st) b):qH P w K mg base CX0 (k+1) f fd ps (SpM K Θ ps.length (M.fn N.length b)):=by
 refine F.ok (k:=k) Sc (fun vs H Q E h=>?_) (fun cdv A outer s H vs Q E hr h=>?_)
 ·obtain⟨ρ,ds,S,hl,r,_⟩:=h
  rw[<- r.length,hl]
 ·obtain⟨ρ,ds,S,hl,r,rp,h⟩:=h
  refine⟨_,hbody cdv A outer s H E hr,ρ,_,S,zFk r N,rp,?_⟩
  have h':zG K Θ (zQ K) ρ H (b (ds.map some++List.replicate (N.length - ds.length) none) S).out Q:=h
  show zn K Θ ρ H (b (ds.map some++List.replicate (N.length - ds.length) none) S) _
  revert h'
  cases b (ds.map some++List.replicate (N.length - ds.length) none) S with
  | rt a s=>exact fun h'=>h'
  | nx a s=>exact fun h' ρ1 H1 σ1 p1 l1 rp1 _=>h' ρ1 H1 .non p1 l1 rp1 rfl
  | bk a s=>exact fun h'=>h'.elim
  | ct a s=>exact fun h'=>h'.elim
  | exc e a s=>exact fun h'=>h'
  | no=>exact fun h'=>h'
theorem zAj {x qual:Str}{st:Stmt}{f:Addr}{fd:FuncData}{N ps:List Str}{k:Nat}{b:M.SM} (F:Fun K x qual st f fd) (Sc:ja N ps (zO st))
  (hbody:∀ (cdv:Value) (A:Around) (outer:List Env) (s:Shared) (H:Hp) (E:XK),jb k (A.deeper (envOfC qual (zO st) s.heap.objs.size f cdv)) ->
   WSs (zAe CX0 P w K mg base N qual (zO st) f cdv A outer s H E).nox Θ (jP st) b):qH P w K mg base CX0 (k+1) f fd ps (SpM K Θ ps.length (M.fn N.length b)):=by with_unfolding_all exact zPH (x:=x) (qual:=qual) (st:=st) (f:=f) (fd:=fd) (N:=N) (ps:=ps) (k:=k) (b:=b) F Sc hbody
end
theorem zFZ:bootBuiltins "sorted" = some (.builtin "sorted"):=by decide +kernel
theorem zKg:bootBuiltins "min" = some (.builtin "min"):=by decide +kernel
theorem zPD:bootBuiltins "max" = some (.builtin "max"):=by decide +kernel
end L2
namespace L2
open PySem PySem.Spec PyProof.Rows PySem.Builtin.Str
section
variable {K:PySem.W.Frag}{Θ:Tab}
theorem zHJ {ρ:List Addr}{H:Hp}:∀ (ts:List M.T),(∀ t∈ts,okT t)->zM K ρ H (ts.map .str) ((ts.map ofT).map V.str)
 | [],_=>rfl
 | t::ts,h=>⟨_,_,rfl,⟨rfl,h t List.mem_cons_self⟩,zHJ ts fun x hx=>h x (List.mem_cons_of_mem _ hx)⟩
theorem Zu {ρ:List Addr}{H:Hp}{S:M.S}{p:Nat}{X:V}{ds:List M.D} (rp:zf K Θ ρ S H) (rx:zQ K ρ H (.ref p) X) (e:S[p]? = some (.lst ds)):∃ a xs,X=.ref a/\ρ[p]? = some a/\H a=some (.lst xs)/\zM K ρ H ds xs:=by
 obtain⟨a,rfl,ha⟩:=rx
 obtain⟨b,hb,xs,hx,r⟩:=rp.obj p _ e
 rw[ha] at hb;cases hb
 exact⟨a,xs,rfl,ha,hx,r⟩
theorem Q9 {H:Hp}{a:Addr}{xs:List V} (h:H a=some (.lst xs)):Mut (H a):=by rw[h];trivial
theorem zAz:AdM K Θ M.q8 zIi:=by
 intro ρ H S x xs X Xs Q rp rx rxs h
 unfold M.q8 at h
 split at h
 ·rename_i p y
  obtain⟨Y,r,rfl,ry,rfl⟩:=rxs
  split at h
  ·rename_i ds e
   obtain⟨a,zs,rfl,ha,hx,rz⟩:=Zu rp rx e
   split at h
   ·rename_i hl
    have le:=Le.put (Q9 hx) (.lst (zs++[Y]))
    refine⟨a,zs,Y,rfl,rfl,hx,by rw[<- Zc,<- rz.length];exact hl,?_⟩
    exact h ρ _ _ (List.prefix_refl _) le (rp.put ha (Q9 hx) ⟨_,jM,(rz.mono (List.prefix_refl _) le).app ⟨_,_,rfl,ry.mono (List.prefix_refl _) le,rfl⟩⟩) rfl
   ·exact h.elim
  ·exact h.elim
 ·exact h.elim
theorem zKK:AdM K Θ M.zAa zIJ:=by
 intro ρ H S x xs X Xs Q rp rx rxs h
 unfold M.zAa at h
 split at h
 ·rename_i p q
  obtain⟨Y,r,rfl,ry,rfl⟩:=rxs
  split at h
  ·rename_i ds es e1 e2
   obtain⟨a,zs,rfl,ha,hx,rz⟩:=Zu rp rx e1
   obtain⟨b,us,rfl,hb,hy,ru⟩:=Zu rp ry e2
   split at h
   ·rename_i hl
    have le:=Le.put (Q9 hx) (.lst (zs++us))
    refine⟨a,b,zs,us,rfl,rfl,hx,hy,by rw[<- Zc,<- rz.length,<- ru.length];exact hl.1,?_⟩
    exact h ρ _ _ (List.prefix_refl _) le (rp.put ha (Q9 hx) ⟨_,jM,(rz.mono (List.prefix_refl _) le).app (ru.mono (List.prefix_refl _) le)⟩) rfl
   ·exact h.elim
  ·exact h.elim
 ·exact h.elim
theorem zO2:AdM K Θ M.zDo zO6:=by
 intro ρ H S x xs X Xs Q rp rx rxs h
 unfold M.zDo at h
 split at h
 ·rename_i p
  cases rxs
  split at h
  ·rename_i ds e
   obtain⟨a,zs,rfl,ha,hx,rz⟩:=Zu rp rx e
   split at h
   ·rename_i y hy
    rw[List.getLast?_eq_getElem?] at hy
    obtain⟨Y,hY,ry⟩:=rz.get hy
    have le:=Le.put (Q9 hx) (.lst zs.dropLast)
    exact⟨a,zs,Y,rfl,rfl,hx,by rw[<- rz.length];exact hY,h ρ _ _ (List.prefix_refl _) le (rp.put ha (Q9 hx) ⟨_,jM,rz.dropLast.mono (List.prefix_refl _) le⟩) (ry.mono (List.prefix_refl _) le)⟩
   ·exact h.elim
  ·exact h.elim
 ·exact h.elim
end
end L2
namespace L2
open PySem PySem.Spec PyProof.Rows PySem.Builtin.Str
section
variable {K:PySem.W.Frag}{Θ:Tab}
theorem zP0:AdN K Θ M.zIs (fun xs H Q=>(∃ i,xs=[.int i]/\Q (.int i) H)\/∃ k,xs=[.bl k]/\Q (.int (if k then 1 else 0)) H):=by
 intro ρ H S xs Xs Q rp rxs h
 unfold M.zIs at h
 split at h
 ·obtain⟨Y,r,rfl,ry,rfl⟩:=rxs
  cases ry
  exact .inl ⟨_,rfl,zG.here h rp rfl⟩
 ·obtain⟨Y,r,rfl,ry,rfl⟩:=rxs
  cases ry
  exact .inr ⟨_,rfl,zG.here h rp rfl⟩
 ·exact h.elim
end
end L2
namespace L2
open PySem PySem.Spec PyProof.Rows
section
variable {Θ:Tab}
theorem PS.or {X:Cx}{st:Stmt}{t t':TS} (h:PS X st t) (h':PS X st t'):PS X st (fun D σ H=>t D σ H\/t' D σ H):=fun pins s σ H D I q=>by
 rcases q with q | q
 ·exact h pins s σ H D I q
 ·exact h' pins s σ H D I q
theorem zNV {X:Cx}{es:List Expr}{g:M.GMs}{js:List Nat}{k:Nat}{pos:Pos}{n:Nat} (hc:X.calm=true) (h:MGs X Θ js es g) (hl:∀ ds σ σ1,g ds σ=some σ1->ds.length=n) (hn:(assignEach es X.env).length=n:=by rfl) (hst:(assignEach es X.env).findIdx? (·.1)=none:=by rfl):MG X Θ js (.Tuple es k pos) (M.JN g) :=
 zP8 (es:=es) (zP5 hc h hn hst) hl
theorem zCp {X:Cx}{es:List Expr}{g:M.GMs}{js:List Nat}{k:Nat}{pos:Pos}{n:Nat} (hc:X.calm=true) (h:WGs X Θ js es g) (hl:∀ ds σ σ1,g ds σ=some σ1->ds.length=n) (hn:(assignEach es X.env).length=n:=by rfl) (hst:(assignEach es X.env).findIdx? (·.1)=none:=by rfl):WG X Θ js (.Tuple es k pos) (M.JN g):=by with_unfolding_all exact zNV (X:=X) (es:=es) (g:=g) (js:=js) (k:=k) (pos:=pos) (n:=n) hc h hl hn hst
theorem Qm {H:Hp}{a:Addr}{ks:List (Key×V)} (h:H a=some (.dK ks)):Mut (H a):=by rw[h];trivial
theorem zOY {X:Cx}{o i e:Expr}{mo mi me:M.EM}{pos pos':Pos}{n:Nat} (hr:jb n X.A) (ho:ME X Θ o mo) (hi:ME X Θ i mi) (he:ME X Θ e me)
  (ha:∀ v,assign (.Subscript o i pos') X.env v=(do
   let ov <- holding [v] (eval o X.env)
   let iv <- holding [v,ov] (eval i X.env)
   standAt pos'
   holding [v,ov,iv] (setItem ov iv v)
   release [v,ov,iv] []):=by intro _;rfl)
  (hs:swapsWithSole [.Subscript o i pos'] e pos.line X.env=pure false:=by rfl) (hw:swappedStores [.Subscript o i pos'] e X.env=pure none:=by rfl) (h1:(assignEach [.Subscript o i pos'] X.env).map (·.2)=[assign (.Subscript o i pos') X.env]:=by rfl)
  (hs2:swapsWith e (some (.Subscript o i pos')) pos.line X.env=pure false:=by rfl):MS X Θ (.Assign [.Subscript o i pos'] e pos) (M.jz mo mi me) :=
 (PS.or (zOO he (zP3 ho hi zL1 ha) hs hw h1) (zNi (by have:=hr.units;omega) ho hi he hs2)).imp fun D σ H ⟨ρ,σ',S,st,rp,h⟩=>by
  have h0:zn X.K Θ ρ H ((me σ' S).stm σ' fun y s=>(mo σ' s).stm σ' fun x s=>(mi σ' s).stm σ' fun k s=>(M.y1 x k y s).stm σ' fun _ s=>.nx σ' s) D:=h
  clear h
  cases hE:me σ' S with
  | no=>rw[hE] at h0;exact h0.elim
  | exc a s=>rw[hE] at h0;exact h0.elim
  | ok y S1 =>
   rw[hE,M.R.stm_ok] at h0
   cases hO:mo σ' S1 with
   | no=>rw[hO] at h0;exact h0.elim
   | exc a s=>rw[hO] at h0;exact h0.elim
   | ok x S2 =>
    rw[hO,M.R.stm_ok] at h0
    cases hI:mi σ' S2 with
    | no=>rw[hI] at h0;exact h0.elim
    | exc a s=>rw[hI] at h0;exact h0.elim
    | ok k S3 =>
     rw[hI,M.R.stm_ok] at h0
     cases x with
     | ref p =>
      cases q:S3[p]? with
      | none=>simp only[M.y1,q] at h0;exact h0.elim
      | some ob =>
       cases ob with
       | lst xs =>
        cases k with
        | int j =>
         cases hj:M.ixN xs.length j with
         | none=>simp only[M.y1,q,hj] at h0;exact h0.elim
         | some j' =>
          simp only[M.y1,q,hj,M.R.stm_ok] at h0
          refine .inl ⟨ρ,σ',S,st,rp,?_⟩
          rw[hE]
          intro ρ1 H1 Y p1 l1 rp1 ry
          refine⟨ρ1,σ',S1,st.mono p1 l1,rp1,?_⟩
          rw[hO]
          intro ρ2 H2 Xv p2 l2 rp2 rx
          refine⟨ρ2,σ',S2,st.mono (p1.trans p2) (l1.trans l2),rp2,?_⟩
          rw[hI]
          intro ρ3 H3 Kv p3 l3 rp3 rk
          obtain⟨a,zs,rfl,ha,hx,rz⟩:=Zu rp3 (rx.mono p3 l3) q
          cases rk
          have le:=Le.put (Q9 hx) (.lst (zs.set j' Y))
          refine⟨a,zs,j,j',rfl,rfl,hx,by rw[<- rz.length];exact hj,?_⟩
          exact h0 ρ3 _ σ (p1.trans (p2.trans p3)) (l1.trans (l2.trans (l3.trans le))) (rp3.put ha (Q9 hx) ⟨_,jM,zM.set (ry.mono (p2.trans p3) (l2.trans (l3.trans le))) j' (rz.mono (List.prefix_refl _) le)⟩) (st.mono (p1.trans (p2.trans p3)) (l1.trans (l2.trans (l3.trans le))))
        | _=>simp only[M.y1,q] at h0;exact h0.elim
       | dct kvs =>
        cases hk:(M.jA k && decide (kvs.length < M.SZ)) with
        | false=>simp only[M.y1,q,hk] at h0;exact h0.elim
        | true =>
         have hk2:(if (M.jA k && decide (kvs.length < M.SZ))=true then M.R.ok () (S3.set p (.dct (M.jx k y kvs))) else .no)=M.R.ok () (S3.set p (.dct (M.jx k y kvs))):=if_pos hk
         simp only[M.y1,q,hk2,M.R.stm_ok] at h0
         rw[Bool.and_eq_true] at hk
         refine .inr ⟨ρ,σ',S,st,rp,?_⟩
         rw[hE]
         intro ρ1 H1 Y p1 l1 rp1 ry
         refine⟨ρ1,σ',S1,st.mono p1 l1,rp1,?_⟩
         rw[hO]
         intro ρ2 H2 Xv p2 l2 rp2 rx
         refine⟨ρ2,σ',S2,st.mono (p1.trans p2) (l1.trans l2),rp2,?_⟩
         rw[hI]
         intro ρ3 H3 Kv p3 l3 rp3 rk
         obtain⟨a,rfl,ea⟩:=rx.mono p3 l3
         obtain⟨b,e1,ks,e2,r⟩:=rp3.obj _ _ q
         rw[ea] at e1;cases e1
         obtain⟨kk,hkk,rfl⟩:=Qa hk.1 rk
         have le:=Le.put (Qm e2) (.dK (ZB ks kk Y))
         refine⟨a,_,rfl,zDq.k e2 (by rw[<- Paired.length r,<- Zc];exact of_decide_eq_true hk.2),?_⟩
         have r':DR X.K ρ3 (upd H3 a (.dK (ZB ks kk Y))) kvs ks:=Paired.mapP r fun a b z=>⟨z.1,z.2.mono (List.prefix_refl _) le⟩
         exact h0 ρ3 _ σ (p1.trans (p2.trans p3)) (l1.trans (l2.trans (l3.trans le))) (rp3.put ea (Qm e2) ⟨_,jM,DR.put r' hkk (ry.mono (p2.trans p3) (l2.trans (l3.trans le)))⟩) (st.mono (p1.trans (p2.trans p3)) (l1.trans (l2.trans (l3.trans le))))
       | fdc _=>simp only[M.y1,q] at h0;exact h0.elim
       | ins c fs=>simp only[M.y1,q] at h0;exact h0.elim
     | _=>exact h0.elim
theorem ZC {X:Cx}{o i e:Expr}{mo mi me:M.EM}{pos pos':Pos}{n:Nat} (hr:jb n X.A) (ho:WE X Θ o mo) (hi:WE X Θ i mi) (he:WE X Θ e me)
  (ha:∀ v,assign (.Subscript o i pos') X.env v=(do
   let ov <- holding [v] (eval o X.env)
   let iv <- holding [v,ov] (eval i X.env)
   standAt pos'
   holding [v,ov,iv] (setItem ov iv v)
   release [v,ov,iv] []):=by intro _;rfl)
  (hs:swapsWithSole [.Subscript o i pos'] e pos.line X.env=pure false:=by rfl) (hw:swappedStores [.Subscript o i pos'] e X.env=pure none:=by rfl) (h1:(assignEach [.Subscript o i pos'] X.env).map (·.2)=[assign (.Subscript o i pos') X.env]:=by rfl)
  (hs2:swapsWith e (some (.Subscript o i pos')) pos.line X.env=pure false:=by rfl):WS X Θ (.Assign [.Subscript o i pos'] e pos) (M.jz mo mi me):=by with_unfolding_all exact zOY (X:=X) (o:=o) (i:=i) (e:=e) (mo:=mo) (mi:=mi) (me:=me) (pos:=pos) (pos':=pos') (n:=n) hr ho hi he ha hs hw h1 hs2
end
end L2
namespace L2
open PySem PySem.Spec PyProof.Rows
section
variable {K:PySem.W.Frag}{Θ:Tab}
theorem zDf:∀ {xs:List V}{us:List Value},xs.length=us.length->(∀ (j:Nat) u,us[j]? = some u->∃ x,xs[j]? = some x/\zj x u)->zh xs us
 | [],[],_,_=>.nil
 | [],_::_,h,_=>by simp at h
 | _::_,[],h,_=>by simp at h
 | x::xs,u::us,h,k=>by
  obtain⟨y,e,r⟩:=k 0 u rfl
  cases e
  exact .cons r (zDf (by simpa using h) fun j u hu=>by
   obtain⟨y,e,r⟩:=k (j+1) u (by simpa using hu)
   exact⟨y,by simpa using e,r⟩)
theorem zKt {P:Program}{w:World}{k:Key}{v:Value} (h:(jF P w).is k v=true):zj (kV k) v:=by
 rcases qd (k:=k) (v:=v) h with ⟨i,t,rfl,rfl⟩ | ⟨x,t,rfl,rfl⟩
 ·exact⟨t,rfl⟩
 ·exact⟨t,rfl⟩
def zKD (K:PySem.W.Frag):List V->Hp->VK->Prop:=fun xs H Q=>(∃ p ys,xs=[.ref p]/\(SqL K H p ys\/SqT K H p ys)/\∀ l,H l=none->Q (.ref l) (upd H l (.lst ys))) \/
 ∃ p ks,xs=[.ref p]/\H p=some (.dK ks)/\∀ l,H l=none->Q (.ref l) (upd H l (.lst (ks.map fun kv=>kV kv.1)))
theorem zBn {X:Cx}{k:Nat} (hr:jb k X.A):qQ X (.type "list") (zKD X.K):=by
 intro pins s σ H xs us Q I r h
 rcases h with h | ⟨p,ks,rfl,hp,q⟩
 ·exact zHd pins s σ H xs us Q I r h
 ·obtain⟨u,rfl,ru⟩:=Qd r
  cases ru
  obtain⟨z,lo,vs,rv,dd⟩:=zBy I.hok hp
  obtain⟨ep,da⟩:=dd.dictAt
  have hl:=rv.length
  refine wpAny_with_toks (n:=1) I.tk (PySem.W.kdl_call (PySem.W.kdl_dict lo) hr.hd da (by omega) fun h' tk acc c' keep hS it htk=>?_)
  obtain⟨hsz,hit⟩:=it
  refine⟨.ref s.heap.objs.size,_,I.laid (t':=tk) (o:=.lst (ks.map fun kv=>kV kv.1)) keep (Nat.le_refl _) ⟨by rw[List.length_map];exact z,acc.toList,c',zDf (by simp;omega) fun j u hu=>?_,by simpa using hS⟩ htk,rfl,q _ (I.hok.fresh (Nat.le_refl _))⟩
  obtain⟨k,x,e,hk⟩:=hit j u (by simpa using hu)
  have hj:j < ks.length:=by have:=(List.getElem?_eq_some_iff.mp e).1;omega
  have ek:(ks.map (·.1))[j]? = some k:=by rw[rv.keys,List.getElem?_map,e];rfl
  refine⟨kV k,?_,zKt hk⟩
  rw[List.getElem?_map] at ek ⊢
  cases q2:ks[j]? with
  | none=>rw[q2] at ek;cases ek
  | some kv=>rw[q2] at ek;cases ek;rfl
theorem zDb {ρ:List Addr}{H:Hp}:∀ {kvs:List (M.D×M.D)}{ks:List (Key×V)},DR K ρ H kvs ks->zM K ρ H (kvs.map (·.1)) (ks.map fun kv=>kV kv.1)
 | _,_,.nil=>rfl
 | (d,_)::_,(k,_)::_,.cons h t=>by
  refine⟨_,_,rfl,?_,zDb t⟩
  have h1:yr d k:=h.1
  cases d with
  | int i=>cases h1;rfl
  | str x=>obtain⟨rfl,ok⟩:=h1;exact⟨rfl,ok⟩
  | _=>exact h1.elim
theorem zFA:AdN K Θ M.zB3 (zKD K):=by
 intro ρ H S xs Xs Q rp rxs h
 unfold M.zB3 at h
 split at h
 ·obtain⟨Y,r,rfl,⟨a,zs,rfl,hq,rz⟩,rfl⟩:=rxs
  exact .inl ⟨a,zs,rfl,.inr hq,fun p hp=>zG.alloc h rp rz hp⟩
 ·obtain⟨Y,r,rfl,⟨a,zs,rfl,hq,rz⟩,rfl⟩:=rxs
  exact .inl ⟨a,zs,rfl,.inl hq.sq,fun p hp=>zG.alloc h rp rz hp⟩
 ·rename_i p
  obtain⟨Y,r,rfl,ry,rfl⟩:=rxs
  split at h
  ·rename_i ds e
   obtain⟨a,zs,rfl,ha,hx,rz⟩:=Zu rp ry e
   exact .inl ⟨a,zs,rfl,.inl (SqL.of hx),fun p hp=>zG.alloc h rp rz hp⟩
  ·rename_i kvs e
   obtain⟨a,rfl,ha⟩:=ry
   obtain⟨ks,e2,r⟩:=QQ rp ha e
   exact .inr ⟨a,ks,rfl,e2,fun p hp=>zG.alloc h rp (zDb r) hp⟩
  ·exact h.elim
 ·exact h.elim
theorem zFe {ρ:List Addr}{H:Hp}{S:M.S}{kvs:List (M.D×M.D)}{ks:List (Key×V)}{Q:VK} (h:zG K Θ (zQ K) ρ H (M.alloc (.dct kvs) S) Q) (rp:zf K Θ ρ S H) (r:DR K ρ H kvs ks) {p:Addr} (hp:H p=none):Q (.ref p) (upd H p (.dK ks)) :=
 h (ρ++[p]) _ _ (List.prefix_append _ _) (Le.new hp _) (rp.alloc hp ⟨ks,jM,Paired.mapP r fun _ _ z=>⟨z.1,z.2.mono (List.prefix_append _ _) (Le.new hp _)⟩⟩) ⟨p,rfl,by rw[<- rp.len];simp⟩
theorem zNt {X:Cx}{pos:Pos}:ME X Θ (.Dict [] [] pos) M.jw:=zLU.imp fun σ H Q ⟨ρ,σ',S,st,rp,h⟩=>fun p hp=>zFe (kvs:=[]) h rp .nil hp
theorem y0 {X:Cx}{pos:Pos}:WE X Θ (.Dict [] [] pos) M.jw:=by with_unfolding_all exact zNt (X:=X) (pos:=pos)
def zC7 {α:Type} (c:α->α->Bool) (y:α) (ys:List α):α:=ys.foldl (fun b z=>if c z b then z else b) y
theorem zGj {α:Type} (c:α->α->Bool) (y:α) (ys:List α):∀ k,k <= ys.length->(y::ys).getD (argBest (fun i j=>c ((y::ys).getD i y) ((y::ys).getD j y)) k) y=zC7 c y (ys.take k)
 | 0,_=>rfl
 | k+1,h=>by
  have ih:=zGj c y ys k (by omega)
  have e:ys.take (k+1)=ys.take k++[(y::ys).getD (k+1) y]:=by
   rw[List.take_succ,List.getElem?_eq_getElem (by omega)]
   simp[List.getD_eq_getElem?_getD,show k < ys.length by omega]
  rw[e]
  unfold zC7 at ih ⊢
  rw[List.foldl_append,<- ih]
  show (y::ys).getD (if c ((y::ys).getD (k+1) y) ((y::ys).getD (argBest _ k) y) then k+1 else argBest _ k) y=_
  split
  ·rename_i hc;simp only[List.foldl_cons,List.foldl_nil];rw[if_pos hc]
  ·rename_i hc;simp only[List.foldl_cons,List.foldl_nil];rw[if_neg hc]
theorem zEn {ys:List Str}{its:List Value} (r:zh (ys.map V.str) its) {i:Nat}{v:Value} (h:its[i]? = some v) (d:Str):∃ t,v=.str (ys.getD i d) t:=by
 have hl:=r.length
 have hi:i < its.length:=(List.getElem?_eq_some_iff.mp h).1
 rw[List.length_map] at hl
 obtain⟨u,hu,ru⟩:=r.get (i:=i) (x:=V.str (ys.getD i d)) (by rw[List.getElem?_map,List.getD_eq_getElem?_getD,List.getElem?_eq_getElem (by omega)];rfl)
 rw[h] at hu
 cases hu
 exact ru
def zMq (K:PySem.W.Frag) (c:Str->Str->Bool):List V->Hp->VK->Prop:=fun xs H Q=>∃ p y ys,xs=[.ref p]/\SqL K H p ((y::ys).map V.str)/\Q (.str (zC7 c y ys)) H
def ltS (x y:Str):Bool:=decide (x.cps.toList < y.cps.toList)
theorem zFi {X:Cx}{k:Nat} (hr:jb k X.A):qQ X (.builtin "min") (zMq X.K ltS):=by
 intro pins s σ H xs us Q I r h
 obtain⟨p,y,ys,rfl,hq,q⟩:=h
 obtain⟨u,rfl,ru⟩:=Qd r
 cases ru
 obtain⟨its,rv,pl,hz⟩:=I.list hq
 have hlen:its.length=ys.length+1:=by have:=rv.length;simp at this;omega
 obtain⟨o,ho,ho2⟩:=pl.isList
 have hlt:p < s.heap.objs.size:=Heap.lt_size ho
 refine wpAny_with_toks (n:=1) I.tk (call_min_walk (wpAny_pyIter_list pl.isList ?_))
 refine⟨s.heap.objs.size,_,_,_,_,_,fun i j=>ltS ((y::ys).getD i y) ((y::ys).getD j y),rfl,Walks.list (show X.A.in1.handled=none from hr.hd) s.heap.objs.size p (Nat.ne_of_lt hlt) its.toArray,⟨⟨_,Heap.get?_push_size _ rfl,rfl,rfl⟩,pl.isList.push _⟩,?_,by simp[hlen],?_,fun v h' tk hP hk htk=>?_⟩
 ·intro b hb
  rw[Heap.size_push]
  rcases List.mem_cons.mp hb with rfl | hb
  ·exact Nat.lt_succ_self _
  ·have:b=p:=by simpa using hb
   rw[this];exact Nat.lt_succ_of_lt hlt
 ·intro i j vi vj s' Q' E' hi hj hQ
  obtain⟨t,rfl⟩:=zEn rv (v:=vi) (by simpa using hi) y
  obtain⟨t',rfl⟩:=zEn rv (v:=vj) (by simpa using hj) y
  exact lt_str hQ
 ·have hk':∀ b o,s.heap.get? b=some o->h'.get? b=some o:=fun b o e=>hk b o (by simpa using Nat.ne_of_lt (Heap.lt_size e)) (Heap.get?_push_of_some _ e)
  obtain⟨t,rfl⟩:=zEn rv (v:=v) (i:=argBest (fun i j=>ltS ((y::ys).getD i y) ((y::ys).getD j y)) (its.toArray.size - 1)) (by rw[<- List.getElem?_toArray];exact hP) y
  refine⟨.str (zC7 ltS y ys),H,I.kept hk' htk,⟨t,?_⟩,q⟩
  rw[show its.toArray.size - 1=ys.length by simp[hlen],zGj ltS y ys ys.length (Nat.le_refl _),List.take_length]
theorem zGw {c:Str->Str->Bool}{d:M.T->M.T->Bool} (h:∀ x y,c (ofT x) (ofT y)=d x y):∀ (ys:List M.T) (y:M.T),zC7 c (ofT y) (ys.map ofT)=ofT (ys.foldl (fun b z=>if d z b then z else b) y)
 | [],y=>rfl
 | z::ys,y=>by
  have ih:=zGw h ys
  unfold zC7 at ih ⊢
  rw[List.map_cons,List.foldl_cons,List.foldl_cons,h]
  split
  ·exact ih z
  ·exact ih y
theorem zIa {f:M.T->M.T->Bool}:∀ (ys:List M.T) (y:M.T),okT y->(∀ t∈ys,okT t)->okT (ys.foldl (fun b z=>if f z b then z else b) y)
 | [],_,h,_=>h
 | z::ys,y,h,k=>by
  rw[List.foldl_cons]
  refine zIa ys _ ?_ fun t ht=>k t (List.mem_cons_of_mem _ ht)
  split
  ·exact k z List.mem_cons_self
  ·exact h
theorem zLE:AdN K Θ M.zBr (zMq K ltS):=by
 intro ρ H S xs Xs Q rp rxs h
 unfold M.zBr M.zME at h
 split at h
 ·rename_i p
  obtain⟨Y,r,rfl,ry,rfl⟩:=rxs
  split at h
  ·rename_i ds e
   have e':S[p]? = some (.lst ds):=by
    unfold M.jf at e
    split at e
    ·rename_i ds' e1;cases e;exact e1
    ·cases e
   obtain⟨a,zs,rfl,ha,hx,rz⟩:=Zu rp ry e'
   unfold M.zHK at h
   split at h
   ·rename_i ts et
    obtain⟨rfl,hok⟩:=J7 et rz
    split at h
    ·rename_i y ey
     cases ts with
     | nil=>cases ey
     | cons t ts =>
      cases ey
      refine⟨a,ofT t,ts.map ofT,rfl,SqL.of hx,?_⟩
      rw[zGw (d:=fun x y=>decide (x < y)) (fun x y=>by unfold ltS;rw[Zk,Zk])]
      have e3:(ts.foldl (fun b z=>if (fun x y=>decide (x < y)) z b then z else b) t)=ts.foldl (fun b y=>if y < b then y else b) t:=by
       congr 1
       funext b z
       simp
      refine zG.here h rp ⟨by rw[e3],?_⟩
      have:=zIa (f:=fun x y=>decide (x < y)) ts t (hok t (by simp)) fun u hu=>hok u (by simp[hu])
      rwa [e3] at this
    ·exact h.elim
   ·exact h.elim
  ·exact h.elim
 ·exact h.elim
def zKQ (K:PySem.W.Frag):V->List V->Hp->VK->Prop:=fun x vs H Q=>∃ p xs y j,x=.ref p/\vs=[y]/\SqL K H p xs/\yX y=true/\xs.all yX=true/\j < xs.length/\(∀ z,xs[j]? = some z->eqV z y=true)/\(∀ m z,m < j->xs[m]? = some z->eqV z y=false)/\Q (.int (j:Nat)) H
theorem zKH {X:Cx}:MtR X "list.index" (zKQ X.K):=by
 intro pins s σ H x vs v us Q I rx rv h
 obtain⟨p,xs,y,j,rfl,rfl,hq,fy,fs,hj,hit,hno,q⟩:=h
 cases rx
 obtain⟨u,rfl,ru⟩:=Qd rv
 obtain⟨its,r,pl,hz⟩:=I.list hq
 have hlen:=r.length
 obtain⟨⟨c,dct,dt,sl⟩,hl,hc,n,hd⟩:=pl.isList
 replace hc:c=.type "list" := hc
 replace hd:dt=.seq its.toArray n:=hd
 subst hc hd
 have hE:∀ (m:Nat) (hm:m < its.toArray.size),∃ z,xs[m]? = some z/\eqU y its.toArray[m]=eqV z y:=fun m hm=>by
  have hm':m < xs.length:=by simp at hm;omega
  obtain⟨w,hw,rw'⟩:=r.get (i:=m) (x:=xs[m]) (by simp[hm'])
  have e:its.toArray[m]=w:=by
   have:=(List.getElem?_eq_some_iff.mp hw).2
   simpa using this
  refine⟨xs[m],by simp[hm'],?_⟩
  rw[e]
  exact zG1 rw' (List.all_eq_true.mp fs _ (List.getElem_mem hm'))
 refine call_meets F.slot_list_index ⟨_,hl,rfl⟩ F.entry_list_index (F.args_list_index_2 _ _) (SeqAt.list_indexAt p its.toArray n dct sl u (eqU y) j (by simp;omega) (by have:sizeLine < 2 ^ 62:=(by decide);omega) ?_ ?_) ⟨hl,fun w hw=>Jm ru fy r fs w (by simpa using hw),⟨.int (j:Nat),H,I.tok _,⟨_,rfl⟩,q⟩⟩
 ·obtain⟨z,e1,e2⟩:=hE j (by simp;omega)
  rw[e2];exact hit z e1
 ·intro m hm hmj
  obtain⟨z,e1,e2⟩:=hE m hm
  rw[e2];exact hno m z hmj e1
theorem zKq {K:PySem.W.Frag}{ρ:List Addr}{H:Hp}{x:M.D}{X1:V} (rx:zQ K ρ H x X1) (fx:M.flat x=true):∀ {ds:List M.D}{xs:List V}{j:Nat},zM K ρ H ds xs->ds.all M.flat=true->M.zDm x ds=some j ->
  j < xs.length/\(∀ z,xs[j]? = some z->eqV z X1=true)/\∀ m z,m < j->xs[m]? = some z->eqV z X1=false
 | [],_,_,_,_,e=>by cases e
 | d::ds,_,j,⟨y,ys,rfl,ry,r⟩,f,e=>by
  rw[List.all_cons,Bool.and_eq_true] at f
  have he:eqV y X1=M.eqF d x:=zIL ry rx
  unfold M.zDm at e
  split at e
  ·rename_i h
   cases e
   refine⟨by simp,fun z hz=>?_,fun m z hm=>by omega⟩
   simp at hz
   subst hz
   rw[he];exact h
  ·rename_i h
   cases q:M.zDm x ds with
   | none=>rw[q] at e;cases e
   | some j' =>
    rw[q] at e
    have e2:some (j'+1)=some j:=e
    cases e2
    obtain⟨h1,h2,h3⟩:=zKq rx fx r f.2 q
    refine⟨by simp;omega,fun z hz=>h2 z (by simpa using hz),fun m z hm hz=>?_⟩
    cases m with
    | zero =>
     simp at hz
     subst hz
     rw[he]
     exact Bool.eq_false_iff.mpr h
    | succ m=>exact h3 m z (by omega) (by simpa using hz)
theorem zL9:AdM K Θ M.zGY (zKQ K):=by
 intro ρ H S x xs X Xs Q rp rx rxs h
 unfold M.zGY at h
 split at h
 ·rename_i p y
  obtain⟨Y,r,rfl,ry,rfl⟩:=rxs
  split at h
  ·rename_i ds e
   have e':S[p]? = some (.lst ds):=by
    unfold M.jf at e
    split at e
    ·rename_i ds' e1;cases e;exact e1
    ·cases e
   obtain⟨a,zs,rfl,ha,hx,rz⟩:=Zu rp rx e'
   split at h
   ·rename_i hf
    rw[Bool.and_eq_true] at hf
    split at h
    ·rename_i j ej
     obtain⟨h1,h2,h3⟩:=zKq ry hf.1 rz hf.2 ej
     exact⟨a,zs,Y,j,rfl,rfl,SqL.of hx,(zDZ ry).trans hf.1,(zCM rz).trans hf.2,h1,h2,h3,zG.here h rp rfl⟩
    ·exact h.elim
   ·exact h.elim
  ·exact h.elim
 ·exact h.elim
end
end L2
namespace L2
open PySem PySem.Spec PyProof.Rows
section
variable {P:Program}{w:World}{A:Around}{E:Value->Shared->Prop}{s:Shared}
theorem zJb {it t:Addr}{i:Nat}{xs:Array Value}{x:Value}{Q:Value->Shared->Prop} (hi:s.heap.IsTupleIter it t i) (ht:s.heap.IsTuple t xs) (hx:xs[i]? = some x)
  (q:∀ h',h'.IsTupleIter it t (i+1)->Heap.SameBut it s.heap h'->Q x { s with heap:=h' }):wpAny (model P w) A (Builtin.SmallTypes.nextOf (.ref it)) Q E s:=by
 obtain⟨oi,gi,ci,di⟩:=id hi
 obtain⟨ot,gt,_,nt,dt⟩:=ht
 unfold Builtin.SmallTypes.nextOf
 refine wpAny_bind (wpAny_callSpecial?_slot (name:=Str.ofString "__next__") hi.typeIs PySem.F.slot_tuple_iterator_next (wpAny_call_entry PySem.F.slot_tuple_iterator_next hi.typeIs PySem.F.entry_tuple_iterator_next ?_ (PySem.F.args_tuple_iterator_next_1 _)))
 show wpAny (model P w) _ (field (.ref it) 0 >>= _) _ _ s
 refine wpAny_bind (wpAny_field gi di (x:=.ref t) rfl ?_)
 rw[if_neg (show ¬ ((Value.ref t == Value.none)=true) from Bool.false_ne_true)]
 show wpAny (model P w) _ (field (.ref it) 1 >>= _) _ _ s
 refine wpAny_bind (wpAny_field gi di (x:=.int i 0) rfl ?_)
 refine wpAny_bind (wpAny_seqItems gt dt ?_)
 simp only[Int.toNat_natCast,hx]
 refine wpAny_bind (wpAny_setField gi di (by simp) (wpAny_pure ⟨x,rfl,wpAny_pure (q _ ?_ (Heap.SameBut.update ..))⟩))
 refine⟨_,Heap.get?_update_self _ gi (Obj.isFreed_of_fields (Obj.data_mapFields di _)),(Obj.cls_mapFields ..).trans ci,?_⟩
 rw[Obj.data_mapFields di];simp[rawInt]
theorem zKB {it t:Addr}{i:Nat}{xs:Array Value}{Q:Value->Shared->Prop} (hh:A.handled=none) (hi:s.heap.IsTupleIter it t i) (ht:s.heap.IsTuple t xs) (hx:xs[i]? = none)
  (q:∀ h' e,Heap.ExtBut it s.heap h'->(∃ o,h'.get? e=some o/\o.cls=.type "StopIteration")->E (.ref e) { s with heap:=h' }):wpAny (model P w) A (Builtin.SmallTypes.nextOf (.ref it)) Q E s:=by
 obtain⟨oi,gi,ci,di⟩:=id hi
 obtain⟨ot,gt,_,nt,dt⟩:=ht
 unfold Builtin.SmallTypes.nextOf
 refine wpAny_bind (wpAny_callSpecial?_slot (name:=Str.ofString "__next__") hi.typeIs PySem.F.slot_tuple_iterator_next (wpAny_call_entry PySem.F.slot_tuple_iterator_next hi.typeIs PySem.F.entry_tuple_iterator_next ?_ (PySem.F.args_tuple_iterator_next_1 _)))
 show wpAny (model P w) _ (field (.ref it) 0 >>= _) _ _ s
 refine wpAny_bind (wpAny_field gi di (x:=.ref t) rfl ?_)
 rw[if_neg (show ¬ ((Value.ref t == Value.none)=true) from Bool.false_ne_true)]
 show wpAny (model P w) _ (field (.ref it) 1 >>= _) _ _ s
 refine wpAny_bind (wpAny_field gi di (x:=.int i 0) rfl ?_)
 refine wpAny_bind (wpAny_seqItems gt dt ?_)
 simp only[Int.toNat_natCast,hx]
 refine wpAny_bind (wpAny_rule (wpAny_bind (wpAny_setField gi di (by simp) ?_)))
 show wpAny (model P w) _ (newExc (.type "StopIteration") [] >>= _) _ _ _
 refine wpAny_bind ?_
 simp only[newExc,newTuple]
 refine wpAny_bind (wpAny_newObj_type ?_ (by size_fits))
 refine wpAny_bind (m:=firstArgMember _ _) (wpAny_of_eq (a:=Value.none) (by first | rfl | (simp only[firstArgMember];rfl)) ?_)
 refine wpAny_newObj_type ?_ (by size_fits)
 simp only[raiseNew]
 refine wpAny_bind (wpAny_handled ?_)
 first | rw[show A.in1.handled=none from hh] | rw[hh]
 refine wpAny_bind (wpAny_pure (wpAny_throw ?_))
 exact q _ _ (((Heap.SameBut.update ..).extBut.push _).push _) ⟨_,Heap.get?_push_size _ rfl,rfl⟩
def zRV (h:Heap) (z TI TO:Addr) (f0:Value) (b:Bool):Prop:=h.get? z=some { cls:=.type "zip",dict:=none,data:=.fields #[f0,.bool b,.bool false,.ref TI,.ref TO],slots:=#[] }
structure ZSt (z TI TO i1 i2 l1 l2:Addr) (xs ys:Array Value) (i:Nat) (h:Heap):Prop where
 zp:∃ f0 b,zRV h z TI TO f0 b/\((i=0/\f0=.none)\/∃ (T:Addr) (o:Obj),f0=rawInt T/\h.get? T=some o)
 ti:IsPair h TI (.ref i1) (.ref i2)
 to:∃ a b,IsPair h TO a b
 n1:h.IsTupleIter i1 l1 i
 n2:h.IsTupleIter i2 l2 i
 t1:h.IsTuple l1 xs
 t2:h.IsTuple l2 ys
theorem zDg {T:Addr}{a b x:Value}{k:Nat}{Q:Unit->Shared->Prop} (hT:IsPair s.heap T a b) (q:∀ h',h'.get? T=some { cls:=.type "tuple",data:=.seq ((#[a,b]:Array Value).setIfInBounds k x) }->Heap.SameBut T s.heap h'->Q () { s with heap:=h' }) :
  wpAny (model P w) A (updateSeq T (·.setIfInBounds k x)) Q E s:=wpAny_updateSeq_pair hT q
structure ZLp (lo z TO i1 i2 S:Addr) (xs ys:List Value) (h0 h:Heap) (ps:List Addr):Prop where
 its:∀ (j:Nat) p,ps[j]? = some p->lo <= p/\∃ x y,xs[j]? = some x/\ys[j]? = some y/\IsPair h p x y
 keep:∀ b o,b≠S->b≠z->b≠TO->b≠i1->b≠i2->h0.get? b=some o->h.get? b=some o
 nd:ps.Nodup
theorem zKh:bootBuiltins "zip" = some (.type "zip"):=by decide +kernel
end
end L2
namespace L2
open PySem PySem.Spec PyProof.Rows
inductive zMY:Hp->List (V×V)->List V->Hp->Prop
 | nil (H:Hp):zMY H [] [] H
 | cons {H H':Hp}{a:Addr}{x y:V}{r:List (V×V)}{zs:List V} (h:H a=none) (t:zMY (upd H a (.tup [x,y])) r zs H'):zMY H ((x,y)::r) (.ref a::zs) H'
end L2
namespace L2
open PySem PySem.Spec PyProof.Rows
section
variable {K:PySem.W.Frag}{Θ:Tab}
theorem zMV:Ad2 K Θ M.zJq (fun x y H Q=>match x,y with | .int i,.int j=>Q (.int (i+j)) H | .str a,.str b=>a.length+b.length <= sizeLine/\Q (.str (a++b)) H | _,_=>False):=by
 intro ρ H S x y X Y Q rp rx ry h
 cases x with
 | int i =>
  cases y with
  | int j=>cases rx;cases ry;exact zG.here (b:=V.int (i+j)) h rp rfl
  | _=>exact h.elim
 | str a =>
  cases y with
  | str b =>
   obtain⟨rfl,oa⟩:=rx
   obtain⟨rfl,ob⟩:=ry
   have h':zG K Θ (zQ K) ρ H (if a.length+b.length <= M.SZ then M.R.ok (M.D.str (a++b)) S else .no) Q:=h
   by_cases hc:a.length+b.length <= M.SZ
   ·rw[if_pos hc] at h'
    refine⟨by rw[qO,qO,<- Zc];exact hc,?_⟩
    rw[zIV]
    exact zG.here h' rp ⟨rfl,zC9 oa ob⟩
   ·rw[if_neg hc] at h';exact h'.elim
  | _=>exact h.elim
 | _=>exact h.elim
theorem zNn:AdN K Θ M.zJD (fun xs H Q=>∃ i j,xs=[.int i,.int j]/\Q (.int (if j > i then j else i)) H):=by
 intro ρ H S xs Xs Q rp rxs h
 unfold M.zJD at h
 split at h
 ·rename_i i j
  obtain⟨Y,r,rfl,ry,Z,r2,rfl,rz,rfl⟩:=rxs
  cases ry;cases rz
  exact⟨i,j,rfl,zG.here h rp rfl⟩
 ·exact h.elim
end
end L2
namespace L2
open PySem PySem.Spec PyProof.Rows
structure zRd (K:PySem.W.Frag) (Θ:Tab) (c:Nat) (C:Addr) (N:List Str):Prop where
 tab:Θ c=some (C,N)
 cl:Cls K C
 no:∀ f∈N,zQB K C f
 few:N.length < 999
 nd:N.Nodup
structure zRf (P:Program) (w:World) (K:PySem.W.Frag) (mg:Str->Option Value) (base:Heap) (C:Addr) (m:Str) (k:Nat) (ps:List Str) (sp:Sp):Prop where
 ex:∃ f fd,qH P w K mg base CX0 k f fd ps sp/\zA7 K fd ps []/\zQv K C m f
structure zRh (P:Program) (w:World) (K:PySem.W.Frag) (mg:Str->Option Value) (base:Heap) (C:Addr) (x:Str) (k:Nat) (ps:List Str) (sp:Sp):Prop where
 ex:∃ f fd,qH P w K mg base CX0 k f fd ps sp/\zA7 K fd ps []/\Mk K C f/\mg x=some (.ref C)
end L2
namespace L2
open PySem PySem.Spec PyProof.Rows
def SIt (b:Bool) (h:Heap) (it a:Addr) (i:Nat):Prop:=match b with | true=>h.IsListIter it a i | false=>h.IsTupleIter it a i
def SSq (b:Bool) (h:Heap) (a:Addr) (xs:Array Value):Prop:=match b with | true=>h.IsList a xs | false=>h.IsTuple a xs
theorem SIt.at {b:Bool}{h h':Heap}{it a:Addr}{i:Nat} (x:SIt b h it a i) (e:∀ o,h.get? it=some o->h'.get? it=some o):SIt b h' it a i:=match b,x with | true,x=>Heap.IsListIter.at x e | false,x=>Heap.IsTupleIter.at x e
theorem SIt.ex {b:Bool}{h h':Heap}{it a c:Addr}{i:Nat} (x:SIt b h it a i) (e:Heap.SameBut c h h') (n:it≠c):SIt b h' it a i:=x.at fun o g=>e.extBut _ _ n g
theorem SSq.at {b:Bool}{h h':Heap}{a:Addr}{xs:Array Value} (x:SSq b h a xs) (e:∀ o,h.get? a=some o->h'.get? a=some o):SSq b h' a xs:=match b,x with | true,⟨o,g,r⟩=>⟨o,e o g,r⟩ | false,⟨o,g,r⟩=>⟨o,e o g,r⟩
theorem SSq.ex {b:Bool}{h h':Heap}{a c:Addr}{xs:Array Value} (x:SSq b h a xs) (e:Heap.SameBut c h h') (n:a≠c):SSq b h' a xs:=x.at fun o g=>e.extBut _ _ n g
theorem SIt.ob {b:Bool}{h:Heap}{it a:Addr}{i:Nat} (x:SIt b h it a i):∃ o,h.get? it=some o/\∀ v,o.data≠.cell v:=match b,x with
 | true,⟨o,g,c,d⟩=>⟨o,g,fun v z=>by rw[d] at z;cases z⟩
 | false,⟨o,g,c,d⟩=>⟨o,g,fun v z=>by rw[d] at z;cases z⟩
section
variable {P:Program}{w:World}{A:Around}{E:Value->Shared->Prop}{s:Shared}
theorem zBx {b:Bool}{it t:Addr}{i:Nat}{xs:Array Value}{x:Value}{Q:Value->Shared->Prop} (hi:SIt b s.heap it t i) (ht:SSq b s.heap t xs) (hx:xs[i]? = some x)
  (q:∀ h',SIt b h' it t (i+1)->Heap.SameBut it s.heap h'->Q x { s with heap:=h' }):wpAny (model P w) A (Builtin.SmallTypes.nextOf (.ref it)) Q E s :=
 match b,hi,ht,q with
 | true,hi,ht,q=>wpAny_nextOf_list_item hi ht hx q
 | false,hi,ht,q=>zJb hi ht hx q
theorem zFd {b:Bool}{it t:Addr}{i:Nat}{xs:Array Value}{Q:Value->Shared->Prop} (hh:A.handled=none) (hi:SIt b s.heap it t i) (ht:SSq b s.heap t xs) (hx:xs[i]? = none)
  (q:∀ h' e,Heap.ExtBut it s.heap h'->(∃ o,h'.get? e=some o/\o.cls=.type "StopIteration")->E (.ref e) { s with heap:=h' }):wpAny (model P w) A (Builtin.SmallTypes.nextOf (.ref it)) Q E s :=
 match b,hi,ht with
 | true,hi,ht=>wpAny_nextOf_list_end hh hi ht hx q
 | false,hi,ht=>zKB hh hi ht hx q
structure ZAt (b1 b2:Bool) (z TI TO i1 i2 l1 l2:Addr) (i:Nat) (h:Heap):Prop where
 zp:IsZip h z TI TO .none
 ti:IsPair h TI (.ref i1) (.ref i2)
 to:∃ a b,IsPair h TO a b
 n1:SIt b1 h i1 l1 i
 n2:SIt b2 h i2 l2 i
theorem zOE {b1 b2:Bool}{z TI TO i1 i2 l1 l2:Addr}{i:Nat}{xs ys:Array Value}{x y:Value}{elts:List Expr}{kt:_}{tp:Pos}{Q:Value->Shared->Prop} (D:ZipApart z TI TO i1 i2 l1 l2) (st:ZAt b1 b2 z TI TO i1 i2 l1 l2 i s.heap) (t1:SSq b1 s.heap l1 xs) (t2:SSq b2 s.heap l2 ys) (hx:xs[i]? = some x) (hy:ys[i]? = some y)
  (q:∀ h',ZAt b1 b2 z TI TO i1 i2 l1 l2 (i+1) h'->IsPair h' s.heap.objs.size x y->(∀ c o,c≠z->c≠TO->c≠i1->c≠i2->s.heap.get? c=some o->h'.get? c=some o)->Q (.ref s.heap.objs.size) { s with heap:=h' }) :
  wpAny (model P w) A (pyNext (.ref z)) (fun r s1=>∃ u,r=some u/\wpAny (model P w) A (letOwnedTupleGo (.Tuple elts kt tp) (.ref z) u) (fun _ s2=>Q u s2) E s1) E s:=by
 obtain⟨hz,hTI,⟨a0,b0,hTO⟩,h1,h2⟩:=st
 have hT:s.TypeIs (.ref z) "zip" := ⟨_,hz,rfl⟩
 unfold pyNext
 refine wpAny_bind (wpAny_attempt (wpAny_callSpecial?_slot (name:=Str.ofString "__next__") hT PySem.F.slot_zip_next (wpAny_call_entry PySem.F.slot_zip_next hT PySem.F.entry_zip_next ?_ (PySem.F.args_zip_next_1 _))))
 show wpAny (model P w) _ (field (.ref z) 2 >>= _) _ _ _
 refine wpAny_bind (wpAny_field hz rfl (x:=.bool false) rfl ?_)
 show wpAny (model P w) _ (field (.ref z) 3 >>= _) _ _ _
 refine wpAny_bind (wpAny_field hz rfl (x:=.ref TI) rfl ?_)
 refine wpAny_bind (wpAny_seqItems hTI rfl ?_)
 show wpAny (model P w) _ (Builtin.SmallTypes.ownedTupleIsFree (.ref z) >>= _) _ _ _
 refine wpAny_bind ?_
 unfold Builtin.SmallTypes.ownedTupleIsFree
 refine wpAny_bind (wpAny_field hz rfl (x:=.none) rfl (wpAny_pure ?_))
 simp only[if_true]
 refine wpAny_bind (wpAny_rule ?_)
 refine wpAny_bind (wpAny_field hz rfl (x:=.ref TO) rfl ?_)
 refine wpAny_bind (wpAny_setField_rec hz (by simp) fun g1 z1 e1=>?_)
 replace z1:IsZip g1 z TI TO .ellipsis:=z1
 refine wpAny_bind ?_
 simp only[List.zipIdx_cons,List.zipIdx_nil,List.forIn_cons,List.forIn_nil]
 refine wpAny_bind (wpAny_bind (wpAny_onRaise ?_))
 show wpAny (model P w) _ (Builtin.SmallTypes.nextOf (.ref i1) >>= _) _ _ _
 refine wpAny_bind (zBx (h1.ex e1 D.i1z) (t1.ex e1 D.l1z) hx fun g2 n12 e2=>wpAny_pure ?_)
 have to2:IsPair g2 TO a0 b0:=e2.extBut _ _ D.TOi1 (e1.extBut _ _ D.TOz hTO)
 refine wpAny_bind (wpAny_seqItems to2 rfl ?_)
 refine wpAny_bind (zDg to2 fun g3 to3 e3=>?_)
 replace to3:IsPair g3 TO x b0:=to3
 refine wpAny_bind (wpAny_letGo (wpAny_pure ?_))
 refine wpAny_bind (wpAny_bind (wpAny_onRaise ?_))
 show wpAny (model P w) _ (Builtin.SmallTypes.nextOf (.ref i2) >>= _) _ _ _
 refine wpAny_bind (zBx (((h2.ex e1 D.i2z).ex e2 D.i12.symm).ex e3 D.TOi2.symm) (((t2.ex e1 D.l2z).ex e2 D.l2i1).ex e3 D.l2TO) hy fun g4 n24 e4=>wpAny_pure ?_)
 have to4:IsPair g4 TO x b0:=e4.extBut _ _ D.TOi2 to3
 refine wpAny_bind (wpAny_seqItems to4 rfl ?_)
 refine wpAny_bind (zDg to4 fun g5 to5 e5=>?_)
 replace to5:IsPair g5 TO x y:=to5
 refine wpAny_bind (wpAny_letGo (wpAny_pure (wpAny_pure ?_)))
 refine wpAny_bind (wpAny_seqItems to5 rfl ?_)
 refine wpAny_bind (wpAny_newTuple ?_)
 have sz:g5.objs.size=s.heap.objs.size:=by rw[e5.1,e4.1,e3.1,e2.1,e1.1]
 have z5:IsZip g5 z TI TO .ellipsis:=e5.extBut _ _ D.TOz.symm (e4.extBut _ _ D.i2z.symm (e3.extBut _ _ D.TOz.symm (e2.extBut _ _ D.i1z.symm z1)))
 have k5:∀ c o,c≠z->c≠TO->c≠i1->c≠i2->s.heap.get? c=some o->g5.get? c=some o:=fun c o c1 c2 c3 c4 e=>e5.extBut _ _ c2 (e4.extBut _ _ c4 (e3.extBut _ _ c2 (e2.extBut _ _ c3 (e1.extBut _ _ c1 e))))
 have m1:SIt b1 g5 i1 l1 (i+1):=((n12.ex e3 D.TOi1.symm).ex e4 D.i12).ex e5 D.TOi1.symm
 have m2:SIt b2 g5 i2 l2 (i+1):=n24.ex e5 D.TOi2.symm
 have zl:z < g5.objs.size:=Heap.lt_size z5
 show wpAny (model P w) _ (Builtin.SmallTypes.ownedTupleHandOut (.ref z) (.ref g5.objs.size) >>= _) _ _ _
 refine wpAny_bind ?_
 unfold Builtin.SmallTypes.ownedTupleHandOut
 have z6:IsZip (g5.push { cls:=.type "tuple",data:=.seq #[x,y] }) z TI TO .ellipsis:=Heap.get?_push_of_some _ z5
 refine wpAny_bind (wpAny_setField_rec z6 (by simp) fun g7 z7 e7=>?_)
 replace z7:IsZip g7 z TI TO (rawInt g5.objs.size):=z7
 refine wpAny_setField_rec z7 (by simp) fun g8 z8 e8=>?_
 replace z8:IsZip g8 z TI TO (rawInt g5.objs.size):=z8
 have up:∀ c o,c≠z->g5.get? c=some o->g8.get? c=some o:=fun c o c1 e=>e8.extBut _ _ c1 (e7.extBut _ _ c1 (Heap.get?_push_of_some _ e))
 have T8:IsPair g8 g5.objs.size x y:=e8.extBut _ _ (Nat.ne_of_gt zl) (e7.extBut _ _ (Nat.ne_of_gt zl) (Heap.get?_push_size _ rfl))
 refine wpAny_pure ⟨_,rfl,wpAny_pure ⟨_,rfl,?_⟩⟩
 refine wpAny_letOwnedTupleGo_zip z8 fun g9 z9 e9=>?_
 have up9:∀ c o,c≠z->g5.get? c=some o->g9.get? c=some o:=fun c o c1 e=>e9.extBut _ _ c1 (up c o c1 e)
 have T9:IsPair g9 g5.objs.size x y:=e9.extBut _ _ (Nat.ne_of_gt zl) T8
 rw[sz] at T9
 show Q (.ref g5.objs.size) _
 rw[sz]
 exact q g9 ⟨z9,up9 _ _ D.TIz (k5 _ _ D.TIz D.TITO D.TIi1 D.TIi2 hTI),⟨_,_,up9 _ _ D.TOz to5⟩,m1.at fun o e=>up9 _ o D.i1z e,m2.at fun o e=>up9 _ o D.i2z e⟩ T9 fun c o c1 c2 c3 c4 e=>up9 c o c1 (k5 c o c1 c2 c3 c4 e)
theorem zOe {b1 b2:Bool}{z TI TO i1 i2 l1 l2:Addr}{i:Nat}{xs ys:Array Value}{Q:Option Value->Shared->Prop} (hh:A.handled=none) (D:ZipApart z TI TO i1 i2 l1 l2) (st:ZAt b1 b2 z TI TO i1 i2 l1 l2 i s.heap) (t1:SSq b1 s.heap l1 xs) (t2:SSq b2 s.heap l2 ys) (hend:xs[i]? = none\/ys[i]? = none)
  (q:∀ h',(∀ c o,c≠z->c≠TO->c≠i1->c≠i2->s.heap.get? c=some o->h'.get? c=some o)->Q none { s with heap:=h' }):wpAny (model P w) A (pyNext (.ref z)) Q E s:=by
 obtain⟨hz,hTI,⟨a0,b0,hTO⟩,h1,h2⟩:=st
 have hT:s.TypeIs (.ref z) "zip" := ⟨_,hz,rfl⟩
 unfold pyNext
 have fin:∀ h' e,(∀ c o,c≠z->c≠TO->c≠i1->c≠i2->s.heap.get? c=some o->h'.get? c=some o)->(∃ o,h'.get? e=some o/\o.cls=.type "StopIteration")->wpAny (model P w) A (do if <- isInstance (.ref e) (.type "StopIteration") then return none else throw (.ref e)) Q E { s with heap:=h' }:=fun h' e hk ⟨o,ho,hc⟩=>by
  refine wpAny_bind (wpAny_isInstance (T := "StopIteration") (b:=true) ⟨o,ho,hc⟩ isSubtype_stop ?_)
  exact wpAny_pure (q _ hk)
 refine wpAny_bind (wpAny_attempt (wpAny_callSpecial?_slot (name:=Str.ofString "__next__") hT PySem.F.slot_zip_next (wpAny_call_entry PySem.F.slot_zip_next hT PySem.F.entry_zip_next ?_ (PySem.F.args_zip_next_1 _))))
 show wpAny (model P w) _ (field (.ref z) 2 >>= _) _ _ _
 refine wpAny_bind (wpAny_field hz rfl (x:=.bool false) rfl ?_)
 show wpAny (model P w) _ (field (.ref z) 3 >>= _) _ _ _
 refine wpAny_bind (wpAny_field hz rfl (x:=.ref TI) rfl ?_)
 refine wpAny_bind (wpAny_seqItems hTI rfl ?_)
 show wpAny (model P w) _ (Builtin.SmallTypes.ownedTupleIsFree (.ref z) >>= _) _ _ _
 refine wpAny_bind ?_
 unfold Builtin.SmallTypes.ownedTupleIsFree
 refine wpAny_bind (wpAny_field hz rfl (x:=.none) rfl (wpAny_pure ?_))
 simp only[if_true]
 refine wpAny_bind (wpAny_rule ?_)
 refine wpAny_bind (wpAny_field hz rfl (x:=.ref TO) rfl ?_)
 refine wpAny_bind (wpAny_setField_rec hz (by simp) fun g1 z1 e1=>?_)
 replace z1:IsZip g1 z TI TO .ellipsis:=z1
 refine wpAny_bind ?_
 simp only[List.zipIdx_cons,List.zipIdx_nil,List.forIn_cons,List.forIn_nil]
 refine wpAny_bind (wpAny_bind (wpAny_onRaise ?_))
 show wpAny (model P w) _ (Builtin.SmallTypes.nextOf (.ref i1) >>= _) _ _ _
 cases hx:xs[i]? with
 | none =>
  refine wpAny_bind (zFd hh (h1.ex e1 D.i1z) (t1.ex e1 D.l1z) hx fun g2 e e2 he=>?_)
  obtain⟨oe,hoe,hce⟩:=he
  have z2:IsZip g2 z TI TO .ellipsis:=e2 _ _ D.i1z.symm z1
  have hez:e≠z:=fun x=>by subst x;rw[z2] at hoe;cases hoe;simp at hce
  refine wpAny_setField_rec z2 (by simp) fun g3 _ e3=>fin g3 e (fun c o c1 _ c3 _ x=>e3.extBut _ _ c1 (e2 _ _ c3 (e1.extBut _ _ c1 x))) ⟨oe,e3.extBut _ _ hez hoe,hce⟩
 | some x =>
  have hy:ys[i]? = none:=by rcases hend with h | h;rw[hx] at h;cases h;exact h
  refine wpAny_bind (zBx (h1.ex e1 D.i1z) (t1.ex e1 D.l1z) hx fun g2 n12 e2=>wpAny_pure ?_)
  have to2:IsPair g2 TO a0 b0:=e2.extBut _ _ D.TOi1 (e1.extBut _ _ D.TOz hTO)
  refine wpAny_bind (wpAny_seqItems to2 rfl ?_)
  refine wpAny_bind (zDg to2 fun g3 to3 e3=>?_)
  refine wpAny_bind (wpAny_letGo (wpAny_pure ?_))
  refine wpAny_bind (wpAny_bind (wpAny_onRaise ?_))
  show wpAny (model P w) _ (Builtin.SmallTypes.nextOf (.ref i2) >>= _) _ _ _
  refine wpAny_bind (zFd hh (((h2.ex e1 D.i2z).ex e2 D.i12.symm).ex e3 D.TOi2.symm) (((t2.ex e1 D.l2z).ex e2 D.l2i1).ex e3 D.l2TO) hy fun g4 e e4 he=>?_)
  obtain⟨oe,hoe,hce⟩:=he
  have z4:IsZip g4 z TI TO .ellipsis:=e4 _ _ D.i2z.symm (e3.extBut _ _ D.TOz.symm (e2.extBut _ _ D.i1z.symm z1))
  have hez:e≠z:=fun x=>by subst x;rw[z4] at hoe;cases hoe;simp at hce
  refine wpAny_setField_rec z4 (by simp) fun g5 _ e5=>fin g5 e (fun c o c1 c2 c3 c4 x=>e5.extBut _ _ c1 (e4 _ _ c4 (e3.extBut _ _ c2 (e2.extBut _ _ c3 (e1.extBut _ _ c1 x))))) ⟨oe,e5.extBut _ _ hez hoe,hce⟩
abbrev zu1 (h:Heap) (a:Addr):Heap:=h.push { cls:=.type "list_iterator",data:=.fields #[.ref a,.int 0 0] }
abbrev zu2 (h:Heap) (a b:Addr):Heap:=(zu1 h a).push { cls:=.type "tuple_iterator",data:=.fields #[.ref b,.int 0 0] }
abbrev zu3 (h:Heap) (a b:Addr):Heap:=(zu2 h a b).push { cls:=.type "tuple",data:=.seq #[.ref h.objs.size,.ref (zu1 h a).objs.size] }
abbrev zu4 (h:Heap) (a b:Addr):Heap:=(zu3 h a b).push { cls:=.type "tuple",data:=.seq #[.none,.none] }
abbrev zu5 (h:Heap) (a b:Addr):Heap:=(zu4 h a b).push { cls:=.type "zip",data:=.fields #[.none,.bool false,.bool false,.ref (zu2 h a b).objs.size,.ref (zu3 h a b).objs.size] }
theorem zJe (l1 l2:Addr) (xs ys:Array Value) :
  Meets (Builtin.«zip.__new__» ⟨[.type "zip",.ref l1,.ref l2],[]⟩) (fun _ R s=>s.heap.IsList l1 xs/\s.heap.IsTuple l2 ys/\R (.ok (.ret (.ref (zu4 s.heap l1 l2).objs.size))) { s with heap:=zu5 s.heap l1 l2 }) :=
 .of_wp fun prog w A R s h=>by
  obtain⟨hp,g,d,tk,os⟩:=s;obtain⟨t1,t2,h⟩:=h
  have hsub:=sub_zip
  have T1:Heap.IsList (Shared.heap ⟨hp,g,d,tk,os⟩) l1 xs:=t1
  have T2:Heap.IsTuple (Shared.heap ⟨hp.push { cls:=.type "list_iterator",data:=.fields #[.ref l1,.int 0 0] },g,d,tk,os⟩) l2 ys:=Heap.IsTuple.push t2 _
  wp_walk using wpAny_pyIter_list T1,wpAny_pyIter_tuple T2
  exact⟨_,rfl,h⟩
theorem zLC {l1 l2:Addr}{xs ys:Array Value}{Q:Value->Shared->Prop} (h1:s.heap.IsList l1 xs) (h2:s.heap.IsTuple l2 ys)
  (q:∀ h',ZAt true false (s.heap.objs.size+4) (s.heap.objs.size+2) (s.heap.objs.size+3) s.heap.objs.size (s.heap.objs.size+1) l1 l2 0 h'->(∀ b o,s.heap.get? b=some o->h'.get? b=some o)->Q (.ref (s.heap.objs.size+4)) { s with heap:=h' }) :
  wpAny (model P w) A (call (.type "zip") [.ref l1,.ref l2]) Q E s:=by
 refine callType_new PySem.F.called_zip (by decide) (PySem.F.typeCall_zip_2 _ _) (PySem.F.newCall_zip_2 _ _) (fun obj=>PySem.F.args_object_init_3 obj _ _) PySem.F.entry_zip_new (zJe l1 l2 xs ys) ⟨h1,h2,?_⟩
 have n1:(zu1 s.heap l1).objs.size=s.heap.objs.size+1:=Heap.size_push ..
 have n2:(zu2 s.heap l1 l2).objs.size=s.heap.objs.size+2:=by rw[Heap.size_push,n1]
 have n3:(zu3 s.heap l1 l2).objs.size=s.heap.objs.size+3:=by rw[Heap.size_push,n2]
 have n4:(zu4 s.heap l1 l2).objs.size=s.heap.objs.size+4:=by rw[Heap.size_push,n3]
 have up:∀ {h:Heap}{o p b},h.get? b=some o->(h.push p).get? b=some o:=fun e=>Heap.get?_push_of_some _ e
 have g5:(zu5 s.heap l1 l2).get? (zu4 s.heap l1 l2).objs.size=some _:=Heap.get?_push_size _ rfl
 have g4:(zu5 s.heap l1 l2).get? (zu3 s.heap l1 l2).objs.size=some _:=up (Heap.get?_push_size _ rfl)
 have g3:(zu5 s.heap l1 l2).get? (zu2 s.heap l1 l2).objs.size=some _:=up (up (Heap.get?_push_size _ rfl))
 have g2:(zu5 s.heap l1 l2).get? (zu1 s.heap l1).objs.size=some _:=up (up (up (Heap.get?_push_size _ rfl)))
 have g1:(zu5 s.heap l1 l2).get? s.heap.objs.size=some _:=up (up (up (up (Heap.get?_push_size _ rfl))))
 show _/\_
 rw[n2,n3,n4] at g5
 rw[n1,n2] at g3
 rw[n3] at g4
 rw[n1] at g2
 rw[n4]
 exact⟨⟨_,g5,rfl⟩,q _ ⟨g5,g3,⟨_,_,g4⟩,⟨_,g1,rfl,rfl⟩,⟨_,g2,rfl,rfl⟩⟩ fun b o e=>up (up (up (up (up e))))⟩
end
def Sqb (b:Bool) (K:PySem.W.Frag) (H:Hp) (a:Addr) (xs:List V):Prop:=match b with | true=>SqL K H a xs | false=>SqT K H a xs
theorem Inv.sqb {b:Bool}{X:Cx}{pins:List (Addr×Obj)}{σ:St}{H:Hp}{s:Shared}{a:Addr}{xs:List V} (I:Inv X pins σ H s) (h:Sqb b X.K H a xs):∃ its:List Value,zh xs its/\SSq b s.heap a its.toArray:=match b,h with
 | true,h=>let ⟨its,r,p,_⟩:=I.list h;⟨its,r,p.isList⟩
 | false,h=>let ⟨its,r,p,_⟩:=I.tuple h;⟨its,r,p⟩
theorem Inv.sqb_inj {b:Bool}{X:Cx}{pins:List (Addr×Obj)}{σ:St}{H:Hp}{s:Shared}{a:Addr}{xs ys:List V} (I:Inv X pins σ H s) (h:Sqb b X.K H a xs) (h':Sqb b X.K H a ys):xs=ys:=match b,h,h' with
 | true,h,h'=>I.list_inj h h'
 | false,h,h'=>I.tuple_inj h h'
def Itz (K:PySem.W.Frag) (b1 b2:Bool) (a b:Addr):It :=
 ⟨fun i H=>∃ xs ys x y,Sqb b1 K H a xs/\Sqb b2 K H b ys/\xs[i]? = some x/\ys[i]? = some y,fun i H v H'=>∃ p x y,H p=none/\v=.ref p/\H'=upd H p (.tup [x,y])/\∀ xs ys,Sqb b1 K H a xs->Sqb b2 K H b ys->xs[i]? = some x/\ys[i]? = some y,fun i H=>∃ xs ys,Sqb b1 K H a xs/\Sqb b2 K H b ys/\(xs.length <= i\/ys.length <= i)⟩
theorem Inv.turnedL {X:Cx}{pins:List (Addr×Obj)}{σ:St}{H:Hp}{s:Shared}{h':Heap}{t':Nat}{ch:List Addr} (I:Inv X pins σ H s) (fp:∀ b∈ch,zBC X pins H b)
  (k:∀ b q,b∉ch->s.heap.get? b=some q->h'.get? b=some q) (ht:0 < t'):Inv X pins σ H { s with heap:=h',toks:=t' }:=by
 have nch:∀ {b:Addr}{u:HO},H b=some u->b∉ch:=fun q z=>by rw[(fp _ z).1] at q;cases q
 refine I.step (g':=s.gens) (d':=s.drawn) (ch:=ch) (fun b hb=>⟨(fp b hb).2.2.2.1,(fp b hb).2.1,(fp b hb).2.2.2.2.1,(fp b hb).2.2.2.2.2⟩) (fun b q _ _ hc g _=>k b q hc g) (fun b q _ _ hc g _=>⟨q.slots,k b q hc g⟩)
  (fun _ _ _ _ n=>n) (fun b q hc g=>⟨q,k b q hc g⟩) (fun _ _ g=>g) (fun _ _ _ g=>g) (fun b ps g=>⟨#[],by rw[g];simp⟩) (fun m hm=>?_) (fun b u g=>?_) I.bare ht
 ·obtain⟨q,es,ep,ho,r⟩:=hm
  exact⟨q,es,ep,k _ q (fun z=>(fp _ z).2.1 rfl) ho,r⟩
 ·refine (I.hok b u g).stay (fun c v hc q=>?_) (fun c q=>q) fun c xs q=>q
  rcases hc with z | z
  ·rw[z] at q ⊢;exact k _ _ (nch g) q
  ·exact k _ _ (nch z) q
theorem zGR {P:Program}{w:World}{K:PySem.W.Frag}{elts:List Expr}{kt:_}{tp:Pos}{b1 b2:Bool} (a b z TI TO i1 i2:Addr) (D:ZipApart z TI TO i1 i2 a b):zBM P w K (.Tuple elts kt tp) (Itz K b1 b2 a b) [z,TI,TO,i1,i2] z (fun i h=>ZAt b1 b2 z TI TO i1 i2 a b i h) where
 mem:=by simp
 obj:=fun i h st c hc=>by
  obtain⟨hz,hTI,⟨a0,b0,hTO⟩,h1,h2⟩:=st
  simp only[List.mem_cons,List.not_mem_nil,or_false] at hc
  rcases hc with rfl | rfl | rfl | rfl | rfl
  ·exact⟨_,hz,fun v z=>nomatch z⟩
  ·exact⟨_,hTI,fun v z=>nomatch z⟩
  ·exact⟨_,hTO,fun v z=>nomatch z⟩
  ·exact h1.ob
  ·exact h2.ob
 keep:=fun i h h' ⟨hz,hTI,⟨a0,b0,hTO⟩,h1,h2⟩ k=>⟨k z (by simp) _ hz,k TI (by simp) _ hTI,⟨a0,b0,k TO (by simp) _ hTO⟩,h1.at fun o g=>k i1 (by simp) o g,h2.at fun o g=>k i2 (by simp) o g⟩
 item:=by
  intro X hP hw hK hc i pins s σ H E I hf st hg
  subst hP hw hK
  obtain⟨xs,ys,x,y,hq1,hq2,hx,hy⟩:=hg
  obtain⟨itx,rx,px⟩:=I.sqb hq1
  obtain⟨ity,ry,py⟩:=I.sqb hq2
  obtain⟨u,hu,ru⟩:=rx.get hx
  obtain⟨v,hv,rv⟩:=ry.get hy
  refine zOE D st px py (x:=u) (y:=v) (by simpa using hu) (by simpa using hv) fun h' st' gT hk=>?_
  have lt:∀ c∈[z,TI,TO,i1,i2],c < s.heap.objs.size:=fun c hc=>by
   obtain⟨hz,hTI,⟨a0,b0,hTO⟩,h1,h2⟩:=st
   simp only[List.mem_cons,List.not_mem_nil,or_false] at hc
   rcases hc with rfl | rfl | rfl | rfl | rfl
   ·exact Heap.lt_size hz
   ·exact Heap.lt_size hTI
   ·exact Heap.lt_size hTO
   ·obtain⟨o,g,_⟩:=h1.ob;exact Heap.lt_size g
   ·obtain⟨o,g,_⟩:=h2.ob;exact Heap.lt_size g
  have I1:Inv X pins σ H { s with heap:=h',toks:=s.toks }:=I.turnedL (ch:=[z,TI,TO,i1,i2]) hf (fun c o hc g=>by
   simp only[List.mem_cons,List.not_mem_nil,or_false,not_or] at hc
   exact hk c o hc.1 hc.2.2.1 hc.2.2.2.1 hc.2.2.2.2 g) I.tk
  have hn:H s.heap.objs.size=none:=I.hok.fresh (Nat.le_refl _)
  have I2:Inv X pins σ (upd H s.heap.objs.size (.tup [x,y])) { s with heap:=h' }:=I1.track I.sz hn (Nat.ne_of_gt I.lt) (fun x c e=>by obtain⟨v,hv⟩:=I.cell x c e;exact Nat.ne_of_lt hv.lt) (fun p hp=>Nat.ne_of_lt (Heap.lt_size (I.pin p hp).1))
   ⟨show 2 <= sizeLine by decide,[u,v],.cons ru (.cons rv .nil),⟨_,gT,rfl,_,rfl⟩⟩
  refine⟨.ref s.heap.objs.size,_,I2,rfl,⟨_,x,y,hn,rfl,rfl,fun xs' ys' h1 h2=>by rw[I.sqb_inj h1 hq1,I.sqb_inj h2 hq2];exact⟨hx,hy⟩⟩,st',fun c hc=>?_⟩
  rw[zk (Nat.ne_of_lt (lt c hc))]
  exact (hf c hc).1
 done:=by
  intro X hP hw hK hc i pins s σ H E I hf st hg
  subst hP hw hK
  obtain⟨xs,ys,hq1,hq2,hx⟩:=hg
  obtain⟨itx,rx,px⟩:=I.sqb hq1
  obtain⟨ity,ry,py⟩:=I.sqb hq2
  have e1:=rx.length
  have e2:=ry.length
  exact zOe (I.ok.hd hc) D st px py (hx.imp (fun h=>by simp;omega) fun h=>by simp;omega) fun h' hk=>⟨rfl,I.turnedL (t':=s.toks) (ch:=[z,TI,TO,i1,i2]) hf (fun c o hc g=>by
   simp only[List.mem_cons,List.not_mem_nil,or_false,not_or] at hc
   exact hk c o hc.1 hc.2.2.1 hc.2.2.2.1 hc.2.2.2.2 g) I.tk⟩
 self:=fun _ _ _ _ _ st h=>wpAny_pyIter_zip st.zp h
def iZp (K:PySem.W.Frag) (ta:TA):TI:=fun σ H R=>ta σ H fun vs H1=>∃ a b xs ys,vs=[.ref a,.ref b]/\SqL K H1 a xs/\SqT K H1 b ys/\R (Itz K true false a b) H1
theorem zOS {X:Cx}{a b:Expr}{ta:TA}{p pos:Pos}{elts:List Expr}{kt:_}{tp:Pos} (hg:Gl X "zip") (hm:X.mg "zip" = none) (ha:PA X [a,b] ta) (hsa:jI a=true) (hsb:jI b=true):PI X (.Tuple elts kt tp) (.Call (.Name "zip" p) [a,b] [] pos) (iZp X.K ta):=by
 intro pins s σ H R I h
 refine Call_ (zAC I hg hm zKh (PyProof.Rows.callWith_type1 (thn (ha pos pins s σ H _ I h) fun us s1 ⟨vs,H1,I1,r1,q1⟩=>?_) (j3 hsa) (QC (by simp[hsb]))))
 obtain⟨a',b',xs,ys,e,hq,hq2,q⟩:=q1
 subst e
 obtain⟨u1,u2,rfl,e1,e2⟩:∃ u1 u2,us=[u1,u2]/\u1=.ref a'/\u2=.ref b':=by
  cases r1 with
  | cons c1 t1 =>
   cases t1 with
   | cons c2 t2=>cases t2;exact⟨_,_,rfl,c1,c2⟩
 subst e1 e2
 obtain⟨itx,rx,px,_⟩:=I1.list hq
 obtain⟨ity,ry,py,_⟩:=I1.tuple hq2
 have la:a' < s1.heap.objs.size:=by obtain⟨o,e,_⟩:=px.isList;exact Heap.lt_size e
 have lb:b' < s1.heap.objs.size:=py.lt
 refine zLC px.isList py fun h' st hk=>?_
 refine wpAny_pyIter_zip st.zp ⟨_,_,_,_,H1,rfl,I1.kept (t':=s1.toks) hk,zGR a' b' _ _ _ _ _ (PySem.W.ktu_apart _ _ _ la lb),st,fun c hc=>?_,q⟩
 have le:s1.heap.objs.size <= c:=by
  simp only[List.mem_cons,List.not_mem_nil,or_false] at hc
  rcases hc with rfl | rfl | rfl | rfl | rfl
  ·exact Nat.le_add_right _ _
  ·exact Nat.le_add_right _ _
  ·exact Nat.le_add_right _ _
  ·exact Nat.le_refl _
  ·exact Nat.le_add_right _ _
 exact I1.fpOk le (I1.hok.fresh le)
section
variable {Θ:Tab}
theorem zIe:∀ (ds es:List M.D) (i:Nat),(M.ZK ds es)[i]? = match ds[i]?,es[i]? with | some d,some e=>some (.tup [d,e]) | _,_=>none
 | [],_,i=>by simp[M.ZK]
 | d::ds,[],i=>by
  have e:([]:List M.D)[i]? = none:=rfl
  have z:M.ZK (d::ds) []=[]:=by simp[M.ZK]
  rw[z,e]
  cases (d::ds)[i]?<;>rfl
 | d::ds,e::es,0=>by simp[M.ZK]
 | d::ds,e::es,i+1=>by
  rw[M.ZK,List.getElem?_cons_succ,List.getElem?_cons_succ,List.getElem?_cons_succ]
  exact zIe ds es i
theorem zBz:∀ (ds es:List M.D),(M.ZK ds es).length=min ds.length es.length
 | [],_=>by simp[M.ZK]
 | _::_,[]=>by simp[M.ZK]
 | d::ds,e::es=>by rw[M.ZK,List.length_cons,zBz,List.length_cons,List.length_cons];omega
theorem zIP {K:PySem.W.Frag}{ρ:List Addr}{H:Hp}{a b:Addr}{b1 b2:Bool}{ds es:List M.D}{g:M.Gd} (key:∀ {ρ':List Addr}{S':M.S}{H':Hp},ρ <+: ρ'->Le H H'->zf K Θ ρ' S' H'->M.zW g S'=true->∃ zs ws,Sqb b1 K H' a zs/\Sqb b2 K H' b ws/\zM K ρ' H' ds zs/\zM K ρ' H' es ws):ItR K Θ ρ H (Itz K b1 b2 a b) (M.ZK ds es) g:=by
 refine⟨fun j ρ' S' H' p l rp g hj=>?_,fun j ρ' S' H' v H2 p l rp g hj y=>?_,fun ρ' S' H' p l rp g=>?_⟩
 ·rw[zBz] at hj
  obtain⟨zs,ws,q1,q2,r1,r2⟩:=key p l rp g
  obtain⟨v,e1,_⟩:=r1.get (i:=j) (d:=ds[j]) (by simp)
  obtain⟨v2,e2,_⟩:=r2.get (i:=j) (d:=es[j]) (by simp)
  exact⟨zs,ws,v,v2,q1,q2,e1,e2⟩
 ·rw[zBz] at hj
  obtain⟨zs,ws,q1,q2,r1,r2⟩:=key p l rp g
  obtain⟨v1,e1,rv1⟩:=r1.get (i:=j) (d:=ds[j]) (by simp)
  obtain⟨v2,e2,rv2⟩:=r2.get (i:=j) (d:=es[j]) (by simp)
  obtain⟨q,x,x2,hn,rfl,rfl,y2⟩:=y
  obtain⟨y3,y4⟩:=y2 zs ws q1 q2
  rw[e1] at y3;cases y3
  rw[e2] at y4;cases y4
  have f1:ds[j]? = some ds[j]:=List.getElem?_eq_getElem _
  have f2:es[j]? = some es[j]:=List.getElem?_eq_getElem _
  refine⟨.tup [ds[j],es[j]],by rw[zIe,f1,f2],?_,Le.new hn _,rp.aside hn _⟩
  exact⟨q,_,rfl,SqT.of jM,_,_,rfl,rv1.mono (List.prefix_refl _) (Le.new hn _),_,_,rfl,rv2.mono (List.prefix_refl _) (Le.new hn _),rfl⟩
 ·obtain⟨zs,ws,q1,q2,r1,r2⟩:=key p l rp g
  exact⟨zs,ws,q1,q2,by rw[zBz,<- r1.length,<- r2.length];omega⟩
def iZq (K:PySem.W.Frag) (ta:TA):TI:=fun σ H R=>ta σ H fun vs H1=>∃ a b xs ys,vs=[.ref a,.ref b]/\SqL K H1 a xs/\SqL K H1 b ys/\R (Itz K true true a b) H1
theorem zM5 {X:Cx}{a b:Expr}{ta:TA}{p pos:Pos}{elts:List Expr}{kt:_}{tp:Pos} (hg:Gl X "zip") (hm:X.mg "zip" = none) (ha:PA X [a,b] ta) (hsa:jI a=true) (hsb:jI b=true):PI X (.Tuple elts kt tp) (.Call (.Name "zip" p) [a,b] [] pos) (iZq X.K ta):=by
 intro pins s σ H R I h
 refine Call_ (zAC I hg hm zKh (PyProof.Rows.callWith_type1 (thn (ha pos pins s σ H _ I h) fun us s1 ⟨vs,H1,I1,r1,q1⟩=>?_) (j3 hsa) (QC (by simp[hsb]))))
 obtain⟨a',b',xs,ys,e,hq,hq2,q⟩:=q1
 subst e
 obtain⟨u1,u2,rfl,e1,e2⟩:∃ u1 u2,us=[u1,u2]/\u1=.ref a'/\u2=.ref b':=by
  cases r1 with
  | cons c1 t1 =>
   cases t1 with
   | cons c2 t2=>cases t2;exact⟨_,_,rfl,c1,c2⟩
 subst e1 e2
 obtain⟨itx,rx,px,_⟩:=I1.list hq
 obtain⟨ity,ry,py,_⟩:=I1.list hq2
 have la:a' < s1.heap.objs.size:=by obtain⟨o,e,_⟩:=px.isList;exact Heap.lt_size e
 have lb:b' < s1.heap.objs.size:=by obtain⟨o,e,_⟩:=py.isList;exact Heap.lt_size e
 refine call_zip_2 px.isList py.isList fun h' z1 z2 z3 z4 z5 _ hk=>?_
 refine wpAny_pyIter_zip z1 ⟨_,_,_,_,H1,rfl,I1.kept (t':=s1.toks) hk,zGR (b1:=true) (b2:=true) a' b' _ _ _ _ _ (PySem.W.ktu_apart _ _ _ la lb),⟨z1,z2,⟨_,_,z3⟩,z4,z5⟩,fun c hc=>?_,q⟩
 have le:s1.heap.objs.size <= c:=by
  simp only[List.mem_cons,List.not_mem_nil,or_false] at hc
  rcases hc with rfl | rfl | rfl | rfl | rfl
  ·exact Nat.le_add_right _ _
  ·exact Nat.le_add_right _ _
  ·exact Nat.le_add_right _ _
  ·exact Nat.le_refl _
  ·exact Nat.le_add_right _ _
 exact I1.fpOk le (I1.hok.fresh le)
theorem zCl {S:M.S}{p:Nat}{ds:List M.D} (e:M.jf S p=some ds):S[p]? = some (.lst ds):=by
 unfold M.jf at e
 split at e
 ·rename_i ds' e1;cases e;exact e1
 ·cases e
theorem zOU {X:Cx}{e e':Expr}{m m':M.EM}{p pos tp:Pos}{elts:List Expr}{kt:_} (hg:Gl X "zip") (hm:X.mg "zip" = none) (he:ME X Θ e m) (he':ME X Θ e' m') (hs:jI e=true:=by rfl) (hs':jI e'=true:=by rfl):MI X Θ (.Tuple elts kt tp) (.Call (.Name "zip" p) [e,e'] [] pos) (M.zFE m m') :=
 (PI.or (zOS hg hm (zAb he (zAb he' zEZ hs') hs) hs hs') (zM5 hg hm (zAb he (zAb he' zEZ hs') hs) hs hs')).imp fun σ H R ⟨ρ,σ',S,st,rp,h⟩=>by
  have h':zG X.K Θ _ ρ H (((M.zB m (M.zB m' M.zD) σ' S).bind M.zGn).bind fun p s=>if M.zW p.2 s then .ok p s else .no) R:=h
  clear h
  cases hm:M.zB m (M.zB m' M.zD) σ' S with
  | no=>rw[hm] at h';exact h'.elim
  | exc a s=>rw[hm] at h';exact h'.elim
  | ok ds S1 =>
   rw[hm] at h'
   have go:∀ {Q:List V->Hp->Prop},(∀ ρ1 H1 vs,ρ <+: ρ1->Le H H1->zf X.K Θ ρ1 S1 H1->zM X.K ρ1 H1 ds vs->Q vs H1)->RdA X.K Θ (M.zB m (M.zB m' M.zD)) σ H Q:=fun q=>⟨ρ,σ',S,st,rp,by rw[hm];exact q⟩
   have h2:zG X.K Θ _ ρ H ((M.zGn ds S1).bind fun p s=>if M.zW p.2 s then .ok p s else .no) R:=h'
   clear h'
   unfold M.zGn at h2
   split at h2
   ·rename_i i es
    refine .inl (go fun ρ1 H1 vs p l rp1 rv=>?_)
    obtain⟨v,ys,rfl,⟨a,rfl,e1⟩,v2,ys2,rfl,⟨b,ws,rfl,hq,rz⟩,rfl⟩:=rv
    cases q:S1[i]? with
    | none=>rw[q] at h2;exact h2.elim
    | some o =>
     rw[q] at h2
     cases o with
     | lst xs =>
      obtain⟨b',e2,zs,e3,r⟩:=rp1.obj i _ q
      rw[e1] at e2;cases e2
      have hg:M.zW [(i,M.O.lst xs)] S1=true:=by simp[M.zW,q]
      have h3:zG X.K Θ _ ρ H (if M.zW [(i,M.O.lst xs)] S1 then M.R.ok (M.ZK xs es,[(i,M.O.lst xs)]) S1 else .no) R:=h2
      rw[if_pos hg] at h3
      refine⟨a,b,zs,ws,rfl,SqL.of e3,hq,h3 ρ1 H1 _ p l rp1 (zIP fun {ρ' S' H'} p' l' rp' g'=>?_)⟩
      have g2:S'[i]? = some (M.O.lst xs):=by simpa [M.zW] using g'
      obtain⟨b2,f1,us,f2,r2⟩:=rp'.obj i _ g2
      rw[Q7 p' e1] at f1;cases f1
      exact⟨us,ws,SqL.of f2,l'.sqT hq,r2,rz.mono p' l'⟩
     | dct kvs=>exact h2.elim
     | fdc _=>exact h2.elim
     | ins c fs=>exact h2.elim
   ·rename_i i j
    refine .inr (go fun ρ1 H1 vs p l rp1 rv=>?_)
    obtain⟨v,ys,rfl,⟨a,rfl,e1⟩,v2,ys2,rfl,⟨b,rfl,e1'⟩,rfl⟩:=rv
    cases q:M.jf S1 i with
    | none=>rw[q] at h2;exact h2.elim
    | some xs =>
     cases q':M.jf S1 j with
     | none=>rw[q,q'] at h2;exact h2.elim
     | some ys =>
      rw[q,q'] at h2
      have w1:=zCl q
      have w2:=zCl q'
      obtain⟨b',e2,zs,e3,r⟩:=rp1.obj i _ w1
      rw[e1] at e2;cases e2
      obtain⟨b2',e2',zs',e3',r'⟩:=rp1.obj j _ w2
      rw[e1'] at e2';cases e2'
      have hg:M.zW [(i,M.O.lst xs),(j,M.O.lst ys)] S1=true:=by simp[M.zW,w1,w2]
      have h3:zG X.K Θ _ ρ H (if M.zW [(i,M.O.lst xs),(j,M.O.lst ys)] S1 then M.R.ok (M.ZK xs ys,[(i,M.O.lst xs),(j,M.O.lst ys)]) S1 else .no) R:=h2
      rw[if_pos hg] at h3
      refine⟨a,b,zs,zs',rfl,SqL.of e3,SqL.of e3',h3 ρ1 H1 _ p l rp1 (zIP fun {ρ' S' H'} p' l' rp' g'=>?_)⟩
      have g2:S'[i]? = some (M.O.lst xs)/\S'[j]? = some (M.O.lst ys):=by simpa [M.zW] using g'
      obtain⟨c1,f1,us,f2,r2⟩:=rp'.obj i _ g2.1
      rw[Q7 p' e1] at f1;cases f1
      obtain⟨c2,f1',us',f2',r2'⟩:=rp'.obj j _ g2.2
      rw[Q7 p' e1'] at f1';cases f1'
      exact⟨us,us',SqL.of f2,SqL.of f2',r2,r2'⟩
   ·exact h2.elim
theorem zLP {X:Cx}{e e':Expr}{m m':M.EM}{p pos tp:Pos}{elts:List Expr}{kt:_} (hg:Gl X "zip") (hm:X.mg "zip" = none) (he:WE X Θ e m) (he':WE X Θ e' m') (hs:jI e=true:=by rfl) (hs':jI e'=true:=by rfl):WI X Θ (.Tuple elts kt tp) (.Call (.Name "zip" p) [e,e'] [] pos) (M.zFE m m'):=by with_unfolding_all exact zOU (X:=X) (e:=e) (e':=e') (m:=m) (m':=m') (p:=p) (pos:=pos) (tp:=tp) (elts:=elts) (kt:=kt) hg hm he he' hs hs'
end
end L2
namespace L2
open PySem PySem.Spec PyProof.Rows
section
variable {X:Cx}{Θ:Tab}{K:PySem.W.Frag}
def zM1:V->List V->Hp->VK->Prop:=fun x vs H Q=>∃ a y o,x=.ref a/\Qk H a y o/\((vs=[y]/\Q (o.getD .non) H)\/∃ d,vs=[y,d]/\Q (o.getD d) H)
theorem zAV {k:Nat} (hr:jb k X.A):MtM X "dict.get" zM1:=by
 intro pins s σ H x vs v us Q I rx rv h
 obtain⟨a,y,o,rfl,g,q⟩:=h
 cases rx
 rcases q with ⟨rfl,q⟩ | ⟨d,rfl,q⟩
 ·obtain⟨u,rfl,ru⟩:=rv.one
  exact zPz (zDw hr) I g ru fun w' s' I' r'=>⟨_,H,I',r',q⟩
 ·obtain⟨u1,u2,rfl,e1,e2⟩:∃ u1 u2,us=[u1,u2]/\zj y u1/\zj d u2:=by
   cases rv with
   | cons c1 t1 =>
    cases t1 with
    | cons c2 t2=>cases t2;exact⟨_,_,rfl,c1,c2⟩
  exact zPP (zDw hr) I g e1 e2 fun w' s' I' r'=>⟨_,H,I',r',q⟩
theorem zBT:AdM K Θ M.ZA zM1:=by
 intro ρ H S x xs X Xs Q rp rx rxs h
 unfold M.ZA at h
 split at h
 ·rename_i p y
  obtain⟨Y,r,rfl,ry,rfl⟩:=rxs
  split at h
  ·rename_i kvs q
   obtain⟨a,rfl,ea⟩:=rx
   split at h
   ·rename_i hk
    obtain⟨ks,e1,r⟩:=QQ rp ea q
    obtain⟨k,h1,rfl⟩:=Qa hk ry
    have hv:=r.val h1
    refine⟨a,_,yk ks k,rfl,Qk.k e1,.inl ⟨rfl,?_⟩⟩
    cases q2:M.jT y kvs with
    | none=>rw[q2] at hv h;rw[show yk ks k=none from hv];exact zG.here h rp rfl
    | some d =>
     rw[q2] at hv h
     obtain⟨v,e2,rv⟩:=hv
     rw[e2]
     exact zG.here h rp rv
   ·exact h.elim
  ·exact h.elim
 ·rename_i p y d
  obtain⟨Y,r,rfl,ry,Z,r2,rfl,rz,rfl⟩:=rxs
  split at h
  ·rename_i kvs q
   obtain⟨a,rfl,ea⟩:=rx
   split at h
   ·rename_i hk
    obtain⟨ks,e1,r⟩:=QQ rp ea q
    obtain⟨k,h1,rfl⟩:=Qa hk ry
    have hv:=r.val h1
    refine⟨a,_,yk ks k,rfl,Qk.k e1,.inr ⟨Z,rfl,?_⟩⟩
    cases q2:M.jT y kvs with
    | none=>rw[q2] at hv h;rw[show yk ks k=none from hv];exact zG.here h rp rz
    | some d =>
     rw[q2] at hv h
     obtain⟨v,e2,rv⟩:=hv
     rw[e2]
     exact zG.here h rp rv
   ·exact h.elim
  ·exact h.elim
 ·exact h.elim
end
end L2
namespace L2
open PySem PySem.Spec PyProof.Rows
def yn (xs:List Str):Nat->List Str
 | 0=>[]
 | i+1=>match xs[i]? with
  | some x=>if x∈yn xs i then yn xs i else yn xs i++[x]
  | none=>yn xs i
theorem zIQ (xs:List Str):∀ i,(yn xs i).length <= i
 | 0=>Nat.le_refl _
 | i+1=>by
  have:=zIQ xs i
  unfold yn
  split
  ·split
   ·omega
   ·simp;omega
  ·omega
theorem zCi {xs:List Str}{i:Nat}{x:Str} (e:xs[i]? = some x):yn xs (i+1)=if x∈yn xs i then yn xs i else yn xs i++[x]:=by rw[yn,e]
abbrev zBK (P:Program) (w:World) (h:Heap) (a:Addr) (l:List Str):Prop:=h.SetOf (PySem.strKind P w) a (fun k=>decide (k∈l)) l.length
theorem zBK.at {P:Program}{w:World}{h h':Heap}{a:Addr}{l:List Str} (x:zBK P w h a l) (e:∀ o,h.get? a=some o->h'.get? a=some o):zBK P w h' a l:=by
 obtain⟨o,es,ep,t,ho,qF⟩:=x
 exact⟨o,es,ep,t,e _ ho,qF⟩
section
variable {P:Program}{w:World}{A:Around}{E:Value->Shared->Prop}{s:Shared}
theorem zMB {R:Result->Shared->Prop}{I:Addr}{fp wr:List Addr}{G:Array GenState->Array GenState->Prop}{xs:List Str}{Pv:Nat->Value->Prop}{St:Nat->Shared->Prop} (W:WalksS P w A.in1 I fp wr G xs.length Pv St) (D:Addr) (hD:D∉fp) (hv:∀ i v,Pv i v->∃ x t,xs[i]? = some x/\v=.str x t) (hb:xs.length+1 < scanBound) :
  ∀ (k i:Nat) (s:Shared),xs.length - i=k->i <= xs.length->St i s->zBK P w s.heap D (yn xs i)->(∀ s',Moved (D::wr) G s s'->zBK P w s'.heap D (yn xs xs.length)->R (.ok (.ret .none)) s') ->
   codeAny (model P w) A (.builtin "set.update.loop" ⟨[.ref D,.ref I],[]⟩) R s:=by
 have nw:D∉wr:=fun h=>hD (W.sub _ h)
 have sb:∀ b∈wr,b∈D::wr:=fun b hb=>List.mem_cons_of_mem _ hb
 intro k
 induction k with
 | zero =>
  intro i s hk hi st hS hR
  have e:i=xs.length:=by omega
  subst e
  refine codeAny_builtin PyProof.Rows.F.entry_set_update_loop ?_
  rw[Around.under_plainId PyProof.Rows.F.plain_set_update_loop _]
  show wpAny (model P w) A.in1 (pyNext (.ref I) >>= _) _ _ s
  refine wpAny_bind (W.done s _ _ st fun s' hm=>?_)
  show wpAny (model P w) A.in1 (ret Value.none) _ _ s'
  exact wpAny_pure (hR s' (hm.mono sb) (hS.at fun o ho=>hm.heap D _ nw ho))
 | succ k ih =>
  intro i s hk hi st hS hR
  have lt:i < xs.length:=by omega
  refine codeAny_builtin PyProof.Rows.F.entry_set_update_loop ?_
  rw[Around.under_plainId PyProof.Rows.F.plain_set_update_loop _]
  show wpAny (model P w) A.in1 (pyNext (.ref I) >>= _) _ _ s
  refine wpAny_bind (W.item i s _ _ lt st fun v s' hP st' hm=>?_)
  obtain⟨x,t,ex,rfl⟩:=hv i v hP
  have hS1:zBK P w s'.heap D (yn xs i):=hS.at fun o ho=>hm.heap D _ nw ho
  have hx:(PySem.strKind P w).is x (.str x t)=true:=by simp[PySem.strKind,Value.isStrOf]
  show wpAny (model P w) A.in1 (holding [Value.str x t] (setAdd D (.str x t)) >>= _) _ _ s'
  refine wpAny_bind (wpAny_holding ?_)
  unfold setAdd
  refine wpAny_holding ?_
  refine wpAny_bind ((PySem.strKind P w).pyHash (k:=x) hx ?_)
  have room:(yn xs i).length+1 < scanBound:=by have:=zIQ xs i;omega
  refine wpAny_setAddHashed_of (knd:=PySem.strKind P w) (s:={ s' with toks:=s'.toks+1 }) hx rfl hS1 room fun h' hs hS2=>?_
  have hS3:zBK P w h' D (yn xs (i+1)):=by
   refine SetOf_congr hS2 (fun k'=>?_) ?_
   ·rw[zCi ex]
    by_cases c:x∈yn xs i
    ·rw[if_pos c]
     by_cases d:k'=x
     ·subst d;simp[c]
     ·simp[d]
    ·rw[if_neg c];simp
   ·rw[zCi ex]
    by_cases c:x∈yn xs i
    ·rw[if_pos c,if_pos (decide_eq_true c)]
    ·rw[if_neg c,if_neg (by simp[c])];simp
  refine wpAny_pure ⟨plainId_quiet PyProof.Rows.F.plain_set_update_loop _,ih (i+1) _ (by omega) lt (W.frame _ s' _ _ st' (Nat.le_succ _) fun b hb o e=>?_) hS3 fun s2 hm2 hS4=>?_⟩
  ·rw[hs.2 b (fun h:b=D=>hD (by rw[<- h];exact hb))];exact e
  ·refine hR s2 (Moved.trans W.gtrans ((hm.mono sb).then_heap (Nat.le_succ _) fun b o hb e=>?_) hm2) hS4
   rw[hs.2 b (fun h:b=D=>hb (by rw[h];exact List.mem_cons_self))];exact e
set_option maxHeartbeats 4000000 in
theorem zKY {l:Addr}{its:List Value}{xs:List Str}{Q:Value->Shared->Prop} (hh:A.handled=none) (hl:s.heap.IsList l its.toArray) (hn:its.length=xs.length) (hi:∀ (i:Nat) (v:Value),its[i]? = some v->∃ x t,xs[i]? = some x/\v=.str x t) (hb:xs.length+1 < scanBound)
  (q:∀ (h':Heap) (tk:Nat),s.toks <= tk->zBK P w h' s.heap.objs.size (yn xs xs.length)->(∀ b o,s.heap.get? b=some o->h'.get? b=some o)->Q (.ref s.heap.objs.size) { s with heap:=h',toks:=tk }) :
  wpAny (model P w) A (call (.type "set") [.ref l]) Q E s:=by
 obtain⟨c,tl,hmro⟩:=PySem.F.called_set.mro
 have hmade:=PySem.F.called_set.made
 have hsub:=PySem.F.called_set.sub
 have h1:=PySem.F.called_set.notType
 have h2:=PySem.F.called_set.canCreate
 have hct:=PySem.F.typeCall_set_1 (.ref l)
 refine wpAny_call (codeAny_of_tree ?_)
 show wpAny (model P w) _ (callAny (.type "set") _) _ _ _
 refine wpAny_pure ⟨Code.quiet_builtin _ (by decide +kernel),codeAny_builtin PySem.F.entry_type_call ?_⟩
 rw[Around.under_plain (weight_type_call_type "set" [.ref l] []) rfl]
 repeat (any_goals (first | assumption | wp_step))
 refine codeAny_mono (code_set_new_1 (.ref l) (E:=E) (Q₁:=fun obj s1=>∃ b:Bool,obj=.ref s.heap.objs.size/\s1={ s with heap:=s.heap.push { cls:=.type "set",dict:=none,data:=.set #[] 0 (.fresh 0 0 b) } }) fun b=>⟨b,rfl,rfl⟩) fun r s1 hr=>?_
 cases r with
 | error e=>exact hr
 | ok fl =>
  cases fl with
  | ret obj =>
   obtain⟨b,rfl,rfl⟩:=hr
   have g0:(s.heap.push { cls:=.type "set",dict:=none,data:=.set #[] 0 (.fresh 0 0 b) }).get? s.heap.objs.size=some { cls:=.type "set",dict:=none,data:=.set #[] 0 (.fresh 0 0 b) }:=Heap.get?_push_size _ rfl
   have hT:Shared.TypeIs { s with heap:=s.heap.push { cls:=.type "set",dict:=none,data:=.set #[] 0 (.fresh 0 0 b) } } (.ref s.heap.objs.size) "set" := ⟨_,g0,rfl⟩
   have hli:=PySem.F.called_set.init.lookup
   have hbi:=PySem.F.called_set.init.bind (.ref s.heap.objs.size)
   repeat (any_goals (first | assumption | wp_step))
   refine codeAny_mono (codeAny_call_builtin (R:=wants (fun r s2=>r=.none/\∃ h' tk,s.toks <= tk/\s2={ s with heap:=h',toks:=tk }/\zBK P w h' s.heap.objs.size (yn xs xs.length)/\∀ b o,s.heap.get? b=some o->h'.get? b=some o) E) PySem.F.called_set.init.plain PySem.F.entry_set_init (check_set_init_1 hT ?_)) fun r2 s2 hr2=>?_
   ·have lt:l < s.heap.objs.size:=by obtain⟨o,e,_⟩:=hl;exact Heap.lt_size e
    obtain⟨⟨oc,od,oda,osl⟩,gl,cl,nl,dl⟩:=hl
    simp only at cl dl
    subst cl;subst dl
    have gl1:(s.heap.push { cls:=.type "set",dict:=none,data:=.set #[] 0 (.fresh 0 0 b) }).get? l=some { cls:=.type "list",dict:=od,data:=.seq its.toArray nl,slots:=osl }:=Heap.get?_push_of_some _ gl
    have k1:=PySem.F.sub_list_set
    have k2:=PySem.F.sub_list_frozenset
    have k3:(Value.type "list" == Value.type "dict")=false:=by decide
    have hl1:(s.heap.push { cls:=.type "set",dict:=none,data:=.set #[] 0 (.fresh 0 0 b) }).IsList l its.toArray:=⟨_,gl1,rfl,nl,rfl⟩
    unfold Builtin.«set.__init__» noKeywords Builtin.Frozenset.updateFrom
    generalize hPI:pyIter=PI
    wp_walk
    subst hPI
    refine wpAny_pyIter_list hl1 ?_
    refine wpAny_bind (wpAny_runValue ?_)
    have n1:(s.heap.push { cls:=.type "set",dict:=none,data:=.set #[] 0 (.fresh 0 0 b) }).objs.size=s.heap.objs.size+1:=Heap.size_push ..
    have ni:l≠(s.heap.push { cls:=.type "set",dict:=none,data:=.set #[] 0 (.fresh 0 0 b) }).objs.size:=by rw[n1];exact Nat.ne_of_lt (Nat.lt_succ_of_lt lt)
    have nf:s.heap.objs.size∉[(s.heap.push { cls:=.type "set",dict:=none,data:=.set #[] 0 (.fresh 0 0 b) }).objs.size,l]:=by
     rw[n1]
     intro hm
     rcases List.mem_cons.mp hm with e | hm
     ·exact absurd e (Nat.ne_of_lt (Nat.lt_succ_self _))
     ·exact absurd (List.mem_singleton.mp hm) (Nat.ne_of_gt lt)
    have W:=(Walks.list (prog:=P) (w:=w) (A:=A.in1.in1.in1) hh _ l ni its.toArray).toS
    have ez:its.toArray.size=xs.length:=by rw[List.size_toArray];exact hn
    rw[ez] at W
    refine zMB W s.heap.objs.size nf (fun i v hv=>hi i v (by simpa using hv)) hb xs.length 0 _ (by omega) (Nat.zero_le _) ⟨⟨_,Heap.get?_push_size _ rfl,rfl,rfl⟩,hl1.push _⟩ ?_ fun s' hm hS'=>?_
    ·exact SetOf_congr ((setObjOf_fresh (knd:=PySem.strKind P w) b).setOf (Heap.get?_push_of_some _ g0) (by unfold scanBound;omega)) (fun _=>rfl) rfl
    ·rw[Moved.eq_with hm]
     refine wpAny_pure ?_
     show wpAny (model P w) _ (ret Value.none) _ _ _
     refine wpAny_pure ⟨rfl,_,_,hm.toks,rfl,hS',fun c o e=>hm.heap c o (fun hmem=>?_) (Heap.get?_push_of_some _ (Heap.get?_push_of_some _ e))⟩
     have hc:=Heap.lt_size e
     rcases List.mem_cons.mp hmem with e' | hmem
     ·exact Nat.ne_of_lt hc e'
     ·have e':=List.mem_singleton.mp hmem
      rw[n1] at e'
      exact Nat.ne_of_lt (Nat.lt_succ_of_lt hc) e'
   ·cases r2 with
    | error e=>exact hr2
    | ok f2 =>
     cases f2 with
     | ret r =>
      obtain⟨rfl,h',tk,ht,rfl,hS',hk⟩:=hr2
      repeat (any_goals (first | assumption | wp_step))
      exact q _ _ ht hS' hk
     | _=>exact hr2.elim
  | _=>exact hr.elim
theorem zMm {a:Addr}{l:List Str}{Q:Value->Shared->Prop} (h:zBK P w s.heap a l) (q:Q (.int l.length (s.toks+1)) { s with toks:=s.toks+1+1 }):wpAny (model P w) A (call (.builtin "len") [.ref a]) Q E s:=by
 obtain⟨o,es,ep,t,ho,hex,hd,_,_,hb,hf,hn⟩:=h
 have hb':es.size < 4096:=hb
 refine call_len_set ho hex hd hf (by omega) ?_
 rw[hn]
 exact q
end
def zIh (K:PySem.W.Frag):List V->Hp->VK->Prop:=fun vs H Q=>∃ a xs,vs=[.ref a]/\SqL K H a (xs.map V.str)/\xs.length <= 1000/\Q (.int (yn xs xs.length).length) H
section
variable {X:Cx}{Θ:Tab}{xl xz:Str}{pl pz pos pos2:Pos}{a:Expr}{t:TA}{k:Nat}
theorem zEc:∀ {xs:List Str}{us:List Value},zh (xs.map V.str) us->∀ (i:Nat) (v:Value),us[i]? = some v->∃ x t,xs[i]? = some x/\v=.str x t
 | [],_,.nil,i,v,e=>by simp at e
 | x::xs,_,.cons h r,0,v,e=>by
  obtain⟨t,ht⟩:=(show ∃ t,_=Value.str x t from h)
  cases e
  exact⟨x,t,rfl,ht⟩
 | x::xs,_,.cons h r,i+1,v,e=>zEc r i v e
theorem zLK (hr:jb k X.A) (hgl:Gl X xl) (hml:X.mg xl=none) (hvl:bootBuiltins xl=some (.builtin "len")) (hgz:Gl X xz) (hmz:X.mg xz=none) (hvz:bootBuiltins xz=some (.type "set")) (ha:PA X [a] t)
  (hnl:xl ≠ "__name__" := by decide) (hdl:(xl == ("__debug__" : Str))=false:=by decide) (hnz:xz ≠ "__name__" := by decide) (hdz:(xz == ("__debug__" : Str))=false:=by decide) (hsa:jI a=true:=by rfl) :
  PE X (.Call (.Name xl pl) [.Call (.Name xz pz) [a] [] pos2] [] pos) (tCB (zIh X.K) t):=by
 intro pins s σ H Q I h
 refine wpAny_Call_Name_kw (zAC I hgl hml hvl ?_ hnl hdl)
 refine PyProof.Rows.callWith_builtin1 ?_ (j3 rfl) rfl
 rw[j3 (e:=.Call (.Name xz pz) [a] [] pos2) (es:=[]) rfl]
 refine Calls.spliced_cons ?_
 refine wpAny_Call_Name_kw (zAC I hgz hmz hvz ?_ hnz hdz)
 refine PyProof.Rows.callWith_type1 (thn (ha pos2 pins s σ H _ I h) fun us s1 ⟨vs,H1,I1,r1,q1⟩=>?_) (j3 hsa) (QC (by simp))
 obtain⟨p,xs,rfl,hp,hz,q⟩:=q1
 obtain⟨u1,rfl,e1⟩:∃ u1,us=[u1]/\u1=.ref p:=by
  cases r1 with
  | cons c1 t1=>cases t1;exact⟨_,rfl,c1⟩
 subst e1
 obtain⟨its,rv,pl,_⟩:=I1.list hp
 have ez:=rv.length
 rw[List.length_map] at ez
 refine zKY (A:=X.A) (xs:=xs) hr.hd pl.isList (by omega) (zEc rv) (by unfold scanBound;omega) fun h' tk ht hS hk=>?_
 refine Calls.spliced_nil ?_
 have I2:Inv X pins σ H1 { s1 with heap:=h',toks:=tk }:=I1.kept (t':=tk) hk (Nat.lt_of_lt_of_le I1.tk ht)
 refine zMm (s:={ s1 with heap:=h',toks:=tk }) hS ⟨.int (yn xs xs.length).length,H1,?_,⟨_,rfl⟩,q⟩
 exact I2.kept (t':=tk+1+1) fun b o e=>e
theorem zNx (ts:List M.T):∀ i,i <= ts.length->yn (ts.map ofT) i=(M.yj [] (ts.take i)).map ofT:=by
 have app:∀ (xs acc:List M.T) (x:M.T),M.yj acc (xs++[x])=if (M.yj acc xs).contains x then M.yj acc xs else M.yj acc xs++[x]:=by
  intro xs
  induction xs with
  | nil=>intro acc x;rfl
  | cons y xs ih=>intro acc x;exact ih _ x
 intro i
 induction i with
 | zero=>intro _;rfl
 | succ i ih =>
  intro hi
  have e:ts[i]? = some ts[i]:=List.getElem?_eq_getElem (by omega)
  have e2:(ts.map ofT)[i]? = some (ofT ts[i]):=by rw[List.getElem?_map,e];rfl
  rw[zCi e2,ih (by omega),List.take_succ,e]
  show _=(M.yj [] (ts.take i++[ts[i]])).map ofT
  rw[app]
  have hm:(ofT ts[i]∈(M.yj [] (ts.take i)).map ofT)↔(M.yj [] (ts.take i)).contains ts[i]=true:=by
   rw[List.mem_map]
   constructor
   ·rintro ⟨y,hy,ey⟩
    rw[<- zC0 ey]
    simpa using hy
   ·intro h
    exact⟨ts[i],by simpa using h,rfl⟩
  by_cases c:(M.yj [] (ts.take i)).contains ts[i]=true
  ·rw[if_pos (hm.mpr c),if_pos c]
  ·rw[if_neg (fun z=>c (hm.mp z)),if_neg c,List.map_append];rfl
theorem zKb {K:PySem.W.Frag}:AdN K Θ M.ZQ (zIh K):=by
 intro ρ H S xs Xs Q rp rxs h
 unfold M.ZQ at h
 split at h
 ·rename_i p
  obtain⟨Y,r,rfl,ry,rfl⟩:=rxs
  cases e:M.jf S p with
  | none=>rw[e] at h;exact h.elim
  | some ds =>
   rw[e] at h
   dsimp only at h
   obtain⟨a,zs,rfl,ha,hx,rz⟩:=Zu rp ry (zCl e)
   cases et:M.qG ds with
   | none=>rw[et] at h;exact h.elim
   | some ts =>
    rw[et] at h
    obtain⟨rfl,_⟩:=J7 et rz
    have h2:zG K Θ (zQ K) ρ H (if ts.length <= 1000 then M.R.ok (M.D.int (M.yj [] ts).length) S else .no) Q:=h
    by_cases hl:ts.length <= 1000
    ·rw[if_pos hl] at h2
     refine⟨a,ts.map ofT,rfl,SqL.of hx,by rw[List.length_map];exact hl,?_⟩
     have em:=zNx ts ts.length (Nat.le_refl _)
     rw[List.take_length] at em
     rw[List.length_map,em,List.length_map]
     exact zG.here (b:=V.int (M.yj [] ts).length) h2 rp rfl
    ·rw[if_neg hl] at h2;exact h2.elim
 ·exact h.elim
theorem zKI {m:M.AM} (hr:jb k X.A) (hgl:Gl X xl) (hml:X.mg xl=none) (hvl:bootBuiltins xl=some (.builtin "len")) (hgz:Gl X xz) (hmz:X.mg xz=none) (hvz:bootBuiltins xz=some (.type "set")) (ha:MA X Θ [a] m)
  (hnl:xl ≠ "__name__" := by decide) (hdl:(xl == ("__debug__" : Str))=false:=by decide) (hnz:xz ≠ "__name__" := by decide) (hdz:(xz == ("__debug__" : Str))=false:=by decide) (hsa:jI a=true:=by rfl) :
  ME X Θ (.Call (.Name xl pl) [.Call (.Name xz pz) [a] [] pos2] [] pos) (M.zI M.ZQ m) :=
 (zLK hr hgl hml hvl hgz hmz hvz ha hnl hdl hnz hdz hsa).imp fun σ H Q ⟨ρ,σ',S,st,rp,h⟩=>⟨ρ,σ',S,st,rp,zG.bind h fun ρ1 H1 xs Xs S1 p1 l1 rp1 rx h1=>zKb ρ1 H1 S1 xs Xs Q rp1 rx h1⟩
theorem zDM {m:M.AM} (hr:jb k X.A) (hgl:Gl X xl) (hml:X.mg xl=none) (hvl:bootBuiltins xl=some (.builtin "len")) (hgz:Gl X xz) (hmz:X.mg xz=none) (hvz:bootBuiltins xz=some (.type "set")) (ha:WA X Θ [a] m)
  (hnl:xl ≠ "__name__" := by decide) (hdl:(xl == ("__debug__" : Str))=false:=by decide) (hnz:xz ≠ "__name__" := by decide) (hdz:(xz == ("__debug__" : Str))=false:=by decide) (hsa:jI a=true:=by rfl) :
  WE X Θ (.Call (.Name xl pl) [.Call (.Name xz pz) [a] [] pos2] [] pos) (M.zI M.ZQ m):=by with_unfolding_all exact zKI (m:=m) hr hgl hml hvl hgz hmz hvz ha hnl hdl hnz hdz hsa
theorem zKS:bootBuiltins "set" = some (.type "set"):=by decide +kernel
end
end L2
namespace L2
open PySem PySem.Spec PyProof.Rows
theorem Inv.swapD {X:Cx}{pins:List (Addr×Obj)}{σ:St}{H:Hp}{s:Shared}{a:Addr}{u0 u1:HO} (I:Inv X pins σ H s) (e:H a=some u0) (n1:∀ xs,u0≠.tup xs) (n2:∀ o u,X.H₀ a≠some (.frz o u)) (n3:∀ ps,u0≠.tbl ps) (n4:∀ x,u0≠.own x)
  (new:jr X.prog X.w (upd H a u1) s.heap a u1):Inv X pins σ (upd H a u1) s:=by
 have nn:∀ {b},H b=none->b≠a:=fun z q=>by rw[q,e] at z;cases z
 refine⟨I.ok,I.os,I.bare,⟨I.base.keep,I.base.slot,fun b ob q n hx=>?_,I.base.there,fun b xs q=>?_,fun b ob u q=>?_,fun b ps q=>?_⟩,I.loc,I.cell,?_,fun x c q=>?_,fun p hp'=>?_,fun b u q=>?_,I.len,I.tk⟩
 ·have z:=I.base.free b ob q n hx
  rw[zk (nn z)];exact z
 ·have z:=I.base.tups b xs q
  rw[zk (fun w=>by rw[w,e] at z;cases z;exact n1 xs rfl)];exact z
 ·have z:=I.base.frzs b ob u q
  rw[zk (fun w=>by rw[w] at q;exact n2 _ _ q)];exact z
 ·obtain⟨mo,z⟩:=I.base.tbls b ps q
  exact⟨mo,by rw[zk (fun w=>by rw[w,e] at z;cases z;exact n3 _ rfl)];exact z⟩
 ·rw[zk (nn I.free)];exact I.free
 ·rw[zk (nn (I.freeC x c q))];exact I.freeC x c q
 ·obtain⟨e1,e2,e3,e4,e5⟩:=I.pin p hp'
  exact⟨e1,by rw[zk (nn e2)];exact e2,e3,e4,e5⟩
 ·by_cases hb:b=a
  ·subst hb;rw[jM] at q;cases q;exact new
  ·rw[zk hb] at q
   exact (I.hok b u q).stay (fun _ _ _ q=>q) (fun c z=>by rw[zk (fun w=>by rw[w,e] at z;cases z;exact n4 _ rfl)];exact z) fun c xs z=>by rw[zk (fun w=>by rw[w,e] at z;cases z;exact n1 _ rfl)];exact z
theorem Inv.dict_base {X:Cx}{pins:List (Addr×Obj)}{σ:St}{H:Hp}{s:Shared}{a:Addr}{kvs:List (Key×V)} (I:Inv X pins σ H s) (e:H a=some (.dK kvs)):∀ o u,X.H₀ a≠some (.frz o u):=fun o u q=>by
 have z:=I.base.frzs a o u q
 rw[e] at z;cases z
theorem Inv.freeze {X:Cx}{pins:List (Addr×Obj)}{σ:St}{H:Hp}{s:Shared}{a:Addr}{kvs:List (Key×V)} (I:Inv X pins σ H s) (e:H a=some (.dK kvs)) :
  ∃ o vs ep,KV kvs vs/\(∀ h:Heap,h.get? a=some o->h.DictAt (jF X.prog X.w) a vs ep)/\s.heap.get? a=some o/\Inv X pins σ (upd H a (.frz o (.dK kvs))) s:=by
 have x:=I.hok a _ e
 obtain⟨z,hd,vs,rel,o,es,ep,ho,r⟩:=id x
 refine⟨o,vs,ep,rel,fun h q=>⟨o,es,q,r⟩,ho,I.swapD e (fun _ q=>nomatch q) (I.dict_base e) (fun _ q=>nomatch q) (fun _ q=>nomatch q) ⟨ho,z,hd,vs,rel,o,es,ep,ho,r⟩⟩
theorem Inv.thaw {X:Cx}{pins:List (Addr×Obj)}{σ:St}{H:Hp}{s:Shared}{a:Addr}{o:Obj}{kvs:List (Key×V)} (I:Inv X pins σ H s) (e:H a=some (.frz o (.dK kvs))) (n2:∀ o u,X.H₀ a≠some (.frz o u)):Inv X pins σ (upd H a (.dK kvs)) s:=by
 obtain⟨_,z,hd,vs,rel,dd⟩:=(show jr X.prog X.w H s.heap a (.frz o (.dK kvs)) from I.hok a _ e)
 exact I.swapD e (fun _ q=>nomatch q) n2 (fun _ q=>nomatch q) (fun _ q=>nomatch q) ⟨z,hd,vs,rel,dd⟩
def Iti (a:Addr) (o:Obj) (kvs:List (Key×V)):It :=
 ⟨fun i H=>H a=some (.frz o (.dK kvs))/\∃ p,kvs[i]? = some p,fun i H v H'=>∃ q p,H q=none/\v=.ref q/\kvs[i]? = some p/\H'=upd H q (.tup [kV p.1,p.2]),fun i H=>H a=some (.frz o (.dK kvs))/\kvs.length <= i⟩
theorem zMz {P:Program}{w:World}{k:Key}{u:Value} (h:(jF P w).is k u=true):zj (kV k) u:=by
 rcases qd h with ⟨i,t,rfl,rfl⟩ | ⟨x,t,rfl,rfl⟩
 ·exact⟨t,rfl⟩
 ·exact⟨t,rfl⟩
theorem zJ7 {kvs:List (Key×V)}{vs:List (Key×Value)}{i:Nat}{p:Key×V} (h:KV kvs vs) (e:kvs[i]? = some p):∃ q,vs[i]? = some q/\p.1=q.1/\zj p.2 q.2:=by
 unfold KV at h
 induction h generalizing i with
 | nil=>simp at e
 | cons h t ih =>
  cases i with
  | zero=>cases e;exact⟨_,rfl,h⟩
  | succ n =>
   obtain⟨q,hq,r⟩:=ih (by simpa using e)
   exact⟨q,by simpa using hq,r⟩
theorem zGr:entryFor table "dict_itemiterator.__iter__" = some Builtin.«dict_keyiterator.__iter__» :=
 entryFor_alias (id' := "dict_keyiterator.__iter__") (by kernel_rfl) (by first | rfl | decide +kernel | (unfold String.splitOn;simp +decide [String.splitOnAux])) (by decide +kernel) (by kernel_rfl)
theorem zIz {P:Program}{w:World}{K:PySem.W.Frag}{elts:List Expr}{kt:_}{tp:Pos} (a it:Addr) (o:Obj) (kvs:List (Key×V)) (vs:List (Key×Value)) (ep:Nat) (rel:KV kvs vs) (hd:∀ h:Heap,h.get? a=some o->h.DictAt (jF P w) a vs ep) :
  zBM P w K (.Tuple elts kt tp) (Iti a o kvs) [it] it (fun i h=>∃ x y,IsItemIter h it a i vs.length ep x y) where
 mem:=by simp
 obj:=fun i h ⟨x,y,hi⟩ b hb=>by
  have z:b=it:=by simpa using hb
  subst z
  exact⟨_,hi,fun v z=>nomatch z⟩
 keep:=fun i h h' ⟨x,y,hi⟩ k=>⟨x,y,k it (by simp) _ hi⟩
 item:=by
  intro X hP hw hK hc i pins s σ H E I hf ⟨x,y,hi⟩ hg
  subst hP hw hK
  obtain⟨ha,p,hp⟩:=hg
  obtain⟨go,_⟩:=(show jr X.prog X.w H s.heap a (.frz o (.dK kvs)) from I.hok a _ ha)
  obtain⟨q,hq,r1,r2⟩:=zJ7 rel hp
  obtain⟨k,v⟩:=q
  obtain⟨f0,f1,f2,f3,f4,f5⟩:=hf it (by simp)
  have hit:it≠s.heap.objs.size:=Nat.ne_of_lt (Heap.lt_size hi)
  refine wpAny_pyNext_items_item hi (hd _ go) hq fun key h' hk ho hT hsz kk=>?_
  refine⟨_,rfl,wpAny_letOwnedTupleGo_items ho fun h2 hi2 hs2=>?_⟩
  have hn:H s.heap.objs.size=none:=I.hok.fresh (Nat.le_refl _)
  have I1:Inv X pins σ H { s with heap:=h2,toks:=s.toks }:=I.turnedL (ch:=[it]) hf (fun b ob hb g=>by
   have nb:b≠it:=fun z=>hb (by simp[z])
   exact hs2.extBut _ _ nb (kk b ob nb g)) I.tk
  have I2:Inv X pins σ (upd H s.heap.objs.size (.tup [kV p.1,p.2])) { s with heap:=h2 }:=I1.track I.sz hn (Nat.ne_of_gt I.lt) (fun x c e=>by obtain⟨v,hv⟩:=I.cell x c e;exact Nat.ne_of_lt hv.lt) (fun p hp=>Nat.ne_of_lt (Heap.lt_size (I.pin p hp).1))
   ⟨show 2 <= sizeLine by decide,[key,v],.cons (by rw[r1];exact zMz hk) (.cons r2 .nil),⟨_,hs2.extBut _ _ (Ne.symm hit) hT,rfl,_,rfl⟩⟩
  refine⟨.ref s.heap.objs.size,_,I2,rfl,⟨_,p,hn,rfl,hp,rfl⟩,⟨_,_,hi2⟩,fun c hc=>?_⟩
  have z:c=it:=by simpa using hc
  subst z
  rw[zk hit]
  exact f0
 done:=by
  intro X hP hw hK hc i pins s σ H E I hf ⟨x,y,hi⟩ hg
  subst hP hw hK
  obtain⟨ha,hl⟩:=hg
  obtain⟨go,_⟩:=(show jr X.prog X.w H s.heap a (.frz o (.dK kvs)) from I.hok a _ ha)
  have el:kvs.length=vs.length:=Paired.length rel
  exact wpAny_pyNext_items_end (I.ok.hd hc) hi (hd _ go) (List.getElem?_eq_none (by omega)) fun h' hk=>⟨rfl,I.turnedL (t':=s.toks) (ch:=[it]) hf (fun b ob hb g=>hk b ob (fun z=>hb (by simp[z])) g) I.tk⟩
 self:=fun A i s Q E ⟨x,y,hi⟩ h=>by
  have hT:s.TypeIs (.ref it) "dict_itemiterator" := ⟨_,hi,rfl⟩
  refine wpAny_pyIter_slot hT PySem.F.slot_dict_itemiterator_iter (wpAny_call_entry PySem.F.slot_dict_itemiterator_iter hT zGr ?_ (PySem.F.args_dict_itemiterator_iter_1 _))
  show wpAny (model P w) _ (ret (.ref it)) _ _ s
  exact wpAny_pure ⟨_,rfl,"dict_itemiterator",_,hT,PySem.F.slot_dict_itemiterator_next.lookup,h⟩
def zRW (H₀:Hp) (te:TE):TI:=fun σ H R=>te σ H fun v H1=>∃ a kvs,v=.ref a/\H1 a=some (.dK kvs)/\∀ o,(∀ o u,H₀ a≠some (.frz o u))->R (Iti a o kvs) (upd H1 a (.frz o (.dK kvs)))
theorem zMS {X:Cx}{e:Expr}{te:TE}{apos cpos:Pos}{elts:List Expr}{kt:_}{tp:Pos} (he:PE X e te)
  (hbase:attributeBase e "items" X.env (eval e X.env)=eval e X.env:=by rfl) (hline:(apos.endLine == cpos.line)=true:=by rfl):PI X (.Tuple elts kt tp) (.Call (.Attribute e "items" apos) [] [] cpos) (zRW X.H₀ te):=by
 intro pins s σ H R I h
 refine wpAny_Call_method0_late hbase hline (thn (he pins s σ H _ I h) fun v s1 ⟨x,H1,I1,r1,q1⟩=>?_)
 obtain⟨a,kvs,rfl,ha,q⟩:=q1
 have ty:tyV X.K "dict" (.ref a) H1:=Or.inr (Or.inr (Or.inl ⟨rfl,Or.inl ⟨kvs,ha⟩⟩))
 obtain⟨t1,t2⟩:=zGz (T := "dict") I1 r1 ty
 obtain rfl:v=Value.ref a:=r1
 have x:=I1.hok a _ ha
 obtain⟨z,hd,vs,rel,dd⟩:=id x
 refine⟨"dict","dict.items",PySem.F.plainAttrs_dict,PySem.F.slot_dict_items,PySem.F.type_dict_items,t1,t2,Calls.callWith_builtin rfl (PySem.evalArgs_none ?_)⟩
 refine call_meetsIn PySem.F.slot_dict_items dd.typeIs PySem.F.entry_dict_items (PySem.F.args_dict_items_1 _) (meets_dict_items (jF X.prog X.w) a hd) ⟨⟨vs,dd⟩,?_⟩
 obtain⟨o,vs',ep,rel',hD,go,I2⟩:=I1.freeze ha
 have up:∀ {h:Heap}{o p b},h.get? b=some o->(h.push p).get? b=some o:=fun e=>Heap.get?_push_of_some _ e
 refine wpAny_pyIter_items ⟨_,Heap.get?_push_size _ rfl,rfl,rfl⟩ (hD _ (up go)) ?_
 have n1:(s1.heap.push { cls:=.type "dict_items",data:=.fields #[.ref a] }).objs.size=s1.heap.objs.size+1:=Heap.size_push ..
 refine⟨s1.heap.objs.size+1,[s1.heap.objs.size+1],_,_,upd H1 a (.frz o (.dK kvs)),by rw[<- n1],I2.kept (t':=s1.toks) (fun b ob e=>up (up e)),zIz a _ o kvs vs' ep rel' hD,⟨Value.none,Value.none,?_⟩,fun b hb=>?_,q o (I1.dict_base ha)⟩
 ·have g:=Heap.get?_push_size (h:=s1.heap.push { cls:=.type "dict_items",data:=.fields #[.ref a] }) (o:={ cls:=.type "dict_itemiterator",data:=.fields #[.none,.bool false,.ref a,.int 0 0,.int vs'.length 0,.int ep 0,.none,.none] }) rfl
  rw[n1] at g
  exact g
 ·have zb:b=s1.heap.objs.size+1:=by simpa using hb
  subst zb
  exact I2.fpOk (Nat.le_succ _) (I2.hok.fresh (Nat.le_succ _))
section
variable {K:PySem.W.Frag}{Θ:Tab}{ρ:List Addr}{H H':Hp}
mutual
theorem zQ.move (hT:∀ b xs,SqT K H b xs->SqT K H' b xs) (hR:∀ b xs,zAK K H b xs->zAK K H' b xs):∀ {d:M.D}{v:V},zQ K ρ H d v->zQ K ρ H' d v
 | .non,_,h=>h
 | .bl _,_,h=>h
 | .int _,_,h=>h
 | .str _,_,h=>h
 | .ty _,_,h=>h
 | .ref _,_,h=>h
 | .tup _,_,⟨a,xs,e,h,r⟩=>⟨a,xs,e,hT a xs h,zM.move hT hR r⟩
 | .ro _,_,⟨a,xs,e,h,r⟩=>⟨a,xs,e,hR a xs h,zM.move hT hR r⟩
theorem zM.move (hT:∀ b xs,SqT K H b xs->SqT K H' b xs) (hR:∀ b xs,zAK K H b xs->zAK K H' b xs):∀ {ds:List M.D}{xs:List V},zM K ρ H ds xs->zM K ρ H' ds xs
 | [],_,h=>h
 | _::_,_,⟨y,ys,e,h,r⟩=>⟨y,ys,e,zQ.move hT hR h,zM.move hT hR r⟩
end
section
variable {a:Addr}{o:Obj}{ks:List (Key×V)} (ha:H a=some (.frz o (.dK ks)))
include ha
theorem zJz:∀ b xs,SqT K H b xs->SqT K (upd H a (.dK ks)) b xs:=fun b xs h=>by
 rcases h with (h | ⟨o',h⟩) | h
 ·exact .inl (.inl (by rw[zk (fun z=>by rw[z,ha] at h;cases h)];exact h))
 ·exact .inl (.inr ⟨o',by rw[zk (fun z=>by rw[z,ha] at h;cases h)];exact h⟩)
 ·exact .inr h
theorem zKP:∀ b xs,zAK K H b xs->zAK K (upd H a (.dK ks)) b xs:=fun b xs h=>by
 rcases h with ⟨o',h⟩ | h
 ·exact .inl ⟨o',by rw[zk (fun z=>by rw[z,ha] at h;cases h)];exact h⟩
 ·exact .inr h
theorem zQ.thaw {d:M.D}{v:V} (r:zQ K ρ H d v):zQ K ρ (upd H a (.dK ks)) d v:=zQ.move (zJz ha) (zKP ha) r
theorem jV.thaw {σ':M.St}{σ:St} (h:jV K ρ H σ' σ):jV K ρ (upd H a (.dK ks)) σ' σ :=
 ⟨h.len,fun i d e=>let ⟨v,h1,h2⟩:=h.get i d e;⟨v,h1,zQ.thaw ha h2⟩⟩
theorem ObR.thaw {b:Addr}{ob:M.O} (nb:b≠a) (h:ObR K Θ ρ H b ob):ObR K Θ ρ (upd H a (.dK ks)) b ob:=by
 have e:=zk (H:=H) (o:=.dK ks) nb
 cases ob with
 | lst ds=>obtain⟨xs,e1,r⟩:=h;exact⟨xs,e.trans e1,zM.move (zJz ha) (zKP ha) r⟩
 | dct kvs=>obtain⟨ks,e1,r⟩:=h;exact⟨ks,e.trans e1,Paired.mapP r fun p q z=>⟨z.1,zQ.thaw ha z.2⟩⟩
 | fdc kvs=>obtain⟨o',ks',e1,r⟩:=h;exact⟨o',ks',e.trans e1,Paired.mapP r fun p q z=>⟨z.1,zQ.thaw ha z.2⟩⟩
 | ins c fs =>
  obtain⟨C,dx,gs,N,e1,e2,r⟩:=h
  exact⟨C,dx,gs,N,e.trans e1,e2,r.len,r.nd,r.within,fun i f d h1 h2=>let ⟨v,k1,k2⟩:=r.get i f d h1 h2;⟨v,k1,zQ.thaw ha k2⟩⟩
theorem zf.thaw {S:M.S}{i:Nat}{kvs:List (M.D×M.D)} (h:zf K Θ ρ S H) (hi:ρ[i]? = some a) (r:Paired (fun (p:M.D×M.D) (q:Key×V)=>yr p.1 q.1/\zQ K ρ (upd H a (.dK ks)) p.2 q.2) kvs ks):zf K Θ ρ (S.set i (.dct kvs)) (upd H a (.dK ks)):=by
 refine⟨by simp[h.len],h.nd,fun j ob q=>?_⟩
 by_cases hj:i=j
 ·subst hj
  by_cases hl:i < S.length
  ·rw[List.getElem?_set_self hl] at q
   cases q
   exact⟨a,hi,ks,jM,r⟩
  ·rw[List.getElem?_eq_none (by rw[List.length_set];omega)] at q
   cases q
 ·rw[List.getElem?_set_ne hj] at q
  obtain⟨b,h1,h2⟩:=h.obj j ob q
  exact⟨b,h1,ObR.thaw ha (fun z=>hj (zB4 h.nd hi (z ▸ h1))) h2⟩
end
theorem zFm {α β:Type}{R:α->β->Prop}{xs:List α}{ys:List β}{i:Nat}{y:β} (h:Paired R xs ys) (e:ys[i]? = some y):∃ x,xs[i]? = some x/\R x y:=by
 induction h generalizing i with
 | nil=>simp at e
 | cons h t ih =>
  cases i with
  | zero=>cases e;exact⟨_,rfl,h⟩
  | succ n =>
   obtain⟨q,hq,r⟩:=ih (by simpa using e)
   exact⟨q,by simpa using hq,r⟩
theorem yr.rel {d:M.D}{k:Key} (h:yr d k):zQ K ρ H d (kV k):=by
 cases d with
 | int i=>cases h;rfl
 | str x=>obtain⟨rfl,ok⟩:=h;exact⟨rfl,ok⟩
 | _=>exact h.elim
theorem zKx {a:Addr}{o:Obj}{kvs:List (M.D×M.D)}{ks:List (Key×V)} (ha:H a=some (.frz o (.dK ks))) (r:Paired (fun (p:M.D×M.D) (q:Key×V)=>yr p.1 q.1/\zQ K ρ H p.2 q.2) kvs ks):ItR K Θ ρ H (Iti a o ks) (kvs.map fun p=>.tup [p.1,p.2]) []:=by
 have el:kvs.length=ks.length:=Paired.length r
 refine⟨fun j ρ' S' H' p l rp g hj=>?_,fun j ρ' S' H' v H2 p l rp g hj y=>?_,fun ρ' S' H' p l rp g=>?_⟩
 ·rw[List.length_map,el] at hj
  exact⟨l.frzs _ _ _ ha,ks[j],by simp[hj]⟩
 ·obtain⟨q,kv,hn,rfl,hk,rfl⟩:=y
  obtain⟨x,hx,r1,r2⟩:=zFm r hk
  have ln:=Le.new hn (.tup [kV kv.1,kv.2])
  exact⟨.tup [x.1,x.2],by rw[List.getElem?_map,hx];rfl,⟨q,_,rfl,SqT.of jM,_,_,rfl,yr.rel r1,_,_,rfl,r2.mono p (l.trans ln),rfl⟩,ln,rp.aside hn _⟩
 ·exact⟨l.frzs _ _ _ ha,by rw[List.length_map,el];exact Nat.le_refl _⟩
end
def zMv (H₀:Hp) (D:Jc):Jc where
 nx:=fun σ H=>∃ a o ks,H a=some (.frz o (.dK ks))/\(∀ o u,H₀ a≠some (.frz o u))/\D.nx σ (upd H a (.dK ks))
 rt:=fun v H=>∃ a o ks,H a=some (.frz o (.dK ks))/\(∀ o u,H₀ a≠some (.frz o u))/\D.rt v (upd H a (.dK ks))
 bk:=fun σ H=>∃ a o ks,H a=some (.frz o (.dK ks))/\(∀ o u,H₀ a≠some (.frz o u))/\D.bk σ (upd H a (.dK ks))
 ct:=fun σ H=>∃ a o ks,H a=some (.frz o (.dK ks))/\(∀ o u,H₀ a≠some (.frz o u))/\D.ct σ (upd H a (.dK ks))
theorem zEs {X:Cx}{st:Stmt}{t:TS} (h:PS X st t):PS X st fun D σ H=>t (zMv X.H₀ D) σ H:=fun pins s σ H D I q=>thn (h pins s σ H _ I q) fun f s1 z=>by
 cases f with
 | next=>obtain⟨σ1,H1,I1,a,o,ks,e,n,d⟩:=z;exact⟨σ1,_,I1.thaw e n,d⟩
 | brk=>obtain⟨σ1,H1,I1,a,o,ks,e,n,d⟩:=z;exact⟨σ1,_,I1.thaw e n,d⟩
 | cont=>obtain⟨σ1,H1,I1,a,o,ks,e,n,d⟩:=z;exact⟨σ1,_,I1.thaw e n,d⟩
 | ret u=>obtain⟨v,σ1,H1,I1,r,a,o,ks,e,n,d⟩:=z;exact⟨v,σ1,_,I1.thaw e n,r,d⟩
section
variable {X:Cx}{Θ:Tab}
theorem zCg {K:PySem.W.Frag}{H₀:Hp}{ρ:List Addr}{H:Hp}{i:Nat}{a:Addr}{o:Obj}{kvs:List (M.D×M.D)}{ks:List (Key×V)}{r:M.RS}{D:Jc} (hi:ρ[i]? = some a) (ha:H a=some (.dK ks)) (n:∀ o u,H₀ a≠some (.frz o u)) (pr:Paired (fun (p:M.D×M.D) (q:Key×V)=>yr p.1 q.1/\zQ K ρ H p.2 q.2) kvs ks)
  (h:zn K Θ ρ H (M.thaw i kvs r) D):zn K Θ ρ (upd H a (.frz o (.dK ks))) r (zMv H₀ D):=by
 have key:∀ {ρ':List Addr}{H':Hp}{S:M.S},ρ <+: ρ'->Le (upd H a (.frz o (.dK ks))) H'->zf K Θ ρ' S H'->H' a=some (.frz o (.dK ks))/\Le H (upd H' a (.dK ks))/\zf K Θ ρ' (S.set i (.dct kvs)) (upd H' a (.dK ks)):=fun {ρ' H' S} p l rp=>by
  have e:=l.frzs a o (.dK ks) jM
  have le:Le H (upd H' a (.dK ks)):=by
   refine⟨fun b xs q=>?_,fun b ob u q=>?_⟩
   ·have nb:b≠a:=fun z=>by rw[z,ha] at q;cases q
    rw[zk nb]
    exact l.tups b xs (by rw[zk nb];exact q)
   ·have nb:b≠a:=fun z=>by rw[z,ha] at q;cases q
    rw[zk nb]
    exact l.frzs b ob u (by rw[zk nb];exact q)
  exact⟨e,le,rp.thaw e (Q7 p hi) (Paired.mapP pr fun x y z=>⟨z.1,z.2.mono p le⟩)⟩
 cases r with
 | nx σ1 S1 =>
  intro ρ' H' σ p l rp st
  obtain⟨e,le,rp'⟩:=key p l rp
  have h':zn K Θ ρ H (if S1[i]? = some (.fdc kvs) then .nx σ1 (S1.set i (.dct kvs)) else .no) D:=h
  split at h'
  ·exact⟨a,o,ks,e,n,h' ρ' _ σ p le rp' (jV.thaw e st)⟩
  ·exact h'.elim
 | bk σ1 S1 =>
  intro ρ' H' σ p l rp st
  obtain⟨e,le,rp'⟩:=key p l rp
  have h':zn K Θ ρ H (if S1[i]? = some (.fdc kvs) then .bk σ1 (S1.set i (.dct kvs)) else .no) D:=h
  split at h'
  ·exact⟨a,o,ks,e,n,h' ρ' _ σ p le rp' (jV.thaw e st)⟩
  ·exact h'.elim
 | ct σ1 S1 =>
  intro ρ' H' σ p l rp st
  obtain⟨e,le,rp'⟩:=key p l rp
  have h':zn K Θ ρ H (if S1[i]? = some (.fdc kvs) then .ct σ1 (S1.set i (.dct kvs)) else .no) D:=h
  split at h'
  ·exact⟨a,o,ks,e,n,h' ρ' _ σ p le rp' (jV.thaw e st)⟩
  ·exact h'.elim
 | rt d S1 =>
  intro ρ' H' v p l rp rv
  obtain⟨e,le,rp'⟩:=key p l rp
  have h':zn K Θ ρ H (if S1[i]? = some (.fdc kvs) then .rt d (S1.set i (.dct kvs)) else .no) D:=h
  split at h'
  ·exact⟨a,o,ks,e,n,h' ρ' _ v p le rp' (zQ.thaw e rv)⟩
  ·exact h'.elim
 | exc e σ1 S1=>exact h
 | no=>exact h
theorem zID {e:Expr}{m:M.EM}{elts:List Expr}{kt:_}{tp pos apos cpos:Pos}{body:List Stmt}{g:M.GM}{js:List Nat}{mb:M.SM} (hp:PassesOwn (model X.prog X.w) X.A X.env X.xe) (hc:X.calm=true) (he:ME X Θ e m) (hg:MG X Θ js (.Tuple elts kt tp) g) (hb:MSs X Θ body mb)
  (hbase:attributeBase e "items" X.env (eval e X.env)=eval e X.env:=by rfl) (hline:(apos.endLine == cpos.line)=true:=by rfl) (hs:∀ x,foldedSetIterable (.Call (.Attribute e "items" apos) [] [] cpos) X.env x=pure x:=by intro _;rfl):MS X Θ (.For (.Tuple elts kt tp) (.Call (.Attribute e "items" apos) [] [] cpos) body [] pos) (M.yg m g mb) :=
 (zEs (zGW hp hc (zMS he hbase hline) hg hb hs)).imp fun D σ H ⟨ρ,σ',S,st,rp,h⟩=>by
  refine⟨ρ,σ',S,st,rp,zn.stm h fun ρ1 H1 d v S1 p1 l1 rp1 rv h1=>?_⟩
  cases d with
  | ref i =>
   obtain⟨a,rfl,hi⟩:=rv
   have h1':zn X.K Θ ρ1 H1 (match S1[i]? with
    | some (.dct kvs)=>M.thaw i kvs (M.qK [] (M.jm g mb) (kvs.map fun p=>.tup [p.1,p.2]) σ' (S1.set i (.fdc kvs)))
    | _=>.no) D:=h1
   cases q:S1[i]? with
   | none=>rw[q] at h1';exact h1'.elim
   | some ob =>
    rw[q] at h1'
    cases ob with
    | dct kvs =>
     obtain⟨b,hb',ks,ha,pr⟩:=rp1.obj i _ q
     rw[hi] at hb';cases hb'
     refine⟨a,ks,rfl,ha,fun o n=>?_⟩
     have le:Le H1 (upd H1 a (.frz o (.dK ks))):=Le.put (Qm ha) _
     exact zJj (zKx jM (Paired.mapP pr fun x y z=>⟨z.1,z.2.mono (List.prefix_refl _) le⟩)) (st.mono p1 (l1.trans le)) (rp1.put (o:=.fdc kvs) hi (Qm ha) ⟨o,ks,jM,Paired.mapP pr fun x y z=>⟨z.1,z.2.mono (List.prefix_refl _) le⟩⟩) rfl (zCg hi ha n pr h1')
    | lst xs=>exact h1'.elim
    | fdc _=>exact h1'.elim
    | ins c fs=>exact h1'.elim
  | _=>exact h1.elim
theorem zCE {e:Expr}{m:M.EM}{elts:List Expr}{kt:_}{tp pos apos cpos:Pos}{body:List Stmt}{g:M.GM}{js:List Nat}{mb:M.SM} (hp:PassesOwn (model X.prog X.w) X.A X.env X.xe) (hc:X.calm=true) (he:WE X Θ e m) (hg:WG X Θ js (.Tuple elts kt tp) g) (hb:WSs X Θ body mb)
  (hbase:attributeBase e "items" X.env (eval e X.env)=eval e X.env:=by rfl) (hline:(apos.endLine == cpos.line)=true:=by rfl) (hs:∀ x,foldedSetIterable (.Call (.Attribute e "items" apos) [] [] cpos) X.env x=pure x:=by intro _;rfl):WS X Θ (.For (.Tuple elts kt tp) (.Call (.Attribute e "items" apos) [] [] cpos) body [] pos) (M.yg m g mb):=by with_unfolding_all exact zID (e:=e) (m:=m) (elts:=elts) (kt:=kt) (tp:=tp) (pos:=pos) (apos:=apos) (cpos:=cpos) (body:=body) (g:=g) (js:=js) (mb:=mb) hp hc he hg hb hbase hline hs
end
end L2
namespace L2
open PySem PySem.Spec PyProof.Rows
theorem zD8:∀ {us:List Value}{ys:List Str},StrsAre us ys->zh (ys.map V.str) us
 | _,_,.nil=>.nil
 | _,_,.cons x t r=>.cons ⟨t,rfl⟩ (zD8 r)
theorem zPZ (a:M.T):¬ a < a:=fun h=>List.lt_irrefl a h
theorem zFY {a b c:M.T} (h1:¬ b < a) (h2:¬ c < b):¬ c < a:=by
 rw[List.not_lt] at h1 h2 ⊢
 exact List.le_trans h1 h2
theorem zMi {a b:M.T} (h1:¬ b < a) (h2:¬ a < b):a=b:=by
 rw[List.not_lt] at h1 h2
 exact List.le_antisymm h1 h2
theorem zDn (x:M.T):∀ ts:List M.T,(M.qp.insT' x ts).Perm (x::ts)
 | []=>.refl _
 | y::r=>by
  unfold M.qp.insT'
  split
  ·exact ((zDn x r).cons y).trans (.swap x y r)
  ·exact .refl _
theorem zCL:∀ ts:List M.T,(M.qp ts).Perm ts
 | []=>.refl _
 | x::r=>(zDn x _).trans ((zCL r).cons x)
theorem zGf (x:M.T):∀ ts:List M.T,ts.Pairwise (fun a b=>¬ b < a)->(M.qp.insT' x ts).Pairwise (fun a b=>¬ b < a)
 | [],_=>by unfold M.qp.insT';simp
 | y::r,h=>by
  rw[List.pairwise_cons] at h
  unfold M.qp.insT'
  split
  ·rename_i hy
   rw[List.pairwise_cons]
   refine⟨fun b hb=>?_,zGf x r h.2⟩
   rcases List.mem_cons.mp ((zDn x r).mem_iff.mp hb) with rfl | hb
   ·exact fun z=>zPZ _ (List.lt_trans z hy)
   ·exact h.1 b hb
  ·rename_i hy
   rw[List.pairwise_cons]
   refine⟨fun b hb=>?_,List.pairwise_cons.mpr h⟩
   rcases List.mem_cons.mp hb with rfl | hb
   ·exact hy
   ·exact zFY hy (h.1 b hb)
theorem zFq:∀ ts:List M.T,(M.qp ts).Pairwise (fun a b=>¬ b < a)
 | []=>.nil
 | x::r=>zGf x _ (zFq r)
theorem zDK:∀ (p:Str) (l:List Str),risingS p l=true->(p::l).Pairwise (fun a b=>¬ b.cps.toList < a.cps.toList)
 | p,[],_=>by simp
 | p,x::r,h=>by
  unfold risingS at h
  rw[Bool.and_eq_true,Bool.not_eq_true',ltCps_eq,decide_eq_false_iff_not] at h
  have ih:=zDK x r h.2
  rw[List.pairwise_cons]
  refine⟨fun b hb=>?_,ih⟩
  rcases List.mem_cons.mp hb with rfl | hb
  ·exact h.1
  ·exact zFY h.1 ((List.pairwise_cons.mp ih).1 b hb)
theorem zJg {l:List Str} (h:sortedS l=true):l.Pairwise (fun a b=>¬ b.cps.toList < a.cps.toList):=by
 cases l with
 | nil=>exact .nil
 | cons x r=>exact zDK x r h
theorem zJr {ts:List M.T}{ys:List Str} (hp:ys.Perm (ts.map ofT)) (hs:sortedS ys=true):ys=(M.qp ts).map ofT:=by
 refine List.Perm.eq_of_pairwise (le:=fun a b=>¬ b.cps.toList < a.cps.toList) (fun a b _ hb h1 h2=>?_) (zJg hs) ?_ (hp.trans ((zCL ts).map ofT).symm)
 ·have e:=zMi h1 h2
  cases a with
  | mk ca=>cases b with
   | mk cb=>exact congrArg Str.mk (Array.toList_inj.mp e)
 ·rw[List.pairwise_map]
  refine (zFq ts).imp fun {a b} h=>?_
  rw[Zk,Zk]
  exact h
end L2
namespace L2
open PySem PySem.Spec PyProof.Rows
def Itk (a:Addr) (o:Obj) (kvs:List (Key×V)):It :=
 ⟨fun i H=>H a=some (.frz o (.dK kvs))/\∃ p,kvs[i]? = some p,fun i H v H'=>H'=H/\∃ p,kvs[i]? = some p/\v=kV p.1,fun i H=>H a=some (.frz o (.dK kvs))/\kvs.length <= i⟩
theorem zLD {P:Program}{w:World}{K:PySem.W.Frag}{tg:Expr} (a it:Addr) (o:Obj) (kvs:List (Key×V)) (vs:List (Key×Value)) (ep:Nat) (rel:KV kvs vs) (hd:∀ h:Heap,h.get? a=some o->h.DictAt (jF P w) a vs ep) :
  zBM P w K tg (Itk a o kvs) [it] it (fun i h=>h.IsKeyIter it a i vs.length ep) where
 mem:=by simp
 obj:=fun i h st b hb=>by
  have z:b=it:=by simpa using hb
  subst z
  obtain⟨o,e,c,d⟩:=st
  exact⟨o,e,fun v z=>by rw[d] at z;cases z⟩
 keep:=fun i h h' st k=>st.at fun o e=>k it (by simp) o e
 item:=by
  intro X hP hw hK hc i pins s σ H E I hf st hg
  subst hP hw hK
  obtain⟨ha,p,hp⟩:=hg
  obtain⟨go,_⟩:=(show jr X.prog X.w H s.heap a (.frz o (.dK kvs)) from I.hok a _ ha)
  obtain⟨q,hq,r1,r2⟩:=zJ7 rel hp
  obtain⟨k,v⟩:=q
  obtain⟨f0,f1,f2,f3,f4,f5⟩:=hf it (by simp)
  refine wpAny_pyNext_dict_item st (hd _ go) hq fun key h' hk st' sb=>?_
  have I1:Inv X pins σ H { s with heap:=h' }:=I.turned (t':=s.toks) (fun b o hb e=>sb.extBut b o hb e) f0 f1 f3 f4 f5
  obtain⟨o',e,c,d⟩:=id st'
  exact⟨key,rfl,zCw (s:={ s with heap:=h' }) e c d (by decide) ⟨kV p.1,H,I1,by rw[r1];exact zMz hk,⟨rfl,p,hp,rfl⟩,st',fun b hb=>(hf b hb).1⟩⟩
 done:=by
  intro X hP hw hK hc i pins s σ H E I hf st hg
  subst hP hw hK
  obtain⟨ha,hl⟩:=hg
  obtain⟨go,_⟩:=(show jr X.prog X.w H s.heap a (.frz o (.dK kvs)) from I.hok a _ ha)
  obtain⟨f0,f1,f2,f3,f4,f5⟩:=hf it (by simp)
  have el:kvs.length=vs.length:=Paired.length rel
  exact wpAny_pyNext_dict_end (I.ok.hd hc) st (hd _ go) (List.getElem?_eq_none (by omega)) fun h' eb=>⟨rfl,I.turned (t':=s.toks) (fun b o hb e=>eb b o hb e) f0 f1 f3 f4 f5⟩
 self:=fun _ _ _ _ _ st h=>wpAny_pyIter_keyiter st h
def zRC (te:TE):TI:=fun σ H R=>te σ H fun v H1=>∃ a o kvs,v=.ref a/\H1 a=some (.frz o (.dK kvs))/\R (Itk a o kvs) H1
theorem zOs {X:Cx}{pins:List (Addr×Obj)}{σ:St}{H:Hp}{s:Shared}{a:Addr}{o:Obj}{kvs:List (Key×V)} (I:Inv X pins σ H s) (e:H a=some (.frz o (.dK kvs))) :
  (a == sysModules)=false/\∃ vs ep,KV kvs vs/\(∀ h:Heap,h.get? a=some o->h.DictAt (jF X.prog X.w) a vs ep)/\s.heap.get? a=some o:=by
 obtain⟨go,z,hd,vs,rel,o',es,ep,ho,r⟩:=(show jr X.prog X.w H s.heap a (.frz o (.dK kvs)) from I.hok a _ e)
 rw[go] at ho;cases ho
 exact⟨hd,vs,ep,rel,fun h q=>⟨o,es,q,r⟩,go⟩
theorem zIH {X:Cx}{pins:List (Addr×Obj)}{σ:St}{H:Hp}{s:Shared}{a:Addr}{o:Obj}{kvs:List (Key×V)}{tg:Expr}{R:It->Hp->Prop}{E:Value->Shared->Prop} (I:Inv X pins σ H s) (e:H a=some (.frz o (.dK kvs))) (q:R (Itk a o kvs) H) :
  wpAny (model X.prog X.w) X.A (pyIter (.ref a)) (PIE X pins σ tg R) E s:=by
 obtain⟨hd,vs,ep,rel,hD,go⟩:=zOs I e
 refine wpAny_pyIter_dict hd (hD _ go) ?_
 refine⟨s.heap.objs.size,[s.heap.objs.size],_,_,H,rfl,I.kept (t':=s.toks) (fun b ob e=>Heap.get?_push_of_some _ e),zLD a _ o kvs vs ep rel hD,⟨_,Heap.get?_push_size _ rfl,rfl,rfl⟩,fun b hb=>?_,q⟩
 have zb:b=s.heap.objs.size:=by simpa using hb
 subst zb
 exact I.fpOk (Nat.le_refl _) (I.hok.fresh (Nat.le_refl _))
theorem zLQ {X:Cx}{tg e:Expr}{te:TE} (he:PE X e te):PI X tg e (zRC te):=by
 intro pins s σ H R I h
 refine thn (he pins s σ H _ I h) fun v s1 ⟨x,H1,I1,r1,q1⟩=>?_
 obtain⟨a,o,kvs,rfl,ha,q⟩:=q1
 obtain rfl:v=Value.ref a:=r1
 exact zIH I1 ha q
def iKy (H₀:Hp) (te:TE):TI:=fun σ H R=>te σ H fun v H1=>∃ a kvs,v=.ref a/\H1 a=some (.dK kvs)/\∀ o,(∀ o u,H₀ a≠some (.frz o u))->R (Itk a o kvs) (upd H1 a (.frz o (.dK kvs)))
theorem zNE {X:Cx}{tg e:Expr}{te:TE} (he:PE X e te):PI X tg e (iKy X.H₀ te):=by
 intro pins s σ H R I h
 refine thn (he pins s σ H _ I h) fun v s1 ⟨x,H1,I1,r1,q1⟩=>?_
 obtain⟨a,kvs,rfl,ha,q⟩:=q1
 obtain rfl:v=Value.ref a:=r1
 obtain⟨o,vs',ep,rel',hD,go,I2⟩:=I1.freeze ha
 exact zIH I2 jM (q o (I1.dict_base ha))
section
variable {K:PySem.W.Frag}{Θ:Tab}{ρ:List Addr}{H:Hp}
theorem zG0 {a:Addr}{o:Obj}{kvs:List (M.D×M.D)}{ks:List (Key×V)} (ha:H a=some (.frz o (.dK ks))) (r:Paired (fun (p:M.D×M.D) (q:Key×V)=>yr p.1 q.1/\zQ K ρ H p.2 q.2) kvs ks):ItR K Θ ρ H (Itk a o ks) (kvs.map (·.1)) []:=by
 have el:kvs.length=ks.length:=Paired.length r
 refine⟨fun j ρ' S' H' p l rp g hj=>?_,fun j ρ' S' H' v H2 p l rp g hj y=>?_,fun ρ' S' H' p l rp g=>?_⟩
 ·rw[List.length_map,el] at hj
  exact⟨l.frzs _ _ _ ha,ks[j],by simp[hj]⟩
 ·obtain⟨rfl,q,hk,rfl⟩:=y
  obtain⟨x,hx,r1,r2⟩:=zFm r hk
  exact⟨x.1,by rw[List.getElem?_map,hx];rfl,yr.rel r1,Le.refl _,rp⟩
 ·exact⟨l.frzs _ _ _ ha,by rw[List.length_map,el];exact Nat.le_refl _⟩
end
section
variable {X:Cx}{Θ:Tab}
theorem zJR {tg e:Expr}{m:M.EM}{pos:Pos}{body:List Stmt}{g:M.GM}{js:List Nat}{mb:M.SM} (hp:PassesOwn (model X.prog X.w) X.A X.env X.xe) (hc:X.calm=true) (he:ME X Θ e m) (hg:MG X Θ js tg g) (hb:MSs X Θ body mb)
  (hs:∀ x,foldedSetIterable e X.env x=pure x:=by intro _;rfl):MS X Θ (.For tg e body [] pos) (M.qA m g mb) :=
 (zEs (zGW hp hc (zNE he) hg hb hs)).imp fun D σ H ⟨ρ,σ',S,st,rp,h⟩=>by
  refine⟨ρ,σ',S,st,rp,zn.stm h fun ρ1 H1 d v S1 p1 l1 rp1 rv h1=>?_⟩
  cases d with
  | ref i =>
   obtain⟨a,rfl,hi⟩:=rv
   have h1':zn X.K Θ ρ1 H1 (match S1[i]? with
    | some (.dct kvs)=>M.thaw i kvs (M.qK [] (M.jm g mb) (kvs.map (·.1)) σ' (S1.set i (.fdc kvs)))
    | _=>.no) D:=h1
   cases q:S1[i]? with
   | none=>rw[q] at h1';exact h1'.elim
   | some ob =>
    rw[q] at h1'
    cases ob with
    | dct kvs =>
     obtain⟨b,hb',ks,ha,pr⟩:=rp1.obj i _ q
     rw[hi] at hb';cases hb'
     refine⟨a,ks,rfl,ha,fun o n=>?_⟩
     have le:Le H1 (upd H1 a (.frz o (.dK ks))):=Le.put (Qm ha) _
     have pr':=Paired.mapP pr fun x y z=>(⟨z.1,z.2.mono (List.prefix_refl _) le⟩:yr x.1 y.1/\zQ X.K ρ1 (upd H1 a (.frz o (.dK ks))) x.2 y.2)
     exact zJj (zG0 jM pr') (st.mono p1 (l1.trans le)) (rp1.put (o:=.fdc kvs) hi (Qm ha) ⟨o,ks,jM,pr'⟩) rfl (zCg hi ha n pr h1')
    | lst xs=>exact h1'.elim
    | fdc _=>exact h1'.elim
    | ins c fs=>exact h1'.elim
  | _=>exact h1.elim
theorem QS {tg e:Expr}{m:M.EM}{pos:Pos}{body:List Stmt}{g:M.GM}{js:List Nat}{mb:M.SM} (hp:PassesOwn (model X.prog X.w) X.A X.env X.xe) (hc:X.calm=true) (he:WE X Θ e m) (hg:WG X Θ js tg g) (hb:WSs X Θ body mb)
  (hs:∀ x,foldedSetIterable e X.env x=pure x:=by intro _;rfl):WS X Θ (.For tg e body [] pos) (M.qA m g mb):=by with_unfolding_all exact zJR (tg:=tg) (e:=e) (m:=m) (pos:=pos) (body:=body) (g:=g) (js:=js) (mb:=mb) hp hc he hg hb hs
theorem zOK {tg e:Expr}{m:M.EM} (he:ME X Θ e m):MI X Θ tg e (M.yY m):=(zLQ he).imp fun σ H R ⟨ρ,σ',S,st,rp,h⟩=>⟨ρ,σ',S,st,rp,by
 have h':zG X.K Θ _ ρ H (((m σ' S).bind fun x s=>match x with
  | .ref i=>(match s[i]? with | some (.fdc kvs)=>M.R.ok (kvs.map fun p:M.D×M.D=>p.1,([]:M.Gd)) s | _=>.no)
  | _=>.no).bind fun p s=>if M.zW p.2 s then .ok p s else .no) R:=h
 clear h
 cases hm:m σ' S with
 | no=>rw[hm] at h';exact h'.elim
 | exc a s=>rw[hm] at h';exact h'.elim
 | ok d S1 =>
  rw[hm] at h'
  intro ρ1 H1 v p l rp1 rv
  cases d with
  | ref i =>
   obtain⟨a,rfl,hi⟩:=rv
   have h2:zG X.K Θ _ ρ H ((match S1[i]? with | some (.fdc kvs)=>M.R.ok (kvs.map fun p:M.D×M.D=>p.1,([]:M.Gd)) S1 | _=>.no).bind fun p s=>if M.zW p.2 s then .ok p s else .no) R:=h'
   cases q:S1[i]? with
   | none=>rw[q] at h2;exact h2.elim
   | some ob =>
    rw[q] at h2
    cases ob with
    | fdc kvs =>
     obtain⟨b,hb',o,ks,ha,pr⟩:=rp1.obj i _ q
     rw[hi] at hb';cases hb'
     exact⟨a,o,ks,rfl,ha,h2 ρ1 H1 _ p l rp1 (zG0 ha pr)⟩
    | lst xs=>exact h2.elim
    | dct _=>exact h2.elim
    | ins c fs=>exact h2.elim
  | _=>exact h'.elim⟩
theorem Q8 {tg e:Expr}{m:M.EM} (he:WE X Θ e m):WI X Θ tg e (M.yY m):=by with_unfolding_all exact zOK (tg:=tg) (e:=e) (m:=m) he
theorem zOq {i:Nat}{stm:Stmt}{mb:M.SM} (hb:MS X Θ stm mb):MS X Θ stm (M.Z7 i mb):=by
 intro pins s σ H D I ⟨ρ,σ',S,st,rp,h⟩
 have h':zn X.K Θ ρ H (match σ'[i]? with
  | some (some (.ref p))=>(match S[p]? with
   | some (.dct kvs)=>M.thaw p kvs (mb σ' (S.set p (.fdc kvs)))
   | _=>.no)
  | _=>.no) D:=h
 clear h
 split at h'
 ·rename_i p e
  split at h'
  ·rename_i kvs q
   obtain⟨v,e1,a,rfl,hi⟩:=st.get i _ e
   obtain⟨b,hb',ks,ha,pr⟩:=rp.obj p _ q
   rw[hi] at hb';cases hb'
   obtain⟨o,vs',ep,rel',hD,go,I2⟩:=I.freeze ha
   have n:=I.dict_base ha
   have le:Le H (upd H a (.frz o (.dK ks))):=Le.put (Qm ha) _
   have pr':=Paired.mapP pr fun x y z=>(⟨z.1,z.2.mono (List.prefix_refl _) le⟩:yr x.1 y.1/\zQ X.K ρ (upd H a (.frz o (.dK ks))) x.2 y.2)
   exact zEs hb pins s σ _ D I2 ⟨ρ,σ',S.set p (.fdc kvs),st.mono (List.prefix_refl _) le,rp.put (o:=.fdc kvs) hi (Qm ha) ⟨o,ks,jM,pr'⟩,zCg hi ha n pr h'⟩
  ·exact h'.elim
 ·exact h'.elim
theorem Jn {i:Nat}{stm:Stmt}{mb:M.SM} (hb:WS X Θ stm mb):WS X Θ stm (M.Z7 i mb):=by with_unfolding_all exact zOq (i:=i) (stm:=stm) (mb:=mb) hb
end
end L2
namespace L2
open PySem PySem.Spec PyProof.Rows
section
variable {P:Program}{w:World}{A:Around}{E:Value->Shared->Prop}{s:Shared}
theorem zGx:typeLookup (.type "list") "keys" = pure none:=by rw[typeLookup_type,builtinLookup_eq_fast];kernel_rfl
theorem zFF {a:Addr}{o:Obj}{xs:Array Value}{k:Nat}{Q:Option Value->Shared->Prop} (hx:s.heap.get? a=some o) (hc:o.cls=.type "list") (hdat:o.data=.seq xs k) (hd:o.dict=none) (hA:A.handled=none)
  (h:∀ h' tk,(∀ b ob,s.heap.get? b=some ob->h'.get? b=some ob)->Q none { s with heap:=h',toks:=tk }):wpAny (model P w) A (getAttr? (.ref a) "keys") Q E s:=by
 obtain⟨c,dct,dat,sl⟩:=o
 simp only at hc hdat hd
 subst hc hdat hd
 obtain⟨hp,g,d,tk,os⟩:=s
 have hT:∀ tk',(⟨hp,g,d,tk',os⟩:Shared).TypeIs (.ref a) "list" := fun _=>⟨_,hx,rfl⟩
 have f1:=sub_AttributeError
 have f3:=PySem.F.slot_list_getattribute.lookup
 have f4:=PySem.F.slot_list_getattribute.bind (.ref a)
 have f5:=am_list_getattr_none
 unfold getAttr? getAttrBy? getAttrBy
 repeat (any_goals (first | assumption | exact hT _ | ((with_reducible show wpAny _ _ (call (Value.builtin "list.__getattribute__") _ _) _ _ _);refine call_meets PySem.F.slot_list_getattribute (hT _) am_entry_list_getattribute (PySem.F.args_list_getattribute_2 _ _) (meets_getattribute_miss_list a xs k sl "keys" _ zGx (by decide +kernel) (by size_fits)) ⟨hx,hA,fun h' tk' e hx'=>?_⟩) | wp_step))
 obtain⟨t',u',he⟩:=hx'.there
 show wpAny _ _ (getattributeRaised _ _ _ _ _ _ _) _ _ _
 unfold getattributeRaised
 repeat (any_goals (first | assumption | wp_step))
 exact h _ _ hx'.keeps
theorem Qo:entryFor table "dict.update.loop" = some Builtin.«dict.update.loop» := entryFor_of_tree (by kernel_rfl)
theorem yT:plainId "dict.update.loop" = true:=by decide +kernel
def zCA (h:Heap) (a:Addr) (its:List Value):Prop:=∃ o n,h.get? a=some o/\o.cls=.type "tuple" /\ o.data=.seq its.toArray n
theorem zCA.at {h h':Heap}{a:Addr}{its:List Value} (x:zCA h a its) (e:∀ o,h.get? a=some o->h'.get? a=some o):zCA h' a its:=by
 obtain⟨o,n,ho,r⟩:=x
 exact⟨o,n,e _ ho,r⟩
abbrev Pq:=Addr×Key×Value×Value
def stL (qs:List Pq):List (Key×Value):=qs.foldl (fun acc q=>stored acc q.2.1 q.2.2.2) []
theorem zMc (qs:List Pq) (q:Pq):stL (qs++[q])=stored (stL qs) q.2.1 q.2.2.2:=by
 unfold stL;rw[List.foldl_append];rfl
theorem zJ4 (kvs:List (Key×Value)) (k:Key) (v:Value):(stored kvs k v).length <= kvs.length+1:=by
 unfold stored;split<;>simp
theorem zKv (qs:List Pq):(stL qs).length <= qs.length:=by
 have:∀ (qs:List Pq) (acc:List (Key×Value)),(qs.foldl (fun acc q=>stored acc q.2.1 q.2.2.2) acc).length <= acc.length+qs.length:=by
  intro qs
  induction qs with
  | nil=>intro acc;simp
  | cons q qs ih =>
   intro acc
   have h1:=ih (stored acc q.2.1 q.2.2.2)
   have h2:=zJ4 acc q.2.1 q.2.2.2
   simp only[List.foldl_cons,List.length_cons]
   omega
 have:=this qs []
 simpa [stL] using this
theorem zKd {R:Result->Shared->Prop}{I:Addr}{fp wr:List Addr}{G:Array GenState->Array GenState->Prop}{qs:List Pq}{Pv:Nat->Value->Prop}{St:Nat->Shared->Prop} (W:WalksS P w A.in1 I fp wr G qs.length Pv St) (D:Addr) (hD:D∉fp) (hv:∀ i v,Pv i v->∃ q,qs[i]? = some q/\v=.ref q.1)
  (hq:∀ q∈qs,q.1∉D::wr/\(jF P w).is q.2.1 q.2.2.1=true) (hb:qs.length <= sizeLine) :
  ∀ (k i:Nat) (s:Shared) (j:Tok) (jj:Int),qs.length - i=k->i <= qs.length->St i s->s.heap.DictOf (jF P w) D (stL (qs.take i))->(∀ q∈qs,zCA s.heap q.1 [q.2.2.1,q.2.2.2])->(∀ s',Moved (D::wr) G s s'->s'.heap.DictOf (jF P w) D (stL qs)->R (.ok (.ret .none)) s') ->
   codeAny (model P w) A (.builtin "dict.update.loop" ⟨[.ref D,.ref I,.int jj j,.none],[]⟩) R s:=by
 have nw:D∉wr:=fun h=>hD (W.sub _ h)
 have sb:∀ b∈wr,b∈D::wr:=fun b hb=>List.mem_cons_of_mem _ hb
 intro k
 induction k with
 | zero =>
  intro i s j jj hk hi st hS ht hR
  have e:i=qs.length:=by omega
  subst e
  rw[List.take_length] at hS
  refine codeAny_builtin Qo ?_
  rw[Around.under_plainId yT _]
  show wpAny (model P w) A.in1 (pyNext (.ref I) >>= _) _ _ s
  refine wpAny_bind (W.done s _ _ st fun s' hm=>?_)
  show wpAny (model P w) A.in1 (Builtin.Dict.addKeywords D [] >>= _) _ _ s'
  refine wpAny_bind (wpAny_pure (wpAny_pure (hR s' (hm.mono sb) ?_)))
  obtain⟨o,es,ep,ho,r⟩:=hS
  exact⟨o,es,ep,hm.heap D _ nw ho,r⟩
 | succ k ih =>
  intro i s j jj hk hi st hS ht hR
  have lt:i < qs.length:=by omega
  refine codeAny_builtin Qo ?_
  rw[Around.under_plainId yT _]
  show wpAny (model P w) A.in1 (pyNext (.ref I) >>= _) _ _ s
  refine wpAny_bind (W.item i s _ _ lt st fun v s' hP st' hm=>?_)
  obtain⟨q,ex,rfl⟩:=hv i v hP
  have hmem:q∈qs:=List.mem_of_getElem? ex
  obtain⟨hnq,hkq⟩:=hq q hmem
  have hS1:s'.heap.DictOf (jF P w) D (stL (qs.take i)):=by
   obtain⟨o,es,ep,ho,r⟩:=hS
   exact⟨o,es,ep,hm.heap D _ nw ho,r⟩
  have ht1:∀ q∈qs,zCA s'.heap q.1 [q.2.2.1,q.2.2.2]:=fun q' h'=>(ht q' h').at fun o ho=>hm.heap _ _ (fun z=>(hq q' h').1 (sb _ z)) ho
  obtain⟨o,n,ho,hc,hd⟩:=ht1 q hmem
  refine wpAny_bind (wpAny_holding ?_)
  refine wpAny_bind (wpAny_tryCatch ?_)
  unfold Builtin.Dict.pairItems
  refine wpAny_bind (wpAny_typeOf (T := "tuple") ⟨o,ho,hc⟩ ?_)
  rw[if_pos (by decide)]
  refine wpAny_bind (wpAny_seqItems ho hd ?_)
  refine wpAny_pure ?_
  show wpAny (model P w) A.in1 (holding [q.2.2.1,q.2.2.2] (dictSet D q.2.2.1 q.2.2.2)) _ _ s'
  refine wpAny_holding ?_
  have room:(stL (qs.take i)).length <= sizeLine:=by
   have:=zKv (qs.take i)
   rw[List.length_take] at this
   omega
  refine wpAny_dictSet_pairs hkq hS1 (fun h' hS2 hs=>?_) room
  have e3:stored (stL (qs.take i)) q.2.1 q.2.2.2=stL (qs.take (i+1)):=by
   rw[List.take_succ,ex,Option.toList_some,zMc]
  rw[e3] at hS2
  refine wpAny_pure ⟨plainId_quiet yT _,ih (i+1) _ _ _ (by omega) lt (W.frame _ s' _ _ st' (Nat.le_succ _) fun b hb o e=>?_) hS2 (fun q' h'=>(ht1 q' h').at fun o ho=>?_) fun s2 hm2 hS4=>?_⟩
  ·rw[hs.2 b (fun h:b=D=>hD (by rw[<- h];exact hb))];exact e
  ·rw[hs.2 _ (fun h:_=D=>(hq q' h').1 (by rw[h];exact List.mem_cons_self))];exact ho
  ·refine hR s2 (Moved.trans W.gtrans ((hm.mono sb).then_heap (Nat.le_succ _) fun b o hb e=>?_) hm2) hS4
   rw[hs.2 b (fun h:b=D=>hb (by rw[h];exact List.mem_cons_self))];exact e
end
end L2
namespace L2
open PySem PySem.Spec PyProof.Rows
section
variable {P:Program}{w:World}{A:Around}{E:Value->Shared->Prop}{s:Shared}
theorem zDr {l:Addr}{its:List Value}{qs:List Pq}{Q:Value->Shared->Prop} (hh:A.handled=none) {ol:Obj}{nl:Nat} (gl:s.heap.get? l=some ol) (cl:ol.cls=.type "list") (dl:ol.data=.seq its.toArray nl) (el:ol.dict=none) (hn:its.length=qs.length) (hi:∀ (i:Nat) (v:Value),its[i]? = some v->∃ q,qs[i]? = some q/\v=.ref q.1)
  (hq:∀ q∈qs,(jF P w).is q.2.1 q.2.2.1=true/\zCA s.heap q.1 [q.2.2.1,q.2.2.2]) (hb:qs.length <= sizeLine)
  (h:∀ (h':Heap) (tk:Nat),h'.DictOf (jF P w) s.heap.objs.size (stL qs)->(∀ b o,s.heap.get? b=some o->h'.get? b=some o)->Q (.ref s.heap.objs.size) { s with heap:=h',toks:=tk }) :
  wpAny (model P w) A (call (.type "dict") [.ref l]) Q E s:=by
 refine callType_codes (Q₁:=fun obj s₁=>obj=.ref s.heap.objs.size/\s₁={ s with heap:=s.heap.push { cls:=.type "dict",data:=.dict #[] } }) PySem.F.kt_called_dict (PySem.F.kt_typeCall_dict_1 _) PySem.F.entry_dict_init (PySem.kt_code_dict_new _ ⟨rfl,rfl⟩) ?_
 rintro obj s₁ ⟨rfl,rfl⟩
 have hnew:(s.heap.push { cls:=.type "dict",data:=.dict #[] }).DictOf (jF P w) s.heap.objs.size []:=Heap.DictOf.new s.heap
 have gl1:(s.heap.push { cls:=.type "dict",data:=.dict #[] }).get? l=some ol:=Heap.get?_push_of_some _ gl
 have lt:l < s.heap.objs.size:=Heap.lt_size gl
 refine⟨hnew.typeIs,PySem.F.args_dict_init_2 _ _,?_⟩
 unfold Builtin.«dict.__init__»
 refine wpAny_bind ?_
 unfold Builtin.Dict.selfAndRest
 refine wpAny_bind (wpAny_notOrdered_dict hnew.typeIs ?_)
 show wpAny _ _ (pure (s.heap.objs.size,[Value.ref l])) _ _ _
 refine wpAny_pure ?_
 show wpAny _ _ (Builtin.Dict.updateFrom "dict.__init__" s.heap.objs.size (.ref l) [] .none) _ _ _
 unfold Builtin.Dict.updateFrom
 refine wpAny_bind (wpAny_typeOf (T := "list") ⟨ol,gl1,cl⟩ ?_)
 rw[if_pos (by decide)]
 refine wpAny_bind (zFF gl1 cl dl el hh fun h1 tk1 kp1=>?_)
 have k1:∀ b o,s.heap.get? b=some o->h1.get? b=some o:=fun b o e=>kp1 _ _ (Heap.get?_push_of_some _ e)
 have gd1:h1.DictOf (jF P w) s.heap.objs.size []:=by
  obtain⟨o,es,ep,ho,r⟩:=hnew
  exact⟨o,es,ep,kp1 _ _ ho,r⟩
 have hl1:h1.IsList l its.toArray:=⟨ol,k1 _ _ gl,cl,nl,dl⟩
 rw[if_pos (by rfl)]
 refine wpAny_bind (wpAny_rule ?_)
 refine wpAny_bind (wpAny_pyIter_list (s:={ s with heap:=h1,toks:=tk1 }) hl1 ?_)
 refine wpAny_pure ⟨plainId_quiet yT _,?_⟩
 have lt1:s.heap.objs.size < h1.objs.size:=by
  obtain⟨o,es,ep,ho,r⟩:=gd1
  exact Heap.lt_size ho
 have nf:s.heap.objs.size∉[h1.objs.size,l]:=by
  intro hm
  rcases List.mem_cons.mp hm with e | hm
  ·exact absurd e (Nat.ne_of_lt lt1)
  ·exact absurd (List.mem_singleton.mp hm) (Nat.ne_of_gt lt)
 have W:=(Walks.list (prog:=P) (w:=w) (A:=A.in1.in1) hh h1.objs.size l (Nat.ne_of_lt (Nat.lt_trans lt lt1)) its.toArray).toS
 have ez:its.toArray.size=qs.length:=by rw[List.size_toArray];exact hn
 rw[ez] at W
 refine zKd W s.heap.objs.size nf (fun i v hv=>hi i v (by simpa using hv)) (fun q hm=>⟨fun z=>?_,(hq q hm).1⟩) hb qs.length 0 _ _ _ (by omega) (Nat.zero_le _) ⟨⟨_,Heap.get?_push_size _ rfl,rfl,rfl⟩,hl1.push _⟩ (gd1.push _) (fun q hm=>(hq q hm).2.at fun o ho=>Heap.get?_push_of_some _ (k1 _ _ ho)) fun s' hm hS'=>?_
 ·obtain⟨o,n,ho,_⟩:=(hq q hm).2
  have l1:=Heap.lt_size ho
  rcases List.mem_cons.mp z with e | z
  ·exact absurd e (Nat.ne_of_lt l1)
  ·exact absurd (List.mem_singleton.mp z) (Nat.ne_of_lt (Nat.lt_trans l1 lt1))
 ·rw[Moved.eq_with hm]
  refine⟨rfl,h _ _ hS' fun b o e=>hm.heap b o (fun hmem=>?_) (Heap.get?_push_of_some _ (k1 _ _ e))⟩
  have hc:=Heap.lt_size e
  rcases List.mem_cons.mp hmem with e' | hmem
  ·exact Nat.ne_of_lt hc e'
  ·exact Nat.ne_of_lt (Nat.lt_trans hc lt1) (List.mem_singleton.mp hmem)
theorem zH3 {d:Addr}{kvs:List (Key×Value)}{ep:Nat}{ss:List Str}{Q:Value->Shared->Prop} (hh:A.handled=none) (lo:(d == sysModules)=false) (da:s.heap.DictAt (jF P w) d kvs ep) (hS:∀ vs:List Value,vs.length=kvs.length->(∀ (j:Nat) v,vs[j]? = some v->∃ k x,kvs[j]? = some (k,x)/\(jF P w).is k v=true)->StrsAre vs ss) (h64:kvs.length < 64)
  (h:∀ (h1 h':Heap) (tk:Nat) (L:Addr) (out:List Value) (e:Nat) (ss':List Str),h1.objs.size <= L->(∀ b o,s.heap.get? b=some o->h1.get? b=some o)->(∀ b o,h1.get? b=some o->h'.get? b=some o)->h'.get? L=some (seqObj "list" out.toArray e)->StrsAre out ss'->ss'.Perm ss->sortedS ss'=true->Q (.ref L) { s with heap:=h',toks:=tk }) :
  wpAny (model P w) A (call (.builtin "sorted") [.ref d]) Q E s:=by
 refine Calls.call_function_entry kind_sorted plain_sorted entry_sorted (args_sorted1 _) ?_
 unfold Builtin.«sorted»
 refine wpAny_bind (m:=checkCount "sorted" 1 1 _) (wpAny_pure ?_)
 refine wpAny_bind (PySem.W.kdu_collect (A:=A.in1) (PySem.W.kdl_dict lo) hh da (by rw[sizeLine_eq];omega) fun h1 tk acc hk hacc=>?_)
 have hl:acc.toList.length=kvs.length:=by rw[Array.length_toList];exact hacc.1
 refine wpAny_bind (wpAny_newList ?_ (by rw[hl,sizeLine_eq];omega))
 have hst:StrsAre acc.toList ss:=hS _ hl fun j v e=>by
  obtain⟨k,x,e1,e2⟩:=hacc.2 j v (by rw[<- Array.getElem?_toList];exact e)
  exact⟨k,x,e1,e2⟩
 have hoL:(h1.push (seqObj "list" acc.toList.toArray 0)).get? h1.objs.size=some (seqObj "list" acc.toList.toArray 0):=Heap.get?_push_size _ rfl
 show wpAny _ _ _ _ _ { s with heap:=h1.push (seqObj "list" acc.toList.toArray 0),toks:=tk }
 refine wpAny_bind (wpAny_holding (wpAny_call_entry slot_list_sort ⟨_,hoL,rfl⟩ entry_list_sort (list_sort_treeK strKind_oneLt hoL hst.keysOf (fun v₁ v₂ qF e=>keyKind_strs (by rw[<- e];exact hst)) (by rw[hl];exact h64) fun st' a1 a2=>⟨_,rfl,?_⟩) (args_list_sort _)))
 obtain⟨ss',b1,b2,b3⟩:=sorted_out_str hst a1 a2
 obtain⟨e,he⟩:=sortedHeap_at (out:=(arrOf st').map (·.2)) hoL
 refine wpAny_pure ⟨_,rfl,h h1 _ tk h1.objs.size ((arrOf st').map (·.2)).toList e ss' (Nat.le_refl _) hk (fun b o q=>?_) (by rw[Array.toArray_toList];exact he) b1 b2 b3⟩
 have lb:=Heap.lt_size q
 rw[sortedHeap_old (Nat.ne_of_lt lb) (by rw[size_push'];exact Nat.lt_succ_of_lt lb)]
 exact Heap.get?_push_of_some _ q
end
end L2
namespace L2
open PySem PySem.Spec PyProof.Rows
abbrev zJJ (K:PySem.W.Frag) (H:Hp):Key×V->V->Prop:=fun p y=>∃ t,y=.ref t/\SqT K H t [kV p.1,p.2]
def zGG (ps:List (Key×V)):List (Key×V):=ps.foldl (fun a p=>ZB a p.1 p.2) []
def zKm (K:PySem.W.Frag):List V->Hp->VK->Prop:=fun xs H Q=>∃ p ys ps,xs=[.ref p]/\SqL K H p ys/\ys.length <= 1000/\Paired (zJJ K H) ps ys/\∀ l,H l=none->Q (.ref l) (upd H l (.dK (zGG ps)))
abbrev QP:Key×V->Pq->Prop:=fun p q=>p.1=q.2.1/\zj p.2 q.2.2.2
theorem zGS {X:Cx}{pins:List (Addr×Obj)}{σ:St}{H:Hp}{s:Shared} (I:Inv X pins σ H s):∀ {ps:List (Key×V)}{ys:List V}{its:List Value},Paired (zJJ X.K H) ps ys->zh ys its ->
  ∃ qs:List Pq,its.length=qs.length/\(∀ (i:Nat) (v:Value),its[i]? = some v->∃ q,qs[i]? = some q/\v=.ref q.1)/\(∀ q∈qs,(jF X.prog X.w).is q.2.1 q.2.2.1=true/\zCA s.heap q.1 [q.2.2.1,q.2.2.2])/\Paired QP ps qs
 | [],_,_,.nil,.nil=>⟨[],rfl,fun i v e=>by simp at e,fun q h=>absurd h List.not_mem_nil,Paired.nil⟩
 | p::ps,_,_,.cons hp tp,.cons hv tv=>by
  obtain⟨qs,h1,h2,h3,h4⟩:=zGS I tp tv
  obtain⟨t,rfl,hq⟩:=hp
  obtain⟨us,ru,⟨o,e1,e2,n,e3⟩,_⟩:=I.tuple hq
  obtain⟨ku,vu,rfl,rk,rv⟩:∃ ku vu,us=[ku,vu]/\zj (kV p.1) ku/\zj p.2 vu:=by
   cases ru with
   | cons a b=>cases b with
    | cons c d=>cases d;exact⟨_,_,rfl,a,c⟩
  refine⟨(t,p.1,ku,vu)::qs,by simp[h1],fun i v e=>?_,fun q h=>?_,.cons ⟨rfl,rv⟩ h4⟩
  ·cases i with
   | zero=>cases e;exact⟨_,rfl,hv⟩
   | succ i=>exact h2 i v e
  ·rcases List.mem_cons.mp h with rfl | h
   ·exact⟨zAy rk,o,n,e1,e2,e3⟩
   ·exact h3 q h
theorem zNj {ps:List (Key×V)}{qs:List Pq} (h:Paired QP ps qs):∀ {kvs:List (Key×V)}{vs:List (Key×Value)},KV kvs vs->KV (ps.foldl (fun a p=>ZB a p.1 p.2) kvs) (qs.foldl (fun acc q=>stored acc q.2.1 q.2.2.2) vs):=by
 induction h with
 | nil=>exact fun r=>r
 | @cons p q _ _ h t ih =>
  intro kvs vs r
  have e:KV (ZB kvs p.1 p.2) (stored vs q.2.1 q.2.2.2):=by rw[<- h.1];exact r.put p.1 h.2
  exact ih e
theorem zB1 {X:Cx}{k:Nat} (hr:jb k X.A):qQ X (.type "dict") (zKm X.K):=by
 intro pins s σ H xs us Q I r h
 obtain⟨p,ys,ps,rfl,hp,hz,pr,q⟩:=h
 obtain⟨u,rfl,ru⟩:=Qd r
 cases ru
 obtain⟨its,rv,⟨o,n,e1,e2,e3,e4⟩,_⟩:=I.list hp
 obtain⟨qs,h1,h2,h3,h4⟩:=zGS I pr rv
 have hl:=rv.length
 have lo2:(s.heap.objs.size == sysModules)=false:=by have:=I.big;exact beq_eq_false_iff_ne.mpr (Nat.ne_of_gt this)
 have kv:=zNj h4 (.nil:KV ([]:List (Key×V)) [])
 have z:(zGG ps).length <= sizeLine:=by
  have a:=kv.length
  have b:=zKv qs
  unfold stL at b
  unfold zGG
  rw[sizeLine_eq]
  omega
 refine wpAny_with_toks (n:=1) I.tk (zDr hr.hd e1 e2 e4 e3 h1 h2 h3 (by rw[sizeLine_eq];omega) fun h' tk dd' kp htk=>?_)
 exact⟨.ref s.heap.objs.size,_,I.laid (t':=tk) (o:=.dK (zGG ps)) kp (Nat.le_refl _) (zKj z lo2 kv dd') htk,rfl,q _ (I.hok.fresh (Nat.le_refl _))⟩
def zKa:List V->Hp->VK->Prop:=fun xs H Q=>∃ p ks ys,xs=[.ref p]/\H p=some (.dK ks)/\ks.map (fun kv=>kV kv.1)=ys.map V.str/\ys.length < 64/\∀ q ys',H q=none->ys'.Perm ys->sortedS ys'=true->Q (.ref q) (upd H q (.lst (ys'.map V.str)))
theorem zFr:∀ {ys:List Str}{vs:List Value},zh (ys.map V.str) vs->StrsAre vs ys
 | [],_,.nil=>.nil
 | y::ys,_,.cons h t=>by
  obtain⟨u,rfl⟩:=(show ∃ t,_=Value.str y t from h)
  exact .cons y u (zFr t)
theorem zCK {X:Cx}{k:Nat} (hr:jb k X.A):qQ X (.builtin "sorted") zKa:=by
 intro pins s σ H xs us Q I r h
 obtain⟨p,ks,ys,rfl,hp,hk,h64,q⟩:=h
 obtain⟨u,rfl,ru⟩:=Qd r
 cases ru
 obtain⟨z,lo,vs,rv,dd⟩:=zBy I.hok hp
 obtain⟨ep,da⟩:=dd.dictAt
 have hl:=rv.length
 have hy:ks.length=ys.length:=by have:=congrArg List.length hk;simpa using this
 refine wpAny_with_toks (n:=1) I.tk (zH3 (ss:=ys) hr.hd lo da (fun ws hw hit=>?_) (by omega) fun h1 h' tk L out e ys' l1 k1 k2 g a1 a2 a3 htk=>?_)
 ·refine zFr ?_
  rw[<- hk]
  refine zDf (by simp;omega) fun j u hu=>?_
  obtain⟨k,x,e,hk⟩:=hit j u hu
  have ek:(ks.map (·.1))[j]? = some k:=by rw[rv.keys,List.getElem?_map,e];rfl
  refine⟨kV k,?_,zKt hk⟩
  rw[List.getElem?_map] at ek ⊢
  cases q2:ks[j]? with
  | none=>rw[q2] at ek;cases ek
  | some kv=>rw[q2] at ek;cases ek;rfl
 ·have I1:Inv X pins σ H { s with heap:=h1,toks:=tk }:=I.kept (t':=tk) k1 htk
  have hl':=a2.length_eq
  exact⟨.ref L,_,I1.laid (t':=tk) (o:=.lst (ys'.map V.str)) k2 l1 ⟨by rw[List.length_map,sizeLine_eq];omega,out,e,zD8 a1,by simpa [seqObj] using g⟩ htk,rfl,q _ _ (I1.hok.fresh l1) a2 a3⟩
section
variable {K:PySem.W.Frag}{Θ:Tab}
theorem zEG:AdN K Θ M.Jb zKa:=by
 intro ρ H S xs Xs Q rp rxs h
 unfold M.Jb at h
 split at h
 ·rename_i p
  obtain⟨Y,r,rfl,ry,rfl⟩:=rxs
  split at h
  ·rename_i kvs e
   obtain⟨a,rfl,ha⟩:=ry
   obtain⟨ks,e2,r⟩:=QQ rp ha e
   have rz:=zDb r
   unfold M.zDB at h
   split at h
   ·rename_i ts et
    obtain⟨ez,hok⟩:=J7 et rz
    split at h
    ·rename_i h64
     refine⟨a,ks,ts.map ofT,rfl,e2,ez,by rw[List.length_map];exact h64,fun q ys' hq hp hs=>?_⟩
     rw[zJr hp hs]
     exact h.alloc rp (zHJ (M.qp ts) fun t ht=>hok t ((zCL ts).mem_iff.mp ht)) hq
    ·exact h.elim
   ·exact h.elim
  ·exact h.elim
 ·exact h.elim
theorem zFp {ρ:List Addr}{H:Hp}:∀ {ds:List M.D}{ys:List V}{kvs:List (M.D×M.D)},M.JW ds=some kvs->zM K ρ H ds ys->∃ ps,Paired (zJJ K H) ps ys/\DR K ρ H kvs ps
 | [],_,_,e,r=>by cases e;cases r;exact⟨[],.nil,.nil⟩
 | d::ds,_,kvs,e,r=>by
  unfold M.JW at e
  split at e
  ·rename_i z;cases z
  ·rename_i k v r' z
   cases z
   obtain⟨Y,r2,rfl,ry,r3⟩:=r
   split at e
   ·rename_i hk
    cases q:M.JW ds with
    | none=>rw[q] at e;cases e
    | some kvs' =>
     rw[q] at e
     cases e
     obtain⟨ps,h1,h2⟩:=zFp q r3
     obtain⟨t,zs,rfl,hq,rz⟩:=ry
     obtain⟨Y1,r4,rfl,ry1,Y2,r5,rfl,ry2,rfl⟩:=rz
     obtain⟨kk,hkk,rfl⟩:=Qa hk ry1
     exact⟨(kk,Y2)::ps,.cons ⟨t,rfl,hq⟩ h1,.cons ⟨hkk,ry2⟩ h2⟩
   ·cases e
  ·cases e
theorem zNF {ρ:List Addr}{H:Hp}{kvs:List (M.D×M.D)}{ps:List (Key×V)} (h:DR K ρ H kvs ps):∀ {acc:List (M.D×M.D)}{ac:List (Key×V)},DR K ρ H acc ac->DR K ρ H (kvs.foldl (fun a p=>M.jx p.1 p.2 a) acc) (ps.foldl (fun a p=>ZB a p.1 p.2) ac):=by
 unfold DR at h
 induction h with
 | nil=>exact fun r=>r
 | cons h1 t ih=>exact fun r=>ih (DR.put r h1.1 h1.2)
theorem zDS:AdN K Θ M.JH (zKm K):=by
 intro ρ H S xs Xs Q rp rxs h
 unfold M.JH at h
 split at h
 ·rename_i p
  obtain⟨Y,r,rfl,ry,rfl⟩:=rxs
  split at h
  ·rename_i ds e
   obtain⟨a,zs,rfl,ha,hx,rz⟩:=Zu rp ry e
   split at h
   ·rename_i kvs et
    obtain⟨ps,h1,h2⟩:=zFp et rz
    split at h
    ·rename_i hl
     have l1:=Paired.length h1
     have l2:=Paired.length h2
     exact⟨a,zs,ps,rfl,SqL.of hx,by omega,h1,fun p hp=>zFe h rp (zNF h2 .nil) hp⟩
    ·exact h.elim
   ·exact h.elim
  ·exact h.elim
 ·exact h.elim
theorem zMT:Ad2 K Θ M.zC3 (ipI fun i j=>i - j):=by
 intro ρ H S x y X Y Q rp rx ry h
 cases x with
 | int i =>
  cases y with
  | int j=>cases rx;cases ry;exact⟨i,j,rfl,rfl,zG.here (b:=V.int (i - j)) h rp rfl⟩
  | _=>exact h.elim
 | _=>exact h.elim
theorem zNw {X:Cx}{o i e:Expr}{mo mi me:M.EM}{op:Operator}{g:M.D->M.D->M.S->M.R M.D}{r:R2}{pos tpos:Pos}{n:Nat} (hr:jb n X.A) (ho:ME X Θ o mo) (hi:ME X Θ i mi) (he:ME X Θ e me) (hop:PIp X op r) (ad:Ad2 X.K Θ g r)
  (ha:∀ ov iv new,augStore i ov iv new=(do holding [new,ov,iv] (setItem ov iv new);release [new,ov,iv] [];pure .next):=by intro _ _ _;rfl):MS X Θ (.AugAssign (.Subscript o i tpos) op e pos) (M.zAS g mo mi me) :=
 (zNh (by have:=hr.units;omega) ho hi he hop ha).imp fun D σ H ⟨ρ,σ',S,st,rp,h⟩=>⟨ρ,σ',S,st,rp,zn.stm h fun ρ1 H1 x X1 S1 p1 l1 rp1 rx h1 =>
  ⟨ρ1,σ',S1,st.mono p1 l1,rp1,zn.stm h1 fun ρ2 H2 k K2 S2 p2 l2 rp2 rk h2=>by
  have h2':zn X.K Θ ρ2 H2 ((M.zA8 x k S2).stm σ' fun v s=>(me σ' s).stm σ' fun y s=>(g v y s).stm σ' fun z s=>(M.J9 x k z s).stm σ' fun _ s=>.nx σ' s) D:=h2
  have rx2:=rx.mono p2 l2
  cases x with
  | ref p =>
   obtain⟨a,rfl,hp⟩:=id rx2
   cases q:S2[p]? with
   | none=>simp only[M.zA8,q] at h2';exact h2'.elim
   | some ob =>
    cases ob with
    | dct kvs =>
     obtain⟨ks,e2,r2⟩:=QQ rp2 hp q
     cases hk:M.jA k with
     | false=>simp only[M.zA8,q,hk] at h2';exact h2'.elim
     | true =>
      obtain⟨kk,hkk,rfl⟩:=Qa hk rk
      have hv:=DR.val r2 hkk
      cases qv:M.jT k kvs with
      | none=>simp only[M.zA8,q,hk,qv,if_true] at h2';exact h2'.elim
      | some d =>
       rw[qv] at hv
       obtain⟨v,ev,rv⟩:=hv
       simp only[M.zA8,q,hk,qv,if_true,M.R.stm_ok] at h2'
       refine⟨a,v,rfl,.inl ⟨ks,kk,.inl e2,rfl,ev.symm⟩,ρ2,σ',S2,st.mono (p1.trans p2) (l1.trans l2),rp2,zn.stm h2' fun ρ3 H3 y Y S3 p3 l3 rp3 ry h5=>ad ρ3 H3 S3 d y v Y _ rp3 (rv.mono p3 l3) ry (zn.stm h5 fun ρ4 H4 z Z S4 p4 l4 rp4 rz h6=>?_)⟩
       have h6':zn X.K Θ ρ4 H4 ((M.J9 (.ref p) k z S4).stm σ' fun _ s=>.nx σ' s) D:=h6
       cases q4:S4[p]? with
       | none=>simp only[M.J9,q4] at h6';exact h6'.elim
       | some ob4 =>
        cases ob4 with
        | dct kv4 =>
         cases hk4:(M.jA k && decide (kv4.length < M.SZ)) with
         | false=>simp only[M.J9,q4,hk4] at h6';exact h6'.elim
         | true =>
          have hk2:(if (M.jA k && decide (kv4.length < M.SZ))=true then M.R.ok () (S4.set p (.dct (M.jx k z kv4))) else .no)=M.R.ok () (S4.set p (.dct (M.jx k z kv4))):=if_pos hk4
          simp only[M.J9,q4,hk2,M.R.stm_ok] at h6'
          rw[Bool.and_eq_true] at hk4
          have hp4:=(rx2.mono (p3.trans p4) (l3.trans l4))
          obtain⟨b,eb,hb⟩:=hp4
          cases eb
          obtain⟨ks4,e4,r4⟩:=QQ rp4 hb q4
          have le:=Le.put (Qm e4) (.dK (ZB ks4 kk Z))
          refine⟨_,zDq.k e4 (by rw[<- Paired.length r4,<- Zc];exact of_decide_eq_true hk4.2),?_⟩
          have r':DR X.K ρ4 (upd H4 a (.dK (ZB ks4 kk Z))) kv4 ks4:=Paired.mapP r4 fun a b z=>⟨z.1,z.2.mono (List.prefix_refl _) le⟩
          exact h6' ρ4 _ σ (List.prefix_refl _) le (rp4.put hb (Qm e4) ⟨_,jM,DR.put r' hkk (rz.mono (List.prefix_refl _) le)⟩) (st.mono (p1.trans (p2.trans (p3.trans p4))) (l1.trans (l2.trans (l3.trans (l4.trans le)))))
        | _=>simp only[M.J9,q4] at h6';exact h6'.elim
    | _=>simp only[M.zA8,q] at h2';exact h2'.elim
  | _=>exact h2'.elim⟩⟩
theorem zLA {X:Cx}{o i e:Expr}{mo mi me:M.EM}{op:Operator}{g:M.D->M.D->M.S->M.R M.D}{r:R2}{pos tpos:Pos}{n:Nat} (hr:jb n X.A) (ho:WE X Θ o mo) (hi:WE X Θ i mi) (he:WE X Θ e me) (hop:PIp X op r) (ad:Ad2 X.K Θ g r)
  (ha:∀ ov iv new,augStore i ov iv new=(do holding [new,ov,iv] (setItem ov iv new);release [new,ov,iv] [];pure .next):=by intro _ _ _;rfl):WS X Θ (.AugAssign (.Subscript o i tpos) op e pos) (M.zAS g mo mi me):=by with_unfolding_all exact zNw (X:=X) (o:=o) (i:=i) (e:=e) (mo:=mo) (mi:=mi) (me:=me) (op:=op) (g:=g) (r:=r) (pos:=pos) (tpos:=tpos) (n:=n) hr ho hi he hop ad ha
end
abbrev zBV (X:Cx) (N:List Str):Cx:={ X with N:=N }
theorem zHM {α:Type}{σ:List (Option α)}{i j:Nat}{v:α} (h:(σ.set i none)[j]? = some (some v)):j≠i/\σ[j]? = some (some v):=by
 by_cases e:i=j
 ·subst e
  by_cases hl:i < σ.length
  ·rw[List.getElem?_set_self hl] at h;cases h
  ·rw[List.getElem?_eq_none (by rw[List.length_set];omega)] at h;cases h
 ·rw[List.getElem?_set_ne e] at h
  exact⟨fun z=>e z.symm,h⟩
theorem Inv.renamed {X:Cx}{N:List Str}{i:Nat}{pins:List (Addr×Obj)}{σ:St}{H:Hp}{s:Shared} (I:Inv X pins σ H s) (hl:N.length=X.N.length) (hN:∀ j,j≠i->N[j]? = X.N[j]?):Inv (zBV X N) pins (σ.set i none) H s where
 ok:=⟨I.ok.mod,I.ok.kind,I.ok.glob,I.ok.blt,I.ok.above,I.ok.inj,I.ok.has,I.ok.cab,I.ok.hd,I.ok.frames,I.ok.stk,I.ok.exf,I.ok.bs,I.ok.bsz,I.ok.noex,I.ok.exfs,I.ok.funs,I.ok.frf⟩
 os:=I.os
 bare:=I.bare
 base:=I.base
 loc:=by
  obtain⟨m,h1,h2⟩:=I.loc
  refine⟨m,h1,fun j x v hj hv=>?_⟩
  obtain⟨ne,hv'⟩:=zHM hv
  exact h2 j x v (by rw[<- hN j ne];exact hj) hv'
 cell:=I.cell
 free:=I.free
 freeC:=I.freeC
 pin:=I.pin
 hok:=I.hok
 len:=by rw[List.length_set,I.len];exact hl.symm
 tk:=I.tk
abbrev zQN (i:Nat) (D:Jc):Jc:=⟨fun σ H=>D.nx (σ.set i none) H,D.rt,fun σ H=>D.bk (σ.set i none) H,fun σ H=>D.ct (σ.set i none) H⟩
theorem zOF {X:Cx}{i:Nat}{st:Stmt}{t:TS}{N:List Str} (hl:N.length=X.N.length) (hN:∀ j,j≠i->N[j]? = X.N[j]?) (h:PS (zBV X N) st t):PS X st fun D σ H=>t (zQN i D) (σ.set i none) H:=fun pins s σ H D I q=>thn (h pins s _ H _ (I.renamed hl hN) q) fun f s1 z=>by
 have back:∀ {σ1:St}{H1:Hp},Inv (zBV X N) pins σ1 H1 s1->Inv X pins (σ1.set i none) H1 s1:=fun J=>Inv.renamed (X:=zBV X N) (N:=X.N) (i:=i) J hl.symm fun j ne=>(hN j ne).symm
 cases f with
 | next=>obtain⟨σ1,H1,I1,d⟩:=z;exact⟨_,H1,back I1,d⟩
 | brk=>obtain⟨σ1,H1,I1,d⟩:=z;exact⟨_,H1,back I1,d⟩
 | cont=>obtain⟨σ1,H1,I1,d⟩:=z;exact⟨_,H1,back I1,d⟩
 | ret u=>obtain⟨v,σ1,H1,I1,r,d⟩:=z;exact⟨v,_,H1,back I1,r,d⟩
theorem jV.forget {K:PySem.W.Frag}{ρ:List Addr}{H:Hp}{σ':M.St}{σ:St} (h:jV K ρ H σ' σ) (i:Nat):jV K ρ H (σ'.set i none) (σ.set i none):=⟨by rw[List.length_set,List.length_set];exact h.len,fun j d e=>by
 obtain⟨ne,e'⟩:=zHM e
 obtain⟨v,h1,h2⟩:=h.get j d e'
 exact⟨v,by rw[List.getElem?_set_ne (Ne.symm ne)];exact h1,h2⟩⟩
theorem zEK {N N':List Str}{i:Nat} (h:N'=N.set i ""):N'.length=N.length/\∀ j,j≠i->N'[j]? = N[j]? := by
 subst h
 exact⟨List.length_set,fun j ne=>List.getElem?_set_ne (Ne.symm ne)⟩
theorem zNU {X:Cx}{Θ:Tab}{i:Nat}{stm:Stmt}{mb:M.SM}{N:List Str} (hN:N=X.N.set i "") (hb:MS (zBV X N) Θ stm mb):MS X Θ stm (M.Qv i mb) :=
 (zOF (zEK hN).1 (zEK hN).2 hb).imp fun D σ H ⟨ρ,σ',S,st,rp,h⟩=>⟨ρ,σ'.set i none,S,st.forget i,rp,by
  have h':zn X.K Θ ρ H (M.zC1 i (mb (σ'.set i none) S)) D:=h
  cases q:mb (σ'.set i none) S with
  | nx σ1 S1=>rw[q] at h';exact fun ρ1 H1 σv p l rp1 st1=>h' ρ1 H1 _ p l rp1 (st1.forget i)
  | bk σ1 S1=>rw[q] at h';exact fun ρ1 H1 σv p l rp1 st1=>h' ρ1 H1 _ p l rp1 (st1.forget i)
  | ct σ1 S1=>rw[q] at h';exact fun ρ1 H1 σv p l rp1 st1=>h' ρ1 H1 _ p l rp1 (st1.forget i)
  | rt d S1=>rw[q] at h';exact fun ρ1 H1 σv p l rp1 st1=>h' ρ1 H1 _ p l rp1 st1
  | exc e a s=>rw[q] at h';exact h'
  | no=>rw[q] at h';exact h'⟩
theorem zA6 {X:Cx}{Θ:Tab}{i:Nat}{stm:Stmt}{mb:M.SM}{N:List Str} (hN:N=X.N.set i "") (hb:WS (zBV X N) Θ stm mb):WS X Θ stm (M.Qv i mb):=by with_unfolding_all exact zNU (X:=X) (Θ:=Θ) (i:=i) (stm:=stm) (mb:=mb) (N:=N) hN hb
end L2
set_option maxHeartbeats 4000000
namespace M
noncomputable section
def Qs:SM :=
  (zJ (sIf (zc cLt (zA 1) (zI jo (zB (zA 0) zD)))
  (jK (eOp zU (zA 0) (zA 1)))
  jE)
  (jK (eC (.int 0))))
def zBF:F:=fn 2 Qs
def zC5 (xs:List D) (k:Int):D:=xs.getD k.toNat (.int 0)
def jk:F
 | [.ro xs,.int k],s=>if 0 <= k then .ok (zC5 xs k) s else .no
 | _,_=>.no
theorem zPJ {α:Type}{xs:List α}{k:Int} (h0:0 <= k) (h:k < xs.length) (d:α):atI xs k=some (xs.getD k.toNat d):=by
 unfold atI ixN
 rw[if_pos h0,if_pos h]
 have hk:k.toNat < xs.length:=by omega
 simp[List.getD_eq_getElem?_getD,hk]
theorem zM3 {n:Nat}{xs:List D} (h:D.cl.all n xs=true) (k:Nat) (d:D) (hd:D.cl n d=true):D.cl n (xs.getD k d)=true:=by
 induction xs generalizing k with
 | nil=>exact hd
 | cons x xs ih =>
  have h':(D.cl n x && D.cl.all n xs)=true:=h
  rw[Bool.and_eq_true] at h'
  cases k with
  | zero=>exact h'.1
  | succ k=>exact ih h'.2 k
theorem zGm:jO 2 zBF jk:=jO.pure fun ds S hl c ca=>by
 match ds,hl with
 | [a,b],_ =>
  cases a with
  | ro xs =>
   cases b with
   | int k =>
    by_cases h0:0 <= k
    ·refine .inr ⟨zC5 xs k,[],by simp[jk,h0],?_,?_⟩
     ·by_cases h:k < (xs.length:Int)
      ·simp[zBF,Qs,h,zPJ h0 h (.int 0),zC5]
      ·have h2:zC5 xs k=.int 0:=by unfold zC5;rw[List.getD_eq_getElem?_getD,List.getElem?_eq_none (by omega)];rfl
       simp[zBF,Qs,h,h2]
     ·have ca':(D.cl.all S.length xs && true)=true:=ca
      rw[Bool.and_true] at ca'
      exact zM3 ca' _ _ rfl
    ·exact .inl (by simp[jk,h0])
   | _=>exact .inl rfl
  | _=>exact .inl rfl
def JU:SM :=
  (jK (eOp jg (eOp zEW (eOp jW (zA 0) (eOp zEW (eC (.int 7919)) (zA 1))) (eC (.int 48271))) (eC (.int 2147483647))))
def zCj:F:=fn 2 JU
def mix (c k:Int):Int:=(c+7919 * k) * 48271 % 2147483647
def zq:F
 | [.int c,.int k],s=>.ok (.int (mix c k)) s
 | _,_=>.no
theorem zF6:jO 2 zCj zq:=jO.pure fun ds S hl c ca=>by
 match ds,hl with
 | [a,b],_ =>
  cases a with
  | int c =>
   cases b with
   | int k =>
    have h1:JT 7919=true:=by decide
    have h2:JT 48271=true:=by decide
    exact .inr ⟨_,[],rfl,by simp[zCj,JU,h1,h2,mix],rfl⟩
   | _=>exact .inl rfl
  | _=>exact .inl rfl
def yt:SM :=
  (zT 2 (eC (.str [97,98,99,100,101,102,103,104,105,106,107,108,109,110,111,112,113,114,115,116,117,118,119,120,121,122,46,42,48,32,90,10])))
def yz:SM :=
  (zT 3 (zI zq (zB (zA 0) (zB (eC (.int 5)) zD))))
def yy:SM :=
  (zT 4 (JE (JM []) 1 (qV (eOp jg (zA 3) (eC (.int 9)))) (zK 6) qc (eOp zU (zA 2) (eOp jg (zI zq (zB (zA 0) (zB (zA 6) zD))) (eC (.int 32))))))
def qh:SM :=
  (sIf (JS (qe (zA 1)) (zc cGt (eOp jg (zA 0) (eC (.int 3))) (eC (.int 0))))
  (zJ (zT 4 (eOp zU (zA 1) (eOp jg (zA 3) (zI jo (zB (zA 1) zD)))))
  (zJ (zT 4 (eOp jW (zA 4) (eSl (eC (.str [97])) (qz (zI jo (zB (zA 4) zD))) Qb)))
  (zJ (zT 5 (eOp jg (eOp zAR (zA 3) (eC (.int 60))) (zI jo (zB (zA 4) zD))))
  (zT 4 (eOp jW (eOp jW (eSl (zA 4) Qb (qz (zA 5))) (eOp zU (zA 2) (eOp jg (eOp zAR (zA 3) (eC (.int 720))) (eC (.int 32))))) (eSl (zA 4) (qz (eOp jW (zA 5) (eC (.int 1)))) Qb))))))
  jE)
def Qy:SM :=
  (zAi (zc cIn (zA 4) (zA 1))
  (zT 4 (eOp jW (zA 4) (eOp zU (zA 2) (eOp jg (zI zq (zB (zA 0) (zB (zI jo (zB (zA 4) zD)) zD))) (eC (.int 32)))))))
def Zo:SM :=
  (jK (zA 4))
def zBJ:SM:=(zJ yt (zJ yz (zJ yy (zJ qh (zJ Qy Zo)))))
def zH2:F:=fn 6 zBJ
def yH:T:=[97,98,99,100,101,102,103,104,105,106,107,108,109,110,111,112,113,114,115,116,117,118,119,120,121,122,46,42,48,32,90,10]
def sg (i:Int):Nat:=yH.getD (i % 32).toNat 0
theorem zMJ (i:Int):atI yH (i % 32)=some (sg i) :=
 zEh (Int.emod_nonneg _ (by decide)) (by rw[show (yH.length:Int)=32 from by decide];exact Int.emod_lt_of_pos _ (by decide)) 0
theorem z32:yH.length <= SZ:=by decide
def f0T (c:Int):T:=(List.range (mix c 5 % 9).toNat).map fun (j:Nat)=>sg (mix c j)
def f1T (c:Int) (taken:List T):T:=taken.getD (mix c 5 % taken.length).toNat []
def f2T (c:Int) (taken:List T):T:=f1T c taken++([97]:T).drop (f1T c taken).length
def f3T (c:Int) (taken:List T):T:=(f2T c taken).take (mix c 5 / 60 % (f2T c taken).length).toNat++sg (mix c 5 / 720)::(f2T c taken).drop ((mix c 5 / 60 % (f2T c taken).length).toNat+1)
def zBp (c:Int) (taken:List T):T:=if taken≠[]/\0 < c % 3 then f3T c taken else f0T c
def zBt (c:Int) (taken:List T):Nat->T->T
 | 0,f=>f
 | n+1,f=>if f∈taken then zBt c taken n (f++[sg (mix c f.length)]) else f
def zCu (c:Int) (taken:List T):T:=zBt c taken 1000 (zBp c taken)
theorem zOW (c:Int):(f0T c).length <= 8:=by
 unfold f0T
 have h0:=Int.emod_nonneg (mix c 5) (show (9:Int)≠0 by decide)
 have h1:=Int.emod_lt_of_pos (mix c 5) (show (0:Int) < 9 by decide)
 rw[List.length_map,List.length_range];omega
theorem zLF {c:Int}{taken:List T}{n:Nat} (h:∀ t∈taken,t.length <= n):(f1T c taken).length <= n:=by
 unfold f1T
 rw[List.getD_eq_getElem?_getD]
 cases q:taken[(mix c 5 % taken.length).toNat]? with
 | none=>simp
 | some t=>exact h t (List.mem_of_getElem? q)
theorem zGb {c:Int}{taken:List T}:1 <= (f2T c taken).length/\(f2T c taken).length <= (f1T c taken).length+1:=by
 unfold f2T
 rw[List.length_append,List.length_drop]
 simp only[List.length_cons,List.length_nil]
 omega
theorem zOo {c:Int}{taken:List T}:(f3T c taken).length=(f2T c taken).length:=by
 unfold f3T
 have h:=(zGb (c:=c) (taken:=taken)).1
 have h0:=Int.emod_nonneg (mix c 5 / 60) (show ((f2T c taken).length:Int)≠0 by omega)
 have h1:=Int.emod_lt_of_pos (mix c 5 / 60) (show (0:Int) < ((f2T c taken).length:Int) by omega)
 rw[List.length_append,List.length_take,List.length_cons,List.length_drop]
 omega
theorem zG6 {c:Int}{taken:List T}{n:Nat} (hn:8 <= n) (h:∀ t∈taken,t.length <= n):(zBp c taken).length <= n+1:=by
 unfold zBp
 split
 ·rw[zOo]
  have:=zLF (c:=c) h
  have:=(zGb (c:=c) (taken:=taken)).2
  omega
 ·have:=zOW c
  omega
theorem zHT {c:Int}{taken:List T}{n:Nat} (h:∀ t∈taken,t.length <= n):∀ (k:Nat) (f:T),f.length <= n+1->(zBt c taken k f).length <= n+1
 | 0,f,hf=>hf
 | k+1,f,hf=>by
  unfold zBt
  split
  ·rename_i hm
   exact zHT h k _ (by have:=h f hm;rw[List.length_append];simp;omega)
  ·exact hf
theorem zLM {c:Int}{taken:List T}{n:Nat} (hn:8 <= n) (h:∀ t∈taken,t.length <= n):(zCu c taken).length <= n+1:=zHT h _ _ (zG6 hn h)
def jy:F
 | [.int c,.ref p],s=>match s[p]? with
  | some (.lst ds)=>(match qG ds with
   | some taken=>if taken.length <= 100/\(∀ t∈taken,t.length <= 200) then .ok (.str (zCu c taken)) s else .no
   | none=>.no)
  | _=>.no
 | _,_=>.no
theorem zDT:∀ {ds:List D}{rs:List T},qG ds=some rs->ds=rs.map .str
 | [],rs,h=>by simp[qG] at h;subst h;rfl
 | .str x::ds,rs,h=>by
  unfold qG at h
  cases q:qG ds with
  | none=>simp[q] at h
  | some ys=>simp[q] at h;subst h;rw[zDT q];rfl
 | .non::_,_,h=>by simp[qG] at h
 | .bl _::_,_,h=>by simp[qG] at h
 | .int _::_,_,h=>by simp[qG] at h
 | .ty _::_,_,h=>by simp[qG] at h
 | .ref _::_,_,h=>by simp[qG] at h
 | .tup _::_,_,h=>by simp[qG] at h
 | .ro _::_,_,h=>by simp[qG] at h
abbrev zGV:SM:=(zT 4 (eOp jW (zA 4) (eOp zU (zA 2) (eOp jg (zI zq (zB (zA 0) (zB (zI jo (zB (zA 4) zD)) zD))) (eC (.int 32))))))
theorem zIU {S:M.S}{p:Nat}{taken:List T}{c:Int}{w3 v5:Option D} (hp:S[p]? = some (.lst (taken.map .str))) (h:∀ t∈taken,t.length <= 200):∀ (k:Nat) (f:T),201 <= f.length+k->f.length <= 1000->∀ N K,k < N->k <= K->qE N (zc cIn (zA 4) (zA 1)) zGV [some (.int c),some (.ref p),some (.str yH),w3,some (.str f),v5] S=.nx [some (.int c),some (.ref p),some (.str yH),w3,some (.str (zBt c taken K f)),v5] S
 | k,f,hk,hf,N,K,hN,hK=>by
  have hm:inD (.str f) (.ref p) S=.ok (decide (f∈taken)) S:=by
   have fl:(taken.map D.str).all flat=true:=zCQ _
   simp only[inD,hp]
   rw[if_pos (by rw[fl];rfl),zDi]
   simp
  obtain⟨N',rfl⟩:∃ N',N=N'+1:=⟨N - 1,by omega⟩
  by_cases hin:f∈taken
  ·have hl:=h f hin
   obtain⟨k',rfl⟩:∃ k',k=k'+1:=⟨k - 1,by omega⟩
   obtain⟨K',rfl⟩:∃ K',K=K'+1:=⟨K - 1,by omega⟩
   have ih:=zIU hp h (c:=c) (w3:=w3) (v5:=v5) k' (f++[sg (mix c f.length)]) (by rw[List.length_append];simp;omega) (by rw[List.length_append];simp;omega) N' K' (by omega) (by omega)
   have z1:f.length <= SZ:=by unfold SZ;omega
   have z2:f.length+1 <= SZ:=by unfold SZ;omega
   show (((zc cIn (zA 4) (zA 1)) _ _).stm _ _)=_
   have e1:(zc cIn (zA 4) (zA 1)) [some (.int c),some (.ref p),some (.str yH),w3,some (.str f),v5] S=.ok true S:=by
    show ((R.ok (D.str f) S).bind fun x s=>(R.ok (D.ref p) s).bind fun y s=>inD x y s)=_
    rw[R.bind_ok,R.bind_ok,hm]
    simp[hin]
   have e2:zGV [some (.int c),some (.ref p),some (.str yH),w3,some (.str f),v5] S=.nx [some (.int c),some (.ref p),some (.str yH),w3,some (.str (f++[sg (mix c f.length)])),v5] S:=by
    simp[zq,z1,z32,zMJ,z2]
   rw[e1,R.stm_ok,if_pos rfl,e2]
   show qE N' _ _ _ _=_
   rw[ih]
   show _=RS.nx [_,_,_,_,some (.str (if f∈taken then zBt c taken K' (f++[sg (mix c f.length)]) else f)),_] S
   rw[if_pos hin]
  ·show (((zc cIn (zA 4) (zA 1)) _ _).stm _ _)=_
   have e1:(zc cIn (zA 4) (zA 1)) [some (.int c),some (.ref p),some (.str yH),w3,some (.str f),v5] S=.ok false S:=by
    show ((R.ok (D.str f) S).bind fun x s=>(R.ok (D.ref p) s).bind fun y s=>inD x y s)=_
    rw[R.bind_ok,R.bind_ok,hm]
    simp[hin]
   rw[e1,R.stm_ok,if_neg Bool.false_ne_true]
   cases K with
   | zero=>rfl
   | succ K' =>
    show _=RS.nx [_,_,_,_,some (.str (if f∈taken then zBt c taken K' (f++[sg (mix c f.length)]) else f)),_] S
    rw[if_neg hin]
theorem zLi (c:Int) (p:Nat) (S:M.S) (r:SM):(yt [some (.int c),some (.ref p),none,none,none,none] S).then (zJ yz (zJ yy r))=r [some (.int c),some (.ref p),some (.str yH),some (.int (mix c 5)),some (.str (f0T c)),none] S:=by
 have h0:=Int.emod_nonneg (mix c 5) (show (9:Int)≠0 by decide)
 have h1:=Int.emod_lt_of_pos (mix c 5) (show (0:Int) < 9 by decide)
 have hit:qV (eOp jg (zA 3) (eC (.int 9))) [some (.int c),some (.ref p),some (.str yH),some (.int (mix c 5)),none,none] S=.ok (jq 0 (mix c 5 % 9),[]) S:=by
  simp
  omega
 have:=zBq (n:=1) (tg:=zK 6) (e:=(eOp zU (zA 2) (eOp jg (zI zq (zB (zA 0) (zB (zA 6) zD))) (eC (.int 32))))) (fun k=>.str [sg (mix c k)]) hit (by unfold SZ;omega) fun k _=>by
  simp[zq,z32,zMJ]
 rw[show ((mix c 5 % 9) - 0).toNat=(mix c 5 % 9).toNat by omega] at this
 have hz:(List.range (mix c 5 % 9).toNat).length <= SZ:=by rw[List.length_range];unfold SZ;omega
 have el:([97,98,99,100,101,102,103,104,105,106,107,108,109,110,111,112,113,114,115,116,117,118,119,120,121,122,46,42,48,32,90,10]:T)=yH:=rfl
 simp[yt,yz,yy,zq,el,this,zJ6 _ _ _ hz]
 rfl
theorem zOX (c:Int) (p:Nat) (S:M.S) (taken:List T) (hp:S[p]? = some (.lst (taken.map .str))) (ht:taken.length <= 100) (h:∀ t∈taken,t.length <= 200):∃ v,∀ r,(qh [some (.int c),some (.ref p),some (.str yH),some (.int (mix c 5)),some (.str (f0T c)),none] S).then r=r [some (.int c),some (.ref p),some (.str yH),some (.int (mix c 5)),some (.str (zBp c taken)),v] S:=by
 by_cases hc:taken≠[]/\0 < c % 3
 ·have hne:taken≠[]:=hc.1
  have hlp:0 < taken.length:=List.length_pos_iff.mpr hne
  have hi0:=Int.emod_nonneg (mix c 5) (show (taken.length:Int)≠0 by omega)
  have hi1:=Int.emod_lt_of_pos (mix c 5) (show (0:Int) < (taken.length:Int) by omega)
  have ha:atI (taken.map D.str) (mix c 5 % (taken.length:Int))=some (.str (f1T c taken)):=by
   have hl:(mix c 5 % (taken.length:Int)).toNat < taken.length:=by omega
   rw[zEh hi0 (by rw[List.length_map];omega) (.str [])]
   simp[f1T,List.getD_eq_getElem?_getD,hl]
  have l1:=zLF (c:=c) h
  have l2:=zGb (c:=c) (taken:=taken)
  have g0:=Int.emod_nonneg (mix c 5 / 60) (show ((f2T c taken).length:Int)≠0 by omega)
  have g1:=Int.emod_lt_of_pos (mix c 5 / 60) (show (0:Int) < ((f2T c taken).length:Int) by omega)
  have c1:cut ([97]:T) (some ((f1T c taken).length:Int)) none=([97]:T).drop (f1T c taken).length:=by rw[zCN _ (by omega)];simp
  have c2:cut (f2T c taken) none (some (mix c 5 / 60 % ((f2T c taken).length:Int)))=(f2T c taken).take (mix c 5 / 60 % ((f2T c taken).length:Int)).toNat:=zGO _ g0
  have c3:cut (f2T c taken) (some (mix c 5 / 60 % ((f2T c taken).length:Int)+1)) none=(f2T c taken).drop ((mix c 5 / 60 % ((f2T c taken).length:Int)).toNat+1):=by
   rw[zCN _ (by omega),show (mix c 5 / 60 % ((f2T c taken).length:Int)+1).toNat=(mix c 5 / 60 % ((f2T c taken).length:Int)).toNat+1 by omega]
  have hb:zBp c taken=f3T c taken:=if_pos hc
  have z1:(f1T c taken).length <= SZ:=by unfold SZ;omega
  have z2:(f2T c taken).length <= SZ:=by unfold SZ;omega
  have z3:(f1T c taken).length+(([97]:T).drop (f1T c taken).length).length <= SZ:=by rw[List.length_drop];simp;unfold SZ;omega
  have p2:(0:Int) < ((f2T c taken).length:Int):=by omega
  have zz1:(1:Nat) <= SZ:=by decide
  refine⟨some (.int (mix c 5 / 60 % ((f2T c taken).length:Int))),fun r=>?_⟩
  rw[hb]
  have e1:f1T c taken++([97]:T).drop (f1T c taken).length=f2T c taken:=rfl
  have hc3:(0:Int) < c % 3:=hc.2
  generalize hf2:f2T c taken=f2 at *
  generalize hat:mix c 5 / 60 % (f2.length:Int)=at5 at *
  have z4:(f2.take at5.toNat).length+1 <= SZ:=by rw[List.length_take];unfold SZ;omega
  have z5:(f2.take at5.toNat).length+1+(f2.drop (at5.toNat+1)).length <= SZ:=by rw[List.length_take,List.length_drop];unfold SZ;omega
  have ef:f3T c taken=f2.take at5.toNat++sg (mix c 5 / 720)::f2.drop (at5.toNat+1):=by unfold f3T;rw[hf2,hat]
  rw[ef]
  have ne2:(taken.map D.str).isEmpty=false:=by cases taken with | nil=>exact absurd rfl hne | cons _ _=>rfl
  have plen:(0:Int) < (taken.length:Int):=by omega
  simp only[List.length_take,List.length_drop] at z4 z5 z3
  simp[qh,hp,ne2,hc3,plen,ha,z1,zz1,c1,z3,e1,z2,p2,hat,c2,c3,z32,zMJ,z4,z5,hne]
  have hZ:SZ=16777216:=rfl
  rw[if_pos hlp,if_pos (by omega),if_pos (by omega)]
 ·have hb:zBp c taken=f0T c:=if_neg hc
  refine⟨none,fun r=>?_⟩
  rw[hb]
  by_cases hne:taken=[]
  ·simp[qh,hp,hne]
  ·have hc3:¬ (0:Int) < c % 3:=fun e=>hc ⟨hne,e⟩
   have ne2:(taken.map D.str).isEmpty=false:=by cases taken with | nil=>exact absurd rfl hne | cons _ _=>rfl
   simp[qh,hp,hne,hc3]
theorem zG2:jO 2 zH2 jy:=jO.pure fun ds S hl c ca=>by
 match ds,hl with
 | [a,b],_ =>
  cases a with
  | int c =>
   cases b with
   | ref p =>
    cases e:S[p]? with
    | none=>exact .inl (by simp[jy,e])
    | some o =>
     cases o with
     | lst es =>
      cases q:qG es with
      | none=>exact .inl (by simp[jy,e,q])
      | some taken =>
       by_cases hz:taken.length <= 100/\(∀ t∈taken,t.length <= 200)
       ·have er:=zDT q
        subst er
        refine .inr ⟨.str (zCu c taken),[],by simp[jy,e,q,hz];exact hz.2,?_,rfl⟩
        obtain⟨v,e4⟩:=zOX c p S taken e hz.1 hz.2
        have hbl:=zG6 (c:=c) (n:=200) (by omega) hz.2
        have e5:=zIU (c:=c) (w3:=some (.int (mix c 5))) (v5:=v) e hz.2 201 (zBp c taken) (by omega) (by omega) zAH 1000 (by decide) (by omega)
        show ((yt [some (.int c),some (.ref p),none,none,none,none] S).then (zJ yz (zJ yy (zJ qh (zJ Qy Zo))))).out=_
        rw[zLi]
        show ((qh _ _).then _).out=_
        rw[e4]
        show ((qE zAH (zc cIn (zA 4) (zA 1)) zGV _ _).then _).out=_
        rw[e5]
        simp[Zo,zCu]
       ·exact .inl (by simp[jy,e,q];intro h1;simpa using fun h2=>hz ⟨h1,h2⟩)
     | dct _=>exact .inl (by simp[jy,e])
     | ins _ _=>exact .inl (by simp[jy,e])
     | fdc _=>exact .inl (by simp[jy,e])
   | _=>exact .inl rfl
  | _=>exact .inl rfl
def yP:SM :=
  (zT 2 (zI jk (zB (zA 0) (zB (zA 1) zD))))
def yJ:SM :=
  (zT 3 (eOp jW (eC (.int 1)) (eOp jg (zA 2) (eC (.int 9)))))
def yO:SM :=
  (sIf (zc cEq (eOp jg (eOp zAR (zA 2) (eC (.int 9))) (eC (.int 6))) (eC (.int 1)))
  (zT 3 (eOp jW (eC (.int 1)) (eOp jg (eOp zAR (zA 2) (eC (.int 54))) (eC (.int 60)))))
  jE)
def yM:SM :=
  (zT 4 (qD zD))
def yK:SM :=
  (qq (qV (zA 3)) (zK 5)
  (yR (eM .list q8 (zA 4) (zB (zI jy (zB (zI zq (zB (zI jk (zB (zA 0) (zB (eOp jW (eOp jW (zA 1) (eC (.int 1))) (eOp jg (zA 5) (eC (.int 4)))) zD))) (zB (zA 5) zD))) (zB (zA 4) zD))) zD))))
def ZU:SM :=
  (jK (zA 4))
def zAs:SM:=(zJ yP (zJ yJ (zJ yO (zJ yM (zJ yK ZU)))))
def zHZ:F:=fn 6 zAs
def qm (ns:List Int) (k:Int):Int:=ns.getD k.toNat 0
def ql (ns:List Int) (b:Int):Nat->List T
 | 0=>[]
 | k+1=>ql ns b k++[zCu (mix (qm ns (b+1+(k:Int) % 4)) k) (ql ns b k)]
theorem zA3 (ns:List Int) (b:Int):∀ k,(ql ns b k).length=k
 | 0=>rfl
 | k+1=>by rw[ql,List.length_append,zA3 ns b k];rfl
theorem zDV (ns:List Int) (b:Int):∀ k,∀ t∈ql ns b k,t.length <= 20+k
 | 0,t,h=>by cases h
 | k+1,t,h=>by
  rw[ql] at h
  rcases List.mem_append.mp h with h | h
  ·have:=zDV ns b k t h;omega
  ·have e:=List.mem_singleton.mp h
   subst e
   exact zLM (n:=20+k) (by omega) (zDV ns b k)
def zA2 (c:Int):Int:=if c / 9 % 6=1 then 1+c / 54 % 60 else 1+c % 9
theorem zIk (c:Int):1 <= zA2 c/\zA2 c <= 60:=by
 unfold zA2
 have h1:=Int.emod_nonneg (c / 54) (show (60:Int)≠0 by decide)
 have h2:=Int.emod_lt_of_pos (c / 54) (show (0:Int) < 60 by decide)
 have h3:=Int.emod_nonneg c (show (9:Int)≠0 by decide)
 have h4:=Int.emod_lt_of_pos c (show (0:Int) < 9 by decide)
 split<;>omega
def qx:F
 | [.ro xs,.int b],s=>match ZI xs with
  | some ns=>if 0 <= b then alloc (.lst ((ql ns b (zA2 (qm ns b)).toNat).map .str)) s else .no
  | none=>.no
 | _,_=>.no
theorem zGv:∀ {ds:List D}{ns:List Int},ZI ds=some ns->ds=ns.map .int
 | [],ns,h=>by simp[ZI] at h;subst h;rfl
 | .int x::ds,ns,h=>by
  unfold ZI at h
  cases q:ZI ds with
  | none=>simp[q] at h
  | some ys=>simp[q] at h;subst h;rw[zGv q];rfl
 | .non::_,_,h=>by simp[ZI] at h
 | .bl _::_,_,h=>by simp[ZI] at h
 | .str _::_,_,h=>by simp[ZI] at h
 | .ty _::_,_,h=>by simp[ZI] at h
 | .ref _::_,_,h=>by simp[ZI] at h
 | .tup _::_,_,h=>by simp[ZI] at h
 | .ro _::_,_,h=>by simp[ZI] at h
theorem zFn:∀ ns:List Int,ZI (ns.map .int)=some ns
 | []=>rfl
 | n::ns=>by show (ZI (ns.map .int)).map _=_;rw[zFn ns];rfl
theorem Q1 (ns:List Int) (k:Int) (s:M.S) (h:0 <= k):jk [.ro (ns.map .int),.int k] s=.ok (.int (qm ns k)) s:=by
 simp only[jk,if_pos h,zC5,qm]
 rw[List.getD_eq_getElem?_getD,List.getD_eq_getElem?_getD,List.getElem?_map]
 cases ns[k.toNat]?<;>rfl
theorem zF2:jO 2 zHZ qx:=jO.new fun ds S hl c ca=>by
 match ds,hl with
 | [a,b],_ =>
  cases a with
  | ro xs =>
   cases b with
   | int b =>
    cases q:ZI xs with
    | none=>exact .inl (by simp[qx,q])
    | some ns =>
     have ex:=zGv q
     subst ex
     by_cases h0:0 <= b
     ·have hm:=zIk (qm ns b)
      generalize hMy:zA2 (qm ns b)=my at *
      have e3:∀ r,(yP [some (.ro (ns.map .int)),some (.int b),none,none,none,none] S).then (zJ yJ (zJ yO (zJ yM r)))=r [some (.ro (ns.map .int)),some (.int b),some (.int (qm ns b)),some (.int my),some (.ref S.length),none] (S++[.lst []]):=fun r=>by
       have z0:(0:Nat) <= SZ:=by decide
       have hM:my=if qm ns b / 9 % 6=1 then 1+qm ns b / 54 % 60 else 1+qm ns b % 9:=by rw[<- hMy];rfl
       by_cases h2:qm ns b / 9 % 6=1
       ·rw[if_pos h2] at hM
        simp[yP,yJ,yO,yM,Q1 _ _ _ h0,h2,z0,hM]
       ·rw[if_neg h2] at hM
        simp[yP,yJ,yO,yM,Q1 _ _ _ h0,h2,z0,hM]
      obtain⟨σ',s',e5,v5,eσ,es⟩:=yf (g:=[]) (f:=jm (zK 5) (yR (eM .list q8 (zA 4) (zB (zI jy (zB (zI zq (zB (zI jk (zB (zA 0) (zB (eOp jW (eOp jW (zA 1) (eC (.int 1))) (eOp jg (zA 5) (eC (.int 4)))) zD))) (zB (zA 5) zD))) (zB (zA 4) zD))) zD))))
       (fun j σ s=>∃ v5:Option D,σ=[some (.ro (ns.map .int)),some (.int b),some (.int (qm ns b)),some (.int my),some (.ref S.length),v5]/\s=S++[.lst ((ql ns b j).map .str)]) (jq 0 my) 0 [some (.ro (ns.map .int)),some (.int b),some (.int (qm ns b)),some (.int my),some (.ref S.length),none] (S++[.lst []]) ⟨none,rfl,rfl⟩ fun j d hd σ s ⟨v5,eσ,es⟩=>by
        have hj:j < (jq 0 my).length:=(List.getElem?_eq_some_iff.mp hd).1
        have hj':j < 60:=by unfold jq at hj;rw[List.length_map,List.length_range] at hj;omega
        have ed:d=.int (j:Int):=by
         unfold jq at hd
         rw[List.getElem?_map] at hd
         cases q:(List.range (my - 0).toNat)[j]? with
         | none=>rw[q] at hd;cases hd
         | some k =>
          rw[q] at hd
          have hk:k=j:=by
           have:=(List.getElem?_eq_some_iff.mp q).2
           simp at this
           omega
          subst hk
          simp at hd
          exact hd.symm
        subst ed
        subst eσ
        subst es
        rw[Nat.zero_add]
        have m0:=Int.emod_nonneg (j:Int) (show (4:Int)≠0 by decide)
        have hc:=fun s=>Q1 ns (b+1+(j:Int) % 4) s (by omega)
        have hn:∀ c:Int,jy [.int c,.ref S.length] (S++[.lst ((ql ns b j).map .str)])=.ok (.str (zCu c (ql ns b j))) (S++[.lst ((ql ns b j).map .str)]):=fun c=>by
         have hl1:=zA3 ns b j
         have hl2:∀ t∈ql ns b j,t.length <= 200:=fun t ht=>Nat.le_trans (zDV ns b j t ht) (by omega)
         simp only[jy,List.getElem?_concat_length,Q2]
         rw[if_pos ⟨by omega,hl2⟩]
        have hz:(ql ns b j).length < SZ:=by rw[zA3];unfold SZ;omega
        refine⟨[some (.ro (ns.map .int)),some (.int b),some (.int (qm ns b)),some (.int my),some (.ref S.length),some (.int j)],S++[.lst ((ql ns b (j+1)).map .str)],?_,rfl,_,rfl,rfl⟩
        simp[hc,zq,hn,hz,ql]
      have hln:(jq 0 my).length=my.toNat:=by unfold jq;rw[List.length_map,List.length_range];omega
      rw[Nat.zero_add,hln] at es
      subst eσ
      subst es
      refine .inr ⟨.lst ((ql ns b my.toNat).map .str),S.length,[.lst ((ql ns b my.toNat).map .str)],by simp[qx,q,h0,hMy],?_,by simp,Nat.le_refl _,JC _ _⟩
      show ((yP [some (.ro (ns.map .int)),some (.int b),none,none,none,none] S).then (zJ yJ (zJ yO (zJ yM (zJ yK ZU))))).out=_
      rw[e3]
      have q1:my.natAbs < 4611686018427387904:=by omega
      have hg:∀ s,zW [] s=true:=fun _=>rfl
      have e6:∀ r,(yK [some (.ro (ns.map .int)),some (.int b),some (.int (qm ns b)),some (.int my),some (.ref S.length),none] (S++[.lst []])).then r=r [some (.ro (ns.map .int)),some (.int b),some (.int (qm ns b)),some (.int my),some (.ref S.length),v5] (S++[.lst ((ql ns b my.toNat).map .str)]):=fun r=>by
       simp only[yK,qq,qV,zA,List.getElem?_cons_succ,List.getElem?_cons_zero,R.bind_ok,q1,if_true,R.stm_ok,hg,e5,RS.then_nx]
      show ((yK _ _).then _).out=_
      rw[e6]
      simp[ZU]
     ·exact .inl (by simp[qx,q,h0])
   | _=>exact .inl rfl
  | _=>exact .inl rfl
def Zd:SM :=
  (zJ (sIf (zc cEq (zA 2) (eC (.int 1)))
  (jK (jY 1 (qV (eOp zEW (eOp jg (zA 0) (eC (.int 4))) (zI zIs (zB (zAI cGt (zA 1) (eC (.int 0))) zD)))) (zK 5) qc (eOp zU (zA 3) (eOp jg (zI zq (zB (zA 0) (zB (eOp jW (eC (.int 3)) (zA 5)) zD))) (zA 1)))))
  jE)
  (zJ (sIf (zc cEq (zA 2) (eC (.int 2)))
  (zJ (zT 4 (eSl (zA 3) (qz (zI zJD (zB (eC (.int 0)) (zB (eOp zAQ (zA 1) (eC (.int 1))) zD)))) (qz (zA 1))))
  (zJ (sIf (zc cEq (eOp jg (zA 0) (eC (.int 29))) (eC (.int 1)))
  (zT 4 (eOp jW (zA 4) (qD (zB (eOp zU (zA 3) (eOp zAQ (zI jo (zB (zA 3) zD)) (eC (.int 1)))) zD))))
  jE)
  (jK (zA 4))))
  jE)
  (jK (jY 1 (qV (eOp jg (zA 0) (eC (.int 4)))) (zK 5) qc (eOp zU (zA 3) (eOp jg (zI zq (zB (zA 0) (zB (eOp jW (eC (.int 3)) (zA 5)) zD))) (zI jo (zB (zA 3) zD))))))))
def Zh:F:=fn 5 Zd
def y6:F:=chN Zh
theorem zIA:jO 4 Zh y6:=zCh _
theorem Qe {s:M.S}{p:Nat}{ds:List D} (h:s[p]? = some (.lst ds)):jf s p=some ds:=by simp[jf,h]
def DR (s:M.S):List (D×D)->List (T×List T)->Prop
 | [],[]=>True
 | kv::kvs,p::nd=>(∃ r,kv=(.str p.1,.ref r)/\s[r]? = some (.lst (p.2.map .str)))/\DR s kvs nd
 | _,_=>False
abbrev ZV (s s':M.S):Prop:=∀ (r:Nat) (xs:List D),s[r]? = some (.lst xs)->s'[r]? = some (.lst xs)
theorem ZV.app (s t:M.S):ZV s (s++t):=fun _ _ e=>zm e t
theorem ZV.trans {a b c:M.S} (h:ZV a b) (k:ZV b c):ZV a c:=fun r xs e=>k r xs (h r xs e)
theorem ZV.set {s:M.S}{i:Nat}{o o':O} (e:s[i]? = some o) (n:∀ xs,o≠.lst xs):ZV s (s.set i o'):=fun r xs h=>by
 by_cases hr:i=r
 ·subst hr;rw[e] at h;cases h;exact absurd rfl (n xs)
 ·rw[List.getElem?_set_ne hr];exact h
theorem DR.mono {s s':M.S} (k:ZV s s'):∀ {kvs:List (D×D)}{nd:List (T×List T)},DR s kvs nd->DR s' kvs nd
 | [],[],_=>trivial
 | _::_,_::_,⟨⟨r,e1,e2⟩,h⟩=>⟨⟨r,e1,k r _ e2⟩,DR.mono k h⟩
 | [],_::_,h=>h.elim
 | _::_,[],h=>h.elim
theorem DR.length {s:M.S}:∀ {kvs:List (D×D)}{nd:List (T×List T)},DR s kvs nd->kvs.length=nd.length
 | [],[],_=>rfl
 | _::_,_::_,⟨_,h⟩=>by rw[List.length_cons,List.length_cons,DR.length h]
 | [],_::_,h=>h.elim
 | _::_,[],h=>h.elim
theorem DR.keys {s:M.S}:∀ {kvs:List (D×D)}{nd:List (T×List T)},DR s kvs nd->kvs.map (·.1)=nd.map fun p=>.str p.1
 | [],[],_=>rfl
 | _::_,_::_,⟨⟨r,e1,_⟩,h⟩=>by rw[List.map_cons,List.map_cons,DR.keys h,e1]
 | [],_::_,h=>h.elim
 | _::_,[],h=>h.elim
theorem DR.app {s:M.S}:∀ {kvs kvs':List (D×D)}{nd nd':List (T×List T)},DR s kvs nd->DR s kvs' nd'->DR s (kvs++kvs') (nd++nd')
 | [],_,[],_,_,k=>k
 | _::_,_,_::_,_,⟨e,h⟩,k=>⟨e,DR.app h k⟩
 | [],_,_::_,_,h,_=>h.elim
 | _::_,_,[],_,h,_=>h.elim
theorem DR.get {s:M.S} (x:T):∀ {kvs:List (D×D)}{nd:List (T×List T)},DR s kvs nd->(nd.lookup x=none/\jT (.str x) kvs=none)\/∃ row r,nd.lookup x=some row/\jT (.str x) kvs=some (.ref r)/\s[r]? = some (.lst (row.map .str))
 | [],[],_=>.inl ⟨rfl,rfl⟩
 | _::kvs,(k,row)::nd,⟨⟨r,e1,e2⟩,h⟩=>by
  subst e1
  unfold jT
  rw[List.lookup_cons,List.lookup_cons]
  by_cases e:x=k
  ·subst e
   exact .inr ⟨row,r,by simp,by simp,e2⟩
  ·have b1:(x == k)=false:=by simpa using e
   have b2:(D.str x == D.str k)=false:=by simpa using e
   rw[b1,b2]
   exact DR.get x h
 | [],_::_,h=>h.elim
 | _::_,[],h=>h.elim
def yq (k:T) (v:List T) (nd:List (T×List T)):List (T×List T):=if (nd.any fun p=>decide (p.1=k))=true then nd.map fun p=>if p.1=k then (p.1,v) else p else nd++[(k,v)]
theorem DR.any {s:M.S} (k:T):∀ {kvs:List (D×D)}{nd:List (T×List T)},DR s kvs nd->(kvs.any fun p=>decide (p.1=.str k))=(nd.any fun p=>decide (p.1=k))
 | [],[],_=>rfl
 | _::_,_::_,⟨⟨r,e1,e2⟩,h⟩=>by subst e1;rw[List.any_cons,List.any_cons,DR.any k h];simp
 | [],_::_,h=>h.elim
 | _::_,[],h=>h.elim
theorem DR.over {s:M.S}{k:T}{r:Nat}{row:List T} (hr:s[r]? = some (.lst (row.map .str))):∀ {kvs:List (D×D)}{nd:List (T×List T)},DR s kvs nd->DR s (kvs.map fun p=>if p.1=.str k then (p.1,.ref r) else p) (nd.map fun p=>if p.1=k then (p.1,row) else p)
 | [],[],_=>trivial
 | _::_,p::_,⟨⟨r',e1,e2⟩,h⟩=>by
  subst e1
  refine⟨?_,DR.over hr h⟩
  by_cases e:p.1=k
  ·subst e;exact⟨r,by simp,by simpa using hr⟩
  ·exact⟨r',by simp[e],by simpa [e] using e2⟩
 | [],_::_,h=>h.elim
 | _::_,[],h=>h.elim
theorem DR.put {s:M.S}{k:T}{r:Nat}{row:List T}{kvs:List (D×D)}{nd:List (T×List T)} (h:DR s kvs nd) (hr:s[r]? = some (.lst (row.map .str))):DR s (jx (.str k) (.ref r) kvs) (yq k row nd):=by
 unfold jx yq
 rw[h.any k]
 split
 ·exact h.over hr
 ·exact h.app ⟨⟨r,rfl,hr⟩,trivial⟩
def zZ (nd:List (T×List T)):List T:=nd.map (·.1)
theorem zBZ {k:T}{nd:List (T×List T)}:(nd.any fun p=>decide (p.1=k))=true↔k∈zZ nd:=by
 unfold zZ
 rw[List.any_eq_true,List.mem_map]
 constructor
 ·rintro ⟨p,h1,h2⟩;exact⟨p,h1,of_decide_eq_true h2⟩
 ·rintro ⟨p,h1,h2⟩;exact⟨p,h1,decide_eq_true h2⟩
theorem zFX {k:T}{v:List T}{nd:List (T×List T)}:zZ (yq k v nd)=if k∈zZ nd then zZ nd else zZ nd++[k]:=by
 unfold yq
 by_cases h:k∈zZ nd
 ·rw[if_pos (zBZ.mpr h),if_pos h]
  unfold zZ
  rw[List.map_map]
  refine List.map_congr_left fun p hp=>?_
  simp only[Function.comp]
  split<;>rfl
 ·rw[if_neg (fun z=>h (zBZ.mp z)),if_neg h]
  unfold zZ
  simp
theorem zEJ {k:T}{v:List T}{nd:List (T×List T)} (h:(zZ nd).Nodup):(zZ (yq k v nd)).Nodup:=by
 rw[zFX]
 split
 ·exact h
 ·rename_i q
  rw[List.nodup_append]
  exact⟨h,by simp,fun a ha b hb z=>by simp at hb;subst hb;subst z;exact q ha⟩
theorem zMp {k:T}{v:List T}{nd:List (T×List T)}{x:T} (h:x∈zZ nd\/x=k):x∈zZ (yq k v nd):=by
 rw[zFX]
 split
 ·rename_i q
  rcases h with h | h
  ·exact h
  ·rw[h];exact q
 ·rcases h with h | h
  ·exact List.mem_append_left _ h
  ·rw[h];simp
theorem zMG {k:T}{v:List T}{nd:List (T×List T)}:(yq k v nd).length <= nd.length+1:=by
 unfold yq
 split<;>simp
theorem zLl {n:Int}{j:Nat}{d:D} (h:(jq 0 n)[j]? = some d):d=.int j/\(j:Int) < n:=by
 unfold jq at h
 rw[List.getElem?_map] at h
 cases q:(List.range (n - 0).toNat)[j]? with
 | none=>rw[q] at h;cases h
 | some k =>
  rw[q] at h
  have h1:=(List.getElem?_eq_some_iff.mp q)
  obtain⟨h1,h2⟩:=h1
  simp at h1 h2
  subst h2
  simp at h
  exact⟨h.symm,by omega⟩
theorem zK5 (n:Nat):(jq 0 (n:Int)).length=n:=by unfold jq;simp
theorem Jl {ts:List T}{k:Int} (h0:0 <= k) (h:k < ts.length):atI (ts.map D.str) k=some (.str (ts.getD k.toNat [])):=by
 rw[zEh (d:=.str []) h0 (by simpa using h),List.getD_eq_getElem?_getD,List.getD_eq_getElem?_getD,List.getElem?_map]
 cases ts[k.toNat]?<;>rfl
theorem zE2 {α β:Type} (f:α->β) (xs:List α) (lo hi:Option Int):cut (xs.map f) lo hi=(cut xs lo hi).map f:=by
 unfold cut
 rw[List.length_map,List.map_take,List.map_drop]
theorem DR.at {s:M.S}:∀ {kvs:List (D×D)}{nd:List (T×List T)}{j:Nat}{kv:D×D},DR s kvs nd->kvs[j]? = some kv->∃ p r,nd[j]? = some p/\kv=(.str p.1,.ref r)/\s[r]? = some (.lst (p.2.map .str))
 | _::_,p::_,0,_,⟨⟨r,e1,e2⟩,h⟩,e=>by cases e;exact⟨p,r,rfl,e1,e2⟩
 | _::kvs,_::nd,j+1,kv,⟨_,h⟩,e=>by
  obtain⟨p,r,h1,h2⟩:=DR.at (kvs:=kvs) (nd:=nd) (j:=j) (kv:=kv) h (by simpa using e)
  exact⟨p,r,by simpa using h1,h2⟩
 | [],_,_,_,_,e=>by simp at e
 | _::_,[],_,_,h,_=>h.elim
theorem zMe {k:T}{v:List T}{nd:List (T×List T)} (h:k∉zZ nd):yq k v nd=nd++[(k,v)]:=by
 unfold yq
 rw[if_neg (fun z=>h (zBZ.mp z))]
theorem Jz {nd:List (T×List T)} (hn:(zZ nd).Nodup) {p:T×List T} (h:p∈nd):nd.lookup p.1=some p.2:=by
 induction nd with
 | nil=>cases h
 | cons q nd ih =>
  obtain⟨k,v⟩:=q
  unfold zZ at hn ih
  rw[List.map_cons,List.nodup_cons] at hn
  rw[List.lookup_cons]
  rcases List.mem_cons.mp h with h | h
  ·subst h;simp
  ·have hne:(p.1 == k)=false:=by
    simp only[beq_eq_false_iff_ne,ne_eq]
    exact fun e=>hn.1 (by have hm:p.1∈nd.map (fun x=>x.1):=List.mem_map_of_mem h;rw[e] at hm;exact hm)
   rw[hne]
   exact ih hn.2 h
theorem zBe {α:Type}{xs:List α}{lo hi:Option Int}{x:α} (h:x∈cut xs lo hi):x∈xs:=by
 unfold cut at h
 exact List.mem_of_mem_drop (List.mem_of_mem_take h)
theorem Z3 {N:List T}{k:Nat} (h:k < N.length):N.getD k []∈N:=by
 rw[List.getD_eq_getElem?_getD,List.getElem?_eq_getElem h]
 exact List.getElem_mem _
theorem zKp {α:Type}{xs:List α}{k:Int} (h0:0 <= k) (h:k < xs.length):(cut xs (some (if 1 < k then k - 1 else 0)) (some k)).length <= 1:=by
 unfold cut
 simp only[sIx]
 rw[List.length_take]
 by_cases h1:1 < k
 ·rw[if_pos h1,if_neg (show ¬ k - 1 < 0 by omega),if_neg (show ¬ k < 0 by omega),Int.min_eq_left (show k <= (xs.length:Int) by omega),Int.min_eq_left (show k - 1 <= (xs.length:Int) by omega)]
  omega
 ·rw[if_neg h1,if_neg (show ¬ (0:Int) < 0 by omega),if_neg (show ¬ k < 0 by omega),Int.min_eq_left (show k <= (xs.length:Int) by omega),Int.min_eq_left (show (0:Int) <= (xs.length:Int) by omega)]
  omega
theorem zPx {S:M.S}{q:Nat}{N:List T}{c k sh:Int} (hq:S[q]? = some (.lst (N.map .str))) (hk0:0 <= k) (hk:k < N.length) :
  ∃ ts:List T,ts.length <= 4/\(∀ t∈ts,t∈N)/\y6 [.int c,.int k,.int sh,.ref q] S=alloc (.lst (ts.map .str)) S:=by
 have m0:=Int.emod_nonneg c (show (4:Int)≠0 by decide)
 have m1:=Int.emod_lt_of_pos c (show (0:Int) < 4 by decide)
 have pN:(0:Int) < N.length:=by omega
 have nN:N≠[]:=List.ne_nil_of_length_pos (by omega)
 have fin:∀ (ts:List T) (g:M.S) (j:Nat),Zh [.int c,.int k,.int sh,.ref q] S=.ok (.ref j) (S++g)->(S++g)[j]? = some (.lst (ts.map .str))->S.length <= j->y6 [.int c,.int k,.int sh,.ref q] S=alloc (.lst (ts.map .str)) S:=fun ts g j e1 e2 l=>zCR e1 e2 l (JC _ _)
 by_cases h1:sh=1
 ·subst h1
  have hn:(c % 4 * if 0 < k then (1:Int) else 0).natAbs < 4611686018427387904:=by split<;>omega
  have hs:JT (c % 4)=true:=by unfold JT;exact decide_eq_true (by omega)
  have:=zBq (n:=1) (it:=qV (eOp zEW (eOp jg (zA 0) (eC (.int 4))) (zI zIs (zB (zAI cGt (zA 1) (eC (.int 0))) zD)))) (tg:=zK 5) (e:=eOp zU (zA 3) (eOp jg (zI zq (zB (zA 0) (zB (eOp jW (eC (.int 3)) (zA 5)) zD))) (zA 1))) (σ:=[some (.int c),some (.int k),some (.int 1),some (.ref q),none]) (s:=S) (lo:=0) (hi:=c % 4 * if 0 < k then (1:Int) else 0) (fun j=>.str (N.getD (mix c (3+j) % k).toNat [])) (by simp[hs,hn]) (by unfold SZ;split<;>omega) fun j hj=>by
   have hk1:0 < k:=by
    by_cases z:0 < k
    ·exact z
    ·rw[if_neg z] at hj;simp at hj
   have i0:=Int.emod_nonneg (mix c (3+j)) (show k≠0 by omega)
   have i1:=Int.emod_lt_of_pos (mix c (3+j)) hk1
   simp[hq,zq,hk1,Jl (ts:=N) i0 (by omega)]
  refine⟨(List.range (c % 4 * (if 0 < k then (1:Int) else 0) - 0).toNat).map fun (j:Nat)=>N.getD (mix c (3+j) % k).toNat [],by rw[List.length_map,List.length_range];split<;>omega,fun t ht=>?_,fin _ [.lst _] S.length ?_ (by rw[List.getElem?_append_right (Nat.le_refl _),Nat.sub_self];rfl) (Nat.le_refl _)⟩
  ·obtain⟨j,hj,rfl⟩:=List.mem_map.mp ht
   have hj':=List.mem_range.mp hj
   have hk1:0 < k:=by
    by_cases z:0 < k
    ·exact z
    ·rw[if_neg z] at hj';simp at hj'
   have i0:=Int.emod_nonneg (mix c (3+j)) (show k≠0 by omega)
   have i1:=Int.emod_lt_of_pos (mix c (3+j)) hk1
   exact Z3 (by omega)
  ·rw[List.map_map]
   simp only[Zh,fn,Zd,zJ,sIf,zc,zA,eC,cEq,eqD,jK,jY,List.map_cons,List.map_nil,List.length_cons,List.length_nil,List.cons_append,List.nil_append,Nat.reduceAdd,Nat.reduceSub,List.replicate,List.getElem?_cons_zero,List.getElem?_cons_succ,R.bind_ok,R.stm_ok,decide_true,if_true,this,alloc,RS.then_rt,RS.out_rt]
   rfl
 ·by_cases h2:sh=2
  ·subst h2
   have hlt:(cut N (some (if 1 < k then k - 1 else 0)) (some k)).length <= 1:=zKp hk0 hk
   have hx:atI (N.map D.str) ((N.length:Int) - 1)=some (.str (N.getD ((N.length:Int) - 1).toNat [])):=Jl (by omega) (by omega)
   have hcm:∀ t∈cut N (some (if 1 < k then k - 1 else 0)) (some k),t∈N:=fun t ht=>zBe ht
   have hcut:cut (N.map D.str) (some (if 1 < k then k - 1 else 0)) (some k)=(cut N (some (if 1 < k then k - 1 else 0)) (some k)).map D.str:=zE2 _ _ _ _
   generalize cut N (some (if 1 < k then k - 1 else 0)) (some k)=C at *
   have hlm:N.getD ((N.length:Int) - 1).toNat []∈N:=Z3 (by omega)
   generalize N.getD ((N.length:Int) - 1).toNat []=lastT at *
   by_cases h3:c % 29=1
   ·refine⟨C++[lastT],by simp;omega,fun t ht=>?_,fin _ [.lst (C.map .str),.lst [.str lastT],.lst ((C++[lastT]).map .str)] (S.length+2) ?_ (by rw[List.getElem?_append_right (by omega),show S.length+2 - S.length=2 by omega];rfl) (by omega)⟩
    ·rcases List.mem_append.mp ht with h | h
     ·exact hcm t h
     ·rw[List.mem_singleton.mp h];exact hlm
    ·have hz:C.length+1 <= SZ:=by unfold SZ;omega
     have q1:∀ g,(S++g)[q]? = some (.lst (N.map .str)):=fun g=>zm hq g
     have s1:∀ (a b:O),(S++[a,b])[S.length]? = some a:=fun a b=>by rw[List.getElem?_append_right (Nat.le_refl _),Nat.sub_self];rfl
     have s2:∀ (a b:O),(S++[a,b])[S.length+1]? = some b:=fun a b=>by rw[List.getElem?_append_right (by omega),show S.length+1 - S.length=1 by omega];rfl
     have z0:¬ SZ=0:=by unfold SZ;omega
     simp[Zh,Zd,h3,hq,hcut,q1,hx,s1,s2,hz,z0]
   ·refine⟨C,by omega,hcm,fin _ [.lst (C.map .str)] S.length ?_ (by rw[List.getElem?_append_right (Nat.le_refl _),Nat.sub_self];rfl) (Nat.le_refl _)⟩
    simp[Zh,Zd,h3,hq,hcut]
  ·have hn:(c % 4).natAbs < 4611686018427387904:=by omega
   have:=zBq (n:=1) (it:=qV (eOp jg (zA 0) (eC (.int 4)))) (tg:=zK 5) (e:=eOp zU (zA 3) (eOp jg (zI zq (zB (zA 0) (zB (eOp jW (eC (.int 3)) (zA 5)) zD))) (zI jo (zB (zA 3) zD)))) (σ:=[some (.int c),some (.int k),some (.int sh),some (.ref q),none]) (s:=S) (lo:=0) (hi:=c % 4) (fun j=>.str (N.getD (mix c (3+j) % (N.length:Int)).toNat [])) (by simp[hn]) (by unfold SZ;omega) fun j hj=>by
    have i0:=Int.emod_nonneg (mix c (3+j)) (show (N.length:Int)≠0 by omega)
    have i1:=Int.emod_lt_of_pos (mix c (3+j)) pN
    simp[hq,zq,pN,nN,Jl (ts:=N) i0 i1]
   refine⟨(List.range (c % 4 - 0).toNat).map fun (j:Nat)=>N.getD (mix c (3+j) % (N.length:Int)).toNat [],by rw[List.length_map,List.length_range];omega,fun t ht=>?_,fin _ [.lst _] S.length ?_ (by rw[List.getElem?_append_right (Nat.le_refl _),Nat.sub_self];rfl) (Nat.le_refl _)⟩
   ·obtain⟨j,hj,rfl⟩:=List.mem_map.mp ht
    have i0:=Int.emod_nonneg (mix c (3+j)) (show (N.length:Int)≠0 by omega)
    have i1:=Int.emod_lt_of_pos (mix c (3+j)) pN
    exact Z3 (by omega)
   ·rw[List.map_map]
    simp only[Zh,fn,Zd,zJ,sIf,zc,zA,eC,cEq,eqD,jK,jE,jY,List.map_cons,List.map_nil,List.length_cons,List.length_nil,List.cons_append,List.nil_append,Nat.reduceAdd,Nat.reduceSub,List.replicate,List.getElem?_cons_zero,List.getElem?_cons_succ,R.bind_ok,R.stm_ok,h1,h2,decide_false,Bool.false_eq_true,if_false,RS.then_nx,this,alloc,RS.out_rt]
    rfl
def yi:SM :=
  (zT 3 (eOp jg (zI jk (zB (zA 0) (zB (zA 1) zD))) (eC (.int 4))))
def yh:SM :=
  (zT 4 jw)
def yI:SM :=
  (qq (qV (zI jo (zB (zA 2) zD))) (zK 5)
  (zJ (zT 6 (zI zq (zB (zI jk (zB (zA 0) (zB (eOp jW (eOp jW (zA 1) (eC (.int 1))) (eOp jg (zA 5) (eC (.int 12)))) zD))) (zB (zA 5) zD))))
  (sIf (tOr (zc cGt (eOp jg (eOp zAR (zA 6) (eC (.int 64))) (eC (.int 9))) (eC (.int 0))) (zc cEq (zA 3) (eC (.int 2))))
  (jz (zA 4) (eOp zU (zA 2) (zA 5)) (zI y6 (zB (zA 6) (zB (zA 5) (zB (zA 3) (zB (zA 2) zD))))))
  jE)))
def ZY:SM :=
  (jK (zA 4))
def zAk:SM:=(zJ yi (zJ yh (zJ yI ZY)))
def zHc:F:=fn 7 zAk
abbrev JG:F:=zHc
theorem zHL {P:T×List T->Prop}{k:T}{v:List T}{nd:List (T×List T)} (h:∀ q∈nd,P q) (hk:P (k,v)):∀ q∈yq k v nd,P q:=by
 intro q hq
 unfold yq at hq
 split at hq
 ·obtain⟨p,hp,rfl⟩:=List.mem_map.mp hq
  by_cases e:p.1=k
  ·rw[if_pos e,e];exact hk
  ·rw[if_neg e];exact h p hp
 ·rcases List.mem_append.mp hq with hq | hq
  ·exact h q hq
  ·rw[List.mem_singleton.mp hq];exact hk
abbrev OkB (b:Nat) (N:List T) (nd:List (T×List T)):Prop:=∀ q∈nd,q.1∈N/\q.2.length <= b/\∀ t∈q.2,t∈N
abbrev OkN (N:List T) (nd:List (T×List T)):Prop:=OkB 10 N nd
theorem OkB.mono {b c:Nat}{N:List T}{nd:List (T×List T)} (h:OkB b N nd) (hc:b <= c):OkB c N nd:=fun q hq=>⟨(h q hq).1,Nat.le_trans (h q hq).2.1 hc,(h q hq).2.2⟩
abbrev zGZ:SM :=
  (zJ (zT 6 (zI zq (zB (zI jk (zB (zA 0) (zB (eOp jW (eOp jW (zA 1) (eC (.int 1))) (eOp jg (zA 5) (eC (.int 12)))) zD))) (zB (zA 5) zD))))
  (sIf (tOr (zc cGt (eOp jg (eOp zAR (zA 6) (eC (.int 64))) (eC (.int 9))) (eC (.int 0))) (zc cEq (zA 3) (eC (.int 2))))
  (jz (zA 4) (eOp zU (zA 2) (zA 5)) (zI y6 (zB (zA 6) (zB (zA 5) (zB (zA 3) (zB (zA 2) zD))))))
  jE))
abbrev NdI (B:M.S) (N:List T) (j:Nat) (s:M.S):Prop:=∃ kvs nd t,s=B++.dct kvs::t/\DR s kvs nd/\(zZ nd).Nodup/\nd.length <= j/\OkB 4 N nd
theorem zKf {ns:List Int}{N:List T} (hN2:N.length <= 60) {B:M.S}{p:Nat}{sh:Int} (hp:B[p]? = some (.lst (N.map .str))) {s:M.S}{j:Nat} (hj:j < N.length) (v5 v6:Option D) (I:NdI B N j s) :
  ∃ v6' s',jm (zK 5) zGZ (.int j) [some (.ro (ns.map .int)),some (.int 5),some (.ref p),some (.int sh),some (.ref B.length),v5,v6] s=.nx [some (.ro (ns.map .int)),some (.int 5),some (.ref p),some (.int sh),some (.ref B.length),some (.int j),v6'] s'/\NdI B N (j+1) s':=by
 obtain⟨kvs,nd,t,rfl,dr,ndp,nl,ok⟩:=I
 have m0:=Int.emod_nonneg (j:Int) (show (12:Int)≠0 by decide)
 have hc:=fun s=>Q1 ns (6+(j:Int) % 12) s (by omega)
 generalize qm ns (6+(j:Int) % 12)=c0 at *
 generalize hc1:mix c0 j=c at *
 have gp:∀ g,(B++g)[p]? = some (.lst (N.map .str)):=fun g=>zm hp g
 obtain⟨ts,tl,tm,er⟩:=zPx (S:=B++.dct kvs::t) (q:=p) (N:=N) (c:=c) (k:=(j:Int)) (sh:=sh) (gp _) (by omega) (by omega)
 have ix:=Jl (ts:=N) (k:=(j:Int)) (by omega) (by omega)
 rw[Int.toNat_natCast] at ix
 have hnd:kvs.length < SZ:=by rw[dr.length];unfold SZ;omega
 by_cases hb:0 < c / 64 % 9\/sh=2
 ·refine⟨some (.int c),B++.dct (jx (.str (N.getD j [])) (.ref (B.length+(t.length+1))) kvs)::(t++[.lst (ts.map D.str)]),?_,_,yq (N.getD j []) ts nd,_,rfl,?_,zEJ ndp,Nat.le_trans zMG (by omega),zHL ok ⟨Z3 hj,(by show ts.length <= 4;omega),tm⟩⟩
  ·have hb':∀ (a b:M.RS),(if 0 < c / 64 % 9 then a else if sh=2 then a else b)=a:=fun a b=>by
    rcases hb with h | h
    ·rw[if_pos h]
    ·rw[if_pos h];split<;>rfl
   have er':y6 [.int c,.int j,.int sh,.ref p] (B++.dct kvs::t)=.ok (.ref (B.length+(t.length+1))) (B++.dct kvs::(t++[.lst (ts.map D.str)])):=by rw[er];simp
   have h6:(5:Int)+1+(j:Int) % 12=6+(j:Int) % 12:=by omega
   by_cases h1:0 < c / 64 % 9
   ·simp[hc,zq,hc1,h1,er',gp,ix,jA,hnd]
   ·have h2:sh=2:=by rcases hb with h | h;exact absurd h h1;exact h
    subst h2
    simp[hc,zq,hc1,h1,er',gp,ix,jA,hnd]
  ·have kp:ZV (B++.dct kvs::t) (B++.dct (jx (.str (N.getD j [])) (.ref (B.length+(t.length+1))) kvs)::(t++[.lst (ts.map D.str)])):=by
    have k1:=ZV.set (s:=B++.dct kvs::t) (i:=B.length) (o:=.dct kvs) (o':=.dct (jx (.str (N.getD j [])) (.ref (B.length+(t.length+1))) kvs)) (by simp) (fun _ z=>nomatch z)
    have k2:=k1.trans (ZV.app _ [.lst (ts.map D.str)])
    simpa using k2
   refine (dr.mono kp).put ?_
   rw[List.getElem?_append_right (by omega)]
   simp[show B.length+(t.length+1) - B.length=t.length+1 by omega]
 ·have h1:¬ 0 < c / 64 % 9:=fun z=>hb (.inl z)
  have h2:¬ sh=2:=fun z=>hb (.inr z)
  exact⟨some (.int c),_,by simp[hc,zq,hc1,h1,h2],kvs,nd,t,rfl,dr,ndp,by omega,ok⟩
theorem zLN {ns:List Int}{N:List T} (hN:0 < N.length) (hN2:N.length <= 60) {B:M.S}{p:Nat} (hp:B[p]? = some (.lst (N.map .str))) :
  ∃ kvs nd t,JG [.ro (ns.map .int),.int 5,.ref p] B=.ok (.ref B.length) (B++.dct kvs::t)/\DR (B++.dct kvs::t) kvs nd/\(zZ nd).Nodup/\nd.length <= 60/\OkB 4 N nd:=by
 have c5:=fun s=>Q1 ns 5 s (by decide)
 generalize hsh:qm ns 5 % 4=sh at *
 obtain⟨σ',s',e5,⟨v5,v6,eσ⟩,kvs,nd,t,es,dr,ndp,nl,ok⟩:=yf (g:=[]) (f:=jm (zK 5) zGZ)
  (fun j σ s=>(∃ v5 v6:Option D,σ=[some (.ro (ns.map .int)),some (.int 5),some (.ref p),some (.int sh),some (.ref B.length),v5,v6])/\NdI B N j s) (jq 0 (N.length:Int)) 0 [some (.ro (ns.map .int)),some (.int 5),some (.ref p),some (.int sh),some (.ref B.length),none,none] (B++[.dct []]) ⟨⟨none,none,rfl⟩,[],[],[],rfl,trivial,List.nodup_nil,Nat.le_refl _,fun q hq=>by cases hq⟩ fun j d hd σ s ⟨⟨v5,v6,eσ⟩,I⟩=>by
   obtain⟨rfl,hj⟩:=zLl hd
   subst eσ
   rw[Nat.zero_add] at I ⊢
   obtain⟨v6',s',e,I'⟩:=zKf (ns:=ns) (sh:=sh) hN2 hp (by omega) v5 v6 I
   exact⟨_,s',e,rfl,⟨_,_,rfl⟩,I'⟩
 rw[zK5,Nat.zero_add] at nl
 subst eσ
 subst es
 refine⟨kvs,nd,t,?_,dr,ndp,by omega,ok⟩
 have q1:(N.length:Int).natAbs < 4611686018427387904:=by omega
 have gp:(B++[O.dct []])[p]? = some (.lst (N.map .str)):=zm hp _
 have hg:∀ s,zW [] s=true:=fun _=>rfl
 have e12:∀ r,(zJ yi (zJ yh r)) [some (.ro (ns.map .int)),some (.int 5),some (.ref p),none,none,none,none] B=r [some (.ro (ns.map .int)),some (.int 5),some (.ref p),some (.int sh),some (.ref B.length),none,none] (B++[.dct []]):=fun r=>by
  simp[yi,yh,c5,hsh]
 have e3:yI [some (.ro (ns.map .int)),some (.int 5),some (.ref p),some (.int sh),some (.ref B.length),none,none] (B++[.dct []])=.nx [some (.ro (ns.map .int)),some (.int 5),some (.ref p),some (.int sh),some (.ref B.length),v5,v6] (B++.dct kvs::t):=by
  simp only[yI,qq,qV,zI,zB,zD,zA,List.getElem?_cons_succ,List.getElem?_cons_zero,R.bind_ok,jo,gp,List.length_map,q1,if_true,R.stm_ok,hg]
  exact e5
 show ((zJ yi (zJ yh (zJ yI ZY))) [some (.ro (ns.map .int)),some (.int 5),some (.ref p),none,none,none,none] B).out=_
 rw[e12]
 show ((yI _ _).then _).out=_
 rw[e3]
 simp[ZY]
theorem zDA {S:M.S}{p r:Nat}{o u:O}{xs:List D} (hp:S[p]? = some o) (no:∀ xs,o≠.lst xs) (e:S[r]? = some (.lst xs)):(S.set p u)[r]? = some (.lst xs):=by
 rw[List.getElem?_set_ne (fun z=>by subst z;rw[hp] at e;cases e;exact no xs rfl)]
 exact e
theorem zLx {S:M.S}{p:Nat}{o u:O} (hp:S[p]? = some o):(S.set p u).set p o=S:=by
 rw[List.set_set]
 obtain⟨h,e⟩:=List.getElem?_eq_some_iff.mp hp
 rw[<- e,List.set_getElem_self]
theorem zAo {S g:M.S}{p:Nat}{o o':O} (hp:S[p]? = some o):(S++g).set p o'=S.set p o'++g:=by
 rw[List.set_append_left _ _ (List.getElem?_eq_some_iff.mp hp).1]
theorem zAl {S:M.S}{p:Nat}{o u:O} (hp:S[p]? = some o):(S.set p u)[p]? = some u:=by
 rw[List.getElem?_set_self (List.getElem?_eq_some_iff.mp hp).1]
theorem y7 {S g:M.S}{p:Nat}{kvs:List (D×D)} (hp:S[p]? = some (.dct kvs)) (σ:St):thaw p kvs (.nx σ (S.set p (.fdc kvs)++g))=.nx σ (S++g):=by
 have e1:(S.set p (.fdc kvs)++g)[p]? = some (.fdc kvs):=zm (zAl hp) g
 have e2:(S.set p (.fdc kvs)++g).set p (.dct kvs)=S++g:=by rw[zAo (zAl hp),zLx hp]
 simp only[thaw,e1,e2,if_true]
theorem zd {S g:M.S}{o:O}:(S++o::g)[S.length]? = some o:=by rw[List.getElem?_append_right (Nat.le_refl _),Nat.sub_self];rfl
theorem Jg {S g:M.S}{o o':O}:(S++o::g).set S.length o'=S++o'::g:=by rw[List.set_append_right _ _ (Nat.le_refl _),Nat.sub_self];rfl
abbrev tk (x:T):D×D:=(.str x,.bl true)
def yE (y:T) (ks:List T):List T:=if y∈ks then ks else ks++[y]
def yb (ks ys:List T):List T:=ys.foldl (fun a y=>yE y a) ks
theorem zEP (y:T) (ks:List T):jx (.str y) (.bl true) (ks.map tk)=(yE y ks).map tk:=by
 unfold jx yE
 have e:((ks.map tk).any fun p=>decide (p.1=.str y))=decide (y∈ks):=by
  rw[List.any_map]
  induction ks with
  | nil=>rfl
  | cons k ks ih =>
   rw[List.any_cons,ih]
   by_cases h:k=y<;>simp[h,eq_comm]
 rw[e]
 by_cases h:y∈ks
 ·rw[if_pos h,if_pos (decide_eq_true h),List.map_map]
  refine List.map_congr_left fun x hx=>?_
  simp only[Function.comp]
  split<;>rfl
 ·rw[if_neg h,if_neg (by simp[h])]
  simp
theorem Ze {x y:T}{ks:List T}:x∈yE y ks↔x∈ks\/x=y:=by
 unfold yE
 split
 ·rename_i h
  constructor
  ·exact .inl
  ·rintro (h1 | rfl)
   ·exact h1
   ·exact h
 ·simp
theorem JR {y:T}{ks:List T} (h:ks.Nodup):(yE y ks).Nodup:=by
 unfold yE
 split
 ·exact h
 ·rename_i q
  rw[List.nodup_append]
  exact⟨h,by simp,fun a ha b hb z=>by simp at hb;subst hb;subst z;exact q ha⟩
theorem JK {x:T}:∀ {ys ks:List T},x∈yb ks ys↔x∈ks\/x∈ys
 | [],ks=>by simp[yb]
 | y::ys,ks=>by
  show x∈yb (yE y ks) ys↔_
  rw[JK,Ze,List.mem_cons,or_assoc]
theorem JL:∀ {ys ks:List T},ks.Nodup->(yb ks ys).Nodup
 | [],_,h=>h
 | y::ys,ks,h=>JL (ys:=ys) (JR h)
theorem qY:∀ {xs N:List T},xs.Nodup->(∀ x∈xs,x∈N)->xs.length <= N.length
 | [],_,_,_=>by simp
 | x::xs,N,h,m=>by
  rw[List.nodup_cons] at h
  have hx:=m x List.mem_cons_self
  have:xs.length <= (N.erase x).length:=qY h.2 fun y hy=>by
   refine (List.mem_erase_of_ne fun z=>?_).mpr (m y (List.mem_cons_of_mem _ hy))
   subst z;exact h.1 hy
  rw[List.length_erase_of_mem hx] at this
  have:=List.length_pos_of_mem hx
  simp only[List.length_cons]
  omega
theorem zLr (ks:List T):qG ((ks.map tk).map (·.1))=some ks:=by
 rw[List.map_map]
 exact Q2 ks
abbrev NLt (a b:T):Prop:=¬ b < a
theorem zLW {a b c:T} (h1:¬ b < a) (h2:¬ c < b):¬ c < a:=by
 rw[List.not_lt] at h1 h2 ⊢
 exact List.le_trans h1 h2
theorem zE8 (x:T):∀ ts:List T,(qp.insT' x ts).Perm (x::ts)
 | []=>.refl _
 | y::r=>by
  unfold qp.insT'
  split
  ·exact ((zE8 x r).cons y).trans (.swap x y r)
  ·exact .refl _
theorem Js:∀ ts:List T,(qp ts).Perm ts
 | []=>.refl _
 | x::r=>(zE8 x _).trans ((Js r).cons x)
theorem zIM (x:T):∀ ts:List T,ts.Pairwise NLt->(qp.insT' x ts).Pairwise NLt
 | [],_=>by unfold qp.insT';simp
 | y::r,h=>by
  rw[List.pairwise_cons] at h
  unfold qp.insT'
  split
  ·rename_i hy
   rw[List.pairwise_cons]
   refine⟨fun b hb=>?_,zIM x r h.2⟩
   rcases List.mem_cons.mp ((zE8 x r).mem_iff.mp hb) with rfl | hb
   ·exact fun z=>List.lt_irrefl _ (List.lt_trans z hy)
   ·exact h.1 b hb
  ·rename_i hy
   rw[List.pairwise_cons]
   refine⟨fun b hb=>?_,List.pairwise_cons.mpr h⟩
   rcases List.mem_cons.mp hb with rfl | hb
   ·exact hy
   ·exact zLW hy (h.1 b hb)
theorem zHW:∀ ts:List T,(qp ts).Pairwise NLt
 | []=>.nil
 | x::r=>zIM x _ (zHW r)
theorem zQf {ts:List T} (h:ts.Nodup):(qp ts).Nodup:=(Js ts).nodup_iff.mpr h
def inV (nd:List (T×List T)) (x:T):Prop:=x∈zZ nd\/∃ q∈nd,x∈q.2
theorem zDv {ks:List T} (h:ks.length < 64) (s:M.S):zDB ((ks.map tk).map (·.1)) s=alloc (.lst ((qp ks).map .str)) s:=by
 unfold zDB
 rw[zLr]
 dsimp only
 rw[if_pos h]
theorem zGk {S':M.S}{σ:St}{a i:Nat}{N:List T} (hN:N.length <= 62) (ha:σ[a]? = some (some (.ref S'.length))) (hai:a≠i) (hi:i < σ.length) {G:Gd} (hG:∀ g,zW G (S'++g)=true) :
  ∀ (ys ks:List T) (v:Option D),ks.Nodup->(∀ x∈ks,x∈N)->(∀ y∈ys,y∈N)->∃ v',qK G (jm (zK i) (jz (zA a) (zA i) (eC (.bl true)))) (ys.map .str) (σ.set i v) (S'++[.dct (ks.map tk)])=.nx (σ.set i v') (S'++[.dct ((yb ks ys).map tk)])
 | [],ks,v,_,_,_=>⟨v,rfl⟩
 | y::ys,ks,v,hn,hk,hy=>by
  have hl:(ks.map tk).length < SZ:=by rw[List.length_map];have:=qY hn hk;unfold SZ;omega
  have g1:∀ o,(S'++[o])[S'.length]? = some o:=fun o=>zd
  have s1:∀ o o',(S'++[o]).set S'.length o'=S'++[o']:=fun o o'=>Jg
  have e:jm (zK i) (jz (zA a) (zA i) (eC (.bl true))) (.str y) (σ.set i v) (S'++[.dct (ks.map tk)])=.nx (σ.set i (some (.str y))) (S'++[.dct ((yE y ks).map tk)]):=by
   have h1:(σ.set i (some (.str y)))[a]? = some (some (.ref S'.length)):=by rw[List.getElem?_set_ne (Ne.symm hai)];exact ha
   have h2:(σ.set i (some (D.str y)))[i]? = some (some (.str y)):=List.getElem?_set_self hi
   rw[<- zEP]
   simp only[jm,zK,List.set_set,jz,eC,zA,R.stm_ok,h1,h2,y1,g1,hl,jA,decide_true,Bool.and_self,if_true,s1]
  obtain⟨v',e'⟩:=zGk hN ha hai hi hG ys (yE y ks) (some (.str y)) (JR hn) (fun x hx=>by
   rcases Ze.mp hx with h | h
   ·exact hk x h
   ·rw[h];exact hy y List.mem_cons_self) fun x hx=>hy x (List.mem_cons_of_mem _ hx)
  refine⟨v',?_⟩
  rw[List.map_cons,qK,e]
  dsimp only
  rw[if_pos (hG _),e']
  rfl
def Z8:SM :=
  (zJ (zT 1 jw)
  (zJ (qA (zA 0) (zK 2)
  (qq (iE (eOp zU (zA 0) (zA 2))) (zK 3)
  (zJ (sIf (zc jU (zA 3) (zA 1))
  (jz (zA 1) (zA 3) jw)
  jE)
  (jz (eOp zU (zA 1) (zA 3)) (zA 2) (eC (.bl true))))))
  (jK (zA 1))))
def zG8:F:=fn 4 Z8
abbrev Z5:F:=zG8
def qS:Nat->List T->List (D×D)
 | _,[]=>[]
 | b,y::L=>(.str y,.ref b)::qS (b+1) L
abbrev nS (b:Nat) (L:List T) (B:T->List T):M.S:=.dct (qS (b+1) L)::L.map fun y=>O.dct ((B y).map tk)
theorem zGP:∀ (L:List T) (b:Nat),(qS b L).length=L.length
 | [],_=>rfl
 | _::L,b=>by rw[qS,List.length_cons,zGP L,List.length_cons]
theorem Z1:∀ (L:List T) (b:Nat) (y:T),jT (.str y) (qS b L)=if y∈L then some (.ref (b+L.idxOf y)) else none
 | [],_,_=>rfl
 | z::L,b,y=>by
  have ih:=Z1 L (b+1) y
  unfold jT at ih ⊢
  rw[qS,List.lookup_cons,List.idxOf_cons]
  by_cases h:y=z
  ·subst h;simp
  ·have h1:((D.str y) == D.str z)=false:=by simpa using h
   have h2:(z == y)=false:=by simpa using Ne.symm h
   rw[h1,ih,h2]
   by_cases hm:y∈L
   ·rw[if_pos hm,if_pos (List.mem_cons_of_mem _ hm)]
    show some (D.ref _)=some (D.ref _)
    congr 2
    simp
    omega
   ·rw[if_neg hm,if_neg (by simp[h,hm])]
theorem zFb:∀ (L:List T) (b:Nat) (y:T),qS b (L++[y])=qS b L++[(.str y,.ref (b+L.length))]
 | [],_,_=>rfl
 | z::L,b,y=>by
  rw[List.cons_append,qS,zFb L,qS,List.cons_append,List.length_cons,show b+1+L.length=b+(L.length+1) by omega]
theorem zHk:∀ (L:List T) (b:Nat) (y:T),((qS b L).any fun p=>decide (p.1=.str y))=decide (y∈L)
 | [],_,_=>rfl
 | z::L,b,y=>by
  rw[qS,List.any_cons,zHk L]
  by_cases h:z=y<;>simp[h,eq_comm]
theorem zMW {L:List T}{b:Nat}{y:T} (h:y∉L):jx (.str y) (.ref (b+L.length)) (qS b L)=qS b (L++[y]):=by
 unfold jx
 rw[zHk,if_neg (by simp[h]),zFb]
theorem zIg {β:Type}{f:T->β}{v:β}:∀ {L:List T}{y:T},L.Nodup->y∈L->(L.map f).set (L.idxOf y) v=L.map fun z=>if z=y then v else f z
 | [],_,_,h=>by cases h
 | z::L,y,hn,h=>by
  rw[List.nodup_cons] at hn
  rw[List.idxOf_cons,List.map_cons,List.map_cons]
  by_cases e:z=y
  ·subst e
   simp only[beq_self_eq_true,cond_true,List.set_cons_zero,if_true,List.cons.injEq,true_and]
   exact List.map_congr_left fun w hw=>by rw[if_neg (fun q:w=z=>hn.1 (q ▸ hw))]
  ·have h2:(z == y)=false:=by simpa using e
   have hm:y∈L:=by rcases List.mem_cons.mp h with h | h;exact absurd h.symm e;exact h
   rw[h2,cond_false,List.set_cons_succ,if_neg e,zIg hn.2 hm]
theorem zI8 {S:M.S}{L:List T}{B:T->List T}{y:T} (h:y∈L) (g:M.S):(S++(nS S.length L B++g))[S.length+1+L.idxOf y]? = some (.dct ((B y).map tk)):=by
 have hi:=List.idxOf_lt_length_iff.mpr h
 rw[List.getElem?_append_right (by omega),show S.length+1+L.idxOf y - S.length=L.idxOf y+1 by omega,List.cons_append,List.getElem?_cons_succ,List.getElem?_append_left (by simpa using hi),List.getElem?_map,List.getElem?_eq_getElem hi]
 simp
theorem zPf {S:M.S}{L:List T}{B:T->List T}{y:T}{v:List T} (hn:L.Nodup) (h:y∈L):(S++nS S.length L B).set (S.length+1+L.idxOf y) (.dct (v.map tk))=S++nS S.length L (fun z=>if z=y then v else B z):=by
 rw[List.set_append_right _ _ (by omega),show S.length+1+L.idxOf y - S.length=L.idxOf y+1 by omega,List.set_cons_succ,zIg hn h]
 congr 2
 exact List.map_congr_left fun z _=>by
  show (if z=y then O.dct (v.map tk) else O.dct ((B z).map tk))=O.dct ((if z=y then v else B z).map tk)
  by_cases e:z=y
  ·rw[if_pos e,if_pos e]
  ·rw[if_neg e,if_neg e]
abbrev zCI:SM:=(zJ (sIf (zc jU (zA 3) (zA 1))
  (jz (zA 1) (zA 3) jw)
  jE)
  (jz (eOp zU (zA 1) (zA 3)) (zA 2) (eC (.bl true))))
theorem zMa {S:M.S}{L:List T}{B:T->List T}{N:List T} (hN:N.length <= 62) {x y:T} (hx:x∈N) (hy:y∈N) {v0 v3:Option D} (hn:L.Nodup) (hL:∀ z∈L,z∈N) (h0:∀ z,z∉L->B z=[]) (hB:∀ z,(B z).Nodup/\∀ w∈B z,w∈N) :
  jm (zK 3) zCI (.str y) [v0,some (.ref S.length),some (.str x),v3] (S++nS S.length L B)=.nx [v0,some (.ref S.length),some (.str x),some (.str y)] (S++nS S.length (yE y L) (fun z=>if z=y then yE x (B y) else B z)):=by
 have ll:=qY hn hL
 have lb:=qY (hB y).1 (hB y).2
 have g1:∀ (o:O) (g:M.S),(S++o::g)[S.length]? = some o:=fun o g=>zd
 have g2:∀ (o o':O) (g:M.S),(S++o::g).set S.length o'=S++o'::g:=fun o o' g=>Jg
 have z1:(qS (S.length+1) L).length < SZ:=by rw[zGP];unfold SZ;omega
 have z2:((B y).map tk).length < SZ:=by rw[List.length_map];unfold SZ;omega
 have key:∀ L',L'.Nodup->y∈L'->(jz (eOp zU (zA 1) (zA 3)) (zA 2) (eC (.bl true))) [v0,some (.ref S.length),some (.str x),some (.str y)] (S++nS S.length L' B)=.nx [v0,some (.ref S.length),some (.str x),some (.str y)] (S++nS S.length L' (fun z=>if z=y then yE x (B y) else B z)):=fun L' hn' hm=>by
  have a1:jT (.str y) (qS (S.length+1) L')=some (.ref (S.length+1+L'.idxOf y)):=by rw[Z1,if_pos hm]
  have a2:(S++nS S.length L' B)[S.length+1+L'.idxOf y]? = some (.dct ((B y).map tk)):=by
   have:=zI8 (S:=S) (B:=B) hm []
   rwa [List.append_nil] at this
  have a3:=zPf (S:=S) (B:=B) (v:=yE x (B y)) hn' hm
  rw[<- zEP] at a3
  simp only[jz,eC,eOp,zA,R.stm_ok,R.bind_ok,List.getElem?_cons_succ,List.getElem?_cons_zero,zU,g1,jA,if_true,a1,y1,a2,z2,decide_true,Bool.and_self,a3]
 by_cases hm:y∈L
 ·have e1:yE y L=L:=by unfold yE;rw[if_pos hm]
  rw[e1]
  have a1:jT (.str y) (qS (S.length+1) L)=some (.ref (S.length+1+L.idxOf y)):=by rw[Z1,if_pos hm]
  have i1:(sIf (zc jU (zA 3) (zA 1)) (jz (zA 1) (zA 3) jw) jE) [v0,some (.ref S.length),some (.str x),some (.str y)] (S++nS S.length L B)=.nx [v0,some (.ref S.length),some (.str x),some (.str y)] (S++nS S.length L B):=by
   simp[g1,jA,a1]
  show ((sIf (zc jU (zA 3) (zA 1)) (jz (zA 1) (zA 3) jw) jE) [v0,some (.ref S.length),some (.str x),some (.str y)] (S++nS S.length L B)).then _=_
  rw[i1,RS.then_nx]
  exact key L hn hm
 ·have e1:yE y L=L++[y]:=by unfold yE;rw[if_neg hm]
  rw[e1]
  have a1:jT (.str y) (qS (S.length+1) L)=none:=by rw[Z1,if_neg hm]
  have len:(S++nS S.length L B).length=S.length+1+L.length:=by simp;omega
  have i1:(sIf (zc jU (zA 3) (zA 1)) (jz (zA 1) (zA 3) jw) jE) [v0,some (.ref S.length),some (.str x),some (.str y)] (S++nS S.length L B)=.nx [v0,some (.ref S.length),some (.str x),some (.str y)] (S++nS S.length (L++[y]) B):=by
   have r1:=zMW (L:=L) (b:=S.length+1) hm
   have e2:S++nS S.length (L++[y]) B=S++.dct (qS (S.length+1) (L++[y]))::(L.map (fun y=>O.dct ((B y).map tk))++[.dct []]):=by
    show S++(_::List.map _ (L++[y]))=_
    rw[List.map_append,List.map_cons,List.map_nil,h0 y hm];rfl
   have e3:(S++nS S.length L B)++[O.dct []]=S++.dct (qS (S.length+1) L)::(L.map (fun y=>O.dct ((B y).map tk))++[.dct []]):=by simp
   rw[e2,<- r1]
   simp only[sIf,zc,jU,zA,R.bind_ok,List.getElem?_cons_succ,List.getElem?_cons_zero,inD,g1,jA,if_true,a1,Option.isSome_none,R.stm_ok,Bool.not_false,jz,jw,alloc,len,e3,y1,z1,decide_true,Bool.and_self,g2]
  show ((sIf (zc jU (zA 3) (zA 1)) (jz (zA 1) (zA 3) jw) jE) [v0,some (.ref S.length),some (.str x),some (.str y)] (S++nS S.length L B)).then _=_
  rw[i1,RS.then_nx]
  refine key (L++[y]) ?_ (by simp)
  rw[<- e1];exact JR hn
structure NB (N:List T) (nd:List (T×List T)) (L:List T) (B:T->List T):Prop where
 nl:L.Nodup
 lN:∀ z∈L,z∈N
 out:∀ z,z∉L->B z=[]
 nb:∀ z,(B z).Nodup/\∀ w∈B z,w∈N
 mem:∀ z x,x∈B z ↔ ∃ q∈nd,q.1=x/\z∈q.2
theorem zHB {S:M.S}{N:List T} (hN:N.length <= 62) {nd:List (T×List T)}{x:T} (hx:x∈N) {v0:Option D}{G:Gd} (hG:∀ g,zW G (S++g)=true):∀ (ys zs:List T) (L:List T) (B:T->List T) (v3:Option D),(∀ y∈ys,y∈N)->NB N (nd++[(x,zs)]) L B ->
  ∃ v3' L' B',qK G (jm (zK 3) zCI) (ys.map .str) [v0,some (.ref S.length),some (.str x),v3] (S++nS S.length L B)=.nx [v0,some (.ref S.length),some (.str x),v3'] (S++nS S.length L' B')/\NB N (nd++[(x,zs++ys)]) L' B'
 | [],zs,L,B,v3,_,h=>⟨v3,L,B,rfl,by rw[List.append_nil];exact h⟩
 | y::ys,zs,L,B,v3,hy,h=>by
  have hy':=hy y List.mem_cons_self
  have e:=zMa (S:=S) (v0:=v0) (v3:=v3) hN hx hy' h.nl h.lN h.out h.nb
  have h':NB N (nd++[(x,zs++[y])]) (yE y L) (fun z=>if z=y then yE x (B y) else B z):=by
   refine⟨JR h.nl,fun z hz=>?_,fun z hz=>?_,fun z=>?_,fun z w=>?_⟩
   ·rcases Ze.mp hz with hz | hz
    ·exact h.lN z hz
    ·rw[hz];exact hy'
   ·have h1:z≠y:=fun q=>hz (Ze.mpr (.inr q))
    show (if z=y then yE x (B y) else B z)=[]
    rw[if_neg h1]
    exact h.out z fun q=>hz (Ze.mpr (.inl q))
   ·show (if z=y then yE x (B y) else B z).Nodup/\∀ w∈(if z=y then yE x (B y) else B z),w∈N
    by_cases e:z=y
    ·rw[if_pos e]
     refine⟨JR (h.nb y).1,fun w hw=>?_⟩
     rcases Ze.mp hw with hw | hw
     ·exact (h.nb y).2 w hw
     ·rw[hw];exact hx
    ·rw[if_neg e];exact h.nb z
   ·show w∈(if z=y then yE x (B y) else B z)↔_
    have hm:=h.mem z w
    constructor
    ·intro hw
     by_cases e:z=y
     ·rw[if_pos e] at hw
      rcases Ze.mp hw with hw | hw
      ·obtain⟨q,h1,h2,h3⟩:=(h.mem y w).mp hw
       rcases List.mem_append.mp h1 with h1 | h1
       ·exact⟨q,List.mem_append_left _ h1,h2,e ▸ h3⟩
       ·have hq:=List.mem_singleton.mp h1
        subst hq
        exact⟨(x,zs++[y]),List.mem_append_right _ (by simp),h2,by rw[e];simp⟩
      ·exact⟨(x,zs++[y]),List.mem_append_right _ (by simp),hw.symm,by rw[e];simp⟩
     ·rw[if_neg e] at hw
      obtain⟨q,h1,h2,h3⟩:=hm.mp hw
      rcases List.mem_append.mp h1 with h1 | h1
      ·exact⟨q,List.mem_append_left _ h1,h2,h3⟩
      ·have hq:=List.mem_singleton.mp h1
       subst hq
       exact⟨(x,zs++[y]),List.mem_append_right _ (by simp),h2,List.mem_append_left _ h3⟩
    ·rintro ⟨q,h1,h2,h3⟩
     have old:w∈B z->w∈(if z=y then yE x (B y) else B z):=fun hw=>by
      by_cases e:z=y
      ·rw[if_pos e];exact Ze.mpr (.inl (e ▸ hw))
      ·rw[if_neg e];exact hw
     rcases List.mem_append.mp h1 with h1 | h1
     ·exact old (hm.mpr ⟨q,List.mem_append_left _ h1,h2,h3⟩)
     ·have hq:=List.mem_singleton.mp h1
      subst hq
      rcases List.mem_append.mp h3 with h3 | h3
      ·exact old (hm.mpr ⟨(x,zs),List.mem_append_right _ (by simp),h2,h3⟩)
      ·have e:=List.mem_singleton.mp h3
       rw[if_pos e]
       exact Ze.mpr (.inr h2.symm)
  obtain⟨v3',L',B',e2,h2⟩:=zHB hN hx hG ys (zs++[y]) _ _ (some (.str y)) (fun w hw=>hy w (List.mem_cons_of_mem _ hw)) h'
  refine⟨v3',L',B',?_,by rw[List.append_assoc] at h2;exact h2⟩
  rw[List.map_cons,qK,e]
  dsimp only
  rw[if_pos (hG _),e2]
theorem NB.nil_row {N:List T}{nd:List (T×List T)}{L:List T}{B:T->List T} (x:T) (h:NB N nd L B):NB N (nd++[(x,[])]) L B :=
 ⟨h.nl,h.lN,h.out,h.nb,fun z w=>by
  rw[h.mem z w]
  constructor
  ·rintro ⟨q,h1,h2⟩;exact⟨q,List.mem_append_left _ h1,h2⟩
  ·rintro ⟨q,h1,h2,h3⟩
   rcases List.mem_append.mp h1 with h1 | h1
   ·exact⟨q,h1,h2,h3⟩
   ·rw[List.mem_singleton.mp h1] at h3;cases h3⟩
theorem zEA {S:M.S}{p:Nat}{kvs:List (D×D)}{nd:List (T×List T)}{N:List T} (hp:S[p]? = some (.dct kvs)) (dr:DR S kvs nd) (hn:(zZ nd).Nodup) (ok:OkN N nd) (hN:N.length <= 62) :
  ∃ L B,Z5 [.ref p] S=.ok (.ref S.length) (S++nS S.length L B)/\NB N nd L B:=by
 obtain⟨S',hS⟩:∃ S',S'=S.set p (.fdc kvs):=⟨_,rfl⟩
 have hSl:S'.length=S.length:=by rw[hS,List.length_set]
 have hf:∀ (r:Nat) (xs:List D),S[r]? = some (.lst xs)->S'[r]? = some (.lst xs):=fun r xs e=>by rw[hS];exact zDA hp (fun _ z=>nomatch z) e
 have hp':∀ g,(S'++g)[p]? = some (.fdc kvs):=fun g=>zm (by rw[hS];exact zAl hp) g
 have hkeys:kvs.map (·.1)=nd.map fun q=>.str q.1:=dr.keys
 obtain⟨σ',s',e5,⟨v2,v3,eσ⟩,L,B,es,nb⟩:=yf (g:=[]) (f:=jm (zK 2) (qq (iE (eOp zU (zA 0) (zA 2))) (zK 3) zCI))
  (fun j σ s=>(∃ v2 v3:Option D,σ=[some (.ref p),some (.ref S'.length),v2,v3])/\∃ L B,s=S'++nS S'.length L B/\NB N (nd.take j) L B)
  (nd.map fun q=>D.str q.1) 0 [some (.ref p),some (.ref S'.length),none,none] (S'++[O.dct []]) ⟨⟨none,none,rfl⟩,[],fun _=>[],rfl,List.nodup_nil,fun z h=>(by cases h),fun _ _=>rfl,fun _=>⟨List.nodup_nil,fun w h=>(by cases h)⟩,fun z x=>by simp⟩ fun j x hx σ s ⟨⟨v2,v3,eσ⟩,L,B,es,nb⟩=>by
   rw[Nat.zero_add] at nb ⊢
   subst eσ
   subst es
   rw[List.getElem?_map] at hx
   cases q:nd[j]? with
   | none=>rw[q] at hx;cases hx
   | some pr =>
    rw[q] at hx
    have hx':x=.str pr.1:=by simpa using hx.symm
    subst hx'
    have hmem:pr∈nd:=List.mem_of_getElem? q
    obtain⟨o1,o2,o3⟩:=ok pr hmem
    have lk:=Jz hn hmem
    obtain⟨r,er,e3⟩:∃ r,jT (.str pr.1) kvs=some (.ref r)/\S[r]? = some (.lst (pr.2.map .str)):=by
     rcases dr.get pr.1 with ⟨h1,_⟩ | ⟨row,r,h1,h2,h3⟩
     ·rw[lk] at h1;cases h1
     ·rw[lk] at h1;cases h1;exact⟨r,h2,h3⟩
    have g3:∀ g,(S'++g)[r]? = some (.lst (pr.2.map .str)):=fun g=>zm (hf r _ e3) _
    have hg:∀ g,zW [(r,O.lst (pr.2.map .str))] (S'++g)=true:=fun g=>by simp[zW,g3]
    obtain⟨v3',L',B',e2,nb2⟩:=zHB (S:=S') (v0:=some (.ref p)) hN o1 hg pr.2 [] L B v3 o3 (nb.nil_row pr.1)
    refine⟨[some (.ref p),some (.ref S'.length),some (.str pr.1),v3'],S'++nS S'.length L' B',?_,rfl,⟨_,_,rfl⟩,L',B',rfl,?_⟩
    ·show (qq (iE (eOp zU (zA 0) (zA 2))) (zK 3) zCI) [some (.ref p),some (.ref S'.length),some (.str pr.1),v3] (S'++nS S'.length L B)=_
     simp only[qq,iE,eOp,zA,List.getElem?_cons_succ,List.getElem?_cons_zero,R.bind_ok,zU,hp',jA,if_true,er,itD,g3,R.stm_ok,hg]
     exact e2
    ·rw[List.take_succ,q,Option.toList_some]
     exact nb2
 rw[Nat.zero_add,List.length_map,List.take_length] at nb
 subst eσ
 subst es
 refine⟨L,B,?_,nb⟩
 have g5:(S++[O.dct []])[p]? = some (.dct kvs):=zm hp _
 have s5:(S++[O.dct []]).set p (.fdc kvs)=S'++[O.dct []]:=by rw[zAo hp,hS]
 have e6:(qA (zA 0) (zK 2) (qq (iE (eOp zU (zA 0) (zA 2))) (zK 3) zCI)) [some (.ref p),some (.ref S.length),none,none] (S++[O.dct []])=.nx [some (.ref p),some (.ref S.length),v2,v3] (S++nS S.length L B):=by
  rw[hSl] at e5
  simp only[qA,zA,List.getElem?_cons_zero,R.stm_ok,g5,s5,hkeys,e5]
  rw[hS]
  exact y7 hp _
 show ((Z8 [some (.ref p),none,none,none] S).out)=_
 unfold Z8
 have e0:(zT 1 jw) [some (.ref p),none,none,none] S=.nx [some (.ref p),some (.ref S.length),none,none] (S++[.dct []]):=by simp
 show ((((zT 1 jw) _ _).then _).out)=_
 rw[e0,RS.then_nx]
 show ((((qA _ _ _) _ _).then _).out)=_
 rw[e6]
 simp
def JP:SM :=
  (zJ (Qv 2 (Z7 0 (zT 1 (zI JH (zB (jY 1 (yY (zA 0)) (zK 4) qc (Jp (zB (zA 4) (zB (eC (.bl true)) zD)))) zD)))))
  (zJ (qA (zA 0) (zK 2)
  (qq (iE (eOp zU (zA 0) (zA 2))) (zK 3)
  (jz (zA 1) (zA 3) (eC (.bl true)))))
  (jK (zI Jb (zB (zA 1) zD)))))
def zED:F:=fn 4 JP
def Zg:F:=chN zED
theorem zIB:jO 1 zED Zg:=zCh _
theorem zIT:∀ (ys ks:List T),(ys.map tk).foldl (fun a p=>jx p.1 p.2 a) (ks.map tk)=(yb ks ys).map tk
 | [],_=>rfl
 | y::ys,ks=>by
  rw[List.map_cons,List.foldl_cons,zEP,zIT ys]
  rfl
theorem zFV {α:Type} (k:α->T) (f:α->D) (ys:List α):JW (ys.map fun y=>.tup [.str (k y),f y])=some (ys.map fun y=>(.str (k y),f y)):=by
 induction ys with
 | nil=>rfl
 | cons y ys ih =>
  show (if jA (.str (k y)) then (JW (ys.map fun y=>.tup [.str (k y),f y])).map _ else none)=_
  rw[ih]
  rfl
theorem DR.keysT {s:M.S}{kvs:List (D×D)}{nd:List (T×List T)} (h:DR s kvs nd):kvs.map (·.1)=(zZ nd).map D.str:=by
 rw[h.keys];unfold zZ;rw[List.map_map];rfl
abbrev zCa:SM:=(qq (iE (eOp zU (zA 0) (zA 2))) (zK 3)
  (jz (zA 1) (zA 3) (eC (.bl true))))
theorem zNZ {S:M.S}{p:Nat}{kvs:List (D×D)}{nd:List (T×List T)}{N:List T} (hp:S[p]? = some (.dct kvs)) (dr:DR S kvs nd) (hn:(zZ nd).Nodup) (ok:OkN N nd) (hN:N.length <= 62) {ks0:List T} (k0:ks0.Nodup) (k0N:∀ x∈ks0,x∈N) {v2 v3:Option D} :
  ∃ (v2' v3':Option D) (ks:List T),(qA (zA 0) (zK 2) zCa) [some (.ref p),some (.ref S.length),v2,v3] (S++[.dct (ks0.map tk)])=.nx [some (.ref p),some (.ref S.length),v2',v3'] (S++[.dct (ks.map tk)])/\ks.Nodup/\(∀ x∈ks,x∈N)/\∀ x,x∈ks↔x∈ks0\/∃ q∈nd,x∈q.2:=by
 obtain⟨S',hS⟩:∃ S',S'=S.set p (.fdc kvs):=⟨_,rfl⟩
 have hSl:S'.length=S.length:=by rw[hS,List.length_set]
 have hf:∀ (r:Nat) (xs:List D),S[r]? = some (.lst xs)->S'[r]? = some (.lst xs):=fun r xs e=>by rw[hS];exact zDA hp (fun _ z=>nomatch z) e
 have hp':∀ g,(S'++g)[p]? = some (.fdc kvs):=fun g=>zm (by rw[hS];exact zAl hp) g
 have hkeys:kvs.map (·.1)=nd.map fun q=>.str q.1:=dr.keys
 obtain⟨σ',s',e5,⟨v2',v3',eσ⟩,ks,es,kn,kN,km⟩:=yf (g:=[]) (f:=jm (zK 2) zCa)
  (fun j σ s=>(∃ v2 v3:Option D,σ=[some (.ref p),some (.ref S'.length),v2,v3])/\∃ ks:List T,s=S'++[.dct (ks.map tk)]/\ks.Nodup/\(∀ x∈ks,x∈N)/\∀ x,x∈ks↔x∈ks0\/∃ q∈nd.take j,x∈q.2)
  (nd.map fun q=>D.str q.1) 0 [some (.ref p),some (.ref S'.length),v2,v3] (S'++[O.dct (ks0.map tk)]) ⟨⟨v2,v3,rfl⟩,ks0,rfl,k0,k0N,fun x=>by simp⟩ fun j x hx σ s ⟨⟨v2,v3,eσ⟩,ks,es,kn,kN,km⟩=>by
   rw[Nat.zero_add] at km ⊢
   subst eσ
   subst es
   rw[List.getElem?_map] at hx
   cases q:nd[j]? with
   | none=>rw[q] at hx;cases hx
   | some pr =>
    rw[q] at hx
    have hx':x=.str pr.1:=by simpa using hx.symm
    subst hx'
    have hmem:pr∈nd:=List.mem_of_getElem? q
    obtain⟨o1,o2,o3⟩:=ok pr hmem
    have lk:=Jz hn hmem
    obtain⟨r,er,e3⟩:∃ r,jT (.str pr.1) kvs=some (.ref r)/\S[r]? = some (.lst (pr.2.map .str)):=by
     rcases dr.get pr.1 with ⟨h1,_⟩ | ⟨row,r,h1,h2,h3⟩
     ·rw[lk] at h1;cases h1
     ·rw[lk] at h1;cases h1;exact⟨r,h2,h3⟩
    have g3:∀ g,(S'++g)[r]? = some (.lst (pr.2.map .str)):=fun g=>zm (hf r _ e3) _
    have hg:∀ g,zW [(r,O.lst (pr.2.map .str))] (S'++g)=true:=fun g=>by simp[zW,g3]
    obtain⟨v',el⟩:=zGk (S':=S') (σ:=[some (.ref p),some (.ref S'.length),some (.str pr.1),v3]) (a:=1) (i:=3) hN rfl (by decide) (by simp) hg pr.2 ks v3 kn kN o3
    refine⟨[some (.ref p),some (.ref S'.length),some (.str pr.1),v'],S'++[.dct ((yb ks pr.2).map tk)],?_,rfl,⟨_,_,rfl⟩,_,rfl,JL kn,fun x hx=>?_,fun x=>?_⟩
    ·show zCa [some (.ref p),some (.ref S'.length),some (.str pr.1),v3] (S'++[.dct (ks.map tk)])=_
     simp only[zCa,qq,iE,eOp,zA,List.getElem?_cons_succ,List.getElem?_cons_zero,R.bind_ok,zU,hp',jA,if_true,er,itD,g3,R.stm_ok,hg]
     exact el
    ·rcases JK.mp hx with h | h
     ·exact kN x h
     ·exact o3 x h
    ·rw[JK,km x,List.take_succ,q,Option.toList_some]
     constructor
     ·rintro ((h | ⟨q,h1,h2⟩) | h)
      ·exact .inl h
      ·exact .inr ⟨q,List.mem_append_left _ h1,h2⟩
      ·exact .inr ⟨pr,List.mem_append_right _ (by simp),h⟩
     ·rintro (h | ⟨q,h1,h2⟩)
      ·exact .inl (.inl h)
      ·rcases List.mem_append.mp h1 with h1 | h1
       ·exact .inl (.inr ⟨q,h1,h2⟩)
       ·rw[List.mem_singleton.mp h1] at h2;exact .inr h2
 rw[Nat.zero_add,List.length_map,List.take_length] at km
 subst eσ
 subst es
 refine⟨v2',v3',ks,?_,kn,kN,km⟩
 have g5:(S++[O.dct (ks0.map tk)])[p]? = some (.dct kvs):=zm hp _
 have s5:(S++[O.dct (ks0.map tk)]).set p (.fdc kvs)=S'++[O.dct (ks0.map tk)]:=by rw[zAo hp,hS]
 rw[hSl] at e5
 simp only[qA,zA,List.getElem?_cons_zero,R.stm_ok,g5,s5,hkeys,e5]
 rw[hS]
 exact y7 hp _
theorem zKy {S:M.S}{p:Nat}{kvs:List (D×D)}{nd:List (T×List T)}{N:List T} (hp:S[p]? = some (.dct kvs)) (dr:DR S kvs nd) (hn:(zZ nd).Nodup) (ok:OkN N nd) (hN:N.length <= 62) :
  ∃ V:List T,V.Pairwise NLt/\V.Nodup/\(∀ x,x∈V↔inV nd x)/\V.length <= N.length/\Zg [.ref p] S=alloc (.lst (V.map .str)) S:=by
 obtain⟨S',hS⟩:∃ S',S'=S.set p (.fdc kvs):=⟨_,rfl⟩
 have hp':S'[p]? = some (.fdc kvs):=by rw[hS];exact zAl hp
 have kl:(zZ nd).length <= 62:=by
  have:=qY (N:=N) hn fun x hx=>by
   unfold zZ at hx
   obtain⟨q,h1,rfl⟩:=List.mem_map.mp hx
   exact (ok q h1).1
  omega
 generalize hks:zZ nd=K0 at *
 have ec:qJ 1 (yY (zA 0)) (zK 4) qc (Jp (zB (zA 4) (zB (eC (.bl true)) zD))) [some (.ref p),none,none,none] S'=.ok (K0.map fun x=>.tup [.str x,.bl true]) S':=by
  have:=zDY (n:=1) (it:=yY (zA 0)) (tg:=zK 4) (e:=Jp (zB (zA 4) (zB (eC (.bl true)) zD))) (σ:=[some (.ref p),none,none,none]) (s:=S') (xs:=K0.map D.str) (g:=[]) (fun d=>.tup [d,.bl true]) (by
   have e1:kvs.map (·.1)=K0.map D.str:=by rw[dr.keysT,hks]
   simp only[yY,zA,List.getElem?_cons_zero,R.bind_ok,hp',e1]) (by rw[List.length_map];unfold SZ;omega) rfl fun x hx=>by
    have z2:2 <= SZ:=by unfold SZ;omega
    simp[z2]
  rw[this,List.map_map]
  rfl
 have pd:JW (K0.map fun x=>D.tup [.str x,.bl true])=some (K0.map tk):=zFV (fun x=>x) (fun _=>.bl true) K0
 have pt:zGF (K0.map tk)=(yb [] K0).map tk:=zIT K0 []
 have z1:(K0.map tk).length <= 1000:=by rw[List.length_map];omega
 have kn0:(yb [] K0).Nodup:=JL List.nodup_nil
 have km0:∀ x,x∈yb [] K0↔x∈K0:=fun x=>by rw[JK];simp
 have e1:(Qv 2 (Z7 0 (zT 1 (zI JH (zB (jY 1 (yY (zA 0)) (zK 4) qc (Jp (zB (zA 4) (zB (eC (.bl true)) zD)))) zD))))) [some (.ref p),none,none,none] S=.nx [some (.ref p),some (.ref (S.length+1)),none,none] (S++[.lst (K0.map fun x=>.tup [.str x,.bl true]),.dct ((yb [] K0).map tk)]):=by
  have hSl:S'.length=S.length:=by rw[hS,List.length_set]
  have g7:(S'++[O.lst (K0.map fun x=>D.tup [.str x,.bl true])])[S.length]? = some (.lst (K0.map fun x=>.tup [.str x,.bl true])):=by rw[<- hSl];exact zd
  have ht:=y7 (g:=[.lst (K0.map fun x=>.tup [.str x,.bl true]),.dct ((yb [] K0).map tk)]) hp [some (.ref p),some (.ref (S.length+1)),none,none]
  rw[<- hS] at ht
  simp only[Qv,Z7,List.set_cons_succ,List.set_cons_zero,List.getElem?_cons_zero,hp,<- hS,zT,zI,zB,zD,jY,ec,R.bind_ok,alloc,JH,hSl,g7,pd,z1,if_true,pt,R.stm_ok,List.length_append,List.length_cons,List.length_nil,List.append_assoc,List.cons_append,List.nil_append,Nat.zero_add,ht,zC1]
 have hp1:(S++[O.lst (K0.map fun x=>D.tup [.str x,.bl true])])[p]? = some (.dct kvs):=zm hp _
 have k0N:∀ x∈yb [] K0,x∈N:=fun x hx=>by
  have hx:=(km0 x).mp hx
  rw[<- hks] at hx
  unfold zZ at hx
  obtain⟨q,h1,rfl⟩:=List.mem_map.mp hx
  exact (ok q h1).1
 obtain⟨v2',v3',ks,e2,kn,kN,km⟩:=zNZ hp1 (dr.mono (ZV.app _ _)) (by rw[hks];exact hn) ok hN kn0 k0N (v2:=none) (v3:=none)
 have hl:=qY kn kN
 refine⟨qp ks,zHW ks,zQf kn,fun x=>?_,by rw[(Js ks).length_eq];exact hl,?_⟩
 ·rw[(Js ks).mem_iff,km x,km0 x,<- hks];rfl
 refine zCR (g:=[.lst (K0.map fun x=>.tup [.str x,.bl true]),.dct (ks.map tk),.lst ((qp ks).map .str)]) (j:=S.length+2) ?_ (by rw[List.getElem?_append_right (by omega),show S.length+2 - S.length=2 by omega];rfl) (by omega) (JC _ _)
 show ((JP [some (.ref p),none,none,none] S).out)=_
 unfold JP
 show ((((Qv 2 _) _ _).then _).out)=_
 rw[e1,RS.then_nx]
 have e2':(qA (zA 0) (zK 2) zCa) [some (.ref p),some (.ref (S.length+1)),none,none] (S++[.lst (K0.map fun x=>.tup [.str x,.bl true]),.dct ((yb [] K0).map tk)])=.nx [some (.ref p),some (.ref (S.length+1)),v2',v3'] (S++[.lst (K0.map fun x=>.tup [.str x,.bl true]),.dct (ks.map tk)]):=by
  have el:(S++[O.lst (K0.map fun x=>D.tup [.str x,.bl true])]).length=S.length+1:=by simp
  rw[el] at e2
  simpa only[List.append_assoc,List.cons_append,List.nil_append] using e2
 show ((((qA _ _ _) _ _).then _).out)=_
 rw[e2',RS.then_nx]
 have g7:(S++[O.lst (K0.map fun x=>D.tup [.str x,.bl true]),.dct (ks.map tk)])[S.length+1]? = some (.dct (ks.map tk)):=by
  rw[List.getElem?_append_right (by omega),show S.length+1 - S.length=1 by omega];rfl
 simp only[jK,zI,zB,zD,zA,List.getElem?_cons_succ,List.getElem?_cons_zero,R.bind_ok,Jb,g7,zDv (show ks.length < 64 by omega),alloc,R.stm_ok,RS.out_rt]
 simp
def QG:SM :=
  (zT 1 (zI Z5 (zB (zA 0) zD)))
def QN:SM :=
  (Qv 7 (zT 2 (zI JH (zB (jY 1 (iE (zI Zg (zB (zA 0) zD))) (zK 9) qc (Jp (zB (zA 9) (zB (eC .non) zD)))) zD))))
def Zx:SM :=
  (Qv 7 (Z7 2 (zT 3 (zI JH (zB (jY 1 (yY (zA 2)) (zK 9) qc (Jp (zB (zA 9) (zB (zI ZQ (zB (eM .dict ZA (zA 0) (zB (zA 9) (zB (qD zD) zD))) zD)) zD)))) zD)))))
def Z0:SM :=
  (Qv 7 (Z7 2 (zT 4 (jY 1 (yY (zA 2)) (zK 9) (zc cEq (eOp zU (zA 3) (zA 9)) (eC (.int 0))) (zA 9)))))
def Q5:SM :=
  (zT 5 (eC (.int 0)))
def Q6:SM :=
  (zAi (zc cGt (zI jo (zB (zA 4) zD)) (eC (.int 0)))
  (zJ (zT 6 (qD zD))
  (zJ (qq (iE (zA 4)) (zK 7)
  (zJ (jz (zA 2) (zA 7) (zA 5))
  (qA (eM .dict ZA (zA 1) (zB (zA 7) (zB jw zD))) (zK 8)
  (zJ (zAS zC3 (zA 3) (zA 8) (eC (.int 1)))
  (sIf (zc cEq (eOp zU (zA 3) (zA 8)) (eC (.int 0)))
  (yR (eM .list q8 (zA 6) (zB (zA 8) zD)))
  jE)))))
  (zJ (zT 4 (zA 6))
  (zHy zJq 5 (eC (.int 1)))))))
def zAD:SM :=
  (jK (zA 2))
def zEd:SM:=(zJ QG (zJ QN (zJ Zx (zJ Z0 (zJ Q5 (zJ Q6 zAD))))))
def zIq:F:=fn 9 zEd
def Je:F:=chN zIq
theorem zLd:jO 1 zIq Je:=zCh _
def nOf (nd:List (T×List T)) (x:T):List T:=(nd.lookup x).getD []
theorem zEq:∀ (ys acc:List T),yj acc ys=yb acc ys
 | [],_=>rfl
 | y::ys,acc=>by
  show yj (if acc.contains y then acc else acc++[y]) ys=yb (yE y acc) ys
  rw[zEq ys]
  congr 1
  unfold yE
  by_cases h:y∈acc<;>simp[h]
def jD (nd:List (T×List T)) (rk:T->Option Nat) (z:T):Nat:=((yj [] (nOf nd z)).filter fun y=>(rk y).isNone).length
theorem zC2 {y:T}{ys:List T}:y∈yj [] ys↔y∈ys:=by rw[zEq,JK];simp
theorem zKO (ys:List T):(yj [] ys).Nodup:=by rw[zEq];exact JL List.nodup_nil
theorem JB {nd:List (T×List T)}{rk:T->Option Nat}{z:T}:jD nd rk z=0 ↔ ∀ y∈nOf nd z,rk y≠none:=by
 unfold jD
 rw[List.length_eq_zero_iff,List.filter_eq_nil_iff]
 constructor
 ·intro h y hy e
  exact h y (zC2.mpr hy) (by rw[e];rfl)
 ·intro h y hy e
  exact h y (zC2.mp hy) (by simpa using e)
theorem zBl {p:T->Bool}{l:T} (hp:p l=true):∀ {U:List T},U.Nodup->(U.filter fun y=>p y && decide (y≠l)).length+(if l∈U then 1 else 0)=(U.filter p).length
 | [],_=>rfl
 | u::U,hn=>by
  rw[List.nodup_cons] at hn
  have ih:=zBl hp hn.2
  rw[List.filter_cons,List.filter_cons]
  by_cases e:u=l
  ·have e1:(p u && decide (u≠l))=false:=by simp[e]
   rw[e1,e,hp,if_pos List.mem_cons_self]
   rw[if_neg (e ▸ hn.1)] at ih
   simp only[Bool.false_eq_true,if_false,if_true,List.length_cons]
   omega
  ·have hm:(l∈u::U)↔l∈U:=by simp[Ne.symm e]
   have e1:(p u && decide (u≠l))=p u:=by simp[e]
   rw[e1]
   by_cases h:l∈U
   ·rw[if_pos h] at ih
    rw[if_pos (hm.mpr h)]
    cases p u<;>simp only[Bool.false_eq_true,if_false,if_true,List.length_cons]<;>omega
   ·rw[if_neg h] at ih
    rw[if_neg (fun z=>h (hm.mp z))]
    cases p u<;>simp only[Bool.false_eq_true,if_false,if_true,List.length_cons]<;>omega
def zBG (rk:T->Option Nat) (l:T) (r:Nat):T->Option Nat:=fun z=>if z=l then some r else rk z
theorem zFj {nd:List (T×List T)}{rk:T->Option Nat}{l:T}{r:Nat} (hl:rk l=none) (z:T):jD nd (zBG rk l r) z+(if l∈nOf nd z then 1 else 0)=jD nd rk z:=by
 unfold jD
 have h:=zBl (p:=fun y=>(rk y).isNone) (l:=l) (by rw[hl];rfl) (zKO (nOf nd z))
 rw[<- h]
 congr 1
 ·congr 1
  refine List.filter_congr fun y _=>?_
  unfold zBG
  by_cases e:y=l
  ·rw[if_pos e];simp[e]
  ·rw[if_neg e];simp[e]
 ·by_cases e:l∈nOf nd z
  ·rw[if_pos e,if_pos (zC2.mpr e)]
  ·rw[if_neg e,if_neg (fun q=>e (zC2.mp q))]
theorem zAW {nd:List (T×List T)} (hn:(zZ nd).Nodup) {x y:T}:y∈nOf nd x ↔ ∃ q∈nd,q.1=x/\y∈q.2:=by
 unfold nOf
 constructor
 ·intro h
  cases e:nd.lookup x with
  | none=>rw[e] at h;cases h
  | some row =>
   rw[e] at h
   have h1:(x,row)∈nd:=by
    clear hn
    induction nd with
    | nil=>cases e
    | cons q nd ih =>
     obtain⟨k,v⟩:=q
     rw[List.lookup_cons] at e
     cases hk:x == k with
     | true =>
      rw[hk] at e
      have:=eq_of_beq hk
      subst this
      cases e
      exact List.mem_cons_self
     | false=>rw[hk] at e;exact List.mem_cons_of_mem _ (ih e)
   exact⟨(x,row),h1,rfl,h⟩
 ·rintro ⟨q,h1,rfl,h2⟩
  rw[Jz hn h1]
  exact h2
structure RK (nd:List (T×List T)) (V:List T) (rk:T->Option Nat):Prop where
 no:∀ z∈V,rk z=none->∃ y∈nOf nd z,rk y=none
 inn:∀ z k,rk z=some k->z∈V
 low:∀ z k,rk z=some k->∀ y∈nOf nd z,∃ j,j < k/\rk y=some j
 zero:∀ z,rk z=some 0->nOf nd z=[]
 near:∀ z k,rk z=some (k+1)->∃ y∈nOf nd z,rk y=some k
structure WI (nd:List (T×List T)) (V:List T) (r:Nat) (rk:T->Option Nat) (lv:List T):Prop where
 nl:lv.Nodup
 lm:∀ z,z∈lv↔z∈V/\rk z=none/\jD nd rk z=0
 inn:∀ z k,rk z=some k->z∈V/\k < r
 low:∀ z k,rk z=some k->∀ y∈nOf nd z,∃ j,j < k/\rk y=some j
 zero:∀ z,rk z=some 0->nOf nd z=[]
 near:∀ z k,rk z=some (k+1)->∃ y∈nOf nd z,rk y=some k
 l0:r=0->∀ z∈lv,nOf nd z=[]
 l1:∀ k,r=k+1->∀ z∈lv,∃ y∈nOf nd z,rk y=some k
def rkL (rk:T->Option Nat) (ls:List T) (r:Nat):T->Option Nat:=fun z=>if z∈ls then some r else rk z
theorem zDR (rk:T->Option Nat) (ls:List T) (r:Nat) (l:T):rkL rk (ls++[l]) r=zBG (rkL rk ls r) l r:=by
 funext z
 unfold rkL zBG
 by_cases h1:z=l
 ·simp[h1]
 ·by_cases h2:z∈ls<;>simp[h1,h2]
theorem zIX (rk:T->Option Nat) (r:Nat):rkL rk [] r=rk:=by funext z;simp[rkL]
structure LI (nd:List (T×List T)) (V:List T) (rk rk':T->Option Nat) (as:List T):Prop where
 un:as.Nodup
 mem:∀ z,z∈as↔z∈V/\jD nd rk z≠0/\jD nd rk' z=0
 le:∀ z,jD nd rk' z <= jD nd rk z
theorem LI.step {nd:List (T×List T)}{V:List T}{rk rk':T->Option Nat}{as bs:List T}{l:T}{r:Nat} (h:LI nd V rk rk' as) (hl:rk' l=none) (hb:bs.Nodup) (hbm:∀ z,z∈bs↔l∈nOf nd z) (hbV:∀ z∈bs,z∈V) :
  LI nd V rk (zBG rk' l r) (as++bs.filter fun z=>decide ((jD nd rk' z:Int)=1)):=by
 have st:=fun z=>zFj (nd:=nd) (r:=r) hl z
 refine⟨?_,fun z=>?_,fun z=>?_⟩
 ·rw[List.nodup_append]
  refine⟨h.un,hb.sublist List.filter_sublist,fun a ha b hb' e=>?_⟩
  subst e
  have h1:=(h.mem a).mp ha
  have h2:=(List.mem_filter.mp hb').2
  have:(jD nd rk' a:Int)=1:=of_decide_eq_true h2
  omega
 ·rw[List.mem_append,h.mem z,List.mem_filter]
  have s1:=st z
  have s2:=h.le z
  constructor
  ·rintro (⟨h1,h2,h3⟩ | ⟨h1,h2⟩)
   ·exact⟨h1,h2,by omega⟩
   ·have h2':(jD nd rk' z:Int)=1:=of_decide_eq_true h2
    rw[if_pos ((hbm z).mp h1)] at s1
    exact⟨hbV z h1,by omega,by omega⟩
  ·rintro ⟨h1,h2,h3⟩
   by_cases e:jD nd rk' z=0
   ·exact .inl ⟨h1,h2,e⟩
   ·by_cases hm:l∈nOf nd z
    ·rw[if_pos hm] at s1
     exact .inr ⟨(hbm z).mpr hm,decide_eq_true (by omega)⟩
    ·rw[if_neg hm] at s1;omega
 ·have s1:=st z
  have s2:=h.le z
  omega
theorem LI.start {nd:List (T×List T)}{V:List T}{rk:T->Option Nat}:LI nd V rk rk []:=⟨List.nodup_nil,fun z=>by
 constructor
 ·intro h;cases h
 ·rintro ⟨_,h1,h2⟩;exact absurd h2 h1,fun z=>Nat.le_refl _⟩
theorem WI.next {nd:List (T×List T)}{V:List T}{r:Nat}{rk:T->Option Nat}{lv as:List T} (w:WI nd V r rk lv) (h:LI nd V rk (rkL rk lv r) as):WI nd V (r+1) (rkL rk lv r) as:=by
 have up:∀ z k,rk z=some k->rkL rk lv r z=some k:=fun z k e=>by
  unfold rkL
  rw[if_neg (fun hz=>by have:=((w.lm z).mp hz).2.1;rw[e] at this;cases this)]
  exact e
 have dn:∀ z k,rkL rk lv r z=some k->(z∈lv/\k=r)\/(z∉lv/\rk z=some k):=fun z k e=>by
  unfold rkL at e
  by_cases hz:z∈lv
  ·rw[if_pos hz] at e;cases e;exact .inl ⟨hz,rfl⟩
  ·rw[if_neg hz] at e;exact .inr ⟨hz,e⟩
 refine⟨h.un,fun z=>?_,fun z k e=>?_,fun z k e y hy=>?_,fun z e=>?_,fun z k e=>?_,fun z=>by omega,fun k hk z hz=>?_⟩
 ·rw[h.mem z]
  constructor
  ·rintro ⟨h1,h2,h3⟩
   refine⟨h1,?_,h3⟩
   unfold rkL
   rw[if_neg (fun hz=>h2 ((w.lm z).mp hz).2.2)]
   cases e:rk z with
   | none=>rfl
   | some k =>
    refine absurd (JB.mpr fun y hy q=>?_) h2
    obtain⟨j,_,hj⟩:=w.low z k e y hy
    rw[hj] at q;cases q
  ·rintro ⟨h1,h2,h3⟩
   refine⟨h1,fun q=>?_,h3⟩
   unfold rkL at h2
   by_cases hz:z∈lv
   ·rw[if_pos hz] at h2;cases h2
   ·rw[if_neg hz] at h2;exact hz ((w.lm z).mpr ⟨h1,h2,q⟩)
 ·rcases dn z k e with ⟨h1,rfl⟩ | ⟨_,h2⟩
  ·exact⟨((w.lm z).mp h1).1,by omega⟩
  ·have:=w.inn z k h2;exact⟨this.1,by omega⟩
 ·rcases dn z k e with ⟨h1,rfl⟩ | ⟨_,h2⟩
  ·have:=JB.mp ((w.lm z).mp h1).2.2 y hy
   cases q:rk y with
   | none=>exact absurd q this
   | some j=>exact⟨j,(w.inn y j q).2,up y j q⟩
  ·obtain⟨j,h3,h4⟩:=w.low z k h2 y hy
   exact⟨j,h3,up y j h4⟩
 ·rcases dn z 0 e with ⟨h1,h2⟩ | ⟨_,h2⟩
  ·exact w.l0 h2.symm z h1
  ·exact w.zero z h2
 ·rcases dn z (k+1) e with ⟨h1,h2⟩ | ⟨_,h2⟩
  ·obtain⟨y,h3,h4⟩:=w.l1 k h2.symm z h1
   exact⟨y,h3,up y k h4⟩
  ·obtain⟨y,h3,h4⟩:=w.near z k h2
   exact⟨y,h3,up y k h4⟩
 ·have hk':k=r:=by omega
  subst hk'
  obtain⟨h1,h2,h3⟩:=(h.mem z).mp hz
  have h3':=JB.mp h3
  cases q:(nOf nd z).find? fun y=>(rk y).isNone with
  | none =>
   refine absurd (JB.mpr fun y hy e=>?_) h2
   have:=List.find?_eq_none.mp q y hy
   rw[e] at this
   exact this rfl
  | some y =>
   have hy:=List.mem_of_find?_eq_some q
   have hn:rk y=none:=by have:=List.find?_some q;simpa using this
   refine⟨y,hy,?_⟩
   have:=h3' y hy
   unfold rkL at this ⊢
   by_cases hyl:y∈lv
   ·rw[if_pos hyl]
   ·rw[if_neg hyl] at this;exact absurd hn this
theorem WI.last {nd:List (T×List T)}{V:List T}{r:Nat}{rk:T->Option Nat} (w:WI nd V r rk []):RK nd V rk:=⟨fun z hz e=>by
 cases q:(nOf nd z).find? fun y=>(rk y).isNone with
 | none =>
  have:z∈([]:List T):=(w.lm z).mpr ⟨hz,e,JB.mpr fun y hy e2=>by
   have:=List.find?_eq_none.mp q y hy
   rw[e2] at this
   exact this rfl⟩
  cases this
 | some y=>exact⟨y,List.mem_of_find?_eq_some q,by have:=List.find?_some q;simpa using this⟩,fun z k e=>(w.inn z k e).1,w.low,w.zero,w.near⟩
def zCz (V:List T) (rk:T->Option Nat):Nat:=(V.filter fun z=>(rk z).isNone).length
theorem zFa {V:List T}{rk:T->Option Nat}{lv:List T}{r:Nat} (hV:V.Nodup) {l:T} (hl:l∈lv) (hlV:l∈V) (h:rk l=none):zCz V (rkL rk lv r) < zCz V rk:=by
 have h1:=zBl (p:=fun y=>(rk y).isNone) (l:=l) (by rw[h];rfl) hV
 rw[if_pos hlV] at h1
 unfold zCz
 have:(V.filter fun z=>(rkL rk lv r z).isNone).length <= (V.filter fun y=>(rk y).isNone && decide (y≠l)).length:=by
  have e:(V.filter fun z=>(rkL rk lv r z).isNone)=(V.filter fun y=>(rk y).isNone && decide (y≠l)).filter fun z=>(rkL rk lv r z).isNone:=by
   rw[List.filter_filter]
   refine List.filter_congr fun z _=>?_
   unfold rkL
   by_cases hz:z∈lv
   ·simp[hz]
   ·have:z≠l:=fun e=>hz (e ▸ hl)
    simp[hz,this]
  rw[e]
  exact List.length_filter_le _ _
 omega
def fD (V:List T) (f:T->D):List (D×D):=V.map fun x=>(D.str x,f x)
theorem ZR {f:T->D}:∀ {V:List T}{x:T},x∈V->jT (.str x) (fD V f)=some (f x)
 | [],_,h=>by cases h
 | v::V,x,h=>by
  unfold fD jT
  rw[List.map_cons,List.lookup_cons]
  by_cases e:x=v
  ·subst e;simp
  ·have h1:(D.str x == D.str v)=false:=by simpa using e
   rw[h1]
   exact ZR (by rcases List.mem_cons.mp h with h | h;exact absurd h e;exact h)
theorem zKJ {f:T->D}:∀ {V:List T}{x:T},x∉V->jT (.str x) (fD V f)=none
 | [],_,_=>rfl
 | v::V,x,h=>by
  unfold fD jT
  rw[List.map_cons,List.lookup_cons]
  have h1:(D.str x == D.str v)=false:=by
   have:x≠v:=fun e=>h (e ▸ List.mem_cons_self)
   simpa using this
  rw[h1]
  exact zKJ fun q=>h (List.mem_cons_of_mem _ q)
theorem zKz {f:T->D}{V:List T}{x:T}{v:D} (h:x∈V):jx (.str x) v (fD V f)=fD V fun z=>if z=x then v else f z:=by
 unfold jx fD
 rw[if_pos (by rw[List.any_map,List.any_eq_true];exact⟨x,h,by simp⟩),List.map_map]
 refine List.map_congr_left fun z _=>?_
 simp only[Function.comp,D.str.injEq]
 split<;>rfl
theorem zEH {f:T->D}{V:List T}:(fD V f).length=V.length:=by unfold fD;simp
theorem zCv {f:T->D}{V:List T}:(fD V f).map (·.1)=V.map D.str:=by unfold fD;rw[List.map_map];rfl
def rkD:Option Nat->D
 | none=>.non
 | some k=>.int k
structure Fr2 (a b:Nat) (s s':M.S):Prop where
 len:s'.length=s.length
 eq:∀ q,q≠a->q≠b->s'[q]? = s[q]?
theorem Fr2.refl (a b:Nat) (s:M.S):Fr2 a b s s:=⟨rfl,fun _ _ _=>rfl⟩
theorem Fr2.trans {a b:Nat}{s s' s'':M.S} (h:Fr2 a b s s') (k:Fr2 a b s' s''):Fr2 a b s s'':=⟨k.len.trans h.len,fun q h1 h2=>(k.eq q h1 h2).trans (h.eq q h1 h2)⟩
theorem yL {s:M.S}{a:Nat}{o o':O} (h:s[a]? = some o):(s.set a o')[a]? = some o':=List.getElem?_set_self (List.getElem?_eq_some_iff.mp h).1
theorem zg {s:M.S}{a q:Nat}{o':O} (h:q≠a):(s.set a o')[q]? = s[q]? := List.getElem?_set_ne (Ne.symm h)
abbrev zHV:SM:=(zJ (zAS zC3 (zA 3) (zA 8) (eC (.int 1)))
  (sIf (zc cEq (eOp zU (zA 3) (zA 8)) (eC (.int 0)))
  (yR (eM .list q8 (zA 6) (zB (zA 8) zD)))
  jE))
abbrev zLR (mi:T->Int) (xs:List T):T->D:=fun z=>.int (if z∈xs then mi z - 1 else mi z)
theorem zMu {V:List T} (hV:V.length <= 1000) {am ab:Nat} (hab:am≠ab) {v0 v1 v2 v4 v5 v7:Option D}:∀ (xs:List T) (mi:T->Int) (as:List T) (s:M.S) (v8:Option D),xs.Nodup->(∀ x∈xs,x∈V)->s[am]? = some (.dct (fD V fun z=>.int (mi z)))->s[ab]? = some (.lst (as.map .str))->as.length+xs.length <= 10000 ->
  ∃ v8' s',qK [] (jm (zK 8) zHV) (xs.map .str) [v0,v1,v2,some (.ref am),v4,v5,some (.ref ab),v7,v8] s=.nx [v0,v1,v2,some (.ref am),v4,v5,some (.ref ab),v7,v8'] s'/\Fr2 am ab s s'/\s'[am]? = some (.dct (fD V (zLR mi xs)))/\s'[ab]? = some (.lst ((as++xs.filter fun x=>decide (mi x=1)).map .str))
 | [],mi,as,s,v8,_,_,h1,h2,_=>⟨v8,s,rfl,Fr2.refl _ _ _,by
   have e:zLR mi []=fun z=>.int (mi z):=by funext z;simp[zLR]
   rw[e];exact h1,by rw[h2];simp⟩
 | x::xs,mi,as,s,v8,hn,hx,h1,h2,hl=>by
  rw[List.nodup_cons] at hn
  have hxV:=hx x List.mem_cons_self
  have z1:(fD V fun z=>D.int (mi z)).length < SZ:=by rw[zEH];unfold SZ;omega
  obtain⟨mi',hmi⟩:∃ mi':T->Int,∀ z,mi' z=if z=x then mi x - 1 else mi z:=⟨_,fun z=>rfl⟩
  have p1:jx (.str x) (.int (mi x - 1)) (fD V fun z=>.int (mi z))=fD V fun z=>.int (mi' z):=by
   rw[zKz hxV]
   congr 1
   funext z
   rw[hmi]
   split<;>rfl
  obtain⟨s1,hs1⟩:∃ s1,s1=s.set am (.dct (fD V fun z=>.int (mi' z))):=⟨_,rfl⟩
  have a1:s1[am]? = some (.dct (fD V fun z=>.int (mi' z))):=by rw[hs1];exact yL h1
  have b1:s1[ab]? = some (.lst (as.map .str)):=by rw[hs1,zg (Ne.symm hab)];exact h2
  have d1:jT (.str x) (fD V fun z=>D.int (mi z))=some (.int (mi x)):=ZR hxV
  have d2:jT (.str x) (fD V fun z=>D.int (mi' z))=some (.int (mi x - 1)):=by rw[ZR hxV,hmi];simp
  have f1:Fr2 am ab s s1:=⟨by rw[hs1,List.length_set],fun q n1 _=>by rw[hs1];exact zg n1⟩
  have e1:(zAS zC3 (zA 3) (zA 8) (eC (.int 1))) [v0,v1,v2,some (.ref am),v4,v5,some (.ref ab),v7,some (.str x)] s=.nx [v0,v1,v2,some (.ref am),v4,v5,some (.ref ab),v7,some (.str x)] s1:=by
   simp only[zAS,zA,eC,List.getElem?_cons_succ,List.getElem?_cons_zero,R.stm_ok,zA8,h1,jA,if_true,d1,zC3,J9,z1,decide_true,Bool.and_self,p1,hs1]
  have hz:as.length < SZ:=by unfold SZ;simp only[List.length_cons] at hl;omega
  obtain⟨as',s2,e2,f2,a2,b2,hl2,ha⟩:∃ as' s2,(sIf (zc cEq (eOp zU (zA 3) (zA 8)) (eC (.int 0))) (yR (eM .list q8 (zA 6) (zB (zA 8) zD))) jE) [v0,v1,v2,some (.ref am),v4,v5,some (.ref ab),v7,some (.str x)] s1=.nx [v0,v1,v2,some (.ref am),v4,v5,some (.ref ab),v7,some (.str x)] s2/\Fr2 am ab s1 s2/\s2[am]? = some (.dct (fD V fun z=>.int (mi' z)))/\s2[ab]? = some (.lst (as'.map .str))/\as'.length <= as.length+1/\as'=as++[x].filter fun x=>decide (mi x=1):=by
   by_cases c:mi x=1
   ·have c':mi x - 1=0:=by omega
    refine⟨as++[x],s1.set ab (.lst ((as++[x]).map .str)),?_,⟨List.length_set,fun q _ n2=>zg n2⟩,by rw[zg hab];exact a1,yL b1,by simp,by simp[c]⟩
    have hz':(as.map D.str).length < SZ:=by rw[List.length_map];exact hz
    simp only[sIf,zc,eOp,zA,eC,List.getElem?_cons_succ,List.getElem?_cons_zero,R.bind_ok,zU,a1,jA,if_true,d2,cEq,eqD,c',decide_true,R.stm_ok,yR,eM,ZX,b1,zB,zD,q8,hz',List.map_append,List.map_cons,List.map_nil]
   ·have c':¬ mi x - 1=0:=by omega
    refine⟨as,s1,?_,Fr2.refl _ _ _,a1,b1,by omega,by simp[c]⟩
    simp only[sIf,zc,eOp,zA,eC,List.getElem?_cons_succ,List.getElem?_cons_zero,R.bind_ok,zU,a1,jA,if_true,d2,cEq,eqD,c',decide_false,R.stm_ok,Bool.false_eq_true,if_false,jE]
  obtain⟨v8',s3,e3,f3,a3,b3⟩:=zMu hV hab xs mi' as' s2 (some (.str x)) hn.2 (fun y hy=>hx y (List.mem_cons_of_mem _ hy)) a2 b2 (by simp only[List.length_cons] at hl;omega)
  have he:∀ y∈xs,mi' y=mi y:=fun y hy=>by
   rw[hmi]
   exact if_neg fun e:y=x=>hn.1 (e ▸ hy)
  refine⟨v8',s3,?_,f1.trans (f2.trans f3),?_,?_⟩
  ·have e0:jm (zK 8) zHV (.str x) [v0,v1,v2,some (.ref am),v4,v5,some (.ref ab),v7,v8] s=.nx [v0,v1,v2,some (.ref am),v4,v5,some (.ref ab),v7,some (.str x)] s2:=by
    show ((zAS zC3 (zA 3) (zA 8) (eC (.int 1))) [v0,v1,v2,some (.ref am),v4,v5,some (.ref ab),v7,some (.str x)] s).then _=_
    rw[e1,RS.then_nx]
    exact e2
   rw[List.map_cons,qK,e0]
   exact e3
  ·rw[a3]
   congr 3
   funext z
   show D.int (if z∈xs then mi' z - 1 else mi' z)=D.int (if z∈x::xs then mi z - 1 else mi z)
   congr 1
   by_cases h:z∈xs
   ·rw[if_pos h,if_pos (List.mem_cons_of_mem _ h),he z h]
   ·rw[if_neg h,hmi]
    by_cases e:z=x
    ·rw[e,if_pos rfl,if_pos List.mem_cons_self]
    ·have hne:¬ z∈x::xs:=by simp[e,h]
     rw[if_neg e,if_neg hne]
  ·rw[b3,ha]
   congr 3
   rw[List.append_assoc]
   congr 1
   have:(x::xs).filter (fun x=>decide (mi x=1))=[x].filter (fun x=>decide (mi x=1))++xs.filter (fun x=>decide (mi x=1)):=by
    rw[<- List.filter_append];rfl
   rw[this]
   congr 1
   exact List.filter_congr fun y hy=>by rw[he y hy]
abbrev zCr:SM:=(zJ (jz (zA 2) (zA 7) (zA 5))
  (qA (eM .dict ZA (zA 1) (zB (zA 7) (zB jw zD))) (zK 8) zHV))
theorem zIb (ks:List T):(ks.map tk).map (·.1)=ks.map D.str:=by rw[List.map_map];rfl
structure ze (S1 s:M.S):Prop where
 le:S1.length <= s.length
 eq:∀ q,q < S1.length->s[q]? = S1[q]?
theorem ze.app {S1 s:M.S} (h:ze S1 s):∃ g,s=S1++g:=⟨s.drop S1.length,by
 have e:s.take S1.length=S1:=by
  apply List.ext_getElem?
  intro i
  by_cases hi:i < S1.length
  ·rw[List.getElem?_take_of_lt hi,h.eq i hi]
  ·rw[List.getElem?_eq_none (by rw[List.length_take];omega),List.getElem?_eq_none (by omega)]
 conv=>lhs;rw[<- List.take_append_drop S1.length s,e]⟩
theorem ze.of (S1 g:M.S):ze S1 (S1++g):=⟨by simp,fun q hq=>List.getElem?_append_left hq⟩
structure RS3 (S1:M.S) (V:List T) (ar am:Nat) (rk:T->Option Nat) (mi:T->Int) (s:M.S):Prop where
 pre:ze S1 s
 la:S1.length <= ar
 lm:S1.length <= am
 ne:ar≠am
 r:s[ar]? = some (.dct (fD V fun x=>rkD (rk x)))
 m:s[am]? = some (.dct (fD V fun x=>.int (mi x)))
theorem zNu {S:M.S}{L V N:List T}{B:T->List T}{nd:List (T×List T)} (nb:NB N nd L B) (hV:V.length <= 1000) {ar am ab:Nat}{rk:T->Option Nat}{mi:T->Int}{s:M.S}{as:List T} (h:RS3 (S++nS S.length L B) V ar am rk mi s) (lb:(S++nS S.length L B).length <= ab) (n1:ab≠ar) (n2:ab≠am) (hb:s[ab]? = some (.lst (as.map .str))) {l:T} (hl:l∈V) (hB:∀ x∈B l,x∈V) (hsz:as.length+(B l).length <= 10000) {r:Nat}{v0 v4 v7 v8:Option D} :
  ∃ v8' s',jm (zK 7) zCr (.str l) [v0,some (.ref S.length),some (.ref ar),some (.ref am),v4,some (.int r),some (.ref ab),v7,v8] s=.nx [v0,some (.ref S.length),some (.ref ar),some (.ref am),v4,some (.int r),some (.ref ab),some (.str l),v8'] s'/\s'.length=s.length+1/\(∀ q,q < s.length->q≠ar->q≠am->q≠ab->s'[q]? = s[q]?)/\RS3 (S++nS S.length L B) V ar am (zBG rk l r) (fun z=>if z∈B l then mi z - 1 else mi z) s'/\s'[ab]? = some (.lst ((as++(B l).filter fun x=>decide (mi x=1)).map .str)):=by
 generalize hS1:S++nS S.length L B=S1 at *
 have lS1:S.length < S1.length:=by rw[<- hS1];simp
 have ha:=(List.getElem?_eq_some_iff.mp h.r).1
 have hm:=(List.getElem?_eq_some_iff.mp h.m).1
 have hbl:=(List.getElem?_eq_some_iff.mp hb).1
 obtain⟨s1,hs1⟩:∃ s1,s1=s.set ar (.dct (fD V fun x=>rkD (zBG rk l r x))):=⟨_,rfl⟩
 have l1:s1.length=s.length:=by rw[hs1,List.length_set]
 have z1:(fD V fun z=>rkD (rk z)).length < SZ:=by rw[zEH];unfold SZ;omega
 have p1:jx (.str l) (.int r) (fD V fun z=>rkD (rk z))=fD V fun z=>rkD (zBG rk l r z):=by
  rw[zKz hl]
  congr 1
  funext z
  unfold zBG
  split<;>rfl
 have e1:(jz (zA 2) (zA 7) (zA 5)) [v0,some (.ref S.length),some (.ref ar),some (.ref am),v4,some (.int r),some (.ref ab),some (.str l),v8] s=.nx [v0,some (.ref S.length),some (.ref ar),some (.ref am),v4,some (.int r),some (.ref ab),some (.str l),v8] s1:=by
  simp only[jz,zA,List.getElem?_cons_succ,List.getElem?_cons_zero,R.stm_ok,y1,h.r,jA,z1,decide_true,Bool.and_self,if_true,p1,hs1]
 have q1:∀ q,q≠ar->s1[q]? = s[q]? := fun q hq=>by rw[hs1];exact zg hq
 have r1:s1[ar]? = some (.dct (fD V fun x=>rkD (zBG rk l r x))):=by rw[hs1];exact yL h.r
 have q2:∀ (q:Nat),q < s.length->(s1++[O.dct []])[q]? = s1[q]? := fun q hq=>List.getElem?_append_left (by omega)
 obtain⟨s2,hs2⟩:∃ s2,s2=s1++[O.dct []]:=⟨_,rfl⟩
 have l2:s2.length=s.length+1:=by rw[hs2];simp[l1]
 rw[<- hs2] at q2
 have lo:∀ q,q < S1.length->s2[q]? = S1[q]? := fun q hq=>by
  rw[q2 q (Nat.lt_of_lt_of_le hq h.pre.le),q1 q (by have:=h.la;omega),h.pre.eq q hq]
 have an:s2[S.length]? = some (.dct (qS (S.length+1) L)):=by rw[lo _ lS1,<- hS1];exact zd
 obtain⟨r0,hg,hr0,na,nm,nb'⟩:∃ r0,(jT (.str l) (qS (S.length+1) L)).getD (.ref s1.length)=.ref r0/\s2[r0]? = some (.dct ((B l).map tk))/\r0≠ar/\r0≠am/\r0≠ab:=by
  by_cases hL:l∈L
  ·have hi:=List.idxOf_lt_length_iff.mpr hL
   have hlt:S.length+1+L.idxOf l < S1.length:=by rw[<- hS1];simp;omega
   refine⟨S.length+1+L.idxOf l,by rw[Z1,if_pos hL];rfl,?_,?_,?_,?_⟩
   ·rw[lo _ hlt,<- hS1]
    have:=zI8 (S:=S) (B:=B) hL []
    rwa [List.append_nil] at this
   ·have:=h.la;omega
   ·have:=h.lm;omega
   ·omega
  ·refine⟨s1.length,by rw[Z1,if_neg hL];rfl,?_,by omega,by omega,by omega⟩
   rw[hs2,nb.out l hL]
   exact zd
 obtain⟨s3,hs3⟩:∃ s3,s3=s2.set r0 (.fdc ((B l).map tk)):=⟨_,rfl⟩
 have m3:s3[am]? = some (.dct (fD V fun z=>.int (mi z))):=by rw[hs3,zg (Ne.symm nm),q2 am hm,q1 am (Ne.symm h.ne)];exact h.m
 have b3:s3[ab]? = some (.lst (as.map .str)):=by rw[hs3,zg (Ne.symm nb'),q2 ab hbl,q1 ab n1];exact hb
 obtain⟨v8',s4,e4,f4,m4,b4⟩:=zMu hV (Ne.symm n2) (v0:=v0) (v1:=some (.ref S.length)) (v2:=some (.ref ar)) (v4:=v4) (v5:=some (.int r)) (v7:=some (.str l)) (B l) mi as s3 v8 (nb.nb l).1 hB m3 b3 hsz
 have t4:s4[r0]? = some (.fdc ((B l).map tk)):=by rw[f4.eq r0 nm nb',hs3];exact yL hr0
 obtain⟨s5,hs5⟩:∃ s5,s5=s4.set r0 (.dct ((B l).map tk)):=⟨_,rfl⟩
 have l5:s5.length=s.length+1:=by rw[hs5,List.length_set,f4.len,hs3,List.length_set,l2]
 have q5:∀ q,q≠am->q≠ab->s5[q]? = s2[q]? := fun q h1 h2=>by
  by_cases e:q=r0
  ·rw[e,hs5,yL t4,hr0]
  ·rw[hs5,zg e,f4.eq q h1 h2,hs3,zg e]
 refine⟨v8',s5,?_,l5,fun q hq h1 h2 h3=>by rw[q5 q h2 h3,q2 q hq,q1 q h1],⟨⟨by have:=h.pre.le;omega,fun q hq=>?_⟩,h.la,h.lm,h.ne,?_,?_⟩,?_⟩
 ·show ((jz (zA 2) (zA 7) (zA 5)) [v0,some (.ref S.length),some (.ref ar),some (.ref am),v4,some (.int r),some (.ref ab),some (.str l),v8] s).then _=_
  rw[e1,RS.then_nx]
  have o1:s1[S.length]? = some (.dct (qS (S.length+1) L)):=by
   have:=an
   rwa [q2 _ (by have:=h.pre.le;omega)] at this
  simp only[qA,eM,zA,List.getElem?_cons_succ,List.getElem?_cons_zero,R.bind_ok,ZX,o1,if_true,zB,zD,jw,alloc,<- hs2,ZA,an,jA,R.stm_ok,hg,hr0,<- hs3,zIb,e4,thaw,t4,<- hs5]
 ·have:=h.la
  have:=h.lm
  rw[q5 q (by omega) (by omega),lo q hq]
 ·rw[q5 ar h.ne (Ne.symm n1),q2 ar ha];exact r1
 ·rw[hs5,zg (Ne.symm nm)];exact m4
 ·rw[hs5,zg (Ne.symm nb')];exact b4
theorem NB.need {N:List T}{nd:List (T×List T)}{L:List T}{B:T->List T} (nb:NB N nd L B) (hn:(zZ nd).Nodup) (l z:T):z∈B l↔l∈nOf nd z:=by
 rw[nb.mem l z,zAW hn]
section
variable {S:M.S}{L V N:List T}{B:T->List T}{nd:List (T×List T)}{ar am:Nat}{v0:Option D}
theorem zIO (nb:NB N nd L B) (hN:N.length <= 62) (hn:(zZ nd).Nodup) (hV:V.length <= 62) (hVm:∀ x,x∈V↔inV nd x) {ab al:Nat} (lb:(S++nS S.length L B).length <= ab) (n1:ab≠ar) (n2:ab≠am) (m1:al≠ar) (m2:al≠am) (m3:al≠ab) {lvD:List D}{rk0:T->Option Nat}{r:Nat}{v4:Option D} :
  ∀ (ls done as:List T) (s:M.S) (v7 v8:Option D),(done++ls).Nodup->(∀ l∈ls,l∈V/\rk0 l=none)->RS3 (S++nS S.length L B) V ar am (rkL rk0 done r) (fun z=>(jD nd (rkL rk0 done r) z:Int)) s->s[al]? = some (.lst lvD)->s[ab]? = some (.lst (as.map .str))->LI nd V rk0 (rkL rk0 done r) as ->
  ∃ v7' v8' s' as',qK [(al,.lst lvD)] (jm (zK 7) zCr) (ls.map .str) [v0,some (.ref S.length),some (.ref ar),some (.ref am),v4,some (.int r),some (.ref ab),v7,v8] s=.nx [v0,some (.ref S.length),some (.ref ar),some (.ref am),v4,some (.int r),some (.ref ab),v7',v8'] s' /\
   RS3 (S++nS S.length L B) V ar am (rkL rk0 (done++ls) r) (fun z=>(jD nd (rkL rk0 (done++ls) r) z:Int)) s'/\s'[ab]? = some (.lst (as'.map .str))/\LI nd V rk0 (rkL rk0 (done++ls) r) as'
 | [],done,as,s,v7,v8,_,_,h,_,hb,li=>⟨v7,v8,s,as,rfl,by rw[List.append_nil];exact h,hb,by rw[List.append_nil];exact li⟩
 | l::ls,done,as,s,v7,v8,hd,hl,h,ha,hb,li=>by
  obtain⟨hlV,hl0⟩:=hl l List.mem_cons_self
  have hld:l∉done:=fun z=>by
   rw[List.nodup_append] at hd
   exact hd.2.2 l z l List.mem_cons_self rfl
  have hk:rkL rk0 done r l=none:=by unfold rkL;rw[if_neg hld];exact hl0
  have hBV:∀ x∈B l,x∈V:=fun x hx=>by
   obtain⟨q,h1,h2,_⟩:=(nb.mem l x).mp hx
   exact (hVm x).mpr (.inl (by unfold zZ;exact List.mem_map.mpr ⟨q,h1,h2⟩))
  have la:=qY li.un fun x hx=>((li.mem x).mp hx).1
  have lB:=qY (nb.nb l).1 (nb.nb l).2
  obtain⟨v8',s1,e1,len1,fr,h1,b1⟩:=zNu nb (by omega) h lb n1 n2 hb hlV hBV (by omega) (r:=r) (v0:=v0) (v4:=v4) (v7:=v7) (v8:=v8)
  have hal:=(List.getElem?_eq_some_iff.mp ha).1
  have a1:s1[al]? = some (.lst lvD):=by rw[fr al hal m1 m2 m3];exact ha
  have em:(fun z=>if z∈B l then (jD nd (rkL rk0 done r) z:Int) - 1 else (jD nd (rkL rk0 done r) z:Int))=fun z=>(jD nd (rkL rk0 (done++[l]) r) z:Int):=by
   funext z
   rw[zDR]
   have st:=zFj (nd:=nd) (r:=r) hk z
   by_cases hz:z∈B l
   ·rw[if_pos hz]
    rw[if_pos ((nb.need hn l z).mp hz)] at st
    omega
   ·rw[if_neg hz]
    rw[if_neg (fun q=>hz ((nb.need hn l z).mpr q))] at st
    omega
  rw[em,<- zDR] at h1
  have li':=li.step (r:=r) hk (nb.nb l).1 (nb.need hn l) hBV
  rw[<- zDR] at li'
  obtain⟨v7',v8'',s',as',e2,h2,b2,li2⟩:=zIO nb hN hn hV hVm lb n1 n2 m1 m2 m3 ls (done++[l]) _ s1 (some (.str l)) v8' (by rw[List.append_assoc];exact hd) (fun x hx=>hl x (List.mem_cons_of_mem _ hx)) h1 a1 b1 li'
  rw[List.append_assoc] at h2 li2
  refine⟨v7',v8'',s',as',?_,h2,b2,li2⟩
  have hg:zW [(al,O.lst lvD)] s1=true:=by simp[zW,a1]
  rw[List.map_cons,qK,e1]
  dsimp only
  rw[if_pos hg]
  exact e2
abbrev zAF:TM:=zc cGt (zI jo (zB (zA 4) zD)) (eC (.int 0))
abbrev Jv:SM:=(zJ (zT 6 (qD zD))
  (zJ (qq (iE (zA 4)) (zK 7) zCr)
  (zJ (zT 4 (zA 6))
  (zHy zJq 5 (eC (.int 1))))))
theorem zQp (nb:NB N nd L B) (hN:N.length <= 62) (hn:(zZ nd).Nodup) (hVn:V.Nodup) (hV:V.length <= 62) (hVm:∀ x,x∈V↔inV nd x) :
  ∀ (n fuel r:Nat) (rk:T->Option Nat) (lv:List T) (al:Nat) (s:M.S) (v6 v7 v8:Option D),zCz V rk <= n->n < fuel->WI nd V r rk lv->RS3 (S++nS S.length L B) V ar am rk (fun z=>(jD nd rk z:Int)) s->(S++nS S.length L B).length <= al->al≠ar->al≠am->s[al]? = some (.lst (lv.map .str)) ->
  ∃ σ' rk' s',qE fuel zAF Jv [v0,some (.ref S.length),some (.ref ar),some (.ref am),some (.ref al),some (.int r),v6,v7,v8] s=.nx σ' s'/\σ'[2]? = some (some (.ref ar))/\RK nd V rk'/\ze (S++nS S.length L B) s'/\s'[ar]? = some (.dct (fD V fun x=>rkD (rk' x))):=by
 intro n
 induction n with
 | zero =>
  intro fuel r rk lv al s v6 v7 v8 hl hf w h la m1 m2 ha
  cases fuel with
  | zero=>omega
  | succ fuel =>
   cases lv with
   | nil =>
    have c:zAF [v0,some (.ref S.length),some (.ref ar),some (.ref am),some (.ref al),some (.int r),v6,v7,v8] s=.ok false s:=by simp[ha]
    refine⟨_,rk,s,by rw[qE,c];rfl,rfl,w.last,h.pre,h.r⟩
   | cons l lv =>
    have hl1:=(w.lm l).mp List.mem_cons_self
    have:=zFa (r:=r) hVn (lv:=l::lv) List.mem_cons_self hl1.1 hl1.2.1
    omega
 | succ n ih =>
  intro fuel r rk lv al s v6 v7 v8 hl hf w h la m1 m2 ha
  cases fuel with
  | zero=>omega
  | succ fuel =>
   cases lv with
   | nil =>
    have c:zAF [v0,some (.ref S.length),some (.ref ar),some (.ref am),some (.ref al),some (.int r),v6,v7,v8] s=.ok false s:=by simp[ha]
    refine⟨_,rk,s,by rw[qE,c];rfl,rfl,w.last,h.pre,h.r⟩
   | cons l lv =>
    have c:zAF [v0,some (.ref S.length),some (.ref ar),some (.ref am),some (.ref al),some (.int r),v6,v7,v8] s=.ok true s:=by
     simp[ha]
    have hl1:=(w.lm l).mp List.mem_cons_self
    have hless:=zFa (r:=r) hVn (lv:=l::lv) List.mem_cons_self hl1.1 hl1.2.1
    have har:=(List.getElem?_eq_some_iff.mp h.r).1
    have ham:=(List.getElem?_eq_some_iff.mp h.m).1
    have hal:=(List.getElem?_eq_some_iff.mp ha).1
    have h0:RS3 (S++nS S.length L B) V ar am (rkL rk [] r) (fun z=>(jD nd (rkL rk [] r) z:Int)) (s++[.lst []]):=by
     rw[zIX]
     refine⟨⟨Nat.le_trans h.pre.le (by simp),fun q hq=>?_⟩,h.la,h.lm,h.ne,zm h.r _,zm h.m _⟩
     rw[List.getElem?_append_left (Nat.lt_of_lt_of_le hq h.pre.le),h.pre.eq q hq]
    have hab:(s++[O.lst []])[s.length]? = some (.lst (([]:List T).map .str)):=zd
    obtain⟨v7',v8',s',as',e2,h2,b2,li2⟩:=zIO nb hN hn hV hVm (ab:=s.length) (al:=al) (v0:=v0) (v4:=some (.ref al)) (lvD:=(l::lv).map .str) (Nat.le_trans la (Nat.le_of_lt hal)) (Nat.ne_of_gt har) (Nat.ne_of_gt ham) m1 m2 (Nat.ne_of_lt hal) (l::lv) [] [] (s++[.lst []]) v7 v8 w.nl (fun x hx=>⟨((w.lm x).mp hx).1,((w.lm x).mp hx).2.1⟩) h0 (zm ha _) hab (by rw[zIX];exact LI.start)
    rw[List.nil_append] at h2 li2
    have w':=w.next li2
    obtain⟨σ',rk',s'',e3,hσ,hR,hp,hr⟩:=ih fuel (r+1) _ as' s.length s' (some (.ref s.length)) v7' v8' (by omega) (by omega) w' h2 (Nat.le_trans la (Nat.le_of_lt hal)) (Nat.ne_of_gt har) (Nat.ne_of_gt ham) b2
    refine⟨σ',rk',s'',?_,hσ,hR,hp,hr⟩
    have eb:Jv [v0,some (.ref S.length),some (.ref ar),some (.ref am),some (.ref al),some (.int r),v6,v7,v8] s=.nx [v0,some (.ref S.length),some (.ref ar),some (.ref am),some (.ref s.length),some (.int ((r+1:Nat):Int)),some (.ref s.length),v7',v8'] s':=by
     have a0:(zT 6 (qD zD)) [v0,some (.ref S.length),some (.ref ar),some (.ref am),some (.ref al),some (.int r),v6,v7,v8] s=.nx [v0,some (.ref S.length),some (.ref ar),some (.ref am),some (.ref al),some (.int r),some (.ref s.length),v7,v8] (s++[.lst []]):=by
      have z:0 <= SZ:=Nat.zero_le _
      simp[z]
     show ((zT 6 (qD zD)) _ _).then _=_
     rw[a0,RS.then_nx]
     have hg:zW [(al,O.lst ((l::lv).map .str))] (s++[.lst []])=true:=by simp only[zW,List.all_cons,List.all_nil,zm ha _,decide_true,Bool.and_self]
     have a1:(qq (iE (zA 4)) (zK 7) zCr) [v0,some (.ref S.length),some (.ref ar),some (.ref am),some (.ref al),some (.int r),some (.ref s.length),v7,v8] (s++[.lst []])=.nx [v0,some (.ref S.length),some (.ref ar),some (.ref am),some (.ref al),some (.int r),some (.ref s.length),v7',v8'] s':=by
      simp only[qq,iE,zA,List.getElem?_cons_succ,List.getElem?_cons_zero,R.bind_ok,itD,zm ha [O.lst []],R.stm_ok,hg,if_true]
      exact e2
     show ((qq (iE (zA 4)) (zK 7) zCr) _ _).then _=_
     rw[a1,RS.then_nx]
     simp
    rw[qE,c]
    show (match Jv _ s with | .nx σ s=>qE fuel zAF Jv σ s | .ct σ s=>qE fuel zAF Jv σ s | .bk σ s=>.nx σ s | r=>r)=_
    rw[eb]
    exact e3
end
theorem zIm {f:T->D}:∀ {V:List T} (acc:List (D×D)),V.Nodup->(∀ x∈V,(acc.any fun p=>decide (p.1=.str x))=false)->(fD V f).foldl (fun a p=>jx p.1 p.2 a) acc=acc++fD V f
 | [],acc,_,_=>by simp[fD]
 | v::V,acc,hn,h=>by
  rw[List.nodup_cons] at hn
  have e:jx (.str v) (f v) acc=acc++[(.str v,f v)]:=by
   unfold jx
   rw[h v List.mem_cons_self]
   rfl
  show (fD V f).foldl _ (jx (.str v) (f v) acc)=_
  rw[e,zIm _ hn.2 fun x hx=>by
   rw[List.any_append,h x (List.mem_cons_of_mem _ hx)]
   have:v≠x:=fun q=>hn.1 (q ▸ hx)
   simp[this]]
  rw[List.append_assoc]
  rfl
theorem zGl {f:T->D}{V:List T} (hn:V.Nodup):zGF (fD V f)=fD V f:=by
 unfold zGF
 rw[zIm [] hn fun _ _=>rfl,List.nil_append]
theorem zHf (f:T->D) (V:List T):JW (V.map fun x=>.tup [.str x,f x])=some (fD V f):=zFV (fun x=>x) f V
theorem zQj {f:T->D}{n:Nat} (h:∀ x,D.cl n (f x)=true) (V:List T):O.cl n (.dct (fD V f))=true:=by
 show ((fD V f).all fun p=>D.cl n p.1 && D.cl n p.2)=true
 unfold fD
 rw[List.all_map]
 refine List.all_eq_true.mpr fun x _=>?_
 simp only[Function.comp,h x,Bool.and_true]
 rfl
theorem zPC (n:Nat):∀ o:Option Nat,D.cl n (rkD o)=true
 | none=>rfl
 | some _=>rfl
theorem zKe (nd:List (T×List T)) (x:T):jD nd (fun _=>none) x=(yj [] (nOf nd x)).length:=by
 unfold jD
 have e:(fun y:T=>((fun _:T=>(none:Option Nat)) y).isNone)=fun _=>true:=rfl
 rw[e,List.filter_eq_self.mpr fun _ _=>rfl]
theorem WI.start {nd:List (T×List T)}{V:List T} (hV:V.Nodup):WI nd V 0 (fun _=>none) (V.filter fun z=>decide ((jD nd (fun _=>none) z:Int)=0)) :=
 ⟨hV.sublist List.filter_sublist,fun z=>by rw[List.mem_filter];simp,(fun _ _ h=>nomatch h),(fun _ _ h=>nomatch h),(fun _ h=>nomatch h),(fun _ _ h=>nomatch h),fun _ z hz=>by
  have h:=(List.mem_filter.mp hz).2
  have h1:jD nd (fun _=>none) z=0:=by have:=of_decide_eq_true h;omega
  have h2:=JB.mp h1
  cases q:nOf nd z with
  | nil=>rfl
  | cons y ys=>rw[q] at h2;exact absurd rfl (h2 y List.mem_cons_self),fun k h=>by omega⟩
theorem zDX {S:M.S}{p:Nat}{kvs:List (D×D)}{nd:List (T×List T)}{N:List T} (hp:S[p]? = some (.dct kvs)) (dr:DR S kvs nd) (hn:(zZ nd).Nodup) (ok:OkN N nd) (hN:N.length <= 62) :
  ∃ V rk,V.Pairwise NLt/\V.Nodup/\(∀ x,x∈V↔inV nd x)/\V.length <= N.length/\RK nd V rk/\Je [.ref p] S=alloc (.dct (fD V fun x=>rkD (rk x))) S:=by
 obtain⟨L,B,e1,nb⟩:=zEA hp dr hn ok hN
 have hplt:p < S.length:=(List.getElem?_eq_some_iff.mp hp).1
 obtain⟨S1,hS1⟩:∃ S1,S1=S++nS S.length L B:=⟨_,rfl⟩
 have hp1:S1[p]? = some (.dct kvs):=by rw[hS1];exact zm hp _
 have dr1:DR S1 kvs nd:=by rw[hS1];exact dr.mono (ZV.app _ _)
 have lS1:S.length < S1.length:=by rw[hS1];simp
 obtain⟨V,vs,vn,vm,vl,e2⟩:=zKy hp1 dr1 hn ok hN
 rw[<- hS1] at e1
 have z2:2 <= SZ:=by unfold SZ;omega
 have zV:V.length <= SZ:=by unfold SZ;omega
 obtain⟨S2,hS2⟩:∃ S2,S2=S1++[.lst (V.map .str),.lst (V.map fun x=>.tup [.str x,.non]),.dct (fD V fun _=>.non)]:=⟨_,rfl⟩
 have pS2:ze S1 S2:=by rw[hS2];exact ze.of _ _
 have s2:QN [some (.ref p),some (.ref S.length),none,none,none,none,none,none,none] S1=.nx [some (.ref p),some (.ref S.length),some (.ref (S1.length+2)),none,none,none,none,none,none] S2:=by
  have gV:zW [(S1.length,O.lst (V.map .str))] (S1++[.lst (V.map .str)])=true:=by
   simp only[zW,List.all_cons,List.all_nil,zd,decide_true,Bool.and_self]
  have gl:(S1++[O.lst (V.map .str)])[S1.length]? = some (.lst (V.map .str)):=zd
  have ec:qJ 1 (iE (zI Zg (zB (zA 0) zD))) (zK 9) qc (Jp (zB (zA 9) (zB (eC .non) zD))) [some (.ref p),some (.ref S.length),none,none,none,none,none,none,none] S1=.ok (V.map fun x=>.tup [.str x,.non]) (S1++[.lst (V.map .str)]):=by
   have:=zLB (n:=1) (it:=iE (zI Zg (zB (zA 0) zD))) (tg:=zK 9) (e:=Jp (zB (zA 9) (zB (eC .non) zD))) (σ:=[some (.ref p),some (.ref S.length),none,none,none,none,none,none,none]) (s:=S1) (s1:=S1++[.lst (V.map .str)]) (xs:=V.map D.str) (g:=[(S1.length,.lst (V.map .str))]) (fun d=>.tup [d,.non]) (by
    simp only[iE,zI,zB,zD,zA,List.getElem?_cons_zero,R.bind_ok,e2,alloc,itD,gl]) (by rw[List.length_map];exact zV) gV fun x hx=>by simp[z2]
   rw[this,List.map_map]
   rfl
  have g1:(S1++[O.lst (V.map .str),.lst (V.map fun x=>.tup [.str x,.non])])[S1.length+1]? = some (.lst (V.map fun x=>.tup [.str x,.non])):=by
   rw[List.getElem?_append_right (by omega),show S1.length+1 - S1.length=1 by omega];rfl
  have l1:(fD V fun _=>D.non).length <= 1000:=by rw[zEH];omega
  simp only[QN,Qv,zT,List.set_cons_succ,List.set_cons_zero,zI,zB,zD,jY,ec,R.bind_ok,alloc,List.length_append,List.length_cons,List.length_nil,Nat.zero_add,List.append_assoc,List.cons_append,List.nil_append,JH,g1,zHf,l1,if_true,zGl vn,R.stm_ok,zC1,hS2,Nat.reduceAdd]
 have hr2:S2[S1.length+2]? = some (.dct (fD V fun _=>.non)):=by
  rw[hS2,List.getElem?_append_right (by omega),show S1.length+2 - S1.length=2 by omega];rfl
 have lS2:S2.length=S1.length+3:=by rw[hS2];simp
 obtain⟨S2f,hS2f⟩:∃ S2f,S2f=S2.set (S1.length+2) (.fdc (fD V fun _=>.non)):=⟨_,rfl⟩
 have hp2f:S2f[p]? = some (.dct kvs):=by rw[hS2f,zg (by omega),pS2.eq p (by omega)];exact hp1
 have hr2f:S2f[S1.length+2]? = some (.fdc (fD V fun _=>.non)):=by rw[hS2f];exact yL hr2
 have dr2f:DR S2f kvs nd:=dr1.mono fun q xs e=>by
  have hq:=(List.getElem?_eq_some_iff.mp e).1
  rw[hS2f,zg (by omega),pS2.eq q hq];exact e
 obtain⟨t,ec3⟩:∃ t,qJ 1 (yY (zA 2)) (zK 9) qc (Jp (zB (zA 9) (zB (zI ZQ (zB (eM .dict ZA (zA 0) (zB (zA 9) (zB (qD zD) zD))) zD)) zD))) [some (.ref p),some (.ref S.length),some (.ref (S1.length+2)),none,none,none,none,none,none] S2f=.ok (V.map fun x=>.tup [.str x,.int (jD nd (fun _=>none) x:Nat)]) (S2f++t):=by
  obtain⟨t,e⟩:=zFM (n:=1) (it:=yY (zA 2)) (tg:=zK 9) (e:=Jp (zB (zA 9) (zB (zI ZQ (zB (eM .dict ZA (zA 0) (zB (zA 9) (zB (qD zD) zD))) zD)) zD))) (σ:=[some (.ref p),some (.ref S.length),some (.ref (S1.length+2)),none,none,none,none,none,none]) (s:=S2f) (xs:=V.map D.str) (g:=[]) (fun d=>match d with | .str x=>.tup [.str x,.int (jD nd (fun _=>none) x:Nat)] | d=>d) (by
   simp only[yY,zA,List.getElem?_cons_succ,List.getElem?_cons_zero,R.bind_ok,hr2f,zCv]) (by rw[List.length_map];exact zV) rfl fun d hd t=>by
    obtain⟨x,hx,rfl⟩:=List.mem_map.mp hd
    refine⟨t++[.lst []],?_⟩
    have hpt:∀ g,(S2f++g)[p]? = some (.dct kvs):=fun g=>zm hp2f g
    obtain⟨r,er,el⟩:∃ r,(jT (.str x) kvs).getD (.ref (S2f++t).length)=.ref r/\(S2f++(t++[O.lst []]))[r]? = some (.lst ((nOf nd x).map .str)):=by
     rcases dr2f.get x with ⟨h1,h2⟩ | ⟨row,r,h1,h2,h3⟩
     ·refine⟨(S2f++t).length,by rw[h2];rfl,?_⟩
      unfold nOf
      rw[h1,<- List.append_assoc]
      exact zd
     ·refine⟨r,by rw[h2];rfl,?_⟩
      unfold nOf
      rw[h1]
      exact zm h3 _
    have lr:(nOf nd x).length <= 1000:=by
     unfold nOf
     cases q:nd.lookup x with
     | none=>simp
     | some row =>
      have hm:(x,row)∈nd:=by
       have:∃ r,r∈nd/\r.1=x/\r.2=row:=by
        clear dr2f dr1 dr ok hn nb vm er el
        induction nd with
        | nil=>cases q
        | cons a nd ih =>
         obtain⟨k,v⟩:=a
         rw[List.lookup_cons] at q
         cases hk:x == k with
         | true=>rw[hk] at q;have:=eq_of_beq hk;subst this;cases q;exact⟨(x,row),List.mem_cons_self,rfl,rfl⟩
         | false =>
          rw[hk] at q
          obtain⟨r,h1,h2⟩:=ih q
          exact⟨r,List.mem_cons_of_mem _ h1,h2⟩
       obtain⟨r,h1,h2,h3⟩:=this
       rw[<- h2,<- h3];exact h1
      have:=(ok _ hm).2.1
      show row.length <= 1000
      have h':row.length <= 10:=this
      omega
    have elr:=Qe el
    simp only[qP,zK,qc,List.cons_append,List.nil_append,List.replicate,List.set_cons_succ,List.set_cons_zero,R.bind_ok,if_true,Jp,zB,zD,zA,List.getElem?_cons_succ,List.getElem?_cons_zero,zI,eM,ZX,hpt,qD,List.length_nil,Nat.zero_le,alloc,List.append_assoc,ZA,jA,er,ZQ,elr,Q2,lr,zKe,List.length_cons,z2,Nat.reduceAdd]
  refine⟨t,?_⟩
  rw[e,List.map_map]
  rfl
 obtain⟨S3,hS3⟩:∃ S3,S3=S2++(t++[.lst (V.map fun x=>.tup [.str x,.int (jD nd (fun _=>none) x:Nat)]),.dct (fD V fun x=>.int (jD nd (fun _=>none) x:Nat))]):=⟨_,rfl⟩
 have lS2f:S2f.length=S2.length:=by rw[hS2f,List.length_set]
 have s3:Zx [some (.ref p),some (.ref S.length),some (.ref (S1.length+2)),none,none,none,none,none,none] S2=.nx [some (.ref p),some (.ref S.length),some (.ref (S1.length+2)),some (.ref (S2.length+t.length+1)),none,none,none,none,none] S3:=by
  have ht:=y7 (g:=t++[.lst (V.map fun x=>.tup [.str x,.int (jD nd (fun _=>none) x:Nat)]),.dct (fD V fun x=>.int (jD nd (fun _=>none) x:Nat))]) hr2 [some (.ref p),some (.ref S.length),some (.ref (S1.length+2)),some (.ref (S2.length+t.length+1)),none,none,none,none,none]
  rw[<- hS2f] at ht
  have g1:(S2f++(t++[O.lst (V.map fun x=>.tup [.str x,.int (jD nd (fun _=>none) x:Nat)])]))[S2.length+t.length]? = some (.lst (V.map fun x=>.tup [.str x,.int (jD nd (fun _=>none) x:Nat)])):=by
   rw[<- List.append_assoc,show S2.length+t.length=(S2f++t).length by rw[List.length_append,lS2f]];exact zd
  have l1:(fD V fun x=>D.int (jD nd (fun _=>none) x:Nat)).length <= 1000:=by rw[zEH];omega
  simp only[Zx,Qv,Z7,List.set_cons_succ,List.set_cons_zero,List.getElem?_cons_succ,List.getElem?_cons_zero,hr2,<- hS2f,zT,zI,zB,zD,jY,ec3,R.bind_ok,alloc,List.length_append,lS2f,List.length_cons,List.length_nil,Nat.zero_add,List.append_assoc,List.cons_append,List.nil_append,JH,g1,zHf,l1,if_true,zGl vn,R.stm_ok,<- Nat.add_assoc,ht,zC1,hS3]
 have pS3:ze S2 S3:=by rw[hS3];exact ze.of _ _
 have hr3:S3[S1.length+2]? = some (.dct (fD V fun _=>.non)):=by rw[pS3.eq _ (by omega)];exact hr2
 have hm3:S3[S2.length+t.length+1]? = some (.dct (fD V fun x=>.int (jD nd (fun _=>none) x:Nat))):=by
  rw[hS3,<- List.append_assoc,List.getElem?_append_right (by rw[List.length_append];omega),List.length_append,show S2.length+t.length+1 - (S2.length+t.length)=1 by omega];rfl
 obtain⟨S3f,hS3f⟩:∃ S3f,S3f=S3.set (S1.length+2) (.fdc (fD V fun _=>.non)):=⟨_,rfl⟩
 have hr3f:S3f[S1.length+2]? = some (.fdc (fD V fun _=>.non)):=by rw[hS3f];exact yL hr3
 have hm3f:S3f[S2.length+t.length+1]? = some (.dct (fD V fun x=>.int (jD nd (fun _=>none) x:Nat))):=by rw[hS3f,zg (by omega)];exact hm3
 have ec4:qJ 1 (yY (zA 2)) (zK 9) (zc cEq (eOp zU (zA 3) (zA 9)) (eC (.int 0))) (zA 9) [some (.ref p),some (.ref S.length),some (.ref (S1.length+2)),some (.ref (S2.length+t.length+1)),none,none,none,none,none] S3f=.ok ((V.filter fun z=>decide ((jD nd (fun _=>none) z:Int)=0)).map .str) S3f:=by
  refine JX (n:=1) (g:=[]) (fun z=>decide ((jD nd (fun _=>none) z:Int)=0)) (by
   simp only[yY,zA,List.getElem?_cons_succ,List.getElem?_cons_zero,R.bind_ok,hr3f,zCv]) zV rfl fun x hx=>?_
  have d:=ZR (f:=fun x=>D.int (jD nd (fun _=>none) x:Nat)) hx
  simp only[qP,zK,List.cons_append,List.nil_append,List.replicate,List.set_cons_succ,List.set_cons_zero,zc,eOp,zA,eC,List.getElem?_cons_succ,List.getElem?_cons_zero,R.bind_ok,zU,hm3f,jA,if_true,d,cEq,eqD]
  split<;>rfl
 have s4:Z0 [some (.ref p),some (.ref S.length),some (.ref (S1.length+2)),some (.ref (S2.length+t.length+1)),none,none,none,none,none] S3=.nx [some (.ref p),some (.ref S.length),some (.ref (S1.length+2)),some (.ref (S2.length+t.length+1)),some (.ref S3.length),none,none,none,none] (S3++[.lst ((V.filter fun z=>decide ((jD nd (fun _=>none) z:Int)=0)).map .str)]):=by
  have ht:=y7 (g:=[.lst ((V.filter fun z=>decide ((jD nd (fun _=>none) z:Int)=0)).map .str)]) hr3 [some (.ref p),some (.ref S.length),some (.ref (S1.length+2)),some (.ref (S2.length+t.length+1)),some (.ref S3.length),none,none,none,none]
  rw[<- hS3f] at ht
  have lS3f:S3f.length=S3.length:=by rw[hS3f,List.length_set]
  simp only[Z0,Qv,Z7,List.set_cons_succ,List.set_cons_zero,List.getElem?_cons_succ,List.getElem?_cons_zero,hr3,<- hS3f,zT,jY,ec4,R.bind_ok,alloc,lS3f,R.stm_ok,ht,zC1]
 have lS3:S3.length=S2.length+t.length+2:=by rw[hS3];simp;omega
 have hRS:RS3 (S++nS S.length L B) V (S1.length+2) (S2.length+t.length+1) (fun _=>none) (fun z=>(jD nd (fun _=>none) z:Int)) (S3++[.lst ((V.filter fun z=>decide ((jD nd (fun _=>none) z:Int)=0)).map .str)]):=by
  rw[<- hS1]
  refine⟨⟨by rw[List.length_append];omega,fun q hq=>?_⟩,by omega,by omega,by omega,zm hr3 _,zm hm3 _⟩
  rw[List.getElem?_append_left (by omega),pS3.eq q (by omega),pS2.eq q hq]
 obtain⟨σ',rk',s',e6,hσ,hR,hpre,hr⟩:=zQp (v0:=some (.ref p)) nb hN hn vn (by omega) vm (zCz V fun _=>none) zAH 0 (fun _=>none) _ S3.length _ none none none (Nat.le_refl _) (by
  have:zCz V (fun _=>none) <= V.length:=List.length_filter_le _ _
  unfold zAH;omega) (WI.start vn) hRS (by rw[<- hS1];omega) (by omega) (by omega) zd
 obtain⟨g,hg⟩:=hpre.app
 have eg:s'=S++(nS S.length L B++g):=by rw[hg,List.append_assoc]
 refine⟨V,rk',vs,vn,vm,vl,hR,?_⟩
 rw[eg] at e6 hr
 refine zCR (g:=nS S.length L B++g) (j:=S1.length+2) ?_ hr (by omega) (zQj (fun x=>zPC _ _) V)
 show (zJ QG (zJ QN (zJ Zx (zJ Z0 (zJ Q5 (zJ Q6 zAD))))) [some (.ref p),none,none,none,none,none,none,none,none] S).out=_
 have s1:QG [some (.ref p),none,none,none,none,none,none,none,none] S=.nx [some (.ref p),some (.ref S.length),none,none,none,none,none,none,none] S1:=by
  simp only[QG,zT,zI,zB,zD,zA,List.getElem?_cons_zero,R.bind_ok,e1,R.stm_ok,List.set_cons_succ,List.set_cons_zero]
 show ((QG _ _).then _).out=_
 rw[s1,RS.then_nx]
 show ((QN _ _).then _).out=_
 rw[s2,RS.then_nx]
 show ((Zx _ _).then _).out=_
 rw[s3,RS.then_nx]
 show ((Z0 _ _).then _).out=_
 rw[s4,RS.then_nx]
 have s5:∀ s,Q5 [some (.ref p),some (.ref S.length),some (.ref (S1.length+2)),some (.ref (S2.length+t.length+1)),some (.ref S3.length),none,none,none,none] s=.nx [some (.ref p),some (.ref S.length),some (.ref (S1.length+2)),some (.ref (S2.length+t.length+1)),some (.ref S3.length),some (.int ((0:Nat):Int)),none,none,none] s:=fun s=>rfl
 show ((Q5 _ _).then _).out=_
 rw[s5,RS.then_nx]
 show ((Q6 _ _).then _).out=_
 have s6:Q6=zAi zAF Jv:=rfl
 rw[s6]
 show ((qE zAH zAF Jv _ _).then _).out=_
 rw[e6,RS.then_nx]
 simp only[zAD,jK,zA,hσ,R.stm_ok,RS.out_rt]
def Zm:SM :=
  (zJ (zT 1 jw)
  (zJ (yg (zA 0) (JN (qg (zK 2) (qg (zK 3) JJ)))
  (jz (zA 1) (zA 2) (zI zB3 (zB (zA 3) zD))))
  (jK (zA 1))))
def zGD:F:=fn 4 Zm
abbrev Qw:F:=zGD
abbrev zKr:SM:=jz (zA 1) (zA 2) (zI zB3 (zB (zA 3) zD))
abbrev zON:GM:=JN (qg (zK 2) (qg (zK 3) JJ))
theorem zLH {S:M.S}{p:Nat}{kvs:List (D×D)}{nd:List (T×List T)} (hp:S[p]? = some (.dct kvs)) (dr:DR S kvs nd) (hn:(zZ nd).Nodup) (hl:nd.length <= 100) :
  ∃ hk g,Qw [.ref p] S=.ok (.ref S.length) (S++.dct hk::g)/\DR (S++.dct hk::g) hk nd:=by
 obtain⟨S',hS⟩:∃ S',S'=S.set p (.fdc kvs):=⟨_,rfl⟩
 have hSl:S'.length=S.length:=by rw[hS,List.length_set]
 have hf:∀ (r:Nat) (xs:List D),S[r]? = some (.lst xs)->S'[r]? = some (.lst xs):=fun r xs e=>by rw[hS];exact zDA hp (fun _ z=>nomatch z) e
 obtain⟨σ',s',e5,⟨v2,v3,eσ⟩,hk,g,es,drh⟩:=yf (g:=[]) (f:=jm zON zKr)
  (fun j σ s=>(∃ v2 v3:Option D,σ=[some (.ref p),some (.ref S.length),v2,v3])/\∃ hk g,s=S'++.dct hk::g/\DR s hk (nd.take j))
  (kvs.map fun p=>D.tup [p.1,p.2]) 0 [some (.ref p),some (.ref S.length),none,none] (S'++[O.dct []]) ⟨⟨none,none,rfl⟩,[],[],rfl,trivial⟩ fun j x hx σ s ⟨⟨v2,v3,eσ⟩,hk,g,es,drh⟩=>by
   rw[Nat.zero_add] at drh ⊢
   subst eσ
   rw[List.getElem?_map] at hx
   cases q:kvs[j]? with
   | none=>rw[q] at hx;cases hx
   | some kv =>
    rw[q] at hx
    have hx':x=.tup [kv.1,kv.2]:=by simpa using hx.symm
    subst hx'
    obtain⟨pr,r,e1,e2,e3⟩:=dr.at q
    subst e2
    have e3':s[r]? = some (.lst (pr.2.map .str)):=by rw[es];exact zm (hf r _ e3) _
    have hj:j < nd.length:=(List.getElem?_eq_some_iff.mp e1).1
    have ep:nd[j]=pr:=(List.getElem?_eq_some_iff.mp e1).2
    have hlen:hk.length < SZ:=by rw[drh.length,List.length_take];unfold SZ;omega
    have gs:s[S.length]? = some (.dct hk):=by rw[es,<- hSl];exact zd
    have gs':(s++[O.lst (pr.2.map D.str)])[S.length]? = some (.dct hk):=zm gs _
    have hs':(s++[O.lst (pr.2.map D.str)]).set S.length (.dct (jx (.str pr.1) (.ref s.length) hk))=S'++.dct (jx (.str pr.1) (.ref s.length) hk)::(g++[O.lst (pr.2.map D.str)]):=by
     rw[es,List.append_assoc,List.cons_append,<- hSl,Jg]
    refine⟨[some (.ref p),some (.ref S.length),some (.str pr.1),some (.ref r)],_,?_,rfl,⟨_,_,rfl⟩,jx (.str pr.1) (.ref s.length) hk,g++[O.lst (pr.2.map D.str)],rfl,?_⟩
    ·rw[<- hs']
     simp[e3',gs',jA,hlen]
    ·rw[<- hs']
     have kp:ZV s ((s++[O.lst (pr.2.map D.str)]).set S.length (.dct (jx (.str pr.1) (.ref s.length) hk))):=(ZV.app s [O.lst (pr.2.map D.str)]).trans (ZV.set gs' (fun _ z=>nomatch z))
     have key:pr.1∉zZ (nd.take j):=fun z=>by
      have hn':=hn
      rw[<- List.take_append_drop j nd] at hn'
      unfold zZ at hn' z
      rw[List.map_append,List.nodup_append] at hn'
      refine hn'.2.2 pr.1 z pr.1 (List.mem_map.mpr ⟨pr,?_,rfl⟩) rfl
      rw[List.drop_eq_getElem_cons hj,ep]
      exact List.mem_cons_self
     have:=(drh.mono kp).put (k:=pr.1) (r:=s.length) (row:=pr.2) ?_
     ·rw[zMe key] at this
      rw[List.take_succ,e1]
      exact this
     ·rw[List.getElem?_set_ne (by
       have:=(List.getElem?_eq_some_iff.mp gs).1
       omega)]
      simp
 rw[Nat.zero_add,List.length_map,dr.length,List.take_length] at drh
 subst eσ
 subst es
 refine⟨hk,g,?_,?_⟩
 ·have g5:(S++[O.dct []])[p]? = some (.dct kvs):=zm hp _
  have s5:(S++[O.dct []]).set p (.fdc kvs)=S'++[O.dct []]:=by rw[zAo hp,hS]
  have e6:(yg (zA 0) zON zKr) [some (.ref p),some (.ref S.length),none,none] (S++[O.dct []])=.nx [some (.ref p),some (.ref S.length),v2,v3] (S++.dct hk::g):=by
   simp only[yg,zA,List.getElem?_cons_zero,R.stm_ok,g5,s5,e5]
   rw[hS]
   exact y7 hp _
  show ((Zm [some (.ref p),none,none,none] S).out)=_
  unfold Zm
  have e0:(zT 1 jw) [some (.ref p),none,none,none] S=.nx [some (.ref p),some (.ref S.length),none,none] (S++[.dct []]):=by simp
  show ((((zT 1 jw) _ _).then _).out)=_
  rw[e0,RS.then_nx]
  show ((((yg _ _ _) _ _).then _).out)=_
  rw[e6]
  simp
 ·refine drh.mono fun r xs e=>?_
  by_cases h:r < S.length
  ·rw[List.getElem?_append_left (by omega)] at e
   rw[List.getElem?_append_left h]
   by_cases hr:r=p
   ·subst hr;rw[hS,zAl hp] at e;cases e
   ·rw[hS,List.getElem?_set_ne (Ne.symm hr)] at e;exact e
  ·rw[List.getElem?_append_right (by omega),hSl] at e
   rw[List.getElem?_append_right (by omega)];exact e
def y8:SM :=
  (zT 2 (zI Z5 (zB (zA 0) zD)))
def Zt:SM :=
  (zT 3 jw)
def ZG:SM :=
  (zT 4 (zI zB3 (zB (zA 1) zD)))
def Zs:SM :=
  (zAi (zc cGt (zI jo (zB (zA 4) zD)) (eC (.int 0)))
  (zJ (zT 5 (eM .list zDo (zA 4) zD))
  (qA (eM .dict ZA (zA 2) (zB (zA 5) (zB jw zD))) (zK 6)
  (sIf (zc jU (zA 6) (zA 3))
  (zJ (jz (zA 3) (zA 6) (eC (.bl true)))
  (yR (eM .list q8 (zA 4) (zB (zA 6) zD))))
  jE))))
def Qq:SM :=
  (jK (zI Jb (zB (zA 3) zD)))
def zCS:SM:=(zJ y8 (zJ Zt (zJ ZG (zJ Zs Qq))))
def zFo:F:=fn 7 zCS
def yD:F:=chN zFo
theorem zJB:jO 2 zFo yD:=zCh _
inductive Lds (nd:List (T×List T)):T->T->Prop where
 | one {x z:T} (h:z∈nOf nd x):Lds nd x z
 | step {x y z:T} (h:y∈nOf nd x) (r:Lds nd y z):Lds nd x z
theorem zPk {K:List T}{x:T}:jT (.str x) (K.map tk)=if x∈K then some (.bl true) else none:=by
 have e:K.map tk=fD K fun _=>.bl true:=rfl
 rw[e]
 by_cases h:x∈K
 ·rw[if_pos h,ZR h]
 ·rw[if_neg h,zKJ h]
abbrev zHA:SM:=(sIf (zc jU (zA 6) (zA 3))
  (zJ (jz (zA 3) (zA 6) (eC (.bl true)))
  (yR (eM .list q8 (zA 4) (zB (zA 6) zD))))
  jE)
theorem zJS {N:List T} (hN:N.length <= 62) {al at1:Nat} (hne:al≠at1) {v0 v1 v2 v5:Option D}:∀ (xs K td:List T) (s:M.S) (v6:Option D),K.Nodup->(∀ x∈K,x∈N)->(∀ x∈xs,x∈N)->s[al]? = some (.dct (K.map tk))->s[at1]? = some (.lst (td.map .str))->td.length+xs.length <= 100000 ->
  ∃ (v6':Option D) (s':M.S) (K' td':List T),qK [] (jm (zK 6) zHA) (xs.map .str) [v0,v1,v2,some (.ref al),some (.ref at1),v5,v6] s=.nx [v0,v1,v2,some (.ref al),some (.ref at1),v5,v6'] s'/\Fr2 al at1 s s'/\s'[al]? = some (.dct (K'.map tk))/\s'[at1]? = some (.lst (td'.map .str))/\K'.Nodup/\(∀ x,x∈K'↔x∈K\/x∈xs)/\(∀ x∈td,x∈td')/\(∀ x∈td',x∈td\/x∈K')/\(∀ x∈xs,x∈K\/x∈td')/\td'.length+K.length=td.length+K'.length
 | [],K,td,s,v6,kn,kN,_,h1,h2,_=>⟨v6,s,K,td,rfl,Fr2.refl _ _ _,h1,h2,kn,fun x=>by simp,fun x h=>h,fun x h=>.inl h,(fun x h=>by cases h),rfl⟩
 | x::xs,K,td,s,v6,kn,kN,hx,h1,h2,hl=>by
  have d0:=zPk (K:=K) (x:=x)
  have hxN:=hx x List.mem_cons_self
  have hxs:∀ y∈xs,y∈N:=fun y hy=>hx y (List.mem_cons_of_mem _ hy)
  simp only[List.length_cons] at hl
  by_cases c:x∈K
  ·rw[if_pos c] at d0
   have e:jm (zK 6) zHA (.str x) [v0,v1,v2,some (.ref al),some (.ref at1),v5,v6] s=.nx [v0,v1,v2,some (.ref al),some (.ref at1),v5,some (.str x)] s:=by
    simp only[jm,zK,List.set_cons_succ,List.set_cons_zero,zHA,sIf,zc,jU,zA,List.getElem?_cons_succ,List.getElem?_cons_zero,R.bind_ok,inD,h1,jA,if_true,d0,Option.isSome_some,Bool.not_true,R.stm_ok,Bool.false_eq_true,if_false,jE]
   obtain⟨v6',s',K',td',e2,f,a1,a2,a3,a4,a5,a6,a7,a8⟩:=zJS hN hne xs K td s (some (.str x)) kn kN hxs h1 h2 (by omega)
   refine⟨v6',s',K',td',?_,f,a1,a2,a3,fun y=>?_,a5,a6,fun y hy=>?_,a8⟩
   ·rw[List.map_cons,qK,e];exact e2
   ·rw[a4 y,List.mem_cons]
    constructor
    ·rintro (h | h)
     ·exact .inl h
     ·exact .inr (.inr h)
    ·rintro (h | rfl | h)
     ·exact .inl h
     ·exact .inl c
     ·exact .inr h
   ·rcases List.mem_cons.mp hy with rfl | hy
    ·exact .inl c
    ·exact a7 y hy
  ·rw[if_neg c] at d0
   have lK:=qY kn kN
   have z1:(K.map tk).length < SZ:=by rw[List.length_map];unfold SZ;omega
   have z2:(td.map D.str).length < SZ:=by rw[List.length_map];unfold SZ;omega
   obtain⟨s1,hs1⟩:∃ s1,s1=s.set al (.dct ((K++[x]).map tk)):=⟨_,rfl⟩
   obtain⟨s2,hs2⟩:∃ s2,s2=s1.set at1 (.lst ((td++[x]).map .str)):=⟨_,rfl⟩
   have b1:s1[al]? = some (.dct ((K++[x]).map tk)):=by rw[hs1];exact yL h1
   have b2:s1[at1]? = some (.lst (td.map .str)):=by rw[hs1,zg (Ne.symm hne)];exact h2
   have c1:s2[al]? = some (.dct ((K++[x]).map tk)):=by rw[hs2,zg hne];exact b1
   have c2:s2[at1]? = some (.lst ((td++[x]).map .str)):=by rw[hs2];exact yL b2
   have pt:jx (.str x) (.bl true) (K.map tk)=(K++[x]).map tk:=by rw[zEP];unfold yE;rw[if_neg c]
   have e:jm (zK 6) zHA (.str x) [v0,v1,v2,some (.ref al),some (.ref at1),v5,v6] s=.nx [v0,v1,v2,some (.ref al),some (.ref at1),v5,some (.str x)] s2:=by
    have i1:(jz (zA 3) (zA 6) (eC (.bl true))) [v0,v1,v2,some (.ref al),some (.ref at1),v5,some (.str x)] s=.nx [v0,v1,v2,some (.ref al),some (.ref at1),v5,some (.str x)] s1:=by
     simp only[jz,eC,zA,R.stm_ok,List.getElem?_cons_succ,List.getElem?_cons_zero,y1,h1,jA,z1,decide_true,Bool.and_self,if_true,pt,hs1]
    have i2:(yR (eM .list q8 (zA 4) (zB (zA 6) zD))) [v0,v1,v2,some (.ref al),some (.ref at1),v5,some (.str x)] s1=.nx [v0,v1,v2,some (.ref al),some (.ref at1),v5,some (.str x)] s2:=by
     simp only[yR,eM,zA,List.getElem?_cons_succ,List.getElem?_cons_zero,R.bind_ok,ZX,b2,if_true,zB,zD,q8,z2,R.stm_ok,hs2,List.map_append,List.map_cons,List.map_nil]
    have i0:(zc jU (zA 6) (zA 3)) [v0,v1,v2,some (.ref al),some (.ref at1),v5,some (.str x)] s=.ok true s:=by
     simp only[zc,jU,zA,List.getElem?_cons_succ,List.getElem?_cons_zero,R.bind_ok,inD,h1,jA,if_true,d0,Option.isSome_none,Bool.not_false]
    show ((zc jU (zA 6) (zA 3)) [v0,v1,v2,some (.ref al),some (.ref at1),v5,some (.str x)] s).stm _ _=_
    rw[i0,R.stm_ok,if_pos rfl]
    show ((jz _ _ _) [v0,v1,v2,some (.ref al),some (.ref at1),v5,some (.str x)] s).then _=_
    rw[i1,RS.then_nx]
    exact i2
   have f12:Fr2 al at1 s s2:=⟨by rw[hs2,List.length_set,hs1,List.length_set],fun q n1 n2=>by rw[hs2,zg n2,hs1,zg n1]⟩
   obtain⟨v6',s',K',td',e2,f,a1,a2,a3,a4,a5,a6,a7,a8⟩:=zJS hN hne xs (K++[x]) (td++[x]) s2 (some (.str x)) (by
    rw[List.nodup_append]
    exact⟨kn,by simp,fun a ha b hb z=>by simp at hb;subst hb;subst z;exact c ha⟩) (fun y hy=>by
    rcases List.mem_append.mp hy with hy | hy
    ·exact kN y hy
    ·rw[List.mem_singleton.mp hy];exact hxN) hxs c1 c2 (by rw[List.length_append];simp;omega)
   refine⟨v6',s',K',td',?_,f12.trans f,a1,a2,a3,fun y=>?_,fun y hy=>a5 y (List.mem_append_left _ hy),fun y hy=>?_,fun y hy=>?_,?_⟩
   ·rw[List.map_cons,qK,e];exact e2
   ·rw[a4 y,List.mem_append,List.mem_singleton,List.mem_cons,or_assoc]
   ·rcases a6 y hy with h | h
    ·rcases List.mem_append.mp h with h | h
     ·exact .inl h
     ·rw[List.mem_singleton.mp h];exact .inr ((a4 x).mpr (.inl (by simp)))
    ·exact .inr h
   ·rcases List.mem_cons.mp hy with rfl | hy
    ·exact .inr (a5 _ (by simp))
    ·rcases a7 y hy with h | h
     ·rcases List.mem_append.mp h with h | h
      ·exact .inl h
      ·rw[List.mem_singleton.mp h];exact .inr (a5 _ (by simp))
     ·exact .inr h
   ·rw[List.length_append,List.length_append] at a8
    simp only[List.length_cons,List.length_nil] at a8
    omega
abbrev zCs:SM:=(zJ (zT 5 (eM .list zDo (zA 4) zD))
  (qA (eM .dict ZA (zA 2) (zB (zA 5) (zB jw zD))) (zK 6) zHA))
abbrev JV:TM:=zc cGt (zI jo (zB (zA 4) zD)) (eC (.int 0))
structure LnI (S1:M.S) (st N:List T) (nd:List (T×List T)) (B:T->List T) (K td:List T) (s:M.S):Prop where
 pre:ze S1 s
 k:s[S1.length]? = some (.dct (K.map tk))
 t:s[S1.length+1]? = some (.lst (td.map .str))
 kn:K.Nodup
 kN:∀ x∈K,x∈N
 snd:∀ x∈K,∃ y∈st,Lds nd x y
 tds:∀ z∈td,z∈st\/z∈K
 cmp:∀ z,z∈st\/z∈K->z∈td\/∀ x∈B z,x∈K
section
variable {S:M.S}{L N st:List T}{B:T->List T}{nd:List (T×List T)}
theorem zNp (nb:NB N nd L B) (hn:(zZ nd).Nodup) (hN:N.length <= 62) {K td:List T}{z:T}{s:M.S} (h:LnI (S++nS S.length L B) st N nd B K (td++[z]) s) (hl:td.length <= 50000) {v0 v1 v5 v6:Option D} :
  ∃ (v5' v6':Option D) (K' td':List T) (s':M.S),zCs [v0,v1,some (.ref S.length),some (.ref (S++nS S.length L B).length),some (.ref ((S++nS S.length L B).length+1)),v5,v6] s=.nx [v0,v1,some (.ref S.length),some (.ref (S++nS S.length L B).length),some (.ref ((S++nS S.length L B).length+1)),v5',v6'] s'/\LnI (S++nS S.length L B) st N nd B K' td' s'/\td'.length+K.length=td.length+K'.length/\K.length <= K'.length:=by
 generalize hS1:S++nS S.length L B=S1 at *
 have lS1:S.length < S1.length:=by rw[<- hS1];simp
 have hal:=(List.getElem?_eq_some_iff.mp h.k).1
 have hat:=(List.getElem?_eq_some_iff.mp h.t).1
 obtain⟨s1,hs1⟩:∃ s1,s1=s.set (S1.length+1) (.lst (td.map .str)):=⟨_,rfl⟩
 have l1:s1.length=s.length:=by rw[hs1,List.length_set]
 have t1:s1[S1.length+1]? = some (.lst (td.map .str)):=by rw[hs1];exact yL h.t
 have q1:∀ q,q≠S1.length+1->s1[q]? = s[q]? := fun q hq=>by rw[hs1];exact zg hq
 have e1:(zT 5 (eM .list zDo (zA 4) zD)) [v0,v1,some (.ref S.length),some (.ref S1.length),some (.ref (S1.length+1)),v5,v6] s=.nx [v0,v1,some (.ref S.length),some (.ref S1.length),some (.ref (S1.length+1)),some (.str z),v6] s1:=by
  have g1:((td++[z]).map D.str).getLast? = some (.str z):=by rw[List.map_append];simp
  have g2:((td++[z]).map D.str).dropLast=td.map .str:=by rw[List.map_append];simp
  simp only[zT,eM,zA,List.getElem?_cons_succ,List.getElem?_cons_zero,R.bind_ok,ZX,h.t,if_true,zD,zDo,g1,g2,R.stm_ok,List.set_cons_succ,List.set_cons_zero,hs1]
 obtain⟨s2,hs2⟩:∃ s2,s2=s1++[O.dct []]:=⟨_,rfl⟩
 have l2:s2.length=s.length+1:=by rw[hs2];simp[l1]
 have q2:∀ (q:Nat),q < s.length->s2[q]? = s1[q]? := fun q hq=>by rw[hs2];exact List.getElem?_append_left (by omega)
 have lo:∀ q,q < S1.length->s2[q]? = S1[q]? := fun q hq=>by
  rw[q2 q (Nat.lt_of_lt_of_le hq h.pre.le),q1 q (by omega),h.pre.eq q hq]
 have an:s2[S.length]? = some (.dct (qS (S.length+1) L)):=by rw[lo _ lS1,<- hS1];exact zd
 obtain⟨r0,hg,hr0,na,nt⟩:∃ r0,(jT (.str z) (qS (S.length+1) L)).getD (.ref s1.length)=.ref r0/\s2[r0]? = some (.dct ((B z).map tk))/\r0≠S1.length/\r0≠S1.length+1:=by
  by_cases hL:z∈L
  ·have hi:=List.idxOf_lt_length_iff.mpr hL
   have hlt:S.length+1+L.idxOf z < S1.length:=by rw[<- hS1];simp;omega
   refine⟨S.length+1+L.idxOf z,by rw[Z1,if_pos hL];rfl,?_,by omega,by omega⟩
   rw[lo _ hlt,<- hS1]
   have:=zI8 (S:=S) (B:=B) hL []
   rwa [List.append_nil] at this
  ·refine⟨s1.length,by rw[Z1,if_neg hL];rfl,?_,by omega,by omega⟩
   rw[hs2,nb.out z hL]
   exact zd
 obtain⟨s3,hs3⟩:∃ s3,s3=s2.set r0 (.fdc ((B z).map tk)):=⟨_,rfl⟩
 have k3:s3[S1.length]? = some (.dct (K.map tk)):=by rw[hs3,zg (Ne.symm na),q2 _ hal,q1 _ (by omega)];exact h.k
 have t3:s3[S1.length+1]? = some (.lst (td.map .str)):=by rw[hs3,zg (Ne.symm nt),q2 _ hat];exact t1
 have lB:=qY (nb.nb z).1 (nb.nb z).2
 obtain⟨v6',s4,K',td',e4,f4,k4,t4,kn4,km4,a5,a6,a7,a8⟩:=zJS hN (show S1.length≠S1.length+1 by omega) (v0:=v0) (v1:=v1) (v2:=some (.ref S.length)) (v5:=some (.str z)) (B z) K td s3 v6 h.kn h.kN (nb.nb z).2 k3 t3 (by omega)
 have r4:s4[r0]? = some (.fdc ((B z).map tk)):=by rw[f4.eq r0 na nt,hs3];exact yL hr0
 obtain⟨s5,hs5⟩:∃ s5,s5=s4.set r0 (.dct ((B z).map tk)):=⟨_,rfl⟩
 have q5:∀ q,q≠S1.length->q≠S1.length+1->s5[q]? = s2[q]? := fun q h1 h2=>by
  by_cases e:q=r0
  ·rw[e,hs5,yL r4,hr0]
  ·rw[hs5,zg e,f4.eq q h1 h2,hs3,zg e]
 have l5:s5.length=s.length+1:=by rw[hs5,List.length_set,f4.len,hs3,List.length_set,l2]
 refine⟨some (.str z),v6',K',td',s5,?_,⟨⟨by have:=h.pre.le;omega,fun q hq=>by rw[q5 q (by omega) (by omega),lo q hq]⟩,by rw[hs5,zg (Ne.symm na)];exact k4,by rw[hs5,zg (Ne.symm nt)];exact t4,kn4,fun x hx=>?_,fun x hx=>?_,fun x hx=>?_,fun w hw=>?_⟩,a8,qY h.kn fun x hx=>(km4 x).mpr (.inl hx)⟩
 ·show ((zT 5 (eM .list zDo (zA 4) zD)) [v0,v1,some (.ref S.length),some (.ref S1.length),some (.ref (S1.length+1)),v5,v6] s).then _=_
  rw[e1,RS.then_nx]
  have o1:s1[S.length]? = some (.dct (qS (S.length+1) L)):=by
   have:=an
   rwa [q2 _ (by have:=h.pre.le;omega)] at this
  simp only[qA,eM,zA,List.getElem?_cons_succ,List.getElem?_cons_zero,R.bind_ok,ZX,o1,if_true,zB,zD,jw,alloc,<- hs2,ZA,an,jA,R.stm_ok,hg,hr0,<- hs3,zIb,e4,thaw,r4,<- hs5]
 ·rcases (km4 x).mp hx with hx | hx
  ·exact h.kN x hx
  ·exact (nb.nb z).2 x hx
 ·rcases (km4 x).mp hx with hx | hx
  ·exact h.snd x hx
  ·have hz:=(nb.need hn z x).mp hx
   rcases h.tds z (by simp) with h1 | h1
   ·exact⟨z,h1,.one hz⟩
   ·obtain⟨y,h2,h3⟩:=h.snd z h1
    exact⟨y,h2,.step hz h3⟩
 ·rcases a6 x hx with hx | hx
  ·rcases h.tds x (List.mem_append_left _ hx) with h1 | h1
   ·exact .inl h1
   ·exact .inr ((km4 x).mpr (.inl h1))
  ·exact .inr hx
 ·by_cases e:w=z
  ·subst e
   exact .inr fun x hx=>(km4 x).mpr (.inr hx)
  ·have old:w∈st\/w∈K->w∈td'\/∀ x∈B w,x∈K':=fun q=>by
    rcases h.cmp w q with h1 | h1
    ·rcases List.mem_append.mp h1 with h1 | h1
     ·exact .inl (a5 w h1)
     ·exact absurd (List.mem_singleton.mp h1) e
    ·exact .inr fun x hx=>(km4 x).mpr (.inl (h1 x hx))
   rcases hw with hw | hw
   ·exact old (.inl hw)
   ·rcases (km4 w).mp hw with hw | hw
    ·exact old (.inr hw)
    ·rcases a7 w hw with h1 | h1
     ·exact old (.inr h1)
     ·exact .inl h1
theorem zLm (nb:NB N nd L B) (hn:(zZ nd).Nodup) (hN:N.length <= 62) {v0 v1:Option D}:∀ (m fuel:Nat) (K td:List T) (s:M.S) (v5 v6:Option D),2 * (N.length - K.length)+td.length <= m->m < fuel->m <= 50000->LnI (S++nS S.length L B) st N nd B K td s ->
  ∃ (v5' v6':Option D) (K':List T) (s':M.S),qE fuel JV zCs [v0,v1,some (.ref S.length),some (.ref (S++nS S.length L B).length),some (.ref ((S++nS S.length L B).length+1)),v5,v6] s=.nx [v0,v1,some (.ref S.length),some (.ref (S++nS S.length L B).length),some (.ref ((S++nS S.length L B).length+1)),v5',v6'] s'/\LnI (S++nS S.length L B) st N nd B K' [] s':=by
 intro m
 induction m with
 | zero =>
  intro fuel K td s v5 v6 hm hf _ h
  cases fuel with
  | zero=>omega
  | succ fuel =>
   have e0:td=[]:=List.eq_nil_of_length_eq_zero (by omega)
   subst e0
   have c:JV [v0,v1,some (.ref S.length),some (.ref (S++nS S.length L B).length),some (.ref ((S++nS S.length L B).length+1)),v5,v6] s=.ok false s:=by
    simp only[JV,zc,zI,zB,zD,zA,List.getElem?_cons_succ,List.getElem?_cons_zero,R.bind_ok,jo,h.t,eC,cGt,List.map_nil,List.length_nil]
    rfl
   exact⟨v5,v6,K,s,by rw[qE,c];rfl,h⟩
 | succ m ih =>
  intro fuel K td s v5 v6 hm hf hb h
  cases fuel with
  | zero=>omega
  | succ fuel =>
   rcases List.eq_nil_or_concat td with e0 | ⟨td0,z,e0⟩
   ·subst e0
    have c:JV [v0,v1,some (.ref S.length),some (.ref (S++nS S.length L B).length),some (.ref ((S++nS S.length L B).length+1)),v5,v6] s=.ok false s:=by
     simp only[JV,zc,zI,zB,zD,zA,List.getElem?_cons_succ,List.getElem?_cons_zero,R.bind_ok,jo,h.t,eC,cGt,List.map_nil,List.length_nil]
     rfl
    exact⟨v5,v6,K,s,by rw[qE,c];rfl,h⟩
   ·rw[List.concat_eq_append] at e0
    subst e0
    have hp:(0:Int) < (((td0++[z]).map D.str).length:Nat):=by rw[List.length_map,List.length_append];simp
    have c:JV [v0,v1,some (.ref S.length),some (.ref (S++nS S.length L B).length),some (.ref ((S++nS S.length L B).length+1)),v5,v6] s=.ok true s:=by
     simp only[JV,zc,zI,zB,zD,zA,List.getElem?_cons_succ,List.getElem?_cons_zero,R.bind_ok,jo,h.t,eC,cGt,hp,decide_true]
    rw[List.length_append] at hm
    simp only[List.length_cons,List.length_nil] at hm
    obtain⟨v5',v6',K',td',s',e1,h',hc,hcK⟩:=zNp nb hn hN h (by omega) (v0:=v0) (v1:=v1) (v5:=v5) (v6:=v6)
    have lK:=qY h.kn h.kN
    have lK':=qY h'.kn h'.kN
    obtain⟨v5'',v6'',K'',s'',e2,h''⟩:=ih fuel K' td' s' v5' v6' (by omega) (by omega) (by omega) h'
    refine⟨v5'',v6'',K'',s'',?_,h''⟩
    rw[qE,c]
    show (match zCs _ s with | .nx σ s=>qE fuel JV zCs σ s | .ct σ s=>qE fuel JV zCs σ s | .bk σ s=>.nx σ s | r=>r)=_
    rw[e1]
    exact e2
end
theorem zAO {S:M.S}{p q:Nat}{kvs:List (D×D)}{nd:List (T×List T)}{N st:List T} (hp:S[p]? = some (.dct kvs)) (dr:DR S kvs nd) (hn:(zZ nd).Nodup) (ok:OkN N nd) (hN:N.length <= 62) (hq:S[q]? = some (.lst (st.map .str))) (hst:st.length <= 1000) :
  ∃ X:List T,(∀ x,x∈X ↔ ∃ y∈st,Lds nd x y)/\X.length <= 62/\yD [.ref p,.ref q] S=alloc (.lst (X.map .str)) S:=by
 obtain⟨L,B,e1,nb⟩:=zEA hp dr hn ok hN
 obtain⟨S1,hS1⟩:∃ S1,S1=S++nS S.length L B:=⟨_,rfl⟩
 have lS1:S.length < S1.length:=by rw[hS1];simp
 have hq1:S1[q]? = some (.lst (st.map .str)):=by rw[hS1];exact zm hq _
 have I0:LnI (S++nS S.length L B) st N nd B [] st (S1++[O.dct [],.lst (st.map .str)]):=by
  rw[<- hS1]
  refine⟨ze.of _ _,zd,?_,List.nodup_nil,(fun x h=>by cases h),(fun x h=>by cases h),fun z h=>.inl h,fun z h=>?_⟩
  ·rw[List.getElem?_append_right (by omega),show S1.length+1 - S1.length=1 by omega];rfl
  ·rcases h with h | h
   ·exact .inl h
   ·cases h
 obtain⟨v5,v6,K,s',e4,I⟩:=zLm nb hn hN (v0:=some (.ref p)) (v1:=some (.ref q)) (2 * N.length+st.length) zAH [] st _ none none (by simp) (by unfold zAH;omega) (by omega) I0
 rw[<- hS1] at e1 e4
 have lK:=qY I.kn I.kN
 have hcl:∀ x y,Lds nd x y->y∈st->x∈K:=fun x y h=>by
  induction h with
  | one h =>
   intro hy
   rcases I.cmp _ (.inl hy) with h1 | h1
   ·cases h1
   ·exact h1 _ ((nb.need hn _ _).mpr h)
  | step h _ ih =>
   intro hy
   rcases I.cmp _ (.inr (ih hy)) with h1 | h1
   ·cases h1
   ·exact h1 _ ((nb.need hn _ _).mpr h)
 refine⟨qp K,fun x=>?_,by rw[(Js K).length_eq];omega,?_⟩
 ·rw[(Js K).mem_iff]
  constructor
  ·exact I.snd x
  ·rintro ⟨y,h1,h2⟩;exact hcl x y h2 h1
 obtain⟨g,hg⟩:=I.pre.app
 have eg:s'=S++(nS S.length L B++g):=by rw[hg,List.append_assoc]
 have hk:=I.k
 rw[<- hS1] at hk
 refine zCR (g:=nS S.length L B++g++[.lst ((qp K).map .str)]) (j:=s'.length) ?_ (by rw[<- List.append_assoc,<- eg];exact zd) (by rw[eg];simp) (JC _ _)
 have s1:y8 [some (.ref p),some (.ref q),none,none,none,none,none] S=.nx [some (.ref p),some (.ref q),some (.ref S.length),none,none,none,none] S1:=by
  simp only[y8,zT,zI,zB,zD,zA,List.getElem?_cons_zero,R.bind_ok,e1,R.stm_ok,List.set_cons_succ,List.set_cons_zero]
 have s2:Zt [some (.ref p),some (.ref q),some (.ref S.length),none,none,none,none] S1=.nx [some (.ref p),some (.ref q),some (.ref S.length),some (.ref S1.length),none,none,none] (S1++[.dct []]):=rfl
 have s3:ZG [some (.ref p),some (.ref q),some (.ref S.length),some (.ref S1.length),none,none,none] (S1++[.dct []])=.nx [some (.ref p),some (.ref q),some (.ref S.length),some (.ref S1.length),some (.ref (S1.length+1)),none,none] (S1++[O.dct [],.lst (st.map .str)]):=by
  simp only[ZG,zT,zI,zB,zD,zA,List.getElem?_cons_succ,List.getElem?_cons_zero,R.bind_ok,zB3,zm hq1 [O.dct []],alloc,R.stm_ok,List.set_cons_succ,List.set_cons_zero,List.length_append,List.length_cons,List.length_nil,Nat.zero_add,List.append_assoc,List.cons_append,List.nil_append]
 show (zJ y8 (zJ Zt (zJ ZG (zJ Zs Qq))) [some (.ref p),some (.ref q),none,none,none,none,none] S).out=_
 show ((y8 _ _).then _).out=_
 rw[s1,RS.then_nx]
 show ((Zt _ _).then _).out=_
 rw[s2,RS.then_nx]
 show ((ZG _ _).then _).out=_
 rw[s3,RS.then_nx]
 have e4':Zs [some (.ref p),some (.ref q),some (.ref S.length),some (.ref S1.length),some (.ref (S1.length+1)),none,none] (S1++[O.dct [],.lst (st.map .str)])=.nx [some (.ref p),some (.ref q),some (.ref S.length),some (.ref S1.length),some (.ref (S1.length+1)),v5,v6] s':=e4
 show ((Zs _ _).then _).out=_
 rw[e4',RS.then_nx]
 simp only[Qq,jK,zI,zB,zD,zA,List.getElem?_cons_succ,List.getElem?_cons_zero,R.bind_ok,Jb,hk,zDv (show K.length < 64 by omega),alloc,R.stm_ok,RS.out_rt]
 rw[eg]
 simp
def j7:SM :=
  (Z7 1 (zT 3 (jY 1 (yY (zA 1)) (zK 8) (yS (eOp zU (zA 1) (zA 8))) (zA 8))))
def jS:SM :=
  (sIf (ZE (qe (zA 3)))
  (jK (eC (.bl true)))
  jE)
def j8:SM :=
  (zT 4 (eOp zU (zA 3) (eOp jg (zA 2) (zI jo (zB (zA 3) zD)))))
def j9:SM :=
  (zT 5 (eOp jW (zI yD (zB (zA 0) (zB (qD (zB (zA 4) zD)) zD))) (qD (zB (zA 4) zD))))
def j6:SM :=
  (zT 6 (zI Qw (zB (zA 0) zD)))
def qB:SM :=
  (zT 7 (eOp zU (zA 5) (eOp jg (eOp zAR (zA 2) (eC (.int 60))) (zI jo (zB (zA 5) zD)))))
def qC:SM :=
  (jz (zA 6) (zA 4) (eOp jW (eM .dict ZA (zA 0) (zB (zA 4) (zB (qD zD) zD))) (qD (zB (zA 7) zD))))
def qN:SM :=
  (jK (zJM (zJH (eOp zU (zI Je (zB (zA 6) zD)) (zA 4))) (zAI cIn (zA 4) (zI yD (zB (zA 6) (zB (qD (zB (zA 4) zD)) zD))))))
def QJ:SM:=(zJ j7 (zJ jS (zJ j8 (zJ j9 (zJ j6 (zJ qB (zJ qC qN)))))))
def J8:F:=fn 8 QJ
def qk:F:=chS J8
theorem zCH:jO 3 J8 qk:=zCY _
theorem ze.get {s s':M.S} (h:ze s s') {q:Nat}{o:O} (e:s[q]? = some o):s'[q]? = some o:=by
 rw[h.eq q (List.getElem?_eq_some_iff.mp e).1];exact e
theorem ze.keep {s s':M.S} (h:ze s s'):ZV s s':=fun _ _ e=>h.get e
theorem ze.trans {a b c:M.S} (h:ze a b) (k:ze b c):ze a c:=⟨Nat.le_trans h.le k.le,fun q hq=>by rw[k.eq q (Nat.lt_of_lt_of_le hq h.le),h.eq q hq]⟩
theorem ze.refl (s:M.S):ze s s:=⟨Nat.le_refl _,fun _ _=>rfl⟩
theorem ze.set {s s':M.S} (h:ze s s') {q:Nat} (hq:s.length <= q) (o:O):ze s (s'.set q o):=⟨by rw[List.length_set];exact h.le,fun r hr=>by rw[zg (by omega)];exact h.eq r hr⟩
theorem zM8 {b:Nat}{N:List T}{nd:List (T×List T)} (hn:(zZ nd).Nodup) (h:OkB b N nd) (x:T):(nOf nd x).length <= b/\∀ t∈nOf nd x,t∈N:=by
 refine⟨?_,fun t ht=>?_⟩
 ·cases q:nOf nd x with
  | nil=>simp
  | cons y ys =>
   have hy:y∈nOf nd x:=by rw[q];simp
   obtain⟨p,h1,h2,h3⟩:=(zAW hn).mp hy
   have e:nOf nd x=p.2:=by unfold nOf;rw[<- h2,Jz hn h1];rfl
   rw[<- q,e]
   exact (h p h1).2.1
 ·obtain⟨p,h1,h2,h3⟩:=(zAW hn).mp ht
  exact (h p h1).2.2 t h3
theorem zCe {s:M.S}{n:Nat}{kvs:List (D×D)}{nd:List (T×List T)} (hs:s[n]? = some (.dct kvs)) (dr:DR s kvs nd) (x:T):∃ r,(jT (.str x) kvs).getD (.ref s.length)=.ref r/\(s++[O.lst []])[r]? = some (.lst ((nOf nd x).map .str)):=by
 rcases dr.get x with ⟨h1,h2⟩ | ⟨row,r,h1,h2,h3⟩
 ·refine⟨s.length,by rw[h2];rfl,?_⟩
  unfold nOf
  rw[h1]
  exact zd
 ·refine⟨r,by rw[h2];rfl,?_⟩
  unfold nOf
  rw[h1]
  exact zm h3 _
theorem zD3 {a x:T}{v:List T}:∀ {nd:List (T×List T)},(nd.map fun p=>if p.1=a then (p.1,v) else p).lookup x=if x=a then (nd.lookup x).map (fun _=>v) else nd.lookup x
 | []=>by simp
 | (k,w)::nd=>by
  have ih:=zD3 (a:=a) (x:=x) (v:=v) (nd:=nd)
  rw[List.map_cons]
  by_cases hk:k=a
  ·subst hk
   rw[if_pos rfl,List.lookup_cons,List.lookup_cons]
   by_cases hx:x=k
   ·subst hx;simp
   ·have:(x == k)=false:=by simpa using hx
    rw[this,ih,if_neg hx]
  ·rw[if_neg hk,List.lookup_cons,List.lookup_cons]
   by_cases hx:x=k
   ·subst hx;simp[hk]
   ·have:(x == k)=false:=by simpa using hx
    rw[this,ih]
theorem zBB {a:T}:∀ {nd:List (T×List T)},a∉zZ nd->nd.lookup a=none
 | [],_=>rfl
 | (k,w)::nd,h=>by
  unfold zZ at h
  rw[List.map_cons,List.mem_cons,not_or] at h
  have:(a == k)=false:=by simpa using h.1
  rw[List.lookup_cons,this]
  exact zBB h.2
theorem zDJ {a:T}:∀ {nd:List (T×List T)},a∈zZ nd->∃ v,nd.lookup a=some v
 | [],h=>by cases h
 | (k,w)::nd,h=>by
  rw[List.lookup_cons]
  by_cases hx:a=k
  ·subst hx;exact⟨w,by simp⟩
  ·have:(a == k)=false:=by simpa using hx
   rw[this]
   unfold zZ at h
   rw[List.map_cons,List.mem_cons] at h
   rcases h with h | h
   ·exact absurd h hx
   ·exact zDJ h
theorem zIZ {a x:T}{v:List T}{nd:List (T×List T)}:nOf (yq a v nd) x=if x=a then v else nOf nd x:=by
 unfold nOf yq
 by_cases h:a∈zZ nd
 ·rw[if_pos (zBZ.mpr h),zD3]
  by_cases hx:x=a
  ·subst hx
   obtain⟨w,hw⟩:=zDJ h
   rw[if_pos rfl,if_pos rfl,hw];rfl
  ·rw[if_neg hx,if_neg hx]
 ·rw[if_neg (fun z=>h (zBZ.mp z)),List.lookup_append]
  by_cases hx:x=a
  ·subst hx
   rw[if_pos rfl,zBB h]
   simp
  ·rw[if_neg hx]
   have:(x == a)=false:=by simpa using hx
   simp[List.lookup_cons,this]
theorem Lds.mono {nd nd':List (T×List T)} (h:∀ x,∀ y∈nOf nd x,y∈nOf nd' x) {x y:T} (r:Lds nd x y):Lds nd' x y:=by
 induction r with
 | one a=>exact .one (h _ _ a)
 | step a _ ih=>exact .step (h _ _ a) ih
theorem RK.less {nd:List (T×List T)}{V:List T}{rk:T->Option Nat} (h:RK nd V rk) {x y:T} (r:Lds nd x y):∀ k,rk x=some k->∃ j,j < k/\rk y=some j:=by
 induction r with
 | one a=>exact fun k e=>h.low _ k e _ a
 | step a _ ih =>
  intro k e
  obtain⟨j,h1,h2⟩:=h.low _ k e _ a
  obtain⟨i,h3,h4⟩:=ih j h2
  exact⟨i,by omega,h4⟩
theorem Lds.key {nd:List (T×List T)}{x y:T} (hn:(zZ nd).Nodup) (r:Lds nd x y):x∈zZ nd:=by
 have:∃ z,z∈nOf nd x:=by cases r with | one h=>exact⟨_,h⟩ | step h _=>exact⟨_,h⟩
 obtain⟨z,hz⟩:=this
 obtain⟨q,h1,h2,_⟩:=(zAW hn).mp hz
 unfold zZ
 exact List.mem_map.mpr ⟨q,h1,h2⟩
theorem zER {b:Nat}{N:List T}{nd:List (T×List T)} (ok:OkB b N nd) {x:T} (h:inV nd x):x∈N:=by
 rcases h with h | ⟨q,h1,h2⟩
 ·unfold zZ at h
  obtain⟨q,h1,rfl⟩:=List.mem_map.mp h
  exact (ok q h1).1
 ·exact (ok q h1).2.2 x h2
theorem zAZ {s:M.S}{q:Nat}{X:List T} (h:s[q]? = some (.lst (X.map .str))) (x:T):inD (.str x) (.ref q) s=.ok (X.contains x) s:=by
 have fl:(flat (.str x) && (X.map D.str).all flat)=true:=by rw[zCQ];rfl
 simp only[inD,h,fl,if_true,zDi]
theorem some_of {S:M.S}{f:Nat}{V:List T}{rk:T->Option Nat} (hf:S[f]? = some (.dct (fD V fun x=>rkD (rk x)))) {σ:St}{i j:Nat} (hi:σ[i]? = some (some (.ref f))) (hj:j=σ.length) (hV:V.length <= 62) (b:Bool) {c:TM} (hc:∀ (σ:St) (s:M.S) (x:T),σ[i]? = some (some (.ref f))->σ[j]? = some (some (.str x))->s[f]? = some (.fdc (fD V fun x=>rkD (rk x)))->x∈V->c σ s=.ok ((rk x).isSome == b) s) :
  qJ 1 (yY (zA i)) (zK j) c (zA j) σ (S.set f (.fdc (fD V fun x=>rkD (rk x))))=.ok ((V.filter fun x=>(rk x).isSome == b).map .str) (S.set f (.fdc (fD V fun x=>rkD (rk x)))):=by
 have hff:=zAl (u:=.fdc (fD V fun x=>rkD (rk x))) hf
 refine JX (n:=1) (g:=[]) _ (by
  simp only[yY,zA,hi,R.bind_ok,hff,zCv]) (by unfold SZ;omega) rfl fun x hx=>?_
 have hil:=(List.getElem?_eq_some_iff.mp hi).1
 have g1:((σ++[none]).set j (some (.str x)))[i]? = some (some (.ref f)):=by rw[List.getElem?_set_ne (by omega),List.getElem?_append_left hil];exact hi
 have g2:((σ++[none]).set j (some (D.str x)))[j]? = some (some (.str x)):=by rw[List.getElem?_set_self (by simp[hj])]
 simp only[qP,zK,List.replicate,hc _ _ x g1 g2 hff hx,R.bind_ok,zA,g2]
 split<;>rfl
theorem zOI {S:M.S}{p f:Nat}{kvs:List (D×D)}{nd:List (T×List T)}{N V:List T}{rk:T->Option Nat}{c:Int} (hp:S[p]? = some (.dct kvs)) (dr:DR S kvs nd) (hn:(zZ nd).Nodup) (ok:OkB 4 N nd) (hN:N.length <= 60) (hf:S[f]? = some (.dct (fD V fun x=>rkD (rk x)))) (hV:V.length <= 62) (hVm:∀ x,x∈V↔inV nd x) :
  qk [.ref p,.ref f,.int c] S=.ok (.bl true) S:=by
 obtain⟨Sf,hSf⟩:∃ Sf,Sf=S.set f (.fdc (fD V fun x=>rkD (rk x))):=⟨_,rfl⟩
 have ec:=some_of hf (σ:=[some (.ref p),some (.ref f),some (.int c),none,none,none,none,none]) (i:=1) (j:=8) rfl rfl hV true (c:=yS (eOp zU (zA 1) (zA 8))) fun σ s x h1 h2 h3 hx=>by
  have d:=ZR (f:=fun x=>rkD (rk x)) hx
  simp only[yS,eOp,zA,h1,h2,R.bind_ok,zU,h3,jA,if_true,d]
  cases rk x<;>rfl
 rw[<- hSf] at ec
 have hso:∀ x,x∈(V.filter fun x=>(rk x).isSome == true)->x∈V:=fun x hx=>(List.mem_filter.mp hx).1
 have hsl:(V.filter fun x=>(rk x).isSome == true).length <= 62:=Nat.le_trans (List.length_filter_le _ _) hV
 generalize (V.filter fun x=>(rk x).isSome == true)=so at *
 obtain⟨s1,hs1⟩:∃ s1,s1=S++[O.lst (so.map .str)]:=⟨_,rfl⟩
 have p1:ze S s1:=by rw[hs1];exact ze.of _ _
 have g1:s1[S.length]? = some (.lst (so.map .str)):=by rw[hs1];exact zd
 have st1:j7 [some (.ref p),some (.ref f),some (.int c),none,none,none,none,none] S=.nx [some (.ref p),some (.ref f),some (.int c),some (.ref S.length),none,none,none,none] s1:=by
  have ht:=y7 (g:=[O.lst (so.map .str)]) hf [some (.ref p),some (.ref f),some (.int c),some (.ref S.length),none,none,none,none]
  rw[<- hSf] at ht
  have lSf:Sf.length=S.length:=by rw[hSf,List.length_set]
  simp only[j7,Z7,List.getElem?_cons_succ,List.getElem?_cons_zero,hf,<- hSf,zT,jY,ec,R.bind_ok,alloc,lSf,R.stm_ok,List.set_cons_succ,List.set_cons_zero,ht,hs1]
 have fin:∀ (s':M.S),ze S s'->(zJ jS (zJ j8 (zJ j9 (zJ j6 (zJ qB (zJ qC qN))))) [some (.ref p),some (.ref f),some (.int c),some (.ref S.length),none,none,none,none] s1).out=.ok (.bl true) s'->qk [.ref p,.ref f,.int c] S=.ok (.bl true) S:=fun s' ps e=>by
  obtain⟨g,hg⟩:=ps.app
  rw[hg] at e
  refine zCn (g:=g) ?_ rfl
  show (zJ j7 _ [some (.ref p),some (.ref f),some (.int c),none,none,none,none,none] S).out=_
  show ((j7 _ _).then _).out=_
  rw[st1,RS.then_nx]
  exact e
 cases so with
 | nil =>
  refine fin s1 p1 ?_
  have st2:jS [some (.ref p),some (.ref f),some (.int c),some (.ref S.length),none,none,none,none] s1=.rt (.bl true) s1:=by
   simp only[jS,sIf,ZE,qe,zA,List.getElem?_cons_succ,List.getElem?_cons_zero,R.bind_ok,yo,g1,List.map_nil,List.isEmpty_nil,Bool.not_true,Bool.not_false,R.stm_ok,if_true,jK,eC]
  show ((jS _ _).then _).out=_
  rw[st2]
  rfl
 | cons b0 bs =>
  have pos:(0:Int) < ((b0::bs).length:Int):=by simp
  have i0:=Int.emod_nonneg c (show ((b0::bs).length:Int)≠0 by omega)
  have i1:=Int.emod_lt_of_pos c pos
  have ixa:=Jl (ts:=b0::bs) i0 i1
  have aV:(b0::bs).getD (c % ((b0::bs).length:Int)).toNat []∈V:=hso _ (Z3 (by omega))
  have st2:jS [some (.ref p),some (.ref f),some (.int c),some (.ref S.length),none,none,none,none] s1=.nx [some (.ref p),some (.ref f),some (.int c),some (.ref S.length),none,none,none,none] s1:=by
   simp only[jS,sIf,ZE,qe,zA,List.getElem?_cons_succ,List.getElem?_cons_zero,R.bind_ok,yo,g1,List.map_cons,List.isEmpty_cons,Bool.not_false,Bool.not_true,R.stm_ok,Bool.false_eq_true,if_false,jE]
  have hll:(((b0::bs).map D.str).length:Int)=((b0::bs).length:Int):=by rw[List.length_map]
  have st3:j8 [some (.ref p),some (.ref f),some (.int c),some (.ref S.length),none,none,none,none] s1=.nx [some (.ref p),some (.ref f),some (.int c),some (.ref S.length),some (.str ((b0::bs).getD (c % ((b0::bs).length:Int)).toNat [])),none,none,none] s1:=by
   simp only[j8,zT,eOp,zA,zI,zB,zD,List.getElem?_cons_succ,List.getElem?_cons_zero,R.bind_ok,jo,g1,hll,jg,pos,if_true,zU,ixa,R.stm_ok,List.set_cons_succ,List.set_cons_zero]
  generalize (b0::bs).getD (c % ((b0::bs).length:Int)).toNat []=a at *
  generalize b0::bs=so at *
  have aN:a∈N:=zER ok ((hVm a).mp aV)
  obtain⟨s2,hs2⟩:∃ s2,s2=s1++[O.lst [.str a]]:=⟨_,rfl⟩
  have p2:ze s1 s2:=by rw[hs2];exact ze.of _ _
  have p02:=p1.trans p2
  have g2:s2[s1.length]? = some (.lst ([a].map .str)):=by rw[hs2];exact zd
  obtain⟨X,hX,lX,eX⟩:=zAO (st:=[a]) (p02.get hp) (dr.mono p02.keep) hn (ok.mono (by omega)) (show N.length <= 62 by omega) g2 (by simp)
  have hX':∀ x,x∈X↔Lds nd x a:=fun x=>by rw[hX x];simp
  obtain⟨s4,hs4⟩:∃ s4,s4=s2++[O.lst (X.map .str),.lst [.str a],.lst ((X++[a]).map .str)]:=⟨_,rfl⟩
  have p4:ze s2 s4:=by rw[hs4];exact ze.of _ _
  have p04:=p02.trans p4
  have g4:s4[s2.length+2]? = some (.lst ((X++[a]).map .str)):=by rw[hs4,List.getElem?_append_right (by omega),show s2.length+2 - s2.length=2 by omega];rfl
  have st4:j9 [some (.ref p),some (.ref f),some (.int c),some (.ref S.length),some (.str a),none,none,none] s1=.nx [some (.ref p),some (.ref f),some (.int c),some (.ref S.length),some (.str a),some (.ref (s2.length+2)),none,none] s4:=by
   have z1:1 <= SZ:=by unfold SZ;omega
   have l1:(s2++[O.lst (X.map .str),.lst [.str a]])[s2.length]? = some (.lst (X.map .str)):=zd
   have l2:(s2++[O.lst (X.map .str),.lst [.str a]])[s2.length+1]? = some (.lst [.str a]):=by rw[List.getElem?_append_right (by omega),show s2.length+1 - s2.length=1 by omega];rfl
   have z2:(X.map D.str).length+1 <= SZ:=by rw[List.length_map];unfold SZ;omega
   simp only[j9,zT,eOp,zI,zB,zD,zA,qD,List.getElem?_cons_succ,List.getElem?_cons_zero,R.bind_ok,List.length_cons,List.length_nil,Nat.zero_add,z1,if_true,alloc,<- hs2,eX,List.length_append,List.append_assoc,List.cons_append,List.nil_append,jW,l1,l2,z2,Nat.reduceAdd,R.stm_ok,List.set_cons_succ,List.set_cons_zero,hs4,List.map_append,List.map_cons,List.map_nil]
  have ndl:nd.length <= 100:=by
   have h1:nd.length=(zZ nd).length:=by unfold zZ;simp
   have:=qY (N:=N) hn fun x hx=>zER ok (.inl hx)
   omega
  obtain⟨kk,g,e5,dr5⟩:=zLH (p04.get hp) (dr.mono p04.keep) hn ndl
  obtain⟨s5,hs5⟩:∃ s5,s5=s4++O.dct kk::g:=⟨_,rfl⟩
  rw[<- hs5] at e5 dr5
  have p5:ze s4 s5:=by rw[hs5];exact ze.of _ _
  have p05:=p04.trans p5
  have g5:s5[s4.length]? = some (.dct kk):=by rw[hs5];exact zd
  have st5:j6 [some (.ref p),some (.ref f),some (.int c),some (.ref S.length),some (.str a),some (.ref (s2.length+2)),none,none] s4=.nx [some (.ref p),some (.ref f),some (.int c),some (.ref S.length),some (.str a),some (.ref (s2.length+2)),some (.ref s4.length),none] s5:=by
   simp only[j6,zT,zI,zB,zD,zA,List.getElem?_cons_zero,R.bind_ok,e5,R.stm_ok,List.set_cons_succ,List.set_cons_zero]
  have posX:(0:Int) < ((X++[a]).length:Int):=by simp
  have j0:=Int.emod_nonneg (c / 60) (show ((X++[a]).length:Int)≠0 by omega)
  have j1:=Int.emod_lt_of_pos (c / 60) posX
  have ixb:=Jl (ts:=X++[a]) j0 j1
  have bX:(X++[a]).getD (c / 60 % ((X++[a]).length:Int)).toNat []∈X++[a]:=Z3 (by omega)
  have hlX:(((X++[a]).map D.str).length:Int)=((X++[a]).length:Int):=by rw[List.length_map]
  have q60:(0:Int) < 60/\(60:Int).natAbs < 1073741824:=by decide
  have st6:qB [some (.ref p),some (.ref f),some (.int c),some (.ref S.length),some (.str a),some (.ref (s2.length+2)),some (.ref s4.length),none] s5=.nx [some (.ref p),some (.ref f),some (.int c),some (.ref S.length),some (.str a),some (.ref (s2.length+2)),some (.ref s4.length),some (.str ((X++[a]).getD (c / 60 % ((X++[a]).length:Int)).toNat []))] s5:=by
   simp only[qB,zT,eOp,zA,eC,zI,zB,zD,List.getElem?_cons_succ,List.getElem?_cons_zero,R.bind_ok,zAR,q60,and_self,if_true,jo,p5.get g4,hlX,jg,posX,zU,ixb,R.stm_ok,List.set_cons_succ,List.set_cons_zero]
  generalize (X++[a]).getD (c / 60 % ((X++[a]).length:Int)).toNat []=b at *
  have hb:b=a\/Lds nd b a:=by
   rcases List.mem_append.mp bX with h | h
   ·exact .inr ((hX' b).mp h)
   ·exact .inl (List.mem_singleton.mp h)
  have bN:b∈N:=by
   rcases hb with h | h
   ·rw[h];exact aN
   ·exact zER ok (.inl (h.key hn))
  obtain⟨r,er,gr⟩:=zCe (p05.get hp) (dr.mono p05.keep) a
  obtain⟨nl,nm⟩:=zM8 hn ok a
  obtain⟨s6,hs6⟩:∃ s6,s6=s5++[O.lst [],.lst [.str b],.lst ((nOf nd a++[b]).map .str)]:=⟨_,rfl⟩
  have p6:ze s5 s6:=by rw[hs6];exact ze.of _ _
  have g6:s6[s5.length+2]? = some (.lst ((nOf nd a++[b]).map .str)):=by rw[hs6,List.getElem?_append_right (by omega),show s5.length+2 - s5.length=2 by omega];rfl
  have hkl:kk.length < SZ:=by rw[dr5.length];unfold SZ;omega
  obtain⟨s7,hs7⟩:∃ s7,s7=s6.set s4.length (.dct (jx (.str a) (.ref (s5.length+2)) kk)):=⟨_,rfl⟩
  have g56:=p6.get g5
  have kp:ZV s6 s7:=by rw[hs7];exact ZV.set g56 (fun _ z=>nomatch z)
  have g7:s7[s4.length]? = some (.dct (jx (.str a) (.ref (s5.length+2)) kk)):=by rw[hs7];exact yL g56
  have dr7:DR s7 (jx (.str a) (.ref (s5.length+2)) kk) (yq a (nOf nd a++[b]) nd):=((dr5.mono p6.keep).mono kp).put (kp _ _ g6)
  have p07:ze S s7:=by rw[hs7];exact (p05.trans p6).set p04.le _
  have st7:qC [some (.ref p),some (.ref f),some (.int c),some (.ref S.length),some (.str a),some (.ref (s2.length+2)),some (.ref s4.length),some (.str b)] s5=.nx [some (.ref p),some (.ref f),some (.int c),some (.ref S.length),some (.str a),some (.ref (s2.length+2)),some (.ref s4.length),some (.str b)] s7:=by
   have z1:1 <= SZ:=by unfold SZ;omega
   have z2:((nOf nd a).map D.str).length+1 <= SZ:=by rw[List.length_map];unfold SZ;omega
   have hp5:∀ g,(s5++g)[p]? = some (.dct kvs):=fun g=>zm (p05.get hp) g
   have qr:∀ g,(s5++O.lst []::g)[r]? = some (.lst ((nOf nd a).map .str)):=fun g=>by
    have:=zm gr g
    rwa [List.append_assoc] at this
   have l1:(s5++[O.lst [],.lst [.str b]])[s5.length+1]? = some (.lst [.str b]):=by rw[List.getElem?_append_right (by omega),show s5.length+1 - s5.length=1 by omega];rfl
   have g56':∀ g,(s5++g)[s4.length]? = some (.dct kk):=fun g=>zm g5 g
   simp only[qC,jz,eOp,eM,zA,List.getElem?_cons_succ,List.getElem?_cons_zero,R.bind_ok,ZX,p05.get hp,if_true,zB,zD,qD,List.length_cons,List.length_nil,Nat.zero_le,alloc,ZA,hp5,jA,er,Nat.zero_add,z1,List.length_append,List.append_assoc,List.cons_append,List.nil_append,Nat.reduceAdd,jW,qr,l1,z2,R.stm_ok,y1,g56',hkl,decide_true,Bool.and_self,hs7,hs6,List.map_append,List.map_cons,List.map_nil]
  have ok7:OkB 10 N (yq a (nOf nd a++[b]) nd):=zHL (ok.mono (by omega)) ⟨aN,by rw[List.length_append];simp;omega,fun x hx=>by
   rcases List.mem_append.mp hx with hx | hx
   ·exact nm x hx
   ·rw[List.mem_singleton.mp hx];exact bN⟩
  have nd7:(zZ (yq a (nOf nd a++[b]) nd)).Nodup:=zEJ hn
  have hsub:∀ x,∀ y∈nOf nd x,y∈nOf (yq a (nOf nd a++[b]) nd) x:=fun x y hy=>by
   rw[zIZ]
   by_cases e:x=a
   ·rw[if_pos e];exact List.mem_append_left _ (e ▸ hy)
   ·rw[if_neg e];exact hy
  have hnew:b∈nOf (yq a (nOf nd a++[b]) nd) a:=by rw[zIZ,if_pos rfl];simp
  have ha7:a∈zZ (yq a (nOf nd a++[b]) nd):=zMp (.inr rfl)
  generalize yq a (nOf nd a++[b]) nd=nd7' at *
  generalize jx (.str a) (.ref (s5.length+2)) kk=kk7 at *
  have self:Lds nd7' a a:=by
   rcases hb with h | h
   ·rw[h] at hnew;exact .one hnew
   ·exact .step hnew (h.mono hsub)
  obtain⟨V7,rk7,_,_,vm7,_,R7,e8⟩:=zDX g7 dr7 nd7 ok7 (show N.length <= 62 by omega)
  have aV7:a∈V7:=(vm7 a).mpr (.inl ha7)
  have rno:rk7 a=none:=by
   cases q:rk7 a with
   | none=>rfl
   | some k =>
    obtain⟨j,h1,h2⟩:=R7.less self k q
    rw[q] at h2;cases h2;omega
  obtain⟨s8,hs8⟩:∃ s8,s8=s7++[O.dct (fD V7 fun x=>rkD (rk7 x))]:=⟨_,rfl⟩
  have p8:ze s7 s8:=by rw[hs8];exact ze.of _ _
  have g8:s8[s7.length]? = some (.dct (fD V7 fun x=>rkD (rk7 x))):=by rw[hs8];exact zd
  have d8:jT (.str a) (fD V7 fun x=>rkD (rk7 x))=some .non:=by rw[ZR aV7,rno];rfl
  obtain⟨s9,hs9⟩:∃ s9,s9=s8++[O.lst [.str a]]:=⟨_,rfl⟩
  have p9:ze s8 s9:=by rw[hs9];exact ze.of _ _
  have g9:s9[s8.length]? = some (.lst ([a].map .str)):=by rw[hs9];exact zd
  have p79:=p8.trans p9
  obtain⟨Y,hY,_,eY⟩:=zAO (st:=[a]) (p79.get g7) (dr7.mono p79.keep) nd7 ok7 (show N.length <= 62 by omega) g9 (by simp)
  have aY:Y.contains a=true:=by
   have:a∈Y:=(hY a).mpr ⟨a,by simp,self⟩
   simpa using this
  obtain⟨sA,hsA⟩:∃ sA,sA=s9++[O.lst (Y.map .str)]:=⟨_,rfl⟩
  have gA:sA[s9.length]? = some (.lst (Y.map .str)):=by rw[hsA];exact zd
  have hin:=zAZ gA a
  rw[aY] at hin
  refine fin sA (p07.trans (p79.trans (by rw[hsA];exact ze.of _ _))) ?_
  have st8:qN [some (.ref p),some (.ref f),some (.int c),some (.ref S.length),some (.str a),some (.ref (s2.length+2)),some (.ref s4.length),some (.str b)] s7=.rt (.bl true) sA:=by
   have z1:1 <= SZ:=by unfold SZ;omega
   simp only[qN,jK,zJM,zJH,eOp,zI,zB,zD,zA,List.getElem?_cons_succ,List.getElem?_cons_zero,R.bind_ok,e8,alloc,<- hs8,zU,g8,jA,if_true,d8,zB9,asB,zAI,qD,List.length_cons,List.length_nil,Nat.zero_add,z1,<- hs9,eY,<- hsA,cIn,hin,R.stm_ok]
  show ((jS _ _).then _).out=_
  rw[st2,RS.then_nx]
  show ((j8 _ _).then _).out=_
  rw[st3,RS.then_nx]
  show ((j9 _ _).then _).out=_
  rw[st4,RS.then_nx]
  show ((j6 _ _).then _).out=_
  rw[st5,RS.then_nx]
  show ((qB _ _).then _).out=_
  rw[st6,RS.then_nx]
  show ((qC _ _).then _).out=_
  rw[st7,RS.then_nx,st8]
  rfl
def Zz:SM :=
  (zJ (zT 2 jw)
  (zJ (yg (zA 0) (JN (qg (zK 3) (qg (zK 4) JJ)))
  (zJ (zT 5 (jY 1 (iE (zA 4)) (zK 6) (JS (zc cIn (zA 6) (zA 1)) (Qz (eOp zU (zA 1) (zA 6)))) (zA 6)))
  (sIf (qe (zA 5))
  (jz (zA 2) (zA 3) (eOp zU (zA 5) (eC (.int 0))))
  jE)))
  (jK (zA 2))))
def zCW:F:=fn 6 Zz
def ZP:F:=chN zCW
theorem zFz:jO 2 zCW ZP:=zCh _
def yZ (kvs:List (T×T)) (x:T):Option T:=kvs.lookup x
def pd (p:T×T):D×D:=(.str p.1,.str p.2)
theorem zE1 (x:T):∀ kvs:List (T×T),jT (.str x) (kvs.map pd)=(yZ kvs x).map .str
 | []=>rfl
 | (k,v)::kvs=>by
  have ih:=zE1 x kvs
  unfold jT yZ at ih ⊢
  rw[List.map_cons,pd,List.lookup_cons,List.lookup_cons]
  by_cases h:x=k
  ·subst h;simp
  ·have h1:(D.str x == D.str k)=false:=by simpa using h
   have h2:(x == k)=false:=by simpa using h
   rw[h1,h2];exact ih
def keysT (kvs:List (T×T)):List T:=kvs.map (·.1)
def zAL (kvs:List (T×T)):Nat->T->Option T
 | 0,x=>some x
 | n+1,x=>match yZ kvs x with
  | none=>none
  | some y=>zAL kvs n y
def JI:List (D×D)->Option (List (T×T))
 | []=>some []
 | (.str k,.str v)::r=>(JI r).map ((k,v) :: ·)
 | _::_=>none
theorem zFR:∀ {ds:List (D×D)}{kvs:List (T×T)},JI ds=some kvs->ds=kvs.map pd
 | [],kvs,h=>by simp[JI] at h;subst h;rfl
 | (a,b)::ds,kvs,h=>by
  cases a with
  | str k =>
   cases b with
   | str v =>
    have h':(JI ds).map ((k,v) :: ·)=some kvs:=h
    cases q:JI ds with
    | none=>rw[q] at h';cases h'
    | some ys=>rw[q] at h';simp at h';subst h';rw[zFR q];rfl
   | _=>cases h
  | _=>cases h
theorem zEb:∀ kvs:List (T×T),JI (kvs.map pd)=some kvs
 | []=>rfl
 | (k,v)::kvs=>by show (JI (kvs.map pd)).map _=_;rw[zEb kvs];rfl
theorem zQb {S:M.S}{p:Nat}{kvs:List (T×T)} (e:S[p]? = some (.dct (kvs.map pd))) (x:T):inD (.str x) (.ref p) S=.ok (yZ kvs x).isSome S:=by
 simp only[inD,e]
 rw[if_pos (show jA (.str x)=true from rfl),zE1,Option.isSome_map]
def nxs (rk:T->Option Nat) (nd:List (T×List T)):List (T×T):=nd.filterMap fun q=>((q.2.filter fun y=>(rk y).isNone).head?).map fun y=>(q.1,y)
theorem zL7 (rk:T->Option Nat) (nd:List (T×List T)) (q:T×List T):nxs rk (nd++[q])=nxs rk nd++(match (q.2.filter fun y=>(rk y).isNone).head? with | some y=>[(q.1,y)] | none=>[]):=by
 unfold nxs
 rw[List.filterMap_append]
 congr 1
 rw[List.filterMap_cons,List.filterMap_nil]
 cases (q.2.filter fun y=>(rk y).isNone).head?<;>rfl
theorem zIj (rk:T->Option Nat) (nd:List (T×List T)):(nxs rk nd).length <= nd.length:=List.length_filterMap_le _ _
theorem zEk {rk:T->Option Nat}:∀ {nd:List (T×List T)},(zZ nd).Nodup->∀ x,yZ (nxs rk nd) x=((nOf nd x).filter fun y=>(rk y).isNone).head?
 | [],_,x=>rfl
 | (k,row)::nd,hn,x=>by
  unfold zZ at hn
  rw[List.map_cons,List.nodup_cons] at hn
  have ih:=zEk (rk:=rk) (nd:=nd) hn.2 x
  have e:nxs rk ((k,row)::nd)=(match (row.filter fun y=>(rk y).isNone).head? with | some y=>[(k,y)] | none=>[])++nxs rk nd:=by
   unfold nxs
   rw[List.filterMap_cons]
   cases (row.filter fun y=>(rk y).isNone).head?<;>rfl
  rw[e]
  by_cases hx:x=k
  ·subst hx
   have en:nOf ((x,row)::nd) x=row:=by simp[nOf]
   rw[en]
   cases q:(row.filter fun y=>(rk y).isNone).head? with
   | some y=>simp[yZ]
   | none =>
    have e0:nOf nd x=[]:=by
     unfold nOf
     rw[zBB hn.1];rfl
    rw[e0] at ih
    exact ih
  ·have hb:(x == k)=false:=by simpa using hx
   have en:nOf ((k,row)::nd) x=nOf nd x:=by simp[nOf,List.lookup_cons,hb]
   rw[en,<- ih]
   cases (row.filter fun y=>(rk y).isNone).head? with
   | some y=>simp[yZ,List.lookup_cons,hb]
   | none=>rfl
theorem zMK {rk:T->Option Nat}{nd:List (T×List T)}{x:T} (h:x∈keysT (nxs rk nd)):x∈zZ nd:=by
 unfold keysT nxs at h
 obtain⟨p,h1,rfl⟩:=List.mem_map.mp h
 obtain⟨q,h2,h3⟩:=List.mem_filterMap.mp h1
 unfold zZ
 refine List.mem_map.mpr ⟨q,h2,?_⟩
 cases e:(q.2.filter fun y=>(rk y).isNone).head? with
 | none=>rw[e] at h3;cases h3
 | some y=>rw[e] at h3;cases h3;rfl
theorem zPu {x y:T}{kv:List (T×T)} (h:x∉keysT kv):jx (.str x) (.str y) (kv.map pd)=(kv++[(x,y)]).map pd:=by
 unfold jx
 rw[if_neg (by
  rw[List.any_map,List.any_eq_true]
  rintro ⟨q,hq,e⟩
  have e':q.1=x:=by simpa [pd] using e
  exact h (by unfold keysT;exact List.mem_map.mpr ⟨q,hq,e'⟩)),List.map_append]
 rfl
abbrev zLu:GM:=JN (qg (zK 3) (qg (zK 4) JJ))
abbrev zGM:SM:=(zJ (zT 5 (jY 1 (iE (zA 4)) (zK 6) (JS (zc cIn (zA 6) (zA 1)) (Qz (eOp zU (zA 1) (zA 6)))) (zA 6)))
  (sIf (qe (zA 5))
  (jz (zA 2) (zA 3) (eOp zU (zA 5) (eC (.int 0))))
  jE))
theorem zL6 {S:M.S}{p f:Nat}{kvs:List (D×D)}{nd:List (T×List T)}{N V:List T}{rk:T->Option Nat} (hp:S[p]? = some (.dct kvs)) (dr:DR S kvs nd) (hn:(zZ nd).Nodup) (ok:OkN N nd) (hN:N.length <= 62) (hf:S[f]? = some (.dct (fD V fun x=>rkD (rk x)))) (hVm:∀ x,x∈V↔inV nd x) (hpf:p≠f) :
  ZP [.ref p,.ref f] S=alloc (.dct ((nxs rk nd).map pd)) S:=by
 obtain⟨S',hS⟩:∃ S',S'=S.set p (.fdc kvs):=⟨_,rfl⟩
 have hSl:S'.length=S.length:=by rw[hS,List.length_set]
 have hfr:∀ (r:Nat) (xs:List D),S[r]? = some (.lst xs)->S'[r]? = some (.lst xs):=fun r xs e=>by rw[hS];exact zDA hp (fun _ z=>nomatch z) e
 have hff:∀ g,(S'++g)[f]? = some (.dct (fD V fun x=>rkD (rk x))):=fun g=>zm (by rw[hS,zg (Ne.symm hpf)];exact hf) g
 have ndl:nd.length <= 62:=by
  have h1:nd.length=(zZ nd).length:=by unfold zZ;simp
  have:=qY (N:=N) hn fun x hx=>zER ok (.inl hx)
  omega
 obtain⟨σ',s',e5,⟨v3,v4,v5,eσ⟩,g,es⟩:=yf (g:=[]) (f:=jm zLu zGM)
  (fun j σ s=>(∃ v3 v4 v5:Option D,σ=[some (.ref p),some (.ref f),some (.ref S'.length),v3,v4,v5])/\∃ g,s=S'++.dct ((nxs rk (nd.take j)).map pd)::g)
  (kvs.map fun p=>D.tup [p.1,p.2]) 0 [some (.ref p),some (.ref f),some (.ref S'.length),none,none,none] (S'++[O.dct []]) ⟨⟨none,none,none,rfl⟩,[],rfl⟩ fun j x hx σ s ⟨⟨v3,v4,v5,eσ⟩,g,es⟩=>by
   rw[Nat.zero_add] at es ⊢
   subst eσ
   subst es
   rw[List.getElem?_map] at hx
   cases q:kvs[j]? with
   | none=>rw[q] at hx;cases hx
   | some kv =>
    rw[q] at hx
    have hx':x=.tup [kv.1,kv.2]:=by simpa using hx.symm
    subst hx'
    obtain⟨pr,r,e1,e2,e3⟩:=dr.at q
    subst e2
    have hmem:pr∈nd:=List.mem_of_getElem? e1
    obtain⟨o1,o2,o3⟩:=ok pr hmem
    have hj:j < nd.length:=(List.getElem?_eq_some_iff.mp e1).1
    have g3:∀ g,(S'++g)[r]? = some (.lst (pr.2.map .str)):=fun g=>zm (hfr r _ e3) _
    have hG:∀ g,zW [(r,O.lst (pr.2.map .str))] (S'++g)=true:=fun g=>by simp only[zW,List.all_cons,List.all_nil,g3,decide_true,Bool.and_self]
    have ec:qJ 1 (iE (zA 4)) (zK 6) (JS (zc cIn (zA 6) (zA 1)) (Qz (eOp zU (zA 1) (zA 6)))) (zA 6) [some (.ref p),some (.ref f),some (.ref S'.length),some (.str pr.1),some (.ref r),v5] (S'++.dct ((nxs rk (nd.take j)).map pd)::g)=.ok ((pr.2.filter fun y=>(rk y).isNone).map .str) (S'++.dct ((nxs rk (nd.take j)).map pd)::g):=by
     refine JX (n:=1) (g:=[(r,.lst (pr.2.map .str))]) _ (by
      simp only[iE,zA,List.getElem?_cons_succ,List.getElem?_cons_zero,R.bind_ok,itD,g3]) (by unfold SZ;omega) (hG _) fun y hy=>?_
     have yV:y∈V:=(hVm y).mpr (.inr ⟨pr,hmem,hy⟩)
     have d:=ZR (f:=fun x=>rkD (rk x)) yV
     simp only[qP,zK,List.cons_append,List.nil_append,List.replicate,List.set_cons_succ,List.set_cons_zero,JS,zc,cIn,zA,List.getElem?_cons_succ,List.getElem?_cons_zero,R.bind_ok,inD,hff,jA,if_true,d,Option.isSome_some,Qz,eOp,zU]
     cases rk y<;>rfl
    have key:pr.1∉keysT (nxs rk (nd.take j)):=fun z=>by
     have z:=zMK z
     have hn':=hn
     rw[<- List.take_append_drop j nd] at hn'
     unfold zZ at hn' z
     rw[List.map_append,List.nodup_append] at hn'
     refine hn'.2.2 pr.1 z pr.1 (List.mem_map.mpr ⟨pr,?_,rfl⟩) rfl
     rw[List.drop_eq_getElem_cons hj,(List.getElem?_eq_some_iff.mp e1).2]
     exact List.mem_cons_self
    have zl:((nxs rk (nd.take j)).map pd).length < SZ:=by
     rw[List.length_map]
     have:=zIj rk (nd.take j)
     rw[List.length_take] at this
     unfold SZ;omega
    have sn:=zL7 rk (nd.take j) pr
    have et:nd.take (j+1)=nd.take j++[pr]:=by rw[List.take_succ,e1];rfl
    obtain⟨s1,hs1⟩:∃ s1,s1=S'++.dct ((nxs rk (nd.take j)).map pd)::g:=⟨_,rfl⟩
    have gl:(s1++[O.lst ((pr.2.filter fun y=>(rk y).isNone).map .str)])[s1.length]? = some (.lst ((pr.2.filter fun y=>(rk y).isNone).map .str)):=zd
    have a1:(zT 5 (jY 1 (iE (zA 4)) (zK 6) (JS (zc cIn (zA 6) (zA 1)) (Qz (eOp zU (zA 1) (zA 6)))) (zA 6))) [some (.ref p),some (.ref f),some (.ref S'.length),some (.str pr.1),some (.ref r),v5] s1=.nx [some (.ref p),some (.ref f),some (.ref S'.length),some (.str pr.1),some (.ref r),some (.ref s1.length)] (s1++[O.lst ((pr.2.filter fun y=>(rk y).isNone).map .str)]):=by
     rw[<- hs1] at ec
     simp only[zT,jY,ec,R.bind_ok,alloc,R.stm_ok,List.set_cons_succ,List.set_cons_zero]
    have go:jm zLu zGM (.tup [.str pr.1,.ref r]) [some (.ref p),some (.ref f),some (.ref S'.length),v3,v4,v5] s1=(sIf (qe (zA 5)) (jz (zA 2) (zA 3) (eOp zU (zA 5) (eC (.int 0)))) jE) [some (.ref p),some (.ref f),some (.ref S'.length),some (.str pr.1),some (.ref r),some (.ref s1.length)] (s1++[O.lst ((pr.2.filter fun y=>(rk y).isNone).map .str)]):=by
     show ((zT 5 _) [some (.ref p),some (.ref f),some (.ref S'.length),some (.str pr.1),some (.ref r),v5] s1).then _=_
     rw[a1,RS.then_nx]
    rw[<- hs1]
    cases hq:(pr.2.filter fun y=>(rk y).isNone) with
    | nil =>
     rw[hq] at go gl sn
     refine⟨[some (.ref p),some (.ref f),some (.ref S'.length),some (.str pr.1),some (.ref r),some (.ref s1.length)],s1++[O.lst []],?_,rfl,⟨_,_,_,rfl⟩,g++[O.lst []],?_⟩
     ·rw[go]
      have gl':(s1++[O.lst ([]:List D)])[s1.length]? = some (.lst []):=gl
      simp only[List.map_nil,sIf,qe,zA,List.getElem?_cons_succ,List.getElem?_cons_zero,R.bind_ok,yo,gl',List.isEmpty_nil,Bool.not_true,R.stm_ok,Bool.false_eq_true,if_false,jE]
     ·rw[et,sn,hs1];simp
    | cons y ys =>
     rw[hq] at go gl sn
     have ix:atI ((y::ys).map D.str) 0=some (.str y):=by simp[atI,ixN]
     have gd2:(s1++[O.lst ((y::ys).map .str)])[S'.length]? = some (.dct ((nxs rk (nd.take j)).map pd)):=by rw[hs1];exact zm zd _
     refine⟨[some (.ref p),some (.ref f),some (.ref S'.length),some (.str pr.1),some (.ref r),some (.ref s1.length)],(s1++[O.lst ((y::ys).map .str)]).set S'.length (.dct ((nxs rk (nd.take j)++[(pr.1,y)]).map pd)),?_,rfl,⟨_,_,_,rfl⟩,g++[O.lst ((y::ys).map .str)],?_⟩
     ·rw[go]
      have em:((y::ys).map D.str).isEmpty=false:=rfl
      simp only[sIf,qe,zA,List.getElem?_cons_succ,List.getElem?_cons_zero,R.bind_ok,yo,gl,em,Bool.not_false,R.stm_ok,if_true,jz,eOp,eC,zU,ix,y1,gd2,jA,zl,decide_true,Bool.and_self,zPu key]
     ·rw[et,sn,hs1,List.append_assoc,List.cons_append,Jg]
      rfl
 rw[Nat.zero_add,List.length_map,dr.length,List.take_length] at es
 subst eσ
 subst es
 refine zCR (g:=.dct ((nxs rk nd).map pd)::g) (j:=S.length) ?_ zd (Nat.le_refl _) ?_
 ·have g5:(S++[O.dct []])[p]? = some (.dct kvs):=zm hp _
  have s5:(S++[O.dct []]).set p (.fdc kvs)=S'++[O.dct []]:=by rw[zAo hp,hS]
  have e6:(yg (zA 0) zLu zGM) [some (.ref p),some (.ref f),some (.ref S.length),none,none,none] (S++[O.dct []])=.nx [some (.ref p),some (.ref f),some (.ref S.length),v3,v4,v5] (S++.dct ((nxs rk nd).map pd)::g):=by
   rw[hSl] at e5
   simp only[yg,zA,List.getElem?_cons_zero,R.stm_ok,g5,s5,e5]
   rw[hS]
   exact y7 hp _
  show ((Zz [some (.ref p),some (.ref f),none,none,none,none] S).out)=_
  unfold Zz
  have e0:(zT 2 jw) [some (.ref p),some (.ref f),none,none,none,none] S=.nx [some (.ref p),some (.ref f),some (.ref S.length),none,none,none] (S++[.dct []]):=by simp
  show ((((zT 2 jw) _ _).then _).out)=_
  rw[e0,RS.then_nx]
  show ((((yg _ _ _) _ _).then _).out)=_
  rw[e6]
  simp
 ·show (((nxs rk nd).map pd).all fun p=>D.cl S.length p.1 && D.cl S.length p.2)=true
  rw[List.all_map]
  exact List.all_eq_true.mpr fun q _=>rfl
def zCB:SM :=
  (zJ (zT 1 (eM .list zGY (zA 0) (zB (zI zBr (zB (zA 0) zD)) zD)))
  (jK (eOp jW (eSl (zA 0) (qz (zA 1)) Qb) (eSl (zA 0) Qb (qz (zA 1))))))
def zGK:F:=fn 2 zCB
def Z2 (t:T) (ts:List T):T:=ts.foldl (fun b y=>if y < b then y else b) t
theorem zCc:∀ (ts:List T) (t:T),Z2 t ts=t\/Z2 t ts∈ts
 | [],t=>.inl rfl
 | u::ts,t=>by
  unfold Z2
  rw[List.foldl_cons]
  split
  ·rcases zCc ts u with h | h
   ·exact .inr (by unfold Z2 at h;rw[h];simp)
   ·exact .inr (List.mem_cons_of_mem _ h)
  ·rcases zCc ts t with h | h
   ·exact .inl h
   ·exact .inr (List.mem_cons_of_mem _ h)
def jH (m:T) (ts:List T):Nat:=ts.findIdx (· == m)
theorem zGd (m:T):∀ ts:List T,m∈ts->zDm (.str m) (ts.map .str)=some (jH m ts)
 | [],h=>by cases h
 | t::ts,h=>by
  unfold jH
  rw[List.map_cons,zDm,List.findIdx_cons]
  by_cases e:t=m
  ·subst e;simp[eqF]
  ·have hm:m∈ts:=by
    rcases List.mem_cons.mp h with h | h
    ·exact absurd h.symm e
    ·exact h
   have:=zGd m ts hm
   unfold jH at this
   have hb:(t == m)=false:=by simpa using e
   simp[eqF,hb,this]
theorem zAf {m:T}{ts:List T} (h:m∈ts):jH m ts < ts.length:=List.findIdx_lt_length_of_exists ⟨m,h,by simp⟩
theorem zDP {m:T}{ts:List T} (h:m∈ts):ts[jH m ts]? = some m:=by
 have hl:=zAf h
 rw[List.getElem?_eq_getElem hl]
 have:=List.findIdx_getElem (w:=hl)
 simp at this
 exact congrArg some this
def ju:List T->T
 | []=>[]
 | t::ts=>Z2 t ts
theorem zCV:∀ {ts:List T},ts≠[]->ju ts∈ts
 | [],h=>absurd rfl h
 | t::ts,_=>by
  rcases zCc ts t with h | h
  ·show Z2 t ts∈_;rw[h];simp
  ·exact List.mem_cons_of_mem _ h
def yp (ts:List T):List T:=ts.drop (jH (ju ts) ts)++ts.take (jH (ju ts) ts)
def yN:F
 | [.ref p],s=>match s[p]? with
  | some (.lst ds)=>(match qG ds with
   | some ts=>if ts≠[]/\ts.length <= 100000 then alloc (.lst ((yp ts).map .str)) s else .no
   | none=>.no)
  | _=>.no
 | _,_=>.no
theorem zK9:jO 1 zGK yN:=jO.new fun ds S hl c ca=>by
 match ds,hl with
 | [.ref p],_ =>
  cases e:S[p]? with
  | none=>exact .inl (by simp[yN,e])
  | some o =>
   cases o with
   | lst es =>
    cases q:qG es with
    | none=>exact .inl (by simp[yN,e,q])
    | some ts =>
     by_cases hz:ts≠[]/\ts.length <= 100000
     ·have er:=zDT q
      subst er
      have hm:=zCV hz.1
      have hi:=zGd _ _ hm
      have hk:zHK (ts.map .str) S=.ok (.str (ju ts)) S:=by
       unfold zHK
       rw[q]
       match ts,hz with
       | [],hz=>exact absurd rfl hz.1
       | t::ts,_=>rfl
      have fl:(ts.map D.str).all flat=true:=zCQ _
      have c1:cut (ts.map D.str) (some ((jH (ju ts) ts:Nat):Int)) none=(ts.drop (jH (ju ts) ts)).map .str:=by rw[zCN _ (by omega)];simp
      have c2:cut (ts.map D.str) none (some ((jH (ju ts) ts:Nat):Int))=(ts.take (jH (ju ts) ts)).map .str:=by rw[zGO _ (by omega)];simp
      have hle:=zAf hm
      have z:((ts.drop (jH (ju ts) ts)).map D.str).length+((ts.take (jH (ju ts) ts)).map D.str).length <= SZ:=by
       rw[List.length_map,List.length_map,List.length_drop,List.length_take];have:=hz.2;unfold SZ;omega
      have et:(yp ts).map D.str=(ts.drop (jH (ju ts) ts)).map .str++(ts.take (jH (ju ts) ts)).map .str:=by unfold yp;rw[List.map_append]
      refine .inr ⟨.lst ((yp ts).map .str),S.length+2,[.lst ((ts.drop (jH (ju ts) ts)).map .str),.lst ((ts.take (jH (ju ts) ts)).map .str),.lst ((yp ts).map .str)],by simp[yN,e,q,hz],?_,by simp,by omega,JC _ _⟩
      rw[et]
      have hl2:jf S p=some (ts.map .str):=by simp[jf,e]
      have e0:∀ g,(S++g)[p]? = some (.lst (ts.map .str)):=fun g=>zm e g
      generalize hA:(ts.drop (jH (ju ts) ts)).map D.str=A at *
      generalize hB:(ts.take (jH (ju ts) ts)).map D.str=B at *
      generalize hP:jH (ju ts) ts=P at *
      generalize hM:ju ts=mm at *
      generalize hTs:ts.map D.str=W at *
      have flx:flat (.str mm)=true:=rfl
      simp[zGK,zCB,e,hk,hi,e0,c1,c2,z,flx]
      exact List.all_eq_true.mp fl
     ·exact .inl (by simp only[yN,e,q];rw[if_neg hz])
   | dct _=>exact .inl (by simp[yN,e])
   | ins _ _=>exact .inl (by simp[yN,e])
   | fdc _=>exact .inl (by simp[yN,e])
 | [.str _],_=>exact .inl rfl
 | [.non],_=>exact .inl rfl
 | [.bl _],_=>exact .inl rfl
 | [.int _],_=>exact .inl rfl
 | [.ty _],_=>exact .inl rfl
 | [.tup _],_=>exact .inl rfl
 | [.ro _],_=>exact .inl rfl
theorem zB0:∀ (ts:List T) (t:T),¬ t < Z2 t ts/\∀ u∈ts,¬ u < Z2 t ts
 | [],t=>⟨List.lt_irrefl t,fun _ h=>by cases h⟩
 | u::ts,t=>by
  unfold Z2
  rw[List.foldl_cons]
  split
  ·rename_i h
   obtain⟨h1,h2⟩:=zB0 ts u
   unfold Z2 at h1 h2
   refine⟨fun e=>h1 (List.lt_trans h e),fun v hv=>?_⟩
   rcases List.mem_cons.mp hv with rfl | hv
   ·exact h1
   ·exact h2 v hv
  ·rename_i h
   obtain⟨h1,h2⟩:=zB0 ts t
   unfold Z2 at h1 h2
   refine⟨h1,fun v hv=>?_⟩
   rcases List.mem_cons.mp hv with rfl | hv
   ·intro e
    exact h (Classical.byContradiction fun e2=>h1 (List.lt_of_le_of_lt (List.not_lt.mp e2) e))
   ·exact h2 v hv
theorem zHR:∀ {ts:List T},∀ u∈ts,¬ u < ju ts
 | [],u,h=>by cases h
 | t::ts,u,h=>by
  rcases List.mem_cons.mp h with rfl | h
  ·exact (zB0 ts u).1
  ·exact (zB0 ts t).2 u h
theorem zGN (ts:List T):(yp ts).length=ts.length:=by
 unfold yp
 rw[List.length_append,List.length_drop,List.length_take];omega
theorem zN5 {ts:List T}{P:Nat} (hP:P=jH (ju ts) ts) (hl:P < ts.length) (k:Nat) (hk:k < ts.length):(yp ts)[k]? = ts[(P+k) % ts.length]? := by
 unfold yp
 rw[<- hP]
 by_cases h:k < ts.length - P
 ·rw[List.getElem?_append_left (by rw[List.length_drop];exact h),List.getElem?_drop,Nat.mod_eq_of_lt (by omega)]
 ·rw[List.getElem?_append_right (by rw[List.length_drop];omega),List.length_drop,List.getElem?_take,if_pos (by omega)]
  rw[show (P+k) % ts.length=k - (ts.length - P) by
   rw[Nat.mod_eq_sub_mod (by omega),Nat.mod_eq_of_lt (by omega)];omega]
def yC:SM :=
  (zT 2 jw)
def yv:SM :=
  (zAi (JS (zc cIn (zA 1) (zA 0)) (zc jU (zA 1) (zA 2)))
  (zJ (jz (zA 2) (zA 1) (zI jo (zB (zA 2) zD)))
  (zT 1 (eOp zU (zA 0) (zA 1)))))
def ya:SM :=
  (sIf (zc jU (zA 1) (zA 2))
  (jK (qD zD))
  jE)
def yx:SM :=
  (jK (zI yN (zB (eSl (zI zB3 (zB (zA 2) zD)) (qz (eOp zU (zA 2) (zA 1))) Qb) zD)))
def zBL:SM:=(zJ yC (zJ yv (zJ ya yx)))
def zIC:F:=fn 3 zBL
def pas (P:List T):List (D×D):=P.zipIdx.map fun p=>(.str p.1,.int p.2)
theorem zNy (P:List T):(pas P).length=P.length:=by simp[pas]
theorem zNW (x:T) (P:List T):((pas P).any fun p=>decide (p.1=.str x))=decide (x∈P):=by
 unfold pas
 rw[List.any_map]
 rw[Bool.eq_iff_iff,List.any_eq_true,decide_eq_true_iff]
 constructor
 ·rintro ⟨⟨t,i⟩,h,e⟩
  simp at e
  subst e
  exact (List.mem_zipIdx_iff_getElem?.mp h) |> fun h=>List.mem_of_getElem? h
 ·intro h
  obtain⟨i,hi,e⟩:=List.mem_iff_getElem.mp h
  exact⟨(x,i),List.mem_zipIdx_iff_getElem?.mpr (by simp[e,hi]),by simp⟩
theorem zNd {x:T}{P:List T} (h:x∉P):jx (.str x) (.int (P.length:Nat)) (pas P)=pas (P++[x]):=by
 unfold jx
 rw[zNW,if_neg (by simpa using h)]
 unfold pas
 rw[List.zipIdx_append,List.map_append]
 simp
theorem zGc (x:T):∀ (P:List T) (n:Nat),x∈P->((P.zipIdx n).map fun p=>(D.str p.1,D.int p.2)).lookup (.str x)=some (.int (n+jH x P:Nat))
 | [],_,h=>by cases h
 | t::P,n,h=>by
  unfold jH
  rw[List.zipIdx_cons,List.map_cons,List.lookup_cons,List.findIdx_cons]
  by_cases e:t=x
  ·subst e;simp
  ·have hm:x∈P:=by
    rcases List.mem_cons.mp h with h | h
    ·exact absurd h.symm e
    ·exact h
   have ih:=zGc x P (n+1) hm
   have h1:(D.str x == D.str t)=false:=by simpa using fun z=>e z.symm
   have h2:(t == x)=false:=by simpa using e
   rw[h1,h2,ih]
   unfold jH
   simp only[cond_false]
   congr 2
   omega
theorem zIK {x:T}{P:List T} (h:x∈P):jT (.str x) (pas P)=some (.int (jH x P:Nat)):=by
 have:=zGc x P 0 h
 rw[Nat.zero_add] at this
 exact this
theorem zHQ (x:T) (P:List T):(jT (.str x) (pas P)).isSome=decide (x∈P):=by
 by_cases h:x∈P
 ·rw[zIK h,decide_eq_true h];rfl
 ·rw[decide_eq_false h]
  unfold jT
  rw[Option.isSome_eq_false_iff,Option.isNone_iff_eq_none,List.lookup_eq_none_iff]
  intro p hp
  unfold pas at hp
  obtain⟨⟨t,i⟩,hm,rfl⟩:=List.mem_map.mp hp
  have ht:t∈P:=List.mem_of_getElem? (List.mem_zipIdx_iff_getElem?.mp hm)
  have:x≠t:=fun e=>h (e ▸ ht)
  simpa using this
theorem zMX (P:List T):(pas P).map (·.1)=P.map .str:=by
 unfold pas
 rw[List.map_map]
 have:((fun x:D×D=>x.1) ∘ fun p:T×Nat=>(D.str p.1,D.int p.2))=D.str ∘ Prod.fst:=rfl
 rw[this,<- List.map_map,List.zipIdx_map_fst]
def qM (kvs:List (T×T)):Nat->List T->T->List T×T
 | 0,P,x=>(P,x)
 | n+1,P,x=>match yZ kvs x with
  | none=>(P,x)
  | some y=>if x∈P then (P,x) else qM kvs n (P++[x]) y
theorem zAA:∀ {P Q:List T},P.Nodup->(∀ t∈P,t∈Q)->P.length <= Q.length
 | [],_,_,_=>by simp
 | t::P,Q,h,k=>by
  rw[List.nodup_cons] at h
  have ht:=k t (by simp)
  have:=zAA (P:=P) (Q:=Q.erase t) h.2 fun u hu=>by
   have hne:u≠t:=fun e=>h.1 (e ▸ hu)
   exact (List.mem_erase_of_ne hne).mpr (k u (by simp[hu]))
  have hl:=List.length_erase_of_mem ht
  have:0 < Q.length:=List.length_pos_of_mem ht
  rw[List.length_cons]
  omega
theorem zFH {kvs:List (T×T)}{x y:T} (h:yZ kvs x=some y):x∈keysT kvs:=by
 induction kvs with
 | nil=>cases h
 | cons p kvs ih =>
  obtain⟨k,v⟩:=p
  unfold yZ at h ih
  rw[List.lookup_cons] at h
  by_cases e:x=k
  ·subst e;simp[keysT]
  ·have h2:(x == k)=false:=by simpa using e
   rw[h2] at h
   have:=ih h
   unfold keysT at this ⊢
   rw[List.map_cons]
   exact List.mem_cons_of_mem _ this
def Zf (kvs:List (T×T)) (x:T):List T:=if (qM kvs (kvs.length+1) [] x).2∈(qM kvs (kvs.length+1) [] x).1 then yp ((qM kvs (kvs.length+1) [] x).1.drop (jH (qM kvs (kvs.length+1) [] x).2 (qM kvs (kvs.length+1) [] x).1)) else []
def jc:F
 | [.ref p,.str x],s=>match s[p]? with
  | some (.dct ds)=>(match JI ds with
   | some kvs=>if kvs.length <= 1000 then alloc (.lst ((Zf kvs x).map .str)) s else .no
   | none=>.no)
  | _=>.no
 | _,_=>.no
abbrev zK0:SM:=(zJ (jz (zA 2) (zA 1) (zI jo (zB (zA 2) zD)))
  (zT 1 (eOp zU (zA 0) (zA 1))))
theorem zIn {S:M.S}{p:Nat}{kvs:List (T×T)} (e:S[p]? = some (.dct (kvs.map pd))) (hk:kvs.length <= 1000):∀ (k:Nat) (P:List T) (x:T),P.Nodup->(∀ t∈P,t∈keysT kvs)->kvs.length+1 <= P.length+k->∀ N K,k < N->k <= K ->
  qE N (JS (zc cIn (zA 1) (zA 0)) (zc jU (zA 1) (zA 2))) zK0 [some (.ref p),some (.str x),some (.ref S.length)] (S++[.dct (pas P)])=.nx [some (.ref p),some (.str (qM kvs K P x).2),some (.ref S.length)] (S++[.dct (pas (qM kvs K P x).1)])
 | k,P,x,hn,hs,hl,N,K,hN,hK=>by
  have hle:=zAA hn hs
  have hle2:P.length <= kvs.length:=by unfold keysT at hle;rwa [List.length_map] at hle
  obtain⟨k',rfl⟩:∃ k',k=k'+1:=⟨k - 1,by omega⟩
  obtain⟨N',rfl⟩:∃ N',N=N'+1:=⟨N - 1,by omega⟩
  obtain⟨K',rfl⟩:∃ K',K=K'+1:=⟨K - 1,by omega⟩
  have hi:=zQb (zm e [.dct (pas P)]) x
  have hj:inD (.str x) (.ref S.length) (S++[.dct (pas P)])=.ok (decide (x∈P)) (S++[.dct (pas P)]):=by
   simp only[inD,List.getElem?_concat_length]
   rw[if_pos (show jA (.str x)=true from rfl),zHQ]
  show (((JS _ _) _ _).stm _ _)=_
  cases q:yZ kvs x with
  | none =>
   rw[q] at hi
   have ew:qM kvs (K'+1) P x=(P,x):=by rw[qM,q]
   rw[ew]
   simp[-inD,hi]
  | some y =>
   rw[q] at hi
   by_cases hx:x∈P
   ·have ew:qM kvs (K'+1) P x=(P,x):=by rw[qM,q];exact if_pos hx
    rw[ew]
    simp[-inD,hi,hj,hx]
   ·have ew:qM kvs (K'+1) P x=qM kvs K' (P++[x]) y:=by rw[qM,q];exact if_neg hx
    rw[ew]
    have ih:=zIn e hk k' (P++[x]) y (by rw[List.nodup_append];exact⟨hn,by simp,fun a ha b hb z=>by simp at hb;subst hb;subst z;exact hx ha⟩) (fun t ht=>by
     rcases List.mem_append.mp ht with ht | ht
     ·exact hs t ht
     ·rw[List.mem_singleton.mp ht];exact zFH q) (by rw[List.length_append];simp;omega) N' K' (by omega) (by omega)
    have hp:=zNd hx
    have hz:P.length < SZ:=by unfold SZ;omega
    have hd:jT (.str x) (kvs.map pd)=some (.str y):=by rw[zE1,q];rfl
    have e1:(JS (zc cIn (zA 1) (zA 0)) (zc jU (zA 1) (zA 2))) [some (.ref p),some (.str x),some (.ref S.length)] (S++[.dct (pas P)])=.ok true (S++[.dct (pas P)]):=by
     simp[-inD,hi,hj,hx]
    have hlt:p < S.length:=(List.getElem?_eq_some_iff.mp e).1
    have e2:zK0 [some (.ref p),some (.str x),some (.ref S.length)] (S++[.dct (pas P)])=.nx [some (.ref p),some (.str y),some (.ref S.length)] (S++[.dct (pas (P++[x]))]):=by
     simp[zNy,hz,jA,hp,zm e,hd]
    rw[e1,R.stm_ok,if_pos rfl,e2]
    exact ih
theorem zDa {kvs:List (T×T)}:∀ (n:Nat) (P:List T) (x:T),P.Nodup->(∀ t∈P,t∈keysT kvs)->(qM kvs n P x).1.Nodup/\∀ t∈(qM kvs n P x).1,t∈keysT kvs
 | 0,P,x,h1,h2=>⟨h1,h2⟩
 | n+1,P,x,h1,h2=>by
  unfold qM
  cases q:yZ kvs x with
  | none=>exact⟨h1,h2⟩
  | some y =>
   dsimp only
   split
   ·exact⟨h1,h2⟩
   ·rename_i hx
    exact zDa n (P++[x]) y (by rw[List.nodup_append];exact⟨h1,by simp,fun a ha b hb z=>by simp at hb;subst hb;subst z;exact hx ha⟩) fun t ht=>by
     rcases List.mem_append.mp ht with ht | ht
     ·exact h2 t ht
     ·rw[List.mem_singleton.mp ht];exact zFH q
theorem zGs:jO 2 zIC jc:=jO.new fun ds S hl c ca=>by
 match ds,hl with
 | [a,b],_ =>
  cases a with
  | ref p =>
   cases b with
   | str x =>
    cases e:S[p]? with
    | none=>exact .inl (by simp[jc,e])
    | some o =>
     cases o with
     | dct es =>
      cases q:JI es with
      | none=>exact .inl (by simp[jc,e,q])
      | some kvs =>
       have er:=zFR q
       subst er
       by_cases hz:kvs.length <= 1000
       ·have ew:=zIn e hz (kvs.length+1) [] x List.nodup_nil (fun t h=>by cases h) (by simp) zAH (kvs.length+1) (by unfold zAH;omega) (by omega)
        obtain⟨wn,ws⟩:=zDa (kvs:=kvs) (kvs.length+1) [] x List.nodup_nil (fun t h=>by cases h)
        have wl:=zAA wn ws
        have wl2:(qM kvs (kvs.length+1) [] x).1.length <= 1000:=by unfold keysT at wl;rw[List.length_map] at wl;omega
        generalize hW:qM kvs (kvs.length+1) [] x=W at *
        obtain⟨P,y⟩:=W
        dsimp only at wn ws wl wl2
        have e1:∀ r,(yC [some (.ref p),some (.str x),none] S).then (zJ yv r)=r [some (.ref p),some (.str y),some (.ref S.length)] (S++[.dct (pas P)]):=fun r=>by
         have:yC [some (.ref p),some (.str x),none] S=.nx [some (.ref p),some (.str x),some (.ref S.length)] (S++[.dct (pas [])]):=by simp[yC,pas]
         rw[this]
         show ((qE zAH _ _ _ _).then r)=_
         rw[ew]
         rfl
        have hj:inD (.str y) (.ref S.length) (S++[.dct (pas P)])=.ok (decide (y∈P)) (S++[.dct (pas P)]):=by
         simp only[inD,List.getElem?_concat_length]
         rw[if_pos (show jA (.str y)=true from rfl),zHQ]
        by_cases hy:y∈P
        ·have er:Zf kvs x=yp (P.drop (jH y P)):=by unfold Zf;rw[hW];exact if_pos hy
         have hpl:=zAf hy
         have hne:P.drop (jH y P)≠[]:=fun z=>by have:=congrArg List.length z;rw[List.length_drop] at this;simp at this;omega
         have hq:∀ (s:M.S) (k:Nat),s[k]? = some (.lst ((P.drop (jH y P)).map .str))->yN [.ref k] s=.ok (.ref s.length) (s++[.lst ((yp (P.drop (jH y P))).map .str)]):=fun s k e=>by
          simp only[yN,e,Q2]
          rw[if_pos ⟨hne,by rw[List.length_drop];omega⟩]
          rfl
         have c1:cut (P.map D.str) (some ((jH y P:Nat):Int)) none=(P.drop (jH y P)).map .str:=by rw[zCN _ (by omega)];simp
         have hg:=zIK hy
         refine .inr ⟨.lst ((Zf kvs x).map .str),S.length+3,[.dct (pas P),.lst (P.map .str),.lst ((P.drop (jH y P)).map .str),.lst ((Zf kvs x).map .str)],by simp[jc,e,q,hz],?_,by simp,by omega,JC _ _⟩
         show ((yC [some (.ref p),some (.str x),none] S).then (zJ yv (zJ ya yx))).out=_
         rw[e1,er]
         have eq:=hq (S++[.dct (pas P),.lst (P.map .str),.lst ((P.drop (jH y P)).map .str)]) (S.length+2) (by simp)
         simp only[List.length_append,List.length_cons,List.length_nil,List.append_assoc,List.cons_append,List.nil_append] at eq
         simp[ya,yx,-inD,-List.map_drop,hj,hy,zMX,hg,jA,c1,eq]
        ·have er:Zf kvs x=[]:=by unfold Zf;rw[hW];exact if_neg hy
         have z0:(0:Nat) <= SZ:=by decide
         refine .inr ⟨.lst ((Zf kvs x).map .str),S.length+1,[.dct (pas P),.lst []],by simp[jc,e,q,hz],?_,by rw[er];simp,by omega,JC _ _⟩
         show ((yC [some (.ref p),some (.str x),none] S).then (zJ yv (zJ ya yx))).out=_
         rw[e1]
         simp[ya,-inD,hj,hy,z0]
       ·exact .inl (by simp only[jc,e,q];rw[if_neg hz])
     | lst _=>exact .inl (by simp[jc,e])
     | ins _ _=>exact .inl (by simp[jc,e])
     | fdc _=>exact .inl (by simp[jc,e])
   | _=>exact .inl (by simp only[jc])
  | _=>exact .inl rfl
def yc:SM :=
  (zJ (sIf (tOr (ZE (qe (zI zB2 (zB (zA 0) (zB (eC (.ty .list)) zD))))) (zc cEq (zI jo (zB (zA 0) zD)) (eC (.int 0))))
  (jK (eC (.bl false)))
  jE)
  (zJ (sIf (ZE (qe (JE zB7 1 (iE (zA 0)) (zK 1) qc (zI zB2 (zB (zA 1) (zB (eC (.ty .str)) zD))))))
  (jK (eC (.bl false)))
  jE)
  (jK (zAI cEq (zI ZQ (zB (zA 0) zD)) (zI jo (zB (zA 0) zD))))))
def zAN:F:=fn 1 yc
def yB:F:=chS zAN
theorem zCb:jO 1 zAN yB:=zCY _
theorem zHN:∀ {ts acc:List T},(acc++ts).Nodup->yj acc ts=acc++ts
 | [],acc,_=>by simp[yj]
 | t::ts,acc,h=>by
  have ht:t∉acc:=fun z=>by
   rw[List.nodup_append] at h
   exact h.2.2 t z t List.mem_cons_self rfl
  show yj (if acc.contains t then acc else acc++[t]) ts=_
  rw[if_neg (by simpa using ht),zHN (by rw[List.append_assoc];exact h),List.append_assoc]
  rfl
theorem zK4 {s:M.S}{p:Nat}{ts:List T} (hp:s[p]? = some (.lst (ts.map .str))) (h0:ts≠[]) (hn:ts.Nodup) (hl:ts.length <= 1000):yB [.ref p] s=.ok (.bl true) s:=by
 refine zCn (g:=[]) ?_ rfl
 rw[List.append_nil]
 have hG:zW [(p,O.lst (ts.map .str))] s=true:=by simp only[zW,List.all_cons,List.all_nil,hp,decide_true,Bool.and_self]
 have ec:qJ 1 (iE (zA 0)) (zK 1) qc (zI zB2 (zB (zA 1) (zB (eC (.ty .str)) zD))) [some (.ref p)] s=.ok (ts.map fun _=>.bl true) s:=by
  have:=zDY (n:=1) (it:=iE (zA 0)) (tg:=zK 1) (e:=zI zB2 (zB (zA 1) (zB (eC (.ty .str)) zD))) (σ:=[some (.ref p)]) (s:=s) (xs:=ts.map D.str) (g:=[(p,.lst (ts.map .str))]) (fun _=>.bl true) (by
   simp only[iE,zA,List.getElem?_cons_zero,R.bind_ok,itD,hp]) (by rw[List.length_map];unfold SZ;omega) hG fun d hd=>by
    obtain⟨x,_,rfl⟩:=List.mem_map.mp hd
    rfl
  rw[this,List.map_map]
  rfl
 have ka:∀ s,zB7 (ts.map fun _=>D.bl true) s=.ok (.bl true) s:=fun s=>by
  rw[all_map (fun _=>true) ts s]
  simp
 have c0:¬ (((ts.map D.str).length:Nat):Int)=0:=by
  rw[List.length_map]
  have:=List.length_pos_iff.mpr h0
  omega
 have fl:ZQ [.ref p] s=.ok (.int (ts.length:Nat)) s:=by
  have e:yj [] ts=ts:=by have:=zHN (acc:=[]) (by simpa using hn);simpa using this
  simp only[ZQ,Qe hp,Q2,e]
  rw[if_pos hl]
 show (yc [some (.ref p)] s).out=_
 have e1:∀ (s:M.S),cEq (.int (((ts.map D.str).length:Nat):Int)) (.int 0) s=.ok false s:=fun s=>by
  show R.ok (decide ((((ts.map D.str).length:Nat):Int)=0)) s=_
  rw[decide_eq_false c0]
 have e2:cEq (.int (ts.length:Nat)) (.int ((ts.map D.str).length:Nat)) s=.ok true s:=by simp
 simp only[yc,zJ,sIf,tOr,ZE,qe,zI,zB,zD,zA,eC,List.getElem?_cons_succ,List.getElem?_cons_zero,R.bind_ok,zB2,JQ,hp,yo,Bool.not_true,Bool.false_eq_true,if_false,zc,jo,e1,R.stm_ok,jE,RS.then_nx,JE,ec,ka,jK,zAI,fl,e2,RS.out_rt]
def zAG:SM :=
  (zJ (sIf (tOr (ZE (qe (zI yB (zB (zA 1) zD)))) (zc cNe (eOp zU (zA 1) (eC (.int 0))) (zI zBr (zB (zA 1) zD))))
  (jK (eC (.bl false)))
  jE)
  (zJ (zT 2 (eOp jW (eSl (zA 1) (qz (eC (.int 1))) Qb) (eSl (zA 1) Qb (qz (eC (.int 1))))))
  (jK (JE zB7 2 (zFE (zA 1) (zA 2)) (JN (qg (zK 3) (qg (zK 4) JJ))) qc (zAI cIn (zA 4) (eM .dict ZA (zA 0) (zB (zA 3) (zB (qD zD) zD))))))))
def zFc:F:=fn 3 zAG
def Zy:F:=chS zFc
theorem zJP:jO 2 zFc Zy:=zCY _
theorem zFN:∀ ts us:List T,ZK (ts.map D.str) (us.map D.str)=(ts.zip us).map fun p=>D.tup [.str p.1,.str p.2]
 | [],_=>by simp[ZK]
 | _::_,[]=>by simp[ZK]
 | t::ts,u::us=>by
  rw[List.map_cons,List.map_cons,ZK,zFN ts us]
  rfl
theorem zH5 {s:M.S}{n p:Nat}{kvs:List (D×D)}{nd:List (T×List T)}{ts:List T} (hs:s[n]? = some (.dct kvs)) (dr:DR s kvs nd) (hp:s[p]? = some (.lst (ts.map .str))) (h0:ts≠[]) (hn:ts.Nodup) (hl:ts.length <= 1000) (hm:ts.getD 0 []=ju ts) (hr:∀ q∈ts.zip (ts.drop 1++ts.take 1),q.2∈nOf nd q.1) :
  Zy [.ref n,.ref p] s=.ok (.bl true) s:=by
 have hrow:=zK4 hp h0 hn hl
 have hpos:=List.length_pos_iff.mpr h0
 have f3:zU (.ref p) (.int 0) s=.ok (.str (ju ts)) s:=by
  have:=Jl (ts:=ts) (k:=0) (by omega) (by omega)
  simp only[zU,hp,this]
  show R.ok (D.str (ts.getD 0 [])) s=_
  rw[hm]
 have f4:zBr [.ref p] s=.ok (.str (ju ts)) s:=by
  simp only[zBr,zME,Qe hp,zHK,Q2]
  cases ts with
  | nil=>exact absurd rfl h0
  | cons a b=>rfl
 have c1:cut (ts.map D.str) (some 1) none=(ts.drop 1).map .str:=by rw[zCN _ (by omega)];simp
 have c2:cut (ts.map D.str) none (some 1)=(ts.take 1).map .str:=by rw[zGO _ (by omega)];simp
 obtain⟨be,hbe⟩:∃ be,be=ts.drop 1++ts.take 1:=⟨_,rfl⟩
 rw[<- hbe] at hr
 obtain⟨s3,hs3⟩:∃ s3,s3=s++[O.lst ((ts.drop 1).map .str),.lst ((ts.take 1).map .str),.lst (be.map .str)]:=⟨_,rfl⟩
 have p3:ze s s3:=by rw[hs3];exact ze.of _ _
 have g3:s3[s.length+2]? = some (.lst (be.map .str)):=by rw[hs3,List.getElem?_append_right (by omega),show s.length+2 - s.length=2 by omega];rfl
 have lz:(ts.zip be).length <= SZ:=by rw[List.length_zip];unfold SZ;omega
 obtain⟨t,ec⟩:∃ t,qJ 2 (zFE (zA 1) (zA 2)) (JN (qg (zK 3) (qg (zK 4) JJ))) qc (zAI cIn (zA 4) (eM .dict ZA (zA 0) (zB (zA 3) (zB (qD zD) zD)))) [some (.ref n),some (.ref p),some (.ref (s.length+2))] s3=.ok ((ts.zip be).map fun _=>.bl true) (s3++t):=by
  obtain⟨t,e⟩:=zFM (n:=2) (it:=zFE (zA 1) (zA 2)) (tg:=JN (qg (zK 3) (qg (zK 4) JJ))) (e:=zAI cIn (zA 4) (eM .dict ZA (zA 0) (zB (zA 3) (zB (qD zD) zD)))) (σ:=[some (.ref n),some (.ref p),some (.ref (s.length+2))]) (s:=s3) (xs:=(ts.zip be).map fun q=>D.tup [.str q.1,.str q.2]) (g:=[(p,.lst (ts.map .str)),(s.length+2,.lst (be.map .str))]) (fun _=>.bl true) (by
   simp only[zFE,zB,zD,zA,List.getElem?_cons_succ,List.getElem?_cons_zero,R.bind_ok,zGn,Qe (p3.get hp),Qe g3,zFN]) (by rw[List.length_map];exact lz) (by simp only[zW,List.all_cons,List.all_nil,p3.get hp,g3,decide_true,Bool.and_self]) fun d hd t=>by
    obtain⟨q,hq,rfl⟩:=List.mem_map.mp hd
    refine⟨t++[.lst []],?_⟩
    have pt:ze s (s3++t):=p3.trans (ze.of _ _)
    obtain⟨r,er,gr⟩:=zCe (pt.get hs) (dr.mono pt.keep) q.1
    rw[List.append_assoc] at gr
    have hin:=zAZ gr q.2
    have hc:(nOf nd q.1).contains q.2=true:=by simpa using hr q hq
    rw[hc] at hin
    simp only[qP,JN,qg,zK,JJ,qc,List.cons_append,List.nil_append,List.replicate,List.set_cons_succ,List.set_cons_zero,R.bind_ok,if_true,zAI,zA,List.getElem?_cons_succ,List.getElem?_cons_zero,eM,ZX,zm (p3.get hs) t,zB,zD,qD,List.length_nil,Nat.zero_le,alloc,ZA,List.append_assoc,zm (p3.get hs) (t++[O.lst []]),jA,er,cIn,hin]
  refine⟨t,?_⟩
  rw[e,List.map_map]
  rfl
 have ka:∀ s,zB7 ((ts.zip be).map fun _=>D.bl true) s=.ok (.bl true) s:=fun s=>by
  rw[all_map (fun _=>true) (ts.zip be) s]
  simp
 refine zCn (g:=[O.lst ((ts.drop 1).map .str),.lst ((ts.take 1).map .str),.lst (be.map .str)]++t) ?_ rfl
 show (zAG [some (.ref n),some (.ref p),none] s).out=_
 have e1:cNe (.str (ju ts)) (.str (ju ts)) s=.ok false s:=by simp
 have l1:=Qe hp
 have z:((ts.drop 1).map D.str).length+((ts.take 1).map D.str).length <= SZ:=by rw[List.length_map,List.length_map,List.length_drop,List.length_take];unfold SZ;omega
 have q1:(s++[O.lst ((ts.drop 1).map .str),.lst ((ts.take 1).map .str)])[s.length]? = some (.lst ((ts.drop 1).map .str)):=zd
 have q2:(s++[O.lst ((ts.drop 1).map .str),.lst ((ts.take 1).map .str)])[s.length+1]? = some (.lst ((ts.take 1).map .str)):=by rw[List.getElem?_append_right (by omega),show s.length+1 - s.length=1 by omega];rfl
 have l2:=Qe (zm hp [O.lst ((ts.drop 1).map .str)])
 have a1:(sIf (tOr (ZE (qe (zI yB (zB (zA 1) zD)))) (zc cNe (eOp zU (zA 1) (eC (.int 0))) (zI zBr (zB (zA 1) zD)))) (jK (eC (.bl false))) jE) [some (.ref n),some (.ref p),none] s=.nx [some (.ref n),some (.ref p),none] s:=by
  simp only[sIf,tOr,ZE,qe,zI,zB,zD,zA,eC,List.getElem?_cons_succ,List.getElem?_cons_zero,R.bind_ok,hrow,yo,Bool.not_true,Bool.false_eq_true,if_false,zc,eOp,f3,f4,e1,R.stm_ok,jE]
 have a2:(zT 2 (eOp jW (eSl (zA 1) (qz (eC (.int 1))) Qb) (eSl (zA 1) Qb (qz (eC (.int 1)))))) [some (.ref n),some (.ref p),none] s=.nx [some (.ref n),some (.ref p),some (.ref (s.length+2))] s3:=by
  have hb2:(ts.drop 1).map D.str++(ts.take 1).map D.str=be.map .str:=by rw[hbe,List.map_append]
  simp only[zT,eOp,eSl,zA,eC,qz,Qb,List.getElem?_cons_succ,List.getElem?_cons_zero,R.bind_ok,slD,l1,c1,alloc,l2,c2,List.length_append,List.length_cons,List.length_nil,Nat.zero_add,List.append_assoc,List.cons_append,List.nil_append,jW,q1,q2,z,if_true,hb2,Nat.reduceAdd,R.stm_ok,List.set_cons_succ,List.set_cons_zero,hs3]
 unfold zAG
 show (((sIf _ _ _) _ _).then _).out=_
 rw[a1,RS.then_nx]
 show (((zT 2 _) _ _).then _).out=_
 rw[a2,RS.then_nx]
 simp only[jK,JE,ec,R.bind_ok,ka,R.stm_ok,RS.out_rt]
 rw[hs3,List.append_assoc]
def QL:SM :=
  (zJ (zT 3 (zI ZP (zB (zA 0) (zB (zA 1) zD))))
  (zJ (qq (iE (zA 2)) (zK 4)
  (zJ (zT 5 (zI jc (zB (zA 3) (zB (zA 4) zD))))
  (zJ (sIf (tOr (ZE (qe (zI Zy (zB (zA 0) (zB (zA 5) zD))))) (qe (jY 1 (iE (zA 5)) (zK 7) (yS (eOp zU (zA 1) (zA 7))) (zA 7))))
  (jK (eC (.bl false)))
  jE)
  (zJ (zT 6 (zI yD (zB (zA 0) (zB (zA 5) zD))))
  (sIf (tOr (zc jU (zA 4) (zA 6)) (qe (jY 1 (iE (zA 5)) (zK 7) (zc jU (zA 7) (zA 6)) (zA 7))))
  (jK (eC (.bl false)))
  jE)))))
  (jK (eC (.bl true)))))
def zCd:F:=fn 7 QL
def QR:F:=chS zCd
theorem zFx:jO 3 zCd QR:=zCY _
def zEC (kvs:List (T×T)) (F:List T) (e:T):Bool:=F.contains e && F.all (fun z=>(yZ kvs z).isSome && decide ((F.filter (· == z)).length <= 1)) &&
 (List.range F.length).all fun k=>!decide (F.getD k [] < F.getD 0 []) && decide (yZ kvs (F.getD k [])=some (F.getD ((k+1) % F.length) []))
inductive ZN (kvs:List (T×T)):T->List T->T->Prop
 | nil (x:T):ZN kvs x [] x
 | cons {x y z:T}{P:List T} (h:yZ kvs x=some y) (t:ZN kvs y P z):ZN kvs x (x::P) z
theorem ZN.snoc {kvs:List (T×T)}{x y z:T}{P:List T} (h:ZN kvs x P y) (k:yZ kvs y=some z):ZN kvs x (P++[y]) z:=by
 induction h with
 | nil x=>exact .cons k (.nil _)
 | cons h t ih=>exact .cons h (ih k)
theorem ZN.head {kvs:List (T×T)}{x y:T}{P:List T} (h:ZN kvs x P y):(P++[y])[0]? = some x:=by
 cases h with
 | nil x=>rfl
 | cons h t=>rfl
theorem ZN.at {kvs:List (T×T)}{x y:T}{P:List T} (h:ZN kvs x P y):∀ {i:Nat}{z:T},P[i]? = some z->∃ w,(P++[y])[i+1]? = some w/\yZ kvs z=some w:=by
 induction h with
 | nil x=>intro i z e;simp at e
 | @cons x y z P h t ih =>
  intro i u e
  cases i with
  | zero =>
   simp at e
   subst e
   exact⟨y,by have:=t.head;simpa using this,h⟩
  | succ i =>
   obtain⟨w,h1,h2⟩:=ih (i:=i) (z:=u) (by simpa using e)
   exact⟨w,by simpa using h1,h2⟩
theorem ZN.drop {kvs:List (T×T)}{x y:T}{P:List T} (h:ZN kvs x P y):∀ {i:Nat},i < P.length->∃ w,P[i]? = some w/\ZN kvs w (P.drop i) y:=by
 induction h with
 | nil x=>intro i hi;simp at hi
 | @cons x y z P h t ih =>
  intro i hi
  cases i with
  | zero=>exact⟨x,rfl,.cons h t⟩
  | succ i =>
   obtain⟨w,h1,h2⟩:=ih (i:=i) (by simpa using hi)
   exact⟨w,by simpa using h1,by simpa using h2⟩
theorem ZN.end {kvs:List (T×T)}{x y:T}{P:List T} (h:ZN kvs x P y) (k:Nat):zAL kvs (P.length+k) x=zAL kvs k y:=by
 induction h with
 | nil x=>simp
 | @cons x y z P h t ih =>
  rw[List.length_cons,show P.length+1+k=P.length+k+1 by omega,zAL,h]
  exact ih
theorem zFJ {kvs:List (T×T)}{x0:T}:∀ (n:Nat) (P:List T) (x:T),P.Nodup->(∀ t∈P,t∈keysT kvs)->ZN kvs x0 P x->kvs.length+1 <= P.length+n->ZN kvs x0 (qM kvs n P x).1 (qM kvs n P x).2/\(yZ kvs (qM kvs n P x).2=none\/(qM kvs n P x).2∈(qM kvs n P x).1)
 | 0,P,x,h1,h2,_,hl=>by
  have:=zAA h1 h2
  unfold keysT at this
  rw[List.length_map] at this
  omega
 | n+1,P,x,h1,h2,hp,hl=>by
  unfold qM
  cases q:yZ kvs x with
  | none=>exact⟨hp,.inl q⟩
  | some y =>
   dsimp only
   split
   ·rename_i hx;exact⟨hp,.inr hx⟩
   ·rename_i hx
    exact zFJ n (P++[x]) y (by rw[List.nodup_append];exact⟨h1,by simp,fun a ha b hb z=>by simp at hb;subst hb;subst z;exact hx ha⟩) (fun t ht=>by
     rcases List.mem_append.mp ht with ht | ht
     ·exact h2 t ht
     ·rw[List.mem_singleton.mp ht];exact zFH q) (hp.snoc q) (by rw[List.length_append];simp;omega)
theorem zHw {kvs:List (T×T)}{y:T}{C:List T} (h:ZN kvs y C y) (h0:C[0]? = some y) {k:Nat} (hk:k < C.length) {z:T} (hz:C[k]? = some z):∃ w,C[(k+1) % C.length]? = some w/\yZ kvs z=some w:=by
 obtain⟨w,h1,h2⟩:=h.at hz
 refine⟨w,?_,h2⟩
 by_cases e:k+1 < C.length
 ·rw[Nat.mod_eq_of_lt e]
  rw[List.getElem?_append_left e] at h1
  exact h1
 ·have e2:k+1=C.length:=by omega
  rw[e2,Nat.mod_self,h0]
  rw[e2,List.getElem?_append_right (Nat.le_refl _)] at h1
  simpa using h1
theorem zIc {kvs:List (T×T)}{y:T}{C:List T} (h:ZN kvs y C y) (h0:C[0]? = some y):∀ (k:Nat) (z:T),z∈C->∃ w,w∈C/\zAL kvs k z=some w
 | 0,z,hz=>⟨z,hz,rfl⟩
 | k+1,z,hz=>by
  obtain⟨i,hi,e⟩:=List.mem_iff_getElem.mp hz
  obtain⟨w,h1,h2⟩:=zHw h h0 hi (z:=z) (by rw[List.getElem?_eq_getElem hi,e])
  obtain⟨u,h3,h4⟩:=zIc h h0 k w (List.mem_of_getElem? h1)
  exact⟨u,h3,by rw[zAL,h2];exact h4⟩
theorem zKM {z:T}:∀ {C:List T},C.Nodup->(C.filter (· == z)).length <= 1
 | [],_=>by simp
 | t::C,h=>by
  rw[List.nodup_cons] at h
  rw[List.filter_cons]
  split
  ·rename_i e
   have e':t=z:=by simpa using e
   subst e'
   have:C.filter (· == t)=[]:=List.filter_eq_nil_iff.mpr fun u hu=>by
    simp
    exact fun e=>h.1 (e ▸ hu)
   rw[this];simp
  ·exact zKM h.2
theorem zHq {C:List T}{t:T}:t∈yp C↔t∈C:=by
 unfold yp
 rw[List.mem_append]
 constructor
 ·exact fun h=>h.elim List.mem_of_mem_drop List.mem_of_mem_take
 ·intro h
  rw[<- List.take_append_drop (jH (ju C) C) C] at h
  exact (List.mem_append.mp h).elim .inr .inl
theorem zK1 {C:List T} (z:T):((yp C).filter (· == z)).length=(C.filter (· == z)).length:=by
 unfold yp
 conv=>rhs;rw[<- List.take_append_drop (jH (ju C) C) C]
 rw[List.filter_append,List.filter_append,List.length_append,List.length_append]
 omega
theorem zLT {kvs:List (T×T)}{y:T}{C:List T} (h:ZN kvs y C y) (h0:C[0]? = some y) (hn:C.Nodup) {e:T} (he:e∈C):zEC kvs (yp C) e=true:=by
 have hne:C≠[]:=fun z=>by rw[z] at h0;cases h0
 have hlp:0 < C.length:=List.length_pos_iff.mpr hne
 have hm:=zCV hne
 have hP:=zAf hm
 have htl:=zGN C
 have hta:=fun k hk=>zN5 (ts:=C) rfl hP k hk
 have gD:∀ k,k < C.length->∃ z,(yp C).getD k []=z/\C[(jH (ju C) C+k) % C.length]? = some z:=fun k hk=>by
  have hlt:(jH (ju C) C+k) % C.length < C.length:=Nat.mod_lt _ hlp
  refine⟨C[(jH (ju C) C+k) % C.length],?_,List.getElem?_eq_getElem hlt⟩
  rw[List.getD_eq_getElem?_getD,hta k hk,List.getElem?_eq_getElem hlt]
  rfl
 unfold zEC
 rw[Bool.and_eq_true,Bool.and_eq_true,List.all_eq_true,List.all_eq_true]
 refine⟨⟨?_,fun z hz=>?_⟩,fun k hk=>?_⟩
 ·rw[List.contains_iff_mem];exact zHq.mpr he
 ·obtain⟨i,hi,ez⟩:=List.mem_iff_getElem.mp (zHq.mp hz)
  obtain⟨w,_,h2⟩:=zHw h h0 hi (z:=z) (by rw[List.getElem?_eq_getElem hi,ez])
  rw[Bool.and_eq_true,decide_eq_true_iff,h2,zK1]
  exact⟨rfl,zKM hn⟩
 ·have hk':k < C.length:=by rw[<- htl];exact List.mem_range.mp hk
  obtain⟨z,e1,e2⟩:=gD k hk'
  obtain⟨z0,e3,e4⟩:=gD 0 hlp
  rw[Nat.add_zero,Nat.mod_eq_of_lt hP,zDP hm] at e4
  cases e4
  obtain⟨z1,e5,e6⟩:=gD ((k+1) % C.length) (Nat.mod_lt _ hlp)
  obtain⟨w,h1,h2⟩:=zHw h h0 (Nat.mod_lt _ hlp) e2
  rw[htl,e1,e3,e5]
  have em:(jH (ju C) C+(k+1) % C.length) % C.length=((jH (ju C) C+k) % C.length+1) % C.length:=by
   rw[Nat.add_mod_mod,Nat.mod_add_mod,Nat.add_assoc]
  rw[em] at e6
  rw[e6] at h1
  cases h1
  rw[Bool.and_eq_true,Bool.not_eq_true',decide_eq_false_iff_not,decide_eq_true_iff]
  exact⟨zHR z (List.mem_of_getElem? e2),h2⟩
theorem zNT (kvs:List (T×T)) (x:T):match zAL kvs (kvs.length+1) x with
  | none=>Zf kvs x=[]
  | some e=>zEC kvs (Zf kvs x) e=true/\(Zf kvs x).length <= kvs.length:=by
 obtain⟨wn,ws⟩:=zDa (kvs:=kvs) (kvs.length+1) [] x List.nodup_nil (fun t h=>by cases h)
 obtain⟨hp,hy⟩:=zFJ (kvs:=kvs) (x0:=x) (kvs.length+1) [] x List.nodup_nil (fun t h=>by cases h) (.nil x) (by simp)
 have wl:=zAA wn ws
 unfold keysT at wl
 rw[List.length_map] at wl
 unfold Zf
 generalize qM kvs (kvs.length+1) [] x=W at *
 obtain⟨P,y⟩:=W
 dsimp only at *
 have he:=hp.end (kvs.length+1 - P.length)
 rw[show P.length+(kvs.length+1 - P.length)=kvs.length+1 by omega] at he
 rw[he]
 obtain⟨m,hm⟩:∃ m,kvs.length+1 - P.length=m+1:=⟨kvs.length - P.length,by omega⟩
 rw[hm]
 by_cases hyp:y∈P
 ·have hpl:=zAf hyp
  obtain⟨w,h1,h2⟩:=hp.drop hpl
  rw[zDP hyp] at h1
  cases h1
  have h0:(P.drop (jH y P))[0]? = some y:=by rw[List.getElem?_drop,Nat.add_zero];exact zDP hyp
  obtain⟨e,hec,hee⟩:=zIc h2 h0 (m+1) y (List.mem_of_getElem? h0)
  rw[hee,if_pos hyp]
  refine⟨zLT h2 h0 (wn.sublist (List.drop_sublist _ _)) hec,?_⟩
  rw[zGN,List.length_drop]
  omega
 ·have hn:yZ kvs y=none:=hy.resolve_right hyp
  have:zAL kvs (m+1) y=none:=by rw[zAL,hn]
  rw[this,if_neg hyp]
theorem zDL:∀ {F:List T},(∀ z∈F,(F.filter (· == z)).length <= 1)->F.Nodup
 | [],_=>List.nodup_nil
 | x::F,h=>by
  rw[List.nodup_cons]
  refine⟨fun hx=>?_,zDL fun z hz=>?_⟩
  ·have:=h x List.mem_cons_self
   rw[List.filter_cons,if_pos (by simp)] at this
   have h2:0 < (F.filter (· == x)).length:=List.length_pos_of_mem (List.mem_filter.mpr ⟨hx,by simp⟩)
   rw[List.length_cons] at this
   omega
  ·have:=h z (List.mem_cons_of_mem _ hz)
   rw[List.filter_cons] at this
   split at this
   ·rw[List.length_cons] at this;omega
   ·exact this
section
variable {nd:List (T×List T)}{V:List T}{rk:T->Option Nat}
theorem zDj (hn:(zZ nd).Nodup) {x y:T} (h:yZ (nxs rk nd) x=some y):y∈nOf nd x/\rk y=none:=by
 rw[zEk hn] at h
 have h1:=List.mem_of_mem_head? (Option.mem_def.mpr h)
 have h2:=List.mem_filter.mp h1
 exact⟨h2.1,by simpa using h2.2⟩
theorem zHj (hn:(zZ nd).Nodup) (hR:RK nd V rk) (hVm:∀ x,x∈V↔inV nd x) {x:T} (hx:x∈V) (h:rk x=none):∃ y,yZ (nxs rk nd) x=some y/\y∈nOf nd x/\rk y=none/\y∈V:=by
 obtain⟨z,h1,h2⟩:=hR.no x hx h
 cases q:yZ (nxs rk nd) x with
 | none =>
  rw[zEk hn,List.head?_eq_none_iff] at q
  have:z∈(nOf nd x).filter fun y=>(rk y).isNone:=List.mem_filter.mpr ⟨h1,by rw[h2];rfl⟩
  rw[q] at this;cases this
 | some y =>
  obtain⟨h3,h4⟩:=zDj hn q
  obtain⟨p,h5,_,h6⟩:=(zAW hn).mp h3
  exact⟨y,rfl,h3,h4,(hVm y).mpr (.inr ⟨p,h5,h6⟩)⟩
theorem zHO (hn:(zZ nd).Nodup) (hR:RK nd V rk) (hVm:∀ x,x∈V↔inV nd x):∀ (k:Nat) (x:T),x∈V->rk x=none->∃ e,zAL (nxs rk nd) (k+1) x=some e/\Lds nd x e
 | 0,x,hx,h=>by
  obtain⟨y,h1,h2,_,_⟩:=zHj hn hR hVm hx h
  exact⟨y,by rw[zAL,h1];rfl,.one h2⟩
 | k+1,x,hx,h=>by
  obtain⟨y,h1,h2,h3,h4⟩:=zHj hn hR hVm hx h
  obtain⟨e,h5,h6⟩:=zHO hn hR hVm k y h4 h3
  exact⟨e,by rw[zAL,h1];exact h5,.step h2 h6⟩
theorem zJ2 (hn:(zZ nd).Nodup) (hR:RK nd V rk) (hVm:∀ x,x∈V↔inV nd x) {x:T} (hx:x∈V) (h:rk x=none) :
  ∃ R,R=Zf (nxs rk nd) x/\R≠[]/\R.Nodup/\R.length <= (nxs rk nd).length/\R.getD 0 []=ju R/\(∀ q∈R.zip (R.drop 1++R.take 1),q.2∈nOf nd q.1)/\(∀ r∈R,r∈V/\rk r=none/\∃ w∈R,Lds nd r w)/\∃ w∈R,Lds nd x w:=by
 obtain⟨e,h1,h2⟩:=zHO hn hR hVm (nxs rk nd).length x hx h
 have ho:=zNT (nxs rk nd) x
 rw[h1] at ho
 obtain⟨hi,hl⟩:=ho
 refine⟨Zf (nxs rk nd) x,rfl,?_⟩
 generalize Zf (nxs rk nd) x=R at *
 unfold zEC at hi
 rw[Bool.and_eq_true,Bool.and_eq_true] at hi
 obtain⟨⟨he,hall⟩,hk⟩:=hi
 have heR:e∈R:=by simpa using he
 have hne:R≠[]:=List.ne_nil_of_mem heR
 have hpos:=List.length_pos_iff.mpr hne
 have hat:∀ k,k < R.length -> ¬ R.getD k [] < R.getD 0 []/\yZ (nxs rk nd) (R.getD k [])=some (R.getD ((k+1) % R.length) []):=fun k hk'=>by
  have:=List.all_eq_true.mp hk k (List.mem_range.mpr hk')
  rw[Bool.and_eq_true] at this
  refine⟨by simpa using this.1,of_decide_eq_true this.2⟩
 have gi:∀ r∈R,∃ k,k < R.length/\R.getD k []=r:=fun r hr=>by
  obtain⟨k,hk',e⟩:=List.mem_iff_getElem.mp hr
  exact⟨k,hk',by rw[List.getD_eq_getElem?_getD,List.getElem?_eq_getElem hk',e];rfl⟩
 refine⟨hne,zDL fun z hz=>?_,hl,?_,fun q hq=>?_,fun r hr=>?_,e,heR,h2⟩
 ·have:=List.all_eq_true.mp hall z hz
  rw[Bool.and_eq_true] at this
  exact of_decide_eq_true this.2
 ·obtain⟨k,hk',ek⟩:=gi _ (zCV hne)
  have a1:=(hat k hk').1
  rw[ek] at a1
  have a2:=zHR (ts:=R) (R.getD 0 []) (Z3 hpos)
  rw[List.not_lt] at a1 a2
  exact List.le_antisymm a1 a2
 ·obtain⟨k,hk',e⟩:=List.mem_iff_getElem.mp hq
  have hlz:k < R.length:=by rw[List.length_zip] at hk';omega
  rw[List.getElem_zip] at e
  have e1:q.1=R.getD k []:=by rw[<- e,List.getD_eq_getElem?_getD,List.getElem?_eq_getElem hlz];rfl
  have e2:q.2=R.getD ((k+1) % R.length) []:=by
   have hb:(R.drop 1++R.take 1)[k]? = some q.2:=by
    rw[<- e]
    have hlb:k < (R.drop 1++R.take 1).length:=by rw[List.length_append,List.length_drop,List.length_take];omega
    rw[List.getElem?_eq_getElem hlb]
   by_cases c:k+1 < R.length
   ·rw[List.getElem?_append_left (by rw[List.length_drop];omega),List.getElem?_drop] at hb
    rw[Nat.mod_eq_of_lt c,List.getD_eq_getElem?_getD,show k+1=1+k by omega,hb];rfl
   ·rw[List.getElem?_append_right (by rw[List.length_drop];omega),List.length_drop,show k - (R.length - 1)=0 by omega,List.getElem?_take_of_lt (by omega)] at hb
    rw[show k+1=R.length by omega,Nat.mod_self,List.getD_eq_getElem?_getD,hb];rfl
  rw[e1,e2]
  exact (zDj hn (hat k hlz).2).1
 ·obtain⟨k,hk',ek⟩:=gi r hr
  have a:=(hat k hk').2
  rw[ek] at a
  obtain⟨b1,b2⟩:=zDj hn a
  have hrk:rk r=none:=by
   cases q:rk r with
   | none=>rfl
   | some j =>
    obtain⟨i,_,h4⟩:=hR.low r j q _ b1
    rw[b2] at h4;cases h4
  obtain⟨p,h5,h6,_⟩:=(zAW hn).mp b1
  refine⟨(hVm r).mpr (.inl (by unfold zZ;exact List.mem_map.mpr ⟨p,h5,h6⟩)),hrk,R.getD ((k+1) % R.length) [],Z3 (Nat.mod_lt _ hpos),.one b1⟩
end
abbrev zGL:SM:=(zJ (zT 5 (zI jc (zB (zA 3) (zB (zA 4) zD))))
  (zJ (sIf (tOr (ZE (qe (zI Zy (zB (zA 0) (zB (zA 5) zD))))) (qe (jY 1 (iE (zA 5)) (zK 7) (yS (eOp zU (zA 1) (zA 7))) (zA 7))))
  (jK (eC (.bl false)))
  jE)
  (zJ (zT 6 (zI yD (zB (zA 0) (zB (zA 5) zD))))
  (sIf (tOr (zc jU (zA 4) (zA 6)) (qe (jY 1 (iE (zA 5)) (zK 7) (zc jU (zA 7) (zA 6)) (zA 7))))
  (jK (eC (.bl false)))
  jE))))
theorem zNr {s0 s:M.S}{p f an:Nat}{kvs:List (D×D)}{nd:List (T×List T)}{N V:List T}{rk:T->Option Nat} (hp:s0[p]? = some (.dct kvs)) (dr:DR s0 kvs nd) (hn:(zZ nd).Nodup) (ok:OkN N nd) (hN:N.length <= 62) (hf:s0[f]? = some (.dct (fD V fun x=>rkD (rk x)))) (hVm:∀ x,x∈V↔inV nd x) (hR:RK nd V rk) (ha:s0[an]? = some (.dct ((nxs rk nd).map pd))) (ps:ze s0 s) {x:T} (hx:x∈V) (h:rk x=none) {v2 v4 v5 v6:Option D} :
  ∃ v5' v6' s',jm (zK 4) zGL (.str x) [some (.ref p),some (.ref f),v2,some (.ref an),v4,v5,v6] s=.nx [some (.ref p),some (.ref f),v2,some (.ref an),some (.str x),v5',v6'] s'/\ze s0 s':=by
 obtain⟨Rg,hRr,h0,hnR,hlR,hm,hz,hin,w,hw,hxw⟩:=zJ2 hn hR hVm hx h
 have ndl:(nxs rk nd).length <= 62:=by
  have h1:nd.length=(zZ nd).length:=by unfold zZ;simp
  have:=qY (N:=N) hn fun x hx=>zER ok (.inl hx)
  have:=zIj rk nd
  omega
 obtain⟨s1,hs1⟩:∃ s1,s1=s++[O.lst (Rg.map .str)]:=⟨_,rfl⟩
 have p1:ze s s1:=by rw[hs1];exact ze.of _ _
 have p01:=ps.trans p1
 have g1:s1[s.length]? = some (.lst (Rg.map .str)):=by rw[hs1];exact zd
 have b1:(zT 5 (zI jc (zB (zA 3) (zB (zA 4) zD)))) [some (.ref p),some (.ref f),v2,some (.ref an),some (.str x),v5,v6] s=.nx [some (.ref p),some (.ref f),v2,some (.ref an),some (.str x),some (.ref s.length),v6] s1:=by
  have e:jc [.ref an,.str x] s=alloc (.lst (Rg.map .str)) s:=by
   simp only[jc,ps.get ha,zEb]
   rw[if_pos (by omega),<- hRr]
  simp only[zT,zI,zB,zD,zA,List.getElem?_cons_succ,List.getElem?_cons_zero,R.bind_ok,e,alloc,R.stm_ok,List.set_cons_succ,List.set_cons_zero,hs1]
 have hir:=zH5 (p01.get hp) (dr.mono p01.keep) g1 h0 hnR (by omega) hm hz
 have zR:Rg.length <= SZ:=by unfold SZ;omega
 obtain⟨s2,hs2⟩:∃ s2,s2=s1++[O.lst []]:=⟨_,rfl⟩
 have p2:ze s1 s2:=by rw[hs2];exact ze.of _ _
 have b2:(sIf (tOr (ZE (qe (zI Zy (zB (zA 0) (zB (zA 5) zD))))) (qe (jY 1 (iE (zA 5)) (zK 7) (yS (eOp zU (zA 1) (zA 7))) (zA 7)))) (jK (eC (.bl false))) jE) [some (.ref p),some (.ref f),v2,some (.ref an),some (.str x),some (.ref s.length),v6] s1=.nx [some (.ref p),some (.ref f),v2,some (.ref an),some (.str x),some (.ref s.length),v6] s2:=by
  have ec:qJ 1 (iE (zA 5)) (zK 7) (yS (eOp zU (zA 1) (zA 7))) (zA 7) [some (.ref p),some (.ref f),v2,some (.ref an),some (.str x),some (.ref s.length),v6] s1=.ok [] s1:=by
   have:=JX (n:=1) (it:=iE (zA 5)) (tg:=zK 7) (c:=yS (eOp zU (zA 1) (zA 7))) (e:=zA 7) (σ:=[some (.ref p),some (.ref f),v2,some (.ref an),some (.str x),some (.ref s.length),v6]) (s:=s1) (s1:=s1) (ts:=Rg) (g:=[(s.length,.lst (Rg.map .str))]) (fun _=>false) (by
    simp only[iE,zA,List.getElem?_cons_succ,List.getElem?_cons_zero,R.bind_ok,itD,g1]) zR (by simp only[zW,List.all_cons,List.all_nil,g1,decide_true,Bool.and_self]) fun y hy=>by
     have d:=ZR (f:=fun x=>rkD (rk x)) (hin y hy).1
     rw[(hin y hy).2.1] at d
     have d':jT (.str y) (fD V fun x=>rkD (rk x))=some .non:=d
     simp only[qP,zK,List.cons_append,List.nil_append,List.replicate,List.set_cons_succ,List.set_cons_zero,yS,eOp,zA,List.getElem?_cons_succ,List.getElem?_cons_zero,R.bind_ok,zU,p01.get hf,jA,if_true,d',zB9,Bool.not_true,Bool.false_eq_true,if_false]
   rw[this,List.filter_eq_nil_iff.mpr (fun _ _=>by simp)]
   rfl
  have gl:(s1++[O.lst ([]:List D)])[s1.length]? = some (.lst []):=zd
  simp only[sIf,tOr,ZE,qe,zI,zB,zD,zA,List.getElem?_cons_succ,List.getElem?_cons_zero,R.bind_ok,hir,yo,Bool.not_true,Bool.false_eq_true,if_false,jY,ec,alloc,gl,List.isEmpty_nil,R.stm_ok,jE,hs2]
 have p02:=p01.trans p2
 obtain⟨X,hX,lX,eX⟩:=zAO (p02.get hp) (dr.mono p02.keep) hn ok hN (p2.get g1) (show Rg.length <= 1000 by omega)
 obtain⟨s3,hs3⟩:∃ s3,s3=s2++[O.lst (X.map .str)]:=⟨_,rfl⟩
 have p3:ze s2 s3:=by rw[hs3];exact ze.of _ _
 have g3:s3[s2.length]? = some (.lst (X.map .str)):=by rw[hs3];exact zd
 have b3:(zT 6 (zI yD (zB (zA 0) (zB (zA 5) zD)))) [some (.ref p),some (.ref f),v2,some (.ref an),some (.str x),some (.ref s.length),v6] s2=.nx [some (.ref p),some (.ref f),v2,some (.ref an),some (.str x),some (.ref s.length),some (.ref s2.length)] s3:=by
  simp only[zT,zI,zB,zD,zA,List.getElem?_cons_succ,List.getElem?_cons_zero,R.bind_ok,eX,alloc,R.stm_ok,List.set_cons_succ,List.set_cons_zero,hs3]
 have g13:s3[s.length]? = some (.lst (Rg.map .str)):=p3.get (p2.get g1)
 have hxX:X.contains x=true:=by
  have:x∈X:=(hX x).mpr ⟨w,hw,hxw⟩
  simpa using this
 have hRX:∀ r∈Rg,X.contains r=true:=fun r hr=>by
  obtain⟨_,_,w,h1,h2⟩:=hin r hr
  have:r∈X:=(hX r).mpr ⟨w,h1,h2⟩
  simpa using this
 obtain⟨s4,hs4⟩:∃ s4,s4=s3++[O.lst []]:=⟨_,rfl⟩
 have p4:ze s3 s4:=by rw[hs4];exact ze.of _ _
 have b4:(sIf (tOr (zc jU (zA 4) (zA 6)) (qe (jY 1 (iE (zA 5)) (zK 7) (zc jU (zA 7) (zA 6)) (zA 7)))) (jK (eC (.bl false))) jE) [some (.ref p),some (.ref f),v2,some (.ref an),some (.str x),some (.ref s.length),some (.ref s2.length)] s3=.nx [some (.ref p),some (.ref f),v2,some (.ref an),some (.str x),some (.ref s.length),some (.ref s2.length)] s4:=by
  have hi:=zAZ g3 x
  rw[hxX] at hi
  have ec:qJ 1 (iE (zA 5)) (zK 7) (zc jU (zA 7) (zA 6)) (zA 7) [some (.ref p),some (.ref f),v2,some (.ref an),some (.str x),some (.ref s.length),some (.ref s2.length)] s3=.ok [] s3:=by
   have:=JX (n:=1) (it:=iE (zA 5)) (tg:=zK 7) (c:=zc jU (zA 7) (zA 6)) (e:=zA 7) (σ:=[some (.ref p),some (.ref f),v2,some (.ref an),some (.str x),some (.ref s.length),some (.ref s2.length)]) (s:=s3) (s1:=s3) (ts:=Rg) (g:=[(s.length,.lst (Rg.map .str))]) (fun _=>false) (by
    simp only[iE,zA,List.getElem?_cons_succ,List.getElem?_cons_zero,R.bind_ok,itD,g13]) zR (by simp only[zW,List.all_cons,List.all_nil,g13,decide_true,Bool.and_self]) fun y hy=>by
     have hiy:=zAZ g3 y
     rw[hRX y hy] at hiy
     simp only[qP,zK,List.cons_append,List.nil_append,List.replicate,List.set_cons_succ,List.set_cons_zero,zc,jU,zA,List.getElem?_cons_succ,List.getElem?_cons_zero,R.bind_ok,hiy,Bool.not_true,Bool.false_eq_true,if_false]
   rw[this,List.filter_eq_nil_iff.mpr (fun _ _=>by simp)]
   rfl
  have gl:(s3++[O.lst ([]:List D)])[s3.length]? = some (.lst []):=zd
  simp only[sIf,tOr,zc,jU,zA,List.getElem?_cons_succ,List.getElem?_cons_zero,R.bind_ok,hi,Bool.not_true,Bool.false_eq_true,if_false,qe,jY,ec,alloc,yo,gl,List.isEmpty_nil,R.stm_ok,jE,hs4]
 refine⟨some (.ref s.length),some (.ref s2.length),s4,?_,p02.trans (p3.trans p4)⟩
 show ((zT 5 _) [some (.ref p),some (.ref f),v2,some (.ref an),some (.str x),v5,v6] s).then _=_
 rw[b1,RS.then_nx]
 show ((sIf _ _ _) _ _).then _=_
 rw[b2,RS.then_nx]
 show ((zT 6 _) _ _).then _=_
 rw[b3,RS.then_nx]
 exact b4
theorem zL5 {S:M.S}{p f q:Nat}{kvs:List (D×D)}{nd:List (T×List T)}{N V lo:List T}{rk:T->Option Nat} (hp:S[p]? = some (.dct kvs)) (dr:DR S kvs nd) (hn:(zZ nd).Nodup) (ok:OkN N nd) (hN:N.length <= 62) (hf:S[f]? = some (.dct (fD V fun x=>rkD (rk x)))) (hVm:∀ x,x∈V↔inV nd x) (hR:RK nd V rk) (hpf:p≠f) (hq:S[q]? = some (.lst (lo.map .str))) (hlo:∀ x∈lo,x∈V/\rk x=none) :
  QR [.ref p,.ref f,.ref q] S=.ok (.bl true) S:=by
 have e1:=zL6 hp dr hn ok hN hf hVm hpf
 obtain⟨s1,hs1⟩:∃ s1,s1=S++[O.dct ((nxs rk nd).map pd)]:=⟨_,rfl⟩
 have p1:ze S s1:=by rw[hs1];exact ze.of _ _
 have g1:s1[S.length]? = some (.dct ((nxs rk nd).map pd)):=by rw[hs1];exact zd
 have hG:∀ s',ze s1 s'->zW [(q,O.lst (lo.map .str))] s'=true:=fun s' ps=>by simp only[zW,List.all_cons,List.all_nil,(p1.trans ps).get hq,decide_true,Bool.and_self]
 obtain⟨σ',s',e5,⟨v4,v5,v6,eσ⟩,ps⟩:=yf (g:=[(q,O.lst (lo.map .str))]) (f:=jm (zK 4) zGL)
  (fun j σ s=>(∃ v4 v5 v6:Option D,σ=[some (.ref p),some (.ref f),some (.ref q),some (.ref S.length),v4,v5,v6])/\ze s1 s) (lo.map .str) 0 [some (.ref p),some (.ref f),some (.ref q),some (.ref S.length),none,none,none] s1 ⟨⟨none,none,none,rfl⟩,ze.refl _⟩ fun j d hd σ s ⟨⟨v4,v5,v6,eσ⟩,ps⟩=>by
   subst eσ
   obtain⟨x,hx,rfl⟩:=List.mem_map.mp (List.mem_of_getElem? hd)
   obtain⟨h1,h2⟩:=hlo x hx
   obtain⟨v5',v6',s',e,ps'⟩:=zNr (p1.get hp) (dr.mono p1.keep) hn ok hN (p1.get hf) hVm hR g1 ps h1 h2 (v2:=some (.ref q)) (v4:=v4) (v5:=v5) (v6:=v6)
   exact⟨_,s',e,hG s' ps',⟨_,_,_,rfl⟩,ps'⟩
 subst eσ
 obtain⟨g,hg⟩:=(p1.trans ps).app
 refine zCn (g:=g) ?_ rfl
 show ((QL [some (.ref p),some (.ref f),some (.ref q),none,none,none,none] S).out)=_
 unfold QL
 have a1:(zT 3 (zI ZP (zB (zA 0) (zB (zA 1) zD)))) [some (.ref p),some (.ref f),some (.ref q),none,none,none,none] S=.nx [some (.ref p),some (.ref f),some (.ref q),some (.ref S.length),none,none,none] s1:=by
  simp only[zT,zI,zB,zD,zA,List.getElem?_cons_succ,List.getElem?_cons_zero,R.bind_ok,e1,alloc,R.stm_ok,List.set_cons_succ,List.set_cons_zero,hs1]
 have a2:(qq (iE (zA 2)) (zK 4) zGL) [some (.ref p),some (.ref f),some (.ref q),some (.ref S.length),none,none,none] s1=.nx [some (.ref p),some (.ref f),some (.ref q),some (.ref S.length),v4,v5,v6] s':=by
  simp only[qq,iE,zA,List.getElem?_cons_succ,List.getElem?_cons_zero,R.bind_ok,itD,p1.get hq,R.stm_ok,hG s1 (ze.refl _),if_true]
  exact e5
 show ((((zT 3 _) _ _).then _).out)=_
 rw[a1,RS.then_nx]
 show ((((qq _ _ _) _ _).then _).out)=_
 rw[a2,RS.then_nx,<- hg]
 rfl
def QK:SM :=
  (zJ (Z7 1 (zT 4 (jY 1 (yY (zA 1)) (zK 7) (yS (eOp zU (zA 1) (zA 7))) (zA 7))))
  (zJ (qq (iE (eSl (zA 4) (qz (zA 3)) (qz (eOp jW (zA 3) (eC (.int 12)))))) (zK 5)
  (zJ (sIf (tOr (zc cGe (eOp zU (zA 1) (zA 5)) (zI jo (zB (zA 2) zD))) (zc jU (zA 5) (eOp zU (zA 2) (eOp zU (zA 1) (zA 5)))))
  (jK (eC (.bl false)))
  jE)
  (zJ (sIf (zc cIn (zA 5) (zI yD (zB (zA 0) (zB (qD (zB (zA 5) zD)) zD))))
  (jK (eC (.bl false)))
  jE)
  (qq (iE (eM .dict ZA (zA 0) (zB (zA 5) (zB (qD zD) zD)))) (zK 6)
  (zJ (sIf (tOr (Qz (eOp zU (zA 1) (zA 6))) (zc cGe (eOp zU (zA 1) (zA 6)) (eOp zU (zA 1) (zA 5))))
  (jK (eC (.bl false)))
  jE)
  (sIf (zc jU (zA 6) (eOp zU (zA 2) (eOp zU (zA 1) (zA 6))))
  (jK (eC (.bl false)))
  jE))))))
  (jK (eC (.bl true)))))
def zCP:F:=fn 7 QK
def QA:F:=chS zCP
theorem zF9:jO 4 zCP QA:=zCY _
theorem RK.one {nd:List (T×List T)}{V V':List T}{rk rk':T->Option Nat} (h:RK nd V rk) (h':RK nd V' rk') (hV:∀ x,x∈V->x∈V'):∀ (k:Nat) (x:T),rk x=some k->rk' x=some k:=by
 intro k
 induction k using Nat.strongRecOn with
 | ind k ih =>
  intro x e
  have all:∀ y∈nOf nd x,∃ j,j < k/\rk y=some j/\rk' y=some j:=fun y hy=>by
   obtain⟨j,h1,h2⟩:=h.low x k e y hy
   exact⟨j,h1,h2,ih j h1 y h2⟩
  cases q:rk' x with
  | none =>
   obtain⟨y,h1,h2⟩:=h'.no x (hV x (h.inn x k e)) q
   obtain⟨j,_,_,h3⟩:=all y h1
   rw[h2] at h3;cases h3
  | some k' =>
   congr 1
   have a1:k' <= k:=by
    cases k' with
    | zero=>omega
    | succ m =>
     obtain⟨y,h1,h2⟩:=h'.near x m q
     obtain⟨j,h3,_,h4⟩:=all y h1
     rw[h2] at h4;cases h4;omega
   have a2:k <= k':=by
    cases k with
    | zero=>omega
    | succ m =>
     obtain⟨y,h1,h2⟩:=h.near x m e
     obtain⟨j,h3,h4,h5⟩:=all y h1
     rw[h2] at h4;cases h4
     obtain⟨i,h6,h7⟩:=h'.low x k' q y h1
     rw[h5] at h7;cases h7;omega
   omega
abbrev zDu (S:M.S) (rk:T->Option Nat) (refs:List Nat):Prop:=∀ k x,rk x=some k->k < refs.length/\∃ (r:Nat) (ts:List T),refs[k]? = some r/\S[r]? = some (.lst (ts.map .str))/\x∈ts
abbrev zLj:SM:=(zJ (sIf (tOr (Qz (eOp zU (zA 1) (zA 6))) (zc cGe (eOp zU (zA 1) (zA 6)) (eOp zU (zA 1) (zA 5))))
  (jK (eC (.bl false)))
  jE)
  (sIf (zc jU (zA 6) (eOp zU (zA 2) (eOp zU (zA 1) (zA 6))))
  (jK (eC (.bl false)))
  jE))
abbrev zHY:SM:=(zJ (sIf (tOr (zc cGe (eOp zU (zA 1) (zA 5)) (zI jo (zB (zA 2) zD))) (zc jU (zA 5) (eOp zU (zA 2) (eOp zU (zA 1) (zA 5)))))
  (jK (eC (.bl false)))
  jE)
  (zJ (sIf (zc cIn (zA 5) (zI yD (zB (zA 0) (zB (qD (zB (zA 5) zD)) zD))))
  (jK (eC (.bl false)))
  jE)
  (qq (iE (eM .dict ZA (zA 0) (zB (zA 5) (zB (qD zD) zD)))) (zK 6) zLj)))
theorem zOr {refs:List Nat}{k r:Nat} (h:refs[k]? = some r):atI (refs.map D.ref) (k:Int)=some (.ref r):=by
 have hk:=(List.getElem?_eq_some_iff.mp h).1
 unfold atI ixN
 rw[if_pos (by omega),if_pos (by rw[List.length_map];omega)]
 simp only[Option.bind_some,Int.toNat_natCast,List.getElem?_map,h,Option.map_some]
theorem zNH {s0 s:M.S}{p f w:Nat}{kvs:List (D×D)}{nd:List (T×List T)}{N V:List T}{rk:T->Option Nat}{refs:List Nat} (hp:s0[p]? = some (.dct kvs)) (dr:DR s0 kvs nd) (hn:(zZ nd).Nodup) (ok:OkN N nd) (hN:N.length <= 62) (hf:s0[f]? = some (.dct (fD V fun x=>rkD (rk x)))) (hR:RK nd V rk) (hw:s0[w]? = some (.lst (refs.map .ref))) (hrow:zDu s0 rk refs) (ps:ze s0 s) {x:T}{k:Nat} (h:rk x=some k) {v3 v4 v5 v6:Option D} :
  ∃ v6' s',jm (zK 5) zHY (.str x) [some (.ref p),some (.ref f),some (.ref w),v3,v4,v5,v6] s=.nx [some (.ref p),some (.ref f),some (.ref w),v3,v4,some (.str x),v6'] s'/\ze s0 s':=by
 have dx:∀ y j,rk y=some j->jT (.str y) (fD V fun x=>rkD (rk x))=some (.int j):=fun y j e=>by rw[ZR (hR.inn y j e),e];rfl
 have notin:∀ (s':M.S),ze s0 s'->∀ y j,rk y=some j->∃ r,zU (.ref w) (.int j) s'=.ok (.ref r) s'/\jU (.str y) (.ref r) s'=.ok false s':=fun s' ps' y j e=>by
  obtain⟨_,r,ts,h1,h2,h3⟩:=hrow j y e
  refine⟨r,by simp only[zU,ps'.get hw,zOr h1],?_⟩
  have hi:=zAZ (ps'.get h2) y
  have hc:ts.contains y=true:=by simpa using h3
  rw[hc] at hi
  simp only[jU,hi,R.bind_ok,Bool.not_true]
 have fo:∀ (s':M.S),ze s0 s'->∀ y j,rk y=some j->zU (.ref f) (.str y) s'=.ok (.int j) s':=fun s' ps' y j e=>by
  simp only[zU,ps'.get hf,jA,if_true,dx y j e]
 obtain⟨r1,q1,q2⟩:=notin s ps x k h
 have lt:=(hrow k x h).1
 have a1:(sIf (tOr (zc cGe (eOp zU (zA 1) (zA 5)) (zI jo (zB (zA 2) zD))) (zc jU (zA 5) (eOp zU (zA 2) (eOp zU (zA 1) (zA 5))))) (jK (eC (.bl false))) jE) [some (.ref p),some (.ref f),some (.ref w),v3,v4,some (.str x),v6] s=.nx [some (.ref p),some (.ref f),some (.ref w),v3,v4,some (.str x),v6] s:=by
  have c:¬ (((refs.map D.ref).length:Nat):Int) <= (k:Int):=by rw[List.length_map];omega
  have g:cGe (.int k) (.int ((refs.map D.ref).length:Nat)) s=.ok false s:=by
   show R.ok (decide ((((refs.map D.ref).length:Nat):Int) <= (k:Int))) s=_
   rw[decide_eq_false c]
  have fl:jo [.ref w] s=.ok (.int ((refs.map D.ref).length:Nat)) s:=by simp only[jo,ps.get hw]
  simp only[sIf,tOr,zc,eOp,zA,List.getElem?_cons_succ,List.getElem?_cons_zero,R.bind_ok,fo s ps x k h,zI,zB,zD,fl,g,Bool.false_eq_true,if_false,q1,q2,R.stm_ok,jE]
 obtain⟨s2,hs2⟩:∃ s2,s2=s++[O.lst [.str x]]:=⟨_,rfl⟩
 have p2:ze s s2:=by rw[hs2];exact ze.of _ _
 have p02:=ps.trans p2
 have g2:s2[s.length]? = some (.lst ([x].map .str)):=by rw[hs2];exact zd
 obtain⟨X,hX,lX,eX⟩:=zAO (st:=[x]) (p02.get hp) (dr.mono p02.keep) hn ok hN g2 (by simp)
 have xX:X.contains x=false:=by
  have:x∉X:=fun z=>by
   obtain⟨y,h1,h2⟩:=(hX x).mp z
   rw[List.mem_singleton.mp h1] at h2
   obtain⟨j,h3,h4⟩:=hR.less h2 k h
   rw[h] at h4;cases h4;omega
  simpa using this
 obtain⟨s3,hs3⟩:∃ s3,s3=s2++[O.lst (X.map .str)]:=⟨_,rfl⟩
 have p3:ze s2 s3:=by rw[hs3];exact ze.of _ _
 have g3:s3[s2.length]? = some (.lst (X.map .str)):=by rw[hs3];exact zd
 have a2:(sIf (zc cIn (zA 5) (zI yD (zB (zA 0) (zB (qD (zB (zA 5) zD)) zD)))) (jK (eC (.bl false))) jE) [some (.ref p),some (.ref f),some (.ref w),v3,v4,some (.str x),v6] s=.nx [some (.ref p),some (.ref f),some (.ref w),v3,v4,some (.str x),v6] s3:=by
  have hi:=zAZ g3 x
  rw[xX] at hi
  have z1:1 <= SZ:=by unfold SZ;omega
  simp only[sIf,zc,cIn,zA,List.getElem?_cons_succ,List.getElem?_cons_zero,R.bind_ok,zI,zB,zD,qD,List.length_cons,List.length_nil,Nat.zero_add,z1,if_true,alloc,<- hs2,eX,<- hs3,hi,R.stm_ok,Bool.false_eq_true,if_false,jE]
 have p03:=p02.trans p3
 obtain⟨r,er,gr⟩:=zCe (p03.get hp) (dr.mono p03.keep) x
 obtain⟨s4,hs4⟩:∃ s4,s4=s3++[O.lst []]:=⟨_,rfl⟩
 rw[<- hs4] at gr
 have p4:ze s3 s4:=by rw[hs4];exact ze.of _ _
 have p04:=p03.trans p4
 have hG:zW [(r,O.lst ((nOf nd x).map .str))] s4=true:=by simp only[zW,List.all_cons,List.all_nil,gr,decide_true,Bool.and_self]
 obtain⟨σ5,e5,v6',eσ5⟩:=zHD (g:=[(r,O.lst ((nOf nd x).map .str))]) (f:=jm (zK 6) zLj) (s:=s4) hG
  (fun σ=>∃ v6,σ=[some (.ref p),some (.ref f),some (.ref w),v3,v4,some (.str x),v6]) ((nOf nd x).map .str) [some (.ref p),some (.ref f),some (.ref w),v3,v4,some (.str x),v6] ⟨v6,rfl⟩ fun d hd σ ⟨v6,eσ⟩=>by
   obtain⟨y,hy,rfl⟩:=List.mem_map.mp hd
   subst eσ
   obtain⟨j,j1,j2⟩:=hR.low x k h y hy
   obtain⟨r2,u1,u2⟩:=notin s4 p04 y j j2
   refine⟨[some (.ref p),some (.ref f),some (.ref w),v3,v4,some (.str x),some (.str y)],?_,_,rfl⟩
   have c:cGe (.int j) (.int k) s4=.ok false s4:=by
    show R.ok (decide ((k:Int) <= (j:Int))) s4=_
    rw[decide_eq_false (by omega)]
   simp only[jm,zK,List.set_cons_succ,List.set_cons_zero,zLj,zJ,sIf,tOr,Qz,eOp,zA,List.getElem?_cons_succ,List.getElem?_cons_zero,R.bind_ok,fo s4 p04 y j j2,zB9,Bool.false_eq_true,if_false,zc,fo s4 p04 x k h,c,R.stm_ok,jE,RS.then_nx,u1,u2]
 subst eσ5
 refine⟨v6',s4,?_,p04⟩
 show ((sIf _ _ _) [some (.ref p),some (.ref f),some (.ref w),v3,v4,some (.str x),v6] s).then _=_
 rw[a1,RS.then_nx]
 show ((sIf _ _ _) _ _).then _=_
 rw[a2,RS.then_nx]
 have hp4:=p04.get hp
 simp only[qq,iE,eM,zA,List.getElem?_cons_succ,List.getElem?_cons_zero,R.bind_ok,ZX,p03.get hp,if_true,zB,zD,qD,List.length_nil,Nat.zero_le,alloc,<- hs4,ZA,hp4,jA,er,itD,gr,R.stm_ok,hG]
 exact e5
theorem zLt {S:M.S}{p f w:Nat}{kvs:List (D×D)}{nd:List (T×List T)}{N V:List T}{rk:T->Option Nat}{refs:List Nat}{far:Int} (hp:S[p]? = some (.dct kvs)) (dr:DR S kvs nd) (hn:(zZ nd).Nodup) (ok:OkN N nd) (hN:N.length <= 62) (hf:S[f]? = some (.dct (fD V fun x=>rkD (rk x)))) (hV:V.length <= 62) (hR:RK nd V rk) (hw:S[w]? = some (.lst (refs.map .ref))) (hrow:zDu S rk refs) :
  QA [.ref p,.ref f,.ref w,.int far] S=.ok (.bl true) S:=by
 obtain⟨Sf,hSf⟩:∃ Sf,Sf=S.set f (.fdc (fD V fun x=>rkD (rk x))):=⟨_,rfl⟩
 have ec:=some_of hf (σ:=[some (.ref p),some (.ref f),some (.ref w),some (.int far),none,none,none]) (i:=1) (j:=7) rfl rfl hV true (c:=yS (eOp zU (zA 1) (zA 7))) fun σ s x h1 h2 h3 hx=>by
  have d:=ZR (f:=fun x=>rkD (rk x)) hx
  simp only[yS,eOp,zA,h1,h2,R.bind_ok,zU,h3,jA,if_true,d]
  cases rk x<;>rfl
 rw[<- hSf] at ec
 have hso:∀ x,x∈(V.filter fun x=>(rk x).isSome == true)->∃ k,rk x=some k:=fun x hx=>by
  have:=(List.mem_filter.mp hx).2
  cases q:rk x with
  | none=>rw[q] at this;cases this
  | some k=>exact⟨k,rfl⟩
 generalize (V.filter fun x=>(rk x).isSome == true)=so at *
 obtain⟨s1,hs1⟩:∃ s1,s1=S++[O.lst (so.map .str)]:=⟨_,rfl⟩
 have p1:ze S s1:=by rw[hs1];exact ze.of _ _
 have g1:s1[S.length]? = some (.lst (so.map .str)):=by rw[hs1];exact zd
 have st1:(Z7 1 (zT 4 (jY 1 (yY (zA 1)) (zK 7) (yS (eOp zU (zA 1) (zA 7))) (zA 7)))) [some (.ref p),some (.ref f),some (.ref w),some (.int far),none,none,none] S=.nx [some (.ref p),some (.ref f),some (.ref w),some (.int far),some (.ref S.length),none,none] s1:=by
  have ht:=y7 (g:=[O.lst (so.map .str)]) hf [some (.ref p),some (.ref f),some (.ref w),some (.int far),some (.ref S.length),none,none]
  rw[<- hSf] at ht
  have lSf:Sf.length=S.length:=by rw[hSf,List.length_set]
  simp only[Z7,List.getElem?_cons_succ,List.getElem?_cons_zero,hf,<- hSf,zT,jY,ec,R.bind_ok,alloc,lSf,R.stm_ok,List.set_cons_succ,List.set_cons_zero,ht,hs1]
 have hcut:cut (so.map D.str) (some far) (some (far+12))=(cut so (some far) (some (far+12))).map D.str:=zE2 _ _ _ _
 have hcm:∀ x∈cut so (some far) (some (far+12)),x∈so:=fun x hx=>zBe hx
 generalize cut so (some far) (some (far+12))=ct at *
 obtain⟨s2,hs2⟩:∃ s2,s2=s1++[O.lst (ct.map .str)]:=⟨_,rfl⟩
 have p2:ze s1 s2:=by rw[hs2];exact ze.of _ _
 have p02:=p1.trans p2
 have g2:s2[s1.length]? = some (.lst (ct.map .str)):=by rw[hs2];exact zd
 have hG:∀ s',ze s2 s'->zW [(s1.length,O.lst (ct.map .str))] s'=true:=fun s' ps=>by simp only[zW,List.all_cons,List.all_nil,ps.get g2,decide_true,Bool.and_self]
 have hrow2:zDu s2 rk refs:=fun k x e=>by
  obtain⟨h1,r,ts,h2,h3,h4⟩:=hrow k x e
  exact⟨h1,r,ts,h2,p02.get h3,h4⟩
 obtain⟨σ',s',e5,⟨v5,v6,eσ⟩,ps⟩:=yf (g:=[(s1.length,O.lst (ct.map .str))]) (f:=jm (zK 5) zHY)
  (fun j σ s=>(∃ v5 v6:Option D,σ=[some (.ref p),some (.ref f),some (.ref w),some (.int far),some (.ref S.length),v5,v6])/\ze s2 s) (ct.map .str) 0 [some (.ref p),some (.ref f),some (.ref w),some (.int far),some (.ref S.length),none,none] s2 ⟨⟨none,none,rfl⟩,ze.refl _⟩ fun j d hd σ s ⟨⟨v5,v6,eσ⟩,ps⟩=>by
   subst eσ
   obtain⟨x,hx,rfl⟩:=List.mem_map.mp (List.mem_of_getElem? hd)
   obtain⟨k,hk⟩:=hso x (hcm x hx)
   obtain⟨v6',s',e,ps'⟩:=zNH (p02.get hp) (dr.mono p02.keep) hn ok hN (p02.get hf) hR (p02.get hw) hrow2 ps hk (v3:=some (.int far)) (v4:=some (.ref S.length)) (v5:=v5) (v6:=v6)
   exact⟨_,s',e,hG s' ps',⟨_,_,rfl⟩,ps'⟩
 subst eσ
 obtain⟨g,hg⟩:=(p02.trans ps).app
 refine zCn (g:=g) ?_ rfl
 show ((QK [some (.ref p),some (.ref f),some (.ref w),some (.int far),none,none,none] S).out)=_
 unfold QK
 have st2:(qq (iE (eSl (zA 4) (qz (zA 3)) (qz (eOp jW (zA 3) (eC (.int 12)))))) (zK 5) zHY) [some (.ref p),some (.ref f),some (.ref w),some (.int far),some (.ref S.length),none,none] s1=.nx [some (.ref p),some (.ref f),some (.ref w),some (.int far),some (.ref S.length),v5,v6] s':=by
  simp only[qq,iE,eSl,zA,qz,eOp,eC,jW,List.getElem?_cons_succ,List.getElem?_cons_zero,R.bind_ok,slD,Qe g1,hcut,alloc,<- hs2,itD,g2,R.stm_ok,hG s2 (ze.refl _),if_true]
  exact e5
 show ((((Z7 1 _) _ _).then _).out)=_
 rw[st1,RS.then_nx]
 show ((((qq _ _ _) _ _).then _).out)=_
 rw[st2,RS.then_nx,<- hg]
 rfl
def QH:SM :=
  (zT 1 (zI Je (zB (zA 0) zD)))
def QB:SM :=
  (zT 2 (qD zD))
def QD:SM :=
  (qA (zA 1) (zK 3)
  (zJ (zT 4 (eOp zU (zA 1) (zA 3)))
  (sIf (yS (zA 4))
  (zJ (yR (eM .list zAa (zA 2) (zB (jY 1 (qV (eOp zAQ (eOp jW (zA 4) (eC (.int 1))) (zI jo (zB (zA 2) zD)))) (zK 5) qc (qD zD)) zD)))
  (yR (eM .list q8 (eOp zU (zA 2) (zA 4)) (zB (zA 3) zD))))
  jE)))
def zAB:SM :=
  (jK (zA 2))
def zEo:SM:=(zJ QH (zJ QB (zJ QD zAB)))
def zOJ:F:=fn 5 zEo
abbrev zC6:F:=zOJ
def wv (rk:T->Option Nat) (V:List T) (i:Nat):List T:=V.filter fun x=>decide (rk x=some i)
theorem zEf (rk:T->Option Nat) (V:List T) (x:T) (i:Nat):wv rk (V++[x]) i=if rk x=some i then wv rk V i++[x] else wv rk V i:=by
 unfold wv
 rw[List.filter_append]
 by_cases h:rk x=some i
 ·rw[if_pos h];simp[h]
 ·rw[if_neg h];simp[h]
theorem RK.down {nd:List (T×List T)}{V:List T}{rk:T->Option Nat} (h:RK nd V rk):∀ (k:Nat) (x:T),rk x=some k->∀ i,i <= k->∃ y,rk y=some i
 | 0,x,e,i,hi=>⟨x,by rw[e];congr 1;omega⟩
 | k+1,x,e,i,hi=>by
  by_cases q:i=k+1
  ·exact⟨x,by rw[e,q]⟩
  ·obtain⟨y,_,hy⟩:=h.near x k e
   exact h.down k y hy i (by omega)
theorem zGu {f:D->M.S->R (Option D)} (hf:∀ d s,f d s=.ok (some (.ref s.length)) (s++[.lst []])):∀ (xs:List D) (s:M.S),ye [] f xs s=.ok ((List.range' s.length xs.length).map .ref) (s++List.replicate xs.length (.lst []))
 | [],s=>by simp[ye]
 | x::xs,s=>by
  show (f x s).bind _=_
  rw[hf,R.bind_ok,if_pos (show zW [] (s++[O.lst []])=true from rfl),zGu hf xs,R.bind_ok,List.length_append]
  simp only[List.length_cons,List.length_nil,Nat.zero_add,List.append_assoc,List.cons_append,List.nil_append]
  rfl
structure WvI (Sx:M.S) (rk:T->Option Nat) (V:List T) (af:Nat) (refs:List Nat) (s:M.S):Prop where
 pre:ze Sx s
 af0:af=Sx.length
 fnd:s[af]? = some (.lst (refs.map .ref))
 nd:refs.Nodup
 ws:∀ (i r:Nat),refs[i]? = some r->af < r/\s[r]? = some (.lst ((wv rk V i).map .str))
 top:∀ x∈V,∀ k,rk x=some k->k < refs.length
 last:refs=[]\/∃ x∈V,rk x=some (refs.length - 1)
abbrev zKk:SM:=(zJ (zT 4 (eOp zU (zA 1) (zA 3)))
  (sIf (yS (zA 4))
  (zJ (yR (eM .list zAa (zA 2) (zB (jY 1 (qV (eOp zAQ (eOp jW (zA 4) (eC (.int 1))) (zI jo (zB (zA 2) zD)))) (zK 5) qc (qD zD)) zD)))
  (yR (eM .list q8 (eOp zU (zA 2) (zA 4)) (zB (zA 3) zD))))
  jE))
theorem zI7 (n:Int):(jq 0 n).length=n.toNat:=by unfold jq;simp
theorem zN6 {Sx:M.S}{rk:T->Option Nat}{W V:List T}{af a0:Nat}{refs:List Nat}{s:M.S} (h:WvI Sx rk V af refs s) (h0:Sx[a0]? = some (.fdc (fD W fun x=>rkD (rk x)))) {x:T} (hx:x∈W) (hl:refs.length <= 1000) (hV:V.length <= 1000) (hk:∀ k,rk x=some k->k < 1000) {v0 v3 v4:Option D} :
  ∃ v4' refs' s',jm (zK 3) zKk (.str x) [v0,some (.ref a0),some (.ref af),v3,v4] s=.nx [v0,some (.ref a0),some (.ref af),some (.str x),v4'] s'/\WvI Sx rk (V++[x]) af refs' s'/\refs'.length <= 1000:=by
 have a0l:=(List.getElem?_eq_some_iff.mp h0).1
 have g0:s[a0]? = some (.fdc (fD W fun x=>rkD (rk x))):=by rw[h.pre.eq a0 a0l];exact h0
 have dg:=ZR (f:=fun x=>rkD (rk x)) hx
 have e1:(zT 4 (eOp zU (zA 1) (zA 3))) [v0,some (.ref a0),some (.ref af),some (.str x),v4] s=.nx [v0,some (.ref a0),some (.ref af),some (.str x),some (rkD (rk x))] s:=by
  simp only[zT,eOp,zA,List.getElem?_cons_succ,List.getElem?_cons_zero,R.bind_ok,zU,g0,jA,if_true,dg,R.stm_ok,List.set_cons_succ,List.set_cons_zero]
 cases q:rk x with
 | none =>
  refine⟨some .non,refs,s,?_,⟨h.pre,h.af0,h.fnd,h.nd,fun i r hi=>?_,fun y hy k e=>?_,?_⟩,hl⟩
  ·show ((zT 4 (eOp zU (zA 1) (zA 3))) [v0,some (.ref a0),some (.ref af),some (.str x),v4] s).then _=_
   rw[e1,RS.then_nx,q]
   simp[rkD]
  ·rw[zEf,if_neg (by rw[q];simp)];exact h.ws i r hi
  ·rcases List.mem_append.mp hy with hy | hy
   ·exact h.top y hy k e
   ·rw[List.mem_singleton.mp hy,q] at e;cases e
  ·rcases h.last with h1 | ⟨y,h1,h2⟩
   ·exact .inl h1
   ·exact .inr ⟨y,List.mem_append_left _ h1,h2⟩
 | some k =>
  have hk1:=hk k q
  have afl:=(List.getElem?_eq_some_iff.mp h.fnd).1
  obtain⟨n,hn⟩:∃ n,n=k+1 - refs.length:=⟨_,rfl⟩
  obtain⟨new,hnew⟩:∃ new,new=List.range' s.length n:=⟨_,rfl⟩
  have newl:new.length=n:=by rw[hnew];simp
  obtain⟨s1,hs1⟩:∃ s1,s1=s++List.replicate n (O.lst []):=⟨_,rfl⟩
  obtain⟨s2,hs2⟩:∃ s2,s2=(s1++[O.lst (new.map .ref)]).set af (.lst ((refs++new).map .ref)):=⟨_,rfl⟩
  have l1:s1.length=s.length+n:=by rw[hs1];simp
  have f1:s1[af]? = some (.lst (refs.map .ref)):=by rw[hs1];exact zm h.fnd _
  have f2:(s1++[O.lst (new.map .ref)])[af]? = some (.lst (refs.map .ref)):=zm f1 _
  have f3:(s1++[O.lst (new.map .ref)])[s1.length]? = some (.lst (new.map .ref)):=zd
  have hr2:s2[af]? = some (.lst ((refs++new).map .ref)):=by rw[hs2];exact yL f2
  have ec:qJ 1 (qV (eOp zAQ (eOp jW (zA 4) (eC (.int 1))) (zI jo (zB (zA 2) zD)))) (zK 5) qc (qD zD) [v0,some (.ref a0),some (.ref af),some (.str x),some (.int k)] s=.ok (new.map .ref) s1:=by
   have hq:((k:Int)+1 - (refs.length:Int)).natAbs < 4611686018427387904:=by omega
   have hl2:(jq 0 ((k:Int)+1 - (refs.length:Int))).length=n:=by rw[zI7];omega
   have hz:(jq 0 ((k:Int)+1 - (refs.length:Int))).length <= SZ:=by rw[hl2];unfold SZ;omega
   have hc:=zGu (f:=qP 1 (zK 5) qc (qD zD) [v0,some (.ref a0),some (.ref af),some (.str x),some (.int k)]) (fun d s=>by
    simp) (jq 0 ((k:Int)+1 - (refs.length:Int))) s
   rw[hl2] at hc
   unfold qJ
   have hit:qV (eOp zAQ (eOp jW (zA 4) (eC (.int 1))) (zI jo (zB (zA 2) zD))) [v0,some (.ref a0),some (.ref af),some (.str x),some (.int k)] s=.ok (jq 0 ((k:Int)+1 - (refs.length:Int)),[]) s:=by
    simp only[qV,eOp,zA,eC,zI,zB,zD,List.getElem?_cons_succ,List.getElem?_cons_zero,R.bind_ok,jW,jo,h.fnd,List.length_map,zAQ,hq,if_true]
   rw[hit,R.bind_ok,if_pos ⟨hz,rfl⟩,hs1,hnew]
   exact hc
  have zE:(refs.map D.ref).length+(new.map D.ref).length <= SZ/\af≠s1.length:=⟨by rw[List.length_map,List.length_map,newl];unfold SZ;omega,by omega⟩
  have e2:(yR (eM .list zAa (zA 2) (zB (jY 1 (qV (eOp zAQ (eOp jW (zA 4) (eC (.int 1))) (zI jo (zB (zA 2) zD)))) (zK 5) qc (qD zD)) zD))) [v0,some (.ref a0),some (.ref af),some (.str x),some (.int k)] s=.nx [v0,some (.ref a0),some (.ref af),some (.str x),some (.int k)] s2:=by
   simp only[yR,eM,zA,List.getElem?_cons_succ,List.getElem?_cons_zero,R.bind_ok,ZX,h.fnd,if_true,zB,zD,jY,ec,alloc,zAa,f2,f3,zE,and_self,ne_eq,not_false_eq_true,R.stm_ok,hs2,List.map_append]
  have lt:k < (refs++new).length:=by rw[List.length_append,newl];omega
  obtain⟨r,hr⟩:∃ r,(refs++new)[k]? = some r:=⟨_,List.getElem?_eq_getElem lt⟩
  have old:∀ (i r:Nat),(refs++new)[i]? = some r->af < r/\s2[r]? = some (.lst ((wv rk V i).map .str))/\r < s1.length:=fun i r hi=>by
   by_cases c:i < refs.length
   ·rw[List.getElem?_append_left c] at hi
    obtain⟨h1,h2⟩:=h.ws i r hi
    have hrl:=(List.getElem?_eq_some_iff.mp h2).1
    refine⟨h1,?_,by omega⟩
    rw[hs2,zg (by omega),List.getElem?_append_left (by omega),hs1]
    exact zm h2 _
   ·rw[List.getElem?_append_right (by omega)] at hi
    have hi2:=(List.getElem?_eq_some_iff.mp hi).1
    have hi3:=(List.getElem?_eq_some_iff.mp hi).2
    have er:r=s.length+(i - refs.length):=by rw[<- hi3];simp[hnew]
    have e0:wv rk V i=[]:=by
     unfold wv
     rw[List.filter_eq_nil_iff]
     intro y hy e
     exact absurd (h.top y hy i (of_decide_eq_true e)) (by omega)
    refine⟨by omega,?_,by omega⟩
    rw[hs2,zg (by omega),List.getElem?_append_left (by omega),hs1,List.getElem?_append_right (by omega),e0,List.getElem?_replicate,if_pos (by omega)]
    rfl
  have nd':(refs++new).Nodup:=by
   rw[List.nodup_append]
   refine⟨h.nd,by rw[hnew];exact List.nodup_range',fun a ha b hb e=>?_⟩
   obtain⟨i,hi,e1⟩:=List.mem_iff_getElem.mp ha
   have h2:=(h.ws i a (by rw[List.getElem?_eq_getElem hi,e1])).2
   have:=(List.getElem?_eq_some_iff.mp h2).1
   rw[hnew,List.mem_range'_1] at hb
   omega
  obtain⟨r1,r2,r3⟩:=old k r hr
  obtain⟨s3,hs3⟩:∃ s3,s3=s2.set r (.lst ((wv rk V k).map .str++[.str x])):=⟨_,rfl⟩
  have zw:((wv rk V k).map D.str).length < SZ:=by
   rw[List.length_map]
   have:(wv rk V k).length <= V.length:=List.length_filter_le _ _
   unfold SZ;omega
  have ix:atI ((refs++new).map D.ref) (k:Int)=some (.ref r):=by
   unfold atI ixN
   rw[if_pos (by omega),if_pos (by rw[List.length_map];omega)]
   simp only[Option.bind_some,Int.toNat_natCast,List.getElem?_map,hr,Option.map_some]
  have e3:(yR (eM .list q8 (eOp zU (zA 2) (zA 4)) (zB (zA 3) zD))) [v0,some (.ref a0),some (.ref af),some (.str x),some (.int k)] s2=.nx [v0,some (.ref a0),some (.ref af),some (.str x),some (.int k)] s3:=by
   simp only[yR,eM,eOp,zA,List.getElem?_cons_succ,List.getElem?_cons_zero,R.bind_ok,zU,hr2,ix,ZX,r2,if_true,zB,zD,q8,zw,R.stm_ok,hs3]
  have l2:s2.length=s1.length+1:=by rw[hs2,List.length_set];simp
  have l3:s3.length=s1.length+1:=by rw[hs3,List.length_set,l2]
  refine⟨some (.int k),refs++new,s3,?_,⟨⟨?_,fun a ha=>?_⟩,h.af0,?_,nd',fun i r' hi=>?_,fun y hy j e=>?_,?_⟩,?_⟩
  ·show ((zT 4 (eOp zU (zA 1) (zA 3))) [v0,some (.ref a0),some (.ref af),some (.str x),v4] s).then _=_
   rw[e1,RS.then_nx,q]
   have c:(yS (zA 4)) [v0,some (.ref a0),some (.ref af),some (.str x),some (rkD (some k))] s=.ok true s:=rfl
   show ((yS (zA 4)) [v0,some (.ref a0),some (.ref af),some (.str x),some (rkD (some k))] s).stm _ _=_
   rw[c,R.stm_ok,if_pos rfl]
   show ((yR _) [v0,some (.ref a0),some (.ref af),some (.str x),some (.int k)] s).then _=_
   rw[e2,RS.then_nx]
   exact e3
  ·have:=h.pre.le;omega
  ·have hal:=h.af0
   have hle:=h.pre.le
   rw[hs3,zg (by omega),hs2,zg (by omega),List.getElem?_append_left (by omega),hs1,List.getElem?_append_left (by omega)]
   exact h.pre.eq a ha
  ·rw[hs3,zg (by omega)];exact hr2
  ·obtain⟨o1,o2,o3⟩:=old i r' hi
   refine⟨o1,?_⟩
   by_cases c:i=k
   ·subst c
    rw[hr] at hi;cases hi
    rw[zEf,if_pos q,hs3,List.map_append]
    exact yL r2
   ·have ne:r'≠r:=fun e=>by
     subst e
     have a1:=(List.getElem?_eq_some_iff.mp hi)
     have a2:=(List.getElem?_eq_some_iff.mp hr)
     exact c ((List.getElem_inj nd').mp (a1.2.trans a2.2.symm))
    rw[zEf,if_neg (by rw[q];simp;omega),hs3,zg ne]
    exact o2
  ·rw[List.length_append,newl]
   rcases List.mem_append.mp hy with hy | hy
   ·have:=h.top y hy j e;omega
   ·rw[List.mem_singleton.mp hy,q] at e;cases e;omega
  ·right
   rw[List.length_append,newl]
   by_cases c:k+1 <= refs.length
   ·rcases h.last with h1 | ⟨y,h1,h2⟩
    ·rw[h1] at c;simp at c
    ·exact⟨y,List.mem_append_left _ h1,by rw[h2];congr 1;omega⟩
   ·exact⟨x,List.mem_append_right _ (by simp),by rw[q];congr 1;omega⟩
  ·rw[List.length_append,newl];omega
theorem zLb {S:M.S}{p:Nat}{kvs:List (D×D)}{nd:List (T×List T)}{N:List T} (hp:S[p]? = some (.dct kvs)) (dr:DR S kvs nd) (hn:(zZ nd).Nodup) (ok:OkN N nd) (hN:N.length <= 62) :
  ∃ (V:List T) (rk:T->Option Nat) (refs:List Nat) (g:M.S),V.Pairwise NLt/\V.Nodup/\(∀ x,x∈V↔inV nd x)/\V.length <= N.length/\RK nd V rk/\zC6 [.ref p] S=.ok (.ref (S.length+1)) (S++g)/\(S++g)[S.length+1]? = some (.lst (refs.map .ref))/\refs.Nodup /\
   (∀ (i r:Nat),refs[i]? = some r->S.length+1 < r/\(S++g)[r]? = some (.lst ((wv rk V i).map .str)))/\(∀ x k,rk x=some k->k < refs.length)/\(∀ i,i < refs.length->wv rk V i≠[])/\refs.length <= 1000:=by
 obtain⟨V,rk,vs,vn,vm,vl,hR,e1⟩:=zDX hp dr hn ok hN
 have hplt:p < S.length:=(List.getElem?_eq_some_iff.mp hp).1
 have hsm:∀ (k:Nat) (x:T),rk x=some k->k < 1000:=fun k x e=>by
  have h:∀ j,j <= k+1->∃ ys:List T,ys.Nodup/\ys.length=j/\∀ y∈ys,y∈V/\∃ i,i < j/\rk y=some i:=by
   intro j
   induction j with
   | zero=>exact fun _=>⟨[],List.nodup_nil,rfl,fun y hy=>(by cases hy)⟩
   | succ j ih =>
    intro hj
    obtain⟨ys,h1,h2,h3⟩:=ih (by omega)
    obtain⟨y,hy⟩:=hR.down k x e j (by omega)
    refine⟨y::ys,List.nodup_cons.mpr ⟨fun z=>?_,h1⟩,by simp[h2],fun w hw=>?_⟩
    ·obtain⟨_,i,hi,e2⟩:=h3 y z
     rw[hy] at e2;cases e2;omega
    ·rcases List.mem_cons.mp hw with rfl | hw
     ·exact⟨hR.inn _ _ hy,j,by omega,hy⟩
     ·obtain⟨a,i,hi,e2⟩:=h3 w hw
      exact⟨a,i,by omega,e2⟩
  obtain⟨ys,h1,h2,h3⟩:=h (k+1) (Nat.le_refl _)
  have:=qY h1 fun y hy=>(h3 y hy).1
  omega
 obtain⟨S1,hS1⟩:∃ S1,S1=S++[O.dct (fD V fun x=>rkD (rk x))]:=⟨_,rfl⟩
 obtain⟨Sx,hSx⟩:∃ Sx,Sx=S++[O.fdc (fD V fun x=>rkD (rk x))]:=⟨_,rfl⟩
 have lx:Sx.length=S.length+1:=by rw[hSx];simp
 have x0:Sx[S.length]? = some (.fdc (fD V fun x=>rkD (rk x))):=by rw[hSx];exact zd
 have I0:WvI Sx rk [] (S.length+1) [] (Sx++[.lst []]):=⟨ze.of _ _,lx.symm,by rw[<- lx];exact zd,List.nodup_nil,(fun i r h=>by simp at h),(fun x h=>by cases h),.inl rfl⟩
 obtain⟨σ',s',e3,⟨v3,v4,eσ⟩,refs,W,hl⟩:=yf (g:=[]) (f:=jm (zK 3) zKk)
  (fun j σ s=>(∃ v3 v4:Option D,σ=[some (.ref p),some (.ref S.length),some (.ref (S.length+1)),v3,v4])/\∃ refs,WvI Sx rk (V.take j) (S.length+1) refs s/\refs.length <= 1000)
  (V.map D.str) 0 [some (.ref p),some (.ref S.length),some (.ref (S.length+1)),none,none] (Sx++[O.lst []]) ⟨⟨none,none,rfl⟩,[],(by rw[List.take_zero];exact I0),by simp⟩ fun j x hx σ s ⟨⟨v3,v4,eσ⟩,refs,W,hl⟩=>by
   rw[Nat.zero_add] at W ⊢
   subst eσ
   rw[List.getElem?_map] at hx
   cases q:V[j]? with
   | none=>rw[q] at hx;cases hx
   | some y =>
    rw[q] at hx
    have hx':x=.str y:=by simpa using hx.symm
    subst hx'
    obtain⟨v4',refs',s',e,W',hl'⟩:=zN6 (v0:=some (.ref p)) (v3:=v3) (v4:=v4) W x0 (List.mem_of_getElem? q) hl (by rw[List.length_take];omega) fun k e=>hsm k y e
    refine⟨_,s',e,rfl,⟨_,_,rfl⟩,refs',?_,hl'⟩
    rw[List.take_succ,q];exact W'
 rw[Nat.zero_add,List.length_map,List.take_length] at W
 subst eσ
 obtain⟨g,hg⟩:=W.pre.app
 have eg:s'=S++(O.fdc (fD V fun x=>rkD (rk x))::g):=by rw[hg,hSx];simp
 have hset:s'.set S.length (.dct (fD V fun x=>rkD (rk x)))=S++(O.dct (fD V fun x=>rkD (rk x))::g):=by rw[eg];exact Jg
 have hat:s'[S.length]? = some (.fdc (fD V fun x=>rkD (rk x))):=by rw[eg];exact zd
 have keep:∀ q,q≠S.length->(S++(O.dct (fD V fun x=>rkD (rk x))::g))[q]? = s'[q]? := fun q hq=>by rw[<- hset,zg hq]
 refine⟨V,rk,refs,O.dct (fD V fun x=>rkD (rk x))::g,vs,vn,vm,vl,hR,?_,?_,W.nd,fun i r hi=>?_,fun x k e=>W.top x (hR.inn x k e) k e,fun i hi=>?_,hl⟩
 ·have s1:QH [some (.ref p),none,none,none,none] S=.nx [some (.ref p),some (.ref S.length),none,none,none] S1:=by
   simp only[QH,zT,zI,zB,zD,zA,List.getElem?_cons_zero,R.bind_ok,e1,alloc,R.stm_ok,List.set_cons_succ,List.set_cons_zero,hS1]
  have s2:QB [some (.ref p),some (.ref S.length),none,none,none] S1=.nx [some (.ref p),some (.ref S.length),some (.ref (S.length+1)),none,none] (S1++[.lst []]):=by
   simp[QB,hS1]
  have a1:(S1++[O.lst []])[S.length]? = some (.dct (fD V fun x=>rkD (rk x))):=by rw[hS1,List.append_assoc];exact zd
  have a2:(S1++[O.lst []]).set S.length (.fdc (fD V fun x=>rkD (rk x)))=Sx++[.lst []]:=by rw[hS1,hSx,List.append_assoc,List.append_assoc];exact Jg
  have s3:QD [some (.ref p),some (.ref S.length),some (.ref (S.length+1)),none,none] (S1++[.lst []])=.nx [some (.ref p),some (.ref S.length),some (.ref (S.length+1)),v3,v4] (S++(O.dct (fD V fun x=>rkD (rk x))::g)):=by
   simp only[QD,qA,zA,List.getElem?_cons_succ,List.getElem?_cons_zero,R.stm_ok,a1,a2,zCv]
   rw[e3]
   simp only[thaw,hat,if_true,hset]
  show (zJ QH (zJ QB (zJ QD zAB)) [some (.ref p),none,none,none,none] S).out=_
  show ((QH _ _).then _).out=_
  rw[s1,RS.then_nx]
  show ((QB _ _).then _).out=_
  rw[s2,RS.then_nx]
  show ((QD _ _).then _).out=_
  rw[s3]
  simp[zAB]
 ·rw[keep _ (by omega)];exact W.fnd
 ·obtain⟨h1,h2⟩:=W.ws i r hi
  exact⟨h1,by rw[keep _ (by omega)];exact h2⟩
 ·rcases W.last with h1 | ⟨x,h1,h2⟩
  ·rw[h1] at hi;simp at hi
  ·obtain⟨y,hy⟩:=hR.down _ x h2 i (by omega)
   intro z
   have:y∈wv rk V i:=List.mem_filter.mpr ⟨hR.inn y i hy,decide_eq_true hy⟩
   rw[z] at this;cases this
def Jy:SM :=
  (zT 1 (zI qx (zB (zA 0) (zB (eC (.int 0)) zD))))
def Jr:SM :=
  (zT 2 (zI JG (zB (zA 0) (zB (eC (.int 5)) (zB (zA 1) zD)))))
def Jf:SM :=
  (zT 3 (zI Je (zB (zA 2) zD)))
def Ju:SM :=
  (Z7 3 (zT 4 (jY 1 (yY (zA 3)) (zK 6) (Qz (eOp zU (zA 3) (zA 6))) (zA 6))))
def Jt:SM :=
  (zT 5 (eOp jg (zI jk (zB (zA 0) (zB (eC (.int 18)) zD))) (eC (.int 7))))
def Jq:SM :=
  (sIf (ZE (qe (zI QR (zB (zA 2) (zB (zA 3) (zB (eSl (zA 4) (qz (zA 5)) (qz (eOp jW (zA 5) (eC (.int 9))))) zD))))))
  (jK (eC (.bl false)))
  jE)
def Jd:SM :=
  (sIf (ZE (qe (zI QA (zB (zA 2) (zB (zA 3) (zB (zI zC6 (zB (zA 2) zD)) (zB (zA 5) zD)))))))
  (jK (eC (.bl false)))
  jE)
def zAY:SM :=
  (jK (zI qk (zB (zA 2) (zB (zA 3) (zB (zI jk (zB (zA 0) (zB (eC (.int 18)) zD))) zD)))))
def zJk:SM:=(zJ Jy (zJ Jr (zJ Jf (zJ Ju (zJ Jt (zJ Jq (zJ Jd zAY)))))))
def zDy:F:=fn 6 zJk
theorem zL8 (ns:List Int) (hl:ns.length <= 63):∃ s,zDy [.ro (ns.map .int)] []=.ok (.bl true) s:=by
 have hm:=zIk (qm ns 0)
 have hlN:=zA3 ns 0 (zA2 (qm ns 0)).toNat
 have hnm:∀ s,qx [.ro (ns.map .int),.int 0] s=.ok (.ref s.length) (s++[O.lst ((ql ns 0 (zA2 (qm ns 0)).toNat).map .str)]):=fun s=>by
  simp[qx,zFn]
 generalize ql ns 0 (zA2 (qm ns 0)).toNat=N at *
 have pN:0 < N.length:=by omega
 have hN:N.length <= 60:=by omega
 have c18:∀ s,jk [.ro (ns.map .int),.int 18] s=.ok (.int (qm ns 18)) s:=fun s=>Q1 ns 18 s (by decide)
 generalize qm ns 18=c at *
 obtain⟨kvs,nd,t,e2,dr,hn,_,ok⟩:=zLN (ns:=ns) pN (by omega) (B:=[O.lst (N.map .str)]) (p:=0) rfl
 obtain⟨S1,hS1⟩:∃ S1,S1=[O.lst (N.map .str)]++O.dct kvs::t:=⟨_,rfl⟩
 rw[<- hS1] at e2 dr
 have g1:S1[1]? = some (.dct kvs):=by rw[hS1];rfl
 have lS1:2 <= S1.length:=by rw[hS1];simp
 have ok10:OkN N nd:=ok.mono (by omega)
 have hN62:N.length <= 62:=by omega
 obtain⟨V,rk,_,_,vm,vl,hR,e3⟩:=zDX g1 dr hn ok10 hN62
 obtain⟨S2,hS2⟩:∃ S2,S2=S1++[O.dct (fD V fun x=>rkD (rk x))]:=⟨_,rfl⟩
 have p2:ze S1 S2:=by rw[hS2];exact ze.of _ _
 have g2:S2[S1.length]? = some (.dct (fD V fun x=>rkD (rk x))):=by rw[hS2];exact zd
 obtain⟨Sf,hSf⟩:∃ Sf,Sf=S2.set S1.length (.fdc (fD V fun x=>rkD (rk x))):=⟨_,rfl⟩
 have ec:=some_of g2 (σ:=[some (.ro (ns.map .int)),some (.ref 0),some (.ref 1),some (.ref S1.length),none,none]) (i:=3) (j:=6) rfl rfl (by omega) false (c:=Qz (eOp zU (zA 3) (zA 6))) fun σ s x h1 h2 h3 hx=>by
  have d:=ZR (f:=fun x=>rkD (rk x)) hx
  simp only[Qz,eOp,zA,h1,h2,R.bind_ok,zU,h3,jA,if_true,d]
  cases rk x<;>rfl
 rw[<- hSf] at ec
 have hlo:∀ x,x∈(V.filter fun x=>(rk x).isSome == false)->x∈V/\rk x=none:=fun x hx=>by
  have h:=List.mem_filter.mp hx
  refine⟨h.1,?_⟩
  cases q:rk x with
  | none=>rfl
  | some k=>rw[q] at h;cases h.2
 generalize (V.filter fun x=>(rk x).isSome == false)=lo at *
 obtain⟨S3,hS3⟩:∃ S3,S3=S2++[O.lst (lo.map .str)]:=⟨_,rfl⟩
 have p3:ze S2 S3:=by rw[hS3];exact ze.of _ _
 have g3:S3[S2.length]? = some (.lst (lo.map .str)):=by rw[hS3];exact zd
 have l4:Ju [some (.ro (ns.map .int)),some (.ref 0),some (.ref 1),some (.ref S1.length),none,none] S2=.nx [some (.ro (ns.map .int)),some (.ref 0),some (.ref 1),some (.ref S1.length),some (.ref S2.length),none] S3:=by
  have ht:=y7 (g:=[O.lst (lo.map .str)]) g2 [some (.ro (ns.map .int)),some (.ref 0),some (.ref 1),some (.ref S1.length),some (.ref S2.length),none]
  rw[<- hSf] at ht
  have lSf:Sf.length=S2.length:=by rw[hSf,List.length_set]
  simp only[Ju,Z7,List.getElem?_cons_succ,List.getElem?_cons_zero,g2,<- hSf,zT,jY,ec,R.bind_ok,alloc,lSf,R.stm_ok,List.set_cons_succ,List.set_cons_zero,ht,hS3]
 have l5:Jt [some (.ro (ns.map .int)),some (.ref 0),some (.ref 1),some (.ref S1.length),some (.ref S2.length),none] S3=.nx [some (.ro (ns.map .int)),some (.ref 0),some (.ref 1),some (.ref S1.length),some (.ref S2.length),some (.int (c % 7))] S3:=by
  have h7:(0:Int) < 7:=by decide
  simp only[Jt,zT,eOp,zI,zB,zD,zA,eC,List.getElem?_cons_zero,R.bind_ok,c18,jg,h7,if_true,R.stm_ok,List.set_cons_succ,List.set_cons_zero]
 generalize c % 7=far at *
 have hcut:cut (lo.map D.str) (some far) (some (far+9))=(cut lo (some far) (some (far+9))).map D.str:=zE2 _ _ _ _
 have hcm:∀ x∈cut lo (some far) (some (far+9)),x∈lo:=fun x hx=>zBe hx
 generalize cut lo (some far) (some (far+9))=ct at *
 obtain⟨S4,hS4⟩:∃ S4,S4=S3++[O.lst (ct.map .str)]:=⟨_,rfl⟩
 have p4:ze S3 S4:=by rw[hS4];exact ze.of _ _
 have g4:S4[S3.length]? = some (.lst (ct.map .str)):=by rw[hS4];exact zd
 have p24:=p3.trans p4
 have p14:=p2.trans p24
 have er:=zL5 (p14.get g1) (dr.mono p14.keep) hn ok10 hN62 (p24.get g2) vm hR (by omega) g4 fun x hx=>hlo x (hcm x hx)
 have l6:Jq [some (.ro (ns.map .int)),some (.ref 0),some (.ref 1),some (.ref S1.length),some (.ref S2.length),some (.int far)] S3=.nx [some (.ro (ns.map .int)),some (.ref 0),some (.ref 1),some (.ref S1.length),some (.ref S2.length),some (.int far)] S4:=by
  simp only[Jq,sIf,ZE,qe,zI,zB,zD,zA,eSl,qz,eOp,eC,jW,List.getElem?_cons_succ,List.getElem?_cons_zero,R.bind_ok,slD,Qe g3,hcut,alloc,<- hS4,er,yo,Bool.not_true,R.stm_ok,Bool.false_eq_true,if_false,jE]
 obtain⟨V',rk',refs,g,_,_,vm',_,hR',e7,gf,_,hw,top,_,_⟩:=zLb (p14.get g1) (dr.mono p14.keep) hn ok10 hN62
 have same:∀ k x,rk x=some k->rk' x=some k:=fun k x=>RK.one hR hR' (fun y hy=>(vm' y).mpr ((vm y).mp hy)) k x
 obtain⟨S5,hS5⟩:∃ S5,S5=S4++g:=⟨_,rfl⟩
 rw[<- hS5] at e7 gf
 have p5:ze S4 S5:=by rw[hS5];exact ze.of _ _
 have p25:=p24.trans p5
 have p15:=p14.trans p5
 have hrow:zDu S5 rk refs:=fun k x e=>by
  have e':=same k x e
  have lt:=top x k e'
  refine⟨lt,refs[k],wv rk' V' k,List.getElem?_eq_getElem lt,?_,List.mem_filter.mpr ⟨hR'.inn x k e',decide_eq_true e'⟩⟩
  rw[hS5]
  exact (hw k _ (List.getElem?_eq_getElem lt)).2
 have ea:=zLt (far:=far) (p15.get g1) (dr.mono p15.keep) hn ok10 hN62 (p25.get g2) (by omega) hR gf hrow
 have l7:Jd [some (.ro (ns.map .int)),some (.ref 0),some (.ref 1),some (.ref S1.length),some (.ref S2.length),some (.int far)] S4=.nx [some (.ro (ns.map .int)),some (.ref 0),some (.ref 1),some (.ref S1.length),some (.ref S2.length),some (.int far)] S5:=by
  simp only[Jd,sIf,ZE,qe,zI,zB,zD,zA,List.getElem?_cons_succ,List.getElem?_cons_zero,R.bind_ok,e7,ea,yo,Bool.not_true,R.stm_ok,Bool.false_eq_true,if_false,jE]
 have em:=zOI (c:=c) (p15.get g1) (dr.mono p15.keep) hn ok hN (p25.get g2) (by omega) vm
 have l8:zAY [some (.ro (ns.map .int)),some (.ref 0),some (.ref 1),some (.ref S1.length),some (.ref S2.length),some (.int far)] S5=.rt (.bl true) S5:=by
  simp only[zAY,jK,zI,zB,zD,zA,eC,List.getElem?_cons_succ,List.getElem?_cons_zero,R.bind_ok,c18,em,R.stm_ok]
 have l1:Jy [some (.ro (ns.map .int)),none,none,none,none,none] []=.nx [some (.ro (ns.map .int)),some (.ref 0),none,none,none,none] [O.lst (N.map .str)]:=by
  simp[Jy,hnm]
 have l2:Jr [some (.ro (ns.map .int)),some (.ref 0),none,none,none,none] [O.lst (N.map .str)]=.nx [some (.ro (ns.map .int)),some (.ref 0),some (.ref 1),none,none,none] S1:=by
  simp only[Jr,zT,zI,zB,zD,zA,eC,List.getElem?_cons_succ,List.getElem?_cons_zero,R.bind_ok,e2,R.stm_ok,List.set_cons_succ,List.set_cons_zero]
  rfl
 have l3:Jf [some (.ro (ns.map .int)),some (.ref 0),some (.ref 1),none,none,none] S1=.nx [some (.ro (ns.map .int)),some (.ref 0),some (.ref 1),some (.ref S1.length),none,none] S2:=by
  simp only[Jf,zT,zI,zB,zD,zA,List.getElem?_cons_succ,List.getElem?_cons_zero,R.bind_ok,e3,alloc,R.stm_ok,List.set_cons_succ,List.set_cons_zero,hS2]
 refine⟨S5,?_⟩
 show (zJ Jy (zJ Jr (zJ Jf (zJ Ju (zJ Jt (zJ Jq (zJ Jd zAY)))))) [some (.ro (ns.map .int)),none,none,none,none,none] []).out=_
 show ((Jy _ _).then _).out=_
 rw[l1,RS.then_nx]
 show ((Jr _ _).then _).out=_
 rw[l2,RS.then_nx]
 show ((Jf _ _).then _).out=_
 rw[l3,RS.then_nx]
 show ((Ju _ _).then _).out=_
 rw[l4,RS.then_nx]
 show ((Jt _ _).then _).out=_
 rw[l5,RS.then_nx]
 show ((Jq _ _).then _).out=_
 rw[l6,RS.then_nx]
 show ((Jd _ _).then _).out=_
 rw[l7,RS.then_nx,l8]
 rfl
end
end M
namespace My
open PySem L2 PyProof.Rows
def top (i:Nat):Stmt:=PySem.Challenge.pw_thingyard_k66_whole_no_rank_is_a_ring.main.body.getD i (.Pass ⟨0,0,0,0⟩)
abbrev Θ0:Tab:=fun _=>none
theorem vv {X:Cx}{Θ:Tab}{pos:Pos}{x:Str} (i:Nat) (h1:X.N[i]? = some x:=by rfl) (h2:Vis X.env.scope x:=by exact Or.inl (by kernel_rfl)) (h3:(x == ("__debug__" : Str))=false:=by kernel_rfl) (h4:(x == ("__classdict__" : Str))=false:=by kernel_rfl):WE X Θ (.Name x pos) (M.zA i):=zHg i h1 h2 h3 h4
theorem vc {X:Cx}{Θ:Tab}{pos:Pos}{x:Str} (i:Nat) (h1:X.N[i]? = some x:=by rfl) (h2:Vis X.env.scope x:=by exact Or.inr (Or.inl (by kernel_rfl))) (h3:(x == ("__debug__" : Str))=false:=by kernel_rfl) (h4:(x == ("__classdict__" : Str))=false:=by kernel_rfl):WE X Θ (.Name x pos) (M.zA i):=zHg i h1 h2 h3 h4
theorem zz {X:Cx}{Θ:Tab}{pos:Pos}{y:M.T}{x:Str}{j:Nat} (h:x=ofT y:=by decide +kernel) (ok:okT y:=by decide +kernel):WE X Θ (.Constant (.str x) j pos) (M.eC (.str y)):=zMh h ok
theorem gk {X:Cx}{x:Str} (h:X.env.kindOf x=some .globalImplicit:=by kernel_rfl):Gl X x:=h
abbrev cX (P:Program) (w:World) (K:PySem.W.Frag) (mg:Str->Option Value) (base:Heap) (N:List Str) (n:Str) (st:Stmt) (f:Addr) (cdv:Value) (A:Around) (outer:List Env) (s:Shared) (H:Hp) (E:XK):Cx:=(zAe CX0 P w K mg base N n (zO st) f cdv A outer s H E).nox
abbrev RM (k:Nat) (n:Str) (st:Stmt) (A:Around) (s:Shared) (f:Addr) (cdv:Value):Prop:=jb k (A.deeper (envOfC n (zO st) s.heap.objs.size f cdv))
abbrev bd (st:Stmt) (j:Nat):Stmt:=(jP st).getD j (.Pass ⟨0,0,0,0⟩)
section
variable (P:Program) (w:World) (K:PySem.W.Frag) (mg:Str->Option Value) (base:Heap)
abbrev qt:Prop:=Has P w K mg base "_law_cell" 1 ["_law_script","_law_k"] (SpM K Θ0 2 M.jk)
abbrev qb:Prop:=Has P w K mg base "_law_mixed" 1 ["_law_cell_here","_law_k"] (SpM K Θ0 2 M.zq)
abbrev zBD:Prop:=Has P w K mg base "_law_name" 2 ["_law_cell_here","_law_taken"] (SpM K Θ0 2 M.jy)
abbrev zAq:Prop:=Has P w K mg base "_law_names" 3 ["_law_script","_law_base"] (SpM K Θ0 2 M.qx)
abbrev zBv:Prop:=Has P w K mg base "_law_row" 2 ["_law_cell_here","_law_k","_law_shape","_law_names_here"] (SpM K Θ0 4 M.y6)
abbrev zAg:Prop:=Has P w K mg base "_law_needs" 3 ["_law_script","_law_base","_law_names_here"] (SpM K Θ0 3 M.JG)
abbrev QI:Prop:=Has P w K mg base "needers_of" 1 ["needs"] (SpM K Θ0 1 M.Z5)
abbrev zB8:Prop:=Has P w K mg base "names_of" 1 ["needs"] (SpM K Θ0 1 M.Zg)
abbrev Ji:Prop:=Has P w K mg base "ranks" 2 ["needs"] (SpM K Θ0 1 M.Je)
abbrev zAJ:Prop:=Has P w K mg base "_law_copied" 1 ["_law_needs_here"] (SpM K Θ0 1 M.Qw)
abbrev JD:Prop:=Has P w K mg base "leaners" 2 ["needs","names"] (SpM K Θ0 2 M.yD)
abbrev Z4:Prop:=Has P w K mg base "_law_a_need_more" 3 ["_law_needs_here","_law_found","_law_cell_here"] (SpM K Θ0 3 M.qk)
abbrev zCo:Prop:=Has P w K mg base "_law_nexts" 1 ["_law_needs_here","_law_found"] (SpM K Θ0 2 M.ZP)
abbrev zDd:Prop:=Has P w K mg base "turned" 1 ["ring"] (SpM K Θ0 1 M.yN)
abbrev zDN:Prop:=Has P w K mg base "ring_from" 2 ["nexts","name"] (SpM K Θ0 2 M.jc)
abbrev zAM:Prop:=Has P w K mg base "is_row_of_names" 1 ["thing"] (SpM K Θ0 1 M.yB)
abbrev zFT:Prop:=Has P w K mg base "is_ring" 2 ["needs","names"] (SpM K Θ0 2 M.Zy)
abbrev zAr:Prop:=Has P w K mg base "_law_rings" 3 ["_law_needs_here","_law_found","_law_names_here"] (SpM K Θ0 3 M.QR)
abbrev zAv:Prop:=Has P w K mg base "_law_ahead" 3 ["_law_needs_here","_law_found","_law_rows","_law_far"] (SpM K Θ0 4 M.QA)
abbrev zEj:Prop:=Has P w K mg base "waves" 3 ["needs"] (SpM K Θ0 1 M.zC6)
end
variable {P:Program}{w:World}{K:PySem.W.Frag}{mg:Str->Option Value}{base:Heap}{f:Addr}{fd:FuncData}{cdv:Value}{A:Around}{outer:List Env}{s:Shared}{H:Hp}{E:XK}
abbrev Zv:Stmt:=top 12
abbrev zIE:List Str:=["_law_script","_law_k"]
theorem zHG:ja zIE ["_law_script","_law_k"] (zO Zv):=⟨rfl,rfl,rfl,by decide +kernel,rfl,by decide +kernel,by decide +kernel⟩
theorem zGQ (F:Fun K "_law_cell" "_law_cell" Zv f fd) (zt:mg "len" = none) :
  qH P w K mg base CX0 1 f fd ["_law_script","_law_k"] (SpM K Θ0 2 M.jk):=by
 refine yA (b:=M.Qs) F zHG M.zGm fun cdv A outer s H E hr=>?_
 unfold M.Qs
 exact (zF (jn (jN zRK zQq (vv 1) (jJ j4 yU gk zt qw (zC (vv 0) zH)) (yG _))
  (zL (zx (jG (qI hr) jl (vv 0) (vv 1))))
  jL)
  (zL (zx zP)))
abbrev ZS:Stmt:=top 13
abbrev zHI:List Str:=["_law_cell_here","_law_k"]
theorem zF1:ja zHI ["_law_cell_here","_law_k"] (zO ZS):=⟨rfl,rfl,rfl,by decide +kernel,rfl,by decide +kernel,by decide +kernel⟩
theorem zF8 (F:Fun K "_law_mixed" "_law_mixed" ZS f fd) :
  qH P w K mg base CX0 1 f fd ["_law_cell_here","_law_k"] (SpM K Θ0 2 M.zq):=by
 refine yA (b:=M.JU) F zF1 M.zF6 fun cdv A outer s H E hr=>?_
 unfold M.JU
 exact (zL (zx (zX qy qL (zX zHm zHP (zX (OpR.or yF j5) qR (vv 0) (zX zHm zHP zP (vv 1))) zP) zP)))
abbrev jB:Stmt:=top 14
abbrev y9:List Str:=["_law_cell_here","_law_taken","_law_signs","_law_left","_law_found","_law_at"]
theorem qu:ja y9 ["_law_cell_here","_law_taken"] (zO jB):=⟨rfl,rfl,rfl,by decide +kernel,rfl,by decide +kernel,by decide +kernel⟩
theorem zEr:(["_law_cell_here","_law_taken","_law_signs","_law_left","_law_found","_law_at","_law_j"]:List Str).Nodup:=by decide +kernel
theorem zEx (hr:RM 1 "_law_name" jB A s f cdv):WS (cX P w K mg base y9 "_law_name" jB f cdv A outer s H E) Θ0 (bd jB 0) M.yt:=by
 unfold M.yt
 exact (zY (i:=2) qu.nd rfl (Or.inr (by kernel_rfl)) zz)
theorem zEp (zr:qb P w K mg base) (hr:RM 1 "_law_name" jB A s f cdv):WS (cX P w K mg base y9 "_law_name" jB f cdv A outer s H E) Θ0 (bd jB 1) M.yz:=by
 unfold M.yz
 exact (zY (i:=3) qu.nd rfl (Or.inl (by kernel_rfl)) (zi zr hr (by decide) gk (zC (vc 0) (zC zP zH)) (zS (zS jR))))
theorem zE4 (zr:qb P w K mg base) (jt:mg "range" = none) (hr:RM 1 "_law_name" jB A s f cdv):WS (cX P w K mg base y9 "_law_name" jB f cdv A outer s H E) Θ0 (bd jB 2) M.yy:=by
 unfold M.yy
 exact (zY (i:=4) qu.nd rfl (Or.inl (by kernel_rfl)) (zJc (by decide +kernel) (vars:=["_law_j"]) rfl ⟨rfl,rfl,(by kernel_rfl),(by kernel_rfl),(by decide +kernel),⟨(by kernel_rfl),(by kernel_rfl),trivial⟩,(by kernel_rfl)⟩ (Zw gk jt (zX qy qL (vv 3) zP)) (fun _ _ _ _=>(zo (i:=6) zEr rfl (Or.inl (by kernel_rfl)) (.inr (by kernel_rfl)))) (fun _ _ _ _=>Zj) (fun _ _ _ _=>(jG (qI hr) jl (vc 2) (zX qy qL (zi zr hr (by decide) gk (zC (vc 0) (zC (vv 6) zH)) (zS (zS jR))) zP))) (by kernel_rfl) (fun ρ H S ds ys p Q rp r hq h=>zMf (by decide +kernel) ρ H S ds ys p Q rp r (.inl hq) h)))
theorem zEt (zt:mg "len" = none) (hr:RM 1 "_law_name" jB A s f cdv):WS (cX P w K mg base y9 "_law_name" jB f cdv A outer s H E) Θ0 (bd jB 3) M.qh:=by
 unfold M.qh
 exact (jn (ZD (zDh (ym (vv 1)) (zAu (jN zGg zD2 (zX qy qL (vc 0) zP) zP (yG _)))))
  (zF (zY (i:=4) qu.nd rfl (Or.inl (by kernel_rfl)) (jG (qI hr) jl (vv 1) (zX qy qL (vv 3) (jJ j4 yU gk zt qw (zC (vv 1) zH)))))
  (zF (zY (i:=4) qu.nd rfl (Or.inl (by kernel_rfl)) (zX (OpR.or yF j5) qR (vv 4) (ZW zAn JO zz (qT (jJ j4 yU gk zt qw (zC (vv 4) zH))) Za)))
  (zF (zY (i:=5) qu.nd rfl (Or.inl (by kernel_rfl)) (zX qy qL (zX zC4 zBc (vv 3) zP) (jJ j4 yU gk zt qw (zC (vv 4) zH))))
  (zL (zY (i:=4) qu.nd rfl (Or.inl (by kernel_rfl)) (zX (OpR.or yF j5) qR (zX (OpR.or yF j5) qR (ZW zAn JO (vv 4) Za (qT (vv 5))) (jG (qI hr) jl (vc 2) (zX qy qL (zX zC4 zBc (vv 3) zP) zP))) (ZW zAn JO (vv 4) (qT (zX (OpR.or yF j5) qR (vv 5) zP)) Za)))))))
  jL)
theorem zEl (zr:qb P w K mg base) (zt:mg "len" = none) (hr:RM 1 "_law_name" jB A s f cdv):WS (cX P w K mg base y9 "_law_name" jB f cdv A outer s H E) Θ0 (bd jB 4) M.Qy:=by
 unfold M.Qy
 exact (zAU PassesOwn.never (jN (zBS hr) zDC (vv 4) (vv 1) (by rfl))
  (zL (zY (i:=4) qu.nd rfl (Or.inl (by kernel_rfl)) (zX (OpR.or yF j5) qR (vv 4) (jG (qI hr) jl (vc 2) (zX qy qL (zi zr hr (by decide) gk (zC (vc 0) (zC (jJ j4 yU gk zt qw (zC (vv 4) zH)) zH)) (zS (zS jR))) zP))))))
theorem zE0 (hr:RM 1 "_law_name" jB A s f cdv):WS (cX P w K mg base y9 "_law_name" jB f cdv A outer s H E) Θ0 (bd jB 5) M.Zo:=by
 unfold M.Zo
 exact (zx (vv 4))
theorem zHs (F:Fun K "_law_name" "_law_name" jB f fd) (zr:qb P w K mg base) (zt:mg "len" = none) (jt:mg "range" = none) :
  qH P w K mg base CX0 2 f fd ["_law_cell_here","_law_taken"] (SpM K Θ0 2 M.jy):=by
 refine yA (b:=M.zBJ) F qu M.zG2 fun cdv A outer s H E hr=>?_
 unfold M.zBJ
 exact (zF (zEx hr) (zF (zEp zr hr) (zF (zE4 zr jt hr) (zF (zEt zt hr) (zF (zEl zr zt hr) (zL (zE0 hr)))))))
abbrev zy:Stmt:=top 15
abbrev yl:List Str:=["_law_script","_law_base","_law_first","_law_many","_law_taken","_law_k"]
theorem yw:ja yl ["_law_script","_law_base"] (zO zy):=⟨rfl,rfl,rfl,by decide +kernel,rfl,by decide +kernel,by decide +kernel⟩
theorem zEE (jC:qt P w K mg base) (hr:RM 2 "_law_names" zy A s f cdv):WS (cX P w K mg base yl "_law_names" zy f cdv A outer s H E) Θ0 (bd zy 0) M.yP:=by
 unfold M.yP
 exact (zY (i:=2) yw.nd rfl (Or.inl (by kernel_rfl)) (zi jC hr (by decide) gk (zC (vv 0) (zC (vv 1) zH)) (zS (zS jR))))
theorem zD4 (hr:RM 2 "_law_names" zy A s f cdv):WS (cX P w K mg base yl "_law_names" zy f cdv A outer s H E) Θ0 (bd zy 1) M.yJ:=by
 unfold M.yJ
 exact (zY (i:=3) yw.nd rfl (Or.inl (by kernel_rfl)) (zX (OpR.or yF j5) qR zP (zX qy qL (vv 2) zP)))
theorem zEI (hr:RM 2 "_law_names" zy A s f cdv):WS (cX P w K mg base yl "_law_names" zy f cdv A outer s H E) Θ0 (bd zy 2) M.yO:=by
 unfold M.yO
 exact (jn (jN (JF hr) zAP (zX qy qL (zX zC4 zBc (vv 2) zP) zP) zP (yG _))
  (zL (zY (i:=3) yw.nd rfl (Or.inl (by kernel_rfl)) (zX (OpR.or yF j5) qR zP (zX qy qL (zX zC4 zBc (vv 2) zP) zP))))
  jL)
theorem zDt (hr:RM 2 "_law_names" zy A s f cdv):WS (cX P w K mg base yl "_law_names" zy f cdv A outer s H E) Θ0 (bd zy 3) M.yM:=by
 unfold M.yM
 exact (zY (i:=4) yw.nd rfl (Or.inl (by kernel_rfl)) (qj zH))
theorem zEO (jC:qt P w K mg base) (Qt:zBD P w K mg base) (zr:qb P w K mg base) (jt:mg "range" = none) (hr:RM 2 "_law_names" zy A s f cdv):WS (cX P w K mg base yl "_law_names" zy f cdv A outer s H E) Θ0 (bd zy 4) M.yK:=by
 unfold M.yK
 exact (QO PassesOwn.never rfl (Zw gk jt (vv 3)) (zo (i:=5) yw.nd rfl (Or.inl (by kernel_rfl)) (.inl rfl))
  (zL (zAE (Zp PySem.F.plainAttrs_list PySem.F.slot_list_append PySem.F.type_list_append zA0 zAz rfl (vv 4) (zC (zi Qt hr (by decide) gk (zC (zi zr hr (by decide) gk (zC (zi jC hr (by decide) gk (zC (vv 0) (zC (zX (OpR.or yF j5) qR (zX (OpR.or yF j5) qR (vv 1) zP) (zX qy qL (vv 5) zP)) zH)) (zS (zS jR))) (zC (vv 5) zH)) (zS (zS jR))) (zC (vv 4) zH)) (zS (zS jR))) zH)))))
theorem zEV (hr:RM 2 "_law_names" zy A s f cdv):WS (cX P w K mg base yl "_law_names" zy f cdv A outer s H E) Θ0 (bd zy 5) M.ZU:=by
 unfold M.ZU
 exact (zx (vv 4))
theorem zGB (F:Fun K "_law_names" "_law_names" zy f fd) (jC:qt P w K mg base) (Qt:zBD P w K mg base) (zr:qb P w K mg base) (jt:mg "range" = none) :
  qH P w K mg base CX0 3 f fd ["_law_script","_law_base"] (SpM K Θ0 2 M.qx):=by
 refine yA (b:=M.zAs) F yw M.zF2 fun cdv A outer s H E hr=>?_
 unfold M.zAs
 exact (zF (zEE jC hr) (zF (zD4 hr) (zF (zEI hr) (zF (zDt hr) (zF (zEO jC Qt zr jt hr) (zL (zEV hr)))))))
abbrev Qc:Stmt:=top 16
abbrev zJK:List Str:=["_law_cell_here","_law_k","_law_shape","_law_names_here","_law_row_here"]
theorem zBI:ja zJK ["_law_cell_here","_law_k","_law_shape","_law_names_here"] (zO Qc):=⟨rfl,rfl,rfl,by decide +kernel,rfl,by decide +kernel,by decide +kernel⟩
theorem zFy:(["_law_cell_here","_law_k","_law_shape","_law_names_here","_law_row_here","_law_j"]:List Str).Nodup:=by decide +kernel
theorem zF4:(["_law_cell_here","_law_k","_law_shape","_law_names_here","_law_row_here","_law_j"]:List Str).Nodup:=by decide +kernel
theorem zH4 (F:Fun K "_law_row" "_law_row" Qc f fd) (zr:qb P w K mg base) (jt:mg "range" = none) (zJs:mg "max" = none) (zt:mg "len" = none) (zJt:mg "int" = none) :
  qH P w K mg base CX0 2 f fd ["_law_cell_here","_law_k","_law_shape","_law_names_here"] (SpM K Θ0 4 M.y6):=by
 refine yA (b:=M.Zd) F zBI M.zIA fun cdv A outer s H E hr=>?_
 unfold M.Zd
 exact (zF (jn (jN (JF hr) zAP (vv 2) zP (yG _))
  (zL (zx (ZZ (vars:=["_law_j"]) rfl ⟨rfl,rfl,(by kernel_rfl),(by kernel_rfl),(by decide +kernel),⟨(by kernel_rfl),(by kernel_rfl),(by kernel_rfl),trivial⟩,(by kernel_rfl)⟩ (Zw gk jt (zX zHm zHP (zX qy qL (vc 0) zP) (ZF zKl zP0 gk zJt zOl (zC (zBo zGg zD2 (vc 1) zP (yG _)) zH)))) (fun _ _ _ _=>(zo (i:=5) zF4 rfl (Or.inl (by kernel_rfl)) (.inr (by kernel_rfl)))) (fun _ _ _ _=>Zj) (fun _ _ _ _=>(jG (qI hr) jl (vc 3) (zX qy qL (zi zr hr (by decide) gk (zC (vc 0) (zC (zX (OpR.or yF j5) qR zP (vv 5)) zH)) (zS (zS jR))) (vc 1)))) (by kernel_rfl))))
  jL)
  (zF (jn (jN (JF hr) zAP (vv 2) zP (yG _))
  (zF (zY (i:=4) zBI.nd rfl (Or.inl (by kernel_rfl)) (ZW zAn JO (vc 3) (qT (jJ (zJx rfl) zNn gk zJs zPD (zC zP (zC (zX zI6 zG9 (vc 1) zP) zH)))) (qT (vc 1))))
  (zF (jn (jN (JF hr) zAP (zX qy qL (vc 0) zP) zP (yG _))
  (zL (zY (i:=4) zBI.nd rfl (Or.inl (by kernel_rfl)) (zX (OpR.or yF j5) qR (vv 4) (qj (zC (jG (qI hr) jl (vc 3) (zX zI6 zG9 (jJ j4 yU gk zt qw (zC (vc 3) zH)) zP)) zH)))))
  jL)
  (zL (zx (vv 4)))))
  jL)
  (zL (zx (ZZ (vars:=["_law_j"]) rfl ⟨rfl,rfl,(by kernel_rfl),(by kernel_rfl),(by decide +kernel),⟨(by kernel_rfl),(by kernel_rfl),trivial⟩,(by kernel_rfl)⟩ (Zw gk jt (zX qy qL (vc 0) zP)) (fun _ _ _ _=>(zo (i:=5) zFy rfl (Or.inl (by kernel_rfl)) (.inr (by kernel_rfl)))) (fun _ _ _ _=>Zj) (fun _ _ _ _=>(jG (qI hr) jl (vc 3) (zX qy qL (zi zr hr (by decide) gk (zC (vc 0) (zC (zX (OpR.or yF j5) qR zP (vv 5)) zH)) (zS (zS jR))) (jJ j4 yU gk zt qw (zC (vc 3) zH))))) (by kernel_rfl))))))
abbrev jQ:Stmt:=top 17
abbrev ZT:List Str:=["_law_script","_law_base","_law_names_here","_law_shape","_law_needs_here","_law_k","_law_cell_here"]
theorem Zq:ja ZT ["_law_script","_law_base","_law_names_here"] (zO jQ):=⟨rfl,rfl,rfl,by decide +kernel,rfl,by decide +kernel,by decide +kernel⟩
theorem zEB (jC:qt P w K mg base) (hr:RM 2 "_law_needs" jQ A s f cdv):WS (cX P w K mg base ZT "_law_needs" jQ f cdv A outer s H E) Θ0 (bd jQ 0) M.yi:=by
 unfold M.yi
 exact (zY (i:=3) Zq.nd rfl (Or.inl (by kernel_rfl)) (zX qy qL (zi jC hr (by decide) gk (zC (vv 0) (zC (vv 1) zH)) (zS (zS jR))) zP))
theorem zD5 (hr:RM 2 "_law_needs" jQ A s f cdv):WS (cX P w K mg base ZT "_law_needs" jQ f cdv A outer s H E) Θ0 (bd jQ 1) M.yh:=by
 unfold M.yh
 exact (zY (i:=4) Zq.nd rfl (Or.inl (by kernel_rfl)) y0)
theorem zD9 (jC:qt P w K mg base) (zr:qb P w K mg base) (JY:zBv P w K mg base) (jt:mg "range" = none) (zt:mg "len" = none) (hr:RM 2 "_law_needs" jQ A s f cdv):WS (cX P w K mg base ZT "_law_needs" jQ f cdv A outer s H E) Θ0 (bd jQ 2) M.yI:=by
 unfold M.yI
 exact (QO PassesOwn.never rfl (Zw gk jt (jJ j4 yU gk zt qw (zC (vv 2) zH))) (zo (i:=5) Zq.nd rfl (Or.inl (by kernel_rfl)) (.inl rfl))
  (zF (zY (i:=6) Zq.nd rfl (Or.inl (by kernel_rfl)) (zi zr hr (by decide) gk (zC (zi jC hr (by decide) gk (zC (vv 0) (zC (zX (OpR.or yF j5) qR (zX (OpR.or yF j5) qR (vv 1) zP) (zX qy qL (vv 5) zP)) zH)) (zS (zS jR))) (zC (vv 5) zH)) (zS (zS jR))))
  (zL (jn (ZD (Jo (jN zGg zD2 (zX qy qL (zX zC4 zBc (vv 6) zP) zP) zP (yG _)) (ZH (jN (JF hr) zAP (vv 3) zP (yG _)))))
  (zL (ZC hr (vv 4) (jG (qI hr) jl (vv 2) (vv 5)) (zi JY hr (by decide) gk (zC (vv 6) (zC (vv 5) (zC (vv 3) (zC (vv 2) zH)))) (zS (zS (zS (zS jR)))))))
  jL))))
theorem zD6 (hr:RM 2 "_law_needs" jQ A s f cdv):WS (cX P w K mg base ZT "_law_needs" jQ f cdv A outer s H E) Θ0 (bd jQ 3) M.ZY:=by
 unfold M.ZY
 exact (zx (vv 4))
theorem zFw (F:Fun K "_law_needs" "_law_needs" jQ f fd) (jC:qt P w K mg base) (zr:qb P w K mg base) (JY:zBv P w K mg base) (jt:mg "range" = none) (zt:mg "len" = none) :
  qH P w K mg base CX0 3 f fd ["_law_script","_law_base","_law_names_here"] (SpM K Θ0 3 M.JG):=by
 refine zAj (N:=ZT) (b:=M.zAk) F Zq fun cdv A outer s H E hr=>?_
 unfold M.zAk
 exact (zF (zEB jC hr) (zF (zD5 hr) (zF (zD9 jC zr JY jt zt hr) (zL (zD6 hr)))))
abbrev ZJ:Stmt:=top 1
abbrev zCU:List Str:=["needs","needers","name","needed"]
theorem Qu:ja zCU ["needs"] (zO ZJ):=⟨rfl,rfl,rfl,by decide +kernel,rfl,by decide +kernel,by decide +kernel⟩
theorem zFv (F:Fun K "needers_of" "needers_of" ZJ f fd) :
  qH P w K mg base CX0 1 f fd ["needs"] (SpM K Θ0 1 M.Z5):=by
 refine zAj (N:=zCU) (b:=M.Z8) F Qu fun cdv A outer s H E hr=>?_
 unfold M.Z8
 exact (zF (zY (i:=1) Qu.nd rfl (Or.inl (by kernel_rfl)) y0)
  (zF (QS PassesOwn.never rfl (vv 0) (zo (i:=2) Qu.nd rfl (Or.inl (by kernel_rfl)) (.inl rfl))
  (zL (QO PassesOwn.never rfl (Z6 (jG (qI hr) jl (vv 0) (vv 2))) (zo (i:=3) Qu.nd rfl (Or.inl (by kernel_rfl)) (.inl rfl))
  (zF (jn (jN (Zb hr) QE (vv 3) (vv 1) (by rfl))
  (zL (ZC hr (vv 1) (vv 3) y0))
  jL)
  (zL (ZC hr (jG (qI hr) jl (vv 1) (vv 3)) (vv 2) qZ))))))
  (zL (zx (vv 1)))))
abbrev QZ:Stmt:=top 2
abbrev zJT:List Str:=["needs","names","name","needed"]
theorem zBE:ja zJT ["needs"] (zO QZ):=⟨rfl,rfl,rfl,by decide +kernel,rfl,by decide +kernel,by decide +kernel⟩
theorem zF0:(["needs","names","","needed"]:List Str).Nodup:=by decide +kernel
theorem zGC:(["needs","names","","needed","name"]:List Str).Nodup:=by decide +kernel
theorem zH9 (F:Fun K "names_of" "names_of" QZ f fd) (QT:mg "dict" = none) (QU:mg "sorted" = none) :
  qH P w K mg base CX0 1 f fd ["needs"] (SpM K Θ0 1 M.Zg):=by
 refine yA (b:=M.JP) F zBE M.zIB fun cdv A outer s H E hr=>?_
 unfold M.JP
 exact (zF (zA6 (i:=2) (N:=["needs","names","","needed"]) rfl (Jn (i:=0) (zY (i:=1) zF0 rfl (Or.inl (by kernel_rfl)) (ZF (zB1 hr) zDS gk QT zE3 (zC (ZZ (vars:=["name"]) rfl ⟨rfl,rfl,(by kernel_rfl),(by kernel_rfl),(by decide +kernel),trivial,(by kernel_rfl)⟩ (Q8 (vv 0)) (fun _ _ _ _=>(zo (i:=4) zGC rfl (Or.inl (by kernel_rfl)) (.inr (by kernel_rfl)))) (fun _ _ _ _=>Zj) (fun _ _ _ _=>(zDU (zC (vv 4) (zC qZ zH)))) (by kernel_rfl)) zH)))))
  (zF (QS PassesOwn.never rfl (vv 0) (zo (i:=2) zBE.nd rfl (Or.inl (by kernel_rfl)) (.inl rfl))
  (zL (QO PassesOwn.never rfl (Z6 (jG (qI hr) jl (vv 0) (vv 2))) (zo (i:=3) zBE.nd rfl (Or.inl (by kernel_rfl)) (.inl rfl))
  (zL (ZC hr (vv 1) (vv 3) qZ)))))
  (zL (zx (jJ (zCK hr) zEG gk QU zFZ (zC (vv 1) zH))))))
abbrev je:Stmt:=top 4
abbrev Q4:List Str:=["needs","needers","ranked","missing","level","rank","above","name","needer"]
theorem Z9:ja Q4 ["needs"] (zO je):=⟨rfl,rfl,rfl,by decide +kernel,rfl,by decide +kernel,by decide +kernel⟩
theorem zIx:(["needs","needers","ranked","missing","level","rank","above","","needer"]:List Str).Nodup:=by decide +kernel
theorem zJh:(["needs","needers","ranked","missing","level","rank","above","","needer","name"]:List Str).Nodup:=by decide +kernel
theorem zJG:(["needs","needers","ranked","missing","level","rank","above","","needer"]:List Str).Nodup:=by decide +kernel
theorem zJd:(["needs","needers","ranked","missing","level","rank","above","","needer","name"]:List Str).Nodup:=by decide +kernel
theorem zI9:(["needs","needers","ranked","missing","level","rank","above","","needer"]:List Str).Nodup:=by decide +kernel
theorem zI4:(["needs","needers","ranked","missing","level","rank","above","","needer","name"]:List Str).Nodup:=by decide +kernel
theorem zIu (qf:QI P w K mg base) (hr:RM 1 "ranks" je A s f cdv):WS (cX P w K mg base Q4 "ranks" je f cdv A outer s H E) Θ0 (bd je 0) M.QG:=by
 unfold M.QG
 exact (zY (i:=1) Z9.nd rfl (Or.inl (by kernel_rfl)) (zi qf hr (by decide) gk (zC (vc 0) zH) (zS jR)))
theorem zJF (JZ:zB8 P w K mg base) (QT:mg "dict" = none) (hr:RM 1 "ranks" je A s f cdv):WS (cX P w K mg base Q4 "ranks" je f cdv A outer s H E) Θ0 (bd je 1) M.QN:=by
 unfold M.QN
 exact (zA6 (i:=7) (N:=["needs","needers","ranked","missing","level","rank","above","","needer"]) rfl (zY (i:=2) zIx rfl (Or.inl (by kernel_rfl)) (ZF (zB1 hr) zDS gk QT zE3 (zC (ZZ (vars:=["name"]) rfl ⟨rfl,rfl,(by kernel_rfl),(by kernel_rfl),(by decide +kernel),trivial,(by kernel_rfl)⟩ (Z6 (zi JZ hr (by decide) gk (zC (vc 0) zH) (zS jR))) (fun _ _ _ _=>(zo (i:=9) zJh rfl (Or.inl (by kernel_rfl)) (.inr (by kernel_rfl)))) (fun _ _ _ _=>Zj) (fun _ _ _ _=>(zDU (zC (vv 9) (zC zMH zH)))) (by kernel_rfl)) zH))))
theorem zJN (QT:mg "dict" = none) (zt:mg "len" = none) (zA9:mg "set" = none) (hr:RM 1 "ranks" je A s f cdv):WS (cX P w K mg base Q4 "ranks" je f cdv A outer s H E) Θ0 (bd je 2) M.Zx:=by
 unfold M.Zx
 exact (zA6 (i:=7) (N:=["needs","needers","ranked","missing","level","rank","above","","needer"]) rfl (Jn (i:=2) (zY (i:=3) zJG rfl (Or.inr (by kernel_rfl)) (ZF (zB1 hr) zDS gk QT zE3 (zC (ZZ (vars:=["name"]) rfl ⟨rfl,rfl,(by kernel_rfl),(by kernel_rfl),(by decide +kernel),⟨(by kernel_rfl),trivial⟩,(by kernel_rfl)⟩ (Q8 (vv 2)) (fun _ _ _ _=>(zo (i:=9) zJd rfl (Or.inl (by kernel_rfl)) (.inr (by kernel_rfl)))) (fun _ _ _ _=>Zj) (fun _ _ _ _=>(zDU (zC (vv 9) (zC (zDM hr gk zt qw gk zA9 zKS (zC (Zp PySem.F.plainAttrs_dict PySem.F.slot_dict_get PySem.F.type_dict_get (zAV hr) zBT rfl (vc 0) (zC (vv 9) (zC (qj zH) zH))) zH)) zH)))) (by kernel_rfl)) zH)))))
theorem zIy (hr:RM 1 "ranks" je A s f cdv):WS (cX P w K mg base Q4 "ranks" je f cdv A outer s H E) Θ0 (bd je 3) M.Z0:=by
 unfold M.Z0
 exact (zA6 (i:=7) (N:=["needs","needers","ranked","missing","level","rank","above","","needer"]) rfl (Jn (i:=2) (QF (vars:=["name"]) (i:=4) rfl ⟨rfl,rfl,(by kernel_rfl),(by kernel_rfl),(by decide +kernel),⟨(by kernel_rfl),trivial⟩,(by kernel_rfl)⟩ zI9 rfl (Or.inl (by kernel_rfl)) (Q8 (vv 2)) (fun _ _ _ _=>(zo (i:=9) zI4 rfl (Or.inl (by kernel_rfl)) (.inr (by kernel_rfl)))) (fun _ _ _ _=>(zAm (jN (JF hr) zAP (jG (qI hr) jl (vc 3) (vv 9)) zP (yG _)))) (fun _ _ _ _=>(vv 9)) (by kernel_rfl))))
theorem zJa (hr:RM 1 "ranks" je A s f cdv):WS (cX P w K mg base Q4 "ranks" je f cdv A outer s H E) Θ0 (bd je 4) M.Q5:=by
 unfold M.Q5
 exact (zY (i:=5) Z9.nd rfl (Or.inl (by kernel_rfl)) zP)
theorem zJW (zt:mg "len" = none) (hr:RM 1 "ranks" je A s f cdv):WS (cX P w K mg base Q4 "ranks" je f cdv A outer s H E) Θ0 (bd je 5) M.Q6:=by
 unfold M.Q6
 exact (zAU PassesOwn.never (jN zGg zD2 (jJ j4 yU gk zt qw (zC (vv 4) zH)) zP (yG _))
  (zF (zY (i:=6) Z9.nd rfl (Or.inl (by kernel_rfl)) (qj zH))
  (zF (QO PassesOwn.never rfl (Z6 (vv 4)) (zo (i:=7) Z9.nd rfl (Or.inl (by kernel_rfl)) (.inl rfl))
  (zF (ZC hr (vv 2) (vv 7) (vv 5))
  (zL (QS PassesOwn.never rfl (Zp PySem.F.plainAttrs_dict PySem.F.slot_dict_get PySem.F.type_dict_get (zAV hr) zBT rfl (vv 1) (zC (vv 7) (zC y0 zH))) (zo (i:=8) Z9.nd rfl (Or.inl (by kernel_rfl)) (.inl rfl))
  (zF (zLA hr (vc 3) (vv 8) zP zO7 zMT)
  (zL (jn (jN (JF hr) zAP (jG (qI hr) jl (vc 3) (vv 8)) zP (yG _))
  (zL (zAE (Zp PySem.F.plainAttrs_list PySem.F.slot_list_append PySem.F.type_list_append zA0 zAz rfl (vv 6) (zC (vv 8) zH))))
  jL)))))))
  (zF (zY (i:=4) Z9.nd rfl (Or.inl (by kernel_rfl)) (vv 6))
  (zL (zMR (i:=5) Z9.nd rfl (Or.inl (by kernel_rfl)) zP zM6 zMV))))))
theorem zI2 (hr:RM 1 "ranks" je A s f cdv):WS (cX P w K mg base Q4 "ranks" je f cdv A outer s H E) Θ0 (bd je 6) M.zAD:=by
 unfold M.zAD
 exact (zx (vv 2))
theorem zL3 (F:Fun K "ranks" "ranks" je f fd) (qf:QI P w K mg base) (JZ:zB8 P w K mg base) (QT:mg "dict" = none) (zt:mg "len" = none) (zA9:mg "set" = none) :
  qH P w K mg base CX0 2 f fd ["needs"] (SpM K Θ0 1 M.Je):=by
 refine yA (b:=M.zEd) F Z9 M.zLd fun cdv A outer s H E hr=>?_
 unfold M.zEd
 exact (zF (zIu qf hr) (zF (zJF JZ QT hr) (zF (zJN QT zt zA9 hr) (zF (zIy hr) (zF (zJa hr) (zF (zJW zt hr) (zL (zI2 hr))))))))
abbrev yu:Stmt:=top 18
abbrev zCF:List Str:=["_law_needs_here","_law_made","_law_name_here","_law_others"]
theorem Qf:ja zCF ["_law_needs_here"] (zO yu):=⟨rfl,rfl,rfl,by decide +kernel,rfl,by decide +kernel,by decide +kernel⟩
theorem zE5 (F:Fun K "_law_copied" "_law_copied" yu f fd) (yd:mg "list" = none) :
  qH P w K mg base CX0 1 f fd ["_law_needs_here"] (SpM K Θ0 1 M.Qw):=by
 refine zAj (N:=zCF) (b:=M.Zm) F Qf fun cdv A outer s H E hr=>?_
 unfold M.Zm
 exact (zF (zY (i:=1) Qf.nd rfl (Or.inl (by kernel_rfl)) y0)
  (zF (zCE PassesOwn.never rfl (vv 0) (zCp (n:=2) rfl (Qg (zo (i:=2) Qf.nd rfl (Or.inl (by kernel_rfl)) (.inl rfl)) (Qg (zo (i:=3) Qf.nd rfl (Or.inl (by kernel_rfl)) (.inl rfl)) zCT (fun a b=>Jk a b)) (fun a b=>Jk a b)) (zI3))
  (zL (ZC hr (vv 1) (vv 2) (ZF (zBn hr) zFA gk yd zCx (zC (vv 3) zH)))))
  (zL (zx (vv 1)))))
abbrev jd:Stmt:=top 3
abbrev Q3:List Str:=["needs","names","needers","leaning","todo","name","needer"]
theorem Qh:ja Q3 ["needs","names"] (zO jd):=⟨rfl,rfl,rfl,by decide +kernel,rfl,by decide +kernel,by decide +kernel⟩
theorem zHC (qf:QI P w K mg base) (hr:RM 1 "leaners" jd A s f cdv):WS (cX P w K mg base Q3 "leaners" jd f cdv A outer s H E) Θ0 (bd jd 0) M.y8:=by
 unfold M.y8
 exact (zY (i:=2) Qh.nd rfl (Or.inl (by kernel_rfl)) (zi qf hr (by decide) gk (zC (vv 0) zH) (zS jR)))
theorem zHp (hr:RM 1 "leaners" jd A s f cdv):WS (cX P w K mg base Q3 "leaners" jd f cdv A outer s H E) Θ0 (bd jd 1) M.Zt:=by
 unfold M.Zt
 exact (zY (i:=3) Qh.nd rfl (Or.inl (by kernel_rfl)) y0)
theorem zGa (yd:mg "list" = none) (hr:RM 1 "leaners" jd A s f cdv):WS (cX P w K mg base Q3 "leaners" jd f cdv A outer s H E) Θ0 (bd jd 2) M.ZG:=by
 unfold M.ZG
 exact (zY (i:=4) Qh.nd rfl (Or.inl (by kernel_rfl)) (ZF (zBn hr) zFA gk yd zCx (zC (vv 1) zH)))
theorem zGo (zt:mg "len" = none) (hr:RM 1 "leaners" jd A s f cdv):WS (cX P w K mg base Q3 "leaners" jd f cdv A outer s H E) Θ0 (bd jd 3) M.Zs:=by
 unfold M.Zs
 exact (zAU PassesOwn.never (jN zGg zD2 (jJ j4 yU gk zt qw (zC (vv 4) zH)) zP (yG _))
  (zF (zY (i:=5) Qh.nd rfl (Or.inl (by kernel_rfl)) (zNq PySem.F.plainAttrs_list PySem.F.slot_list_pop PySem.F.type_list_pop zOM zO2 rfl (vv 4)))
  (zL (QS PassesOwn.never rfl (Zp PySem.F.plainAttrs_dict PySem.F.slot_dict_get PySem.F.type_dict_get (zAV hr) zBT rfl (vv 2) (zC (vv 5) (zC y0 zH))) (zo (i:=6) Qh.nd rfl (Or.inl (by kernel_rfl)) (.inl rfl))
  (zL (jn (jN (Zb hr) QE (vv 6) (vv 3) (by rfl))
  (zF (ZC hr (vv 3) (vv 6) qZ)
  (zL (zAE (Zp PySem.F.plainAttrs_list PySem.F.slot_list_append PySem.F.type_list_append zA0 zAz rfl (vv 4) (zC (vv 6) zH)))))
  jL))))))
theorem zHu (QU:mg "sorted" = none) (hr:RM 1 "leaners" jd A s f cdv):WS (cX P w K mg base Q3 "leaners" jd f cdv A outer s H E) Θ0 (bd jd 4) M.Qq:=by
 unfold M.Qq
 exact (zx (jJ (zCK hr) zEG gk QU zFZ (zC (vv 3) zH)))
theorem zJL (F:Fun K "leaners" "leaners" jd f fd) (qf:QI P w K mg base) (yd:mg "list" = none) (QU:mg "sorted" = none) (zt:mg "len" = none) :
  qH P w K mg base CX0 2 f fd ["needs","names"] (SpM K Θ0 2 M.yD):=by
 refine yA (b:=M.zCS) F Qh M.zJB fun cdv A outer s H E hr=>?_
 unfold M.zCS
 exact (zF (zHC qf hr) (zF (zHp hr) (zF (zGa yd hr) (zF (zGo zt hr) (zL (zHu QU hr))))))
abbrev zN:Stmt:=top 23
abbrev jp:List Str:=["_law_needs_here","_law_found","_law_cell_here","_law_some","_law_name_here","_law_behind","_law_more","_law_back"]
theorem qX:ja jp ["_law_needs_here","_law_found","_law_cell_here"] (zO zN):=⟨rfl,rfl,rfl,by decide +kernel,rfl,by decide +kernel,by decide +kernel⟩
theorem zBg:(["_law_needs_here","_law_found","_law_cell_here","_law_some","_law_name_here","_law_behind","_law_more","_law_back","_law_one"]:List Str).Nodup:=by decide +kernel
theorem zBP (hr:RM 2 "_law_a_need_more" zN A s f cdv):WS (cX P w K mg base jp "_law_a_need_more" zN f cdv A outer s H E) Θ0 (bd zN 0) M.j7:=by
 unfold M.j7
 exact (Jn (i:=1) (QF (vars:=["_law_one"]) (i:=3) rfl ⟨rfl,rfl,(by kernel_rfl),(by kernel_rfl),(by decide +kernel),⟨(by kernel_rfl),trivial⟩,(by kernel_rfl)⟩ qX.nd rfl (Or.inl (by kernel_rfl)) (Q8 (vc 1)) (fun _ _ _ _=>(zo (i:=8) zBg rfl (Or.inl (by kernel_rfl)) (.inr (by kernel_rfl)))) (fun _ _ _ _=>(zAm (zA5 (jG (qI hr) jl (vc 1) (vv 8))))) (fun _ _ _ _=>(vv 8)) (by kernel_rfl)))
theorem zBU (hr:RM 2 "_law_a_need_more" zN A s f cdv):WS (cX P w K mg base jp "_law_a_need_more" zN f cdv A outer s H E) Θ0 (bd zN 1) M.jS:=by
 unfold M.jS
 exact (jn (Q0 (ym (vv 3)))
  (zL (zx qZ))
  jL)
theorem zBi (zt:mg "len" = none) (hr:RM 2 "_law_a_need_more" zN A s f cdv):WS (cX P w K mg base jp "_law_a_need_more" zN f cdv A outer s H E) Θ0 (bd zN 2) M.j8:=by
 unfold M.j8
 exact (zY (i:=4) qX.nd rfl (Or.inl (by kernel_rfl)) (jG (qI hr) jl (vv 3) (zX qy qL (vv 2) (jJ j4 yU gk zt qw (zC (vv 3) zH)))))
theorem zBR (qU:JD P w K mg base) (hr:RM 2 "_law_a_need_more" zN A s f cdv):WS (cX P w K mg base jp "_law_a_need_more" zN f cdv A outer s H E) Θ0 (bd zN 3) M.j9:=by
 unfold M.j9
 exact (zY (i:=5) qX.nd rfl (Or.inl (by kernel_rfl)) (zX (OpR.or yF j5) qR (zi qU hr (by decide) gk (zC (vv 0) (zC (qj (zC (vv 4) zH)) zH)) (zS (zS jR))) (qj (zC (vv 4) zH))))
theorem zBb (Zr:zAJ P w K mg base) (hr:RM 2 "_law_a_need_more" zN A s f cdv):WS (cX P w K mg base jp "_law_a_need_more" zN f cdv A outer s H E) Θ0 (bd zN 4) M.j6:=by
 unfold M.j6
 exact (zY (i:=6) qX.nd rfl (Or.inl (by kernel_rfl)) (zi Zr hr (by decide) gk (zC (vv 0) zH) (zS jR)))
theorem zBd (zt:mg "len" = none) (hr:RM 2 "_law_a_need_more" zN A s f cdv):WS (cX P w K mg base jp "_law_a_need_more" zN f cdv A outer s H E) Θ0 (bd zN 5) M.qB:=by
 unfold M.qB
 exact (zY (i:=7) qX.nd rfl (Or.inl (by kernel_rfl)) (jG (qI hr) jl (vv 5) (zX qy qL (zX zC4 zBc (vv 2) zP) (jJ j4 yU gk zt qw (zC (vv 5) zH)))))
theorem zBQ (hr:RM 2 "_law_a_need_more" zN A s f cdv):WS (cX P w K mg base jp "_law_a_need_more" zN f cdv A outer s H E) Θ0 (bd zN 6) M.qC:=by
 unfold M.qC
 exact (ZC hr (vv 6) (vv 4) (zX (OpR.or yF j5) qR (Zp PySem.F.plainAttrs_dict PySem.F.slot_dict_get PySem.F.type_dict_get (zAV hr) zBT rfl (vv 0) (zC (vv 4) (zC (qj zH) zH))) (qj (zC (vv 7) zH))))
theorem zBa (qU:JD P w K mg base) (yQ:Ji P w K mg base) (hr:RM 2 "_law_a_need_more" zN A s f cdv):WS (cX P w K mg base jp "_law_a_need_more" zN f cdv A outer s H E) Θ0 (bd zN 7) M.qN:=by
 unfold M.qN
 exact (zx (zMQ (zMM (jG (qI hr) jl (zi yQ hr (by decide) gk (zC (vv 6) zH) (zS jR)) (vv 4))) (zLv (zBo (zBS hr) zDC (vv 4) (zi qU hr (by decide) gk (zC (vv 6) (zC (qj (zC (vv 4) zH)) zH)) (zS (zS jR))) (by rfl)))))
theorem zCG (F:Fun K "_law_a_need_more" "_law_a_need_more" zN f fd) (Zr:zAJ P w K mg base) (qU:JD P w K mg base) (yQ:Ji P w K mg base) (zt:mg "len" = none) :
  qH P w K mg base CX0 3 f fd ["_law_needs_here","_law_found","_law_cell_here"] (SpM K Θ0 3 M.qk):=by
 refine yA (b:=M.QJ) F qX M.zCH fun cdv A outer s H E hr=>?_
 unfold M.QJ
 exact (zF (zBP hr) (zF (zBU hr) (zF (zBi zt hr) (zF (zBR qU hr) (zF (zBb Zr hr) (zF (zBd zt hr) (zF (zBQ hr) (zL (zBa qU yQ hr)))))))))
abbrev ZM:Stmt:=top 20
abbrev zHt:List Str:=["_law_needs_here","_law_found","_law_nexts_here","_law_name_here","_law_others","_law_some"]
theorem Zl:ja zHt ["_law_needs_here","_law_found"] (zO ZM):=⟨rfl,rfl,rfl,by decide +kernel,rfl,by decide +kernel,by decide +kernel⟩
theorem zES:(["_law_needs_here","_law_found","_law_nexts_here","_law_name_here","_law_others","_law_some","_law_one"]:List Str).Nodup:=by decide +kernel
theorem zF7 (F:Fun K "_law_nexts" "_law_nexts" ZM f fd) :
  qH P w K mg base CX0 1 f fd ["_law_needs_here","_law_found"] (SpM K Θ0 2 M.ZP):=by
 refine yA (b:=M.Zz) F Zl M.zFz fun cdv A outer s H E hr=>?_
 unfold M.Zz
 exact (zF (zY (i:=2) Zl.nd rfl (Or.inl (by kernel_rfl)) y0)
  (zF (zCE PassesOwn.never rfl (vv 0) (zCp (n:=2) rfl (Qg (zo (i:=3) Zl.nd rfl (Or.inl (by kernel_rfl)) (.inl rfl)) (Qg (zo (i:=4) Zl.nd rfl (Or.inl (by kernel_rfl)) (.inl rfl)) zCT (fun a b=>Jk a b)) (fun a b=>Jk a b)) (zI3))
  (zF (QF (vars:=["_law_one"]) (i:=5) rfl ⟨rfl,rfl,(by kernel_rfl),(by kernel_rfl),(by decide +kernel),⟨(by kernel_rfl),trivial⟩,(by kernel_rfl)⟩ Zl.nd rfl (Or.inl (by kernel_rfl)) (Z6 (vv 4)) (fun _ _ _ _=>(zo (i:=6) zES rfl (Or.inl (by kernel_rfl)) (.inr (by kernel_rfl)))) (fun _ _ _ _=>(zAm (ZD (zDh (jN (zBS hr) zDC (vv 6) (vc 1) (by rfl)) (zAu (zDp (jG (qI hr) jl (vc 1) (vv 6)))))))) (fun _ _ _ _=>(vv 6)) (by kernel_rfl))
  (zL (jn (ym (vv 5))
  (zL (ZC hr (vv 2) (vv 3) (jG (qI hr) jl (vv 5) zP)))
  jL))))
  (zL (zx (vv 2)))))
abbrev Jx:Stmt:=top 7
abbrev zMZ:List Str:=["ring","place"]
theorem zFW:ja zMZ ["ring"] (zO Jx):=⟨rfl,rfl,rfl,by decide +kernel,rfl,by decide +kernel,by decide +kernel⟩
theorem zK3 (F:Fun K "turned" "turned" Jx f fd) (zDE:mg "min" = none) :
  qH P w K mg base CX0 1 f fd ["ring"] (SpM K Θ0 1 M.yN):=by
 refine yA (b:=M.zCB) F zFW M.zK9 fun cdv A outer s H E hr=>?_
 unfold M.zCB
 exact (zF (zY (i:=1) zFW.nd rfl (Or.inl (by kernel_rfl)) (Zp PySem.F.plainAttrs_list PySem.F.slot_list_index PySem.F.type_list_index zKH zL9 rfl (vv 0) (zC (jJ (zFi hr) zLE gk zDE zKg (zC (vv 0) zH)) zH)))
  (zL (zx (zX (OpR.or yF j5) qR (ZW zAn JO (vv 0) (qT (vv 1)) Za) (ZW zAn JO (vv 0) Za (qT (vv 1)))))))
abbrev jX:Stmt:=top 8
abbrev Qp:List Str:=["nexts","name","passed"]
theorem zAh:ja Qp ["nexts","name"] (zO jX):=⟨rfl,rfl,rfl,by decide +kernel,rfl,by decide +kernel,by decide +kernel⟩
theorem zE7 (hr:RM 1 "ring_from" jX A s f cdv):WS (cX P w K mg base Qp "ring_from" jX f cdv A outer s H E) Θ0 (bd jX 0) M.yC:=by
 unfold M.yC
 exact (zY (i:=2) zAh.nd rfl (Or.inl (by kernel_rfl)) y0)
theorem zEw (zt:mg "len" = none) (hr:RM 1 "ring_from" jX A s f cdv):WS (cX P w K mg base Qp "ring_from" jX f cdv A outer s H E) Θ0 (bd jX 1) M.yv:=by
 unfold M.yv
 exact (zAU PassesOwn.never (ZD (zDh (jN (zBS hr) zDC (vv 1) (vv 0) (by rfl)) (zAu (jN (Zb hr) QE (vv 1) (vv 2) (by rfl)))))
  (zF (ZC hr (vv 2) (vv 1) (jJ j4 yU gk zt qw (zC (vv 2) zH)))
  (zL (zY (i:=1) zAh.nd rfl (Or.inl (by kernel_rfl)) (jG (qI hr) jl (vv 0) (vv 1))))))
theorem zEe (hr:RM 1 "ring_from" jX A s f cdv):WS (cX P w K mg base Qp "ring_from" jX f cdv A outer s H E) Θ0 (bd jX 2) M.ya:=by
 unfold M.ya
 exact (jn (jN (Zb hr) QE (vv 1) (vv 2) (by rfl))
  (zL (zx (qj zH)))
  jL)
theorem zEy (zAw:zDd P w K mg base) (yd:mg "list" = none) (hr:RM 1 "ring_from" jX A s f cdv):WS (cX P w K mg base Qp "ring_from" jX f cdv A outer s H E) Θ0 (bd jX 3) M.yx:=by
 unfold M.yx
 exact (zx (zi zAw hr (by decide) gk (zC (ZW zAn JO (ZF (zBn hr) zFA gk yd zCx (zC (vv 2) zH)) (qT (jG (qI hr) jl (vv 2) (vv 1))) Za) zH) (zS jR)))
theorem zHU (F:Fun K "ring_from" "ring_from" jX f fd) (zAw:zDd P w K mg base) (zt:mg "len" = none) (yd:mg "list" = none) :
  qH P w K mg base CX0 2 f fd ["nexts","name"] (SpM K Θ0 2 M.jc):=by
 refine yA (b:=M.zBL) F zAh M.zGs fun cdv A outer s H E hr=>?_
 unfold M.zBL
 exact (zF (zE7 hr) (zF (zEw zt hr) (zF (zEe hr) (zL (zEy zAw yd hr)))))
abbrev q9:Stmt:=top 9
abbrev zDG:List Str:=["thing"]
theorem zCf:ja zDG ["thing"] (zO q9):=⟨rfl,rfl,rfl,by decide +kernel,rfl,by decide +kernel,by decide +kernel⟩
theorem zBu:(["thing","name"]:List Str).Nodup:=by decide +kernel
theorem zCq (F:Fun K "is_row_of_names" "is_row_of_names" q9 f fd) (zDF:mg "all" = none) (zt:mg "len" = none) (Ja:mg "isinstance" = none) (yd:mg "list" = none) (zA9:mg "set" = none) (zJu:mg "str" = none) :
  qH P w K mg base CX0 1 f fd ["thing"] (SpM K Θ0 1 M.yB):=by
 refine yA (b:=M.yc) F zCf M.zCb fun cdv A outer s H E hr=>?_
 unfold M.yc
 exact (zF (jn (ZD (Jo (Q0 (ym (jJ zGh zKU gk Ja zCC (zC (vv 0) (zC (zIS .list gk yd zCx) zH))))) (ZH (jN (JF hr) zAP (jJ j4 yU gk zt qw (zC (vv 0) zH)) zP (yG _)))))
  (zL (zx qZ))
  jL)
  (zF (jn (Q0 (ym (zD1 (zGt rfl) zIp gk zDF zJ1 (vars:=["name"]) rfl ⟨rfl,rfl,(by kernel_rfl),(by kernel_rfl),(by decide +kernel),trivial,(by kernel_rfl)⟩ (Z6 (vv 0)) (fun _ _ _ _=>(zo (i:=1) zBu rfl (Or.inl (by kernel_rfl)) (.inr (by kernel_rfl)))) (fun _ _ _ _=>Zj) (fun _ _ _ _=>(jJ zGh zKU gk Ja zCC (zC (vv 1) (zC (zIS .str gk zJu zO4) zH)))) (by kernel_rfl))))
  (zL (zx qZ))
  jL)
  (zL (zx (zBo (JF hr) zAP (zDM hr gk zt qw gk zA9 zKS (zC (vv 0) zH)) (jJ j4 yU gk zt qw (zC (vv 0) zH)) (yG _))))))
abbrev JA:Stmt:=top 10
abbrev zKR:List Str:=["needs","names","behind"]
theorem zDz:ja zKR ["needs","names"] (zO JA):=⟨rfl,rfl,rfl,by decide +kernel,rfl,by decide +kernel,by decide +kernel⟩
theorem zCJ:(["needs","names","behind","name","other"]:List Str).Nodup:=by decide +kernel
theorem zJI (F:Fun K "is_ring" "is_ring" JA f fd) (Ql:zAM P w K mg base) (zDF:mg "all" = none) (zDE:mg "min" = none) (zJv:mg "zip" = none) :
  qH P w K mg base CX0 2 f fd ["needs","names"] (SpM K Θ0 2 M.Zy):=by
 refine yA (b:=M.zAG) F zDz M.zJP fun cdv A outer s H E hr=>?_
 unfold M.zAG
 exact (zF (jn (ZD (Jo (Q0 (ym (zi Ql hr (by decide) gk (zC (vv 1) zH) (zS jR)))) (ZH (jN (zPT hr) zQZ (jG (qI hr) jl (vv 1) zP) (jJ (zFi hr) zLE gk zDE zKg (zC (vv 1) zH)) (yG _)))))
  (zL (zx qZ))
  jL)
  (zF (zY (i:=2) zDz.nd rfl (Or.inl (by kernel_rfl)) (zX (OpR.or yF j5) qR (ZW zAn JO (vv 1) (qT zP) Za) (ZW zAn JO (vv 1) Za (qT zP))))
  (zL (zx (zD1 (zGt rfl) zIp gk zDF zJ1 (vars:=["name","other"]) rfl ⟨rfl,rfl,(by kernel_rfl),(by kernel_rfl),(by decide +kernel),⟨(by kernel_rfl),trivial⟩,(by kernel_rfl)⟩ (zLP gk zJv (vv 1) (vv 2)) (fun _ _ _ _=>(zCp (n:=2) rfl (Qg (zo (i:=3) zCJ rfl (Or.inl (by kernel_rfl)) (.inr (by kernel_rfl))) (Qg (zo (i:=4) zCJ rfl (Or.inl (by kernel_rfl)) (.inr (by kernel_rfl))) zCT (fun a b=>Jk a b)) (fun a b=>Jk a b)) (zI3))) (fun _ _ _ _=>Zj) (fun _ _ _ _=>(zBo (zBS hr) zDC (vv 4) (Zp PySem.F.plainAttrs_dict PySem.F.slot_dict_get PySem.F.type_dict_get (zAV hr) zBT rfl (vc 0) (zC (vv 3) (zC (qj zH) zH))) (by rfl))) (by kernel_rfl))))))
abbrev ZL:Stmt:=top 21
abbrev zHE:List Str:=["_law_needs_here","_law_found","_law_names_here","_law_nexts_here","_law_name_here","_law_ring","_law_behind"]
theorem Zn:ja zHE ["_law_needs_here","_law_found","_law_names_here"] (zO ZL):=⟨rfl,rfl,rfl,by decide +kernel,rfl,by decide +kernel,by decide +kernel⟩
theorem zD7:(["_law_needs_here","_law_found","_law_names_here","_law_nexts_here","_law_name_here","_law_ring","_law_behind","_law_one"]:List Str).Nodup:=by decide +kernel
theorem zEU:(["_law_needs_here","_law_found","_law_names_here","_law_nexts_here","_law_name_here","_law_ring","_law_behind","_law_one"]:List Str).Nodup:=by decide +kernel
theorem zGE (F:Fun K "_law_rings" "_law_rings" ZL f fd) (zAx:zCo P w K mg base) (zBO:zDN P w K mg base) (qU:JD P w K mg base) (zCt:zFT P w K mg base) :
  qH P w K mg base CX0 3 f fd ["_law_needs_here","_law_found","_law_names_here"] (SpM K Θ0 3 M.QR):=by
 refine yA (b:=M.QL) F Zn M.zFx fun cdv A outer s H E hr=>?_
 unfold M.QL
 exact (zF (zY (i:=3) Zn.nd rfl (Or.inl (by kernel_rfl)) (zi zAx hr (by decide) gk (zC (vv 0) (zC (vc 1) zH)) (zS (zS jR))))
  (zF (QO PassesOwn.never rfl (Z6 (vv 2)) (zo (i:=4) Zn.nd rfl (Or.inl (by kernel_rfl)) (.inl rfl))
  (zF (zY (i:=5) Zn.nd rfl (Or.inl (by kernel_rfl)) (zi zBO hr (by decide) gk (zC (vv 3) (zC (vv 4) zH)) (zS (zS jR))))
  (zF (jn (ZD (Jo (Q0 (ym (zi zCt hr (by decide) gk (zC (vv 0) (zC (vv 5) zH)) (zS (zS jR))))) (ZH (ym (ZZ (vars:=["_law_one"]) rfl ⟨rfl,rfl,(by kernel_rfl),(by kernel_rfl),(by decide +kernel),⟨(by kernel_rfl),trivial⟩,(by kernel_rfl)⟩ (Z6 (vv 5)) (fun _ _ _ _=>(zo (i:=7) zEU rfl (Or.inl (by kernel_rfl)) (.inr (by kernel_rfl)))) (fun _ _ _ _=>(zAm (zA5 (jG (qI hr) jl (vc 1) (vv 7))))) (fun _ _ _ _=>(vv 7)) (by kernel_rfl))))))
  (zL (zx qZ))
  jL)
  (zF (zY (i:=6) Zn.nd rfl (Or.inr (by kernel_rfl)) (zi qU hr (by decide) gk (zC (vv 0) (zC (vv 5) zH)) (zS (zS jR))))
  (zL (jn (ZD (Jo (jN (Zb hr) QE (vv 4) (vc 6) (by rfl)) (ZH (ym (ZZ (vars:=["_law_one"]) rfl ⟨rfl,rfl,(by kernel_rfl),(by kernel_rfl),(by decide +kernel),⟨(by kernel_rfl),trivial⟩,(by kernel_rfl)⟩ (Z6 (vv 5)) (fun _ _ _ _=>(zo (i:=7) zD7 rfl (Or.inl (by kernel_rfl)) (.inr (by kernel_rfl)))) (fun _ _ _ _=>(zAm (jN (Zb hr) QE (vv 7) (vc 6) (by rfl)))) (fun _ _ _ _=>(vv 7)) (by kernel_rfl))))))
  (zL (zx qZ))
  jL))))))
  (zL (zx qZ))))
abbrev ZO:Stmt:=top 22
abbrev zGi:List Str:=["_law_needs_here","_law_found","_law_rows","_law_far","_law_some","_law_name_here","_law_other"]
theorem Qx:ja zGi ["_law_needs_here","_law_found","_law_rows","_law_far"] (zO ZO):=⟨rfl,rfl,rfl,by decide +kernel,rfl,by decide +kernel,by decide +kernel⟩
theorem zEQ:(["_law_needs_here","_law_found","_law_rows","_law_far","_law_some","_law_name_here","_law_other","_law_one"]:List Str).Nodup:=by decide +kernel
theorem zF3 (F:Fun K "_law_ahead" "_law_ahead" ZO f fd) (qU:JD P w K mg base) (zt:mg "len" = none) :
  qH P w K mg base CX0 3 f fd ["_law_needs_here","_law_found","_law_rows","_law_far"] (SpM K Θ0 4 M.QA):=by
 refine yA (b:=M.QK) F Qx M.zF9 fun cdv A outer s H E hr=>?_
 unfold M.QK
 exact (zF (Jn (i:=1) (QF (vars:=["_law_one"]) (i:=4) rfl ⟨rfl,rfl,(by kernel_rfl),(by kernel_rfl),(by decide +kernel),⟨(by kernel_rfl),trivial⟩,(by kernel_rfl)⟩ Qx.nd rfl (Or.inl (by kernel_rfl)) (Q8 (vc 1)) (fun _ _ _ _=>(zo (i:=7) zEQ rfl (Or.inl (by kernel_rfl)) (.inr (by kernel_rfl)))) (fun _ _ _ _=>(zAm (zA5 (jG (qI hr) jl (vc 1) (vv 7))))) (fun _ _ _ _=>(vv 7)) (by kernel_rfl)))
  (zF (QO PassesOwn.never rfl (Z6 (ZW zAn JO (vv 4) (qT (vv 3)) (qT (zX (OpR.or yF j5) qR (vv 3) zP)))) (zo (i:=5) Qx.nd rfl (Or.inl (by kernel_rfl)) (.inl rfl))
  (zF (jn (ZD (Jo (jN zOu zMw (jG (qI hr) jl (vc 1) (vv 5)) (jJ j4 yU gk zt qw (zC (vv 2) zH)) (yG _)) (ZH (jN (Zb hr) QE (vv 5) (jG (qI hr) jl (vv 2) (jG (qI hr) jl (vc 1) (vv 5))) (by rfl)))))
  (zL (zx qZ))
  jL)
  (zF (jn (jN (zBS hr) zDC (vv 5) (zi qU hr (by decide) gk (zC (vv 0) (zC (qj (zC (vv 5) zH)) zH)) (zS (zS jR))) (by rfl))
  (zL (zx qZ))
  jL)
  (zL (QO PassesOwn.never rfl (Z6 (Zp PySem.F.plainAttrs_dict PySem.F.slot_dict_get PySem.F.type_dict_get (zAV hr) zBT rfl (vv 0) (zC (vv 5) (zC (qj zH) zH)))) (zo (i:=6) Qx.nd rfl (Or.inl (by kernel_rfl)) (.inl rfl))
  (zF (jn (ZD (Jo (zDp (jG (qI hr) jl (vc 1) (vv 6))) (ZH (jN zOu zMw (jG (qI hr) jl (vc 1) (vv 6)) (jG (qI hr) jl (vc 1) (vv 5)) (yG _)))))
  (zL (zx qZ))
  jL)
  (zL (jn (jN (Zb hr) QE (vv 6) (jG (qI hr) jl (vv 2) (jG (qI hr) jl (vc 1) (vv 6))) (by rfl))
  (zL (zx qZ))
  jL))))))))
  (zL (zx qZ))))
abbrev qW:Stmt:=top 5
abbrev zAX:List Str:=["needs","ranked","found","name","rank"]
theorem zAd:ja zAX ["needs"] (zO qW):=⟨rfl,rfl,rfl,by decide +kernel,rfl,by decide +kernel,by decide +kernel⟩
theorem zJU:(["needs","ranked","found","name","rank","more"]:List Str).Nodup:=by decide +kernel
theorem zI1 (yQ:Ji P w K mg base) (hr:RM 2 "waves" qW A s f cdv):WS (cX P w K mg base zAX "waves" qW f cdv A outer s H E) Θ0 (bd qW 0) M.QH:=by
 unfold M.QH
 exact (zY (i:=1) zAd.nd rfl (Or.inl (by kernel_rfl)) (zi yQ hr (by decide) gk (zC (vv 0) zH) (zS jR)))
theorem zJO (hr:RM 2 "waves" qW A s f cdv):WS (cX P w K mg base zAX "waves" qW f cdv A outer s H E) Θ0 (bd qW 1) M.QB:=by
 unfold M.QB
 exact (zY (i:=2) zAd.nd rfl (Or.inl (by kernel_rfl)) (qj zH))
theorem zJV (jt:mg "range" = none) (zt:mg "len" = none) (hr:RM 2 "waves" qW A s f cdv):WS (cX P w K mg base zAX "waves" qW f cdv A outer s H E) Θ0 (bd qW 2) M.QD:=by
 unfold M.QD
 exact (QS PassesOwn.never rfl (vv 1) (zo (i:=3) zAd.nd rfl (Or.inl (by kernel_rfl)) (.inl rfl))
  (zF (zY (i:=4) zAd.nd rfl (Or.inl (by kernel_rfl)) (jG (qI hr) jl (vv 1) (vv 3)))
  (zL (jn (zA5 (vv 4))
  (zF (zAE (Zp PySem.F.plainAttrs_list PySem.F.slot_list_extend PySem.F.type_list_extend zKZ zKK rfl (vv 2) (zC (ZZ (vars:=["more"]) rfl ⟨rfl,rfl,(by kernel_rfl),(by kernel_rfl),(by decide +kernel),trivial,(by kernel_rfl)⟩ (Zw gk jt (zX zI6 zG9 (zX (OpR.or yF j5) qR (vv 4) zP) (jJ j4 yU gk zt qw (zC (vv 2) zH)))) (fun _ _ _ _=>(zo (i:=5) zJU rfl (Or.inl (by kernel_rfl)) (.inr (by kernel_rfl)))) (fun _ _ _ _=>Zj) (fun _ _ _ _=>(qj zH)) (by kernel_rfl)) zH)))
  (zL (zAE (Zp PySem.F.plainAttrs_list PySem.F.slot_list_append PySem.F.type_list_append zA0 zAz rfl (jG (qI hr) jl (vv 2) (vv 4)) (zC (vv 3) zH)))))
  jL))))
theorem zJi (hr:RM 2 "waves" qW A s f cdv):WS (cX P w K mg base zAX "waves" qW f cdv A outer s H E) Θ0 (bd qW 3) M.zAB:=by
 unfold M.zAB
 exact (zx (vv 2))
theorem zLO (F:Fun K "waves" "waves" qW f fd) (yQ:Ji P w K mg base) (jt:mg "range" = none) (zt:mg "len" = none) :
  qH P w K mg base CX0 3 f fd ["needs"] (SpM K Θ0 1 M.zC6):=by
 refine zAj (N:=zAX) (b:=M.zEo) F zAd fun cdv A outer s H E hr=>?_
 unfold M.zEo
 exact (zF (zI1 yQ hr) (zF (zJO hr) (zF (zJV jt zt hr) (zL (zJi hr)))))
abbrev jv:Stmt:=top 24
abbrev J0:List Str:=["_law_script","_law_names_here","_law_needs_here","_law_found","_law_lost","_law_far"]
theorem zBh:ja J0 ["_law_script"] (zO jv):=⟨rfl,rfl,rfl,by decide +kernel,rfl,by decide +kernel,by decide +kernel⟩
theorem zMI:(["_law_script","_law_names_here","_law_needs_here","_law_found","_law_lost","_law_far","_law_one"]:List Str).Nodup:=by decide +kernel
theorem zLw (QV:zAq P w K mg base) (hr:RM 3 "law" jv A s f cdv):WS (cX P w K mg base J0 "law" jv f cdv A outer s H E) Θ0 (bd jv 0) M.Jy:=by
 unfold M.Jy
 exact (zY (i:=1) zBh.nd rfl (Or.inl (by kernel_rfl)) (zi QV hr (by decide) gk (zC (vv 0) (zC zP zH)) (zS (zS jR))))
theorem zL4 (QW:zAg P w K mg base) (hr:RM 3 "law" jv A s f cdv):WS (cX P w K mg base J0 "law" jv f cdv A outer s H E) Θ0 (bd jv 1) M.Jr:=by
 unfold M.Jr
 exact (zY (i:=2) zBh.nd rfl (Or.inl (by kernel_rfl)) (zi QW hr (by decide) gk (zC (vv 0) (zC zP (zC (vv 1) zH))) (zS (zS (zS jR)))))
theorem zLs (yQ:Ji P w K mg base) (hr:RM 3 "law" jv A s f cdv):WS (cX P w K mg base J0 "law" jv f cdv A outer s H E) Θ0 (bd jv 2) M.Jf:=by
 unfold M.Jf
 exact (zY (i:=3) zBh.nd rfl (Or.inr (by kernel_rfl)) (zi yQ hr (by decide) gk (zC (vv 2) zH) (zS jR)))
theorem zLe (hr:RM 3 "law" jv A s f cdv):WS (cX P w K mg base J0 "law" jv f cdv A outer s H E) Θ0 (bd jv 3) M.Ju:=by
 unfold M.Ju
 exact (Jn (i:=3) (QF (vars:=["_law_one"]) (i:=4) rfl ⟨rfl,rfl,(by kernel_rfl),(by kernel_rfl),(by decide +kernel),⟨(by kernel_rfl),trivial⟩,(by kernel_rfl)⟩ zBh.nd rfl (Or.inl (by kernel_rfl)) (Q8 (vc 3)) (fun _ _ _ _=>(zo (i:=6) zMI rfl (Or.inl (by kernel_rfl)) (.inr (by kernel_rfl)))) (fun _ _ _ _=>(zAm (zDp (jG (qI hr) jl (vc 3) (vv 6))))) (fun _ _ _ _=>(vv 6)) (by kernel_rfl)))
theorem zMN (jC:qt P w K mg base) (hr:RM 3 "law" jv A s f cdv):WS (cX P w K mg base J0 "law" jv f cdv A outer s H E) Θ0 (bd jv 4) M.Jt:=by
 unfold M.Jt
 exact (zY (i:=5) zBh.nd rfl (Or.inl (by kernel_rfl)) (zX qy qL (zi jC hr (by decide) gk (zC (vv 0) (zC zP zH)) (zS (zS jR))) zP))
theorem zLf (QX:zAr P w K mg base) (hr:RM 3 "law" jv A s f cdv):WS (cX P w K mg base J0 "law" jv f cdv A outer s H E) Θ0 (bd jv 5) M.Jq:=by
 unfold M.Jq
 exact (jn (Q0 (ym (zi QX hr (by decide) gk (zC (vv 2) (zC (vc 3) (zC (ZW zAn JO (vv 4) (qT (vv 5)) (qT (zX (OpR.or yF j5) qR (vv 5) zP))) zH))) (zS (zS (zS jR))))))
  (zL (zx qZ))
  jL)
theorem zLo (QY:zAv P w K mg base) (zBk:zEj P w K mg base) (hr:RM 3 "law" jv A s f cdv):WS (cX P w K mg base J0 "law" jv f cdv A outer s H E) Θ0 (bd jv 6) M.Jd:=by
 unfold M.Jd
 exact (jn (Q0 (ym (zi QY hr (by decide) gk (zC (vv 2) (zC (vc 3) (zC (zi zBk hr (by decide) gk (zC (vv 2) zH) (zS jR)) (zC (vv 5) zH)))) (zS (zS (zS (zS jR)))))))
  (zL (zx qZ))
  jL)
theorem zMA (yW:Z4 P w K mg base) (jC:qt P w K mg base) (hr:RM 3 "law" jv A s f cdv):WS (cX P w K mg base J0 "law" jv f cdv A outer s H E) Θ0 (bd jv 7) M.zAY:=by
 unfold M.zAY
 exact (zx (zi yW hr (by decide) gk (zC (vv 2) (zC (vc 3) (zC (zi jC hr (by decide) gk (zC (vv 0) (zC zP zH)) (zS (zS jR))) zH))) (zS (zS (zS jR)))))
theorem zOw (F:Fun K "law" "law" jv f fd) (QV:zAq P w K mg base) (QW:zAg P w K mg base) (yQ:Ji P w K mg base) (yW:Z4 P w K mg base) (jC:qt P w K mg base) (QX:zAr P w K mg base) (QY:zAv P w K mg base) (zBk:zEj P w K mg base) :
  qH P w K mg base CX0 4 f fd ["_law_script"] (SpM K Θ0 1 M.zDy):=by
 refine zAj (N:=J0) (b:=M.zJk) F zBh fun cdv A outer s H E hr=>?_
 unfold M.zJk
 exact (zF (zLw QV hr) (zF (zL4 QW hr) (zF (zLs yQ hr) (zF (zLe hr) (zF (zMN jC hr) (zF (zLf QX hr) (zF (zLo QY zBk hr) (zL (zMA yW jC hr)))))))))
theorem zPn {l:PySem.W.OpenLaw}{w:World}{K:PySem.W.Frag}{h:Heap}{mg:Str->Option Value}{fa f1 f2 f3 f4 f5 f6 f7 f8 f9 f10 f11 f12 f13 f14 f15 f16 f17 f18 f19 f20 f21:Addr} (X:K.In h) (G:h.Ns mainGlobals mg) (hfa:mg "law" = some (.ref fa))
  {od1 an1 od2 an2 od3 an3 od4 an4 od5 an5 od6 an6 od7 an7 od8 an8 od9 an9 od10 an10 od11 an11 od12 an12 od13 an13 od14 an14 od15 an15 od16 an16 od17 an17 od18 an18 od19 an19 od20 an20 od21 an21:Option Addr}{sl1 sl2 sl3 sl4 sl5 sl6 sl7 sl8 sl9 sl10 sl11 sl12 sl13 sl14 sl15 sl16 sl17 sl18 sl19 sl20 sl21:Array (Option Value)}{oc1 kV1 dc1 pm1 cd1 ct1 oc2 kV2 dc2 pm2 cd2 ct2 oc3 kV3 dc3 pm3 cd3 ct3 oc4 kV4 dc4 pm4 cd4 ct4 oc5 kV5 dc5 pm5 cd5 ct5 oc6 kV6 dc6 pm6 cd6 ct6 oc7 kV7 dc7 pm7 cd7 ct7 oc8 kV8 dc8 pm8 cd8 ct8 oc9 kV9 dc9 pm9 cd9 ct9 oc10 kV10 dc10 pm10 cd10 ct10 oc11 kV11 dc11 pm11 cd11 ct11 oc12 kV12 dc12 pm12 cd12 ct12 oc13 kV13 dc13 pm13 cd13 ct13 oc14 kV14 dc14 pm14 cd14 ct14 oc15 kV15 dc15 pm15 cd15 ct15 oc16 kV16 dc16 pm16 cd16 ct16 oc17 kV17 dc17 pm17 cd17 ct17 oc18 kV18 dc18 pm18 cd18 ct18 oc19 kV19 dc19 pm19 cd19 ct19 oc20 kV20 dc20 pm20 cd20 ct20 oc21 kV21 dc21 pm21 cd21 ct21:Value}
  (a1:PySem.W.nsIn K mainGlobals "_law_cell" = some (some (.ref f1))) (l1:K.lookup f1=some ⟨oc1,od1,.func (PySem.W.fnOf "_law_cell" "_law_cell" (jh Zv) (jP Zv) (zO Zv) .none kV1 dc1 pm1 an1 cd1 ct1),sl1⟩) (c1:PySem.W.codeIn K cd1 "_law_cell" = true) (k1:PySem.W.keepIn K (.ref f1)=true)
  (a2:PySem.W.nsIn K mainGlobals "_law_mixed" = some (some (.ref f2))) (l2:K.lookup f2=some ⟨oc2,od2,.func (PySem.W.fnOf "_law_mixed" "_law_mixed" (jh ZS) (jP ZS) (zO ZS) .none kV2 dc2 pm2 an2 cd2 ct2),sl2⟩) (c2:PySem.W.codeIn K cd2 "_law_mixed" = true) (k2:PySem.W.keepIn K (.ref f2)=true)
  (a3:PySem.W.nsIn K mainGlobals "_law_name" = some (some (.ref f3))) (l3:K.lookup f3=some ⟨oc3,od3,.func (PySem.W.fnOf "_law_name" "_law_name" (jh jB) (jP jB) (zO jB) .none kV3 dc3 pm3 an3 cd3 ct3),sl3⟩) (c3:PySem.W.codeIn K cd3 "_law_name" = true) (k3:PySem.W.keepIn K (.ref f3)=true)
  (a4:PySem.W.nsIn K mainGlobals "_law_names" = some (some (.ref f4))) (l4:K.lookup f4=some ⟨oc4,od4,.func (PySem.W.fnOf "_law_names" "_law_names" (jh zy) (jP zy) (zO zy) .none kV4 dc4 pm4 an4 cd4 ct4),sl4⟩) (c4:PySem.W.codeIn K cd4 "_law_names" = true) (k4:PySem.W.keepIn K (.ref f4)=true)
  (a5:PySem.W.nsIn K mainGlobals "_law_row" = some (some (.ref f5))) (l5:K.lookup f5=some ⟨oc5,od5,.func (PySem.W.fnOf "_law_row" "_law_row" (jh Qc) (jP Qc) (zO Qc) .none kV5 dc5 pm5 an5 cd5 ct5),sl5⟩) (c5:PySem.W.codeIn K cd5 "_law_row" = true) (k5:PySem.W.keepIn K (.ref f5)=true)
  (a6:PySem.W.nsIn K mainGlobals "_law_needs" = some (some (.ref f6))) (l6:K.lookup f6=some ⟨oc6,od6,.func (PySem.W.fnOf "_law_needs" "_law_needs" (jh jQ) (jP jQ) (zO jQ) .none kV6 dc6 pm6 an6 cd6 ct6),sl6⟩) (c6:PySem.W.codeIn K cd6 "_law_needs" = true) (k6:PySem.W.keepIn K (.ref f6)=true)
  (a7:PySem.W.nsIn K mainGlobals "needers_of" = some (some (.ref f7))) (l7:K.lookup f7=some ⟨oc7,od7,.func (PySem.W.fnOf "needers_of" "needers_of" (jh ZJ) (jP ZJ) (zO ZJ) .none kV7 dc7 pm7 an7 cd7 ct7),sl7⟩) (c7:PySem.W.codeIn K cd7 "needers_of" = true) (k7:PySem.W.keepIn K (.ref f7)=true)
  (a8:PySem.W.nsIn K mainGlobals "names_of" = some (some (.ref f8))) (l8:K.lookup f8=some ⟨oc8,od8,.func (PySem.W.fnOf "names_of" "names_of" (jh QZ) (jP QZ) (zO QZ) .none kV8 dc8 pm8 an8 cd8 ct8),sl8⟩) (c8:PySem.W.codeIn K cd8 "names_of" = true) (k8:PySem.W.keepIn K (.ref f8)=true)
  (a9:PySem.W.nsIn K mainGlobals "ranks" = some (some (.ref f9))) (l9:K.lookup f9=some ⟨oc9,od9,.func (PySem.W.fnOf "ranks" "ranks" (jh je) (jP je) (zO je) .none kV9 dc9 pm9 an9 cd9 ct9),sl9⟩) (c9:PySem.W.codeIn K cd9 "ranks" = true) (k9:PySem.W.keepIn K (.ref f9)=true)
  (a10:PySem.W.nsIn K mainGlobals "_law_copied" = some (some (.ref f10))) (l10:K.lookup f10=some ⟨oc10,od10,.func (PySem.W.fnOf "_law_copied" "_law_copied" (jh yu) (jP yu) (zO yu) .none kV10 dc10 pm10 an10 cd10 ct10),sl10⟩) (c10:PySem.W.codeIn K cd10 "_law_copied" = true) (k10:PySem.W.keepIn K (.ref f10)=true)
  (a11:PySem.W.nsIn K mainGlobals "leaners" = some (some (.ref f11))) (l11:K.lookup f11=some ⟨oc11,od11,.func (PySem.W.fnOf "leaners" "leaners" (jh jd) (jP jd) (zO jd) .none kV11 dc11 pm11 an11 cd11 ct11),sl11⟩) (c11:PySem.W.codeIn K cd11 "leaners" = true) (k11:PySem.W.keepIn K (.ref f11)=true)
  (a12:PySem.W.nsIn K mainGlobals "_law_a_need_more" = some (some (.ref f12))) (l12:K.lookup f12=some ⟨oc12,od12,.func (PySem.W.fnOf "_law_a_need_more" "_law_a_need_more" (jh zN) (jP zN) (zO zN) .none kV12 dc12 pm12 an12 cd12 ct12),sl12⟩) (c12:PySem.W.codeIn K cd12 "_law_a_need_more" = true) (k12:PySem.W.keepIn K (.ref f12)=true)
  (a13:PySem.W.nsIn K mainGlobals "_law_nexts" = some (some (.ref f13))) (l13:K.lookup f13=some ⟨oc13,od13,.func (PySem.W.fnOf "_law_nexts" "_law_nexts" (jh ZM) (jP ZM) (zO ZM) .none kV13 dc13 pm13 an13 cd13 ct13),sl13⟩) (c13:PySem.W.codeIn K cd13 "_law_nexts" = true) (k13:PySem.W.keepIn K (.ref f13)=true)
  (a14:PySem.W.nsIn K mainGlobals "turned" = some (some (.ref f14))) (l14:K.lookup f14=some ⟨oc14,od14,.func (PySem.W.fnOf "turned" "turned" (jh Jx) (jP Jx) (zO Jx) .none kV14 dc14 pm14 an14 cd14 ct14),sl14⟩) (c14:PySem.W.codeIn K cd14 "turned" = true) (k14:PySem.W.keepIn K (.ref f14)=true)
  (a15:PySem.W.nsIn K mainGlobals "ring_from" = some (some (.ref f15))) (l15:K.lookup f15=some ⟨oc15,od15,.func (PySem.W.fnOf "ring_from" "ring_from" (jh jX) (jP jX) (zO jX) .none kV15 dc15 pm15 an15 cd15 ct15),sl15⟩) (c15:PySem.W.codeIn K cd15 "ring_from" = true) (k15:PySem.W.keepIn K (.ref f15)=true)
  (a16:PySem.W.nsIn K mainGlobals "is_row_of_names" = some (some (.ref f16))) (l16:K.lookup f16=some ⟨oc16,od16,.func (PySem.W.fnOf "is_row_of_names" "is_row_of_names" (jh q9) (jP q9) (zO q9) .none kV16 dc16 pm16 an16 cd16 ct16),sl16⟩) (c16:PySem.W.codeIn K cd16 "is_row_of_names" = true) (k16:PySem.W.keepIn K (.ref f16)=true)
  (a17:PySem.W.nsIn K mainGlobals "is_ring" = some (some (.ref f17))) (l17:K.lookup f17=some ⟨oc17,od17,.func (PySem.W.fnOf "is_ring" "is_ring" (jh JA) (jP JA) (zO JA) .none kV17 dc17 pm17 an17 cd17 ct17),sl17⟩) (c17:PySem.W.codeIn K cd17 "is_ring" = true) (k17:PySem.W.keepIn K (.ref f17)=true)
  (a18:PySem.W.nsIn K mainGlobals "_law_rings" = some (some (.ref f18))) (l18:K.lookup f18=some ⟨oc18,od18,.func (PySem.W.fnOf "_law_rings" "_law_rings" (jh ZL) (jP ZL) (zO ZL) .none kV18 dc18 pm18 an18 cd18 ct18),sl18⟩) (c18:PySem.W.codeIn K cd18 "_law_rings" = true) (k18:PySem.W.keepIn K (.ref f18)=true)
  (a19:PySem.W.nsIn K mainGlobals "_law_ahead" = some (some (.ref f19))) (l19:K.lookup f19=some ⟨oc19,od19,.func (PySem.W.fnOf "_law_ahead" "_law_ahead" (jh ZO) (jP ZO) (zO ZO) .none kV19 dc19 pm19 an19 cd19 ct19),sl19⟩) (c19:PySem.W.codeIn K cd19 "_law_ahead" = true) (k19:PySem.W.keepIn K (.ref f19)=true)
  (a20:PySem.W.nsIn K mainGlobals "waves" = some (some (.ref f20))) (l20:K.lookup f20=some ⟨oc20,od20,.func (PySem.W.fnOf "waves" "waves" (jh qW) (jP qW) (zO qW) .none kV20 dc20 pm20 an20 cd20 ct20),sl20⟩) (c20:PySem.W.codeIn K cd20 "waves" = true) (k20:PySem.W.keepIn K (.ref f20)=true)
  (a21:PySem.W.nsIn K mainGlobals "law" = some (some (.ref f21))) (l21:K.lookup f21=some ⟨oc21,od21,.func (PySem.W.fnOf "law" "law" (jh jv) (jP jv) (zO jv) .none kV21 dc21 pm21 an21 cd21 ct21),sl21⟩) (c21:PySem.W.codeIn K cd21 "law" = true) (k21:PySem.W.keepIn K (.ref f21)=true)
  (z_len:PySem.W.nsIn K mainGlobals "len" = some none)
  (z_range:PySem.W.nsIn K mainGlobals "range" = some none)
  (z_max:PySem.W.nsIn K mainGlobals "max" = some none)
  (z_int:PySem.W.nsIn K mainGlobals "int" = some none)
  (z_dict:PySem.W.nsIn K mainGlobals "dict" = some none)
  (z_sorted:PySem.W.nsIn K mainGlobals "sorted" = some none)
  (z_set:PySem.W.nsIn K mainGlobals "set" = some none)
  (z_list:PySem.W.nsIn K mainGlobals "list" = some none)
  (z_min:PySem.W.nsIn K mainGlobals "min" = some none)
  (z_all:PySem.W.nsIn K mainGlobals "all" = some none)
  (z_isinstance:PySem.W.nsIn K mainGlobals "isinstance" = some none)
  (z_str:PySem.W.nsIn K mainGlobals "str" = some none)
  (z_zip:PySem.W.nsIn K mainGlobals "zip" = some none)
  : ∃ fd:FuncData,(∀ (s:Shared) (v:Value),BindsTo s fd ⟨[v],[]⟩ [("_law_script",v)])/\fd.scope.names.lookup ("_law_script" : Str)=some .local/\∀ base:Heap,K.In base->base.Ns mainGlobals mg->qH l.prog w K mg base CX0 4 fa fd ["_law_script"] (SpM K Θ0 1 M.zDy):=by
 have e:=hfa.symm.trans (PySem.W.mg_of X G a21)
 cases e
 have F1:=qa (x := "_law_cell") (qual := "_law_cell") (st:=Zv) l1 c1 k1
 have B1:=F1.binds (ps:=["_law_script","_law_k"]) fun _ _ _ _ _ _ us hl=>match us,hl with | [_,_],_=>rfl
 have F2:=qa (x := "_law_mixed") (qual := "_law_mixed") (st:=ZS) l2 c2 k2
 have B2:=F2.binds (ps:=["_law_cell_here","_law_k"]) fun _ _ _ _ _ _ us hl=>match us,hl with | [_,_],_=>rfl
 have F3:=qa (x := "_law_name") (qual := "_law_name") (st:=jB) l3 c3 k3
 have B3:=F3.binds (ps:=["_law_cell_here","_law_taken"]) fun _ _ _ _ _ _ us hl=>match us,hl with | [_,_],_=>rfl
 have F4:=qa (x := "_law_names") (qual := "_law_names") (st:=zy) l4 c4 k4
 have B4:=F4.binds (ps:=["_law_script","_law_base"]) fun _ _ _ _ _ _ us hl=>match us,hl with | [_,_],_=>rfl
 have F5:=qa (x := "_law_row") (qual := "_law_row") (st:=Qc) l5 c5 k5
 have B5:=F5.binds (ps:=["_law_cell_here","_law_k","_law_shape","_law_names_here"]) fun _ _ _ _ _ _ us hl=>match us,hl with | [_,_,_,_],_=>rfl
 have F6:=qa (x := "_law_needs") (qual := "_law_needs") (st:=jQ) l6 c6 k6
 have B6:=F6.binds (ps:=["_law_script","_law_base","_law_names_here"]) fun _ _ _ _ _ _ us hl=>match us,hl with | [_,_,_],_=>rfl
 have F7:=qa (x := "needers_of") (qual := "needers_of") (st:=ZJ) l7 c7 k7
 have B7:=F7.binds (ps:=["needs"]) fun _ _ _ _ _ _ us hl=>match us,hl with | [_],_=>rfl
 have F8:=qa (x := "names_of") (qual := "names_of") (st:=QZ) l8 c8 k8
 have B8:=F8.binds (ps:=["needs"]) fun _ _ _ _ _ _ us hl=>match us,hl with | [_],_=>rfl
 have F9:=qa (x := "ranks") (qual := "ranks") (st:=je) l9 c9 k9
 have B9:=F9.binds (ps:=["needs"]) fun _ _ _ _ _ _ us hl=>match us,hl with | [_],_=>rfl
 have F10:=qa (x := "_law_copied") (qual := "_law_copied") (st:=yu) l10 c10 k10
 have B10:=F10.binds (ps:=["_law_needs_here"]) fun _ _ _ _ _ _ us hl=>match us,hl with | [_],_=>rfl
 have F11:=qa (x := "leaners") (qual := "leaners") (st:=jd) l11 c11 k11
 have B11:=F11.binds (ps:=["needs","names"]) fun _ _ _ _ _ _ us hl=>match us,hl with | [_,_],_=>rfl
 have F12:=qa (x := "_law_a_need_more") (qual := "_law_a_need_more") (st:=zN) l12 c12 k12
 have B12:=F12.binds (ps:=["_law_needs_here","_law_found","_law_cell_here"]) fun _ _ _ _ _ _ us hl=>match us,hl with | [_,_,_],_=>rfl
 have F13:=qa (x := "_law_nexts") (qual := "_law_nexts") (st:=ZM) l13 c13 k13
 have B13:=F13.binds (ps:=["_law_needs_here","_law_found"]) fun _ _ _ _ _ _ us hl=>match us,hl with | [_,_],_=>rfl
 have F14:=qa (x := "turned") (qual := "turned") (st:=Jx) l14 c14 k14
 have B14:=F14.binds (ps:=["ring"]) fun _ _ _ _ _ _ us hl=>match us,hl with | [_],_=>rfl
 have F15:=qa (x := "ring_from") (qual := "ring_from") (st:=jX) l15 c15 k15
 have B15:=F15.binds (ps:=["nexts","name"]) fun _ _ _ _ _ _ us hl=>match us,hl with | [_,_],_=>rfl
 have F16:=qa (x := "is_row_of_names") (qual := "is_row_of_names") (st:=q9) l16 c16 k16
 have B16:=F16.binds (ps:=["thing"]) fun _ _ _ _ _ _ us hl=>match us,hl with | [_],_=>rfl
 have F17:=qa (x := "is_ring") (qual := "is_ring") (st:=JA) l17 c17 k17
 have B17:=F17.binds (ps:=["needs","names"]) fun _ _ _ _ _ _ us hl=>match us,hl with | [_,_],_=>rfl
 have F18:=qa (x := "_law_rings") (qual := "_law_rings") (st:=ZL) l18 c18 k18
 have B18:=F18.binds (ps:=["_law_needs_here","_law_found","_law_names_here"]) fun _ _ _ _ _ _ us hl=>match us,hl with | [_,_,_],_=>rfl
 have F19:=qa (x := "_law_ahead") (qual := "_law_ahead") (st:=ZO) l19 c19 k19
 have B19:=F19.binds (ps:=["_law_needs_here","_law_found","_law_rows","_law_far"]) fun _ _ _ _ _ _ us hl=>match us,hl with | [_,_,_,_],_=>rfl
 have F20:=qa (x := "waves") (qual := "waves") (st:=qW) l20 c20 k20
 have B20:=F20.binds (ps:=["needs"]) fun _ _ _ _ _ _ us hl=>match us,hl with | [_],_=>rfl
 have F21:=qa (x := "law") (qual := "law") (st:=jv) l21 c21 k21
 have zt:=PySem.W.mg_none_of X G z_len
 have jt:=PySem.W.mg_none_of X G z_range
 have zJs:=PySem.W.mg_none_of X G z_max
 have zJt:=PySem.W.mg_none_of X G z_int
 have QT:=PySem.W.mg_none_of X G z_dict
 have QU:=PySem.W.mg_none_of X G z_sorted
 have zA9:=PySem.W.mg_none_of X G z_set
 have yd:=PySem.W.mg_none_of X G z_list
 have zDE:=PySem.W.mg_none_of X G z_min
 have zDF:=PySem.W.mg_none_of X G z_all
 have Ja:=PySem.W.mg_none_of X G z_isinstance
 have zJu:=PySem.W.mg_none_of X G z_str
 have zJv:=PySem.W.mg_none_of X G z_zip
 refine⟨PySem.W.fnOf "law" "law" (jh jv) (jP jv) (zO jv) .none kV21 dc21 pm21 an21 cd21 ct21,fun s v=>.of_eq rfl,by kernel_rfl,fun base _ _=>?_⟩
 have jC:qt l.prog w K mg base:=⟨⟨_,_,zGQ F1 zt,B1,k1,PySem.W.mg_of X G a1⟩⟩
 have zr:qb l.prog w K mg base:=⟨⟨_,_,zF8 F2,B2,k2,PySem.W.mg_of X G a2⟩⟩
 have Qt:zBD l.prog w K mg base:=⟨⟨_,_,zHs F3 zr zt jt,B3,k3,PySem.W.mg_of X G a3⟩⟩
 have QV:zAq l.prog w K mg base:=⟨⟨_,_,zGB F4 jC Qt zr jt,B4,k4,PySem.W.mg_of X G a4⟩⟩
 have JY:zBv l.prog w K mg base:=⟨⟨_,_,zH4 F5 zr jt zJs zt zJt,B5,k5,PySem.W.mg_of X G a5⟩⟩
 have QW:zAg l.prog w K mg base:=⟨⟨_,_,zFw F6 jC zr JY jt zt,B6,k6,PySem.W.mg_of X G a6⟩⟩
 have qf:QI l.prog w K mg base:=⟨⟨_,_,zFv F7,B7,k7,PySem.W.mg_of X G a7⟩⟩
 have JZ:zB8 l.prog w K mg base:=⟨⟨_,_,zH9 F8 QT QU,B8,k8,PySem.W.mg_of X G a8⟩⟩
 have yQ:Ji l.prog w K mg base:=⟨⟨_,_,zL3 F9 qf JZ QT zt zA9,B9,k9,PySem.W.mg_of X G a9⟩⟩
 have Zr:zAJ l.prog w K mg base:=⟨⟨_,_,zE5 F10 yd,B10,k10,PySem.W.mg_of X G a10⟩⟩
 have qU:JD l.prog w K mg base:=⟨⟨_,_,zJL F11 qf yd QU zt,B11,k11,PySem.W.mg_of X G a11⟩⟩
 have yW:Z4 l.prog w K mg base:=⟨⟨_,_,zCG F12 Zr qU yQ zt,B12,k12,PySem.W.mg_of X G a12⟩⟩
 have zAx:zCo l.prog w K mg base:=⟨⟨_,_,zF7 F13,B13,k13,PySem.W.mg_of X G a13⟩⟩
 have zAw:zDd l.prog w K mg base:=⟨⟨_,_,zK3 F14 zDE,B14,k14,PySem.W.mg_of X G a14⟩⟩
 have zBO:zDN l.prog w K mg base:=⟨⟨_,_,zHU F15 zAw zt yd,B15,k15,PySem.W.mg_of X G a15⟩⟩
 have Ql:zAM l.prog w K mg base:=⟨⟨_,_,zCq F16 zDF zt Ja yd zA9 zJu,B16,k16,PySem.W.mg_of X G a16⟩⟩
 have zCt:zFT l.prog w K mg base:=⟨⟨_,_,zJI F17 Ql zDF zDE zJv,B17,k17,PySem.W.mg_of X G a17⟩⟩
 have QX:zAr l.prog w K mg base:=⟨⟨_,_,zGE F18 zAx zBO qU zCt,B18,k18,PySem.W.mg_of X G a18⟩⟩
 have QY:zAv l.prog w K mg base:=⟨⟨_,_,zF3 F19 qU zt,B19,k19,PySem.W.mg_of X G a19⟩⟩
 have zBk:zEj l.prog w K mg base:=⟨⟨_,_,zLO F20 yQ jt zt,B20,k20,PySem.W.mg_of X G a20⟩⟩
 exact zOw F21 QV QW yQ yW jC QX QY zBk
theorem zQx {l:PySem.W.OpenLaw}{q:Program}{loose:List Str}{XP:(Str->Option Value)->Heap->Prop}{YP:World->Heap->Prop}{d:DefRec}{K:Params->PySem.W.Frag} (hn:l.most=some 63) (hdf:d.params.defaults=[])
  (hY:∀ (w:World) (h:Heap),YP w h->(K w.params).In h)
  (F:∀ (w:World) (mg:Str->Option Value) (fa:Addr) (h:Heap),(K w.params).In h->h.Ns mainGlobals mg->mg d.name=some (.ref fa) ->
   ∃ fd:FuncData,(∀ (s:Shared) (u:Value),BindsTo s fd ⟨[u],[]⟩ [("_law_script",u)])/\fd.scope.names.lookup ("_law_script" : Str)=some .local/\∀ base:Heap,(K w.params).In base->base.Ns mainGlobals mg->qH l.prog w (K w.params) mg base CX0 4 fa fd ["_law_script"] (SpM (K w.params) Θ0 1 M.zDy)) :
  PySem.W.WalkO q loose XP YP l.row.toRowW d [] (fun f vs=>PySem.call f vs) :=
 L2.zNg (n:=63) (k:=4) (x := "_law_script") (CX:=fun _=>CX0) (sp:=fun w=>SpM (K w.params) Θ0 1 M.zDy) hn (by decide) hdf ⟨rfl,by decide,by decide⟩ hY F (fun _ _ _ _ hl hO hS=>zO0 M.zL8 hl hO hS) fun _ _ _ _ _ z=>z
end My
open PySem PySem.W PyProof.Rows
set_option maxRecDepth 100000 in
set_option maxHeartbeats 0 in
theorem PySem.Challenge.cw_thingyard_k66_whole_no_rank_is_a_ring_holds : PySem.Challenge.rw_thingyard_k66_whole_no_rank_is_a_ring.Holds := by
 w_on;o_law;k_head;(case hw=>w_witness2)
 k_fill
 refine My.zQx (l:=PySem.Challenge.rw_thingyard_k66_whole_no_rank_is_a_ring) rfl rfl (fun w h Y=>PySem.W.kIn_of Y) ?F
 case F =>
  intro w mg fa h KX G hmg
  refine' My.zPn KX G hmg ?a1 ?l1 ?c1 ?k1 ?a2 ?l2 ?c2 ?k2 ?a3 ?l3 ?c3 ?k3 ?a4 ?l4 ?c4 ?k4 ?a5 ?l5 ?c5 ?k5 ?a6 ?l6 ?c6 ?k6 ?a7 ?l7 ?c7 ?k7 ?a8 ?l8 ?c8 ?k8 ?a9 ?l9 ?c9 ?k9 ?a10 ?l10 ?c10 ?k10 ?a11 ?l11 ?c11 ?k11 ?a12 ?l12 ?c12 ?k12 ?a13 ?l13 ?c13 ?k13 ?a14 ?l14 ?c14 ?k14 ?a15 ?l15 ?c15 ?k15 ?a16 ?l16 ?c16 ?k16 ?a17 ?l17 ?c17 ?k17 ?a18 ?l18 ?c18 ?k18 ?a19 ?l19 ?c19 ?k19 ?a20 ?l20 ?c20 ?k20 ?a21 ?l21 ?c21 ?k21 ?z_len ?z_range ?z_max ?z_int ?z_dict ?z_sorted ?z_set ?z_list ?z_min ?z_all ?z_isinstance ?z_str ?z_zip
  (case a1=>k_is)
  (case l1=>k_is)
  (case c1=>k_is)
  (case k1=>k_is)
  (case a2=>k_is)
  (case l2=>k_is)
  (case c2=>k_is)
  (case k2=>k_is)
  (case a3=>k_is)
  (case l3=>k_is)
  (case c3=>k_is)
  (case k3=>k_is)
  (case a4=>k_is)
  (case l4=>k_is)
  (case c4=>k_is)
  (case k4=>k_is)
  (case a5=>k_is)
  (case l5=>k_is)
  (case c5=>k_is)
  (case k5=>k_is)
  (case a6=>k_is)
  (case l6=>k_is)
  (case c6=>k_is)
  (case k6=>k_is)
  (case a7=>k_is)
  (case l7=>k_is)
  (case c7=>k_is)
  (case k7=>k_is)
  (case a8=>k_is)
  (case l8=>k_is)
  (case c8=>k_is)
  (case k8=>k_is)
  (case a9=>k_is)
  (case l9=>k_is)
  (case c9=>k_is)
  (case k9=>k_is)
  (case a10=>k_is)
  (case l10=>k_is)
  (case c10=>k_is)
  (case k10=>k_is)
  (case a11=>k_is)
  (case l11=>k_is)
  (case c11=>k_is)
  (case k11=>k_is)
  (case a12=>k_is)
  (case l12=>k_is)
  (case c12=>k_is)
  (case k12=>k_is)
  (case a13=>k_is)
  (case l13=>k_is)
  (case c13=>k_is)
  (case k13=>k_is)
  (case a14=>k_is)
  (case l14=>k_is)
  (case c14=>k_is)
  (case k14=>k_is)
  (case a15=>k_is)
  (case l15=>k_is)
  (case c15=>k_is)
  (case k15=>k_is)
  (case a16=>k_is)
  (case l16=>k_is)
  (case c16=>k_is)
  (case k16=>k_is)
  (case a17=>k_is)
  (case l17=>k_is)
  (case c17=>k_is)
  (case k17=>k_is)
  (case a18=>k_is)
  (case l18=>k_is)
  (case c18=>k_is)
  (case k18=>k_is)
  (case a19=>k_is)
  (case l19=>k_is)
  (case c19=>k_is)
  (case k19=>k_is)
  (case a20=>k_is)
  (case l20=>k_is)
  (case c20=>k_is)
  (case k20=>k_is)
  (case a21=>k_is)
  (case l21=>k_is)
  (case c21=>k_is)
  (case k21=>k_is)
  (case z_len=>k_is)
  (case z_range=>k_is)
  (case z_max=>k_is)
  (case z_int=>k_is)
  (case z_dict=>k_is)
  (case z_sorted=>k_is)
  (case z_set=>k_is)
  (case z_list=>k_is)
  (case z_min=>k_is)
  (case z_all=>k_is)
  (case z_isinstance=>k_is)
  (case z_str=>k_is)
  (case z_zip=>k_is)
