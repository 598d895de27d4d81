import PyProof.Rows.All
import Wide.All
import OpenK.AllK
import Wide.FinOn
import Lean
import PyProof.EqAt
import PyProof.EqKinds
import PyProof.TupleCall
import PySem.Challenge.RW_thingyard_k63_leaners
set_option Elab.async false
set_option linter.all false
set_option maxRecDepth 100000
namespace L2
open PySem PySem.Spec PyProof.Rows
abbrev Key:=Sum Int Str
def zBF:Key->Value->Bool
 | .inl k,v=>Value.isInt k v
 | .inr x,v=>Value.isStrOf x v
def zNv (w:World):Key->Int
 | .inl k=>hashInt k
 | .inr x=>hashStr w x
theorem j4:∀ {k:Key}{v:Value},zBF k v=true->(∃ i t,k=Sum.inl i/\v=Value.int i t)\/(∃ x t,k=Sum.inr x/\v=Value.str x t)
 | .inl i,v,h=>by
  obtain⟨t,e⟩:=Value.isInt_shape (k:=i) (v:=v) h
  exact .inl ⟨i,t,rfl,e⟩
 | .inr x,v,h=>by
  obtain⟨t,e⟩:=Value.isStrOf_shape (x:=x) (v:=v) h
  exact .inr ⟨x,t,rfl,e⟩
theorem zHh (i:Int) (t:Tok):zBF (.inl i) (.int i t)=true:=by simp[zBF,Value.isInt]
theorem zIJ (x:Str) (t:Tok):zBF (.inr x) (.str x t)=true:=by simp[zBF,Value.isStrOf]
theorem zMi (a b:Int):decide ((Sum.inl a:Key)=Sum.inl b)=(a == b):=by
 by_cases e:a=b
 ·subst e;simp
 ·have h:¬ (Sum.inl a:Key)=Sum.inl b:=fun q=>e (Sum.inl.inj q)
  rw[decide_eq_false h]
  exact (beq_eq_false_iff_ne.mpr e).symm
theorem zMN (a b:Str):decide ((Sum.inr a:Key)=Sum.inr b)=decide (a=b):=by
 by_cases e:a=b
 ·subst e;simp
 ·have h:¬ (Sum.inr a:Key)=Sum.inr b:=fun q=>e (Sum.inr.inj q)
  rw[decide_eq_false h,decide_eq_false e]
theorem zML (a:Int) (b:Str):decide ((Sum.inl a:Key)=Sum.inr b)=false:=decide_eq_false (fun q=>nomatch q)
theorem zMs (a:Str) (b:Int):decide ((Sum.inr a:Key)=Sum.inl b)=false:=decide_eq_false (fun q=>nomatch q)
def jB (prog:Program) (w:World):PySem.KeyKind prog w Key where
 is:=zBF
 hash:=zNv w
 inj:=fun v a b ha hb=>by
  rcases j4 ha with ⟨i,t,rfl,rfl⟩ | ⟨x,t,rfl,rfl⟩
  ·rcases j4 hb with ⟨j,u,rfl,e⟩ | ⟨y,u,rfl,e⟩
   ·injection e with e1 _;rw[e1]
   ·exact nomatch e
  ·rcases j4 hb with ⟨j,u,rfl,e⟩ | ⟨y,u,rfl,e⟩
   ·exact nomatch e
   ·injection e with e1 _;rw[e1]
 byValue:=fun k v h=>by
  rcases j4 h with ⟨i,t,rfl,rfl⟩ | ⟨x,t,rfl,rfl⟩<;>rfl
 pyHash:=fun hv h=>by
  rcases j4 hv with ⟨i,t,rfl,rfl⟩ | ⟨x,t,rfl,rfl⟩
  ·exact wpAny_pyHash_int h
  ·exact wpAny_pyHash_str h
 eqBool:=fun hu hv h=>by
  rcases j4 hu with ⟨i,t,rfl,rfl⟩ | ⟨x,t,rfl,rfl⟩
  ·rcases j4 hv with ⟨j,u,rfl,rfl⟩ | ⟨y,u,rfl,rfl⟩
   ·rw[zMi] at h;exact wpAny_eqBool_int h
   ·rw[zML] at h;exact SeqAt.EqAt.int_str i t y u _ _ _ _ h
  ·rcases j4 hv with ⟨j,u,rfl,rfl⟩ | ⟨y,u,rfl,rfl⟩
   ·rw[zMs] at h;exact SeqAt.EqAt.str_int x t j u _ _ _ _ h
   ·rw[zMN] at h;exact wpAny_eqBool_str h
 «strs» := fun k x t v h=>by
  rcases j4 h with ⟨i,u,rfl,e⟩ | ⟨y,u,rfl,e⟩
  ·exact nomatch e
  ·injection e with e1 _
   subst e1
   cases v<;>rfl
theorem zFe (prog:Program) (w:World) (i:Int) (t:Tok):(jB prog w).is (.inl i) (.int i t)=true:=zHh i t
theorem zFX (prog:Program) (w:World) (x:Str) (t:Tok):(jB prog w).is (.inr x) (.str x t)=true:=zIJ x t
end L2
namespace L2
open PySem PySem.Spec PyProof.Rows
inductive V where
 | non | bl (b:Bool) | int (i:Int) | str (x:Str) | byt (b:Array UInt8) | flt (b:UInt64) | ref (a:Addr) | ty (n:String)
 deriving DecidableEq
def ze:V->Value->Prop
 | .non,u=>u=Value.none
 | .bl b,u=>u=Value.bool b
 | .int i,u=>∃ t,u=Value.int i t
 | .str x,u=>∃ t,u=Value.str x t
 | .byt b,u=>∃ t,u=Value.bytes b t
 | .flt b,u=>∃ t,u=Value.float b t
 | .ref a,u=>u=Value.ref a
 | .ty n,u=>u=Value.type n
abbrev zY:List V->List Value->Prop:=Paired ze
theorem zY.length {xs:List V}{us:List Value} (r:zY xs us):xs.length=us.length:=Paired.length r
theorem zY.get:∀ {xs:List V}{us:List Value}{i:Nat}{x:V},zY xs us->xs[i]? = some x->∃ u,us[i]? = some u/\ze x u
 | _,_,_,_,.nil,e=>by simp at e
 | _,_,0,_,.cons r _,e=>by simp at e;subst e;exact⟨_,rfl,r⟩
 | _,_,i+1,x,.cons _ t,e=>by
  obtain⟨u,h1,h2⟩:=zY.get (i:=i) (x:=x) t (by simpa using e)
  exact⟨u,by simpa using h1,h2⟩
theorem zY.set {x:V}{u:Value} (r:ze x u):∀ {xs:List V}{us:List Value} (i:Nat),zY xs us->zY (xs.set i x) (us.set i u)
 | _,_,_,.nil=>.nil
 | _,_,0,.cons _ t=>.cons r t
 | _,_,i+1,.cons q t=>.cons q (zY.set r i t)
theorem zY.append:∀ {xs ys:List V}{us ws:List Value},zY xs us->zY ys ws->zY (xs++ys) (us++ws)
 | _,_,_,_,.nil,s=>s
 | _,_,_,_,.cons r t,s=>.cons r (zY.append t s)
theorem zY.take:∀ {xs:List V}{us:List Value} (n:Nat),zY xs us->zY (xs.take n) (us.take n)
 | _,_,0,_=>.nil
 | _,_,_+1,.nil=>.nil
 | _,_,n+1,.cons r t=>.cons r (zY.take n t)
theorem zY.drop:∀ {xs:List V}{us:List Value} (n:Nat),zY xs us->zY (xs.drop n) (us.drop n)
 | _,_,0,r=>r
 | _,_,_+1,.nil=>.nil
 | _,_,n+1,.cons _ t=>zY.drop n t
def Qh:Option V->Option Value->Prop
 | some v,some u=>ze v u
 | none,none=>True
 | _,_=>False
def KV {κ:Type}:List (κ×V)->List (κ×Value)->Prop:=Paired fun (p:κ×V) (q:κ×Value)=>p.1=q.1/\ze p.2 q.2
def kV:Key->V
 | .inl i=>.int i
 | .inr x=>.str x
inductive HO where
 | lst (xs:List V)
 | tup (xs:List V)
 | dK (kvs:List (Key×V)) | dT (kvs:List (List Key×V))
 | set (S:Int->Bool) (n:Nat)
 | ins (C dx:Addr) (fs:List (Str×V))
 | own (x:Addr)
 | xd (fs:List (Str×V))
 | met (f x:Addr)
 | rng (lo hi:Int)
 | frz (o:Obj) (u:HO)
 | tbl (ps:Array Value)
 | ext (φ:Heap->Prop)
abbrev Hp:=Addr->Option HO
def upd (H:Hp) (a:Addr) (o:HO):Hp:=fun b=>if b=a then some o else H b
theorem z9 {H:Hp}{a:Addr}{o:HO}:upd H a o a=some o:=by unfold upd;rw[if_pos rfl]
theorem zZ {H:Hp}{a b:Addr}{o:HO} (h:b≠a):upd H a o b=H b:=by unfold upd;rw[if_neg h]
theorem zNU {H:Hp}{a b:Addr}{o u:HO} (h:H a=some o) (h':H b=some u) (d:o≠u):a≠b:=by
 intro e;subst e;rw[h] at h';exact d (Option.some.inj h')
theorem yr {H:Hp}{a b:Addr}{o:HO} (h:H a=some o) (h':H b=none):a≠b:=by
 intro e;subst e;rw[h] at h';cases h'
section
variable (P:Program) (w:World)
def jQ (H:Hp) (h:Heap) (a:Addr):HO->Prop
 | .lst xs=>xs.length <= sizeLine/\∃ (its:List Value) (n:Nat),zY xs its/\h.get? a=some { cls:=.type "list",data:=.seq its.toArray n }
 | .tup xs=>xs.length <= sizeLine/\∃ its:List Value,zY xs its/\IsTup h a its.toArray
 | .dK kvs=>kvs.length <= sizeLine/\(a == sysModules)=false/\∃ vs,KV kvs vs/\h.DictOf (jB P w) a vs
 | .dT kvs=>kvs.length <= sizeLine/\(a == sysModules)=false/\∃ xs:List (List Key×Addr×Value),
   Paired (fun (p:List Key×V) (q:List Key×Addr×Value)=>p.1=q.1/\H q.2.1=some (.tup (p.1.map kV))/\ze p.2 q.2.2) kvs xs /\
   ∃ o es ep,h.get? a=some o/\o.ExactDict/\o.data=.dict es ep/\es.toList=xs.map (entryOfKey (tupleKind (jB P w)))/\(xs.map (·.1)).Nodup
 | .set S n=>h.SetOf (intKind P w) a S n
 | .ins C dx fs=>H dx=some (.own a)/\fs.length <= 1000/\dx≠a/\h.get? a=some (PySem.W.instObj C dx) /\
   ∃ mA,h.Ns1 dx mA/\(∀ f,Qh (fs.lookup f) (mA f))/\PySem.Within mA (fs.map (·.1))
 | .own _=>∃ o,h.get? a=some o
 | .xd fs=>∃ mA,h.Ns1 a mA/\∀ f,Qh (fs.lookup f) (mA f)
 | .rng lo hi=>∃ t u v,h.get? a=some { cls:=.type "range",data:=.fields #[.int lo t,.int hi u,.int 1 v] }
 | .frz o u=>h.get? a=some o/\jQ H h a u
 | .tbl ps=>h.get? a=some { cls:=.none,data:=.fields ps }
 | .met f x=>h.get? a=some (PySem.W.methodObj (.ref f) (.ref x))
 | .ext φ=>φ h/\(∃ o,h.get? a=some o)/\∀ h1 h2:Heap,φ h1->(∀ o,h1.get? a=some o->h2.get? a=some o)->φ h2
def HOk (H:Hp) (h:Heap):Prop:=∀ a o,H a=some o->jQ P w H h a o
end
section
variable {P:Program}{w:World}{H H':Hp}{h h':Heap}{a:Addr}{o:HO}
theorem jQ.lt (x:jQ P w H h a o):a < h.objs.size:=by
 cases o with
 | lst xs=>obtain⟨_,_,_,_,e⟩:=x;exact Heap.lt_size e
 | tup xs=>obtain⟨_,_,_,p⟩:=x;exact p.lt
 | dK kvs=>obtain⟨_,_,_,_,o,_,_,e,_⟩:=x;exact Heap.lt_size e
 | dT kvs=>obtain⟨_,_,_,_,o,_,_,e,_⟩:=x;exact Heap.lt_size e
 | set S n=>obtain⟨o,_,_,_,e,_⟩:=x;exact Heap.lt_size e
 | ins C dx fs=>obtain⟨_,_,_,e,_⟩:=x;exact Heap.lt_size e
 | own y=>obtain⟨_,e⟩:=x;exact Heap.lt_size e
 | xd fs=>obtain⟨_,⟨_,_,_,e,_⟩,_⟩:=x;exact Heap.lt_size e
 | rng lo hi=>obtain⟨_,_,_,e⟩:=x;exact Heap.lt_size e
 | frz ob u=>obtain⟨e,_⟩:=x;exact Heap.lt_size e
 | tbl ps=>exact Heap.lt_size (show h.get? a=some _ from x)
 | met f y=>exact Heap.lt_size (show h.get? a=some _ from x)
 | ext φ=>obtain⟨_,⟨_,e⟩,_⟩:=x;exact Heap.lt_size e
theorem Paired.mapP {α β:Type}{F G:α->β->Prop}:∀ {l₁:List α}{l₂:List β},Paired F l₁ l₂->(∀ a b,F a b->G a b)->Paired G l₁ l₂
 | _,_,.nil,_=>.nil
 | _,_,.cons r t,f=>.cons (f _ _ r) (Paired.mapP t f)
theorem jQ.stay (x:jQ P w H h a o) (k:∀ b u,(b=a\/H b=some (.own a))->h.get? b=some u->h'.get? b=some u)
  (ho:∀ b,H b=some (.own a)->H' b=some (.own a)) (ht:∀ b xs,H b=some (.tup xs)->H' b=some (.tup xs)):jQ P w H' h' a o:=by
 induction o with
 | lst xs=>obtain⟨z,its,n,r,e⟩:=x;exact⟨z,its,n,r,k _ _ (.inl rfl) e⟩
 | tup xs=>obtain⟨z,its,r,ob,e,c⟩:=x;exact⟨z,its,r,ob,k _ _ (.inl rfl) e,c⟩
 | dK kvs=>obtain⟨z,y,vs,r,ob,es,ep,e,c⟩:=x;exact⟨z,y,vs,r,ob,es,ep,k _ _ (.inl rfl) e,c⟩
 | dT kvs =>
  obtain⟨z,y,xs,r,ob,es,ep,e,c⟩:=x
  exact⟨z,y,xs,Paired.mapP r fun p q z=>⟨z.1,ht _ _ z.2.1,z.2.2⟩,ob,es,ep,k _ _ (.inl rfl) e,c⟩
 | set S n=>obtain⟨ob,es,ep,t,e,c⟩:=x;exact⟨ob,es,ep,t,k _ _ (.inl rfl) e,c⟩
 | ins C dx fs =>
  obtain⟨d,z,ne,e,mA,⟨od,es,ep,e2,c⟩,r⟩:=x
  exact⟨ho _ d,z,ne,k _ _ (.inl rfl) e,mA,⟨od,es,ep,k _ _ (.inr d) e2,c⟩,r⟩
 | own y=>obtain⟨ob,e⟩:=x;exact⟨ob,k _ _ (.inl rfl) e⟩
 | xd fs=>obtain⟨mA,⟨od,es,ep,e,c⟩,r⟩:=x;exact⟨mA,⟨od,es,ep,k _ _ (.inl rfl) e,c⟩,r⟩
 | rng lo hi=>obtain⟨t,u,v,e⟩:=x;exact⟨t,u,v,k _ _ (.inl rfl) e⟩
 | frz ob u ih=>obtain⟨e,q⟩:=x;exact⟨k _ _ (.inl rfl) e,ih q⟩
 | tbl ps =>
  have e:h.get? a=some { cls:=.none,data:=.fields ps }:=x
  show h'.get? a=some { cls:=.none,data:=.fields ps }
  exact k a _ (.inl rfl) e
 | met f y =>
  have e:h.get? a=some (PySem.W.methodObj (.ref f) (.ref y)):=x
  show h'.get? a=some (PySem.W.methodObj (.ref f) (.ref y))
  exact k a _ (.inl rfl) e
 | ext φ=>obtain⟨p,⟨o,e⟩,st⟩:=x;exact⟨st _ _ p fun o q=>k _ _ (.inl rfl) q,⟨o,k _ _ (.inl rfl) e⟩,st⟩
theorem HOk.lt (x:HOk P w H h) (e:H a=some o):a < h.objs.size:=(x a o e).lt
theorem HOk.fresh (x:HOk P w H h) (e:h.objs.size <= a):H a=none:=by
 cases q:H a with
 | none=>rfl
 | some u=>exact absurd (Nat.lt_of_lt_of_le (x.lt q) e) (Nat.lt_irrefl _)
theorem HOk.kept (x:HOk P w H h) (k:∀ b u,h.get? b=some u->h'.get? b=some u):HOk P w H h':=fun a o e =>
 (x a o e).stay (fun b u _ q=>k b u q) (fun _ q=>q) fun _ _ q=>q
theorem HOk.laid (x:HOk P w H h) (k:∀ b u,h.get? b=some u->h'.get? b=some u) (hp:h.objs.size <= a) (new:jQ P w (upd H a o) h' a o):HOk P w (upd H a o) h':=fun b u e=>by
 have hn:=x.fresh hp
 by_cases hb:b=a
 ·subst hb;rw[z9] at e;cases e;exact new
 ·rw[zZ hb] at e
  exact (x b u e).stay (fun c v _ q=>k c v q) (fun c q=>by rw[zZ (yr q hn)];exact q) fun c xs q=>by rw[zZ (yr q hn)];exact q
end
def Rd (H:Hp) (a:Addr) (u:HO):Prop:=H a=some u\/∃ o,H a=some (.frz o u)
theorem Rd.ok {P:Program}{w:World}{H:Hp}{h:Heap}{a:Addr}{u:HO} (r:Rd H a u) (x:HOk P w H h):jQ P w H h a u:=by
 rcases r with r | ⟨o,r⟩
 ·exact x a u r
 ·obtain⟨_,q⟩:=x a _ r
  exact q
def Mut:Option HO->Prop
 | some (.lst _)=>True
 | some (.dK _)=>True
 | some (.dT _)=>True
 | some (.set _ _)=>True
 | some (.ins _ _ _)=>True
 | some (.ext _)=>True
 | _=>False
section
variable {P:Program}{w:World}{H:Hp}{h h':Heap}{x e:Addr}{o':HO}
theorem HOk.write (ok:HOk P w H h) (mu:Mut (H x)) (he:e=x\/H e=some (.own x)) (k:∀ b u,b≠e->h.get? b=some u->h'.get? b=some u) (heo:∃ u,h'.get? e=some u)
  (new:jQ P w (upd H x o') h' x o'):HOk P w (upd H x o') h':=fun b u q=>by
 have nown:∀ c y,H c=some (.own y)->c≠x:=fun c y r z=>by subst z;rw[r] at mu;exact mu
 have ntup:∀ c xs,H c=some (.tup xs)->c≠x:=fun c xs r z=>by subst z;rw[r] at mu;exact mu
 by_cases hb:b=x
 ·subst hb;rw[z9] at q;cases q;exact new
 ·rw[zZ hb] at q
  by_cases hbe:b=e
  ·have q':H b=some (.own x):=by
    rcases he with z | z
    ·exact absurd (hbe.trans z) hb
    ·rw[hbe];exact z
   rw[q] at q';cases q'
   obtain⟨v,hv⟩:=heo
   exact⟨v,by rw[hbe];exact hv⟩
  ·refine (ok b u q).stay (fun c v hc r=>k c v ?_ r) (fun c r=>by rw[zZ (nown c b r)];exact r) fun c xs r=>by rw[zZ (ntup c xs r)];exact r
   rcases hc with rfl | hc
   ·exact hbe
   ·rintro rfl
    rcases he with z | z
    ·exact nown c b hc z
    ·rw[hc] at z;cases z;exact hb rfl
end
structure Un (fs ex:List Addr) (H H':Hp) (h h':Heap):Prop where
 keep:∀ b o,h.get? b=some o->H b=none->b∉fs->b∉ex->h'.get? b=some o
 slot:∀ b o,h.get? b=some o->H b=none->b∈fs->b∉ex->∃ sl,h'.get? b=some { o with slots:=sl }
 free:∀ b o,h.get? b=some o->H b=none->b∉ex->H' b=none
 there:∀ b o,h.get? b=some o->b∉ex->∃ o',h'.get? b=some o'
 tups:∀ b xs,H b=some (.tup xs)->H' b=some (.tup xs)
 frzs:∀ b o u,H b=some (.frz o u)->H' b=some (.frz o u)
 tbls:∀ b ps,H b=some (.tbl ps)->∃ more,H' b=some (.tbl (ps++more))
section
variable {fs fs' ex ex':List Addr}{H H1 H2:Hp}{h h1 h2 h':Heap}{a x e:Addr}{o:HO}
theorem Un.any (u:Un fs ex H H1 h h1) {b:Addr}{ob:Obj} (q:h.get? b=some ob) (n:H b=none) (hx:b∉ex):∃ sl,h1.get? b=some { ob with slots:=sl }:=by
 by_cases hb:b∈fs
 ·exact u.slot b ob q n hb hx
 ·exact⟨ob.slots,u.keep b ob q n hb hx⟩
theorem Un.kept (k:∀ b u,h.get? b=some u->h'.get? b=some u):Un fs ex H H h h' :=
 ⟨fun b ob q _ _ _=>k b ob q,fun b ob q _ _ _=>⟨ob.slots,k b ob q⟩,fun _ _ _ n _=>n,fun b ob q _=>⟨ob,k b ob q⟩,fun _ _ q=>q,fun _ _ _ q=>q,fun _ ps q=>⟨#[],by rw[q];simp⟩⟩
theorem Un.refl:Un fs ex H H h h:=Un.kept fun _ _ q=>q
theorem Un.laid (k:∀ b u,h.get? b=some u->h'.get? b=some u) (hp:h.objs.size <= a) (hn:H a=none):Un fs ex H (upd H a o) h h' where
 keep:=fun b u q _ _ _=>k b u q
 slot:=fun b u q _ _ _=>⟨u.slots,k b u q⟩
 free:=fun b u q n _=>by rw[zZ (Nat.ne_of_lt (Nat.lt_of_lt_of_le (Heap.lt_size q) hp))];exact n
 there:=fun b u q _=>⟨u,k b u q⟩
 tups:=fun b xs q=>by rw[zZ (yr q hn)];exact q
 frzs:=fun b u xs q=>by rw[zZ (yr q hn)];exact q
 tbls:=fun b ps q=>⟨#[],by rw[zZ (yr q hn),q];simp⟩
theorem Un.write (mu:Mut (H x)) (he:e=x\/H e=some (.own x)) (k:∀ b u,b≠e->h.get? b=some u->h'.get? b=some u) (heo:∃ u,h'.get? e=some u):Un fs ex H (upd H x o) h h':=by
 have hx:∀ b,H b=none->b≠x:=fun b n z=>by subst z;rw[n] at mu;exact mu
 have hb:∀ b,H b=none->b≠e:=fun b n z=>by
  subst z
  rcases he with r | r
  ·exact hx b n r
  ·rw[n] at r;cases r
 have hm:∀ b u,H b=some u -> ¬ Mut (some u)->b≠x:=fun b u q nm z=>by subst z;rw[q] at mu;exact nm mu
 refine⟨fun b u q n _ _=>k b u (hb b n) q,fun b u q n _ _=>⟨u.slots,k b u (hb b n) q⟩,fun b u q n _=>by rw[zZ (hx b n)];exact n,fun b u q _=>?_,
  fun b xs q=>by rw[zZ (hm b _ q fun z=>z)];exact q,fun b u xs q=>by rw[zZ (hm b _ q fun z=>z)];exact q,fun b ps q=>⟨#[],by rw[zZ (hm b _ q fun z=>z),q];simp⟩⟩
 by_cases hbe:b=e
 ·subst hbe;exact heo
 ·exact⟨u,k b u hbe q⟩
end
def trk (h:Heap) (H:Hp):List Addr:=(List.range h.objs.size).filter fun a=>(H a).isSome
def zAJ (h:Heap) (H:Hp):Heap:=PySem.W.hideAll h (trk h H)
theorem zHL (h:Heap) (H:Hp):(zAJ h H).objs.size=h.objs.size:=PySem.W.hideAll_size _ _
theorem zI7 {h:Heap}{H:Hp}{b:Addr}{o:Obj} (e:h.get? b=some o) (n:H b=none):(zAJ h H).get? b=some o :=
 PySem.W.hideAll_get _ e fun hm=>by
  have q:(H b).isSome=true:=(List.mem_filter.mp hm).2
  rw[n] at q;simp at q
theorem zKn {h:Heap}{H:Hp}{b:Addr}{o:Obj} (e:(zAJ h H).get? b=some o):h.get? b=some o/\H b=none:=by
 have e':h.get? b=some o:=PySem.W.of_hideAll (trk h H) e
 refine⟨e',?_⟩
 cases q:H b with
 | none=>rfl
 | some x =>
  have hm:b∈trk h H:=List.mem_filter.mpr ⟨List.mem_range.mpr (Heap.lt_size e'),by simp[q]⟩
  have z:(zAJ h H).get? b=none:=PySem.W.hideAll_none (trk h H) hm
  rw[z] at e;cases e
def zJ1 (g h:Heap) (L:Addr):List (Addr×Obj):=(List.range h.objs.size).filterMap fun a=>if a=L\/(g.get? a).isSome=true then none else (h.get? a).map fun o=>(a,o)
def jt (g h:Heap) (L d:Addr):List (Addr×Obj):=(zJ1 g h L).filter fun p=>decide (p.1≠d)
end L2
namespace L2
open PySem PySem.Spec PyProof.Rows
structure Mod (K:PySem.W.Frag) (mg:Str->Option Value) (base:Heap):Prop where
 kin:K.In base
 glob:base.Ns mainGlobals mg
 blt:∃ mb,base.Ns builtinsNs mb/\∀ x:Str,x ≠ "__name__" -> mb x=bootBuiltins x
 nolimit:base.NoLimit
structure Cx where
 prog:Program
 w:World
 K:PySem.W.Frag
 mg:Str->Option Value
 base:Heap
 A:Around
 N:List Str
 s₀:Shared
 H₀:Hp
 env:Env
 outer:List Env
 stack:List Env
 ex:List Addr
 fn:Str->Bool
 calm:Bool
 pn:List (Addr×Obj)
 xe:Value->Shared->Prop
def frs (l:List Env):List Addr:=l.filterMap (·.frame)
abbrev Cx.fs (X:Cx):List Addr:=frs X.outer
def Vis (sc:Scope) (x:Str):Prop:=sc.names.lookup x=some .local\/sc.names.lookup x=some .cell\/sc.names.lookup x=some .free
def Loc (sc:Scope) (x:Str):Prop:=sc.names.lookup x=some .local\/sc.names.lookup x=some .cell
def zNe (env:Env) (h:Heap) (m:Str->Option Value) (x:Str) (u:Value):Prop :=
 (env.kindOf x=some .local/\m x=some u)\/((env.kindOf x=some .cell\/env.kindOf x=some .free)/\∃ c,env.cells.lookup x=some c/\h.IsCell c (some u))
structure Cx.Ok (X:Cx):Prop where
 mod:Mod X.K X.mg X.base
 kind:X.env.scope.kind=.function
 glob:X.env.globals=mainGlobals
 blt:X.env.builtins=builtinsNs
 above:X.s₀.heap.objs.size <= X.env.locals
 inj:∀ x y c,X.env.cells.lookup x=some c->X.env.cells.lookup y=some c->x=y
 has:∀ x,(X.env.kindOf x=some .cell\/X.env.kindOf x=some .free)->∃ c,X.env.cells.lookup x=some c
 cab:∀ x c,X.fn x=true->X.env.cells.lookup x=some c->X.s₀.heap.objs.size <= c
 hd:X.calm=true->X.A.handled=none
 frames:X.A.frames=some X.stack
 stk:X.stack=X.outer\/(X.stack=X.env::X.outer/\X.env.frame=some X.env.locals)
 exf:∀ b∈X.ex,b≠X.env.locals/\∀ x c,X.env.cells.lookup x=some c->c≠b
 bs:∀ b o,X.base.get? b=some o->X.s₀.heap.get? b=some o/\X.H₀ b=none
 bsz:X.base.objs.size <= X.s₀.heap.objs.size
 noex:∀ b o,X.base.get? b=some o->b∉X.ex
 exfs:∀ b∈X.ex,b∉X.fs
 funs:X.s₀.heap.FunFrames X.base X.outer
 frf:∀ b∈X.fs,X.H₀ b=none
structure Inv (X:Cx) (pins:List (Addr×Obj)) (σ:List (Option V)) (H:Hp) (s:Shared):Prop where
 ok:X.Ok
 os:s.os=X.s₀.os
 bare:AllBare s.gens
 base:Un X.fs X.ex X.H₀ H X.s₀.heap s.heap
 loc:∃ m,s.heap.Ns X.env.locals m/\∀ (i:Nat) (x:Str) (v:V),X.N[i]? = some x->σ[i]? = some (some v)->Vis X.env.scope x->∃ u,ze v u/\zNe X.env s.heap m x u
 cell:∀ x c,X.env.cells.lookup x=some c->∃ v,s.heap.IsCell c v
 free:H X.env.locals=none
 freeC:∀ x c,X.env.cells.lookup x=some c->H c=none
 pin:∀ p∈X.pn++pins,s.heap.get? p.1=some p.2/\H p.1=none/\p.1≠X.env.locals/\p.1∉X.fs/\∀ v,p.2.data≠.cell v
 hok:HOk X.prog X.w H s.heap
 len:σ.length=X.N.length
 tk:0 < s.toks
section
variable {X:Cx}{pins:List (Addr×Obj)}{σ:List (Option V)}{H H':Hp}{s:Shared}{h':Heap}
theorem Cx.Ok.nofr (ok:X.Ok) {b:Addr}{o:Obj} (e:X.base.get? b=some o):b∉X.fs:=fun hb=>by
 have:=(ok.funs.mem hb).1
 rw[e] at this;cases this
theorem Inv.bs (I:Inv X pins σ H s):∀ b o,X.base.get? b=some o->s.heap.get? b=some o/\H b=none:=fun b o e =>
 ⟨I.base.keep b o (I.ok.bs b o e).1 (I.ok.bs b o e).2 (I.ok.nofr e) (I.ok.noex b o e),I.base.free b o (I.ok.bs b o e).1 (I.ok.bs b o e).2 (I.ok.noex b o e)⟩
theorem Inv.bk (I:Inv X pins σ H s):∀ b o,X.base.get? b=some o->s.heap.get? b=some o:=fun b o e=>(I.bs b o e).1
theorem Inv.mod (I:Inv X pins σ H s):Mod X.K X.mg X.base:=I.ok.mod
theorem Inv.kIn (I:Inv X pins σ H s):X.K.In s.heap:=I.ok.mod.kin.keeps I.bk
theorem Inv.fr (I:Inv X pins σ H s):∃ m,Fr X.base X.env.locals s.heap m :=
 let ⟨m,hn,_⟩:=I.loc
 ⟨m,hn,I.bk,Nat.le_trans I.ok.bsz I.ok.above⟩
theorem Inv.lt (I:Inv X pins σ H s):X.env.locals < s.heap.objs.size:=let ⟨_,hn,_⟩:=I.loc;hn.lt
theorem Inv.sz (I:Inv X pins σ H s):X.s₀.heap.objs.size <= s.heap.objs.size:=Nat.le_trans I.ok.above (Nat.le_of_lt I.lt)
theorem Inv.nofs (I:Inv X pins σ H s) {a:Addr} (h:s.heap.objs.size <= a):a∉X.fs:=fun hb=>by
 obtain⟨_,o,ho,_⟩:=I.ok.funs.mem hb
 exact absurd (Nat.lt_of_lt_of_le (Heap.lt_size ho) (Nat.le_trans I.sz h)) (Nat.lt_irrefl _)
theorem Inv.cne (I:Inv X pins σ H s):∀ x c,X.env.cells.lookup x=some c->c≠X.env.locals:=fun x c e z=>by
 obtain⟨v,o,ho,hd⟩:=I.cell x c e
 obtain⟨m,⟨o',es,ep,ho',hd',_⟩,_⟩:=I.loc
 rw[z,ho'] at ho;cases ho;rw[hd'] at hd;cases hd
theorem Inv.funs (I:Inv X pins σ H s):s.heap.FunFrames X.base X.outer:=by
 have all:∀ (l:List Env),(∀ b∈frs l,b∈X.fs)->X.s₀.heap.FunFrames X.base l->s.heap.FunFrames X.base l:=by
  intro l
  induction l with
  | nil=>intro _ _;trivial
  | cons env r ih =>
   intro hs hl
   obtain⟨hk,⟨L,o,hf,hn,ho,hd⟩,hr⟩:=hl
   have hL:L∈X.fs:=hs L (by unfold frs;rw[List.filterMap_cons,hf];exact List.mem_cons_self)
   obtain⟨sl,e⟩:=I.base.slot L o ho (I.ok.frf L hL) hL fun z=>I.ok.exfs L z hL
   exact⟨hk,⟨L,_,hf,hn,e,hd⟩,ih (fun b hb=>hs b (by unfold frs;rw[List.filterMap_cons,hf];exact List.mem_cons_of_mem _ hb)) hr⟩
 exact all X.outer (fun _ hb=>hb) I.ok.funs
theorem Inv.stack (I:Inv X pins σ H s):s.heap.FunFrames X.base X.stack:=by
 rcases I.ok.stk with e | ⟨e,hf⟩
 ·rw[e];exact I.funs
 ·rw[e]
  obtain⟨m,hn,_⟩:=I.loc
  refine .cons (by rw[I.ok.kind];decide) hf hn ?_ I.funs
  exact Heap.get?_none_of_le (Nat.le_trans I.ok.bsz I.ok.above)
theorem Inv.stkSub (I:Inv X pins σ H s):∀ b∈frs X.stack,b∈X.env.locals::X.fs:=fun b hb=>by
 rcases I.ok.stk with e | ⟨e,hf⟩
 ·rw[e] at hb;exact List.mem_cons_of_mem _ hb
 ·rw[e] at hb
  unfold frs at hb
  rw[List.filterMap_cons,hf] at hb
  exact hb
theorem Inv.stkFree (I:Inv X pins σ H s):∀ b∈frs X.stack,H b=none:=fun b hb=>by
 rcases List.mem_cons.mp (I.stkSub b hb) with e | hb
 ·rw[e];exact I.free
 ·obtain⟨_,o,ho,_⟩:=I.ok.funs.mem hb
  exact I.base.free b o ho (I.ok.frf b hb) fun z=>I.ok.exfs b z hb
theorem Inv.step {g':Array GenState}{t':Nat}{d':Drawn}{ch:List Addr} (I:Inv X pins σ H s)
  (hch:∀ b∈ch,(b∈X.ex\/X.s₀.heap.objs.size <= b)/\b≠X.env.locals/\(∀ x c,X.env.cells.lookup x=some c->c≠b)/\∀ p∈X.pn++pins,p.1≠b)
  (keep:∀ b o,b≠X.env.locals->b∉X.fs->b∉ch->s.heap.get? b=some o->H b=none->h'.get? b=some o)
  (slot:∀ b o,b≠X.env.locals->b∈X.fs->b∉ch->s.heap.get? b=some o->H b=none->∃ sl,h'.get? b=some { o with slots:=sl }) (free:∀ b o,b∉ch->s.heap.get? b=some o->H b=none->H' b=none)
  (there:∀ b o,b∉ch->s.heap.get? b=some o->∃ o',h'.get? b=some o')
  (tups:∀ b xs,H b=some (.tup xs)->H' b=some (.tup xs)) (frzs:∀ b o u,H b=some (.frz o u)->H' b=some (.frz o u)) (tbls:∀ b ps,H b=some (.tbl ps)->∃ more,H' b=some (.tbl (ps++more)))
  (ns:∀ m,s.heap.Ns X.env.locals m->h'.Ns X.env.locals m) (hok:HOk X.prog X.w H' h') (hg:AllBare g') (ht:0 < t':=by first | exact Nat.succ_pos _ | assumption | exact Inv.tk (by assumption) | omega) :
  Inv X pins σ H' { s with heap:=h',gens:=g',drawn:=d',toks:=t' }:=by
 have neL:∀ b o,X.s₀.heap.get? b=some o->b≠X.env.locals:=fun b o e=>Nat.ne_of_lt (Nat.lt_of_lt_of_le (Heap.lt_size e) I.ok.above)
 have neC:∀ b o,X.s₀.heap.get? b=some o->b∉X.ex->b∉ch:=fun b o e hx hb=>by
  rcases (hch b hb).1 with z | z
  ·exact hx z
  ·exact absurd (Nat.lt_of_lt_of_le (Heap.lt_size e) z) (Nat.lt_irrefl _)
 have cellK:∀ x c,X.env.cells.lookup x=some c->∀ v,s.heap.IsCell c v->h'.IsCell c v:=fun x c e v ⟨o,ho,hd⟩=>by
  have nch:c∉ch:=fun z=>(hch c z).2.2.1 x c e rfl
  by_cases hc:c∈X.fs
  ·obtain⟨sl,q⟩:=slot c o (I.cne x c e) hc nch ho (I.freeC x c e)
   exact⟨_,q,hd⟩
  ·exact⟨o,keep c o (I.cne x c e) hc nch ho (I.freeC x c e),hd⟩
 refine⟨I.ok,I.os,hg,⟨fun b o e n hb hx=>?_,fun b o e n hb hx=>?_,fun b o e n hx=>?_,fun b o e hx=>?_,fun b xs e=>tups b xs (I.base.tups b xs e),fun b o xs e=>frzs b o xs (I.base.frzs b o xs e),fun b ps e=>?_⟩,?_,fun x c e=>?_,?_,fun x c e=>?_,fun p hp=>?_,hok,I.len,ht⟩
 ·exact keep b o (neL b o e) hb (neC b o e hx) (I.base.keep b o e n hb hx) (I.base.free b o e n hx)
 ·obtain⟨sl,e1⟩:=I.base.slot b o e n hb hx
  obtain⟨sl',e2⟩:=slot b _ (neL b o e) hb (neC b o e hx) e1 (I.base.free b o e n hx)
  exact⟨sl',e2⟩
 ·obtain⟨o',e1⟩:=I.base.there b o e hx
  exact free b o' (neC b o e hx) e1 (I.base.free b o e n hx)
 ·obtain⟨o',e1⟩:=I.base.there b o e hx
  exact there b o' (neC b o e hx) e1
 ·obtain⟨m1,e1⟩:=I.base.tbls b ps e
  obtain⟨m2,e2⟩:=tbls b _ e1
  exact⟨m1++m2,by rw[e2,Array.append_assoc]⟩
 ·obtain⟨m,hn,hl⟩:=I.loc
  refine⟨m,ns m hn,fun i x v e1 e2 e3=>?_⟩
  obtain⟨u,r,l⟩:=hl i x v e1 e2 e3
  refine⟨u,r,?_⟩
  rcases l with l | ⟨k,c,e,z⟩
  ·exact .inl l
  ·exact .inr ⟨k,c,e,cellK x c e _ z⟩
 ·obtain⟨v,z⟩:=I.cell x c e
  exact⟨v,cellK x c e v z⟩
 ·obtain⟨m,⟨o,_,_,ho,_⟩,_⟩:=I.loc
  exact free _ o (fun z=>(hch _ z).2.1 rfl) ho I.free
 ·obtain⟨v,o,ho,hd⟩:=I.cell x c e
  exact free c o (fun z=>(hch c z).2.2.1 x c e rfl) ho (I.freeC x c e)
 ·obtain⟨e,n,ne,nf,d⟩:=I.pin p hp
  have nch:p.1∉ch:=fun z=>(hch p.1 z).2.2.2 p hp rfl
  exact⟨keep p.1 p.2 ne nf nch e n,free p.1 p.2 nch e n,ne,nf,d⟩
theorem Inv.un {t':Nat} (I:Inv X pins σ H s) (u:Un X.fs [] H H' s.heap h') (hok:HOk X.prog X.w H' h') (ht:0 < t':=by first | exact Nat.succ_pos _ | assumption | exact Inv.tk (by assumption) | omega):Inv X pins σ H' { s with heap:=h',toks:=t' }:=by
 obtain⟨m,⟨o,es,ep,ho,r⟩,_⟩:=id I.loc
 obtain⟨sl,hL⟩:=u.any ho I.free (by simp)
 exact I.step (g':=s.gens) (d':=s.drawn) (ch:=[]) (fun _ z=>nomatch z) (fun b o _ hb _ e n=>u.keep b o e n hb (by simp)) (fun b o _ hb _ e n=>u.slot b o e n hb (by simp)) (fun b o _ e n=>u.free b o e n (by simp)) (fun b o _ e=>u.there b o e (by simp)) u.tups u.frzs u.tbls (fun m' hm=>by
  obtain⟨o',es',ep',ho',r'⟩:=hm
  rw[ho] at ho';cases ho'
  exact⟨_,es',ep',hL,r'⟩) hok I.bare ht
theorem Inv.call {g':Array GenState}{t':Nat}{d':Drawn}{ch:List Addr} (I:Inv X pins σ H s) (u:Un (frs X.stack) ch H H' s.heap h') (hok:HOk X.prog X.w H' h') (hg:AllBare g')
  (hch:∀ b∈ch,(b∈X.ex\/X.s₀.heap.objs.size <= b)/\b≠X.env.locals/\(∀ x c,X.env.cells.lookup x=some c->c≠b)/\∀ p∈X.pn++pins,p.1≠b) (ht:0 < t':=by first | exact Nat.succ_pos _ | assumption | exact Inv.tk (by assumption) | omega) :
  Inv X pins σ H' { s with heap:=h',gens:=g',drawn:=d',toks:=t' }:=by
 obtain⟨m,⟨o,es,ep,ho,r⟩,_⟩:=id I.loc
 obtain⟨sl,hL⟩:=u.any ho I.free fun z=>(hch _ z).2.1 rfl
 exact I.step (ch:=ch) hch (fun b o hL hb hc e n=>u.keep b o e n (fun z=>(List.mem_cons.mp (I.stkSub b z)).elim hL hb) hc) (fun b o _ _ hc e n=>u.any e n hc) (fun b o hc e n=>u.free b o e n hc) (fun b o hc e=>u.there b o e hc) u.tups u.frzs u.tbls (fun m' hm=>by
  obtain⟨o',es',ep',ho',r'⟩:=hm
  rw[ho] at ho';cases ho'
  exact⟨_,es',ep',hL,r'⟩) hok hg ht
theorem Inv.turned {t':Nat}{it:Addr} (I:Inv X pins σ H s) (k:∀ b o,b≠it->s.heap.get? b=some o->h'.get? b=some o) (hn:H it=none) (hL:it≠X.env.locals)
  (h1:it∈X.ex\/X.s₀.heap.objs.size <= it) (h2:∀ x c,X.env.cells.lookup x=some c->c≠it) (h3:∀ p∈X.pn++pins,p.1≠it) (ht:0 < t':=by first | exact Nat.succ_pos _ | assumption | exact Inv.tk (by assumption) | omega):Inv X pins σ H { s with heap:=h',toks:=t' }:=by
 have nit:∀ b u,H b=some u->b≠it:=fun b u e z=>by rw[z,hn] at e;cases e
 refine I.step (g':=s.gens) (d':=s.drawn) (ch:=[it]) (fun b hb=>?_) (fun b o _ _ hc e _=>k b o (fun z=>hc (by simp[z])) e) (fun b o _ _ hc e _=>⟨o.slots,k b o (fun z=>hc (by simp[z])) e⟩) (fun _ _ _ _ n=>n)
  (fun b o hc e=>⟨o,k b o (fun z=>hc (by simp[z])) e⟩) (fun _ _ e=>e) (fun _ _ _ e=>e) (fun b ps e=>⟨#[],by rw[e];simp⟩) (fun m hm=>?_) (fun b u e=>?_) I.bare ht
 ·have e:b=it:=by simpa using hb
  subst e
  exact⟨h1,hL,h2,h3⟩
 ·obtain⟨o,es,ep,ho,r⟩:=hm
  exact⟨o,es,ep,k _ o (Ne.symm hL) ho,r⟩
 ·refine (I.hok b u e).stay (fun c v hc q=>k c v ?_ q) (fun _ q=>q) fun _ _ q=>q
  rcases hc with z | z
  ·rw[z];exact nit b u e
  ·exact nit c _ z
theorem Inv.tok (I:Inv X pins σ H s) (t:Nat) (ht:0 < t:=by first | exact Nat.succ_pos _ | assumption | exact Inv.tk (by assumption) | omega):Inv X pins σ H { s with toks:=t }:=I.un (h':=s.heap) (t':=t) Un.refl I.hok ht
theorem Inv.kept {t':Nat} (I:Inv X pins σ H s) (k:∀ b u,s.heap.get? b=some u->h'.get? b=some u) (ht:0 < t':=by first | exact Nat.succ_pos _ | assumption | exact Inv.tk (by assumption) | omega):Inv X pins σ H { s with heap:=h',toks:=t' }:=I.un (Un.kept k) (I.hok.kept k) ht
theorem Inv.laid {a:Addr}{o:HO}{t':Nat} (I:Inv X pins σ H s) (k:∀ b u,s.heap.get? b=some u->h'.get? b=some u) (hp:s.heap.objs.size <= a) (new:jQ X.prog X.w (upd H a o) h' a o) (ht:0 < t':=by first | exact Nat.succ_pos _ | assumption | exact Inv.tk (by assumption) | omega) :
  Inv X pins σ (upd H a o) { s with heap:=h',toks:=t' }:=I.un (Un.laid k hp (I.hok.fresh hp)) (I.hok.laid k hp new) ht
theorem Inv.write {x e:Addr}{o:HO}{t':Nat} (I:Inv X pins σ H s) (mu:Mut (H x)) (he:e=x\/H e=some (.own x)) (k:∀ b u,b≠e->s.heap.get? b=some u->h'.get? b=some u) (heo:∃ u,h'.get? e=some u)
  (new:jQ X.prog X.w (upd H x o) h' x o) (ht:0 < t':=by first | exact Nat.succ_pos _ | assumption | exact Inv.tk (by assumption) | omega):Inv X pins σ (upd H x o) { s with heap:=h',toks:=t' }:=I.un (Un.write mu he k heo) (I.hok.write mu he k heo new) ht
theorem Inv.weak {σ':List (Option V)} (I:Inv X pins σ H s) (hl:σ'.length=σ.length) (w:∀ (i:Nat) v,σ'[i]? = some (some v)->σ[i]? = some (some v)):Inv X pins σ' H s :=
 ⟨I.ok,I.os,I.bare,I.base,let ⟨m,hn,hl'⟩:=I.loc;⟨m,hn,fun i x v e1 e2 e3=>hl' i x v e1 (w i v e2) e3⟩,I.cell,I.free,I.freeC,I.pin,I.hok,hl.trans I.len,I.tk⟩
theorem Inv.pins_of {pins':List (Addr×Obj)} (I:Inv X pins σ H s) (h:∀ p∈pins',s.heap.get? p.1=some p.2/\H p.1=none/\p.1≠X.env.locals/\p.1∉X.fs/\∀ v,p.2.data≠.cell v):Inv X pins' σ H s :=
 ⟨I.ok,I.os,I.bare,I.base,I.loc,I.cell,I.free,I.freeC,fun p hp=>(List.mem_append.mp hp).elim (fun z=>I.pin p (List.mem_append_left _ z)) (h p),I.hok,I.len,I.tk⟩
theorem zEF {N:List Str} (hN:N.Nodup) {i j:Nat}{x:Str} (a:N[i]? = some x) (b:N[j]? = some x):i=j:=by
 obtain⟨h1,e1⟩:=List.getElem?_eq_some_iff.mp a
 obtain⟨h2,e2⟩:=List.getElem?_eq_some_iff.mp b
 exact (List.getElem_inj hN).mp (e1.trans e2.symm)
theorem zDM {M:Model}{A:Around}{E:Value->Shared->Prop}{i:Nat}{x:Str}{v:V}{u:Value}{Q:Unit->Shared->Prop} (I:Inv X pins σ H s) (hN:X.N.Nodup) (hi:X.N[i]? = some x) (hx:Loc X.env.scope x) (r:ze v u)
  (h:∀ s',Inv X pins (σ.set i (some v)) H s'->(∃ a,Heap.SameBut a s.heap s'.heap/\(a=X.env.locals\/X.env.cells.lookup x=some a))->Q () s') (hf:X.fn x=true\/X.env.scope.names.lookup x=some .local:=by first | exact .inl rfl | exact .inr rfl | assumption):wpAny M A (storeName X.env x u) Q E s:=by
 obtain⟨m,hn,hl⟩:=id I.loc
 have hcls:(X.env.scope.kind == .class || (X.env.scope.kind == .module && X.env.locals != X.env.globals))=false:=by rw[I.ok.kind];rfl
 have hiσ:i < σ.length:=by rw[I.len];exact (List.getElem?_eq_some_iff.mp hi).1
 have cne:=I.cne
 have tracked:∀ {a:Addr}{h':Heap},(∃ o,s.heap.get? a=some o/\H a=none)->Heap.SameBut a s.heap h'->HOk X.prog X.w H h':=fun {a h'} ha hs b ob e=>by
  obtain⟨_,_,hfree⟩:=ha
  refine (I.hok b ob e).stay (fun c w' hc q=>(hs.2 c ?_).trans q) (fun _ q=>q) fun _ _ q=>q
  rintro rfl
  rcases hc with rfl | hc
  ·rw[hfree] at e;cases e
  ·rw[hfree] at hc;cases hc
 rcases hx with hk | hk
 ·refine wpAny_storeName_local hk hn (fun h' hn' hs=>?_) hcls
  obtain⟨oL,_,_,hoL,_⟩:=id hn
  refine h _ ⟨I.ok,I.os,I.bare,⟨fun b o e n hb hx=>?_,fun b o e n hb hx=>?_,I.base.free,fun b o e hx=>?_,I.base.tups,I.base.frzs,I.base.tbls⟩,⟨_,hn',fun j y v' e1 e2 e3=>?_⟩,fun y c e=>?_,I.free,I.freeC,fun p hp=>?_,tracked ⟨oL,hoL,I.free⟩ hs,by simpa using I.len,Nat.succ_pos _⟩ ⟨_,hs,.inl rfl⟩
  ·exact (hs.2 b (Nat.ne_of_lt (Nat.lt_of_lt_of_le (Heap.lt_size e) I.ok.above))).trans (I.base.keep b o e n hb hx)
  ·obtain⟨sl,e1⟩:=I.base.slot b o e n hb hx
   exact⟨sl,(hs.2 b (Nat.ne_of_lt (Nat.lt_of_lt_of_le (Heap.lt_size e) I.ok.above))).trans e1⟩
  ·obtain⟨o',e1⟩:=I.base.there b o e hx
   exact⟨o',(hs.2 b (Nat.ne_of_lt (Nat.lt_of_lt_of_le (Heap.lt_size e) I.ok.above))).trans e1⟩
  ·by_cases hj:j=i
   ·subst hj
    rw[hi] at e1;cases e1
    rw[List.getElem?_set_self hiσ] at e2
    cases e2
    exact⟨u,r,.inl ⟨hk,by simp⟩⟩
   ·rw[List.getElem?_set_ne (Ne.symm hj)] at e2
    obtain⟨u',r',q⟩:=hl j y v' e1 e2 e3
    refine⟨u',r',?_⟩
    rcases q with ⟨k,e⟩ | ⟨k,c,e,z⟩
    ·refine .inl ⟨k,?_⟩
     have:y≠x:=fun e=>hj (zEF hN e1 (e ▸ hi))
     simp[this,e]
    ·exact .inr ⟨k,c,e,z.sameBut hs (cne y c e)⟩
  ·obtain⟨w',z⟩:=I.cell y c e
   exact⟨w',z.sameBut hs (cne y c e)⟩
  ·obtain⟨e,n,ne,nf,d⟩:=I.pin p hp
   exact⟨(hs.2 p.1 ne).trans e,n,ne,nf,d⟩
 ·have hfn:X.fn x=true:=by
   rcases hf with z | z
   ·exact z
   ·rw[z] at hk;cases hk
  obtain⟨c,hc⟩:=I.ok.has x (.inl hk)
  obtain⟨w',z⟩:=I.cell x c hc
  refine wpAny_storeName_cell I.ok.kind hk hc z (fun h' hc' hs=>?_)
  obtain⟨oc,hoc,hocd⟩:=id z
  refine h { s with heap:=h' } ⟨I.ok,I.os,I.bare,⟨fun b o e n hb hx=>?_,fun b o e n hb hx=>?_,I.base.free,fun b o e hx=>?_,I.base.tups,I.base.frzs,I.base.tbls⟩,⟨m,hn.sameBut hs (Ne.symm (cne x c hc)),fun j y v' e1 e2 e3=>?_⟩,fun y c' e=>?_,I.free,I.freeC,fun p hp=>?_,tracked ⟨oc,hoc,I.freeC x c hc⟩ hs,by simpa using I.len,I.tk⟩ ⟨c,hs,.inr hc⟩
  ·exact (hs.2 b (Nat.ne_of_lt (Nat.lt_of_lt_of_le (Heap.lt_size e) (I.ok.cab x c hfn hc)))).trans (I.base.keep b o e n hb hx)
  ·obtain⟨sl,e1⟩:=I.base.slot b o e n hb hx
   exact⟨sl,(hs.2 b (Nat.ne_of_lt (Nat.lt_of_lt_of_le (Heap.lt_size e) (I.ok.cab x c hfn hc)))).trans e1⟩
  ·obtain⟨o',e1⟩:=I.base.there b o e hx
   exact⟨o',(hs.2 b (Nat.ne_of_lt (Nat.lt_of_lt_of_le (Heap.lt_size e) (I.ok.cab x c hfn hc)))).trans e1⟩
  ·by_cases hj:j=i
   ·subst hj
    rw[hi] at e1;cases e1
    rw[List.getElem?_set_self hiσ] at e2
    cases e2
    exact⟨u,r,.inr ⟨.inl hk,c,hc,hc'⟩⟩
   ·rw[List.getElem?_set_ne (Ne.symm hj)] at e2
    obtain⟨u',r',q⟩:=hl j y v' e1 e2 e3
    refine⟨u',r',?_⟩
    rcases q with q | ⟨k,c',e,z'⟩
    ·exact .inl q
    ·refine .inr ⟨k,c',e,z'.sameBut hs ?_⟩
     rintro rfl
     exact hj (zEF hN e1 (I.ok.inj _ _ _ e hc ▸ hi))
  ·by_cases hcc:c'=c
   ·subst hcc;exact⟨_,hc'⟩
   ·obtain⟨w2,z2⟩:=I.cell y c' e
    exact⟨w2,z2.sameBut hs hcc⟩
  ·obtain⟨e,n,ne,nf,d⟩:=I.pin p hp
   refine⟨(hs.2 p.1 ?_).trans e,n,ne,nf,d⟩
   intro q
   rw[q,hoc] at e
   have q':oc=p.2:=Option.some.inj e
   exact d w' (by rw[<- q'];exact hocd)
theorem zE4 {M:Model}{A:Around}{E:Value->Shared->Prop}{i:Nat}{x:Str}{v:V}{u:Value}{Q:Unit->Shared->Prop} (I:Inv X pins σ H s) (hN:X.N.Nodup) (hi:X.N[i]? = some x) (hx:Loc X.env.scope x) (r:ze v u)
  (h:∀ s',Inv X pins (σ.set i (some v)) H s'->Q () s') (hf:X.fn x=true\/X.env.scope.names.lookup x=some .local:=by first | exact .inl rfl | exact .inr rfl | assumption):wpAny M A (storeName X.env x u) Q E s :=
 zDM I hN hi hx r (fun s' I' _=>h s' I') hf
theorem Inv.call' {s':Shared}{ch:List Addr} (I:Inv X pins σ H s) (ho:s'.os=s.os) (u:Un (frs X.stack) ch H H' s.heap s'.heap) (hok:HOk X.prog X.w H' s'.heap) (hg:AllBare s'.gens)
  (hch:∀ b∈ch,(b∈X.ex\/X.s₀.heap.objs.size <= b)/\b≠X.env.locals/\(∀ x c,X.env.cells.lookup x=some c->c≠b)/\∀ p∈X.pn++pins,p.1≠b) (ht:0 < s'.toks):Inv X pins σ H' s':=by
 obtain⟨h',g',d',t',o'⟩:=s'
 have e:o'=s.os:=ho
 subst e
 exact I.call (g':=g') (t':=t') (d':=d') u hok hg hch ht
end
abbrev XK:=Value->Option Addr->Hp->Prop
abbrev St:=List (Option V)
abbrev VK:=V->Hp->Prop
abbrev TE:=St->Hp->VK->Prop
abbrev TT:=St->Hp->(Bool->Hp->Prop)->Prop
abbrev TA:=St->Hp->(List V->Hp->Prop)->Prop
structure Qm where
 nx:St->Hp->Prop
 rt:VK
 bk:St->Hp->Prop:=fun _ _=>False
 ct:St->Hp->Prop:=fun _ _=>False
abbrev TS:=Qm->St->Hp->Prop
def EP (X:Cx) (pins:List (Addr×Obj)) (σ:St) (Q:VK) (u:Value) (s':Shared):Prop:=∃ v H',Inv X pins σ H' s'/\ze v u/\Q v H'
def TP (X:Cx) (pins:List (Addr×Obj)) (σ:St) (Q:Bool->Hp->Prop) (b:Bool) (s':Shared):Prop:=∃ H',Inv X pins σ H' s'/\Q b H'
def AP (X:Cx) (pins:List (Addr×Obj)) (σ:St) (Q:List V->Hp->Prop) (us:List Value) (s':Shared):Prop:=∃ vs H',Inv X pins σ H' s'/\zY vs us/\Q vs H'
def SP (X:Cx) (pins:List (Addr×Obj)) (D:Qm) (f:Flow) (s':Shared):Prop :=
 match f with
 | .next=>∃ σ' H',Inv X pins σ' H' s'/\D.nx σ' H'
 | .brk=>∃ σ' H',Inv X pins σ' H' s'/\D.bk σ' H'
 | .cont=>∃ σ' H',Inv X pins σ' H' s'/\D.ct σ' H'
 | .ret u=>∃ v σ' H',Inv X pins σ' H' s'/\ze v u/\D.rt v H'
def PE (X:Cx) (e:Expr) (t:TE):Prop :=
 ∀ (pins:List (Addr×Obj)) (s:Shared) (σ:St) (H:Hp) (Q:VK),Inv X pins σ H s->t σ H Q->wpAny (model X.prog X.w) X.A (eval e X.env) (EP X pins σ Q) X.xe s
def PT (X:Cx) (e:Expr) (t:TT):Prop :=
 ∀ (pins:List (Addr×Obj)) (s:Shared) (σ:St) (H:Hp) (Q:Bool->Hp->Prop),Inv X pins σ H s->t σ H Q->wpAny (model X.prog X.w) X.A (isTrue e X.env (eval e X.env)) (TP X pins σ Q) X.xe s
def PW (X:Cx) (e:Expr) (t:TT):Prop :=
 ∀ (whole:Sem Value) (pins:List (Addr×Obj)) (s:Shared) (σ:St) (H:Hp) (Q:Bool->Hp->Prop),Inv X pins σ H s->t σ H Q->wpAny (model X.prog X.w) X.A (isTrue e X.env whole) (TP X pins σ Q) X.xe s
theorem PW.pt {X:Cx}{e:Expr}{t:TT} (h:PW X e t):PT X e t:=h _
def PA (X:Cx) (es:List Expr) (t:TA):Prop :=
 ∀ (pos:Pos) (pins:List (Addr×Obj)) (s:Shared) (σ:St) (H:Hp) (Q:List V->Hp->Prop),Inv X pins σ H s->t σ H Q->wpAny (model X.prog X.w) X.A (spliced (backTo pos (starEach es X.env))) (AP X pins σ Q) X.xe s
def PS (X:Cx) (st:Stmt) (t:TS):Prop :=
 ∀ (pins:List (Addr×Obj)) (s:Shared) (σ:St) (H:Hp) (D:Qm),Inv X pins σ H s->t D σ H->wpAny (model X.prog X.w) X.A (exec st X.env) (SP X pins D) X.xe s
def PSs (X:Cx) (st:List Stmt) (t:TS):Prop :=
 ∀ (pins:List (Addr×Obj)) (s:Shared) (σ:St) (H:Hp) (D:Qm),Inv X pins σ H s->t D σ H->wpAny (model X.prog X.w) X.A (execs st X.env) (SP X pins D) X.xe s
theorem thn {α:Type}{t:Sem α}{Q Q':α->Shared->Prop}{M:Model}{A:Around}{E:Value->Shared->Prop}{s:Shared} (h:wpAny M A t Q E s) (hQ:∀ a s,Q a s->Q' a s):wpAny M A t Q' E s:=wpAny_mono h hQ fun _ _ x=>x
end L2
namespace L2
open PySem PySem.Spec PyProof.Rows
section
variable {X:Cx}
def zNy (i:Nat):TE:=fun σ H Q=>∃ v,σ[i]? = some (some v)/\Q v H
def tC (v:V):TE:=fun _ H Q=>Q v H
theorem zLT {i:Nat}{x:Str}{pos:Pos} (hN:X.N[i]? = some x) (hv:Vis X.env.scope x) (hd:(x == ("__debug__" : Str))=false:=by decide) (hcd:(x == ("__classdict__" : Str))=false:=by decide):PE X (.Name x pos) (zNy i):=by
 intro pins s σ H Q I h
 obtain⟨v,e,h⟩:=h
 obtain⟨m,hn,hl⟩:=I.loc
 obtain⟨u,r,l⟩:=hl i x v hN e hv
 have fin:EP X pins σ Q u s:=⟨v,H,I,r,h⟩
 rcases l with ⟨hk,hm⟩ | ⟨hk,c,hc,hcell⟩
 ·exact wpAny_Name (wpAny_loadName_local I.ok.kind hk hn hm fin) hd
 ·rcases hk with hk | hk
  ·exact wpAny_Name (wpAny_loadName_cell I.ok.kind hk hc hcell fin) hd
  ·exact wpAny_Name (wpAny_loadName_free I.ok.kind hk hc hcell fin hcd) hd
theorem zMW {i j pos}:PE X (.Constant (.int i) j pos) (tC (.int i)):=fun _ _ _ H _ I h=>wpAny_Constant_int ⟨.int i,H,I.tok _,⟨_,rfl⟩,h⟩
theorem zM7 {b j pos}:PE X (.Constant (.bool b) j pos) (tC (.bl b)):=fun _ _ _ H _ I h=>Constant_bool ⟨.bl b,H,I,rfl,h⟩
theorem zHc {x j pos}:PE X (.Constant (.str x) j pos) (tC (.str x)):=fun _ _ _ H _ I h=>Calls.Constant_str ⟨.str x,H,I.tok _,⟨_,rfl⟩,h⟩
def Gl (X:Cx) (x:Str):Prop:=X.env.kindOf x=some .globalImplicit
theorem zKq {E:Value->Shared->Prop}{pins:List (Addr×Obj)}{s:Shared}{σ:St}{H:Hp}{x:Str}{u:Value}{pos:Pos}{Q:Value->Shared->Prop} (I:Inv X pins σ H s) (hg:Gl X x) (hm:X.mg x=some u) (h:Q u s)
  (hd:(x == ("__debug__" : Str))=false:=by decide):wpAny (model X.prog X.w) X.A (eval (.Name x pos) X.env) Q E s :=
 Calls.Name_function_global I.ok.kind hg (Calls.loadGlobal_global (by rw[I.ok.glob];exact I.mod.glob.keeps I.bk) hm h) hd
theorem zB0 {E:Value->Shared->Prop}{pins:List (Addr×Obj)}{s:Shared}{σ:St}{H:Hp}{x:Str}{u:Value}{pos:Pos}{Q:Value->Shared->Prop} (I:Inv X pins σ H s) (hg:Gl X x) (hm:X.mg x=none) (hv:bootBuiltins x=some u) (h:Q u s)
  (hn:x ≠ "__name__" := by decide) (hd:(x == ("__debug__" : Str))=false:=by decide):wpAny (model X.prog X.w) X.A (eval (.Name x pos) X.env) Q E s:=by
 obtain⟨mb,h1,h2⟩:=I.mod.blt
 exact Calls.Name_function_global I.ok.kind hg (Calls.loadGlobal_builtin (by rw[I.ok.glob];exact I.mod.glob.keeps I.bk) hm (by rw[I.ok.blt];exact h1.keeps I.bk) ((h2 x hn).trans hv) h) hd
theorem zKE {x:Str}{v:V}{u:Value}{pos:Pos} (hg:Gl X x) (hm:X.mg x=none) (hv:bootBuiltins x=some u) (r:ze v u) (hn:x ≠ "__name__" := by decide) (hd:(x == ("__debug__" : Str))=false:=by decide):PE X (.Name x pos) (tC v) :=
 fun _ _ _ H _ I h=>zB0 I hg hm hv ⟨v,H,I,r,h⟩ hn hd
variable {a b:Expr}{ta tb:TE}{pos:Pos}
variable {tA tB':TT}{jt:List Expr}
def Q2 (t u:TT):TT:=fun σ H Q=>t σ H fun c H1=>if c=true then u σ H1 Q else Q false H1
def tOr (t u:TT):TT:=fun σ H Q=>t σ H fun c H1=>if c=true then Q true H1 else u σ H1 Q
def ZK (t:TT):TT:=fun σ H Q=>t σ H fun c H1=>Q (!c) H1
theorem zKw (ha:PT X a tA):PW X (.BoolOp .And [a] pos) tA:=by
 intro wh pins s σ H Q I h
 refine isTrue_and (thn (ha pins s σ H Q I h) fun c s1 e=>?_)
 cases c with
 | true=>exact isTrue_and_nil e
 | false=>exact e
theorem zMp (ha:PT X a tA):PW X (.BoolOp .Or [a] pos) tA:=by
 intro wh pins s σ H Q I h
 refine isTrue_or (thn (ha pins s σ H Q I h) fun c s1 e=>?_)
 cases c with
 | false=>exact isTrue_or_nil e
 | true=>exact e
theorem zMm (ha:PT X a tA) (hb:PW X (.BoolOp .And (b::jt) pos) tB'):PW X (.BoolOp .And (a::b::jt) pos) (Q2 tA tB'):=by
 intro wh pins s σ H Q I h
 refine isTrue_and (thn (ha pins s σ H _ I h) fun c s1 ⟨H1,I1,q1⟩=>?_)
 cases c with
 | true=>exact hb wh pins s1 σ H1 Q I1 q1
 | false=>exact⟨H1,I1,q1⟩
theorem zNc (ha:PT X a tA) (hb:PW X (.BoolOp .Or (b::jt) pos) tB'):PW X (.BoolOp .Or (a::b::jt) pos) (tOr tA tB'):=by
 intro wh pins s σ H Q I h
 refine isTrue_or (thn (ha pins s σ H _ I h) fun c s1 ⟨H1,I1,q1⟩=>?_)
 cases c with
 | true=>exact⟨H1,I1,q1⟩
 | false=>exact hb wh pins s1 σ H1 Q I1 q1
theorem zMT (ha:PT X a tA):PT X (.UnaryOp .Not a pos) (ZK tA):=by
 intro pins s σ H Q I h
 exact isTrue_not (ha pins s σ H (fun c H1=>Q (!c) H1) I h)
def zNQ (ta tb:TE):TE:=fun σ H Q=>ta σ H fun x H1=>∃ c,x=.bl c/\if c=true then tb σ H1 Q else Q (.bl false) H1
theorem zL4 {op}{t:TE} (h:PE X a t):PE X (.BoolOp op [a] pos) t:=fun pins s σ H Q I hw=>BoolOp_one (h pins s σ H Q I hw)
theorem zLy (ha:PE X a ta) (hb:PE X (.BoolOp .And (b::jt) pos) tb):PE X (.BoolOp .And (a::b::jt) pos) (zNQ ta tb):=by
 intro pins s σ H Q I h
 refine BoolOp_and (thn (ha pins s σ H _ I h) fun v s1 ⟨x,H1,I1,r1,q1⟩=>?_)
 obtain⟨c,rfl,q1⟩:=q1
 cases r1
 refine wpAny_truthy_bool ?_
 cases c with
 | true=>exact hb pins s1 σ H1 Q I1 q1
 | false=>exact⟨.bl false,H1,I1,rfl,q1⟩
end
end L2
namespace L2
open PySem PySem.Spec PyProof.Rows
def SqL (K:PySem.W.Frag) (H:Hp) (a:Addr) (xs:List V):Prop :=
 Rd H a (.lst xs) \/
  ∃ (o:Obj) (its:Array Value) (n:Nat),K.lookup a=some o/\o.cls=.type "list" /\ o.dict=none/\o.data=.seq its n/\its.size <= sizeLine/\zY xs its.toList
def SqT (K:PySem.W.Frag) (H:Hp) (a:Addr) (xs:List V):Prop :=
 Rd H a (.tup xs) \/
  ∃ (o:Obj) (its:Array Value) (n:Nat),K.lookup a=some o/\o.cls=.type "tuple" /\ o.data=.seq its n/\its.size <= sizeLine/\zY xs its.toList
def zN2:Value->Option V
 | .none=>some .non
 | .bool b=>some (.bl b)
 | .int i _=>some (.int i)
 | .str x _=>some (.str x)
 | .bytes b _=>some (.byt b)
 | .float b _=>some (.flt b)
 | .ref a=>some (.ref a)
 | .type n=>some (.ty n)
 | _=>none
theorem ze.abs {x:V}{u:Value} (r:ze x u):zN2 u=some x:=by
 cases x with
 | non=>cases r;rfl
 | bl _=>cases r;rfl
 | int _=>obtain⟨t,rfl⟩:=r;rfl
 | str _=>obtain⟨t,rfl⟩:=r;rfl
 | byt _=>obtain⟨t,rfl⟩:=r;rfl
 | flt _=>obtain⟨t,rfl⟩:=r;rfl
 | ref _=>cases r;rfl
 | ty _=>cases r;rfl
theorem ze.inj {x y:V}{u:Value} (r:ze x u) (q:ze y u):x=y:=Option.some.inj (r.abs.symm.trans q.abs)
theorem zY.inj:∀ {xs ys:List V}{us:List Value},zY xs us->zY ys us->xs=ys
 | _,_,_,.nil,.nil=>rfl
 | _,_,_,.cons r t,.cons r' t'=>by rw[r.inj r',zY.inj t t']
section
variable {X:Cx}{pins:List (Addr×Obj)}{σ:St}{H:Hp}{s:Shared}{a:Addr}{xs ys:List V}
theorem SqL.of {K:PySem.W.Frag} (h:H a=some (.lst xs)):SqL K H a xs:=.inl (.inl h)
theorem SqT.of {K:PySem.W.Frag} (h:H a=some (.tup xs)):SqT K H a xs:=.inl (.inl h)
theorem Inv.list (I:Inv X pins σ H s) (h:SqL X.K H a xs):∃ its:List Value,zY xs its/\PlainL s.heap a its.toArray/\xs.length <= sizeLine:=by
 rcases h with h | ⟨o,its,n,hk,hc,hd,hs,hz,r⟩
 ·obtain⟨z,its,n,r,e⟩:=h.ok I.hok
  exact⟨its,r,⟨_,n,e,rfl,rfl,rfl⟩,z⟩
 ·refine⟨its.toList,r,⟨o,n,I.kIn a o hk,hc,hd,by simpa using hs⟩,?_⟩
  have e:=r.length
  simp only[Array.length_toList] at e
  omega
theorem Inv.tuple (I:Inv X pins σ H s) (h:SqT X.K H a xs):∃ its:List Value,zY xs its/\IsTup s.heap a its.toArray/\xs.length <= sizeLine:=by
 rcases h with h | ⟨o,its,n,hk,hc,hs,hz,r⟩
 ·obtain⟨z,its,r,p⟩:=h.ok I.hok
  exact⟨its,r,p,z⟩
 ·refine⟨its.toList,r,⟨o,I.kIn a o hk,hc,n,by simpa using hs⟩,?_⟩
  have e:=r.length
  simp only[Array.length_toList] at e
  omega
theorem Inv.list_inj (I:Inv X pins σ H s) (h:SqL X.K H a xs) (h':SqL X.K H a ys):xs=ys:=by
 obtain⟨its,r,⟨o,n,e,_,_,d⟩,_⟩:=I.list h
 obtain⟨its',r',⟨o',n',e',_,_,d'⟩,_⟩:=I.list h'
 rw[e] at e';cases e'
 rw[d] at d'
 injection d' with d1 _
 have:its=its':=by simpa using congrArg Array.toList d1
 subst this
 exact r.inj r'
theorem Inv.tuple_inj (I:Inv X pins σ H s) (h:SqT X.K H a xs) (h':SqT X.K H a ys):xs=ys:=by
 obtain⟨its,r,⟨o,e,_,n,d⟩,_⟩:=I.tuple h
 obtain⟨its',r',⟨o',e',_,n',d'⟩,_⟩:=I.tuple h'
 rw[e] at e';cases e'
 rw[d] at d'
 injection d' with d1 _
 have:its=its':=by simpa using congrArg Array.toList d1
 subst this
 exact r.inj r'
end
abbrev Cx.wish (X:Cx) (E:Value->Shared->Prop):Cx:={ X with xe:=E }
abbrev Cx.nox (X:Cx):Cx:=X.wish fun _ _=>False
theorem Cx.Ok.wish {X:Cx} (ok:X.Ok) (E:Value->Shared->Prop):(X.wish E).Ok :=
 ⟨ok.mod,ok.kind,ok.glob,ok.blt,ok.above,ok.inj,ok.has,ok.cab,ok.hd,ok.frames,ok.stk,ok.exf,ok.bs,ok.bsz,ok.noex,ok.exfs,ok.funs,ok.frf⟩
theorem Cx.Ok.unwish {X:Cx}{E:Value->Shared->Prop} (ok:(X.wish E).Ok):X.Ok :=
 ⟨ok.mod,ok.kind,ok.glob,ok.blt,ok.above,ok.inj,ok.has,ok.cab,ok.hd,ok.frames,ok.stk,ok.exf,ok.bs,ok.bsz,ok.noex,ok.exfs,ok.funs,ok.frf⟩
section
variable {X:Cx}{pins:List (Addr×Obj)}{σ:St}{H:Hp}{s:Shared}{E:Value->Shared->Prop}
theorem Inv.wish (I:Inv X pins σ H s) (E:Value->Shared->Prop):Inv (X.wish E) pins σ H s:=⟨I.ok.wish E,I.os,I.bare,I.base,I.loc,I.cell,I.free,I.freeC,I.pin,I.hok,I.len,I.tk⟩
theorem Inv.unwish (I:Inv (X.wish E) pins σ H s):Inv X pins σ H s:=⟨I.ok.unwish,I.os,I.bare,I.base,I.loc,I.cell,I.free,I.freeC,I.pin,I.hok,I.len,I.tk⟩
theorem SP.unwish {D:Qm}{f:Flow}{s':Shared} (h:SP (X.wish E) pins D f s'):SP X pins D f s':=by
 cases f with
 | next=>obtain⟨σ',H',I,q⟩:=h;exact⟨σ',H',I.unwish,q⟩
 | brk=>obtain⟨σ',H',I,q⟩:=h;exact⟨σ',H',I.unwish,q⟩
 | cont=>obtain⟨σ',H',I,q⟩:=h;exact⟨σ',H',I.unwish,q⟩
 | ret u=>obtain⟨v,σ',H',I,r,q⟩:=h;exact⟨v,σ',H',I.unwish,r,q⟩
theorem PSs.nox {st:List Stmt}{t:TS} (h:PSs X.nox st t):PSs X st t:=fun pins s σ H D I hw =>
 wpAny_mono (h pins s σ H D (I.wish _) hw) (fun _ _ q=>q.unwish) fun _ _ z=>False.elim z
end
section
variable {X:Cx}{st:Stmt}{jt:List Stmt}{t u:TS}{e:Expr}{te:TE}{pos:Pos}
def zNR:TS:=fun D σ H=>D.nx σ H
def zN5 (t u:TS):TS:=fun D σ H=>t { D with nx:=u D } σ H
theorem zKk:PSs X [] zNR:=fun _ _ σ H _ I h=>wpAny_execs_nil ⟨σ,H,I,h⟩
theorem zJk (h1:PS X st t) (h2:PSs X jt u):PSs X (st::jt) (zN5 t u):=by
 intro pins s σ H D I h
 refine wpAny_execs_cons (thn (h1 pins s σ H { D with nx:=u D } I h) fun f s1 q=>?_)
 cases f with
 | next =>
  obtain⟨σ',H',I',q⟩:=q
  exact h2 pins s1 σ' H' D I' q
 | ret v=>exact q
 | brk=>exact q
 | cont=>exact q
theorem zKe (h1:PS X st t):PSs X [st] t:=by
 intro pins s σ H D I h
 refine wpAny_execs_cons (thn (h1 pins s σ H D I h) fun f s1 q=>?_)
 cases f with
 | next=>exact wpAny_execs_nil q
 | ret v=>exact q
 | brk=>exact q
 | cont=>exact q
theorem Inv.quiet {pins:List (Addr×Obj)}{σ:St}{H:Hp}{s:Shared} (I:Inv X pins σ H s):interactive X.env=false:=by simp[interactive,I.ok.kind]
def zNP (te:TE):TS:=fun D σ H=>te σ H fun _ H1=>D.nx σ H1
theorem zKG (he:PE X e te) (hs:swapsWith e none pos.line X.env=pure false:=by rfl):PS X (.Expr e pos) (zNP te):=by
 intro pins s σ H D I h
 exact wpAny_Expr_any (thn (he pins s σ H _ I h) fun v s1 ⟨x,H1,I1,r1,q1⟩=>⟨σ,H1,I1,q1⟩) I.quiet hs
def zOB (te:TE):TS:=fun D σ H=>te σ H D.rt
theorem zMD (he:PE X e te):PS X (.Return (some e) pos) (zOB te):=by
 intro pins s σ H D I h
 exact wpAny_Return_some (thn (he pins s σ H _ I h) fun v s1 ⟨x,H1,I1,r1,q1⟩=>⟨x,σ,H1,I1,r1,q1⟩)
def zNu (c:TT) (t u:TS):TS:=fun D σ H=>c σ H fun b H1=>if b=true then t D σ H1 else u D σ H1
theorem zNF {c:Expr}{a b:List Stmt}{tc:TT} (hc:PT X c tc) (ha:PSs X a t) (hb:PSs X b u):PS X (.If c a b pos) (zNu tc t u):=by
 intro pins s σ H D I h
 refine wpAny_If (thn (hc pins s σ H _ I h) fun d s1 ⟨H1,I1,q1⟩=>?_)
 cases d with
 | true=>exact ha pins s1 σ H1 D I1 q1
 | false=>exact hb pins s1 σ H1 D I1 q1
end
abbrev TG:=V->St->Hp->(St->Hp->Prop)->Prop
abbrev TGs:=List V->St->Hp->(St->Hp->Prop)->Prop
def PG (X:Cx) (target:Expr) (t:TG):Prop :=
 ∀ (pins:List (Addr×Obj)) (s:Shared) (σ:St) (H:Hp) (v:V) (u:Value) (Q:St->Hp->Prop),Inv X pins σ H s->ze v u->t v σ H Q ->
  wpAny (model X.prog X.w) X.A (assign target X.env u) (fun _ s'=>∃ σ' H',Inv X pins σ' H' s'/\Q σ' H') X.xe s
def PGs (X:Cx) (ts:List Expr) (t:TGs):Prop :=
 ∀ (pins:List (Addr×Obj)) (s:Shared) (σ:St) (H:Hp) (vs:List V) (us:List Value) (Q:St->Hp->Prop),Inv X pins σ H s->zY vs us->t vs σ H Q ->
  wpAny (model X.prog X.w) X.A (assignInOrder ((assignEach ts X.env).map (·.2)) us) (fun _ s'=>∃ σ' H',Inv X pins σ' H' s'/\Q σ' H') X.xe s
abbrev zJc:=V->V->V->Hp->(Hp->Prop)->Prop
def zL6 (X:Cx) (t:zJc):Prop :=
 ∀ (pins:List (Addr×Obj)) (s:Shared) (σ:St) (H:Hp) (o i v:V) (ov iv u:Value) (Q:Hp->Prop),Inv X pins σ H s->ze o ov->ze i iv->ze v u->t o i v H Q ->
  wpAny (model X.prog X.w) X.A (setItem ov iv u) (fun _ s'=>∃ H',Inv X pins σ H' s'/\Q H') X.xe s
section
variable {X:Cx}{pos:Pos}
def zX (i:Nat):TG:=fun v σ H Q=>Q (σ.set i (some v)) H
theorem zJ2 {i:Nat}{x:Str} (hN:X.N.Nodup) (hi:X.N[i]? = some x) (hx:Loc X.env.scope x) (hf:X.fn x=true\/X.env.scope.names.lookup x=some .local:=by first | exact .inl rfl | exact .inr rfl | assumption):PG X (.Name x pos) (zX i):=by
 intro pins s σ H v u Q I r h
 exact wpAny_assign_Name (zE4 I hN hi hx r (fun s' I'=>⟨_,H,I',h⟩) hf)
def Jj:TGs:=fun vs σ H Q=>vs=[]/\Q σ H
def yC (t:TG) (u:TGs):TGs:=fun vs σ H Q=>∃ v r,vs=v::r/\t v σ H fun σ' H'=>u r σ' H' Q
theorem zJ0:PGs X [] Jj:=by
 intro pins s σ H vs us Q I r h
 obtain⟨e,h⟩:=h
 subst e
 cases r
 exact assignInOrder_nil ⟨σ,H,I,h⟩
theorem zAF {e:Expr}{es:List Expr}{t:TG}{u:TGs} (h1:PG X e t) (h2:PGs X es u)
  (hs:(assignEach (e::es) X.env).map (·.2)=assign e X.env::(assignEach es X.env).map (·.2):=by rfl):PGs X (e::es) (yC t u):=by
 intro pins s σ H vs us Q I r h
 obtain⟨v,vr,e1,h⟩:=h
 subst e1
 cases r with
 | cons r rr =>
  rw[hs]
  refine assignInOrder_cons (thn (h1 pins s σ H _ _ _ I r h) fun _ s1 ⟨σ1,H1,I1,q1⟩=>?_)
  exact h2 pins s1 σ1 H1 _ _ Q I1 rr q1
def Jm (K:PySem.W.Frag) (n:Nat) (t:TGs):TG:=fun v σ H Q=>∃ a xs,v=.ref a/\SqT K H a xs/\xs.length=n/\t xs σ H Q
theorem zMS {es:List Expr}{k:Nat}{t:TGs}{n:Nat} (hc:X.calm=true) (h:PGs X es t)
  (hn:(assignEach es X.env).length=n:=by rfl) (hst:(assignEach es X.env).findIdx? (·.1)=none:=by rfl):PG X (.Tuple es k pos) (Jm X.K n t):=by
 intro pins s σ H v u Q I r hw
 obtain⟨a,xs,e1,hq,hl,hw⟩:=hw
 subst e1
 cases r
 obtain⟨its,rv,ht,hz⟩:=I.tuple hq
 refine assign_Tuple_tuple (I.ok.hd hc) ht (by simp[hn,<- hl,rv.length]) hst fun h' hx=>?_
 have I1:Inv X pins σ H { s with heap:=h' }:=I.kept (t':=s.toks) fun b o e=>hx b o (Nat.ne_of_lt (Heap.lt_size e)) e
 exact h pins _ σ H xs _ Q I1 (by simpa using rv) hw
def zN9 (to ti:TE) (t:zJc):TG:=fun v σ H Q=>to σ H fun o H1=>ti σ H1 fun i H2=>t o i v H2 fun H3=>Q σ H3
theorem zMK {o i:Expr}{to ti:TE}{t:zJc} (ho:PE X o to) (hi:PE X i ti) (hs:zL6 X t)
  (ha:∀ v,assign (.Subscript o i pos) X.env v=(do
   let ov <- holding [v] (eval o X.env)
   let iv <- holding [v,ov] (eval i X.env)
   standAt pos
   holding [v,ov,iv] (setItem ov iv v)
   release [v,ov,iv] []):=by intro _;rfl):PG X (.Subscript o i pos) (zN9 to ti t):=by
 intro pins s σ H v u Q I r h
 rw[ha]
 refine wpAny_bind (wpAny_holding (thn (ho pins s σ H _ I h) fun ov s1 ⟨x,H1,I1,r1,q1⟩=>?_))
 refine wpAny_bind (wpAny_holding (thn (hi pins s1 σ H1 _ I1 q1) fun iv s2 ⟨y,H2,I2,r2,q2⟩=>?_))
 refine wpAny_bind (wpAny_standAt (wpAny_bind (wpAny_holding (thn (hs pins s2 σ H2 x y v ov iv u _ I2 r1 r2 r q2) fun _ s3 ⟨H3,I3,q3⟩=>?_))))
 exact wpAny_release ⟨σ,H3,I3,q3⟩
def zJH (te:TE) (g:TG):TS:=fun D σ H=>te σ H fun x H1=>g x σ H1 D.nx
theorem zLY {tg e:Expr}{te:TE}{g:TG} (he:PE X e te) (hg:PG X tg g) (hs:swapsWithSole [tg] e pos.line X.env=pure false:=by rfl) (hw:swappedStores [tg] e X.env=pure none:=by rfl)
  (h1:(assignEach [tg] X.env).map (·.2)=[assign tg X.env]:=by rfl):PS X (.Assign [tg] e pos) (zJH te g):=by
 intro pins s σ H D I h
 refine wpAny_Assign_stores (thn (he pins s σ H _ I h) fun v s1 ⟨x,H1,I1,r1,q1⟩=>?_) hs hw
 rw[h1]
 exact thn (hg pins s1 σ H1 x v _ I1 r1 q1) fun _ s2 q=>q
theorem zM0 {i:Nat}{x:Str}{e:Expr}{te:TE}{pos':Pos} (hN:X.N.Nodup) (hi:X.N[i]? = some x) (hx:Loc X.env.scope x) (he:PE X e te) (hs:swapsWith e (some (.Name x pos')) pos.line X.env=pure false:=by rfl) (hf:X.fn x=true\/X.env.scope.names.lookup x=some .local:=by first | exact .inl rfl | exact .inr rfl | assumption) :
  PS X (.Assign [.Name x pos'] e pos) (zJH te (zX i)):=by
 intro pins s σ H D I h
 refine wpAny_Assign_Name (thn (he pins s σ H _ I h) fun v s1 ⟨y,H1,I1,r1,q1⟩=>?_) hs
 exact zE4 I1 hN hi hx r1 (fun s2 I2=>⟨_,H1,I2,q1⟩) hf
end
section
variable {X:Cx}{pos:Pos}
def zMY (c:TT) (tb:TS):TS:=fun D σ H=>∃ W:Nat->St->Hp->Prop,(∃ m,W m σ H)/\∀ m σ H,W m σ H ->
 c σ H fun b H1=>if b=true then ∃ N:St->Hp->Prop,(∀ σ' H',N σ' H'->∃ m',m' < m/\W m' σ' H')/\tb { D with nx:=N,ct:=N,bk:=D.nx } σ H1 else D.nx σ H1
theorem zJW {c:Expr}{body:List Stmt}{tc:TT}{tb:TS} (hp:PassesOwn (model X.prog X.w) X.A X.env X.xe) (hc:PT X c tc) (hb:PSs X body tb):PS X (.While c body [] pos) (zMY tc tb):=by
 intro pins s σ H D I h
 obtain⟨W,⟨m0,w0⟩,turn⟩:=h
 refine wpAny_While (codeAny_whileLoop (fun n s'=>∃ σ' H',Inv X pins σ' H' s'/\W n σ' H') ?_ m0 ⟨σ,H,I,w0⟩)
 rintro n s1 ⟨σ1,H1,I1,w1⟩
 refine wpAny_passesOwn hp (thn (hc pins s1 σ1 H1 _ I1 (turn n σ1 H1 w1)) fun b s2 ⟨H2,I2,q2⟩=>?_)
 cases b with
 | true =>
  obtain⟨N,hN,q2⟩:=q2
  rw[if_pos rfl]
  refine wpAny_passesOwn hp (thn (hb pins s2 σ1 H2 _ I2 q2) fun f s3 q3=>?_)
  cases f with
  | next =>
   obtain⟨σ3,H3,I3,n3⟩:=q3
   obtain⟨m',hm,w3⟩:=hN σ3 H3 n3
   exact⟨m',hm,σ3,H3,I3,w3⟩
  | cont =>
   obtain⟨σ3,H3,I3,n3⟩:=q3
   obtain⟨m',hm,w3⟩:=hN σ3 H3 n3
   exact⟨m',hm,σ3,H3,I3,w3⟩
  | brk=>exact q3
  | ret v=>exact q3
 | false =>
  rw[if_neg Bool.false_ne_true]
  exact wpAny_execs_nil ⟨σ1,H2,I2,q2⟩
end
structure It where
 go:Nat->Hp->Prop
 yld:Nat->Hp->V->Hp->Prop
 stop:Nat->Hp->Prop
def Jg (X:Cx) (pins:List (Addr×Obj)) (H:Hp) (b:Addr):Prop :=
 H b=none/\b≠X.env.locals/\b∉X.fs/\(b∈X.ex\/X.s₀.heap.objs.size <= b)/\(∀ x c,X.env.cells.lookup x=some c->c≠b)/\∀ p∈X.pn++pins,p.1≠b
theorem Inv.fpOk {X:Cx}{pins:List (Addr×Obj)}{σ:St}{H H':Hp}{s:Shared}{b:Addr} (I:Inv X pins σ H s) (hb:s.heap.objs.size <= b) (hn:H' b=none):Jg X pins H' b:=by
 refine⟨hn,Nat.ne_of_gt (Nat.lt_of_lt_of_le I.lt hb),I.nofs hb,.inr (Nat.le_trans I.sz hb),fun x c e z=>?_,fun p hp z=>?_⟩
 ·obtain⟨v,q⟩:=I.cell x c e
  exact absurd (Nat.lt_of_lt_of_le q.lt (by rw[z];exact hb)) (Nat.lt_irrefl _)
 ·exact absurd (Nat.lt_of_lt_of_le (Heap.lt_size (I.pin p hp).1) (by rw[z];exact hb)) (Nat.lt_irrefl _)
structure zAN (P:Program) (w:World) (K:PySem.W.Frag) (tg:Expr) (J:It) (fp:List Addr) (it:Addr) (tn:Nat->Heap->Prop):Prop where
 mem:it∈fp
 obj:∀ i h,tn i h->∀ b∈fp,∃ o,h.get? b=some o/\∀ v,o.data≠.cell v
 keep:∀ i h h',tn i h->(∀ b∈fp,∀ o,h.get? b=some o->h'.get? b=some o)->tn i h'
 item:∀ (X:Cx),X.prog=P->X.w=w->X.K=K->X.calm=true->∀ (i:Nat) (pins:List (Addr×Obj)) (s:Shared) (σ:St) (H:Hp) (E:Value->Shared->Prop),Inv X pins σ H s->(∀ b∈fp,Jg X pins H b)->tn i s.heap->J.go i H ->
  wpAny (model P w) X.A (pyNext (.ref it)) (fun r s1=>∃ u,r=some u /\
   wpAny (model P w) X.A (letOwnedTupleGo tg (.ref it) u) (fun _ s2=>∃ x H',Inv X pins σ H' s2/\ze x u/\J.yld i H x H'/\tn (i+1) s2.heap/\∀ b∈fp,H' b=none) E s1) E s
 done:∀ (X:Cx),X.prog=P->X.w=w->X.K=K->X.calm=true->∀ (i:Nat) (pins:List (Addr×Obj)) (s:Shared) (σ:St) (H:Hp) (E:Value->Shared->Prop),Inv X pins σ H s->(∀ b∈fp,Jg X pins H b)->tn i s.heap->J.stop i H ->
  wpAny (model P w) X.A (pyNext (.ref it)) (fun r s1=>r=none/\Inv X pins σ H s1) E s
 self:∀ (A:Around) (i:Nat) (s:Shared) (Q:Value->Shared->Prop) (E:Value->Shared->Prop),tn i s.heap->Q (.ref it) s->wpAny (model P w) A (pyIter (.ref it)) Q E s
abbrev TI:=St->Hp->(It->Hp->Prop)->Prop
def PIE (X:Cx) (pins:List (Addr×Obj)) (σ:St) (tg:Expr) (R:It->Hp->Prop) (itv:Value) (s2:Shared):Prop :=
 ∃ (it:Addr) (fp:List Addr) (tn:Nat->Heap->Prop) (J:It) (H':Hp),itv=.ref it/\Inv X pins σ H' s2/\zAN X.prog X.w X.K tg J fp it tn/\tn 0 s2.heap/\(∀ b∈fp,Jg X pins H' b)/\R J H'
def PI (X:Cx) (tg iter:Expr) (wi:TI):Prop :=
 ∀ (pins:List (Addr×Obj)) (s:Shared) (σ:St) (H:Hp) (R:It->Hp->Prop),Inv X pins σ H s->wi σ H R ->
  wpAny (model X.prog X.w) X.A (eval iter X.env) (fun v s1=>wpAny (model X.prog X.w) X.A (pyIter v) (PIE X pins σ tg R) X.xe s1) X.xe s
theorem zBJ {M:Model}{A:Around}{E:Value->Shared->Prop}{s:Shared}{tg:Expr}{it:Addr}{u:Value}{o:Obj}{n:String}{vs:Array Value}{Q:Unit->Shared->Prop} (ho:s.heap.get? it=some o) (hc:o.cls=.type n) (hd:o.data=.fields vs)
  (hn:["enumerate","zip","dict_itemiterator","dict_reverseitemiterator","odict_iterator","itertools.zip_longest","itertools.pairwise"].contains n=false) (hQ:Q () s):wpAny M A (letOwnedTupleGo tg (.ref it) u) Q E s:=by
 unfold letOwnedTupleGo
 cases tg<;>first
  | exact wpAny_pure hQ
  | (cases u<;>first
      | exact wpAny_pure hQ
      | (refine wpAny_bind (wpAny_load ho ?_)
         rw[hc,hd]
         show wpAny M A (if (["enumerate","zip","dict_itemiterator","dict_reverseitemiterator","odict_iterator","itertools.zip_longest","itertools.pairwise"].contains n && vs[0]? == some (rawInt _))=true then _ else _) Q E s
         rw[if_neg (by intro h;rw[hn,Bool.false_and] at h;cases h)]
         exact wpAny_pure hQ))
def Itl (K:PySem.W.Frag) (a:Addr):It :=
 ⟨fun i H=>∃ xs x,SqL K H a xs/\xs[i]? = some x,fun i H x H'=>H'=H/\∀ xs,SqL K H a xs->xs[i]? = some x,fun i H=>∃ xs,SqL K H a xs/\xs.length <= i⟩
def Itt (K:PySem.W.Frag) (a:Addr):It :=
 ⟨fun i H=>∃ xs x,SqT K H a xs/\xs[i]? = some x,fun i H x H'=>H'=H/\∀ xs,SqT K H a xs->xs[i]? = some x,fun i H=>∃ xs,SqT K H a xs/\xs.length <= i⟩
def Itr (lo:Int) (n:Nat):It:=⟨fun i _=>i < n,fun i H x H'=>H'=H/\x=.int (lo+i),fun i _=>n <= i⟩
theorem zHm {P:Program}{w:World}{K:PySem.W.Frag}{tg:Expr} (a it:Addr):zAN P w K tg (Itl K a) [it] it (fun i h=>h.IsListIter it a i) where
 mem:=by simp
 obj:=fun i h st b hb=>by
  have e:b=it:=by simpa using hb
  subst e
  obtain⟨o,e,c,d⟩:=st
  exact⟨o,e,fun v z=>by rw[d] at z;cases z⟩
 keep:=fun i h h' st k=>st.at fun o e=>k it (by simp) o e
 item:=by
  intro X hP hw hK hc i pins s σ H E I hf st hg
  subst hP hw hK
  obtain⟨xs,x,hq,hx⟩:=hg
  obtain⟨its,rv,p,hz⟩:=I.list hq
  obtain⟨u,hu,ru⟩:=rv.get hx
  obtain⟨f0,f1,f2,f3,f4,f5⟩:=hf it (by simp)
  refine wpAny_pyNext_list_item st p.isList (x:=u) (by simpa using hu) fun h' st' sb=>?_
  have I1:Inv X pins σ H { s with heap:=h' }:=I.turned (t':=s.toks) (fun b o hb e=>(sb.2 b hb).trans e) f0 f1 f3 f4 f5
  obtain⟨o,e,c,d⟩:=id st'
  exact⟨u,rfl,zBJ (s:={ s with heap:=h' }) e c d (by decide) ⟨x,H,I1,ru,⟨rfl,fun ys hy=>by rw[I.list_inj hy hq];exact hx⟩,st',fun b hb=>(hf b hb).1⟩⟩
 done:=by
  intro X hP hw hK hc i pins s σ H E I hf st hg
  subst hP hw hK
  obtain⟨xs,hq,hx⟩:=hg
  obtain⟨its,rv,p,hz⟩:=I.list hq
  obtain⟨f0,f1,f2,f3,f4,f5⟩:=hf it (by simp)
  have hl:=rv.length
  exact wpAny_pyNext_list_end (I.ok.hd hc) st p.isList (by simp;omega) fun h' eb=>⟨rfl,I.turned (t':=s.toks) (fun b o hb e=>eb b o hb e) f0 f1 f3 f4 f5⟩
 self:=fun _ _ _ _ _ st h=>wpAny_pyIter_listiter st h
theorem zHC {P:Program}{w:World}{K:PySem.W.Frag}{tg:Expr} (a it:Addr):zAN P w K tg (Itt K a) [it] it (fun i h=>h.IsTupleIter it a i) where
 mem:=by simp
 obj:=fun i h st b hb=>by
  have e:b=it:=by simpa using hb
  subst e
  obtain⟨o,e,c,d⟩:=st
  exact⟨o,e,fun v z=>by rw[d] at z;cases z⟩
 keep:=fun i h h' st k=>st.at fun o e=>k it (by simp) o e
 item:=by
  intro X hP hw hK hc i pins s σ H E I hf st hg
  subst hP hw hK
  obtain⟨xs,x,hq,hx⟩:=hg
  obtain⟨its,rv,p,hz⟩:=I.tuple hq
  obtain⟨u,hu,ru⟩:=rv.get hx
  obtain⟨f0,f1,f2,f3,f4,f5⟩:=hf it (by simp)
  refine wpAny_pyNext_tuple_item st (show s.heap.IsTuple a its.toArray from p) (x:=u) (by simpa using hu) fun h' st' sb=>?_
  have I1:Inv X pins σ H { s with heap:=h' }:=I.turned (t':=s.toks) (fun b o hb e=>(sb.2 b hb).trans e) f0 f1 f3 f4 f5
  obtain⟨o,e,c,d⟩:=id st'
  exact⟨u,rfl,zBJ (s:={ s with heap:=h' }) e c d (by decide) ⟨x,H,I1,ru,⟨rfl,fun ys hy=>by rw[I.tuple_inj hy hq];exact hx⟩,st',fun b hb=>(hf b hb).1⟩⟩
 done:=by
  intro X hP hw hK hc i pins s σ H E I hf st hg
  subst hP hw hK
  obtain⟨xs,hq,hx⟩:=hg
  obtain⟨its,rv,p,hz⟩:=I.tuple hq
  obtain⟨f0,f1,f2,f3,f4,f5⟩:=hf it (by simp)
  have hl:=rv.length
  exact wpAny_pyNext_tuple_end (I.ok.hd hc) st (show s.heap.IsTuple a its.toArray from p) (by simp;omega) fun h' eb=>⟨rfl,I.turned (t':=s.toks) (fun b o hb e=>eb b o hb e) f0 f1 f3 f4 f5⟩
 self:=fun _ _ _ _ _ st h=>wpAny_pyIter_tupleiter st h
theorem zGv {P:Program}{w:World}{K:PySem.W.Frag}{tg:Expr} (it:Addr) (lo:Int) (n:Nat):zAN P w K tg (Itr lo n) [it] it (fun i h=>IsRangeIter h it (lo+(i:Nat) * 1) ((n:Int) - (i:Nat)) 1) where
 mem:=by simp
 obj:=fun i h st b hb=>by
  have e:b=it:=by simpa using hb
  subst e
  exact⟨_,st,fun v z=>by
   have z':Data.fields _=Data.cell v:=z
   cases z'⟩
 keep:=fun i h h' st k=>k it (by simp) _ st
 item:=by
  intro X hP hw hK hc i pins s σ H E I hf st hg
  subst hP hw hK
  obtain⟨f0,f1,f2,f3,f4,f5⟩:=hf it (by simp)
  have W:=Walks.range (prog:=X.prog) (w:=X.w) (I.ok.hd hc) it lo 1 n
  refine wpAny_with_toks (n:=1) I.tk (W.item i s _ _ hg st fun v h' tk hv st' kk htk=>?_)
  obtain⟨t,rfl⟩:=hv
  have I1:Inv X pins σ H { s with heap:=h',toks:=tk }:=I.turned (fun b o hb e=>kk b o (by simpa using hb) e) f0 f1 f3 f4 f5
  refine⟨_,rfl,zBJ (s:={ s with heap:=h',toks:=tk }) (n := "range_iterator") st' rfl rfl (by decide) ⟨.int (lo+i),H,I1,⟨t,?_⟩,⟨rfl,rfl⟩,st',fun b hb=>(hf b hb).1⟩⟩
  rw[Int.mul_one]
 done:=by
  intro X hP hw hK hc i pins s σ H E I hf st hg
  subst hP hw hK
  obtain⟨f0,f1,f2,f3,f4,f5⟩:=hf it (by simp)
  exact wpAny_pyNext_range_end (I.ok.hd hc) st (by have:n <= i:=hg;omega) fun h' eb=>⟨rfl,I.turned (t':=s.toks) (fun b o hb e=>eb b o hb e) f0 f1 f3 f4 f5⟩
 self:=fun _ _ _ _ _ st h=>wpAny_pyIter_rangeiter st h
end L2
namespace L2
open PySem PySem.Spec PyProof.Rows
section
variable {X:Cx}{tg:Expr}
def zM3 (K:PySem.W.Frag) (tl:TE):TI:=fun σ H R=>tl σ H fun x H1=>∃ a,x=.ref a/\(∃ xs,SqL K H1 a xs)/\R (Itl K a) H1
def zNw (K:PySem.W.Frag) (tl:TE):TI:=fun σ H R=>tl σ H fun x H1=>∃ a,x=.ref a/\(∃ xs,SqT K H1 a xs)/\R (Itt K a) H1
theorem zKb {l:Expr}{tl:TE} (hl:PE X l tl):PI X tg l (zM3 X.K tl):=by
 intro pins s σ H R I h
 refine thn (hl pins s σ H _ I h) fun v s1 ⟨x,H1,I1,r1,q1⟩=>?_
 obtain⟨a,e,⟨xs,hq⟩,q⟩:=q1
 subst e
 cases r1
 obtain⟨its,rv,p,hz⟩:=I1.list hq
 refine wpAny_pyIter_list p.isList ?_
 refine⟨s1.heap.objs.size,[s1.heap.objs.size],_,_,H1,rfl,I1.kept (t':=s1.toks) fun b o e=>Heap.get?_push_of_some _ e,zHm a _,⟨_,Heap.get?_push_size _ rfl,rfl,rfl⟩,fun b hb=>?_,q⟩
 have e:b=s1.heap.objs.size:=by simpa using hb
 subst e
 exact I1.fpOk (Nat.le_refl _) (I1.hok.fresh (Nat.le_refl _))
theorem zLh {l:Expr}{tl:TE} (hl:PE X l tl):PI X tg l (zNw X.K tl):=by
 intro pins s σ H R I h
 refine thn (hl pins s σ H _ I h) fun v s1 ⟨x,H1,I1,r1,q1⟩=>?_
 obtain⟨a,e,⟨xs,hq⟩,q⟩:=q1
 subst e
 cases r1
 obtain⟨its,rv,p,hz⟩:=I1.tuple hq
 refine wpAny_pyIter_tuple (show s1.heap.IsTuple a its.toArray from p) ?_
 refine⟨s1.heap.objs.size,[s1.heap.objs.size],_,_,H1,rfl,I1.kept (t':=s1.toks) fun b o e=>Heap.get?_push_of_some _ e,zHC a _,⟨_,Heap.get?_push_size _ rfl,rfl,rfl⟩,fun b hb=>?_,q⟩
 have e:b=s1.heap.objs.size:=by simpa using hb
 subst e
 exact I1.fpOk (Nat.le_refl _) (I1.hok.fresh (Nat.le_refl _))
theorem zJS {pins:List (Addr×Obj)}{σ:St}{H:Hp}{s:Shared}{R:It->Hp->Prop}{E:Value->Shared->Prop}{lo hi:Int}{t u v:Tok}{tk:Nat} (I:Inv X pins σ H s) (h1:-(2 ^ 62) <= lo) (h2:lo < 2 ^ 62) (h3:-(2 ^ 62) <= hi) (h4:hi < 2 ^ 62)
  (q:R (Itr lo (hi - lo).toNat) H) (htk:0 < tk:=by first | exact Nat.succ_pos _ | assumption | exact Inv.tk (by assumption) | omega):wpAny (model X.prog X.w) X.A (pyIter (.ref s.heap.objs.size)) (PIE X pins σ tg R) E { s with heap:=s.heap.push { cls:=.type "range",data:=.fields #[.int lo t,.int hi u,.int 1 v] },toks:=tk }:=by
 refine wpAny_pyIter_range (IsRange.new ..) (small_one h1 h2 h3 h4) ?_
 have I1:Inv X pins σ H { s with heap:=s.heap.push { cls:=.type "range",data:=.fields #[.int lo t,.int hi u,.int 1 v] },toks:=tk }:=I.kept fun b o e=>Heap.get?_push_of_some _ e
 refine⟨(s.heap.push { cls:=.type "range",data:=.fields #[.int lo t,.int hi u,.int 1 v] }).objs.size,[(s.heap.push { cls:=.type "range",data:=.fields #[.int lo t,.int hi u,.int 1 v] }).objs.size],_,_,H,rfl,
  I1.kept (t':=tk) fun b o e=>Heap.get?_push_of_some _ e,zGv _ lo (hi - lo).toNat,?_,fun b hb=>?_,q⟩
 ·have e1:lo+((0:Nat):Int) * 1=lo:=by simp
  have e2:(((hi - lo).toNat:Nat):Int) - ((0:Nat):Int)=Builtin.Range.rangeSize lo hi 1:=by rw[rangeSize_one];split<;>omega
  show IsRangeIter _ _ (lo+((0:Nat):Int) * 1) ((((hi - lo).toNat:Nat):Int) - ((0:Nat):Int)) 1
  rw[e1,e2]
  exact Heap.get?_push_size _ rfl
 ·have e:b=(s.heap.push { cls:=.type "range",data:=.fields #[.int lo t,.int hi u,.int 1 v] }).objs.size:=by simpa using hb
  subst e
  exact I1.fpOk (Nat.le_refl _) (I1.hok.fresh (Nat.le_refl _))
def zNI (ta:TA):TI:=fun σ H R=>ta σ H fun vs H1=>∃ j:Int,vs=[.int j] /\ -(2 ^ 62) <= j/\j < 2 ^ 62/\R (Itr 0 j.toNat) H1
theorem zHe {a:Expr}{ta:TA}{p pos:Pos} (hg:Gl X "range") (hm:X.mg "range" = none) (ha:PA X [a] ta) (hs:starEach [a] X.env=[(false,eval a X.env)]:=by rfl):PI X tg (.Call (.Name "range" p) [a] [] pos) (zNI ta):=by
 intro pins s σ H R I h
 refine Call_ (zB0 I hg hm boot_range (PyProof.Rows.callWith_type1 (thn (ha pos pins s σ H _ I h) fun us s1 ⟨vs,H1,I1,r1,q1⟩=>?_) hs rfl))
 obtain⟨j,e,q1,q2,q⟩:=q1
 subst e
 cases r1 with
 | cons r rr =>
  cases rr
  obtain⟨t,rfl⟩:=r
  exact call_range_1 (zJS I1 (by omega) (by omega) q1 q2 (by simpa using q))
def zNr (wi:TI) (g:TG) (tb:TS):TS:=fun D σ H=>wi σ H fun J H1=>∃ W:Nat->Nat->St->Hp->Prop,(∃ m,W 0 m σ H1)/\∀ i m σ H,W i m σ H ->
 (J.stop i H/\D.nx σ H)\/(J.go i H/\∃ N:St->Hp->Prop,(∀ σ' H',N σ' H'->∃ m',m' < m/\W (i+1) m' σ' H')/\∀ x H',J.yld i H x H'->g x σ H' fun σ2 H2=>tb { D with nx:=N,ct:=N,bk:=D.nx } σ2 H2)
def Zh (fp:List Addr) (h:Heap):List (Addr×Obj):=fp.filterMap fun b=>(h.get? b).map fun o=>(b,o)
theorem Q6 {fp:List Addr}{h:Heap}{b:Addr}{o:Obj} (hb:b∈fp) (e:h.get? b=some o):(b,o)∈Zh fp h:=List.mem_filterMap.mpr ⟨b,hb,by rw[e];rfl⟩
theorem zDU {fp:List Addr}{h:Heap}{p:Addr×Obj} (hp:p∈Zh fp h):p.1∈fp/\h.get? p.1=some p.2:=by
 obtain⟨b,hb,e⟩:=List.mem_filterMap.mp hp
 cases q:h.get? b with
 | none=>rw[q] at e;cases e
 | some o =>
  rw[q] at e
  have e':(b,o)=p:=Option.some.inj e
  subst e'
  exact⟨hb,q⟩
theorem Inv.pinned {pins:List (Addr×Obj)}{σ:St}{H:Hp}{s:Shared}{fp:List Addr} (I:Inv X pins σ H s) (hf:∀ b∈fp,Jg X pins H b) (ho:∀ b∈fp,∃ o,s.heap.get? b=some o/\∀ v,o.data≠.cell v):Inv X (pins++Zh fp s.heap) σ H s :=
 I.pins_of fun p hp=>(List.mem_append.mp hp).elim (fun z=>I.pin p (List.mem_append_right _ z)) fun z=>by
  obtain⟨hb,e⟩:=zDU z
  obtain⟨f0,f1,f2,_⟩:=hf p.1 hb
  obtain⟨o,e',d⟩:=ho p.1 hb
  rw[e] at e';cases e'
  exact⟨e,f0,f1,f2,d⟩
theorem Inv.unpinned {pins pl:List (Addr×Obj)}{σ:St}{H:Hp}{s:Shared} (I:Inv X (pins++pl) σ H s):Inv X pins σ H s:=I.pins_of fun p hp=>I.pin p (List.mem_append_right _ (List.mem_append_left _ hp))
theorem zD4 {iter:Expr}{body:List Stmt}{wi:TI}{g:TG}{tb:TS}{pos:Pos} (hp:PassesOwn (model X.prog X.w) X.A X.env X.xe) (hc:X.calm=true) (hi:PI X tg iter wi) (hg:PG X tg g) (hb:PSs X body tb)
  (hs:∀ x,foldedSetIterable iter X.env x=pure x:=by intro _;rfl):PS X (.For tg iter body [] pos) (zNr wi g tb):=by
 intro pins s σ H D I h
 refine wpAny_For (thn (hi pins s σ H _ I h) fun v s1 h1=>thn h1 fun itv s2 h2=>?_) hs
 obtain⟨it,fp,tn,J,H2,e,I2,T,st2,f2,W,⟨m0,w0⟩,turn⟩:=h2
 subst e
 have stat:∀ {H':Hp},(∀ b∈fp,H' b=none)->∀ b∈fp,Jg X pins H' b:=fun hn b hb=>⟨hn b hb,(f2 b hb).2⟩
 refine codeAny_forLoop_any (fun n s'=>∃ i σ' H',Inv X pins σ' H' s'/\tn i s'.heap/\(∀ b∈fp,H' b=none)/\W i n σ' H') ?_ m0 ⟨0,σ,H2,I2,st2,fun b hb=>(f2 b hb).1,w0⟩
 rintro n s3 ⟨i,σ3,H3,I3,st3,fr3,w3⟩
 rcases turn i n σ3 H3 w3 with ⟨stop,qn⟩ | ⟨go,N,hN,step⟩
 ·refine wpAny_passesOwn hp (thn (T.done X rfl rfl rfl hc i pins s3 σ3 H3 X.xe I3 (stat fr3) st3 stop) fun r s4 ⟨hr,I4⟩=>?_)
  subst hr
  exact wpAny_execs_nil ⟨σ3,H3,I4,qn⟩
 ·refine wpAny_passesOwn hp (thn (T.item X rfl rfl rfl hc i pins s3 σ3 H3 X.xe I3 (stat fr3) st3 go) fun r s4 ⟨u,hr,h4⟩=>?_)
  subst hr
  refine wpAny_passesOwn hp (thn h4 fun _ s5 ⟨x,H5,I5,r5,y5,st5,fr5⟩=>?_)
  have I5':=I5.pinned (stat fr5) (T.obj _ _ st5)
  refine wpAny_passesOwn hp (thn (hg _ s5 σ3 H5 x u _ I5' r5 (step x H5 y5)) fun _ s6 ⟨σ6,H6,I6,q6⟩=>?_)
  refine wpAny_passesOwn hp (thn (hb _ s6 σ6 H6 _ I6 q6) fun f s7 q7=>?_)
  have again:∀ {σ7:St}{H7:Hp},Inv X (pins++Zh fp s5.heap) σ7 H7 s7->N σ7 H7->∃ m,m < n/\∃ i σ' H',Inv X pins σ' H' s7/\tn i s7.heap/\(∀ b∈fp,H' b=none)/\W i m σ' H':=fun {σ7 H7} I7 n7=>by
   obtain⟨m',hm,w7⟩:=hN σ7 H7 n7
   refine⟨m',hm,i+1,σ7,H7,I7.unpinned,T.keep _ _ _ st5 fun b hb o e=>(I7.pin (b,o) (List.mem_append_right _ (List.mem_append_right _ (Q6 hb e)))).1,fun b hb=>?_,w7⟩
   obtain⟨o,e,d⟩:=T.obj _ _ st5 b hb
   exact (I7.pin (b,o) (List.mem_append_right _ (List.mem_append_right _ (Q6 hb e)))).2.1
  cases f with
  | next=>obtain⟨σ7,H7,I7,n7⟩:=q7;exact again I7 n7
  | cont=>obtain⟨σ7,H7,I7,n7⟩:=q7;exact again I7 n7
  | brk=>obtain⟨σ7,H7,I7,q7⟩:=q7;exact⟨σ7,H7,I7.unpinned,q7⟩
  | ret v=>obtain⟨x7,σ7,H7,I7,r7,q7⟩:=q7;exact⟨x7,σ7,H7,I7.unpinned,r7,q7⟩
end
end L2
namespace L2
open PySem PySem.Spec PyProof.Rows
abbrev R2:=V->V->Hp->VK->Prop
def OpR (X:Cx) (f:Value->Value->Sem Value) (r:R2):Prop :=
 ∀ (pins:List (Addr×Obj)) (s:Shared) (σ:St) (H:Hp) (x y:V) (v u:Value) (Q:VK),Inv X pins σ H s->ze x v->ze y u->r x y H Q ->
  wpAny (model X.prog X.w) X.A (f v u) (EP X pins σ Q) X.xe s
def jp (X:Cx) (f:Value) (r:List V->Hp->VK->Prop):Prop :=
 ∀ (pins:List (Addr×Obj)) (s:Shared) (σ:St) (H:Hp) (xs:List V) (us:List Value) (Q:VK),Inv X pins σ H s->zY xs us->r xs H Q ->
  wpAny (model X.prog X.w) X.A (call f us) (EP X pins σ Q) X.xe s
def zNp (X:Cx) (r:V->Hp->(Bool->Hp->Prop)->Prop):Prop :=
 ∀ (pins:List (Addr×Obj)) (s:Shared) (σ:St) (H:Hp) (x:V) (v:Value) (Q:Bool->Hp->Prop),Inv X pins σ H s->ze x v->r x H Q ->
  wpAny (model X.prog X.w) X.A (truthy v) (TP X pins σ Q) X.xe s
def tOp (r:R2) (ta tb:TE):TE:=fun σ H Q=>ta σ H fun x H1=>tb σ H1 fun y H2=>r x y H2 Q
def rI (C:Int->Int->Prop) (g:Int->Int->V):R2:=fun x y H Q=>∃ i j,x=.int i/\y=.int j/\C i j/\Q (g i j) H
def rI0 (g:Int->Int->V):R2:=fun x y H Q=>∃ i j,x=.int i/\y=.int j/\Q (g i j) H
section
variable {X:Cx}{a b c:Expr}{ta tb tc:TE}{pos:Pos}
theorem zIr (ha:PE X a ta) (hb:PE X b tb) {pins:List (Addr×Obj)}{s:Shared}{σ:St}{H:Hp}{R:V->V->Hp->Prop} (I:Inv X pins σ H s)
  (h:ta σ H fun x H1=>tb σ H1 fun y H2=>R x y H2) {Q:Value->Shared->Prop}{f:Value->Value->Sem Value}
  (hf:∀ v u s2 x y H2,Inv X pins σ H2 s2->ze x v->ze y u->R x y H2->wpAny (model X.prog X.w) X.A (f v u) Q X.xe s2) :
  wpAny (model X.prog X.w) X.A (eval a X.env) (fun v s₁=>wpAny (model X.prog X.w) X.A (eval b X.env) (fun u s₂=>wpAny (model X.prog X.w) X.A (f v u) Q X.xe s₂) X.xe s₁) X.xe s:=by
 refine thn (ha pins s σ H _ I h) fun v s1 ⟨x,H1,I1,r1,q1⟩=>?_
 refine thn (hb pins s1 σ H1 _ I1 q1) fun u s2 ⟨y,H2,I2,r2,q2⟩=>?_
 exact hf v u s2 x y H2 I2 r1 r2 q2
theorem zNS {op:Operator}{r:R2} (ho:OpR X (binaryOp op) r) (ha:PE X a ta) (hb:PE X b tb):PE X (.BinOp a op b pos) (tOp r ta tb):=by
 intro pins s σ H Q I h
 exact wpAny_BinOp (zIr ha hb I h fun v u s2 x y H2 I2 rx ry q=>ho pins s2 σ H2 x y v u Q I2 rx ry q)
theorem opI {f:Value->Value->Sem Value}{C:Int->Int->Prop}{g:Int->Int->Int}
  (rule:∀ (i j:Int) (t u:Tok) (s:Shared) (Q:Value->Shared->Prop) (E:Value->Shared->Prop),C i j->Q (.int (g i j) s.toks) { s with toks:=s.toks+1 }->wpAny (model X.prog X.w) X.A (f (.int i t) (.int j u)) Q E s) :
  OpR X f (rI C fun i j=>.int (g i j)):=by
 intro pins s σ H x y v u Q I rx ry h
 obtain⟨i,j,rfl,rfl,hc,q⟩:=h
 obtain⟨t,rfl⟩:=rx
 obtain⟨t',rfl⟩:=ry
 exact rule i j t t' s _ _ hc ⟨.int (g i j),H,I.tok _,⟨_,rfl⟩,q⟩
theorem zLA {f:Value->Value->Sem Value}{g:Int->Int->Int}
  (rule:∀ (i j:Int) (t u:Tok) (s:Shared) (Q:Value->Shared->Prop) (E:Value->Shared->Prop),Q (.int (g i j) s.toks) { s with toks:=s.toks+1 }->wpAny (model X.prog X.w) X.A (f (.int i t) (.int j u)) Q E s) :
  OpR X f (rI0 fun i j=>.int (g i j)):=by
 intro pins s σ H x y v u Q I rx ry h
 obtain⟨i,j,rfl,rfl,q⟩:=h
 obtain⟨t,rfl⟩:=rx
 obtain⟨t',rfl⟩:=ry
 exact rule i j t t' s _ _ ⟨.int (g i j),H,I.tok _,⟨_,rfl⟩,q⟩
theorem zM1 {f:Value->Value->Sem Value}{g:Int->Int->Bool}
  (rule:∀ (i j:Int) (t u:Tok) (s:Shared) (Q:Value->Shared->Prop) (E:Value->Shared->Prop),Q (.bool (g i j)) s->wpAny (model X.prog X.w) X.A (f (.int i t) (.int j u)) Q E s) :
  OpR X f (rI0 fun i j=>.bl (g i j)):=by
 intro pins s σ H x y v u Q I rx ry h
 obtain⟨i,j,rfl,rfl,q⟩:=h
 obtain⟨t,rfl⟩:=rx
 obtain⟨t',rfl⟩:=ry
 exact rule i j t t' s _ _ ⟨.bl (g i j),H,I,rfl,q⟩
def zNk (i j:Int):Prop:=0 < j/\j < 1073741824
def zGY (i j:Int):Prop:=(-(2 ^ 64) < i/\i < 2 ^ 64)\/(-(2 ^ 64) < j/\j < 2 ^ 64)
theorem zGY.ok {i j:Int} (h:zGY i j):IntMulOk i j:=by
 rcases h with ⟨h1,h2⟩ | ⟨h1,h2⟩
 ·exact .of_left (intBits_le_64 h1 h2)
 ·exact .of_right (intBits_le_64 h1 h2)
theorem zLp:OpR X (binaryOp .Add) (rI0 fun i j=>.int (i+j)):=zLA fun _ _ _ _ _ _ _ q=>add_int q
theorem zLu:OpR X (binaryOp .Sub) (rI0 fun i j=>.int (i - j)):=zLA fun _ _ _ _ _ _ _ q=>sub_int q
theorem zLq:OpR X (binaryOp .Mult) (rI zGY fun i j=>.int (i * j)):=opI fun _ _ _ _ _ _ _ hc q=>mul_int q hc.ok
theorem zKz:OpR X (binaryOp .FloorDiv) (rI zNk fun i j=>.int (i / j)):=opI fun i j _ _ _ _ _ hc q=>by
 have h1:(0:Int) < j:=hc.1
 have h2:j < 1073741824:=hc.2
 exact floordiv_int (by omega) (by rw[Int.fdiv_eq_ediv_of_nonneg i (by omega)];exact q) (.inl (PyProof.noPylong_small (by omega)))
theorem zMJ:OpR X (binaryOp .Mod) (rI (fun _ j=>0 < j) fun i j=>.int (i % j)):=opI fun i j _ _ _ _ _ hc q=>by
 have h1:(0:Int) < j:=hc
 exact mod_int' (by omega) (by rw[Int.fmod_eq_emod_of_nonneg i (by omega)];exact q)
end
def zCe:V->V->Bool
 | .non,.non=>true | .non,.int _=>true | .int _,.non=>true | .non,.bl _=>true | .bl _,.non=>true | .non,.str _=>true | .str _,.non=>true
 | .int _,.int _=>true | .bl _,.bl _=>true | .str _,.str _=>true | .byt _,.byt _=>true
 | .int _,.str _=>true | .str _,.int _=>true | .bl _,.str _=>true | .str _,.bl _=>true
 | _,_=>false
def rEq:R2:=fun x y H Q=>zCe x y=true/\Q (.bl (decide (x=y))) H
def rNe:R2:=fun x y H Q=>zCe x y=true/\Q (.bl (!decide (x=y))) H
theorem zF7 {i j:Int}:decide (V.int i=V.int j)=(i == j):=by
 rw[Bool.eq_iff_iff]
 simp
theorem zIX {i j:Bool}:decide (V.bl i=V.bl j)=(i == j):=by
 rw[Bool.eq_iff_iff]
 simp
theorem zFn {i j:Str}:decide (V.str i=V.str j)=(i == j):=by
 rw[Bool.eq_iff_iff]
 simp
theorem zFs {i j:Array UInt8}:decide (V.byt i=V.byt j)=(i.toList == j.toList):=by
 rw[Bool.eq_iff_iff]
 cases i
 cases j
 simp
section
variable {X:Cx}{a b c:Expr}{ta tb tc:TE}{pos:Pos}
theorem z6 {pins:List (Addr×Obj)}{σ:St}{H:Hp}{s:Shared}{Q:VK}{k k':Bool} (I:Inv X pins σ H s) (q:Q (.bl k) H) (e:k=k'):EP X pins σ Q (.bool k') s:=by
 subst e
 exact⟨.bl k,H,I,rfl,q⟩
theorem zNK:OpR X (compareOp .Eq) rEq:=by
 intro pins s σ H x y v u Q I rx ry h
 obtain⟨hs,q⟩:=h
 cases x with
 | non =>
  cases rx
  cases y with
  | non=>cases ry;exact PySem.EqNone.eq_none_none (z6 I q (by simp))
  | bl j=>cases ry;exact PySem.EqNone.eq_none_bool (z6 I q (by simp))
  | int j=>obtain⟨t',rfl⟩:=ry;exact PySem.EqNone.eq_none_int (z6 I q (by simp))
  | str j=>obtain⟨t',rfl⟩:=ry;exact PySem.EqNone.eq_none_str (z6 I q (by simp))
  | _=>exact absurd (show false=true from hs) Bool.false_ne_true
 | bl i =>
  cases rx
  cases y with
  | non=>cases ry;exact PySem.EqNone.eq_bool_none (z6 I q (by simp))
  | bl j=>cases ry;exact eq_bool (z6 I q zIX)
  | str j=>obtain⟨t',rfl⟩:=ry;exact PySem.EqMixed.eq_bool_str (z6 I q (by simp))
  | _=>exact absurd (show false=true from hs) Bool.false_ne_true
 | int i =>
  obtain⟨t,rfl⟩:=rx
  cases y with
  | non=>cases ry;exact PySem.EqNone.eq_int_none (z6 I q (by simp))
  | int j=>obtain⟨t',rfl⟩:=ry;exact eq_int (z6 I q zF7)
  | str j=>obtain⟨t',rfl⟩:=ry;exact PySem.EqMixed.eq_int_str (z6 I q (by simp))
  | _=>exact absurd (show false=true from hs) Bool.false_ne_true
 | str i =>
  obtain⟨t,rfl⟩:=rx
  cases y with
  | non=>cases ry;exact PySem.EqNone.eq_str_none (z6 I q (by simp))
  | bl j=>cases ry;exact PySem.EqMixed.eq_str_bool (z6 I q (by simp))
  | int j=>obtain⟨t',rfl⟩:=ry;exact PySem.EqMixed.eq_str_int (z6 I q (by simp))
  | str j=>obtain⟨t',rfl⟩:=ry;exact eq_str (z6 I q zFn)
  | _=>exact absurd (show false=true from hs) Bool.false_ne_true
 | byt i =>
  obtain⟨t,rfl⟩:=rx
  cases y with
  | byt j=>obtain⟨t',rfl⟩:=ry;exact PySem.W.eq_bytes (z6 I q zFs)
  | _=>exact absurd (show false=true from hs) Bool.false_ne_true
 | _=>cases y<;>exact absurd (show false=true from hs) Bool.false_ne_true
theorem zNE:OpR X (compareOp .NotEq) rNe:=by
 intro pins s σ H x y v u Q I rx ry h
 obtain⟨hs,q⟩:=h
 cases x with
 | non =>
  cases rx
  cases y with
  | non=>cases ry;exact PySem.EqNone.ne_none_none (z6 I q (by simp))
  | bl j=>cases ry;exact PySem.EqNone.ne_none_bool (z6 I q (by simp))
  | int j=>obtain⟨t',rfl⟩:=ry;exact PySem.EqNone.ne_none_int (z6 I q (by simp))
  | str j=>obtain⟨t',rfl⟩:=ry;exact PySem.EqNone.ne_none_str (z6 I q (by simp))
  | _=>exact absurd (show false=true from hs) Bool.false_ne_true
 | bl i =>
  cases rx
  cases y with
  | non=>cases ry;exact PySem.EqNone.ne_bool_none (z6 I q (by simp))
  | bl j=>cases ry;exact ne_bool (z6 I q (congrArg not zIX))
  | str j=>obtain⟨t',rfl⟩:=ry;exact PySem.EqMixed.ne_bool_str (z6 I q (by simp))
  | _=>exact absurd (show false=true from hs) Bool.false_ne_true
 | int i =>
  obtain⟨t,rfl⟩:=rx
  cases y with
  | non=>cases ry;exact PySem.EqNone.ne_int_none (z6 I q (by simp))
  | int j=>obtain⟨t',rfl⟩:=ry;exact ne_int (z6 I q (congrArg not zF7))
  | str j=>obtain⟨t',rfl⟩:=ry;exact PySem.EqMixed.ne_int_str (z6 I q (by simp))
  | _=>exact absurd (show false=true from hs) Bool.false_ne_true
 | str i =>
  obtain⟨t,rfl⟩:=rx
  cases y with
  | non=>cases ry;exact PySem.EqNone.ne_str_none (z6 I q (by simp))
  | bl j=>cases ry;exact PySem.EqMixed.ne_str_bool (z6 I q (by simp))
  | int j=>obtain⟨t',rfl⟩:=ry;exact PySem.EqMixed.ne_str_int (z6 I q (by simp))
  | str j=>obtain⟨t',rfl⟩:=ry;exact ne_str (z6 I q (congrArg not zFn))
  | _=>exact absurd (show false=true from hs) Bool.false_ne_true
 | byt i =>
  obtain⟨t,rfl⟩:=rx
  cases y with
  | byt j=>obtain⟨t',rfl⟩:=ry;exact PySem.W.ne_bytes (z6 I q (congrArg not zFs))
  | _=>exact absurd (show false=true from hs) Bool.false_ne_true
 | _=>cases y<;>exact absurd (show false=true from hs) Bool.false_ne_true
theorem zM6:OpR X (compareOp .Lt) (rI0 fun i j=>.bl (decide (i < j))):=zM1 fun _ _ _ _ _ _ _ q=>lt_int q
theorem zM8:OpR X (compareOp .Gt) (rI0 fun i j=>.bl (decide (j < i))):=zM1 fun _ _ _ _ _ _ _ q=>gt_int q
theorem zHN:OpR X (compareOp .Lt) (fun x y H Q=>∃ i j,x=.str i/\y=.str j/\Q (.bl (decide (i.cps.toList < j.cps.toList))) H):=by
 intro pins s σ H x y v u Q I rx ry h
 obtain⟨i,j,rfl,rfl,q⟩:=h
 obtain⟨t,rfl⟩:=rx
 obtain⟨t',rfl⟩:=ry
 exact lt_str (z6 I q rfl)
theorem zHn:OpR X (compareOp .In) (fun x y H Q=>∃ i j,x=.str i/\y=.str j/\Q (.bl (!(Builtin.Str.occurrences j i 0 j.length 1).isEmpty)) H):=by
 intro pins s σ H x y v u Q I rx ry h
 obtain⟨i,j,rfl,rfl,q⟩:=h
 obtain⟨t,rfl⟩:=rx
 obtain⟨t',rfl⟩:=ry
 exact in_str (z6 I q rfl)
theorem zE8:OpR X (compareOp .NotIn) (fun x y H Q=>∃ i j,x=.str i/\y=.str j/\Q (.bl (!(!(Builtin.Str.occurrences j i 0 j.length 1).isEmpty))) H):=by
 intro pins s σ H x y v u Q I rx ry h
 obtain⟨i,j,rfl,rfl,q⟩:=h
 obtain⟨t,rfl⟩:=rx
 obtain⟨t',rfl⟩:=ry
 exact notIn_str (z6 I q rfl)
theorem OpR.or {f:Value->Value->Sem Value}{r r':R2} (h:OpR X f r) (h':OpR X f r'):OpR X f (fun x y H Q=>r x y H Q\/r' x y H Q):=by
 intro pins s σ H x y v u Q I rx ry q
 rcases q with q | q
 ·exact h pins s σ H x y v u Q I rx ry q
 ·exact h' pins s σ H x y v u Q I rx ry q
theorem qJ (b:Expr) {op:CmpOp} (h:op≠.In:=by decide) (h2:op≠.NotIn:=by decide):behindInMarks op b=false:=by
 have e1:(op == CmpOp.In)=false:=by cases op<;>first | rfl | exact absurd rfl h
 have e2:(op == CmpOp.NotIn)=false:=by cases op<;>first | rfl | exact absurd rfl h2
 cases b<;>simp[behindInMarks,e1,e2]
theorem zKl {op:CmpOp}{r:R2} (ho:OpR X (compareOp op) r) (ha:PE X a ta) (hb:PE X b tb) (hm:behindInMarks op b=false):PE X (.Compare a [op] [b] pos) (tOp r ta tb):=by
 intro pins s σ H Q I h
 exact wpAny_Compare1 (zIr ha hb I h fun v u s2 x y H2 I2 rx ry q=>ho pins s2 σ H2 x y v u Q I2 rx ry q) hm
def zNb (t:TE):TT:=fun σ H Q=>t σ H fun x H'=>∃ k,x=.bl k/\Q k H'
theorem zKN {op:CmpOp}{r:R2} (ho:OpR X (compareOp op) r) (ha:PE X a ta) (hb:PE X b tb) (hm:behindInMarks op b=false):PT X (.Compare a [op] [b] pos) (zNb (tOp r ta tb)):=by
 intro pins s σ H Q I h
 refine wpAny_isTrue_Compare1 (thn (ha pins s σ H _ I h) fun v s1 ⟨x,H1,I1,r1,q1⟩=>thn (hb pins s1 σ H1 _ I1 q1) fun u s2 ⟨y,H2,I2,r2,q2⟩ =>
  thn (ho pins s2 σ H2 x y v u _ I2 r1 r2 q2) fun c s3 ⟨z,H3,I3,r3,k,e,q3⟩=>?_) hm
 subst e
 cases r3
 exact wpAny_truthy_bool ⟨H3,I3,q3⟩
def zMG (K:PySem.W.Frag) (x:V) (H:Hp) (k:Bool):Prop :=
 match x with
 | .non=>k=false
 | .bl b=>k=b
 | .int i=>k=(i != 0)
 | .str y=>y.length <= sizeLine/\k=((y.length:Int) != 0)
 | .byt y=>y.size <= sizeLine/\k=((y.size:Int) != 0)
 | .ref p=>(∃ xs,SqL K H p xs/\k = !xs.isEmpty)\/(∃ xs,SqT K H p xs/\k = !xs.isEmpty)\/∃ kvs,H p=some (.dK kvs)/\k = !kvs.isEmpty
 | _=>False
theorem zGg {κ:Type}{kvs:List (κ×V)}{vs:List (κ×Value)} (r:KV kvs vs):(!vs.isEmpty) = !kvs.isEmpty:=by
 cases r<;>rfl
theorem zCG {xs:List V}{its:List Value} (r:zY xs its):(!its.toArray.isEmpty) = !xs.isEmpty:=by
 cases r<;>simp
theorem JN:(sizeLine:Nat) < 2 ^ 63:=by rw[sizeLine_eq];decide
theorem zLB:zNp X (fun x H Q=>∃ k,zMG X.K x H k/\Q k H):=by
 intro pins s σ H x v Q I rx h
 obtain⟨k,e,q⟩:=h
 have hl:=JN
 have hs:sizeLine=16777216:=sizeLine_eq
 cases x with
 | non =>
  cases rx
  have e':k=false:=e
  subst e'
  exact truthy_none ⟨H,I,q⟩
 | bl b =>
  cases rx
  have e':k=b:=e
  subst e'
  exact wpAny_truthy_bool ⟨H,I,q⟩
 | int i =>
  obtain⟨t,rfl⟩:=rx
  have e':k=(i != 0):=e
  subst e'
  exact PySem.P.truthy_int ⟨H,I,q⟩
 | str y =>
  obtain⟨t,rfl⟩:=rx
  obtain⟨hy,e'⟩:y.length <= sizeLine/\k=((y.length:Int) != 0):=e
  subst e'
  exact PySem.P.truthy_str (by omega) ⟨H,I.tok _,q⟩
 | byt y =>
  obtain⟨t,rfl⟩:=rx
  obtain⟨hy,e'⟩:y.size <= sizeLine/\k=((y.size:Int) != 0):=e
  subst e'
  exact PySem.W.truthy_bytes (by omega) ⟨H,I.tok _,q⟩
 | ref p =>
  cases rx
  have e':(∃ xs,SqL X.K H p xs/\k = !xs.isEmpty)\/(∃ xs,SqT X.K H p xs/\k = !xs.isEmpty)\/∃ kvs,H p=some (.dK kvs)/\k = !kvs.isEmpty:=e
  rcases e' with ⟨xs,hx,e'⟩ | ⟨xs,hx,e'⟩ | ⟨kvs,hx,e'⟩
  ·subst e'
   obtain⟨its,r,pl,hz⟩:=I.list hx
   have hlen:=r.length
   exact wpAny_truthy_list pl.isList (by simp only[List.size_toArray];omega) ⟨H,I.tok _,by rw[zCG r];exact q⟩
  ·subst e'
   obtain⟨its,r,pl,hz⟩:=I.tuple hx
   have hlen:=r.length
   exact truthy_tuple pl (by simp only[List.size_toArray];omega) ⟨H,I.tok _,by rw[zCG r];exact q⟩
  ·subst e'
   obtain⟨hz,hS,vs,r,m⟩:kvs.length <= sizeLine/\(p == sysModules)=false/\∃ vs,KV kvs vs/\s.heap.DictOf (jB X.prog X.w) p vs:=I.hok p _ hx
   have hlen:kvs.length=vs.length:=Paired.length r
   exact wpAny_truthy_dict hS m (by omega) ⟨H,I.tok _,by rw[zGg r];exact q⟩
 | _=>exact (show False from e).elim
theorem zIs (ha:PE X a ta) (he:∀ whole,isTrue a X.env whole=(do let v <- whole;standAt a.pos;holding [v] (truthy v))) :
  PT X a (fun σ H Q=>ta σ H fun x H'=>∃ k,zMG X.K x H' k/\Q k H'):=by
 intro pins s σ H Q I h
 exact isTrue_plain (thn (ha pins s σ H _ I h) fun v s1 ⟨x,H1,I1,r1,q1⟩=>zLB pins s1 σ H1 x v Q I1 r1 q1) (he _)
theorem zG3:OpR X (binaryOp .Add) (fun x y H Q=>∃ i j,x=.str i/\y=.str j/\i.length+j.length <= sizeLine/\Q (.str (i++j)) H):=by
 intro pins s σ H x y v u Q I rx ry h
 obtain⟨i,j,rfl,rfl,hz,q⟩:=h
 obtain⟨t,rfl⟩:=rx
 obtain⟨t',rfl⟩:=ry
 exact wpAny_with_toks (n:=1) I.tk (add_str (fun t' tk htk=>⟨.str (i++j),H,I.tok _ htk,⟨_,rfl⟩,q⟩) hz)
theorem Zq {x:V}{us:List Value} (r:zY [x] us):∃ u,us=[u]/\ze x u:=by
 cases r with
 | cons r1 r2=>cases r2;exact⟨_,rfl,r1⟩
theorem zJz {x y:V}{us:List Value} (r:zY [x,y] us):∃ u w',us=[u,w']/\ze x u/\ze y w':=by
 cases r with
 | cons r1 r2 =>
  cases r2 with
  | cons r3 r4=>cases r4;exact⟨_,_,rfl,r1,r3⟩
theorem zDB (hc:X.calm=true):jp X (.builtin "max") (fun xs H Q=>∃ i j,xs=[.int i,.int j]/\Q (.int (if j > i then j else i)) H):=by
 intro pins s σ H xs us Q I r h
 obtain⟨i,j,rfl,q⟩:=h
 obtain⟨u,w',rfl,⟨t,rfl⟩,⟨t',rfl⟩⟩:=zJz r
 refine wpAny_with_toks (n:=1) I.tk (max_two_ints (I.ok.hd hc) fun h' tk k htk=>⟨_,H,I.kept k htk,?_,q⟩)
 by_cases hj:j > i
 ·rw[if_pos hj,if_pos hj];exact⟨_,rfl⟩
 ·rw[if_neg hj,if_neg hj];exact⟨_,rfl⟩
theorem zHb:jp X (.type "int") (fun xs H Q=>(∃ i,xs=[.int i]/\Q (.int i) H)\/∃ k,xs=[.bl k]/\Q (.int (if k then 1 else 0)) H):=by
 intro pins s σ H xs us Q I r h
 rcases h with ⟨i,rfl,q⟩ | ⟨k,rfl,q⟩
 ·obtain⟨u,rfl,t,rfl⟩:=Zq r
  exact call_int_int ⟨.int i,H,I,⟨_,rfl⟩,q⟩
 ·obtain⟨u,rfl,r1⟩:=Zq r
  cases r1
  exact call_int_bool ⟨.int (if k then 1 else 0),H,I.tok _,⟨_,rfl⟩,q⟩
theorem zEB:jp X (.type "str") (fun xs H Q=>∃ i,xs=[.int i]/\i.natAbs.log2 < 1920/\Q (.str (toString i)) H):=by
 intro pins s σ H xs us Q I r h
 obtain⟨i,rfl,hz,q⟩:=h
 obtain⟨u,rfl,t,rfl⟩:=Zq r
 exact PySem.P.str_of_int hz ⟨.str _,H,I.tok _,⟨_,rfl⟩,q⟩
end
end L2
namespace L2
open PySem PySem.Spec PyProof.Rows
structure zJB (h:Heap) (x dx C:Addr) (mA:Str->Option Value):Prop where
 obj:h.get? x=some (PySem.W.instObj C dx)
 ns:h.Ns1 dx mA
 ne:dx≠x
theorem zHk {h:Heap}{dx:Addr}{mA:Str->Option Value} (n:h.Ns1 dx mA):∃ od,h.get? dx=some od/\∀ name,PySem.W.lookIn name od=some (mA name):=by
 obtain⟨o,es,ep,ho,hd,hk,_,hm⟩:=n
 refine⟨o,ho,fun name=>?_⟩
 have e:=hm name
 unfold nsFind findBy at e
 rw[<- Array.find?_toList] at e
 unfold PySem.W.lookIn
 rw[hd]
 dsimp only
 split
 ·rename_i y q
  rw[q] at e
  exact congrArg some e
 ·rename_i q
  rw[q] at e
  have a:es.toList.any (·.refKey)=false:=by
   rw[List.any_eq_false]
   intro y hy
   obtain⟨z,t,hkey⟩:=hk y (Array.mem_toList_iff.mp hy)
   simp[DictEntry.refKey,hkey]
  have a':¬ es.toList.any (·.refKey)=true:=by rw[a];exact Bool.false_ne_true
  rw[if_neg a']
  exact congrArg some e
theorem zJB.look {h:Heap}{x dx C:Addr}{mA:Str->Option Value} (I:zJB h x dx C mA):∃ od,PySem.W.InstAt h x (PySem.W.instObj C dx) C (some od)/\∀ name,PySem.W.lookIn name od=some (mA name) :=
 let ⟨od,ho,hl⟩:=zHk I.ns
 ⟨od,⟨I.obj,rfl,rfl,ho⟩,hl⟩
theorem Qh.some_of {v:V}{o:Option Value} (r:Qh (some v) o):∃ u,o=some u/\ze v u:=by
 cases o with
 | none=>exact (show False from r).elim
 | some u=>exact⟨u,rfl,r⟩
section
variable {P:Program}{w:World}{H H':Hp}{h h':Heap}{a C dx:Addr}{fs fs':List (Str×V)}
theorem zKM (hok:HOk P w H h) (e:H a=some (.ins C dx fs)):∃ mA,zJB h a dx C mA/\(∀ f,Qh (fs.lookup f) (mA f))/\PySem.Within mA (fs.map (·.1))/\fs.length <= 1000/\H dx=some (.own a):=by
 obtain⟨d,z,ne,ob,mA,n,r,q⟩:=(show jQ P w H h a (.ins C dx fs) from hok a _ e)
 exact⟨mA,⟨ob,n,ne⟩,r,q,z,d⟩
end
structure Cls (K:PySem.W.Frag) (C:Addr):Prop where
 pg:PySem.W.plainGet K C Str.empty=true
 hd:PySem.W.hasDictIn K C=true
 po:PySem.W.plainOver K C=true
 sa:PySem.W.findIn K (.ref C) "__setattr__" = some (some (.builtin "object.__setattr__"))
theorem Cls.get {K:PySem.W.Frag}{C:Addr} (c:Cls K C) (f:Str):PySem.W.plainGet K C f=true:=c.pg
def zL7 (K:PySem.W.Frag) (C:Addr) (f:Str):Prop:=PySem.W.findIn K (.ref C) f=some none
structure Con (K:PySem.W.Frag) (C:Addr) (f:Str) (v:V) (u:Value):Prop where
 at_:PySem.W.findIn K (.ref C) f=some (some u)
 rel:ze v u
 get:PySem.W.specialIn K u "__get__" = some none
 cp:PySem.W.copiedNames.contains f=false
structure zNo (K:PySem.W.Frag) (C:Addr) (m:Str) (f:Addr):Prop where
 at_:PySem.W.findIn K (.ref C) m=some (some (.ref f))
 fn:PySem.W.isFn K (.ref f)=true
 kp:PySem.W.keepIn K (.ref f)=true
section
variable {X:Cx}{pins:List (Addr×Obj)}{σ:St}{H:Hp}{s:Shared}{A:Around}{E:Value->Shared->Prop}{Q:Value->Shared->Prop}{c:Value}{b:Bool}
inductive QZ (K:PySem.W.Frag) (H:Hp):V->Value->Prop where
 | non:QZ K H .non (.type "NoneType")
 | bl (x:Bool):QZ K H (.bl x) (.type "bool")
 | int (i:Int):QZ K H (.int i) (.type "int")
 | str (x:Str):QZ K H (.str x) (.type "str")
 | flt (x:UInt64):QZ K H (.flt x) (.type "float")
 | lst {a:Addr}{xs:List V} (e:H a=some (.lst xs)):QZ K H (.ref a) (.type "list")
 | frz {a:Addr}{o:Obj}{xs:List V} (e:H a=some (.frz o (.lst xs))):QZ K H (.ref a) (.type "list")
 | tup {a:Addr}{xs:List V} (e:H a=some (.tup xs)):QZ K H (.ref a) (.type "tuple")
 | dK {a:Addr}{kvs:List (Key×V)} (e:H a=some (.dK kvs)):QZ K H (.ref a) (.type "dict")
 | dT {a:Addr}{kvs:List (List Key×V)} (e:H a=some (.dT kvs)):QZ K H (.ref a) (.type "dict")
 | ins {a C dx:Addr}{fs:List (Str×V)} (e:H a=some (.ins C dx fs)) (cl:Cls K C) (ha:PySem.W.findIn K (.ref C) "__class__" = some (some (.builtin "object.__class__")))
   (hn:PySem.W.specialIn K (.builtin "object.__class__") "__get__" = some (some (.builtin "getset_descriptor.__get__"))) (htk:PySem.W.takesIn K (.builtin "object.__class__")=some true)
   (hm:PySem.W.mroIn K C (.type "object")=some true):QZ K H (.ref a) (.ref C)
theorem zHw {x:V}{u t:Value} (I:Inv X pins σ H s) (rx:ze x u) (ty:QZ X.K H x t) (e:PySem.W.kitOne X.K t c=some b) (h:∀ tk,Q (.bool b) { s with toks:=tk }) :
  wpAny (model X.prog X.w) A (call (.builtin "isinstance") [u,c]) Q E s:=by
 cases ty with
 | non=>cases (show u=Value.none from rx);exact PySem.W.kia_one PySem.W.kitx_none I.kIn True.intro e (fun z=>nomatch z) h
 | bl y=>cases (show u=Value.bool y from rx);exact PySem.W.kia_one PySem.W.kitx_bool I.kIn True.intro e (fun z=>nomatch z) h
 | int i=>obtain⟨t,q⟩:=(show ∃ t,u=Value.int i t from rx);cases q;exact PySem.W.kia_one PySem.W.kitx_int I.kIn True.intro e (fun z=>nomatch z) h
 | str y=>obtain⟨t,q⟩:=(show ∃ t,u=Value.str y t from rx);cases q;exact PySem.W.kia_one PySem.W.kitx_str I.kIn True.intro e (fun z=>nomatch z) h
 | flt y=>obtain⟨t,q⟩:=(show ∃ t,u=Value.float y t from rx);cases q;exact PySem.W.kia_one PySem.W.kitx_float I.kIn True.intro e (fun z=>nomatch z) h
 | @lst a xs ea =>
  cases (show u=Value.ref a from rx)
  obtain⟨_,_,n,_,h1⟩:=(show jQ X.prog X.w H s.heap a (.lst xs) from I.hok a _ ea)
  exact PySem.W.kia_one PySem.W.kitx_list I.kIn ⟨_,h1,rfl⟩ e (fun z=>nomatch z) h
 | @frz a ob xs ea =>
  cases (show u=Value.ref a from rx)
  obtain⟨_,_,_,n,_,h1⟩:=(show jQ X.prog X.w H s.heap a (.frz ob (.lst xs)) from I.hok a _ ea)
  exact PySem.W.kia_one PySem.W.kitx_list I.kIn ⟨_,h1,rfl⟩ e (fun z=>nomatch z) h
 | @tup a xs ea =>
  cases (show u=Value.ref a from rx)
  obtain⟨_,_,_,p⟩:=(show jQ X.prog X.w H s.heap a (.tup xs) from I.hok a _ ea)
  obtain⟨o,h1,h2,_⟩:=p
  exact PySem.W.kia_one PySem.W.kitx_tuple I.kIn ⟨o,h1,h2⟩ e (fun z=>nomatch z) h
 | @dK a kvs ea =>
  cases (show u=Value.ref a from rx)
  obtain⟨_,_,vs,_,p⟩:=(show jQ X.prog X.w H s.heap a (.dK kvs) from I.hok a _ ea)
  obtain⟨o,es,ep,h1,h2,_⟩:=p
  exact PySem.W.kia_one PySem.W.kitx_dict I.kIn ⟨o,h1,h2.1⟩ e (fun z=>nomatch z) h
 | @dT a kvs ea =>
  cases (show u=Value.ref a from rx)
  obtain⟨_,_,xs,_,o,es,ep,h1,h2,_⟩:=(show jQ X.prog X.w H s.heap a (.dT kvs) from I.hok a _ ea)
  exact PySem.W.kia_one PySem.W.kitx_dict I.kIn ⟨o,h1,h2.1⟩ e (fun z=>nomatch z) h
 | @ins a C dx fs ea cl ha hn htk hm =>
  cases (show u=Value.ref a from rx)
  obtain⟨mA,O,_⟩:=zKM I.hok ea
  obtain⟨od,J,_⟩:=O.look
  exact PySem.W.kia_one (PySem.W.kitx_own (cl.get _) cl.hd ha hn htk hm) I.kIn J e (fun z=>nomatch z) h
end
end L2
namespace L2
open PySem PySem.Spec PyProof.Rows
structure jN (k:Nat) (A:Around):Prop where
 hd:A.handled=none
 dp:A.depth+3 * k+5 < recursionLimit
 un:A.units+16 * k+200 < cLine
theorem jN.mono {j k:Nat}{A:Around} (r:jN k A) (h:j <= k):jN j A:=⟨r.hd,by have:=r.dp;omega,by have:=r.un;omega⟩
theorem jN.deeper {k:Nat}{A:Around} (r:jN (k+1) A) (env:Env):jN k (A.deeper env) :=
 ⟨r.hd,by have:=r.dp;show A.depth+1+3 * k+5 < _;omega,by have:=r.un;show A.units+3+16 * k+200 < _;omega⟩
theorem jN.depth {k:Nat}{A:Around} (r:jN k A):A.depth < recursionLimit:=by have:=r.dp;omega
theorem jN.units {k:Nat}{A:Around} (r:jN k A):A.units+64 < cLine:=by have:=r.un;omega
theorem jN.units0 {k:Nat}{A:Around} (r:jN k A):A.units < cLine:=by have:=r.un;omega
def zNq:TA:=fun _ H Q=>Q [] H
def zNN (ta:TE) (tr:TA):TA:=fun σ H Q=>ta σ H fun x H1=>tr σ H1 fun xs H2=>Q (x::xs) H2
section
variable {X:Cx}{e:Expr}{es:List Expr}{te:TE}{t:TA}{pos:Pos}
theorem zEA:PA X [] zNq:=fun _ _ _ _ H Q I h=>Calls.spliced_nil ⟨[],H,I,.nil,h⟩
theorem zCb (ha:PE X e te) (hr:PA X es t) (hs:starEach (e::es) X.env=(false,eval e X.env)::starEach es X.env:=by rfl):PA X (e::es) (zNN te t):=by
 intro pos pins s σ H Q I h
 rw[hs]
 show wpAny _ _ (spliced ((false,eval e X.env)::backTo pos (starEach es X.env))) _ _ s
 refine Calls.spliced_cons (thn (ha pins s σ H _ I h) fun u s1 ⟨x,H1,I1,r1,q1⟩=>?_)
 exact thn (hr pos pins s1 σ H1 _ I1 q1) fun us s2 ⟨xs,H2,I2,r2,q2⟩=>⟨x::xs,H2,I2,.cons r1 r2,q2⟩
def zNm (t:TA):TE:=fun σ H Q=>t σ H fun xs H1=>xs.length <= sizeLine/\∀ p,H1 p=none->Q (.ref p) (upd H1 p (.tup xs))
def zNg (t:TA):TE:=fun σ H Q=>t σ H fun xs H1=>xs.length <= sizeLine/\∀ p,H1 p=none->Q (.ref p) (upd H1 p (.lst xs))
theorem zL0 {x1} (h:PA X es t):PE X (.Tuple es x1 pos) (zNm t):=by
 intro pins s σ H Q I hq
 refine wpAny_Tuple_spliced (thn (h pos pins s σ H _ I hq) fun us s1 ⟨xs,H1,I1,r,z,q⟩=>⟨by rw[<- r.length];exact z,?_⟩)
 have hf:H1 s1.heap.objs.size=none:=I1.hok.fresh (Nat.le_refl _)
 refine⟨.ref s1.heap.objs.size,upd H1 s1.heap.objs.size (.tup xs),I1.laid (t':=s1.toks) (fun b u e=>Heap.get?_push_of_some _ e) (Nat.le_refl _) ?_,rfl,q _ hf⟩
 exact⟨z,us,r,⟨_,Heap.get?_push_size _ rfl,rfl,_,rfl⟩⟩
theorem zLD (h:PA X es t):PE X (.List es pos) (zNg t):=by
 intro pins s σ H Q I hq
 refine wpAny_List_spliced (thn (h pos pins s σ H _ I hq) fun us s1 ⟨xs,H1,I1,r,z,q⟩=>⟨by rw[<- r.length];exact z,?_⟩)
 have hf:H1 s1.heap.objs.size=none:=I1.hok.fresh (Nat.le_refl _)
 refine⟨.ref s1.heap.objs.size,upd H1 s1.heap.objs.size (.lst xs),I1.laid (t':=s1.toks) (fun b u e=>Heap.get?_push_of_some _ e) (Nat.le_refl _) ?_,rfl,q _ hf⟩
 exact⟨z,us,0,r,Heap.get?_push_size _ rfl⟩
end
abbrev Sp:=List V->Hp->VK->XK->Prop
abbrev CXT:=List Env->Hp->Shared->XK->Value->Shared->Prop
structure zGl (P:Program) (w:World) (K:PySem.W.Frag) (mg:Str->Option Value) (base:Heap) (A:Around) (outer:List Env) (s:Shared) (H:Hp):Prop where
 frames:A.frames=some outer
 mod:Mod K mg base
 bs:∀ b o,base.get? b=some o->s.heap.get? b=some o/\H b=none
 bsz:base.objs.size <= s.heap.objs.size
 funs:s.heap.FunFrames base outer
 frf:∀ b∈frs outer,H b=none
 hok:HOk P w H s.heap
 bare:AllBare s.gens
def CE (outer:List Env) (P:Program) (w:World) (H:Hp) (s:Shared) (Q:VK) (u:Value) (s':Shared):Prop :=
 ∃ v H',s'.os=s.os/\AllBare s'.gens/\Un (frs outer) [] H H' s.heap s'.heap/\HOk P w H' s'.heap/\ze v u/\Q v H'
def CR (CX:CXT) (outer:List Env) (P:Program) (w:World) (H:Hp) (s:Shared) (Q:VK) (E:XK) (r:Result) (s':Shared):Prop :=
 match r with
 | .ok (.ret u)=>CE outer P w H s Q u s'
 | .ok _=>False
 | .error e=>CX outer H s E e s'
structure qE (P:Program) (w:World) (K:PySem.W.Frag) (mg:Str->Option Value) (base:Heap) (CX:CXT) (k:Nat) (f:Addr) (fd:FuncData) (ps:List Str) (sp:Sp):Prop where
 len:∀ vs H Q E,sp vs H Q E->vs.length=ps.length
 run:∀ (A:Around) (outer:List Env) (s:Shared) (H:Hp) (args:Args) (us:List Value) (vs:List V) (Q:VK) (E:XK),jN k A->zGl P w K mg base A outer s H->(0 < s.toks\/∃ p∈ps,fd.scope.names.lookup p=some .local)->BindsTo s fd args (ps.zip us)->zY vs us->sp vs H Q E ->
  codeAny (model P w) A (.call (.ref f) args) (CR CX outer P w H s Q E) s
section
variable {X:Cx}{pins:List (Addr×Obj)}{σ:St}{H:Hp}{s s':Shared}
theorem Inv.env0 (I:Inv X pins σ H s):zGl X.prog X.w X.K X.mg X.base X.A X.stack s H :=
 ⟨I.ok.frames,I.ok.mod,I.bs,Nat.le_trans I.ok.bsz I.sz,I.stack,I.stkFree,I.hok,I.bare⟩
theorem Inv.after {Q:VK}{u:Value} (I:Inv X pins σ H s) (h:CE X.stack X.prog X.w H s Q u s') (ht:0 < s'.toks):EP X pins σ Q u s':=by
 obtain⟨v,H',os,bare,un,hok,r,q⟩:=h
 obtain⟨hh,g,d,t,os'⟩:=s'
 obtain rfl:os'=s.os:=os
 exact⟨v,H',I.call (h':=hh) (g':=g) (d':=d) (t':=t) (ch:=[]) un hok bare (fun b z=>absurd z (by simp)) ht,r,q⟩
end
def zJm (sp:Sp) (dvs:List V) (E:XK) (t:TA):TE:=fun σ H Q=>t σ H fun vs H1=>sp (vs++dvs) H1 Q E
def JU (K:PySem.W.Frag) (fd:FuncData) (ps:List Str) (ds:List Value):Prop :=
 ∀ (s:Shared) (us:List Value),K.In s.heap->(us++ds).length=ps.length->BindsTo s fd ⟨us,[]⟩ (ps.zip (us++ds))
theorem JU.all {K:PySem.W.Frag}{fd:FuncData}{ps:List Str} (h:∀ us:List Value,us.length=ps.length->bindArgs fd ⟨us,[]⟩=pure (ps.zip us)):JU K fd ps []:=fun s us _ hl=>by
 rw[List.append_nil] at hl ⊢
 exact .of_eq (h us hl)
def J5 (CX:CXT) (X:Cx) (E:XK):Prop:=∀ (pins:List (Addr×Obj)) (σ:St) (H:Hp) (s:Shared) (e:Value) (s':Shared),Inv X pins σ H s->CX X.stack H s E e s'->X.xe e s'
section
variable {X:Cx}{CX:CXT}{k:Nat}{f C:Addr}{fd:FuncData}{ps:List Str}{sp:Sp}{dvs:List V}{ds:List Value}{E:XK}{x m:Str}{p pos apos:Pos}{e o:Expr}{es:List Expr}{ta:TE}{t:TA}
theorem zLg {pins:List (Addr×Obj)}{σ:St}{H:Hp}{s:Shared}{Q:VK}{us:List Value}{vs:List V} (F:qE X.prog X.w X.K X.mg X.base CX k f fd ps sp) (hr:jN k X.A) (hb:JU X.K fd ps ds) (hd:zY dvs ds) (hx:J5 CX X E)
  (I:Inv X pins σ H s) (r:zY vs us) (h:sp (vs++dvs) H Q E):wpAny (model X.prog X.w) X.A (call (.ref f) us) (EP X pins σ Q) X.xe s:=by
 have r2:zY (vs++dvs) (us++ds):=r.append hd
 have hl:(us++ds).length=ps.length:=by rw[<- r2.length];exact F.len _ _ _ _ h
 refine wpAny_call (codeAny_mono (codeAny_toks_of (n:=1) I.tk (F.run X.A X.stack s H ⟨us,[]⟩ (us++ds) (vs++dvs) Q E hr I.env0 (.inl I.tk) (hb s us I.kIn hl) r2 h)) fun r s' ⟨htk,hq⟩=>?_)
 cases r with
 | error e=>exact hx pins σ H s e s' I hq
 | ok fl =>
  cases fl with
  | ret u=>exact I.after hq htk
  | next=>exact False.elim hq
  | brk=>exact False.elim hq
  | cont=>exact False.elim hq
theorem zKY (F:qE X.prog X.w X.K X.mg X.base CX k f fd ps sp) (hr:jN k X.A) (hg:Gl X x) (hm:X.mg x=some (.ref f)) (hk:PySem.W.keepIn X.K (.ref f)=true) (hb:JU X.K fd ps ds) (hd:zY dvs ds) (hx:J5 CX X E)
  (ha:PA X (e::es) t) (hdb:(x == ("__debug__" : Str))=false:=by decide) (he:starEach (e::es) X.env=(false,eval e X.env)::starEach es X.env:=by rfl) (hpl:(backTo pos (starEach es X.env)).any (·.1)=false:=by rfl) :
  PE X (.Call (.Name x p) (e::es) [] pos) (zJm sp dvs E t):=by
 intro pins s σ H Q I h
 refine wpAny_Call_Name_kw (zKq I hg hm ?_ hdb)
 refine PySem.W.callWith_K (h₀:=X.base) I.ok.mod.kin hk (thn (ha pos pins s σ H _ I h) fun us s1 ⟨vs,H1,I1,r,q⟩=>⟨I1.kIn,?_⟩) he hpl
 exact zLg F hr hb hd hx I1 r q
structure Mk (K:PySem.W.Frag) (C f:Addr):Prop where
 makes:PySem.W.makesIn K C=true
 init:PySem.W.findIn K (.ref C) "__init__" = some (some (.ref f))
 fn:PySem.W.isFn K (.ref f)=true
 kp:PySem.W.keepIn K (.ref C)=true
end
section
variable {X:Cx}{CX:CXT}{k:Nat}{f C:Addr}{fd:FuncData}{ps ks:List Str}{sp:Sp}{E:XK}{x m:Str}{p pos apos kpos:Pos}{e o:Expr}{es:List Expr}{kws:List Keyword}{te ta:TE}{t tk:TA}{nm:Option Str}
structure zOD (K:PySem.W.Frag) (fd:FuncData) (ps ks:List Str) (g:List Value->List Value->List Value) (gV:List V->List V->List V):Prop where
 to:∀ (s:Shared) (us ws:List Value),K.In s.heap->(g us ws).length=ps.length->BindsTo s fd ⟨us,ks.zip ws⟩ (ps.zip (g us ws))
 rel:∀ {vs:List V}{us:List Value}{zs:List V}{ws:List Value},zY vs us->zY zs ws->zY (gV vs zs) (g us ws)
variable {g:List Value->List Value->List Value}{gV:List V->List V->List V}
end
structure jj (N P:List Str) (sc:Scope):Prop where
 kind:sc.kind=.function
 co:sc.isCoroutine=false
 gen:sc.isGenerator=false
 nd:N.Nodup
 pre:N.take P.length=P
 par:∀ x∈P,sc.names.lookup x=some .local\/sc.names.lookup x=some .cell
 nofree:∀ y∈sc.names,y.2≠.free
theorem zDT {kindOf:Str->Option NameKind}{x:Str}:∀ {binds:List (Str×Value)}{m:Str->Option Value},(∀ v,(x,v)∉binds)->bindL kindOf binds m x=m x
 | [],_,_=>rfl
 | (n,v)::r,m,h=>by
  unfold bindL
  rw[zDT fun w hw=>h w (List.mem_cons_of_mem _ hw)]
  split
  ·have:x≠n:=by rintro rfl;exact h v List.mem_cons_self
   simp[this]
  ·rfl
theorem zDW {kindOf:Str->Option NameKind}{x:Str}:∀ {binds:List (Str×Value)}{m:Str->Option Value},(∀ v,(x,v)∉binds)->bindC kindOf binds m x=m x
 | [],_,_=>rfl
 | (n,v)::r,m,h=>by
  unfold bindC
  rw[zDW fun w hw=>h w (List.mem_cons_of_mem _ hw)]
  split
  ·rfl
  ·have:x≠n:=by rintro rfl;exact h v List.mem_cons_self
   simp[this]
theorem zDR {kindOf:Str->Option NameKind}{x:Str}{v:Value}:∀ {P:List Str}{vs:List Value}{i:Nat}{m:Str->Option Value},P.Nodup->P[i]? = some x->vs[i]? = some v->kindOf x=some .local ->
  bindL kindOf (P.zip vs) m x=some v
 | [],_,_,_,_,h,_,_=>by simp at h
 | _::_,[],_,_,_,_,h,_=>by simp at h
 | p::P,w::vs,0,m,nd,h1,h2,hk=>by
  simp at h1 h2;subst h1;subst h2
  show bindL kindOf ((p,w)::P.zip vs) m p=_
  unfold bindL
  rw[zDT fun v hv=>(List.nodup_cons.mp nd).1 (List.of_mem_zip hv).1,if_pos hk]
  simp
 | p::P,w::vs,i+1,m,nd,h1,h2,hk=>by
  show bindL kindOf ((p,w)::P.zip vs) m x=_
  unfold bindL
  exact zDR (i:=i) (List.nodup_cons.mp nd).2 (by simpa using h1) (by simpa using h2) hk
theorem zC5 {kindOf:Str->Option NameKind}{x:Str}{v:Value}:∀ {P:List Str}{vs:List Value}{i:Nat}{m:Str->Option Value},P.Nodup->P[i]? = some x->vs[i]? = some v->kindOf x≠some .local ->
  bindC kindOf (P.zip vs) m x=some v
 | [],_,_,_,_,h,_,_=>by simp at h
 | _::_,[],_,_,_,_,h,_=>by simp at h
 | p::P,w::vs,0,m,nd,h1,h2,hk=>by
  simp at h1 h2;subst h1;subst h2
  show bindC kindOf ((p,w)::P.zip vs) m p=_
  unfold bindC
  rw[zDW fun v hv=>(List.nodup_cons.mp nd).1 (List.of_mem_zip hv).1,if_neg hk]
  simp
 | p::P,w::vs,i+1,m,nd,h1,h2,hk=>by
  show bindC kindOf ((p,w)::P.zip vs) m x=_
  unfold bindC
  exact zC5 (i:=i) (List.nodup_cons.mp nd).2 (by simpa using h1) (by simpa using h2) hk
def QB (N:List Str) (vs:List V):St:=vs.map some++List.replicate (N.length - vs.length) none
def JQ (CX:CXT) (P:Program) (w:World) (K:PySem.W.Frag) (mg:Str->Option Value) (base:Heap) (N:List Str) (qual:Str) (scope:Scope) (f:Addr) (cd:Value) (A:Around) (outer:List Env) (s:Shared) (H:Hp) (E:XK):Cx where
 prog:=P
 w:=w
 K:=K
 mg:=mg
 base:=base
 A:=A.deeper (envOfC qual scope s.heap.objs.size f cd)
 N:=N
 s₀:=s
 H₀:=H
 env:=envOfC qual scope s.heap.objs.size f cd
 outer:=outer
 stack:=envOfC qual scope s.heap.objs.size f cd::outer
 ex:=[]
 calm:=true
 fn:=fun _=>true
 pn:=[]
 xe:=fun e s'=>wpAny (model P w) (A.deeper (envOfC qual scope s.heap.objs.size f cd)) (leaving (envOfC qual scope s.heap.objs.size f cd) e) (fun _ s''=>CX outer H s E e s'') (fun e' s''=>CX outer H s E e' s'') s'
theorem zD2 {sc:Scope}{n:Nat}{x:Str} (h:sc.names.lookup x=some .cell):∃ c,(cellsFrom n sc.names []).lookup x=some c:=by
 have q:=PySem.W.cellsFrom_some sc.names n [] (.inl h)
 exact Option.isSome_iff_exists.mp q
theorem Jn {M:Model}{A:Around}{E:Value->Shared->Prop}{s₀:Shared}{env:Env} (f:Str×Value->PUnit->Sem (ForInStep PUnit)) (hf:∀ n v u,f (n,v) u=(do storeName env n v;pure (.yield ⟨⟩))) (hk:env.scope.kind=.function) :
  ∀ (binds:List (Str×Value)) (m cm:Str->Option Value) (s:Shared) (Q:PUnit->Shared->Prop),InCallC s₀ env.locals m env.cells cm s ->
   (∀ x∈binds,env.kindOf x.1=some .local\/(env.kindOf x.1=some .cell/\(env.cells.lookup x.1).isSome=true)) ->
   (∀ s',InCallC s₀ env.locals (bindL env.kindOf binds m) env.cells (bindC env.kindOf binds cm) s'->((0 < s.toks\/∃ b∈binds,env.kindOf b.1=some .local)->0 < s'.toks)->Q ⟨⟩ s')->wpAny M A (forIn binds ⟨⟩ f) Q E s
 | [],m,cm,s,Q,x,_,h=>by
  rw[List.forIn_nil]
  exact wpAny_pure (h s x fun z=>z.elim id fun ⟨b,hb,_⟩=>absurd hb (by simp))
 | (n,v)::r,m,cm,s,Q,x,hkind,h=>by
  rw[List.forIn_cons,hf]
  have hr:∀ y∈r,env.kindOf y.1=some .local\/(env.kindOf y.1=some .cell/\(env.cells.lookup y.1).isSome=true):=fun y hy=>hkind y (List.mem_cons_of_mem _ hy)
  rcases hkind (n,v) List.mem_cons_self with hl | ⟨hl,hc⟩
  ·refine wpAny_bind (wpAny_bind (wpAny_storeName_local hl x.toInCall.ns (fun h' hn' hs'=>wpAny_pure (Jn f hf hk r (fun y=>if y=n then some v else m y) cm _ Q ⟨⟨?_,hn',fun b o e=>?_,x.toInCall.fresh⟩,fun k c hc=>?_,x.apart,x.above⟩ hr fun s'' x'' ht=>h s'' ?_ fun _=>ht (.inl (Nat.succ_pos _)))) (by rw[hk];rfl)))
   ·obtain⟨h₁,tk,rfl⟩:=x.toInCall.same
    exact⟨h',_,rfl⟩
   ·exact hs'.extBut b o (Nat.ne_of_lt (Nat.lt_of_lt_of_le (Heap.lt_size e) x.toInCall.fresh)) (x.toInCall.keep b o e)
   ·exact (x.cell k c hc).sameBut hs' (Nat.ne_of_gt (x.above k c (PySem.mem_of_lookup hc)))
   ·unfold bindL bindC;rw[if_pos hl,if_pos hl];exact x''
  ·obtain⟨c,hc⟩:=Option.isSome_iff_exists.mp hc
   have hnl:¬ env.kindOf n=some .local:=by rw[hl];decide
   refine wpAny_bind (wpAny_bind (wpAny_with_toks (n:=s.toks) (Nat.le_refl _) (stCC x hk hl hc fun s' x' hle=>wpAny_pure (Jn f hf hk r m _ s' Q x' hr fun s'' x'' ht=>h s'' ?_ fun z=>ht ?_))))
   ·unfold bindL bindC;rw[if_neg hnl,if_neg hnl];exact x''
   ·rcases z with z | ⟨b,hb,hbl⟩
    ·exact .inl (Nat.lt_of_lt_of_le z hle)
    ·rcases List.mem_cons.mp hb with rfl | hb
     ·exact absurd hbl hnl
     ·exact .inr ⟨b,hb,hbl⟩
theorem zKX {M:Model}{A:Around}{E:Value->Shared->Prop}{s:Shared}{scope:Scope}{globals:Addr}{binds:List (Str×Value)}{qual:Str}{func:Option Addr}{code:Value}{builtins:Addr}{Q:Env->Shared->Prop}
  (hk:scope.kind=.function)
  (hkind:∀ x∈binds,scope.names.lookup x.1=some .local\/(scope.names.lookup x.1=some .cell/\((cellsFrom (s.heap.objs.size+1) scope.names []).lookup x.1).isSome=true))
  (hQ:∀ env,env=newEnv scope s.heap.objs.size globals (cellsFrom (s.heap.objs.size+1) scope.names []) qual func code none builtins ->
   ∀ s',InCallC s env.locals (bindL env.kindOf binds fun _=>none) env.cells (bindC env.kindOf binds fun _=>none) s'->((0 < s.toks\/∃ b∈binds,scope.names.lookup b.1=some .local)->0 < s'.toks)->Q env s') :
  wpAny M A (newFunctionEnv scope globals [] binds qual func code none builtins) Q E s:=by
 simp only[newFunctionEnv,Option.isSome_none,Bool.false_eq_true,if_false]
 refine wpAny_bind (wpAny_alloc ?_)
 refine wpAny_bind (wpAny_layCells _ (fun name kind cells=>by cases hkc:kind == NameKind.cell<;>simp[hkc]) _ _ _ _ ?_)
 have ok:=cellsFrom_ok scope.names (s.heap.push { cls:=.type "frame",data:=.dict #[] }) (s.heap.objs.size+1) [] ⟨fun _ _ hm=>(nomatch hm),List.Pairwise.nil⟩ (by rw[Heap.size_push];exact Nat.le_refl _)
 rw[Heap.size_push] at ok
 rw[show ({ s with heap:=s.heap.push { cls:=.type "frame",data:=.dict #[] } }:Shared).heap.objs.size=s.heap.objs.size+1 from Heap.size_push ..]
 refine wpAny_bind (Jn (s₀:=s) (env:=newEnv scope s.heap.objs.size globals (cellsFrom (s.heap.objs.size+1) scope.names []) qual func code none builtins)
  _ (fun _ _ _=>rfl) hk binds (fun _=>none) (fun _=>none) _ _
  ⟨⟨⟨_,_,rfl⟩,(Heap.Ns.new s.heap (.type "frame")).keeps (pushCells_keeps _ _),fun b o e=>pushCells_keeps _ _ b o (Heap.get?_push_of_some _ e),Nat.le_refl _⟩,
   fun n c hc=>(ok.empty n c (PySem.mem_of_lookup hc)).1,ok.apart,fun n c hm=>(ok.empty n c hm).2⟩
  hkind fun s' x ht=>wpAny_pure (hQ _ rfl s' x ht))
theorem zIE {CX:CXT}{P:Program}{w:World}{K:PySem.W.Frag}{mg:Str->Option Value}{base:Heap}{N ps:List Str}{qual:Str}{scope:Scope}{f:Addr}{cd:Value}{A:Around}{outer:List Env}{s s1:Shared}{H:Hp}{E:XK}{us:List Value}{vs:List V}
  (S:jj N ps scope) (hd:A.handled=none) (e0:zGl P w K mg base A outer s H) (hl:vs.length=ps.length) (r:zY vs us)
  (x:InCallC s s.heap.objs.size (bindL (envOfC qual scope s.heap.objs.size f cd).kindOf (ps.zip us) fun _=>none) (cellsFrom (s.heap.objs.size+1) scope.names []) (bindC (envOfC qual scope s.heap.objs.size f cd).kindOf (ps.zip us) fun _=>none) s1) (ht:0 < s1.toks) :
  Inv (JQ CX P w K mg base N qual scope f cd A outer s H E) [] (QB N vs) H s1:=by
 have hpl:ps.length <= N.length:=by have:=congrArg List.length S.pre;rw[List.length_take] at this;omega
 obtain⟨h1,tk,rfl,hk⟩:=x.done
 have noA:∀ b:Addr,b∉(JQ CX P w K mg base N qual scope f cd A outer s H E).ex:=fun b z=>absurd (show b∈([]:List Addr) from z) (by simp)
 refine⟨⟨e0.mod,S.kind,rfl,rfl,Nat.le_refl _,fun y z c h1 h2=>?_,fun y hy=>?_,fun y c _ h=>?_,fun _=>hd,Around.frames_deeper e0.frames,.inr ⟨rfl,rfl⟩,fun b z=>absurd z (noA b),e0.bs,e0.bsz,fun b _ _=>noA b,fun b z=>absurd z (noA b),e0.funs,e0.frf⟩,
  rfl,e0.bare,Un.kept hk,⟨_,x.toInCall.ns,fun i y v h1 h2 h3=>?_⟩,fun y c h=>⟨_,x.cell y c h⟩,e0.hok.fresh (Nat.le_refl _),fun y c h=>?_,fun p hp=>absurd (show p∈([]:List (Addr×Obj)) from hp) (by simp),e0.hok.kept hk,?_,ht⟩
 ·exact name_of_addr x.apart (PySem.mem_of_lookup h1) (PySem.mem_of_lookup h2)
 ·have hy:scope.names.lookup y=some .cell\/scope.names.lookup y=some .free:=hy
  rcases hy with hy | hy
  ·exact zD2 hy
  ·exact absurd rfl (S.nofree _ (PySem.mem_of_lookup hy))
 ·exact Nat.le_of_lt (x.above y c (PySem.mem_of_lookup h))
 ·have hi:i < vs.length:=by
   unfold QB at h2
   by_cases hi:i < vs.length
   ·exact hi
   ·rw[List.getElem?_append_right (by simpa using hi)] at h2
    rw[List.getElem?_replicate] at h2
    split at h2<;>cases h2
  have ha:vs[i]? = some v:=by
   unfold QB at h2
   rw[List.getElem?_append_left (by simpa using hi),List.getElem?_map] at h2
   cases e:vs[i]? with
   | none=>rw[e] at h2;cases h2
   | some a=>rw[e] at h2;cases h2;rfl
  obtain⟨u,hu,rv⟩:=r.get ha
  have hp:ps[i]? = some y:=by
   rw[<- S.pre,List.getElem?_take_of_lt (by omega)];exact h1
  have ndP:ps.Nodup:=by rw[<- S.pre];exact S.nd.sublist (List.take_sublist _ _)
  refine⟨u,rv,?_⟩
  rcases S.par y (List.mem_of_getElem? hp) with k | k
  ·exact .inl ⟨k,zDR ndP hp hu k⟩
  ·obtain⟨c,e⟩:=zD2 (n:=s.heap.objs.size+1) k
   refine .inr ⟨.inl k,c,e,?_⟩
   have q:=x.cell y c e
   rw[zC5 ndP hp hu (by show scope.names.lookup y≠_;rw[k];decide)] at q
   exact q
 ·exact e0.hok.fresh (Nat.le_of_lt (x.above y c (PySem.mem_of_lookup h)))
 ·unfold QB
  show _=N.length
  rw[List.length_append,List.length_map,List.length_replicate]
  omega
theorem zNB {CX:CXT}{P:Program}{w:World}{K:PySem.W.Frag}{mg:Str->Option Value}{base:Heap}{k:Nat}{f:Addr}{name qual:Str}{params:Arguments}{body:List Stmt}{scope:Scope}{dV kV doc pm cdv ct oc:Value}{an od:Option Addr}
  {osl:Array (Option Value)}{N ps:List Str}{sp:Sp} (lk:K.lookup f=some ⟨oc,od,.func (PySem.W.fnOf name qual params body scope dV kV doc pm an cdv ct),osl⟩) (hcd:PySem.W.codeIn K cdv qual=true) (S:jj N ps scope)
  (len:∀ vs H Q E,sp vs H Q E->vs.length=ps.length)
  (hbody:∀ (A:Around) (outer:List Env) (s:Shared) (H:Hp) (vs:List V) (Q:VK) (E:XK),jN k (A.deeper (envOfC qual scope s.heap.objs.size f cdv))->sp vs H Q E ->
   ∃ t,PSs (JQ CX P w K mg base N qual scope f cdv A outer s H E) body t/\t { nx:=fun _ H'=>Q .non H',rt:=Q } (QB N vs) H) :
  qE P w K mg base CX (k+1) f (PySem.W.fnOf name qual params body scope dV kV doc pm an cdv ct) ps sp:=by
 refine⟨len,fun A outer s H args us vs Q E hr e0 htk hb r hsp=>?_⟩
 have hl:=len _ _ _ _ hsp
 have KX:K.In s.heap:=e0.mod.kin.keeps fun b o e=>(e0.bs b o e).1
 have lim:s.heap.NoLimit:=e0.mod.nolimit.keeps fun b o e=>(e0.bs b o e).1
 have hkind:∀ y∈ps.zip us,scope.names.lookup y.1=some .local\/(scope.names.lookup y.1=some .cell/\((cellsFrom (s.heap.objs.size+1) scope.names []).lookup y.1).isSome=true):=fun ⟨n,v⟩ hy=>by
  rcases S.par n (List.of_mem_zip hy).1 with q | q
  ·exact .inl q
  ·exact .inr ⟨q,PySem.W.cellsFrom_some _ _ _ (.inl q)⟩
 refine codeAny_call_function hr.depth (KX _ _ lk) rfl S.co S.gen rfl (PySem.W.codeRec_of KX hcd) (hb _ _ _ _ ?_)
 refine zKX S.kind hkind fun env he s1 x htk1=>?_
 subst he
 refine⟨lim.keeps x.toInCall.keep,codeAny_func ?_⟩
 obtain⟨t,ht,hq⟩:=hbody A outer s H vs Q E (hr.deeper _) hsp
 have I:Inv (JQ CX P w K mg base N qual scope f cdv A outer s H E) [] (QB N vs) H s1:=zIE S hr.hd e0 hl r x (htk1 (htk.imp id fun ⟨p,hp,hpl⟩=>by
  obtain⟨i,hi,e⟩:=List.mem_iff_getElem.mp hp
  have hu:i < us.length:=by rw[<- r.length,hl];exact hi
  exact⟨(p,us[i]),List.mem_iff_getElem.mpr ⟨i,by rw[List.length_zip];omega,by rw[List.getElem_zip,e]⟩,hpl⟩))
 refine wpAny_mono (ht [] s1 (QB N vs) H _ I hq) (fun fl s' hs=>?_) fun e s' hs=>hs
 have fin:∀ {σ':St}{H':Hp}{v:V}{u:Value},Inv (JQ CX P w K mg base N qual scope f cdv A outer s H E) [] σ' H' s'->ze v u->Q v H'->CE outer P w H s Q u s' :=
  fun {σ' H' v u} J rv q=>⟨v,H',J.os,J.bare,J.base,J.hok,rv,q⟩
 cases fl with
 | ret u =>
  obtain⟨v,σ',H',J,rv,q⟩:=hs
  exact fin J rv q
 | next =>
  obtain⟨σ',H',J,q⟩:=hs
  exact fin (v:=V.non) (u:=Value.none) J rfl q
 | brk =>
  obtain⟨_,_,_,q⟩:=hs
  exact False.elim q
 | cont =>
  obtain⟨_,_,_,q⟩:=hs
  exact False.elim q
end L2
namespace L2
open PySem PySem.Spec PyProof.Rows
section
variable {X:Cx}{x:Str}{p pos:Pos}{e:Expr}{es:List Expr}{t:TA}{id T:String}{r:List V->Hp->VK->Prop}
def tCB (r:List V->Hp->VK->Prop) (t:TA):TE:=fun σ H Q=>t σ H fun vs H1=>r vs H1 Q
theorem zEv (hc:jp X (.builtin id) r) (hg:Gl X x) (hm:X.mg x=none) (hv:bootBuiltins x=some (.builtin id)) (ha:PA X (e::es) t) (hn:x ≠ "__name__" := by decide) (hdb:(x == ("__debug__" : Str))=false:=by decide)
  (he:starEach (e::es) X.env=(false,eval e X.env)::starEach es X.env:=by rfl) (hpl:(backTo pos (starEach es X.env)).any (·.1)=false:=by rfl):PE X (.Call (.Name x p) (e::es) [] pos) (tCB r t):=by
 intro pins s σ H Q I h
 refine wpAny_Call_Name_kw (zB0 I hg hm hv ?_ hn hdb)
 exact PyProof.Rows.callWith_builtin1 (thn (ha pos pins s σ H _ I h) fun us s1 ⟨vs,H1,I1,r1,q1⟩=>hc pins s1 σ H1 vs us Q I1 r1 q1) he hpl
theorem zHr (hc:jp X (.type T) r) (hg:Gl X x) (hm:X.mg x=none) (hv:bootBuiltins x=some (.type T)) (ha:PA X (e::es) t) (hn:x ≠ "__name__" := by decide) (hdb:(x == ("__debug__" : Str))=false:=by decide)
  (he:starEach (e::es) X.env=(false,eval e X.env)::starEach es X.env:=by rfl) (hpl:(backTo pos (starEach es X.env)).any (·.1)=false:=by rfl):PE X (.Call (.Name x p) (e::es) [] pos) (tCB r t):=by
 intro pins s σ H Q I h
 refine wpAny_Call_Name_kw (zB0 I hg hm hv ?_ hn hdb)
 exact PyProof.Rows.callWith_type1 (thn (ha pos pins s σ H _ I h) fun us s1 ⟨vs,H1,I1,r1,q1⟩=>hc pins s1 σ H1 vs us Q I1 r1 q1) he hpl
end
end L2
namespace HT
open PySem PyProof.Rows
section
variable {prog:Program}{w:World}{A:Around}{E:Value->Shared->Prop}{s:Shared}
theorem zKW {t b:Addr}{vs ws:List Value}{Q:Value->Shared->Prop} (ht:IsTup s.heap t vs.toArray) (hb:IsTup s.heap b ws.toArray) (hv:vs≠[])
  (h1:ws=[]->Q (.ref t) s) (h2:ws≠[]->Q (.ref s.heap.objs.size) { s with heap:=s.heap.push { cls:=.type "tuple",data:=.seq (vs++ws).toArray } })
  (hsz:vs.length+ws.length <= sizeLine):wpAny (model prog w) A (binaryOp .Add (.ref t) (.ref b)) Q E s:=by
 obtain⟨⟨cls,dd,data,sl⟩,ho,hc,n,hd⟩:=id ht
 obtain⟨⟨cls2,dd2,data2,sl2⟩,ho2,hc2,n2,hd2⟩:=id hb
 simp only at hc hd hc2 hd2
 subst hc hd hc2 hd2
 have e:vs.toArray++ws.toArray=(vs++ws).toArray:=by simp
 by_cases hw:ws=[]
 ·exact concat_meets ⟨_,ho,rfl⟩ ⟨_,ho2,rfl⟩ noFill_tuple_add seq_tuple_add PySem.F.slot_tuple_add PySem.F.entry_tuple_add (PySem.F.args_tuple_add_2 _ _)
   (tuple_addW1 t b vs.toArray ws.toArray n n2 dd dd2 sl sl2 (by simpa using hv) (by simp[hw])) ⟨ho,ho2,h1 hw⟩
 ·refine concat_meets ⟨_,ho,rfl⟩ ⟨_,ho2,rfl⟩ noFill_tuple_add seq_tuple_add PySem.F.slot_tuple_add PySem.F.entry_tuple_add (PySem.F.args_tuple_add_2 _ _)
   (tuple_addW2 t b vs.toArray ws.toArray n n2 dd dd2 sl sl2 (by simpa using hv) (by simpa using hw) (by rw[List.size_toArray,List.size_toArray];exact hsz)) ⟨ho,ho2,?_⟩
  rw[e]
  exact h2 hw
def sIx (n d:Nat):Option Int->Nat
 | none=>d
 | some v=>if v < 0 then (v+(n:Int)).toNat else min v.toNat n
theorem zEk (n d:Nat) (hd:d <= n) (o:Option Int):sIx n d o <= n:=by
 cases o with
 | none=>exact hd
 | some v =>
  show (if v < 0 then (v+(n:Int)).toNat else min v.toNat n) <= n
  by_cases hv:v < 0
  ·rw[if_pos hv];omega
  ·rw[if_neg hv];exact Nat.min_le_right _ _
theorem zCf (v:Int) (n d:Nat):(if v < 0 then max (v+(n:Int)) 0 else min v (n:Int))=((sIx n d (some v):Nat):Int):=by
 show (if v < 0 then max (v+(n:Int)) 0 else min v (n:Int))=(((if v < 0 then (v+(n:Int)).toNat else min v.toNat n):Nat):Int)
 by_cases hv:v < 0
 ·simp only[if_pos hv];omega
 ·simp only[if_neg hv];omega
theorem zGj (lo hi:Option Int) (n:Nat):Builtin.Slice.sliceAdjust lo hi 1 (n:Int)=(((sIx n 0 lo:Nat):Int),((sIx n n hi:Nat):Int)):=by
 have h1:¬ ((1:Int) < 0):=by omega
 unfold Builtin.Slice.sliceAdjust
 simp only[h1,if_false]
 refine Prod.ext ?_ ?_
 ·cases lo with
  | none=>rfl
  | some v=>exact zCf v n 0
 ·cases hi with
  | none=>rfl
  | some v=>exact zCf v n n
theorem zGn (i j:Nat):Builtin.Slice.slicePlaces (i:Int) (j:Int) 1=j - i:=by
 unfold Builtin.Slice.slicePlaces
 have h1:(1:Int) > 0:=by omega
 simp only[h1,if_true,Int.ediv_one]
 split<;>omega
theorem zCF {v:Value}{o:Option Int}{Q:Option Int->Shared->Prop} (p:IsPart v o) (h:Q o s):wpAny (model prog w) A (Builtin.Slice.slicePartIndex v) Q E s:=by
 cases p with
 | none=>exact slicePart_none h
 | int i t=>exact slicePart_int h
theorem zBp {sl:Addr}{vl vu:Value}{lo hi:Option Int}{n:Nat}{Q:Int×Int×Nat->Shared->Prop} (hs:s.heap.IsSliceOf sl vl vu .none) (pl:IsPart vl lo) (pu:IsPart vu hi)
  (h:Q (((sIx n 0 lo:Nat):Int),1,sIx n n hi - sIx n 0 lo) s):wpAny (model prog w) A (Builtin.Slice.sliceApplied (.ref sl) (pure (n:Int))) Q E s:=by
 obtain⟨os,hos,hcs,hds⟩:=id hs
 unfold Builtin.Slice.sliceApplied Builtin.Slice.sliceFields
 refine wpAny_bind (wpAny_bind (wpAny_field hos hds (x:=vl) rfl (wpAny_bind (wpAny_field hos hds (x:=vu) rfl (wpAny_bind (wpAny_field hos hds (x:=.none) rfl (wpAny_pure ?_)))))))
 refine wpAny_bind (slicePart_none ?_)
 show wpAny _ _ (if ((1:Int) == 0)=true then _ else _) _ _ s
 rw[if_neg (by decide)]
 refine wpAny_bind (zCF pl (wpAny_bind (zCF pu (wpAny_bind (wpAny_pure ?_)))))
 show wpAny _ _ (match Builtin.Slice.sliceAdjust lo hi 1 (n:Int) with | (lo,hi)=>pure (lo,(1:Int),Builtin.Slice.slicePlaces lo hi 1)) _ _ s
 rw[zGj lo hi n]
 show wpAny _ _ (pure (((sIx n 0 lo:Nat):Int),(1:Int),Builtin.Slice.slicePlaces ((sIx n 0 lo:Nat):Int) ((sIx n n hi:Nat):Int) 1)) _ _ s
 rw[zGn]
 exact wpAny_pure h
theorem zJj (xs:Array Value) (i k:Nat):((List.range k).filterMap fun (m:Nat)=>xs[((i:Int)+(m:Int) * 1).toNat]?).toArray=((xs.toList.drop i).take k).toArray:=by
 have e:(fun (m:Nat)=>xs[((i:Int)+(m:Int) * 1).toNat]?)=fun m=>xs[i+m]? := by
  funext m
  have:((i:Int)+(m:Int) * 1).toNat=i+m:=by omega
  rw[this]
 rw[e]
 have:=pick_run xs i k
 rw[List.filterMap_map] at this
 have e2:((fun x=>xs[x]?) ∘ fun x=>i+x)=fun m=>xs[i+m]? := rfl
 rw[e2] at this
 rw[this]
theorem zBQ {t sl:Addr}{items:Array Value}{vl vu:Value}{lo hi:Option Int}{Q:Value->Shared->Prop} (ht:IsTup s.heap t items) (hs:s.heap.IsSliceOf sl vl vu .none) (pl:IsPart vl lo) (pu:IsPart vu hi)
  (hw:¬ (sIx items.size 0 lo=0/\sIx items.size items.size hi=items.size))
  (h:Q (.ref s.heap.objs.size) { s with heap:=s.heap.push { cls:=.type "tuple",data:=.seq ((items.toList.drop (sIx items.size 0 lo)).take (sIx items.size items.size hi - sIx items.size 0 lo)).toArray } })
  (hsz:items.size <= sizeLine):wpAny (model prog w) A (getItem (.ref t) (.ref sl)) Q E s:=by
 have htake:sizeOk (.seq ((items.toList.drop (sIx items.size 0 lo)).take (sIx items.size items.size hi - sIx items.size 0 lo)).toArray):=by
  show ((items.toList.drop (sIx items.size 0 lo)).take (sIx items.size items.size hi - sIx items.size 0 lo)).toArray.size <= sizeLine
  rw[List.size_toArray,List.length_take,List.length_drop,Array.length_toList]
  omega
 have hj:sIx items.size items.size hi <= items.size:=zEk _ _ (Nat.le_refl _) hi
 obtain⟨os,hos,hcs,hds⟩:=id hs
 have hTs:s.TypeIs (.ref sl) "slice" := ⟨os,hos,hcs⟩
 unfold getItem
 try with_reducible refine wpAny_holding ?_
 first | refine wpAny_bind (wpAny_pure ?_) | skip
 refine wpAny_bind (wpAny_sequenceKey ht.typeIs (by decide) ?_)
 refine wpAny_bind (wpAny_callSpecial?_slot (name:=Str.ofString "__getitem__") ht.typeIs PyProof.Rows.slot_tuple_getitem
  (wpAny_call_entry PyProof.Rows.slot_tuple_getitem ht.typeIs entry_tuple_getitem ?_ (args_tuple_getitem _ _)))
 show wpAny _ _ (Builtin.Tuple.tupleItemsOf (.ref t) >>= _) _ _ s
 refine wpAny_bind (tupleItemsOf_ ht ?_)
 refine wpAny_bind (wpAny_typeOf hTs ?_)
 rw[if_pos (by decide)]
 refine wpAny_bind (zBp hs pl pu ?_)
 have hno:¬ ((((sIx items.size 0 lo:Nat):Int) == 0 && (1:Int) == 1 && (sIx items.size items.size hi - sIx items.size 0 lo) == items.size)=true):=by
  intro q
  rw[Bool.and_eq_true,Bool.and_eq_true] at q
  have q1:((sIx items.size 0 lo:Nat):Int)=0:=eq_of_beq q.1.1
  have q2:sIx items.size items.size hi - sIx items.size 0 lo=items.size:=eq_of_beq q.2
  exact hw ⟨by omega,by omega⟩
 show wpAny _ _ (if (((sIx items.size 0 lo:Nat):Int) == 0 && (1:Int) == 1 && (sIx items.size items.size hi - sIx items.size 0 lo) == items.size)=true then _ else _) _ _ s
 rw[if_neg hno,zJj]
 first
  | exact wpAny_bind (m:=Builtin.Tuple.tupleExact _) (wpAny_newObj_type (wpAny_pure ⟨_,rfl,wpAny_pure h⟩) htake)
  | exact wpAny_bind (m:=Builtin.Tuple.tupleExact _) (wpAny_newObj_type (wpAny_bind (wpAny_pure (wpAny_pure ⟨_,rfl,wpAny_pure h⟩))) htake)
  | exact wpAny_bind (wpAny_bind (m:=Builtin.Tuple.tupleExact _) (wpAny_newObj_type (wpAny_pure (wpAny_pure ⟨_,rfl,wpAny_pure h⟩)) htake))
  | exact wpAny_bind (wpAny_bind (m:=Builtin.Tuple.tupleExact _) (wpAny_newObj_type (wpAny_pure ⟨_,rfl,wpAny_pure h⟩) htake))
end
end HT
namespace L2
open PySem PySem.Spec PyProof.Rows
abbrev TO:=St->Hp->(Option Int->Hp->Prop)->Prop
def PO (X:Cx) (e:Option Expr) (t:TO):Prop :=
 ∀ (pins:List (Addr×Obj)) (s:Shared) (σ:St) (H:Hp) (Q:Option Int->Hp->Prop),Inv X pins σ H s->t σ H Q ->
  wpAny (model X.prog X.w) X.A (evalPart e X.env) (fun u s'=>∃ o H',Inv X pins σ H' s'/\IsPart u o/\Q o H') X.xe s
def zKs:TO:=fun _ H Q=>Q none H
def zM5 (t:TE):TO:=fun σ H Q=>t σ H fun x H1=>∃ i,x=.int i/\Q (some i) H1
section
variable {X:Cx}{e:Expr}{te:TE}{lo hi:Option Expr}{tl th:TO}{pos p2:Pos}
theorem zKc:PO X none zKs:=by
 intro pins s σ H Q I h
 rw[evalPart_none]
 exact wpAny_pure ⟨none,H,I,.none,h⟩
theorem zKa (h:PE X e te):PO X (some e) (zM5 te):=by
 intro pins s σ H Q I hw
 rw[evalPart_some]
 refine thn (h pins s σ H _ I hw) fun u s1 ⟨x,H1,I1,r1,q1⟩=>?_
 obtain⟨i,rfl,q⟩:=q1
 obtain⟨t,rfl⟩:=r1
 exact⟨some i,H1,I1,.int i t,q⟩
def SlR (X:Cx) (r:V->Option Int->Option Int->Hp->VK->Prop):Prop :=
 ∀ (pins:List (Addr×Obj)) (s:Shared) (σ:St) (H:Hp) (x:V) (v vl vu:Value) (lo hi:Option Int) (sl:Addr) (Q:VK),Inv X pins σ H s->ze x v->s.heap.IsSliceOf sl vl vu .none->IsPart vl lo->IsPart vu hi->r x lo hi H Q ->
  ∃ T id,typeLookup (.type T) "__getitem__" = pure (some (.builtin id))/\s.TypeIs v T/\wpAny (model X.prog X.w) X.A (getItem v (.ref sl)) (EP X pins σ Q) X.xe s
def tSl (r:V->Option Int->Option Int->Hp->VK->Prop) (te:TE) (tl th:TO):TE:=fun σ H Q=>te σ H fun x H1=>tl σ H1 fun l H2=>th σ H2 fun u H3=>r x l u H3 Q
theorem zJd {r:V->Option Int->Option Int->Hp->VK->Prop} (hr:SlR X r) (he:PE X e te) (hl:PO X lo tl) (hu:PO X hi th):PE X (.Subscript e (.Slice lo hi none p2) pos) (tSl r te tl th):=by
 intro pins s σ H Q I h
 refine Subscript_ (thn (he pins s σ H _ I h) fun v s1 ⟨x,H1,I1,r1,q1⟩=>?_)
 refine wpAny_Slice (thn (hl pins s1 σ H1 _ I1 q1) fun vl s2 ⟨l,H2,I2,pl,q2⟩=>thn (hu pins s2 σ H2 _ I2 q2) fun vu s3 ⟨u,H3,I3,pu,q3⟩=>?_)
 rw[evalPart_none]
 refine wpAny_pure ?_
 have I4:Inv X pins σ H3 { s3 with heap:=s3.heap.push { cls:=.type "slice",data:=.fields #[vl,vu,.none] } }:=I3.kept (t':=s3.toks) fun b ob q=>Heap.get?_push_of_some _ q
 obtain⟨T,id,hT,ht,hg⟩:=hr pins { s3 with heap:=s3.heap.push { cls:=.type "slice",data:=.fields #[vl,vu,.none] } } σ H3 x v vl vu l u s3.heap.objs.size Q I4 r1 (Heap.IsSliceOf.new ..) pl pu q3
 show wpAny (model X.prog X.w) X.A (subscriptTail e (.Slice lo hi none p2) v (.ref s3.heap.objs.size)) (EP X pins σ Q) X.xe { s3 with heap:=s3.heap.push { cls:=.type "slice",data:=.fields #[vl,vu,.none] } }
 exact tail_any (ops:=[.ref s3.heap.objs.size,v]) ht hT hg (by with_unfolding_all rfl)
def Jh (xs:List V) (lo hi:Option Int):List V:=(xs.drop (HT.sIx xs.length 0 lo)).take (HT.sIx xs.length xs.length hi - HT.sIx xs.length 0 lo)
theorem zBU (xs:List V) (lo hi:Option Int):(Jh xs lo hi).length <= xs.length:=by
 unfold Jh
 rw[List.length_take,List.length_drop]
 omega
def zNj (K:PySem.W.Frag):V->Option Int->Option Int->Hp->VK->Prop:=fun x lo hi H Q=>∃ a xs,x=.ref a/\SqT K H a xs /\
 ¬ (HT.sIx xs.length 0 lo=0/\HT.sIx xs.length xs.length hi=xs.length)/\∀ p,H p=none->Q (.ref p) (upd H p (.tup (Jh xs lo hi)))
theorem zL8:SlR X (zNj X.K):=by
 intro pins s σ H x v vl vu lo hi sl Q I rx hs pl pu h
 obtain⟨a,xs,rfl,hx,hw,q⟩:=h
 cases rx
 obtain⟨its,r,ht,hz⟩:=I.tuple hx
 have hlen:its.toArray.size=xs.length:=by rw[List.size_toArray];exact r.length.symm
 refine⟨"tuple",_,PyProof.Rows.slot_tuple_getitem.lookup,ht.typeIs,?_⟩
 refine HT.zBQ ht hs pl pu (by rw[hlen];exact hw) ?_ (by rw[hlen];exact hz)
 rw[hlen]
 refine⟨.ref s.heap.objs.size,_,I.laid (t':=s.toks) (o:=.tup (Jh xs lo hi)) (fun b ob q=>Heap.get?_push_of_some _ q) (Nat.le_refl _) ?_,rfl,q _ (I.hok.fresh (Nat.le_refl _))⟩
 exact⟨Nat.le_trans (zBU xs lo hi) hz,_,(r.drop (HT.sIx xs.length 0 lo)).take (HT.sIx xs.length xs.length hi - HT.sIx xs.length 0 lo),IsTup.new _ _⟩
def zJo (K:PySem.W.Frag):R2:=fun x y H Q=>∃ a b xs ys,x=.ref a/\y=.ref b/\SqT K H a xs/\SqT K H b ys/\xs≠[]/\xs.length+ys.length <= sizeLine /\
 (ys=[]->Q (.ref a) H)/\(ys≠[]->∀ p,H p=none->Q (.ref p) (upd H p (.tup (xs++ys))))
theorem zY.nil_iff {xs:List V}{us:List Value} (r:zY xs us):us=[]↔xs=[]:=by
 cases r with
 | nil=>simp
 | cons _ _=>simp
theorem jX:OpR X (binaryOp .Add) (zJo X.K):=by
 intro pins s σ H x y v u Q I rx ry h
 obtain⟨a,b,xs,ys,rfl,rfl,ha,hb,hx,hz,q1,q2⟩:=h
 cases rx
 cases ry
 obtain⟨its,r1,p1,_⟩:=I.tuple ha
 obtain⟨its2,r2,p2,_⟩:=I.tuple hb
 refine HT.zKW p1 p2 (fun z=>hx (r1.nil_iff.mp z)) (fun z=>⟨.ref a,H,I,rfl,q1 (r2.nil_iff.mp z)⟩) (fun z=>?_) (by rw[<- r1.length,<- r2.length];exact hz)
 refine⟨.ref s.heap.objs.size,_,I.laid (t':=s.toks) (o:=.tup (xs++ys)) (fun b ob q=>Heap.get?_push_of_some _ q) (Nat.le_refl _) ?_,rfl,q2 (fun w=>z (r2.nil_iff.mpr w)) _ (I.hok.fresh (Nat.le_refl _))⟩
 exact⟨by rw[List.length_append];exact hz,_,r1.append r2,IsTup.new _ _⟩
end
end L2
namespace L2
open PySem PySem.Spec PyProof.Rows
def ixN (n:Nat) (i:Int):Option Nat:=if 0 <= i then (if i < n then some i.toNat else none) else if -(n:Int) <= i then some (i+n).toNat else none
def atI {α:Type} (xs:List α) (i:Int):Option α:=(ixN xs.length i).bind fun j=>xs[j]?
theorem zF9 {n:Nat}{i:Int}{j:Nat} (h:ixN n i=some j):seqIndex? i n=some j/\j < n /\ -(n:Int) <= i/\i < n:=by
 unfold ixN at h
 by_cases h0:0 <= i
 ·rw[if_pos h0] at h
  by_cases h1:i < n
  ·rw[if_pos h1] at h
   have e:i.toNat=j:=Option.some.inj h
   exact⟨by rw[seqIndex_of h0 h1,e],by omega,by omega,h1⟩
  ·rw[if_neg h1] at h;cases h
 ·rw[if_neg h0] at h
  by_cases h1:-(n:Int) <= i
  ·rw[if_pos h1] at h
   have e:(i+n).toNat=j:=Option.some.inj h
   exact⟨by rw[seqIndex_neg (by omega) h1,e],by omega,h1,by omega⟩
  ·rw[if_neg h1] at h;cases h
theorem zCt {α:Type}{xs:List α}{i:Int}{v:α} (h:atI xs i=some v):∃ j,seqIndex? i xs.length=some j/\xs[j]? = some v/\j < xs.length /\ -(xs.length:Int) <= i/\i < xs.length:=by
 unfold atI at h
 cases e:ixN xs.length i with
 | none=>rw[e] at h;cases h
 | some j =>
  rw[e] at h
  obtain⟨h1,h2,h3,h4⟩:=zF9 e
  exact⟨j,h1,h,h2,h3,h4⟩
def zGA (b:Expr):Prop:=∀ o i,subscripted b false o i=operate [o,i] (getItem o i)
def IxR (X:Cx) (r:R2):Prop :=
 ∀ (value slice:Expr) (pins:List (Addr×Obj)) (s:Shared) (σ:St) (H:Hp) (x y:V) (v u:Value) (Q:VK),Inv X pins σ H s->ze x v->ze y u->r x y H Q ->
  subscripted slice false v u=operate [v,u] (getItem v u)->wpAny (model X.prog X.w) X.A (subscriptTail value slice v u) (EP X pins σ Q) X.xe s
def MtR (X:Cx) (id:String) (r:V->List V->Hp->VK->Prop):Prop :=
 ∀ (pins:List (Addr×Obj)) (s:Shared) (σ:St) (H:Hp) (x:V) (xs:List V) (v:Value) (us:List Value) (Q:VK),Inv X pins σ H s->ze x v->zY xs us->r x xs H Q ->
  wpAny (model X.prog X.w) X.A (call (.builtin id) (v::us)) (EP X pins σ Q) X.xe s
section
variable {X:Cx}{a b:Expr}{ta tb:TE}{pos:Pos}
theorem IxR.or {r r':R2} (h:IxR X r) (h':IxR X r'):IxR X (fun x y H Q=>r x y H Q\/r' x y H Q):=by
 intro value slice pins s σ H x y v u Q I rx ry q hs
 rcases q with q | q
 ·exact h value slice pins s σ H x y v u Q I rx ry q hs
 ·exact h' value slice pins s σ H x y v u Q I rx ry q hs
theorem zNG {r:R2} (hr:IxR X r) (ha:PE X a ta) (hb:PE X b tb) (hs:zGA b):PE X (.Subscript a b pos) (tOp r ta tb):=by
 intro pins s σ H Q I h
 exact Subscript_ (zIr ha hb I h fun v u s2 x y H2 I2 rx ry q=>hr a b pins s2 σ H2 x y v u Q I2 rx ry q (hs _ _))
def zNz (K:PySem.W.Frag):R2:=fun x y H Q=>∃ p xs i v,x=.ref p/\y=.int i/\SqL K H p xs/\atI xs i=some v/\Q v H
def zN7 (K:PySem.W.Frag):R2:=fun x y H Q=>∃ p xs i v,x=.ref p/\y=.int i/\SqT K H p xs/\atI xs i=some v/\Q v H
def zN4:R2:=fun x y H Q=>∃ z i c,x=.str z/\y=.int i/\z.length <= sizeLine/\atI z.cps.toList i=some c/\Q (.str ⟨#[c]⟩) H
theorem zKK:IxR X (zNz X.K):=by
 intro value slice pins s σ H x y v u Q I rx ry h hs
 obtain⟨p,xs,i,z,rfl,rfl,hq,he,q⟩:=h
 cases rx
 obtain⟨t,rfl⟩:=ry
 obtain⟨its,r,pl,hz⟩:=I.list hq
 obtain⟨j,h1,h2,h3,h4,h5⟩:=zCt he
 obtain⟨w,ew,rw'⟩:=r.get h2
 have hl:=r.length
 have hn:=JN
 have fin:EP X pins σ Q w s:=⟨z,H,I,rw',q⟩
 by_cases h0:0 <= i
 ·have hj:i.toNat=j:=by
   rw[seqIndex_of h0 h5] at h1
   exact Option.some.inj h1
  exact item_listR pl.isList h0 (by omega) (by rw[hj];simpa using ew) fin hs
 ·have hj:(i+(its.toArray.size:Int)).toNat=j:=by
   rw[seqIndex_neg (by omega) h4] at h1
   rw[List.size_toArray,<- hl]
   exact Option.some.inj h1
  exact subscriptTail_builtinR (x:=w) pl.isList.typeIs slot_list_getitem.lookup
   (wpAny_getItem_list_neg (Q:=fun r s'=>r=w/\EP X pins σ Q r s') pl.isList (by omega) (by rw[List.size_toArray]<;>omega) (by omega) (by rw[hj];simpa using ew) ⟨rfl,fin⟩) hs
theorem zLE:IxR X (zN7 X.K):=by
 intro value slice pins s σ H x y v u Q I rx ry h hs
 obtain⟨p,xs,i,z,rfl,rfl,hq,he,q⟩:=h
 cases rx
 obtain⟨t,rfl⟩:=ry
 obtain⟨its,r,pl,hz⟩:=I.tuple hq
 obtain⟨j,h1,h2,h3,h4,h5⟩:=zCt he
 obtain⟨w,ew,rw'⟩:=r.get h2
 have hl:=r.length
 have hn:=JN
 have fin:EP X pins σ Q w s:=⟨z,H,I,rw',q⟩
 exact subscriptTail_builtinR (x:=w) pl.typeIs slot_tuple_getitem.lookup
  (getItem_tuple (j:=j) (Q:=fun r s'=>r=w/\EP X pins σ Q r s') pl (by omega) (by omega) (by rw[List.size_toArray,<- hl];exact h1) (by simpa using ew) ⟨rfl,fin⟩) hs
theorem zLP:IxR X zN4:=by
 intro value slice pins s σ H x y v u Q I rx ry h hs
 obtain⟨z,i,c,rfl,rfl,hz,he,q⟩:=h
 obtain⟨t,rfl⟩:=rx
 obtain⟨t',rfl⟩:=ry
 obtain⟨j,h1,h2,h3,h4,h5⟩:=zCt he
 have hl:z.cps.toList.length=z.length:=by simp[Str.length]
 rw[hl] at h1 h4 h5
 have hn:=JN
 exact tail_any (typeIs_str s z t) slot_str_getitem.lookup (getItem_str (c:=c) (by
  have e1:decide (i < -(2 ^ 63:Int))=false:=decide_eq_false (by omega)
  have e2:decide (i ≥ 2 ^ 63)=false:=decide_eq_false (by omega)
  rw[e1,e2,Bool.or_false]) (by rw[h1];simpa using h2) ⟨.str ⟨#[c]⟩,H,I.tok _,⟨_,rfl⟩,q⟩) hs
theorem zGo (its:List Value) (n j:Nat) (u:Value):Obj.mapSeq (·.setIfInBounds j u) { cls:=.type "list",data:=.seq its.toArray n }={ cls:=.type "list",data:=.seq (its.set j u).toArray n }:=by
 simp[Obj.mapSeq]
theorem Inv.lst {pins:List (Addr×Obj)}{σ:St}{H:Hp}{s:Shared}{p:Addr}{xs:List V} (I:Inv X pins σ H s) (h:H p=some (.lst xs)) :
  ∃ (its:List Value) (n:Nat),zY xs its/\s.heap.get? p=some { cls:=.type "list",data:=.seq its.toArray n }/\xs.length <= sizeLine:=by
 obtain⟨z,its,n,r,e⟩:=I.hok p _ h
 exact⟨its,n,r,e,z⟩
theorem Inv.lstUpd {pins:List (Addr×Obj)}{σ:St}{H:Hp}{s:Shared}{p:Addr}{xs ys:List V}{its its':List Value}{n n':Nat}{f:Obj->Obj} (I:Inv X pins σ H s) (h:H p=some (.lst xs))
  (ho:s.heap.get? p=some { cls:=.type "list",data:=.seq its.toArray n }) (hf:f { cls:=.type "list",data:=.seq its.toArray n }={ cls:=.type "list",data:=.seq its'.toArray n' }) (r:zY ys its') (hz:ys.length <= sizeLine) (t:Nat) (ht:0 < t:=by first | exact Nat.succ_pos _ | assumption | exact Inv.tk (by assumption) | omega) :
  Inv X pins σ (upd H p (.lst ys)) { s with heap:=s.heap.update p f,toks:=t }:=by
 have e:(s.heap.update p f).get? p=some { cls:=.type "list",data:=.seq its'.toArray n' }:=by
  rw[Heap.get?_update_self f ho (by rw[hf]<;>rfl),hf]
 refine I.write (x:=p) (e:=p) (by rw[h];trivial) (.inl rfl) (fun b u hb q=>(Heap.get?_update_other _ _ (Ne.symm hb)).trans q) ⟨_,e⟩ ?_
 exact⟨hz,its',n',r,e⟩
def zM4:V->V->V->Hp->(Hp->Prop)->Prop:=fun o i v H Q=>∃ p xs k j,o=.ref p/\i=.int k/\H p=some (.lst xs)/\ixN xs.length k=some j/\Q (upd H p (.lst (xs.set j v)))
theorem zJU:zL6 X zM4:=by
 intro pins s σ H o i v ov iv u Q I ro ri rv h
 obtain⟨p,xs,k,j,rfl,rfl,hp,hj,q⟩:=h
 cases ro
 obtain⟨t,rfl⟩:=ri
 obtain⟨its,n,r,ho,hz⟩:=I.lst hp
 obtain⟨h1,h2,h3,h4⟩:=zF9 hj
 have hl:=r.length
 have hn:=JN
 have I':Inv X pins σ (upd H p (.lst (xs.set j v))) { s with heap:=s.heap.update p (Obj.mapSeq (·.setIfInBounds j u)) } :=
  I.lstUpd hp ho (zGo its n j u) (r.set rv j) (by rw[List.length_set];exact hz) s.toks
 by_cases h0:0 <= k
 ·have hk:k.toNat=j:=by
   rw[seqIndex_of h0 h4] at h1
   exact Option.some.inj h1
  exact PySem.W.ki_setAt ho h0 (by omega) (by rw[List.size_toArray,<- hl];exact h4) (by rw[hk];exact⟨_,I',q⟩)
 ·have hk:(k+(its.toArray.size:Int)).toNat=j:=by
   rw[seqIndex_neg (by omega) h3] at h1
   rw[List.size_toArray,<- hl]
   exact Option.some.inj h1
  exact PySem.W.ki_setBack ho (by omega) (by rw[List.size_toArray,<- hl];exact h3) (by omega) (by rw[hk];exact⟨_,I',q⟩)
theorem zEs (lo hi:Option Int) (n:Nat):(sliceBounds lo hi none n).1=((HT.sIx n 0 lo:Nat):Int)/\(sliceBounds lo hi none n).2.1=((HT.sIx n n hi:Nat):Int)/\(sliceBounds lo hi none n).2.2=1:=by
 refine⟨?_,?_,rfl⟩
 ·cases lo with
  | none=>simp[sliceBounds,HT.sIx]
  | some i =>
   simp only[sliceBounds,HT.sIx,Option.getD_none,show (1:Int) > 0 by decide,if_true]
   by_cases h:i < 0
   ·simp only[h,if_true]<;>omega
   ·simp only[h,if_false]<;>omega
 ·cases hi with
  | none=>simp[sliceBounds,HT.sIx]
  | some i =>
   simp only[sliceBounds,HT.sIx,Option.getD_none,show (1:Int) > 0 by decide,if_true]
   by_cases h:i < 0
   ·simp only[h,if_true]<;>omega
   ·simp only[h,if_false]<;>omega
theorem zDf (its:List Value) (lo hi:Option Int):slicePick its.toArray lo hi none=((its.drop (HT.sIx its.length 0 lo)).take (HT.sIx its.length its.length hi - HT.sIx its.length 0 lo)).toArray:=by
 obtain⟨h1,h2,h3⟩:=zEs lo hi its.toArray.size
 unfold slicePick
 rw[h1,h2,h3]
 simp only[sliceRange_one,pick_run,List.size_toArray]<;>rfl
def zN6 (K:PySem.W.Frag):V->Option Int->Option Int->Hp->VK->Prop:=fun x lo hi H Q=>∃ a xs,x=.ref a/\SqL K H a xs/\∀ p,H p=none->Q (.ref p) (upd H p (.lst (Jh xs lo hi)))
theorem zJ4:SlR X (zN6 X.K):=by
 intro pins s σ H x v vl vu lo hi sl Q I rx hs pl pu h
 obtain⟨a,xs,rfl,hx,q⟩:=h
 cases rx
 obtain⟨its,r,ht,hz⟩:=I.list hx
 have hlen:=r.length
 refine⟨"list",_,slot_list_getitem.lookup,ht.isList.typeIs,?_⟩
 refine wpAny_getItem_list_slice ht.isList hs pl pu .none (by simp) ?_ (by rw[List.size_toArray]<;>omega)
 rw[zDf,<- hlen]
 refine⟨.ref s.heap.objs.size,_,I.laid (t':=s.toks) (o:=.lst (Jh xs lo hi)) (fun b ob q=>Heap.get?_push_of_some _ q) (Nat.le_refl _) ?_,rfl,q _ (I.hok.fresh (Nat.le_refl _))⟩
 exact⟨Nat.le_trans (zBU xs lo hi) hz,_,0,(r.drop (HT.sIx xs.length 0 lo)).take (HT.sIx xs.length xs.length hi - HT.sIx xs.length 0 lo),Heap.get?_push_size _ rfl⟩
def yD:V->Bool
 | .non=>true
 | .bl _=>true
 | .int _=>true
 | .str _=>true
 | _=>false
def eqV:V->V->Bool
 | .non,.non=>true
 | .bl a,.bl b=>a == b
 | .bl a,.int b=>(if a then 1 else 0) == b
 | .int a,.bl b=>a == (if b then 1 else 0)
 | .int a,.int b=>a == b
 | .str a,.str b=>a == b
 | _,_=>false
theorem zM2 {A:Around}{s:Shared}{y x:V}{u v:Value} (ry:ze y u) (rx:ze x v) (fy:yD y=true) (fx:yD x=true):SeqAt.EqAt A s u v (eqV y x):=by
 cases y with
 | non =>
  cases ry
  cases x with
  | non=>cases rx;exact SeqAt.EqAt.same _
  | bl b=>cases rx;exact SeqAt.EqAt.none_bool b
  | int b=>obtain⟨t,rfl⟩:=rx;exact SeqAt.EqAt.none_int b t
  | str b=>obtain⟨t,rfl⟩:=rx;exact SeqAt.EqAt.none_str b t
  | _=>exact absurd (show false=true from fx) Bool.false_ne_true
 | bl a =>
  cases ry
  cases x with
  | non=>cases rx;exact SeqAt.EqAt.bool_none a
  | bl b=>cases rx;exact SeqAt.EqAt.bool_bool a b
  | int b=>obtain⟨t,rfl⟩:=rx;exact SeqAt.EqAt.bool_int a b t
  | str b=>obtain⟨t,rfl⟩:=rx;exact SeqAt.EqAt.bool_str a b t
  | _=>exact absurd (show false=true from fx) Bool.false_ne_true
 | int a =>
  obtain⟨t',rfl⟩:=ry
  cases x with
  | non=>cases rx;exact SeqAt.EqAt.int_none a t'
  | bl b=>cases rx;exact SeqAt.EqAt.int_bool a t' b
  | int b=>obtain⟨t,rfl⟩:=rx;exact SeqAt.EqAt.int_int a t' b t
  | str b=>obtain⟨t,rfl⟩:=rx;exact SeqAt.EqAt.int_str a t' b t
  | _=>exact absurd (show false=true from fx) Bool.false_ne_true
 | str a =>
  obtain⟨t',rfl⟩:=ry
  cases x with
  | non=>cases rx;exact SeqAt.EqAt.str_none a t'
  | bl b=>cases rx;exact SeqAt.EqAt.str_bool a t' b
  | int b=>obtain⟨t,rfl⟩:=rx;exact SeqAt.EqAt.str_int a t' b t
  | str b=>obtain⟨t,rfl⟩:=rx;exact SeqAt.EqAt.str_str a t' b t
  | _=>exact absurd (show false=true from fx) Bool.false_ne_true
 | _=>exact absurd (show false=true from fy) Bool.false_ne_true
def eqU (x:V) (u:Value):Bool:=match u with
 | .none=>eqV .non x
 | .bool b=>eqV (.bl b) x
 | .int i _=>eqV (.int i) x
 | .str z _=>eqV (.str z) x
 | _=>false
theorem zHo {x y:V}{u:Value} (r:ze y u) (f:yD y=true):eqU x u=eqV y x:=by
 cases y with
 | non=>cases r;rfl
 | bl b=>cases r;rfl
 | int i=>obtain⟨t,rfl⟩:=r;rfl
 | str z=>obtain⟨t,rfl⟩:=r;rfl
 | _=>exact absurd (show false=true from f) Bool.false_ne_true
theorem Jy {x:V}:∀ {xs:List V}{us:List Value},zY xs us->xs.all yD=true->us.any (eqU x)=xs.any fun y=>eqV y x
 | _,_,.nil,_=>rfl
 | y::xs,u::us,.cons r t,f=>by
  rw[List.all_cons,Bool.and_eq_true] at f
  rw[List.any_cons,List.any_cons,zHo r f.1,Jy t f.2]
theorem JO {A:Around}{s:Shared}{x:V}{v:Value} (rx:ze x v) (fx:yD x=true):∀ {xs:List V}{us:List Value},zY xs us->xs.all yD=true->∀ u∈us,SeqAt.EqAt A s u v (eqU x u)
 | _,_,.nil,_=>fun u hu=>by cases hu
 | y::xs,u::us,.cons r t,f=>fun u' hu=>by
  rw[List.all_cons,Bool.and_eq_true] at f
  rcases List.mem_cons.mp hu with rfl | hu
  ·rw[zHo r f.1];exact zM2 r rx f.1 fx
  ·exact JO rx fx t f.2 u' hu
def inV (x:V) (xs:List V):Bool:=xs.any fun y=>eqV y x
def rIn (K:PySem.W.Frag) (neg:Bool):R2:=fun x y H Q=>∃ p xs,y=.ref p/\(SqL K H p xs\/SqT K H p xs)/\yD x=true/\xs.all yD=true/\Q (.bl (if neg then !inV x xs else inV x xs)) H
theorem zIV:OpR X (compareOp .In) (rIn X.K false):=by
 intro pins s σ H x y v u Q I rx ry h
 obtain⟨p,xs,rfl,hq,fx,fs,q⟩:=h
 cases ry
 rcases hq with hq | hq
 ·obtain⟨its,r,pl,hz⟩:=I.list hq
  refine SeqAt.in_listAt (eqU x) pl.isList (fun w hw=>JO rx fx r fs w (by simpa using hw)) ⟨.bl _,H,I,rfl,?_⟩
  rw[show its.toArray.any (eqU x)=its.any (eqU x) by simp,Jy r fs]
  exact q
 ·obtain⟨its,r,pl,hz⟩:=I.tuple hq
  refine SeqAt.in_tupleAt (eqU x) pl (fun w hw=>JO rx fx r fs w (by simpa using hw)) ⟨.bl _,H,I,rfl,?_⟩
  rw[show its.toArray.any (eqU x)=its.any (eqU x) by simp,Jy r fs]
  exact q
theorem zEd:OpR X (compareOp .NotIn) (rIn X.K true):=by
 intro pins s σ H x y v u Q I rx ry h
 obtain⟨p,xs,rfl,hq,fx,fs,q⟩:=h
 cases ry
 rcases hq with hq | hq
 ·obtain⟨its,r,pl,hz⟩:=I.list hq
  refine SeqAt.notIn_listAt (eqU x) pl.isList (fun w hw=>JO rx fx r fs w (by simpa using hw)) ⟨.bl _,H,I,rfl,?_⟩
  rw[show its.toArray.any (eqU x)=its.any (eqU x) by simp,Jy r fs]
  exact q
 ·obtain⟨its,r,pl,hz⟩:=I.tuple hq
  refine SeqAt.notIn_tupleAt (eqU x) pl (fun w hw=>JO rx fx r fs w (by simpa using hw)) ⟨.bl _,H,I,rfl,?_⟩
  rw[show its.toArray.any (eqU x)=its.any (eqU x) by simp,Jy r fs]
  exact q
theorem zEN:jp X (.builtin "len") (fun xs H Q=>∃ p ys,xs=[.ref p]/\(SqL X.K H p ys\/SqT X.K H p ys)/\Q (.int ys.length) H):=by
 intro pins s σ H xs us Q I r h
 obtain⟨p,ys,rfl,hq,q⟩:=h
 obtain⟨u,rfl,rx⟩:=Zq r
 cases rx
 have hn:=JN
 rcases hq with hq | hq
 ·obtain⟨its,r',pl,hz⟩:=I.list hq
  have hlen:=r'.length
  exact Calls.call_len_list pl.isList (by simp only[List.size_toArray]<;>omega) ⟨.int ys.length,H,I.tok _,⟨s.toks+1,by rw[List.size_toArray,hlen]⟩,q⟩
 ·obtain⟨its,r',pl,hz⟩:=I.tuple hq
  have hlen:=r'.length
  exact len_tuple pl (by simp only[List.size_toArray]<;>omega) ⟨.int ys.length,H,I.tok _,⟨s.toks+1,by rw[List.size_toArray,hlen]⟩,q⟩
theorem zDy:jp X (.builtin "len") (fun xs H Q=>∃ z,xs=[.str z]/\z.length <= sizeLine/\Q (.int z.length) H):=by
 intro pins s σ H xs us Q I r h
 obtain⟨z,rfl,hz,q⟩:=h
 obtain⟨u,rfl,t,rfl⟩:=Zq r
 have hn:=JN
 exact len_str (by omega) ⟨.int z.length,H,I.tok _,⟨_,rfl⟩,q⟩
theorem jp.or {f:Value}{r r':List V->Hp->VK->Prop} (h:jp X f r) (h':jp X f r'):jp X f (fun xs H Q=>r xs H Q\/r' xs H Q):=by
 intro pins s σ H xs us Q I rs q
 rcases q with q | q
 ·exact h pins s σ H xs us Q I rs q
 ·exact h' pins s σ H xs us Q I rs q
theorem zEj:jp X (.type "list") (fun xs H Q=>∃ p ys,xs=[.ref p]/\(SqL X.K H p ys\/SqT X.K H p ys)/\∀ l,H l=none->Q (.ref l) (upd H l (.lst ys))):=by
 intro pins s σ H xs us Q I r h
 obtain⟨p,ys,rfl,hq,q⟩:=h
 obtain⟨u,rfl,rx⟩:=Zq r
 cases rx
 have fin:∀ (its:List Value),zY ys its->ys.length <= sizeLine->∀ (h':Heap) (c':Nat),(∀ b o',s.heap.get? b=some o'->h'.get? b=some o') ->
   h'.get? s.heap.objs.size=some { cls:=.type "list",dict:=none,data:=.seq its.toArray c',slots:=#[] }->EP X pins σ Q (.ref s.heap.objs.size) { s with heap:=h' }:=fun its r' hz h' c' kp e =>
  ⟨.ref s.heap.objs.size,_,I.laid (t':=s.toks) kp (Nat.le_refl _) (show jQ X.prog X.w _ h' _ (.lst ys) from ⟨hz,its,c',r',e⟩),rfl,q _ (I.hok.fresh (Nat.le_refl _))⟩
 rcases hq with hq | hq
 ·obtain⟨its,r',pl,hz⟩:=I.list hq
  have hlen:=r'.length
  obtain⟨o,ho,hc,n,hd⟩:=pl.isList
  exact call_list_seq p (.inl rfl) ho hc hd (fun h' c' kp e=>fin its r' hz h' c' kp e) (by simp only[List.size_toArray]<;>omega)
 ·obtain⟨its,r',pl,hz⟩:=I.tuple hq
  have hlen:=r'.length
  obtain⟨o,ho,hc,n,hd⟩:=pl
  exact call_list_seq p (.inr rfl) ho hc hd (fun h' c' kp e=>fin its r' hz h' c' kp e) (by simp only[List.size_toArray]<;>omega)
def tyV (K:PySem.W.Frag) (T:String) (x:V) (H:Hp):Prop:=match x with
 | .str _=>T = "str"
 | .int _=>T = "int"
 | .ref p=>(T = "list" /\ ∃ xs,SqL K H p xs)\/(T = "tuple" /\ ∃ o,K.lookup p=some o/\o.cls=.type "tuple" /\ o.dict=none) \/
   (T = "dict" /\ ((∃ kvs,H p=some (.dK kvs))\/∃ kvs,H p=some (.dT kvs)))\/(T = "set" /\ ∃ S n,H p=some (.set S n))
 | _=>False
theorem zEr {pins:List (Addr×Obj)}{σ:St}{H:Hp}{s:Shared}{T:String}{x:V}{v:Value} (I:Inv X pins σ H s) (r:ze x v) (ty:tyV X.K T x H) :
  s.TypeIs v T/\∀ a,v=.ref a->∃ ob,s.heap.get? a=some ob/\ob.dict=none:=by
 cases x with
 | str z =>
  obtain⟨t,rfl⟩:=r
  cases (show T = "str" from ty)
  exact⟨typeIs_str s z t,fun _ e=>nomatch e⟩
 | int i =>
  obtain⟨t,rfl⟩:=r
  cases (show T = "int" from ty)
  exact⟨typeIs_int s i t,fun _ e=>nomatch e⟩
 | ref p =>
  cases r
  rcases ty with ⟨rfl,xs,hq⟩ | ⟨rfl,o,hk,hc,hd⟩ | ⟨rfl,hk⟩ | ⟨rfl,S,n,hk⟩
  ·obtain⟨its,_,pl,_⟩:=I.list hq
   refine⟨pl.isList.typeIs,fun a e=>?_⟩
   cases e
   obtain⟨o,n,e,c,hd,_⟩:=pl
   exact⟨o,e,hd⟩
  ·refine⟨⟨o,I.kIn p o hk,hc⟩,fun a e=>?_⟩
   cases e
   exact⟨o,I.kIn _ o hk,hd⟩
  ·have z:∃ o,s.heap.get? p=some o/\o.ExactDict:=by
    rcases hk with ⟨kvs,hk⟩ | ⟨kvs,hk⟩
    ·obtain⟨_,_,_,_,o,_,_,e,ex,_⟩:=I.hok p _ hk
     exact⟨o,e,ex⟩
    ·obtain⟨_,_,_,_,o,_,_,e,ex,_⟩:=I.hok p _ hk
     exact⟨o,e,ex⟩
   obtain⟨o,e,ex⟩:=z
   refine⟨⟨o,e,ex.1⟩,fun a e2=>?_⟩
   cases e2
   exact⟨o,e,ex.2.1⟩
  ·obtain⟨o,_,_,_,e,ex,_⟩:=I.hok p _ hk
   refine⟨⟨o,e,ex.1⟩,fun a e2=>?_⟩
   cases e2
   exact⟨o,e,ex.2.1⟩
 | _=>exact False.elim ty
def zNh (K:PySem.W.Frag) (T:String) (r:V->List V->Hp->VK->Prop) (to:TE):TE:=fun σ H Q=>to σ H fun x H1=>tyV K T x H1/\r x [] H1 Q
def tBM (K:PySem.W.Frag) (T:String) (r:V->List V->Hp->VK->Prop) (to:TE) (t:TA):TE:=fun σ H Q=>to σ H fun x H1=>tyV K T x H1/\t σ H1 fun xs H2=>r x xs H2 Q
variable {o e:Expr}{es:List Expr}{to:TE}{t:TA}{name:Str}{apos cpos:Pos}{T id:String}{r:V->List V->Hp->VK->Prop}
theorem zLW (pa:PlainAttrs T) (slot:Slot T name id) (hty:typeOf (.builtin id)=pure (.type "method_descriptor")) (hm:MtR X id r) (ho:PE X o to)
  (hbase:attributeBase o name X.env (eval o X.env)=eval o X.env:=by rfl) (hline:(apos.endLine == cpos.line)=true:=by rfl):PE X (.Call (.Attribute o name apos) [] [] cpos) (zNh X.K T r to):=by
 intro pins s σ H Q I h
 refine wpAny_Call_method0_late hbase hline (thn (ho pins s σ H _ I h) fun v s1 ⟨x,H1,I1,r1,ty,q1⟩=>?_)
 obtain⟨h1,h2⟩:=zEr I1 r1 ty
 exact⟨T,id,pa,slot,hty,h1,h2,Calls.callWith_builtin rfl (PySem.evalArgs_none (hm pins s1 σ H1 x [] v [] Q I1 r1 .nil q1))⟩
theorem zJu (pa:PlainAttrs T) (slot:Slot T name id) (hty:typeOf (.builtin id)=pure (.type "method_descriptor")) (hm:MtR X id r) (ho:PE X o to) (ha:PA X (e::es) t)
  (hbase:attributeBase o name X.env (eval o X.env)=eval o X.env:=by rfl)
  (hfew:((backTo cpos (starEach (e::es) X.env)).all (fun x=>!x.1) && (backToKw cpos (keywordEach [] X.env)).all (fun x=>x.1.isSome)
   && decide ((e::es).length+([]:List Keyword).length+(if ([]:List Keyword).isEmpty then 0 else 1) < 30))=true:=by rfl)
  (hline:(apos.endLine == cpos.line)=true:=by rfl) (hs:starEach (e::es) X.env=(false,eval e X.env)::starEach es X.env:=by rfl) (hplain:(backTo cpos (starEach es X.env)).any (·.1)=false:=by rfl) :
  PE X (.Call (.Attribute o name apos) (e::es) [] cpos) (tBM X.K T r to t):=by
 intro pins s σ H Q I h
 refine wpAny_Call_method_late hbase hfew hline rfl (thn (ho pins s σ H _ I h) fun v s1 ⟨x,H1,I1,r1,ty,q1⟩=>?_)
 obtain⟨h1,h2⟩:=zEr I1 r1 ty
 refine⟨T,id,pa,slot,hty,h1,h2,?_⟩
 have hA:=ha cpos pins s1 σ H1 _ I1 q1
 rw[hs] at hA ⊢
 refine Calls.callWith_builtin (by show (false || (backTo cpos (starEach es X.env)).any (·.1))=false;rw[hplain]<;>rfl) (Calls.evalArgs_plain ?_)
 exact thn hA fun us s2 ⟨vs,H2,I2,r2,q2⟩=>hm pins s2 σ H2 x vs v us Q I2 r1 r2 q2
end
end L2
namespace L2
open PySem PySem.Spec PyProof.Rows
def MtM (X:Cx) (id:String) (r:V->List V->Hp->VK->Prop):Prop :=
 ∀ (pins:List (Addr×Obj)) (s:Shared) (σ:St) (H:Hp) (x:V) (xs:List V) (v:Value) (us:List Value) (Q:VK),Inv X pins σ H s->ze x v->zY xs us->r x xs H Q ->
  wpAny (model X.prog X.w) X.A (call (.builtin id) (v::us)) (EP X pins σ Q) X.xe s
theorem zY.one:∀ {x:V}{us:List Value},zY [x] us->∃ u,us=[u]/\ze x u
 | _,_,.cons r .nil=>⟨_,rfl,r⟩
theorem zY.zero:∀ {us:List Value},zY [] us->us=[]
 | _,.nil=>rfl
theorem zY.dropLast {xs:List V}{us:List Value} (h:zY xs us):zY xs.dropLast us.dropLast:=by
 induction h with
 | nil=>exact .nil
 | cons r t ih =>
  cases t with
  | nil=>exact .nil
  | cons q t'=>exact .cons r ih
theorem zY.rep {xs:List V}{us:List Value} (h:zY xs us):∀ k:Nat,zY (List.replicate k xs).flatten (List.replicate k us).flatten
 | 0=>.nil
 | k+1=>by
  rw[List.replicate_succ,List.replicate_succ,List.flatten_cons,List.flatten_cons]
  exact zY.append h (zY.rep h k)
theorem zGW {α:Type} (l:List α):l.eraseIdx (l.length - 1)=l.dropLast:=by
 induction l with
 | nil=>rfl
 | cons a r ih =>
  cases r with
  | nil=>rfl
  | cons b r =>
   have e:(a::b::r).length - 1=((b::r).length - 1)+1:=by
    have h1:(a::b::r).length=r.length+2:=rfl
    have h2:(b::r).length=r.length+1:=rfl
    omega
   rw[e,List.eraseIdx_cons_succ,ih]
   all_goals rfl
theorem zDC (its:List Value):∀ (k:Nat) (acc:List Value),
  List.foldl (fun x1 x2=>x1++x2) acc.toArray (List.replicate k its.toArray)=(acc++(List.replicate k its).flatten).toArray
 | 0,acc=>by simp
 | k+1,acc=>by
  have e:acc.toArray++its.toArray=(acc++its).toArray:=by simp
  have e2:(acc++its)++(List.replicate k its).flatten=acc++(List.replicate (k+1) its).flatten:=by
   rw[List.replicate_succ,List.flatten_cons,List.append_assoc]
  rw[<- e2,<- zDC its k (acc++its),<- e,List.replicate_succ,List.foldl_cons]
section
variable {X:Cx}{pins:List (Addr×Obj)}{σ:St}{H:Hp}{s:Shared}{l b:Addr}{xs ys zs:List V}
theorem Inv.lset {its its':List Value}{n:Nat}{f:Array Value->Array Value}{t':Nat} (I:Inv X pins σ H s) (hH:H l=some (.lst xs))
  (e:s.heap.get? l=some { cls:=.type "list",data:=.seq its.toArray n }) (hf:f its.toArray=its'.toArray) (hv:zY ys its') (hz:ys.length <= sizeLine) (ht:0 < t':=by first | exact Nat.succ_pos _ | assumption | exact Inv.tk (by assumption) | omega) :
  Inv X pins σ (upd H l (.lst ys)) { s with heap:=s.heap.update l (Obj.mapSeq f),toks:=t' }:=by
 have q:=PySem.IsL.update e f
 rw[hf] at q
 refine I.write (x:=l) (e:=l) (by rw[hH];exact trivial) (.inl rfl) (fun b' u hb hu=>(Heap.get?_update_other s.heap (Obj.mapSeq f) (Ne.symm hb)).trans hu) ⟨_,q⟩ ?_
 exact⟨hz,its',_,hv,q⟩
theorem Inv.lnew {its:List Value}{t':Nat} (I:Inv X pins σ H s) (hv:zY ys its) (hz:ys.length <= sizeLine) (ht:0 < t':=by first | exact Nat.succ_pos _ | assumption | exact Inv.tk (by assumption) | omega) :
  Inv X pins σ (upd H s.heap.objs.size (.lst ys)) { s with heap:=s.heap.push { cls:=.type "list",data:=.seq its.toArray },toks:=t' } :=
 I.laid (fun _ _ q=>Heap.get?_push_of_some _ q) (Nat.le_refl _) ⟨hz,its,0,hv,Heap.get?_push_size _ rfl⟩
theorem Inv.fresh (I:Inv X pins σ H s):H s.heap.objs.size=none:=I.hok.fresh (Nat.le_refl _)
theorem Inv.lstM (I:Inv X pins σ H s) (hH:H l=some (.lst xs)):xs.length <= sizeLine/\∃ (its:List Value) (n:Nat),zY xs its/\xs.length=its.length/\s.heap.get? l=some { cls:=.type "list",data:=.seq its.toArray n }:=by
 obtain⟨z,its,n,r,e⟩:=I.hok l _ hH
 exact⟨z,its,n,r,r.length,e⟩
theorem zJe {n:Nat} (h:n <= sizeLine):Builtin.List.listTooLong n=false:=by
 unfold Builtin.List.listTooLong
 exact decide_eq_false (by omega)
end
section
variable {X:Cx}
def zF5:V->List V->Hp->VK->Prop:=fun x vs H Q=>∃ l xs y,x=.ref l/\vs=[y]/\H l=some (.lst xs)/\xs.length < sizeLine/\Q .non (upd H l (.lst (xs++[y])))
theorem JW:MtM X "list.append" zF5:=by
 intro pins s σ H x vs v us Q I rx rv h
 obtain⟨l,xs,y,rfl,rfl,hH,hz,q⟩:=h
 cases rx
 obtain⟨u,rfl,ru⟩:=rv.one
 obtain⟨z,its,n,r,hl,e⟩:=I.lstM hH
 refine call_meets F.slot_list_append ⟨_,e,rfl⟩ F.entry_list_append (F.args_list_append_2 _ _) (PySem.list_append l its.toArray n u (by rw[List.size_toArray];omega)) ⟨e,?_⟩
 refine⟨.non,_,I.lset (its':=its++[u]) hH e (by simp) (r.append (.cons ru .nil)) ?_,rfl,q⟩
 rw[List.length_append,List.length_singleton]
 omega
def zMg:V->List V->Hp->VK->Prop:=fun x vs H Q=>∃ l xs y,x=.ref l/\vs=[]/\H l=some (.lst xs)/\xs[xs.length - 1]? = some y/\Q y (upd H l (.lst xs.dropLast))
theorem zLi:MtM X "list.pop" zMg:=by
 intro pins s σ H x vs v us Q I rx rv h
 obtain⟨l,xs,y,rfl,rfl,hH,hy,q⟩:=h
 cases rx
 have hus:=rv.zero
 subst hus
 obtain⟨z,its,n,r,hl,e⟩:=I.lstM hH
 obtain⟨u,hu,ru⟩:=r.get hy
 have hy':its.toArray[its.toArray.size - 1]? = some u:=by
  show its.toArray[its.length - 1]? = some u
  rw[<- Array.getElem?_toList,<- hl]
  exact hu
 refine call_meets F.slot_list_pop ⟨_,e,rfl⟩ F.entry_list_pop (F.args_list_pop_1 _) (MeetsSeq.list_pop_last l its.toArray n u hy' (by rw[List.size_toArray];omega)) ⟨e,?_⟩
 refine⟨y,_,I.lset (its':=its.dropLast) hH e ?_ r.dropLast ?_,ru,q⟩
 ·show its.toArray.eraseIdxIfInBounds (its.toArray.size - 1)=its.dropLast.toArray
  rw[List.size_toArray,List.eraseIdxIfInBounds_toArray,zGW]
 ·rw[List.length_dropLast]
  omega
def zOA:R2:=fun x y H Q=>∃ l b xs zs,x=.ref l/\y=.ref b/\H l=some (.lst xs)/\H b=some (.lst zs)/\xs.length+zs.length <= sizeLine/\∀ p,H p=none->Q (.ref p) (upd H p (.lst (xs++zs)))
theorem zLC:OpR X (binaryOp .Add) zOA:=by
 intro pins s σ H x y v u Q I rx ry h
 obtain⟨l,b,xs,zs,rfl,rfl,hH,hB,hz,q⟩:=h
 cases rx
 cases ry
 obtain⟨z,its,n,r,hl,e⟩:=I.lstM hH
 obtain⟨z2,its2,n2,r2,hl2,e2⟩:=I.lstM hB
 refine PySem.P.add_list e e2 ?_ (by rw[List.size_toArray,List.size_toArray];omega)
 have ea:its.toArray++its2.toArray=(its++its2).toArray:=by simp
 rw[ea]
 exact⟨.ref _,_,I.lnew (t':=s.toks) (r.append r2) (by rw[List.length_append];omega),rfl,q _ I.fresh⟩
def zMB:R2:=fun x y H Q=>∃ l k xs,x=.ref l/\y=.int k/\H l=some (.lst xs) /\ -(2 ^ 63) <= k/\k < 2 ^ 63/\xs.length * k.toNat <= sizeLine /\
 ∀ p,H p=none->Q (.ref p) (upd H p (.lst (List.replicate k.toNat xs).flatten))
theorem zKv {α:Type} (xs:List α) (k:Nat):(List.replicate k xs).flatten.length=k * xs.length:=by
 induction k with
 | zero=>simp
 | succ k ih=>rw[List.replicate_succ,List.flatten_cons,List.length_append,ih,Nat.succ_mul,Nat.add_comm]
theorem zMR:OpR X (binaryOp .Mult) zMB:=by
 intro pins s σ H x y v u Q I rx ry h
 obtain⟨l,k,xs,rfl,rfl,hH,h1,h2,hz,q⟩:=h
 cases rx
 obtain⟨t,rfl⟩:=ry
 obtain⟨z,its,n,r,hl,e⟩:=I.lstM hH
 have hlen:its.toArray.size * k.toNat <= sizeLine:=by rw[List.size_toArray,<- hl];exact hz
 have hcap:¬ its.toArray.size * k.toNat > (2 ^ 63 - 1) / 8:=by
  have:(sizeLine:Nat) <= (2 ^ 63 - 1) / 8:=by decide
  omega
 have hfit:¬ (!Builtin.List.listFitsIndex k)=true:=by
  rw[fitsIndex_both h1 h2]
  exact Bool.false_ne_true
 have hlong:¬ Builtin.List.listTooLong (its.toArray.size * k.toNat)=true:=by
  rw[zJe hlen]
  exact Bool.false_ne_true
 have hnew:List.foldl (fun x1 x2=>x1++x2) #[] (List.replicate (if its.toArray.isEmpty=true then 0 else k.toNat) its.toArray)=(List.replicate k.toNat its).flatten.toArray:=by
  have f0:∀ m:Nat,List.foldl (fun x1 x2=>x1++x2) #[] (List.replicate m its.toArray)=(List.replicate m its).flatten.toArray:=fun m=>by
   have:=zDC its m []
   rw[List.nil_append] at this
   exact this
  rw[f0]
  cases its with
  | nil=>simp
  | cons a r'=>rw[if_neg (by simp)]
 refine wpAny_binaryOp_repeat_ref (T := "list") (U := "int") (by decide) ⟨_,e,rfl⟩ (fun s'=>typeIs_int s' k t) noFill_list_mul F.fills_int_mul F.slot_int_rmul repeat_list F.slot_int_index.lookup
  (call_meets F.slot_int_rmul (typeIs_int s k t) F.entry_int_rmul (F.args_int_rmul_2 _ _) (int___rmul___int_list k t l its.toArray n)
   ⟨e,rfl,⟨_,e,rfl⟩,call_meets F.slot_list_mul ⟨_,e,rfl⟩ F.entry_list_mul (F.args_list_mul_2 _ _) (AutoListH.list___mul___list_int_3 l its.toArray n k t hfit hcap hlong) ⟨e,?_⟩⟩)
 rw[hnew]
 exact⟨.ref _,_,I.lnew (t':=s.toks) (r.rep k.toNat) (by rw[zKv,Nat.mul_comm];exact hz),rfl,q _ I.fresh⟩
end
section
variable {prog:Program}{w:World}{A:Around}{E:Value->Shared->Prop}{s:Shared}
set_option maxRecDepth 100000 in
end
end L2
namespace L2
open PySem PySem.Spec PyProof.Rows
section
variable {κ:Type} [DecidableEq κ]
def yB (kvs:List (κ×V)) (k:κ):Option V:=(kvs.find? fun kv=>decide (kv.1=k)).map (·.2)
def Zy (kvs:List (κ×V)) (k:κ) (v:V):List (κ×V) :=
 if (kvs.any fun kv=>decide (kv.1=k))=true then kvs.map (fun kv=>if kv.1=k then (kv.1,v) else kv) else kvs++[(k,v)]
theorem zAP {p:κ×V}{r:List (κ×V)}{k:κ} (e:p.1=k):yB (p::r) k=some p.2:=by simp[yB,List.find?_cons,e]
theorem zAd {p:κ×V}{r:List (κ×V)}{k:κ} (e:¬ p.1=k):yB (p::r) k=yB r k:=by simp[yB,List.find?_cons,e]
theorem zFH (k:κ):∀ kvs:List (κ×V),(kvs.any fun kv=>decide (kv.1=k))=(yB kvs k).isSome
 | []=>rfl
 | p::r=>by
  rw[List.any_cons]
  by_cases e:p.1=k
  ·simp only[zAP e,decide_eq_true e,Bool.true_or,Option.isSome_some]
  ·rw[zAd e,decide_eq_false e,Bool.false_or];exact zFH k r
theorem zBT (kvs:List (κ×V)) (k:κ) (v:V):(Zy kvs k v).length <= kvs.length+1:=by
 unfold Zy
 split
 ·rw[List.length_map];omega
 ·rw[List.length_append,List.length_cons,List.length_nil];omega
theorem Qh.isSome_eq {o:Option V}{u:Option Value} (r:Qh o u):o.isSome=u.isSome:=by
 cases o with
 | none=>cases u with
  | none=>rfl
  | some _=>exact (show False from r).elim
 | some _=>cases u with
  | none=>exact (show False from r).elim
  | some _=>rfl
theorem Qh.getD {o:Option V}{u:Option Value}{d:V}{d':Value} (r:Qh o u) (rd:ze d d'):ze (o.getD d) (u.getD d'):=by
 cases o with
 | none=>cases u with
  | none=>exact rd
  | some _=>exact (show False from r).elim
 | some _=>cases u with
  | none=>exact (show False from r).elim
  | some _=>exact r
theorem KV.val {kvs:List (κ×V)}{vs:List (κ×Value)} (r:KV kvs vs) (k:κ):Qh (yB kvs k) (valueAt vs k):=by
 unfold KV at r
 induction r with
 | nil=>exact True.intro
 | @cons p q ps qs h t ih =>
  obtain⟨h1,h2⟩:=h
  by_cases e:p.1=k
  ·have e':q.1=k:=h1.symm.trans e
   have b:valueAt (q::qs) k=some q.2:=by simp[valueAt,List.find?_cons,e']
   rw[zAP e,b];exact h2
  ·have e':¬ q.1=k:=fun z=>e (h1.trans z)
   have b:valueAt (q::qs) k=valueAt qs k:=by simp[valueAt,List.find?_cons,e']
   rw[zAd e,b];exact ih
theorem KV.any {kvs:List (κ×V)}{vs:List (κ×Value)} (r:KV kvs vs) (k:κ):(kvs.any fun kv=>decide (kv.1=k))=vs.any fun kv=>decide (kv.1=k):=by
 unfold KV at r
 induction r with
 | nil=>rfl
 | cons h t ih=>rw[List.any_cons,List.any_cons,ih,h.1]
theorem KV.repl {kvs:List (κ×V)}{vs:List (κ×Value)} (r:KV kvs vs) (k:κ) {y:V}{u:Value} (ry:ze y u) :
  KV (kvs.map fun kv=>if kv.1=k then (kv.1,y) else kv) (vs.map fun kv=>if kv.1=k then (kv.1,u) else kv):=by
 unfold KV at r ⊢
 induction r with
 | nil=>exact .nil
 | @cons p q ps qs h t ih =>
  rw[List.map_cons,List.map_cons]
  refine .cons ?_ ih
  obtain⟨h1,h2⟩:=h
  by_cases e:p.1=k
  ·rw[if_pos e,if_pos (h1.symm.trans e)];exact⟨h1,ry⟩
  ·rw[if_neg e,if_neg (fun z=>e (h1.trans z))];exact⟨h1,h2⟩
theorem KV.put {kvs:List (κ×V)}{vs:List (κ×Value)} (r:KV kvs vs) (k:κ) {y:V}{u:Value} (ry:ze y u):KV (Zy kvs k y) (stored vs k u):=by
 unfold Zy stored
 rw[r.any k]
 by_cases e:(vs.any fun kv=>decide (kv.1=k))=true
 ·rw[if_pos e,if_pos e];exact r.repl k ry
 ·rw[if_neg e,if_neg e];exact Paired.snoc r ⟨rfl,ry⟩
theorem KV.keys {kvs:List (κ×V)}{vs:List (κ×Value)} (r:KV kvs vs):kvs.map (·.1)=vs.map (·.1):=by
 unfold KV at r
 induction r with
 | nil=>rfl
 | cons h t ih=>rw[List.map_cons,List.map_cons,ih,h.1]
theorem KV.length {kvs:List (κ×V)}{vs:List (κ×Value)} (r:KV kvs vs):kvs.length=vs.length:=Paired.length r
end
theorem zAY {P:Program}{w:World}{k:Key}{u:Value} (r:ze (kV k) u):(jB P w).is k u=true:=by
 cases k with
 | inl i=>obtain⟨t,e⟩:=(show ∃ t,u=Value.int i t from r);subst e;exact zFe P w i t
 | inr x=>obtain⟨t,e⟩:=(show ∃ t,u=Value.str x t from r);subst e;exact zFX P w x t
theorem zC9 {P:Program}{w:World}:∀ {ks:List Key}{us:List Value},zY (ks.map kV) us->ItemsAre (jB P w) ks us
 | [],_,r=>by rw[List.map_nil] at r;cases r;exact .nil
 | k::ks,_,r=>by
  rw[List.map_cons] at r
  cases r with
  | cons h t=>exact .cons (zAY h) (zC9 t)
abbrev KT (H:Hp):List (List Key×V)->List (List Key×Addr×Value)->Prop:=Paired fun p q=>p.1=q.1/\H q.2.1=some (.tup (p.1.map kV))/\ze p.2 q.2.2
theorem KT.val {H:Hp}{kvs:List (List Key×V)}{xs:List (List Key×Addr×Value)} (r:KT H kvs xs) (k:List Key):Qh (yB kvs k) ((atKey xs k).map (·.2)):=by
 induction r with
 | nil=>exact True.intro
 | @cons p q ps qs h t ih =>
  obtain⟨h1,_,h2⟩:=h
  by_cases e:p.1=k
  ·have e':q.1=k:=h1.symm.trans e
   have b:atKey (q::qs) k=some q.2:=by simp[atKey,List.find?_cons,e']
   rw[zAP e,b];exact h2
  ·have e':¬ q.1=k:=fun z=>e (h1.trans z)
   have b:atKey (q::qs) k=atKey qs k:=by simp[atKey,List.find?_cons,e']
   rw[zAd e,b];exact ih
theorem KT.repl {H:Hp}{kvs:List (List Key×V)}{xs:List (List Key×Addr×Value)} (r:KT H kvs xs) (k:List Key) {y:V}{u:Value} (ry:ze y u) :
  KT H (kvs.map fun kv=>if kv.1=k then (kv.1,y) else kv) (xs.map (putAt k u)):=by
 induction r with
 | nil=>exact .nil
 | @cons p q ps qs h t ih =>
  rw[List.map_cons,List.map_cons]
  refine .cons ?_ ih
  obtain⟨h1,h2,h3⟩:=h
  unfold putAt
  by_cases e:p.1=k
  ·rw[if_pos e,if_pos (h1.symm.trans e)];exact⟨h1,h2,ry⟩
  ·rw[if_neg e,if_neg (fun z=>e (h1.trans z))];exact⟨h1,h2,h3⟩
theorem KT.put {H:Hp}{kvs:List (List Key×V)}{xs:List (List Key×Addr×Value)} (r:KT H kvs xs) (k:List Key) {b:Addr}{y:V}{u:Value} (hb:H b=some (.tup (k.map kV))) (ry:ze y u) :
  KT H (Zy kvs k y) (storedH xs k b u):=by
 have e:(kvs.any fun kv=>decide (kv.1=k))=(atKey xs k).isSome:=by
  rw[zFH,(r.val k).isSome_eq,Option.isSome_map]
 unfold Zy storedH
 rw[e]
 by_cases q:(atKey xs k).isSome=true
 ·rw[if_pos q,if_pos q];exact r.repl k ry
 ·rw[if_neg q,if_neg q];exact Paired.snoc r ⟨rfl,hb,ry⟩
theorem KT.keeps {H H':Hp}{kvs:List (List Key×V)}{xs:List (List Key×Addr×Value)} (r:KT H kvs xs) (ht:∀ b ys,H b=some (.tup ys)->H' b=some (.tup ys)):KT H' kvs xs :=
 Paired.mapP r fun _ _ z=>⟨z.1,ht _ _ z.2.1,z.2.2⟩
section
variable {P:Program}{w:World}{H:Hp}{h:Heap}{a:Addr}
theorem zJv {u:HO} (ok:HOk P w H h) (e:Rd H a u):jQ P w H h a u:=e.ok ok
theorem JY {kvs:List (Key×V)} (ok:HOk P w H h) (e:Rd H a (.dK kvs)):kvs.length <= sizeLine/\(a == sysModules)=false/\∃ vs,KV kvs vs/\h.DictOf (jB P w) a vs :=
 show jQ P w H h a (.dK kvs) from zJv ok e
theorem zAi {kvs:List (Key×V)} (ok:HOk P w H h) (e:H a=some (.dK kvs)):kvs.length <= sizeLine/\(a == sysModules)=false/\∃ vs,KV kvs vs/\h.DictOf (jB P w) a vs:=JY ok (.inl e)
theorem JD {ks:List Key} (ok:HOk P w H h) (e:H a=some (.tup (ks.map kV))):(tupleKind (jB P w)).is h ks a:=by
 obtain⟨_,its,r,o,h1,h2,n,h3⟩:=(show jQ P w H h a (.tup (ks.map kV)) from ok a _ e)
 exact⟨o,its.toArray,n,h1,h2,h3,by simpa using zC9 r⟩
theorem zAR {kvs:List (List Key×V)} (ok:HOk P w H h) (e:Rd H a (.dT kvs)):kvs.length <= sizeLine/\(a == sysModules)=false /\
  ∃ xs,KT H kvs xs/\h.DictOfH (tupleKind (jB P w)) a xs:=by
 obtain⟨z,y,xs,r,o,es,ep,h1,h2,h3,h4,h5⟩:=(show jQ P w H h a (.dT kvs) from zJv ok e)
 refine⟨z,y,xs,r,o,es,ep,h1,h2,h3,h4,fun x hx=>?_,h5⟩
 have all:∀ {l:List (List Key×V)}{m:List (List Key×Addr×Value)},KT H l m->∀ x∈m,(tupleKind (jB P w)).is h x.1 x.2.1:=by
  intro l m q
  induction q with
  | nil=>intro x hx;exact nomatch hx
  | @cons p q ps qs hq t ih =>
   intro x hx
   rcases List.mem_cons.mp hx with e | hx
   ·subst e
    exact JD ok (by rw[<- hq.1];exact hq.2.1)
   ·exact ih x hx
 exact all r x hx
theorem zNL {kvs:List (List Key×V)} (ok:HOk P w H h) (e:H a=some (.dT kvs)):kvs.length <= sizeLine/\(a == sysModules)=false /\
  ∃ xs,KT H kvs xs/\h.DictOfH (tupleKind (jB P w)) a xs:=zAR ok (.inl e)
end
def Zu (H:Hp) (a:Addr) (y:V) (r:Option V):Prop :=
 (∃ kvs k,Rd H a (.dK kvs)/\y=kV k/\r=yB kvs k)\/∃ kvs k b,Rd H a (.dT kvs)/\y=.ref b/\H b=some (.tup (k.map kV))/\r=yB kvs k
def zE9 (H:Hp) (a:Addr) (y v:V) (H':Hp):Prop :=
 (∃ kvs k,H a=some (.dK kvs)/\y=kV k/\kvs.length < sizeLine/\H'=upd H a (.dK (Zy kvs k v))) \/
 ∃ kvs k b,H a=some (.dT kvs)/\y=.ref b/\H b=some (.tup (k.map kV))/\kvs.length < sizeLine/\H'=upd H a (.dT (Zy kvs k v))
theorem Zu.k {H:Hp}{a:Addr}{kvs:List (Key×V)}{k:Key} (e:H a=some (.dK kvs)):Zu H a (kV k) (yB kvs k):=.inl ⟨kvs,k,.inl e,rfl,rfl⟩
theorem zE9.k {H:Hp}{a:Addr}{kvs:List (Key×V)}{k:Key}{v:V} (e:H a=some (.dK kvs)) (hl:kvs.length < sizeLine):zE9 H a (kV k) v (upd H a (.dK (Zy kvs k v))):=.inl ⟨kvs,k,e,rfl,hl,rfl⟩
section
variable {X:Cx}{pins:List (Addr×Obj)}{σ:St}{H:Hp}{s:Shared}{a:Addr}{y v:V}{u r:Value}{o:Option V}{A:Around}{E:Value->Shared->Prop}
theorem Inv.big (I:Inv X pins σ H s):sysModules < s.heap.objs.size:=by
 have h:mainGlobals < s.heap.objs.size:=(I.mod.glob.keeps I.bk).lt
 exact Nat.lt_trans (by decide) h
theorem zHY {Q:Value->Shared->Prop} (hu:A.units+1 < cLine) (I:Inv X pins σ H s) (g:Zu H a y (some v)) (ry:ze y u) (h:∀ w' s',Inv X pins σ H s'->ze v w'->Q w' s') :
  wpAny (model X.prog X.w) A (getItem (.ref a) u) Q E s:=by
 rcases g with ⟨kvs,k,e,ey,l⟩ | ⟨kvs,k,b,e,ey,eb,l⟩
 ·subst ey
  obtain⟨z,hd,vs,rel,dd⟩:=JY I.hok e
  obtain⟨w',hw,rw'⟩:=Qh.some_of (v:=v) (o:=valueAt vs k) (by rw[l];exact rel.val k)
  exact wpAny_getItem_of (zAY ry) dd.mapOf hw (h w' _ (I.tok _) rw')
 ·subst ey
  cases (show u=Value.ref b from ry)
  obtain⟨z,hd,xs,rel,dd⟩:=zAR I.hok e
  obtain⟨w',hw,rw'⟩:=Qh.some_of (v:=v) (o:=(atKey xs k).map (·.2)) (by rw[l];exact rel.val k)
  obtain⟨p,hp,hp2⟩:=Option.map_eq_some_iff.mp hw
  refine wpAny_getItem_heap (tupleKind_room_in1 hu) (JD I.hok eb) dd hp ?_
  rw[hp2]
  exact h w' _ (I.tok _) rw'
theorem zN1 {Q:Value->Shared->Prop} (hu:A.units+1 < cLine) (I:Inv X pins σ H s) (g:Zu H a y o) (ry:ze y u) (h:∀ s',Inv X pins σ H s'->Q (.bool o.isSome) s') :
  wpAny (model X.prog X.w) A (compareOp .In u (.ref a)) Q E s:=by
 rcases g with ⟨kvs,k,e,ey,l⟩ | ⟨kvs,k,b,e,ey,eb,l⟩
 ·subst ey
  obtain⟨z,hd,vs,rel,dd⟩:=JY I.hok e
  refine wpAny_in_of (zAY ry) hd dd.mapOf ?_
  rw[<- (rel.val k).isSome_eq,<- l]
  exact h _ (I.tok _)
 ·subst ey
  cases (show u=Value.ref b from ry)
  obtain⟨z,hd,xs,rel,dd⟩:=zAR I.hok e
  refine wpAny_in_heap (tupleKind_room_in1 hu) (JD I.hok eb) hd dd ?_
  have q:=(rel.val k).isSome_eq
  rw[Option.isSome_map] at q
  rw[<- q,<- l]
  exact h _ (I.tok _)
theorem zKu {Q:Value->Shared->Prop} (hu:A.units+1 < cLine) (I:Inv X pins σ H s) (g:Zu H a y o) (ry:ze y u) (h:∀ s',Inv X pins σ H s'->Q (.bool (!o.isSome)) s') :
  wpAny (model X.prog X.w) A (compareOp .NotIn u (.ref a)) Q E s:=by
 rcases g with ⟨kvs,k,e,ey,l⟩ | ⟨kvs,k,b,e,ey,eb,l⟩
 ·subst ey
  obtain⟨z,hd,vs,rel,dd⟩:=JY I.hok e
  refine wpAny_notIn_of (zAY ry) hd dd.mapOf ?_
  rw[<- (rel.val k).isSome_eq,<- l]
  exact h _ (I.tok _)
 ·subst ey
  cases (show u=Value.ref b from ry)
  obtain⟨z,hd,xs,rel,dd⟩:=zAR I.hok e
  refine wpAny_notIn_heap (tupleKind_room_in1 hu) (JD I.hok eb) hd dd ?_
  have q:=(rel.val k).isSome_eq
  rw[Option.isSome_map] at q
  rw[<- q,<- l]
  exact h _ (I.tok _)
theorem zGE {h':Heap}{t':Nat}{ob:HO} (I:Inv X pins σ H s) (mu:Mut (H a)) (hs:Heap.SameBut a s.heap h') (he:∃ q,h'.get? a=some q) (new:jQ X.prog X.w (upd H a ob) h' a ob) (ht:0 < t':=by first | exact Nat.succ_pos _ | assumption | exact Inv.tk (by assumption) | omega) :
  Inv X pins σ (upd H a ob) { s with heap:=h',toks:=t' } :=
 I.write (x:=a) (e:=a) mu (.inl rfl) (fun b q hb z=>(hs.2 b hb).trans z) he new
theorem zMq {P:Program}{w:World}{H':Hp}{h':Heap}{kvs:List (Key×V)}{vs:List (Key×Value)} (z:kvs.length <= sizeLine) (hd:(a == sysModules)=false) (rel:KV kvs vs) (dd:h'.DictOf (jB P w) a vs) :
  jQ P w H' h' a (.dK kvs):=⟨z,hd,vs,rel,dd⟩
theorem zHg {H':Hp}{Q:Unit->Shared->Prop} (hu:A.units+1 < cLine) (I:Inv X pins σ H s) (g:zE9 H a y v H') (ry:ze y u) (rv:ze v r) (h:∀ s',Inv X pins σ H' s'->Q () s') :
  wpAny (model X.prog X.w) A (setItem (.ref a) u r) Q E s:=by
 rcases g with ⟨kvs,k,e,ey,l,eH⟩ | ⟨kvs,k,b,e,ey,eb,l,eH⟩
 ·subst ey eH
  obtain⟨z,hd,vs,rel,dd⟩:=zAi I.hok e
  have hz:vs.length <= sizeLine:=by rw[<- rel.length];exact z
  have hl:(Zy kvs k v).length <= sizeLine:=by have:=zBT kvs k v;omega
  refine wpAny_setItem_pairs (hsz:=hz) (zAY ry) dd fun h' dd' hs=>h _ ?_
  have he:∃ q,h'.get? a=some q:=let ⟨q,_,_,hq,_⟩:=dd';⟨q,hq⟩
  exact zGE I (by rw[e];exact True.intro) hs he (zMq hl hd (rel.put k rv) dd')
 ·subst ey eH
  cases (show u=Value.ref b from ry)
  obtain⟨z,hd,xs,rel,dd⟩:=zNL I.hok e
  have hz:xs.length <= sizeLine:=by rw[<- Paired.length rel];exact z
  have hl:(Zy kvs k v).length <= sizeLine:=by have:=zBT kvs k v;omega
  refine wpAny_setItem_heap (hsz:=hz) (tupleKind_room_in1 hu) (JD I.hok eb) dd fun h' dd' hs=>h _ ?_
  obtain⟨q,es,ep,hq,h2,h3,h4,_,h5⟩:=dd'
  refine zGE I (by rw[e];exact True.intro) hs ⟨q,hq⟩ ⟨hl,hd,_,(rel.put k eb rv).keeps fun c ys ec=>?_,q,es,ep,hq,h2,h3,h4,h5⟩
  rw[zZ (zNU ec e (fun z=>nomatch z))]
  exact ec
end
section
variable {X:Cx}{pins:List (Addr×Obj)}{σ:St}{H:Hp}{s:Shared}{a:Addr}{kvs:List (Key×V)}{k:Key}{u:Value}{A:Around}{E:Value->Shared->Prop}
theorem zNd {Q:Value->Shared->Prop} (I:Inv X pins σ H s) (e:Rd H a (.dK kvs)) (h:∀ t s',Inv X pins σ H s'->Q (.int kvs.length t) s'):wpAny (model X.prog X.w) A (call (.builtin "len") [.ref a]) Q E s:=by
 obtain⟨z,hd,vs,rel,dd⟩:=JY I.hok e
 refine call_len_dict hd dd (by rw[<- rel.length];rw[sizeLine_eq] at z;omega) ?_
 rw[<- rel.length]
 exact h _ _ (I.tok _)
end
theorem zFJ {X:Cx}{pins:List (Addr×Obj)}{σ:St}{H:Hp}{s:Shared}{a:Addr}{y:V}{o:Option V} (I:Inv X pins σ H s) (g:Zu H a y o):s.TypeIs (.ref a) "dict" := by
 rcases g with ⟨kvs,k,e,_,_⟩ | ⟨kvs,k,b,e,_,_,_⟩
 ·obtain⟨_,_,vs,_,dd⟩:=JY I.hok e
  exact dd.typeIs
 ·obtain⟨_,_,xs,_,dd⟩:=zAR I.hok e
  exact dd.typeIs
def zNJ (td ty tv:TE):TS:=fun D σ H=>tv σ H fun v H1=>td σ H1 fun x H2=>ty σ H2 fun y H3=>∃ a H4,x=.ref a/\zE9 H3 a y v H4/\D.nx σ H4
section
variable {X:Cx}{o i e value:Expr}{pos pos' tpos:Pos}{td ty tv:TE}
theorem zKg (hu:X.A.units+1 < cLine) (ho:PE X o td) (hi:PE X i ty) (hv:PE X value tv) (hs:swapsWith value (some (.Subscript o i pos')) pos.line X.env=pure false) :
  PS X (.Assign [.Subscript o i pos'] value pos) (zNJ td ty tv):=by
 intro pins s σ H D I h
 refine wpAny_Assign_Subscript (thn (hv pins s σ H _ I h) fun r s1 ⟨v,H1,I1,rv,q1⟩=>thn (ho pins s1 σ H1 _ I1 q1) fun u s2 ⟨x,H2,I2,rx,q2⟩=>thn (hi pins s2 σ H2 _ I2 q2) fun iv s3 ⟨y,H3,I3,ry,a,H4,ex,g,q3⟩=>?_) hs
 subst ex
 obtain rfl:u=Value.ref a:=rx
 exact zHg hu I3 g ry rv fun s4 I4=>⟨σ,H4,I4,q3⟩
end
theorem zJR {P:Program}{w:World}{H:Hp} (h:Heap) (hb:sysModules < h.objs.size):jQ P w H (h.push { cls:=.type "dict",data:=.dict #[] }) h.objs.size (.dK []) :=
 ⟨Nat.zero_le _,beq_eq_false_iff_ne.mpr (Ne.symm (Nat.ne_of_lt hb)),[],.nil,Heap.DictOf.new h⟩
def zLf:TE:=fun _ H Q=>∀ p,H p=none->Q (.ref p) (upd H p (.dK []))
section
variable {X:Cx}{pos:Pos}
theorem zI8:PE X (.Dict [] [] pos) zLf:=fun pins s σ H Q I h =>
 wpAny_Dict_empty ⟨.ref s.heap.objs.size,_,I.laid (a:=s.heap.objs.size) (o:=.dK []) (t':=s.toks) (fun _ _ q=>Heap.get?_push_of_some _ q) (Nat.le_refl _) (zJR s.heap I.big),rfl,h _ (I.hok.fresh (Nat.le_refl _))⟩
end
structure M1 (X:Cx) (o:Expr) (m:Str) (apos:Pos) (e:Expr) (cpos:Pos):Prop where
 base:attributeBase o m X.env (eval o X.env)=eval o X.env
 few:((backTo cpos (starEach [e] X.env)).all (fun x=>!x.1) && (backToKw cpos (keywordEach [] X.env)).all (fun x=>x.1.isSome)
  && decide (([e]:List Expr).length+([]:List Keyword).length+(if ([]:List Keyword).isEmpty then 0 else 1) < 30))=true
 line:(apos.endLine == cpos.line)=true
 trees:backTo cpos (starEach [e] X.env)=[(false,eval e X.env)]
structure M2 (X:Cx) (o:Expr) (m:Str) (apos:Pos) (e f:Expr) (cpos:Pos):Prop where
 base:attributeBase o m X.env (eval o X.env)=eval o X.env
 few:((backTo cpos (starEach [e,f] X.env)).all (fun x=>!x.1) && (backToKw cpos (keywordEach [] X.env)).all (fun x=>x.1.isSome)
  && decide (([e,f]:List Expr).length+([]:List Keyword).length+(if ([]:List Keyword).isEmpty then 0 else 1) < 30))=true
 line:(apos.endLine == cpos.line)=true
 trees:backTo cpos (starEach [e,f] X.env)=[(false,eval e X.env),(false,eval f X.env)]
section
variable {X:Cx}{pins:List (Addr×Obj)}{σ:St}{H:Hp}{s:Shared}{a:Addr}{y d:V}{u r:Value}{o:Option V}{A:Around}{E:Value->Shared->Prop}
theorem zLQ {Q:Value->Shared->Prop} (hu:A.units+1 < cLine) (I:Inv X pins σ H s) (g:Zu H a y o) (ry:ze y u) (h:∀ w' s',Inv X pins σ H s'->ze (o.getD .non) w'->Q w' s') :
  wpAny (model X.prog X.w) A (call (.builtin "dict.get") [.ref a,u]) Q E s:=by
 rcases g with ⟨kvs,k,e,ey,l⟩ | ⟨kvs,k,b,e,ey,eb,l⟩
 ·subst ey
  obtain⟨z,hd,vs,rel,dd⟩:=JY I.hok e
  refine call_meetsIn PySem.F.slot_dict_get dd.typeIs PySem.F.entry_dict_get (PySem.F.args_dict_get_2 _ _) (meets_dict_get (jB X.prog X.w) a (zAY ry) hd) ⟨_,dd.mapOf,h _ _ (I.tok _) ?_⟩
  rw[l]
  exact (rel.val k).getD rfl
 ·subst ey
  cases (show u=Value.ref b from ry)
  obtain⟨z,hd,xs,rel,dd⟩:=zAR I.hok e
  refine call_meetsIn PySem.F.slot_dict_get dd.typeIs PySem.F.entry_dict_get (PySem.F.args_dict_get_2 _ _) (meetsH_dict_get (tupleKind (jB X.prog X.w)) a b hd) ⟨tupleKind_room_in1 hu,k,xs,JD I.hok eb,dd,h _ _ (I.tok _) ?_⟩
  rw[l]
  exact (rel.val k).getD rfl
theorem zMF {Q:Value->Shared->Prop} (hu:A.units+1 < cLine) (I:Inv X pins σ H s) (g:Zu H a y o) (ry:ze y u) (rd:ze d r) (h:∀ w' s',Inv X pins σ H s'->ze (o.getD d) w'->Q w' s') :
  wpAny (model X.prog X.w) A (call (.builtin "dict.get") [.ref a,u,r]) Q E s:=by
 rcases g with ⟨kvs,k,e,ey,l⟩ | ⟨kvs,k,b,e,ey,eb,l⟩
 ·subst ey
  obtain⟨z,hd,vs,rel,dd⟩:=JY I.hok e
  refine call_meetsIn PySem.F.slot_dict_get dd.typeIs PySem.F.entry_dict_get (PySem.F.args_dict_get_3 _ _ _) (meets_dict_get_default (jB X.prog X.w) a (zAY ry) hd r) ⟨_,dd.mapOf,h _ _ (I.tok _) ?_⟩
  rw[l]
  exact (rel.val k).getD rd
 ·subst ey
  cases (show u=Value.ref b from ry)
  obtain⟨z,hd,xs,rel,dd⟩:=zAR I.hok e
  refine call_meetsIn PySem.F.slot_dict_get dd.typeIs PySem.F.entry_dict_get (PySem.F.args_dict_get_3 _ _ _) (meetsH_dict_get_default (tupleKind (jB X.prog X.w)) a b hd r) ⟨tupleKind_room_in1 hu,k,xs,JD I.hok eb,dd,h _ _ (I.tok _) ?_⟩
  rw[l]
  exact (rel.val k).getD rd
end
end L2
namespace Att
open PySem PySem.W PySem.Calls PyProof.Rows
theorem zBy {P:Params}{h:Heap}:∀ (ns:List Int) (vs:List Value),WellAll P h vs (ns.map WData.int)->IntsAre vs ns:=by
 intro ns
 induction ns with
 | nil =>
  intro vs w
  rw[List.map_nil] at w
  cases w
  exact .nil
 | cons n ns ih =>
  intro vs w
  rw[List.map_cons] at w
  cases w with
  | cons a b =>
   cases a
   exact .cons _ _ (ih _ b)
theorem zIT {l:OpenLaw}{n:Nat} (hn:l.most=some n) {P:Params}{h:Heap}{args:List WData}{vals:List Value}
  (hpre:l.row.toRowW.claim.pre args=true) (hwl:WellAll P h vals args) :
  ∃ a vs ns,vals=[Value.ref a]/\args=[WData.list (ns.map WData.int)]/\h.get? a=some { cls:=.type "list",data:=.seq vs.toArray }/\IntsAre vs ns/\ns.length <= n:=by
 have hsh:WShape.hasAll [] args [.list .int]=true:=(pre_splitW hpre).1
 have hc:l.pre.holds [] { args:=args }=true:=(pre_splitW hpre).2
 obtain⟨d,r,rfl,h1,h2⟩:=hasAllW_cons hsh
 obtain rfl:=hasAllW_nil h2
 obtain⟨xs,rfl,h3⟩:=hasW_list h1
 obtain⟨ns,rfl⟩:=items_int h3
 have hlen:ns.length <= n:=by
  unfold OpenLaw.pre at hc
  have h4:(WTm.not (.lt (.lit (.int (n:Int))) (.len (.arg 0)))).holds [] { args:=[.list (ns.map .int)] }=true:=by
   have h4:=(holds_andW hc).1
   rw[hn] at h4
   exact h4
  have h5:=condW_of h4 (w_not (w_lt w_lit (w_len_list (w_arg rfl))))
  rw[List.length_map] at h5
  refine Nat.le_of_not_lt fun q=>?_
  have q':(n:Int) < ((ns.length:Nat):Int):=by omega
  first
   | (rw[decide_eq_true q'] at h5;exact absurd h5 (by decide))
   | (simp at h5;omega)
 cases hwl with
 | cons w1 w2 =>
  cases w2
  cases w1 with
  | list ho hall=>exact⟨_,_,ns,rfl,rfl,ho,zBy ns _ hall,hlen⟩
theorem zHQ (l:OpenLaw) (args:List WData):l.row.toRowW.claim.post args (.bool true) args=true :=
 postW_of (r:=l.row.toRowW) (X:=(true == true))
  (show WShape.has [] (.bool true) .bool=true by first | rfl | decide | simp[WShape.has,WShape.arms,WShape.armsAll])
  (show (WTm.eq .res (.lit (.bool true))).value [] { args:=args,res:=some (.bool true),after:=args }=some (.bool (true == true)) from w_eq_bool (w_res rfl) w_lit) rfl
theorem zFa {l:OpenLaw}{n:Nat}{q:Program}{loose:List Str}{XP:(Str->Option Value)->Heap->Prop}{YP:World->Heap->Prop}{d:DefRec}
  (hn:l.most=some n) (hdf:d.params.defaults=[])
  (call:∀ (w:World) (s₀ s₁:Shared) (mg mb:Str->Option Value) (fa:Addr) (o:Obj) (pm cd doc:Value) (a:Addr) (vs:List Value) (ns:List Int),
   Ground q loose [] XP w s₀ mg mb s₁.heap->YP w s₁.heap ->
   s₁.heap.get? fa=some o->o.data=.func (docDef d.name d.params d.body d.scope pm cd doc)->s₁.heap.CodeRec cd d.name->mg d.name=some (.ref fa) ->
   s₁.heap.get? a=some { cls:=.type "list",data:=.seq vs.toArray }->IntsAre vs ns->ns.length <= n->s₁.gens = #[] ->
   codeAny (model l.prog w) callerA (.call (.ref fa) ⟨[.ref a],[]⟩) (fun r s'=>r=.ok (.ret (.bool true))/\OldK s₁.heap s'.heap/\s'.os=s₁.os/\AllBare s'.gens) s₁) :
  WalkO q loose XP YP l.row.toRowW d [] (fun f vs=>PySem.call f vs):=by
 intro w s₀ s₁ mg mb G Y fa o pm cd doc dV kV ho hd hcd hD hmg hg args vals as hpre hlay hrd hwl hlo
 obtain rfl:dV=.none:=Dflts.none hD hdf
 obtain rfl:kV=.none:=Dflts.noKw hD
 obtain⟨a,vs,ns,rfl,rfl,hobj,hints,hlen⟩:=zIT hn hpre hwl
 refine enter_call (codeAny_mono (call w s₀ s₁ mg mb fa o pm cd doc a vs ns G Y ho (fd_plain hd) hcd hmg hobj hints hlen hg) fun r s' hq=>?_)
 obtain⟨rfl,h2,h3,h4⟩:=hq
 exact⟨.inl ⟨.bool true,.bool true,[],rfl,fun _=>rfl,.bool true,zHQ l _,fun _=>⟨List.Pairwise.nil,fun _ hm=>(nomatch hm)⟩⟩,h2,h3,h4⟩
end Att
namespace L2
open PySem PySem.Spec PyProof.Rows
theorem zDH:∀ {vs:List Value}{ns:List Int},IntsAre vs ns->zY (ns.map V.int) vs
 | _,_,.nil=>.nil
 | _,_,.cons n t h=>.cons ⟨t,rfl⟩ (zDH h)
def zGe (H:Hp):Prop:=∀ b,H b=none\/∃ o xs,H b=some (.frz o (.lst xs))
theorem zIb {P:Program}{w:World}{K:PySem.W.Frag}{mg mb:Str->Option Value}{CX:CXT}{k:Nat}{fa a:Addr}{fd:FuncData}{x:Str}{sp:Sp}{s₁:Shared}{vs:List Value}{ns:List Int}
  (KX:K.In s₁.heap) (hns:s₁.heap.Ns mainGlobals mg) (hb:s₁.heap.Ns builtinsNs mb) (hbb:∀ x:Str,x ≠ "__name__" -> mb x=bootBuiltins x) (hlim:s₁.heap.NoLimit) (hg:s₁.gens = #[])
  (ha:s₁.heap.get? a=some { cls:=.type "list",data:=.seq vs.toArray }) (hi:IntsAre vs ns) (hl:ns.length <= sizeLine) (hr:jN k callerA)
  (F:∀ base:Heap,K.In base->base.Ns mainGlobals mg->qE P w K mg base CX k fa fd [x] sp) (hT:fd.scope.names.lookup x=some .local) (hbind:∀ (s:Shared) (u:Value),BindsTo s fd ⟨[u],[]⟩ [(x,u)])
  (hsp:∀ H:Hp,zGe H->SqL K H a (ns.map V.int)->sp [.ref a] H (fun v _=>v=.bl true) fun _ _ _=>False)
  (hCX:∀ H e s',CX [] H s₁ (fun _ _ _=>False) e s'->False) :
  codeAny (model P w) callerA (.call (.ref fa) ⟨[.ref a],[]⟩) (fun r s'=>r=.ok (.ret (.bool true))/\OldK s₁.heap s'.heap/\s'.os=s₁.os/\AllBare s'.gens) s₁:=by
 have rv:=zDH hi
 have lenV:=hi.length
 have core:∀ H:Hp,zGe H->SqL K H a (ns.map V.int)->HOk P w H s₁.heap->(∀ b,H b≠none->b=a)->(H a≠none->K.lookup a=none) ->
   codeAny (model P w) callerA (.call (.ref fa) ⟨[.ref a],[]⟩) (fun r s'=>r=.ok (.ret (.bool true))/\OldK s₁.heap s'.heap/\s'.os=s₁.os/\AllBare s'.gens) s₁:=by
  intro H hO hS hok hA hK
  have base_of:∀ {b:Addr}{o:Obj},s₁.heap.get? b=some o->H b=none->(zAJ s₁.heap H).get? b=some o:=fun e n=>zI7 e n
  have noA:∀ {b:Addr}{o:Obj}{es:Array DictEntry}{ep:Nat},s₁.heap.get? b=some o->o.data=.dict es ep->H b=none:=fun {b o es ep} e d=>by
   cases q:H b with
   | none=>rfl
   | some u =>
    have e':b=a:=hA b (by rw[q];simp)
    subst e'
    rw[ha] at e;cases e
    have d':Data.seq vs.toArray _=Data.dict es ep:=d
    cases d'
  have nsK:∀ {b:Addr}{m:Str->Option Value},s₁.heap.Ns b m->(zAJ s₁.heap H).Ns b m:=fun {b m} ⟨o,es,ep,e,d,r⟩=>⟨o,es,ep,base_of e (noA e d),d,r⟩
  have hKb:K.In (zAJ s₁.heap H):=fun b o e=>base_of (KX b o e) (by
   cases q:H b with
   | none=>rfl
   | some u =>
    have e':b=a:=hA b (by rw[q];simp)
    subst e'
    rw[hK (by rw[q];simp)] at e;cases e)
  have hM:Mod K mg (zAJ s₁.heap H):=⟨hKb,nsK hns,⟨mb,nsK hb,hbb⟩,let ⟨mc,h1,h2⟩:=hlim;⟨mc,nsK h1,h2⟩⟩
  have e0:zGl P w K mg (zAJ s₁.heap H) callerA [] s₁ H:=⟨rfl,hM,fun b o e=>zKn e,Nat.le_of_eq (zHL _ _),trivial,fun b hb=>absurd (show b∈([]:List Addr) from hb) (by simp),hok,.of_eq hg⟩
  refine codeAny_mono ((F _ hKb (nsK hns)).run callerA [] s₁ H ⟨[.ref a],[]⟩ [.ref a] [.ref a] _ _ hr e0 (.inr ⟨x,List.mem_singleton.mpr rfl,hT⟩) (hbind s₁ (.ref a)) (.cons rfl .nil) (hsp H hO hS)) fun r s' h=>?_
  cases r with
  | error e=>exact (hCX H e s' h).elim
  | ok fl =>
   cases fl with
   | next=>exact False.elim h
   | brk=>exact False.elim h
   | cont=>exact False.elim h
   | ret u =>
    obtain⟨v,H',os,bare,un,hok',r',q⟩:=h
    have q':v=.bl true:=q
    subst q'
    obtain rfl:u=Value.bool true:=r'
    refine⟨rfl,OldK.of_keep fun b o e=>?_,os,bare⟩
    cases q:H b with
    | none=>exact un.keep b o e q (by intro z;exact absurd (show b∈([]:List Addr) from z) (by simp)) (by simp)
    | some u =>
     rcases hO b with z | ⟨ob,xs,z⟩
     ·rw[q] at z;cases z
     ·have z2:=un.frzs b ob _ z
      obtain⟨e1,_⟩:=hok b _ z
      obtain⟨e2,_⟩:=hok' b _ z2
      rw[e] at e1;cases e1
      exact e2
 cases hk:K.lookup a with
 | some o =>
  have e:=KX a o hk
  rw[ha] at e
  cases e
  refine core (fun _=>none) (fun _=>.inl rfl) (.inr ⟨_,vs.toArray,_,hk,rfl,rfl,rfl,by rw[List.size_toArray,lenV];exact hl,by simpa using rv⟩) (fun b u z=>by have z':(none:Option HO)=some u:=z;cases z') (fun b z=>absurd rfl z) fun z=>absurd rfl z
 | none =>
  refine core (fun b=>if b=a then some (.frz { cls:=.type "list",data:=.seq vs.toArray } (.lst (ns.map V.int))) else none) (fun b=>?_) (.inl (.inr ⟨{ cls:=.type "list",data:=.seq vs.toArray },if_pos rfl⟩)) (fun b u z=>?_) (fun b z=>?_) fun _=>hk
  ·by_cases hb:b=a
   ·exact .inr ⟨_,_,if_pos hb⟩
   ·exact .inl (if_neg hb)
  ·by_cases hb:b=a
   ·have z':=(if_pos hb).symm.trans z
    cases z'
    subst hb
    exact⟨ha,by rw[List.length_map];exact hl,vs,_,rv,ha⟩
   ·have z':=(if_neg hb).symm.trans z
    cases z'
  ·by_cases hb:b=a
   ·exact hb
   ·exact absurd (if_neg hb) z
end L2
namespace L2
open PySem PySem.Spec PyProof.Rows
theorem zJ9 {l:PySem.W.OpenLaw}{n k:Nat}{q:Program}{loose:List Str}{XP:(Str->Option Value)->Heap->Prop}{YP:World->Heap->Prop}{d:DefRec}{K:Params->PySem.W.Frag}{CX:World->CXT}{sp:World->Sp}{x:Str}
  (hn:l.most=some n) (hn2:n <= sizeLine) (hdf:d.params.defaults=[]) (hr:jN k callerA)
  (hY:∀ (w:World) (h:Heap),YP w h->(K w.params).In h)
  (F:∀ (w:World) (mg:Str->Option Value) (fa:Addr) (h:Heap),(K w.params).In h->h.Ns mainGlobals mg->mg d.name=some (.ref fa) ->
   ∃ fd:FuncData,(∀ (s:Shared) (u:Value),BindsTo s fd ⟨[u],[]⟩ [(x,u)])/\fd.scope.names.lookup x=some .local /\
    ∀ base:Heap,(K w.params).In base->base.Ns mainGlobals mg->qE l.prog w (K w.params) mg base (CX w) k fa fd [x] (sp w))
  (hsp:∀ (w:World) (H:Hp) (a:Addr) (ns:List Int),ns.length <= n->zGe H->SqL (K w.params) H a (ns.map V.int)->sp w [.ref a] H (fun v _=>v=.bl true) fun _ _ _=>False)
  (hCX:∀ (w:World) (H:Hp) (s:Shared) (e:Value) (s':Shared),CX w [] H s (fun _ _ _=>False) e s'->False) :
  PySem.W.WalkO q loose XP YP l.row.toRowW d [] (fun f vs=>PySem.call f vs):=by
 refine Att.zFa hn hdf fun w s₀ s₁ mg mb fa o pm cd doc a vs ns G Y ho hd hcd hmg hobj hints hlen hg=>?_
 have KX:=hY w _ Y
 obtain⟨fd,hb,hT,hF⟩:=F w mg fa _ KX G.T.g hmg
 exact zIb KX G.T.g G.T.b G.T.builtins G.T.nolimit hg hobj hints (Nat.le_trans hlen hn2) hr hF hT hb (fun H hO hS=>hsp w H a ns hlen hO hS) fun H e s'=>hCX w H s₁ e s'
end L2
namespace L2
open PySem PySem.Spec PyProof.Rows
def jy (s:Stmt):Arguments:=match s with
 | .FunctionDef _ a _ _ _ _ _ _ _ _=>a
 | _=>{ posonlyargs:=[],args:=[],vararg:=none,kwonlyargs:=[],kw_defaults:=[],kwarg:=none,defaults:=[] }
def jI (s:Stmt):List Stmt:=match s with
 | .FunctionDef _ _ b _ _ _ _ _ _ _=>b
 | _=>[]
def zQ (s:Stmt):Scope:=match s with
 | .FunctionDef _ _ _ _ _ _ sc _ _ _=>sc
 | _=>{ kind:=.function,names:=[],isGenerator:=false,isCoroutine:=false }
abbrev CX0:CXT:=fun _ _ _ _ _ _=>False
abbrev E0:XK:=fun _ _ _=>False
theorem zGw {X:Cx}:J5 CX0 X E0:=fun _ _ _ _ _ _ _ h=>h.elim
structure Fun (K:PySem.W.Frag) (x qual:Str) (st:Stmt) (f:Addr) (fd:FuncData):Prop where
 ex:∃ (oc:Value) (od:Option Addr) (kV doc pm:Value) (an:Option Addr) (cdv ct:Value) (osl:Array (Option Value)),
  fd=PySem.W.fnOf x qual (jy st) (jI st) (zQ st) .none kV doc pm an cdv ct/\K.lookup f=some ⟨oc,od,.func fd,osl⟩/\PySem.W.codeIn K cdv qual=true
 kp:PySem.W.keepIn K (.ref f)=true
section
variable {P:Program}{w:World}{K:PySem.W.Frag}{mg:Str->Option Value}{base:Heap}
theorem Fun.ok {x qual:Str}{st:Stmt}{f:Addr}{fd:FuncData}{N ps:List Str}{k:Nat}{sp:Sp} (F:Fun K x qual st f fd) (S:jj N ps (zQ st)) (len:∀ vs H Q E,sp vs H Q E->vs.length=ps.length)
  (hbody:∀ (cdv:Value) (A:Around) (outer:List Env) (s:Shared) (H:Hp) (vs:List V) (Q:VK) (E:XK),jN k (A.deeper (envOfC qual (zQ st) s.heap.objs.size f cdv))->sp vs H Q E ->
   ∃ t,PSs (JQ CX0 P w K mg base N qual (zQ st) f cdv A outer s H E).nox (jI st) t/\t { nx:=fun _ H'=>Q .non H',rt:=Q } (QB N vs) H):qE P w K mg base CX0 (k+1) f fd ps sp:=by
 obtain⟨oc,od,kV,doc,pm,an,cdv,ct,osl,rfl,lk,hcd⟩:=F.ex
 refine zNB lk hcd S len fun A outer s H vs Q E hr hsp=>?_
 obtain⟨t,h,q⟩:=hbody cdv A outer s H vs Q E hr hsp
 exact⟨t,h.nox,q⟩
theorem Fun.binds {x qual:Str}{st:Stmt}{f:Addr}{fd:FuncData}{ps:List Str} (F:Fun K x qual st f fd)
  (h:∀ (kV doc pm:Value) (an:Option Addr) (cdv ct:Value) (us:List Value),us.length=ps.length->bindArgs (PySem.W.fnOf x qual (jy st) (jI st) (zQ st) .none kV doc pm an cdv ct) ⟨us,[]⟩=pure (ps.zip us)):JU K fd ps []:=by
 obtain⟨oc,od,kV,doc,pm,an,cdv,ct,osl,rfl,lk,hcd⟩:=F.ex
 exact .all (h kV doc pm an cdv ct)
theorem yN {x qual:Str}{st:Stmt}{f:Addr}{oc:Value}{od an:Option Addr}{osl:Array (Option Value)}{kV doc pm cdv ct:Value} (l:K.lookup f=some ⟨oc,od,.func (PySem.W.fnOf x qual (jy st) (jI st) (zQ st) .none kV doc pm an cdv ct),osl⟩)
  (c:PySem.W.codeIn K cdv qual=true) (k:PySem.W.keepIn K (.ref f)=true):Fun K x qual st f (PySem.W.fnOf x qual (jy st) (jI st) (zQ st) .none kV doc pm an cdv ct):=⟨⟨oc,od,kV,doc,pm,an,cdv,ct,osl,rfl,l,c⟩,k⟩
end
theorem zCC {A:Around}{k:Nat} (hr:jN k A):A.units+1 < cLine:=Nat.lt_of_le_of_lt (Nat.add_le_add_left (by decide:1 <= 64) _) hr.units
theorem zCo {A B:Prop} (h:B):if false=true then A else B:=by
 rw[if_neg Bool.false_ne_true]
 exact h
theorem zCu {A B:Prop} (h:A):if true=true then A else B:=by
 rw[if_pos rfl]
 exact h
end L2
namespace L2
open PySem PySem.Spec PyProof.Rows
section
variable {X:Cx}
theorem zHI:jp X (.builtin "len") (fun xs H Q=>∃ a kvs,xs=[V.ref a]/\H a=some (.dK kvs)/\Q (.int kvs.length) H):=by
 intro pins s σ H xs us Q I r h
 obtain⟨a,kvs,rfl,ha,q⟩:=h
 obtain⟨u,rfl,ru⟩:=Zq r
 cases ru
 exact zNd I (.inl ha) fun t s' I'=>⟨.int kvs.length,H,I',⟨t,rfl⟩,q⟩
end
end L2
set_option maxHeartbeats 4000000
namespace L2
open PySem PySem.Spec PyProof.Rows
abbrev zc (X:Cx) (vars:List Str) (scope:Scope) (cl:List (Str×Addr)) (C:Addr) (fp:List Addr) (s₂:Shared) (H₂:Hp):Cx where
 prog:=X.prog
 w:=X.w
 K:=X.K
 mg:=X.mg
 base:=X.base
 A:=X.A
 N:=X.N++vars
 s₀:=s₂
 H₀:=H₂
 env:=compEnvC scope cl C X.env
 outer:=X.stack
 stack:=X.stack
 ex:=fp
 fn:=fun _=>false
 calm:=X.calm
 pn:=[]
 xe:=fun _ _=>False
def Jx (cells:List (Str×Addr)):List (Str×Addr)->Prop
 | []=>True
 | p::r=>cells.lookup p.1=some p.2/\Jx cells r
theorem Jx.get {cells:List (Str×Addr)}:∀ {cl:List (Str×Addr)}{x:Str}{c:Addr},Jx cells cl->cl.lookup x=some c->cells.lookup x=some c
 | [],_,_,_,e=>by simp at e
 | (y,d)::r,x,c,h,e=>by
  cases hx:x == y with
  | true =>
   simp only[List.lookup_cons,hx] at e
   have e1:x=y:=eq_of_beq hx
   subst e1
   rw[<- e]
   exact h.1
  | false =>
   simp only[List.lookup_cons,hx] at e
   exact Jx.get h.2 e
def okK (on:List (Str×NameKind)) (vars:List Str) (cl:List (Str×Addr)) (x:Str):NameKind->Bool
 | .local=>x == (".0" : Str) || vars.contains x
 | .cell=>false
 | .free=>(cl.lookup x).isSome && (on.lookup x == some .cell || on.lookup x == some .free)
 | _=>true
structure jF (X:Cx) (vars:List Str) (scope:Scope) (cl:List (Str×Addr)):Prop where
 kind:scope.kind=.function
 clos:closureFor scope X.env=pure cl
 dis:(vars.all fun x=>!X.N.contains x)=true
 zero:X.N.contains (".0" : Str)=false
 names:∀ y∈scope.names,y.2=.local->scope.names.lookup y.1=some .local
 cells:Jx X.env.cells cl
 ok:(scope.names.all fun p=>okK X.env.scope.names vars cl p.1 p.2)=true
theorem QX {env:Env}{x:Str}:∀ {names:List (Str×NameKind)},
  (names.map fun (n,k)=>if (k == NameKind.free && env.scope.kind == .function && env.kindOf n == some .cell) then (n,NameKind.cell) else (n,k)).lookup x =
   (names.lookup x).map fun k=>if (k == NameKind.free && env.scope.kind == .function && env.kindOf x == some .cell) then NameKind.cell else k
 | []=>rfl
 | (n,k)::r=>by
  have ih:=@QX env x r
  show List.lookup x ((if (k == NameKind.free && env.scope.kind == .function && env.kindOf n == some .cell)=true then (n,NameKind.cell) else (n,k))::_)=_
  cases hx:x == n with
  | true =>
   have e:x=n:=eq_of_beq hx
   subst e
   by_cases hc:(k == NameKind.free && env.scope.kind == .function && env.kindOf x == some .cell)=true
   ·rw[if_pos hc];simp only[List.lookup_cons,hx,Option.map_some,if_pos hc]
   ·rw[if_neg hc];simp only[List.lookup_cons,hx,Option.map_some,if_neg hc]
  | false =>
   by_cases hc:(k == NameKind.free && env.scope.kind == .function && env.kindOf n == some .cell)=true
   ·rw[if_pos hc];simp only[List.lookup_cons,hx];exact ih
   ·rw[if_neg hc];simp only[List.lookup_cons,hx];exact ih
section
variable {X:Cx}{vars:List Str}{scope:Scope}{cl:List (Str×Addr)}{C D:Addr}{fp:List Addr}{s₂:Shared}{H:Hp}{pins:List (Addr×Obj)}{σ:St}
theorem jF.okAt (S:jF X vars scope cl) {x:Str}{k:NameKind} (h:scope.names.lookup x=some k):okK X.env.scope.names vars cl x k=true:=by
 have:=List.all_eq_true.mp S.ok (x,k) (PySem.mem_of_lookup h)
 exact this
theorem jF.noCell (S:jF X vars scope cl):∀ y∈scope.names,y.2≠.cell:=fun y hy e=>by
 have h:=List.all_eq_true.mp S.ok y hy
 rw[e] at h
 exact absurd (show false=true from h) Bool.false_ne_true
theorem jF.freeOf (S:jF X vars scope cl) {x:Str} (h:(compEnvC scope cl C X.env).kindOf x=some .cell\/(compEnvC scope cl C X.env).kindOf x=some .free):scope.names.lookup x=some .free:=by
 have e:(compEnvC scope cl C X.env).kindOf x=(scope.names.lookup x).map fun k=>if (k == NameKind.free && X.env.scope.kind == .function && X.env.kindOf x == some .cell) then NameKind.cell else k:=QX
 rw[e] at h
 cases q:scope.names.lookup x with
 | none=>rw[q] at h;simp at h
 | some k =>
  rw[q] at h
  by_cases hk:k=.free
  ·rw[hk]
  ·have hb:(k == NameKind.free)=false:=by simpa using hk
   simp only[Option.map_some,hb,Bool.false_and,Bool.false_eq_true,if_false,Option.some.injEq] at h
   rcases h with h | h
   ·subst h
    exact absurd rfl (S.noCell (x,.cell) (PySem.mem_of_lookup q))
   ·exact absurd h hk
theorem jF.localOf (S:jF X vars scope cl) {x:Str} (h:(compEnvC scope cl C X.env).kindOf x=some .local):scope.names.lookup x=some .local:=by
 have e:(compEnvC scope cl C X.env).kindOf x=(scope.names.lookup x).map fun k=>if (k == NameKind.free && X.env.scope.kind == .function && X.env.kindOf x == some .cell) then NameKind.cell else k:=QX
 rw[e] at h
 cases q:scope.names.lookup x with
 | none=>rw[q] at h;simp at h
 | some k =>
  rw[q] at h
  simp only[Option.map_some,Option.some.injEq] at h
  split at h
  ·cases h
  ·rw[h]
theorem zGb (I:Inv X pins σ H s₂) (S:jF X vars scope cl) (hf:∀ b∈fp,Jg X pins H b) (hob:∀ b∈fp,∃ o,s₂.heap.get? b=some o)
  {h₁:Heap}{tk:Nat} (hD:s₂.heap.objs.size <= D) (hC:s₂.heap.objs.size <= C) (hDC:D≠C) {oD:Obj} (eD:h₁.get? D=some oD) (cD:∀ v,oD.data≠.cell v) {m:Str->Option Value} (hn:h₁.Ns C m)
  (old:∀ b o,s₂.heap.get? b=some o->h₁.get? b=some o) (ht:0 < tk:=by first | exact Nat.succ_pos _ | assumption | exact Inv.tk (by assumption) | omega) :
  Inv (zc X vars scope cl C fp s₂ H) [(D,oD)] (σ++List.replicate vars.length none) H { s₂ with heap:=h₁,toks:=tk }:=by
 have fpst:∀ b∈fp,b∉frs X.stack:=fun b hb z=>by
  rcases List.mem_cons.mp (I.stkSub b z) with e | e
  ·exact (hf b hb).2.1 e
  ·exact (hf b hb).2.2.1 e
 have cget:∀ x c,cl.lookup x=some c->X.env.cells.lookup x=some c:=fun x c e=>S.cells.get e
 have fpl:∀ b∈fp,b < s₂.heap.objs.size:=fun b hb=>by
  obtain⟨o,e⟩:=hob b hb
  exact Heap.lt_size e
 have ok:(zc X vars scope cl C fp s₂ H).Ok:=by
  refine⟨I.ok.mod,S.kind,I.ok.glob,I.ok.blt,hC,fun x y c h1 h2=>I.ok.inj x y c (cget x c h1) (cget y c h2),fun x hx=>?_,fun x c h _=>absurd (show false=true from h) Bool.false_ne_true,I.ok.hd,I.ok.frames,.inl rfl,
   fun b hb=>⟨Nat.ne_of_lt (Nat.lt_of_lt_of_le (fpl b hb) hC),fun x c e z=>(hf b hb).2.2.2.2.1 x c (cget x c e) z⟩,I.bs,Nat.le_trans I.ok.bsz I.sz,fun b o e hb=>?_,fpst,I.stack,I.stkFree⟩
  ·have q:=S.okAt (S.freeOf (C:=C) hx)
   have q1:((cl.lookup x).isSome && (X.env.scope.names.lookup x == some .cell || X.env.scope.names.lookup x == some .free))=true:=q
   rw[Bool.and_eq_true] at q1
   exact Option.isSome_iff_exists.mp q1.1
  ·rcases (hf b hb).2.2.2.1 with z | z
   ·exact I.ok.noex b o e z
   ·exact absurd (Nat.lt_of_lt_of_le (Heap.lt_size e) (Nat.le_trans I.ok.bsz z)) (Nat.lt_irrefl _)
 have nst:D∉frs X.stack:=fun z=>by
  rcases List.mem_cons.mp (I.stkSub D z) with e | e
  ·exact absurd (Nat.lt_of_lt_of_le (e ▸ I.lt) hD) (Nat.lt_irrefl _)
  ·exact I.nofs hD e
 refine⟨ok,rfl,I.bare,Un.kept old,⟨m,hn,fun i x v h1 h2 h3=>?_⟩,fun x c e=>?_,I.hok.fresh hC,fun x c e=>I.freeC x c (cget x c e),fun p hp=>?_,I.hok.kept old,?_,ht⟩
 ·have hlen:=I.len
  have h1':(X.N++vars)[i]? = some x:=h1
  by_cases hi:i < σ.length
  ·rw[List.getElem?_append_left (by omega)] at h1'
   rw[List.getElem?_append_left hi] at h2
   have inN:X.N.contains x=true:=by
    rw[List.contains_iff_exists_mem_beq]
    exact⟨x,List.mem_of_getElem? h1',by simp⟩
   have hk:(compEnvC scope cl C X.env).kindOf x=some .cell\/(compEnvC scope cl C X.env).kindOf x=some .free:=by
    rcases h3 with h3 | h3
    ·have q:=S.okAt (S.localOf (C:=C) h3)
     have q1:(x == (".0" : Str) || vars.contains x)=true:=q
     rw[Bool.or_eq_true] at q1
     rcases q1 with q1 | q1
     ·have e0:x=(".0" : Str):=eq_of_beq q1
      rw[e0,S.zero] at inN
      cases inN
     ·have q2:=List.all_eq_true.mp S.dis x (by simpa using q1)
      rw[inN] at q2
      cases q2
    ·exact h3
   have q:=S.okAt (S.freeOf (C:=C) hk)
   have q1:((cl.lookup x).isSome && (X.env.scope.names.lookup x == some .cell || X.env.scope.names.lookup x == some .free))=true:=q
   rw[Bool.and_eq_true,Bool.or_eq_true] at q1
   obtain⟨c,hc⟩:=Option.isSome_iff_exists.mp q1.1
   have ho:X.env.scope.names.lookup x=some .cell\/X.env.scope.names.lookup x=some .free:=by
    rcases q1.2 with z | z
    ·exact .inl (eq_of_beq z)
    ·exact .inr (eq_of_beq z)
   obtain⟨m0,_,hl⟩:=I.loc
   obtain⟨u,r,l⟩:=hl i x v h1' h2 (.inr ho)
   refine⟨u,r,.inr ⟨hk,c,hc,?_⟩⟩
   rcases l with ⟨l1,_⟩ | ⟨_,c',e',o,eo,ed⟩
   ·have l2:X.env.scope.names.lookup x=some .local:=l1
    rcases ho with z | z
    ·rw[l2] at z;cases z
    ·rw[l2] at z;cases z
   ·rw[cget x c hc] at e'
    cases e'
    exact⟨o,old _ _ eo,ed⟩
  ·rw[List.getElem?_append_right (by omega),List.getElem?_replicate] at h2
   split at h2<;>cases h2
 ·obtain⟨v,o,eo,ed⟩:=I.cell x c (cget x c e)
  exact⟨v,o,old _ _ eo,ed⟩
 ·have e:p=(D,oD):=by simpa using hp
  subst e
  exact⟨eD,I.hok.fresh hD,hDC,nst,cD⟩
 ·show (σ++List.replicate vars.length none).length=(X.N++vars).length
  rw[List.length_append,List.length_append,List.length_replicate,I.len]
end
def Ze (X:Cx) (ifs:List Expr) (t:TT):Prop :=
 ∀ (pins:List (Addr×Obj)) (s:Shared) (σ:St) (H:Hp) (Q:Bool->Hp->Prop),Inv X pins σ H s->t σ H Q ->
  wpAny (model X.prog X.w) X.A (forIn ifs true fun c r=>if r=true then do let ok <- isTrue c X.env (eval c X.env);pure (ForInStep.yield ok) else pure (ForInStep.yield r)) (TP X pins σ Q) X.xe s
def yu:TT:=fun _ H Q=>Q true H
theorem zJh {X:Cx}:Ze X [] yu:=fun _ _ _ H _ I h=>wpAny_tests_nil ⟨H,I,h⟩
theorem zJE {X:Cx}{c:Expr}{t:TT} (h:PT X c t):Ze X [c] t:=fun pins s σ H Q I hw=>wpAny_tests_one (h pins s σ H Q I hw)
def Wk (σ σ':St):Prop:=σ.length=σ'.length/\∀ (i:Nat) v,σ[i]? = some (some v)->σ'[i]? = some (some v)
def zDr (n:Nat) (wi:TI) (g:TG) (ti:TT) (te:TE):TE:=fun σ H Q=>wi σ H fun J H1=>∃ W:Nat->Nat->List V->Hp->Prop,(∃ m,W 0 m [] H1)/\∀ i m ys H2,W i m ys H2->ys.length <= sizeLine /\
 ((J.stop i H2/\∀ D,H2 D=none->Q (.ref D) (upd H2 D (.lst ys))) \/
  (J.go i H2/\∀ x H3,J.yld i H2 x H3->g x (σ++List.replicate n none) H3 fun σ2 H4=>Wk (σ++List.replicate n none) σ2/\ti σ2 H4 fun b H5 =>
   if b=true then te σ2 H5 fun y H6=>∃ m',m' < m/\W (i+1) m' (ys++[y]) H6 else ∃ m',m' < m/\W (i+1) m' ys H5))
theorem Inv.track {X:Cx}{pins:List (Addr×Obj)}{σ:St}{H:Hp}{s:Shared}{D:Addr}{o:HO} (I:Inv X pins σ H s) (hD:X.s₀.heap.objs.size <= D) (hn:H D=none) (hL:D≠X.env.locals)
  (hcl:∀ x c,X.env.cells.lookup x=some c->c≠D) (hp:∀ p∈X.pn++pins,p.1≠D) (new:jQ X.prog X.w (upd H D o) s.heap D o):Inv X pins σ (upd H D o) s:=by
 have ne:∀ {b u},H b=some u->b≠D:=fun e z=>by rw[z,hn] at e;cases e
 refine⟨I.ok,I.os,I.bare,⟨I.base.keep,I.base.slot,fun b ob e n hx=>?_,I.base.there,fun b xs e=>?_,fun b ob u e=>?_,fun b ps e=>?_⟩,I.loc,I.cell,?_,fun x c e=>?_,fun p hp'=>?_,fun b u e=>?_,I.len,I.tk⟩
 ·rw[zZ (Nat.ne_of_lt (Nat.lt_of_lt_of_le (Heap.lt_size e) hD))]
  exact I.base.free b ob e n hx
 ·have q:=I.base.tups b xs e
  rw[zZ (ne q)];exact q
 ·have q:=I.base.frzs b ob u e
  rw[zZ (ne q)];exact q
 ·obtain⟨mo,q⟩:=I.base.tbls b ps e
  exact⟨mo,by rw[zZ (ne q)];exact q⟩
 ·rw[zZ (Ne.symm hL)];exact I.free
 ·rw[zZ (hcl x c e)];exact I.freeC x c e
 ·obtain⟨e1,e2,e3,e4,e5⟩:=I.pin p hp'
  exact⟨e1,by rw[zZ (hp p hp')];exact e2,e3,e4,e5⟩
 ·by_cases hb:b=D
  ·subst hb;rw[z9] at e;cases e;exact new
  ·rw[zZ hb] at e
   exact (I.hok b u e).stay (fun _ _ _ q=>q) (fun c q=>by rw[zZ (ne q)];exact q) fun c xs q=>by rw[zZ (ne q)];exact q
abbrev zAg (us:List Value) (n:Nat):Obj:={ cls:=.type "list",data:=.seq us.toArray n }
section
variable {X:Cx}{vars:List Str}{scope:Scope}{cl:List (Str×Addr)}{C D it:Addr}{fp:List Addr}{s₂:Shared}{H₂:Hp}{tg elt iter:Expr}{ifs:List Expr}{pos:Pos}{J:It}{tn:Nat->Heap->Prop}
 {g:TG}{ti:TT}{te:TE}{R:Result->Shared->Prop}
theorem zHy (hc:X.calm=true) (T:zAN X.prog X.w X.K tg J fp it tn) (hg:PG (zc X vars scope cl C fp s₂ H₂) tg g) (hi:Ze (zc X vars scope cl C fp s₂ H₂) ifs ti) (he:PE (zc X vars scope cl C fp s₂ H₂) elt te)
  {σ0:St} (W:Nat->Nat->List V->Hp->Prop) {F:List V->Hp->Prop} (hD0:s₂.heap.objs.size <= D) (hDC:D≠C) (hDs:D∉frs X.stack) (hDc:∀ x c,cl.lookup x=some c->c≠D)
  (hS:∀ b∈fp,b≠C/\b∉frs X.stack/\(∀ x c,cl.lookup x=some c->c≠b)/\D≠b)
  (turn:∀ i m ys H2,W i m ys H2->ys.length <= sizeLine/\((J.stop i H2/\F ys H2) \/
   (J.go i H2/\∀ x H3,J.yld i H2 x H3->g x σ0 H3 fun σ2 H4=>Wk σ0 σ2/\ti σ2 H4 fun b H5 =>
    if b=true then te σ2 H5 fun y H6=>∃ m',m' < m/\W (i+1) m' (ys++[y]) H6 else ∃ m',m' < m/\W (i+1) m' ys H5)))
  (hR:∀ s' ys us n H2,Inv (zc X vars scope cl C fp s₂ H₂) [(D,zAg us n)] σ0 H2 s'->zY ys us->ys.length <= sizeLine->F ys H2->R (.ok .next) s')
  {s:Shared}{m0:Nat}{n0:Nat}{H0:Hp} (I0:Inv (zc X vars scope cl C fp s₂ H₂) [(D,zAg [] n0)] σ0 H0 s) (st0:tn 0 s.heap) (f0:∀ b∈fp,H0 b=none) (w0:W 0 m0 [] H0) :
  codeAny (model X.prog X.w) X.A (.compLoop (.ListComp elt [⟨tg,iter,ifs,0⟩] scope pos) 0 (.ref it) (.ref D) (compEnvC scope cl C X.env)) R s:=by
 have stat:∀ {H':Hp}{o:Obj},(∀ b∈fp,H' b=none)->∀ b∈fp,Jg (zc X vars scope cl C fp s₂ H₂) [(D,o)] H' b:=fun {H' o} hn b hb =>
  ⟨hn b hb,(hS b hb).1,(hS b hb).2.1,.inl hb,(hS b hb).2.2.1,fun p hp=>by
   have e:p=(D,o):=by simpa using hp
   subst e
   exact (hS b hb).2.2.2⟩
 refine codeAny_loop rfl (fun n s=>∃ i ys us nn H',Inv (zc X vars scope cl C fp s₂ H₂) [(D,zAg us nn)] σ0 H' s/\zY ys us/\tn i s.heap/\(∀ b∈fp,H' b=none)/\W i n ys H') (fun n s hI=>?_) m0 ⟨0,[],[],n0,H0,I0,.nil,st0,f0,w0⟩
 show wpAny _ X.A ((compTurn (.ListComp elt [⟨tg,iter,ifs,0⟩] scope pos) 0 (.ref it) (.ref D) (compEnvC scope cl C X.env)).onRaise (fun x=>do noteFrame x (compEnvC scope cl C X.env);theTreesLotGoes x)) _ _ s
 refine wpAny_noted ?_
 rw[compTurn_list]
 obtain⟨i,ys,us,nn,H',I,rv,st,fr,w⟩:=hI
 obtain⟨hz,tt⟩:=turn i n ys H' w
 refine wpAny_bind (wpAny_standAt (wpAny_bind ?_))
 rcases tt with ⟨stop,q⟩ | ⟨go,q⟩
 ·refine wpAny_mono (T.done (zc X vars scope cl C fp s₂ H₂) rfl rfl rfl hc i _ s σ0 H' _ I (stat fr) st stop) (fun r s1 ⟨hr,I1⟩=>?_) (fun _ _ e=>e)
  subst hr
  exact wpAny_pure (hR s1 ys us nn H' I1 rv hz q)
 ·refine wpAny_mono (T.item (zc X vars scope cl C fp s₂ H₂) rfl rfl rfl hc i _ s σ0 H' _ I (stat fr) st go) (fun r s1 ⟨u,hr,h1⟩=>?_) (fun _ _ e=>e)
  subst hr
  refine wpAny_bind (wpAny_mono h1 (fun _ s2 ⟨x,H3,I3,r3,y3,st3,fr3⟩=>?_) (fun _ _ e=>e))
  have I3':=I3.pinned (stat fr3) (T.obj _ _ st3)
  refine wpAny_bind (wpAny_mono (hg _ s2 σ0 H3 x u _ I3' r3 (q x H3 y3)) (fun _ s3 ⟨σ4,H4,I4,wk,q4⟩=>?_) (fun _ _ f=>False.elim f))
  refine wpAny_bind (wpAny_mono (hi _ s3 σ4 H4 _ I4 q4) (fun b s4 ⟨H5,I5,q5⟩=>?_) (fun _ _ f=>False.elim f))
  have back:∀ {s7:Shared}{H7:Hp}{o:Obj},Inv (zc X vars scope cl C fp s₂ H₂) ((D,o)::Zh fp s2.heap) σ4 H7 s7->tn (i+1) s7.heap/\∀ b∈fp,H7 b=none:=fun {s7 H7 o} I7=>by
   refine⟨T.keep _ _ _ st3 fun b hb ob e=>(I7.pin (b,ob) (List.mem_append_right _ (List.mem_cons_of_mem _ (Q6 hb e)))).1,fun b hb=>?_⟩
   obtain⟨ob,e,d⟩:=T.obj _ _ st3 b hb
   exact (I7.pin (b,ob) (List.mem_append_right _ (List.mem_cons_of_mem _ (Q6 hb e)))).2.1
  have one:∀ {s7:Shared}{H7:Hp}{o:Obj},Inv (zc X vars scope cl C fp s₂ H₂) ((D,o)::Zh fp s2.heap) σ4 H7 s7->Inv (zc X vars scope cl C fp s₂ H₂) [(D,o)] σ0 H7 s7:=fun {s7 H7 o} I7 =>
   (I7.pins_of (pins':=[(D,o)]) fun p hp=>by
    have e:p=(D,o):=by simpa using hp
    subst e
    exact I7.pin (D,o) (List.mem_append_right _ List.mem_cons_self)).weak wk.1 wk.2
  cases b with
  | false =>
   obtain⟨m',hm,w'⟩:=q5
   obtain⟨b1,b2⟩:=back I5
   exact wpAny_pure ⟨rfl,m',hm,i+1,ys,us,nn,H5,one I5,rv,b1,b2,w'⟩
  | true =>
   refine wpAny_bind (wpAny_bind (wpAny_mono (he _ s4 σ4 H5 _ I5 q5) (fun v s5 ⟨y,H6,I6,r6,q6⟩=>?_) (fun _ _ f=>False.elim f)))
   obtain⟨m',hm,w'⟩:=q6
   obtain⟨eD,nD,_,_,_⟩:=I6.pin (D,zAg us nn) (List.mem_append_right _ List.mem_cons_self)
   have hul:us.toArray.size <= sizeLine:=by rw[List.size_toArray,<- rv.length];exact hz
   refine wpAny_bind (wpAny_list_append_plain (hsz:=hul) ⟨nn,eD⟩ fun h' hp hs=>wpAny_pure (wpAny_pure ⟨rfl,?_⟩))
   obtain⟨n',hp⟩:=hp
   have hp':h'.get? D=some (zAg (us++[v]) n'):=by rw[hp];simp
   have I7:Inv (zc X vars scope cl C fp s₂ H₂) (Zh fp s2.heap) σ4 H6 { s5 with heap:=h',toks:=s5.toks }:=by
    refine Inv.turned (it:=D) (I6.pins_of (pins':=Zh fp s2.heap) fun p hp=>I6.pin p (List.mem_append_right _ (List.mem_cons_of_mem _ hp))) (fun b o hb e=>(hs.2 b hb).trans e) nD hDC (.inr hD0) (fun x c e=>hDc x c e) fun p hp=>?_
    have hp2:p∈Zh fp s2.heap:=by simpa using hp
    exact Ne.symm (hS p.1 (zDU hp2).1).2.2.2
   have I8:Inv (zc X vars scope cl C fp s₂ H₂) ((D,zAg (us++[v]) n')::Zh fp s2.heap) σ4 H6 { s5 with heap:=h',toks:=s5.toks }:=I7.pins_of fun p hp=>by
    rcases List.mem_cons.mp hp with rfl | hp
    ·exact⟨hp',nD,hDC,hDs,fun v z=>by cases z⟩
    ·exact I7.pin p (List.mem_append_right _ hp)
   obtain⟨b1,b2⟩:=back I8
   exact⟨m',hm,i+1,ys++[y],us++[v],n',H6,one I8,rv.append (.cons r6 .nil),b1,b2,w'⟩
end
section
variable {X:Cx}{vars:List Str}{scope:Scope}{cl:List (Str×Addr)}{tg elt iter:Expr}{ifs:List Expr}{pos:Pos}{wi:TI}{g:TG}{ti:TT}{te:TE}
theorem zCV (hc:X.calm=true) (S:jF X vars scope cl) (hg:∀ C fp s₂ H₂,PG (zc X vars scope cl C fp s₂ H₂) tg g) (ht:∀ C fp s₂ H₂,Ze (zc X vars scope cl C fp s₂ H₂) ifs ti)
  (he:∀ C fp s₂ H₂,PE (zc X vars scope cl C fp s₂ H₂) elt te) {pins:List (Addr×Obj)}{σ:St}{s2:Shared}{E:Value->Shared->Prop}{F:Addr->Hp->Prop}{RR:Value->Addr->Result->Shared->Prop}{itv:Value}
  (h2:PIE X pins σ tg (fun J H1=>∃ W:Nat->Nat->List V->Hp->Prop,(∃ m,W 0 m [] H1)/\∀ i m ys H2,W i m ys H2->ys.length <= sizeLine /\
   ((J.stop i H2/\∀ D,H2 D=none->F D (upd H2 D (.lst ys))) \/
    (J.go i H2/\∀ x H3,J.yld i H2 x H3->g x (σ++List.replicate vars.length none) H3 fun σ2 H4=>Wk (σ++List.replicate vars.length none) σ2/\ti σ2 H4 fun b H5 =>
     if b=true then te σ2 H5 fun y H6=>∃ m',m' < m/\W (i+1) m' (ys++[y]) H6 else ∃ m',m' < m/\W (i+1) m' ys H5))) itv s2)
  (hRR:∀ D C s' H',(∃ m,s'.heap.Ns C m)->C≠X.env.locals->(∀ x c,X.env.cells.lookup x=some c->c≠C)->Inv X pins σ H' s'->(∀ (h':Heap),Heap.SameBut C s'.heap h'->∀ (s'':Shared),s''={ s' with heap:=h' }->Inv X pins σ H' s'') ->
   (∀ (σ':St) (s3:Shared),Inv X pins σ' H' s3->(∃ a,Heap.SameBut a s'.heap s3.heap/\(a=X.env.locals\/∃ x,X.env.cells.lookup x=some a))->∀ (h':Heap),Heap.SameBut C s3.heap h'->Inv X pins σ' H' { s3 with heap:=h' }) ->
   F D H'->RR (.ref D) C (.ok .next) s') :
  wpAny (model X.prog X.w) X.A (newList []) (fun acc s₃=>wpAny (model X.prog X.w) X.A (newFunctionEnv scope X.env.globals cl [] X.env.qual none .none (some X.env)) (fun cenv s₄ =>
   codeAny (model X.prog X.w) X.A (.compStart (.ListComp elt [⟨tg,iter,ifs,0⟩] scope pos) 0 itv acc { cenv with scope:=relabel scope X.env }) (RR acc cenv.locals) s₄) E s₃) E s2:=by
 obtain⟨it,fp,tn,J,H2,e,I2,T,st2,f2,W,⟨m0,w0⟩,turn⟩:=h2
 subst e
 refine wpAny_newObj_type (wpAny_newFunctionEnv S.noCell (by intro y hy;simp at hy) (fun h₁ hns₁ hsb₁=>?_) S.kind)
 dsimp only at hns₁ hsb₁ ⊢
 generalize hH2:s2.heap.push { cls:=.type "list",dict:=none,data:=.seq ([]:List Value).toArray }=P2 at hns₁ hsb₁ ⊢
 have hC:P2.objs.size=s2.heap.objs.size+1:=by rw[<- hH2,Heap.size_push]
 have hDC:s2.heap.objs.size≠P2.objs.size:=by rw[hC];exact Nat.ne_of_lt (Nat.lt_succ_self _)
 have hCle:s2.heap.objs.size <= P2.objs.size:=by rw[hC];exact Nat.le_succ _
 have below:∀ b,b < s2.heap.objs.size->b≠P2.objs.size/\b≠s2.heap.objs.size:=fun b hb=>⟨by rw[hC];exact Nat.ne_of_lt (Nat.lt_succ_of_lt hb),Nat.ne_of_lt hb⟩
 have old:∀ b o,s2.heap.get? b=some o->h₁.get? b=some o:=fun b o e=>hsb₁.extBut b o (below b (Heap.lt_size e)).1 (Heap.get?_push_of_some _ (hH2 ▸ Heap.get?_push_of_some _ e))
 have hacc:h₁.get? s2.heap.objs.size=some (zAg [] 0):=hsb₁.extBut _ _ hDC (Heap.get?_push_of_some _ (hH2 ▸ Heap.get?_push_size _ rfl))
 have hst₁:tn 0 h₁:=T.keep _ _ _ st2 fun b _ o e=>old b o e
 have hob:∀ b∈fp,∃ o,s2.heap.get? b=some o:=fun b hb=>by
  obtain⟨o,e,_⟩:=T.obj _ _ st2 b hb
  exact⟨o,e⟩
 have fpl:∀ b∈fp,b < s2.heap.objs.size:=fun b hb=>by
  obtain⟨o,e⟩:=hob b hb
  exact Heap.lt_size e
 have cget:∀ x c,cl.lookup x=some c->X.env.cells.lookup x=some c:=fun x c e=>S.cells.get e
 have celt:∀ x c,X.env.cells.lookup x=some c->c < s2.heap.objs.size:=fun x c e=>by
  obtain⟨v,q⟩:=I2.cell x c e
  exact q.lt
 have pint:∀ p∈X.pn++pins,p.1 < s2.heap.objs.size:=fun p hp=>Heap.lt_size (I2.pin p hp).1
 have fpst:∀ b∈fp,b∉frs X.stack:=fun b hb z=>by
  rcases List.mem_cons.mp (I2.stkSub b z) with e | e
  ·exact (f2 b hb).2.1 e
  ·exact (f2 b hb).2.2.1 e
 have nst:s2.heap.objs.size∉frs X.stack:=fun z=>by
  rcases List.mem_cons.mp (I2.stkSub _ z) with e | e
  ·exact absurd (e ▸ I2.lt) (Nat.lt_irrefl _)
  ·exact I2.nofs (Nat.le_refl _) e
 have CL:P2.objs.size≠X.env.locals:=fun z=>absurd (Nat.lt_of_lt_of_le (z ▸ I2.lt) hCle) (Nat.lt_irrefl _)
 have CC:∀ x c,X.env.cells.lookup x=some c->c≠P2.objs.size:=fun x c e=>Nat.ne_of_lt (Nat.lt_of_lt_of_le (celt x c e) hCle)
 have CP:∀ p∈X.pn++pins,p.1≠P2.objs.size:=fun p hp=>Nat.ne_of_lt (Nat.lt_of_lt_of_le (pint p hp) hCle)
 have loop:∀ s₃:Shared,s₃={ s2 with heap:=h₁,toks:=s2.toks+([]:List (Str×Value)).length } ->
   codeAny (model X.prog X.w) X.A (.compLoop (.ListComp elt [⟨tg,iter,ifs,0⟩] scope pos) 0 (.ref it) (.ref s2.heap.objs.size) (compEnvC scope cl P2.objs.size X.env)) (RR (.ref s2.heap.objs.size) P2.objs.size) s₃:=by
  rintro s₃ rfl
  have I0:Inv (zc X vars scope cl P2.objs.size fp s2 H2) [(s2.heap.objs.size,zAg [] 0)] (σ++List.replicate vars.length none) H2 { s2 with heap:=h₁,toks:=s2.toks+([]:List (Str×Value)).length } :=
   zGb I2 S f2 hob (Nat.le_refl _) hCle hDC hacc (fun v z=>by cases z) hns₁ old
  refine zHy hc T (hg _ _ _ _) (ht _ _ _ _) (he _ _ _ _) (D:=s2.heap.objs.size) W (F:=fun ys H'=>∀ D,H' D=none->F D (upd H' D (.lst ys))) (Nat.le_refl _) hDC nst (fun x c e=>Nat.ne_of_lt (celt x c (cget x c e)))
   (fun b hb=>⟨(below b (fpl b hb)).1,fpst b hb,fun x c e z=>(f2 b hb).2.2.2.2.1 x c (cget x c e) z,Nat.ne_of_gt (fpl b hb)⟩) turn ?_ I0 hst₁ (fun b hb=>(f2 b hb).1) w0
  intro s' ys us n H' I' rv hz q
  obtain⟨eD,nD,_,_,_⟩:=I'.pin (s2.heap.objs.size,zAg us n) (List.mem_append_right _ List.mem_cons_self)
  have J1:Inv X pins σ H' s':=I2.call' I'.os I'.base I'.hok I'.bare (fun b hb=>⟨(f2 b hb).2.2.2.1,(f2 b hb).2.1,(f2 b hb).2.2.2.2.1,(f2 b hb).2.2.2.2.2⟩) I'.tk
  have J2:Inv X pins σ (upd H' s2.heap.objs.size (.lst ys)) s':=J1.track I2.sz nD (fun z=>absurd (z ▸ I2.lt) (Nat.lt_irrefl _)) (fun x c e=>Nat.ne_of_lt (celt x c e)) (fun p hp=>Nat.ne_of_lt (pint p hp)) ⟨hz,us,n,rv,eD⟩
  have nC:upd H' s2.heap.objs.size (.lst ys) P2.objs.size=none:=by
   rw[zZ (Ne.symm hDC)]
   exact I'.free
  refine hRR _ _ s' _ ?_ CL CC J2 (fun h' hs s'' e=>?_) (fun σ' s3 I3 _ h' hs=>?_) (q _ nD)
  ·obtain⟨m,hn,_⟩:=I'.loc
   exact⟨m,hn⟩
  ·subst e
   exact J2.turned (t':=s'.toks) (it:=P2.objs.size) (fun b o hb e=>(hs.2 b hb).trans e) nC CL (.inr (Nat.le_trans I2.sz hCle)) CC CP
  ·exact I3.turned (t':=s3.toks) (it:=P2.objs.size) (fun b o hb e=>(hs.2 b hb).trans e) nC CL (.inr (Nat.le_trans I2.sz hCle)) CC CP
 exact codeAny_compStart_list (loop _ rfl) (T.self _ 0 _ _ _ hst₁ (loop _ rfl))
theorem zCm (hc:X.calm=true) (S:jF X vars scope cl) (hi:PI X tg iter wi) (hg:∀ C fp s₂ H₂,PG (zc X vars scope cl C fp s₂ H₂) tg g) (ht:∀ C fp s₂ H₂,Ze (zc X vars scope cl C fp s₂ H₂) ifs ti)
  (he:∀ C fp s₂ H₂,PE (zc X vars scope cl C fp s₂ H₂) elt te) (hs:∀ x,foldedSetIterable iter X.env x=pure x:=by intro _;rfl):PE X (.ListComp elt [⟨tg,iter,ifs,0⟩] scope pos) (zDr vars.length wi g ti te):=by
 intro pins s σ H Q I h
 rw[eval_ListComp]
 refine wpAny_comprehension_free (use:=none) rfl hs S.clos S.kind S.names (thn (hi pins s σ H _ I h) fun v s1 h1=>thn h1 fun itv s2 h2=>?_)
 refine zCV hc S hg ht he (F:=fun D H'=>Q (.ref D) H') h2 fun D C s' H' hn hCL hCC J2 J3 _ q=>?_
 obtain⟨m,hn⟩:=hn
 exact⟨m,hn,fun h' hs'=>⟨.ref D,H',J3 h' hs' _ rfl,rfl,q⟩⟩
theorem zGi {i:Nat}{y:Str}{py spos:Pos} (hc:X.calm=true) (S:jF X vars scope cl) (hN:X.N.Nodup) (hiy:X.N[i]? = some y) (hy:Loc X.env.scope y) (hi:PI X tg iter wi)
  (hg:∀ C fp s₂ H₂,PG (zc X vars scope cl C fp s₂ H₂) tg g) (ht:∀ C fp s₂ H₂,Ze (zc X vars scope cl C fp s₂ H₂) ifs ti)
  (he:∀ C fp s₂ H₂,PE (zc X vars scope cl C fp s₂ H₂) elt te) (hs:∀ x,foldedSetIterable iter X.env x=pure x:=by intro _;rfl)
  (hsw:swapsWith (.ListComp elt [⟨tg,iter,ifs,0⟩] scope pos) (some (.Name y py)) spos.line X.env=pure true:=by rfl)
  (hf:X.fn y=true\/X.env.scope.names.lookup y=some .local:=by first | exact .inl rfl | exact .inr rfl | assumption) :
  PS X (.Assign [.Name y py] (.ListComp elt [⟨tg,iter,ifs,0⟩] scope pos) spos) (zJH (zDr vars.length wi g ti te) (zX i)):=by
 intro pins s σ H D0 I h
 rw[exec_Assign_Name_used _ _ _ _ hsw]
 refine wpAny_bind (wpAny_standAt (wpAny_bind ?_))
 show wpAny _ X.A (do let _ <- comprehension (.ListComp elt [⟨tg,iter,ifs,0⟩] scope pos) scope X.env _ (newList []) false (eval iter X.env) (some (assign (.Name y py) X.env))) _ _ s
 refine wpAny_bind (wpAny_mono (wpAny_comprehension_free (use:=some (assign (.Name y py) X.env)) (Q:=fun _ s'=>SP X pins D0 .next s') rfl hs S.clos S.kind S.names
  (thn (hi pins s σ H _ I h) fun v s1 h1=>thn h1 fun itv s2 h2=>?_)) (fun _ s' hq=>wpAny_pure (wpAny_pure hq)) fun _ _ e=>e)
 refine zCV hc S hg ht he (F:=fun D H'=>D0.nx (σ.set i (some (.ref D))) H') h2 fun D C s' H' hn hCL hCC J2 _ J4 q=>?_
 obtain⟨m,hn⟩:=hn
 show wpAny _ X.A (assign (.Name y py) X.env (.ref D)) _ _ _
 refine wpAny_assign_Name (zDM J2 hN hiy hy (v:=.ref D) rfl (fun s3 I3 ⟨a,hsb,ha⟩=>?_) hf)
 have hCa:C≠a:=by
  rcases ha with rfl | ha
  ·exact hCL
  ·exact Ne.symm (hCC y a ha)
 refine⟨m,hn.sameBut hsb hCa,fun h' hs'=>⟨σ.set i (some (.ref D)),H',J4 _ s3 I3 ⟨a,hsb,?_⟩ h' hs',q⟩⟩
 rcases ha with rfl | ha
 ·exact .inl rfl
 ·exact .inr ⟨y,ha⟩
end
end L2
namespace L2
open PySem PySem.Spec PyProof.Rows
def Its (z:Str):It:=⟨fun i _=>i < z.length,fun i H x H'=>H'=H/\∃ c,z.cps[i]? = some c/\x=.str ⟨#[c]⟩,fun i _=>z.length <= i⟩
theorem zH5 {P:Program}{w:World}{K:PySem.W.Frag}{tg:Expr} (it:Addr) (z:Str) (t:Tok):zAN P w K tg (Its z) [it] it (fun i h=>h.IsStrIter it "str_ascii_iterator" z t i) where
 mem:=by simp
 obj:=fun i h st b hb=>by
  have e:b=it:=by simpa using hb
  subst e
  obtain⟨o,e,c,d⟩:=st
  exact⟨o,e,fun v z=>by rw[d] at z;cases z⟩
 keep:=fun i h h' st k=>let ⟨o,ho,r⟩:=st;⟨o,k it (by simp) o ho,r⟩
 item:=by
  intro X hP hw hK hc i pins s σ H E I hf st hg
  subst hP hw hK
  obtain⟨f0,f1,f2,f3,f4,f5⟩:=hf it (by simp)
  have hlt:i < z.cps.size:=hg
  refine wpAny_pyNext_ascii_item st (c:=z.cps[i]) (by simp[hlt]) fun h' st' sb=>?_
  have I1:Inv X pins σ H { s with heap:=h',toks:=s.toks+1 }:=I.turned (fun b o hb e=>(sb.2 b hb).trans e) f0 f1 f3 f4 f5
  obtain⟨o,e,c,d⟩:=id st'
  exact⟨_,rfl,zBJ (s:={ s with heap:=h',toks:=s.toks+1 }) e c d (by decide) ⟨.str ⟨#[z.cps[i]]⟩,H,I1,⟨_,rfl⟩,⟨rfl,z.cps[i],by simp[hlt],rfl⟩,st',fun b hb=>(hf b hb).1⟩⟩
 done:=by
  intro X hP hw hK hc i pins s σ H E I hf st hg
  subst hP hw hK
  obtain⟨f0,f1,f2,f3,f4,f5⟩:=hf it (by simp)
  have hle:z.cps.size <= i:=hg
  exact wpAny_pyNext_ascii_end (I.ok.hd hc) st (by simp[hle]) fun h' eb=>⟨rfl,I.turned (t':=s.toks) (fun b o hb e=>eb b o hb e) f0 f1 f3 f4 f5⟩
 self:=fun _ _ _ _ _ st h=>wpAny_pyIter_striter_ascii st h
theorem zIY {P:Program}{w:World}{K:PySem.W.Frag}{tg:Expr} (it:Addr) (z:Str) (t:Tok):zAN P w K tg (Its z) [it] it (fun i h=>h.IsStrIter it "str_iterator" z t i) where
 mem:=by simp
 obj:=fun i h st b hb=>by
  have e:b=it:=by simpa using hb
  subst e
  obtain⟨o,e,c,d⟩:=st
  exact⟨o,e,fun v z=>by rw[d] at z;cases z⟩
 keep:=fun i h h' st k=>let ⟨o,ho,r⟩:=st;⟨o,k it (by simp) o ho,r⟩
 item:=by
  intro X hP hw hK hc i pins s σ H E I hf st hg
  subst hP hw hK
  obtain⟨f0,f1,f2,f3,f4,f5⟩:=hf it (by simp)
  have hlt:i < z.cps.size:=hg
  refine wpAny_pyNext_wide_item st (c:=z.cps[i]) (by simp[hlt]) fun h' st' sb=>?_
  have I1:Inv X pins σ H { s with heap:=h',toks:=s.toks+1 }:=I.turned (fun b o hb e=>(sb.2 b hb).trans e) f0 f1 f3 f4 f5
  obtain⟨o,e,c,d⟩:=id st'
  exact⟨_,rfl,zBJ (s:={ s with heap:=h',toks:=s.toks+1 }) e c d (by decide) ⟨.str ⟨#[z.cps[i]]⟩,H,I1,⟨_,rfl⟩,⟨rfl,z.cps[i],by simp[hlt],rfl⟩,st',fun b hb=>(hf b hb).1⟩⟩
 done:=by
  intro X hP hw hK hc i pins s σ H E I hf st hg
  subst hP hw hK
  obtain⟨f0,f1,f2,f3,f4,f5⟩:=hf it (by simp)
  have hle:z.cps.size <= i:=hg
  exact wpAny_pyNext_wide_end (I.ok.hd hc) st (by simp[hle]) fun h' eb=>⟨rfl,I.turned (t':=s.toks) (fun b o hb e=>eb b o hb e) f0 f1 f3 f4 f5⟩
 self:=fun _ _ _ _ _ st h=>wpAny_pyIter_striter_wide st h
def zNi (tl:TE):TI:=fun σ H R=>tl σ H fun x H1=>∃ z,x=.str z/\R (Its z) H1
theorem zLt {X:Cx}{tg l:Expr}{tl:TE} (hl:PE X l tl):PI X tg l (zNi tl):=by
 intro pins s σ H R I h
 refine thn (hl pins s σ H _ I h) fun v s1 ⟨x,H1,I1,r1,q1⟩=>?_
 obtain⟨z,e,q⟩:=q1
 subst e
 obtain⟨t,rfl⟩:=r1
 have fin:∀ b∈[s1.heap.objs.size],Jg X pins H1 b:=fun b hb=>by
  have e:b=s1.heap.objs.size:=by simpa using hb
  subst e
  exact I1.fpOk (Nat.le_refl _) (I1.hok.fresh (Nat.le_refl _))
 cases ha:z.cps.all (· < 128)
 ·refine wpAny_pyIter_wide ha ?_
  exact⟨s1.heap.objs.size,[s1.heap.objs.size],_,Its z,H1,rfl,I1.kept (t':=s1.toks) fun b o e=>Heap.get?_push_of_some _ e,zIY _ z t,⟨_,Heap.get?_push_size _ rfl,rfl,rfl⟩,fin,q⟩
 ·refine wpAny_pyIter_ascii ha ?_
  exact⟨s1.heap.objs.size,[s1.heap.objs.size],_,Its z,H1,rfl,I1.kept (t':=s1.toks) fun b o e=>Heap.get?_push_of_some _ e,zH5 _ z t,⟨_,Heap.get?_push_size _ rfl,rfl,rfl⟩,fin,q⟩
section
variable {X:Cx}
def zC3 (z:Str) (lo hi:Option Int):Str:=⟨((z.cps.toList.drop (HT.sIx z.length 0 lo)).take (HT.sIx z.length z.length hi - HT.sIx z.length 0 lo)).toArray⟩
theorem zEZ (lo hi:Option Int) (n:Nat):Builtin.Str.strSliceIndices lo hi 1 n=(List.range (HT.sIx n n hi - HT.sIx n 0 lo)).map fun k=>HT.sIx n 0 lo+k:=by
 have clip:∀ v:Int,max 0 (min (if v < 0 then v+(n:Int) else v) (n:Int))=((HT.sIx n 0 (some v):Nat):Int)/\max 0 (min (if v < 0 then v+(n:Int) else v) (n:Int))=((HT.sIx n n (some v):Nat):Int):=fun v=>by
  unfold HT.sIx
  by_cases hv:v < 0
  ·simp only[if_pos hv];omega
  ·simp only[if_neg hv];omega
 have key:∀ a b:Nat,sliceRange (a:Int) (b:Int) 1=(List.range (b - a)).map fun k=>a+k:=fun a b=>by
  unfold sliceRange
  have hc:(if (1:Int) > 0 then (if (a:Int) < (b:Int) then ((b:Int) - a+1 - 1) / 1 else 0) else (if (a:Int) > (b:Int) then ((a:Int) - b - 1 - 1) / (-1) else 0)).toNat=b - a:=by
   rw[if_pos (by decide)]
   by_cases h:(a:Int) < (b:Int)
   ·rw[if_pos h,Int.ediv_one];omega
   ·rw[if_neg h];omega
  dsimp only
  rw[hc]
  refine List.map_congr_left fun k _=>?_
  omega
 unfold Builtin.Str.strSliceIndices
 cases lo with
 | none =>
  cases hi with
  | none=>exact key 0 n
  | some v =>
   simp only[show (1:Int) > 0 by decide,if_true]
   rw[(clip v).2]
   exact key 0 _
 | some u =>
  cases hi with
  | none =>
   simp only[show (1:Int) > 0 by decide,if_true]
   rw[(clip u).1]
   exact key _ n
  | some v =>
   simp only[show (1:Int) > 0 by decide,if_true]
   rw[(clip u).1,(clip v).2]
   exact key _ _
theorem zKB {α:Type} (xs:Array α) (a m:Nat):((List.range m).map fun k=>a+k).filterMap (xs[·]?)=(xs.toList.drop a).take m:=by
 rw[List.filterMap_map]
 induction m generalizing a with
 | zero=>simp
 | succ m ih =>
  rw[List.range_succ,List.filterMap_append,ih,List.take_succ]
  congr 1
  simp only[List.filterMap_cons,List.filterMap_nil,Function.comp]
  rw[List.getElem?_drop,Array.getElem?_toList]
  cases xs[a+m]?<;>rfl
theorem zHa (z:Str) (lo hi:Option Int):Txt.slice z lo hi=zC3 z lo hi:=by
 have h1:=HT.zEk z.length 0 (Nat.zero_le _) lo
 have h2:=HT.zEk z.length z.length (Nat.le_refl _) hi
 unfold Txt.slice zC3
 rw[zEZ,zKB]
 split
 ·rename_i h
  rw[List.length_map,List.length_range] at h
  have h3:HT.sIx z.length z.length hi - HT.sIx z.length 0 lo=z.length:=by
   have h':=(Bool.and_eq_true_iff.mp h).2
   exact eq_of_beq h'
  have e1:HT.sIx z.length 0 lo=0:=by omega
  rw[h3,e1,List.drop_zero]
  have hl:z.cps.toList.length=z.length:=by simp[Str.length]
  rw[List.take_of_length_le (by omega)]
 ·rfl
def zN0:V->Option Int->Option Int->Hp->VK->Prop:=fun x lo hi H Q=>∃ z,x=.str z/\z.length <= sizeLine/\Q (.str (zC3 z lo hi)) H
theorem zMC:SlR X zN0:=by
 intro pins s σ H x v vl vu lo hi sl Q I rx hs pl pu h
 obtain⟨z,rfl,hz,q⟩:=h
 obtain⟨t,rfl⟩:=rx
 refine⟨"str",_,F.slot_str_getitem.lookup,typeIs_str _ _ _,wpAny_with_toks (n:=1) I.tk ?_⟩
 obtain⟨o,ho,hc,hd⟩:=hs
 have fin:(Txt.slice z lo hi).length <= sizeLine/\∀ t' k,1 <= ({ s with toks:=k }:Shared).toks->EP X pins σ Q (.str (Txt.slice z lo hi) t') { s with toks:=k } :=
  ⟨Nat.le_trans (Txt.slice_le z lo hi) hz,fun t' k hk=>⟨.str (Txt.slice z lo hi),H,I.tok k hk,⟨_,rfl⟩,by rw[zHa];exact q⟩⟩
 cases pl with
 | none =>
  cases pu with
  | none=>exact wpAny_getItem_str_slice (l:=none) (u:=none) (st:=none) ⟨o,ho,hc,hd⟩ rfl (post_val_or_str fin)
  | int j uj=>exact wpAny_getItem_str_slice (l:=none) (u:=some (j,uj)) (st:=none) ⟨o,ho,hc,hd⟩ rfl (post_val_or_str fin)
 | int i ui =>
  cases pu with
  | none=>exact wpAny_getItem_str_slice (l:=some (i,ui)) (u:=none) (st:=none) ⟨o,ho,hc,hd⟩ rfl (post_val_or_str fin)
  | int j uj=>exact wpAny_getItem_str_slice (l:=some (i,ui)) (u:=some (j,uj)) (st:=none) ⟨o,ho,hc,hd⟩ rfl (post_val_or_str fin)
theorem zAh {ys:List Str}:∀ {us:List Value},zY (ys.map V.str) us->StrsAre us ys:=by
 induction ys with
 | nil=>intro us r;rw[List.map_nil] at r;cases r;exact .nil
 | cons y ys ih =>
  intro us r
  rw[List.map_cons] at r
  cases r with
  | cons r1 r2 =>
   obtain⟨t,e⟩:=r1
   subst e
   exact .cons y t (ih r2)
def zDu (K:PySem.W.Frag):V->List V->Hp->VK->Prop:=fun x vs H Q=>∃ z p ys,x=.str z/\vs=[.ref p]/\(SqL K H p (ys.map V.str)\/SqT K H p (ys.map V.str))/\(ys.map (·.length)).sum+ys.length * z.length <= 16777216/\Q (.str (Txt.join z ys)) H
theorem zK8:MtR X "str.join" (zDu X.K):=by
 intro pins s σ H x vs v us Q I rx rv h
 obtain⟨z,p,ys,rfl,rfl,hq,hz,q⟩:=h
 obtain⟨t,rfl⟩:=rx
 obtain⟨u,rfl,ru⟩:=Zq rv
 cases ru
 rcases hq with hq | hq
 ·obtain⟨its,r,pl,_⟩:=I.list hq
  exact wpAny_with_toks (n:=1) I.tk (join_list pl.isList (by simpa using zAh r) hz fun t' k hk=>⟨.str (Txt.join z ys),H,I.tok k hk,⟨_,rfl⟩,q⟩)
 ·obtain⟨its,r,pl,_⟩:=I.tuple hq
  exact wpAny_with_toks (n:=1) I.tk (join_tuple pl (by simpa using zAh r) hz fun t' k hk=>⟨.str (Txt.join z ys),H,I.tok k hk,⟨_,rfl⟩,q⟩)
end
end L2
namespace L2
open PySem PySem.Spec PyProof.Rows PySem.Builtin.Str
section
variable {X:Cx}
theorem zGz:OpR X (binaryOp .Mult) (fun x y H Q=>∃ z n,x=.str z/\y=.int n/\MulOk z n/\Q (.str (Txt.mul z n)) H):=by
 intro pins s σ H x y v u Q I rx ry h
 obtain⟨z,n,rfl,rfl,hm,q⟩:=h
 obtain⟨t,rfl⟩:=rx
 obtain⟨t',rfl⟩:=ry
 exact wpAny_with_toks (n:=1) I.tk (SB.mul hm fun t' k hk=>⟨.str _,H,I.tok k hk,⟨_,rfl⟩,q⟩)
theorem zI2 {bs:List Bool}:∀ {us:List Value},zY (bs.map V.bl) us->us=bs.map Value.bool:=by
 induction bs with
 | nil=>intro us r;rw[List.map_nil] at r;cases r;rfl
 | cons b bs ih =>
  intro us r
  rw[List.map_cons] at r
  cases r with
  | cons r1 r2=>rw[ih r2];cases r1;rfl
theorem zCk (bs:List Bool):((List.range bs.length).all fun i=>bs.getD i false)=bs.all id:=by
 induction bs with
 | nil=>rfl
 | cons b bs ih =>
  rw[List.length_cons,List.range_succ_eq_map,List.all_cons,List.all_map,List.all_cons,<- ih]
  rfl
def zLx (K:PySem.W.Frag):List V->Hp->VK->Prop:=fun xs H Q=>∃ (p:Addr) (bs:List Bool),xs=[.ref p]/\SqL K H p (bs.map V.bl)/\Q (.bl (bs.all id)) H
theorem zI4 (hc:X.calm=true):jp X (.builtin "all") (zLx X.K):=by
 intro pins s σ H xs us Q I r h
 obtain⟨p,bs,rfl,hq,q⟩:=h
 obtain⟨u,rfl,ru⟩:=Zq r
 cases ru
 obtain⟨its,rv,pl,hz⟩:=I.list hq
 have e:=zI2 rv
 subst e
 obtain⟨o,ho,ho2⟩:=pl.isList
 have hlt:p < s.heap.objs.size:=Heap.lt_size ho
 refine wpAny_with_toks (n:=1) I.tk (call_all_walk (wpAny_pyIter_list pl.isList ?_))
 refine⟨s.heap.objs.size,_,_,_,_,_,fun i=>bs.getD i false,rfl,Walks.list (show X.A.in1.handled=none from I.ok.hd hc) s.heap.objs.size p (Nat.ne_of_lt hlt) (bs.map Value.bool).toArray,⟨⟨_,Heap.get?_push_size _ rfl,rfl,rfl⟩,pl.isList.push _⟩,?_,fun h' tk hk htk=>?_⟩
 ·intro i v s' Q' E' hP hQ
  have hP':(bs.map Value.bool)[i]? = some v:=by simpa using hP
  rw[List.getElem?_map] at hP'
  cases hb:bs[i]? with
  | none=>rw[hb] at hP';cases hP'
  | some b =>
   rw[hb] at hP'
   cases hP'
   have e:bs.getD i false=b:=by simp[List.getD,hb]
   dsimp only at hQ
   rw[e] at hQ
   exact wpAny_truthy_bool hQ
 ·have hk':∀ b o,s.heap.get? b=some o->h'.get? b=some o:=fun b o e=>hk b o (by simpa using Nat.ne_of_lt (Heap.lt_size e)) (Heap.get?_push_of_some _ e)
  refine⟨.bl (bs.all id),H,I.kept hk' htk,?_,q⟩
  show Value.bool _=Value.bool _
  rw[<- zCk]
  simp
end
mutual
inductive qB (K:PySem.W.Frag) (H:Hp):V->PyData->Prop
 | non:qB K H .non .none
 | bl (b:Bool):qB K H (.bl b) (.bool b)
 | int (i:Int):qB K H (.int i) (.int i)
 | str (x:Str):qB K H (.str x) (.str x)
 | lst {p:Addr}{xs:List V}{ds:List PyData}:SqL K H p xs->ZS K H xs ds->qB K H (.ref p) (.list ds)
 | tup {p:Addr}{xs:List V}{ds:List PyData}:SqT K H p xs->ZS K H xs ds->qB K H (.ref p) (.tuple ds)
inductive ZS (K:PySem.W.Frag) (H:Hp):List V->List PyData->Prop
 | nil:ZS K H [] []
 | cons {v:V}{d:PyData}{vs:List V}{ds:List PyData}:qB K H v d->ZS K H vs ds->ZS K H (v::vs) (d::ds)
end
section
variable {X:Cx}{pins:List (Addr×Obj)}{σ:St}{H:Hp}{s:Shared}
mutual
theorem qB.reads (I:Inv X pins σ H s):∀ {v:V}{d:PyData}{u:Value},qB X.K H v d->ze v u->∃ as,Reads s.heap u d as
 | _,_,_,.non,r=>by cases r;exact⟨_,.none⟩
 | _,_,_,.bl b,r=>by cases r;exact⟨_,.bool b⟩
 | _,_,_,.int i,r=>by obtain⟨t,rfl⟩:=r;exact⟨_,.int i t⟩
 | _,_,_,.str x,r=>by obtain⟨t,rfl⟩:=r;exact⟨_,.str x t⟩
 | _,_,_,.lst hq ha,r=>by
  cases r
  obtain⟨its,rv,⟨o,n,e,hc,hd,hs⟩,_⟩:=I.list hq
  obtain⟨as,ra⟩:=ZS.reads I ha rv
  exact⟨_,.list e hc hs (by simpa using ra)⟩
 | _,_,_,.tup hq ha,r=>by
  cases r
  obtain⟨its,rv,⟨o,e,hc,n,hs⟩,_⟩:=I.tuple hq
  obtain⟨as,ra⟩:=ZS.reads I ha rv
  exact⟨_,.tuple e hc hs (by simpa using ra)⟩
theorem ZS.reads (I:Inv X pins σ H s):∀ {vs:List V}{ds:List PyData}{us:List Value},ZS X.K H vs ds->zY vs us->∃ as,ReadsAll s.heap us ds as
 | _,_,_,.nil,r=>by cases r;exact⟨_,.nil⟩
 | _,_,_,.cons h t,r=>by
  cases r with
  | cons r1 r2 =>
   obtain⟨as,ra⟩:=qB.reads I h r1
   obtain⟨bs,rb⟩:=ZS.reads I t r2
   exact⟨_,.cons ra rb⟩
end
end
section
variable {X:Cx}
def zIi (K:PySem.W.Frag) (neg:Bool):R2:=fun x y H Q=>∃ d e,qB K H x d/\qB K H y e/\SeqAt.shaped d=true/\SeqAt.shaped e=true/\Q (.bl (if neg then !PyData.eqv d e else PyData.eqv d e)) H
theorem zLe {k:Nat} (hr:jN k X.A):OpR X (compareOp .Eq) (zIi X.K false):=by
 intro pins s σ H x y v u Q I rx ry h
 obtain⟨d,e,hd,he,sd,se,q⟩:=h
 obtain⟨as,ra⟩:=hd.reads I rx
 obtain⟨bs,rb⟩:=he.reads I ry
 exact eq_dataH ra rb sd se hr.units ⟨.bl _,H,I,rfl,q⟩
theorem zLv {k:Nat} (hr:jN k X.A):OpR X (compareOp .NotEq) (zIi X.K true):=by
 intro pins s σ H x y v u Q I rx ry h
 obtain⟨d,e,hd,he,sd,se,q⟩:=h
 obtain⟨as,ra⟩:=hd.reads I rx
 obtain⟨bs,rb⟩:=he.reads I ry
 exact ne_dataH ra rb sd se hr.units ⟨.bl _,H,I,rfl,q⟩
where RelC:V->Value->Prop:=fun c cv=>(∃ n,c=.ty n/\cv=.type n)\/∃ a,c=.ref a/\cv=.ref a
end
end L2
namespace L2
open PySem PySem.Spec PyProof.Rows
section
variable {X:Cx}
def zMO:R2:=fun x y H Q=>match x,y with
 | .int i,.int j=>Q (.int (i+j)) H
 | .str a,.str b=>a.length+b.length <= sizeLine/\Q (.str (a++b)) H
 | .ref l,.ref b=>∃ xs zs,H l=some (.lst xs)/\H b=some (.lst zs)/\xs.length+zs.length <= sizeLine/\∀ p,H p=none->Q (.ref p) (upd H p (.lst (xs++zs)))
 | _,_=>False
theorem qO:OpR X (binaryOp .Add) zMO:=by
 intro pins s σ H x y v u Q I rx ry h
 cases x with
 | int i =>
  cases y with
  | int j=>exact zLp pins s σ H _ _ v u Q I rx ry ⟨i,j,rfl,rfl,h⟩
  | _=>exact False.elim h
 | str a =>
  cases y with
  | str b=>exact zG3 pins s σ H _ _ v u Q I rx ry ⟨a,b,rfl,rfl,h⟩
  | _=>exact False.elim h
 | ref l =>
  cases y with
  | ref b =>
   obtain⟨xs,zs,h1,h2,h3,h4⟩:=h
   exact zLC pins s σ H _ _ v u Q I rx ry ⟨l,b,xs,zs,rfl,rfl,h1,h2,h3,h4⟩
  | _=>exact False.elim h
 | _=>exact False.elim h
def zLn:R2:=fun x y H Q=>match x,y with
 | .int i,.int j=>Q (.int (i - j)) H
 | _,_=>False
theorem zHB:OpR X (binaryOp .Sub) zLn:=by
 intro pins s σ H x y v u Q I rx ry h
 cases x with
 | int i =>
  cases y with
  | int j=>exact zLu pins s σ H _ _ v u Q I rx ry ⟨i,j,rfl,rfl,h⟩
  | _=>exact False.elim h
 | _=>exact False.elim h
def zMz:R2:=fun x y H Q=>match x,y with
 | .int i,.int j=>zGY i j/\Q (.int (i * j)) H
 | .str z,.int n=>MulOk z n/\Q (.str (Txt.mul z n)) H
 | _,_=>False
theorem zNO:OpR X (binaryOp .Mult) zMz:=by
 intro pins s σ H x y v u Q I rx ry h
 cases x with
 | int i =>
  cases y with
  | int j=>exact zLq pins s σ H _ _ v u Q I rx ry ⟨i,j,rfl,rfl,h⟩
  | _=>exact False.elim h
 | str z =>
  cases y with
  | int n=>exact zGz pins s σ H _ _ v u Q I rx ry ⟨z,n,rfl,rfl,h⟩
  | _=>exact False.elim h
 | _=>exact False.elim h
def zMP:R2:=fun x y H Q=>match x,y with
 | .int i,.int j=>0 < j/\Q (.int (i % j)) H
 | _,_=>False
theorem jh:OpR X (binaryOp .Mod) zMP:=by
 intro pins s σ H x y v u Q I rx ry h
 cases x with
 | int i =>
  cases y with
  | int j=>exact zMJ pins s σ H _ _ v u Q I rx ry ⟨i,j,rfl,rfl,h⟩
  | _=>exact False.elim h
 | _=>exact False.elim h
def zLs:R2:=fun x y H Q=>match x,y with
 | .int i,.int j=>(0 < j/\j < 1073741824)/\Q (.int (i / j)) H
 | _,_=>False
theorem QD:OpR X (binaryOp .FloorDiv) zLs:=by
 intro pins s σ H x y v u Q I rx ry h
 cases x with
 | int i =>
  cases y with
  | int j=>exact zKz pins s σ H _ _ v u Q I rx ry ⟨i,j,rfl,rfl,h⟩
  | _=>exact False.elim h
 | _=>exact False.elim h
def uLt:R2:=fun x y H Q=>match x,y with
 | .int i,.int j=>Q (.bl (decide (i < j))) H
 | .str i,.str j=>Q (.bl (decide (i.cps.toList < j.cps.toList))) H
 | _,_=>False
theorem zNs:OpR X (compareOp .Lt) uLt:=by
 intro pins s σ H x y v u Q I rx ry h
 cases x with
 | int i =>
  cases y with
  | int j=>exact zM6 pins s σ H _ _ v u Q I rx ry ⟨i,j,rfl,rfl,h⟩
  | _=>exact False.elim h
 | str i =>
  cases y with
  | str j=>exact zHN pins s σ H _ _ v u Q I rx ry ⟨i,j,rfl,rfl,h⟩
  | _=>exact False.elim h
 | _=>exact False.elim h
def uGt:R2:=fun x y H Q=>match x,y with
 | .int i,.int j=>Q (.bl (decide (j < i))) H
 | _,_=>False
theorem zG9:OpR X (compareOp .Gt) uGt:=by
 intro pins s σ H x y v u Q I rx ry h
 cases x with
 | int i =>
  cases y with
  | int j=>exact zM8 pins s σ H _ _ v u Q I rx ry ⟨i,j,rfl,rfl,h⟩
  | _=>exact False.elim h
 | _=>exact False.elim h
def uIn (K:PySem.W.Frag) (neg:Bool):R2:=fun x y H Q=>match x,y with
 | .str i,.str j=>Q (.bl (xor neg (!(Builtin.Str.occurrences j i 0 j.length 1).isEmpty))) H
 | x,.ref p=>∃ xs,(SqL K H p xs\/SqT K H p xs)/\yD x=true/\xs.all yD=true/\Q (.bl (xor neg (inV x xs))) H
 | _,_=>False
theorem zN8:OpR X (compareOp .In) (uIn X.K false):=by
 intro pins s σ H x y v u Q I rx ry h
 cases y with
 | str j =>
  cases x with
  | str i =>
   have h':Q (.bl (xor false (!(Builtin.Str.occurrences j i 0 j.length 1).isEmpty))) H:=h
   rw[Bool.false_xor] at h'
   exact zHn pins s σ H _ _ v u Q I rx ry ⟨i,j,rfl,rfl,h'⟩
  | _=>exact False.elim h
 | ref p =>
  have h':∃ xs,(SqL X.K H p xs\/SqT X.K H p xs)/\yD x=true/\xs.all yD=true/\Q (.bl (xor false (inV x xs))) H:=by cases x<;>exact h
  obtain⟨xs,h1,h2,h3,h4⟩:=h'
  rw[Bool.false_xor] at h4
  exact zIV pins s σ H _ _ v u Q I rx ry ⟨p,xs,rfl,h1,h2,h3,h4⟩
 | _=>cases x<;>exact False.elim h
theorem zKS:OpR X (compareOp .NotIn) (uIn X.K true):=by
 intro pins s σ H x y v u Q I rx ry h
 cases y with
 | str j =>
  cases x with
  | str i =>
   have h':Q (.bl (xor true (!(Builtin.Str.occurrences j i 0 j.length 1).isEmpty))) H:=h
   rw[Bool.true_xor] at h'
   exact zE8 pins s σ H _ _ v u Q I rx ry ⟨i,j,rfl,rfl,h'⟩
  | _=>exact False.elim h
 | ref p =>
  have h':∃ xs,(SqL X.K H p xs\/SqT X.K H p xs)/\yD x=true/\xs.all yD=true/\Q (.bl (xor true (inV x xs))) H:=by cases x<;>exact h
  obtain⟨xs,h1,h2,h3,h4⟩:=h'
  rw[Bool.true_xor] at h4
  exact zEd pins s σ H _ _ v u Q I rx ry ⟨p,xs,rfl,h1,h2,h3,h4⟩
 | _=>cases x<;>exact False.elim h
def uIx (K:PySem.W.Frag):R2:=fun x y H Q=>match x,y with
 | .str z,.int i=>∃ c,z.length <= sizeLine/\atI z.cps.toList i=some c/\Q (.str ⟨#[c]⟩) H
 | .ref p,.int i=>∃ xs v,(SqL K H p xs\/SqT K H p xs)/\atI xs i=some v/\Q v H
 | _,_=>False
theorem zNt:IxR X (uIx X.K):=by
 intro value slice pins s σ H x y v u Q I rx ry h hs
 cases x with
 | str z =>
  cases y with
  | int i =>
   obtain⟨c,h1,h2,h3⟩:=h
   exact zLP value slice pins s σ H _ _ v u Q I rx ry ⟨z,i,c,rfl,rfl,h1,h2,h3⟩ hs
  | _=>exact False.elim h
 | ref p =>
  cases y with
  | int i =>
   obtain⟨xs,c,h1 | h1,h2,h3⟩:=h
   ·exact zKK value slice pins s σ H _ _ v u Q I rx ry ⟨p,xs,i,c,rfl,rfl,h1,h2,h3⟩ hs
   ·exact zLE value slice pins s σ H _ _ v u Q I rx ry ⟨p,xs,i,c,rfl,rfl,h1,h2,h3⟩ hs
  | _=>exact False.elim h
 | _=>exact False.elim h
def uSl (K:PySem.W.Frag):V->Option Int->Option Int->Hp->VK->Prop:=fun x lo hi H Q=>match x with
 | .str z=>z.length <= sizeLine/\Q (.str (zC3 z lo hi)) H
 | .ref a=>(∃ xs,SqL K H a xs/\∀ p,H p=none->Q (.ref p) (upd H p (.lst (Jh xs lo hi)))) \/
   (∃ xs,SqT K H a xs /\ ¬ (HT.sIx xs.length 0 lo=0/\HT.sIx xs.length xs.length hi=xs.length)/\∀ p,H p=none->Q (.ref p) (upd H p (.tup (Jh xs lo hi))))
 | _=>False
theorem zBj:SlR X (uSl X.K):=by
 intro pins s σ H x v vl vu lo hi sl Q I rx hs pl pu h
 cases x with
 | str z=>exact zMC pins s σ H _ v vl vu lo hi sl Q I rx hs pl pu ⟨z,rfl,h⟩
 | ref a =>
  rcases h with ⟨xs,h1,h2⟩ | ⟨xs,h1,h2,h3⟩
  ·exact zJ4 pins s σ H _ v vl vu lo hi sl Q I rx hs pl pu ⟨a,xs,rfl,h1,h2⟩
  ·exact zL8 pins s σ H _ v vl vu lo hi sl Q I rx hs pl pu ⟨a,xs,rfl,h1,h2,h3⟩
 | _=>exact False.elim h
def zMX (K:PySem.W.Frag):List V->Hp->VK->Prop:=fun xs H Q=>match xs with
 | [.str z]=>z.length <= sizeLine/\Q (.int z.length) H
 | [.ref p]=>∃ ys,(SqL K H p ys\/SqT K H p ys)/\Q (.int ys.length) H
 | _=>False
theorem zNH:jp X (.builtin "len") (zMX X.K):=by
 intro pins s σ H xs us Q I r h
 match xs,h with
 | [.str z],h=>exact zDy pins s σ H _ us Q I r ⟨z,rfl,h⟩
 | [.ref p],h =>
  obtain⟨ys,h1,h2⟩:=h
  exact zEN pins s σ H _ us Q I r ⟨p,ys,rfl,h1,h2⟩
end
theorem ZJ:bootBuiltins "len" = some (.builtin "len"):=by decide +kernel
theorem zLc:bootBuiltins "all" = some (.builtin "all"):=by decide +kernel
theorem Qz:bootBuiltins "isinstance" = some (.builtin "isinstance"):=by decide +kernel
theorem zH6:bootBuiltins "str" = some (.type "str"):=by decide +kernel
theorem zLm:bootBuiltins "int" = some (.type "int"):=by decide +kernel
theorem Z6:bootBuiltins "list" = some (.type "list"):=by decide +kernel
structure Has (P:Program) (w:World) (K:PySem.W.Frag) (mg:Str->Option Value) (base:Heap) (x:Str) (k:Nat) (ps:List Str) (sp:Sp):Prop where
 ex:∃ f fd,qE P w K mg base CX0 k f fd ps sp/\JU K fd ps []/\PySem.W.keepIn K (.ref f)=true/\mg x=some (.ref f)
section
variable {X:Cx}{k kk:Nat}{x:Str}{ps:List Str}{sp:Sp}{e:Expr}{es:List Expr}{t:TA}{p pos:Pos}
theorem zIz (h:Has X.prog X.w X.K X.mg X.base x k ps sp) (hr:jN kk X.A) (hk:k <= kk) (hg:Gl X x) (ha:PA X (e::es) t) (hx:J5 CX0 X E0:=by exact zGw) (hdb:(x == ("__debug__" : Str))=false:=by decide)
  (he:starEach (e::es) X.env=(false,eval e X.env)::starEach es X.env:=by rfl) (hpl:(backTo pos (starEach es X.env)).any (·.1)=false:=by rfl) :
  PE X (.Call (.Name x p) (e::es) [] pos) (zJm sp [] E0 t):=by
 obtain⟨f,fd,F,b,kp,m⟩:=h.ex
 exact zKY F (hr.mono hk) hg m kp b .nil hx ha hdb he hpl
structure zOK (mg:Str->Option Value) (x:Str) (v:V):Prop where
 ex:∃ u,mg x=some u/\ze v u
end
theorem JE {K:PySem.W.Frag}{A B:String}{b:Bool} (h:(if (Value.type A == Value.type B)=true then some true else if PySem.W.kitMeta B=true then (PySem.fastBuiltinMro A).map (·.contains (Value.type B)) else none)=some b):PySem.W.kitOne K (.type A) (.type B)=some b:=h
end L2
namespace TX
open PySem
def sp (y:Nat):Nat:=if y=10 then 32 else y
end TX
namespace TS
open PySem PyProof.Rows
variable {prog:Program}{w:World}{A:Around}{E:Value->Shared->Prop}{s:Shared}{a₀:Array Keyed}{κ:KeyKind}
structure SG (a₀:Array Keyed) (st:SortSt):Prop where
 pm:(arrOf st).Perm a₀
 kd:kindOf st=oneType'
 fl:failedOf st=none
theorem SG.sz {st:SortSt} (h:SG a₀ st):(arrOf st).size=a₀.size:=h.pm.size_eq
theorem SG.arr {st:SortSt} (h:SG a₀ st) {xs:Array Keyed} (p:xs.Perm (arrOf st)):SG a₀ (setArr st xs):=⟨p.trans h.pm,h.kd,h.fl⟩
theorem SG.item {st:SortSt} (h:SG a₀ st) (h0:KeysOf κ a₀) {i:Nat} (hi:i < a₀.size):∃ x p a,(arrOf st)[i]? = some (x,p)/\κ.keyOf x=some a/\KK κ (arrOf st) i=a:=by
 have hi':i < (arrOf st).size:=by rw[h.sz];exact hi
 have hm:(arrOf st)[i]∈a₀.toList:=(Array.perm_iff_toList_perm.mp h.pm).mem_iff.mp (by simp)
 obtain⟨a,ha⟩:=h0 _ hm
 have e:(arrOf st)[i]? = some ((arrOf st)[i].1,(arrOf st)[i].2):=getElem?_pos _ i hi'
 exact⟨_,_,a,e,ha,by unfold KK;rw[e];show (κ.keyOf (arrOf st)[i].1).getD κ.dflt=a;rw[ha];rfl⟩
theorem zCS {st:SortSt}{i j:Nat}{Q:Option Bool->SortSt->Prop} (hO:κ.OneLt) (h0:KeysOf κ a₀) (g:SG a₀ st) (hi:i < a₀.size) (hj:j < a₀.size) (h:Q (some (κ.blt (KK κ (arrOf st) i) (KK κ (arrOf st) j))) st):wpS (model prog w) A E s (ltAt' i j) Q st:=by
 obtain⟨x,p,a,e1,h1,k1⟩:=g.item h0 hi
 obtain⟨y,q,b,e2,h2,k2⟩:=g.item h0 hj
 rw[k1,k2] at h
 exact wpS_ltAtK hO g.kd e1 e2 h1 h2 h
def Ri (κ:KeyKind) (xs:Array Keyed) (lo k:Nat):Prop:=∀ i j,i <= j->j < k->κ.kle (KK κ xs (lo+i)) (KK κ xs (lo+j))
structure jg (a₀:Array Keyed) (lo hi:Nat) (st st':SortSt):Prop where
 ok:SG a₀ st'
 out:∀ k,k < lo\/hi <= k->(arrOf st')[k]? = (arrOf st)[k]?
 pd:pendingOf st'=pendingOf st
theorem jg.refl {lo hi:Nat}{st:SortSt} (g:SG a₀ st):jg a₀ lo hi st st:=⟨g,fun _ _=>rfl,rfl⟩
theorem jg.trans {lo hi:Nat}{st st' st'':SortSt} (h:jg a₀ lo hi st st') (k:jg a₀ lo hi st' st''):jg a₀ lo hi st st'':=⟨k.ok,fun i hi=>(k.out i hi).trans (h.out i hi),k.pd.trans h.pd⟩
theorem zIB {st:SortSt}{lo n ok:Nat}{Q:Bool->SortSt->Prop} (hO:κ.OneLt) (h0:KeysOf κ a₀) (hn:lo+n <= a₀.size) (hok:ok <= n) (g:SG a₀ st) (hs:Ri κ (arrOf st) lo ok)
  (h:∀ st',jg a₀ lo (lo+n) st st'->Ri κ (arrOf st') lo n->Q true st'):wpS (model prog w) A E s (binarySort' lo n ok) Q st:=by
 rw[binarySort'_eq]
 refine wpS_bind (wpS_mono (wpS_forRange (I:=fun k c t=>c=(none,())/\jg a₀ lo (lo+n) st t/\Ri κ (arrOf t) lo (min k n))
  (Q:=fun c t=>c=(none,())/\jg a₀ lo (lo+n) st t/\Ri κ (arrOf t) lo n) (fun k c t hak hkn ⟨ec,kp,ri⟩=>?step) (fun c t ⟨ec,kp,ri⟩=>⟨ec,kp,?fin⟩) ⟨rfl,jg.refl g,fun i j hij hj=>?ini⟩) fun c t ⟨ec,kp,ri⟩=>?post)
 case step =>
  subst ec
  rw[show min k n=k by omega] at ri
  have kl:lo+k < a₀.size:=by omega
  refine wpS_bind (wpS_mono (wpS_forRange (I:=fun x c u=>u=t/\∃ l r,c=(none,l,r)/\l <= r/\r <= k/\r - l <= k - x/\(∀ i,i < l->κ.kle (KK κ (arrOf t) (lo+i)) (KK κ (arrOf t) (lo+k)))/\(∀ i,r <= i->i < k->κ.klt (KK κ (arrOf t) (lo+k)) (KK κ (arrOf t) (lo+i))))
   (Q:=fun c u=>u=t/\∃ l r,c=(none,l,r)/\l <= k/\(∀ i,i < l->κ.kle (KK κ (arrOf t) (lo+i)) (KK κ (arrOf t) (lo+k)))/\(∀ i,l <= i->i < k->κ.klt (KK κ (arrOf t) (lo+k)) (KK κ (arrOf t) (lo+i))))
   (fun x c u _ hx ⟨eu,l,r,ec,h1,h2,h3,h4,h5⟩=>?st2) (fun c u ⟨eu,l,r,ec,h1,h2,h3,h4,h5⟩=>?fi2) ⟨rfl,0,k,rfl,by omega,by omega,by omega,fun i hi=>by omega,fun i h1 h2=>by omega⟩) fun c u ⟨eu,l,r,ec,h1,h2,h3⟩=>?po2)
  case st2 =>
   subst eu ec
   dsimp only
   by_cases hge:l ≥ r
   ·rw[if_pos hge]
    obtain rfl:l=r:=by omega
    exact wpS_pure ⟨rfl,l,l,rfl,h2,h4,h5⟩
   ·rw[if_neg hge]
    refine wpS_bind (zCS hO h0 kp.ok kl (by omega) ?_)
    cases hb:κ.blt (KK κ (arrOf u) (lo+k)) (KK κ (arrOf u) (lo+(l+r) / 2)) with
    | true =>
     simp only[if_true]
     exact wpS_pure ⟨rfl,l,(l+r) / 2,rfl,by omega,by omega,by omega,h4,fun i a b=>KeyOrd.klt_of_klt_of_kle hb (ri _ _ a b)⟩
    | false =>
     simp only[Bool.false_eq_true,if_false]
     exact wpS_pure ⟨rfl,(l+r) / 2+1,r,rfl,by omega,by omega,by omega,fun i a=>KeyOrd.kle_trans (ri i ((l+r) / 2) (by omega) (by omega)) (show κ.kle _ _ from hb),h5⟩
  case fi2 =>
   subst eu ec
   obtain rfl:l=r:=by omega
   exact⟨rfl,l,l,rfl,h2,h4,h5⟩
  case po2 =>
   subst eu ec
   show wpS _ _ _ _ (do moveDown' (lo+k) (lo+l);pure (ForInStep.yield (none,()))) _ _
   rw[moveDown'_eq]
   have ks:lo+k < (arrOf u).size:=by rw[kp.ok.sz];exact kl
   refine wpS_bind (wpS_modify (wpS_pure ⟨rfl,kp.trans ⟨kp.ok.arr (bubble_perm _ _ _),fun i hi=>?_,rfl⟩,?_⟩))
   ·show (bubble (arrOf u) (lo+k) (lo+k - (lo+l)))[i]? = _
    rw[getElem?_bubble ks _ (by omega),if_neg (by omega),if_neg (by omega)]
   ·rw[show min (k+1) n=k+1 by omega]
    intro i j hij hj
    show κ.kle (KK κ (bubble (arrOf u) (lo+k) (lo+k - (lo+l))) (lo+i)) (KK κ (bubble (arrOf u) (lo+k) (lo+k - (lo+l))) (lo+j))
    rw[KK_bubble ks (by omega),KK_bubble ks (by omega),show lo+k - (lo+k - (lo+l))=lo+l by omega]
    by_cases c1:lo+i=lo+l<;>by_cases c2:lo+l < lo+i/\lo+i <= lo+k<;>by_cases c3:lo+j=lo+l<;>by_cases c4:lo+l < lo+j/\lo+j <= lo+k<;>simp only[c1,c2,c3,c4,if_true,if_false]<;>try omega
    ·exact KeyOrd.kle_refl _
    ·exact KeyOrd.kle_of_klt (by have:=h3 (j - 1) (by omega) (by omega);rwa [show lo+(j - 1)=lo+j - 1 by omega] at this)
    ·have:=ri (i - 1) (j - 1) (by omega) (by omega);rwa [show lo+(i - 1)=lo+i - 1 by omega,show lo+(j - 1)=lo+j - 1 by omega] at this
    ·exact h2 _ (by omega)
    ·have:=ri i (j - 1) (by omega) (by omega);rwa [show lo+(j - 1)=lo+j - 1 by omega] at this
    ·exact ri _ _ (by omega) (by omega)
 case fin=>rwa [show min (max (max ok 1) n) n=n by omega] at ri
 case ini =>
  by_cases h1:ok=0
  ·obtain rfl:i=j:=by omega
   exact KeyOrd.kle_refl _
  ·exact hs i j hij (by omega)
 case post =>
  subst ec
  exact wpS_pure (h t kp ri)
def zED (lo a nrem:Nat):StateT SortSt Sem AscSt :=
 forIn [a:nrem] ((none,a):AscSt) fun _ c=>do
  match <- ltAt' (lo+c.2) (lo+c.2 - 1) with
  | some b=>if b=true then pure (ForInStep.done (none,c.2)) else pure (ForInStep.yield (none,c.2+1))
  | _=>pure (ForInStep.done (some none,c.2))
def tl3 (lo n nrem:Nat):StateT SortSt Sem (Option Nat):=do
 reverseSlice' lo (lo+n)
 let c <- zED lo n nrem
 match c.1 with
 | some r=>pure r
 | none=>pure (some c.2)
def zG8 (lo n nrem:Nat):StateT SortSt Sem DescSt :=
 forIn [n:nrem] ((none,n,0):DescSt) fun _ c=>do
  match <- ltAt' (lo+c.2.1) (lo+c.2.1 - 1) with
  | some b =>
   if b=true then
    if c.2.2 > 0 then do
     reverseSlice' (lo+c.2.1 - (c.2.2+1)) (lo+c.2.1)
     pure (ForInStep.yield (none,c.2.1+1,0))
    else pure (ForInStep.yield (none,c.2.1+1,0))
   else do
    match <- ltAt' (lo+c.2.1 - 1) (lo+c.2.1) with
    | some b=>if b=true then pure (ForInStep.done (none,c.2.1,c.2.2)) else pure (ForInStep.yield (none,c.2.1+1,c.2.2+1))
    | _=>pure (ForInStep.done (some none,c.2.1,c.2.2))
  | _=>pure (ForInStep.done (some none,c.2.1,c.2.2))
def zFI (lo n nrem:Nat):StateT SortSt Sem (Option Nat):=do
 liftM (rule "list.sort.descending-run")
 let c <- zG8 lo (n+1) nrem
 match c.1 with
 | some r=>pure r
 | none =>
  if c.2.2 > 0 then do
   reverseSlice' (lo+c.2.1 - (c.2.2+1)) (lo+c.2.1)
   tl3 lo c.2.1 nrem
  else tl3 lo c.2.1 nrem
theorem zFR (lo nrem:Nat):countRun' lo nrem=(do
  let c <- zED lo 1 nrem
  match c.1 with
  | some r=>pure r
  | none =>
   if (c.2 == nrem)=true then pure (some c.2)
   else if c.2 > 1 then do
    match <- ltAt' lo (lo+c.2 - 1) with
    | some b=>if b=true then pure (some c.2) else do
      reverseSlice' lo (lo+c.2)
      zFI lo c.2 nrem
    | _=>pure none
   else zFI lo c.2 nrem):=by
 rw[countRun'_eq]
 unfold zFI tl3 zG8 zED
 refine congrArg (bind _) ?_
 funext c
 obtain⟨r,n⟩:=c
 cases r with
 | some r=>rfl
 | none =>
  dsimp only
  split
  ·rfl
  ·split
   ·congr 1;funext x
    cases x with
    | none=>rfl
    | some b =>
     dsimp only
     split
     ·rfl
     ·congr 1;funext _r
      congr 1;funext _u;congr 1;congr 1;funext c2;obtain⟨r2,n2,q2⟩:=c2
      cases r2 with
      | some r2=>rfl
      | none =>
       dsimp only
       split
       ·congr 1;funext _v;congr 1;funext _w;congr 1;funext c3;obtain⟨r3,n3⟩:=c3;cases r3<;>rfl
       ·congr 1;funext _w;congr 1;funext c3;obtain⟨r3,n3⟩:=c3;cases r3<;>rfl
   ·congr 1;funext _u;congr 1;congr 1;funext c2;obtain⟨r2,n2,q2⟩:=c2
    cases r2 with
    | some r2=>rfl
    | none =>
     dsimp only
     split
     ·congr 1;funext _v;congr 1;funext _w;congr 1;funext c3;obtain⟨r3,n3⟩:=c3;cases r3<;>rfl
     ·congr 1;funext _w;congr 1;funext c3;obtain⟨r3,n3⟩:=c3;cases r3<;>rfl
def Fa (κ:KeyKind) (xs:Array Keyed) (lo k:Nat):Prop:=∀ i j,i <= j->j < k->κ.kle (KK κ xs (lo+j)) (KK κ xs (lo+i))
theorem Ri.more {xs:Array Keyed}{lo x:Nat} (h:Ri κ xs lo x) (hx:1 <= x) (e:κ.kle (KK κ xs (lo+x - 1)) (KK κ xs (lo+x))):Ri κ xs lo (x+1):=by
 intro i j hij hj
 by_cases c:j < x
 ·exact h i j hij c
 obtain rfl:j=x:=by omega
 by_cases d:i=j
 ·subst d;exact KeyOrd.kle_refl _
 ·exact KeyOrd.kle_trans (h i (j - 1) (by omega) (by omega)) (by rwa [show lo+(j - 1)=lo+j - 1 by omega])
theorem Fa.more {xs:Array Keyed}{lo x:Nat} (h:Fa κ xs lo x) (hx:1 <= x) (e:κ.kle (KK κ xs (lo+x)) (KK κ xs (lo+x - 1))):Fa κ xs lo (x+1):=by
 intro i j hij hj
 by_cases c:j < x
 ·exact h i j hij c
 obtain rfl:j=x:=by omega
 by_cases d:i=j
 ·subst d;exact KeyOrd.kle_refl _
 ·exact KeyOrd.kle_trans (by rwa [show lo+(j - 1)=lo+j - 1 by omega]) (h i (j - 1) (by omega) (by omega))
theorem Ri.one {xs:Array Keyed}{lo:Nat}:Ri κ xs lo 1:=fun i j a b=>by obtain rfl:i=j:=(by omega);exact KeyOrd.kle_refl _
theorem Fa.one {xs:Array Keyed}{lo:Nat}:Fa κ xs lo 1:=fun i j a b=>by obtain rfl:i=j:=(by omega);exact KeyOrd.kle_refl _
theorem zH7 {st:SortSt}{lo a nrem:Nat}{Q:AscSt->SortSt->Prop} (hO:κ.OneLt) (h0:KeysOf κ a₀) (hn:lo+nrem <= a₀.size) (ha:1 <= a) (han:a <= nrem) (g:SG a₀ st) (hs:Ri κ (arrOf st) lo a)
  (h:∀ n,a <= n->n <= nrem->Ri κ (arrOf st) lo n->(n=nrem\/κ.klt (KK κ (arrOf st) (lo+n)) (KK κ (arrOf st) (lo+n - 1)))->Q (none,n) st):wpS (model prog w) A E s (zED lo a nrem) Q st:=by
 unfold zED
 refine wpS_forRange (I:=fun x c u=>u=st/\c=(none,x)/\Ri κ (arrOf st) lo x) (fun x c u hax hxn ⟨eu,ec,ri⟩=>?step) (fun c u ⟨eu,ec,ri⟩=>?fin) ⟨rfl,rfl,hs⟩
 case fin =>
  subst eu ec
  rw[show max a nrem=nrem by omega] at ri ⊢
  exact h nrem han (Nat.le_refl _) ri (.inl rfl)
 case step =>
  subst eu ec
  dsimp only
  refine wpS_bind (zCS hO h0 g (by omega) (by omega) ?_)
  cases hb:κ.blt (KK κ (arrOf u) (lo+x)) (KK κ (arrOf u) (lo+x - 1)) with
  | true=>simp only[if_true];exact wpS_pure (h x hax (by omega) ri (.inr hb))
  | false=>simp only[Bool.false_eq_true,if_false];exact wpS_pure ⟨rfl,rfl,ri.more (by omega) hb⟩
theorem jg.mir {lo n i j:Nat}{st:SortSt} (g:SG a₀ st) (hi:lo <= i) (hj:j <= lo+n) (hn:lo+n <= a₀.size):jg a₀ lo (lo+n) st (setArr st (mirror (arrOf st) i j ((j - i) / 2))) :=
 ⟨g.arr (mirror_perm _ _ _ _),fun k hk=>by show (mirror (arrOf st) i j ((j - i) / 2))[k]? = _;rw[getElem?_mirror_all (by rw[g.sz];omega),if_neg (by omega)],rfl⟩
theorem zIU {st st₀:SortSt}{lo n nrem:Nat}{Q:Option Nat->SortSt->Prop} (hO:κ.OneLt) (h0:KeysOf κ a₀) (hn:lo+nrem <= a₀.size) (h1:1 <= n) (hnn:n <= nrem) (kp:jg a₀ lo (lo+nrem) st₀ st) (hs:Fa κ (arrOf st) lo n)
  (h:∀ m st',jg a₀ lo (lo+nrem) st₀ st'->1 <= m->m <= nrem->Ri κ (arrOf st') lo m->Q (some m) st'):wpS (model prog w) A E s (tl3 lo n nrem) Q st:=by
 unfold tl3
 have hz:lo+n <= (arrOf st).size:=by rw[kp.ok.sz];omega
 refine wpS_bind (wpS_reverse ?_)
 have k2:=kp.trans (jg.mir (i:=lo) (j:=lo+n) (lo:=lo) (n:=nrem) kp.ok (Nat.le_refl _) (by omega) hn)
 refine wpS_bind (zH7 hO h0 hn h1 hnn k2.ok ?_ fun m a b c _=>wpS_pure (h m _ k2 (by omega) b c))
 intro i j hij hj
 show κ.kle (KK κ (mirror (arrOf st) lo (lo+n) ((lo+n - lo) / 2)) (lo+i)) (KK κ (mirror (arrOf st) lo (lo+n) ((lo+n - lo) / 2)) (lo+j))
 rw[KK_mirror hz,KK_mirror hz,if_pos (by omega),if_pos (by omega)]
 have:=hs (n - 1 - j) (n - 1 - i) (by omega) (by omega)
 rwa [show lo+(n - 1 - i)=lo+(lo+n) - 1 - (lo+i) by omega,show lo+(n - 1 - j)=lo+(lo+n) - 1 - (lo+j) by omega] at this
theorem Fa.same {xs ys:Array Keyed}{lo n:Nat} (h:Fa κ xs lo n) (e:∀ k,KK κ ys k=KK κ xs k):Fa κ ys lo n:=fun i j a b=>by rw[e,e];exact h i j a b
theorem zMw {st st₀:SortSt}{lo n nrem:Nat}{Q:DescSt->SortSt->Prop} (hO:κ.OneLt) (h0:KeysOf κ a₀) (hn:lo+nrem <= a₀.size) (h1:1 <= n) (hnn:n <= nrem) (kp:jg a₀ lo (lo+nrem) st₀ st) (hs:Fa κ (arrOf st) lo n)
  (h:∀ m q st',jg a₀ lo (lo+nrem) st₀ st'->n <= m->m <= nrem->Fa κ (arrOf st') lo m->q+1 <= m->(∀ i,lo+m - (q+1) <= i->i < lo+m->KK κ (arrOf st') i=KK κ (arrOf st') (lo+m - 1))->Q (none,m,q) st') :
  wpS (model prog w) A E s (zG8 lo n nrem) Q st:=by
 unfold zG8
 refine wpS_forRange (I:=fun x c u=>∃ q,c=(none,x,q)/\jg a₀ lo (lo+nrem) st₀ u/\Fa κ (arrOf u) lo x/\q+1 <= x/\(∀ i,lo+x - (q+1) <= i->i < lo+x->KK κ (arrOf u) i=KK κ (arrOf u) (lo+x - 1)))
  (fun x c u hax hxn ⟨q,ec,k2,fa,hq,he⟩=>?step) (fun c u ⟨q,ec,k2,fa,hq,he⟩=>?fin) ⟨0,rfl,kp,hs,by omega,fun i a b=>by congr 1;omega⟩
 case fin =>
  subst ec
  rw[show max n nrem=nrem by omega] at fa hq he ⊢
  exact h nrem q u k2 hnn (Nat.le_refl _) fa hq he
 case step =>
  subst ec
  dsimp only
  have hz:lo+x <= (arrOf u).size:=by rw[k2.ok.sz];omega
  refine wpS_bind (zCS hO h0 k2.ok (by omega) (by omega) ?_)
  cases hb:κ.blt (KK κ (arrOf u) (lo+x)) (KK κ (arrOf u) (lo+x - 1)) with
  | true =>
   simp only[if_true]
   have f2:=fa.more (by omega) (KeyOrd.kle_of_klt hb)
   by_cases c:q > 0
   ·rw[if_pos c]
    exact wpS_bind (wpS_reverse (wpS_pure ⟨0,rfl,k2.trans (jg.mir k2.ok (by omega) (by omega) hn),f2.same (KK_mirror_equal hz he),by omega,fun i a b=>by congr 1;omega⟩))
   ·rw[if_neg c]
    exact wpS_pure ⟨0,rfl,k2,f2,by omega,fun i a b=>by congr 1;omega⟩
  | false =>
   simp only[Bool.false_eq_true,if_false]
   refine wpS_bind (zCS hO h0 k2.ok (by omega) (by omega) ?_)
   cases hc:κ.blt (KK κ (arrOf u) (lo+x - 1)) (KK κ (arrOf u) (lo+x)) with
   | true=>simp only[if_true];exact wpS_pure (h x q u k2 hax (by omega) fa hq he)
   | false =>
    simp only[Bool.false_eq_true,if_false]
    have eq:=KeyOrd.kle_antisymm (show κ.kle (KK κ (arrOf u) (lo+x)) (KK κ (arrOf u) (lo+x - 1)) from hc) hb
    refine wpS_pure ⟨q+1,rfl,k2,fa.more (by omega) hc,by omega,fun i a b=>?_⟩
    rw[show lo+(x+1) - 1=lo+x by omega]
    by_cases d:i=lo+x
    ·rw[d]
    ·rw[eq];exact he i (by omega) (by omega)
theorem zFz {st st₀:SortSt}{lo n nrem:Nat}{Q:Option Nat->SortSt->Prop} (hO:κ.OneLt) (h0:KeysOf κ a₀) (hn:lo+nrem <= a₀.size) (hnn:n+1 <= nrem) (kp:jg a₀ lo (lo+nrem) st₀ st) (hs:Fa κ (arrOf st) lo (n+1))
  (h:∀ m st',jg a₀ lo (lo+nrem) st₀ st'->1 <= m->m <= nrem->Ri κ (arrOf st') lo m->Q (some m) st'):wpS (model prog w) A E s (zFI lo n nrem) Q st:=by
 unfold zFI
 refine wpS_bind (wpS_lift (wpAny_rule ⟨rfl,?_⟩))
 refine wpS_bind (zMw hO h0 hn (by omega) hnn kp hs fun m q u k2 a b fa hq he=>?_)
 dsimp only
 have hz:lo+m <= (arrOf u).size:=by rw[k2.ok.sz];omega
 by_cases c:q > 0
 ·rw[if_pos c]
  exact wpS_bind (wpS_reverse (zIU hO h0 hn (by omega) b (k2.trans (jg.mir k2.ok (by omega) (by omega) hn)) (fa.same (KK_mirror_equal hz he)) h))
 ·rw[if_neg c]
  exact zIU hO h0 hn (by omega) b k2 fa h
theorem zLH {st:SortSt}{lo nrem:Nat}{Q:Option Nat->SortSt->Prop} (hO:κ.OneLt) (h0:KeysOf κ a₀) (hn:lo+nrem <= a₀.size) (h1:1 <= nrem) (g:SG a₀ st)
  (h:∀ m st',jg a₀ lo (lo+nrem) st st'->1 <= m->m <= nrem->Ri κ (arrOf st') lo m->Q (some m) st'):wpS (model prog w) A E s (countRun' lo nrem) Q st:=by
 rw[zFR]
 refine wpS_bind (zH7 hO h0 hn (Nat.le_refl 1) h1 g Ri.one fun n a b ri hor=>?_)
 dsimp only
 by_cases e:n=nrem
 ·rw[if_pos (by simpa using e)]
  exact wpS_pure (h n st (jg.refl g) a b ri)
 rw[if_neg (by simpa using e)]
 have hlt:=hor.resolve_left e
 by_cases c:n > 1
 ·rw[if_pos c]
  refine wpS_bind (zCS hO h0 g (by omega) (by omega) ?_)
  cases hb:κ.blt (KK κ (arrOf st) lo) (KK κ (arrOf st) (lo+n - 1)) with
  | true=>simp only[if_true];exact wpS_pure (h n st (jg.refl g) a b ri)
  | false =>
   simp only[Bool.false_eq_true,if_false]
   have hz:lo+n <= (arrOf st).size:=by rw[g.sz];omega
   have hall:∀ k,lo <= k->k < lo+n->KK κ (arrOf st) k=KK κ (arrOf st) (lo+n - 1):=by
    intro k k1 k2
    have a1:=ri 0 (k - lo) (by omega) (by omega)
    have a2:=ri (k - lo) (n - 1) (by omega) (by omega)
    rw[show lo+(k - lo)=k by omega] at a1 a2
    rw[show lo+(n - 1)=lo+n - 1 by omega] at a2
    exact KeyOrd.kle_antisymm a2 (KeyOrd.kle_trans hb a1)
   refine wpS_bind (wpS_reverse (zFz hO h0 hn (by omega) (jg.mir g (Nat.le_refl _) (by omega) hn) (Fa.same (xs:=arrOf st) (Fa.more (fun i j p q=>?_) (by omega) (KeyOrd.kle_of_klt hlt)) (KK_mirror_equal hz hall)) h))
   rw[hall (lo+i) (by omega) (by omega),hall (lo+j) (by omega) (by omega)]
   exact KeyOrd.kle_refl _
 ·rw[if_neg c]
  obtain rfl:n=1:=by omega
  exact zFz hO h0 hn (by omega) (jg.refl g) (Fa.one.more (Nat.le_refl _) (KeyOrd.kle_of_klt hlt)) h
def kyo (κ:KeyKind) (p:Keyed):κ.α:=(κ.keyOf p.1).getD κ.dflt
def ZF (κ:KeyKind) (p:Keyed):Prop:=∃ a,κ.keyOf p.1=some a
theorem zDt {st:SortSt}{p q:Keyed}{Q:Option Bool->SortSt->Prop} (hO:κ.OneLt) (kd:kindOf st=oneType') (hp:ZF κ p) (hq:ZF κ q) (h:Q (some (κ.blt (kyo κ p) (kyo κ q))) st):wpS (model prog w) A E s (lt' p q) Q st:=by
 obtain⟨a,ha⟩:=hp
 obtain⟨b,hb⟩:=hq
 rw[show kyo κ p=a by unfold kyo;rw[ha];rfl,show kyo κ q=b by unfold kyo;rw[hb];rfl] at h
 rw[lt'_eq]
 refine wpS_bind (wpS_get ?_)
 rw[kd,keyLt'_oneType]
 exact wpS_bind (wpS_lift (wpAny_attempt (hO prog w A _ s p.1 q.1 a b ha hb ⟨rfl,wpS_pure h⟩)))
theorem jk {st:SortSt}{arr:Array Keyed}{i:Nat}{p:Keyed}{Q:Keyed->SortSt->Prop} (e:arr[i]? = some p) (h:Q p st):wpS (model prog w) A E s (elem' arr i) Q st:=by
 rw[elem'_eq,e];exact wpS_pure h
def Z7:Bool->Keyed->Array Keyed->Nat->Nat->Nat->StateT SortSt Sem (Option Nat):=sortPriv% PySem.Builtin.gallop
def byd (left:Bool) (key:Keyed) (arr:Array Keyed) (base i:Nat):StateT SortSt Sem (Option Bool):=do
 let x <- elem' arr (base+i)
 if left then lt' x key else return (<- lt' key x).map (!·)
def gl3 (left:Bool) (key:Keyed) (arr:Array Keyed) (base n lo hi:Nat):StateT SortSt Sem (Option Nat):=do
 let mut lo:=lo
 let mut hi:=hi
 for _ in [0:n] do
  if lo ≥ hi then break
  let m:=lo+(hi - lo) / 2
  let some more <- byd left key arr base m | return none
  if more then lo:=m+1 else hi:=m
 return some hi
def gl1 (left:Bool) (key:Keyed) (arr:Array Keyed) (base n hint:Nat):StateT SortSt Sem (Option Nat):=do
 let mut lastofs:=0
 let mut ofs:=1
 for _ in [0:n] do
  if ofs ≥ n - hint then break
  let some more <- byd left key arr base (hint+ofs) | return none
  if !more then break
  lastofs:=ofs
  ofs:=2 * ofs+1
 gl3 left key arr base n (hint+lastofs+1) (hint+min ofs (n - hint))
def gl2 (left:Bool) (key:Keyed) (arr:Array Keyed) (base n hint:Nat):StateT SortSt Sem (Option Nat):=do
 let mut lastofs:=0
 let mut ofs:=1
 for _ in [0:n] do
  if ofs ≥ hint+1 then break
  let some found <- byd left key arr base (hint - ofs) | return none
  if found then break
  lastofs:=ofs
  ofs:=2 * ofs+1
 gl3 left key arr base n (hint+1 - min ofs (hint+1)) (hint - lastofs)
theorem zGt (left:Bool) (key:Keyed) (arr:Array Keyed) (base n hint:Nat):Z7 left key arr base n hint=(do
  match <- byd left key arr base hint with
  | some r=>if r=true then gl1 left key arr base n hint else gl2 left key arr base n hint
  | _=>pure none):=by
 show (sortPriv% PySem.Builtin.gallop) left key arr base n hint=_
 unfold gl1 gl2 gl3
 rfl
def By (κ:KeyKind) (left:Bool) (key:Keyed) (arr:Array Keyed) (i:Nat):Bool:=if left then κ.blt (KK κ arr i) (kyo κ key) else !κ.blt (kyo κ key) (KK κ arr i)
theorem qP {arr:Array Keyed}{i:Nat}{p:Keyed} (e:arr[i]? = some p):KK κ arr i=kyo κ p:=by unfold KK;rw[e];rfl
theorem zCJ {st:SortSt}{left:Bool}{key:Keyed}{arr:Array Keyed}{base i:Nat}{Q:Option Bool->SortSt->Prop} (hO:κ.OneLt) (kd:kindOf st=oneType') (ha:∀ p,p∈arr.toList->ZF κ p) (hk:ZF κ key) (hi:base+i < arr.size)
  (h:Q (some (By κ left key arr (base+i))) st):wpS (model prog w) A E s (byd left key arr base i) Q st:=by
 unfold byd
 have e:arr[base+i]? = some arr[base+i]:=getElem?_pos arr (base+i) hi
 have hx:ZF κ arr[base+i]:=ha _ (by simp)
 refine wpS_bind (jk e ?_)
 unfold By at h
 rw[qP e] at h
 cases left with
 | true=>simp only[if_true] at h ⊢;exact zDt hO kd hx hk h
 | false=>simp only[Bool.false_eq_true,if_false] at h ⊢;exact wpS_bind (zDt hO kd hk hx (wpS_pure h))
def GK (κ:KeyKind) (left:Bool) (key:Keyed) (arr:Array Keyed) (base n k:Nat):Prop:=k <= n/\(∀ i,i < k->By κ left key arr (base+i)=true)/\(∀ i,k <= i->i < n->By κ left key arr (base+i)=false)
theorem By.down {left:Bool}{key:Keyed}{arr:Array Keyed}{base n:Nat} (so:Ri κ arr base n) {i j:Nat} (hij:i <= j) (hj:j < n) (h:By κ left key arr (base+j)=true):By κ left key arr (base+i)=true:=by
 unfold By at *
 cases left with
 | true=>simp only[if_true] at h ⊢;exact KeyOrd.klt_of_kle_of_klt (so i j hij hj) h
 | false =>
  simp only[Bool.false_eq_true,if_false,Bool.not_eq_true'] at h ⊢
  exact KeyOrd.kle_trans (so i j hij hj) h
theorem By.up {left:Bool}{key:Keyed}{arr:Array Keyed}{base n:Nat} (so:Ri κ arr base n) {i j:Nat} (hij:i <= j) (hj:j < n) (h:By κ left key arr (base+i)=false):By κ left key arr (base+j)=false:=by
 cases e:By κ left key arr (base+j) with
 | false=>rfl
 | true=>rw[By.down so hij hj e] at h;cases h
theorem zHu {st:SortSt}{left:Bool}{key:Keyed}{arr:Array Keyed}{base n lo hi:Nat}{Q:Option Nat->SortSt->Prop} (hO:κ.OneLt) (kd:kindOf st=oneType') (ha:∀ p,p∈arr.toList->ZF κ p) (hk:ZF κ key) (hb:base+n <= arr.size) (so:Ri κ arr base n)
  (hlh:lo <= hi) (hn:hi <= n) (h1:∀ i,i < lo->By κ left key arr (base+i)=true) (h2:∀ i,hi <= i->i < n->By κ left key arr (base+i)=false) (h:∀ k,GK κ left key arr base n k->Q (some k) st):wpS (model prog w) A E s (gl3 left key arr base n lo hi) Q st:=by
 unfold gl3
 refine wpS_bind (wpS_mono (wpS_forRange (I:=fun x c u=>u=st/\∃ r l,c=(none,l,r)/\l <= r/\r <= n/\r - l <= n - x/\(∀ i,i < l->By κ left key arr (base+i)=true)/\(∀ i,r <= i->i < n->By κ left key arr (base+i)=false))
  (Q:=fun c u=>u=st/\∃ r l,c=(none,l,r)/\GK κ left key arr base n r) (fun x c u _ hx ⟨eu,r,l,ec,a1,a2,a3,a4,a5⟩=>?step) (fun c u ⟨eu,r,l,ec,a1,a2,a3,a4,a5⟩=>?fin) ⟨rfl,hi,lo,rfl,hlh,hn,by omega,h1,h2⟩) fun c u ⟨eu,r,l,ec,g⟩=>?post)
 case step =>
  subst eu ec
  dsimp only
  by_cases hge:l ≥ r
  ·rw[if_pos hge]
   obtain rfl:l=r:=by omega
   exact wpS_pure ⟨rfl,l,l,rfl,a2,a4,a5⟩
  rw[if_neg hge]
  refine wpS_bind (zCJ hO kd ha hk (by omega) ?_)
  cases hm:By κ left key arr (base+(l+(r - l) / 2)) with
  | true =>
   simp only[if_true]
   exact wpS_pure ⟨rfl,r,l+(r - l) / 2+1,rfl,by omega,a2,by omega,fun i hi=>By.down so (by omega) (by omega) hm,a5⟩
  | false =>
   simp only[Bool.false_eq_true,if_false]
   exact wpS_pure ⟨rfl,l+(r - l) / 2,l,rfl,by omega,by omega,by omega,a4,fun i b c=>By.up so b c hm⟩
 case fin =>
  obtain rfl:l=r:=by omega
  exact⟨eu,l,l,ec,a2,a4,a5⟩
 case post =>
  subst eu ec
  exact wpS_pure (h r g)
theorem zLb {st:SortSt}{left:Bool}{key:Keyed}{arr:Array Keyed}{base n hint:Nat}{Q:Option Nat->SortSt->Prop} (hO:κ.OneLt) (kd:kindOf st=oneType') (ha:∀ p,p∈arr.toList->ZF κ p) (hk:ZF κ key) (hb:base+n <= arr.size) (so:Ri κ arr base n)
  (hh:hint < n) (h1:By κ left key arr (base+hint)=true) (h:∀ k,GK κ left key arr base n k->Q (some k) st):wpS (model prog w) A E s (gl1 left key arr base n hint) Q st:=by
 unfold gl1
 refine wpS_bind (wpS_mono (wpS_forRange (I:=fun x c u=>u=st/\∃ l o,c=(none,l,o)/\l < o/\x+1 <= o/\hint+l < n/\By κ left key arr (base+(hint+l))=true)
  (Q:=fun c u=>u=st/\∃ l o,c=(none,l,o)/\l < o/\hint+l < n/\By κ left key arr (base+(hint+l))=true/\(n - hint <= o\/By κ left key arr (base+(hint+o))=false)) (fun x c u _ hx ⟨eu,l,o,ec,a1,a2,a3,a4⟩=>?step) (fun c u ⟨eu,l,o,ec,a1,a2,a3,a4⟩=>⟨eu,l,o,ec,a1,a3,a4,.inl (by omega)⟩)
   ⟨rfl,0,1,rfl,by omega,by omega,by omega,h1⟩) fun c u ⟨eu,l,o,ec,a1,a2,a3,a4⟩=>?post)
 case step =>
  subst eu ec
  dsimp only
  by_cases hge:o ≥ n - hint
  ·rw[if_pos hge]
   exact wpS_pure ⟨rfl,l,o,rfl,a1,a3,a4,.inl hge⟩
  rw[if_neg hge]
  refine wpS_bind (zCJ hO kd ha hk (by omega) ?_)
  cases hm:By κ left key arr (base+(hint+o)) with
  | true =>
   simp only[Bool.not_true,Bool.false_eq_true,if_false]
   exact wpS_pure ⟨rfl,o,2 * o+1,rfl,by omega,by omega,by omega,hm⟩
  | false =>
   simp only[Bool.not_false,if_true]
   exact wpS_pure ⟨rfl,l,o,rfl,a1,a3,a4,.inr hm⟩
 case post =>
  subst eu ec
  dsimp only
  refine zHu hO kd ha hk hb so (by omega) (by omega) (fun i hi=>By.down so (j:=hint+l) (by omega) (by omega) a3) (fun i b c=>?_) h
  rcases a4 with a4 | a4
  ·omega
  ·by_cases hge:o ≥ n - hint
   ·omega
   ·exact By.up so (by omega) c a4
theorem zMZ {st:SortSt}{left:Bool}{key:Keyed}{arr:Array Keyed}{base n hint:Nat}{Q:Option Nat->SortSt->Prop} (hO:κ.OneLt) (kd:kindOf st=oneType') (ha:∀ p,p∈arr.toList->ZF κ p) (hk:ZF κ key) (hb:base+n <= arr.size) (so:Ri κ arr base n)
  (hh:hint < n) (h1:By κ left key arr (base+hint)=false) (h:∀ k,GK κ left key arr base n k->Q (some k) st):wpS (model prog w) A E s (gl2 left key arr base n hint) Q st:=by
 unfold gl2
 refine wpS_bind (wpS_mono (wpS_forRange (I:=fun x c u=>u=st/\∃ l o,c=(none,l,o)/\l < o/\x+1 <= o/\l <= hint/\By κ left key arr (base+(hint - l))=false)
  (Q:=fun c u=>u=st/\∃ l o,c=(none,l,o)/\l < o/\l <= hint/\By κ left key arr (base+(hint - l))=false/\(hint+1 <= o\/By κ left key arr (base+(hint - o))=true)) (fun x c u _ hx ⟨eu,l,o,ec,a1,a2,a3,a4⟩=>?step) (fun c u ⟨eu,l,o,ec,a1,a2,a3,a4⟩=>⟨eu,l,o,ec,a1,a3,a4,.inl (by omega)⟩)
   ⟨rfl,0,1,rfl,by omega,by omega,by omega,h1⟩) fun c u ⟨eu,l,o,ec,a1,a2,a3,a4⟩=>?post)
 case step =>
  subst eu ec
  dsimp only
  by_cases hge:o ≥ hint+1
  ·rw[if_pos hge]
   exact wpS_pure ⟨rfl,l,o,rfl,a1,a3,a4,.inl hge⟩
  rw[if_neg hge]
  refine wpS_bind (zCJ hO kd ha hk (by omega) ?_)
  cases hm:By κ left key arr (base+(hint - o)) with
  | false =>
   simp only[Bool.false_eq_true,if_false]
   exact wpS_pure ⟨rfl,o,2 * o+1,rfl,by omega,by omega,by omega,hm⟩
  | true =>
   simp only[if_true]
   exact wpS_pure ⟨rfl,l,o,rfl,a1,a3,a4,.inr hm⟩
 case post =>
  subst eu ec
  dsimp only
  refine zHu hO kd ha hk hb so (by omega) (by omega) (fun i hi=>?_) (fun i b c=>By.up so (i:=hint - l) (by omega) c a3) h
  rcases a4 with a4 | a4
  ·omega
  ·by_cases hge:o ≥ hint+1
   ·omega
   ·exact By.down so (j:=hint - o) (by omega) (by omega) a4
theorem Z3 {st:SortSt}{left:Bool}{key:Keyed}{arr:Array Keyed}{base n hint:Nat}{Q:Option Nat->SortSt->Prop} (hO:κ.OneLt) (kd:kindOf st=oneType') (ha:∀ p,p∈arr.toList->ZF κ p) (hk:ZF κ key) (hb:base+n <= arr.size) (so:Ri κ arr base n)
  (hh:hint < n) (h:∀ k,GK κ left key arr base n k->Q (some k) st):wpS (model prog w) A E s (Z7 left key arr base n hint) Q st:=by
 rw[zGt]
 refine wpS_bind (zCJ hO kd ha hk (by omega) ?_)
 cases hm:By κ left key arr (base+hint) with
 | true=>simp only[if_true];exact zLb hO kd ha hk hb so hh hm h
 | false=>simp only[Bool.false_eq_true,if_false];exact zMZ hO kd ha hk hb so hh hm h
structure MI (R:Keyed->Keyed->Prop) (l ra rb out:List Keyed):Prop where
 pm:(out++ra++rb).Perm l
 so:out.Pairwise R
 oa:∀ x,x∈out->∀ y,y∈ra->R x y
 ob:∀ x,x∈out->∀ y,y∈rb->R x y
 sa:ra.Pairwise R
 sb:rb.Pairwise R
theorem MI.swap {R:Keyed->Keyed->Prop}{l ra rb out:List Keyed} (h:MI R l ra rb out):MI R l rb ra out :=
 ⟨List.Perm.trans (l₂:=out++ra++rb) (by rw[List.append_assoc,List.append_assoc];exact List.perm_append_comm.append_left out) h.pm,h.so,h.ob,h.oa,h.sb,h.sa⟩
theorem MI.run {R:Keyed->Keyed->Prop}{l xs ra rb out:List Keyed} (h:MI R l (xs++ra) rb out) (c:∀ x,x∈xs->∀ y,y∈rb->R x y):MI R l ra rb (out++xs):=by
 obtain⟨pm,so,oa,ob,sa,sb⟩:=h
 rw[List.pairwise_append] at sa
 refine⟨by simpa [List.append_assoc] using pm,List.pairwise_append.mpr ⟨so,sa.1,fun x hx y hy=>oa x hx y (List.mem_append_left _ hy)⟩,fun x hx y hy=>?_,fun x hx y hy=>?_,sa.2.1,sb⟩
 ·rcases List.mem_append.mp hx with hx | hx
  ·exact oa x hx y (List.mem_append_right _ hy)
  ·exact sa.2.2 x hx y hy
 ·rcases List.mem_append.mp hx with hx | hx
  ·exact ob x hx y hy
  ·exact c x hx y hy
theorem MI.fin {R:Keyed->Keyed->Prop}{l ra rb out:List Keyed} (h:MI R l ra rb out) (c:∀ x,x∈ra->∀ y,y∈rb->R x y):(out++ra++rb).Pairwise R:=by
 obtain⟨pm,so,oa,ob,sa,sb⟩:=h
 refine List.pairwise_append.mpr ⟨List.pairwise_append.mpr ⟨so,sa,oa⟩,sb,fun x hx y hy=>?_⟩
 rcases List.mem_append.mp hx with hx | hx
 ·exact ob x hx y hy
 ·exact c x hx y hy
theorem Z1 {a:Array Keyed}{i:Nat}{y:Keyed} (h:y∈a.toList.drop i):∃ j,i <= j/\j < a.size/\a[j]? = some y:=by
 obtain⟨j,hj,e⟩:=List.mem_iff_getElem.mp h
 rw[List.getElem_drop] at e
 rw[List.length_drop] at hj
 have:i+j < a.size:=by rw[<- Array.length_toList];omega
 exact⟨i+j,by omega,this,by rw[getElem?_pos a (i+j) this,<- e];simp⟩
theorem zFo {a:Array Keyed}{i:Nat}{p:Keyed} (e:a[i]? = some p):a.toList.drop i=p::a.toList.drop (i+1):=by
 obtain⟨hi,e⟩:=Array.getElem?_eq_some_iff.mp e
 rw[List.drop_eq_getElem_cons (by rw[Array.length_toList];exact hi),Array.getElem_toList,e]
theorem zAc {a:Array Keyed}{i k:Nat}:a.toList.drop i=(a.extract i (i+k)).toList++a.toList.drop (i+k):=by
 rw[Array.toList_extract,List.extract_eq_take_drop,<- List.drop_drop,Nat.add_sub_cancel_left,List.take_append_drop]
theorem zAv {a:Array Keyed}{i k:Nat}{y:Keyed} (h:y∈(a.extract i k).toList):∃ j,i <= j/\j < k/\j < a.size/\a[j]? = some y:=by
 obtain⟨j,hj,e⟩:=List.mem_iff_getElem.mp h
 rw[Array.getElem_toList,Array.getElem_extract] at e
 rw[Array.length_toList,Array.size_extract] at hj
 have:i+j < a.size:=by omega
 exact⟨i+j,by omega,by omega,this,by rw[getElem?_pos a (i+j) this,e]⟩
theorem zBR {a:Array Keyed}{n:Nat}{p:Keyed} (e:a[n]? = some p):(a.toList.take (n+1)).reverse=p::(a.toList.take n).reverse:=by
 obtain⟨hi,e⟩:=Array.getElem?_eq_some_iff.mp e
 rw[List.take_succ_eq_append_getElem (by rw[Array.length_toList];exact hi),List.reverse_append,Array.getElem_toList,e];rfl
theorem zA3 {a:Array Keyed}{m n:Nat} (h:m <= n):(a.toList.take n).reverse=(a.extract m n).reverse.toList++(a.toList.take m).reverse:=by
 rw[Array.toList_reverse,<- List.reverse_append,Array.toList_extract,List.extract_eq_take_drop]
 congr 1
 obtain⟨d,rfl⟩:∃ d,n=m+d:=⟨n - m,by omega⟩
 rw[Nat.add_sub_cancel_left,List.take_add]
theorem Z4 {a:Array Keyed}{n:Nat}{y:Keyed} (h:y∈(a.toList.take n).reverse):∃ j,j < n/\j < a.size/\a[j]? = some y:=by
 rw[List.mem_reverse] at h
 obtain⟨j,hj,e⟩:=List.mem_iff_getElem.mp h
 rw[List.getElem_take] at e
 rw[List.length_take,Array.length_toList] at hj
 exact⟨j,by omega,by omega,by rw[getElem?_pos a j (by omega),<- e];simp⟩
structure jK (st st':SortSt):Prop where
 kd:kindOf st'=kindOf st
 ar:arrOf st'=arrOf st
 pd:pendingOf st'=pendingOf st
 fl:failedOf st'=failedOf st
theorem jK.refl (st:SortSt):jK st st:=⟨rfl,rfl,rfl,rfl⟩
def zCU:Nat->StateT SortSt Sem Unit:=sortPriv% PySem.Builtin.setMinGallop
theorem zBP {st₀ st:SortSt}{n:Nat}{Q:Unit->SortSt->Prop} (g:jK st₀ st) (h:∀ st',jK st₀ st'->Q () st'):wpS (model prog w) A E s (zCU n) Q st:=by
 show wpS _ _ _ _ (modify fun z:SortSt=>SortSt.mk' (kindOf z) (arrOf z) (pendingOf z) n (failedOf z)) _ _
 exact wpS_modify (h _ ⟨g.kd,g.ar,g.pd,g.fl⟩)
def zBV:Array Keyed->Array Keyed->StateT SortSt Sem (Array Keyed):=sortPriv% PySem.Builtin.mergeLo
def zBk:Array Keyed->Array Keyed->StateT SortSt Sem (Array Keyed):=sortPriv% PySem.Builtin.mergeHi
def dnL (x y out:Array Keyed) (i j:Nat):=out++x.extract i x.size++y.extract j y.size
def lsL (x y out:Array Keyed) (i j:Nat):=out++y.extract j y.size++x.extract i x.size
def dnH (x y out:Array Keyed) (i j:Nat):=x.extract 0 i++y.extract 0 j++out.reverse
def fsH (x y out:Array Keyed) (i j:Nat):=y.extract 0 j++x.extract 0 i++out.reverse
abbrev C7:=Option (Array Keyed)×Array Keyed×Nat×Nat×Nat×Nat×Nat
abbrev C6:=Option (Array Keyed)×Array Keyed×Nat×Nat×Nat×Nat
def loD (x y out:Array Keyed) (i j mg ac bc:Nat):StateT SortSt Sem (ForInStep C7):=do
 let p <- elem' x i
 if (i+1+1 == x.size)=true then pure (.done (some (lsL x y (out.push p) (i+1) j),out.push p,i+1,j,mg,ac,bc))
 else if (decide (ac < 7) && decide (bc < 7))=true then pure (.done (none,out.push p,i+1,j,mg,ac,bc))
 else pure (.yield (none,out.push p,i+1,j,mg,ac,bc))
def loC (x y out:Array Keyed) (i j mg ac bc:Nat):StateT SortSt Sem (ForInStep C7):=do
 let p <- elem' x i
 match <- Z7 true p y j (y.size - j) 0 with
 | some k =>
  if k > 0 then
   if (j+k == y.size)=true then pure (.done (some (dnL x y (out++y.extract j (j+k)) i (j+k)),out++y.extract j (j+k),i,j+k,mg,ac,k))
   else loD x y (out++y.extract j (j+k)) i (j+k) mg ac k
  else loD x y out i j mg ac k
 | _=>pure (.done (some (dnL x y out i j),out,i,j,mg,ac,bc))
def loB (x y out:Array Keyed) (i j mg ac bc:Nat):StateT SortSt Sem (ForInStep C7):=do
 let p <- elem' y j
 if (j+1 == y.size)=true then pure (.done (some (dnL x y (out.push p) i (j+1)),out.push p,i,j+1,mg,ac,bc))
 else loC x y (out.push p) i (j+1) mg ac bc
def loA (x y out:Array Keyed) (i j mg ac bc:Nat):StateT SortSt Sem (ForInStep C7):=do
 zCU mg
 let p <- elem' y j
 match <- Z7 false p x i (x.size - i) 0 with
 | some k =>
  if k > 0 then
   if (i+k+1 == x.size)=true then pure (.done (some (lsL x y (out++x.extract i (i+k)) (i+k) j),out++x.extract i (i+k),i+k,j,mg,k,bc))
   else if (i+k == x.size)=true then pure (.done (some (dnL x y (out++x.extract i (i+k)) (i+k) j),out++x.extract i (i+k),i+k,j,mg,k,bc))
   else loB x y (out++x.extract i (i+k)) (i+k) j mg k bc
  else loB x y out i j mg k bc
 | _=>pure (.done (some (dnL x y out i j),out,i,j,mg,ac,bc))
def lo1 (x y:Array Keyed) (mg:Nat) (c:C6):StateT SortSt Sem (ForInStep C6):=do
 let p <- elem' y c.2.2.2.1
 let q <- elem' x c.2.2.1
 match <- lt' p q with
 | some r =>
  if r=true then do
   let p <- elem' y c.2.2.2.1
   if (c.2.2.2.1+1 == y.size)=true then pure (.done (some (dnL x y (c.2.1.push p) c.2.2.1 (c.2.2.2.1+1)),c.2.1.push p,c.2.2.1,c.2.2.2.1+1,0,c.2.2.2.2.2+1))
   else if c.2.2.2.2.2+1 ≥ mg then pure (.done (none,c.2.1.push p,c.2.2.1,c.2.2.2.1+1,0,c.2.2.2.2.2+1))
   else pure (.yield (none,c.2.1.push p,c.2.2.1,c.2.2.2.1+1,0,c.2.2.2.2.2+1))
  else do
   let q <- elem' x c.2.2.1
   if (c.2.2.1+1+1 == x.size)=true then pure (.done (some (lsL x y (c.2.1.push q) (c.2.2.1+1) c.2.2.2.1),c.2.1.push q,c.2.2.1+1,c.2.2.2.1,c.2.2.2.2.1+1,0))
   else if c.2.2.2.2.1+1 ≥ mg then pure (.done (none,c.2.1.push q,c.2.2.1+1,c.2.2.2.1,c.2.2.2.2.1+1,0))
   else pure (.yield (none,c.2.1.push q,c.2.2.1+1,c.2.2.2.1,c.2.2.2.2.1+1,0))
 | _=>pure (.done (some (dnL x y c.2.1 c.2.2.1 c.2.2.2.1),c.2.1,c.2.2.1,c.2.2.2.1,c.2.2.2.2.1,c.2.2.2.2.2))
abbrev C5:=Option (Array Keyed)×Array Keyed×Nat×Nat×Nat
def loO (x y:Array Keyed) (c:C5):StateT SortSt Sem (ForInStep C5):=do
 let d <- forIn [0:x.size+y.size] ((none,c.2.1,c.2.2.1,c.2.2.2.1,0,0):C6) fun _ d=>lo1 x y c.2.2.2.2 d
 match d.1 with
 | some r=>pure (.done (some r,d.2.1,d.2.2.1,d.2.2.2.1,c.2.2.2.2))
 | none=>do
  liftM (rule "list.sort.gallop")
  let e <- forIn [0:x.size+y.size] ((none,d.2.1,d.2.2.1,d.2.2.2.1,c.2.2.2.2+1,d.2.2.2.2.1,d.2.2.2.2.2):C7) fun _ e =>
   if e.2.2.2.2.1 > 1 then loA x y e.2.1 e.2.2.1 e.2.2.2.1 (e.2.2.2.2.1 - 1) e.2.2.2.2.2.1 e.2.2.2.2.2.2 else loA x y e.2.1 e.2.2.1 e.2.2.2.1 e.2.2.2.2.1 e.2.2.2.2.2.1 e.2.2.2.2.2.2
  match e.1 with
  | some r=>pure (.done (some r,e.2.1,e.2.2.1,e.2.2.2.1,e.2.2.2.2.1))
  | none=>do
   zCU (e.2.2.2.2.1+1)
   pure (.yield (none,e.2.1,e.2.2.1,e.2.2.2.1,e.2.2.2.2.1+1))
theorem zFc (x y:Array Keyed):zBV x y=(do
 liftM (rule "list.sort.merge-lo")
 let p <- elem' y 0
 if (1 == y.size)=true then pure (dnL x y #[p] 0 1)
 else if (0+1 == x.size)=true then pure (lsL x y #[p] 0 1)
 else do
  let z <- get
  let c <- forIn [0:x.size+y.size] ((none,#[p],0,1,gallopOf z):C5) fun _ c=>loO x y c
  match c.1 with
  | some r=>pure r
  | none=>liftM (unsupported "internal:list.sort.merge-bound" : Sem (Array Keyed))):=by
 show (sortPriv% PySem.Builtin.mergeLo) x y=_
 refine congrArg (bind _) (funext fun _=>congrArg (bind _) (funext fun p=>ite_congr rfl (fun _=>rfl) fun _=>ite_congr rfl (fun _=>rfl) fun _=>congrArg (bind _) (funext fun z=>?_)))
 refine congr (congrArg bind (congrArg _ (funext fun _=>funext fun c=>congrArg (bind _) (funext fun d=>?_)))) (funext fun c=>?_)
 ·obtain⟨d1,d⟩:=d
  cases d1 with
  | some r=>rfl
  | none=>exact congrArg (bind _) (funext fun _=>congrArg (bind _) (funext fun e=>by obtain⟨e1,e⟩:=e;cases e1<;>rfl))
 ·obtain⟨c1,c⟩:=c
  cases c1<;>rfl
def kl (κ:KeyKind) (p q:Keyed):Prop:=κ.kle (kyo κ p) (kyo κ q)
structure MG (κ:KeyKind) (x y:Array Keyed):Prop where
 kx:∀ p,p∈x.toList->ZF κ p
 ky:∀ p,p∈y.toList->ZF κ p
 rx:Ri κ x 0 x.size
 ry:Ri κ y 0 y.size
 nx:1 <= x.size
 ny:1 <= y.size
 fst:∀ p q,y[0]? = some p->x[0]? = some q->kl κ p q
 lst:∀ p q,y[y.size - 1]? = some p->x[x.size - 1]? = some q->kl κ p q
def Rs (κ:KeyKind) (x y r:Array Keyed):Prop:=r.toList.Perm (x.toList++y.toList)/\r.toList.Pairwise (kl κ)
theorem Ri.at {x:Array Keyed} (r:Ri κ x 0 x.size) {i j:Nat}{p q:Keyed} (hij:i <= j) (hp:x[i]? = some p) (hq:x[j]? = some q):kl κ p q:=by
 have hj:j < x.size:=(Array.getElem?_eq_some_iff.mp hq).1
 have:=r i j hij hj
 rwa [Nat.zero_add,Nat.zero_add,qP hp,qP hq] at this
theorem Ri.tail {x:Array Keyed} (r:Ri κ x 0 x.size) (i n:Nat) (h:i+n <= x.size):Ri κ x i n:=fun a b c d=>by
 have:=r (i+a) (i+b) (by omega) (by omega)
 rwa [Nat.zero_add,Nat.zero_add] at this
theorem Ri.pair {x:Array Keyed} (r:Ri κ x 0 x.size):x.toList.Pairwise (kl κ):=by
 rw[List.pairwise_iff_getElem]
 intro i j hi hj hij
 rw[Array.length_toList] at hi hj
 exact r.at (Nat.le_of_lt hij) (by rw[getElem?_pos x i hi];simp) (by rw[getElem?_pos x j hj];simp)
theorem Qo {x:Array Keyed} (h:∀ p,p∈x.toList->ZF κ p) {i:Nat}{p:Keyed} (e:x[i]? = some p):ZF κ p:=by
 obtain⟨hi,rfl⟩:=Array.getElem?_eq_some_iff.mp e
 exact h _ (by simp)
theorem j3 (x:Array Keyed) {i:Nat} (h:i < x.size):∃ p,x[i]? = some p:=⟨_,getElem?_pos x i h⟩
def ML (κ:KeyKind) (x y:Array Keyed) (i j:Nat) (out:Array Keyed):Prop:=MI (kl κ) (x.toList++y.toList) (x.toList.drop i) (y.toList.drop j) out.toList
section
variable {x y out:Array Keyed}{i j:Nat}{p:Keyed}
theorem ML.a (h:ML κ x y i j out) (e:x[i]? = some p) (c:∀ m q,j <= m->y[m]? = some q->kl κ p q):ML κ x y (i+1) j (out.push p):=by
 unfold ML at *
 rw[zFo e] at h
 have:=MI.run (xs:=[p]) h fun z hz q hq=>by
  obtain⟨m,a,_,b⟩:=Z1 hq
  rw[List.mem_singleton.mp hz];exact c m q a b
 rwa [Array.toList_push]
theorem ML.b (h:ML κ x y i j out) (e:y[j]? = some p) (c:∀ m q,i <= m->x[m]? = some q->kl κ p q):ML κ x y i (j+1) (out.push p):=by
 unfold ML at *
 rw[zFo e] at h
 have:=MI.run (xs:=[p]) h.swap fun z hz q hq=>by
  obtain⟨m,a,_,b⟩:=Z1 hq
  rw[List.mem_singleton.mp hz];exact c m q a b
 rw[Array.toList_push];exact this.swap
theorem ML.as {k:Nat} (h:ML κ x y i j out) (c:∀ m q,i <= m->m < i+k->x[m]? = some q->∀ m' q',j <= m'->y[m']? = some q'->kl κ q q'):ML κ x y (i+k) j (out++x.extract i (i+k)):=by
 unfold ML at *
 rw[zAc (k:=k)] at h
 have:=MI.run h fun z hz q hq=>by
  obtain⟨m,a,_,b⟩:=Z1 hq
  obtain⟨m',a',b',_,c'⟩:=zAv hz
  exact c m' z a' b' c' m q a b
 rwa [Array.toList_append]
theorem ML.bs {k:Nat} (h:ML κ x y i j out) (c:∀ m q,j <= m->m < j+k->y[m]? = some q->∀ m' q',i <= m'->x[m']? = some q'->kl κ q q'):ML κ x y i (j+k) (out++y.extract j (j+k)):=by
 unfold ML at *
 have h:=h.swap
 rw[zAc (k:=k)] at h
 have:=MI.run h fun z hz q hq=>by
  obtain⟨m,a,_,b⟩:=Z1 hq
  obtain⟨m',a',b',_,c'⟩:=zAv hz
  exact c m' z a' b' c' m q a b
 rw[Array.toList_append];exact this.swap
theorem zAE (z:Array Keyed) (i:Nat):(z.extract i z.size).toList=z.toList.drop i:=by
 rw[Array.toList_extract,List.extract_eq_take_drop,List.take_of_length_le (by rw[List.length_drop,Array.length_toList];omega)]
theorem ML.dn (h:ML κ x y i j out) (c:i=x.size\/j=y.size):Rs κ x y (dnL x y out i j):=by
 unfold Rs dnL
 rw[Array.toList_append,Array.toList_append,zAE,zAE]
 refine⟨h.pm,h.fin fun a ha b hb=>?_⟩
 obtain⟨m,a1,a2,a3⟩:=Z1 ha
 obtain⟨m',b1,b2,b3⟩:=Z1 hb
 omega
theorem ML.ls (g:MG κ x y) (h:ML κ x y i j out) (c:i+1=x.size):Rs κ x y (lsL x y out i j):=by
 unfold Rs lsL
 rw[Array.toList_append,Array.toList_append,zAE,zAE]
 refine⟨h.swap.pm,h.swap.fin fun a ha b hb=>?_⟩
 obtain⟨m,a1,a2,a3⟩:=Z1 ha
 obtain⟨m',b1,b2,b3⟩:=Z1 hb
 obtain rfl:m'=x.size - 1:=by omega
 obtain⟨l,el⟩:=j3 y (i:=y.size - 1) (by omega)
 exact KeyOrd.kle_trans (g.ry.at (show m <= y.size - 1 by omega) a3 el) (g.lst l b el b3)
end
def Lo7 (κ:KeyKind) (st₀:SortSt) (x y:Array Keyed) (b:Nat) (c:C7) (u:SortSt):Prop :=
 jK st₀ u/\match c.1 with
  | some r=>Rs κ x y r
  | none=>ML κ x y c.2.2.1 c.2.2.2.1 c.2.1/\c.2.2.1+1 < x.size/\c.2.2.2.1 < y.size/\b <= c.2.2.1+c.2.2.2.1
def St7 (κ:KeyKind) (st₀:SortSt) (x y:Array Keyed) (b:Nat) (r:ForInStep C7) (u:SortSt):Prop :=
 match r with
 | .done c=>Lo7 κ st₀ x y b c u
 | .yield c=>c.1=none/\Lo7 κ st₀ x y b c u
section
variable {st₀ st:SortSt}{x y out:Array Keyed}{i j mg ac bc b:Nat}
theorem zIC (g:MG κ x y) (sg:jK st₀ st) (h:ML κ x y i j out) (hi:i+1 < x.size) (hj:j < y.size) (hb:b <= i+j) (c:∀ p,x[i]? = some p->∀ m q,j <= m->y[m]? = some q->kl κ p q) :
  wpS (model prog w) A E s (loD x y out i j mg ac bc) (St7 κ st₀ x y b) st:=by
 unfold loD
 obtain⟨p,e⟩:=j3 x (show i < x.size by omega)
 have h2:=h.a e (c p e)
 refine wpS_bind (jk e ?_)
 by_cases c1:i+1+1=x.size
 ·rw[if_pos (by simpa using c1)]
  exact wpS_pure ⟨sg,h2.ls g c1⟩
 rw[if_neg (by simpa using c1)]
 split
 ·exact wpS_pure ⟨sg,h2,by show i+1+1 < _;omega,hj,by show b <= i+1+j;omega⟩
 ·exact wpS_pure ⟨rfl,sg,h2,by show i+1+1 < _;omega,hj,by show b <= i+1+j;omega⟩
theorem zMn (hO:κ.OneLt) (kd:kindOf st=oneType') (g:MG κ x y) (sg:jK st₀ st) (h:ML κ x y i j out) (hi:i+1 < x.size) (hj:j < y.size) (hb:b <= i+j) :
  wpS (model prog w) A E s (loC x y out i j mg ac bc) (St7 κ st₀ x y b) st:=by
 unfold loC
 obtain⟨p,e⟩:=j3 x (show i < x.size by omega)
 refine wpS_bind (jk e (wpS_bind (Z3 hO kd g.ky (Qo g.kx e) (by omega) (g.ry.tail j _ (by omega)) (by omega) fun k ⟨k1,k2,k3⟩=>?_)))
 have f2:∀ m q,j <= m->m < j+k->y[m]? = some q->∀ m' q',i <= m'->x[m']? = some q'->kl κ q q':=fun m q a b c m' q' a' b'=>by
  have:=k2 (m - j) (by omega)
  unfold By at this
  rw[if_pos rfl,show j+(m - j)=m by omega,qP c] at this
  exact KeyOrd.kle_trans (KeyOrd.kle_of_klt this) (g.rx.at a' e b')
 have f3:∀ m q,j+k <= m->y[m]? = some q->kl κ p q:=fun m q a b=>by
  have hm:m < y.size:=(Array.getElem?_eq_some_iff.mp b).1
  have:=k3 (m - j) (by omega) (by omega)
  unfold By at this
  rw[if_pos rfl,show j+(m - j)=m by omega,qP b] at this
  exact this
 dsimp only
 by_cases c1:k > 0
 ·rw[if_pos c1]
  have h2:=h.bs f2
  by_cases c2:j+k=y.size
  ·rw[if_pos (by simpa using c2)]
   exact wpS_pure ⟨sg,h2.dn (.inr c2)⟩
  rw[if_neg (by simpa using c2)]
  exact zIC g sg h2 hi (by omega) (by omega) fun p' e' m q a b=>by rw[e] at e';cases e';exact f3 m q a b
 ·rw[if_neg c1]
  obtain rfl:k=0:=by omega
  exact zIC g sg h hi hj hb fun p' e' m q a b=>by rw[e] at e';cases e';exact f3 m q (by omega) b
theorem zHO (hO:κ.OneLt) (kd:kindOf st=oneType') (g:MG κ x y) (sg:jK st₀ st) (h:ML κ x y i j out) (hi:i+1 < x.size) (hj:j < y.size) (hb:b <= i+j) (c:∀ p,y[j]? = some p->∀ m q,i <= m->x[m]? = some q->kl κ p q) :
  wpS (model prog w) A E s (loB x y out i j mg ac bc) (St7 κ st₀ x y b) st:=by
 unfold loB
 obtain⟨p,e⟩:=j3 y hj
 have h2:=h.b e (c p e)
 refine wpS_bind (jk e ?_)
 by_cases c1:j+1=y.size
 ·rw[if_pos (by simpa using c1)]
  exact wpS_pure ⟨sg,h2.dn (.inr c1)⟩
 rw[if_neg (by simpa using c1)]
 exact zMn hO kd g sg h2 hi (by omega) (by omega)
theorem zLK (hO:κ.OneLt) (kd:kindOf st₀=oneType') (g:MG κ x y) (sg:jK st₀ st) (h:ML κ x y i j out) (hi:i+1 < x.size) (hj:j < y.size) (hb:b <= i+j) :
  wpS (model prog w) A E s (loA x y out i j mg ac bc) (St7 κ st₀ x y b) st:=by
 unfold loA
 obtain⟨p,e⟩:=j3 y hj
 refine wpS_bind (zBP sg fun u sg=>?_)
 have kd:kindOf u=oneType':=sg.kd.trans kd
 refine wpS_bind (jk e (wpS_bind (Z3 hO kd g.kx (Qo g.ky e) (by omega) (g.rx.tail i _ (by omega)) (by omega) fun k ⟨k1,k2,k3⟩=>?_)))
 have f2:∀ m q,i <= m->m < i+k->x[m]? = some q->∀ m' q',j <= m'->y[m']? = some q'->kl κ q q':=fun m q a b c m' q' a' b'=>by
  have:=k2 (m - i) (by omega)
  unfold By at this
  rw[if_neg (by decide),show i+(m - i)=m by omega,qP c,Bool.not_eq_true'] at this
  exact KeyOrd.kle_trans (show κ.kle (kyo κ q) (kyo κ p) from this) (g.ry.at a' e b')
 have f3:∀ m q,i+k <= m->x[m]? = some q->kl κ p q:=fun m q a b=>by
  have hm:m < x.size:=(Array.getElem?_eq_some_iff.mp b).1
  have:=k3 (m - i) (by omega) (by omega)
  unfold By at this
  rw[if_neg (by decide),show i+(m - i)=m by omega,qP b,Bool.not_eq_false'] at this
  exact KeyOrd.kle_of_klt this
 dsimp only
 by_cases c1:k > 0
 ·rw[if_pos c1]
  have h2:=h.as f2
  by_cases c2:i+k+1=x.size
  ·rw[if_pos (by simpa using c2)]
   exact wpS_pure ⟨sg,h2.ls g c2⟩
  rw[if_neg (by simpa using c2)]
  by_cases c3:i+k=x.size
  ·rw[if_pos (by simpa using c3)]
   exact wpS_pure ⟨sg,h2.dn (.inl c3)⟩
  rw[if_neg (by simpa using c3)]
  exact zHO hO kd g sg h2 (by omega) hj (by omega) fun p' e' m q a b=>by rw[e] at e';cases e';exact f3 m q a b
 ·rw[if_neg c1]
  obtain rfl:k=0:=by omega
  exact zHO hO kd g sg h hi hj hb fun p' e' m q a b=>by rw[e] at e';cases e';exact f3 m q (by omega) b
def Lo6 (κ:KeyKind) (st₀:SortSt) (x y:Array Keyed) (b:Nat) (c:C6) (u:SortSt):Prop :=
 jK st₀ u/\match c.1 with
  | some r=>Rs κ x y r
  | none=>ML κ x y c.2.2.1 c.2.2.2.1 c.2.1/\c.2.2.1+1 < x.size/\c.2.2.2.1 < y.size/\b <= c.2.2.1+c.2.2.2.1
def St6 (κ:KeyKind) (st₀:SortSt) (x y:Array Keyed) (b:Nat) (r:ForInStep C6) (u:SortSt):Prop :=
 match r with
 | .done c=>Lo6 κ st₀ x y b c u
 | .yield c=>c.1=none/\Lo6 κ st₀ x y b c u
theorem zMe {c:C6} (hO:κ.OneLt) (kd:kindOf st₀=oneType') (g:MG κ x y) (sg:jK st₀ st) (h:ML κ x y c.2.2.1 c.2.2.2.1 c.2.1) (hi:c.2.2.1+1 < x.size) (hj:c.2.2.2.1 < y.size) (hb:b <= c.2.2.1+c.2.2.2.1+1) :
  wpS (model prog w) A E s (lo1 x y mg c) (St6 κ st₀ x y b) st:=by
 unfold lo1
 obtain⟨p,e⟩:=j3 y hj
 obtain⟨q,e'⟩:=j3 x (show c.2.2.1 < x.size by omega)
 have kd:kindOf st=oneType':=sg.kd.trans kd
 refine wpS_bind (jk e (wpS_bind (jk e' (wpS_bind (zDt hO kd (Qo g.ky e) (Qo g.kx e') ?_)))))
 cases hb:κ.blt (kyo κ p) (kyo κ q) with
 | true =>
  dsimp only
  rw[if_pos rfl]
  have h2:=h.b e fun m z a b=>KeyOrd.kle_trans (KeyOrd.kle_of_klt hb) (g.rx.at a e' b)
  refine wpS_bind (jk e ?_)
  by_cases c1:c.2.2.2.1+1=y.size
  ·rw[if_pos (by simpa using c1)]
   exact wpS_pure ⟨sg,h2.dn (.inr c1)⟩
  rw[if_neg (by simpa using c1)]
  split
  ·exact wpS_pure ⟨sg,h2,hi,by show c.2.2.2.1+1 < _;omega,by show b <= c.2.2.1+(c.2.2.2.1+1);omega⟩
  ·exact wpS_pure ⟨rfl,sg,h2,hi,by show c.2.2.2.1+1 < _;omega,by show b <= c.2.2.1+(c.2.2.2.1+1);omega⟩
 | false =>
  dsimp only
  rw[if_neg (by decide)]
  have h2:=h.a e' fun m z a b=>KeyOrd.kle_trans hb (g.ry.at a e b)
  refine wpS_bind (jk e' ?_)
  by_cases c1:c.2.2.1+1+1=x.size
  ·rw[if_pos (by simpa using c1)]
   exact wpS_pure ⟨sg,h2.ls g c1⟩
  rw[if_neg (by simpa using c1)]
  split
  ·exact wpS_pure ⟨sg,h2,by show c.2.2.1+1+1 < _;omega,hj,by show b <= c.2.2.1+1+c.2.2.2.1;omega⟩
  ·exact wpS_pure ⟨rfl,sg,h2,by show c.2.2.1+1+1 < _;omega,hj,by show b <= c.2.2.1+1+c.2.2.2.1;omega⟩
def Lo5 (κ:KeyKind) (st₀:SortSt) (x y:Array Keyed) (b:Nat) (c:C5) (u:SortSt):Prop :=
 jK st₀ u/\match c.1 with
  | some r=>Rs κ x y r
  | none=>ML κ x y c.2.2.1 c.2.2.2.1 c.2.1/\c.2.2.1+1 < x.size/\c.2.2.2.1 < y.size/\b <= c.2.2.1+c.2.2.2.1
theorem zLr {c:C5}{R:ForInStep C5->SortSt->Prop} (hO:κ.OneLt) (kd:kindOf st₀=oneType') (g:MG κ x y) (sg:jK st₀ st) (h:ML κ x y c.2.2.1 c.2.2.2.1 c.2.1) (hi:c.2.2.1+1 < x.size) (hj:c.2.2.2.1 < y.size) (hb:b <= c.2.2.1+c.2.2.2.1)
  (hd:∀ r d u,jK st₀ u->Rs κ x y r->R (.done (some r,d)) u) (hy:∀ d u,Lo5 κ st₀ x y (b+1) (none,d) u->R (.yield (none,d)) u) :
  wpS (model prog w) A E s (loO x y c) R st:=by
 unfold loO
 refine wpS_bind (wpS_mono (wpS_forRange (I:=fun k d u=>d.1=none/\Lo6 κ st₀ x y (b+min k 1) d u) (Q:=Lo6 κ st₀ x y (b+1)) (fun k d u _ hk ⟨n,sg,d2⟩=>?step) (fun d u ⟨n,dd⟩=>?fin) ⟨rfl,sg,h,hi,hj,hb⟩) fun d u dd=>?post)
 case step =>
  rw[n] at d2
  refine wpS_mono (zMe (b:=b+1) hO kd g sg d2.1 d2.2.1 d2.2.2.1 (by have:=d2.2.2.2;omega)) fun r u h=>?_
  rw[show min (k+1) 1=1 by omega]
  cases r<;>exact h
 case fin=>rwa [show min (max 0 (x.size+y.size)) 1=1 by have:=g.nx;omega] at dd
 case post =>
  obtain⟨d1,d⟩:=d
  cases d1 with
  | some r=>exact wpS_pure (hd r _ u dd.1 dd.2)
  | none =>
   refine wpS_bind (wpS_lift (wpAny_rule ⟨rfl,?_⟩))
   refine wpS_bind (wpS_mono (wpS_forRange (I:=fun k e u=>e.1=none/\Lo7 κ st₀ x y (b+1) e u) (Q:=Lo7 κ st₀ x y (b+1)) (fun k e u _ hk ⟨n,sg,e2⟩=>?step2) (fun e u ⟨n,ee⟩=>ee) ⟨rfl,dd⟩) fun e u ee=>?post2)
   case step2 =>
    rw[n] at e2
    split<;>exact wpS_mono (zLK hO kd g sg e2.1 e2.2.1 e2.2.2.1 e2.2.2.2) fun r u h=>by cases r<;>exact h
   case post2 =>
    obtain⟨e1,e⟩:=e
    cases e1 with
    | some r=>exact wpS_pure (hd r _ u ee.1 ee.2)
    | none=>exact wpS_bind (zBP ee.1 fun u sg=>wpS_pure (hy _ u ⟨sg,ee.2⟩))
theorem zGc {Q:Array Keyed->SortSt->Prop} (hO:κ.OneLt) (kd:kindOf st=oneType') (g:MG κ x y) (h:∀ r u,jK st u->Rs κ x y r->Q r u):wpS (model prog w) A E s (zBV x y) Q st:=by
 rw[zFc]
 refine wpS_bind (wpS_lift (wpAny_rule ⟨rfl,?_⟩))
 obtain⟨p,e⟩:=j3 y (show 0 < y.size from g.ny)
 have g1:=g.nx
 have g2:=g.ny
 refine wpS_bind (jk e ?_)
 have h1:ML κ x y 0 1 #[p]:=by
  have h0:ML κ x y 0 0 #[]:=⟨by simp,List.Pairwise.nil,fun _ h=>by simp at h,fun _ h=>by simp at h,by rw[List.drop_zero];exact g.rx.pair,by rw[List.drop_zero];exact g.ry.pair⟩
  obtain⟨q,e'⟩:=j3 x (show 0 < x.size from g.nx)
  exact h0.b e fun m z a b=>KeyOrd.kle_trans (g.fst p q e e') (g.rx.at a e' b)
 by_cases c1:1=y.size
 ·rw[if_pos (by simpa using c1)]
  exact wpS_pure (h _ _ (jK.refl _) (h1.dn (.inr c1)))
 rw[if_neg (by simpa using c1)]
 by_cases c2:0+1=x.size
 ·rw[if_pos (by simpa using c2)]
  exact wpS_pure (h _ _ (jK.refl _) (h1.ls g c2))
 rw[if_neg (by simpa using c2)]
 refine wpS_bind (wpS_get ?_)
 refine wpS_bind (wpS_mono (wpS_forRange (I:=fun k c u=>c.1=none/\Lo5 κ st x y (k+1) c u) (Q:=fun c u=>∃ r d,c=(some r,d)/\jK st u/\Rs κ x y r) (fun k c u _ hk ⟨n,sg,c2⟩=>?step) (fun c u ⟨n,sg,c2⟩=>?fin) ⟨rfl,jK.refl _,h1,by show 0+1 < _;omega,by show 1 < _;omega,by show 0+1 <= 0+1;omega⟩) fun c u ⟨r,d,ec,sg,rs⟩=>?post)
 case step =>
  rw[n] at c2
  exact zLr (b:=k+1) hO kd g sg c2.1 c2.2.1 c2.2.2.1 c2.2.2.2 (fun r d u sg rs=>⟨r,d,rfl,sg,rs⟩) fun d u l=>⟨rfl,l⟩
 case fin=>rw[n] at c2;have:=c2.2;omega
 case post=>subst ec;exact wpS_pure (h r u sg rs)
end
abbrev H7:=Option (Array Keyed)×Nat×Nat×Array Keyed×Nat×Nat×Nat
abbrev H6:=Option (Array Keyed)×Nat×Nat×Array Keyed×Nat×Nat
abbrev H5:=Option (Array Keyed)×Nat×Nat×Array Keyed×Nat
def hiD (x y out:Array Keyed) (i j mg ac bc:Nat):StateT SortSt Sem (ForInStep H7):=do
 let p <- elem' x (i - 1)
 if (i - 1 == 0)=true then pure (.done (some (dnH x y (out.push p) (i - 1) j),i - 1,j,out.push p,mg,ac,bc))
 else if (decide (ac < 7) && decide (bc < 7))=true then pure (.done (none,i - 1,j,out.push p,mg,ac,bc))
 else pure (.yield (none,i - 1,j,out.push p,mg,ac,bc))
def hiC (x y out:Array Keyed) (i j mg ac bc:Nat):StateT SortSt Sem (ForInStep H7):=do
 let p <- elem' x (i - 1)
 match <- Z7 true p y 0 j (j - 1) with
 | some t =>
  if j - t > 0 then
   if (t == 1)=true then pure (.done (some (fsH x y (out++(y.extract t j).reverse) i t),i,t,out++(y.extract t j).reverse,mg,ac,j - t))
   else if (t == 0)=true then pure (.done (some (dnH x y (out++(y.extract t j).reverse) i t),i,t,out++(y.extract t j).reverse,mg,ac,j - t))
   else hiD x y (out++(y.extract t j).reverse) i t mg ac (j - t)
  else hiD x y out i j mg ac (j - t)
 | _=>pure (.done (some (dnH x y out i j),i,j,out,mg,ac,bc))
def hiB (x y out:Array Keyed) (i j mg ac bc:Nat):StateT SortSt Sem (ForInStep H7):=do
 let p <- elem' y (j - 1)
 if (j - 1 == 1)=true then pure (.done (some (fsH x y (out.push p) i (j - 1)),i,j - 1,out.push p,mg,ac,bc))
 else hiC x y (out.push p) i (j - 1) mg ac bc
def hiA (x y out:Array Keyed) (i j mg ac bc:Nat):StateT SortSt Sem (ForInStep H7):=do
 zCU mg
 let p <- elem' y (j - 1)
 match <- Z7 false p x 0 i (i - 1) with
 | some t =>
  if i - t > 0 then
   if (t == 0)=true then pure (.done (some (dnH x y (out++(x.extract t i).reverse) t j),t,j,out++(x.extract t i).reverse,mg,i - t,bc))
   else hiB x y (out++(x.extract t i).reverse) t j mg (i - t) bc
  else hiB x y out i j mg (i - t) bc
 | _=>pure (.done (some (dnH x y out i j),i,j,out,mg,ac,bc))
def hi1 (x y:Array Keyed) (mg:Nat) (c:H6):StateT SortSt Sem (ForInStep H6):=do
 let p <- elem' y (c.2.2.1 - 1)
 let q <- elem' x (c.2.1 - 1)
 match <- lt' p q with
 | some r =>
  if r=true then do
   let q <- elem' x (c.2.1 - 1)
   if (c.2.1 - 1 == 0)=true then pure (.done (some (dnH x y (c.2.2.2.1.push q) (c.2.1 - 1) c.2.2.1),c.2.1 - 1,c.2.2.1,c.2.2.2.1.push q,c.2.2.2.2.1+1,0))
   else if c.2.2.2.2.1+1 ≥ mg then pure (.done (none,c.2.1 - 1,c.2.2.1,c.2.2.2.1.push q,c.2.2.2.2.1+1,0))
   else pure (.yield (none,c.2.1 - 1,c.2.2.1,c.2.2.2.1.push q,c.2.2.2.2.1+1,0))
  else do
   let p <- elem' y (c.2.2.1 - 1)
   if (c.2.2.1 - 1 == 1)=true then pure (.done (some (fsH x y (c.2.2.2.1.push p) c.2.1 (c.2.2.1 - 1)),c.2.1,c.2.2.1 - 1,c.2.2.2.1.push p,0,c.2.2.2.2.2+1))
   else if c.2.2.2.2.2+1 ≥ mg then pure (.done (none,c.2.1,c.2.2.1 - 1,c.2.2.2.1.push p,0,c.2.2.2.2.2+1))
   else pure (.yield (none,c.2.1,c.2.2.1 - 1,c.2.2.2.1.push p,0,c.2.2.2.2.2+1))
 | _=>pure (.done (some (dnH x y c.2.2.2.1 c.2.1 c.2.2.1),c.2.1,c.2.2.1,c.2.2.2.1,c.2.2.2.2.1,c.2.2.2.2.2))
def hiO (x y:Array Keyed) (c:H5):StateT SortSt Sem (ForInStep H5):=do
 let d <- forIn [0:x.size+y.size] ((none,c.2.1,c.2.2.1,c.2.2.2.1,0,0):H6) fun _ d=>hi1 x y c.2.2.2.2 d
 match d.1 with
 | some r=>pure (.done (some r,d.2.1,d.2.2.1,d.2.2.2.1,c.2.2.2.2))
 | none=>do
  liftM (rule "list.sort.gallop")
  let e <- forIn [0:x.size+y.size] ((none,d.2.1,d.2.2.1,d.2.2.2.1,c.2.2.2.2+1,d.2.2.2.2.1,d.2.2.2.2.2):H7) fun _ e =>
   if e.2.2.2.2.1 > 1 then hiA x y e.2.2.2.1 e.2.1 e.2.2.1 (e.2.2.2.2.1 - 1) e.2.2.2.2.2.1 e.2.2.2.2.2.2 else hiA x y e.2.2.2.1 e.2.1 e.2.2.1 e.2.2.2.2.1 e.2.2.2.2.2.1 e.2.2.2.2.2.2
  match e.1 with
  | some r=>pure (.done (some r,e.2.1,e.2.2.1,e.2.2.2.1,e.2.2.2.2.1))
  | none=>do
   zCU (e.2.2.2.2.1+1)
   pure (.yield (none,e.2.1,e.2.2.1,e.2.2.2.1,e.2.2.2.2.1+1))
theorem zFN (x y:Array Keyed):zBk x y=(do
 liftM (rule "list.sort.merge-hi")
 let p <- elem' x (x.size - 1)
 if (x.size - 1 == 0)=true then pure (dnH x y #[p] (x.size - 1) y.size)
 else if (y.size == 1)=true then pure (fsH x y #[p] (x.size - 1) y.size)
 else do
  let z <- get
  let c <- forIn [0:x.size+y.size] ((none,x.size - 1,y.size,#[p],gallopOf z):H5) fun _ c=>hiO x y c
  match c.1 with
  | some r=>pure r
  | none=>liftM (unsupported "internal:list.sort.merge-bound" : Sem (Array Keyed))):=by
 show (sortPriv% PySem.Builtin.mergeHi) x y=_
 refine congrArg (bind _) (funext fun _=>congrArg (bind _) (funext fun p=>ite_congr rfl (fun _=>rfl) fun _=>ite_congr rfl (fun _=>rfl) fun _=>congrArg (bind _) (funext fun z=>?_)))
 refine congr (congrArg bind (congrArg _ (funext fun _=>funext fun c=>congrArg (bind _) (funext fun d=>?_)))) (funext fun c=>?_)
 ·obtain⟨d1,d⟩:=d
  cases d1 with
  | some r=>rfl
  | none=>exact congrArg (bind _) (funext fun _=>congrArg (bind _) (funext fun e=>by obtain⟨e1,e⟩:=e;cases e1<;>rfl))
 ·obtain⟨c1,c⟩:=c
  cases c1<;>rfl
def MH (κ:KeyKind) (x y:Array Keyed) (i j:Nat) (out:Array Keyed):Prop:=MI (fun p q=>kl κ q p) (x.toList++y.toList) (x.toList.take i).reverse (y.toList.take j).reverse out.toList
section
variable {x y out:Array Keyed}{i j:Nat}{p:Keyed}
theorem MH.a (h:MH κ x y (i+1) j out) (e:x[i]? = some p) (c:∀ m q,m < j->y[m]? = some q->kl κ q p):MH κ x y i j (out.push p):=by
 unfold MH at *
 rw[zBR e] at h
 have:=MI.run (xs:=[p]) h fun z hz q hq=>by
  obtain⟨m,a,_,b⟩:=Z4 hq
  rw[List.mem_singleton.mp hz];exact c m q a b
 rwa [Array.toList_push]
theorem MH.b (h:MH κ x y i (j+1) out) (e:y[j]? = some p) (c:∀ m q,m < i->x[m]? = some q->kl κ q p):MH κ x y i j (out.push p):=by
 unfold MH at *
 rw[zBR e] at h
 have:=MI.run (xs:=[p]) h.swap fun z hz q hq=>by
  obtain⟨m,a,_,b⟩:=Z4 hq
  rw[List.mem_singleton.mp hz];exact c m q a b
 rw[Array.toList_push];exact this.swap
theorem MH.as {k:Nat} (hk:k <= i) (h:MH κ x y i j out) (c:∀ m q,k <= m->m < i->x[m]? = some q->∀ m' q',m' < j->y[m']? = some q'->kl κ q' q):MH κ x y k j (out++(x.extract k i).reverse):=by
 unfold MH at *
 rw[zA3 hk] at h
 have:=MI.run h fun z hz q hq=>by
  obtain⟨m,a,_,b⟩:=Z4 hq
  rw[Array.toList_reverse,List.mem_reverse] at hz
  obtain⟨m',a',b',_,c'⟩:=zAv hz
  exact c m' z a' b' c' m q a b
 rwa [Array.toList_append]
theorem MH.bs {k:Nat} (hk:k <= j) (h:MH κ x y i j out) (c:∀ m q,k <= m->m < j->y[m]? = some q->∀ m' q',m' < i->x[m']? = some q'->kl κ q' q):MH κ x y i k (out++(y.extract k j).reverse):=by
 unfold MH at *
 have h:=h.swap
 rw[zA3 hk] at h
 have:=MI.run h fun z hz q hq=>by
  obtain⟨m,a,_,b⟩:=Z4 hq
  rw[Array.toList_reverse,List.mem_reverse] at hz
  obtain⟨m',a',b',_,c'⟩:=zAv hz
  exact c m' z a' b' c' m q a b
 rw[Array.toList_append];exact this.swap
theorem zAQ (z:Array Keyed) (i:Nat):(z.extract 0 i).toList=z.toList.take i:=by
 rw[Array.toList_extract,List.extract_eq_take_drop];rfl
theorem zLG (a b c:List Keyed):a++b++c.reverse=(c++b.reverse++a.reverse).reverse:=by simp
theorem MH.dn (h:MH κ x y i j out) (c:i=0\/j=0):Rs κ x y (dnH x y out i j):=by
 unfold Rs dnH
 rw[Array.toList_append,Array.toList_append,zAQ,zAQ,Array.toList_reverse,zLG]
 refine⟨(List.reverse_perm _).trans h.swap.pm,List.pairwise_reverse.mpr (h.swap.fin fun a ha b hb=>?_)⟩
 obtain⟨m,a1,a2,a3⟩:=Z4 ha
 obtain⟨m',b1,b2,b3⟩:=Z4 hb
 omega
theorem MH.fs (g:MG κ x y) (h:MH κ x y i j out) (c:j=1):Rs κ x y (fsH x y out i j):=by
 unfold Rs fsH
 rw[Array.toList_append,Array.toList_append,zAQ,zAQ,Array.toList_reverse,zLG]
 refine⟨(List.reverse_perm _).trans h.pm,List.pairwise_reverse.mpr (h.fin fun a ha b hb=>?_)⟩
 obtain⟨m,a1,a2,a3⟩:=Z4 ha
 obtain⟨m',b1,b2,b3⟩:=Z4 hb
 obtain rfl:m'=0:=by omega
 obtain⟨l,el⟩:=j3 x (i:=0) (by omega)
 exact KeyOrd.kle_trans (g.fst b l b3 el) (g.rx.at (Nat.zero_le m) el a3)
end
def Hi7 (κ:KeyKind) (st₀:SortSt) (x y:Array Keyed) (b:Nat) (c:H7) (u:SortSt):Prop :=
 jK st₀ u/\match c.1 with
  | some r=>Rs κ x y r
  | none=>MH κ x y c.2.1 c.2.2.1 c.2.2.2.1/\1 <= c.2.1/\2 <= c.2.2.1/\c.2.1 <= x.size/\c.2.2.1 <= y.size/\c.2.1+c.2.2.1+b <= x.size+y.size
def Th7 (κ:KeyKind) (st₀:SortSt) (x y:Array Keyed) (b:Nat) (r:ForInStep H7) (u:SortSt):Prop :=
 match r with
 | .done c=>Hi7 κ st₀ x y b c u
 | .yield c=>c.1=none/\Hi7 κ st₀ x y b c u
section
variable {st₀ st:SortSt}{x y out:Array Keyed}{i j mg ac bc b:Nat}
theorem zID (g:MG κ x y) (sg:jK st₀ st) (h:MH κ x y i j out) (hi:1 <= i) (hj:2 <= j) (hix:i <= x.size) (hjy:j <= y.size) (hb:i+j+b <= x.size+y.size) (c:∀ p,x[i - 1]? = some p->∀ m q,m < j->y[m]? = some q->kl κ q p) :
  wpS (model prog w) A E s (hiD x y out i j mg ac bc) (Th7 κ st₀ x y b) st:=by
 unfold hiD
 obtain⟨p,e⟩:=j3 x (show i - 1 < x.size by omega)
 obtain⟨n,rfl⟩:∃ n,i=n+1:=⟨i - 1,by omega⟩
 rw[Nat.add_sub_cancel] at e c ⊢
 have h2:=h.a e (c p e)
 refine wpS_bind (jk e ?_)
 by_cases c1:n=0
 ·rw[if_pos (by simpa using c1)]
  exact wpS_pure ⟨sg,h2.dn (.inl c1)⟩
 rw[if_neg (by simpa using c1)]
 split
 ·exact wpS_pure ⟨sg,h2,by show 1 <= n;omega,hj,by show n <= _;omega,hjy,by show n+j+b <= _;omega⟩
 ·exact wpS_pure ⟨rfl,sg,h2,by show 1 <= n;omega,hj,by show n <= _;omega,hjy,by show n+j+b <= _;omega⟩
theorem zMU (hO:κ.OneLt) (kd:kindOf st=oneType') (g:MG κ x y) (sg:jK st₀ st) (h:MH κ x y i j out) (hi:1 <= i) (hj:2 <= j) (hix:i <= x.size) (hjy:j <= y.size) (hb:i+j+b <= x.size+y.size) :
  wpS (model prog w) A E s (hiC x y out i j mg ac bc) (Th7 κ st₀ x y b) st:=by
 unfold hiC
 obtain⟨p,e⟩:=j3 x (show i - 1 < x.size by omega)
 refine wpS_bind (jk e (wpS_bind (Z3 hO kd g.ky (Qo g.kx e) (by omega) (g.ry.tail 0 _ (by omega)) (by omega) fun k ⟨k1,k2,k3⟩=>?_)))
 have f2:∀ m q,m < k->y[m]? = some q->kl κ q p:=fun m q a c=>by
  have:=k2 m a
  unfold By at this
  rw[if_pos rfl,Nat.zero_add,qP c] at this
  exact KeyOrd.kle_of_klt this
 have f3:∀ m q,k <= m->m < j->y[m]? = some q->∀ m' q',m' < i->x[m']? = some q'->kl κ q' q:=fun m q a b c m' q' a' c'=>by
  have:=k3 m a b
  unfold By at this
  rw[if_pos rfl,Nat.zero_add,qP c] at this
  exact KeyOrd.kle_trans (g.rx.at (show m' <= i - 1 by omega) c' e) this
 dsimp only
 by_cases c1:j - k > 0
 ·rw[if_pos c1]
  have h2:=h.bs k1 f3
  by_cases c2:k=1
  ·rw[if_pos (by simpa using c2)]
   exact wpS_pure ⟨sg,h2.fs g c2⟩
  rw[if_neg (by simpa using c2)]
  by_cases c3:k=0
  ·rw[if_pos (by simpa using c3)]
   exact wpS_pure ⟨sg,h2.dn (.inr c3)⟩
  rw[if_neg (by simpa using c3)]
  exact zID g sg h2 hi (by omega) hix (by omega) (by omega) fun p' e' m q a b=>by rw[e] at e';cases e';exact f2 m q a b
 ·rw[if_neg c1]
  obtain rfl:k=j:=by omega
  exact zID g sg h hi hj hix hjy hb fun p' e' m q a b=>by rw[e] at e';cases e';exact f2 m q a b
theorem zHK (hO:κ.OneLt) (kd:kindOf st=oneType') (g:MG κ x y) (sg:jK st₀ st) (h:MH κ x y i j out) (hi:1 <= i) (hj:2 <= j) (hix:i <= x.size) (hjy:j <= y.size) (hb:i+j+b <= x.size+y.size) (c:∀ p,y[j - 1]? = some p->∀ m q,m < i->x[m]? = some q->kl κ q p) :
  wpS (model prog w) A E s (hiB x y out i j mg ac bc) (Th7 κ st₀ x y b) st:=by
 unfold hiB
 obtain⟨p,e⟩:=j3 y (show j - 1 < y.size by omega)
 obtain⟨n,rfl⟩:∃ n,j=n+1:=⟨j - 1,by omega⟩
 rw[Nat.add_sub_cancel] at e c ⊢
 have h2:=h.b e (c p e)
 refine wpS_bind (jk e ?_)
 by_cases c1:n=1
 ·rw[if_pos (by simpa using c1)]
  exact wpS_pure ⟨sg,h2.fs g c1⟩
 rw[if_neg (by simpa using c1)]
 exact zMU hO kd g sg h2 hi (by omega) hix (by omega) (by omega)
theorem zMj (hO:κ.OneLt) (kd:kindOf st₀=oneType') (g:MG κ x y) (sg:jK st₀ st) (h:MH κ x y i j out) (hi:1 <= i) (hj:2 <= j) (hix:i <= x.size) (hjy:j <= y.size) (hb:i+j+b <= x.size+y.size) :
  wpS (model prog w) A E s (hiA x y out i j mg ac bc) (Th7 κ st₀ x y b) st:=by
 unfold hiA
 obtain⟨p,e⟩:=j3 y (show j - 1 < y.size by omega)
 refine wpS_bind (zBP sg fun u sg=>?_)
 have kd:kindOf u=oneType':=sg.kd.trans kd
 refine wpS_bind (jk e (wpS_bind (Z3 hO kd g.kx (Qo g.ky e) (by omega) (g.rx.tail 0 _ (by omega)) (by omega) fun k ⟨k1,k2,k3⟩=>?_)))
 have f2:∀ m q,m < k->x[m]? = some q->kl κ q p:=fun m q a c=>by
  have:=k2 m a
  unfold By at this
  rw[if_neg (by decide),Nat.zero_add,qP c,Bool.not_eq_true'] at this
  exact this
 have f3:∀ m q,k <= m->m < i->x[m]? = some q->∀ m' q',m' < j->y[m']? = some q'->kl κ q' q:=fun m q a b c m' q' a' c'=>by
  have:=k3 m a b
  unfold By at this
  rw[if_neg (by decide),Nat.zero_add,qP c,Bool.not_eq_false'] at this
  exact KeyOrd.kle_trans (g.ry.at (show m' <= j - 1 by omega) c' e) (KeyOrd.kle_of_klt this)
 dsimp only
 by_cases c1:i - k > 0
 ·rw[if_pos c1]
  have h2:=h.as k1 f3
  by_cases c3:k=0
  ·rw[if_pos (by simpa using c3)]
   exact wpS_pure ⟨sg,h2.dn (.inl c3)⟩
  rw[if_neg (by simpa using c3)]
  exact zHK hO kd g sg h2 (by omega) hj (by omega) hjy (by omega) fun p' e' m q a b=>by rw[e] at e';cases e';exact f2 m q a b
 ·rw[if_neg c1]
  obtain rfl:k=i:=by omega
  exact zHK hO kd g sg h hi hj hix hjy hb fun p' e' m q a b=>by rw[e] at e';cases e';exact f2 m q a b
def Hi6 (κ:KeyKind) (st₀:SortSt) (x y:Array Keyed) (b:Nat) (c:H6) (u:SortSt):Prop :=
 jK st₀ u/\match c.1 with
  | some r=>Rs κ x y r
  | none=>MH κ x y c.2.1 c.2.2.1 c.2.2.2.1/\1 <= c.2.1/\2 <= c.2.2.1/\c.2.1 <= x.size/\c.2.2.1 <= y.size/\c.2.1+c.2.2.1+b <= x.size+y.size
def Th6 (κ:KeyKind) (st₀:SortSt) (x y:Array Keyed) (b:Nat) (r:ForInStep H6) (u:SortSt):Prop :=
 match r with
 | .done c=>Hi6 κ st₀ x y b c u
 | .yield c=>c.1=none/\Hi6 κ st₀ x y b c u
theorem zLZ {c:H6} (hO:κ.OneLt) (kd:kindOf st₀=oneType') (g:MG κ x y) (sg:jK st₀ st) (h:MH κ x y c.2.1 c.2.2.1 c.2.2.2.1) (hi:1 <= c.2.1) (hj:2 <= c.2.2.1) (hix:c.2.1 <= x.size) (hjy:c.2.2.1 <= y.size) (hb:c.2.1+c.2.2.1+b <= x.size+y.size+1) :
  wpS (model prog w) A E s (hi1 x y mg c) (Th6 κ st₀ x y b) st:=by
 unfold hi1
 obtain⟨c1,i,j,out,ac,bc⟩:=c
 dsimp only at *
 obtain⟨p,e⟩:=j3 y (show j - 1 < y.size by omega)
 obtain⟨q,e'⟩:=j3 x (show i - 1 < x.size by omega)
 have kd:kindOf st=oneType':=sg.kd.trans kd
 refine wpS_bind (jk e (wpS_bind (jk e' (wpS_bind (zDt hO kd (Qo g.ky e) (Qo g.kx e') ?_)))))
 cases hv:κ.blt (kyo κ p) (kyo κ q) with
 | true =>
  dsimp only
  rw[if_pos rfl]
  obtain⟨n,rfl⟩:∃ n,i=n+1:=⟨i - 1,by omega⟩
  rw[Nat.add_sub_cancel] at e' ⊢
  have h2:=h.a e' fun m z a b=>KeyOrd.kle_trans (g.ry.at (show m <= j - 1 by omega) b e) (KeyOrd.kle_of_klt hv)
  refine wpS_bind (jk e' ?_)
  by_cases c1:n=0
  ·rw[if_pos (by simpa using c1)]
   exact wpS_pure ⟨sg,h2.dn (.inl c1)⟩
  rw[if_neg (by simpa using c1)]
  split
  ·exact wpS_pure ⟨sg,h2,by show 1 <= n;omega,hj,by show n <= _;omega,hjy,by show n+j+b <= _;omega⟩
  ·exact wpS_pure ⟨rfl,sg,h2,by show 1 <= n;omega,hj,by show n <= _;omega,hjy,by show n+j+b <= _;omega⟩
 | false =>
  dsimp only
  rw[if_neg (by decide)]
  obtain⟨n,rfl⟩:∃ n,j=n+1:=⟨j - 1,by omega⟩
  rw[Nat.add_sub_cancel] at e ⊢
  have h2:=h.b e fun m z a b=>KeyOrd.kle_trans (g.rx.at (show m <= i - 1 by omega) b e') hv
  refine wpS_bind (jk e ?_)
  by_cases c1:n=1
  ·rw[if_pos (by simpa using c1)]
   exact wpS_pure ⟨sg,h2.fs g c1⟩
  rw[if_neg (by simpa using c1)]
  split
  ·exact wpS_pure ⟨sg,h2,hi,by show 2 <= n;omega,hix,by show n <= _;omega,by show i+n+b <= _;omega⟩
  ·exact wpS_pure ⟨rfl,sg,h2,hi,by show 2 <= n;omega,hix,by show n <= _;omega,by show i+n+b <= _;omega⟩
def Hi5 (κ:KeyKind) (st₀:SortSt) (x y:Array Keyed) (b:Nat) (c:H5) (u:SortSt):Prop :=
 jK st₀ u/\match c.1 with
  | some r=>Rs κ x y r
  | none=>MH κ x y c.2.1 c.2.2.1 c.2.2.2.1/\1 <= c.2.1/\2 <= c.2.2.1/\c.2.1 <= x.size/\c.2.2.1 <= y.size/\c.2.1+c.2.2.1+b <= x.size+y.size
theorem zMd {c:H5}{R:ForInStep H5->SortSt->Prop} (hO:κ.OneLt) (kd:kindOf st₀=oneType') (g:MG κ x y) (hc:c.1=none) (hh:Hi5 κ st₀ x y b c st)
  (hd:∀ r d u,jK st₀ u->Rs κ x y r->R (.done (some r,d)) u) (hy:∀ d u,Hi5 κ st₀ x y (b+1) (none,d) u->R (.yield (none,d)) u) :
  wpS (model prog w) A E s (hiO x y c) R st:=by
 unfold hiO
 obtain⟨sg,h⟩:=hh
 rw[hc] at h
 refine wpS_bind (wpS_mono (wpS_forRange (I:=fun k d u=>d.1=none/\Hi6 κ st₀ x y (b+min k 1) d u) (Q:=Hi6 κ st₀ x y (b+1)) (fun k d u _ hk ⟨n,sg,d2⟩=>?step) (fun d u ⟨n,dd⟩=>?fin) ⟨rfl,sg,h⟩) fun d u dd=>?post)
 case step =>
  rw[n] at d2
  obtain⟨a1,a2,a3,a4,a5,a6⟩:=d2
  refine wpS_mono (zLZ (b:=b+1) hO kd g sg a1 a2 a3 a4 a5 (by omega)) fun r u h=>?_
  rw[show min (k+1) 1=1 by omega]
  cases r<;>exact h
 case fin=>rwa [show min (max 0 (x.size+y.size)) 1=1 by have:=g.nx;omega] at dd
 case post =>
  obtain⟨d1,d⟩:=d
  cases d1 with
  | some r=>exact wpS_pure (hd r _ u dd.1 dd.2)
  | none =>
   refine wpS_bind (wpS_lift (wpAny_rule ⟨rfl,?_⟩))
   refine wpS_bind (wpS_mono (wpS_forRange (I:=fun k e u=>e.1=none/\Hi7 κ st₀ x y (b+1) e u) (Q:=Hi7 κ st₀ x y (b+1)) (fun k e u _ hk ⟨n,sg,e2⟩=>?step2) (fun e u ⟨n,ee⟩=>ee) ⟨rfl,dd⟩) fun e u ee=>?post2)
   case step2 =>
    rw[n] at e2
    obtain⟨a1,a2,a3,a4,a5,a6⟩:=e2
    split<;>exact wpS_mono (zMj hO kd g sg a1 a2 a3 a4 a5 a6) fun r u h=>by cases r<;>exact h
   case post2 =>
    obtain⟨e1,e⟩:=e
    cases e1 with
    | some r=>exact wpS_pure (hd r _ u ee.1 ee.2)
    | none=>exact wpS_bind (zBP ee.1 fun u sg=>wpS_pure (hy _ u ⟨sg,ee.2⟩))
theorem zG2 {Q:Array Keyed->SortSt->Prop} (hO:κ.OneLt) (kd:kindOf st=oneType') (g:MG κ x y) (h:∀ r u,jK st u->Rs κ x y r->Q r u):wpS (model prog w) A E s (zBk x y) Q st:=by
 rw[zFN]
 refine wpS_bind (wpS_lift (wpAny_rule ⟨rfl,?_⟩))
 have g1:=g.nx
 have g2:=g.ny
 obtain⟨p,e⟩:=j3 x (show x.size - 1 < x.size by omega)
 refine wpS_bind (jk e ?_)
 have h1:MH κ x y (x.size - 1) y.size #[p]:=by
  have h0:MH κ x y (x.size - 1+1) y.size #[]:=by
   unfold MH
   rw[Nat.sub_add_cancel g1,List.take_of_length_le (by simp),List.take_of_length_le (by simp)]
   exact⟨by simpa using (List.reverse_perm _).append (List.reverse_perm _),List.Pairwise.nil,fun _ h=>by simp at h,fun _ h=>by simp at h,List.pairwise_reverse.mpr g.rx.pair,List.pairwise_reverse.mpr g.ry.pair⟩
  obtain⟨q,e'⟩:=j3 y (show y.size - 1 < y.size by omega)
  exact h0.a e fun m z a b=>KeyOrd.kle_trans (g.ry.at (show m <= y.size - 1 by omega) b e') (g.lst q p e' e)
 by_cases c1:x.size - 1=0
 ·rw[if_pos (by simpa using c1)]
  exact wpS_pure (h _ _ (jK.refl _) (h1.dn (.inl c1)))
 rw[if_neg (by simpa using c1)]
 by_cases c2:y.size=1
 ·rw[if_pos (by simpa using c2)]
  exact wpS_pure (h _ _ (jK.refl _) (h1.fs g c2))
 rw[if_neg (by simpa using c2)]
 refine wpS_bind (wpS_get ?_)
 refine wpS_bind (wpS_mono (wpS_forRange (I:=fun k c u=>c.1=none/\Hi5 κ st x y (k+1) c u) (Q:=fun c u=>∃ r d,c=(some r,d)/\jK st u/\Rs κ x y r) (fun k c u _ hk ⟨n,hh⟩=>?step) (fun c u ⟨n,sg,c2⟩=>?fin) ⟨rfl,jK.refl _,h1,by show 1 <= x.size - 1;omega,by show 2 <= y.size;omega,by show x.size - 1 <= _;omega,Nat.le_refl _,by show x.size - 1+y.size+(0+1) <= _;omega⟩) fun c u ⟨r,d,ec,sg,rs⟩=>?post)
 case step=>exact zMd (b:=k+1) hO kd g n hh (fun r d u sg rs=>⟨r,d,rfl,sg,rs⟩) fun d u l=>⟨rfl,l⟩
 case fin=>rw[n] at c2;have:=c2.2;omega
 case post=>subst ec;exact wpS_pure (h r u sg rs)
end
def ZH (a:Array Keyed) (o:Nat) (l:List (Keyed×Nat)):Array Keyed:=l.foldl (fun a (p,j)=>a.setIfInBounds (o+j) p) a
theorem zCL:∀ (l:List Keyed) (a:Array Keyed) (o n:Nat),o+n+l.length <= a.size->(ZH a o (l.zipIdx n)).toList=a.toList.take (o+n)++l++a.toList.drop (o+n+l.length)
 | [],a,o,n,h=>by show a.toList=_;simp
 | p::l,a,o,n,h=>by
  rw[List.zipIdx_cons]
  show (ZH (a.setIfInBounds (o+n) p) o (l.zipIdx (n+1))).toList=_
  rw[List.length_cons] at h ⊢
  rw[zCL l _ o (n+1) (by rw[Array.size_setIfInBounds];omega),Array.toList_setIfInBounds,show o+(n+1)=(o+n)+1 by omega]
  have hl:o+n < a.toList.length:=by rw[Array.length_toList];omega
  rw[List.take_set,List.drop_set_of_lt (by omega),List.take_succ_eq_append_getElem hl,List.set_append_right _ _ (by rw[List.length_take];omega),List.length_take,show o+n - min (o+n) a.toList.length=0 by omega,show o+n+1+l.length=o+n+(l.length+1) by omega]
  simp
theorem zKH {M:Model}{σ:Type}{z:σ}{Q:PUnit->σ->Prop}{st:σ} (h:Q ⟨⟩ z):wpS M A E s (set z:StateT σ Sem PUnit) Q st:=by
 unfold wpS;rw[StateT.run_set];exact wpAny_pure ⟨rfl,h⟩
def mgE (a:Array Keyed) (sa na sb nb:Nat):StateT SortSt Sem Bool :=
 if (nb == 0)=true then pure true else
 if na <= nb then do
  let r <- zBV (a.extract sa sb) (a.extract sb (sb+nb))
  modify fun z=>setArr z (ZH (arrOf z) sa r.toList.zipIdx)
  let z <- get
  pure (failedOf z).isNone
 else do
  let r <- zBk (a.extract sa sb) (a.extract sb (sb+nb))
  modify fun z=>setArr z (ZH (arrOf z) sa r.toList.zipIdx)
  let z <- get
  pure (failedOf z).isNone
def mgB (a:Array Keyed) (sa na sb nb:Nat):StateT SortSt Sem Bool:=do
 let p <- elem' a sb
 match <- Z7 false p a sa na 0 with
 | some k =>
  if (na - k == 0)=true then pure true else do
   let q <- elem' a (sa+k+(na - k) - 1)
   match <- Z7 true q a sb nb (nb - 1) with
   | some nb=>mgE a (sa+k) (na - k) sb nb
   | _=>pure false
 | _=>pure false
theorem zG6 {st:SortSt}{i sa na pw sb nb qw:Nat}{Q:Bool->SortSt->Prop} (h1:(pendingOf st)[i]? = some (sa,na,pw)) (h2:(pendingOf st)[i+1]? = some (sb,nb,qw))
  (h:wpS (model prog w) A E s (mgB (arrOf st) sa na sb nb) Q (setPending st (((pendingOf st).setIfInBounds i (sa,na+nb,pw)).eraseIdxIfInBounds (i+1)))):wpS (model prog w) A E s (mergeAt' i) Q st:=by
 show wpS (model prog w) A E s ((sortPriv% PySem.Builtin.mergeAt) i) Q st
 refine wpS_bind (wpS_get ?_)
 rw[h1,h2]
 exact wpS_bind (zKH h)
theorem Rs.mem {x y r:Array Keyed} (h:Rs κ x y r) {p:Keyed}{m:Nat} (e:r[m]? = some p):(∃ k:Nat,x[k]? = some p)\/∃ k:Nat,y[k]? = some p:=by
 obtain⟨hm,rfl⟩:=Array.getElem?_eq_some_iff.mp e
 have:=h.1.mem_iff.mp (show r[m]∈r.toList by simp)
 rcases List.mem_append.mp this with a | a
 ·obtain⟨k,hk,ek⟩:=List.mem_iff_getElem.mp a
  exact .inl ⟨k,by rw[<- ek];simpa using hk⟩
 ·obtain⟨k,hk,ek⟩:=List.mem_iff_getElem.mp a
  exact .inr ⟨k,by rw[<- ek];simpa using hk⟩
theorem Rs.le {x y r:Array Keyed} (h:Rs κ x y r) {i j:Nat}{p q:Keyed} (hij:i < j) (ei:r[i]? = some p) (ej:r[j]? = some q):kl κ p q:=by
 obtain⟨hi,rfl⟩:=Array.getElem?_eq_some_iff.mp ei
 obtain⟨hj,rfl⟩:=Array.getElem?_eq_some_iff.mp ej
 have:=List.pairwise_iff_getElem.mp h.2 i j (by rw[Array.length_toList];exact hi) (by rw[Array.length_toList];exact hj) hij
 simpa using this
theorem Jw {a:Array Keyed}{lo hi k:Nat}{p:Keyed} (e:(a.extract lo hi)[k]? = some p):lo+k < hi/\a[lo+k]? = some p:=by
 obtain⟨hk,rfl⟩:=Array.getElem?_eq_some_iff.mp e
 have hk':=hk
 rw[Array.size_extract] at hk'
 exact⟨by omega,by rw[Array.getElem_extract,getElem?_pos a (lo+k) (by omega)]⟩
theorem Ri.ext {a:Array Keyed}{lo n:Nat} (hn:lo+n <= a.size) (r:Ri κ a lo n):Ri κ (a.extract lo (lo+n)) 0 (a.extract lo (lo+n)).size:=by
 intro i j hij hj
 have hs:(a.extract lo (lo+n)).size=n:=by rw[Array.size_extract];omega
 rw[hs] at hj
 have e:∀ k,k < n->KK κ (a.extract lo (lo+n)) (0+k)=KK κ a (lo+k):=fun k hk=>KK_congr (by rw[Nat.zero_add,Array.getElem?_extract,if_pos (by omega)])
 rw[e i (by omega),e j hj]
 exact r i j hij hj
theorem Ri.sub {a:Array Keyed}{lo n:Nat} (r:Ri κ a lo n) (k m:Nat) (h:k+m <= n):Ri κ a (lo+k) m:=fun i j p q=>by
 have:=r (k+i) (k+j) (by omega) (by omega)
 rwa [<- Nat.add_assoc,<- Nat.add_assoc] at this
def Mrg (κ:KeyKind) (a₀:Array Keyed) (sa n:Nat) (st st':SortSt):Prop:=jg a₀ sa (sa+n) st st'/\Ri κ (arrOf st') sa n
theorem zKR {st st':SortSt}{sa k nb nb' na:Nat}{r:Array Keyed} (g:SG a₀ st) (sg:jK st st') (hn:sa+na+nb <= a₀.size) (hk:k <= na) (hb:nb' <= nb) (r1:Ri κ (arrOf st) sa na) (r2:Ri κ (arrOf st) (sa+na) nb)
  (f1:∀ i j,i < k->j < nb->κ.kle (KK κ (arrOf st) (sa+i)) (KK κ (arrOf st) (sa+na+j))) (f2:∀ i j,i < na->nb' <= j->j < nb->κ.kle (KK κ (arrOf st) (sa+i)) (KK κ (arrOf st) (sa+na+j)))
  (rs:Rs κ ((arrOf st).extract (sa+k) (sa+na)) ((arrOf st).extract (sa+na) (sa+na+nb')) r):Mrg κ a₀ sa (na+nb) st (setArr st' (ZH (arrOf st') (sa+k) r.toList.zipIdx)):=by
 have hz:=g.sz
 have hl:r.size=na - k+nb':=by
  have:=rs.1.length_eq
  rw[List.length_append,Array.length_toList,Array.length_toList,Array.length_toList,Array.size_extract,Array.size_extract] at this
  omega
 have pl:=zCL r.toList (arrOf st') (sa+k) 0 (by rw[Array.length_toList,sg.ar];omega)
 rw[sg.ar,Nat.add_zero,Array.length_toList,hl] at pl
 rw[sg.ar]
 have at_:∀ m:Nat,(ZH (arrOf st) (sa+k) r.toList.zipIdx)[m]? = if sa+k <= m/\m < sa+na+nb' then r[m - (sa+k)]? else (arrOf st)[m]? := by
  intro m
  rw[<- Array.getElem?_toList,pl,List.append_assoc]
  by_cases c1:m < sa+k
  ·rw[List.getElem?_append_left (by rw[List.length_take,Array.length_toList];omega),List.getElem?_take_of_lt c1,if_neg (by omega),Array.getElem?_toList]
  rw[List.getElem?_append_right (by rw[List.length_take,Array.length_toList];omega),List.length_take,Array.length_toList,Nat.min_eq_left (by omega)]
  by_cases c2:m < sa+na+nb'
  ·rw[List.getElem?_append_left (by rw[Array.length_toList];omega),if_pos (by omega),Array.getElem?_toList]
  ·rw[List.getElem?_append_right (by rw[Array.length_toList];omega),if_neg (by omega),List.getElem?_drop,Array.length_toList,Array.getElem?_toList]
   congr 1;omega
 refine⟨⟨⟨?_,sg.kd.trans g.kd,sg.fl.trans g.fl⟩,fun m hm=>?_,sg.pd⟩,?_⟩
 ·refine Array.Perm.trans (Array.perm_iff_toList_perm.mpr ?_) g.pm
  show (ZH (arrOf st) (sa+k) r.toList.zipIdx).toList.Perm _
  rw[pl]
  have e:(arrOf st).toList=(arrOf st).toList.take (sa+k)++(((arrOf st).extract (sa+k) (sa+na)).toList++((arrOf st).extract (sa+na) (sa+na+nb')).toList)++(arrOf st).toList.drop (sa+k+(na - k+nb')):=by
   have e1:=zAc (a:=arrOf st) (i:=sa+na) (k:=nb')
   have e2:=zAc (a:=arrOf st) (i:=sa+k) (k:=na - k)
   rw[show sa+k+(na - k)=sa+na by omega] at e2
   rw[show sa+k+(na - k+nb')=sa+na+nb' by omega,List.append_assoc,List.append_assoc,<- e1,<- e2,List.take_append_drop]
  conv=>rhs;rw[e]
  exact (rs.1.append_left _).append_right _
 ·show (ZH (arrOf st) (sa+k) r.toList.zipIdx)[m]? = _
  rw[at_,if_neg (by omega)]
 ·show Ri κ (ZH (arrOf st) (sa+k) r.toList.zipIdx) sa (na+nb)
  have low:∀ i,i < k->KK κ (ZH (arrOf st) (sa+k) r.toList.zipIdx) (sa+i)=KK κ (arrOf st) (sa+i):=fun i hi=>KK_congr (by rw[at_,if_neg (by omega)])
  have hig:∀ i,na+nb' <= i->KK κ (ZH (arrOf st) (sa+k) r.toList.zipIdx) (sa+i)=KK κ (arrOf st) (sa+i):=fun i hi=>KK_congr (by rw[at_,if_neg (by omega)])
  have mid:∀ i,k <= i->i < na+nb'->∃ p,r[i - k]? = some p/\KK κ (ZH (arrOf st) (sa+k) r.toList.zipIdx) (sa+i)=kyo κ p/\∃ m,k <= m/\m < na+nb'/\kyo κ p=KK κ (arrOf st) (sa+m):=fun i hi hj=>by
   obtain⟨p,e⟩:=j3 r (show i - k < r.size by omega)
   refine⟨p,e,qP (by rw[at_,if_pos (by omega),show sa+i - (sa+k)=i - k by omega];exact e),?_⟩
   rcases Rs.mem rs e with ⟨m,em⟩ | ⟨m,em⟩
   ·obtain⟨c1,c2⟩:=Jw em
    exact⟨k+m,by omega,by omega,by rw[<- Nat.add_assoc];exact (qP c2).symm⟩
   ·obtain⟨c1,c2⟩:=Jw em
    exact⟨na+m,by omega,by omega,by rw[<- Nat.add_assoc];exact (qP c2).symm⟩
  have f1':∀ i m,i < k->m < na+nb->i <= m->κ.kle (KK κ (arrOf st) (sa+i)) (KK κ (arrOf st) (sa+m)):=fun i m hi hm hj=>by
   by_cases c:m < na
   ·exact r1 i m hj c
   ·have:=f1 i (m - na) hi (by omega)
    rwa [show sa+na+(m - na)=sa+m by omega] at this
  have f2':∀ m j,na+nb' <= j->j < na+nb->m <= j->κ.kle (KK κ (arrOf st) (sa+m)) (KK κ (arrOf st) (sa+j)):=fun m j hi hm hj=>by
   by_cases c:m < na
   ·have:=f2 m (j - na) c (by omega) (by omega)
    rwa [show sa+na+(j - na)=sa+j by omega] at this
   ·have:=r2 (m - na) (j - na) (by omega) (by omega)
    rwa [show sa+na+(j - na)=sa+j by omega,show sa+na+(m - na)=sa+m by omega] at this
  intro i j hij hj
  by_cases c1:i < k
  ·rw[low i c1]
   by_cases d1:j < k
   ·rw[low j d1];exact f1' i j c1 hj hij
   by_cases d2:j < na+nb'
   ·obtain⟨p,_,e,m,m1,m2,em⟩:=mid j (by omega) d2
    rw[e,em];exact f1' i m c1 (by omega) (by omega)
   ·rw[hig j (by omega)];exact f1' i j c1 hj hij
  by_cases c2:i < na+nb'
  ·obtain⟨p,ep,e,m,m1,m2,em⟩:=mid i (by omega) c2
   by_cases d2:j < na+nb'
   ·obtain⟨q,eq,e',_⟩:=mid j (by omega) d2
    rw[e,e']
    by_cases c:i=j
    ·subst c;rw[ep] at eq;cases eq;exact KeyOrd.kle_refl _
    ·exact Rs.le rs (show i - k < j - k by omega) ep eq
   ·rw[e,em,hig j (by omega)];exact f2' m j (by omega) hj (by omega)
  ·rw[hig i (by omega),hig j (by omega)];exact f2' i j (by omega) hj hij
theorem SG.has {st:SortSt} (h:SG a₀ st) (h0:KeysOf κ a₀) {p:Keyed} (hp:p∈(arrOf st).toList):ZF κ p:=h0 p ((Array.perm_iff_toList_perm.mp h.pm).mem_iff.mp hp)
theorem zFu {a:Array Keyed}{i k:Nat}{y:Keyed} (h:y∈(a.extract i k).toList):y∈a.toList:=by
 obtain⟨j,_,_,hj,e⟩:=zAv h
 obtain⟨hj,rfl⟩:=Array.getElem?_eq_some_iff.mp e
 simp
theorem Ri.join {a:Array Keyed}{sa na nb:Nat} (r1:Ri κ a sa na) (r2:Ri κ a (sa+na) nb) (f:∀ i j,i < na->j < nb->κ.kle (KK κ a (sa+i)) (KK κ a (sa+na+j))):Ri κ a sa (na+nb):=fun i j hij hj=>by
 by_cases c:j < na
 ·exact r1 i j hij c
 by_cases d:i < na
 ·have:=f i (j - na) d (by omega)
  rwa [show sa+na+(j - na)=sa+j by omega] at this
 ·have:=r2 (i - na) (j - na) (by omega) (by omega)
  rwa [show sa+na+(j - na)=sa+j by omega,show sa+na+(i - na)=sa+i by omega] at this
theorem zMy {st:SortSt}{sa k na nb nb':Nat}{Q:Bool->SortSt->Prop} (hO:κ.OneLt) (h0:KeysOf κ a₀) (g:SG a₀ st) (hn:sa+na+nb <= a₀.size) (hk:k < na) (hb:nb' <= nb) (r1:Ri κ (arrOf st) sa na) (r2:Ri κ (arrOf st) (sa+na) nb)
  (f1:∀ i j,i < k->j < nb->κ.kle (KK κ (arrOf st) (sa+i)) (KK κ (arrOf st) (sa+na+j))) (f2:∀ i j,i < na->nb' <= j->j < nb->κ.kle (KK κ (arrOf st) (sa+i)) (KK κ (arrOf st) (sa+na+j)))
  (f3:nb'≠0->κ.kle (KK κ (arrOf st) (sa+na)) (KK κ (arrOf st) (sa+k))) (f4:nb'≠0->κ.kle (KK κ (arrOf st) (sa+na+(nb' - 1))) (KK κ (arrOf st) (sa+na - 1)))
  (h:∀ st',Mrg κ a₀ sa (na+nb) st st'->Q true st'):wpS (model prog w) A E s (mgE (arrOf st) (sa+k) (na - k) (sa+na) nb') Q st:=by
 unfold mgE
 by_cases c:nb'=0
 ·rw[if_pos (by simpa using c)]
  exact wpS_pure (h _ ⟨jg.refl g,r1.join r2 fun i j a b=>f2 i j a (by omega) b⟩)
 rw[if_neg (by simpa using c)]
 have hz:=g.sz
 have s1:((arrOf st).extract (sa+k) (sa+na)).size=na - k:=by rw[Array.size_extract];omega
 have s2:((arrOf st).extract (sa+na) (sa+na+nb')).size=nb':=by rw[Array.size_extract];omega
 have mg:MG κ ((arrOf st).extract (sa+k) (sa+na)) ((arrOf st).extract (sa+na) (sa+na+nb')):=by
  refine⟨fun p hp=>g.has h0 (zFu hp),fun p hp=>g.has h0 (zFu hp),?_,Ri.ext (by omega) (r2.sub 0 nb' (by omega)),by omega,by omega,fun p q e1 e2=>?_,fun p q e1 e2=>?_⟩
  ·have:=Ri.ext (lo:=sa+k) (n:=na - k) (by omega) (r1.sub k (na - k) (by omega))
   rwa [show sa+k+(na - k)=sa+na by omega] at this
  ·have a1:=(Jw e1).2
   have a2:=(Jw e2).2
   have:=f3 c
   rw[Nat.add_zero] at a1 a2
   rwa [qP a1,qP a2] at this
  ·rw[s2] at e1
   rw[s1] at e2
   have a1:=(Jw e1).2
   have a2:=(Jw e2).2
   rw[show sa+k+(na - k - 1)=sa+na - 1 by omega] at a2
   have:=f4 c
   rwa [qP a1,qP a2] at this
 have fin:∀ r u,jK st u->Rs κ ((arrOf st).extract (sa+k) (sa+na)) ((arrOf st).extract (sa+na) (sa+na+nb')) r->wpS (model prog w) A E s (do modify fun z=>setArr z (ZH (arrOf z) (sa+k) r.toList.zipIdx);let z <- get;pure (failedOf z).isNone) Q u:=fun r u sg rs=>by
  refine wpS_bind (wpS_modify (wpS_bind (wpS_get (wpS_pure ?_))))
  have m:=zKR g sg hn (by omega) hb r1 r2 f1 f2 rs
  have:=h _ m
  rw[show (failedOf (setArr u (ZH (arrOf u) (sa+k) r.toList.zipIdx))).isNone=true by rw[m.1.ok.fl];rfl]
  exact this
 split
 ·exact wpS_bind (zGc hO g.kd mg fin)
 ·exact wpS_bind (zG2 hO g.kd mg fin)
theorem zL2 {st:SortSt}{sa na nb:Nat}{Q:Bool->SortSt->Prop} (hO:κ.OneLt) (h0:KeysOf κ a₀) (g:SG a₀ st) (hn:sa+na+nb <= a₀.size) (h1:1 <= na) (h2:1 <= nb) (r1:Ri κ (arrOf st) sa na) (r2:Ri κ (arrOf st) (sa+na) nb)
  (h:∀ st',Mrg κ a₀ sa (na+nb) st st'->Q true st'):wpS (model prog w) A E s (mgB (arrOf st) sa na (sa+na) nb) Q st:=by
 unfold mgB
 have hz:=g.sz
 obtain⟨p,e⟩:=j3 (arrOf st) (show sa+na < (arrOf st).size by omega)
 refine wpS_bind (jk e (wpS_bind (Z3 hO g.kd (fun p hp=>g.has h0 hp) (Qo (fun p hp=>g.has h0 hp) e) (by omega) r1 (by omega) fun k ⟨k1,k2,k3⟩=>?_)))
 have f1:∀ i j,i < k->j < nb->κ.kle (KK κ (arrOf st) (sa+i)) (KK κ (arrOf st) (sa+na+j)):=fun i j hi hj=>by
  have:=k2 i hi
  unfold By at this
  rw[if_neg (by decide),Bool.not_eq_true'] at this
  have a:=r2 0 j (by omega) hj
  rw[Nat.add_zero,qP e] at a
  exact KeyOrd.kle_trans this a
 dsimp only
 by_cases c:na - k=0
 ·rw[if_pos (by simpa using c)]
  exact wpS_pure (h _ ⟨jg.refl g,r1.join r2 fun i j a b=>f1 i j (by omega) b⟩)
 rw[if_neg (by simpa using c),show sa+k+(na - k) - 1=sa+na - 1 by omega]
 obtain⟨q,e'⟩:=j3 (arrOf st) (show sa+na - 1 < (arrOf st).size by omega)
 refine wpS_bind (jk e' (wpS_bind (Z3 hO g.kd (fun p hp=>g.has h0 hp) (Qo (fun p hp=>g.has h0 hp) e') (by omega) r2 (by omega) fun t ⟨t1,t2,t3⟩=>?_)))
 refine zMy hO h0 g hn (by omega) t1 r1 r2 f1 (fun i j a b d=>?_) (fun n=>?_) (fun n=>?_) h
 ·have:=t3 j b d
  unfold By at this
  rw[if_pos rfl] at this
  have a:=r1 i (na - 1) (by omega) (by omega)
  rw[show sa+(na - 1)=sa+na - 1 by omega,qP e'] at a
  exact KeyOrd.kle_trans a this
 ·have:=k3 k (Nat.le_refl _) (by omega)
  unfold By at this
  rw[if_neg (by decide),Bool.not_eq_false'] at this
  rw[qP e]
  exact KeyOrd.kle_of_klt this
 ·have:=t2 (t - 1) (by omega)
  unfold By at this
  rw[if_pos rfl] at this
  rw[qP e']
  exact KeyOrd.kle_of_klt this
def yV (κ:KeyKind) (xs:Array Keyed):List (Nat×Nat×Nat)->Nat->Nat->Prop
 | [],lo,hi=>lo=hi
 | r::t,lo,hi=>r.1=lo/\1 <= r.2.1/\Ri κ xs lo r.2.1/\yV κ xs t (lo+r.2.1) hi
theorem yV.app {xs:Array Keyed}:∀ {a b:List (Nat×Nat×Nat)}{lo hi:Nat},yV κ xs (a++b) lo hi ↔ ∃ m,yV κ xs a lo m/\yV κ xs b m hi
 | [],b,lo,hi=>⟨fun h=>⟨lo,rfl,h⟩,fun ⟨m,e,h⟩=>by cases e;exact h⟩
 | r::a,b,lo,hi=>⟨fun ⟨h1,h2,h3,h4⟩=>by obtain⟨m,h5,h6⟩:=yV.app.mp h4;exact⟨m,⟨h1,h2,h3,h5⟩,h6⟩,fun ⟨m,⟨h1,h2,h3,h4⟩,h5⟩=>⟨h1,h2,h3,yV.app.mpr ⟨m,h4,h5⟩⟩⟩
theorem yV.len {xs:Array Keyed}:∀ {a:List (Nat×Nat×Nat)}{lo hi:Nat},yV κ xs a lo hi->lo+a.length <= hi
 | [],lo,hi,h=>by cases h;exact Nat.le_refl _
 | r::a,lo,hi,⟨h1,h2,h3,h4⟩=>by have:=h4.len;rw[List.length_cons];omega
theorem Ri.same {xs ys:Array Keyed}{lo n:Nat} (h:Ri κ xs lo n) (e:∀ k,lo <= k->k < lo+n->ys[k]? = xs[k]?):Ri κ ys lo n:=fun i j a b=>by
 rw[KK_congr (e (lo+i) (by omega) (by omega)),KK_congr (e (lo+j) (by omega) (by omega))];exact h i j a b
theorem yV.same {xs ys:Array Keyed}:∀ {a:List (Nat×Nat×Nat)}{lo hi:Nat},yV κ xs a lo hi->(∀ k,lo <= k->k < hi->ys[k]? = xs[k]?)->yV κ ys a lo hi
 | [],lo,hi,h,_=>h
 | r::a,lo,hi,⟨h1,h2,h3,h4⟩,e=>by
  have:=h4.len
  exact⟨h1,h2,h3.same fun k a b=>e k a (by omega),h4.same fun k a b=>e k (by omega) b⟩
theorem yV.mod {xs:Array Keyed}{pw:Nat}:∀ {a:List (Nat×Nat×Nat)}{lo hi:Nat} (k:Nat),yV κ xs a lo hi->yV κ xs (a.modify k fun r=>(r.1,r.2.1,pw)) lo hi
 | [],lo,hi,k,h=>by rw[List.modify_nil];exact h
 | r::a,lo,hi,0,h=>by rw[List.modify_zero_cons];exact h
 | r::a,lo,hi,k+1,⟨h1,h2,h3,h4⟩=>by rw[List.modify_succ_cons];exact⟨h1,h2,h3,h4.mod k⟩
structure PR (κ:KeyKind) (a₀:Array Keyed) (lo:Nat) (st:SortSt):Prop where
 ok:SG a₀ st
 rn:yV κ (arrOf st) (pendingOf st).toList 0 lo
theorem zAb {st:SortSt}{i lo:Nat}{Q:Bool->SortSt->Prop} (hO:κ.OneLt) (h0:KeysOf κ a₀) (pr:PR κ a₀ lo st) (hl:lo <= a₀.size) (hi:i+1 < (pendingOf st).size)
  (h:∀ st',PR κ a₀ lo st'->(pendingOf st').size+1=(pendingOf st).size->(∀ k,lo <= k->(arrOf st')[k]? = (arrOf st)[k]?)->Q true st'):wpS (model prog w) A E s (mergeAt' i) Q st:=by
 obtain⟨g,rn⟩:=pr
 obtain⟨⟨sa,na,pw⟩,e1⟩:∃ r,(pendingOf st)[i]? = some r:=⟨_,getElem?_pos (pendingOf st) i (by omega)⟩
 obtain⟨⟨sb,nb,qw⟩,e2⟩:∃ r,(pendingOf st)[i+1]? = some r:=⟨_,getElem?_pos (pendingOf st) (i+1) hi⟩
 have spl:(pendingOf st).toList=(pendingOf st).toList.take i++(sa,na,pw)::(sb,nb,qw)::(pendingOf st).toList.drop (i+2):=by
  obtain⟨b1,c1⟩:=Array.getElem?_eq_some_iff.mp e1
  obtain⟨b2,c2⟩:=Array.getElem?_eq_some_iff.mp e2
  have d1:=List.drop_eq_getElem_cons (l:=(pendingOf st).toList) (i:=i) (by rw[Array.length_toList];exact b1)
  have d2:=List.drop_eq_getElem_cons (l:=(pendingOf st).toList) (i:=i+1) (by rw[Array.length_toList];exact b2)
  rw[Array.getElem_toList,c1] at d1
  rw[Array.getElem_toList,c2] at d2
  rw[<- d2,<- d1,List.take_append_drop]
 generalize hL:(pendingOf st).toList.take i=L at spl
 generalize hR:(pendingOf st).toList.drop (i+2)=R at spl
 have hLl:L.length=i:=by rw[<- hL,List.length_take,Array.length_toList];omega
 rw[spl] at rn
 obtain⟨m,rl,hs1,n1,ra,hs2,n2,rb,rr⟩:=yV.app.mp rn
 dsimp only at hs1 n1 ra hs2 n2 rb rr
 subst hs1 hs2
 have len:=rr.len
 refine zG6 e1 e2 (zL2 (st:=setPending st (((pendingOf st).setIfInBounds i (sa,na+nb,pw)).eraseIdxIfInBounds (i+1))) hO h0 ⟨g.pm,g.kd,g.fl⟩ (by omega) n1 n2 ra rb fun st' ⟨kp,ri⟩=>?_)
 have pl:(pendingOf st').toList=L++(sa,na+nb,pw)::R:=by
  rw[kp.pd]
  show (((pendingOf st).setIfInBounds i (sa,na+nb,pw)).eraseIdxIfInBounds (i+1)).toList=_
  rw[Array.toList_eraseIdxIfInBounds,Array.toList_setIfInBounds,spl]
  subst hLl
  rw[List.set_append_right _ _ (Nat.le_refl _),List.eraseIdx_append_of_length_le (by omega),Nat.sub_self,Nat.add_sub_cancel_left]
  rfl
 have ll:=rl.len
 refine h st' ⟨kp.ok,?_⟩ ?_ fun k hk=>kp.out k (.inr (by omega))
 ·rw[pl]
  exact yV.app.mpr ⟨sa,rl.same fun k _ b=>kp.out k (.inl b),rfl,by show 1 <= na+nb;omega,ri,by rw[<- Nat.add_assoc];exact rr.same fun k a _=>kp.out k (.inr (by omega))⟩
 ·rw[<- Array.length_toList,<- Array.length_toList,pl,spl]
  simp;omega
theorem PR.push {lo n:Nat}{st:SortSt} (h:PR κ a₀ lo st) (h1:1 <= n) (r:Ri κ (arrOf st) lo n):PR κ a₀ (lo+n) (setPending st ((pendingOf st).push (lo,n,0))) :=
 ⟨⟨h.ok.pm,h.ok.kd,h.ok.fl⟩,by
  show yV κ (arrOf st) ((pendingOf st).push (lo,n,0)).toList 0 (lo+n)
  rw[Array.toList_push]
  exact yV.app.mpr ⟨lo,h.rn,rfl,h1,r,rfl⟩⟩
theorem PR.modi {lo k pw:Nat}{st:SortSt} (h:PR κ a₀ lo st):PR κ a₀ lo (setPending st ((pendingOf st).modify k fun (a,b,_)=>(a,b,pw))) :=
 ⟨⟨h.ok.pm,h.ok.kd,h.ok.fl⟩,by
  show yV κ (arrOf st) ((pendingOf st).modify k fun (a,b,_)=>(a,b,pw)).toList 0 lo
  rw[Array.toList_modify]
  exact h.rn.mod k⟩
theorem zJJ {st:SortSt}{Q:Unit->SortSt->Prop} (hO:κ.OneLt) (h0:KeysOf κ a₀) (hB:SBase a₀ st) (h2:2 <= a₀.size)
  (h:∀ st',(arrOf st').Perm a₀->failedOf st'=none->SortedToK κ (arrOf st') a₀.size->Q () st'):wpS (model prog w) A E s sortRuns' Q st:=by
 rw[sortRuns'_eq]
 refine wpS_bind (wpS_get ?_)
 dsimp only
 simp only[hB.size]
 refine wpS_bind (wpS_mono (wpS_forRange (I:=fun x c u=>∃ lo,c=(none,lo)/\x <= lo/\lo <= a₀.size/\PR κ a₀ lo u) (Q:=fun c u=>c=(none,a₀.size)/\PR κ a₀ a₀.size u)
  (fun x c u _ hx ⟨lo,ec,h1,h2,pr⟩=>?step) (fun c u ⟨lo,ec,h1,h2,pr⟩=>?fin) ⟨0,rfl,Nat.le_refl _,Nat.zero_le _,⟨hB.perm,hB.kind,hB.failed⟩,by rw[hB.pend];rfl⟩) fun c u ⟨ec,pr⟩=>?post)
 case fin =>
  obtain rfl:lo=a₀.size:=by omega
  exact⟨ec,pr⟩
 case step =>
  subst ec
  dsimp only
  by_cases c:lo ≥ a₀.size
  ·rw[if_pos c]
   obtain rfl:lo=a₀.size:=by omega
   exact wpS_pure ⟨rfl,pr⟩
  rw[if_neg c]
  refine wpS_bind (zLH hO h0 (by omega) (by omega) pr.ok fun m z kp m1 m2 ri=>?_)
  have pr2:PR κ a₀ lo z:=⟨kp.ok,by rw[kp.pd];exact pr.rn.same fun k _ b=>kp.out k (.inl b)⟩
  dsimp only
  by_cases d:m < minRun' a₀.size a₀.size 0
  ·rw[if_pos d]
   refine wpS_bind (wpS_lift (wpAny_rule ⟨rfl,?_⟩))
   refine wpS_bind (zIB hO h0 (by omega) (by omega) kp.ok ri fun z kp2 ri2=>?_)
   simp only[Bool.not_true,Bool.false_eq_true,if_false]
   have pr2:PR κ a₀ lo z:=⟨kp2.ok,by rw[kp2.pd];exact pr2.rn.same fun k _ b=>kp2.out k (.inl b)⟩
   have hn1:1 <= min (a₀.size - lo) (minRun' a₀.size a₀.size 0):=by omega
   have hn2:lo+min (a₀.size - lo) (minRun' a₀.size a₀.size 0) <= a₀.size:=by omega
   generalize min (a₀.size - lo) (minRun' a₀.size a₀.size 0)=n at *
   have ri:=ri2
   refine wpS_bind (wpS_get ?_)
   rcases hb:(pendingOf z).back? with _ | ⟨s1,n1,q1⟩
   ·dsimp only
    exact wpS_bind (wpS_modify (wpS_pure ⟨_,rfl,by omega,hn2,pr2.push hn1 ri⟩))
   ·dsimp only
    refine wpS_bind (wpS_mono (wpS_forRange (I:=fun _ c u=>c=(none,())/\PR κ a₀ lo u/\Ri κ (arrOf u) lo n) (Q:=fun c u=>c=(none,())/\PR κ a₀ lo u/\Ri κ (arrOf u) lo n)
     (fun y c u _ hy ⟨ec,pr3,ri3⟩=>?st2) (fun c u hh=>hh) ⟨rfl,pr2,ri⟩) fun c u ⟨ec,pr3,ri3⟩=>?po2)
    case st2 =>
     subst ec
     refine wpS_bind (wpS_get ?_)
     by_cases c1:(pendingOf u).size > 1
     ·rw[if_pos c1]
      rcases hq:(pendingOf u)[(pendingOf u).size - 2]? with _ | ⟨s2,n2,q2⟩
      ·exact wpS_pure ⟨rfl,pr3,ri3⟩
      ·dsimp only
       split
       ·exact wpS_pure ⟨rfl,pr3,ri3⟩
       ·refine wpS_bind (zAb hO h0 pr3 (by omega) (by omega) fun z pr4 _ o4=>?_)
        simp only[Bool.not_true,Bool.false_eq_true,if_false]
        exact wpS_pure ⟨rfl,pr4,ri3.same fun k a _=>o4 k a⟩
     ·rw[if_neg c1]
      exact wpS_pure ⟨rfl,pr3,ri3⟩
    case po2 =>
     subst ec
     exact wpS_bind (wpS_modify (wpS_bind (wpS_modify (wpS_pure ⟨_,rfl,by omega,hn2,pr3.modi.push hn1 ri3⟩))))
  ·rw[if_neg d]
   have hn2:lo+m <= a₀.size:=by omega
   have hn1:=m1
   generalize m=n at *
   refine wpS_bind (wpS_get ?_)
   rcases hb:(pendingOf z).back? with _ | ⟨s1,n1,q1⟩
   ·dsimp only
    exact wpS_bind (wpS_modify (wpS_pure ⟨_,rfl,by omega,hn2,pr2.push hn1 ri⟩))
   ·dsimp only
    refine wpS_bind (wpS_mono (wpS_forRange (I:=fun _ c u=>c=(none,())/\PR κ a₀ lo u/\Ri κ (arrOf u) lo n) (Q:=fun c u=>c=(none,())/\PR κ a₀ lo u/\Ri κ (arrOf u) lo n)
     (fun y c u _ hy ⟨ec,pr3,ri3⟩=>?st2) (fun c u hh=>hh) ⟨rfl,pr2,ri⟩) fun c u ⟨ec,pr3,ri3⟩=>?po2)
    case st2 =>
     subst ec
     refine wpS_bind (wpS_get ?_)
     by_cases c1:(pendingOf u).size > 1
     ·rw[if_pos c1]
      rcases hq:(pendingOf u)[(pendingOf u).size - 2]? with _ | ⟨s2,n2,q2⟩
      ·exact wpS_pure ⟨rfl,pr3,ri3⟩
      ·dsimp only
       split
       ·exact wpS_pure ⟨rfl,pr3,ri3⟩
       ·refine wpS_bind (zAb hO h0 pr3 (by omega) (by omega) fun z pr4 _ o4=>?_)
        simp only[Bool.not_true,Bool.false_eq_true,if_false]
        exact wpS_pure ⟨rfl,pr4,ri3.same fun k a _=>o4 k a⟩
     ·rw[if_neg c1]
      exact wpS_pure ⟨rfl,pr3,ri3⟩
    case po2 =>
     subst ec
     exact wpS_bind (wpS_modify (wpS_bind (wpS_modify (wpS_pure ⟨_,rfl,by omega,hn2,pr3.modi.push hn1 ri3⟩))))
 case post =>
  subst ec
  dsimp only
  have pl:=pr.rn.len
  rw[Nat.zero_add,Array.length_toList] at pl
  refine wpS_bind (wpS_mono (wpS_forRange (I:=fun k c u=>c=(none,())/\PR κ a₀ a₀.size u/\(pendingOf u).size <= max 1 (a₀.size - k)) (Q:=fun c u=>c=(none,())/\PR κ a₀ a₀.size u/\(pendingOf u).size <= 1)
   (fun k c u _ hk ⟨ec,pr,hs⟩=>?st3) (fun c u ⟨ec,pr,hs⟩=>⟨ec,pr,by omega⟩) ⟨rfl,pr,by omega⟩) fun c u ⟨ec,pr,hs⟩=>?po3)
  case st3 =>
   subst ec
   refine wpS_bind (wpS_get ?_)
   by_cases c1:(pendingOf u).size <= 1
   ·rw[if_pos c1]
    exact wpS_pure ⟨rfl,pr,c1⟩
   rw[if_neg c1]
   split
   all_goals
    refine wpS_bind (zAb hO h0 pr (Nat.le_refl _) (by split<;>omega) fun z pr4 e4 _=>?_)
    simp only[Bool.not_true,Bool.false_eq_true,if_false]
    exact wpS_pure ⟨rfl,pr4,by omega⟩
  case po3 =>
   subst ec
   refine wpS_pure (h u pr.ok.pm pr.ok.fl ?_)
   have rn:=pr.rn
   match hp:(pendingOf u).toList,rn with
   | [],rn=>have:0=a₀.size:=rn;omega
   | [r],⟨r1,r2,r3,r4⟩ =>
    have:0+r.2.1=a₀.size:=r4
    intro i j hij hj
    have:=r3 i j hij (by omega)
    rwa [Nat.zero_add,Nat.zero_add] at this
   | _::_::_,_=>rw[<- Array.length_toList,hp] at hs;simp at hs
theorem sort_any {a:Addr}{vs:List Value}{n:Nat}{P:Fin->Shared->Prop} (hO:κ.OneLt) (ho:s.heap.get? a=some (seqObj "list" vs.toArray n)) (h0:KeysOf κ (pairsOf vs))
  (hkk:∀ x y r,vs=x::y::r->keyKind' (x::y::r).toArray=pure oneType') (hl:vs.length <= 16777216)
  (h:∀ u:SortSt,(arrOf u).Perm (pairsOf vs)->SortedToK κ (arrOf u) (pairsOf vs).size->P (.done (.ret .none)) { s with heap:=sortedHeap s.heap a vs ((arrOf u).map (·.2)) }) :
  wpAny (model prog w) A (Builtin.«list.sort» ⟨[.ref a],[]⟩) P E s:=by
 rw[list_sort_plain]
 have la:a < s.heap.objs.size:=Heap.lt_size ho
 refine wpAny_bind (listItems_at ho rfl (wpAny_bind (listUpdate_at ho rfl ?_)))
 obtain⟨e1,o1⟩:∃ e1,(s.heap.update a (Obj.mapSeq fun _=>#[])).get? a=some (seqObj "list" #[] e1):=⟨_,get?_update_seq ho (fun _=>#[])⟩
 refine wpAny_bind (seqEpoch_at o1 rfl (wpAny_bind (wpAny_newTuple (wpAny_bind (wpAny_newList (wpAny_holding ?_))))))
 have o6:(((s.heap.update a (Obj.mapSeq fun _=>#[])).push (seqObj "tuple" vs.toArray 0)).push (seqObj "list" #[] 0)).get? a=some (seqObj "list" #[] e1):=by
  rw[Heap.get?_push_ne _ _ _ (by rw[size_push',Heap.size_update];exact Nat.ne_of_lt (Nat.lt_succ_of_lt la)),Heap.get?_push_ne _ _ _ (by rw[Heap.size_update];exact Nat.ne_of_lt la)];exact o1
 show wpAny (model prog w) A _ P E { s with heap:=((s.heap.update a (Obj.mapSeq fun _=>#[])).push (seqObj "tuple" vs.toArray 0)).push (seqObj "list" #[] 0) }
 dsimp only
 have hz:vs.toArray.size=vs.length:=by simp
 by_cases h2:vs.toArray.size < 2
 ·rw[if_pos h2,if_pos h2]
  refine wpAny_bind (wpAny_pure ?_)
  rw[StateT.run_pure]
  refine wpAny_bind (wpAny_pure ?_)
  dsimp only
  refine wpAny_bind (seqEpoch_at o6 rfl (wpAny_bind (listUpdate_at o6 rfl ?_ (hsz2:=by rw[Array.size_map];show (pairsOf vs).size <= _;rw[pairsOf_size,sizeLine_eq];omega))))
  simp only[bne_self_eq_false,Bool.false_eq_true,if_false]
  refine wpAny_pure (h (SortSt.mk' general' (vs.toArray.zip vs.toArray) #[] 7 none) (Array.Perm.refl _) fun i j hij hj=>?_)
  rw[pairsOf_size] at hj
  obtain rfl:i=j:=by omega
  exact KeyOrd.kle_refl _
 ·rw[if_neg h2,if_neg h2]
  match vs,hz,h2 with
  | [],_,h2=>simp at h2
  | [_],_,h2=>simp at h2
  | x::y::r,_,_ =>
  rw[hkk _ _ _ rfl]
  refine wpAny_bind (wpAny_pure (wpAny_bind (wpAny_mono (zJJ hO (a₀:=pairsOf (x::y::r)) (st:=SortSt.mk' oneType' ((x::y::r).toArray.zip (x::y::r).toArray) #[] 7 none)
   (Q:=fun _ u=>(arrOf u).Perm (pairsOf (x::y::r))/\failedOf u=none/\SortedToK κ (arrOf u) (pairsOf (x::y::r)).size) h0 ⟨Array.Perm.refl _,rfl,rfl,rfl⟩ (by rw[pairsOf_size];simp) fun u a1 a2 a3=>⟨a1,a2,a3⟩) ?_ fun _ _ e=>e)))
  rintro ⟨⟨⟩,u⟩ _ ⟨rfl,hp,hf,hs⟩
  dsimp only
  refine wpAny_bind (seqEpoch_at o6 rfl (wpAny_bind (listUpdate_at o6 rfl ?_ (hsz2:=Nat.le_trans (Nat.le_of_eq ((Array.size_map ..).trans (hp.size_eq.trans (pairsOf_size _)))) (by rw[sizeLine_eq];omega)))))
  rw[hf]
  simp only[bne_self_eq_false,Bool.false_eq_true,if_false]
  exact wpAny_pure (h u hp hs)
theorem sorted_any {l:Addr}{vs:List Value}{ss:List Str}{Q:Value->Shared->Prop} (hl:s.heap.IsList l vs.toArray) (hS:StrsAre vs ss) (hn:vs.length <= 16777216)
  (h:∀ (out:Array Value) (ss':List Str),StrsAre out.toList ss'->ss'.Perm ss->sortedS ss'=true->Q (.ref (s.heap.objs.size+1)) { s with heap:=sortedAll s.heap vs out }) :
  wpAny (model prog w) A (call (.builtin "sorted") [.ref l]) Q E s:=by
 refine Calls.call_function_entry kind_sorted plain_sorted entry_sorted (args_sorted1 _) ?_
 unfold Builtin.«sorted»
 refine wpAny_bind (m:=checkCount "sorted" 1 1 _) (wpAny_pure (wpAny_bind (collect_list hl (wpAny_bind (wpAny_newList ?_)))))
 have hz:((s.heap.push (seqObj "list" #[] 0)).update s.heap.objs.size (Obj.mapSeq (· ++ vs.toArray))).objs.size=s.heap.objs.size+1:=(Heap.size_update ..).trans (size_push' ..)
 have oL:(((s.heap.push (seqObj "list" #[] 0)).update s.heap.objs.size (Obj.mapSeq (· ++ vs.toArray))).push (seqObj "list" vs.toArray 0)).get? (s.heap.objs.size+1)=some (seqObj "list" vs.toArray 0):=by rw[<- hz];exact Heap.get?_push_size _ rfl
 show wpAny _ _ _ _ _ { s with heap:=((s.heap.push (seqObj "list" #[] 0)).update s.heap.objs.size (Obj.mapSeq (· ++ vs.toArray))).push (seqObj "list" vs.toArray 0) }
 rw[hz]
 refine wpAny_bind (wpAny_holding (wpAny_call_entry slot_list_sort ⟨_,oL,rfl⟩ entry_list_sort (sort_any strKind_oneLt oL hS.keysOf (fun x y r e=>keyKind_strs (by rw[<- e];exact hS)) hn fun u a1 a2=>⟨_,rfl,?_⟩) (args_list_sort _)))
 obtain⟨ss',h1,h2,h3⟩:=sorted_out_str hS a1 a2
 exact wpAny_pure ⟨_,rfl,h _ ss' h1 h2 h3⟩
end TS
namespace M
abbrev T:=List Nat
inductive Kd where
 | str | int | bool | list | tuple | dict
 deriving DecidableEq
inductive D where
 | non | bl (b:Bool) | int (i:Int) | str (x:T) | tup (ds:List D) | ro (ds:List D) | ref (i:Nat) | ty (n:Kd)
mutual
def D.decEq:(a b:D)->Decidable (a=b)
 | .non,.non=>isTrue rfl
 | .bl a,.bl b=>if h:a=b then isTrue (by rw[h]) else isFalse (fun e=>h (D.bl.inj e))
 | .int a,.int b=>if h:a=b then isTrue (by rw[h]) else isFalse (fun e=>h (D.int.inj e))
 | .str a,.str b=>if h:a=b then isTrue (by rw[h]) else isFalse (fun e=>h (D.str.inj e))
 | .ref a,.ref b=>if h:a=b then isTrue (by rw[h]) else isFalse (fun e=>h (D.ref.inj e))
 | .ty a,.ty b=>if h:a=b then isTrue (by rw[h]) else isFalse (fun e=>h (D.ty.inj e))
 | .tup a,.tup b=>match D.decEqs a b with
  | isTrue h=>isTrue (by rw[h])
  | isFalse h=>isFalse (fun e=>h (D.tup.inj e))
 | .ro a,.ro b=>match D.decEqs a b with
  | isTrue h=>isTrue (by rw[h])
  | isFalse h=>isFalse (fun e=>h (D.ro.inj e))
 | .non,.bl _ | .non,.int _ | .non,.str _ | .non,.tup _ | .non,.ro _ | .non,.ref _ | .non,.ty _=>isFalse (fun e=>nomatch e)
 | .bl _,.non | .bl _,.int _ | .bl _,.str _ | .bl _,.tup _ | .bl _,.ro _ | .bl _,.ref _ | .bl _,.ty _=>isFalse (fun e=>nomatch e)
 | .int _,.non | .int _,.bl _ | .int _,.str _ | .int _,.tup _ | .int _,.ro _ | .int _,.ref _ | .int _,.ty _=>isFalse (fun e=>nomatch e)
 | .str _,.non | .str _,.bl _ | .str _,.int _ | .str _,.tup _ | .str _,.ro _ | .str _,.ref _ | .str _,.ty _=>isFalse (fun e=>nomatch e)
 | .tup _,.non | .tup _,.bl _ | .tup _,.int _ | .tup _,.str _ | .tup _,.ro _ | .tup _,.ref _ | .tup _,.ty _=>isFalse (fun e=>nomatch e)
 | .ro _,.non | .ro _,.bl _ | .ro _,.int _ | .ro _,.str _ | .ro _,.tup _ | .ro _,.ref _ | .ro _,.ty _=>isFalse (fun e=>nomatch e)
 | .ref _,.non | .ref _,.bl _ | .ref _,.int _ | .ref _,.str _ | .ref _,.tup _ | .ref _,.ro _ | .ref _,.ty _=>isFalse (fun e=>nomatch e)
 | .ty _,.non | .ty _,.bl _ | .ty _,.int _ | .ty _,.str _ | .ty _,.tup _ | .ty _,.ro _ | .ty _,.ref _=>isFalse (fun e=>nomatch e)
def D.decEqs:(a b:List D)->Decidable (a=b)
 | [],[]=>isTrue rfl
 | [],_::_=>isFalse (fun e=>nomatch e)
 | _::_,[]=>isFalse (fun e=>nomatch e)
 | a::r,b::t=>match D.decEq a b,D.decEqs r t with
  | isTrue h,isTrue k=>isTrue (by rw[h,k])
  | isFalse h,_=>isFalse (fun e=>h (List.cons.inj e).1)
  | _,isFalse k=>isFalse (fun e=>k (List.cons.inj e).2)
end
instance:DecidableEq D:=D.decEq
inductive O where
 | lst (xs:List D) | dct (kvs:List (D×D)) | fdc (kvs:List (D×D)) | ins (c:Nat) (fs:List (Option D))
 deriving DecidableEq
abbrev S:=List O
abbrev St:=List (Option D)
inductive R (α:Type) where
 | ok (a:α) (s:S) | exc (e:D) (s:S) | no
def R.bind {α β:Type}:R α->(α->S->R β)->R β
 | .ok a s,f=>f a s
 | .exc e s,_=>.exc e s
 | .no,_=>.no
@[simp] theorem R.bind_ok {α β:Type} (a:α) (s:S) (f:α->S->R β):(R.ok a s).bind f=f a s:=rfl
@[simp] theorem R.bind_no {α β:Type} (f:α->S->R β):(R.no:R α).bind f=.no:=rfl
@[simp] theorem R.bind_exc {α β:Type} (e:D) (s:S) (f:α->S->R β):(R.exc e s:R α).bind f=.exc e s:=rfl
section
variable {α β:Type}{c:Prop} [Decidable c]
@[simp] theorem R.bind_ite (a b:R α) (f:α->S->R β):(if c then a else b).bind f=if c then a.bind f else b.bind f:=by split<;>rfl
@[simp] theorem R.ite_ok (a b:α) (s:S):(if c then R.ok a s else R.ok b s)=R.ok (if c then a else b) s:=by split<;>rfl
@[simp] theorem D.ite_bl (a b:Bool):(if c then D.bl a else D.bl b)=D.bl (if c then a else b):=by split<;>rfl
@[simp] theorem D.ite_int (a b:Int):(if c then D.int a else D.int b)=D.int (if c then a else b):=by split<;>rfl
@[simp] theorem D.ite_str (a b:T):(if c then D.str a else D.str b)=D.str (if c then a else b):=by split<;>rfl
@[simp] theorem D.ite_tup (a b:List D):(if c then D.tup a else D.tup b)=D.tup (if c then a else b):=by split<;>rfl
@[simp] theorem St.ite_some (a b:D):(if c then some a else some b)=some (if c then a else b):=by split<;>rfl
@[simp] theorem St.ite_cons (a b:Option D) (r t:St):(if c then a::r else b::t)=(if c then a else b)::(if c then r else t):=by split<;>rfl
end
abbrev EM:=St->S->R D
abbrev TM:=St->S->R Bool
abbrev AM:=St->S->R (List D)
def SZ:Nat:=16777216
@[simp] def zA (i:Nat):EM:=fun σ s=>match σ[i]? with
 | some (some d)=>.ok d s
 | _=>.no
@[simp] def eC (d:D):EM:=fun _ s=>.ok d s
@[simp] def eOp (f:D->D->S->R D) (a b:EM):EM:=fun σ s=>(a σ s).bind fun x s=>(b σ s).bind fun y s=>f x y s
@[simp] def zG:AM:=fun _ s=>.ok [] s
@[simp] def zB (a:EM) (r:AM):AM:=fun σ s=>(a σ s).bind fun x s=>(r σ s).bind fun xs s=>.ok (x::xs) s
@[simp] def zD5 (a:AM):EM:=fun σ s=>(a σ s).bind fun xs s=>if xs.length <= SZ then .ok (.tup xs) s else .no
@[simp] def alloc (o:O) (s:S):R D:=.ok (.ref s.length) (s++[o])
@[simp] def Zf (a:AM):EM:=fun σ s=>(a σ s).bind fun xs s=>if xs.length <= SZ then alloc (.lst xs) s else .no
@[simp] def jL (s:S) (i:Nat):Option (List D):=match s[i]? with
 | some (.lst xs)=>some xs
 | _=>none
@[simp] def zy:D->D->S->R D
 | .int i,.int j,s=>.ok (.int (i+j)) s
 | .str a,.str b,s=>if a.length+b.length <= SZ then .ok (.str (a++b)) s else .no
 | .tup a,.tup b,s=>if a≠[]/\a.length+b.length <= SZ then .ok (.tup (a++b)) s else .no
 | .ref i,.ref j,s=>match s[i]?,s[j]? with
  | some (.lst xs),some (.lst ys)=>if xs.length+ys.length <= SZ then alloc (.lst (xs++ys)) s else .no
  | _,_=>.no
 | _,_,_=>.no
@[simp] def zBE:D->D->S->R D
 | .int i,.int j,s=>.ok (.int (i - j)) s
 | _,_,_=>.no
def small (i:Int):Bool:=decide (i.natAbs < 18446744073709551616)
@[simp] def Zm:D->D->S->R D
 | .int i,.int j,s=>if small i || small j then .ok (.int (i * j)) s else .no
 | .str a,.int n,s=>if 0 <= n/\n.natAbs <= 1000000/\a.length * n.natAbs <= 1000000 then .ok (.str (List.replicate n.toNat a).flatten) s else .no
 | .ref p,.int n,s=>match jL s p with
  | some xs=>if n.natAbs <= 1000/\xs.length * n.natAbs <= 1000000 then alloc (.lst (List.replicate n.toNat xs).flatten) s else .no
  | none=>.no
 | _,_,_=>.no
@[simp] def qG:D->D->S->R D
 | .int i,.int j,s=>if 0 < j/\j.natAbs < 1073741824 then .ok (.int (i / j)) s else .no
 | _,_,_=>.no
@[simp] def zf:D->D->S->R D
 | .int i,.int j,s=>if 0 < j then .ok (.int (i % j)) s else .no
 | _,_,_=>.no
abbrev CM:=D->D->S->R Bool
@[simp] def cLt:CM
 | .int i,.int j,s=>.ok (decide (i < j)) s
 | .str a,.str b,s=>.ok (decide (a < b)) s
 | _,_,_=>.no
@[simp] def cGt:CM
 | .int i,.int j,s=>.ok (decide (j < i)) s
 | _,_,_=>.no
inductive P where
 | non | bl (b:Bool) | int (i:Int) | str (x:T) | tup (ps:List P) | lst (ps:List P)
mutual
def P.eqv:P->P->Bool
 | .non,.non=>true
 | .bl a,.bl b=>a == b
 | .int a,.int b=>a == b
 | .bl a,.int b=>(if a then 1 else 0) == b
 | .int a,.bl b=>a == (if b then 1 else 0)
 | .str a,.str b=>a == b
 | .tup a,.tup b=>P.eqvs a b
 | .lst a,.lst b=>P.eqvs a b
 | _,_=>false
def P.eqvs:List P->List P->Bool
 | [],[]=>true
 | a::r,b::t=>P.eqv a b && P.eqvs r t
 | _,_=>false
end
mutual
def P.dep:P->Nat
 | .tup ps=>P.deps ps+1
 | .lst ps=>P.deps ps+1
 | _=>0
def P.deps:List P->Nat
 | []=>0
 | p::ps=>max (P.dep p) (P.deps ps)
end
def qq (g:Nat->Option P):D->Option P
 | .non=>some .non
 | .bl b=>some (.bl b)
 | .int i=>some (.int i)
 | .str x=>some (.str x)
 | .tup ds=>(all ds).map .tup
 | .ro ds=>(all ds).map .lst
 | .ref i=>g i
 | .ty _=>none
where all:List D->Option (List P)
 | []=>some []
 | d::ds=>match qq g d,all ds with
  | some p,some ps=>some (p::ps)
  | _,_=>none
def toP:Nat->S->D->Option P
 | 0,_=>qq fun _=>none
 | n+1,s=>qq fun i=>match jL s i with
  | some xs=>(qq.all (fun j=>toP n s (.ref j)) xs).map .lst
  | none=>none
def Jc:Nat:=9
def jm (k:D) (kvs:List (D×D)):Option D:=kvs.lookup k
def dEq (s:S) (ws:List (D×D)):List (D×D)->Option Bool
 | []=>some true
 | (k,v)::r=>match jm k ws with
  | none=>some false
  | some w=>match toP 8 s v,toP 8 s w,dEq s ws r with
   | some p,some q,some b=>if P.dep p <= 64/\P.dep q <= 64 then some (P.eqv p q && b) else none
   | _,_,_=>none
def zCK (x y:D) (s:S):R Bool:=match x,y with
 | .ref i,.ref j=>match s[i]?,s[j]? with
  | some (.dct ks),some (.dct ws)=>if ks.length=ws.length then (match dEq s ws ks with | some b=>.ok b s | none=>.no) else .ok false s
  | _,_=>.no
 | _,_=>.no
@[simp] def eqD (x y:D) (s:S):R Bool:=match x,y with
 | .str a,.str b=>.ok (decide (a=b)) s
 | .int a,.int b=>.ok (decide (a=b)) s
 | .bl a,.bl b=>.ok (decide (a=b)) s
 | .non,.non=>.ok true s
 | x,y=>match toP Jc s x,toP Jc s y with
  | some p,some q=>if P.dep p <= 64/\P.dep q <= 64 then .ok (P.eqv p q) s else .no
  | _,_=>zCK x y s
@[simp] def cEq:CM:=fun x y s=>eqD x y s
@[simp] def cNe:CM:=fun x y s=>(eqD x y s).bind fun b s=>.ok (!b) s
def zAs (a:T):T->Bool
 | []=>a.isEmpty
 | c::r=>a.isPrefixOf (c::r) || zAs a r
def flat:D->Bool
 | .non=>true
 | .bl _=>true
 | .int _=>true
 | .str _=>true
 | _=>false
def eqF:D->D->Bool
 | .non,.non=>true
 | .bl a,.bl b=>a == b
 | .int a,.int b=>a == b
 | .bl a,.int b=>(if a then 1 else 0) == b
 | .int a,.bl b=>a == (if b then 1 else 0)
 | .str a,.str b=>a == b
 | _,_=>false
def Jd (x:D) (xs:List D):Bool:=xs.any fun y=>eqF y x
def ji:D->Bool
 | .int _=>true
 | .str _=>true
 | _=>false
@[simp] def inD (x y:D) (s:S):R Bool:=match y with
 | .str b=>match x with
  | .str a=>.ok (zAs a b) s
  | _=>.no
 | .tup ys=>if flat x && ys.all flat then .ok (Jd x ys) s else .no
 | .ro ys=>if flat x && ys.all flat then .ok (Jd x ys) s else .no
 | .ref i=>match s[i]? with
  | some (.lst ys)=>if flat x && ys.all flat then .ok (Jd x ys) s else .no
  | some (.dct kvs)=>if ji x then .ok (jm x kvs).isSome s else .no
  | some (.fdc kvs)=>if ji x then .ok (jm x kvs).isSome s else .no
  | _=>.no
 | _=>.no
@[simp] def cIn:CM:=fun x y s=>inD x y s
@[simp] def qQ:CM:=fun x y s=>(inD x y s).bind fun b s=>.ok (!b) s
@[simp] def QA (c:CM) (a b:EM):EM:=fun σ s=>(a σ s).bind fun x s=>(b σ s).bind fun y s=>(c x y s).bind fun k s=>.ok (.bl k) s
@[simp] def zr (c:CM) (a b:EM):TM:=fun σ s=>(a σ s).bind fun x s=>(b σ s).bind fun y s=>c x y s
@[simp] def qk:D->S->R Bool
 | .non,s=>.ok false s
 | .bl b,s=>.ok b s
 | .int i,s=>.ok (decide (i≠0)) s
 | .str x,s=>if x.length <= SZ then .ok (!x.isEmpty) s else .no
 | .tup ds,s=>.ok (!ds.isEmpty) s
 | .ro ds,s=>.ok (!ds.isEmpty) s
 | .ref i,s=>match s[i]? with
  | some (.lst xs)=>.ok (!xs.isEmpty) s
  | some (.dct kvs)=>.ok (!kvs.isEmpty) s
  | _=>.no
 | .ty _,_=>.no
@[simp] def jo (a:EM):TM:=fun σ s=>(a σ s).bind qk
@[simp] def ZK (a:TM):TM:=fun σ s=>(a σ s).bind fun b s=>.ok (!b) s
@[simp] def Q2 (a b:TM):TM:=fun σ s=>(a σ s).bind fun k s=>if k then b σ s else .ok false s
@[simp] def tOr (a b:TM):TM:=fun σ s=>(a σ s).bind fun k s=>if k then .ok true s else b σ s
@[simp] def asB:D->S->R Bool
 | .bl b,s=>.ok b s
 | _,_=>.no
@[simp] def zA0 (a b:EM):EM:=fun σ s=>(a σ s).bind fun x s=>(asB x s).bind fun k s=>if k then b σ s else .ok (.bl false) s
def ixN (n:Nat) (i:Int):Option Nat:=if 0 <= i then (if i < n then some i.toNat else none) else if -(n:Int) <= i then some (i+n).toNat else none
def atI {α:Type} (xs:List α) (i:Int):Option α:=(ixN xs.length i).bind fun j=>xs[j]?
@[simp] def zt:D->D->S->R D
 | .str x,.int i,s=>if x.length <= SZ then (match atI x i with | some c=>.ok (.str [c]) s | none=>.no) else .no
 | .tup xs,.int i,s=>match atI xs i with | some d=>.ok d s | none=>.no
 | .ro xs,.int i,s=>match atI xs i with | some d=>.ok d s | none=>.no
 | .ref p,k,s=>match s[p]? with
  | some (.lst xs)=>(match k with | .int i=>(match atI xs i with | some d=>.ok d s | none=>.no) | _=>.no)
  | some (.dct kvs)=>if ji k then (match jm k kvs with | some d=>.ok d s | none=>.no) else .no
  | some (.fdc kvs)=>if ji k then (match jm k kvs with | some d=>.ok d s | none=>.no) else .no
  | _=>.no
 | _,_,_=>.no
def sIx (n d:Nat):Option Int->Nat
 | none=>d
 | some v=>(if v < 0 then max (v+(n:Int)) 0 else min v (n:Int)).toNat
def cut {α:Type} (xs:List α) (lo hi:Option Int):List α:=(xs.drop (sIx xs.length 0 lo)).take (sIx xs.length xs.length hi - sIx xs.length 0 lo)
abbrev OM:=St->S->R (Option Int)
@[simp] def Q3:OM:=fun _ s=>.ok none s
@[simp] def ya (a:EM):OM:=fun σ s=>(a σ s).bind fun x s=>match x with | .int i=>.ok (some i) s | _=>.no
@[simp] def slD (x:D) (lo hi:Option Int) (s:S):R D:=match x with
 | .str z=>if z.length <= SZ then .ok (.str (cut z lo hi)) s else .no
 | .tup xs=>if sIx xs.length 0 lo=0/\sIx xs.length xs.length hi=xs.length then .no else .ok (.tup (cut xs lo hi)) s
 | .ro xs=>alloc (.lst (cut xs lo hi)) s
 | .ref p=>match jL s p with
  | some xs=>alloc (.lst (cut xs lo hi)) s
  | none=>.no
 | _=>.no
@[simp] def eSl (a:EM) (lo hi:OM):EM:=fun σ s=>(a σ s).bind fun x s=>(lo σ s).bind fun l s=>(hi σ s).bind fun h s=>slD x l h s
abbrev F:=List D->S->R D
@[simp] def zH (f:F) (a:AM):EM:=fun σ s=>(a σ s).bind fun xs s=>f xs s
@[simp] def Zz (k:Kd) (x:D) (s:S):Bool:=match x with
 | .str _=>(match k with | .str=>true | _=>false)
 | .ro _=>(match k with | .list=>true | _=>false)
 | .ref p=>match s[p]? with
  | some (.lst _)=>(match k with | .list=>true | _=>false)
  | some (.dct _)=>(match k with | .dict=>true | _=>false)
  | _=>false
 | _=>false
@[simp] def eM (k:Kd) (f:D->F) (o:EM) (a:AM):EM:=fun σ s=>(o σ s).bind fun x s=>if Zz k x s then (a σ s).bind fun xs s=>f x xs s else .no
@[simp] def zOG (c:Nat) (f:F) (o:EM) (a:AM):EM:=fun σ s=>(o σ s).bind fun x s=>match x with
 | .ref p=>(match s[p]? with
  | some (.ins c' _)=>if c'=c then (a σ s).bind fun xs s=>f (x::xs) s else .no
  | _=>.no)
 | _=>.no
@[simp] def qS:F
 | [.str x],s=>if x.length <= SZ then .ok (.int x.length) s else .no
 | [.tup xs],s=>.ok (.int xs.length) s
 | [.ro xs],s=>.ok (.int xs.length) s
 | [.ref p],s=>match s[p]? with
  | some (.lst xs)=>.ok (.int xs.length) s
  | some (.dct kvs)=>.ok (.int kvs.length) s
  | _=>.no
 | _,_=>.no
@[simp] def Zg (n:Kd) (x:D) (s:S):R Bool:=match x with
 | .non=>.ok false s
 | .bl _=>.ok (match n with | .bool=>true | .int=>true | _=>false) s
 | .int _=>.ok (match n with | .int=>true | _=>false) s
 | .str _=>.ok (match n with | .str=>true | _=>false) s
 | .tup _=>.ok (match n with | .tuple=>true | _=>false) s
 | .ro _=>.ok (match n with | .list=>true | _=>false) s
 | .ty _=>.no
 | .ref p=>match s[p]? with
  | some (.lst _)=>.ok (match n with | .list=>true | _=>false) s
  | some (.dct _)=>.ok (match n with | .dict=>true | _=>false) s
  | _=>.no
@[simp] def Qy:F
 | [x,.ty n],s=>(Zg n x s).bind fun b s=>.ok (.bl b) s
 | _,_=>.no
def JT:List D->Option (List Bool)
 | []=>some []
 | .bl b::r=>(JT r).map (b :: ·)
 | _::_=>none
def qA:List D->Option (List T)
 | []=>some []
 | .str x::r=>(qA r).map (x :: ·)
 | _::_=>none
def yW:List D->Option (List Int)
 | []=>some []
 | .int x::r=>(yW r).map (x :: ·)
 | _::_=>none
def zBh (xs:List D) (s:S):R D:=match JT xs with
 | some bs=>.ok (.bl (bs.all id)) s
 | none=>.no
@[simp] def zOH (k:List D->S->R D):F
 | [.tup xs],s=>k xs s
 | [.ro xs],s=>k xs s
 | [.ref p],s=>match jL s p with
  | some xs=>k xs s
  | none=>.no
 | _,_=>.no
def Qq (x:T):List T->T
 | []=>[]
 | [y]=>y
 | y::r=>y++x++Qq x r
def QK (x:T) (xs:List D) (s:S):R D:=match qA xs with
 | some ys=>if (ys.map List.length).sum+ys.length * x.length <= SZ then .ok (.str (Qq x ys)) s else .no
 | none=>.no
def zH8 (c:Nat):T->List T
 | []=>[[]]
 | d::r=>if d=c then []::zH8 c r else match zH8 c r with
  | []=>[[d]]
  | p::ps=>(d::p)::ps
def Z9 (i:Int):T:=(toString i).toList.map Char.toNat
@[simp] def zD9:F
 | [.int i],s=>if small i then .ok (.str (Z9 i)) s else .no
 | _,_=>.no
@[simp] def zGp:F
 | [.int i],s=>.ok (.int i) s
 | [.bl b],s=>.ok (.int (if b then 1 else 0)) s
 | _,_=>.no
@[simp] def yK:F
 | [.tup xs],s=>alloc (.lst xs) s
 | [.ro xs],s=>alloc (.lst xs) s
 | [.ref p],s=>match s[p]? with
  | some (.lst xs)=>alloc (.lst xs) s
  | some (.dct kvs)=>alloc (.lst (kvs.map (·.1))) s
  | _=>.no
 | _,_=>.no
@[simp] def zOE:F
 | [.ref p],s=>match s[p]? with
  | some (.dct kvs)=>alloc (.dct kvs) s
  | _=>.no
 | _,_=>.no
@[simp] def qm:D->F
 | .ref p,[y],s=>match s[p]? with
  | some (.lst xs)=>if xs.length < SZ then .ok .non (s.set p (.lst (xs++[y]))) else .no
  | _=>.no
 | _,_,_=>.no
@[simp] def zBg:D->F
 | .ref p,[],s=>match s[p]? with
  | some (.lst xs)=>(match xs.getLast? with | some y=>.ok y (s.set p (.lst xs.dropLast)) | none=>.no)
  | _=>.no
 | _,_,_=>.no
def qN (k v:D) (kvs:List (D×D)):List (D×D):=if (kvs.any fun p=>decide (p.1=k))=true then kvs.map fun p=>if p.1=k then (p.1,v) else p else kvs++[(k,v)]
@[simp] def j2:EM:=fun _ s=>alloc (.dct []) s
@[simp] def zBq:D->F
 | .ref p,[k],s=>match s[p]? with
  | some (.dct kvs)=>if ji k then .ok ((jm k kvs).getD .non) s else .no
  | _=>.no
 | .ref p,[k,d],s=>match s[p]? with
  | some (.dct kvs)=>if ji k then .ok ((jm k kvs).getD d) s else .no
  | _=>.no
 | _,_,_=>.no
@[simp] def zOF:F
 | [.int i,.int j],s=>.ok (.int (if j < i then j else i)) s
 | _,_=>.no
@[simp] def zBN:F
 | [.int i,.int j],s=>.ok (.int (if j > i then j else i)) s
 | _,_=>.no
def jb:List T->List T
 | []=>[]
 | x::r=>insT' x (jb r)
where insT' (x:T):List T->List T
 | []=>[x]
 | y::r=>if y < x then y::insT' x r else x::y::r
def Z5 (xs:List D) (s:S):R D:=match qA xs with
 | some ys=>if ys.length <= 16777216 then alloc (.lst ((jb ys).map .str)) s else .no
 | none=>.no
@[simp] def zBG:F
 | [.ref p],s=>match jL s p with
  | some xs=>Z5 xs s
  | none=>.no
 | _,_=>.no
@[simp] def QS:F
 | [.ref p],s=>match s[p]? with
  | some (.dct kvs)=>Z5 (kvs.map (·.1)) s
  | _=>.no
 | _,_=>.no
abbrev Gd:=List (Nat×O)
def zi (g:Gd) (s:S):Bool:=g.all fun p=>decide (s[p.1]? = some p.2)
abbrev IM:=St->S->R (List D×Gd)
@[simp] def itD:D->S->R (List D×Gd)
 | .str x,s=>if x.length <= SZ then .ok (x.map fun c=>.str [c],[]) s else .no
 | .tup ds,s=>.ok (ds,[]) s
 | .ro ds,s=>.ok (ds,[]) s
 | .ref i,s=>match s[i]? with
  | some (.lst xs)=>.ok (xs,[(i,.lst xs)]) s
  | _=>.no
 | _,_=>.no
@[simp] def iE (a:EM):IM:=fun σ s=>(a σ s).bind itD
def jT (lo hi:Int):List D:=(List.range (hi - lo).toNat).map fun (k:Nat)=>.int (lo+k)
@[simp] def jP (a:EM):IM:=fun σ s=>(a σ s).bind fun x s=>match x with
 | .int j=>if j.natAbs < 4611686018427387904 then .ok (jT 0 j,[]) s else .no
 | _=>.no
@[simp] def zOI (a:EM):IM:=fun σ s=>(a σ s).bind fun x s=>match x with
 | .tup ds=>.ok (ds.reverse,[]) s
 | _=>.no
abbrev GM:=D->St->Option St
@[simp] def zX (i:Nat):GM:=fun d σ=>some (σ.set i (some d))
abbrev GMs:=List D->St->Option St
@[simp] def Jj:GMs:=fun ds σ=>match ds with | []=>some σ | _=>none
@[simp] def yC (g:GM) (r:GMs):GMs:=fun ds σ=>match ds with
 | []=>none
 | d::ds=>match g d σ with
  | some σ'=>r ds σ'
  | none=>none
@[simp] def Jm (g:GMs):GM:=fun d σ=>match d with
 | .tup ds=>g ds σ
 | _=>none
def yY (g:Gd) (f:D->S->R (Option D)):List D->S->R (List D)
 | [],s=>.ok [] s
 | x::xs,s=>(f x s).bind fun o s=>if zi g s then (yY g f xs s).bind fun ys s=>.ok (match o with | some y=>y::ys | none=>ys) s else .no
@[simp] def yu:TM:=fun _ s=>.ok true s
@[simp] def qc (n:Nat) (tg:GM) (c:TM) (e:EM) (σ:St):D->S->R (Option D):=fun x s=>match tg x (σ++List.replicate n none) with
 | none=>.no
 | some σ'=>(c σ' s).bind fun b s=>if b then (e σ' s).bind fun d s=>.ok (some d) s else .ok none s
def yO (n:Nat) (it:IM) (tg:GM) (c:TM) (e:EM):AM:=fun σ s=>(it σ s).bind fun p s=>if p.1.length <= SZ/\zi p.2 s=true then yY p.2 (qc n tg c e σ) p.1 s else .no
@[simp] def qt (n:Nat) (it:IM) (tg:GM) (c:TM) (e:EM):EM:=fun σ s=>(yO n it tg c e σ s).bind fun ys s=>alloc (.lst ys) s
@[simp] def JF (k:List D->S->R D) (n:Nat) (it:IM) (tg:GM) (c:TM) (e:EM):EM:=fun σ s=>(yO n it tg c e σ s).bind k
inductive RS where
 | nx (σ:St) (s:S) | rt (d:D) (s:S) | bk (σ:St) (s:S) | ct (σ:St) (s:S) | exc (e:D) (σ:St) (s:S) | no
abbrev SM:=St->S->RS
def R.stm {α:Type} (r:R α) (σ:St) (f:α->S->RS):RS:=match r with
 | .ok a s=>f a s
 | .exc e s=>.exc e σ s
 | .no=>.no
@[simp] theorem R.stm_ok {α:Type} (a:α) (s:S) (σ:St) (f:α->S->RS):(R.ok a s).stm σ f=f a s:=rfl
@[simp] theorem R.stm_no {α:Type} (σ:St) (f:α->S->RS):(R.no:R α).stm σ f=.no:=rfl
def RS.then (r:RS) (f:SM):RS:=match r with
 | .nx σ s=>f σ s
 | r=>r
@[simp] theorem RS.then_nx (σ:St) (s:S) (f:SM):(RS.nx σ s).then f=f σ s:=rfl
@[simp] theorem RS.then_rt (d:D) (s:S) (f:SM):(RS.rt d s).then f=.rt d s:=rfl
@[simp] theorem RS.then_no (f:SM):RS.no.then f=.no:=rfl
@[simp] theorem RS.then_bk (σ:St) (s:S) (f:SM):(RS.bk σ s).then f=.bk σ s:=rfl
section
variable {α:Type}{c:Prop} [Decidable c]
@[simp] theorem R.stm_ite (a b:R α) (σ:St) (f:α->S->RS):(if c then a else b).stm σ f=if c then a.stm σ f else b.stm σ f:=by split<;>rfl
@[simp] theorem RS.ite_nx (a b:St) (s:S):(if c then RS.nx a s else RS.nx b s)=RS.nx (if c then a else b) s:=by split<;>rfl
@[simp] theorem RS.ite_rt (a b:D) (s:S):(if c then RS.rt a s else RS.rt b s)=RS.rt (if c then a else b) s:=by split<;>rfl
@[simp] theorem RS.then_ite (a b:RS) (f:SM):(if c then a else b).then f=if c then a.then f else b.then f:=by split<;>rfl
end
@[simp] theorem RS.then_exc (e:D) (σ:St) (s:S) (f:SM):(RS.exc e σ s).then f=.exc e σ s:=rfl
@[simp] theorem R.stm_exc {α:Type} (e:D) (s:S) (σ:St) (f:α->S->RS):(R.exc e s:R α).stm σ f=.exc e σ s:=rfl
@[simp] theorem RS.then_ct (σ:St) (s:S) (f:SM):(RS.ct σ s).then f=.ct σ s:=rfl
@[simp] def je:SM:=fun σ s=>.nx σ s
@[simp] def zK (a b:SM):SM:=fun σ s=>(a σ s).then b
@[simp] def ZG (e:EM):SM:=fun σ s=>(e σ s).stm σ fun _ s=>.nx σ s
@[simp] def jq (e:EM):SM:=fun σ s=>(e σ s).stm σ fun d s=>.rt d s
@[simp] def zS (i:Nat) (e:EM):SM:=fun σ s=>(e σ s).stm σ fun d s=>.nx (σ.set i (some d)) s
@[simp] def yZ (x k y:D) (s:S):R Unit:=match x with
 | .ref p=>(match s[p]? with
  | some (.lst xs)=>(match k with
   | .int i=>(match ixN xs.length i with | some j=>.ok () (s.set p (.lst (xs.set j y))) | none=>.no)
   | _=>.no)
  | some (.dct kvs)=>if ji k && decide (kvs.length < SZ) then .ok () (s.set p (.dct (qN k y kvs))) else .no
  | _=>.no)
 | _=>.no
@[simp] def qC (o k e:EM):SM:=fun σ s=>(e σ s).stm σ fun y s=>(o σ s).stm σ fun x s=>(k σ s).stm σ fun k s=>(yZ x k y s).stm σ fun _ s=>.nx σ s
@[simp] def sIf (c:TM) (a b:SM):SM:=fun σ s=>(c σ s).stm σ fun k s=>if k then a σ s else b σ s
def qW (g:Gd) (f:D->SM):List D->SM
 | [],σ,s=>.nx σ s
 | x::xs,σ,s=>match f x σ s with
  | .nx σ s=>if zi g s then qW g f xs σ s else .no
  | .ct σ s=>if zi g s then qW g f xs σ s else .no
  | .bk σ s=>.nx σ s
  | r=>r
@[simp] def jr (tg:GM) (b:SM):D->SM:=fun x σ s=>match tg x σ with
 | some σ'=>b σ' s
 | none=>.no
@[simp] def yh (it:IM) (tg:GM) (b:SM):SM:=fun σ s=>(it σ s).stm σ fun p s=>if zi p.2 s=true then qW p.2 (jr tg b) p.1 σ s else .no
@[simp] def thaw (i:Nat) (kvs:List (D×D)):RS->RS
 | .nx σ s=>if s[i]? = some (.fdc kvs) then .nx σ (s.set i (.dct kvs)) else .no
 | .bk σ s=>if s[i]? = some (.fdc kvs) then .bk σ (s.set i (.dct kvs)) else .no
 | .ct σ s=>if s[i]? = some (.fdc kvs) then .ct σ (s.set i (.dct kvs)) else .no
 | .rt d s=>if s[i]? = some (.fdc kvs) then .rt d (s.set i (.dct kvs)) else .no
 | _=>.no
@[simp] def yP (m:EM) (tg:GM) (b:SM):SM:=fun σ s=>(m σ s).stm σ fun x s=>match x with
 | .ref i=>(match s[i]? with
  | some (.dct kvs)=>thaw i kvs (qW [] (jr tg b) (kvs.map fun p=>.tup [p.1,p.2]) σ (s.set i (.fdc kvs)))
  | _=>.no)
 | _=>.no
@[simp] def yv (m:EM) (tg:GM) (b:SM):SM:=fun σ s=>(m σ s).stm σ fun x s=>match x with
 | .ref i=>(match s[i]? with
  | some (.dct kvs)=>thaw i kvs (qW [] (jr tg b) (kvs.map (·.1)) σ (s.set i (.fdc kvs)))
  | _=>.no)
 | _=>.no
@[simp] def zGr (i:Nat):RS->RS
 | .nx σ s=>.nx (σ.set i none) s
 | .bk σ s=>.bk (σ.set i none) s
 | .ct σ s=>.ct (σ.set i none) s
 | .rt d s=>.rt d s
 | _=>.no
@[simp] def zDs (i:Nat) (b:SM):SM:=fun σ s=>zGr i (b (σ.set i none) s)
def jR:Nat->TM->SM->SM
 | 0,_,_,_,_=>.no
 | n+1,c,b,σ,s=>(c σ s).stm σ fun k s=>if k then (match b σ s with
  | .nx σ s=>jR n c b σ s
  | .ct σ s=>jR n c b σ s
  | .bk σ s=>.nx σ s
  | r=>r) else .nx σ s
def zA2:Nat:=1000000000000
@[simp] def zAq (c:TM) (b:SM):SM:=fun σ s=>jR zA2 c b σ s
def RS.out (r:RS):R D:=match r with
 | .rt d s=>.ok d s
 | .nx _ s=>.ok .non s
 | .exc e _ s=>.exc e s
 | _=>.no
@[simp] theorem RS.out_rt (d:D) (s:S):(RS.rt d s).out=.ok d s:=rfl
@[simp] theorem RS.out_nx (σ:St) (s:S):(RS.nx σ s).out=.ok .non s:=rfl
@[simp] theorem RS.out_no:RS.no.out=.no:=rfl
@[simp] theorem RS.out_exc (e:D) (σ:St) (s:S):(RS.exc e σ s).out=.exc e s:=rfl
@[simp] theorem RS.out_ite {c:Prop} [Decidable c] (a b:RS):(if c then a else b).out=if c then a.out else b.out:=by split<;>rfl
@[simp] def fn (n:Nat) (b:SM):F:=fun xs s=>(b (xs.map some++List.replicate (n - xs.length) none) s).out
def D.cl (n:Nat):D->Bool
 | .ref i=>decide (i < n)
 | .tup ds=>all ds
 | .ro ds=>all ds
 | _=>true
where all:List D->Bool
 | []=>true
 | d::ds=>D.cl n d && all ds
def O.cl (n:Nat):O->Bool
 | .lst xs=>D.cl.all n xs
 | .dct kvs=>kvs.all fun p=>D.cl n p.1 && D.cl n p.2
 | .fdc kvs=>kvs.all fun p=>D.cl n p.1 && D.cl n p.2
 | .ins _ fs=>fs.all fun o=>match o with | some d=>D.cl n d | none=>true
def clS (n:Nat) (s:S):Bool:=s.all (O.cl n)
def D.ren (e:List Nat):D->D
 | .ref i=>.ref (e.getD i i)
 | .tup ds=>.tup (all ds)
 | .ro ds=>.ro (all ds)
 | d=>d
where all:List D->List D
 | []=>[]
 | d::ds=>D.ren e d::all ds
def O.ren (e:List Nat):O->O
 | .lst xs=>.lst (D.ren.all e xs)
 | .dct kvs=>.dct (kvs.map fun p=>(D.ren e p.1,D.ren e p.2))
 | .fdc kvs=>.fdc (kvs.map fun p=>(D.ren e p.1,D.ren e p.2))
 | .ins c fs=>.ins c (fs.map (Option.map (D.ren e)))
end M
namespace M
structure Emb (n:Nat) (e:List Nat) (S' S1:S):Prop where
 len:e.length=S'.length
 nd:e.Nodup
 le:n <= S'.length
 old:∀ i,i < n->e[i]? = some i
 obj:∀ (i:Nat) o,S'[i]? = some o->∃ j,e[i]? = some j/\S1[j]? = some (O.ren e o)/\O.cl S'.length o=true
def jS (n:Nat) (f q:F):Prop:=∀ ds S,ds.length=n->clS S.length S=true->D.cl.all S.length ds=true ->
 q ds S=.no\/∃ d S' S1 e,q ds S=.ok d S'/\f ds S=.ok (D.ren e d) S1/\Emb S.length e S' S1/\D.cl S'.length d=true
section
variable {e:List Nat}
mutual
theorem D.ren_id (h:∀ i,e.getD i i=i):∀ d:D,D.ren e d=d
 | .non=>rfl
 | .bl _=>rfl
 | .int _=>rfl
 | .str _=>rfl
 | .ty _=>rfl
 | .ref i=>by show D.ref (e.getD i i)=_;rw[h]
 | .tup ds=>by show D.tup (D.ren.all e ds)=_;rw[D.rens_id h]
 | .ro ds=>by show D.ro (D.ren.all e ds)=_;rw[D.rens_id h]
theorem D.rens_id (h:∀ i,e.getD i i=i):∀ ds:List D,D.ren.all e ds=ds
 | []=>rfl
 | d::ds=>by show D.ren e d::D.ren.all e ds=_;rw[D.ren_id h,D.rens_id h]
end
theorem O.ren_id (h:∀ i,e.getD i i=i) (o:O):O.ren e o=o:=by
 cases o with
 | lst xs=>show O.lst _=_;rw[D.rens_id h]
 | dct kvs =>
  show O.dct (kvs.map fun p=>(D.ren e p.1,D.ren e p.2))=_
  have:(fun p:D×D=>(D.ren e p.1,D.ren e p.2))=id:=by funext p;rw[D.ren_id h,D.ren_id h];rfl
  rw[this,List.map_id]
 | fdc kvs =>
  show O.fdc (kvs.map fun p=>(D.ren e p.1,D.ren e p.2))=_
  have:(fun p:D×D=>(D.ren e p.1,D.ren e p.2))=id:=by funext p;rw[D.ren_id h,D.ren_id h];rfl
  rw[this,List.map_id]
 | ins c fs =>
  show O.ins c (fs.map (Option.map (D.ren e)))=_
  have:Option.map (D.ren e)=id:=by funext o;cases o with | none=>rfl | some d=>show some _=_;rw[D.ren_id h];rfl
  rw[this,List.map_id]
theorem zB4 (n i:Nat):(List.range n).getD i i=i:=by
 rw[List.getD_eq_getElem?_getD]
 by_cases h:i < n
 ·rw[List.getElem?_range h];rfl
 ·rw[List.getElem?_eq_none (by simp;omega)];rfl
end
section
variable {e:List Nat}{n:Nat}
mutual
theorem D.ren_old (h:∀ i,i < n->e[i]? = some i):∀ d:D,D.cl n d=true->D.ren e d=d
 | .non,_=>rfl
 | .bl _,_=>rfl
 | .int _,_=>rfl
 | .str _,_=>rfl
 | .ty _,_=>rfl
 | .ref i,c=>by
  have hi:i < n:=of_decide_eq_true c
  show D.ref (e.getD i i)=_
  rw[List.getD_eq_getElem?_getD,h i hi];rfl
 | .tup ds,c=>by show D.tup (D.ren.all e ds)=_;rw[D.rens_old h ds c]
 | .ro ds,c=>by show D.ro (D.ren.all e ds)=_;rw[D.rens_old h ds c]
theorem D.rens_old (h:∀ i,i < n->e[i]? = some i):∀ ds:List D,D.cl.all n ds=true->D.ren.all e ds=ds
 | [],_=>rfl
 | d::ds,c=>by
  have c':(D.cl n d && D.cl.all n ds)=true:=c
  rw[Bool.and_eq_true] at c'
  show D.ren e d::D.ren.all e ds=_
  rw[D.ren_old h d c'.1,D.rens_old h ds c'.2]
end
theorem O.ren_old (h:∀ i,i < n->e[i]? = some i) (o:O) (c:O.cl n o=true):O.ren e o=o:=by
 cases o with
 | lst xs=>show O.lst _=_;rw[D.rens_old h xs c]
 | dct kvs =>
  show O.dct (kvs.map fun p=>(D.ren e p.1,D.ren e p.2))=_
  congr 1
  conv=>rhs;rw[<- List.map_id kvs]
  refine List.map_congr_left fun p hp=>?_
  have c1:=List.all_eq_true.mp c p hp
  rw[Bool.and_eq_true] at c1
  rw[D.ren_old h _ c1.1,D.ren_old h _ c1.2];rfl
 | fdc kvs =>
  show O.fdc (kvs.map fun p=>(D.ren e p.1,D.ren e p.2))=_
  congr 1
  conv=>rhs;rw[<- List.map_id kvs]
  refine List.map_congr_left fun p hp=>?_
  have c1:=List.all_eq_true.mp c p hp
  rw[Bool.and_eq_true] at c1
  rw[D.ren_old h _ c1.1,D.ren_old h _ c1.2];rfl
 | ins cc fs =>
  show O.ins cc (fs.map (Option.map (D.ren e)))=_
  congr 1
  conv=>rhs;rw[<- List.map_id fs]
  refine List.map_congr_left fun p hp=>?_
  cases p with
  | none=>rfl
  | some d =>
   have c1:=List.all_eq_true.mp c (some d) hp
   show some _=some _
   rw[D.ren_old h d c1]
mutual
theorem D.cl_mono {m:Nat} (h:n <= m):∀ d:D,D.cl n d=true->D.cl m d=true
 | .non,_=>rfl
 | .bl _,_=>rfl
 | .int _,_=>rfl
 | .str _,_=>rfl
 | .ty _,_=>rfl
 | .ref i,c=>decide_eq_true (Nat.lt_of_lt_of_le (of_decide_eq_true c) h)
 | .tup ds,c=>D.cls_mono h ds c
 | .ro ds,c=>D.cls_mono h ds c
theorem D.cls_mono {m:Nat} (h:n <= m):∀ ds:List D,D.cl.all n ds=true->D.cl.all m ds=true
 | [],_=>rfl
 | d::ds,c=>by
  have c':(D.cl n d && D.cl.all n ds)=true:=c
  rw[Bool.and_eq_true] at c'
  show (D.cl m d && D.cl.all m ds)=true
  rw[D.cl_mono h d c'.1,D.cls_mono h ds c'.2];rfl
end
theorem O.cl_mono {m:Nat} (h:n <= m) (o:O) (c:O.cl n o=true):O.cl m o=true:=by
 cases o with
 | lst xs=>exact D.cls_mono h xs c
 | dct kvs =>
  refine List.all_eq_true.mpr fun p hp=>?_
  have c1:=List.all_eq_true.mp c p hp
  rw[Bool.and_eq_true] at c1 ⊢
  exact⟨D.cl_mono h _ c1.1,D.cl_mono h _ c1.2⟩
 | fdc kvs =>
  refine List.all_eq_true.mpr fun p hp=>?_
  have c1:=List.all_eq_true.mp c p hp
  rw[Bool.and_eq_true] at c1 ⊢
  exact⟨D.cl_mono h _ c1.1,D.cl_mono h _ c1.2⟩
 | ins cc fs =>
  refine List.all_eq_true.mpr fun p hp=>?_
  have c1:=List.all_eq_true.mp c p hp
  cases p with
  | none=>rfl
  | some d=>exact D.cl_mono h d c1
theorem zFx {S:M.S} (h:clS n S=true) {i:Nat}{o:O} (e:S[i]? = some o):O.cl n o=true:=List.all_eq_true.mp h o (List.mem_of_getElem? e)
end
theorem zJT {S S' g:M.S} (hn:S.length <= S'.length) (c:clS S'.length S'=true):Emb S.length (List.range S'.length) S' (S'++g) :=
 ⟨by simp,List.nodup_range,hn,fun i hi=>by rw[List.getElem?_range (by omega)],fun i o q=>by
  have hi:i < S'.length:=(List.getElem?_eq_some_iff.mp q).1
  exact⟨i,by rw[List.getElem?_range hi],by rw[List.getElem?_append_left hi,O.ren_id (zB4 _),q],zFx c q⟩⟩
theorem zKj {S g:M.S}{o:O}{j:Nat} (c:clS S.length S=true) (co:O.cl S.length o=true) (hj:(S++g)[j]? = some o) (hle:S.length <= j):Emb S.length (List.range S.length++[j]) (S++[o]) (S++g):=by
 have old:∀ i,i < S.length->(List.range S.length++[j])[i]? = some i:=fun i hi=>by
  rw[List.getElem?_append_left (by simpa using hi),List.getElem?_range hi]
 refine⟨by simp,?_,by simp,old,fun i ob q=>?_⟩
 ·rw[List.nodup_append]
  refine⟨List.nodup_range,by simp,fun a ha b hb=>?_⟩
  have h1:=List.mem_range.mp ha
  have h2:b=j:=by simpa using hb
  omega
 ·by_cases hi:i < S.length
  ·rw[List.getElem?_append_left hi] at q
   have cq:=zFx c q
   exact⟨i,old i hi,by rw[List.getElem?_append_left hi,O.ren_old old ob cq,q],O.cl_mono (by simp) ob cq⟩
  ·rw[List.getElem?_append_right (by omega)] at q
   have hz:i - S.length=0:=by
    cases hz:i - S.length with
    | zero=>rfl
    | succ k=>rw[hz] at q;simp at q
   rw[hz] at q
   simp at q
   subst q
   refine⟨j,?_,by rw[O.ren_old old o co,hj],O.cl_mono (by simp) o co⟩
   rw[List.getElem?_append_right (by simp;omega)]
   simp[hz]
theorem jS.pure {n:Nat}{f q:F} (h:∀ ds S,ds.length=n->clS S.length S=true->D.cl.all S.length ds=true->q ds S=.no\/∃ d g,q ds S=.ok d S/\f ds S=.ok d (S++g)/\D.cl S.length d=true):jS n f q:=fun ds S hl c ca=>by
 rcases h ds S hl c ca with e | ⟨d,g,e1,e2,e3⟩
 ·exact .inl e
 ·exact .inr ⟨d,S,S++g,List.range S.length,e1,by rw[D.ren_id (zB4 _)];exact e2,zJT (Nat.le_refl _) c,e3⟩
theorem jS.new {n:Nat}{f q:F} (h:∀ ds S,ds.length=n->clS S.length S=true->D.cl.all S.length ds=true->q ds S=.no\/∃ o j g,q ds S=alloc o S/\f ds S=.ok (.ref j) (S++g)/\(S++g)[j]? = some o/\S.length <= j/\O.cl S.length o=true):jS n f q:=fun ds S hl c ca=>by
 rcases h ds S hl c ca with e | ⟨o,j,g,e1,e2,e3,e4,e5⟩
 ·exact .inl e
 ·refine .inr ⟨.ref S.length,S++[o],S++g,List.range S.length++[j],e1,?_,zKj c e5 e3 e4,?_⟩
  ·rw[e2]
   show R.ok (D.ref j) _=R.ok (D.ref ((List.range S.length++[j]).getD S.length S.length)) _
   rw[List.getD_eq_getElem?_getD,List.getElem?_append_right (by simp)]
   simp
  ·show decide (S.length < (S++[o]).length)=true
   simp
noncomputable def chS (m:F):F:=fun ds s=>@dite (R D) (∃ d g,m ds s=.ok d (s++g)/\D.cl s.length d=true) (Classical.propDecidable _) (fun h=>.ok h.choose s) (fun _=>.no)
theorem zHS {n:Nat} (m:F):jS n m (chS m):=jS.pure fun ds S hl c ca=>by
 unfold chS
 by_cases h:∃ d g,m ds S=.ok d (S++g)/\D.cl S.length d=true
 ·obtain⟨g,e,k⟩:=h.choose_spec
  exact .inr ⟨h.choose,g,by rw[dif_pos h],e,k⟩
 ·exact .inl (by rw[dif_neg h])
theorem zHX {m:F}{ds:List D}{s g:S}{d:D} (e:m ds s=.ok d (s++g)) (k:D.cl s.length d=true):chS m ds s=.ok d s:=by
 have h:∃ d g,m ds s=.ok d (s++g)/\D.cl s.length d=true:=⟨d,g,e,k⟩
 obtain⟨g',e',_⟩:=h.choose_spec
 have e2:d=h.choose:=by
  have e3:=e.symm.trans e'
  injection e3
 unfold chS
 rw[dif_pos h,<- e2]
noncomputable def chN (m:F):F:=fun ds s=>@dite (R D) (∃ o j g,m ds s=.ok (.ref j) (s++g)/\(s++g)[j]? = some o/\s.length <= j/\O.cl s.length o=true) (Classical.propDecidable _) (fun h=>alloc h.choose s) (fun _=>.no)
theorem zEg {n:Nat} (m:F):jS n m (chN m):=jS.new fun ds S hl c ca=>by
 unfold chN
 by_cases h:∃ o j g,m ds S=.ok (.ref j) (S++g)/\(S++g)[j]? = some o/\S.length <= j/\O.cl S.length o=true
 ·obtain⟨j,g,e,k⟩:=h.choose_spec
  exact .inr ⟨h.choose,j,g,by rw[dif_pos h],e,k⟩
 ·exact .inl (by rw[dif_neg h])
theorem zEY {m:F}{ds:List D}{s g:S}{j:Nat}{o:O} (e:m ds s=.ok (.ref j) (s++g)) (q:(s++g)[j]? = some o) (l:s.length <= j) (k:O.cl s.length o=true):chN m ds s=alloc o s:=by
 have h:∃ o j g,m ds s=.ok (.ref j) (s++g)/\(s++g)[j]? = some o/\s.length <= j/\O.cl s.length o=true:=⟨o,j,g,e,q,l,k⟩
 obtain⟨j',g',e',q',_⟩:=h.choose_spec
 have e4:=e.symm.trans e'
 injection e4 with e1 e2
 injection e1 with e1
 have e3:o=h.choose:=by
  have q2:=q
  rw[e2,e1] at q2
  exact Option.some.inj (q2.symm.trans q')
 unfold chN
 rw[dif_pos h,<- e3]
end M
namespace M
theorem zC7 {g:Gd}{f:D->S->R (Option D)}{s:S}{h:D->D} (hg:zi g s=true):∀ {xs:List D},(∀ x∈xs,f x s=.ok (some (h x)) s)->yY g f xs s=.ok (xs.map h) s
 | [],_=>rfl
 | x::xs,e=>by
  show (f x s).bind _=_
  rw[e x List.mem_cons_self,R.bind_ok,if_pos hg,zC7 hg fun y hy=>e y (List.mem_cons_of_mem _ hy)]
  rfl
theorem zAw {g:Gd}{f:D->S->R (Option D)}{s:S}{p:D->Bool}{h:D->D} (hg:zi g s=true):∀ {xs:List D},(∀ x∈xs,f x s=.ok (if p x then some (h x) else none) s)->yY g f xs s=.ok ((xs.filter p).map h) s
 | [],_=>rfl
 | x::xs,e=>by
  show (f x s).bind _=_
  rw[e x List.mem_cons_self,R.bind_ok,if_pos hg,zAw hg fun y hy=>e y (List.mem_cons_of_mem _ hy),R.bind_ok]
  cases hp:p x<;>simp[hp]
theorem zEa {n:Nat}{it:IM}{tg:GM}{e:EM}{σ:St}{s:S}{xs:List D}{g:Gd} (h:D->D) (hi:it σ s=.ok (xs,g) s) (hl:xs.length <= SZ) (hg:zi g s=true) (he:∀ x∈xs,qc n tg yu e σ x s=.ok (some (h x)) s):yO n it tg yu e σ s=.ok (xs.map h) s:=by
 unfold yO
 rw[hi,R.bind_ok,if_pos ⟨hl,hg⟩]
 exact zC7 hg he
theorem Z8 {n:Nat}{it:IM}{tg:GM}{e:EM}{σ:St}{s:S}{lo hi:Int} (h:Nat->D) (hit:it σ s=.ok (jT lo hi,[]) s) (hl:(hi - lo).toNat <= SZ) (he:∀ k:Nat,k < (hi - lo).toNat->qc n tg yu e σ (.int (lo+k)) s=.ok (some (h k)) s) :
  yO n it tg yu e σ s=.ok ((List.range (hi - lo).toNat).map h) s:=by
 have:=zEa (n:=n) (tg:=tg) (e:=e) (fun d=>match d with | .int i=>h (i - lo).toNat | d=>d) hit (by simpa [jT] using hl) rfl fun x hx=>by
  obtain⟨k,hk,rfl⟩:=List.mem_map.mp hx
  have e:(lo+(k:Int) - lo).toNat=k:=by omega
  rw[he k (List.mem_range.mp hk)]
  show R.ok (some (h k)) s=R.ok (some (h (lo+(k:Int) - lo).toNat)) s
  rw[e]
 rw[this]
 unfold jT
 rw[List.map_map]
 have e2:∀ k:Nat,(lo+(k:Int) - lo).toNat=k:=fun k=>by omega
 have e3:((fun d=>match d with | .int i=>h (i - lo).toNat | d=>d) ∘ fun (k:Nat)=>D.int (lo+k))=h:=by
  funext k
  show h (lo+(k:Int) - lo).toNat=h k
  rw[e2]
 rw[e3]
theorem zHZ {α:Type} (f:α->Bool) (xs:List α):JT (xs.map fun x=>.bl (f x))=some (xs.map f):=by
 induction xs with
 | nil=>rfl
 | cons x xs ih=>show (JT (xs.map fun x=>D.bl (f x))).map _=_;rw[ih];rfl
theorem all_map {α:Type} (f:α->Bool) (xs:List α) (s:S):zBh (xs.map fun x=>.bl (f x)) s=.ok (.bl (xs.all f)) s:=by
 unfold zBh
 rw[zHZ]
 simp[List.all_map]
theorem zIS {α:Type} (xs:List α) {k:Int} (h:0 <= k):cut xs none (some k)=xs.take k.toNat:=by
 unfold cut sIx
 have:¬ k < 0:=by omega
 simp only[List.drop_zero,if_neg this,Nat.sub_zero]
 by_cases hk:k <= xs.length
 ·rw[show (min k (xs.length:Int)).toNat=k.toNat by omega]
 ·rw[List.take_of_length_le (by omega),List.take_of_length_le (by omega)]
theorem zES {α:Type} (xs:List α) {k:Int} (h:0 <= k):cut xs (some k) none=xs.drop k.toNat:=by
 unfold cut sIx
 have:¬ k < 0:=by omega
 simp only[if_neg this]
 by_cases hk:k <= xs.length
 ·rw[show (min k (xs.length:Int)).toNat=k.toNat by omega,List.take_of_length_le (by rw[List.length_drop];omega)]
 ·rw[List.drop_of_length_le (by omega),List.drop_of_length_le (by omega)];simp
theorem zDG {α:Type} (f:α->T) (xs:List α):qA (xs.map fun x=>.str (f x))=some (xs.map f):=by
 induction xs with
 | nil=>rfl
 | cons x xs ih=>show (qA (xs.map fun x=>D.str (f x))).map _=_;rw[ih];rfl
theorem zA4 (xs:List T):qA (xs.map .str)=some xs:=by
 have:=zDG (fun x:T=>x) xs
 rwa [List.map_id'] at this
theorem zDe (xs:List T):Qq [] xs=xs.flatten:=by
 induction xs with
 | nil=>rfl
 | cons x xs ih =>
  cases xs with
  | nil=>simp[Qq]
  | cons y ys=>show x++[]++Qq [] (y::ys)=_;rw[ih];simp
theorem zDz {α β:Type} (f:α->β) (xs:List α):(xs.map fun x=>[f x]).flatten=xs.map f:=by
 induction xs with
 | nil=>rfl
 | cons x xs ih=>rw[List.map_cons,List.flatten_cons,ih];rfl
theorem zJG {α:Type} (f:α->Nat) (xs:List α):((xs.map fun x=>[f x]).map List.length).sum=xs.length:=by
 induction xs with
 | nil=>rfl
 | cons x xs ih=>rw[List.map_cons,List.map_cons,List.sum_cons,ih,List.length_cons];show 1+xs.length=xs.length+1;omega
theorem zHv {α:Type} (f:α->Nat) (xs:List α) (s:S) (h:xs.length <= SZ):QK [] (xs.map fun x=>.str [f x]) s=.ok (.str (xs.map f)) s:=by
 unfold QK
 rw[zDG]
 dsimp only
 rw[if_pos,zDe,zDz]
 rw[zJG]
 simpa using h
theorem zAA (n:Nat):∀ ts:List T,D.cl.all n (ts.map .str)=true
 | []=>rfl
 | _::ts=>by
  show (D.cl n (.str _) && D.cl.all n (ts.map .str))=true
  rw[zAA n ts];rfl
theorem zBb (x:T):∀ ts:List T,Jd (.str x) (ts.map .str)=ts.contains x
 | []=>rfl
 | t::ts=>by
  have:=zBb x ts
  unfold Jd at this ⊢
  rw[List.map_cons,List.any_cons,this,List.contains_cons]
  simp[eqF,BEq.comm (a:=t)]
theorem zDJ (ts:List T):(ts.map D.str).all flat=true:=by
 rw[List.all_map];exact List.all_eq_true.mpr fun _ _=>rfl
theorem zBM {α:Type}{xs:List α}{k:Int} (h0:0 <= k) (h:k < xs.length) (d:α):atI xs k=some (xs.getD k.toNat d):=by
 unfold atI ixN
 rw[if_pos h0,if_pos h]
 have hk:k.toNat < xs.length:=by omega
 simp[List.getD_eq_getElem?_getD,hk]
theorem zh {S:M.S}{p:Nat}{o:O} (e:S[p]? = some o) (g:M.S):(S++g)[p]? = some o:=by
 rw[List.getElem?_append_left (List.getElem?_eq_some_iff.mp e).1]
 exact e
theorem zEJ {n:Nat}{it:IM}{tg:GM}{c:TM}{e:EM}{σ:St}{s s1:S}{xs:List D}{g:Gd} (p:D->Bool) (h:D->D) (hi:it σ s=.ok (xs,g) s1) (hl:xs.length <= SZ) (hg:zi g s1=true) (he:∀ x∈xs,qc n tg c e σ x s1=.ok (if p x then some (h x) else none) s1):yO n it tg c e σ s=.ok ((xs.filter p).map h) s1:=by
 unfold yO
 rw[hi,R.bind_ok,if_pos ⟨hl,hg⟩]
 exact zAw hg he
theorem zCE {n:Nat}{it:IM}{tg:GM}{c:TM}{e:EM}{σ:St}{s s1:S}{ts:List T}{g:Gd} (p:T->Bool) (hi:it σ s=.ok (ts.map .str,g) s1) (hl:ts.length <= SZ) (hg:zi g s1=true) (he:∀ x∈ts,qc n tg c e σ (.str x) s1=.ok (if p x then some (.str x) else none) s1):yO n it tg c e σ s=.ok ((ts.filter p).map .str) s1:=by
 rw[zEJ (fun d=>match d with | .str y=>p y | _=>false) id hi (by simpa using hl) hg fun d hd=>by
  obtain⟨y,hy,rfl⟩:=List.mem_map.mp hd
  exact he y hy]
 rw[List.map_id,List.filter_map]
 rfl
theorem yq {g:Gd}{f:D->SM} (I:Nat->St->S->Prop):∀ (xs:List D) (i:Nat) (σ:St) (s:S),I i σ s->(∀ (j:Nat) x,xs[j]? = some x->∀ σ s,I (i+j) σ s->∃ σ' s',f x σ s=.nx σ' s'/\zi g s'=true/\I (i+j+1) σ' s')->∃ σ' s',qW g f xs σ s=.nx σ' s'/\I (i+xs.length) σ' s'
 | [],i,σ,s,h,_=>⟨σ,s,rfl,h⟩
 | x::xs,i,σ,s,h,e=>by
  obtain⟨σ1,s1,e1,hg,h1⟩:=e 0 x rfl σ s h
  obtain⟨σ2,s2,e2,h2⟩:=yq I xs (i+1) σ1 s1 h1 fun j y hy σ s hI=>by
   have:=e (j+1) y (by simpa using hy) σ s (by rw[show i+(j+1)=i+1+j by omega];exact hI)
   rwa [show i+(j+1)+1=i+1+j+1 by omega] at this
  refine⟨σ2,s2,?_,by rw[List.length_cons,show i+(xs.length+1)=i+1+xs.length by omega];exact h2⟩
  show (match f x σ s with | .nx σ s=>if zi g s then qW g f xs σ s else .no | .ct σ s=>if zi g s then qW g f xs σ s else .no | .bk σ s=>.nx σ s | r=>r)=_
  rw[e1]
  dsimp only
  rw[if_pos hg,e2]
theorem zEo (g:Nat->Option P):∀ ts:List T,qq.all g (ts.map .str)=some (ts.map P.str)
 | []=>rfl
 | t::ts=>by
  show (match qq g (.str t),qq.all g (ts.map .str) with | some p,some ps=>some (p::ps) | _,_=>none)=_
  rw[zEo g ts]
  rfl
theorem zBC:∀ ts:List T,P.deps (ts.map P.str)=0
 | []=>by simp[P.deps]
 | t::ts=>by simp[P.deps,P.dep,zBC ts]
theorem zA1:∀ ts us:List T,P.eqvs (ts.map P.str) (us.map P.str)=decide (ts=us)
 | [],[]=>by simp[P.eqvs]
 | [],u::us=>by simp[P.eqvs]
 | t::ts,[]=>by simp[P.eqvs]
 | t::ts,u::us=>by
  simp only[List.map_cons,P.eqvs,P.eqv,zA1 ts us]
  by_cases h:t=u<;>by_cases h2:ts=us<;>simp[h,h2]
theorem Qw {s:S}{p q:Nat}{ts us:List T} (hp:s[p]? = some (.lst (ts.map .str))) (hq:s[q]? = some (.lst (us.map .str))):eqD (.ref p) (.ref q) s=.ok (decide (ts=us)) s:=by
 have h:∀ (r:Nat) (vs:List T),s[r]? = some (.lst (vs.map .str))->toP Jc s (.ref r)=some (.lst (vs.map P.str)):=fun r vs e=>by
  show (match jL s r with | some xs=>(qq.all (fun j=>toP 8 s (.ref j)) xs).map P.lst | none=>none)=_
  have:jL s r=some (vs.map .str):=by simp[jL,e]
  rw[this]
  show (qq.all _ (vs.map .str)).map P.lst=_
  rw[zEo];rfl
 simp only[eqD,h p ts hp,h q us hq]
 simp only[P.dep,zBC,P.eqv,zA1]
 rfl
end M
namespace L2
open PySem PySem.Spec PyProof.Rows
def ofT (x:M.T):Str:=⟨x.toArray⟩
theorem j9 (x:M.T):(ofT x).length=x.length:=by simp[ofT,Str.length]
theorem Zx (x:M.T):(ofT x).cps.toList=x:=by simp[ofT]
theorem zC2 {x y:M.T} (h:ofT x=ofT y):x=y:=by rw[<- Zx x,h,Zx]
theorem zKo (x y:M.T):ofT x++ofT y=ofT (x++y):=by
 show (⟨x.toArray++y.toArray⟩:Str)=_
 simp[ofT]
abbrev okT (x:M.T):Prop:=x.all (fun c=>decide (c < 1114112))=true
theorem zCq {x y:M.T} (h:okT x) (k:okT y):okT (x++y):=by show (x++y).all _=true;rw[List.all_append,h,k];rfl
theorem zBH {x y:M.T} (h:okT x) (k:∀ c∈y,c∈x):okT y:=List.all_eq_true.mpr fun c hc=>List.all_eq_true.mp h c (k c hc)
theorem Zr:M.SZ=sizeLine:=by rw[sizeLine_eq];rfl
def Q1 (K:PySem.W.Frag) (H:Hp) (a:Addr) (xs:List V):Prop :=
 (∃ o,H a=some (.frz o (.lst xs))) \/
  ∃ (o:Obj) (its:Array Value) (n:Nat),K.lookup a=some o/\o.cls=.type "list" /\ o.dict=none/\o.data=.seq its n/\its.size <= sizeLine/\zY xs its.toList
theorem Q1.sq {K:PySem.W.Frag}{H:Hp}{a:Addr}{xs:List V} (h:Q1 K H a xs):SqL K H a xs:=by
 rcases h with ⟨o,h⟩ | h
 ·exact .inl (.inr ⟨o,h⟩)
 ·exact .inr h
structure Le (H H':Hp):Prop where
 tups:∀ b xs,H b=some (.tup xs)->H' b=some (.tup xs)
 frzs:∀ b o u,H b=some (.frz o u)->H' b=some (.frz o u)
theorem Le.refl (H:Hp):Le H H:=⟨fun _ _ h=>h,fun _ _ _ h=>h⟩
theorem Le.trans {H H1 H2:Hp} (a:Le H H1) (b:Le H1 H2):Le H H2:=⟨fun c xs h=>b.tups c xs (a.tups c xs h),fun c o u h=>b.frzs c o u (a.frzs c o u h)⟩
theorem Le.new {H:Hp}{p:Addr} (h:H p=none) (o:HO):Le H (upd H p o) :=
 ⟨fun b xs q=>by rw[zZ (yr q h)];exact q,fun b o u q=>by rw[zZ (yr q h)];exact q⟩
theorem Le.put {H:Hp}{p:Addr} (h:Mut (H p)) (o:HO):Le H (upd H p o) :=
 ⟨fun b xs q=>by rw[zZ (fun z=>by subst z;rw[q] at h;exact h)];exact q,fun b o u q=>by rw[zZ (fun z=>by subst z;rw[q] at h;exact h)];exact q⟩
theorem Le.rol {K:PySem.W.Frag}{H H':Hp}{a:Addr}{xs:List V} (e:Le H H') (h:Q1 K H a xs):Q1 K H' a xs:=by
 rcases h with ⟨o,h⟩ | h
 ·exact .inl ⟨o,e.frzs _ _ _ h⟩
 ·exact .inr h
theorem Le.sqT {K:PySem.W.Frag}{H H':Hp}{a:Addr}{xs:List V} (e:Le H H') (h:SqT K H a xs):SqT K H' a xs:=by
 rcases h with (h | ⟨o,h⟩) | h
 ·exact .inl (.inl (e.tups _ _ h))
 ·exact .inl (.inr ⟨o,e.frzs _ _ _ h⟩)
 ·exact .inr h
def qF:M.Kd->String
 | .str => "str" | .int => "int" | .bool => "bool" | .list => "list" | .tuple => "tuple" | .dict => "dict"
def zN (K:PySem.W.Frag) (ρ:List Addr) (H:Hp):M.D->V->Prop
 | .non,v=>v=.non
 | .bl b,v=>v=.bl b
 | .int i,v=>v=.int i
 | .str x,v=>v=.str (ofT x)/\okT x
 | .ty n,v=>v=.ty (qF n)
 | .ref i,v=>∃ a,v=.ref a/\ρ[i]? = some a
 | .tup ds,v=>∃ a xs,v=.ref a/\SqT K H a xs/\all ds xs
 | .ro ds,v=>∃ a xs,v=.ref a/\Q1 K H a xs/\all ds xs
where all:List M.D->List V->Prop
 | [],xs=>xs=[]
 | d::ds,xs=>∃ y ys,xs=y::ys/\zN K ρ H d y/\all ds ys
abbrev zJ (K:PySem.W.Frag) (ρ:List Addr) (H:Hp):List M.D->List V->Prop:=zN.all K ρ H
theorem Jr {ρ ρ':List Addr} (h:ρ <+: ρ') {i:Nat}{a:Addr} (e:ρ[i]? = some a):ρ'[i]? = some a:=by
 obtain⟨t,rfl⟩:=h
 rw[List.getElem?_append_left (List.getElem?_eq_some_iff.mp e).1]
 exact e
section
variable {K:PySem.W.Frag}{ρ ρ':List Addr}{H H':Hp}
mutual
theorem zN.mono (hρ:ρ <+: ρ') (le:Le H H'):∀ {d:M.D}{v:V},zN K ρ H d v->zN K ρ' H' d v
 | .non,_,h=>h
 | .bl _,_,h=>h
 | .int _,_,h=>h
 | .str _,_,h=>h
 | .ty _,_,h=>h
 | .ref _,_,⟨a,e,h⟩=>⟨a,e,Jr hρ h⟩
 | .tup _,_,⟨a,xs,e,h,r⟩=>⟨a,xs,e,le.sqT h,zJ.mono hρ le r⟩
 | .ro _,_,⟨a,xs,e,h,r⟩=>⟨a,xs,e,le.rol h,zJ.mono hρ le r⟩
theorem zJ.mono (hρ:ρ <+: ρ') (le:Le H H'):∀ {ds:List M.D}{xs:List V},zJ K ρ H ds xs->zJ K ρ' H' ds xs
 | [],_,h=>h
 | _::_,_,⟨y,ys,e,h,r⟩=>⟨y,ys,e,zN.mono hρ le h,zJ.mono hρ le r⟩
end
theorem zJ.length:∀ {ds:List M.D}{xs:List V},zJ K ρ H ds xs->ds.length=xs.length
 | [],_,h=>by cases h;rfl
 | _::_,_,⟨_,_,e,_,r⟩=>by subst e;rw[List.length_cons,List.length_cons,zJ.length r]
theorem zJ.get:∀ {ds:List M.D}{xs:List V}{i:Nat}{d:M.D},zJ K ρ H ds xs->ds[i]? = some d->∃ v,xs[i]? = some v/\zN K ρ H d v
 | [],_,_,_,_,e=>by simp at e
 | _::_,_,0,_,⟨y,_,e1,h,_⟩,e=>by subst e1;simp at e;subst e;exact⟨y,rfl,h⟩
 | _::_,_,i+1,d,⟨_,ys,e1,_,r⟩,e=>by
  subst e1
  obtain⟨v,h1,h2⟩:=zJ.get (i:=i) (d:=d) r (by simpa using e)
  exact⟨v,by simpa using h1,h2⟩
theorem zJ.app:∀ {ds es:List M.D}{xs ys:List V},zJ K ρ H ds xs->zJ K ρ H es ys->zJ K ρ H (ds++es) (xs++ys)
 | [],_,_,_,h,k=>by cases h;exact k
 | _::_,_,_,_,⟨y,ys,e,h,r⟩,k=>by subst e;exact⟨y,_,rfl,h,zJ.app r k⟩
theorem zJ.take:∀ {ds:List M.D}{xs:List V} (n:Nat),zJ K ρ H ds xs->zJ K ρ H (ds.take n) (xs.take n)
 | _,_,0,_=>rfl
 | [],_,_+1,h=>by cases h;rfl
 | _::_,_,n+1,⟨y,ys,e,h,r⟩=>by subst e;exact⟨y,_,rfl,h,zJ.take n r⟩
theorem zJ.drop:∀ {ds:List M.D}{xs:List V} (n:Nat),zJ K ρ H ds xs->zJ K ρ H (ds.drop n) (xs.drop n)
 | _,_,0,h=>h
 | [],_,_+1,h=>by cases h;rfl
 | _::_,_,n+1,⟨y,ys,e,h,r⟩=>by subst e;exact zJ.drop n r
theorem zJ.set {d:M.D}{v:V} (hd:zN K ρ H d v):∀ {ds:List M.D}{xs:List V} (n:Nat),zJ K ρ H ds xs->zJ K ρ H (ds.set n d) (xs.set n v)
 | [],_,_,h=>by cases h;rfl
 | _::_,_,0,⟨y,ys,e,h,r⟩=>by subst e;exact⟨v,ys,rfl,hd,r⟩
 | _::_,_,n+1,⟨y,ys,e,h,r⟩=>by subst e;exact⟨y,_,rfl,h,zJ.set hd n r⟩
theorem zJ.dropLast {ds:List M.D}{xs:List V} (h:zJ K ρ H ds xs):zJ K ρ H ds.dropLast xs.dropLast:=by
 rw[List.dropLast_eq_take,List.dropLast_eq_take,h.length]
 exact h.take _
end
section
variable {K:PySem.W.Frag}{ρ ρ':List Addr}{H H':Hp}{ds es:List M.D}{xs ys:List V}
theorem zN.all.mono (h:zN.all K ρ H ds xs) (hρ:ρ <+: ρ') (le:Le H H'):zN.all K ρ' H' ds xs:=zJ.mono hρ le h
theorem zN.all.length (h:zN.all K ρ H ds xs):ds.length=xs.length:=zJ.length h
theorem zN.all.app (h:zN.all K ρ H ds xs) (k:zN.all K ρ H es ys):zN.all K ρ H (ds++es) (xs++ys):=zJ.app h k
end
def yT:M.D->Key->Prop
 | .int i,k=>k=.inl i
 | .str x,k=>k=.inr (ofT x)/\okT x
 | _,_=>False
abbrev Tab:=Nat->Option (Addr×List Str)
structure zOC (K:PySem.W.Frag) (ρ:List Addr) (H:Hp) (N:List Str) (fs:List (Option M.D)) (gs:List (Str×V)):Prop where
 len:fs.length=N.length
 nd:(gs.map (·.1)).Nodup
 within:∀ f∈gs.map (·.1),f∈N
 get:∀ (i:Nat) (f:Str) (d:M.D),N[i]? = some f->fs[i]? = some (some d)->∃ v,gs.lookup f=some v/\zN K ρ H d v
def ObR (K:PySem.W.Frag) (Θ:Tab) (ρ:List Addr) (H:Hp) (a:Addr):M.O->Prop
 | .lst ds=>∃ xs,H a=some (.lst xs)/\zJ K ρ H ds xs
 | .dct kvs=>∃ ks,H a=some (.dK ks)/\Paired (fun (p:M.D×M.D) (q:Key×V)=>yT p.1 q.1/\zN K ρ H p.2 q.2) kvs ks
 | .fdc kvs=>∃ o ks,H a=some (.frz o (.dK ks))/\Paired (fun (p:M.D×M.D) (q:Key×V)=>yT p.1 q.1/\zN K ρ H p.2 q.2) kvs ks
 | .ins c fs=>∃ C dx gs N,H a=some (.ins C dx gs)/\Θ c=some (C,N)/\zOC K ρ H N fs gs
structure zV (K:PySem.W.Frag) (Θ:Tab) (ρ:List Addr) (S:M.S) (H:Hp):Prop where
 len:ρ.length=S.length
 nd:ρ.Nodup
 obj:∀ (i:Nat) (o:M.O),S[i]? = some o->∃ a,ρ[i]? = some a/\ObR K Θ ρ H a o
structure zw (K:PySem.W.Frag) (ρ:List Addr) (H:Hp) (σ':M.St) (σ:St):Prop where
 len:σ'.length=σ.length
 get:∀ (i:Nat) (d:M.D),σ'[i]? = some (some d)->∃ v,σ[i]? = some (some v)/\zN K ρ H d v
section
variable {K:PySem.W.Frag}{Θ:Tab}{ρ ρ':List Addr}{H H':Hp}{S:M.S}
theorem zw.mono {σ':M.St}{σ:St} (h:zw K ρ H σ' σ) (hρ:ρ <+: ρ') (le:Le H H'):zw K ρ' H' σ' σ :=
 ⟨h.len,fun i d e=>let ⟨v,h1,h2⟩:=h.get i d e;⟨v,h1,h2.mono hρ le⟩⟩
theorem zw.set {σ':M.St}{σ:St}{d:M.D}{v:V} (h:zw K ρ H σ' σ) (hd:zN K ρ H d v) (i:Nat):zw K ρ H (σ'.set i (some d)) (σ.set i (some v)):=by
 refine⟨by rw[List.length_set,List.length_set,h.len],fun j e q=>?_⟩
 by_cases hj:i=j
 ·subst hj
  by_cases hl:i < σ'.length
  ·rw[List.getElem?_set_self hl] at q
   cases q
   exact⟨v,by rw[List.getElem?_set_self (h.len ▸ hl)],hd⟩
  ·rw[List.getElem?_eq_none (by rw[List.length_set];omega)] at q
   cases q
 ·rw[List.getElem?_set_ne hj] at q
  rw[List.getElem?_set_ne hj]
  exact h.get j e q
theorem zw.more {σ':M.St}{σ:St} (h:zw K ρ H σ' σ) (n:Nat):zw K ρ H (σ'++List.replicate n none) (σ++List.replicate n none):=by
 refine⟨by simp[h.len],fun i d q=>?_⟩
 by_cases hl:i < σ'.length
 ·rw[List.getElem?_append_left hl] at q
  rw[List.getElem?_append_left (h.len ▸ hl)]
  exact h.get i d q
 ·rw[List.getElem?_append_right (by omega),List.getElem?_replicate] at q
  split at q<;>cases q
theorem zV.tracked (h:zV K Θ ρ S H) {a:Addr} (m:a∈ρ):∃ o,H a=some o:=by
 obtain⟨i,hi,e⟩:=List.mem_iff_getElem.mp m
 have hl:i < S.length:=h.len ▸ hi
 obtain⟨a',e1,r⟩:=h.obj i S[i] (by simp[hl])
 rw[List.getElem?_eq_getElem hi,e] at e1
 cases e1
 cases q:S[i] with
 | lst ds=>rw[q] at r;obtain⟨xs,e2,_⟩:=r;exact⟨_,e2⟩
 | dct kvs=>rw[q] at r;obtain⟨xs,e2,_⟩:=r;exact⟨_,e2⟩
 | fdc kvs=>rw[q] at r;obtain⟨o,xs,e2,_⟩:=r;exact⟨_,e2⟩
 | ins c fs=>rw[q] at r;obtain⟨_,_,_,_,e2,_⟩:=r;exact⟨_,e2⟩
theorem zV.fresh (h:zV K Θ ρ S H) {p:Addr} (hp:H p=none):p∉ρ:=fun m=>by
 obtain⟨o,e⟩:=h.tracked m
 rw[hp] at e;cases e
theorem ObR.stay {a:Addr}{o:M.O} (h:ObR K Θ ρ H a o) (hρ:ρ <+: ρ') (le:Le H H') (e:H' a=H a):ObR K Θ ρ' H' a o:=by
 cases o with
 | lst ds=>obtain⟨xs,e1,r⟩:=h;exact⟨xs,e.trans e1,r.mono hρ le⟩
 | dct kvs=>obtain⟨ks,e1,r⟩:=h;exact⟨ks,e.trans e1,Paired.mapP r fun p q z=>⟨z.1,z.2.mono hρ le⟩⟩
 | fdc kvs=>obtain⟨o,ks,e1,r⟩:=h;exact⟨o,ks,e.trans e1,Paired.mapP r fun p q z=>⟨z.1,z.2.mono hρ le⟩⟩
 | ins c fs =>
  obtain⟨C,dx,gs,N,e1,e2,r⟩:=h
  exact⟨C,dx,gs,N,e.trans e1,e2,r.len,r.nd,r.within,fun i f d h1 h2=>let ⟨v,k1,k2⟩:=r.get i f d h1 h2;⟨v,k1,k2.mono hρ le⟩⟩
theorem zV.stay (h:zV K Θ ρ S H) (le:Le H H') (e:∀ a∈ρ,H' a=H a):zV K Θ ρ S H' :=
 ⟨h.len,h.nd,fun i o q=>let ⟨a,h1,h2⟩:=h.obj i o q;⟨a,h1,h2.stay (List.prefix_refl _) le (e a (List.mem_of_getElem? h1))⟩⟩
theorem zV.aside (h:zV K Θ ρ S H) {p:Addr} (hp:H p=none) (o:HO):zV K Θ ρ S (upd H p o) :=
 h.stay (Le.new hp o) fun a m=>zZ (fun z=>h.fresh hp (z ▸ m))
theorem zV.alloc (h:zV K Θ ρ S H) {p:Addr} (hp:H p=none) {o:M.O}{u:HO} (r:ObR K Θ (ρ++[p]) (upd H p u) p o):zV K Θ (ρ++[p]) (S++[o]) (upd H p u):=by
 refine⟨by simp[h.len],?_,fun i ob q=>?_⟩
 ·rw[List.nodup_append]
  refine⟨h.nd,by simp,fun a ha b hb=>?_⟩
  have hb':b=p:=by simpa using hb
  rw[hb']
  exact fun z=>h.fresh hp (z ▸ ha)
 ·by_cases hl:i < S.length
  ·rw[List.getElem?_append_left hl] at q
   obtain⟨a,h1,h2⟩:=h.obj i ob q
   refine⟨a,Jr (List.prefix_append _ _) h1,h2.stay (List.prefix_append _ _) (Le.new hp u) (zZ fun z=>h.fresh hp (z ▸ List.mem_of_getElem? h1))⟩
  ·rw[List.getElem?_append_right (by omega)] at q
   have hi:i - S.length=0:=by
    cases hz:i - S.length with
    | zero=>rfl
    | succ k=>rw[hz] at q;simp at q
   rw[hi] at q
   simp at q
   subst q
   refine⟨p,?_,r⟩
   rw[List.getElem?_append_right (by rw[h.len];omega),h.len,hi]
   rfl
theorem zAV {α:Type}{ρ:List α} (hN:ρ.Nodup) {i j:Nat}{x:α} (a:ρ[i]? = some x) (b:ρ[j]? = some x):i=j:=by
 induction ρ generalizing i j with
 | nil=>simp at a
 | cons y r ih =>
  rw[List.nodup_cons] at hN
  cases i with
  | zero =>
   cases j with
   | zero=>rfl
   | succ j =>
    simp at a b
    subst a
    exact absurd (List.mem_of_getElem? b) hN.1
  | succ i =>
   cases j with
   | zero =>
    simp at a b
    subst b
    exact absurd (List.mem_of_getElem? a) hN.1
   | succ j =>
    simp at a b
    rw[ih hN.2 a b]
theorem zId {α:Type}{l:List α} (h:∀ (i j:Nat) x,l[i]? = some x->l[j]? = some x->i=j):l.Nodup:=by
 induction l with
 | nil=>exact List.nodup_nil
 | cons y r ih =>
  refine List.nodup_cons.mpr ⟨fun m=>?_,ih fun i j x a b=>?_⟩
  ·obtain⟨j,hj,e⟩:=List.mem_iff_getElem.mp m
   have:=h 0 (j+1) y (by simp) (by simp[e,hj])
   omega
  ·have:=h (i+1) (j+1) x (by simpa using a) (by simpa using b)
   omega
theorem zHs {α:Type}{l:List α} (hN:l.Nodup) {i j:Nat} (hi:i < l.length) (hj:j < l.length) (e:l[i]=l[j]):i=j :=
 zAV hN (x:=l[i]) (by simp[hi]) (by rw[e];simp[hj])
theorem zV.put (h:zV K Θ ρ S H) {i:Nat}{a:Addr} (ha:ρ[i]? = some a) {o:M.O}{u:HO} (mu:Mut (H a)) (r:ObR K Θ ρ (upd H a u) a o):zV K Θ ρ (S.set i o) (upd H a u):=by
 refine⟨by simp[h.len],h.nd,fun j ob q=>?_⟩
 by_cases hj:i=j
 ·subst hj
  by_cases hl:i < S.length
  ·rw[List.getElem?_set_self hl] at q
   cases q
   exact⟨a,ha,r⟩
  ·rw[List.getElem?_eq_none (by rw[List.length_set];omega)] at q
   cases q
 ·rw[List.getElem?_set_ne hj] at q
  obtain⟨b,h1,h2⟩:=h.obj j ob q
  refine⟨b,h1,h2.stay (List.prefix_refl _) (Le.put mu u) (zZ fun z=>?_)⟩
  subst z
  exact hj (zAV h.nd ha h1)
end
def zD {α β:Type} (K:PySem.W.Frag) (Θ:Tab) (Rl:List Addr->Hp->α->β->Prop) (ρ:List Addr) (H:Hp):M.R α->(β->Hp->Prop)->Prop
 | .ok a S',Q=>∀ ρ' H' b,ρ <+: ρ'->Le H H'->zV K Θ ρ' S' H'->Rl ρ' H' a b->Q b H'
 | .exc _ _,_=>False
 | .no,_=>False
abbrev rB:List Addr->Hp->Bool->Bool->Prop:=fun _ _ a b=>a=b
abbrev rO:List Addr->Hp->Option Int->Option Int->Prop:=fun _ _ a b=>a=b
section
variable {K:PySem.W.Frag}{Θ:Tab}{ρ ρ':List Addr}{H H':Hp}{S:M.S}{α β γ δ:Type}{Rl:List Addr->Hp->α->β->Prop}{Rk:List Addr->Hp->γ->δ->Prop}{Q:β->Hp->Prop}{Q':δ->Hp->Prop}
theorem zD.weak {r:M.R α} (h:zD K Θ Rl ρ H r Q) (hρ:ρ <+: ρ') (le:Le H H'):zD K Θ Rl ρ' H' r Q:=by
 cases r with
 | ok a s=>exact fun ρ2 H2 b p l=>h ρ2 H2 b (hρ.trans p) (le.trans l)
 | exc e s=>exact h
 | no=>exact h
theorem zD.bind {r:M.R α}{f:α->M.S->M.R γ} (h:zD K Θ Rk ρ H (r.bind f) Q')
  (k:∀ ρ' H' a b S',ρ <+: ρ'->Le H H'->zV K Θ ρ' S' H'->Rl ρ' H' a b->zD K Θ Rk ρ' H' (f a S') Q'->Q b H'):zD K Θ Rl ρ H r Q:=by
 cases r with
 | ok a s=>exact fun ρ2 H2 b p l rp rl=>k ρ2 H2 a b s p l rp rl (zD.weak h p l)
 | exc e s=>exact h
 | no=>exact h
theorem zD.here {a:α}{b:β} (h:zD K Θ Rl ρ H (.ok a S) Q) (rp:zV K Θ ρ S H) (rl:Rl ρ H a b):Q b H:=h ρ H b (List.prefix_refl _) (Le.refl _) rp rl
end
def RdE (K:PySem.W.Frag) (Θ:Tab) (m:M.EM):TE:=fun σ H Q=>∃ ρ σ' S,zw K ρ H σ' σ/\zV K Θ ρ S H/\zD K Θ (zN K) ρ H (m σ' S) Q
def RdT (K:PySem.W.Frag) (Θ:Tab) (m:M.TM):TT:=fun σ H Q=>∃ ρ σ' S,zw K ρ H σ' σ/\zV K Θ ρ S H/\zD K Θ rB ρ H (m σ' S) Q
def RdA (K:PySem.W.Frag) (Θ:Tab) (m:M.AM):TA:=fun σ H Q=>∃ ρ σ' S,zw K ρ H σ' σ/\zV K Θ ρ S H/\zD K Θ (zJ K) ρ H (m σ' S) Q
def RdO (K:PySem.W.Frag) (Θ:Tab) (m:M.OM):TO:=fun σ H Q=>∃ ρ σ' S,zw K ρ H σ' σ/\zV K Θ ρ S H/\zD K Θ rO ρ H (m σ' S) Q
abbrev ME (X:Cx) (Θ:Tab) (e:Expr) (m:M.EM):Prop:=PE X e (RdE X.K Θ m)
@[irreducible] def WE (X:Cx) (Θ:Tab) (e:Expr) (m:M.EM):Prop:=ME X Θ e m
abbrev MT (X:Cx) (Θ:Tab) (e:Expr) (m:M.TM):Prop:=PT X e (RdT X.K Θ m)
@[irreducible] def WT (X:Cx) (Θ:Tab) (e:Expr) (m:M.TM):Prop:=MT X Θ e m
abbrev MW (X:Cx) (Θ:Tab) (e:Expr) (m:M.TM):Prop:=PW X e (RdT X.K Θ m)
@[irreducible] def WW (X:Cx) (Θ:Tab) (e:Expr) (m:M.TM):Prop:=MW X Θ e m
abbrev MA (X:Cx) (Θ:Tab) (es:List Expr) (m:M.AM):Prop:=PA X es (RdA X.K Θ m)
@[irreducible] def WA (X:Cx) (Θ:Tab) (es:List Expr) (m:M.AM):Prop:=MA X Θ es m
abbrev MO (X:Cx) (Θ:Tab) (e:Option Expr) (m:M.OM):Prop:=PO X e (RdO X.K Θ m)
@[irreducible] def WO (X:Cx) (Θ:Tab) (e:Option Expr) (m:M.OM):Prop:=MO X Θ e m
theorem PE.imp {X:Cx}{e:Expr}{t t':TE} (h:PE X e t) (i:∀ σ H Q,t' σ H Q->t σ H Q):PE X e t':=fun pins s σ H Q I q=>h pins s σ H Q I (i σ H Q q)
theorem PT.imp {X:Cx}{e:Expr}{t t':TT} (h:PT X e t) (i:∀ σ H Q,t' σ H Q->t σ H Q):PT X e t':=fun pins s σ H Q I q=>h pins s σ H Q I (i σ H Q q)
theorem PW.imp {X:Cx}{e:Expr}{t t':TT} (h:PW X e t) (i:∀ σ H Q,t' σ H Q->t σ H Q):PW X e t':=fun wh pins s σ H Q I q=>h wh pins s σ H Q I (i σ H Q q)
theorem PA.imp {X:Cx}{es:List Expr}{t t':TA} (h:PA X es t) (i:∀ σ H Q,t' σ H Q->t σ H Q):PA X es t':=fun pos pins s σ H Q I q=>h pos pins s σ H Q I (i σ H Q q)
theorem PO.imp {X:Cx}{e:Option Expr}{t t':TO} (h:PO X e t) (i:∀ σ H Q,t' σ H Q->t σ H Q):PO X e t':=fun pins s σ H Q I q=>h pins s σ H Q I (i σ H Q q)
def jO:Expr->Bool
 | .Starred _ _=>false
 | _=>true
theorem qL {e:Expr}{es:List Expr}{env:Env} (h:jO e=true):starEach (e::es) env=(false,eval e env)::starEach es env:=by
 cases e<;>first | rfl | cases h
theorem JP {env:Env}{pos:Pos}:∀ {es:List Expr},es.all jO=true->(backTo pos (starEach es env)).any (·.1)=false
 | [],_=>rfl
 | e::es,h=>by
  rw[List.all_cons,Bool.and_eq_true] at h
  rw[qL h.1]
  show (false || (backTo pos (starEach es env)).any (·.1))=false
  rw[JP h.2];rfl
theorem zEI {env:Env}{pos:Pos}:∀ {es:List Expr},es.all jO=true->(backTo pos (starEach es env)).all (fun x=>!x.1)=true
 | [],_=>rfl
 | e::es,h=>by
  rw[List.all_cons,Bool.and_eq_true] at h
  rw[qL h.1]
  show (true && (backTo pos (starEach es env)).all (fun x=>!x.1))=true
  rw[zEI h.2];rfl
theorem zER {env:Env}{pos:Pos}{es:List Expr} (h:es.all jO=true) (hl:es.length < 30):((backTo pos (starEach es env)).all (fun x=>!x.1) && (backToKw pos (keywordEach [] env)).all (fun x=>x.1.isSome)
  && decide (es.length+([]:List Keyword).length+(if ([]:List Keyword).isEmpty then 0 else 1) < 30))=true:=by
 rw[zEI h,Bool.true_and,Bool.and_eq_true]
 exact⟨rfl,decide_eq_true (by simpa using hl)⟩
section
variable {X:Cx}{Θ:Tab}{a b c:Expr}{pos:Pos}{ma mb mc:M.EM}{ta tb:M.TM}{jt:List Expr}
theorem zMQ (i:Nat) {x:Str} (hN:X.N[i]? = some x:=by rfl) (hv:Vis X.env.scope x:=by first | exact Or.inl rfl | exact Or.inr (Or.inl rfl) | exact Or.inr (Or.inr rfl)) (hd:(x == ("__debug__" : Str))=false:=by decide)
  (hcd:(x == ("__classdict__" : Str))=false:=by decide):ME X Θ (.Name x pos) (M.zA i):=(zLT hN hv hd hcd).imp fun σ H Q ⟨ρ,σ',S,st,rp,h⟩=>by
 unfold M.zA at h
 split at h
 ·rename_i d e
  obtain⟨v,e1,r⟩:=st.get i d e
  exact⟨v,e1,h.here rp r⟩
 ·exact h.elim
theorem zEq (i:Nat) {x:Str} (hN:X.N[i]? = some x:=by rfl) (hv:Vis X.env.scope x:=by first | exact Or.inl rfl | exact Or.inr (Or.inl rfl) | exact Or.inr (Or.inr rfl)) (hd:(x == ("__debug__" : Str))=false:=by decide)
  (hcd:(x == ("__classdict__" : Str))=false:=by decide):WE X Θ (.Name x pos) (M.zA i):=by with_unfolding_all exact zMQ i (x:=x) hN hv hd hcd
theorem zDq {e:Expr}{v:V}{d:M.D} (h:PE X e (tC v)) (r:∀ ρ H,zN X.K ρ H d v):ME X Θ e (M.eC d):=h.imp fun σ H Q ⟨ρ,σ',S,st,rp,h⟩=>h.here rp (r ρ H)
theorem zK9 {i:Int}{j:Nat}:ME X Θ (.Constant (.int i) j pos) (M.eC (.int i)):=zDq zMW fun _ _=>rfl
theorem zF {i:Int}{j:Nat}:WE X Θ (.Constant (.int i) j pos) (M.eC (.int i)):=by with_unfolding_all exact zK9 (i:=i) (j:=j)
theorem zNA {k:Bool}{j:Nat}:ME X Θ (.Constant (.bool k) j pos) (M.eC (.bl k)):=zDq zM7 fun _ _=>rfl
theorem yj {k:Bool}{j:Nat}:WE X Θ (.Constant (.bool k) j pos) (M.eC (.bl k)):=by with_unfolding_all exact zNA (k:=k) (j:=j)
theorem zLI {y:M.T}{x:Str}{j:Nat} (h:x=ofT y) (ok:okT y):ME X Θ (.Constant (.str x) j pos) (M.eC (.str y)):=zDq zHc fun _ _=>by rw[h];exact⟨rfl,ok⟩
theorem zJO {y:M.T}{x:Str}{j:Nat} (h:x=ofT y) (ok:okT y):WE X Θ (.Constant (.str x) j pos) (M.eC (.str y)):=by with_unfolding_all exact zLI (y:=y) (x:=x) (j:=j) h ok
theorem zNM (n:M.Kd) {x:Str} (hg:Gl X x) (hm:X.mg x=none) (hv:bootBuiltins x=some (.type (qF n))) (hn:x ≠ "__name__" := by decide) (hd:(x == ("__debug__" : Str))=false:=by decide):ME X Θ (.Name x pos) (M.eC (.ty n)) :=
 zDq (zKE (v:=.ty (qF n)) hg hm hv rfl hn hd) fun _ _=>rfl
theorem zCj (n:M.Kd) {x:Str} (hg:Gl X x) (hm:X.mg x=none) (hv:bootBuiltins x=some (.type (qF n))) (hn:x ≠ "__name__" := by decide) (hd:(x == ("__debug__" : Str))=false:=by decide):WE X Θ (.Name x pos) (M.eC (.ty n)):=by with_unfolding_all exact zNM n (x:=x) hg hm hv hn hd
def Ad2 (K:PySem.W.Frag) (Θ:Tab) (f:M.D->M.D->M.S->M.R M.D) (r:R2):Prop:=∀ ρ H S x y X Y Q,zV K Θ ρ S H->zN K ρ H x X->zN K ρ H y Y->zD K Θ (zN K) ρ H (f x y S) Q->r X Y H Q
def AdC (K:PySem.W.Frag) (Θ:Tab) (f:M.CM) (r:R2):Prop:=∀ ρ H S x y X Y (Q:VK),zV K Θ ρ S H->zN K ρ H x X->zN K ρ H y Y->zD K Θ rB ρ H (f x y S) (fun b H'=>Q (.bl b) H')->r X Y H Q
def AdN (K:PySem.W.Frag) (Θ:Tab) (f:M.F) (r:List V->Hp->VK->Prop):Prop:=∀ ρ H S xs Xs Q,zV K Θ ρ S H->zJ K ρ H xs Xs->zD K Θ (zN K) ρ H (f xs S) Q->r Xs H Q
def AdM (K:PySem.W.Frag) (Θ:Tab) (f:M.D->M.F) (r:V->List V->Hp->VK->Prop):Prop :=
 ∀ ρ H S x xs X Xs Q,zV K Θ ρ S H->zN K ρ H x X->zJ K ρ H xs Xs->zD K Θ (zN K) ρ H (f x xs S) Q->r X Xs H Q
theorem zNW {op:Operator}{f:M.D->M.D->M.S->M.R M.D}{r:R2} (ho:OpR X (binaryOp op) r) (ad:Ad2 X.K Θ f r) (ha:ME X Θ a ma) (hb:ME X Θ b mb):ME X Θ (.BinOp a op b pos) (M.eOp f ma mb) :=
 (zNS ho ha hb).imp fun σ H Q ⟨ρ,σ',S,st,rp,h⟩=>⟨ρ,σ',S,st,rp,zD.bind h fun ρ1 H1 x X1 S1 p1 l1 rp1 rx h1=>⟨ρ1,σ',S1,st.mono p1 l1,rp1,
  zD.bind h1 fun ρ2 H2 y Y S2 p2 l2 rp2 ry h2=>ad ρ2 H2 S2 x y X1 Y Q rp2 (rx.mono p2 l2) ry h2⟩⟩
theorem zL {op:Operator}{f:M.D->M.D->M.S->M.R M.D}{r:R2} (ho:OpR X (binaryOp op) r) (ad:Ad2 X.K Θ f r) (ha:WE X Θ a ma) (hb:WE X Θ b mb):WE X Θ (.BinOp a op b pos) (M.eOp f ma mb):=by with_unfolding_all exact zNW (op:=op) (f:=f) (r:=r) ho ad ha hb
def zD8:Expr->Bool
 | .Slice _ _ _ _=>false
 | .Tuple _ _ _=>false
 | _=>true
theorem zJL {b:Expr} (h:zD8 b=true):zGA b:=fun o i=>by
 cases b<;>first | rfl | cases h
theorem zNT {f:M.D->M.D->M.S->M.R M.D}{r:R2} (ho:IxR X r) (ad:Ad2 X.K Θ f r) (ha:ME X Θ a ma) (hb:ME X Θ b mb) (hs:zD8 b=true:=by rfl):ME X Θ (.Subscript a b pos) (M.eOp f ma mb) :=
 (zNG ho ha hb (zJL hs)).imp fun σ H Q ⟨ρ,σ',S,st,rp,h⟩=>⟨ρ,σ',S,st,rp,zD.bind h fun ρ1 H1 x X1 S1 p1 l1 rp1 rx h1=>⟨ρ1,σ',S1,st.mono p1 l1,rp1,
  zD.bind h1 fun ρ2 H2 y Y S2 p2 l2 rp2 ry h2=>ad ρ2 H2 S2 x y X1 Y Q rp2 (rx.mono p2 l2) ry h2⟩⟩
theorem jz {f:M.D->M.D->M.S->M.R M.D}{r:R2} (ho:IxR X r) (ad:Ad2 X.K Θ f r) (ha:WE X Θ a ma) (hb:WE X Θ b mb) (hs:zD8 b=true:=by rfl):WE X Θ (.Subscript a b pos) (M.eOp f ma mb):=by with_unfolding_all exact zNT (f:=f) (r:=r) ho ad ha hb hs
theorem zMM {op:CmpOp}{f:M.CM}{r:R2} (ho:OpR X (compareOp op) r) (ad:AdC X.K Θ f r) (ha:ME X Θ a ma) (hb:ME X Θ b mb) (hm:behindInMarks op b=false):ME X Θ (.Compare a [op] [b] pos) (M.QA f ma mb) :=
 (zKl ho ha hb hm).imp fun σ H Q ⟨ρ,σ',S,st,rp,h⟩=>⟨ρ,σ',S,st,rp,zD.bind h fun ρ1 H1 x X1 S1 p1 l1 rp1 rx h1=>⟨ρ1,σ',S1,st.mono p1 l1,rp1,
  zD.bind h1 fun ρ2 H2 y Y S2 p2 l2 rp2 ry h2=>ad ρ2 H2 S2 x y X1 Y Q rp2 (rx.mono p2 l2) ry (zD.bind h2 fun ρ3 H3 k k' S3 p3 l3 rp3 e h3=>by cases e;exact h3.here rp3 rfl)⟩⟩
theorem Qn {op:CmpOp}{f:M.CM}{r:R2} (ho:OpR X (compareOp op) r) (ad:AdC X.K Θ f r) (ha:WE X Θ a ma) (hb:WE X Θ b mb) (hm:behindInMarks op b=false):WE X Θ (.Compare a [op] [b] pos) (M.QA f ma mb):=by with_unfolding_all exact zMM (op:=op) (f:=f) (r:=r) ho ad ha hb hm
theorem zLF {op:CmpOp}{f:M.CM}{r:R2} (ho:OpR X (compareOp op) r) (ad:AdC X.K Θ f r) (ha:ME X Θ a ma) (hb:ME X Θ b mb) (hm:behindInMarks op b=false):MT X Θ (.Compare a [op] [b] pos) (M.zr f ma mb) :=
 (zKN ho ha hb hm).imp fun σ H Q ⟨ρ,σ',S,st,rp,h⟩=>⟨ρ,σ',S,st,rp,zD.bind h fun ρ1 H1 x X1 S1 p1 l1 rp1 rx h1=>⟨ρ1,σ',S1,st.mono p1 l1,rp1,
  zD.bind h1 fun ρ2 H2 y Y S2 p2 l2 rp2 ry h2=>ad ρ2 H2 S2 x y X1 Y _ rp2 (rx.mono p2 l2) ry (by
   revert h2
   cases f x y S2 with
   | ok k s=>exact fun h2 ρ3 H3 k' p3 l3 rp3 e=>⟨k',rfl,h2 ρ3 H3 k' p3 l3 rp3 e⟩
   | exc e s=>exact fun h2=>h2
   | no=>exact fun h2=>h2)⟩⟩
theorem jd {op:CmpOp}{f:M.CM}{r:R2} (ho:OpR X (compareOp op) r) (ad:AdC X.K Θ f r) (ha:WE X Θ a ma) (hb:WE X Θ b mb) (hm:behindInMarks op b=false):WT X Θ (.Compare a [op] [b] pos) (M.zr f ma mb):=by with_unfolding_all exact zLF (op:=op) (f:=f) (r:=r) ho ad ha hb hm
theorem zGf (ha:MT X Θ a ta):MW X Θ (.BoolOp .And [a] pos) ta:=zKw ha
theorem JB (ha:WT X Θ a ta):WW X Θ (.BoolOp .And [a] pos) ta:=by with_unfolding_all exact zGf ha
theorem zIW (ha:MT X Θ a ta):MW X Θ (.BoolOp .Or [a] pos) ta:=zMp ha
theorem Jf (ha:WT X Θ a ta):WW X Θ (.BoolOp .Or [a] pos) ta:=by with_unfolding_all exact zIW ha
theorem zLj (ha:MT X Θ a ta) (hb:MW X Θ (.BoolOp .And (b::jt) pos) tb):MW X Θ (.BoolOp .And (a::b::jt) pos) (M.Q2 ta tb) :=
 (zMm ha hb).imp fun σ H Q ⟨ρ,σ',S,st,rp,h⟩=>⟨ρ,σ',S,st,rp,zD.bind h fun ρ1 H1 k k' S1 p1 l1 rp1 e h1=>by
  cases e
  cases k with
  | true=>exact zCu ⟨ρ1,σ',S1,st.mono p1 l1,rp1,h1⟩
  | false=>exact zCo (zD.here (b:=false) h1 rp1 rfl)⟩
theorem zBc (ha:WT X Θ a ta) (hb:WW X Θ (.BoolOp .And (b::jt) pos) tb):WW X Θ (.BoolOp .And (a::b::jt) pos) (M.Q2 ta tb):=by with_unfolding_all exact zLj ha hb
theorem zNC (ha:MT X Θ a ta) (hb:MW X Θ (.BoolOp .Or (b::jt) pos) tb):MW X Θ (.BoolOp .Or (a::b::jt) pos) (M.tOr ta tb) :=
 (zNc ha hb).imp fun σ H Q ⟨ρ,σ',S,st,rp,h⟩=>⟨ρ,σ',S,st,rp,zD.bind h fun ρ1 H1 k k' S1 p1 l1 rp1 e h1=>by
  cases e
  cases k with
  | true=>exact zCu (zD.here (b:=true) h1 rp1 rfl)
  | false=>exact zCo ⟨ρ1,σ',S1,st.mono p1 l1,rp1,h1⟩⟩
theorem zCv (ha:WT X Θ a ta) (hb:WW X Θ (.BoolOp .Or (b::jt) pos) tb):WW X Θ (.BoolOp .Or (a::b::jt) pos) (M.tOr ta tb):=by with_unfolding_all exact zNC ha hb
theorem zMt (ha:MT X Θ a ta):MT X Θ (.UnaryOp .Not a pos) (M.ZK ta):=(zMT ha).imp fun σ H Q ⟨ρ,σ',S,st,rp,h⟩=>⟨ρ,σ',S,st,rp,zD.bind h fun ρ1 H1 k k' S1 p1 l1 rp1 e h1=>by
 cases e;exact zD.here (b:=!k) h1 rp1 rfl⟩
theorem JG (ha:WT X Θ a ta):WT X Θ (.UnaryOp .Not a pos) (M.ZK ta):=by with_unfolding_all exact zMt ha
theorem zL9 {op} (ha:ME X Θ a ma):ME X Θ (.BoolOp op [a] pos) ma:=zL4 ha
theorem zBo {op} (ha:WE X Θ a ma):WE X Θ (.BoolOp op [a] pos) ma:=by with_unfolding_all exact zL9 (op:=op) ha
theorem zMH {K:PySem.W.Frag}{γ δ:Type}{Rk:List Addr->Hp->γ->δ->Prop}{ρ:List Addr}{H:Hp}{x:M.D}{v:V}{S:M.S}{f:Bool->M.S->M.R γ}{Q:δ->Hp->Prop} (r:zN K ρ H x v) (h:zD K Θ Rk ρ H ((M.asB x S).bind f) Q):∃ k,v=.bl k/\zD K Θ Rk ρ H (f k S) Q:=by
 cases x with
 | bl b=>cases r;exact⟨b,rfl,h⟩
 | _=>exact h.elim
theorem zLo (ha:ME X Θ a ma) (hb:ME X Θ (.BoolOp .And (b::jt) pos) mb):ME X Θ (.BoolOp .And (a::b::jt) pos) (M.zA0 ma mb) :=
 (zLy ha hb).imp fun σ H Q ⟨ρ,σ',S,st,rp,h⟩=>⟨ρ,σ',S,st,rp,zD.bind h fun ρ1 H1 x X1 S1 p1 l1 rp1 rx h1=>by
  obtain⟨k,e,h2⟩:=zMH rx h1
  refine⟨k,e,?_⟩
  cases k with
  | true=>exact zCu ⟨ρ1,σ',S1,st.mono p1 l1,rp1,h2⟩
  | false=>exact zCo (zD.here (b:=V.bl false) h2 rp1 rfl)⟩
theorem zBX (ha:WE X Θ a ma) (hb:WE X Θ (.BoolOp .And (b::jt) pos) mb):WE X Θ (.BoolOp .And (a::b::jt) pos) (M.zA0 ma mb):=by with_unfolding_all exact zLo ha hb
theorem zIH:MA X Θ [] M.zG:=zEA.imp fun σ H Q ⟨ρ,σ',S,st,rp,h⟩=>zD.here (b:=[]) h rp rfl
theorem zI:WA X Θ [] M.zG:=by with_unfolding_all exact zIH
theorem zGO {e:Expr}{es:List Expr}{r:M.AM} (ha:ME X Θ e ma) (hr:MA X Θ es r) (hs:jO e=true:=by rfl):MA X Θ (e::es) (M.zB ma r) :=
 (zCb ha hr (qL hs)).imp fun σ H Q ⟨ρ,σ',S,st,rp,h⟩=>⟨ρ,σ',S,st,rp,zD.bind h fun ρ1 H1 x X1 S1 p1 l1 rp1 rx h1=>⟨ρ1,σ',S1,st.mono p1 l1,rp1,
  zD.bind h1 fun ρ2 H2 ys Ys S2 p2 l2 rp2 ry h2=>h2.here rp2 ⟨X1,Ys,rfl,rx.mono p2 l2,ry⟩⟩⟩
theorem zC {e:Expr}{es:List Expr}{r:M.AM} (ha:WE X Θ e ma) (hr:WA X Θ es r) (hs:jO e=true:=by rfl):WA X Θ (e::es) (M.zB ma r):=by with_unfolding_all exact zGO (e:=e) (es:=es) (r:=r) ha hr hs
theorem zLd {es:List Expr}{r:M.AM}{x1} (hr:MA X Θ es r):ME X Θ (.Tuple es x1 pos) (M.zD5 r):=(zL0 hr).imp fun σ H Q ⟨ρ,σ',S,st,rp,h⟩=>⟨ρ,σ',S,st,rp,zD.bind h fun ρ1 H1 xs Xs S1 p1 l1 rp1 rx h1=>by
 by_cases hl:xs.length <= M.SZ
 ·rw[if_pos hl] at h1
  rw[Zr,rx.length] at hl
  exact⟨hl,fun p hp=>h1 ρ1 _ _ (List.prefix_refl _) (Le.new hp _) (rp1.aside hp _) ⟨p,Xs,rfl,SqT.of z9,rx.mono (List.prefix_refl _) (Le.new hp _)⟩⟩
 ·rw[if_neg hl] at h1
  exact h1.elim⟩
theorem zJN {es:List Expr}{r:M.AM}{x1} (hr:WA X Θ es r):WE X Θ (.Tuple es x1 pos) (M.zD5 r):=by with_unfolding_all exact zLd (es:=es) (r:=r) (x1:=x1) hr
theorem zD.alloc {K:PySem.W.Frag}{ρ:List Addr}{H:Hp}{S:M.S}{ds:List M.D}{xs:List V}{Q:VK} (h:zD K Θ (zN K) ρ H (M.alloc (.lst ds) S) Q) (rp:zV K Θ ρ S H) (r:zJ K ρ H ds xs) {p:Addr} (hp:H p=none):Q (.ref p) (upd H p (.lst xs)) :=
 h (ρ++[p]) _ _ (List.prefix_append _ _) (Le.new hp _) (rp.alloc hp ⟨xs,z9,r.mono (List.prefix_append _ _) (Le.new hp _)⟩) ⟨p,rfl,by rw[<- rp.len];simp⟩
theorem zLz {es:List Expr}{r:M.AM} (hr:MA X Θ es r):ME X Θ (.List es pos) (M.Zf r):=(zLD hr).imp fun σ H Q ⟨ρ,σ',S,st,rp,h⟩=>⟨ρ,σ',S,st,rp,zD.bind h fun ρ1 H1 xs Xs S1 p1 l1 rp1 rx h1=>by
 by_cases hl:xs.length <= M.SZ
 ·rw[if_pos hl] at h1
  rw[Zr,rx.length] at hl
  exact⟨hl,fun p hp=>h1.alloc rp1 rx hp⟩
 ·rw[if_neg hl] at h1
  exact h1.elim⟩
theorem yw {es:List Expr}{r:M.AM} (hr:WA X Θ es r):WE X Θ (.List es pos) (M.Zf r):=by with_unfolding_all exact zLz (es:=es) (r:=r) hr
theorem zKZ:MO X Θ none M.Q3:=zKc.imp fun σ H Q ⟨ρ,σ',S,st,rp,h⟩=>zD.here (b:=none) h rp rfl
theorem Qv:WO X Θ none M.Q3:=by with_unfolding_all exact zKZ
theorem zKm (ha:ME X Θ a ma):MO X Θ (some a) (M.ya ma):=(zKa ha).imp fun σ H Q ⟨ρ,σ',S,st,rp,h⟩=>⟨ρ,σ',S,st,rp,zD.bind h fun ρ1 H1 x X1 S1 p1 l1 rp1 rx h1=>by
 cases x with
 | int i=>cases rx;exact⟨i,rfl,zD.here (b:=some i) h1 rp1 rfl⟩
 | _=>exact h1.elim⟩
theorem yQ (ha:WE X Θ a ma):WO X Θ (some a) (M.ya ma):=by with_unfolding_all exact zKm ha
theorem zM9 {lo hi:Option Expr}{p2:Pos}{ml mh:M.OM}{r:V->Option Int->Option Int->Hp->VK->Prop} (hr:SlR X r) (ad:∀ ρ H S x X1 l u Q,zV X.K Θ ρ S H->zN X.K ρ H x X1->zD X.K Θ (zN X.K) ρ H (M.slD x l u S) Q->r X1 l u H Q) (ha:ME X Θ a ma) (hl:MO X Θ lo ml) (hh:MO X Θ hi mh) :
  ME X Θ (.Subscript a (.Slice lo hi none p2) pos) (M.eSl ma ml mh):=(zJd hr ha hl hh).imp fun σ H Q ⟨ρ,σ',S,st,rp,h⟩=>⟨ρ,σ',S,st,rp,zD.bind h fun ρ1 H1 x X1 S1 p1 l1 rp1 rx h1=>⟨ρ1,σ',S1,st.mono p1 l1,rp1,
  zD.bind h1 fun ρ2 H2 l l' S2 p2 l2 rp2 e2 h2=>by
   cases e2
   exact⟨ρ2,σ',S2,st.mono (p1.trans p2) (l1.trans l2),rp2,zD.bind h2 fun ρ3 H3 u u' S3 p3 l3 rp3 e3 h3=>by
    cases e3
    exact ad ρ3 H3 S3 x X1 l u Q rp3 (rx.mono (p2.trans p3) (l2.trans l3)) h3⟩⟩⟩
theorem Qg {lo hi:Option Expr}{p2:Pos}{ml mh:M.OM}{r:V->Option Int->Option Int->Hp->VK->Prop} (hr:SlR X r) (ad:∀ ρ H S x X1 l u Q,zV X.K Θ ρ S H->zN X.K ρ H x X1->zD X.K Θ (zN X.K) ρ H (M.slD x l u S) Q->r X1 l u H Q) (ha:WE X Θ a ma) (hl:WO X Θ lo ml) (hh:WO X Θ hi mh) :
  WE X Θ (.Subscript a (.Slice lo hi none p2) pos) (M.eSl ma ml mh):=by with_unfolding_all exact zM9 (lo:=lo) (hi:=hi) (p2:=p2) (ml:=ml) (mh:=mh) (r:=r) hr ad ha hl hh
theorem zIh {x:Str}{p:Pos}{id:String}{e:Expr}{es:List Expr}{f:M.F}{r:List V->Hp->VK->Prop}{m:M.AM} (hc:jp X (.builtin id) r) (ad:AdN X.K Θ f r) (hg:Gl X x) (hm:X.mg x=none) (hv:bootBuiltins x=some (.builtin id)) (ha:MA X Θ (e::es) m)
  (hn:x ≠ "__name__" := by decide) (hdb:(x == ("__debug__" : Str))=false:=by decide) (he:jO e=true:=by rfl) (hpl:es.all jO=true:=by rfl) :
  ME X Θ (.Call (.Name x p) (e::es) [] pos) (M.zH f m):=(zEv hc hg hm hv ha hn hdb (qL he) (JP hpl)).imp fun σ H Q ⟨ρ,σ',S,st,rp,h⟩=>⟨ρ,σ',S,st,rp,zD.bind h fun ρ1 H1 xs Xs S1 p1 l1 rp1 rx h1=>ad ρ1 H1 S1 xs Xs Q rp1 rx h1⟩
theorem z7 {x:Str}{p:Pos}{id:String}{e:Expr}{es:List Expr}{f:M.F}{r:List V->Hp->VK->Prop}{m:M.AM} (hc:jp X (.builtin id) r) (ad:AdN X.K Θ f r) (hg:Gl X x) (hm:X.mg x=none) (hv:bootBuiltins x=some (.builtin id)) (ha:WA X Θ (e::es) m)
  (hn:x ≠ "__name__" := by decide) (hdb:(x == ("__debug__" : Str))=false:=by decide) (he:jO e=true:=by rfl) (hpl:es.all jO=true:=by rfl) :
  WE X Θ (.Call (.Name x p) (e::es) [] pos) (M.zH f m):=by with_unfolding_all exact zIh (x:=x) (p:=p) (id:=id) (e:=e) (es:=es) (f:=f) (r:=r) (m:=m) hc ad hg hm hv ha hn hdb he hpl
theorem zIZ {x:Str}{p:Pos}{T:String}{e:Expr}{es:List Expr}{f:M.F}{r:List V->Hp->VK->Prop}{m:M.AM} (hc:jp X (.type T) r) (ad:AdN X.K Θ f r) (hg:Gl X x) (hm:X.mg x=none) (hv:bootBuiltins x=some (.type T)) (ha:MA X Θ (e::es) m)
  (hn:x ≠ "__name__" := by decide) (hdb:(x == ("__debug__" : Str))=false:=by decide) (he:jO e=true:=by rfl) (hpl:es.all jO=true:=by rfl) :
  ME X Θ (.Call (.Name x p) (e::es) [] pos) (M.zH f m):=(zHr hc hg hm hv ha hn hdb (qL he) (JP hpl)).imp fun σ H Q ⟨ρ,σ',S,st,rp,h⟩=>⟨ρ,σ',S,st,rp,zD.bind h fun ρ1 H1 xs Xs S1 p1 l1 rp1 rx h1=>ad ρ1 H1 S1 xs Xs Q rp1 rx h1⟩
theorem qu {x:Str}{p:Pos}{T:String}{e:Expr}{es:List Expr}{f:M.F}{r:List V->Hp->VK->Prop}{m:M.AM} (hc:jp X (.type T) r) (ad:AdN X.K Θ f r) (hg:Gl X x) (hm:X.mg x=none) (hv:bootBuiltins x=some (.type T)) (ha:WA X Θ (e::es) m)
  (hn:x ≠ "__name__" := by decide) (hdb:(x == ("__debug__" : Str))=false:=by decide) (he:jO e=true:=by rfl) (hpl:es.all jO=true:=by rfl) :
  WE X Θ (.Call (.Name x p) (e::es) [] pos) (M.zH f m):=by with_unfolding_all exact zIZ (x:=x) (p:=p) (T:=T) (e:=e) (es:=es) (f:=f) (r:=r) (m:=m) hc ad hg hm hv ha hn hdb he hpl
theorem zGR {K:PySem.W.Frag}{ρ:List Addr}{H:Hp}{S:M.S}{k:M.Kd}{x:M.D}{v:V} (rp:zV K Θ ρ S H) (r:zN K ρ H x v) (h:M.Zz k x S=true):tyV K (qF k) v H:=by
 cases x with
 | str z=>obtain⟨rfl,_⟩:=r;cases k<;>first | rfl | cases h
 | ro ds =>
  obtain⟨a,xs,rfl,q,_⟩:=r
  cases k<;>first | exact .inl ⟨rfl,xs,q.sq⟩ | cases h
 | ref i =>
  obtain⟨a,rfl,e⟩:=r
  cases q:S[i]? with
  | none=>simp[M.Zz,q] at h
  | some o =>
   cases o with
   | lst xs =>
    obtain⟨b,e1,zs,e2,_⟩:=rp.obj _ _ q
    rw[e] at e1;cases e1
    cases k<;>first | exact .inl ⟨rfl,zs,SqL.of e2⟩ | simp[M.Zz,q] at h
   | dct xs =>
    obtain⟨b,e1,zs,e2,_⟩:=rp.obj _ _ q
    rw[e] at e1;cases e1
    cases k<;>first | exact .inr (.inr (.inl ⟨rfl,.inl ⟨zs,e2⟩⟩)) | simp[M.Zz,q] at h
   | fdc _=>simp[M.Zz,q] at h
   | ins c fs=>simp[M.Zz,q] at h
 | _=>cases h
theorem zNx {k:M.Kd}{T:String}{f:M.D->M.F}{r:V->List V->Hp->VK->Prop}{o e:Expr}{es:List Expr}{mo:M.EM}{m:M.AM}{name:Str}{apos cpos:Pos}{id:String} (pa:PlainAttrs T) (slot:Slot T name id) (hty:typeOf (.builtin id)=pure (.type "method_descriptor")) (hm:MtR X id r) (ad:AdM X.K Θ f r) (hT:T=qF k) (ho:ME X Θ o mo) (ha:MA X Θ (e::es) m)
  (hbase:attributeBase o name X.env (eval o X.env)=eval o X.env:=by rfl)
  (hfew:(e::es).length < 30:=by exact Nat.le_of_ble_eq_true rfl) (hline:(apos.endLine == cpos.line)=true:=by rfl) (hs:jO e=true:=by rfl) (hplain:es.all jO=true:=by rfl) :
  ME X Θ (.Call (.Attribute o name apos) (e::es) [] cpos) (M.eM k f mo m):=(zJu pa slot hty hm ho ha hbase (zER (by rw[List.all_cons,hs,hplain];rfl) hfew) hline (qL hs) (JP hplain)).imp fun σ H Q ⟨ρ,σ',S,st,rp,h⟩=>⟨ρ,σ',S,st,rp,zD.bind h fun ρ1 H1 x X1 S1 p1 l1 rp1 rx h1=>by
 cases ht:M.Zz k x S1 with
 | false=>rw[ht] at h1;exact h1.elim
 | true =>
  rw[ht] at h1
  exact⟨hT ▸ zGR rp1 rx ht,ρ1,σ',S1,st.mono p1 l1,rp1,zD.bind h1 fun ρ2 H2 xs Xs S2 p2 l2 rp2 rxs h2=>ad ρ2 H2 S2 x xs X1 Xs Q rp2 (rx.mono p2 l2) rxs h2⟩⟩
theorem Jz {k:M.Kd}{T:String}{f:M.D->M.F}{r:V->List V->Hp->VK->Prop}{o e:Expr}{es:List Expr}{mo:M.EM}{m:M.AM}{name:Str}{apos cpos:Pos}{id:String} (pa:PlainAttrs T) (slot:Slot T name id) (hty:typeOf (.builtin id)=pure (.type "method_descriptor")) (hm:MtR X id r) (ad:AdM X.K Θ f r) (hT:T=qF k) (ho:WE X Θ o mo) (ha:WA X Θ (e::es) m)
  (hbase:attributeBase o name X.env (eval o X.env)=eval o X.env:=by rfl)
  (hfew:(e::es).length < 30:=by exact Nat.le_of_ble_eq_true rfl) (hline:(apos.endLine == cpos.line)=true:=by rfl) (hs:jO e=true:=by rfl) (hplain:es.all jO=true:=by rfl) :
  WE X Θ (.Call (.Attribute o name apos) (e::es) [] cpos) (M.eM k f mo m):=by with_unfolding_all exact zNx (k:=k) (T:=T) (f:=f) (r:=r) (o:=o) (e:=e) (es:=es) (mo:=mo) (m:=m) (name:=name) (apos:=apos) (cpos:=cpos) (id:=id) pa slot hty hm ad hT ho ha hbase hfew hline hs hplain
theorem zNZ {k:M.Kd}{T:String}{f:M.D->M.F}{r:V->List V->Hp->VK->Prop}{o:Expr}{mo:M.EM}{name:Str}{apos cpos:Pos}{id:String} (pa:PlainAttrs T) (slot:Slot T name id) (hty:typeOf (.builtin id)=pure (.type "method_descriptor")) (hm:MtR X id r) (ad:AdM X.K Θ f r) (hT:T=qF k) (ho:ME X Θ o mo)
  (hbase:attributeBase o name X.env (eval o X.env)=eval o X.env:=by rfl) (hline:(apos.endLine == cpos.line)=true:=by rfl) :
  ME X Θ (.Call (.Attribute o name apos) [] [] cpos) (M.eM k f mo M.zG):=(zLW pa slot hty hm ho hbase hline).imp fun σ H Q ⟨ρ,σ',S,st,rp,h⟩=>⟨ρ,σ',S,st,rp,zD.bind h fun ρ1 H1 x X1 S1 p1 l1 rp1 rx h1=>by
 cases ht:M.Zz k x S1 with
 | false=>rw[ht] at h1;exact h1.elim
 | true =>
  rw[ht] at h1
  exact⟨hT ▸ zGR rp1 rx ht,ad ρ1 H1 S1 x [] X1 [] Q rp1 rx rfl h1⟩⟩
theorem zKt {k:M.Kd}{T:String}{f:M.D->M.F}{r:V->List V->Hp->VK->Prop}{o:Expr}{mo:M.EM}{name:Str}{apos cpos:Pos}{id:String} (pa:PlainAttrs T) (slot:Slot T name id) (hty:typeOf (.builtin id)=pure (.type "method_descriptor")) (hm:MtR X id r) (ad:AdM X.K Θ f r) (hT:T=qF k) (ho:WE X Θ o mo)
  (hbase:attributeBase o name X.env (eval o X.env)=eval o X.env:=by rfl) (hline:(apos.endLine == cpos.line)=true:=by rfl) :
  WE X Θ (.Call (.Attribute o name apos) [] [] cpos) (M.eM k f mo M.zG):=by with_unfolding_all exact zNZ (k:=k) (T:=T) (f:=f) (r:=r) (o:=o) (mo:=mo) (name:=name) (apos:=apos) (cpos:=cpos) (id:=id) pa slot hty hm ad hT ho hbase hline
end
end L2
namespace L2
open PySem PySem.Spec PyProof.Rows
def zl (K:PySem.W.Frag) (Θ:Tab) (ρ:List Addr) (H:Hp):M.RS->Qm->Prop
 | .nx σ1 S1,D=>∀ ρ' H' σ,ρ <+: ρ'->Le H H'->zV K Θ ρ' S1 H'->zw K ρ' H' σ1 σ->D.nx σ H'
 | .rt d S1,D=>∀ ρ' H' v,ρ <+: ρ'->Le H H'->zV K Θ ρ' S1 H'->zN K ρ' H' d v->D.rt v H'
 | .bk σ1 S1,D=>∀ ρ' H' σ,ρ <+: ρ'->Le H H'->zV K Θ ρ' S1 H'->zw K ρ' H' σ1 σ->D.bk σ H'
 | .ct σ1 S1,D=>∀ ρ' H' σ,ρ <+: ρ'->Le H H'->zV K Θ ρ' S1 H'->zw K ρ' H' σ1 σ->D.ct σ H'
 | .exc _ _ _,_=>False
 | .no,_=>False
def RdS (K:PySem.W.Frag) (Θ:Tab) (m:M.SM):TS:=fun D σ H=>∃ ρ σ' S,zw K ρ H σ' σ/\zV K Θ ρ S H/\zl K Θ ρ H (m σ' S) D
abbrev MS (X:Cx) (Θ:Tab) (st:Stmt) (m:M.SM):Prop:=PS X st (RdS X.K Θ m)
@[irreducible] def WS (X:Cx) (Θ:Tab) (st:Stmt) (m:M.SM):Prop:=MS X Θ st m
abbrev MSs (X:Cx) (Θ:Tab) (st:List Stmt) (m:M.SM):Prop:=PSs X st (RdS X.K Θ m)
@[irreducible] def WSs (X:Cx) (Θ:Tab) (st:List Stmt) (m:M.SM):Prop:=MSs X Θ st m
theorem PS.imp {X:Cx}{e:Stmt}{t t':TS} (h:PS X e t) (i:∀ D σ H,t' D σ H->t D σ H):PS X e t':=fun pins s σ H D I q=>h pins s σ H D I (i D σ H q)
theorem PSs.imp {X:Cx}{e:List Stmt}{t t':TS} (h:PSs X e t) (i:∀ D σ H,t' D σ H->t D σ H):PSs X e t':=fun pins s σ H D I q=>h pins s σ H D I (i D σ H q)
section
variable {K:PySem.W.Frag}{Θ:Tab}{ρ ρ':List Addr}{H H':Hp}{S:M.S}{α β:Type}{Rl:List Addr->Hp->α->β->Prop}{Q:β->Hp->Prop}{D D':Qm}
theorem zl.weak {r:M.RS} (h:zl K Θ ρ H r D) (hρ:ρ <+: ρ') (le:Le H H'):zl K Θ ρ' H' r D:=by
 cases r with
 | nx a s=>exact fun ρ2 H2 b p l=>h ρ2 H2 b (hρ.trans p) (le.trans l)
 | rt a s=>exact fun ρ2 H2 b p l=>h ρ2 H2 b (hρ.trans p) (le.trans l)
 | bk a s=>exact fun ρ2 H2 b p l=>h ρ2 H2 b (hρ.trans p) (le.trans l)
 | ct a s=>exact fun ρ2 H2 b p l=>h ρ2 H2 b (hρ.trans p) (le.trans l)
 | exc e a s=>exact h
 | no=>exact h
theorem zl.stm {r:M.R α}{σ:M.St}{f:α->M.S->M.RS} (h:zl K Θ ρ H (r.stm σ f) D)
  (k:∀ ρ' H' a b S',ρ <+: ρ'->Le H H'->zV K Θ ρ' S' H'->Rl ρ' H' a b->zl K Θ ρ' H' (f a S') D->Q b H'):zD K Θ Rl ρ H r Q:=by
 cases r with
 | ok a s=>exact fun ρ2 H2 b p l rp rl=>k ρ2 H2 a b s p l rp rl (zl.weak h p l)
 | exc e s=>exact h
 | no=>exact h
theorem zl.nx {σ1:M.St}{σ:St} (h:zl K Θ ρ H (.nx σ1 S) D) (rp:zV K Θ ρ S H) (st:zw K ρ H σ1 σ):D.nx σ H:=h ρ H σ (List.prefix_refl _) (Le.refl _) rp st
theorem zl.rt {d:M.D}{v:V} (h:zl K Θ ρ H (.rt d S) D) (rp:zV K Θ ρ S H) (r:zN K ρ H d v):D.rt v H:=h ρ H v (List.prefix_refl _) (Le.refl _) rp r
end
section
variable {X:Cx}{Θ:Tab}{e:Expr}{pos:Pos}{m:M.EM}{st:Stmt}{jt:List Stmt}{ms mr:M.SM}
theorem zJ6:MSs X Θ [] M.je:=zKk.imp fun D σ H ⟨ρ,σ',S,st,rp,h⟩=>h.nx rp st
theorem jl:WSs X Θ [] M.je:=by with_unfolding_all exact zJ6
theorem zKL (h:MS X Θ st ms):MSs X Θ [st] ms:=zKe h
theorem zP (h:WS X Θ st ms):WSs X Θ [st] ms:=by with_unfolding_all exact zKL h
theorem zIl (h1:MS X Θ st ms) (h2:MSs X Θ jt mr):MSs X Θ (st::jt) (M.zK ms mr):=(zJk h1 h2).imp fun D σ H ⟨ρ,σ',S,st,rp,h⟩=>⟨ρ,σ',S,st,rp,by
 have h':zl X.K Θ ρ H ((ms σ' S).then mr) D:=h
 revert h'
 cases ms σ' S with
 | nx a s=>exact fun h' ρ2 H2 σ2 p l rp2 st2=>⟨ρ2,a,s,st2,rp2,zl.weak h' p l⟩
 | rt a s=>exact fun h'=>h'
 | bk a s=>exact fun h'=>h'
 | ct a s=>exact fun h'=>h'
 | exc e a s=>exact fun h'=>h'
 | no=>exact fun h'=>h'⟩
theorem zE (h1:WS X Θ st ms) (h2:WSs X Θ jt mr):WSs X Θ (st::jt) (M.zK ms mr):=by with_unfolding_all exact zIl h1 h2
theorem zKT (he:ME X Θ e m) (hs:swapsWith e none pos.line X.env=pure false:=by rfl):MS X Θ (.Expr e pos) (M.ZG m):=(zKG he hs).imp fun D σ H ⟨ρ,σ',S,st,rp,h⟩=>⟨ρ,σ',S,st,rp,zl.stm h fun ρ1 H1 x X1 S1 p1 l1 rp1 rx h1=>h1.nx rp1 (st.mono p1 l1)⟩
theorem JX (he:WE X Θ e m) (hs:swapsWith e none pos.line X.env=pure false:=by rfl):WS X Θ (.Expr e pos) (M.ZG m):=by with_unfolding_all exact zKT he hs
theorem zMr (he:ME X Θ e m):MS X Θ (.Return (some e) pos) (M.jq m):=(zMD he).imp fun D σ H ⟨ρ,σ',S,st,rp,h⟩=>⟨ρ,σ',S,st,rp,zl.stm h fun ρ1 H1 x X1 S1 p1 l1 rp1 rx h1=>h1.rt rp1 rx⟩
theorem jH (he:WE X Θ e m):WS X Θ (.Return (some e) pos) (M.jq m):=by with_unfolding_all exact zMr he
theorem zLa {i:Nat}{x:Str}{pos':Pos} (hN:X.N.Nodup) (hi:X.N[i]? = some x) (hx:Loc X.env.scope x) (he:ME X Θ e m) (hs:swapsWith e (some (.Name x pos')) pos.line X.env=pure false:=by kernel_rfl) (hf:X.fn x=true\/X.env.scope.names.lookup x=some .local:=by first | exact .inl rfl | exact .inr rfl | assumption) :
  MS X Θ (.Assign [.Name x pos'] e pos) (M.zS i m):=(zM0 hN hi hx he hs hf).imp fun D σ H ⟨ρ,σ',S,st,rp,h⟩=>⟨ρ,σ',S,st,rp,zl.stm h fun ρ1 H1 x X1 S1 p1 l1 rp1 rx h1=>h1.nx rp1 ((st.mono p1 l1).set rx i)⟩
theorem zU {i:Nat}{x:Str}{pos':Pos} (hN:X.N.Nodup) (hi:X.N[i]? = some x) (hx:Loc X.env.scope x) (he:WE X Θ e m) (hs:swapsWith e (some (.Name x pos')) pos.line X.env=pure false:=by kernel_rfl) (hf:X.fn x=true\/X.env.scope.names.lookup x=some .local:=by first | exact .inl rfl | exact .inr rfl | assumption) :
  WS X Θ (.Assign [.Name x pos'] e pos) (M.zS i m):=by with_unfolding_all exact zLa (i:=i) (x:=x) (pos':=pos') hN hi hx he hs hf
theorem zNY {c:Expr}{a b:List Stmt}{tc:M.TM}{ma mb:M.SM} (hc:MT X Θ c tc) (ha:MSs X Θ a ma) (hb:MSs X Θ b mb):MS X Θ (.If c a b pos) (M.sIf tc ma mb):=(zNF hc ha hb).imp fun D σ H ⟨ρ,σ',S,st,rp,h⟩=>⟨ρ,σ',S,st,rp,zl.stm h fun ρ1 H1 k k' S1 p1 l1 rp1 ek h1=>by
 cases ek
 cases k with
 | true=>exact zCu ⟨ρ1,σ',S1,st.mono p1 l1,rp1,h1⟩
 | false=>exact zCo ⟨ρ1,σ',S1,st.mono p1 l1,rp1,h1⟩⟩
theorem j8 {c:Expr}{a b:List Stmt}{tc:M.TM}{ma mb:M.SM} (hc:WT X Θ c tc) (ha:WSs X Θ a ma) (hb:WSs X Θ b mb):WS X Θ (.If c a b pos) (M.sIf tc ma mb):=by with_unfolding_all exact zNY (c:=c) (a:=a) (b:=b) (tc:=tc) (ma:=ma) (mb:=mb) hc ha hb
end
def RdG (K:PySem.W.Frag) (Θ:Tab) (js:List Nat) (g:M.GM):TG:=fun v σ H Q=>∃ ρ σ' S d,zw K ρ H σ' σ/\zV K Θ ρ S H/\zN K ρ H d v/\∃ σ1,g d σ'=some σ1 /\
 ∀ H' σ2,Le H H'->zV K Θ ρ S H'->zw K ρ H' σ1 σ2->σ2.length=σ.length->(∀ j,j∉js->σ2[j]? = σ[j]?)->Q σ2 H'
abbrev MG (X:Cx) (Θ:Tab) (js:List Nat) (tg:Expr) (g:M.GM):Prop:=PG X tg (RdG X.K Θ js g)
@[irreducible] def WG (X:Cx) (Θ:Tab) (js:List Nat) (tg:Expr) (g:M.GM):Prop:=MG X Θ js tg g
theorem PG.imp {X:Cx}{e:Expr}{t t':TG} (h:PG X e t) (i:∀ v σ H Q,t' v σ H Q->t v σ H Q):PG X e t':=fun pins s σ H v u Q I r q=>h pins s σ H v u Q I r (i v σ H Q q)
theorem zKP {X:Cx}{Θ:Tab}{pos:Pos}{i:Nat}{x:Str} (hN:X.N.Nodup) (hi:X.N[i]? = some x) (hx:Loc X.env.scope x) (hf:X.fn x=true\/X.env.scope.names.lookup x=some .local:=by first | exact .inl rfl | exact .inr rfl | assumption) :
  MG X Θ [i] (.Name x pos) (M.zX i):=(zJ2 hN hi hx hf).imp fun v σ H Q ⟨ρ,σ',S,d,st,rp,rv,σ1,e,h⟩=>by
 cases e
 exact h H _ (Le.refl _) rp (st.set rv i) (by rw[List.length_set]) fun j hj=>List.getElem?_set_ne (fun z=>hj (by rw[z];simp))
theorem jE {X:Cx}{Θ:Tab}{pos:Pos}{i:Nat}{x:Str} (hN:X.N.Nodup) (hi:X.N[i]? = some x) (hx:Loc X.env.scope x) (hf:X.fn x=true\/X.env.scope.names.lookup x=some .local:=by first | exact .inl rfl | exact .inr rfl | assumption) :
  WG X Θ [i] (.Name x pos) (M.zX i):=by with_unfolding_all exact zKP (X:=X) (Θ:=Θ) (pos:=pos) (i:=i) (x:=x) hN hi hx hf
def zMv (K:PySem.W.Frag) (Θ:Tab) (js:List Nat) (g:M.GMs):TGs:=fun vs σ H Q=>∃ ρ σ' S ds,zw K ρ H σ' σ/\zV K Θ ρ S H/\zJ K ρ H ds vs/\∃ σ1,g ds σ'=some σ1 /\
 ∀ H' σ2,Le H H'->zV K Θ ρ S H'->zw K ρ H' σ1 σ2->σ2.length=σ.length->(∀ j,j∉js->σ2[j]? = σ[j]?)->Q σ2 H'
abbrev MGs (X:Cx) (Θ:Tab) (js:List Nat) (ts:List Expr) (g:M.GMs):Prop:=PGs X ts (zMv X.K Θ js g)
@[irreducible] def WGs (X:Cx) (Θ:Tab) (js:List Nat) (ts:List Expr) (g:M.GMs):Prop:=MGs X Θ js ts g
theorem PGs.imp {X:Cx}{e:List Expr}{t t':TGs} (h:PGs X e t) (i:∀ v σ H Q,t' v σ H Q->t v σ H Q):PGs X e t':=fun pins s σ H v u Q I r q=>h pins s σ H v u Q I r (i v σ H Q q)
theorem zK7 {X:Cx}{Θ:Tab}:MGs X Θ [] [] M.Jj:=zJ0.imp fun vs σ H Q ⟨ρ,σ',S,ds,st,rp,rv,σ1,e,h⟩=>by
 cases ds with
 | nil=>cases rv;cases e;exact⟨rfl,h H σ (Le.refl _) rp st rfl fun _ _=>rfl⟩
 | cons d ds=>cases e
theorem zDK {X:Cx}{Θ:Tab}:WGs X Θ [] [] M.Jj:=by with_unfolding_all exact zK7 (X:=X) (Θ:=Θ)
theorem zIv {X:Cx}{Θ:Tab}{e:Expr}{es:List Expr}{g:M.GM}{gs:M.GMs}{js ks:List Nat} (h1:MG X Θ js e g) (h2:MGs X Θ ks es gs) (hp:∀ {t:TG}{u:TGs},PG X e t->PGs X es u->PGs X (e::es) (yC t u)):MGs X Θ (js++ks) (e::es) (M.yC g gs) :=
 (hp h1 h2).imp fun vs σ H Q ⟨ρ,σ',S,ds,st,rp,rv,σ1,eq,h⟩=>by
  cases ds with
  | nil=>cases eq
  | cons d ds =>
   obtain⟨y,ys,rfl,r1,r2⟩:=rv
   have eq':(match g d σ' with | some σ'=>gs ds σ' | none=>none)=some σ1:=eq
   cases q:g d σ' with
   | none=>rw[q] at eq';cases eq'
   | some σm =>
    rw[q] at eq'
    refine⟨y,ys,rfl,ρ,σ',S,d,st,rp,r1,σm,q,fun H' σ2 le rp2 st2 hl hj=>⟨ρ,σm,S,ds,st2,rp2,r2.mono (List.prefix_refl _) le,σ1,eq',fun H'' σ3 le2 rp3 st3 hl3 hj3=>h H'' σ3 (le.trans le2) rp3 st3 (hl3.trans hl) fun j hjk=>?_⟩⟩
    rw[List.mem_append] at hjk
    rw[hj3 j fun z=>hjk (.inr z),hj j fun z=>hjk (.inl z)]
theorem Q4 {X:Cx}{Θ:Tab}{e:Expr}{es:List Expr}{g:M.GM}{gs:M.GMs}{js ks:List Nat} (h1:WG X Θ js e g) (h2:WGs X Θ ks es gs) (hp:∀ {t:TG}{u:TGs},PG X e t->PGs X es u->PGs X (e::es) (yC t u)):WGs X Θ (js++ks) (e::es) (M.yC g gs):=by with_unfolding_all exact zIv (X:=X) (Θ:=Θ) (e:=e) (es:=es) (g:=g) (gs:=gs) (js:=js) (ks:=ks) h1 h2 hp
theorem zLl {X:Cx}{Θ:Tab}{es:List Expr}{g:M.GMs}{js:List Nat}{tg:Expr}{n:Nat} (h:PG X tg (Jm X.K n (zMv X.K Θ js g))) (hn:∀ ds σ σ1,g ds σ=some σ1->ds.length=n):MG X Θ js tg (M.Jm g):=h.imp fun v σ H Q ⟨ρ,σ',S,d,st,rp,rv,σ1,eq,h⟩=>by
 cases d with
 | tup ds =>
  obtain⟨a,xs,rfl,hq,r⟩:=rv
  exact⟨a,xs,rfl,hq,by rw[<- r.length];exact hn ds σ' σ1 eq,ρ,σ',S,ds,st,rp,r,σ1,eq,h⟩
 | _=>cases eq
structure ItR (K:PySem.W.Frag) (Θ:Tab) (ρ:List Addr) (H:Hp) (J:It) (xs:List M.D) (g:M.Gd):Prop where
 go:∀ (i:Nat) ρ' S' H',ρ <+: ρ'->Le H H'->zV K Θ ρ' S' H'->M.zi g S'=true->i < xs.length->J.go i H'
 yld:∀ (i:Nat) ρ' S' H' v H2,ρ <+: ρ'->Le H H'->zV K Θ ρ' S' H'->M.zi g S'=true->i < xs.length->J.yld i H' v H2->∃ d,xs[i]? = some d/\zN K ρ' H2 d v/\Le H' H2/\zV K Θ ρ' S' H2
 stop:∀ ρ' S' H',ρ <+: ρ'->Le H H'->zV K Θ ρ' S' H'->M.zi g S'=true->J.stop xs.length H'
def RdI (K:PySem.W.Frag) (Θ:Tab) (m:M.IM):TI:=fun σ H R=>∃ ρ σ' S,zw K ρ H σ' σ/\zV K Θ ρ S H /\
 zD K Θ (fun ρ' H' (p:List M.D×M.Gd) (J:It)=>ItR K Θ ρ' H' J p.1 p.2) ρ H ((m σ' S).bind fun p s=>if M.zi p.2 s then .ok p s else .no) R
abbrev MI (X:Cx) (Θ:Tab) (tg iter:Expr) (m:M.IM):Prop:=PI X tg iter (RdI X.K Θ m)
@[irreducible] def WI (X:Cx) (Θ:Tab) (tg iter:Expr) (m:M.IM):Prop:=MI X Θ tg iter m
theorem PI.imp {X:Cx}{tg e:Expr}{t t':TI} (h:PI X tg e t) (i:∀ σ H R,t' σ H R->t σ H R):PI X tg e t':=fun pins s σ H R I q=>h pins s σ H R I (i σ H R q)
theorem PI.or {X:Cx}{tg e:Expr}{t t':TI} (h:PI X tg e t) (h':PI X tg e t'):PI X tg e (fun σ H R=>t σ H R\/t' σ H R):=fun pins s σ H R I q=>by
 rcases q with q | q
 ·exact h pins s σ H R I q
 ·exact h' pins s σ H R I q
section
variable {X:Cx}{Θ:Tab}{tg e:Expr}{m:M.EM}
theorem zJZ {K:PySem.W.Frag}{ρ:List Addr}{H:Hp}{i:Nat}{a:Addr}{ds:List M.D} (ha:ρ[i]? = some a):ItR K Θ ρ H (Itl K a) ds [(i,.lst ds)]:=by
 have key:∀ {ρ':List Addr}{S':M.S}{H':Hp},ρ <+: ρ'->zV K Θ ρ' S' H'->M.zi [(i,.lst ds)] S'=true->∃ zs,H' a=some (.lst zs)/\zJ K ρ' H' ds zs:=fun {ρ' S' H'} p rp g=>by
  have g':S'[i]? = some (M.O.lst ds):=by simpa [M.zi] using g
  obtain⟨b,e1,zs,e2,r⟩:=rp.obj i _ g'
  rw[Jr p ha] at e1;cases e1
  exact⟨zs,e2,r⟩
 refine⟨fun j ρ' S' H' p l rp g hj=>?_,fun j ρ' S' H' v H2 p l rp g hj y=>?_,fun ρ' S' H' p l rp g=>?_⟩
 ·obtain⟨zs,e,r⟩:=key p rp g
  obtain⟨v,e1,_⟩:=r.get (i:=j) (d:=ds[j]) (by simp[hj])
  exact⟨zs,v,SqL.of e,e1⟩
 ·obtain⟨zs,e,r⟩:=key p rp g
  obtain⟨v',e1,rv⟩:=r.get (i:=j) (d:=ds[j]) (by simp[hj])
  obtain⟨rfl,y2⟩:=y
  have y3:=y2 zs (SqL.of e)
  rw[e1] at y3;cases y3
  exact⟨ds[j],by simp[hj],rv,Le.refl _,rp⟩
 ·obtain⟨zs,e,r⟩:=key p rp g
  exact⟨zs,SqL.of e,Nat.le_of_eq r.length.symm⟩
theorem zMV {K:PySem.W.Frag}{ρ:List Addr}{H:Hp}{a:Addr}{ds:List M.D}{xs:List V} (hq:Q1 K H a xs) (r:zJ K ρ H ds xs):ItR K Θ ρ H (Itl K a) ds []:=by
 refine⟨fun j ρ' S' H' p l rp g hj=>?_,fun j ρ' S' H' v H2 p l rp g hj y=>?_,fun ρ' S' H' p l rp g=>?_⟩
 ·obtain⟨v,e1,_⟩:=r.get (i:=j) (d:=ds[j]) (by simp[hj])
  exact⟨xs,v,(l.rol hq).sq,e1⟩
 ·obtain⟨v',e1,rv⟩:=(r.mono p l).get (i:=j) (d:=ds[j]) (by simp[hj])
  obtain⟨rfl,y2⟩:=y
  have y3:=y2 xs (l.rol hq).sq
  rw[e1] at y3;cases y3
  exact⟨ds[j],by simp[hj],rv,Le.refl _,rp⟩
 ·exact⟨xs,(l.rol hq).sq,Nat.le_of_eq r.length.symm⟩
theorem zKy {K:PySem.W.Frag}{ρ:List Addr}{H:Hp}{a:Addr}{ds:List M.D}{xs:List V} (hq:SqT K H a xs) (r:zJ K ρ H ds xs):ItR K Θ ρ H (Itt K a) ds []:=by
 refine⟨fun j ρ' S' H' p l rp g hj=>?_,fun j ρ' S' H' v H2 p l rp g hj y=>?_,fun ρ' S' H' p l rp g=>?_⟩
 ·obtain⟨v,e1,_⟩:=r.get (i:=j) (d:=ds[j]) (by simp[hj])
  exact⟨xs,v,l.sqT hq,e1⟩
 ·obtain⟨v',e1,rv⟩:=(r.mono p l).get (i:=j) (d:=ds[j]) (by simp[hj])
  obtain⟨rfl,y2⟩:=y
  have y3:=y2 xs (l.sqT hq)
  rw[e1] at y3;cases y3
  exact⟨ds[j],by simp[hj],rv,Le.refl _,rp⟩
 ·exact⟨xs,l.sqT hq,Nat.le_of_eq r.length.symm⟩
theorem zK0 {K:PySem.W.Frag}{ρ:List Addr}{H:Hp}{x:M.T} (ok:okT x):ItR K Θ ρ H (Its (ofT x)) (x.map fun c=>.str [c]) []:=by
 refine⟨fun j ρ' S' H' p l rp g hj=>?_,fun j ρ' S' H' v H2 p l rp g hj y=>?_,fun ρ' S' H' p l rp g=>?_⟩
 ·rw[List.length_map] at hj
  show j < (ofT x).length
  rw[j9];exact hj
 ·obtain⟨rfl,c,hc,rfl⟩:=y
  have hc':x[j]? = some c:=by simpa [ofT] using hc
  exact⟨.str [c],by rw[List.getElem?_map,hc'];rfl,⟨rfl,zBH ok fun d hd=>by rw[List.mem_singleton.mp hd];exact List.mem_of_getElem? hc'⟩,Le.refl _,rp⟩
 ·show (ofT x).length <= _
  rw[j9,List.length_map];exact Nat.le_refl _
theorem zHW {K:PySem.W.Frag}{ρ:List Addr}{H:Hp}{lo hi:Int}:ItR K Θ ρ H (Itr lo (hi - lo).toNat) (M.jT lo hi) []:=by
 refine⟨fun j ρ' S' H' p l rp g hj=>?_,fun j ρ' S' H' v H2 p l rp g hj y=>?_,fun ρ' S' H' p l rp g=>?_⟩
 ·show j < _
  simpa [M.jT] using hj
 ·obtain⟨rfl,rfl⟩:=y
  have hj':j < (hi - lo).toNat:=by simpa [M.jT] using hj
  exact⟨.int (lo+j),by unfold M.jT;rw[List.getElem?_map,List.getElem?_range hj'];rfl,rfl,Le.refl _,rp⟩
 ·show _ <= _
  simp[M.jT]
theorem zNl (he:ME X Θ e m):MI X Θ tg e (M.iE m):=(PI.or (zKb he) (PI.or (zLh he) (zLt he))).imp fun σ H R ⟨ρ,σ',S,st,rp,h⟩=>by
 have h':zD X.K Θ _ ρ H (((m σ' S).bind M.itD).bind fun p s=>if M.zi p.2 s then .ok p s else .no) R:=h
 clear h
 cases hm:m σ' S with
 | no=>rw[hm] at h';exact h'.elim
 | exc a s=>rw[hm] at h';exact h'.elim
 | ok d S1 =>
  rw[hm] at h'
  have go:∀ {Q:VK},(∀ ρ1 H1 v,ρ <+: ρ1->Le H H1->zV X.K Θ ρ1 S1 H1->zN X.K ρ1 H1 d v->Q v H1)->RdE X.K Θ m σ H Q:=fun q=>⟨ρ,σ',S,st,rp,by rw[hm];exact q⟩
  cases d with
  | str x =>
   refine .inr (.inr (go fun ρ1 H1 v p l rp1 rv=>?_))
   have h2:zD X.K Θ _ ρ H ((if x.length <= M.SZ then .ok (x.map fun c=>M.D.str [c],[]) S1 else M.R.no).bind fun p s=>if M.zi p.2 s then .ok p s else .no) R:=h'
   by_cases hl:x.length <= M.SZ
   ·rw[if_pos hl] at h2
    exact⟨ofT x,rv.1,h2 ρ1 H1 _ p l rp1 (zK0 rv.2)⟩
   ·rw[if_neg hl] at h2
    exact h2.elim
  | tup ds =>
   refine .inr (.inl (go fun ρ1 H1 v p l rp1 rv=>?_))
   obtain⟨a,xs,rfl,hq,r⟩:=rv
   exact⟨a,rfl,⟨xs,hq⟩,h' ρ1 H1 _ p l rp1 (zKy hq r)⟩
  | ro ds =>
   refine .inl (go fun ρ1 H1 v p l rp1 rv=>?_)
   obtain⟨a,xs,rfl,hq,r⟩:=rv
   exact⟨a,rfl,⟨xs,hq.sq⟩,h' ρ1 H1 _ p l rp1 (zMV hq r)⟩
  | ref i =>
   have h2:zD X.K Θ _ ρ H ((match S1[i]? with
    | some (.lst xs)=>M.R.ok (xs,[(i,M.O.lst xs)]) S1
    | _=>.no).bind fun p s=>if M.zi p.2 s then .ok p s else .no) R:=h'
   cases q:S1[i]? with
   | none=>rw[q] at h2;exact h2.elim
   | some o =>
    rw[q] at h2
    cases o with
    | lst xs =>
     refine .inl (go fun ρ1 H1 v p l rp1 rv=>?_)
     obtain⟨a,rfl,e1⟩:=rv
     obtain⟨b,e2,zs,e3,r⟩:=rp1.obj i _ q
     rw[e1] at e2;cases e2
     have hg:M.zi [(i,M.O.lst xs)] S1=true:=by simp[M.zi,q]
     have h3:zD X.K Θ _ ρ H (if M.zi [(i,M.O.lst xs)] S1 then M.R.ok (xs,[(i,M.O.lst xs)]) S1 else .no) R:=h2
     rw[if_pos hg] at h3
     exact⟨a,rfl,⟨zs,SqL.of e3⟩,h3 ρ1 H1 _ p l rp1 (zJZ e1)⟩
    | dct kvs=>exact h2.elim
    | fdc _=>exact h2.elim
    | ins c fs=>exact h2.elim
  | non=>exact h'.elim
  | bl b=>exact h'.elim
  | int b=>exact h'.elim
  | ty b=>exact h'.elim
theorem zAr (he:WE X Θ e m):WI X Θ tg e (M.iE m):=by with_unfolding_all exact zNl he
theorem zHV {p pos:Pos} (hg:Gl X "range") (hm:X.mg "range" = none) (he:ME X Θ e m) (hs:jO e=true:=by rfl):MI X Θ tg (.Call (.Name "range" p) [e] [] pos) (M.jP m) :=
 (zHe hg hm (zGO he zIH hs) (qL hs)).imp fun σ H R ⟨ρ,σ',S,st,rp,h⟩=>⟨ρ,σ',S,st,rp,by
  have h':zD X.K Θ _ ρ H (((m σ' S).bind fun x s=>match x with
   | .int j=>if j.natAbs < 4611686018427387904 then M.R.ok (M.jT 0 j,([]:M.Gd)) s else .no
   | _=>.no).bind fun p s=>if M.zi p.2 s then .ok p s else .no) R:=h
  show zD X.K Θ _ ρ H ((m σ' S).bind fun x s=>(M.R.ok [] s).bind fun xs s=>.ok (x::xs) s) _
  cases hm:m σ' S with
  | no=>rw[hm] at h';exact h'.elim
  | exc a s=>rw[hm] at h';exact h'.elim
  | ok d S1 =>
   rw[hm] at h'
   intro ρ1 H1 vs p l rp1 rv
   obtain⟨v,ys,rfl,rv,hy⟩:=rv
   cases hy
   cases d with
   | int j =>
    cases rv
    have h2:zD X.K Θ _ ρ H ((if j.natAbs < 4611686018427387904 then M.R.ok (M.jT 0 j,([]:M.Gd)) S1 else .no).bind fun p s=>if M.zi p.2 s then .ok p s else .no) R:=h'
    by_cases hj:j.natAbs < 4611686018427387904
    ·rw[if_pos hj] at h2
     refine⟨j,rfl,by omega,by omega,?_⟩
     have:=h2 ρ1 H1 _ p l rp1 (zHW (lo:=0) (hi:=j))
     rw[Int.sub_zero] at this
     exact this
    ·rw[if_neg hj] at h2
     exact h2.elim
   | _=>exact h'.elim⟩
theorem qd {p pos:Pos} (hg:Gl X "range") (hm:X.mg "range" = none) (he:WE X Θ e m) (hs:jO e=true:=by rfl):WI X Θ tg (.Call (.Name "range" p) [e] [] pos) (M.jP m):=by with_unfolding_all exact zHV (p:=p) (pos:=pos) hg hm he hs
end
section
variable {X:Cx}{Θ:Tab}{pos:Pos}
theorem zIk {c:Expr}{body:List Stmt}{tc:M.TM}{mb:M.SM} (hp:PassesOwn (model X.prog X.w) X.A X.env X.xe) (hc:MT X Θ c tc) (hb:MSs X Θ body mb):MS X Θ (.While c body [] pos) (M.zAq tc mb) :=
 (zJW hp hc hb).imp fun D σ H ⟨ρ,σ',S,st,rp,h⟩=>by
  refine⟨fun k σ2 H2=>∃ ρ2 σ2' S2,zw X.K ρ2 H2 σ2' σ2/\zV X.K Θ ρ2 S2 H2/\zl X.K Θ ρ2 H2 (M.jR k tc mb σ2' S2) D,⟨M.zA2,ρ,σ',S,st,rp,h⟩,?_⟩
  rintro k σ2 H2 ⟨ρ2,σ2',S2,st2,rp2,h2⟩
  cases k with
  | zero=>exact h2.elim
  | succ k =>
   refine⟨ρ2,σ2',S2,st2,rp2,zl.stm h2 fun ρ3 H3 b b' S3 p3 l3 rp3 eb h3=>?_⟩
   cases eb
   cases b with
   | false=>exact zCo (zl.nx (σ:=σ2) h3 rp3 (st2.mono p3 l3))
   | true =>
    refine zCu ⟨fun σ4 H4=>∃ ρ4 σ4' S4,zw X.K ρ4 H4 σ4' σ4/\zV X.K Θ ρ4 S4 H4/\zl X.K Θ ρ4 H4 (M.jR k tc mb σ4' S4) D,fun σ4 H4 q=>⟨k,Nat.lt_succ_self k,q⟩,ρ3,σ2',S3,st2.mono p3 l3,rp3,?_⟩
    have h4:zl X.K Θ ρ3 H3 (match mb σ2' S3 with
     | .nx σ s=>M.jR k tc mb σ s
     | .ct σ s=>M.jR k tc mb σ s
     | .bk σ s=>.nx σ s
     | r=>r) D:=h3
    revert h4
    cases mb σ2' S3 with
    | nx a s=>exact fun h4 ρ4 H4 σ4 p4 l4 rp4 st4=>⟨ρ4,a,s,st4,rp4,zl.weak h4 p4 l4⟩
    | ct a s=>exact fun h4 ρ4 H4 σ4 p4 l4 rp4 st4=>⟨ρ4,a,s,st4,rp4,zl.weak h4 p4 l4⟩
    | bk a s=>exact fun h4=>h4
    | rt a s=>exact fun h4=>h4
    | exc e a s=>exact fun h4=>h4
    | no=>exact fun h4=>h4
theorem zAU {c:Expr}{body:List Stmt}{tc:M.TM}{mb:M.SM} (hp:PassesOwn (model X.prog X.w) X.A X.env X.xe) (hc:WT X Θ c tc) (hb:WSs X Θ body mb):WS X Θ (.While c body [] pos) (M.zAq tc mb):=by with_unfolding_all exact zIk (c:=c) (body:=body) (tc:=tc) (mb:=mb) hp hc hb
theorem zGX {K:PySem.W.Frag}{g:M.GM}{js:List Nat}{mb:M.SM}{xs:List M.D}{gd:M.Gd}{J:It}{ρ1:List Addr}{H1:Hp}{σ:St}{σ':M.St}{S1:M.S}{D:Qm} (itr:ItR K Θ ρ1 H1 J xs gd) (st:zw K ρ1 H1 σ' σ) (rp1:zV K Θ ρ1 S1 H1) (hgd:M.zi gd S1=true) (h2:zl K Θ ρ1 H1 (M.qW gd (M.jr g mb) xs σ' S1) D) :
  ∃ W:Nat->Nat->St->Hp->Prop,(∃ m,W 0 m σ H1)/\∀ i m σ H,W i m σ H ->
   (J.stop i H/\D.nx σ H)\/(J.go i H/\∃ N:St->Hp->Prop,(∀ σ' H',N σ' H'->∃ m',m' < m/\W (i+1) m' σ' H')/\∀ x H',J.yld i H x H'->RdG K Θ js g x σ H' fun σ2 H2=>RdS K Θ mb { D with nx:=N,ct:=N,bk:=D.nx } σ2 H2):=by
 refine⟨fun i k σ2 H2=>∃ ρ2 σ2' S2,ρ1 <+: ρ2/\Le H1 H2/\zw K ρ2 H2 σ2' σ2/\zV K Θ ρ2 S2 H2/\M.zi gd S2=true/\k=xs.length - i/\i <= xs.length/\zl K Θ ρ2 H2 (M.qW gd (M.jr g mb) (xs.drop i) σ2' S2) D,
  ⟨xs.length,ρ1,σ',S1,List.prefix_refl _,Le.refl _,st,rp1,hgd,rfl,Nat.zero_le _,h2⟩,?_⟩
 rintro i k σ2 H2 ⟨ρ2,σ2',S2,p2,l2,st2,rp2,g2,rfl,hi2,h3⟩
 by_cases hlt:i < xs.length
 ·refine .inr ⟨itr.go i ρ2 S2 H2 p2 l2 rp2 g2 hlt,fun σ3 H3=>∃ ρ3 σ3' S3,ρ1 <+: ρ3/\Le H1 H3/\zw K ρ3 H3 σ3' σ3/\zV K Θ ρ3 S3 H3/\M.zi gd S3=true/\zl K Θ ρ3 H3 (M.qW gd (M.jr g mb) (xs.drop (i+1)) σ3' S3) D,
   fun σ3 H3 ⟨ρ3,σ3',S3,a1,a2,a3,a4,a5,a6⟩=>⟨xs.length - (i+1),by omega,ρ3,σ3',S3,a1,a2,a3,a4,a5,rfl,hlt,a6⟩,fun x H' y=>?_⟩
  obtain⟨d,ed,rd,ld,rpd⟩:=itr.yld i ρ2 S2 H2 x H' p2 l2 rp2 g2 hlt y
  have edr:xs.drop i=d::xs.drop (i+1):=by
   obtain⟨_,e⟩:=List.getElem?_eq_some_iff.mp ed
   rw[List.drop_eq_getElem_cons hlt,e]
  rw[edr] at h3
  have h4:zl K Θ ρ2 H2 (match (match g d σ2' with | some σ'=>mb σ' S2 | none=>M.RS.no) with
   | .nx σ s=>if M.zi gd s then M.qW gd (M.jr g mb) (xs.drop (i+1)) σ s else .no
   | .ct σ s=>if M.zi gd s then M.qW gd (M.jr g mb) (xs.drop (i+1)) σ s else .no
   | .bk σ s=>.nx σ s
   | r=>r) D:=h3
  cases hgq:g d σ2' with
  | none=>rw[hgq] at h4;exact h4.elim
  | some σ1 =>
   rw[hgq] at h4
   refine⟨ρ2,σ2',S2,d,st2.mono (List.prefix_refl _) ld,rpd,rd,σ1,hgq,fun H'' σ3 le3 rp3 st3 _ _=>⟨ρ2,σ1,S2,st3,rp3,?_⟩⟩
   have h5:=zl.weak h4 (List.prefix_refl _) (ld.trans le3)
   have h6:zl K Θ ρ2 H'' (match mb σ1 S2 with
    | .nx σ s=>if M.zi gd s then M.qW gd (M.jr g mb) (xs.drop (i+1)) σ s else .no
    | .ct σ s=>if M.zi gd s then M.qW gd (M.jr g mb) (xs.drop (i+1)) σ s else .no
    | .bk σ s=>.nx σ s
    | r=>r) D:=h5
   have more:∀ (a:M.St) (s:M.S),zl K Θ ρ2 H'' (if M.zi gd s then M.qW gd (M.jr g mb) (xs.drop (i+1)) a s else .no) D->∀ ρ4 H4 σ4,ρ2 <+: ρ4->Le H'' H4->zV K Θ ρ4 s H4->zw K ρ4 H4 a σ4 ->
     ∃ ρ3 σ3' S3,ρ1 <+: ρ3/\Le H1 H4/\zw K ρ3 H4 σ3' σ4/\zV K Θ ρ3 S3 H4/\M.zi gd S3=true/\zl K Θ ρ3 H4 (M.qW gd (M.jr g mb) (xs.drop (i+1)) σ3' S3) D:=fun a s h7 ρ4 H4 σ4 p4 l4 rp4 st4=>by
    by_cases hs:M.zi gd s=true
    ·rw[if_pos hs] at h7
     exact⟨ρ4,a,s,p2.trans p4,l2.trans (ld.trans (le3.trans l4)),st4,rp4,hs,zl.weak h7 p4 l4⟩
    ·rw[if_neg hs] at h7;exact h7.elim
   revert h6
   cases mb σ1 S2 with
   | nx a s=>exact fun h6=>more a s h6
   | ct a s=>exact fun h6=>more a s h6
   | bk a s=>exact fun h6=>h6
   | rt a s=>exact fun h6=>h6
   | exc e a s=>exact fun h6=>h6
   | no=>exact fun h6=>h6
 ·have e:i=xs.length:=by omega
  subst e
  rw[List.drop_length] at h3
  exact .inl ⟨itr.stop ρ2 S2 H2 p2 l2 rp2 g2,zl.nx (σ:=σ2) h3 rp2 st2⟩
theorem zMa {tg iter:Expr}{body:List Stmt}{it:M.IM}{g:M.GM}{js:List Nat}{mb:M.SM} (hp:PassesOwn (model X.prog X.w) X.A X.env X.xe) (hc:X.calm=true) (hi:MI X Θ tg iter it) (hg:MG X Θ js tg g) (hb:MSs X Θ body mb)
  (hs:∀ x,foldedSetIterable iter X.env x=pure x:=by intro _;rfl):MS X Θ (.For tg iter body [] pos) (M.yh it g mb) :=
 (zD4 hp hc hi hg hb hs).imp fun D σ H ⟨ρ,σ',S,st,rp,h⟩=>⟨ρ,σ',S,st,rp,by
  have h':zl X.K Θ ρ H ((it σ' S).stm σ' fun p s=>if M.zi p.2 s=true then M.qW p.2 (M.jr g mb) p.1 σ' s else .no) D:=h
  cases hit:it σ' S with
  | no=>rw[hit] at h';exact h'.elim
  | exc a s=>rw[hit] at h';exact h'.elim
  | ok p S1 =>
   rw[hit] at h'
   obtain⟨xs,gd⟩:=p
   show zD X.K Θ _ ρ H (if M.zi gd S1 then M.R.ok (xs,gd) S1 else .no) _
   have h2:zl X.K Θ ρ H (if M.zi gd S1=true then M.qW gd (M.jr g mb) xs σ' S1 else .no) D:=h'
   by_cases hgd:M.zi gd S1=true
   case neg=>rw[if_neg hgd] at h2;exact h2.elim
   rw[if_pos hgd] at h2
   rw[if_pos hgd]
   intro ρ1 H1 J p1 l1 rp1 (itr:ItR X.K Θ ρ1 H1 J xs gd)
   exact zGX itr (st.mono p1 l1) rp1 hgd (zl.weak h2 p1 l1)⟩
theorem QP {tg iter:Expr}{body:List Stmt}{it:M.IM}{g:M.GM}{js:List Nat}{mb:M.SM} (hp:PassesOwn (model X.prog X.w) X.A X.env X.xe) (hc:X.calm=true) (hi:WI X Θ tg iter it) (hg:WG X Θ js tg g) (hb:WSs X Θ body mb)
  (hs:∀ x,foldedSetIterable iter X.env x=pure x:=by intro _;rfl):WS X Θ (.For tg iter body [] pos) (M.yh it g mb):=by with_unfolding_all exact zMa (tg:=tg) (iter:=iter) (body:=body) (it:=it) (g:=g) (js:=js) (mb:=mb) hp hc hi hg hb hs
theorem zL5 {K:PySem.W.Frag}{n:Nat}{it:M.IM}{g:M.GM}{js:List Nat}{tc:M.TM}{me:M.EM}{σ:St}{σ':M.St}{S:M.S}{ρ:List Addr}{H:Hp}{R:List V->Hp->Prop} (st:zw K ρ H σ' σ) (rp:zV K Θ ρ S H) (hj:∀ j∈js,σ.length <= j)
  (h:zD K Θ (zJ K) ρ H (M.yO n it g tc me σ' S) R) :
  RdI K Θ it σ H fun J H1=>∃ W:Nat->Nat->List V->Hp->Prop,(∃ m,W 0 m [] H1)/\∀ i m ys H2,W i m ys H2->ys.length <= sizeLine /\
   ((J.stop i H2/\R ys H2) \/
    (J.go i H2/\∀ x H3,J.yld i H2 x H3->RdG K Θ js g x (σ++List.replicate n none) H3 fun σ2 H4=>Wk (σ++List.replicate n none) σ2/\RdT K Θ tc σ2 H4 fun b H5 =>
     if b=true then RdE K Θ me σ2 H5 fun y H6=>∃ m',m' < m/\W (i+1) m' (ys++[y]) H6 else ∃ m',m' < m/\W (i+1) m' ys H5)):=by
 refine⟨ρ,σ',S,st,rp,?_⟩
 have h':zD K Θ (zJ K) ρ H ((it σ' S).bind fun p s=>if p.1.length <= M.SZ/\M.zi p.2 s=true then M.yY p.2 (M.qc n g tc me σ') p.1 s else .no) R:=h
 cases hit:it σ' S with
 | no=>rw[hit] at h';exact h'.elim
 | exc a s=>rw[hit] at h';exact h'.elim
 | ok p S1 =>
  rw[hit] at h'
  obtain⟨xs,gd⟩:=p
  show zD K Θ _ ρ H (if M.zi gd S1 then M.R.ok (xs,gd) S1 else .no) _
  have h2:zD K Θ (zJ K) ρ H (if xs.length <= M.SZ/\M.zi gd S1=true then M.yY gd (M.qc n g tc me σ') xs S1 else .no) R:=h'
  by_cases hgd:xs.length <= M.SZ/\M.zi gd S1=true
  case neg=>rw[if_neg hgd] at h2;exact h2.elim
  rw[if_pos hgd] at h2
  rw[if_pos hgd.2]
  intro ρ1 H1 J p1 l1 rp1 (itr:ItR K Θ ρ1 H1 J xs gd)
  refine⟨fun i k ys H2=>∃ ρ2 S2 ds,ρ1 <+: ρ2/\Le H1 H2/\zV K Θ ρ2 S2 H2/\M.zi gd S2=true/\zJ K ρ2 H2 ds ys/\ds.length <= i/\k=xs.length - i/\i <= xs.length/\zD K Θ (zJ K) ρ2 H2 ((M.yY gd (M.qc n g tc me σ') (xs.drop i) S2).bind fun es s=>.ok (ds++es) s) R,
   ⟨xs.length,ρ1,S1,[],List.prefix_refl _,Le.refl _,rp1,hgd.2,rfl,Nat.le_refl _,rfl,Nat.zero_le _,?_⟩,?_⟩
  ·have h3:=zD.weak h2 p1 l1
   revert h3
   show zD K Θ (zJ K) ρ1 H1 (M.yY gd (M.qc n g tc me σ') xs S1) R->_
   rw[List.drop_zero]
   cases M.yY gd (M.qc n g tc me σ') xs S1 with
   | ok a s=>exact fun h3=>h3
   | exc e s=>exact fun h3=>h3
   | no=>exact fun h3=>h3
  rintro i k ys H2 ⟨ρ2,S2,ds,p2,l2,rp2,g2,rds,hdl,rfl,hi2,h3⟩
  refine⟨by rw[<- rds.length,<- Zr];omega,?_⟩
  by_cases hlt:i < xs.length
  ·refine .inr ⟨itr.go i ρ2 S2 H2 p2 l2 rp2 g2 hlt,fun x H3 y=>?_⟩
   obtain⟨d,ed,rd,ld,rpd⟩:=itr.yld i ρ2 S2 H2 x H3 p2 l2 rp2 g2 hlt y
   have edr:xs.drop i=d::xs.drop (i+1):=by
    obtain⟨_,e⟩:=List.getElem?_eq_some_iff.mp ed
    rw[List.drop_eq_getElem_cons hlt,e]
   rw[edr] at h3
   have h4:zD K Θ (zJ K) ρ2 H2 (((match g d (σ'++List.replicate n none) with
     | none=>M.R.no
     | some σ1=>(tc σ1 S2).bind fun b s=>if b then (me σ1 s).bind fun d s=>.ok (some d) s else .ok none s).bind fun o s =>
      if M.zi gd s then (M.yY gd (M.qc n g tc me σ') (xs.drop (i+1)) s).bind fun ys s=>.ok (match o with | some y=>y::ys | none=>ys) s else .no).bind fun es s=>.ok (ds++es) s) R:=h3
   cases hgq:g d (σ'++List.replicate n none) with
   | none=>rw[hgq] at h4;exact h4.elim
   | some σ1 =>
    rw[hgq] at h4
    refine⟨ρ2,σ'++List.replicate n none,S2,d,((st.mono (p1.trans p2) (l1.trans (l2.trans ld))).more n),rpd,rd,σ1,hgq,fun H4 σ2 le4 rp4 st4 hl4 hj4=>⟨⟨hl4.symm,fun j v e=>?_⟩,ρ2,σ1,S2,st4,rp4,?_⟩⟩
    ·by_cases hjj:j∈js
     ·rw[List.getElem?_append_right (hj j hjj),List.getElem?_replicate] at e
      split at e<;>cases e
     ·rw[hj4 j hjj];exact e
    ·have h5:=zD.weak h4 (List.prefix_refl _) (ld.trans le4)
     dsimp only at h5
     cases htc:tc σ1 S2 with
     | no=>rw[htc] at h5;exact h5.elim
     | exc a s=>rw[htc] at h5;exact h5.elim
     | ok b S3 =>
      rw[htc] at h5
      intro ρ5 H5 b' p5 l5 rp5 eb
      cases eb
      have next:∀ (o:Option M.D) (s:M.S) (ρ6:List Addr) (H6:Hp) (zs:List V),ρ2 <+: ρ6->Le H4 H6->zV K Θ ρ6 s H6->zJ K ρ6 H6 (match o with | some y=>ds++[y] | none=>ds) zs ->
        zD K Θ (zJ K) ρ6 H6 ((if M.zi gd s then (M.yY gd (M.qc n g tc me σ') (xs.drop (i+1)) s).bind fun ys s=>.ok (match o with | some y=>y::ys | none=>ys) s else .no).bind fun es s=>.ok (ds++es) s) R ->
        ∃ m',m' < xs.length - i/\∃ ρ2 S2 es,ρ1 <+: ρ2/\Le H1 H6/\zV K Θ ρ2 S2 H6/\M.zi gd S2=true/\zJ K ρ2 H6 es zs/\es.length <= i+1/\m'=xs.length - (i+1)/\i+1 <= xs.length /\
         zD K Θ (zJ K) ρ2 H6 ((M.yY gd (M.qc n g tc me σ') (xs.drop (i+1)) S2).bind fun fs s=>.ok (es++fs) s) R:=fun o s ρ6 H6 zs p6 l6 rp6 rz h6=>by
       by_cases hs:M.zi gd s=true
       case neg=>rw[if_neg hs] at h6;exact h6.elim
       rw[if_pos hs] at h6
       refine⟨xs.length - (i+1),by omega,ρ6,s,_,p2.trans p6,l2.trans (ld.trans (le4.trans l6)),rp6,hs,rz,?_,rfl,hlt,?_⟩
       ·cases o<;>simp<;>omega
       ·revert h6
        cases M.yY gd (M.qc n g tc me σ') (xs.drop (i+1)) s with
        | ok a s2 =>
         intro h6
         cases o with
         | none=>exact h6
         | some y =>
          show zD K Θ (zJ K) ρ6 H6 (.ok (ds++[y]++a) s2) R
          rw[List.append_assoc]
          exact h6
        | exc e s=>exact fun h6=>h6
        | no=>exact fun h6=>h6
      cases b with
      | false=>exact zCo (next none S3 ρ5 H5 ys p5 l5 rp5 (rds.mono p5 (ld.trans (le4.trans l5))) (zD.weak h5 p5 l5))
      | true =>
       refine zCu ⟨ρ5,σ1,S3,st4.mono p5 l5,rp5,?_⟩
       have h6:=zD.weak h5 p5 l5
       cases hme:me σ1 S3 with
       | no =>
        have h7:zD K Θ (zJ K) ρ5 H5 ((((me σ1 S3).bind fun d s=>M.R.ok (some d) s).bind fun o s=>if M.zi gd s then (M.yY gd (M.qc n g tc me σ') (xs.drop (i+1)) s).bind fun ys s=>.ok (match o with | some y=>y::ys | none=>ys) s else .no).bind fun es s=>.ok (ds++es) s) R:=h6
        rw[hme] at h7;exact h7.elim
       | exc a s =>
        have h7:zD K Θ (zJ K) ρ5 H5 ((((me σ1 S3).bind fun d s=>M.R.ok (some d) s).bind fun o s=>if M.zi gd s then (M.yY gd (M.qc n g tc me σ') (xs.drop (i+1)) s).bind fun ys s=>.ok (match o with | some y=>y::ys | none=>ys) s else .no).bind fun es s=>.ok (ds++es) s) R:=h6
        rw[hme] at h7;exact h7.elim
       | ok y S6 =>
        have h7:zD K Θ (zJ K) ρ5 H5 ((((me σ1 S3).bind fun d s=>M.R.ok (some d) s).bind fun o s=>if M.zi gd s then (M.yY gd (M.qc n g tc me σ') (xs.drop (i+1)) s).bind fun ys s=>.ok (match o with | some y=>y::ys | none=>ys) s else .no).bind fun es s=>.ok (ds++es) s) R:=h6
        rw[hme] at h7
        intro ρ6 H6 v p6 l6 rp6 rv
        exact next (some y) S6 ρ6 H6 (ys++[v]) (p5.trans p6) (l5.trans l6) rp6 ((rds.mono (p5.trans p6) (ld.trans (le4.trans (l5.trans l6)))).app ⟨v,[],rfl,rv,rfl⟩) (zD.weak h7 p6 l6)
  ·have e:i=xs.length:=by omega
   subst e
   rw[List.drop_length] at h3
   refine .inl ⟨itr.stop ρ2 S2 H2 p2 l2 rp2 g2,?_⟩
   have h4:zD K Θ (zJ K) ρ2 H2 (.ok (ds++[]) S2) R:=h3
   rw[List.append_nil] at h4
   exact h4.here rp2 rds
end
end L2
namespace L2
open PySem PySem.Spec PyProof.Rows
section
variable {X:Cx}{Θ:Tab}{pos:Pos}{vars:List Str}{scope:Scope}{cl:List (Str×Addr)}{tg elt iter:Expr}{ifs:List Expr}{it:M.IM}{g:M.GM}{js:List Nat}{tc:M.TM}{me:M.EM}
theorem zBO {pins:List (Addr×Obj)}{s:Shared}{σ:St}{H:Hp} (I:Inv X pins σ H s) (hj:∀ j∈js,X.N.length <= j) {ρ:List Addr}{σ':M.St}{S:M.S} (st:zw X.K ρ H σ' σ) (rp:zV X.K Θ ρ S H) {Q:VK}{n:Nat}
  (h:zD X.K Θ (zJ X.K) ρ H (M.yO n it g tc me σ' S) fun ys H2=>∀ D,H2 D=none->Q (.ref D) (upd H2 D (.lst ys))) :
  zDr n (RdI X.K Θ it) (RdG X.K Θ js g) (RdT X.K Θ tc) (RdE X.K Θ me) σ H Q:=zL5 st rp (fun j hjj=>by rw[I.len];exact hj j hjj) h
theorem zKA (hc:X.calm=true) (C:jF X vars scope cl) (hi:MI X Θ tg iter it) (hg:∀ C fp s₂ H₂,MG (zc X vars scope cl C fp s₂ H₂) Θ js tg g) (ht:∀ C fp s₂ H₂,Ze (zc X vars scope cl C fp s₂ H₂) ifs (RdT X.K Θ tc))
  (he:∀ C fp s₂ H₂,ME (zc X vars scope cl C fp s₂ H₂) Θ elt me) (hj':(js.all fun j=>decide (X.N.length <= j))=true) (hs:∀ x,foldedSetIterable iter X.env x=pure x:=by intro _;rfl):ME X Θ (.ListComp elt [⟨tg,iter,ifs,0⟩] scope pos) (M.qt vars.length it g tc me):=by
 intro pins s σ H Q I ⟨ρ,σ',S,st,rp,h⟩
 have hj:∀ j∈js,X.N.length <= j:=fun j hjj=>of_decide_eq_true (List.all_eq_true.mp hj' j hjj)
 exact zCm hc C hi hg ht he hs pins s σ H Q I (zBO I hj st rp (zD.bind h fun ρ1 H1 ds ys S1 p1 l1 rp1 r1 h1 D hD=>h1.alloc rp1 r1 hD))
theorem zAt (hc:X.calm=true) (C:jF X vars scope cl) (hi:WI X Θ tg iter it) (hg:∀ C fp s₂ H₂,WG (zc X vars scope cl C fp s₂ H₂) Θ js tg g) (ht:∀ C fp s₂ H₂,Ze (zc X vars scope cl C fp s₂ H₂) ifs (RdT X.K Θ tc))
  (he:∀ C fp s₂ H₂,WE (zc X vars scope cl C fp s₂ H₂) Θ elt me) (hj':(js.all fun j=>decide (X.N.length <= j))=true) (hs:∀ x,foldedSetIterable iter X.env x=pure x:=by intro _;rfl):WE X Θ (.ListComp elt [⟨tg,iter,ifs,0⟩] scope pos) (M.qt vars.length it g tc me):=by with_unfolding_all exact zKA hc C hi hg ht he hj' hs
theorem zG1 {i:Nat}{y:Str}{py spos:Pos} (hc:X.calm=true) (C:jF X vars scope cl) (hN:X.N.Nodup) (hiy:X.N[i]? = some y) (hy:Loc X.env.scope y) (hi:MI X Θ tg iter it) (hg:∀ C fp s₂ H₂,MG (zc X vars scope cl C fp s₂ H₂) Θ js tg g) (ht:∀ C fp s₂ H₂,Ze (zc X vars scope cl C fp s₂ H₂) ifs (RdT X.K Θ tc))
  (he:∀ C fp s₂ H₂,ME (zc X vars scope cl C fp s₂ H₂) Θ elt me) (hj':(js.all fun j=>decide (X.N.length <= j))=true) (hs:∀ x,foldedSetIterable iter X.env x=pure x:=by intro _;rfl)
  (hsw:swapsWith (.ListComp elt [⟨tg,iter,ifs,0⟩] scope pos) (some (.Name y py)) spos.line X.env=pure true:=by rfl)
  (hf:X.fn y=true\/X.env.scope.names.lookup y=some .local:=by first | exact .inl rfl | exact .inr rfl | assumption) :
  MS X Θ (.Assign [.Name y py] (.ListComp elt [⟨tg,iter,ifs,0⟩] scope pos) spos) (M.zS i (M.qt vars.length it g tc me)):=by
 intro pins s σ H D I ⟨ρ,σ',S,st,rp,h⟩
 have hj:∀ j∈js,X.N.length <= j:=fun j hjj=>of_decide_eq_true (List.all_eq_true.mp hj' j hjj)
 refine zGi hc C hN hiy hy hi hg ht he hs hsw hf pins s σ H D I (zBO I hj st rp ?_)
 have h':zl X.K Θ ρ H (((M.yO vars.length it g tc me σ' S).bind fun ys s=>M.alloc (.lst ys) s).stm σ' fun d s=>.nx (σ'.set i (some d)) s) D:=h
 cases hm:M.yO vars.length it g tc me σ' S with
 | no=>rw[hm] at h';exact h'.elim
 | exc a s=>rw[hm] at h';exact h'.elim
 | ok ds S1 =>
  rw[hm] at h'
  intro ρ1 H1 ys p1 l1 rp1 r1 E hE
  have h2:zl X.K Θ ρ H (.nx (σ'.set i (some (.ref S1.length))) (S1++[.lst ds])) D:=h'
  have rp2:zV X.K Θ (ρ1++[E]) (S1++[.lst ds]) (upd H1 E (.lst ys)):=rp1.alloc hE ⟨ys,z9,r1.mono (List.prefix_append _ _) (Le.new hE _)⟩
  exact h2 (ρ1++[E]) _ _ (p1.trans (List.prefix_append _ _)) (l1.trans (Le.new hE _)) rp2 (((st.mono p1 l1).mono (List.prefix_append _ _) (Le.new hE _)).set (show zN X.K (ρ1++[E]) (upd H1 E (.lst ys)) (.ref S1.length) (.ref E) from ⟨E,rfl,by rw[<- rp1.len];simp⟩) i)
theorem JJ {i:Nat}{y:Str}{py spos:Pos} (hc:X.calm=true) (C:jF X vars scope cl) (hN:X.N.Nodup) (hiy:X.N[i]? = some y) (hy:Loc X.env.scope y) (hi:WI X Θ tg iter it) (hg:∀ C fp s₂ H₂,WG (zc X vars scope cl C fp s₂ H₂) Θ js tg g) (ht:∀ C fp s₂ H₂,Ze (zc X vars scope cl C fp s₂ H₂) ifs (RdT X.K Θ tc))
  (he:∀ C fp s₂ H₂,WE (zc X vars scope cl C fp s₂ H₂) Θ elt me) (hj':(js.all fun j=>decide (X.N.length <= j))=true) (hs:∀ x,foldedSetIterable iter X.env x=pure x:=by intro _;rfl)
  (hsw:swapsWith (.ListComp elt [⟨tg,iter,ifs,0⟩] scope pos) (some (.Name y py)) spos.line X.env=pure true:=by rfl)
  (hf:X.fn y=true\/X.env.scope.names.lookup y=some .local:=by first | exact .inl rfl | exact .inr rfl | assumption) :
  WS X Θ (.Assign [.Name y py] (.ListComp elt [⟨tg,iter,ifs,0⟩] scope pos) spos) (M.zS i (M.qt vars.length it g tc me)):=by with_unfolding_all exact zG1 (i:=i) (y:=y) (py:=py) (spos:=spos) hc C hN hiy hy hi hg ht he hj' hs hsw hf
def AdK (K:PySem.W.Frag) (Θ:Tab) (k:List M.D->M.S->M.R M.D) (r:List V->Hp->VK->Prop):Prop:=∀ ρ H S ds ys p Q,zV K Θ ρ S H->zJ K ρ H ds ys->SqL K H p ys->zD K Θ (zN K) ρ H (k ds S) Q->r [.ref p] H Q
theorem zJa {x:Str}{p:Pos}{id:String}{pos2:Pos}{k:List M.D->M.S->M.R M.D}{r:List V->Hp->VK->Prop} (hcr:jp X (.builtin id) r) (ad:AdK X.K Θ k r) (hgl:Gl X x) (hm:X.mg x=none) (hv:bootBuiltins x=some (.builtin id))
  (hc:X.calm=true) (C:jF X vars scope cl) (hi:MI X Θ tg iter it) (hg:∀ C fp s₂ H₂,MG (zc X vars scope cl C fp s₂ H₂) Θ js tg g) (ht:∀ C fp s₂ H₂,Ze (zc X vars scope cl C fp s₂ H₂) ifs (RdT X.K Θ tc))
  (he:∀ C fp s₂ H₂,ME (zc X vars scope cl C fp s₂ H₂) Θ elt me) (hj':(js.all fun j=>decide (X.N.length <= j))=true) (hs:∀ x,foldedSetIterable iter X.env x=pure x:=by intro _;rfl)
  (hn:x ≠ "__name__" := by decide) (hdb:(x == ("__debug__" : Str))=false:=by decide)
  :
  ME X Θ (.Call (.Name x p) [.ListComp elt [⟨tg,iter,ifs,0⟩] scope pos] [] pos2) (M.JF k vars.length it g tc me):=by
 intro pins s σ H Q I ⟨ρ,σ',S,st,rp,h⟩
 have hj:∀ j∈js,X.N.length <= j:=fun j hjj=>of_decide_eq_true (List.all_eq_true.mp hj' j hjj)
 refine zEv hcr hgl hm hv (zCb (zCm (g:=RdG X.K Θ js g) (ti:=RdT X.K Θ tc) (te:=RdE X.K Θ me) hc C hi hg ht he hs) zEA (qL rfl)) hn hdb (qL rfl) rfl pins s σ H Q I ?_
 show zDr vars.length _ _ _ _ σ H (fun x H1=>r [x] H1 Q)
 refine zBO I hj st rp (zD.bind h fun ρ1 H1 ds ys S1 p1 l1 rp1 r1 h1 D hD=>?_)
 exact ad ρ1 _ S1 ds ys D Q (rp1.aside hD _) (r1.mono (List.prefix_refl _) (Le.new hD _)) (SqL.of z9) (zD.weak h1 (List.prefix_refl _) (Le.new hD _))
theorem zHD {x:Str}{p:Pos}{id:String}{pos2:Pos}{k:List M.D->M.S->M.R M.D}{r:List V->Hp->VK->Prop} (hcr:jp X (.builtin id) r) (ad:AdK X.K Θ k r) (hgl:Gl X x) (hm:X.mg x=none) (hv:bootBuiltins x=some (.builtin id))
  (hc:X.calm=true) (C:jF X vars scope cl) (hi:WI X Θ tg iter it) (hg:∀ C fp s₂ H₂,WG (zc X vars scope cl C fp s₂ H₂) Θ js tg g) (ht:∀ C fp s₂ H₂,Ze (zc X vars scope cl C fp s₂ H₂) ifs (RdT X.K Θ tc))
  (he:∀ C fp s₂ H₂,WE (zc X vars scope cl C fp s₂ H₂) Θ elt me) (hj':(js.all fun j=>decide (X.N.length <= j))=true) (hs:∀ x,foldedSetIterable iter X.env x=pure x:=by intro _;rfl)
  (hn:x ≠ "__name__" := by decide) (hdb:(x == ("__debug__" : Str))=false:=by decide)
  :
  WE X Θ (.Call (.Name x p) [.ListComp elt [⟨tg,iter,ifs,0⟩] scope pos] [] pos2) (M.JF k vars.length it g tc me):=by with_unfolding_all exact zJa (x:=x) (p:=p) (id:=id) (pos2:=pos2) (k:=k) (r:=r) hcr ad hgl hm hv hc C hi hg ht he hj' hs hn hdb
theorem zI6 {y:M.T}{z:Str}{j:Nat}{p apos cpos:Pos} (hz:z=ofT y) (hc:X.calm=true) (C:jF X vars scope cl) (hi:MI X Θ tg iter it) (hg:∀ C fp s₂ H₂,MG (zc X vars scope cl C fp s₂ H₂) Θ js tg g) (ht:∀ C fp s₂ H₂,Ze (zc X vars scope cl C fp s₂ H₂) ifs (RdT X.K Θ tc))
  (he:∀ C fp s₂ H₂,ME (zc X vars scope cl C fp s₂ H₂) Θ elt me) (hj':(js.all fun j=>decide (X.N.length <= j))=true) (ad:∀ ρ H S ds ys p Q,zV X.K Θ ρ S H->zJ X.K ρ H ds ys->SqL X.K H p ys->zD X.K Θ (zN X.K) ρ H (M.QK y ds S) Q->zDu X.K (.str (ofT y)) [.ref p] H Q) (hs:∀ x,foldedSetIterable iter X.env x=pure x:=by intro _;rfl)
  (hline:(apos.endLine == cpos.line)=true:=by rfl)
  :
  ME X Θ (.Call (.Attribute (.Constant (.str z) j p) "join" apos) [.ListComp elt [⟨tg,iter,ifs,0⟩] scope pos] [] cpos) (M.JF (M.QK y) vars.length it g tc me):=by
 intro pins s σ H Q I ⟨ρ,σ',S,st,rp,h⟩
 have hj:∀ j∈js,X.N.length <= j:=fun j hjj=>of_decide_eq_true (List.all_eq_true.mp hj' j hjj)
 subst hz
 refine zJu PySem.F.plainAttrs_str PySem.F.slot_str_join PySem.F.type_str_join zK8 zHc (zCb (zCm (g:=RdG X.K Θ js g) (ti:=RdT X.K Θ tc) (te:=RdE X.K Θ me) hc C hi hg ht he hs) zEA (qL rfl)) rfl (zER rfl (show 1 < 30 by decide)) hline (qL rfl) rfl pins s σ H Q I ?_
 refine⟨rfl,zBO I hj st rp (zD.bind h fun ρ1 H1 ds ys S1 p1 l1 rp1 r1 h1 D hD=>?_)⟩
 exact ad ρ1 _ S1 ds ys D Q (rp1.aside hD _) (r1.mono (List.prefix_refl _) (Le.new hD _)) (SqL.of z9) (zD.weak h1 (List.prefix_refl _) (Le.new hD _))
theorem zGU {y:M.T}{z:Str}{j:Nat}{p apos cpos:Pos} (hz:z=ofT y) (hc:X.calm=true) (C:jF X vars scope cl) (hi:WI X Θ tg iter it) (hg:∀ C fp s₂ H₂,WG (zc X vars scope cl C fp s₂ H₂) Θ js tg g) (ht:∀ C fp s₂ H₂,Ze (zc X vars scope cl C fp s₂ H₂) ifs (RdT X.K Θ tc))
  (he:∀ C fp s₂ H₂,WE (zc X vars scope cl C fp s₂ H₂) Θ elt me) (hj':(js.all fun j=>decide (X.N.length <= j))=true) (ad:∀ ρ H S ds ys p Q,zV X.K Θ ρ S H->zJ X.K ρ H ds ys->SqL X.K H p ys->zD X.K Θ (zN X.K) ρ H (M.QK y ds S) Q->zDu X.K (.str (ofT y)) [.ref p] H Q) (hs:∀ x,foldedSetIterable iter X.env x=pure x:=by intro _;rfl)
  (hline:(apos.endLine == cpos.line)=true:=by rfl)
  :
  WE X Θ (.Call (.Attribute (.Constant (.str z) j p) "join" apos) [.ListComp elt [⟨tg,iter,ifs,0⟩] scope pos] [] cpos) (M.JF (M.QK y) vars.length it g tc me):=by with_unfolding_all exact zI6 (y:=y) (z:=z) (j:=j) (p:=p) (apos:=apos) (cpos:=cpos) hz hc C hi hg ht he hj' ad hs hline
end
def SpM (K:PySem.W.Frag) (Θ:Tab) (n:Nat) (f:M.F):Sp:=fun vs H Q _=>∃ ρ ds S,ds.length=n/\zJ K ρ H ds vs/\zV K Θ ρ S H/\zD K Θ (zN K) ρ H (f ds S) Q
def zCR (m:M.AM) (n:Nat):Prop:=∀ σ s xs s',m σ s=.ok xs s'->xs.length=n
theorem jJ:zCR M.zG 0:=fun σ s xs s' h=>by cases h;rfl
theorem zO {a:M.EM}{r:M.AM}{n:Nat} (h:zCR r n):zCR (M.zB a r) (n+1):=fun σ s xs s' e=>by
 have e':((a σ s).bind fun x s=>(r σ s).bind fun xs s=>M.R.ok (x::xs) s)=.ok xs s':=e
 cases ha:a σ s with
 | no=>rw[ha] at e';cases e'
 | exc a s=>rw[ha] at e';cases e'
 | ok d S1 =>
  rw[ha] at e'
  have e2:((r σ S1).bind fun xs s=>M.R.ok (d::xs) s)=.ok xs s':=e'
  cases hr:r σ S1 with
  | no=>rw[hr] at e2;cases e2
  | exc a s=>rw[hr] at e2;cases e2
  | ok ds S2 =>
   rw[hr] at e2
   cases e2
   rw[List.length_cons,h _ _ _ _ hr]
section
variable {X:Cx}{Θ:Tab}{pos p:Pos}{x:Str}{ps:List Str}{e:Expr}{es:List Expr}{f:M.F}{m:M.AM}{k kk n:Nat}
theorem zKD (h:Has X.prog X.w X.K X.mg X.base x k ps (SpM X.K Θ n f)) (hr:jN kk X.A) (hk:k <= kk) (hg:Gl X x) (ha:MA X Θ (e::es) m) (ar:zCR m n) (hx:J5 CX0 X E0:=by exact zGw) (hdb:(x == ("__debug__" : Str))=false:=by decide)
  (he:jO e=true:=by rfl) (hpl:es.all jO=true:=by rfl):ME X Θ (.Call (.Name x p) (e::es) [] pos) (M.zH f m) :=
 (zIz h hr hk hg ha hx hdb (qL he) (JP hpl)).imp fun σ H Q ⟨ρ,σ',S,st,rp,h⟩=>⟨ρ,σ',S,st,rp,by
  have h':zD X.K Θ (zN X.K) ρ H ((m σ' S).bind fun xs s=>f xs s) Q:=h
  cases hm:m σ' S with
  | no=>rw[hm] at h';exact h'.elim
  | exc a s=>rw[hm] at h';exact h'.elim
  | ok ds S1 =>
   rw[hm] at h'
   intro ρ1 H1 vs p1 l1 rp1 r1
   rw[List.append_nil]
   exact⟨ρ1,ds,S1,ar _ _ _ _ hm,r1,rp1,zD.weak h' p1 l1⟩⟩
theorem zm (h:Has X.prog X.w X.K X.mg X.base x k ps (SpM X.K Θ n f)) (hr:jN kk X.A) (hk:k <= kk) (hg:Gl X x) (ha:WA X Θ (e::es) m) (ar:zCR m n) (hx:J5 CX0 X E0:=by exact zGw) (hdb:(x == ("__debug__" : Str))=false:=by decide)
  (he:jO e=true:=by rfl) (hpl:es.all jO=true:=by rfl):WE X Θ (.Call (.Name x p) (e::es) [] pos) (M.zH f m):=by with_unfolding_all exact zKD h hr hk hg ha ar hx hdb he hpl
end
section
variable {K:PySem.W.Frag}{Θ:Tab}{ρ ρ':List Addr}{H:Hp}{e:List Nat}
mutual
theorem zN.unren (hρ:∀ (i j:Nat) a,e[i]? = some j->ρ[j]? = some a->ρ'[i]? = some a):∀ {d:M.D}{v:V},M.D.cl e.length d=true->zN K ρ H (M.D.ren e d) v->zN K ρ' H d v
 | .non,_,_,h=>h
 | .bl _,_,_,h=>h
 | .int _,_,_,h=>h
 | .str _,_,_,h=>h
 | .ty _,_,_,h=>h
 | .ref i,_,c,⟨a,h1,h2⟩=>by
  have hi:i < e.length:=of_decide_eq_true c
  refine⟨a,h1,hρ i (e.getD i i) a ?_ h2⟩
  rw[List.getD_eq_getElem?_getD,List.getElem?_eq_getElem hi];rfl
 | .tup _,_,c,⟨a,xs,h1,h2,h3⟩=>⟨a,xs,h1,h2,zJ.unren hρ c h3⟩
 | .ro _,_,c,⟨a,xs,h1,h2,h3⟩=>⟨a,xs,h1,h2,zJ.unren hρ c h3⟩
theorem zJ.unren (hρ:∀ (i j:Nat) a,e[i]? = some j->ρ[j]? = some a->ρ'[i]? = some a):∀ {ds:List M.D}{xs:List V},M.D.cl.all e.length ds=true->zJ K ρ H (M.D.ren.all e ds) xs->zJ K ρ' H ds xs
 | [],_,_,h=>h
 | d::ds,_,c,⟨y,ys,h1,h2,h3⟩=>by
  have c':(M.D.cl e.length d && M.D.cl.all e.length ds)=true:=c
  rw[Bool.and_eq_true] at c'
  exact⟨y,ys,h1,zN.unren hρ c'.1 h2,zJ.unren hρ c'.2 h3⟩
end
theorem ObR.unren (hρ:∀ (i j:Nat) a,e[i]? = some j->ρ[j]? = some a->ρ'[i]? = some a) {a:Addr}{o:M.O} (c:M.O.cl e.length o=true) (h:ObR K Θ ρ H a (M.O.ren e o)):ObR K Θ ρ' H a o:=by
 cases o with
 | lst ds=>obtain⟨xs,h1,h2⟩:=h;exact⟨xs,h1,zJ.unren hρ c h2⟩
 | dct kvs =>
  obtain⟨ks,h1,h2⟩:=h
  refine⟨ks,h1,?_⟩
  have c':∀ p∈kvs,(M.D.cl e.length p.1 && M.D.cl e.length p.2)=true:=List.all_eq_true.mp c
  clear h1
  revert h2 c'
  clear c
  induction kvs generalizing ks with
  | nil=>intro h2 c';cases h2;exact .nil
  | cons p kvs ih =>
   intro h2 c'
   rw[List.map_cons] at h2
   cases h2 with
   | cons r1 r2 =>
    have c1:=c' p List.mem_cons_self
    rw[Bool.and_eq_true] at c1
    refine .cons ⟨?_,zN.unren hρ c1.2 r1.2⟩ (ih _ r2 (fun q hq=>c' q (List.mem_cons_of_mem _ hq)))
    have hk:=r1.1
    revert hk
    cases p.1<;>exact fun hk=>hk
 | fdc kvs =>
  obtain⟨o,ks,h1,h2⟩:=h
  refine⟨o,ks,h1,?_⟩
  have c':∀ p∈kvs,(M.D.cl e.length p.1 && M.D.cl e.length p.2)=true:=List.all_eq_true.mp c
  clear h1
  revert h2 c'
  clear c
  induction kvs generalizing ks with
  | nil=>intro h2 c';cases h2;exact .nil
  | cons p kvs ih =>
   intro h2 c'
   rw[List.map_cons] at h2
   cases h2 with
   | cons r1 r2 =>
    have c1:=c' p List.mem_cons_self
    rw[Bool.and_eq_true] at c1
    refine .cons ⟨?_,zN.unren hρ c1.2 r1.2⟩ (ih _ r2 (fun q hq=>c' q (List.mem_cons_of_mem _ hq)))
    have hk:=r1.1
    revert hk
    cases p.1<;>exact fun hk=>hk
 | ins cc fs =>
  obtain⟨C,dx,gs,N,h1,h2,h3⟩:=h
  refine⟨C,dx,gs,N,h1,h2,by rw[<- h3.len];simp,h3.nd,h3.within,fun i f d q1 q2=>?_⟩
  obtain⟨v,k1,k2⟩:=h3.get i f (M.D.ren e d) q1 (by rw[List.getElem?_map,q2];rfl)
  refine⟨v,k1,zN.unren hρ ?_ k2⟩
  have:=List.all_eq_true.mp c (some d) (List.mem_of_getElem? q2)
  exact this
theorem zD.gc {S S' S1:M.S}{d:M.D}{Q:VK} (em:M.Emb S.length e S' S1) (cd:M.D.cl S'.length d=true) (rp:zV K Θ ρ S H) (h:zD K Θ (zN K) ρ H (.ok d S') Q):zD K Θ (zN K) ρ H (.ok (M.D.ren e d) S1) Q:=by
 intro ρ1 H1 v p1 l1 rp1 r1
 have hlt:∀ {i j:Nat},e[i]? = some j->j < ρ1.length:=fun {i j} q=>by
  have hi:i < S'.length:=by rw[<- em.len];exact (List.getElem?_eq_some_iff.mp q).1
  obtain⟨j',q1,q2,_⟩:=em.obj i S'[i] (by simp[hi])
  rw[q] at q1;cases q1
  rw[rp1.len];exact (List.getElem?_eq_some_iff.mp q2).1
 have hρ:∀ (i j:Nat) a,e[i]? = some j->ρ1[j]? = some a->(e.map fun j=>ρ1.getD j 0)[i]? = some a:=fun i j a q1 q2=>by
  rw[List.getElem?_map,q1,Option.map_some,List.getD_eq_getElem?_getD,q2];rfl
 refine h (e.map fun j=>ρ1.getD j 0) H1 v ?_ l1 ⟨by rw[List.length_map,em.len],?_,fun i o q=>?_⟩ (zN.unren hρ (by rw[em.len];exact cd) r1)
 ·refine List.prefix_iff_getElem?.mpr fun i hi=>?_
  have hi':i < S.length:=rp.len ▸ hi
  exact hρ i i _ (em.old i hi') (Jr p1 (List.getElem?_eq_getElem hi))
 ·refine zId fun i j x a b=>?_
  rw[List.getElem?_map] at a b
  cases ei:e[i]? with
  | none=>rw[ei] at a;cases a
  | some k =>
   cases ej:e[j]? with
   | none=>rw[ej] at b;cases b
   | some l =>
    rw[ei,Option.map_some,List.getD_eq_getElem?_getD,List.getElem?_eq_getElem (hlt ei)] at a
    rw[ej,Option.map_some,List.getD_eq_getElem?_getD,List.getElem?_eq_getElem (hlt ej)] at b
    have e1:ρ1[k]'(hlt ei)=x:=by simpa using a
    have e2:ρ1[l]'(hlt ej)=x:=by simpa using b
    have e3:=zHs rp1.nd (hlt ei) (hlt ej) (e1.trans e2.symm)
    subst e3
    exact zAV em.nd ei ej
 ·obtain⟨j,q1,q2,q3⟩:=em.obj i o q
  obtain⟨a,q4,q5⟩:=rp1.obj j _ q2
  exact⟨a,hρ i j a q1 q4,ObR.unren hρ (by rw[em.len];exact q3) q5⟩
end
section
variable {K:PySem.W.Frag}{Θ:Tab}{ρ:List Addr}{H:Hp}
mutual
theorem zN.cl:∀ {d:M.D}{v:V},zN K ρ H d v->M.D.cl ρ.length d=true
 | .non,_,_=>rfl
 | .bl _,_,_=>rfl
 | .int _,_,_=>rfl
 | .str _,_,_=>rfl
 | .ty _,_,_=>rfl
 | .ref _,_,⟨a,_,h2⟩=>decide_eq_true (List.getElem?_eq_some_iff.mp h2).1
 | .tup _,_,⟨_,_,_,_,h⟩=>zJ.cl h
 | .ro _,_,⟨_,_,_,_,h⟩=>zJ.cl h
theorem zJ.cl:∀ {ds:List M.D}{xs:List V},zJ K ρ H ds xs->M.D.cl.all ρ.length ds=true
 | [],_,_=>rfl
 | d::ds,_,⟨_,_,_,h1,h2⟩=>by
  show (M.D.cl ρ.length d && M.D.cl.all ρ.length ds)=true
  rw[zN.cl h1,zJ.cl h2];rfl
end
theorem zV.cl {S:M.S} (rp:zV K Θ ρ S H):M.clS S.length S=true:=by
 refine List.all_eq_true.mpr fun o ho=>?_
 obtain⟨i,hi,rfl⟩:=List.mem_iff_getElem.mp ho
 obtain⟨a,h1,h2⟩:=rp.obj i S[i] (by simp[hi])
 rw[<- rp.len]
 revert h2
 cases S[i] with
 | lst ds=>exact fun ⟨xs,_,r⟩=>r.cl
 | dct kvs =>
  intro ⟨ks,_,r⟩
  refine List.all_eq_true.mpr fun p hp=>?_
  have:∀ {kvs:List (M.D×M.D)}{ks:List (Key×V)},Paired (fun (p:M.D×M.D) (q:Key×V)=>yT p.1 q.1/\zN K ρ H p.2 q.2) kvs ks->p∈kvs->(M.D.cl ρ.length p.1 && M.D.cl ρ.length p.2)=true:=by
   intro kvs ks r hp
   induction r with
   | nil=>cases hp
   | cons r1 r2 ih =>
    rcases List.mem_cons.mp hp with rfl | hp
    ·rw[r1.2.cl,Bool.and_true]
     have hk:=r1.1
     revert hk
     cases p.1<;>first | exact fun _=>rfl | exact fun hk=>hk.elim
    ·exact ih hp
  exact this r hp
 | fdc kvs =>
  intro ⟨_,ks,_,r⟩
  refine List.all_eq_true.mpr fun p hp=>?_
  have:∀ {kvs:List (M.D×M.D)}{ks:List (Key×V)},Paired (fun (p:M.D×M.D) (q:Key×V)=>yT p.1 q.1/\zN K ρ H p.2 q.2) kvs ks->p∈kvs->(M.D.cl ρ.length p.1 && M.D.cl ρ.length p.2)=true:=by
   intro kvs ks r hp
   induction r with
   | nil=>cases hp
   | cons r1 r2 ih =>
    rcases List.mem_cons.mp hp with rfl | hp
    ·rw[r1.2.cl,Bool.and_true]
     have hk:=r1.1
     revert hk
     cases p.1<;>first | exact fun _=>rfl | exact fun hk=>hk.elim
    ·exact ih hp
  exact this r hp
 | ins c fs =>
  intro ⟨C,dx,gs,N,_,_,r⟩
  refine List.all_eq_true.mpr fun od hod=>?_
  cases od with
  | none=>rfl
  | some d =>
   obtain⟨j,hj,ej⟩:=List.mem_iff_getElem.mp hod
   have hN:j < N.length:=r.len ▸ hj
   obtain⟨v,_,rv⟩:=r.get j N[j] d (by simp[hN]) (by rw[List.getElem?_eq_getElem hj,ej])
   exact rv.cl
end
section
variable {P:Program}{w:World}{K:PySem.W.Frag}{mg:Str->Option Value}{base:Heap}{Θ:Tab}
theorem zDO {ρ:List Addr}{H:Hp}{ds:List M.D}{vs:List V} (r:zJ K ρ H ds vs) (N:List Str):zw K ρ H (ds.map some++List.replicate (N.length - ds.length) none) (QB N vs):=by
 have hl:=r.length
 refine⟨by simp[QB,hl],fun i d q=>?_⟩
 unfold QB
 by_cases hi:i < ds.length
 ·rw[List.getElem?_append_left (by simpa using hi),List.getElem?_map] at q
  cases e:ds[i]? with
  | none=>rw[e] at q;cases q
  | some d' =>
   rw[e] at q
   cases q
   obtain⟨v,e1,rv⟩:=r.get e
   refine⟨v,?_,rv⟩
   rw[List.getElem?_append_left (by simp;omega),List.getElem?_map,e1];rfl
 ·rw[List.getElem?_append_right (by simp;omega),List.getElem?_replicate] at q
  split at q<;>cases q
theorem zNV {x qual:Str}{st:Stmt}{f:Addr}{fd:FuncData}{N ps:List Str}{k:Nat}{b:M.SM}{q:M.F} (F:Fun K x qual st f fd) (Sc:jj N ps (zQ st)) (rf:M.jS ps.length (M.fn N.length b) q)
  (hbody:∀ (cdv:Value) (A:Around) (outer:List Env) (s:Shared) (H:Hp) (E:XK),jN k (A.deeper (envOfC qual (zQ st) s.heap.objs.size f cdv)) ->
   MSs (JQ CX0 P w K mg base N qual (zQ st) f cdv A outer s H E).nox Θ (jI st) b):qE P w K mg base CX0 (k+1) f fd ps (SpM K Θ ps.length q):=by
 refine F.ok (k:=k) Sc (fun vs H Q E h=>?_) (fun cdv A outer s H vs Q E hr h=>?_)
 ·obtain⟨ρ,ds,S,hl,r,_⟩:=h
  rw[<- r.length,hl]
 ·obtain⟨ρ,ds,S,hl,r,rp,h⟩:=h
  refine⟨_,hbody cdv A outer s H E hr,ρ,_,S,zDO r N,rp,?_⟩
  rcases rf ds S hl rp.cl (rp.len ▸ r.cl) with e | ⟨d,S',S1,em,e1,e2,emb,cd⟩
  ·rw[e] at h;exact h.elim
  ·rw[e1] at h
   have h2:=zD.gc emb cd rp h
   have e3:(b (ds.map some++List.replicate (N.length - ds.length) none) S).out=.ok (M.D.ren em d) S1:=e2
   show zl K Θ ρ H (b (ds.map some++List.replicate (N.length - ds.length) none) S) _
   revert e3
   cases b (ds.map some++List.replicate (N.length - ds.length) none) S with
   | rt a s=>intro e3;cases e3;exact h2
   | nx a s =>
    intro e3
    have e4:M.R.ok M.D.non s=.ok (M.D.ren em d) S1:=e3
    injection e4 with e5 e6
    subst e6
    rw[<- e5] at h2
    exact fun ρ1 H1 σ1 p1 l1 rp1 _=>h2 ρ1 H1 .non p1 l1 rp1 rfl
   | bk a s=>intro e3;cases e3
   | ct a s=>intro e3;cases e3
   | exc e a s=>intro e3;cases e3
   | no=>intro e3;cases e3
theorem ZZ {x qual:Str}{st:Stmt}{f:Addr}{fd:FuncData}{N ps:List Str}{k:Nat}{b:M.SM}{q:M.F} (F:Fun K x qual st f fd) (Sc:jj N ps (zQ st)) (rf:M.jS ps.length (M.fn N.length b) q)
  (hbody:∀ (cdv:Value) (A:Around) (outer:List Env) (s:Shared) (H:Hp) (E:XK),jN k (A.deeper (envOfC qual (zQ st) s.heap.objs.size f cdv)) ->
   WSs (JQ CX0 P w K mg base N qual (zQ st) f cdv A outer s H E).nox Θ (jI st) b):qE P w K mg base CX0 (k+1) f fd ps (SpM K Θ ps.length q):=by with_unfolding_all exact zNV (x:=x) (qual:=qual) (st:=st) (f:=f) (fd:=fd) (N:=N) (ps:=ps) (k:=k) (b:=b) (q:=q) F Sc rf hbody
end
end L2
namespace L2
open PySem PySem.Spec PyProof.Rows
section
variable {K:PySem.W.Frag}{Θ:Tab}
theorem zEb:Ad2 K Θ M.zBE zLn:=by
 intro ρ H S x y X Y Q rp rx ry h
 cases x with
 | int i =>
  cases y with
  | int j=>cases rx;cases ry;exact zD.here (b:=V.int (i - j)) h rp rfl
  | _=>exact h.elim
 | _=>exact h.elim
theorem zEf {i:Int} (h:M.small i=true):-(2 ^ 64) < i/\i < 2 ^ 64:=by
 have h':i.natAbs < 18446744073709551616:=of_decide_eq_true h
 exact⟨by omega,by omega⟩
theorem ZP:Ad2 K Θ M.qG zLs:=by
 intro ρ H S x y X Y Q rp rx ry h
 cases x with
 | int i =>
  cases y with
  | int j =>
   cases rx;cases ry
   have h':zD K Θ (zN K) ρ H (if 0 < j/\j.natAbs < 1073741824 then M.R.ok (M.D.int (i / j)) S else .no) Q:=h
   by_cases hc:0 < j/\j.natAbs < 1073741824
   ·rw[if_pos hc] at h';exact⟨⟨hc.1,by omega⟩,zD.here (b:=V.int (i / j)) h' rp rfl⟩
   ·rw[if_neg hc] at h';exact h'.elim
  | _=>exact h.elim
 | _=>exact h.elim
theorem jG:Ad2 K Θ M.zf zMP:=by
 intro ρ H S x y X Y Q rp rx ry h
 cases x with
 | int i =>
  cases y with
  | int j =>
   cases rx;cases ry
   have h':zD K Θ (zN K) ρ H (if 0 < j then M.R.ok (M.D.int (i % j)) S else .no) Q:=h
   by_cases hc:0 < j
   ·rw[if_pos hc] at h';exact⟨hc,zD.here (b:=V.int (i % j)) h' rp rfl⟩
   ·rw[if_neg hc] at h';exact h'.elim
  | _=>exact h.elim
 | _=>exact h.elim
theorem Zi {ρ:List Addr}{S:M.S}{H:Hp} (rp:zV K Θ ρ S H) {i:Nat}{a:Addr} (ha:ρ[i]? = some a) {xs:List M.D} (q:S[i]? = some (.lst xs)):∃ zs,H a=some (.lst zs)/\zJ K ρ H xs zs:=by
 obtain⟨b,e1,zs,e2,r⟩:=rp.obj i _ q
 rw[ha] at e1;cases e1
 exact⟨zs,e2,r⟩
theorem j1:Ad2 K Θ M.zy (fun x y H Q=>zMO x y H Q\/zJo K x y H Q):=by
 intro ρ H S x y X Y Q rp rx ry h
 cases x with
 | int i =>
  cases y with
  | int j=>cases rx;cases ry;exact .inl (zD.here (b:=V.int (i+j)) h rp rfl)
  | _=>exact h.elim
 | str a =>
  cases y with
  | str b =>
   obtain⟨rfl,oka⟩:=rx
   obtain⟨rfl,okb⟩:=ry
   have h':zD K Θ (zN K) ρ H (if a.length+b.length <= M.SZ then M.R.ok (M.D.str (a++b)) S else .no) Q:=h
   by_cases hc:a.length+b.length <= M.SZ
   ·rw[if_pos hc] at h'
    refine .inl ⟨by rw[j9,j9,<- Zr];exact hc,?_⟩
    rw[zKo]
    exact zD.here (b:=V.str (ofT (a++b))) h' rp ⟨rfl,zCq oka okb⟩
   ·rw[if_neg hc] at h';exact h'.elim
  | _=>exact h.elim
 | tup a =>
  cases y with
  | tup b =>
   obtain⟨l,xs,rfl,hq,r⟩:=rx
   obtain⟨l',ys,rfl,hq',r'⟩:=ry
   have h':zD K Θ (zN K) ρ H (if a≠[]/\a.length+b.length <= M.SZ then M.R.ok (M.D.tup (a++b)) S else .no) Q:=h
   by_cases hc:a≠[]/\a.length+b.length <= M.SZ
   ·rw[if_pos hc] at h'
    refine .inr ⟨l,l',xs,ys,rfl,rfl,hq,hq',fun z=>hc.1 ?_,by rw[<- r.length,<- r'.length,<- Zr];exact hc.2,fun hy=>?_,fun hy p hp=>?_⟩
    ·subst z
     have:=r.length
     exact List.length_eq_zero_iff.mp this
    ·subst hy
     have hb:b=[]:=List.length_eq_zero_iff.mp r'.length
     subst hb
     rw[List.append_nil] at h'
     exact zD.here h' rp ⟨l,xs,rfl,hq,r⟩
    ·exact h' ρ _ _ (List.prefix_refl _) (Le.new hp _) (rp.aside hp _) ⟨p,_,rfl,SqT.of z9,(r.app r').mono (List.prefix_refl _) (Le.new hp _)⟩
   ·rw[if_neg hc] at h';exact h'.elim
  | _=>exact h.elim
 | ref i =>
  cases y with
  | ref j =>
   obtain⟨a,rfl,ea⟩:=rx
   obtain⟨b,rfl,eb⟩:=ry
   have h':zD K Θ (zN K) ρ H (match S[i]?,S[j]? with
    | some (.lst xs),some (.lst ys)=>if xs.length+ys.length <= M.SZ then M.alloc (.lst (xs++ys)) S else .no
    | _,_=>.no) Q:=h
   split at h'
   ·rename_i xs ys q1 q2
    obtain⟨zs,e1,r1⟩:=Zi rp ea q1
    obtain⟨ws,e2,r2⟩:=Zi rp eb q2
    by_cases hc:xs.length+ys.length <= M.SZ
    ·rw[if_pos hc] at h'
     exact .inl ⟨zs,ws,e1,e2,by rw[<- r1.length,<- r2.length,<- Zr];exact hc,fun p hp=>h'.alloc rp (r1.app r2) hp⟩
    ·rw[if_neg hc] at h';exact h'.elim
   ·exact h'.elim
  | _=>exact h.elim
 | _=>exact h.elim
theorem zNa:AdC K Θ M.cLt uLt:=by
 intro ρ H S x y X Y Q rp rx ry h
 cases x with
 | int i =>
  cases y with
  | int j=>cases rx;cases ry;exact zD.here (b:=decide (i < j)) h rp rfl
  | _=>exact h.elim
 | str a =>
  cases y with
  | str b =>
   obtain⟨rfl,_⟩:=rx
   obtain⟨rfl,_⟩:=ry
   show Q (.bl (decide ((ofT a).cps.toList < (ofT b).cps.toList))) H
   rw[Zx,Zx]
   exact zD.here (b:=decide (a < b)) h rp rfl
  | _=>exact h.elim
 | _=>exact h.elim
theorem zDv:AdC K Θ M.cGt uGt:=by
 intro ρ H S x y X Y Q rp rx ry h
 cases x with
 | int i =>
  cases y with
  | int j=>cases rx;cases ry;exact zD.here (b:=decide (j < i)) h rp rfl
  | _=>exact h.elim
 | _=>exact h.elim
theorem zCz {ρ:List Addr}{H:Hp}{ds:List M.D}{xs:List V}{i:Int}{d:M.D} (r:zJ K ρ H ds xs) (e:M.atI ds i=some d):∃ v,atI xs i=some v/\zN K ρ H d v:=by
 unfold M.atI at e
 cases q:M.ixN ds.length i with
 | none=>rw[q] at e;cases e
 | some j =>
  rw[q] at e
  obtain⟨v,e1,rv⟩:=r.get (i:=j) e
  have q':ixN xs.length i=some j:=by rw[<- r.length];exact q
  exact⟨v,by unfold atI;rw[q'];exact e1,rv⟩
end
end L2
namespace L2
open PySem PySem.Spec PyProof.Rows
section
variable {K:PySem.W.Frag}{Θ:Tab}
theorem zMx {X:Cx}{a:Expr}{ma:M.EM} (ha:ME X Θ a ma) (he:∀ whole,isTrue a X.env whole=(do let v <- whole;standAt a.pos;holding [v] (truthy v)):=by intro _;rfl):MT X Θ a (M.jo ma) :=
 (zIs ha he).imp fun σ H Q ⟨ρ,σ',S,st,rp,h⟩=>⟨ρ,σ',S,st,rp,zD.bind h fun ρ1 H1 x X1 S1 p1 l1 rp1 rx h1=>by
  cases x with
  | non=>cases rx;exact⟨false,rfl,zD.here (b:=false) h1 rp1 rfl⟩
  | bl b=>cases rx;exact⟨b,rfl,zD.here (b:=b) h1 rp1 rfl⟩
  | int i=>cases rx;exact⟨_,rfl,zD.here (b:=(i != 0)) h1 rp1 (by show decide (i≠0)=(i != 0);by_cases hi:i=0<;>simp[hi])⟩
  | str z =>
   obtain⟨rfl,_⟩:=rx
   by_cases hz:z.length <= M.SZ
   ·simp only[M.qk,if_pos hz] at h1
    refine⟨_,⟨by rw[j9,<- Zr];exact hz,rfl⟩,zD.here (b:=(((ofT z).length:Int) != 0)) h1 rp1 ?_⟩
    show (!z.isEmpty)=_
    rw[j9]
    cases z<;>simp<;>omega
   ·simp only[M.qk,if_neg hz] at h1;exact h1.elim
  | tup ds =>
   obtain⟨l,xs,rfl,hq,r⟩:=rx
   refine⟨_,.inr (.inl ⟨xs,hq,rfl⟩),zD.here (b:=!xs.isEmpty) h1 rp1 ?_⟩
   show (!ds.isEmpty)=_
   have:=r.length
   cases ds<;>cases xs<;>first | rfl | cases this
  | ro ds =>
   obtain⟨l,xs,rfl,hq,r⟩:=rx
   refine⟨_,.inl ⟨xs,hq.sq,rfl⟩,zD.here (b:=!xs.isEmpty) h1 rp1 ?_⟩
   show (!ds.isEmpty)=_
   have:=r.length
   cases ds<;>cases xs<;>first | rfl | cases this
  | ref p =>
   obtain⟨a,rfl,ea⟩:=rx
   cases q:S1[p]? with
   | none=>simp[M.qk,q] at h1;exact h1.elim
   | some o =>
    cases o with
    | lst xs =>
     simp only[M.qk,q] at h1
     obtain⟨zs,e1,r⟩:=Zi rp1 ea q
     refine⟨_,.inl ⟨zs,SqL.of e1,rfl⟩,zD.here (b:=!zs.isEmpty) h1 rp1 ?_⟩
     show (!xs.isEmpty)=_
     have:=r.length
     cases xs<;>cases zs<;>first | rfl | cases this
    | dct kvs =>
     simp only[M.qk,q] at h1
     obtain⟨b,e1,zs,e2,r⟩:=rp1.obj _ _ q
     rw[ea] at e1;cases e1
     refine⟨_,.inr (.inr ⟨zs,e2,rfl⟩),zD.here (b:=!zs.isEmpty) h1 rp1 ?_⟩
     cases r<;>rfl
    | fdc _=>simp[M.qk,q] at h1;exact h1.elim
    | ins c fs=>simp[M.qk,q] at h1;exact h1.elim
  | ty n=>exact h1.elim⟩
theorem yt {X:Cx}{a:Expr}{ma:M.EM} (ha:WE X Θ a ma) (he:∀ whole,isTrue a X.env whole=(do let v <- whole;standAt a.pos;holding [v] (truthy v)):=by intro _;rfl):WT X Θ a (M.jo ma):=by with_unfolding_all exact zMx (X:=X) (a:=a) (ma:=ma) ha he
inductive TyM (K:PySem.W.Frag) (H:Hp):V->String->Prop where
 | of {x:V}{A:String} (h:QZ K H x (.type A)):TyM K H x A
 | sqT {a:Addr}{xs:List V} (h:SqT K H a xs):TyM K H (.ref a) "tuple"
 | sqL {a:Addr}{xs:List V} (h:SqL K H a xs):TyM K H (.ref a) "list"
def zIn (K:PySem.W.Frag):List V->Hp->VK->Prop:=fun xs H Q=>∃ x n A b,xs=[x,.ty n]/\TyM K H x A/\PySem.W.kitOne K (.type A) (.type n)=some b/\Q (.bl b) H
theorem zBa {X:Cx}:jp X (.builtin "isinstance") (zIn X.K):=by
 intro pins s σ H xs us Q I r h
 obtain⟨x,n,A,b,rfl,ty,e,q⟩:=h
 obtain⟨u,w',rfl,ru,rc⟩:=zJz r
 cases rc
 cases ty with
 | of h=>exact wpAny_with_toks (n:=1) I.tk (zHw I ru h e fun tk hk=>⟨.bl b,H,I.tok tk hk,rfl,q⟩)
 | sqT h =>
  cases ru
  obtain⟨its,_,⟨o,h1,h2,_⟩,_⟩:=I.tuple h
  exact wpAny_with_toks (n:=1) I.tk (PySem.W.kia_one PySem.W.kitx_tuple I.kIn ⟨o,h1,h2⟩ e (fun z=>nomatch z) fun tk hk=>⟨.bl b,H,I.tok tk hk,rfl,q⟩)
 | sqL h =>
  cases ru
  obtain⟨its,_,⟨o,n,h1,h2,_⟩,_⟩:=I.list h
  exact wpAny_with_toks (n:=1) I.tk (PySem.W.kia_one PySem.W.kitx_list I.kIn ⟨o,h1,h2⟩ e (fun z=>nomatch z) fun tk hk=>⟨.bl b,H,I.tok tk hk,rfl,q⟩)
theorem zJ5 (n:M.Kd):PySem.W.kitOne K (.type "NoneType") (.type (qF n))=some false/\PySem.W.kitOne K (.type "bool") (.type (qF n))=some (match n with | .bool=>true | .int=>true | _=>false) /\
  PySem.W.kitOne K (.type "int") (.type (qF n))=some (match n with | .int=>true | _=>false)/\PySem.W.kitOne K (.type "str") (.type (qF n))=some (match n with | .str=>true | _=>false) /\
  PySem.W.kitOne K (.type "tuple") (.type (qF n))=some (match n with | .tuple=>true | _=>false)/\PySem.W.kitOne K (.type "list") (.type (qF n))=some (match n with | .list=>true | _=>false) /\
  PySem.W.kitOne K (.type "dict") (.type (qF n))=some (match n with | .dict=>true | _=>false):=by
 cases n<;>exact⟨JE (by decide +kernel),JE (by decide +kernel),JE (by decide +kernel),JE (by decide +kernel),JE (by decide +kernel),JE (by decide +kernel),JE (by decide +kernel)⟩
theorem zEe:AdN K Θ M.Qy (zIn K):=by
 intro ρ H S xs Xs Q rp rx h
 match xs,rx,h with
 | [x,.ty n],rx,h =>
  obtain⟨v,_,rfl,rv,_,_,rfl,rfl,rfl⟩:=rx
  obtain⟨k1,k2,k3,k4,k5,k6,k7⟩:=zJ5 (K:=K) n
  have fin:∀ {A:String}{b:Bool},M.Zg n x S=.ok b S->TyM K H v A->PySem.W.kitOne K (.type A) (.type (qF n))=some b->zIn K [v,.ty (qF n)] H Q:=fun {A b} e ty k=>by
   have h':zD K Θ (zN K) ρ H ((M.Zg n x S).bind fun b s=>.ok (.bl b) s) Q:=h
   rw[e] at h'
   exact⟨v,qF n,A,b,rfl,ty,k,zD.here (b:=V.bl b) h' rp rfl⟩
  cases x with
  | non=>cases rv;exact fin rfl (.of .non) k1
  | bl b=>cases rv;exact fin rfl (.of (.bl b)) k2
  | int i=>cases rv;exact fin rfl (.of (.int i)) k3
  | str z=>obtain⟨rfl,_⟩:=rv;exact fin rfl (.of (.str _)) k4
  | tup ds=>obtain⟨l,ys,rfl,hq,r⟩:=rv;exact fin rfl (.sqT hq) k5
  | ro ds=>obtain⟨l,ys,rfl,hq,r⟩:=rv;exact fin rfl (.sqL hq.sq) k6
  | ty m=>exact h.elim
  | ref p =>
   obtain⟨a,rfl,ea⟩:=rv
   cases q:S[p]? with
   | none=>simp[M.Qy,M.Zg,q] at h;exact h.elim
   | some o =>
    cases o with
    | lst xs =>
     obtain⟨zs,e1,r⟩:=Zi rp ea q
     refine fin ?_ (.sqL (SqL.of e1)) k6
     simp only[M.Zg,q]<;>(cases n<;>rfl)
    | dct kvs =>
     obtain⟨b,e1,zs,e2,r⟩:=rp.obj _ _ q
     rw[ea] at e1;cases e1
     refine fin ?_ (.of (.dK e2)) k7
     simp only[M.Zg,q]<;>(cases n<;>rfl)
    | fdc _=>simp[M.Qy,M.Zg,q] at h;exact h.elim
    | ins c fs=>simp[M.Qy,M.Zg,q] at h;exact h.elim
 | [_,.non],_,h=>exact h.elim
 | [_,.bl _],_,h=>exact h.elim
 | [_,.int _],_,h=>exact h.elim
 | [_,.str _],_,h=>exact h.elim
 | [_,.tup _],_,h=>exact h.elim
 | [_,.ro _],_,h=>exact h.elim
 | [_,.ref _],_,h=>exact h.elim
 | [],_,h=>exact h.elim
 | [_],_,h=>exact h.elim
 | _::b::_::_,_,h=>cases b<;>exact h.elim
def ofP:M.P->PyData
 | .non=>.none
 | .bl b=>.bool b
 | .int i=>.int i
 | .str x=>.str (ofT x)
 | .tup ps=>.tuple (all ps)
 | .lst ps=>.list (all ps)
where all:List M.P->List PyData
 | []=>[]
 | p::ps=>ofP p::all ps
theorem zFm (x y:M.T):(ofT x == ofT y)=(x == y):=by
 by_cases h:x=y
 ·subst h;simp
 ·rw[beq_eq_false_iff_ne.mpr h,beq_eq_false_iff_ne.mpr fun e=>h (zC2 e)]
mutual
theorem zCw:∀ p q:M.P,PyData.eqv (ofP p) (ofP q)=M.P.eqv p q
 | .non,.non=>rfl
 | .non,.bl _=>rfl
 | .non,.int _=>rfl
 | .non,.str _=>rfl
 | .non,.tup _=>rfl
 | .non,.lst _=>rfl
 | .bl _,.non=>rfl
 | .bl _,.bl _=>rfl
 | .bl _,.int _=>rfl
 | .bl _,.str _=>rfl
 | .bl _,.tup _=>rfl
 | .bl _,.lst _=>rfl
 | .int _,.non=>rfl
 | .int _,.bl _=>rfl
 | .int _,.int _=>rfl
 | .int _,.str _=>rfl
 | .int _,.tup _=>rfl
 | .int _,.lst _=>rfl
 | .str _,.non=>rfl
 | .str _,.bl _=>rfl
 | .str _,.int _=>rfl
 | .str x,.str y=>zFm x y
 | .str _,.tup _=>rfl
 | .str _,.lst _=>rfl
 | .tup _,.non=>rfl
 | .tup _,.bl _=>rfl
 | .tup _,.int _=>rfl
 | .tup _,.str _=>rfl
 | .tup ps,.tup qs=>zBZ ps qs
 | .tup _,.lst _=>rfl
 | .lst _,.non=>rfl
 | .lst _,.bl _=>rfl
 | .lst _,.int _=>rfl
 | .lst _,.str _=>rfl
 | .lst _,.tup _=>rfl
 | .lst ps,.lst qs=>zBZ ps qs
theorem zBZ:∀ ps qs:List M.P,PyData.eqvAll (ofP.all ps) (ofP.all qs)=M.P.eqvs ps qs
 | [],[]=>rfl
 | [],_::_=>rfl
 | _::_,[]=>rfl
 | p::ps,q::qs=>by
  show (PyData.eqv (ofP p) (ofP q) && PyData.eqvAll (ofP.all ps) (ofP.all qs))=(M.P.eqv p q && M.P.eqvs ps qs)
  rw[zCw p q,zBZ ps qs]
end
mutual
theorem zAB:∀ p:M.P,PyData.depth (ofP p)=M.P.dep p
 | .non=>rfl
 | .bl _=>rfl
 | .int _=>rfl
 | .str _=>rfl
 | .tup ps=>by show PyData.depthAll (ofP.all ps)+1=M.P.deps ps+1;rw[zBW ps]
 | .lst ps=>by show PyData.depthAll (ofP.all ps)+1=M.P.deps ps+1;rw[zBW ps]
theorem zBW:∀ ps:List M.P,PyData.depthAll (ofP.all ps)=M.P.deps ps
 | []=>rfl
 | p::ps=>by show max (PyData.depth (ofP p)) (PyData.depthAll (ofP.all ps))=max (M.P.dep p) (M.P.deps ps);rw[zAB p,zBW ps]
end
section
variable {ρ:List Addr}{H:Hp}
mutual
theorem zGq {g:Nat->Option M.P} (hg:∀ i p v,g i=some p->zN K ρ H (.ref i) v->qB K H v (ofP p)/\(ofP p).canLay0=true):∀ {d:M.D}{p:M.P}{v:V},M.qq g d=some p->zN K ρ H d v->qB K H v (ofP p)/\(ofP p).canLay0=true
 | .non,_,_,e,r=>by cases e;cases r;exact⟨.non,rfl⟩
 | .bl _,_,_,e,r=>by cases e;cases r;exact⟨.bl _,rfl⟩
 | .int _,_,_,e,r=>by cases e;cases r;exact⟨.int _,rfl⟩
 | .str x,_,_,e,r=>by
  cases e
  obtain⟨rfl,ok⟩:=r
  refine⟨.str _,?_⟩
  show PyData.strOk (ofT x)=true
  unfold PyData.strOk ofT
  have ok':x.all (fun c=>decide (c < 1114112))=true:=ok
  simpa using ok'
 | .tup ds,_,_,e,r=>by
  obtain⟨l,xs,rfl,hq,rr⟩:=r
  have e':(M.qq.all g ds).map M.P.tup=some _:=e
  cases q:M.qq.all g ds with
  | none=>rw[q] at e';cases e'
  | some ps =>
   rw[q] at e'
   cases e'
   obtain⟨h1,h2⟩:=zCH hg q rr
   exact⟨.tup hq h1,h2⟩
 | .ro ds,_,_,e,r=>by
  obtain⟨l,xs,rfl,hq,rr⟩:=r
  have e':(M.qq.all g ds).map M.P.lst=some _:=e
  cases q:M.qq.all g ds with
  | none=>rw[q] at e';cases e'
  | some ps =>
   rw[q] at e'
   cases e'
   obtain⟨h1,h2⟩:=zCH hg q rr
   exact⟨.lst hq.sq h1,h2⟩
 | .ref i,_,_,e,r=>hg i _ _ e r
 | .ty _,_,_,e,_=>by cases e
theorem zCH {g:Nat->Option M.P} (hg:∀ i p v,g i=some p->zN K ρ H (.ref i) v->qB K H v (ofP p)/\(ofP p).canLay0=true):∀ {ds:List M.D}{ps:List M.P}{xs:List V},M.qq.all g ds=some ps->zJ K ρ H ds xs->ZS K H xs (ofP.all ps)/\PyData.canLayAll0 (ofP.all ps)=true
 | [],_,_,e,r=>by cases e;cases r;exact⟨.nil,rfl⟩
 | d::ds,_,_,e,r=>by
  obtain⟨y,ys,rfl,r1,r2⟩:=r
  have e':(match M.qq g d,M.qq.all g ds with | some p,some ps=>some (p::ps) | _,_=>none)=some _:=e
  cases q1:M.qq g d with
  | none=>rw[q1] at e';cases e'
  | some p =>
   cases q2:M.qq.all g ds with
   | none=>rw[q1,q2] at e';cases e'
   | some ps =>
    rw[q1,q2] at e'
    cases e'
    obtain⟨h1,h2⟩:=zGq hg q1 r1
    obtain⟨h3,h4⟩:=zCH hg q2 r2
    refine⟨.cons h1 h3,?_⟩
    show (PyData.canLay0 (ofP p) && PyData.canLayAll0 (ofP.all ps))=true
    rw[h2,h4];rfl
end
theorem zBD {S:M.S} (rp:zV K Θ ρ S H):∀ (n:Nat) {d:M.D}{p:M.P}{v:V},M.toP n S d=some p->zN K ρ H d v->qB K H v (ofP p)/\(ofP p).canLay0=true
 | 0,_,_,_,e,r=>zGq (fun i p v e _=>by cases e) e r
 | n+1,_,_,_,e,r=>zGq (fun i p v e r=>by
   obtain⟨a,rfl,ea⟩:=r
   have e':(match M.jL S i with | some xs=>(M.qq.all (fun j=>M.toP n S (.ref j)) xs).map M.P.lst | none=>none)=some p:=e
   cases q:S[i]? with
   | none=>simp[M.jL,q] at e'
   | some o =>
    cases o with
    | lst xs =>
     simp only[M.jL,q] at e'
     obtain⟨zs,e1,rr⟩:=Zi rp ea q
     cases q2:M.qq.all (fun j=>M.toP n S (.ref j)) xs with
     | none=>rw[q2] at e';cases e'
     | some ps =>
      rw[q2] at e'
      cases e'
      obtain⟨h1,h2⟩:=zCH (fun j p v e r=>zBD rp n e r) q2 rr
      exact⟨.lst (SqL.of e1) h1,h2⟩
    | dct kvs=>simp[M.jL,q] at e'
    | fdc _=>simp[M.jL,q] at e'
    | ins c fs=>simp[M.jL,q] at e') e r
end
abbrev DR (K:PySem.W.Frag) (ρ:List Addr) (H:Hp):List (M.D×M.D)->List (Key×V)->Prop:=Paired fun p q=>yT p.1 q.1/\zN K ρ H p.2 q.2
theorem zBi {d e:M.D}{a b:Key} (ha:yT d a) (hb:yT e b):(a=b)=(d=e):=by
 cases d with
 | int i =>
  cases ha
  cases e with
  | int j=>cases hb;exact propext ⟨fun z=>by cases z;rfl,fun z=>by cases z;rfl⟩
  | str y=>obtain⟨rfl,_⟩:=hb;exact propext ⟨fun z=>(nomatch z),fun z=>(nomatch z)⟩
  | _=>exact hb.elim
 | str x =>
  obtain⟨rfl,_⟩:=ha
  cases e with
  | int j=>cases hb;exact propext ⟨fun z=>(nomatch z),fun z=>(nomatch z)⟩
  | str y=>obtain⟨rfl,_⟩:=hb;exact propext ⟨fun z=>by rw[zC2 (Sum.inr.inj z)],fun z=>by cases z;rfl⟩
  | _=>exact hb.elim
 | _=>exact ha.elim
theorem Qa {ρ:List Addr}{H:Hp}{d:M.D}{v:V} (h:M.ji d=true) (r:zN K ρ H d v):∃ k,yT d k/\v=kV k:=by
 cases d with
 | int i=>cases r;exact⟨.inl i,rfl,rfl⟩
 | str x=>obtain⟨rfl,ok⟩:=r;exact⟨.inr (ofT x),⟨rfl,ok⟩,rfl⟩
 | _=>cases h
section
variable {ρ:List Addr}{H:Hp}{kvs:List (M.D×M.D)}{ks:List (Key×V)}{d:M.D}{k:Key}
theorem DR.val (r:DR K ρ H kvs ks) (hk:yT d k):match M.jm d kvs with | some e=>∃ v,yB ks k=some v/\zN K ρ H e v | none=>yB ks k=none:=by
 induction r with
 | nil=>exact rfl
 | @cons p q ps qs h t ih =>
  have e:=zBi h.1 hk
  by_cases hd:p.1=d
  ·have hq:q.1=k:=e.mpr hd
   rw[zAP hq,M.jm,List.lookup_cons,beq_iff_eq.mpr hd.symm]
   exact⟨_,rfl,h.2⟩
  ·have hq:¬ q.1=k:=fun z=>hd (e.mp z)
   rw[zAd hq,M.jm,List.lookup_cons,beq_eq_false_iff_ne.mpr (Ne.symm hd)]
   exact ih
theorem DR.any (r:DR K ρ H kvs ks) (hk:yT d k):(ks.any fun kv=>decide (kv.1=k))=kvs.any fun kv=>decide (kv.1=d):=by
 induction r with
 | nil=>rfl
 | @cons p q ps qs h t ih =>
  rw[List.any_cons,List.any_cons,ih]
  congr 1
  exact decide_eq_decide.mpr (zBi h.1 hk ▸ Iff.rfl)
theorem DR.put (r:DR K ρ H kvs ks) (hk:yT d k) {e:M.D}{v:V} (rv:zN K ρ H e v):DR K ρ H (M.qN d e kvs) (Zy ks k v):=by
 unfold M.qN Zy
 rw[r.any hk]
 by_cases ha:(kvs.any fun kv=>decide (kv.1=d))=true
 ·rw[if_pos ha,if_pos ha]
  clear ha
  induction r with
  | nil=>exact .nil
  | @cons p q ps qs h t ih =>
   rw[List.map_cons,List.map_cons]
   refine .cons ?_ ih
   have eq:=zBi h.1 hk
   by_cases hd:p.1=d
   ·rw[if_pos hd,if_pos (eq.mpr hd)];exact⟨h.1,rv⟩
   ·rw[if_neg hd,if_neg fun z=>hd (eq.mp z)];exact h
 ·rw[if_neg ha,if_neg ha]
  exact Paired.snoc r ⟨hk,rv⟩
end
theorem QI {ρ:List Addr}{S:M.S}{H:Hp} (rp:zV K Θ ρ S H) {i:Nat}{a:Addr} (ha:ρ[i]? = some a) {kvs:List (M.D×M.D)} (q:S[i]? = some (.dct kvs)):∃ ks,H a=some (.dK ks)/\DR K ρ H kvs ks:=by
 obtain⟨b,e1,zs,e2,r⟩:=rp.obj i _ q
 rw[ha] at e1;cases e1
 exact⟨zs,e2,r⟩
theorem zHl {ρ:List Addr}{S:M.S}{H:Hp} (rp:zV K Θ ρ S H) {i:Nat}{a:Addr} (ha:ρ[i]? = some a) {kvs:List (M.D×M.D)} (q:S[i]? = some (.fdc kvs)):∃ o ks,H a=some (.frz o (.dK ks))/\DR K ρ H kvs ks:=by
 obtain⟨b,e1,o,zs,e2,r⟩:=rp.obj i _ q
 rw[ha] at e1;cases e1
 exact⟨o,zs,e2,r⟩
inductive Qr (K:PySem.W.Frag) (H:Hp) (kb:List (Key×V)):List (Key×V)->Bool->Prop where
 | nil:Qr K H kb [] true
 | miss {k:Key}{v:V}{r:List (Key×V)} (h:yB kb k=none):Qr K H kb ((k,v)::r) false
 | hit {k:Key}{v y:V}{r:List (Key×V)}{d e:PyData}{b:Bool} (h:yB kb k=some y) (hd:qB K H v d) (he:qB K H y e) (sd:SeqAt.shaped d=true) (se:SeqAt.shaped e=true) (t:Qr K H kb r b):Qr K H kb ((k,v)::r) (PyData.eqv d e && b)
def zJI (neg:Bool) (K:PySem.W.Frag):R2:=fun x y H Q=>∃ a b ka kb r,x=.ref a/\y=.ref b/\H a=some (.dK ka)/\H b=some (.dK kb)/\(ka.length=kb.length->Qr K H kb ka r)/\Q (.bl (if neg then !(ka.length == kb.length && r) else (ka.length == kb.length && r))) H
theorem zCs {X:Cx}{pins:List (Addr×Obj)}{σ:St}{H:Hp}{s:Shared}{A:Around} (I:Inv X pins σ H s) (hu:A.units+64 < cLine) {kb:List (Key×V)}{vb:List (Key×Value)} (rb:KV kb vb):∀ {ka:List (Key×V)}{va:List (Key×Value)}{r:Bool},KV ka va->Qr X.K H kb ka r->PySem.W.KeqHits A s vb va r
 | _,_,_,ra,.nil=>by cases ra;exact .nil
 | _,_,_,ra,.miss h=>by
  cases ra with
  | @cons p q ps qs h1 t =>
   obtain⟨k,v⟩:=q
   have hk:_=k:=h1.1
   have hv:=rb.val k
   rw[<- hk,h] at hv
   refine .miss ?_
   rw[<- hk]
   cases q2:valueAt vb _ with
   | none=>rfl
   | some w=>rw[q2] at hv;exact hv.elim
 | _,_,_,ra,.hit h hd he sd se t=>by
  cases ra with
  | @cons p q ps qs h1 t1 =>
   obtain⟨k,v⟩:=q
   have hk:_=k:=h1.1
   have hv:=rb.val k
   rw[<- hk,h] at hv
   cases q2:valueAt vb k with
   | none=>rw[hk,q2] at hv;exact hv.elim
   | some w =>
    rw[hk,q2] at hv
    obtain⟨as,r1⟩:=hd.reads I h1.2
    obtain⟨bs,r2⟩:=he.reads I hv
    exact .hit q2 (SeqAt.eqAt_reads _ _ A s _ _ as bs r1 r2 (SeqAt.canLay_of_shaped sd) (SeqAt.canLay_of_shaped se) (SeqAt.room_of_shaped sd hu)) (zCs I hu rb t1 t)
theorem zMb {X:Cx}{k:Nat} (hr:jN k X.A):OpR X (compareOp .Eq) (zJI false X.K):=by
 intro pins s σ H x y v u Q I rx ry h
 obtain⟨a,b,ka,kb,r,rfl,rfl,ha,hb,hh,q⟩:=h
 cases rx;cases ry
 obtain⟨za,la,va,ra,da⟩:=zAi I.hok ha
 obtain⟨zb,lb,vb,rb,db⟩:=zAi I.hok hb
 refine PySem.W.keq_eq la lb da db hr.units0 (fun e=>zCs I (by show X.A.units+1+64 < _;have:=hr.un;omega) rb ra (hh (by rw[ra.length,rb.length];exact e))) ⟨.bl _,H,I,rfl,?_⟩
 rw[<- ra.length,<- rb.length]
 exact q
theorem zMf {X:Cx}{k:Nat} (hr:jN k X.A):OpR X (compareOp .NotEq) (zJI true X.K):=by
 intro pins s σ H x y v u Q I rx ry h
 obtain⟨a,b,ka,kb,r,rfl,rfl,ha,hb,hh,q⟩:=h
 cases rx;cases ry
 obtain⟨za,la,va,ra,da⟩:=zAi I.hok ha
 obtain⟨zb,lb,vb,rb,db⟩:=zAi I.hok hb
 refine PySem.W.keq_ne la lb da db hr.units0 (fun e=>zCs I (by show X.A.units+1+64 < _;have:=hr.un;omega) rb ra (hh (by rw[ra.length,rb.length];exact e))) ⟨.bl _,H,I,rfl,?_⟩
 rw[<- ra.length,<- rb.length]
 exact q
theorem zEi {ρ:List Addr}{H:Hp}{S:M.S} (rp:zV K Θ ρ S H) {ws:List (M.D×M.D)}{kb:List (Key×V)} (rb:DR K ρ H ws kb):∀ {ks:List (M.D×M.D)}{ka:List (Key×V)}{b:Bool},DR K ρ H ks ka->M.dEq S ws ks=some b->Qr K H kb ka b
 | _,_,_,.nil,e=>by cases e;exact .nil
 | (k,v)::ks,(kk,vv)::ka,b,.cons h t,e=>by
  have hv:=DR.val rb h.1
  unfold M.dEq at e
  cases q:M.jm k ws with
  | none =>
   rw[q] at e hv
   cases e
   exact .miss hv
  | some w =>
   rw[q] at e hv
   obtain⟨y,hy,ry⟩:=hv
   dsimp only at e
   cases q1:M.toP 8 S v with
   | none=>rw[q1] at e;cases e
   | some p1 =>
    cases q2:M.toP 8 S w with
    | none=>rw[q1,q2] at e;cases e
    | some p2 =>
     cases q3:M.dEq S ws ks with
     | none=>rw[q1,q2,q3] at e;cases e
     | some b' =>
      rw[q1,q2,q3] at e
      dsimp only at e
      by_cases hc:M.P.dep p1 <= 64/\M.P.dep p2 <= 64
      ·rw[if_pos hc] at e
       cases e
       obtain⟨d1,c1⟩:=zBD rp _ q1 h.2
       obtain⟨d2,c2⟩:=zBD rp _ q2 ry
       rw[<- zCw]
       refine .hit hy d1 d2 ?_ ?_ (zEi rp rb t q3)
       ·unfold SeqAt.shaped;rw[c1,Bool.true_and,zAB];exact decide_eq_true hc.1
       ·unfold SeqAt.shaped;rw[c2,Bool.true_and,zAB];exact decide_eq_true hc.2
      ·rw[if_neg hc] at e;cases e
theorem zEw {ρ:List Addr}{H:Hp}{S:M.S}{x y:M.D}{X1 Y:V}{Q':Bool->Hp->Prop} (rp:zV K Θ ρ S H) (rx:zN K ρ H x X1) (ry:zN K ρ H y Y) (h:zD K Θ rB ρ H (M.zCK x y S) Q') :
  ∃ a b ka kb r,X1=.ref a/\Y=.ref b/\H a=some (.dK ka)/\H b=some (.dK kb)/\(ka.length=kb.length->Qr K H kb ka r)/\Q' (ka.length == kb.length && r) H:=by
 unfold M.zCK at h
 split at h
 ·rename_i i j
  split at h
  ·rename_i ks ws e1 e2
   obtain⟨a,rfl,ha⟩:=rx
   obtain⟨b,rfl,hb⟩:=ry
   obtain⟨ka,h1,r1⟩:=QI rp ha e1
   obtain⟨kb,h2,r2⟩:=QI rp hb e2
   have l1:=Paired.length r1
   have l2:=Paired.length r2
   split at h
   ·rename_i hl
    split at h
    ·rename_i bb q
     refine⟨a,b,ka,kb,bb,rfl,rfl,h1,h2,fun _=>zEi rp r2 r1 q,?_⟩
     rw[show (ka.length == kb.length)=true by rw[beq_iff_eq];omega,Bool.true_and]
     exact zD.here (b:=bb) h rp rfl
    ·exact h.elim
   ·rename_i hl
    refine⟨a,b,ka,kb,false,rfl,rfl,h1,h2,fun e=>absurd (by omega) hl,?_⟩
    rw[Bool.and_false]
    exact zD.here (b:=false) h rp rfl
  ·exact h.elim
 ·exact h.elim
def zGy (K:PySem.W.Frag) (neg:Bool):R2:=fun x y H Q=>(zCe x y=true/\Q (.bl (if neg then !decide (x=y) else decide (x=y))) H)\/zIi K neg x y H Q\/zJI neg K x y H Q
theorem yc {X:Cx}{k:Nat} (hr:jN k X.A):OpR X (compareOp .Eq) (zGy X.K false):=by
 intro pins s σ H x y v u Q I rx ry h
 rcases h with h | h | h
 ·exact zNK pins s σ H x y v u Q I rx ry h
 ·exact zLe hr pins s σ H x y v u Q I rx ry h
 ·exact zMb hr pins s σ H x y v u Q I rx ry h
theorem zL3 {X:Cx}{k:Nat} (hr:jN k X.A):OpR X (compareOp .NotEq) (zGy X.K true):=by
 intro pins s σ H x y v u Q I rx ry h
 rcases h with h | h | h
 ·exact zNE pins s σ H x y v u Q I rx ry h
 ·exact zLv hr pins s σ H x y v u Q I rx ry h
 ·exact zMf hr pins s σ H x y v u Q I rx ry h
theorem zFq {ρ:List Addr}{H:Hp}{S:M.S}{x y:M.D}{X1 Y:V}{Q':Bool->Hp->Prop} (rp:zV K Θ ρ S H) (rx:zN K ρ H x X1) (ry:zN K ρ H y Y) (h:zD K Θ rB ρ H (M.eqD x y S) Q') :
  (zCe X1 Y=true/\Q' (decide (X1=Y)) H)\/(∃ d e,qB K H X1 d/\qB K H Y e/\SeqAt.shaped d=true/\SeqAt.shaped e=true/\Q' (PyData.eqv d e) H)\/∃ a b ka kb r,X1=.ref a/\Y=.ref b/\H a=some (.dK ka)/\H b=some (.dK kb)/\(ka.length=kb.length->Qr K H kb ka r)/\Q' (ka.length == kb.length && r) H:=by
 have gen:∀ {p q:M.P},M.toP M.Jc S x=some p->M.toP M.Jc S y=some q->M.P.dep p <= 64/\M.P.dep q <= 64->Q' (M.P.eqv p q) H->∃ d e,qB K H X1 d/\qB K H Y e/\SeqAt.shaped d=true/\SeqAt.shaped e=true/\Q' (PyData.eqv d e) H:=fun {p q} e1 e2 hd hq=>by
  obtain⟨d1,c1⟩:=zBD rp _ e1 rx
  obtain⟨d2,c2⟩:=zBD rp _ e2 ry
  refine⟨_,_,d1,d2,?_,?_,by rw[zCw];exact hq⟩
  ·unfold SeqAt.shaped;rw[c1,Bool.true_and,zAB];exact decide_eq_true hd.1
  ·unfold SeqAt.shaped;rw[c2,Bool.true_and,zAB];exact decide_eq_true hd.2
 have jt:zD K Θ rB ρ H (match M.toP M.Jc S x,M.toP M.Jc S y with
   | some p,some q=>if M.P.dep p <= 64/\M.P.dep q <= 64 then M.R.ok (M.P.eqv p q) S else .no
   | _,_=>M.zCK x y S) Q'->(∃ d e,qB K H X1 d/\qB K H Y e/\SeqAt.shaped d=true/\SeqAt.shaped e=true/\Q' (PyData.eqv d e) H)\/∃ a b ka kb r,X1=.ref a/\Y=.ref b/\H a=some (.dK ka)/\H b=some (.dK kb)/\(ka.length=kb.length->Qr K H kb ka r)/\Q' (ka.length == kb.length && r) H:=fun h'=>by
  cases e1:M.toP M.Jc S x with
  | none=>rw[e1] at h';exact .inr (zEw rp rx ry h')
  | some p =>
   cases e2:M.toP M.Jc S y with
   | none=>rw[e1,e2] at h';exact .inr (zEw rp rx ry h')
   | some q =>
    rw[e1,e2] at h'
    dsimp only at h'
    by_cases hc:M.P.dep p <= 64/\M.P.dep q <= 64
    ·rw[if_pos hc] at h';exact .inl <| gen e1 e2 hc (zD.here (b:=M.P.eqv p q) h' rp rfl)
    ·rw[if_neg hc] at h';exact h'.elim
 have sc:∀ {b:Bool},zCe X1 Y=true->decide (X1=Y)=b->M.eqD x y S=.ok b S->(zCe X1 Y=true/\Q' (decide (X1=Y)) H):=fun {b} h1 h2 h3=>by
  rw[h3] at h
  rw[h2]
  exact⟨h1,zD.here (b:=b) h rp rfl⟩
 cases x with
 | str a =>
  cases y with
  | str b =>
   obtain⟨rfl,_⟩:=rx
   obtain⟨rfl,_⟩:=ry
   refine .inl (sc rfl ?_ rfl)
   by_cases hab:a=b
   ·subst hab;simp
   ·rw[decide_eq_false hab,decide_eq_false fun e=>hab (zC2 (V.str.inj e))]
  | _=>exact .inr (jt h)
 | int a =>
  cases y with
  | int b =>
   cases rx;cases ry
   refine .inl (sc rfl ?_ rfl)
   by_cases hab:a=b
   ·subst hab;simp
   ·rw[decide_eq_false hab,decide_eq_false fun e=>hab (V.int.inj e)]
  | _=>exact .inr (jt h)
 | bl a =>
  cases y with
  | bl b =>
   cases rx;cases ry
   refine .inl (sc rfl ?_ rfl)
   by_cases hab:a=b
   ·subst hab;simp
   ·rw[decide_eq_false hab,decide_eq_false fun e=>hab (V.bl.inj e)]
  | _=>exact .inr (jt h)
 | non =>
  cases y with
  | non=>cases rx;cases ry;exact .inl (sc rfl rfl rfl)
  | _=>exact .inr (jt h)
 | _=>exact .inr (jt h)
theorem ZY:AdC K Θ M.cEq (zGy K false):=by
 intro ρ H S x y X1 Y Q rp rx ry h
 rcases zFq rp rx ry h with h | ⟨d,e,h1,h2,h3,h4,h5⟩ | ⟨a,b,ka,kb,r,h⟩
 ·exact .inl h
 ·exact .inr (.inl ⟨d,e,h1,h2,h3,h4,h5⟩)
 ·exact .inr (.inr ⟨a,b,ka,kb,r,h⟩)
theorem zNX:AdC K Θ M.cNe (zGy K true):=by
 intro ρ H S x y X1 Y Q rp rx ry h
 have h':zD K Θ rB ρ H (M.eqD x y S) (fun b H'=>Q (.bl (!b)) H'):=zD.bind h fun ρ1 H1 b b' S1 p1 l1 rp1 e h1=>by cases e;exact zD.here (b:=!b) h1 rp1 rfl
 rcases zFq rp rx ry h' with h | ⟨d,e,h1,h2,h3,h4,h5⟩ | ⟨a,b,ka,kb,r,h⟩
 ·exact .inl h
 ·exact .inr (.inl ⟨d,e,h1,h2,h3,h4,h5⟩)
 ·exact .inr (.inr ⟨a,b,ka,kb,r,h⟩)
end
end L2
namespace L2
open PySem PySem.Spec PyProof.Rows
section
variable {K:PySem.W.Frag}{Θ:Tab}
theorem Jp (n d:Nat) (o:Option Int):M.sIx n d o=HT.sIx n d o:=by
 cases o with
 | none=>rfl
 | some v =>
  have:=HT.zCf v n d
  show (if v < 0 then max (v+(n:Int)) 0 else min v (n:Int)).toNat=_
  rw[this];simp
theorem zCx {x:M.T}{lo hi:Option Int}:∀ c∈M.cut x lo hi,c∈x:=fun c hc=>List.mem_of_mem_drop (List.mem_of_mem_take hc)
theorem zCi {ρ:List Addr}{H:Hp}{ds:List M.D}{xs:List V} (r:zJ K ρ H ds xs) (lo hi:Option Int):zJ K ρ H (M.cut ds lo hi) (Jh xs lo hi):=by
 unfold M.cut Jh
 rw[Jp,Jp,r.length]
 exact (r.drop _).take _
theorem zAH:∀ ρ H S x X1 l u Q,zV K Θ ρ S H->zN K ρ H x X1->zD K Θ (zN K) ρ H (M.slD x l u S) Q->uSl K X1 l u H Q:=by
 intro ρ H S x X1 l u Q rp rx h
 cases x with
 | str z =>
  obtain⟨rfl,ok⟩:=rx
  by_cases hz:z.length <= M.SZ
  ·simp only[M.slD,if_pos hz] at h
   refine⟨by rw[j9,<- Zr];exact hz,zD.here h rp ⟨?_,zBH ok zCx⟩⟩
   show V.str (zC3 (ofT z) l u)=V.str (ofT (M.cut z l u))
   unfold zC3 M.cut ofT
   have e:(⟨z.toArray⟩:Str).length=z.length:=by simp[Str.length]
   rw[e,Jp,Jp]
  ·simp only[M.slD,if_neg hz] at h;exact h.elim
 | tup ds =>
  obtain⟨a,xs,rfl,hq,r⟩:=rx
  by_cases hc:M.sIx ds.length 0 l=0/\M.sIx ds.length ds.length u=ds.length
  ·simp only[M.slD,if_pos hc] at h;exact h.elim
  ·simp only[M.slD,if_neg hc] at h
   refine .inr ⟨xs,hq,?_,fun p hp=>h ρ _ _ (List.prefix_refl _) (Le.new hp _) (rp.aside hp _) ⟨p,_,rfl,SqT.of z9,(zCi r l u).mono (List.prefix_refl _) (Le.new hp _)⟩⟩
   rw[Jp,Jp,r.length] at hc
   exact hc
 | ro ds =>
  obtain⟨a,xs,rfl,hq,r⟩:=rx
  exact .inl ⟨xs,hq.sq,fun p hp=>zD.alloc h rp (zCi r l u) hp⟩
 | ref p =>
  obtain⟨a,rfl,ea⟩:=rx
  cases q:S[p]? with
  | none=>simp[M.slD,M.jL,q] at h;exact h.elim
  | some o =>
   cases o with
   | lst xs =>
    simp only[M.slD,M.jL,q] at h
    obtain⟨zs,e1,r⟩:=Zi rp ea q
    exact .inl ⟨zs,SqL.of e1,fun p hp=>zD.alloc h rp (zCi r l u) hp⟩
   | dct kvs=>simp[M.slD,M.jL,q] at h;exact h.elim
   | fdc _=>simp[M.slD,M.jL,q] at h;exact h.elim
   | ins c fs=>simp[M.slD,M.jL,q] at h;exact h.elim
 | _=>exact h.elim
theorem zDV {ρ:List Addr}{H:Hp}:∀ {ds:List M.D}{ys:List V}{bs:List Bool},M.JT ds=some bs->zJ K ρ H ds ys->ys=bs.map V.bl
 | [],_,_,e,r=>by cases e;cases r;rfl
 | .bl b::ds,_,_,e,r=>by
  obtain⟨y,ys,rfl,r1,r2⟩:=r
  cases r1
  have e':(M.JT ds).map (b :: ·)=some _:=e
  cases q:M.JT ds with
  | none=>rw[q] at e';cases e'
  | some cs=>rw[q] at e';cases e';rw[zDV q r2];rfl
 | .non::_,_,_,e,_=>by cases e
 | .int _::_,_,_,e,_=>by cases e
 | .str _::_,_,_,e,_=>by cases e
 | .tup _::_,_,_,e,_=>by cases e
 | .ro _::_,_,_,e,_=>by cases e
 | .ref _::_,_,_,e,_=>by cases e
 | .ty _::_,_,_,e,_=>by cases e
theorem zKC:AdK K Θ M.zBh (zLx K):=by
 intro ρ H S ds ys p Q rp r hq h
 cases e:M.JT ds with
 | none=>simp only[M.zBh,e] at h;exact h.elim
 | some bs =>
  simp only[M.zBh,e] at h
  have:=zDV e r
  subst this
  exact⟨p,bs,rfl,hq,zD.here (b:=V.bl (bs.all id)) h rp rfl⟩
theorem JV {ρ:List Addr}{H:Hp}:∀ {ds:List M.D}{ys:List V}{ts:List M.T},M.qA ds=some ts->zJ K ρ H ds ys->ys=(ts.map ofT).map V.str/\∀ t∈ts,okT t
 | [],_,_,e,r=>by cases e;cases r;exact⟨rfl,fun t h=>by cases h⟩
 | .str x::ds,_,_,e,r=>by
  obtain⟨y,ys,rfl,r1,r2⟩:=r
  obtain⟨rfl,ok⟩:=r1
  have e':(M.qA ds).map (x :: ·)=some _:=e
  cases q:M.qA ds with
  | none=>rw[q] at e';cases e'
  | some cs =>
   rw[q] at e'
   cases e'
   obtain⟨h1,h2⟩:=JV q r2
   refine⟨by rw[h1];rfl,fun t ht=>?_⟩
   rcases List.mem_cons.mp ht with rfl | ht
   ·exact ok
   ·exact h2 t ht
 | .non::_,_,_,e,_=>by cases e
 | .int _::_,_,_,e,_=>by cases e
 | .bl _::_,_,_,e,_=>by cases e
 | .tup _::_,_,_,e,_=>by cases e
 | .ro _::_,_,_,e,_=>by cases e
 | .ref _::_,_,_,e,_=>by cases e
 | .ty _::_,_,_,e,_=>by cases e
theorem zDL (x:M.T):∀ (ys:List M.T) (acc:M.T),((ys.map ofT).foldl (fun acc p=>acc++(ofT x).cps++p.cps) acc.toArray)=(acc++(ys.map (x ++ ·)).flatten).toArray
 | [],acc=>by simp
 | y::ys,acc=>by
  rw[List.map_cons,List.foldl_cons]
  have e:acc.toArray++(ofT x).cps++(ofT y).cps=(acc++x++y).toArray:=by simp[ofT]
  rw[e,zDL x ys]
  simp
theorem zBr (x y:M.T):∀ ys:List M.T,M.Qq x (y::ys)=y++(ys.map (x ++ ·)).flatten
 | []=>by simp[M.Qq]
 | z::ys=>by
  show y++x++M.Qq x (z::ys)=_
  rw[zBr x z ys];simp
theorem zK6 (x:M.T) (ys:List M.T):Txt.join (ofT x) (ys.map ofT)=ofT (M.Qq x ys):=by
 cases ys with
 | nil=>rfl
 | cons y ys =>
  show (⟨(((y::ys).map ofT).drop 1).foldl (fun acc p=>acc++(ofT x).cps++p.cps) (((y::ys).map ofT).headD Str.empty).cps⟩:Str)=_
  rw[zBr,List.map_cons,List.drop_one,List.tail_cons]
  have:=zDL x ys y
  show (⟨(ys.map ofT).foldl _ y.toArray⟩:Str)=_
  rw[this];rfl
theorem zEc {x:M.T} (hx:okT x):∀ {ys:List M.T},(∀ t∈ys,okT t)->okT (M.Qq x ys)
 | [],_=>rfl
 | [y],h=>h y (by simp)
 | y::z::ys,h=>zCq (zCq (h y (by simp)) hx) (zEc hx fun t ht=>h t (List.mem_cons_of_mem _ ht))
theorem zKh (ts:List M.T):((ts.map ofT).map (·.length)).sum=(ts.map List.length).sum:=by
 rw[List.map_map]
 exact congrArg List.sum (List.map_congr_left fun t _=>j9 t)
theorem zJQ {y:M.T} (hy:okT y):∀ ρ H S ds ys p Q,zV K Θ ρ S H->zJ K ρ H ds ys->(SqL K H p ys\/SqT K H p ys)->zD K Θ (zN K) ρ H (M.QK y ds S) Q->zDu K (.str (ofT y)) [.ref p] H Q:=by
 intro ρ H S ds ys p Q rp r hq h
 cases e:M.qA ds with
 | none=>simp only[M.QK,e] at h;exact h.elim
 | some ts =>
  obtain⟨rfl,ok⟩:=JV e r
  by_cases hz:(ts.map List.length).sum+ts.length * y.length <= M.SZ
  ·simp only[M.QK,e,if_pos hz] at h
   refine⟨ofT y,p,ts.map ofT,rfl,rfl,hq,?_,?_⟩
   ·rw[zKh,List.length_map,j9];exact hz
   ·rw[zK6];exact zD.here h rp ⟨rfl,zEc hy ok⟩
  ·simp only[M.QK,e,if_neg hz] at h;exact h.elim
end
end L2
namespace L2
open PySem PySem.Spec PyProof.Rows
section
variable {K:PySem.W.Frag}{Θ:Tab}
theorem zAk (a:M.T):∀ (n:Nat) (acc:Array Nat),(List.replicate n a.toArray).foldl (· ++ ·) acc=acc++((List.replicate n a).flatten).toArray
 | 0,acc=>by simp
 | n+1,acc=>by
  rw[List.replicate_succ,List.foldl_cons,zAk a n,List.replicate_succ,List.flatten_cons]
  simp
theorem zKx (a:M.T) (n:Int) (h0:0 <= n):Txt.mul (ofT a) n=ofT (List.replicate n.toNat a).flatten:=by
 unfold Txt.mul
 by_cases h1:n < 1
 ·have e:n.toNat=0:=by omega
  rw[if_pos h1,e];rfl
 ·rw[if_neg h1]
  by_cases h2:(n == 1 || (ofT a).length == 0)=true
  ·rw[if_pos h2]
   rw[Bool.or_eq_true] at h2
   rcases h2 with h2 | h2
   ·have e:n=1:=eq_of_beq h2
    subst e
    simp
   ·have e:a.length=0:=by rw[<- j9];exact eq_of_beq h2
    have e2:a=[]:=List.length_eq_zero_iff.mp e
    subst e2
    simp[ofT]
  ·rw[if_neg h2]
   have:=zAk a n.toNat #[]
   show (⟨(List.replicate n.toNat a.toArray).foldl (· ++ ·) #[]⟩:Str)=_
   rw[this];simp[ofT]
theorem zLM (a:M.T) (n:Int) (h0:0 <= n) (h1:n <= 1000000) (h2:a.length * n.toNat <= 1000000):MulOk (ofT a) n:=by
 refine⟨?_,fun h3 _=>?_,fun h3 _=>?_⟩
 ·rw[Bool.or_eq_false_iff]
  exact⟨decide_eq_false (by omega),decide_eq_false (by omega)⟩
 ·rw[j9]
  have hn:1 <= n.toNat:=by omega
  have ha:a.length <= 1000000:=Nat.le_trans (Nat.le_mul_of_pos_right _ (by omega)) h2
  have hd:(1000000:Int) <= (2 ^ 63 - 1) / n:=Int.le_ediv_of_mul_le (by omega) (by omega)
  omega
 ·rw[j9]
  unfold Builtin.Str.tooLong
  exact decide_eq_false (by rw[sizeLine_eq];omega)
def zJx:R2:=fun x y H Q=>zMz x y H Q\/zMB x y H Q
theorem zAy {X:Cx}:OpR X (binaryOp .Mult) zJx:=OpR.or zNO zMR
theorem zJ.flat {ρ:List Addr}{H:Hp}{ds:List M.D}{xs:List V} (h:zJ K ρ H ds xs):∀ n:Nat,zJ K ρ H (List.replicate n ds).flatten (List.replicate n xs).flatten
 | 0=>rfl
 | n+1=>by
  rw[List.replicate_succ,List.replicate_succ,List.flatten_cons,List.flatten_cons]
  exact zJ.app h (zJ.flat h n)
theorem zA5:Ad2 K Θ M.Zm zJx:=by
 intro ρ H S x y X Y Q rp rx ry h
 cases x with
 | int i =>
  cases y with
  | int j =>
   cases rx;cases ry
   have h':zD K Θ (zN K) ρ H (if (M.small i || M.small j)=true then M.R.ok (M.D.int (i * j)) S else .no) Q:=h
   by_cases hc:(M.small i || M.small j)=true
   ·rw[if_pos hc] at h'
    refine .inl ⟨?_,zD.here (b:=V.int (i * j)) h' rp rfl⟩
    rw[Bool.or_eq_true] at hc
    rcases hc with hc | hc
    ·exact .inl (zEf hc)
    ·exact .inr (zEf hc)
   ·rw[if_neg hc] at h';exact h'.elim
  | _=>exact h.elim
 | str a =>
  cases y with
  | int n =>
   obtain⟨rfl,oka⟩:=rx
   cases ry
   have h':zD K Θ (zN K) ρ H (if 0 <= n/\n.natAbs <= 1000000/\a.length * n.natAbs <= 1000000 then M.R.ok (M.D.str (List.replicate n.toNat a).flatten) S else .no) Q:=h
   by_cases hc:0 <= n/\n.natAbs <= 1000000/\a.length * n.natAbs <= 1000000
   ·rw[if_pos hc] at h'
    have hn:n.natAbs=n.toNat:=by omega
    refine .inl ⟨zLM a n hc.1 (by omega) (by rw[<- hn];exact hc.2.2),?_⟩
    show Q (.str (Txt.mul (ofT a) n)) H
    rw[zKx a n hc.1]
    refine zD.here h' rp ⟨rfl,zBH oka fun c hc=>?_⟩
    obtain⟨l,hl,hcl⟩:=List.mem_flatten.mp hc
    rw[(List.mem_replicate.mp hl).2] at hcl
    exact hcl
   ·rw[if_neg hc] at h';exact h'.elim
  | _=>exact h.elim
 | ref p =>
  cases y with
  | int n =>
   cases ry
   have h':zD K Θ (zN K) ρ H (match M.jL S p with | some xs=>if n.natAbs <= 1000/\xs.length * n.natAbs <= 1000000 then M.alloc (.lst (List.replicate n.toNat xs).flatten) S else .no | none=>.no) Q:=h
   cases q:S[p]? with
   | none=>simp only[M.jL,q] at h';exact h'.elim
   | some o =>
    cases o with
    | lst ds =>
     simp only[M.jL,q] at h'
     obtain⟨a,rfl,ea⟩:=rx
     obtain⟨zs,e1,r⟩:=Zi rp ea q
     by_cases hc:n.natAbs <= 1000/\ds.length * n.natAbs <= 1000000
     ·rw[if_pos hc] at h'
      have hn:n.toNat <= n.natAbs:=by omega
      refine .inr ⟨a,n,zs,rfl,rfl,e1,by omega,by omega,?_,fun p hp=>zD.alloc h' rp (zJ.flat r n.toNat) hp⟩
      have hm:=Nat.mul_le_mul_left ds.length hn
      rw[<- r.length,sizeLine_eq]
      omega
     ·rw[if_neg hc] at h';exact h'.elim
    | dct _=>simp only[M.jL,q] at h';exact h'.elim
    | fdc _=>simp only[M.jL,q] at h';exact h'.elim
    | ins _ _=>simp only[M.jL,q] at h';exact h'.elim
  | _=>exact h.elim
 | _=>exact h.elim
def zLV (K:PySem.W.Frag):R2:=fun x y H Q=>uIx K x y H Q\/∃ a v,x=.ref a/\Zu H a y (some v)/\Q v H
theorem yx {X:Cx}{k:Nat} (hr:jN k X.A):IxR X (zLV X.K):=by
 refine IxR.or zNt ?_
 intro value slice pins s σ H x y v u Q I rx ry h hs
 obtain⟨a,w',rfl,g,q⟩:=h
 cases rx
 exact tail_any (zFJ I g) PySem.F.slot_dict_getitem.lookup (zHY (zCC hr) I g ry fun w2 s3 I3 rw'=>⟨w',H,I3,rw',q⟩) hs
def zJp (K:PySem.W.Frag):List V->Hp->VK->Prop:=fun xs H Q=>zMX K xs H Q\/∃ a kvs,xs=[V.ref a]/\H a=some (.dK kvs)/\Q (.int kvs.length) H
theorem qe {X:Cx}:jp X (.builtin "len") (zJp X.K):=jp.or zNH zHI
theorem qo:Ad2 K Θ M.zt (zLV K):=by
 intro ρ H S x y X Y Q rp rx ry h
 cases x with
 | str a =>
  cases y with
  | int i =>
   obtain⟨rfl,oka⟩:=rx
   cases ry
   have h':zD K Θ (zN K) ρ H (if a.length <= M.SZ then (match M.atI a i with | some c=>M.R.ok (M.D.str [c]) S | none=>.no) else .no) Q:=h
   by_cases hc:a.length <= M.SZ
   ·rw[if_pos hc] at h'
    cases q:M.atI a i with
    | none=>rw[q] at h';exact h'.elim
    | some c =>
     rw[q] at h'
     refine .inl ⟨c,by rw[j9,<- Zr];exact hc,?_,zD.here (b:=V.str (ofT [c])) h' rp ⟨rfl,zBH oka fun d hd=>by
      have e:d=c:=by simpa using hd
      rw[e]
      unfold M.atI at q
      cases qi:M.ixN a.length i with
      | none=>rw[qi] at q;cases q
      | some j=>rw[qi] at q;exact List.mem_of_getElem? q⟩⟩
     rw[Zx];exact q
   ·rw[if_neg hc] at h';exact h'.elim
  | _=>exact h.elim
 | tup ds =>
  cases y with
  | int i =>
   obtain⟨l,xs,rfl,hq,r⟩:=rx
   cases ry
   have h':zD K Θ (zN K) ρ H (match M.atI ds i with | some d=>M.R.ok d S | none=>.no) Q:=h
   cases q:M.atI ds i with
   | none=>rw[q] at h';exact h'.elim
   | some d =>
    rw[q] at h'
    obtain⟨v,e1,rv⟩:=zCz r q
    exact .inl ⟨xs,v,.inr hq,e1,zD.here h' rp rv⟩
  | _=>exact h.elim
 | ro ds =>
  cases y with
  | int i =>
   obtain⟨l,xs,rfl,hq,r⟩:=rx
   cases ry
   have h':zD K Θ (zN K) ρ H (match M.atI ds i with | some d=>M.R.ok d S | none=>.no) Q:=h
   cases q:M.atI ds i with
   | none=>rw[q] at h';exact h'.elim
   | some d =>
    rw[q] at h'
    obtain⟨v,e1,rv⟩:=zCz r q
    exact .inl ⟨xs,v,.inl hq.sq,e1,zD.here h' rp rv⟩
  | _=>exact h.elim
 | ref p =>
  obtain⟨a,rfl,ea⟩:=rx
  cases q:S[p]? with
  | none=>simp[M.zt,q] at h;exact h.elim
  | some o =>
   cases o with
   | lst xs =>
    cases y with
    | int i =>
     cases ry
     obtain⟨zs,e1,r⟩:=Zi rp ea q
     cases q2:M.atI xs i with
     | none=>simp[M.zt,q,q2] at h;exact h.elim
     | some d =>
      simp[M.zt,q,q2] at h
      obtain⟨v,e2,rv⟩:=zCz r q2
      exact .inl ⟨zs,v,.inl (SqL.of e1),e2,zD.here h rp rv⟩
    | _=>simp[M.zt,q] at h;exact h.elim
   | dct kvs =>
    by_cases hk:M.ji y=true
    case neg=>simp[M.zt,q,hk] at h;exact h.elim
    obtain⟨ks,e1,r⟩:=QI rp ea q
    obtain⟨k,h1,rfl⟩:=Qa hk ry
    have hv:=r.val h1
    cases q2:M.jm y kvs with
    | none=>simp[M.zt,q,hk,q2] at h;exact h.elim
    | some d =>
     simp[M.zt,q,hk,q2] at h
     rw[q2] at hv
     obtain⟨v,e2,rv⟩:=hv
     refine .inr ⟨a,v,rfl,?_,zD.here h rp rv⟩
     rw[<- e2]
     exact Zu.k e1
   | fdc kvs =>
    by_cases hk:M.ji y=true
    case neg=>simp[M.zt,q,hk] at h;exact h.elim
    obtain⟨fo,ks,e1,r⟩:=zHl rp ea q
    obtain⟨k,h1,rfl⟩:=Qa hk ry
    have hv:=r.val h1
    cases q2:M.jm y kvs with
    | none=>simp[M.zt,q,hk,q2] at h;exact h.elim
    | some d =>
     simp[M.zt,q,hk,q2] at h
     rw[q2] at hv
     obtain⟨v,e2,rv⟩:=hv
     refine .inr ⟨a,v,rfl,?_,zD.here h rp rv⟩
     rw[<- e2]
     exact (.inl ⟨ks,k,.inr ⟨fo,e1⟩,rfl,rfl⟩)
   | ins c fs=>simp[M.zt,q] at h;exact h.elim
 | _=>exact h.elim
theorem ZN:AdN K Θ M.qS (zJp K):=by
 intro ρ H S xs Xs Q rp rx h
 match xs,rx,h with
 | [.str a],rx,h =>
  obtain⟨_,_,rfl,⟨rfl,_⟩,rfl⟩:=rx
  have h':zD K Θ (zN K) ρ H (if a.length <= M.SZ then M.R.ok (M.D.int a.length) S else .no) Q:=h
  by_cases hc:a.length <= M.SZ
  ·rw[if_pos hc] at h'
   refine .inl ⟨by rw[j9,<- Zr];exact hc,?_⟩
   rw[j9]
   exact zD.here (b:=V.int a.length) h' rp rfl
  ·rw[if_neg hc] at h';exact h'.elim
 | [.tup ds],rx,h =>
  obtain⟨_,_,rfl,⟨l,ys,rfl,hq,r⟩,rfl⟩:=rx
  exact .inl ⟨ys,.inr hq,by rw[<- r.length];exact zD.here (b:=V.int ds.length) h rp rfl⟩
 | [.ro ds],rx,h =>
  obtain⟨_,_,rfl,⟨l,ys,rfl,hq,r⟩,rfl⟩:=rx
  exact .inl ⟨ys,.inl hq.sq,by rw[<- r.length];exact zD.here (b:=V.int ds.length) h rp rfl⟩
 | [.ref p],rx,h =>
  obtain⟨_,_,rfl,⟨a,rfl,ea⟩,rfl⟩:=rx
  cases q:S[p]? with
  | none=>simp[M.qS,q] at h;exact h.elim
  | some o =>
   cases o with
   | lst xs =>
    simp[M.qS,q] at h
    obtain⟨zs,e1,r⟩:=Zi rp ea q
    exact .inl ⟨zs,.inl (SqL.of e1),by rw[<- r.length];exact zD.here (b:=V.int xs.length) h rp rfl⟩
   | dct kvs =>
    simp[M.qS,q] at h
    obtain⟨ks,e1,r⟩:=QI rp ea q
    exact .inr ⟨a,ks,rfl,e1,by rw[<- Paired.length r];exact zD.here (b:=V.int kvs.length) h rp rfl⟩
   | fdc _=>simp[M.qS,q] at h;exact h.elim
   | ins c fs=>simp[M.qS,q] at h;exact h.elim
 | [.non],_,h=>exact h.elim
 | [.bl _],_,h=>exact h.elim
 | [.int _],_,h=>exact h.elim
 | [.ty _],_,h=>exact h.elim
 | [],_,h=>exact h.elim
 | a::_::_,_,h=>cases a<;>exact h.elim
def zFA (K:PySem.W.Frag) (neg:Bool):R2:=fun x y H Q=>uIn K neg x y H Q\/∃ a o,y=.ref a/\Zu H a x o/\Q (.bl (xor neg o.isSome)) H
theorem zEl {X:Cx}{k:Nat} (hr:jN k X.A):OpR X (compareOp .In) (zFA X.K false):=by
 refine OpR.or zN8 ?_
 intro pins s σ H x y v u Q I rx ry h
 obtain⟨a,o,rfl,g,q⟩:=h
 cases ry
 exact zN1 (zCC hr) I g rx fun s' I'=>⟨.bl o.isSome,H,I',rfl,by rw[Bool.false_xor] at q;exact q⟩
theorem zAu {X:Cx}{k:Nat} (hr:jN k X.A):OpR X (compareOp .NotIn) (zFA X.K true):=by
 refine OpR.or zKS ?_
 intro pins s σ H x y v u Q I rx ry h
 obtain⟨a,o,rfl,g,q⟩:=h
 cases ry
 exact zKu (zCC hr) I g rx fun s' I'=>⟨.bl (!o.isSome),H,I',rfl,by rw[Bool.true_xor] at q;exact q⟩
theorem zE6 {ρ:List Addr}{H:Hp}{d:M.D}{v:V} (r:zN K ρ H d v):yD v=M.flat d:=by
 cases d with
 | non=>cases r;rfl
 | bl _=>cases r;rfl
 | int _=>cases r;rfl
 | str _=>obtain⟨rfl,_⟩:=r;rfl
 | ty _=>cases r;rfl
 | ref _=>obtain⟨_,rfl,_⟩:=r;rfl
 | tup _=>obtain⟨_,_,rfl,_⟩:=r;rfl
 | ro _=>obtain⟨_,_,rfl,_⟩:=r;rfl
theorem zJ7 {ρ:List Addr}{H:Hp}{d e:M.D}{v u:V} (r:zN K ρ H d v) (q:zN K ρ H e u):eqV v u=M.eqF d e:=by
 cases d with
 | non =>
  cases r
  cases e with
  | str _=>obtain⟨rfl,_⟩:=q;rfl
  | ref _=>obtain⟨_,rfl,_⟩:=q;rfl
  | tup _=>obtain⟨_,_,rfl,_⟩:=q;rfl
  | ro _=>obtain⟨_,_,rfl,_⟩:=q;rfl
  | _=>cases q;rfl
 | bl _ =>
  cases r
  cases e with
  | str _=>obtain⟨rfl,_⟩:=q;rfl
  | ref _=>obtain⟨_,rfl,_⟩:=q;rfl
  | tup _=>obtain⟨_,_,rfl,_⟩:=q;rfl
  | ro _=>obtain⟨_,_,rfl,_⟩:=q;rfl
  | _=>cases q;rfl
 | int _ =>
  cases r
  cases e with
  | str _=>obtain⟨rfl,_⟩:=q;rfl
  | ref _=>obtain⟨_,rfl,_⟩:=q;rfl
  | tup _=>obtain⟨_,_,rfl,_⟩:=q;rfl
  | ro _=>obtain⟨_,_,rfl,_⟩:=q;rfl
  | _=>cases q;rfl
 | str x =>
  obtain⟨rfl,_⟩:=r
  cases e with
  | str y=>obtain⟨rfl,_⟩:=q;exact zFm x y
  | ref _=>obtain⟨_,rfl,_⟩:=q;rfl
  | tup _=>obtain⟨_,_,rfl,_⟩:=q;rfl
  | ro _=>obtain⟨_,_,rfl,_⟩:=q;rfl
  | _=>cases q;rfl
 | ty _=>cases r;rfl
 | ref _=>obtain⟨_,rfl,_⟩:=r;rfl
 | tup _=>obtain⟨_,_,rfl,_⟩:=r;rfl
 | ro _=>obtain⟨_,_,rfl,_⟩:=r;rfl
theorem zC6 {ρ:List Addr}{H:Hp}:∀ {ds:List M.D}{xs:List V},zJ K ρ H ds xs->xs.all yD=ds.all M.flat
 | [],_,r=>by cases r;rfl
 | _::_,_,⟨y,ys,e,r1,r2⟩=>by subst e;rw[List.all_cons,List.all_cons,zE6 r1,zC6 r2]
theorem zEy {ρ:List Addr}{H:Hp}{x:M.D}{v:V} (rx:zN K ρ H x v):∀ {ds:List M.D}{xs:List V},zJ K ρ H ds xs->inV v xs=M.Jd x ds
 | [],_,r=>by cases r;rfl
 | _::_,_,⟨y,ys,e,r1,r2⟩=>by
  subst e
  unfold inV M.Jd
  rw[List.any_cons,List.any_cons,zJ7 r1 rx]
  have:=zEy rx r2
  unfold inV M.Jd at this
  rw[this]
theorem zBe (a:M.T):∀ b:M.T,M.zAs a b=true ↔ ∃ i,i+a.length <= b.length/\(b.drop i).take a.length=a
 | []=>by
  simp only[M.zAs,List.isEmpty_iff]
  constructor
  ·rintro rfl;exact⟨0,by simp,by simp⟩
  ·rintro ⟨i,h,e⟩
   simp at h
   exact h.2
 | c::r=>by
  simp only[M.zAs,Bool.or_eq_true,zBe a r]
  constructor
  ·rintro (h | ⟨i,h,e⟩)
   ·have:=List.isPrefixOf_iff_prefix.mp h
    exact⟨0,by simpa using this.length_le,by simpa using (List.prefix_iff_eq_take.mp this).symm⟩
   ·exact⟨i+1,by simp;omega,by simpa using e⟩
  ·rintro ⟨i,h,e⟩
   cases i with
   | zero=>left;exact List.isPrefixOf_iff_prefix.mpr (List.prefix_iff_eq_take.mpr (by simpa using e.symm))
   | succ i=>right;exact⟨i,by simp at h;omega,by simpa using e⟩
theorem zIO (a b:M.T) (i:Nat):StrLaws.At (ofT b) (ofT a) (ofT b).length i↔(i+a.length <= b.length/\(b.drop i).take a.length=a):=by
 unfold StrLaws.At Builtin.Str.subAt
 rw[j9,j9]
 refine and_congr_right fun _=>?_
 rw[beq_iff_eq]
 constructor
 ·intro h
  have:=congrArg Array.toList h
  simpa [ofT,List.extract_eq_take_drop] using this
 ·intro h
  apply Array.ext'
  simpa [ofT,List.extract_eq_take_drop] using h
theorem zKi (a b:M.T):(!(Builtin.Str.occurrences (ofT b) (ofT a) 0 (ofT b).length 1).isEmpty)=M.zAs a b:=by
 rcases StrLaws.occ_head (ofT b) (ofT a) 1 (by decide) with ⟨e,h⟩ | ⟨i,r,e,h,_⟩
 ·rw[e]
  have:¬ M.zAs a b=true:=fun q=>by
   obtain⟨i,q⟩:=(zBe a b).mp q
   exact h i ((zIO a b i).mpr q)
  simpa using this
 ·rw[e]
  have:=(zBe a b).mpr ⟨i,(zIO a b i).mp h⟩
  simp[this]
theorem zF0 {neg:Bool}{ρ:List Addr}{H:Hp}{S:M.S}{x y:M.D}{X1 Y:V}{Q:VK} (rp:zV K Θ ρ S H) (rx:zN K ρ H x X1) (ry:zN K ρ H y Y) (h:zD K Θ rB ρ H (M.inD x y S) (fun b H'=>Q (.bl (xor neg b)) H')):zFA K neg X1 Y H Q:=by
 have seq:∀ {ds:List M.D}{xs:List V}{a:Addr},(SqL K H a xs\/SqT K H a xs)->zJ K ρ H ds xs->zD K Θ rB ρ H (if (M.flat x && ds.all M.flat)=true then M.R.ok (M.Jd x ds) S else .no) (fun b H'=>Q (.bl (xor neg b)) H')->uIn K neg X1 (.ref a) H Q:=fun {ds xs a} hq r h'=>by
  by_cases hc:(M.flat x && ds.all M.flat)=true
  ·rw[if_pos hc] at h'
   rw[Bool.and_eq_true,<- zE6 rx,<- zC6 r] at hc
   have:=zD.here (b:=M.Jd x ds) h' rp rfl
   rw[<- zEy rx r] at this
   have g:∃ xs,(SqL K H a xs\/SqT K H a xs)/\yD X1=true/\xs.all yD=true/\Q (.bl (xor neg (inV X1 xs))) H:=⟨xs,hq,hc.1,hc.2,this⟩
   cases X1<;>exact g
  ·rw[if_neg hc] at h';exact h'.elim
 cases y with
 | str b =>
  cases x with
  | str a =>
   obtain⟨rfl,_⟩:=rx
   obtain⟨rfl,_⟩:=ry
   refine .inl ?_
   show Q (.bl (xor neg (!(Builtin.Str.occurrences (ofT b) (ofT a) 0 (ofT b).length 1).isEmpty))) H
   rw[zKi]
   exact zD.here (b:=M.zAs a b) h rp rfl
  | _=>exact h.elim
 | tup ds =>
  obtain⟨l,xs,rfl,hq,r⟩:=ry
  exact .inl (seq (.inr hq) r h)
 | ro ds =>
  obtain⟨l,xs,rfl,hq,r⟩:=ry
  exact .inl (seq (.inl hq.sq) r h)
 | ref p =>
  obtain⟨a,rfl,ea⟩:=ry
  cases q:S[p]? with
  | none=>simp[M.inD,q] at h;exact h.elim
  | some o =>
   cases o with
   | lst ds =>
    obtain⟨zs,e1,r⟩:=Zi rp ea q
    refine .inl (seq (.inl (SqL.of e1)) r ?_)
    simp only[M.inD,q] at h
    exact h
   | dct kvs =>
    by_cases hk:M.ji x=true
    case neg=>simp[M.inD,q,hk] at h;exact h.elim
    simp only[M.inD,q,if_pos hk] at h
    obtain⟨ks,e1,r⟩:=QI rp ea q
    obtain⟨k,h1,rfl⟩:=Qa hk rx
    have hv:=r.val h1
    refine .inr ⟨a,yB ks k,rfl,Zu.k e1,?_⟩
    have e2:(yB ks k).isSome=(M.jm x kvs).isSome:=by
     cases q2:M.jm x kvs with
     | none=>rw[q2] at hv;rw[hv];rfl
     | some d=>rw[q2] at hv;obtain⟨v,e2,_⟩:=hv;rw[e2];rfl
    rw[e2]
    exact zD.here (b:=(M.jm x kvs).isSome) h rp rfl
   | fdc kvs =>
    by_cases hk:M.ji x=true
    case neg=>simp[M.inD,q,hk] at h;exact h.elim
    simp only[M.inD,q,if_pos hk] at h
    obtain⟨fo,ks,e1,r⟩:=zHl rp ea q
    obtain⟨k,h1,rfl⟩:=Qa hk rx
    have hv:=r.val h1
    refine .inr ⟨a,yB ks k,rfl,(.inl ⟨ks,k,.inr ⟨fo,e1⟩,rfl,rfl⟩),?_⟩
    have e2:(yB ks k).isSome=(M.jm x kvs).isSome:=by
     cases q2:M.jm x kvs with
     | none=>rw[q2] at hv;rw[hv];rfl
     | some d=>rw[q2] at hv;obtain⟨v,e2,_⟩:=hv;rw[e2];rfl
    rw[e2]
    exact zD.here (b:=(M.jm x kvs).isSome) h rp rfl
   | ins c fs=>simp[M.inD,q] at h;exact h.elim
 | _=>exact h.elim
theorem zG0:AdC K Θ M.cIn (zFA K false):=by
 intro ρ H S x y X1 Y Q rp rx ry h
 refine zF0 rp rx ry ?_
 have h':zD K Θ rB ρ H (M.inD x y S) (fun b H'=>Q (.bl b) H'):=h
 revert h'
 cases M.inD x y S with
 | ok b s=>exact fun h' ρ1 H1 b' p l rp1 e=>by cases e;rw[Bool.false_xor];exact h' ρ1 H1 b p l rp1 rfl
 | exc e s=>exact fun h'=>h'
 | no=>exact fun h'=>h'
theorem zBm:AdC K Θ M.qQ (zFA K true):=by
 intro ρ H S x y X1 Y Q rp rx ry h
 exact zF0 rp rx ry (zD.bind h fun ρ1 H1 b b' S1 p1 l1 rp1 e h1=>by cases e;rw[Bool.true_xor];exact zD.here (b:=!b) h1 rp1 rfl)
theorem zLU {X:Cx}{e:Expr}{m:M.TM} (h:MW X Θ e m):MT X Θ e m:=PW.pt h
theorem QR {X:Cx}{e:Expr}{m:M.TM} (h:WW X Θ e m):WT X Θ e m:=by with_unfolding_all exact zLU (X:=X) (e:=e) (m:=m) h
theorem Qb {X:Cx}:Ze X [] (RdT X.K Θ M.yu):=fun pins s σ H Q I ⟨ρ,σ',S,st,rp,h⟩=>zJh pins s σ H Q I (zD.here (b:=true) h rp rfl)
theorem zH0 {X:Cx}{c:Expr}{t:M.TM} (h:WT X Θ c t):Ze X [c] (RdT X.K Θ t):=zJE (by with_unfolding_all exact h)
theorem zJs {g1 g2:M.GM}:∀ ds σ σ1,(M.yC g1 (M.yC g2 M.Jj)) ds σ=some σ1->ds.length=2:=fun ds σ σ1 e=>by
 match ds,e with
 | [],e=>cases e
 | [a],e =>
  simp[M.yC] at e
  split at e<;>cases e
 | [a,b],_=>rfl
 | a::b::c::r,e =>
  simp[M.yC,M.Jj] at e
  split at e
  ·split at e<;>cases e
  ·cases e
theorem zEt {ρ:List Addr}{H:Hp}:∀ ns:List Int,zJ K ρ H (ns.map .int) (ns.map V.int)
 | []=>rfl
 | n::ns=>⟨_,_,rfl,rfl,zEt ns⟩
theorem zMu {f:M.F} (ht:∀ ns:List Int,ns.length <= 63->∃ s,f [.ro (ns.map .int)] []=.ok (.bl true) s) {H:Hp}{a:Addr}{ns:List Int}{E:XK} (hl:ns.length <= 63) (hO:zGe H) (hS:SqL K H a (ns.map V.int)):SpM K Θ 1 f [.ref a] H (fun v _=>v=.bl true) E:=by
 obtain⟨s,e⟩:=ht ns hl
 refine⟨[],[.ro (ns.map .int)],[],rfl,⟨_,_,rfl,⟨a,ns.map V.int,rfl,?_,zEt ns⟩,rfl⟩,⟨rfl,List.nodup_nil,fun i o q=>by simp at q⟩,?_⟩
 ·rcases hS with (h | h) | h
  ·rcases hO a with z | ⟨o,xs,z⟩
   ·rw[h] at z;cases z
   ·rw[h] at z;cases z
  ·exact .inl h
  ·exact .inr h
 ·rw[e]
  exact fun ρ' H' b _ _ _ r=>r
end
section
variable {P:Program}{w:World}{K:PySem.W.Frag}{mg:Str->Option Value}{base:Heap}{Θ:Tab}
theorem zLk {x qual:Str}{st:Stmt}{f:Addr}{fd:FuncData}{N ps:List Str}{k:Nat}{b:M.SM} (F:Fun K x qual st f fd) (Sc:jj N ps (zQ st))
  (hbody:∀ (cdv:Value) (A:Around) (outer:List Env) (s:Shared) (H:Hp) (E:XK),jN k (A.deeper (envOfC qual (zQ st) s.heap.objs.size f cdv)) ->
   MSs (JQ CX0 P w K mg base N qual (zQ st) f cdv A outer s H E).nox Θ (jI st) b):qE P w K mg base CX0 (k+1) f fd ps (SpM K Θ ps.length (M.fn N.length b)):=by
 refine F.ok (k:=k) Sc (fun vs H Q E h=>?_) (fun cdv A outer s H vs Q E hr h=>?_)
 ·obtain⟨ρ,ds,S,hl,r,_⟩:=h
  rw[<- r.length,hl]
 ·obtain⟨ρ,ds,S,hl,r,rp,h⟩:=h
  refine⟨_,hbody cdv A outer s H E hr,ρ,_,S,zDO r N,rp,?_⟩
  have h':zD K Θ (zN K) ρ H (b (ds.map some++List.replicate (N.length - ds.length) none) S).out Q:=h
  show zl K Θ ρ H (b (ds.map some++List.replicate (N.length - ds.length) none) S) _
  revert h'
  cases b (ds.map some++List.replicate (N.length - ds.length) none) S with
  | rt a s=>exact fun h'=>h'
  | nx a s=>exact fun h' ρ1 H1 σ1 p1 l1 rp1 _=>h' ρ1 H1 .non p1 l1 rp1 rfl
  | bk a s=>exact fun h'=>h'.elim
  | ct a s=>exact fun h'=>h'.elim
  | exc e a s=>exact fun h'=>h'
  | no=>exact fun h'=>h'
theorem JC {x qual:Str}{st:Stmt}{f:Addr}{fd:FuncData}{N ps:List Str}{k:Nat}{b:M.SM} (F:Fun K x qual st f fd) (Sc:jj N ps (zQ st))
  (hbody:∀ (cdv:Value) (A:Around) (outer:List Env) (s:Shared) (H:Hp) (E:XK),jN k (A.deeper (envOfC qual (zQ st) s.heap.objs.size f cdv)) ->
   WSs (JQ CX0 P w K mg base N qual (zQ st) f cdv A outer s H E).nox Θ (jI st) b):qE P w K mg base CX0 (k+1) f fd ps (SpM K Θ ps.length (M.fn N.length b)):=by with_unfolding_all exact zLk (x:=x) (qual:=qual) (st:=st) (f:=f) (fd:=fd) (N:=N) (ps:=ps) (k:=k) (b:=b) F Sc hbody
end
theorem zA7:bootBuiltins "sorted" = some (.builtin "sorted"):=by decide +kernel
theorem zH1:bootBuiltins "max" = some (.builtin "max"):=by decide +kernel
end L2
namespace L2
open PySem PySem.Spec PyProof.Rows PySem.Builtin.Str
section
variable {K:PySem.W.Frag}{Θ:Tab}
theorem zBf {ρ:List Addr}{H:Hp}:∀ (ts:List M.T),(∀ t∈ts,okT t)->zJ K ρ H (ts.map .str) ((ts.map ofT).map V.str)
 | [],_=>rfl
 | t::ts,h=>⟨_,_,rfl,⟨rfl,h t List.mem_cons_self⟩,zBf ts fun x hx=>h x (List.mem_cons_of_mem _ hx)⟩
theorem Jv {ρ:List Addr}{H:Hp}{S:M.S}{p:Nat}{X:V}{ds:List M.D} (rp:zV K Θ ρ S H) (rx:zN K ρ H (.ref p) X) (e:S[p]? = some (.lst ds)):∃ a xs,X=.ref a/\ρ[p]? = some a/\H a=some (.lst xs)/\zJ K ρ H ds xs:=by
 obtain⟨a,rfl,ha⟩:=rx
 obtain⟨b,hb,xs,hx,r⟩:=rp.obj p _ e
 rw[ha] at hb;cases hb
 exact⟨a,xs,rfl,ha,hx,r⟩
theorem Q9 {H:Hp}{a:Addr}{xs:List V} (h:H a=some (.lst xs)):Mut (H a):=by rw[h];trivial
theorem Ja:AdM K Θ M.qm zF5:=by
 intro ρ H S x xs X Xs Q rp rx rxs h
 unfold M.qm at h
 split at h
 ·rename_i p y
  obtain⟨Y,r,rfl,ry,rfl⟩:=rxs
  split at h
  ·rename_i ds e
   obtain⟨a,zs,rfl,ha,hx,rz⟩:=Jv rp rx e
   split at h
   ·rename_i hl
    have le:=Le.put (Q9 hx) (.lst (zs++[Y]))
    refine⟨a,zs,Y,rfl,rfl,hx,by rw[<- Zr,<- rz.length];exact hl,?_⟩
    exact h ρ _ _ (List.prefix_refl _) le (rp.put ha (Q9 hx) ⟨_,z9,(rz.mono (List.prefix_refl _) le).app ⟨_,_,rfl,ry.mono (List.prefix_refl _) le,rfl⟩⟩) rfl
   ·exact h.elim
  ·exact h.elim
 ·exact h.elim
theorem zLS:AdM K Θ M.zBg zMg:=by
 intro ρ H S x xs X Xs Q rp rx rxs h
 unfold M.zBg at h
 split at h
 ·rename_i p
  cases rxs
  split at h
  ·rename_i ds e
   obtain⟨a,zs,rfl,ha,hx,rz⟩:=Jv rp rx e
   split at h
   ·rename_i y hy
    rw[List.getLast?_eq_getElem?] at hy
    obtain⟨Y,hY,ry⟩:=rz.get hy
    have le:=Le.put (Q9 hx) (.lst zs.dropLast)
    exact⟨a,zs,Y,rfl,rfl,hx,by rw[<- rz.length];exact hY,h ρ _ _ (List.prefix_refl _) le (rp.put ha (Q9 hx) ⟨_,z9,rz.dropLast.mono (List.prefix_refl _) le⟩) (ry.mono (List.prefix_refl _) le)⟩
   ·exact h.elim
  ·exact h.elim
 ·exact h.elim
end
end L2
namespace L2
open PySem PySem.Spec PyProof.Rows PySem.Builtin.Str
section
variable {K:PySem.W.Frag}{Θ:Tab}
theorem zMl:AdN K Θ M.zGp (fun xs H Q=>(∃ i,xs=[.int i]/\Q (.int i) H)\/∃ k,xs=[.bl k]/\Q (.int (if k then 1 else 0)) H):=by
 intro ρ H S xs Xs Q rp rxs h
 unfold M.zGp at h
 split at h
 ·obtain⟨Y,r,rfl,ry,rfl⟩:=rxs
  cases ry
  exact .inl ⟨_,rfl,zD.here h rp rfl⟩
 ·obtain⟨Y,r,rfl,ry,rfl⟩:=rxs
  cases ry
  exact .inr ⟨_,rfl,zD.here h rp rfl⟩
 ·exact h.elim
end
end L2
namespace L2
open PySem PySem.Spec PyProof.Rows
section
variable {Θ:Tab}
theorem PS.or {X:Cx}{st:Stmt}{t t':TS} (h:PS X st t) (h':PS X st t'):PS X st (fun D σ H=>t D σ H\/t' D σ H):=fun pins s σ H D I q=>by
 rcases q with q | q
 ·exact h pins s σ H D I q
 ·exact h' pins s σ H D I q
theorem zKQ {X:Cx}{es:List Expr}{g:M.GMs}{js:List Nat}{k:Nat}{pos:Pos}{n:Nat} (hc:X.calm=true) (h:MGs X Θ js es g) (hl:∀ ds σ σ1,g ds σ=some σ1->ds.length=n) (hn:(assignEach es X.env).length=n:=by rfl) (hst:(assignEach es X.env).findIdx? (·.1)=none:=by rfl):MG X Θ js (.Tuple es k pos) (M.Jm g) :=
 zLl (es:=es) (zMS hc h hn hst) hl
theorem zDP {X:Cx}{es:List Expr}{g:M.GMs}{js:List Nat}{k:Nat}{pos:Pos}{n:Nat} (hc:X.calm=true) (h:WGs X Θ js es g) (hl:∀ ds σ σ1,g ds σ=some σ1->ds.length=n) (hn:(assignEach es X.env).length=n:=by rfl) (hst:(assignEach es X.env).findIdx? (·.1)=none:=by rfl):WG X Θ js (.Tuple es k pos) (M.Jm g):=by with_unfolding_all exact zKQ (X:=X) (es:=es) (g:=g) (js:=js) (k:=k) (pos:=pos) (n:=n) hc h hl hn hst
theorem Jt {H:Hp}{a:Addr}{ks:List (Key×V)} (h:H a=some (.dK ks)):Mut (H a):=by rw[h];trivial
theorem zMA {X:Cx}{o i e:Expr}{mo mi me:M.EM}{pos pos':Pos}{n:Nat} (hr:jN n X.A) (ho:ME X Θ o mo) (hi:ME X Θ i mi) (he:ME X Θ e me)
  (ha:∀ v,assign (.Subscript o i pos') X.env v=(do
   let ov <- holding [v] (eval o X.env)
   let iv <- holding [v,ov] (eval i X.env)
   standAt pos'
   holding [v,ov,iv] (setItem ov iv v)
   release [v,ov,iv] []):=by intro _;rfl)
  (hs:swapsWithSole [.Subscript o i pos'] e pos.line X.env=pure false:=by rfl) (hw:swappedStores [.Subscript o i pos'] e X.env=pure none:=by rfl) (h1:(assignEach [.Subscript o i pos'] X.env).map (·.2)=[assign (.Subscript o i pos') X.env]:=by rfl)
  (hs2:swapsWith e (some (.Subscript o i pos')) pos.line X.env=pure false:=by rfl):MS X Θ (.Assign [.Subscript o i pos'] e pos) (M.qC mo mi me) :=
 (PS.or (zLY he (zMK ho hi zJU ha) hs hw h1) (zKg (by have:=hr.units;omega) ho hi he hs2)).imp fun D σ H ⟨ρ,σ',S,st,rp,h⟩=>by
  have h0:zl X.K Θ ρ H ((me σ' S).stm σ' fun y s=>(mo σ' s).stm σ' fun x s=>(mi σ' s).stm σ' fun k s=>(M.yZ x k y s).stm σ' fun _ s=>.nx σ' s) D:=h
  clear h
  cases hE:me σ' S with
  | no=>rw[hE] at h0;exact h0.elim
  | exc a s=>rw[hE] at h0;exact h0.elim
  | ok y S1 =>
   rw[hE,M.R.stm_ok] at h0
   cases hO:mo σ' S1 with
   | no=>rw[hO] at h0;exact h0.elim
   | exc a s=>rw[hO] at h0;exact h0.elim
   | ok x S2 =>
    rw[hO,M.R.stm_ok] at h0
    cases hI:mi σ' S2 with
    | no=>rw[hI] at h0;exact h0.elim
    | exc a s=>rw[hI] at h0;exact h0.elim
    | ok k S3 =>
     rw[hI,M.R.stm_ok] at h0
     cases x with
     | ref p =>
      cases q:S3[p]? with
      | none=>simp only[M.yZ,q] at h0;exact h0.elim
      | some ob =>
       cases ob with
       | lst xs =>
        cases k with
        | int j =>
         cases hj:M.ixN xs.length j with
         | none=>simp only[M.yZ,q,hj] at h0;exact h0.elim
         | some j' =>
          simp only[M.yZ,q,hj,M.R.stm_ok] at h0
          refine .inl ⟨ρ,σ',S,st,rp,?_⟩
          rw[hE]
          intro ρ1 H1 Y p1 l1 rp1 ry
          refine⟨ρ1,σ',S1,st.mono p1 l1,rp1,?_⟩
          rw[hO]
          intro ρ2 H2 Xv p2 l2 rp2 rx
          refine⟨ρ2,σ',S2,st.mono (p1.trans p2) (l1.trans l2),rp2,?_⟩
          rw[hI]
          intro ρ3 H3 Kv p3 l3 rp3 rk
          obtain⟨a,zs,rfl,ha,hx,rz⟩:=Jv rp3 (rx.mono p3 l3) q
          cases rk
          have le:=Le.put (Q9 hx) (.lst (zs.set j' Y))
          refine⟨a,zs,j,j',rfl,rfl,hx,by rw[<- rz.length];exact hj,?_⟩
          exact h0 ρ3 _ σ (p1.trans (p2.trans p3)) (l1.trans (l2.trans (l3.trans le))) (rp3.put ha (Q9 hx) ⟨_,z9,zJ.set (ry.mono (p2.trans p3) (l2.trans (l3.trans le))) j' (rz.mono (List.prefix_refl _) le)⟩) (st.mono (p1.trans (p2.trans p3)) (l1.trans (l2.trans (l3.trans le))))
        | _=>simp only[M.yZ,q] at h0;exact h0.elim
       | dct kvs =>
        cases hk:(M.ji k && decide (kvs.length < M.SZ)) with
        | false=>simp only[M.yZ,q,hk] at h0;exact h0.elim
        | true =>
         have hk2:(if (M.ji k && decide (kvs.length < M.SZ))=true then M.R.ok () (S3.set p (.dct (M.qN k y kvs))) else .no)=M.R.ok () (S3.set p (.dct (M.qN k y kvs))):=if_pos hk
         simp only[M.yZ,q,hk2,M.R.stm_ok] at h0
         rw[Bool.and_eq_true] at hk
         refine .inr ⟨ρ,σ',S,st,rp,?_⟩
         rw[hE]
         intro ρ1 H1 Y p1 l1 rp1 ry
         refine⟨ρ1,σ',S1,st.mono p1 l1,rp1,?_⟩
         rw[hO]
         intro ρ2 H2 Xv p2 l2 rp2 rx
         refine⟨ρ2,σ',S2,st.mono (p1.trans p2) (l1.trans l2),rp2,?_⟩
         rw[hI]
         intro ρ3 H3 Kv p3 l3 rp3 rk
         obtain⟨a,rfl,ea⟩:=rx.mono p3 l3
         obtain⟨b,e1,ks,e2,r⟩:=rp3.obj _ _ q
         rw[ea] at e1;cases e1
         obtain⟨kk,hkk,rfl⟩:=Qa hk.1 rk
         have le:=Le.put (Jt e2) (.dK (Zy ks kk Y))
         refine⟨a,_,rfl,zE9.k e2 (by rw[<- Paired.length r,<- Zr];exact of_decide_eq_true hk.2),?_⟩
         have r':DR X.K ρ3 (upd H3 a (.dK (Zy ks kk Y))) kvs ks:=Paired.mapP r fun a b z=>⟨z.1,z.2.mono (List.prefix_refl _) le⟩
         exact h0 ρ3 _ σ (p1.trans (p2.trans p3)) (l1.trans (l2.trans (l3.trans le))) (rp3.put ea (Jt e2) ⟨_,z9,DR.put r' hkk (ry.mono (p2.trans p3) (l2.trans (l3.trans le)))⟩) (st.mono (p1.trans (p2.trans p3)) (l1.trans (l2.trans (l3.trans le))))
       | fdc _=>simp only[M.yZ,q] at h0;exact h0.elim
       | ins c fs=>simp only[M.yZ,q] at h0;exact h0.elim
     | _=>exact h0.elim
theorem ZM {X:Cx}{o i e:Expr}{mo mi me:M.EM}{pos pos':Pos}{n:Nat} (hr:jN n X.A) (ho:WE X Θ o mo) (hi:WE X Θ i mi) (he:WE X Θ e me)
  (ha:∀ v,assign (.Subscript o i pos') X.env v=(do
   let ov <- holding [v] (eval o X.env)
   let iv <- holding [v,ov] (eval i X.env)
   standAt pos'
   holding [v,ov,iv] (setItem ov iv v)
   release [v,ov,iv] []):=by intro _;rfl)
  (hs:swapsWithSole [.Subscript o i pos'] e pos.line X.env=pure false:=by rfl) (hw:swappedStores [.Subscript o i pos'] e X.env=pure none:=by rfl) (h1:(assignEach [.Subscript o i pos'] X.env).map (·.2)=[assign (.Subscript o i pos') X.env]:=by rfl)
  (hs2:swapsWith e (some (.Subscript o i pos')) pos.line X.env=pure false:=by rfl):WS X Θ (.Assign [.Subscript o i pos'] e pos) (M.qC mo mi me):=by with_unfolding_all exact zMA (X:=X) (o:=o) (i:=i) (e:=e) (mo:=mo) (mi:=mi) (me:=me) (pos:=pos) (pos':=pos') (n:=n) hr ho hi he ha hs hw h1 hs2
end
end L2
namespace L2
open PySem PySem.Spec PyProof.Rows
section
variable {K:PySem.W.Frag}{Θ:Tab}
theorem zBl:∀ {xs:List V}{us:List Value},xs.length=us.length->(∀ (j:Nat) u,us[j]? = some u->∃ x,xs[j]? = some x/\ze x u)->zY xs us
 | [],[],_,_=>.nil
 | [],_::_,h,_=>by simp at h
 | _::_,[],h,_=>by simp at h
 | x::xs,u::us,h,k=>by
  obtain⟨y,e,r⟩:=k 0 u rfl
  cases e
  exact .cons r (zBl (by simpa using h) fun j u hu=>by
   obtain⟨y,e,r⟩:=k (j+1) u (by simpa using hu)
   exact⟨y,by simpa using e,r⟩)
theorem zHP {P:Program}{w:World}{k:Key}{v:Value} (h:(jB P w).is k v=true):ze (kV k) v:=by
 rcases j4 (k:=k) (v:=v) h with ⟨i,t,rfl,rfl⟩ | ⟨x,t,rfl,rfl⟩
 ·exact⟨t,rfl⟩
 ·exact⟨t,rfl⟩
def zIA (K:PySem.W.Frag):List V->Hp->VK->Prop:=fun xs H Q=>(∃ p ys,xs=[.ref p]/\(SqL K H p ys\/SqT K H p ys)/\∀ l,H l=none->Q (.ref l) (upd H l (.lst ys))) \/
 ∃ p ks,xs=[.ref p]/\H p=some (.dK ks)/\∀ l,H l=none->Q (.ref l) (upd H l (.lst (ks.map fun kv=>kV kv.1)))
theorem Za {X:Cx}{k:Nat} (hr:jN k X.A):jp X (.type "list") (zIA X.K):=by
 intro pins s σ H xs us Q I r h
 rcases h with h | ⟨p,ks,rfl,hp,q⟩
 ·exact zEj pins s σ H xs us Q I r h
 ·obtain⟨u,rfl,ru⟩:=Zq r
  cases ru
  obtain⟨z,lo,vs,rv,dd⟩:=zAi I.hok hp
  obtain⟨ep,da⟩:=dd.dictAt
  have hl:=rv.length
  refine wpAny_with_toks (n:=1) I.tk (PySem.W.kdl_call (PySem.W.kdl_dict lo) hr.hd da (by omega) fun h' tk acc c' keep hS it htk=>?_)
  obtain⟨hsz,hit⟩:=it
  refine⟨.ref s.heap.objs.size,_,I.laid (t':=tk) (o:=.lst (ks.map fun kv=>kV kv.1)) keep (Nat.le_refl _) ⟨by rw[List.length_map];exact z,acc.toList,c',zBl (by simp;omega) fun j u hu=>?_,by simpa using hS⟩ htk,rfl,q _ (I.hok.fresh (Nat.le_refl _))⟩
  obtain⟨k,x,e,hk⟩:=hit j u (by simpa using hu)
  have hj:j < ks.length:=by have:=(List.getElem?_eq_some_iff.mp e).1;omega
  have ek:(ks.map (·.1))[j]? = some k:=by rw[rv.keys,List.getElem?_map,e];rfl
  refine⟨kV k,?_,zHP hk⟩
  rw[List.getElem?_map] at ek ⊢
  cases q2:ks[j]? with
  | none=>rw[q2] at ek;cases ek
  | some kv=>rw[q2] at ek;cases ek;rfl
theorem zBd {ρ:List Addr}{H:Hp}:∀ {kvs:List (M.D×M.D)}{ks:List (Key×V)},DR K ρ H kvs ks->zJ K ρ H (kvs.map (·.1)) (ks.map fun kv=>kV kv.1)
 | _,_,.nil=>rfl
 | (d,_)::_,(k,_)::_,.cons h t=>by
  refine⟨_,_,rfl,?_,zBd t⟩
  have h1:yT d k:=h.1
  cases d with
  | int i=>cases h1;rfl
  | str x=>obtain⟨rfl,ok⟩:=h1;exact⟨rfl,ok⟩
  | _=>exact h1.elim
theorem JA:AdN K Θ M.yK (zIA K):=by
 intro ρ H S xs Xs Q rp rxs h
 unfold M.yK at h
 split at h
 ·obtain⟨Y,r,rfl,⟨a,zs,rfl,hq,rz⟩,rfl⟩:=rxs
  exact .inl ⟨a,zs,rfl,.inr hq,fun p hp=>zD.alloc h rp rz hp⟩
 ·obtain⟨Y,r,rfl,⟨a,zs,rfl,hq,rz⟩,rfl⟩:=rxs
  exact .inl ⟨a,zs,rfl,.inl hq.sq,fun p hp=>zD.alloc h rp rz hp⟩
 ·rename_i p
  obtain⟨Y,r,rfl,ry,rfl⟩:=rxs
  split at h
  ·rename_i ds e
   obtain⟨a,zs,rfl,ha,hx,rz⟩:=Jv rp ry e
   exact .inl ⟨a,zs,rfl,.inl (SqL.of hx),fun p hp=>zD.alloc h rp rz hp⟩
  ·rename_i kvs e
   obtain⟨a,rfl,ha⟩:=ry
   obtain⟨ks,e2,r⟩:=QI rp ha e
   exact .inr ⟨a,ks,rfl,e2,fun p hp=>zD.alloc h rp (zBd r) hp⟩
  ·exact h.elim
 ·exact h.elim
theorem zIP {ρ:List Addr}{H:Hp}{S:M.S}{kvs:List (M.D×M.D)}{ks:List (Key×V)}{Q:VK} (h:zD K Θ (zN K) ρ H (M.alloc (.dct kvs) S) Q) (rp:zV K Θ ρ S H) (r:DR K ρ H kvs ks) {p:Addr} (hp:H p=none):Q (.ref p) (upd H p (.dK ks)) :=
 h (ρ++[p]) _ _ (List.prefix_append _ _) (Le.new hp _) (rp.alloc hp ⟨ks,z9,Paired.mapP r fun _ _ z=>⟨z.1,z.2.mono (List.prefix_append _ _) (Le.new hp _)⟩⟩) ⟨p,rfl,by rw[<- rp.len];simp⟩
theorem zKp {X:Cx}{pos:Pos}:ME X Θ (.Dict [] [] pos) M.j2:=zI8.imp fun σ H Q ⟨ρ,σ',S,st,rp,h⟩=>fun p hp=>zIP (kvs:=[]) h rp .nil hp
theorem yp {X:Cx}{pos:Pos}:WE X Θ (.Dict [] [] pos) M.j2:=by with_unfolding_all exact zKp (X:=X) (pos:=pos)
end
end L2
namespace L2
open PySem PySem.Spec PyProof.Rows
section
variable {P:Program}{w:World}{A:Around}{E:Value->Shared->Prop}{s:Shared}
def zNf (h:Heap) (z TI TO:Addr) (f0:Value) (b:Bool):Prop:=h.get? z=some { cls:=.type "zip",dict:=none,data:=.fields #[f0,.bool b,.bool false,.ref TI,.ref TO],slots:=#[] }
structure ZSt (z TI TO i1 i2 l1 l2:Addr) (xs ys:Array Value) (i:Nat) (h:Heap):Prop where
 zp:∃ f0 b,zNf h z TI TO f0 b/\((i=0/\f0=.none)\/∃ (T:Addr) (o:Obj),f0=rawInt T/\h.get? T=some o)
 ti:IsPair h TI (.ref i1) (.ref i2)
 to:∃ a b,IsPair h TO a b
 n1:h.IsTupleIter i1 l1 i
 n2:h.IsTupleIter i2 l2 i
 t1:h.IsTuple l1 xs
 t2:h.IsTuple l2 ys
structure ZLp (lo z TO i1 i2 S:Addr) (xs ys:List Value) (h0 h:Heap) (ps:List Addr):Prop where
 its:∀ (j:Nat) p,ps[j]? = some p->lo <= p/\∃ x y,xs[j]? = some x/\ys[j]? = some y/\IsPair h p x y
 keep:∀ b o,b≠S->b≠z->b≠TO->b≠i1->b≠i2->h0.get? b=some o->h.get? b=some o
 nd:ps.Nodup
end
end L2
namespace L2
open PySem PySem.Spec PyProof.Rows
inductive zJM:Hp->List (V×V)->List V->Hp->Prop
 | nil (H:Hp):zJM H [] [] H
 | cons {H H':Hp}{a:Addr}{x y:V}{r:List (V×V)}{zs:List V} (h:H a=none) (t:zJM (upd H a (.tup [x,y])) r zs H'):zJM H ((x,y)::r) (.ref a::zs) H'
def zJy:List V->Hp->VK->Prop:=fun xs H Q=>∃ i,xs=[.int i]/\i.natAbs.log2 < 1920/\Q (.str (toString i)) H
theorem zHq {X:Cx}:jp X (.type "str") zJy:=zEB
theorem zGT (i:Int):(Str.ofString (toString i))=ofT (M.Z9 i):=by
 rw[Str.ofString_eq_toList];rfl
theorem zGa (i:Int):okT (M.Z9 i):=List.all_eq_true.mpr fun c hc=>by
 obtain⟨d,_,rfl⟩:=List.mem_map.mp hc
 have:=d.valid
 rw[decide_eq_true_iff]
 rcases this with h | h
 ·exact Nat.lt_trans h (by decide)
 ·exact h.2
theorem zLw {K:PySem.W.Frag}{Θ:Tab}:AdN K Θ M.zD9 zJy:=by
 intro ρ H S xs Xs Q rp rxs h
 unfold M.zD9 at h
 split at h
 ·rename_i i
  obtain⟨Y,r,rfl,ry,rfl⟩:=rxs
  cases ry
  by_cases hc:M.small i=true
  ·rw[if_pos hc] at h
   unfold M.small at hc
   rw[decide_eq_true_iff] at hc
   refine⟨i,rfl,?_,?_⟩
   ·by_cases hz:i.natAbs=0
    ·rw[hz];decide
    ·exact Nat.lt_trans ((Nat.log2_lt hz).mpr (show i.natAbs < 2 ^ 64 from hc)) (by decide)
   ·show Q (.str (Str.ofString (toString i))) H
    rw[zGT]
    exact zD.here h rp ⟨rfl,zGa i⟩
  ·rw[if_neg hc] at h
   exact h.elim
 ·exact h.elim
end L2
namespace L2
open PySem PySem.Spec PyProof.Rows
section
variable {K:PySem.W.Frag}{Θ:Tab}
theorem zF2:AdN K Θ M.zBN (fun xs H Q=>∃ i j,xs=[.int i,.int j]/\Q (.int (if j > i then j else i)) H):=by
 intro ρ H S xs Xs Q rp rxs h
 unfold M.zBN at h
 split at h
 ·rename_i i j
  obtain⟨Y,r,rfl,ry,Z,r2,rfl,rz,rfl⟩:=rxs
  cases ry;cases rz
  exact⟨i,j,rfl,zD.here h rp rfl⟩
 ·exact h.elim
end
end L2
namespace L2
open PySem PySem.Spec PyProof.Rows
structure zOL (K:PySem.W.Frag) (Θ:Tab) (c:Nat) (C:Addr) (N:List Str):Prop where
 tab:Θ c=some (C,N)
 cl:Cls K C
 no:∀ f∈N,zL7 K C f
 few:N.length < 999
 nd:N.Nodup
structure zOJ (P:Program) (w:World) (K:PySem.W.Frag) (mg:Str->Option Value) (base:Heap) (C:Addr) (m:Str) (k:Nat) (ps:List Str) (sp:Sp):Prop where
 ex:∃ f fd,qE P w K mg base CX0 k f fd ps sp/\JU K fd ps []/\zNo K C m f
structure zOM (P:Program) (w:World) (K:PySem.W.Frag) (mg:Str->Option Value) (base:Heap) (C:Addr) (x:Str) (k:Nat) (ps:List Str) (sp:Sp):Prop where
 ex:∃ f fd,qE P w K mg base CX0 k f fd ps sp/\JU K fd ps []/\Mk K C f/\mg x=some (.ref C)
end L2
namespace L2
open PySem PySem.Spec PyProof.Rows
def SIt (b:Bool) (h:Heap) (it a:Addr) (i:Nat):Prop:=match b with | true=>h.IsListIter it a i | false=>h.IsTupleIter it a i
section
variable {P:Program}{w:World}{A:Around}{E:Value->Shared->Prop}{s:Shared}
structure ZAt (b1 b2:Bool) (z TI TO i1 i2 l1 l2:Addr) (i:Nat) (h:Heap):Prop where
 zp:IsZip h z TI TO .none
 ti:IsPair h TI (.ref i1) (.ref i2)
 to:∃ a b,IsPair h TO a b
 n1:SIt b1 h i1 l1 i
 n2:SIt b2 h i2 l2 i
end
theorem Inv.turnedL {X:Cx}{pins:List (Addr×Obj)}{σ:St}{H:Hp}{s:Shared}{h':Heap}{t':Nat}{ch:List Addr} (I:Inv X pins σ H s) (fp:∀ b∈ch,Jg X pins H b)
  (k:∀ b q,b∉ch->s.heap.get? b=some q->h'.get? b=some q) (ht:0 < t'):Inv X pins σ H { s with heap:=h',toks:=t' }:=by
 have nch:∀ {b:Addr}{u:HO},H b=some u->b∉ch:=fun q z=>by rw[(fp _ z).1] at q;cases q
 refine I.step (g':=s.gens) (d':=s.drawn) (ch:=ch) (fun b hb=>⟨(fp b hb).2.2.2.1,(fp b hb).2.1,(fp b hb).2.2.2.2.1,(fp b hb).2.2.2.2.2⟩) (fun b q _ _ hc g _=>k b q hc g) (fun b q _ _ hc g _=>⟨q.slots,k b q hc g⟩)
  (fun _ _ _ _ n=>n) (fun b q hc g=>⟨q,k b q hc g⟩) (fun _ _ g=>g) (fun _ _ _ g=>g) (fun b ps g=>⟨#[],by rw[g];simp⟩) (fun m hm=>?_) (fun b u g=>?_) I.bare ht
 ·obtain⟨q,es,ep,ho,r⟩:=hm
  exact⟨q,es,ep,k _ q (fun z=>(fp _ z).2.1 rfl) ho,r⟩
 ·refine (I.hok b u g).stay (fun c v hc q=>?_) (fun c q=>q) fun c xs q=>q
  rcases hc with z | z
  ·rw[z] at q ⊢;exact k _ _ (nch g) q
  ·exact k _ _ (nch z) q
section
variable {Θ:Tab}
theorem zHz {S:M.S}{p:Nat}{ds:List M.D} (e:M.jL S p=some ds):S[p]? = some (.lst ds):=by
 unfold M.jL at e
 split at e
 ·rename_i ds' e1;cases e;exact e1
 ·cases e
end
end L2
namespace L2
open PySem PySem.Spec PyProof.Rows
section
variable {X:Cx}{Θ:Tab}{K:PySem.W.Frag}
def zJq:V->List V->Hp->VK->Prop:=fun x vs H Q=>∃ a y o,x=.ref a/\Zu H a y o/\((vs=[y]/\Q (o.getD .non) H)\/∃ d,vs=[y,d]/\Q (o.getD d) H)
theorem zGI {k:Nat} (hr:jN k X.A):MtM X "dict.get" zJq:=by
 intro pins s σ H x vs v us Q I rx rv h
 obtain⟨a,y,o,rfl,g,q⟩:=h
 cases rx
 rcases q with ⟨rfl,q⟩ | ⟨d,rfl,q⟩
 ·obtain⟨u,rfl,ru⟩:=rv.one
  exact zLQ (zCC hr) I g ru fun w' s' I' r'=>⟨_,H,I',r',q⟩
 ·obtain⟨u1,u2,rfl,e1,e2⟩:∃ u1 u2,us=[u1,u2]/\ze y u1/\ze d u2:=by
   cases rv with
   | cons c1 t1 =>
    cases t1 with
    | cons c2 t2=>cases t2;exact⟨_,_,rfl,c1,c2⟩
  exact zMF (zCC hr) I g e1 e2 fun w' s' I' r'=>⟨_,H,I',r',q⟩
theorem zHM:AdM K Θ M.zBq zJq:=by
 intro ρ H S x xs X Xs Q rp rx rxs h
 unfold M.zBq at h
 split at h
 ·rename_i p y
  obtain⟨Y,r,rfl,ry,rfl⟩:=rxs
  split at h
  ·rename_i kvs q
   obtain⟨a,rfl,ea⟩:=rx
   split at h
   ·rename_i hk
    obtain⟨ks,e1,r⟩:=QI rp ea q
    obtain⟨k,h1,rfl⟩:=Qa hk ry
    have hv:=r.val h1
    refine⟨a,_,yB ks k,rfl,Zu.k e1,.inl ⟨rfl,?_⟩⟩
    cases q2:M.jm y kvs with
    | none=>rw[q2] at hv h;rw[show yB ks k=none from hv];exact zD.here h rp rfl
    | some d =>
     rw[q2] at hv h
     obtain⟨v,e2,rv⟩:=hv
     rw[e2]
     exact zD.here h rp rv
   ·exact h.elim
  ·exact h.elim
 ·rename_i p y d
  obtain⟨Y,r,rfl,ry,Z,r2,rfl,rz,rfl⟩:=rxs
  split at h
  ·rename_i kvs q
   obtain⟨a,rfl,ea⟩:=rx
   split at h
   ·rename_i hk
    obtain⟨ks,e1,r⟩:=QI rp ea q
    obtain⟨k,h1,rfl⟩:=Qa hk ry
    have hv:=r.val h1
    refine⟨a,_,yB ks k,rfl,Zu.k e1,.inr ⟨Z,rfl,?_⟩⟩
    cases q2:M.jm y kvs with
    | none=>rw[q2] at hv h;rw[show yB ks k=none from hv];exact zD.here h rp rz
    | some d =>
     rw[q2] at hv h
     obtain⟨v,e2,rv⟩:=hv
     rw[e2]
     exact zD.here h rp rv
   ·exact h.elim
  ·exact h.elim
 ·exact h.elim
end
end L2
namespace L2
open PySem PySem.Spec PyProof.Rows
section
variable {P:Program}{w:World}{A:Around}{E:Value->Shared->Prop}{s:Shared}
set_option maxHeartbeats 4000000 in
end
end L2
namespace L2
open PySem PySem.Spec PyProof.Rows
theorem Inv.swapD {X:Cx}{pins:List (Addr×Obj)}{σ:St}{H:Hp}{s:Shared}{a:Addr}{u0 u1:HO} (I:Inv X pins σ H s) (e:H a=some u0) (n1:∀ xs,u0≠.tup xs) (n2:∀ o u,X.H₀ a≠some (.frz o u)) (n3:∀ ps,u0≠.tbl ps) (n4:∀ x,u0≠.own x)
  (new:jQ X.prog X.w (upd H a u1) s.heap a u1):Inv X pins σ (upd H a u1) s:=by
 have nn:∀ {b},H b=none->b≠a:=fun z q=>by rw[q,e] at z;cases z
 refine⟨I.ok,I.os,I.bare,⟨I.base.keep,I.base.slot,fun b ob q n hx=>?_,I.base.there,fun b xs q=>?_,fun b ob u q=>?_,fun b ps q=>?_⟩,I.loc,I.cell,?_,fun x c q=>?_,fun p hp'=>?_,fun b u q=>?_,I.len,I.tk⟩
 ·have z:=I.base.free b ob q n hx
  rw[zZ (nn z)];exact z
 ·have z:=I.base.tups b xs q
  rw[zZ (fun w=>by rw[w,e] at z;cases z;exact n1 xs rfl)];exact z
 ·have z:=I.base.frzs b ob u q
  rw[zZ (fun w=>by rw[w] at q;exact n2 _ _ q)];exact z
 ·obtain⟨mo,z⟩:=I.base.tbls b ps q
  exact⟨mo,by rw[zZ (fun w=>by rw[w,e] at z;cases z;exact n3 _ rfl)];exact z⟩
 ·rw[zZ (nn I.free)];exact I.free
 ·rw[zZ (nn (I.freeC x c q))];exact I.freeC x c q
 ·obtain⟨e1,e2,e3,e4,e5⟩:=I.pin p hp'
  exact⟨e1,by rw[zZ (nn e2)];exact e2,e3,e4,e5⟩
 ·by_cases hb:b=a
  ·subst hb;rw[z9] at q;cases q;exact new
  ·rw[zZ hb] at q
   exact (I.hok b u q).stay (fun _ _ _ q=>q) (fun c z=>by rw[zZ (fun w=>by rw[w,e] at z;cases z;exact n4 _ rfl)];exact z) fun c xs z=>by rw[zZ (fun w=>by rw[w,e] at z;cases z;exact n1 _ rfl)];exact z
theorem Inv.dict_base {X:Cx}{pins:List (Addr×Obj)}{σ:St}{H:Hp}{s:Shared}{a:Addr}{kvs:List (Key×V)} (I:Inv X pins σ H s) (e:H a=some (.dK kvs)):∀ o u,X.H₀ a≠some (.frz o u):=fun o u q=>by
 have z:=I.base.frzs a o u q
 rw[e] at z;cases z
theorem Inv.freeze {X:Cx}{pins:List (Addr×Obj)}{σ:St}{H:Hp}{s:Shared}{a:Addr}{kvs:List (Key×V)} (I:Inv X pins σ H s) (e:H a=some (.dK kvs)) :
  ∃ o vs ep,KV kvs vs/\(∀ h:Heap,h.get? a=some o->h.DictAt (jB X.prog X.w) a vs ep)/\s.heap.get? a=some o/\Inv X pins σ (upd H a (.frz o (.dK kvs))) s:=by
 have x:=I.hok a _ e
 obtain⟨z,hd,vs,rel,o,es,ep,ho,r⟩:=id x
 refine⟨o,vs,ep,rel,fun h q=>⟨o,es,q,r⟩,ho,I.swapD e (fun _ q=>nomatch q) (I.dict_base e) (fun _ q=>nomatch q) (fun _ q=>nomatch q) ⟨ho,z,hd,vs,rel,o,es,ep,ho,r⟩⟩
theorem Inv.thaw {X:Cx}{pins:List (Addr×Obj)}{σ:St}{H:Hp}{s:Shared}{a:Addr}{o:Obj}{kvs:List (Key×V)} (I:Inv X pins σ H s) (e:H a=some (.frz o (.dK kvs))) (n2:∀ o u,X.H₀ a≠some (.frz o u)):Inv X pins σ (upd H a (.dK kvs)) s:=by
 obtain⟨_,z,hd,vs,rel,dd⟩:=(show jQ X.prog X.w H s.heap a (.frz o (.dK kvs)) from I.hok a _ e)
 exact I.swapD e (fun _ q=>nomatch q) n2 (fun _ q=>nomatch q) (fun _ q=>nomatch q) ⟨z,hd,vs,rel,dd⟩
def Iti (a:Addr) (o:Obj) (kvs:List (Key×V)):It :=
 ⟨fun i H=>H a=some (.frz o (.dK kvs))/\∃ p,kvs[i]? = some p,fun i H v H'=>∃ q p,H q=none/\v=.ref q/\kvs[i]? = some p/\H'=upd H q (.tup [kV p.1,p.2]),fun i H=>H a=some (.frz o (.dK kvs))/\kvs.length <= i⟩
theorem zJn {P:Program}{w:World}{k:Key}{u:Value} (h:(jB P w).is k u=true):ze (kV k) u:=by
 rcases j4 h with ⟨i,t,rfl,rfl⟩ | ⟨x,t,rfl,rfl⟩
 ·exact⟨t,rfl⟩
 ·exact⟨t,rfl⟩
theorem zHj {kvs:List (Key×V)}{vs:List (Key×Value)}{i:Nat}{p:Key×V} (h:KV kvs vs) (e:kvs[i]? = some p):∃ q,vs[i]? = some q/\p.1=q.1/\ze p.2 q.2:=by
 unfold KV at h
 induction h generalizing i with
 | nil=>simp at e
 | cons h t ih =>
  cases i with
  | zero=>cases e;exact⟨_,rfl,h⟩
  | succ n =>
   obtain⟨q,hq,r⟩:=ih (by simpa using e)
   exact⟨q,by simpa using hq,r⟩
theorem zFG:entryFor table "dict_itemiterator.__iter__" = some Builtin.«dict_keyiterator.__iter__» :=
 entryFor_alias (id' := "dict_keyiterator.__iter__") (by kernel_rfl) (by first | rfl | decide +kernel | (unfold String.splitOn;simp +decide [String.splitOnAux])) (by decide +kernel) (by kernel_rfl)
theorem zGZ {P:Program}{w:World}{K:PySem.W.Frag}{elts:List Expr}{kt:_}{tp:Pos} (a it:Addr) (o:Obj) (kvs:List (Key×V)) (vs:List (Key×Value)) (ep:Nat) (rel:KV kvs vs) (hd:∀ h:Heap,h.get? a=some o->h.DictAt (jB P w) a vs ep) :
  zAN P w K (.Tuple elts kt tp) (Iti a o kvs) [it] it (fun i h=>∃ x y,IsItemIter h it a i vs.length ep x y) where
 mem:=by simp
 obj:=fun i h ⟨x,y,hi⟩ b hb=>by
  have z:b=it:=by simpa using hb
  subst z
  exact⟨_,hi,fun v z=>nomatch z⟩
 keep:=fun i h h' ⟨x,y,hi⟩ k=>⟨x,y,k it (by simp) _ hi⟩
 item:=by
  intro X hP hw hK hc i pins s σ H E I hf ⟨x,y,hi⟩ hg
  subst hP hw hK
  obtain⟨ha,p,hp⟩:=hg
  obtain⟨go,_⟩:=(show jQ X.prog X.w H s.heap a (.frz o (.dK kvs)) from I.hok a _ ha)
  obtain⟨q,hq,r1,r2⟩:=zHj rel hp
  obtain⟨k,v⟩:=q
  obtain⟨f0,f1,f2,f3,f4,f5⟩:=hf it (by simp)
  have hit:it≠s.heap.objs.size:=Nat.ne_of_lt (Heap.lt_size hi)
  refine wpAny_pyNext_items_item hi (hd _ go) hq fun key h' hk ho hT hsz kk=>?_
  refine⟨_,rfl,wpAny_letOwnedTupleGo_items ho fun h2 hi2 hs2=>?_⟩
  have hn:H s.heap.objs.size=none:=I.hok.fresh (Nat.le_refl _)
  have I1:Inv X pins σ H { s with heap:=h2,toks:=s.toks }:=I.turnedL (ch:=[it]) hf (fun b ob hb g=>by
   have nb:b≠it:=fun z=>hb (by simp[z])
   exact hs2.extBut _ _ nb (kk b ob nb g)) I.tk
  have I2:Inv X pins σ (upd H s.heap.objs.size (.tup [kV p.1,p.2])) { s with heap:=h2 }:=I1.track I.sz hn (Nat.ne_of_gt I.lt) (fun x c e=>by obtain⟨v,hv⟩:=I.cell x c e;exact Nat.ne_of_lt hv.lt) (fun p hp=>Nat.ne_of_lt (Heap.lt_size (I.pin p hp).1))
   ⟨show 2 <= sizeLine by decide,[key,v],.cons (by rw[r1];exact zJn hk) (.cons r2 .nil),⟨_,hs2.extBut _ _ (Ne.symm hit) hT,rfl,_,rfl⟩⟩
  refine⟨.ref s.heap.objs.size,_,I2,rfl,⟨_,p,hn,rfl,hp,rfl⟩,⟨_,_,hi2⟩,fun c hc=>?_⟩
  have z:c=it:=by simpa using hc
  subst z
  rw[zZ hit]
  exact f0
 done:=by
  intro X hP hw hK hc i pins s σ H E I hf ⟨x,y,hi⟩ hg
  subst hP hw hK
  obtain⟨ha,hl⟩:=hg
  obtain⟨go,_⟩:=(show jQ X.prog X.w H s.heap a (.frz o (.dK kvs)) from I.hok a _ ha)
  have el:kvs.length=vs.length:=Paired.length rel
  exact wpAny_pyNext_items_end (I.ok.hd hc) hi (hd _ go) (List.getElem?_eq_none (by omega)) fun h' hk=>⟨rfl,I.turnedL (t':=s.toks) (ch:=[it]) hf (fun b ob hb g=>hk b ob (fun z=>hb (by simp[z])) g) I.tk⟩
 self:=fun A i s Q E ⟨x,y,hi⟩ h=>by
  have hT:s.TypeIs (.ref it) "dict_itemiterator" := ⟨_,hi,rfl⟩
  refine wpAny_pyIter_slot hT PySem.F.slot_dict_itemiterator_iter (wpAny_call_entry PySem.F.slot_dict_itemiterator_iter hT zFG ?_ (PySem.F.args_dict_itemiterator_iter_1 _))
  show wpAny (model P w) _ (ret (.ref it)) _ _ s
  exact wpAny_pure ⟨_,rfl,"dict_itemiterator",_,hT,PySem.F.slot_dict_itemiterator_next.lookup,h⟩
def zN3 (H₀:Hp) (te:TE):TI:=fun σ H R=>te σ H fun v H1=>∃ a kvs,v=.ref a/\H1 a=some (.dK kvs)/\∀ o,(∀ o u,H₀ a≠some (.frz o u))->R (Iti a o kvs) (upd H1 a (.frz o (.dK kvs)))
theorem zJf {X:Cx}{e:Expr}{te:TE}{apos cpos:Pos}{elts:List Expr}{kt:_}{tp:Pos} (he:PE X e te)
  (hbase:attributeBase e "items" X.env (eval e X.env)=eval e X.env:=by rfl) (hline:(apos.endLine == cpos.line)=true:=by rfl):PI X (.Tuple elts kt tp) (.Call (.Attribute e "items" apos) [] [] cpos) (zN3 X.H₀ te):=by
 intro pins s σ H R I h
 refine wpAny_Call_method0_late hbase hline (thn (he pins s σ H _ I h) fun v s1 ⟨x,H1,I1,r1,q1⟩=>?_)
 obtain⟨a,kvs,rfl,ha,q⟩:=q1
 have ty:tyV X.K "dict" (.ref a) H1:=Or.inr (Or.inr (Or.inl ⟨rfl,Or.inl ⟨kvs,ha⟩⟩))
 obtain⟨t1,t2⟩:=zEr (T := "dict") I1 r1 ty
 obtain rfl:v=Value.ref a:=r1
 have x:=I1.hok a _ ha
 obtain⟨z,hd,vs,rel,dd⟩:=id x
 refine⟨"dict","dict.items",PySem.F.plainAttrs_dict,PySem.F.slot_dict_items,PySem.F.type_dict_items,t1,t2,Calls.callWith_builtin rfl (PySem.evalArgs_none ?_)⟩
 refine call_meetsIn PySem.F.slot_dict_items dd.typeIs PySem.F.entry_dict_items (PySem.F.args_dict_items_1 _) (meets_dict_items (jB X.prog X.w) a hd) ⟨⟨vs,dd⟩,?_⟩
 obtain⟨o,vs',ep,rel',hD,go,I2⟩:=I1.freeze ha
 have up:∀ {h:Heap}{o p b},h.get? b=some o->(h.push p).get? b=some o:=fun e=>Heap.get?_push_of_some _ e
 refine wpAny_pyIter_items ⟨_,Heap.get?_push_size _ rfl,rfl,rfl⟩ (hD _ (up go)) ?_
 have n1:(s1.heap.push { cls:=.type "dict_items",data:=.fields #[.ref a] }).objs.size=s1.heap.objs.size+1:=Heap.size_push ..
 refine⟨s1.heap.objs.size+1,[s1.heap.objs.size+1],_,_,upd H1 a (.frz o (.dK kvs)),by rw[<- n1],I2.kept (t':=s1.toks) (fun b ob e=>up (up e)),zGZ a _ o kvs vs' ep rel' hD,⟨Value.none,Value.none,?_⟩,fun b hb=>?_,q o (I1.dict_base ha)⟩
 ·have g:=Heap.get?_push_size (h:=s1.heap.push { cls:=.type "dict_items",data:=.fields #[.ref a] }) (o:={ cls:=.type "dict_itemiterator",data:=.fields #[.none,.bool false,.ref a,.int 0 0,.int vs'.length 0,.int ep 0,.none,.none] }) rfl
  rw[n1] at g
  exact g
 ·have zb:b=s1.heap.objs.size+1:=by simpa using hb
  subst zb
  exact I2.fpOk (Nat.le_succ _) (I2.hok.fresh (Nat.le_succ _))
section
variable {K:PySem.W.Frag}{Θ:Tab}{ρ:List Addr}{H H':Hp}
mutual
theorem zN.move (hT:∀ b xs,SqT K H b xs->SqT K H' b xs) (hR:∀ b xs,Q1 K H b xs->Q1 K H' b xs):∀ {d:M.D}{v:V},zN K ρ H d v->zN K ρ H' d v
 | .non,_,h=>h
 | .bl _,_,h=>h
 | .int _,_,h=>h
 | .str _,_,h=>h
 | .ty _,_,h=>h
 | .ref _,_,h=>h
 | .tup _,_,⟨a,xs,e,h,r⟩=>⟨a,xs,e,hT a xs h,zJ.move hT hR r⟩
 | .ro _,_,⟨a,xs,e,h,r⟩=>⟨a,xs,e,hR a xs h,zJ.move hT hR r⟩
theorem zJ.move (hT:∀ b xs,SqT K H b xs->SqT K H' b xs) (hR:∀ b xs,Q1 K H b xs->Q1 K H' b xs):∀ {ds:List M.D}{xs:List V},zJ K ρ H ds xs->zJ K ρ H' ds xs
 | [],_,h=>h
 | _::_,_,⟨y,ys,e,h,r⟩=>⟨y,ys,e,zN.move hT hR h,zJ.move hT hR r⟩
end
section
variable {a:Addr}{o:Obj}{ks:List (Key×V)} (ha:H a=some (.frz o (.dK ks)))
include ha
theorem zIF:∀ b xs,SqT K H b xs->SqT K (upd H a (.dK ks)) b xs:=fun b xs h=>by
 rcases h with (h | ⟨o',h⟩) | h
 ·exact .inl (.inl (by rw[zZ (fun z=>by rw[z,ha] at h;cases h)];exact h))
 ·exact .inl (.inr ⟨o',by rw[zZ (fun z=>by rw[z,ha] at h;cases h)];exact h⟩)
 ·exact .inr h
theorem zIQ:∀ b xs,Q1 K H b xs->Q1 K (upd H a (.dK ks)) b xs:=fun b xs h=>by
 rcases h with ⟨o',h⟩ | h
 ·exact .inl ⟨o',by rw[zZ (fun z=>by rw[z,ha] at h;cases h)];exact h⟩
 ·exact .inr h
theorem zN.thaw {d:M.D}{v:V} (r:zN K ρ H d v):zN K ρ (upd H a (.dK ks)) d v:=zN.move (zIF ha) (zIQ ha) r
theorem zw.thaw {σ':M.St}{σ:St} (h:zw K ρ H σ' σ):zw K ρ (upd H a (.dK ks)) σ' σ :=
 ⟨h.len,fun i d e=>let ⟨v,h1,h2⟩:=h.get i d e;⟨v,h1,zN.thaw ha h2⟩⟩
theorem ObR.thaw {b:Addr}{ob:M.O} (nb:b≠a) (h:ObR K Θ ρ H b ob):ObR K Θ ρ (upd H a (.dK ks)) b ob:=by
 have e:=zZ (H:=H) (o:=.dK ks) nb
 cases ob with
 | lst ds=>obtain⟨xs,e1,r⟩:=h;exact⟨xs,e.trans e1,zJ.move (zIF ha) (zIQ ha) r⟩
 | dct kvs=>obtain⟨ks,e1,r⟩:=h;exact⟨ks,e.trans e1,Paired.mapP r fun p q z=>⟨z.1,zN.thaw ha z.2⟩⟩
 | fdc kvs=>obtain⟨o',ks',e1,r⟩:=h;exact⟨o',ks',e.trans e1,Paired.mapP r fun p q z=>⟨z.1,zN.thaw ha z.2⟩⟩
 | ins c fs =>
  obtain⟨C,dx,gs,N,e1,e2,r⟩:=h
  exact⟨C,dx,gs,N,e.trans e1,e2,r.len,r.nd,r.within,fun i f d h1 h2=>let ⟨v,k1,k2⟩:=r.get i f d h1 h2;⟨v,k1,zN.thaw ha k2⟩⟩
theorem zV.thaw {S:M.S}{i:Nat}{kvs:List (M.D×M.D)} (h:zV K Θ ρ S H) (hi:ρ[i]? = some a) (r:Paired (fun (p:M.D×M.D) (q:Key×V)=>yT p.1 q.1/\zN K ρ (upd H a (.dK ks)) p.2 q.2) kvs ks):zV K Θ ρ (S.set i (.dct kvs)) (upd H a (.dK ks)):=by
 refine⟨by simp[h.len],h.nd,fun j ob q=>?_⟩
 by_cases hj:i=j
 ·subst hj
  by_cases hl:i < S.length
  ·rw[List.getElem?_set_self hl] at q
   cases q
   exact⟨a,hi,ks,z9,r⟩
  ·rw[List.getElem?_eq_none (by rw[List.length_set];omega)] at q
   cases q
 ·rw[List.getElem?_set_ne hj] at q
  obtain⟨b,h1,h2⟩:=h.obj j ob q
  exact⟨b,h1,ObR.thaw ha (fun z=>hj (zAV h.nd hi (z ▸ h1))) h2⟩
end
theorem zDF {α β:Type}{R:α->β->Prop}{xs:List α}{ys:List β}{i:Nat}{y:β} (h:Paired R xs ys) (e:ys[i]? = some y):∃ x,xs[i]? = some x/\R x y:=by
 induction h generalizing i with
 | nil=>simp at e
 | cons h t ih =>
  cases i with
  | zero=>cases e;exact⟨_,rfl,h⟩
  | succ n =>
   obtain⟨q,hq,r⟩:=ih (by simpa using e)
   exact⟨q,by simpa using hq,r⟩
theorem yT.rel {d:M.D}{k:Key} (h:yT d k):zN K ρ H d (kV k):=by
 cases d with
 | int i=>cases h;rfl
 | str x=>obtain⟨rfl,ok⟩:=h;exact⟨rfl,ok⟩
 | _=>exact h.elim
theorem zHH {a:Addr}{o:Obj}{kvs:List (M.D×M.D)}{ks:List (Key×V)} (ha:H a=some (.frz o (.dK ks))) (r:Paired (fun (p:M.D×M.D) (q:Key×V)=>yT p.1 q.1/\zN K ρ H p.2 q.2) kvs ks):ItR K Θ ρ H (Iti a o ks) (kvs.map fun p=>.tup [p.1,p.2]) []:=by
 have el:kvs.length=ks.length:=Paired.length r
 refine⟨fun j ρ' S' H' p l rp g hj=>?_,fun j ρ' S' H' v H2 p l rp g hj y=>?_,fun ρ' S' H' p l rp g=>?_⟩
 ·rw[List.length_map,el] at hj
  exact⟨l.frzs _ _ _ ha,ks[j],by simp[hj]⟩
 ·obtain⟨q,kv,hn,rfl,hk,rfl⟩:=y
  obtain⟨x,hx,r1,r2⟩:=zDF r hk
  have ln:=Le.new hn (.tup [kV kv.1,kv.2])
  exact⟨.tup [x.1,x.2],by rw[List.getElem?_map,hx];rfl,⟨q,_,rfl,SqT.of z9,_,_,rfl,yT.rel r1,_,_,rfl,r2.mono p (l.trans ln),rfl⟩,ln,rp.aside hn _⟩
 ·exact⟨l.frzs _ _ _ ha,by rw[List.length_map,el];exact Nat.le_refl _⟩
end
def zJr (H₀:Hp) (D:Qm):Qm where
 nx:=fun σ H=>∃ a o ks,H a=some (.frz o (.dK ks))/\(∀ o u,H₀ a≠some (.frz o u))/\D.nx σ (upd H a (.dK ks))
 rt:=fun v H=>∃ a o ks,H a=some (.frz o (.dK ks))/\(∀ o u,H₀ a≠some (.frz o u))/\D.rt v (upd H a (.dK ks))
 bk:=fun σ H=>∃ a o ks,H a=some (.frz o (.dK ks))/\(∀ o u,H₀ a≠some (.frz o u))/\D.bk σ (upd H a (.dK ks))
 ct:=fun σ H=>∃ a o ks,H a=some (.frz o (.dK ks))/\(∀ o u,H₀ a≠some (.frz o u))/\D.ct σ (upd H a (.dK ks))
theorem zGK {X:Cx}{st:Stmt}{t:TS} (h:PS X st t):PS X st fun D σ H=>t (zJr X.H₀ D) σ H:=fun pins s σ H D I q=>thn (h pins s σ H _ I q) fun f s1 z=>by
 cases f with
 | next=>obtain⟨σ1,H1,I1,a,o,ks,e,n,d⟩:=z;exact⟨σ1,_,I1.thaw e n,d⟩
 | brk=>obtain⟨σ1,H1,I1,a,o,ks,e,n,d⟩:=z;exact⟨σ1,_,I1.thaw e n,d⟩
 | cont=>obtain⟨σ1,H1,I1,a,o,ks,e,n,d⟩:=z;exact⟨σ1,_,I1.thaw e n,d⟩
 | ret u=>obtain⟨v,σ1,H1,I1,r,a,o,ks,e,n,d⟩:=z;exact⟨v,σ1,_,I1.thaw e n,r,d⟩
section
variable {X:Cx}{Θ:Tab}
theorem zDS {K:PySem.W.Frag}{H₀:Hp}{ρ:List Addr}{H:Hp}{i:Nat}{a:Addr}{o:Obj}{kvs:List (M.D×M.D)}{ks:List (Key×V)}{r:M.RS}{D:Qm} (hi:ρ[i]? = some a) (ha:H a=some (.dK ks)) (n:∀ o u,H₀ a≠some (.frz o u)) (pr:Paired (fun (p:M.D×M.D) (q:Key×V)=>yT p.1 q.1/\zN K ρ H p.2 q.2) kvs ks)
  (h:zl K Θ ρ H (M.thaw i kvs r) D):zl K Θ ρ (upd H a (.frz o (.dK ks))) r (zJr H₀ D):=by
 have key:∀ {ρ':List Addr}{H':Hp}{S:M.S},ρ <+: ρ'->Le (upd H a (.frz o (.dK ks))) H'->zV K Θ ρ' S H'->H' a=some (.frz o (.dK ks))/\Le H (upd H' a (.dK ks))/\zV K Θ ρ' (S.set i (.dct kvs)) (upd H' a (.dK ks)):=fun {ρ' H' S} p l rp=>by
  have e:=l.frzs a o (.dK ks) z9
  have le:Le H (upd H' a (.dK ks)):=by
   refine⟨fun b xs q=>?_,fun b ob u q=>?_⟩
   ·have nb:b≠a:=fun z=>by rw[z,ha] at q;cases q
    rw[zZ nb]
    exact l.tups b xs (by rw[zZ nb];exact q)
   ·have nb:b≠a:=fun z=>by rw[z,ha] at q;cases q
    rw[zZ nb]
    exact l.frzs b ob u (by rw[zZ nb];exact q)
  exact⟨e,le,rp.thaw e (Jr p hi) (Paired.mapP pr fun x y z=>⟨z.1,z.2.mono p le⟩)⟩
 cases r with
 | nx σ1 S1 =>
  intro ρ' H' σ p l rp st
  obtain⟨e,le,rp'⟩:=key p l rp
  have h':zl K Θ ρ H (if S1[i]? = some (.fdc kvs) then .nx σ1 (S1.set i (.dct kvs)) else .no) D:=h
  split at h'
  ·exact⟨a,o,ks,e,n,h' ρ' _ σ p le rp' (zw.thaw e st)⟩
  ·exact h'.elim
 | bk σ1 S1 =>
  intro ρ' H' σ p l rp st
  obtain⟨e,le,rp'⟩:=key p l rp
  have h':zl K Θ ρ H (if S1[i]? = some (.fdc kvs) then .bk σ1 (S1.set i (.dct kvs)) else .no) D:=h
  split at h'
  ·exact⟨a,o,ks,e,n,h' ρ' _ σ p le rp' (zw.thaw e st)⟩
  ·exact h'.elim
 | ct σ1 S1 =>
  intro ρ' H' σ p l rp st
  obtain⟨e,le,rp'⟩:=key p l rp
  have h':zl K Θ ρ H (if S1[i]? = some (.fdc kvs) then .ct σ1 (S1.set i (.dct kvs)) else .no) D:=h
  split at h'
  ·exact⟨a,o,ks,e,n,h' ρ' _ σ p le rp' (zw.thaw e st)⟩
  ·exact h'.elim
 | rt d S1 =>
  intro ρ' H' v p l rp rv
  obtain⟨e,le,rp'⟩:=key p l rp
  have h':zl K Θ ρ H (if S1[i]? = some (.fdc kvs) then .rt d (S1.set i (.dct kvs)) else .no) D:=h
  split at h'
  ·exact⟨a,o,ks,e,n,h' ρ' _ v p le rp' (zN.thaw e rv)⟩
  ·exact h'.elim
 | exc e σ1 S1=>exact h
 | no=>exact h
theorem zFW {e:Expr}{m:M.EM}{elts:List Expr}{kt:_}{tp pos apos cpos:Pos}{body:List Stmt}{g:M.GM}{js:List Nat}{mb:M.SM} (hp:PassesOwn (model X.prog X.w) X.A X.env X.xe) (hc:X.calm=true) (he:ME X Θ e m) (hg:MG X Θ js (.Tuple elts kt tp) g) (hb:MSs X Θ body mb)
  (hbase:attributeBase e "items" X.env (eval e X.env)=eval e X.env:=by rfl) (hline:(apos.endLine == cpos.line)=true:=by rfl) (hs:∀ x,foldedSetIterable (.Call (.Attribute e "items" apos) [] [] cpos) X.env x=pure x:=by intro _;rfl):MS X Θ (.For (.Tuple elts kt tp) (.Call (.Attribute e "items" apos) [] [] cpos) body [] pos) (M.yP m g mb) :=
 (zGK (zD4 hp hc (zJf he hbase hline) hg hb hs)).imp fun D σ H ⟨ρ,σ',S,st,rp,h⟩=>by
  refine⟨ρ,σ',S,st,rp,zl.stm h fun ρ1 H1 d v S1 p1 l1 rp1 rv h1=>?_⟩
  cases d with
  | ref i =>
   obtain⟨a,rfl,hi⟩:=rv
   have h1':zl X.K Θ ρ1 H1 (match S1[i]? with
    | some (.dct kvs)=>M.thaw i kvs (M.qW [] (M.jr g mb) (kvs.map fun p=>.tup [p.1,p.2]) σ' (S1.set i (.fdc kvs)))
    | _=>.no) D:=h1
   cases q:S1[i]? with
   | none=>rw[q] at h1';exact h1'.elim
   | some ob =>
    rw[q] at h1'
    cases ob with
    | dct kvs =>
     obtain⟨b,hb',ks,ha,pr⟩:=rp1.obj i _ q
     rw[hi] at hb';cases hb'
     refine⟨a,ks,rfl,ha,fun o n=>?_⟩
     have le:Le H1 (upd H1 a (.frz o (.dK ks))):=Le.put (Jt ha) _
     exact zGX (zHH z9 (Paired.mapP pr fun x y z=>⟨z.1,z.2.mono (List.prefix_refl _) le⟩)) (st.mono p1 (l1.trans le)) (rp1.put (o:=.fdc kvs) hi (Jt ha) ⟨o,ks,z9,Paired.mapP pr fun x y z=>⟨z.1,z.2.mono (List.prefix_refl _) le⟩⟩) rfl (zDS hi ha n pr h1')
    | lst xs=>exact h1'.elim
    | fdc _=>exact h1'.elim
    | ins c fs=>exact h1'.elim
  | _=>exact h1.elim
theorem zAl {e:Expr}{m:M.EM}{elts:List Expr}{kt:_}{tp pos apos cpos:Pos}{body:List Stmt}{g:M.GM}{js:List Nat}{mb:M.SM} (hp:PassesOwn (model X.prog X.w) X.A X.env X.xe) (hc:X.calm=true) (he:WE X Θ e m) (hg:WG X Θ js (.Tuple elts kt tp) g) (hb:WSs X Θ body mb)
  (hbase:attributeBase e "items" X.env (eval e X.env)=eval e X.env:=by rfl) (hline:(apos.endLine == cpos.line)=true:=by rfl) (hs:∀ x,foldedSetIterable (.Call (.Attribute e "items" apos) [] [] cpos) X.env x=pure x:=by intro _;rfl):WS X Θ (.For (.Tuple elts kt tp) (.Call (.Attribute e "items" apos) [] [] cpos) body [] pos) (M.yP m g mb):=by with_unfolding_all exact zFW (e:=e) (m:=m) (elts:=elts) (kt:=kt) (tp:=tp) (pos:=pos) (apos:=apos) (cpos:=cpos) (body:=body) (g:=g) (js:=js) (mb:=mb) hp hc he hg hb hbase hline hs
end
end L2
namespace L2
open PySem PySem.Spec PyProof.Rows
theorem zAa:∀ {us:List Value}{ys:List Str},StrsAre us ys->zY (ys.map V.str) us
 | _,_,.nil=>.nil
 | _,_,.cons x t r=>.cons ⟨t,rfl⟩ (zAa r)
def zJt (K:PySem.W.Frag):List V->Hp->VK->Prop:=fun xs H Q=>∃ p ys,xs=[.ref p]/\SqL K H p (ys.map V.str)/\ys.length <= 16777216/\∀ q ys',H q=none->ys'.Perm ys->sortedS ys'=true->Q (.ref q) (upd H q (.lst (ys'.map V.str)))
theorem zEG {X:Cx}{k:Nat} (hr:jN k X.A):jp X (.builtin "sorted") (zJt X.K):=by
 intro pins s σ H xs us Q I r h
 obtain⟨p,ys,rfl,hq,h64,q⟩:=h
 obtain⟨u,rfl,ru⟩:=Zq r
 cases ru
 obtain⟨its,rv,pl,hz⟩:=I.list hq
 have hlen:its.length=ys.length:=by have:=rv.length;simp at this;omega
 refine TS.sorted_any pl.isList (zAh rv) (by omega) fun out ys' a1 a2 a3=>?_
 obtain⟨e,he⟩:=sortedAll_at s.heap its out
 have hl':=a2.length_eq
 refine⟨.ref (s.heap.objs.size+1),_,I.laid (t':=s.toks) (o:=.lst (ys'.map V.str)) (fun b ob q=>sortedAll_old q) (Nat.le_succ _) ⟨by rw[List.length_map,sizeLine_eq];omega,out.toList,e,zAa a1,?_⟩,rfl,q _ _ (I.hok.fresh (Nat.le_succ _)) a2 a3⟩
 simpa [seqObj] using he
theorem zME (a:M.T):¬ a < a:=fun h=>List.lt_irrefl a h
theorem zDE {a b c:M.T} (h1:¬ b < a) (h2:¬ c < b):¬ c < a:=by
 rw[List.not_lt] at h1 h2 ⊢
 exact List.le_trans h1 h2
theorem zJX {a b:M.T} (h1:¬ b < a) (h2:¬ a < b):a=b:=by
 rw[List.not_lt] at h1 h2
 exact List.le_antisymm h1 h2
theorem zBY (x:M.T):∀ ts:List M.T,(M.jb.insT' x ts).Perm (x::ts)
 | []=>.refl _
 | y::r=>by
  unfold M.jb.insT'
  split
  ·exact ((zBY x r).cons y).trans (.swap x y r)
  ·exact .refl _
theorem JZ:∀ ts:List M.T,(M.jb ts).Perm ts
 | []=>.refl _
 | x::r=>(zBY x _).trans ((JZ r).cons x)
theorem zEO (x:M.T):∀ ts:List M.T,ts.Pairwise (fun a b=>¬ b < a)->(M.jb.insT' x ts).Pairwise (fun a b=>¬ b < a)
 | [],_=>by unfold M.jb.insT';simp
 | y::r,h=>by
  rw[List.pairwise_cons] at h
  unfold M.jb.insT'
  split
  ·rename_i hy
   rw[List.pairwise_cons]
   refine⟨fun b hb=>?_,zEO x r h.2⟩
   rcases List.mem_cons.mp ((zBY x r).mem_iff.mp hb) with rfl | hb
   ·exact fun z=>zME _ (List.lt_trans z hy)
   ·exact h.1 b hb
  ·rename_i hy
   rw[List.pairwise_cons]
   refine⟨fun b hb=>?_,List.pairwise_cons.mpr h⟩
   rcases List.mem_cons.mp hb with rfl | hb
   ·exact hy
   ·exact zDE hy (h.1 b hb)
theorem zC8:∀ ts:List M.T,(M.jb ts).Pairwise (fun a b=>¬ b < a)
 | []=>.nil
 | x::r=>zEO x _ (zC8 r)
theorem zBS:∀ (p:Str) (l:List Str),risingS p l=true->(p::l).Pairwise (fun a b=>¬ b.cps.toList < a.cps.toList)
 | p,[],_=>by simp
 | p,x::r,h=>by
  unfold risingS at h
  rw[Bool.and_eq_true,Bool.not_eq_true',ltCps_eq,decide_eq_false_iff_not] at h
  have ih:=zBS x r h.2
  rw[List.pairwise_cons]
  refine⟨fun b hb=>?_,ih⟩
  rcases List.mem_cons.mp hb with rfl | hb
  ·exact h.1
  ·exact zDE h.1 ((List.pairwise_cons.mp ih).1 b hb)
theorem zGd {l:List Str} (h:sortedS l=true):l.Pairwise (fun a b=>¬ b.cps.toList < a.cps.toList):=by
 cases l with
 | nil=>exact .nil
 | cons x r=>exact zBS x r h
theorem zCT {ts:List M.T}{ys:List Str} (hp:ys.Perm (ts.map ofT)) (hs:sortedS ys=true):ys=(M.jb ts).map ofT:=by
 refine List.Perm.eq_of_pairwise (le:=fun a b=>¬ b.cps.toList < a.cps.toList) (fun a b _ hb h1 h2=>?_) (zGd hs) ?_ (hp.trans ((JZ ts).map ofT).symm)
 ·have e:=zJX h1 h2
  cases a with
  | mk ca=>cases b with
   | mk cb=>exact congrArg Str.mk (Array.toList_inj.mp e)
 ·rw[List.pairwise_map]
  refine (zC8 ts).imp fun {a b} h=>?_
  rw[Zx,Zx]
  exact h
section
variable {K:PySem.W.Frag}{Θ:Tab}
theorem zHd:AdN K Θ M.zBG (zJt K):=by
 intro ρ H S xs Xs Q rp rxs h
 unfold M.zBG at h
 split at h
 ·rename_i p
  obtain⟨Y,r,rfl,ry,rfl⟩:=rxs
  split at h
  ·rename_i ds e
   obtain⟨a,zs,rfl,ha,hx,rz⟩:=Jv rp ry (zHz e)
   unfold M.Z5 at h
   split at h
   ·rename_i ts et
    obtain⟨rfl,hok⟩:=JV et rz
    split at h
    ·rename_i h64
     refine⟨a,ts.map ofT,rfl,SqL.of hx,by rw[List.length_map];exact h64,fun q ys' hq hp hs=>?_⟩
     rw[zCT hp hs]
     exact h.alloc rp (zBf (M.jb ts) fun t ht=>hok t ((JZ ts).mem_iff.mp ht)) hq
    ·exact h.elim
   ·exact h.elim
  ·exact h.elim
 ·exact h.elim
end
end L2
namespace L2
open PySem PySem.Spec PyProof.Rows
def Itk (a:Addr) (o:Obj) (kvs:List (Key×V)):It :=
 ⟨fun i H=>H a=some (.frz o (.dK kvs))/\∃ p,kvs[i]? = some p,fun i H v H'=>H'=H/\∃ p,kvs[i]? = some p/\v=kV p.1,fun i H=>H a=some (.frz o (.dK kvs))/\kvs.length <= i⟩
theorem zHT {P:Program}{w:World}{K:PySem.W.Frag}{tg:Expr} (a it:Addr) (o:Obj) (kvs:List (Key×V)) (vs:List (Key×Value)) (ep:Nat) (rel:KV kvs vs) (hd:∀ h:Heap,h.get? a=some o->h.DictAt (jB P w) a vs ep) :
  zAN P w K tg (Itk a o kvs) [it] it (fun i h=>h.IsKeyIter it a i vs.length ep) where
 mem:=by simp
 obj:=fun i h st b hb=>by
  have z:b=it:=by simpa using hb
  subst z
  obtain⟨o,e,c,d⟩:=st
  exact⟨o,e,fun v z=>by rw[d] at z;cases z⟩
 keep:=fun i h h' st k=>st.at fun o e=>k it (by simp) o e
 item:=by
  intro X hP hw hK hc i pins s σ H E I hf st hg
  subst hP hw hK
  obtain⟨ha,p,hp⟩:=hg
  obtain⟨go,_⟩:=(show jQ X.prog X.w H s.heap a (.frz o (.dK kvs)) from I.hok a _ ha)
  obtain⟨q,hq,r1,r2⟩:=zHj rel hp
  obtain⟨k,v⟩:=q
  obtain⟨f0,f1,f2,f3,f4,f5⟩:=hf it (by simp)
  refine wpAny_pyNext_dict_item st (hd _ go) hq fun key h' hk st' sb=>?_
  have I1:Inv X pins σ H { s with heap:=h' }:=I.turned (t':=s.toks) (fun b o hb e=>sb.extBut b o hb e) f0 f1 f3 f4 f5
  obtain⟨o',e,c,d⟩:=id st'
  exact⟨key,rfl,zBJ (s:={ s with heap:=h' }) e c d (by decide) ⟨kV p.1,H,I1,by rw[r1];exact zJn hk,⟨rfl,p,hp,rfl⟩,st',fun b hb=>(hf b hb).1⟩⟩
 done:=by
  intro X hP hw hK hc i pins s σ H E I hf st hg
  subst hP hw hK
  obtain⟨ha,hl⟩:=hg
  obtain⟨go,_⟩:=(show jQ X.prog X.w H s.heap a (.frz o (.dK kvs)) from I.hok a _ ha)
  obtain⟨f0,f1,f2,f3,f4,f5⟩:=hf it (by simp)
  have el:kvs.length=vs.length:=Paired.length rel
  exact wpAny_pyNext_dict_end (I.ok.hd hc) st (hd _ go) (List.getElem?_eq_none (by omega)) fun h' eb=>⟨rfl,I.turned (t':=s.toks) (fun b o hb e=>eb b o hb e) f0 f1 f3 f4 f5⟩
 self:=fun _ _ _ _ _ st h=>wpAny_pyIter_keyiter st h
theorem zLR {X:Cx}{pins:List (Addr×Obj)}{σ:St}{H:Hp}{s:Shared}{a:Addr}{o:Obj}{kvs:List (Key×V)} (I:Inv X pins σ H s) (e:H a=some (.frz o (.dK kvs))) :
  (a == sysModules)=false/\∃ vs ep,KV kvs vs/\(∀ h:Heap,h.get? a=some o->h.DictAt (jB X.prog X.w) a vs ep)/\s.heap.get? a=some o:=by
 obtain⟨go,z,hd,vs,rel,o',es,ep,ho,r⟩:=(show jQ X.prog X.w H s.heap a (.frz o (.dK kvs)) from I.hok a _ e)
 rw[go] at ho;cases ho
 exact⟨hd,vs,ep,rel,fun h q=>⟨o,es,q,r⟩,go⟩
theorem zKU {X:Cx}{pins:List (Addr×Obj)}{σ:St}{H:Hp}{s:Shared}{a:Addr}{o:Obj}{kvs:List (Key×V)}{tg:Expr}{R:It->Hp->Prop}{E:Value->Shared->Prop} (I:Inv X pins σ H s) (e:H a=some (.frz o (.dK kvs))) (q:R (Itk a o kvs) H) :
  wpAny (model X.prog X.w) X.A (pyIter (.ref a)) (PIE X pins σ tg R) E s:=by
 obtain⟨hd,vs,ep,rel,hD,go⟩:=zLR I e
 refine wpAny_pyIter_dict hd (hD _ go) ?_
 refine⟨s.heap.objs.size,[s.heap.objs.size],_,_,H,rfl,I.kept (t':=s.toks) (fun b ob e=>Heap.get?_push_of_some _ e),zHT a _ o kvs vs ep rel hD,⟨_,Heap.get?_push_size _ rfl,rfl,rfl⟩,fun b hb=>?_,q⟩
 have zb:b=s.heap.objs.size:=by simpa using hb
 subst zb
 exact I.fpOk (Nat.le_refl _) (I.hok.fresh (Nat.le_refl _))
def iKy (H₀:Hp) (te:TE):TI:=fun σ H R=>te σ H fun v H1=>∃ a kvs,v=.ref a/\H1 a=some (.dK kvs)/\∀ o,(∀ o u,H₀ a≠some (.frz o u))->R (Itk a o kvs) (upd H1 a (.frz o (.dK kvs)))
theorem zKf {X:Cx}{tg e:Expr}{te:TE} (he:PE X e te):PI X tg e (iKy X.H₀ te):=by
 intro pins s σ H R I h
 refine thn (he pins s σ H _ I h) fun v s1 ⟨x,H1,I1,r1,q1⟩=>?_
 obtain⟨a,kvs,rfl,ha,q⟩:=q1
 obtain rfl:v=Value.ref a:=r1
 obtain⟨o,vs',ep,rel',hD,go,I2⟩:=I1.freeze ha
 exact zKU I2 z9 (q o (I1.dict_base ha))
section
variable {K:PySem.W.Frag}{Θ:Tab}{ρ:List Addr}{H:Hp}
theorem zJP {a:Addr}{o:Obj}{kvs:List (M.D×M.D)}{ks:List (Key×V)} (ha:H a=some (.frz o (.dK ks))) (r:Paired (fun (p:M.D×M.D) (q:Key×V)=>yT p.1 q.1/\zN K ρ H p.2 q.2) kvs ks):ItR K Θ ρ H (Itk a o ks) (kvs.map (·.1)) []:=by
 have el:kvs.length=ks.length:=Paired.length r
 refine⟨fun j ρ' S' H' p l rp g hj=>?_,fun j ρ' S' H' v H2 p l rp g hj y=>?_,fun ρ' S' H' p l rp g=>?_⟩
 ·rw[List.length_map,el] at hj
  exact⟨l.frzs _ _ _ ha,ks[j],by simp[hj]⟩
 ·obtain⟨rfl,q,hk,rfl⟩:=y
  obtain⟨x,hx,r1,r2⟩:=zDF r hk
  exact⟨x.1,by rw[List.getElem?_map,hx];rfl,yT.rel r1,Le.refl _,rp⟩
 ·exact⟨l.frzs _ _ _ ha,by rw[List.length_map,el];exact Nat.le_refl _⟩
end
section
variable {X:Cx}{Θ:Tab}
theorem zGm {tg e:Expr}{m:M.EM}{pos:Pos}{body:List Stmt}{g:M.GM}{js:List Nat}{mb:M.SM} (hp:PassesOwn (model X.prog X.w) X.A X.env X.xe) (hc:X.calm=true) (he:ME X Θ e m) (hg:MG X Θ js tg g) (hb:MSs X Θ body mb)
  (hs:∀ x,foldedSetIterable e X.env x=pure x:=by intro _;rfl):MS X Θ (.For tg e body [] pos) (M.yv m g mb) :=
 (zGK (zD4 hp hc (zKf he) hg hb hs)).imp fun D σ H ⟨ρ,σ',S,st,rp,h⟩=>by
  refine⟨ρ,σ',S,st,rp,zl.stm h fun ρ1 H1 d v S1 p1 l1 rp1 rv h1=>?_⟩
  cases d with
  | ref i =>
   obtain⟨a,rfl,hi⟩:=rv
   have h1':zl X.K Θ ρ1 H1 (match S1[i]? with
    | some (.dct kvs)=>M.thaw i kvs (M.qW [] (M.jr g mb) (kvs.map (·.1)) σ' (S1.set i (.fdc kvs)))
    | _=>.no) D:=h1
   cases q:S1[i]? with
   | none=>rw[q] at h1';exact h1'.elim
   | some ob =>
    rw[q] at h1'
    cases ob with
    | dct kvs =>
     obtain⟨b,hb',ks,ha,pr⟩:=rp1.obj i _ q
     rw[hi] at hb';cases hb'
     refine⟨a,ks,rfl,ha,fun o n=>?_⟩
     have le:Le H1 (upd H1 a (.frz o (.dK ks))):=Le.put (Jt ha) _
     have pr':=Paired.mapP pr fun x y z=>(⟨z.1,z.2.mono (List.prefix_refl _) le⟩:yT x.1 y.1/\zN X.K ρ1 (upd H1 a (.frz o (.dK ks))) x.2 y.2)
     exact zGX (zJP z9 pr') (st.mono p1 (l1.trans le)) (rp1.put (o:=.fdc kvs) hi (Jt ha) ⟨o,ks,z9,pr'⟩) rfl (zDS hi ha n pr h1')
    | lst xs=>exact h1'.elim
    | fdc _=>exact h1'.elim
    | ins c fs=>exact h1'.elim
  | _=>exact h1.elim
theorem zA6 {tg e:Expr}{m:M.EM}{pos:Pos}{body:List Stmt}{g:M.GM}{js:List Nat}{mb:M.SM} (hp:PassesOwn (model X.prog X.w) X.A X.env X.xe) (hc:X.calm=true) (he:WE X Θ e m) (hg:WG X Θ js tg g) (hb:WSs X Θ body mb)
  (hs:∀ x,foldedSetIterable e X.env x=pure x:=by intro _;rfl):WS X Θ (.For tg e body [] pos) (M.yv m g mb):=by with_unfolding_all exact zGm (tg:=tg) (e:=e) (m:=m) (pos:=pos) (body:=body) (g:=g) (js:=js) (mb:=mb) hp hc he hg hb hs
end
end L2
namespace L2
open PySem PySem.Spec PyProof.Rows
section
variable {P:Program}{w:World}{A:Around}{E:Value->Shared->Prop}{s:Shared}
abbrev Pq:=Addr×Key×Value×Value
def stL (qs:List Pq):List (Key×Value):=qs.foldl (fun acc q=>stored acc q.2.1 q.2.2.2) []
end
end L2
namespace L2
open PySem PySem.Spec PyProof.Rows
section
variable {P:Program}{w:World}{A:Around}{E:Value->Shared->Prop}{s:Shared}
theorem zFZ {d:Addr}{kvs:List (Key×Value)}{ep:Nat}{ss:List Str}{Q:Value->Shared->Prop} (hh:A.handled=none) (lo:(d == sysModules)=false) (da:s.heap.DictAt (jB P w) d kvs ep) (hS:∀ vs:List Value,vs.length=kvs.length->(∀ (j:Nat) v,vs[j]? = some v->∃ k x,kvs[j]? = some (k,x)/\(jB P w).is k v=true)->StrsAre vs ss) (h64:kvs.length <= 16777216)
  (h:∀ (h1 h':Heap) (tk:Nat) (L:Addr) (out:List Value) (e:Nat) (ss':List Str),h1.objs.size <= L->(∀ b o,s.heap.get? b=some o->h1.get? b=some o)->(∀ b o,h1.get? b=some o->h'.get? b=some o)->h'.get? L=some (seqObj "list" out.toArray e)->StrsAre out ss'->ss'.Perm ss->sortedS ss'=true->Q (.ref L) { s with heap:=h',toks:=tk }) :
  wpAny (model P w) A (call (.builtin "sorted") [.ref d]) Q E s:=by
 refine Calls.call_function_entry kind_sorted plain_sorted entry_sorted (args_sorted1 _) ?_
 unfold Builtin.«sorted»
 refine wpAny_bind (m:=checkCount "sorted" 1 1 _) (wpAny_pure ?_)
 refine wpAny_bind (PySem.W.kdu_collect (A:=A.in1) (PySem.W.kdl_dict lo) hh da (by rw[sizeLine_eq];omega) fun h1 tk acc hk hacc=>?_)
 have hl:acc.toList.length=kvs.length:=by rw[Array.length_toList];exact hacc.1
 refine wpAny_bind (wpAny_newList ?_ (by rw[hl,sizeLine_eq];omega))
 have hst:StrsAre acc.toList ss:=hS _ hl fun j v e=>by
  obtain⟨k,x,e1,e2⟩:=hacc.2 j v (by rw[<- Array.getElem?_toList];exact e)
  exact⟨k,x,e1,e2⟩
 have hoL:(h1.push (seqObj "list" acc.toList.toArray 0)).get? h1.objs.size=some (seqObj "list" acc.toList.toArray 0):=Heap.get?_push_size _ rfl
 show wpAny _ _ _ _ _ { s with heap:=h1.push (seqObj "list" acc.toList.toArray 0),toks:=tk }
 refine wpAny_bind (wpAny_holding (wpAny_call_entry slot_list_sort ⟨_,hoL,rfl⟩ entry_list_sort (TS.sort_any strKind_oneLt hoL hst.keysOf (fun v₁ v₂ jt e=>keyKind_strs (by rw[<- e];exact hst)) (by rw[hl];exact h64) fun st' a1 a2=>⟨_,rfl,?_⟩) (args_list_sort _)))
 obtain⟨ss',b1,b2,b3⟩:=sorted_out_str hst a1 a2
 obtain⟨e,he⟩:=sortedHeap_at (out:=(arrOf st').map (·.2)) hoL
 refine wpAny_pure ⟨_,rfl,h h1 _ tk h1.objs.size ((arrOf st').map (·.2)).toList e ss' (Nat.le_refl _) hk (fun b o q=>?_) (by rw[Array.toArray_toList];exact he) b1 b2 b3⟩
 have lb:=Heap.lt_size q
 rw[sortedHeap_old (Nat.ne_of_lt lb) (by rw[size_push'];exact Nat.lt_succ_of_lt lb)]
 exact Heap.get?_push_of_some _ q
end
end L2
namespace L2
open PySem PySem.Spec PyProof.Rows
def zIa:List V->Hp->VK->Prop:=fun xs H Q=>∃ p ks ys,xs=[.ref p]/\H p=some (.dK ks)/\ks.map (fun kv=>kV kv.1)=ys.map V.str/\ys.length <= 16777216/\∀ q ys',H q=none->ys'.Perm ys->sortedS ys'=true->Q (.ref q) (upd H q (.lst (ys'.map V.str)))
theorem zDN:∀ {ys:List Str}{vs:List Value},zY (ys.map V.str) vs->StrsAre vs ys
 | [],_,.nil=>.nil
 | y::ys,_,.cons h t=>by
  obtain⟨u,rfl⟩:=(show ∃ t,_=Value.str y t from h)
  exact .cons y u (zDN t)
theorem zBB {X:Cx}{k:Nat} (hr:jN k X.A):jp X (.builtin "sorted") zIa:=by
 intro pins s σ H xs us Q I r h
 obtain⟨p,ks,ys,rfl,hp,hk,h64,q⟩:=h
 obtain⟨u,rfl,ru⟩:=Zq r
 cases ru
 obtain⟨z,lo,vs,rv,dd⟩:=zAi I.hok hp
 obtain⟨ep,da⟩:=dd.dictAt
 have hl:=rv.length
 have hy:ks.length=ys.length:=by have:=congrArg List.length hk;simpa using this
 refine wpAny_with_toks (n:=1) I.tk (zFZ (ss:=ys) hr.hd lo da (fun ws hw hit=>?_) (by omega) fun h1 h' tk L out e ys' l1 k1 k2 g a1 a2 a3 htk=>?_)
 ·refine zDN ?_
  rw[<- hk]
  refine zBl (by simp;omega) fun j u hu=>?_
  obtain⟨k,x,e,hk⟩:=hit j u hu
  have ek:(ks.map (·.1))[j]? = some k:=by rw[rv.keys,List.getElem?_map,e];rfl
  refine⟨kV k,?_,zHP hk⟩
  rw[List.getElem?_map] at ek ⊢
  cases q2:ks[j]? with
  | none=>rw[q2] at ek;cases ek
  | some kv=>rw[q2] at ek;cases ek;rfl
 ·have I1:Inv X pins σ H { s with heap:=h1,toks:=tk }:=I.kept (t':=tk) k1 htk
  have hl':=a2.length_eq
  exact⟨.ref L,_,I1.laid (t':=tk) (o:=.lst (ys'.map V.str)) k2 l1 ⟨by rw[List.length_map,sizeLine_eq];omega,out,e,zAa a1,by simpa [seqObj] using g⟩ htk,rfl,q _ _ (I1.hok.fresh l1) a2 a3⟩
section
variable {K:PySem.W.Frag}{Θ:Tab}
theorem zCW:AdN K Θ M.QS zIa:=by
 intro ρ H S xs Xs Q rp rxs h
 unfold M.QS at h
 split at h
 ·rename_i p
  obtain⟨Y,r,rfl,ry,rfl⟩:=rxs
  split at h
  ·rename_i kvs e
   obtain⟨a,rfl,ha⟩:=ry
   obtain⟨ks,e2,r⟩:=QI rp ha e
   have rz:=zBd r
   unfold M.Z5 at h
   split at h
   ·rename_i ts et
    obtain⟨ez,hok⟩:=JV et rz
    split at h
    ·rename_i h64
     refine⟨a,ks,ts.map ofT,rfl,e2,ez,by rw[List.length_map];exact h64,fun q ys' hq hp hs=>?_⟩
     rw[zCT hp hs]
     exact h.alloc rp (zBf (M.jb ts) fun t ht=>hok t ((JZ ts).mem_iff.mp ht)) hq
    ·exact h.elim
   ·exact h.elim
  ·exact h.elim
 ·exact h.elim
end
abbrev Ju (X:Cx) (N:List Str):Cx:={ X with N:=N }
theorem zDx {α:Type}{σ:List (Option α)}{i j:Nat}{v:α} (h:(σ.set i none)[j]? = some (some v)):j≠i/\σ[j]? = some (some v):=by
 by_cases e:i=j
 ·subst e
  by_cases hl:i < σ.length
  ·rw[List.getElem?_set_self hl] at h;cases h
  ·rw[List.getElem?_eq_none (by rw[List.length_set];omega)] at h;cases h
 ·rw[List.getElem?_set_ne e] at h
  exact⟨fun z=>e z.symm,h⟩
theorem Inv.renamed {X:Cx}{N:List Str}{i:Nat}{pins:List (Addr×Obj)}{σ:St}{H:Hp}{s:Shared} (I:Inv X pins σ H s) (hl:N.length=X.N.length) (hN:∀ j,j≠i->N[j]? = X.N[j]?):Inv (Ju X N) pins (σ.set i none) H s where
 ok:=⟨I.ok.mod,I.ok.kind,I.ok.glob,I.ok.blt,I.ok.above,I.ok.inj,I.ok.has,I.ok.cab,I.ok.hd,I.ok.frames,I.ok.stk,I.ok.exf,I.ok.bs,I.ok.bsz,I.ok.noex,I.ok.exfs,I.ok.funs,I.ok.frf⟩
 os:=I.os
 bare:=I.bare
 base:=I.base
 loc:=by
  obtain⟨m,h1,h2⟩:=I.loc
  refine⟨m,h1,fun j x v hj hv=>?_⟩
  obtain⟨ne,hv'⟩:=zDx hv
  exact h2 j x v (by rw[<- hN j ne];exact hj) hv'
 cell:=I.cell
 free:=I.free
 freeC:=I.freeC
 pin:=I.pin
 hok:=I.hok
 len:=by rw[List.length_set,I.len];exact hl.symm
 tk:=I.tk
abbrev zND (i:Nat) (D:Qm):Qm:=⟨fun σ H=>D.nx (σ.set i none) H,D.rt,fun σ H=>D.bk (σ.set i none) H,fun σ H=>D.ct (σ.set i none) H⟩
theorem zKO {X:Cx}{i:Nat}{st:Stmt}{t:TS}{N:List Str} (hl:N.length=X.N.length) (hN:∀ j,j≠i->N[j]? = X.N[j]?) (h:PS (Ju X N) st t):PS X st fun D σ H=>t (zND i D) (σ.set i none) H:=fun pins s σ H D I q=>thn (h pins s _ H _ (I.renamed hl hN) q) fun f s1 z=>by
 have back:∀ {σ1:St}{H1:Hp},Inv (Ju X N) pins σ1 H1 s1->Inv X pins (σ1.set i none) H1 s1:=fun J=>Inv.renamed (X:=Ju X N) (N:=X.N) (i:=i) J hl.symm fun j ne=>(hN j ne).symm
 cases f with
 | next=>obtain⟨σ1,H1,I1,d⟩:=z;exact⟨_,H1,back I1,d⟩
 | brk=>obtain⟨σ1,H1,I1,d⟩:=z;exact⟨_,H1,back I1,d⟩
 | cont=>obtain⟨σ1,H1,I1,d⟩:=z;exact⟨_,H1,back I1,d⟩
 | ret u=>obtain⟨v,σ1,H1,I1,r,d⟩:=z;exact⟨v,_,H1,back I1,r,d⟩
theorem zw.forget {K:PySem.W.Frag}{ρ:List Addr}{H:Hp}{σ':M.St}{σ:St} (h:zw K ρ H σ' σ) (i:Nat):zw K ρ H (σ'.set i none) (σ.set i none):=⟨by rw[List.length_set,List.length_set];exact h.len,fun j d e=>by
 obtain⟨ne,e'⟩:=zDx e
 obtain⟨v,h1,h2⟩:=h.get j d e'
 exact⟨v,by rw[List.getElem?_set_ne (Ne.symm ne)];exact h1,h2⟩⟩
theorem zCD {N N':List Str}{i:Nat} (h:N'=N.set i ""):N'.length=N.length/\∀ j,j≠i->N'[j]? = N[j]? := by
 subst h
 exact⟨List.length_set,fun j ne=>List.getElem?_set_ne (Ne.symm ne)⟩
theorem zKr {X:Cx}{Θ:Tab}{i:Nat}{stm:Stmt}{mb:M.SM}{N:List Str} (hN:N=X.N.set i "") (hb:MS (Ju X N) Θ stm mb):MS X Θ stm (M.zDs i mb) :=
 (zKO (zCD hN).1 (zCD hN).2 hb).imp fun D σ H ⟨ρ,σ',S,st,rp,h⟩=>⟨ρ,σ'.set i none,S,st.forget i,rp,by
  have h':zl X.K Θ ρ H (M.zGr i (mb (σ'.set i none) S)) D:=h
  cases q:mb (σ'.set i none) S with
  | nx σ1 S1=>rw[q] at h';exact fun ρ1 H1 σv p l rp1 st1=>h' ρ1 H1 _ p l rp1 (st1.forget i)
  | bk σ1 S1=>rw[q] at h';exact fun ρ1 H1 σv p l rp1 st1=>h' ρ1 H1 _ p l rp1 (st1.forget i)
  | ct σ1 S1=>rw[q] at h';exact fun ρ1 H1 σv p l rp1 st1=>h' ρ1 H1 _ p l rp1 (st1.forget i)
  | rt d S1=>rw[q] at h';exact fun ρ1 H1 σv p l rp1 st1=>h' ρ1 H1 _ p l rp1 st1
  | exc e a s=>rw[q] at h';exact h'
  | no=>rw[q] at h';exact h'⟩
theorem zHG {X:Cx}{Θ:Tab}{i:Nat}{stm:Stmt}{mb:M.SM}{N:List Str} (hN:N=X.N.set i "") (hb:WS (Ju X N) Θ stm mb):WS X Θ stm (M.zDs i mb):=by with_unfolding_all exact zKr (X:=X) (Θ:=Θ) (i:=i) (stm:=stm) (mb:=mb) (N:=N) hN hb
end L2
set_option maxHeartbeats 4000000
namespace M
noncomputable section
def Zj:SM :=
  (zK (sIf (zr cLt (zA 1) (zH qS (zB (zA 0) zG)))
  (jq (eOp zt (zA 0) (zA 1)))
  je)
  (jq (eC (.int 0))))
def Jl:F:=fn 2 Zj
def zBI (xs:List D) (k:Int):D:=xs.getD k.toNat (.int 0)
def zx:F
 | [.ro xs,.int k],s=>if 0 <= k then .ok (zBI xs k) s else .no
 | _,_=>.no
theorem zMI {α:Type}{xs:List α}{k:Int} (h0:0 <= k) (h:k < xs.length) (d:α):atI xs k=some (xs.getD k.toNat d):=by
 unfold atI ixN
 rw[if_pos h0,if_pos h]
 have hk:k.toNat < xs.length:=by omega
 simp[List.getD_eq_getElem?_getD,hk]
theorem zK2 {n:Nat}{xs:List D} (h:D.cl.all n xs=true) (k:Nat) (d:D) (hd:D.cl n d=true):D.cl n (xs.getD k d)=true:=by
 induction xs generalizing k with
 | nil=>exact hd
 | cons x xs ih =>
  have h':(D.cl n x && D.cl.all n xs)=true:=h
  rw[Bool.and_eq_true] at h'
  cases k with
  | zero=>exact h'.1
  | succ k=>exact ih h'.2 k
theorem zFB:jS 2 Jl zx:=jS.pure fun ds S hl c ca=>by
 match ds,hl with
 | [a,b],_ =>
  cases a with
  | ro xs =>
   cases b with
   | int k =>
    by_cases h0:0 <= k
    ·refine .inr ⟨zBI xs k,[],by simp[zx,h0],?_,?_⟩
     ·by_cases h:k < (xs.length:Int)
      ·simp[Jl,Zj,h,zMI h0 h (.int 0),zBI]
      ·have h2:zBI xs k=.int 0:=by unfold zBI;rw[List.getD_eq_getElem?_getD,List.getElem?_eq_none (by omega)];rfl
       simp[Jl,Zj,h,h2]
     ·have ca':(D.cl.all S.length xs && true)=true:=ca
      rw[Bool.and_true] at ca'
      exact zK2 ca' _ _ rfl
    ·exact .inl (by simp[zx,h0])
   | _=>exact .inl rfl
  | _=>exact .inl rfl
def QJ:SM :=
  (jq (eOp zf (eOp Zm (eOp zy (zA 0) (eOp Zm (eC (.int 7919)) (zA 1))) (eC (.int 48271))) (eC (.int 2147483647))))
def zAp:F:=fn 2 QJ
def mix (c k:Int):Int:=(c+7919 * k) * 48271 % 2147483647
def zW:F
 | [.int c,.int k],s=>.ok (.int (mix c k)) s
 | _,_=>.no
theorem zDh:jS 2 zAp zW:=jS.pure fun ds S hl c ca=>by
 match ds,hl with
 | [a,b],_ =>
  cases a with
  | int c =>
   cases b with
   | int k =>
    have h1:small 7919=true:=by decide
    have h2:small 48271=true:=by decide
    exact .inr ⟨_,[],rfl,by simp[zAp,QJ,h1,h2,mix],rfl⟩
   | _=>exact .inl rfl
  | _=>exact .inl rfl
def yI:SM :=
  (zS 2 (eC (.str [97,98,99,100,101,102,103,104,105,106,107,108,109,110,111,112,113,114,115,116,117,118,119,120,121,122,46,42,48,32,90,10])))
def yF:SM :=
  (zS 3 (zH zW (zB (zA 0) (zB (eC (.int 5)) zG))))
def yG:SM :=
  (zS 4 (JF (QK []) 1 (jP (eOp zf (zA 3) (eC (.int 9)))) (zX 6) yu (eOp zt (zA 2) (eOp zf (zH zW (zB (zA 0) (zB (zA 6) zG))) (eC (.int 32))))))
def j5:SM :=
  (sIf (Q2 (jo (zA 1)) (zr cGt (eOp zf (zA 0) (eC (.int 3))) (eC (.int 0))))
  (zK (zS 4 (eOp zt (zA 1) (eOp zf (zA 3) (zH qS (zB (zA 1) zG)))))
  (zK (zS 4 (eOp zy (zA 4) (eSl (eC (.str [97])) (ya (zH qS (zB (zA 4) zG))) Q3)))
  (zK (zS 5 (eOp zf (eOp qG (zA 3) (eC (.int 60))) (zH qS (zB (zA 4) zG))))
  (zS 4 (eOp zy (eOp zy (eSl (zA 4) Q3 (ya (zA 5))) (eOp zt (zA 2) (eOp zf (eOp qG (zA 3) (eC (.int 720))) (eC (.int 32))))) (eSl (zA 4) (ya (eOp zy (zA 5) (eC (.int 1)))) Q3))))))
  je)
def Zo:SM :=
  (zAq (zr cIn (zA 4) (zA 1))
  (zS 4 (eOp zy (zA 4) (eOp zt (zA 2) (eOp zf (zH zW (zB (zA 0) (zB (zH qS (zB (zA 4) zG)) zG))) (eC (.int 32)))))))
def y8:SM :=
  (jq (zA 4))
def Ji:SM:=(zK yI (zK yF (zK yG (zK j5 (zK Zo y8)))))
def zFM:F:=fn 6 Ji
def qX:T:=[97,98,99,100,101,102,103,104,105,106,107,108,109,110,111,112,113,114,115,116,117,118,119,120,121,122,46,42,48,32,90,10]
def sg (i:Int):Nat:=qX.getD (i % 32).toNat 0
theorem zJb (i:Int):atI qX (i % 32)=some (sg i) :=
 zBM (Int.emod_nonneg _ (by decide)) (by rw[show (qX.length:Int)=32 from by decide];exact Int.emod_lt_of_pos _ (by decide)) 0
theorem z32:qX.length <= SZ:=by decide
def f0T (c:Int):T:=(List.range (mix c 5 % 9).toNat).map fun (j:Nat)=>sg (mix c j)
def f1T (c:Int) (taken:List T):T:=taken.getD (mix c 5 % taken.length).toNat []
def f2T (c:Int) (taken:List T):T:=f1T c taken++([97]:T).drop (f1T c taken).length
def f3T (c:Int) (taken:List T):T:=(f2T c taken).take (mix c 5 / 60 % (f2T c taken).length).toNat++sg (mix c 5 / 720)::(f2T c taken).drop ((mix c 5 / 60 % (f2T c taken).length).toNat+1)
def zAK (c:Int) (taken:List T):T:=if taken≠[]/\0 < c % 3 then f3T c taken else f0T c
def zAZ (c:Int) (taken:List T):Nat->T->T
 | 0,f=>f
 | n+1,f=>if f∈taken then zAZ c taken n (f++[sg (mix c f.length)]) else f
def zBK (c:Int) (taken:List T):T:=zAZ c taken 1000 (zAK c taken)
theorem zMk (c:Int):(f0T c).length <= 8:=by
 unfold f0T
 have h0:=Int.emod_nonneg (mix c 5) (show (9:Int)≠0 by decide)
 have h1:=Int.emod_lt_of_pos (mix c 5) (show (0:Int) < 9 by decide)
 rw[List.length_map,List.length_range];omega
theorem zHt {c:Int}{taken:List T}{n:Nat} (h:∀ t∈taken,t.length <= n):(f1T c taken).length <= n:=by
 unfold f1T
 rw[List.getD_eq_getElem?_getD]
 cases q:taken[(mix c 5 % taken.length).toNat]? with
 | none=>simp
 | some t=>exact h t (List.mem_of_getElem? q)
theorem zDw {c:Int}{taken:List T}:1 <= (f2T c taken).length/\(f2T c taken).length <= (f1T c taken).length+1:=by
 unfold f2T
 rw[List.length_append,List.length_drop]
 simp only[List.length_cons,List.length_nil]
 omega
theorem zMo {c:Int}{taken:List T}:(f3T c taken).length=(f2T c taken).length:=by
 unfold f3T
 have h:=(zDw (c:=c) (taken:=taken)).1
 have h0:=Int.emod_nonneg (mix c 5 / 60) (show ((f2T c taken).length:Int)≠0 by omega)
 have h1:=Int.emod_lt_of_pos (mix c 5 / 60) (show (0:Int) < ((f2T c taken).length:Int) by omega)
 rw[List.length_append,List.length_take,List.length_cons,List.length_drop]
 omega
theorem zEh {c:Int}{taken:List T}{n:Nat} (hn:8 <= n) (h:∀ t∈taken,t.length <= n):(zAK c taken).length <= n+1:=by
 unfold zAK
 split
 ·rw[zMo]
  have:=zHt (c:=c) h
  have:=(zDw (c:=c) (taken:=taken)).2
  omega
 ·have:=zMk c
  omega
theorem zD6 {c:Int}{taken:List T}{n:Nat} (h:∀ t∈taken,t.length <= n):∀ (k:Nat) (f:T),f.length <= n+1->(zAZ c taken k f).length <= n+1
 | 0,f,hf=>hf
 | k+1,f,hf=>by
  unfold zAZ
  split
  ·rename_i hm
   exact zD6 h k _ (by have:=h f hm;rw[List.length_append];simp;omega)
  ·exact hf
theorem zIq {c:Int}{taken:List T}{n:Nat} (hn:8 <= n) (h:∀ t∈taken,t.length <= n):(zBK c taken).length <= n+1:=zD6 h _ _ (zEh hn h)
def jU:F
 | [.int c,.ref p],s=>match s[p]? with
  | some (.lst ds)=>(match qA ds with
   | some taken=>if taken.length <= 100/\(∀ t∈taken,t.length <= 200) then .ok (.str (zBK c taken)) s else .no
   | none=>.no)
  | _=>.no
 | _,_=>.no
theorem zE3:∀ {ds:List D}{rs:List T},qA ds=some rs->ds=rs.map .str
 | [],rs,h=>by simp[qA] at h;subst h;rfl
 | .str x::ds,rs,h=>by
  unfold qA at h
  cases q:qA ds with
  | none=>simp[q] at h
  | some ys=>simp[q] at h;subst h;rw[zE3 q];rfl
 | .non::_,_,h=>by simp[qA] at h
 | .bl _::_,_,h=>by simp[qA] at h
 | .int _::_,_,h=>by simp[qA] at h
 | .ty _::_,_,h=>by simp[qA] at h
 | .ref _::_,_,h=>by simp[qA] at h
 | .tup _::_,_,h=>by simp[qA] at h
 | .ro _::_,_,h=>by simp[qA] at h
abbrev zEU:SM:=(zS 4 (eOp zy (zA 4) (eOp zt (zA 2) (eOp zf (zH zW (zB (zA 0) (zB (zH qS (zB (zA 4) zG)) zG))) (eC (.int 32))))))
theorem zGS {S:M.S}{p:Nat}{taken:List T}{c:Int}{w3 v5:Option D} (hp:S[p]? = some (.lst (taken.map .str))) (h:∀ t∈taken,t.length <= 200):∀ (k:Nat) (f:T),201 <= f.length+k->f.length <= 1000->∀ N K,k < N->k <= K->jR N (zr cIn (zA 4) (zA 1)) zEU [some (.int c),some (.ref p),some (.str qX),w3,some (.str f),v5] S=.nx [some (.int c),some (.ref p),some (.str qX),w3,some (.str (zAZ c taken K f)),v5] S
 | k,f,hk,hf,N,K,hN,hK=>by
  have hm:inD (.str f) (.ref p) S=.ok (decide (f∈taken)) S:=by
   have fl:(taken.map D.str).all flat=true:=zDJ _
   simp only[inD,hp]
   rw[if_pos (by rw[fl];rfl),zBb]
   simp
  obtain⟨N',rfl⟩:∃ N',N=N'+1:=⟨N - 1,by omega⟩
  by_cases hin:f∈taken
  ·have hl:=h f hin
   obtain⟨k',rfl⟩:∃ k',k=k'+1:=⟨k - 1,by omega⟩
   obtain⟨K',rfl⟩:∃ K',K=K'+1:=⟨K - 1,by omega⟩
   have ih:=zGS hp h (c:=c) (w3:=w3) (v5:=v5) k' (f++[sg (mix c f.length)]) (by rw[List.length_append];simp;omega) (by rw[List.length_append];simp;omega) N' K' (by omega) (by omega)
   have z1:f.length <= SZ:=by unfold SZ;omega
   have z2:f.length+1 <= SZ:=by unfold SZ;omega
   show (((zr cIn (zA 4) (zA 1)) _ _).stm _ _)=_
   have e1:(zr cIn (zA 4) (zA 1)) [some (.int c),some (.ref p),some (.str qX),w3,some (.str f),v5] S=.ok true S:=by
    show ((R.ok (D.str f) S).bind fun x s=>(R.ok (D.ref p) s).bind fun y s=>inD x y s)=_
    rw[R.bind_ok,R.bind_ok,hm]
    simp[hin]
   have e2:zEU [some (.int c),some (.ref p),some (.str qX),w3,some (.str f),v5] S=.nx [some (.int c),some (.ref p),some (.str qX),w3,some (.str (f++[sg (mix c f.length)])),v5] S:=by
    simp[zW,z1,z32,zJb,z2]
   rw[e1,R.stm_ok,if_pos rfl,e2]
   show jR N' _ _ _ _=_
   rw[ih]
   show _=RS.nx [_,_,_,_,some (.str (if f∈taken then zAZ c taken K' (f++[sg (mix c f.length)]) else f)),_] S
   rw[if_pos hin]
  ·show (((zr cIn (zA 4) (zA 1)) _ _).stm _ _)=_
   have e1:(zr cIn (zA 4) (zA 1)) [some (.int c),some (.ref p),some (.str qX),w3,some (.str f),v5] S=.ok false S:=by
    show ((R.ok (D.str f) S).bind fun x s=>(R.ok (D.ref p) s).bind fun y s=>inD x y s)=_
    rw[R.bind_ok,R.bind_ok,hm]
    simp[hin]
   rw[e1,R.stm_ok,if_neg Bool.false_ne_true]
   cases K with
   | zero=>rfl
   | succ K' =>
    show _=RS.nx [_,_,_,_,some (.str (if f∈taken then zAZ c taken K' (f++[sg (mix c f.length)]) else f)),_] S
    rw[if_neg hin]
theorem zI1 (c:Int) (p:Nat) (S:M.S) (r:SM):(yI [some (.int c),some (.ref p),none,none,none,none] S).then (zK yF (zK yG r))=r [some (.int c),some (.ref p),some (.str qX),some (.int (mix c 5)),some (.str (f0T c)),none] S:=by
 have h0:=Int.emod_nonneg (mix c 5) (show (9:Int)≠0 by decide)
 have h1:=Int.emod_lt_of_pos (mix c 5) (show (0:Int) < 9 by decide)
 have hit:jP (eOp zf (zA 3) (eC (.int 9))) [some (.int c),some (.ref p),some (.str qX),some (.int (mix c 5)),none,none] S=.ok (jT 0 (mix c 5 % 9),[]) S:=by
  simp
  omega
 have:=Z8 (n:=1) (tg:=zX 6) (e:=(eOp zt (zA 2) (eOp zf (zH zW (zB (zA 0) (zB (zA 6) zG))) (eC (.int 32))))) (fun k=>.str [sg (mix c k)]) hit (by unfold SZ;omega) fun k _=>by
  simp[zW,z32,zJb]
 rw[show ((mix c 5 % 9) - 0).toNat=(mix c 5 % 9).toNat by omega] at this
 have hz:(List.range (mix c 5 % 9).toNat).length <= SZ:=by rw[List.length_range];unfold SZ;omega
 have el:([97,98,99,100,101,102,103,104,105,106,107,108,109,110,111,112,113,114,115,116,117,118,119,120,121,122,46,42,48,32,90,10]:T)=qX:=rfl
 simp[yI,yF,yG,zW,el,this,zHv _ _ _ hz]
 rfl
theorem zL1 (c:Int) (p:Nat) (S:M.S) (taken:List T) (hp:S[p]? = some (.lst (taken.map .str))) (ht:taken.length <= 100) (h:∀ t∈taken,t.length <= 200):∃ v,∀ r,(j5 [some (.int c),some (.ref p),some (.str qX),some (.int (mix c 5)),some (.str (f0T c)),none] S).then r=r [some (.int c),some (.ref p),some (.str qX),some (.int (mix c 5)),some (.str (zAK c taken)),v] S:=by
 by_cases hc:taken≠[]/\0 < c % 3
 ·have hne:taken≠[]:=hc.1
  have hlp:0 < taken.length:=List.length_pos_iff.mpr hne
  have hi0:=Int.emod_nonneg (mix c 5) (show (taken.length:Int)≠0 by omega)
  have hi1:=Int.emod_lt_of_pos (mix c 5) (show (0:Int) < (taken.length:Int) by omega)
  have ha:atI (taken.map D.str) (mix c 5 % (taken.length:Int))=some (.str (f1T c taken)):=by
   have hl:(mix c 5 % (taken.length:Int)).toNat < taken.length:=by omega
   rw[zBM hi0 (by rw[List.length_map];omega) (.str [])]
   simp[f1T,List.getD_eq_getElem?_getD,hl]
  have l1:=zHt (c:=c) h
  have l2:=zDw (c:=c) (taken:=taken)
  have g0:=Int.emod_nonneg (mix c 5 / 60) (show ((f2T c taken).length:Int)≠0 by omega)
  have g1:=Int.emod_lt_of_pos (mix c 5 / 60) (show (0:Int) < ((f2T c taken).length:Int) by omega)
  have c1:cut ([97]:T) (some ((f1T c taken).length:Int)) none=([97]:T).drop (f1T c taken).length:=by rw[zES _ (by omega)];simp
  have c2:cut (f2T c taken) none (some (mix c 5 / 60 % ((f2T c taken).length:Int)))=(f2T c taken).take (mix c 5 / 60 % ((f2T c taken).length:Int)).toNat:=zIS _ g0
  have c3:cut (f2T c taken) (some (mix c 5 / 60 % ((f2T c taken).length:Int)+1)) none=(f2T c taken).drop ((mix c 5 / 60 % ((f2T c taken).length:Int)).toNat+1):=by
   rw[zES _ (by omega),show (mix c 5 / 60 % ((f2T c taken).length:Int)+1).toNat=(mix c 5 / 60 % ((f2T c taken).length:Int)).toNat+1 by omega]
  have hb:zAK c taken=f3T c taken:=if_pos hc
  have z1:(f1T c taken).length <= SZ:=by unfold SZ;omega
  have z2:(f2T c taken).length <= SZ:=by unfold SZ;omega
  have z3:(f1T c taken).length+(([97]:T).drop (f1T c taken).length).length <= SZ:=by rw[List.length_drop];simp;unfold SZ;omega
  have p2:(0:Int) < ((f2T c taken).length:Int):=by omega
  have zz1:(1:Nat) <= SZ:=by decide
  refine⟨some (.int (mix c 5 / 60 % ((f2T c taken).length:Int))),fun r=>?_⟩
  rw[hb]
  have e1:f1T c taken++([97]:T).drop (f1T c taken).length=f2T c taken:=rfl
  have hc3:(0:Int) < c % 3:=hc.2
  generalize hf2:f2T c taken=f2 at *
  generalize hat:mix c 5 / 60 % (f2.length:Int)=at5 at *
  have z4:(f2.take at5.toNat).length+1 <= SZ:=by rw[List.length_take];unfold SZ;omega
  have z5:(f2.take at5.toNat).length+1+(f2.drop (at5.toNat+1)).length <= SZ:=by rw[List.length_take,List.length_drop];unfold SZ;omega
  have ef:f3T c taken=f2.take at5.toNat++sg (mix c 5 / 720)::f2.drop (at5.toNat+1):=by unfold f3T;rw[hf2,hat]
  rw[ef]
  have ne2:(taken.map D.str).isEmpty=false:=by cases taken with | nil=>exact absurd rfl hne | cons _ _=>rfl
  have plen:(0:Int) < (taken.length:Int):=by omega
  simp only[List.length_take,List.length_drop] at z4 z5 z3
  simp[j5,hp,ne2,hc3,plen,ha,z1,zz1,c1,z3,e1,z2,p2,hat,c2,c3,z32,zJb,z4,z5,hne]
  have hZ:SZ=16777216:=rfl
  rw[if_pos hlp,if_pos (by omega),if_pos (by omega)]
 ·have hb:zAK c taken=f0T c:=if_neg hc
  refine⟨none,fun r=>?_⟩
  rw[hb]
  by_cases hne:taken=[]
  ·simp[j5,hp,hne]
  ·have hc3:¬ (0:Int) < c % 3:=fun e=>hc ⟨hne,e⟩
   have ne2:(taken.map D.str).isEmpty=false:=by cases taken with | nil=>exact absurd rfl hne | cons _ _=>rfl
   simp[j5,hp,hne,hc3]
theorem zE7:jS 2 zFM jU:=jS.pure fun ds S hl c ca=>by
 match ds,hl with
 | [a,b],_ =>
  cases a with
  | int c =>
   cases b with
   | ref p =>
    cases e:S[p]? with
    | none=>exact .inl (by simp[jU,e])
    | some o =>
     cases o with
     | lst es =>
      cases q:qA es with
      | none=>exact .inl (by simp[jU,e,q])
      | some taken =>
       by_cases hz:taken.length <= 100/\(∀ t∈taken,t.length <= 200)
       ·have er:=zE3 q
        subst er
        refine .inr ⟨.str (zBK c taken),[],by simp[jU,e,q,hz];exact hz.2,?_,rfl⟩
        obtain⟨v,e4⟩:=zL1 c p S taken e hz.1 hz.2
        have hbl:=zEh (c:=c) (n:=200) (by omega) hz.2
        have e5:=zGS (c:=c) (w3:=some (.int (mix c 5))) (v5:=v) e hz.2 201 (zAK c taken) (by omega) (by omega) zA2 1000 (by decide) (by omega)
        show ((yI [some (.int c),some (.ref p),none,none,none,none] S).then (zK yF (zK yG (zK j5 (zK Zo y8))))).out=_
        rw[zI1]
        show ((j5 _ _).then _).out=_
        rw[e4]
        show ((jR zA2 (zr cIn (zA 4) (zA 1)) zEU _ _).then _).out=_
        rw[e5]
        simp[y8,zBK]
       ·exact .inl (by simp[jU,e,q];intro h1;simpa using fun h2=>hz ⟨h1,h2⟩)
     | dct _=>exact .inl (by simp[jU,e])
     | ins _ _=>exact .inl (by simp[jU,e])
     | fdc _=>exact .inl (by simp[jU,e])
   | _=>exact .inl rfl
  | _=>exact .inl rfl
def qV:SM :=
  (zS 2 (zH zx (zB (zA 0) (zB (zA 1) zG))))
def qa:SM :=
  (zS 3 (eOp zy (eC (.int 1)) (eOp zf (zA 2) (eC (.int 9)))))
def qb:SM :=
  (sIf (zr cEq (eOp zf (eOp qG (zA 2) (eC (.int 9))) (eC (.int 6))) (eC (.int 1)))
  (zS 3 (eOp zy (eC (.int 1)) (eOp zf (eOp qG (zA 2) (eC (.int 54))) (eC (.int 60)))))
  je)
def qU:SM :=
  (zS 4 (Zf zG))
def qY:SM :=
  (yh (jP (zA 3)) (zX 5)
  (ZG (eM .list qm (zA 4) (zB (zH jU (zB (zH zW (zB (zH zx (zB (zA 0) (zB (eOp zy (eOp zy (zA 1) (eC (.int 1))) (eOp zf (zA 5) (eC (.int 4)))) zG))) (zB (zA 5) zG))) (zB (zA 4) zG))) zG))))
def yg:SM :=
  (jq (zA 4))
def JL:SM:=(zK qV (zK qa (zK qb (zK qU (zK qY yg)))))
def zEW:F:=fn 6 JL
def j0 (ns:List Int) (k:Int):Int:=ns.getD k.toNat 0
def j7 (ns:List Int) (b:Int):Nat->List T
 | 0=>[]
 | k+1=>j7 ns b k++[zBK (mix (j0 ns (b+1+(k:Int) % 4)) k) (j7 ns b k)]
theorem JS (ns:List Int) (b:Int):∀ k,(j7 ns b k).length=k
 | 0=>rfl
 | k+1=>by rw[j7,List.length_append,JS ns b k];rfl
theorem zAO (ns:List Int) (b:Int):∀ k,∀ t∈j7 ns b k,t.length <= 20+k
 | 0,t,h=>by cases h
 | k+1,t,h=>by
  rw[j7] at h
  rcases List.mem_append.mp h with h | h
  ·have:=zAO ns b k t h;omega
  ·have e:=List.mem_singleton.mp h
   subst e
   exact zIq (n:=20+k) (by omega) (zAO ns b k)
def Q5 (c:Int):Int:=if c / 9 % 6=1 then 1+c / 54 % 60 else 1+c % 9
theorem zF8 (c:Int):1 <= Q5 c/\Q5 c <= 60:=by
 unfold Q5
 have h1:=Int.emod_nonneg (c / 54) (show (60:Int)≠0 by decide)
 have h2:=Int.emod_lt_of_pos (c / 54) (show (0:Int) < 60 by decide)
 have h3:=Int.emod_nonneg c (show (9:Int)≠0 by decide)
 have h4:=Int.emod_lt_of_pos c (show (0:Int) < 9 by decide)
 split<;>omega
def qH:F
 | [.ro xs,.int b],s=>match yW xs with
  | some ns=>if 0 <= b then alloc (.lst ((j7 ns b (Q5 (j0 ns b)).toNat).map .str)) s else .no
  | none=>.no
 | _,_=>.no
theorem zEE:∀ {ds:List D}{ns:List Int},yW ds=some ns->ds=ns.map .int
 | [],ns,h=>by simp[yW] at h;subst h;rfl
 | .int x::ds,ns,h=>by
  unfold yW at h
  cases q:yW ds with
  | none=>simp[q] at h
  | some ys=>simp[q] at h;subst h;rw[zEE q];rfl
 | .non::_,_,h=>by simp[yW] at h
 | .bl _::_,_,h=>by simp[yW] at h
 | .str _::_,_,h=>by simp[yW] at h
 | .ty _::_,_,h=>by simp[yW] at h
 | .ref _::_,_,h=>by simp[yW] at h
 | .tup _::_,_,h=>by simp[yW] at h
 | .ro _::_,_,h=>by simp[yW] at h
theorem zDQ:∀ ns:List Int,yW (ns.map .int)=some ns
 | []=>rfl
 | n::ns=>by show (yW (ns.map .int)).map _=_;rw[zDQ ns];rfl
theorem ZR (ns:List Int) (k:Int) (s:M.S) (h:0 <= k):zx [.ro (ns.map .int),.int k] s=.ok (.int (j0 ns k)) s:=by
 simp only[zx,if_pos h,zBI,j0]
 rw[List.getD_eq_getElem?_getD,List.getD_eq_getElem?_getD,List.getElem?_map]
 cases ns[k.toNat]?<;>rfl
theorem zDp:jS 2 zEW qH:=jS.new fun ds S hl c ca=>by
 match ds,hl with
 | [a,b],_ =>
  cases a with
  | ro xs =>
   cases b with
   | int b =>
    cases q:yW xs with
    | none=>exact .inl (by simp[qH,q])
    | some ns =>
     have ex:=zEE q
     subst ex
     by_cases h0:0 <= b
     ·have hm:=zF8 (j0 ns b)
      generalize hMy:Q5 (j0 ns b)=my at *
      have e3:∀ r,(qV [some (.ro (ns.map .int)),some (.int b),none,none,none,none] S).then (zK qa (zK qb (zK qU r)))=r [some (.ro (ns.map .int)),some (.int b),some (.int (j0 ns b)),some (.int my),some (.ref S.length),none] (S++[.lst []]):=fun r=>by
       have z0:(0:Nat) <= SZ:=by decide
       have hM:my=if j0 ns b / 9 % 6=1 then 1+j0 ns b / 54 % 60 else 1+j0 ns b % 9:=by rw[<- hMy];rfl
       by_cases h2:j0 ns b / 9 % 6=1
       ·rw[if_pos h2] at hM
        simp[qV,qa,qb,qU,ZR _ _ _ h0,h2,z0,hM]
       ·rw[if_neg h2] at hM
        simp[qV,qa,qb,qU,ZR _ _ _ h0,h2,z0,hM]
      obtain⟨σ',s',e5,v5,eσ,es⟩:=yq (g:=[]) (f:=jr (zX 5) (ZG (eM .list qm (zA 4) (zB (zH jU (zB (zH zW (zB (zH zx (zB (zA 0) (zB (eOp zy (eOp zy (zA 1) (eC (.int 1))) (eOp zf (zA 5) (eC (.int 4)))) zG))) (zB (zA 5) zG))) (zB (zA 4) zG))) zG))))
       (fun j σ s=>∃ v5:Option D,σ=[some (.ro (ns.map .int)),some (.int b),some (.int (j0 ns b)),some (.int my),some (.ref S.length),v5]/\s=S++[.lst ((j7 ns b j).map .str)]) (jT 0 my) 0 [some (.ro (ns.map .int)),some (.int b),some (.int (j0 ns b)),some (.int my),some (.ref S.length),none] (S++[.lst []]) ⟨none,rfl,rfl⟩ fun j d hd σ s ⟨v5,eσ,es⟩=>by
        have hj:j < (jT 0 my).length:=(List.getElem?_eq_some_iff.mp hd).1
        have hj':j < 60:=by unfold jT at hj;rw[List.length_map,List.length_range] at hj;omega
        have ed:d=.int (j:Int):=by
         unfold jT at hd
         rw[List.getElem?_map] at hd
         cases q:(List.range (my - 0).toNat)[j]? with
         | none=>rw[q] at hd;cases hd
         | some k =>
          rw[q] at hd
          have hk:k=j:=by
           have:=(List.getElem?_eq_some_iff.mp q).2
           simp at this
           omega
          subst hk
          simp at hd
          exact hd.symm
        subst ed
        subst eσ
        subst es
        rw[Nat.zero_add]
        have m0:=Int.emod_nonneg (j:Int) (show (4:Int)≠0 by decide)
        have hc:=fun s=>ZR ns (b+1+(j:Int) % 4) s (by omega)
        have hn:∀ c:Int,jU [.int c,.ref S.length] (S++[.lst ((j7 ns b j).map .str)])=.ok (.str (zBK c (j7 ns b j))) (S++[.lst ((j7 ns b j).map .str)]):=fun c=>by
         have hl1:=JS ns b j
         have hl2:∀ t∈j7 ns b j,t.length <= 200:=fun t ht=>Nat.le_trans (zAO ns b j t ht) (by omega)
         simp only[jU,List.getElem?_concat_length,zA4]
         rw[if_pos ⟨by omega,hl2⟩]
        have hz:(j7 ns b j).length < SZ:=by rw[JS];unfold SZ;omega
        refine⟨[some (.ro (ns.map .int)),some (.int b),some (.int (j0 ns b)),some (.int my),some (.ref S.length),some (.int j)],S++[.lst ((j7 ns b (j+1)).map .str)],?_,rfl,_,rfl,rfl⟩
        simp[hc,zW,hn,hz,j7]
      have hln:(jT 0 my).length=my.toNat:=by unfold jT;rw[List.length_map,List.length_range];omega
      rw[Nat.zero_add,hln] at es
      subst eσ
      subst es
      refine .inr ⟨.lst ((j7 ns b my.toNat).map .str),S.length,[.lst ((j7 ns b my.toNat).map .str)],by simp[qH,q,h0,hMy],?_,by simp,Nat.le_refl _,zAA _ _⟩
      show ((qV [some (.ro (ns.map .int)),some (.int b),none,none,none,none] S).then (zK qa (zK qb (zK qU (zK qY yg))))).out=_
      rw[e3]
      have q1:my.natAbs < 4611686018427387904:=by omega
      have hg:∀ s,zi [] s=true:=fun _=>rfl
      have e6:∀ r,(qY [some (.ro (ns.map .int)),some (.int b),some (.int (j0 ns b)),some (.int my),some (.ref S.length),none] (S++[.lst []])).then r=r [some (.ro (ns.map .int)),some (.int b),some (.int (j0 ns b)),some (.int my),some (.ref S.length),v5] (S++[.lst ((j7 ns b my.toNat).map .str)]):=fun r=>by
       simp only[qY,yh,jP,zA,List.getElem?_cons_succ,List.getElem?_cons_zero,R.bind_ok,q1,if_true,R.stm_ok,hg,e5,RS.then_nx]
      show ((qY _ _).then _).out=_
      rw[e6]
      simp[yg]
     ·exact .inl (by simp[qH,q,h0])
   | _=>exact .inl rfl
  | _=>exact .inl rfl
def yy:SM :=
  (zK (sIf (zr cEq (zA 2) (eC (.int 1)))
  (jq (qt 1 (jP (eOp Zm (eOp zf (zA 0) (eC (.int 4))) (zH zGp (zB (QA cGt (zA 1) (eC (.int 0))) zG)))) (zX 5) yu (eOp zt (zA 3) (eOp zf (zH zW (zB (zA 0) (zB (eOp zy (eC (.int 3)) (zA 5)) zG))) (zA 1)))))
  je)
  (zK (sIf (zr cEq (zA 2) (eC (.int 2)))
  (zK (zS 4 (eSl (zA 3) (ya (zH zBN (zB (eC (.int 0)) (zB (eOp zBE (zA 1) (eC (.int 1))) zG)))) (ya (zA 1))))
  (zK (sIf (zr cEq (eOp zf (zA 0) (eC (.int 29))) (eC (.int 1)))
  (zS 4 (eOp zy (zA 4) (Zf (zB (eOp zt (zA 3) (eOp zBE (zH qS (zB (zA 3) zG)) (eC (.int 1)))) zG))))
  je)
  (jq (zA 4))))
  je)
  (jq (qt 1 (jP (eOp zf (zA 0) (eC (.int 4)))) (zX 5) yu (eOp zt (zA 3) (eOp zf (zH zW (zB (zA 0) (zB (eOp zy (eC (.int 3)) (zA 5)) zG))) (zH qS (zB (zA 3) zG))))))))
def yz:F:=fn 5 yy
def yL:F:=chN yz
theorem zFV:jS 4 yz yL:=zEg _
theorem zF4 {s:M.S}{p:Nat}{ds:List D} (h:s[p]? = some (.lst ds)):jL s p=some ds:=by simp[jL,h]
def DR (s:M.S):List (D×D)->List (T×List T)->Prop
 | [],[]=>True
 | kv::kvs,p::nd=>(∃ r,kv=(.str p.1,.ref r)/\s[r]? = some (.lst (p.2.map .str)))/\DR s kvs nd
 | _,_=>False
abbrev qp (s s':M.S):Prop:=∀ (r:Nat) (xs:List D),s[r]? = some (.lst xs)->s'[r]? = some (.lst xs)
theorem qp.app (s t:M.S):qp s (s++t):=fun _ _ e=>zh e t
theorem qp.trans {a b c:M.S} (h:qp a b) (k:qp b c):qp a c:=fun r xs e=>k r xs (h r xs e)
theorem qp.set {s:M.S}{i:Nat}{o o':O} (e:s[i]? = some o) (n:∀ xs,o≠.lst xs):qp s (s.set i o'):=fun r xs h=>by
 by_cases hr:i=r
 ·subst hr;rw[e] at h;cases h;exact absurd rfl (n xs)
 ·rw[List.getElem?_set_ne hr];exact h
theorem DR.mono {s s':M.S} (k:qp s s'):∀ {kvs:List (D×D)}{nd:List (T×List T)},DR s kvs nd->DR s' kvs nd
 | [],[],_=>trivial
 | _::_,_::_,⟨⟨r,e1,e2⟩,h⟩=>⟨⟨r,e1,k r _ e2⟩,DR.mono k h⟩
 | [],_::_,h=>h.elim
 | _::_,[],h=>h.elim
theorem DR.length {s:M.S}:∀ {kvs:List (D×D)}{nd:List (T×List T)},DR s kvs nd->kvs.length=nd.length
 | [],[],_=>rfl
 | _::_,_::_,⟨_,h⟩=>by rw[List.length_cons,List.length_cons,DR.length h]
 | [],_::_,h=>h.elim
 | _::_,[],h=>h.elim
theorem DR.keys {s:M.S}:∀ {kvs:List (D×D)}{nd:List (T×List T)},DR s kvs nd->kvs.map (·.1)=nd.map fun p=>.str p.1
 | [],[],_=>rfl
 | _::_,_::_,⟨⟨r,e1,_⟩,h⟩=>by rw[List.map_cons,List.map_cons,DR.keys h,e1]
 | [],_::_,h=>h.elim
 | _::_,[],h=>h.elim
theorem DR.app {s:M.S}:∀ {kvs kvs':List (D×D)}{nd nd':List (T×List T)},DR s kvs nd->DR s kvs' nd'->DR s (kvs++kvs') (nd++nd')
 | [],_,[],_,_,k=>k
 | _::_,_,_::_,_,⟨e,h⟩,k=>⟨e,DR.app h k⟩
 | [],_,_::_,_,h,_=>h.elim
 | _::_,_,[],_,h,_=>h.elim
theorem DR.get {s:M.S} (x:T):∀ {kvs:List (D×D)}{nd:List (T×List T)},DR s kvs nd->(nd.lookup x=none/\jm (.str x) kvs=none)\/∃ row r,nd.lookup x=some row/\jm (.str x) kvs=some (.ref r)/\s[r]? = some (.lst (row.map .str))
 | [],[],_=>.inl ⟨rfl,rfl⟩
 | _::kvs,(k,row)::nd,⟨⟨r,e1,e2⟩,h⟩=>by
  subst e1
  unfold jm
  rw[List.lookup_cons,List.lookup_cons]
  by_cases e:x=k
  ·subst e
   exact .inr ⟨row,r,by simp,by simp,e2⟩
  ·have b1:(x == k)=false:=by simpa using e
   have b2:(D.str x == D.str k)=false:=by simpa using e
   rw[b1,b2]
   exact DR.get x h
 | [],_::_,h=>h.elim
 | _::_,[],h=>h.elim
def Zd (k:T) (v:List T) (nd:List (T×List T)):List (T×List T):=if (nd.any fun p=>decide (p.1=k))=true then nd.map fun p=>if p.1=k then (p.1,v) else p else nd++[(k,v)]
theorem DR.any {s:M.S} (k:T):∀ {kvs:List (D×D)}{nd:List (T×List T)},DR s kvs nd->(kvs.any fun p=>decide (p.1=.str k))=(nd.any fun p=>decide (p.1=k))
 | [],[],_=>rfl
 | _::_,_::_,⟨⟨r,e1,e2⟩,h⟩=>by subst e1;rw[List.any_cons,List.any_cons,DR.any k h];simp
 | [],_::_,h=>h.elim
 | _::_,[],h=>h.elim
theorem DR.over {s:M.S}{k:T}{r:Nat}{row:List T} (hr:s[r]? = some (.lst (row.map .str))):∀ {kvs:List (D×D)}{nd:List (T×List T)},DR s kvs nd->DR s (kvs.map fun p=>if p.1=.str k then (p.1,.ref r) else p) (nd.map fun p=>if p.1=k then (p.1,row) else p)
 | [],[],_=>trivial
 | _::_,p::_,⟨⟨r',e1,e2⟩,h⟩=>by
  subst e1
  refine⟨?_,DR.over hr h⟩
  by_cases e:p.1=k
  ·subst e;exact⟨r,by simp,by simpa using hr⟩
  ·exact⟨r',by simp[e],by simpa [e] using e2⟩
 | [],_::_,h=>h.elim
 | _::_,[],h=>h.elim
theorem DR.put {s:M.S}{k:T}{r:Nat}{row:List T}{kvs:List (D×D)}{nd:List (T×List T)} (h:DR s kvs nd) (hr:s[r]? = some (.lst (row.map .str))):DR s (qN (.str k) (.ref r) kvs) (Zd k row nd):=by
 unfold qN Zd
 rw[h.any k]
 split
 ·exact h.over hr
 ·exact h.app ⟨⟨r,rfl,hr⟩,trivial⟩
def zR (nd:List (T×List T)):List T:=nd.map (·.1)
theorem zCy {k:T}{nd:List (T×List T)}:(nd.any fun p=>decide (p.1=k))=true↔k∈zR nd:=by
 unfold zR
 rw[List.any_eq_true,List.mem_map]
 constructor
 ·rintro ⟨p,h1,h2⟩;exact⟨p,h1,of_decide_eq_true h2⟩
 ·rintro ⟨p,h1,h2⟩;exact⟨p,h1,decide_eq_true h2⟩
theorem zIM {k:T}{v:List T}{nd:List (T×List T)}:zR (Zd k v nd)=if k∈zR nd then zR nd else zR nd++[k]:=by
 unfold Zd
 by_cases h:k∈zR nd
 ·rw[if_pos (zCy.mpr h),if_pos h]
  unfold zR
  rw[List.map_map]
  refine List.map_congr_left fun p hp=>?_
  simp only[Function.comp]
  split<;>rfl
 ·rw[if_neg (fun z=>h (zCy.mp z)),if_neg h]
  unfold zR
  simp
theorem zBu {k:T}{v:List T}{nd:List (T×List T)} (h:(zR nd).Nodup):(zR (Zd k v nd)).Nodup:=by
 rw[zIM]
 split
 ·exact h
 ·rename_i q
  rw[List.nodup_append]
  exact⟨h,by simp,fun a ha b hb z=>by simp at hb;subst hb;subst z;exact q ha⟩
theorem zI9 {k:T}{v:List T}{nd:List (T×List T)}:(Zd k v nd).length <= nd.length+1:=by
 unfold Zd
 split<;>simp
theorem zEP {n:Int}{j:Nat}{d:D} (h:(jT 0 n)[j]? = some d):d=.int j/\(j:Int) < n:=by
 unfold jT at h
 rw[List.getElem?_map] at h
 cases q:(List.range (n - 0).toNat)[j]? with
 | none=>rw[q] at h;cases h
 | some k =>
  rw[q] at h
  have h1:=(List.getElem?_eq_some_iff.mp q)
  obtain⟨h1,h2⟩:=h1
  simp at h1 h2
  subst h2
  simp at h
  exact⟨h.symm,by omega⟩
theorem zH9 (n:Nat):(jT 0 (n:Int)).length=n:=by unfold jT;simp
theorem Qk {ts:List T}{k:Int} (h0:0 <= k) (h:k < ts.length):atI (ts.map D.str) k=some (.str (ts.getD k.toNat [])):=by
 rw[zBM (d:=.str []) h0 (by simpa using h),List.getD_eq_getElem?_getD,List.getD_eq_getElem?_getD,List.getElem?_map]
 cases ts[k.toNat]?<;>rfl
theorem zGC {α β:Type} (f:α->β) (xs:List α) (lo hi:Option Int):cut (xs.map f) lo hi=(cut xs lo hi).map f:=by
 unfold cut
 rw[List.length_map,List.map_take,List.map_drop]
theorem DR.at {s:M.S}:∀ {kvs:List (D×D)}{nd:List (T×List T)}{j:Nat}{kv:D×D},DR s kvs nd->kvs[j]? = some kv->∃ p r,nd[j]? = some p/\kv=(.str p.1,.ref r)/\s[r]? = some (.lst (p.2.map .str))
 | _::_,p::_,0,_,⟨⟨r,e1,e2⟩,h⟩,e=>by cases e;exact⟨p,r,rfl,e1,e2⟩
 | _::kvs,_::nd,j+1,kv,⟨_,h⟩,e=>by
  obtain⟨p,r,h1,h2⟩:=DR.at (kvs:=kvs) (nd:=nd) (j:=j) (kv:=kv) h (by simpa using e)
  exact⟨p,r,by simpa using h1,h2⟩
 | [],_,_,_,_,e=>by simp at e
 | _::_,[],_,_,h,_=>h.elim
theorem zEM {k:T}{v:List T}{nd:List (T×List T)} (h:k∉zR nd):Zd k v nd=nd++[(k,v)]:=by
 unfold Zd
 rw[if_neg (fun z=>h (zCy.mp z))]
theorem Qp {nd:List (T×List T)} (hn:(zR nd).Nodup) {p:T×List T} (h:p∈nd):nd.lookup p.1=some p.2:=by
 induction nd with
 | nil=>cases h
 | cons q nd ih =>
  obtain⟨k,v⟩:=q
  unfold zR at hn ih
  rw[List.map_cons,List.nodup_cons] at hn
  rw[List.lookup_cons]
  rcases List.mem_cons.mp h with h | h
  ·subst h;simp
  ·have hne:(p.1 == k)=false:=by
    simp only[beq_eq_false_iff_ne,ne_eq]
    exact fun e=>hn.1 (by have hm:p.1∈nd.map (fun x=>x.1):=List.mem_map_of_mem h;rw[e] at hm;exact hm)
   rw[hne]
   exact ih hn.2 h
theorem zHf {s:M.S}{ws:List (D×D)}{nd0:List (T×List T)} (hw:DR s ws nd0) (hn:(zR nd0).Nodup):∀ {kvs:List (D×D)}{nd:List (T×List T)},DR s kvs nd->(∀ p∈nd,p∈nd0)->dEq s ws kvs=some true
 | [],[],_,_=>rfl
 | _::kvs,p::nd,⟨⟨r,e1,e2⟩,h⟩,m=>by
  subst e1
  have ih:=zHf hw hn h fun q hq=>m q (List.mem_cons_of_mem _ hq)
  have hp:∀ (k:Nat) (ts:List T),s[k]? = some (.lst (ts.map .str))->toP 8 s (.ref k)=some (.lst (ts.map P.str)):=fun k ts e=>by
   show (match jL s k with | some xs=>(qq.all (fun j=>toP 7 s (.ref j)) xs).map P.lst | none=>none)=_
   rw[zF4 e]
   show (qq.all _ (ts.map .str)).map P.lst=_
   rw[zEo];rfl
  have lk:=Qp hn (m p List.mem_cons_self)
  rcases hw.get p.1 with ⟨h1,_⟩ | ⟨row,r',h1,h2,h3⟩
  ·rw[lk] at h1;cases h1
  ·rw[lk] at h1
   cases h1
   unfold dEq
   rw[h2,ih]
   simp[hp _ _ e2,hp _ _ h3,P.dep,zBC,P.eqv,zA1]
 | [],_::_,h,_=>h.elim
 | _::_,[],h,_=>h.elim
theorem zMh {s:M.S}{i j:Nat}{kvs ws:List (D×D)}{nd:List (T×List T)} (hi:s[i]? = some (.dct kvs)) (hj:s[j]? = some (.dct ws)) (h1:DR s kvs nd) (h2:DR s ws nd) (hn:(zR nd).Nodup):eqD (.ref i) (.ref j) s=.ok true s:=by
 have h:∀ (k:Nat) (kv:List (D×D)),s[k]? = some (.dct kv)->toP Jc s (.ref k)=none:=fun k kv e=>by
  show (match jL s k with | some xs=>(qq.all (fun j=>toP 8 s (.ref j)) xs).map P.lst | none=>none)=_
  have:jL s k=none:=by simp[jL,e]
  rw[this]
 simp only[eqD,h i _ hi,h j _ hj,zCK,hi,hj]
 rw[if_pos (by rw[h1.length,h2.length]),zHf h2 hn h1 fun _ h=>h]
theorem zCx {α:Type}{xs:List α}{lo hi:Option Int}{x:α} (h:x∈cut xs lo hi):x∈xs:=by
 unfold cut at h
 exact List.mem_of_mem_drop (List.mem_of_mem_take h)
theorem Qc {N:List T}{k:Nat} (h:k < N.length):N.getD k []∈N:=by
 rw[List.getD_eq_getElem?_getD,List.getElem?_eq_getElem h]
 exact List.getElem_mem _
theorem zIK {α:Type}{xs:List α}{k:Int} (h0:0 <= k) (h:k < xs.length):(cut xs (some (if 1 < k then k - 1 else 0)) (some k)).length <= 1:=by
 unfold cut
 simp only[sIx]
 rw[List.length_take]
 by_cases h1:1 < k
 ·rw[if_pos h1,if_neg (show ¬ k - 1 < 0 by omega),if_neg (show ¬ k < 0 by omega),Int.min_eq_left (show k <= (xs.length:Int) by omega),Int.min_eq_left (show k - 1 <= (xs.length:Int) by omega)]
  omega
 ·rw[if_neg h1,if_neg (show ¬ (0:Int) < 0 by omega),if_neg (show ¬ k < 0 by omega),Int.min_eq_left (show k <= (xs.length:Int) by omega),Int.min_eq_left (show (0:Int) <= (xs.length:Int) by omega)]
  omega
theorem zMc {S:M.S}{q:Nat}{N:List T}{c k sh:Int} (hq:S[q]? = some (.lst (N.map .str))) (hk0:0 <= k) (hk:k < N.length) :
  ∃ ts:List T,ts.length <= 4/\(∀ t∈ts,t∈N)/\yL [.int c,.int k,.int sh,.ref q] S=alloc (.lst (ts.map .str)) S:=by
 have m0:=Int.emod_nonneg c (show (4:Int)≠0 by decide)
 have m1:=Int.emod_lt_of_pos c (show (0:Int) < 4 by decide)
 have pN:(0:Int) < N.length:=by omega
 have nN:N≠[]:=List.ne_nil_of_length_pos (by omega)
 have fin:∀ (ts:List T) (g:M.S) (j:Nat),yz [.int c,.int k,.int sh,.ref q] S=.ok (.ref j) (S++g)->(S++g)[j]? = some (.lst (ts.map .str))->S.length <= j->yL [.int c,.int k,.int sh,.ref q] S=alloc (.lst (ts.map .str)) S:=fun ts g j e1 e2 l=>zEY e1 e2 l (zAA _ _)
 by_cases h1:sh=1
 ·subst h1
  have hn:(c % 4 * if 0 < k then (1:Int) else 0).natAbs < 4611686018427387904:=by split<;>omega
  have hs:small (c % 4)=true:=by unfold small;exact decide_eq_true (by omega)
  have:=Z8 (n:=1) (it:=jP (eOp Zm (eOp zf (zA 0) (eC (.int 4))) (zH zGp (zB (QA cGt (zA 1) (eC (.int 0))) zG)))) (tg:=zX 5) (e:=eOp zt (zA 3) (eOp zf (zH zW (zB (zA 0) (zB (eOp zy (eC (.int 3)) (zA 5)) zG))) (zA 1))) (σ:=[some (.int c),some (.int k),some (.int 1),some (.ref q),none]) (s:=S) (lo:=0) (hi:=c % 4 * if 0 < k then (1:Int) else 0) (fun j=>.str (N.getD (mix c (3+j) % k).toNat [])) (by simp[hs,hn]) (by unfold SZ;split<;>omega) fun j hj=>by
   have hk1:0 < k:=by
    by_cases z:0 < k
    ·exact z
    ·rw[if_neg z] at hj;simp at hj
   have i0:=Int.emod_nonneg (mix c (3+j)) (show k≠0 by omega)
   have i1:=Int.emod_lt_of_pos (mix c (3+j)) hk1
   simp[hq,zW,hk1,Qk (ts:=N) i0 (by omega)]
  refine⟨(List.range (c % 4 * (if 0 < k then (1:Int) else 0) - 0).toNat).map fun (j:Nat)=>N.getD (mix c (3+j) % k).toNat [],by rw[List.length_map,List.length_range];split<;>omega,fun t ht=>?_,fin _ [.lst _] S.length ?_ (by rw[List.getElem?_append_right (Nat.le_refl _),Nat.sub_self];rfl) (Nat.le_refl _)⟩
  ·obtain⟨j,hj,rfl⟩:=List.mem_map.mp ht
   have hj':=List.mem_range.mp hj
   have hk1:0 < k:=by
    by_cases z:0 < k
    ·exact z
    ·rw[if_neg z] at hj';simp at hj'
   have i0:=Int.emod_nonneg (mix c (3+j)) (show k≠0 by omega)
   have i1:=Int.emod_lt_of_pos (mix c (3+j)) hk1
   exact Qc (by omega)
  ·rw[List.map_map]
   simp only[yz,fn,yy,zK,sIf,zr,zA,eC,cEq,eqD,jq,qt,List.map_cons,List.map_nil,List.length_cons,List.length_nil,List.cons_append,List.nil_append,Nat.reduceAdd,Nat.reduceSub,List.replicate,List.getElem?_cons_zero,List.getElem?_cons_succ,R.bind_ok,R.stm_ok,decide_true,if_true,this,alloc,RS.then_rt,RS.out_rt]
   rfl
 ·by_cases h2:sh=2
  ·subst h2
   have hlt:(cut N (some (if 1 < k then k - 1 else 0)) (some k)).length <= 1:=zIK hk0 hk
   have hx:atI (N.map D.str) ((N.length:Int) - 1)=some (.str (N.getD ((N.length:Int) - 1).toNat [])):=Qk (by omega) (by omega)
   have hcm:∀ t∈cut N (some (if 1 < k then k - 1 else 0)) (some k),t∈N:=fun t ht=>zCx ht
   have hcut:cut (N.map D.str) (some (if 1 < k then k - 1 else 0)) (some k)=(cut N (some (if 1 < k then k - 1 else 0)) (some k)).map D.str:=zGC _ _ _ _
   generalize cut N (some (if 1 < k then k - 1 else 0)) (some k)=C at *
   have hlm:N.getD ((N.length:Int) - 1).toNat []∈N:=Qc (by omega)
   generalize N.getD ((N.length:Int) - 1).toNat []=lastT at *
   by_cases h3:c % 29=1
   ·refine⟨C++[lastT],by simp;omega,fun t ht=>?_,fin _ [.lst (C.map .str),.lst [.str lastT],.lst ((C++[lastT]).map .str)] (S.length+2) ?_ (by rw[List.getElem?_append_right (by omega),show S.length+2 - S.length=2 by omega];rfl) (by omega)⟩
    ·rcases List.mem_append.mp ht with h | h
     ·exact hcm t h
     ·rw[List.mem_singleton.mp h];exact hlm
    ·have hz:C.length+1 <= SZ:=by unfold SZ;omega
     have q1:∀ g,(S++g)[q]? = some (.lst (N.map .str)):=fun g=>zh hq g
     have s1:∀ (a b:O),(S++[a,b])[S.length]? = some a:=fun a b=>by rw[List.getElem?_append_right (Nat.le_refl _),Nat.sub_self];rfl
     have s2:∀ (a b:O),(S++[a,b])[S.length+1]? = some b:=fun a b=>by rw[List.getElem?_append_right (by omega),show S.length+1 - S.length=1 by omega];rfl
     have z0:¬ SZ=0:=by unfold SZ;omega
     simp[yz,yy,h3,hq,hcut,q1,hx,s1,s2,hz,z0]
   ·refine⟨C,by omega,hcm,fin _ [.lst (C.map .str)] S.length ?_ (by rw[List.getElem?_append_right (Nat.le_refl _),Nat.sub_self];rfl) (Nat.le_refl _)⟩
    simp[yz,yy,h3,hq,hcut]
  ·have hn:(c % 4).natAbs < 4611686018427387904:=by omega
   have:=Z8 (n:=1) (it:=jP (eOp zf (zA 0) (eC (.int 4)))) (tg:=zX 5) (e:=eOp zt (zA 3) (eOp zf (zH zW (zB (zA 0) (zB (eOp zy (eC (.int 3)) (zA 5)) zG))) (zH qS (zB (zA 3) zG)))) (σ:=[some (.int c),some (.int k),some (.int sh),some (.ref q),none]) (s:=S) (lo:=0) (hi:=c % 4) (fun j=>.str (N.getD (mix c (3+j) % (N.length:Int)).toNat [])) (by simp[hn]) (by unfold SZ;omega) fun j hj=>by
    have i0:=Int.emod_nonneg (mix c (3+j)) (show (N.length:Int)≠0 by omega)
    have i1:=Int.emod_lt_of_pos (mix c (3+j)) pN
    simp[hq,zW,pN,nN,Qk (ts:=N) i0 i1]
   refine⟨(List.range (c % 4 - 0).toNat).map fun (j:Nat)=>N.getD (mix c (3+j) % (N.length:Int)).toNat [],by rw[List.length_map,List.length_range];omega,fun t ht=>?_,fin _ [.lst _] S.length ?_ (by rw[List.getElem?_append_right (Nat.le_refl _),Nat.sub_self];rfl) (Nat.le_refl _)⟩
   ·obtain⟨j,hj,rfl⟩:=List.mem_map.mp ht
    have i0:=Int.emod_nonneg (mix c (3+j)) (show (N.length:Int)≠0 by omega)
    have i1:=Int.emod_lt_of_pos (mix c (3+j)) pN
    exact Qc (by omega)
   ·rw[List.map_map]
    simp only[yz,fn,yy,zK,sIf,zr,zA,eC,cEq,eqD,jq,je,qt,List.map_cons,List.map_nil,List.length_cons,List.length_nil,List.cons_append,List.nil_append,Nat.reduceAdd,Nat.reduceSub,List.replicate,List.getElem?_cons_zero,List.getElem?_cons_succ,R.bind_ok,R.stm_ok,h1,h2,decide_false,Bool.false_eq_true,if_false,RS.then_nx,this,alloc,RS.out_rt]
    rfl
def q8:SM :=
  (zS 3 (eOp zf (zH zx (zB (zA 0) (zB (zA 1) zG))) (eC (.int 4))))
def qz:SM :=
  (zS 4 j2)
def qT:SM :=
  (yh (jP (zH qS (zB (zA 2) zG))) (zX 5)
  (zK (zS 6 (zH zW (zB (zH zx (zB (zA 0) (zB (eOp zy (eOp zy (zA 1) (eC (.int 1))) (eOp zf (zA 5) (eC (.int 12)))) zG))) (zB (zA 5) zG))))
  (sIf (tOr (zr cGt (eOp zf (eOp qG (zA 6) (eC (.int 64))) (eC (.int 9))) (eC (.int 0))) (zr cEq (zA 3) (eC (.int 2))))
  (qC (zA 4) (eOp zt (zA 2) (zA 5)) (zH yL (zB (zA 6) (zB (zA 5) (zB (zA 3) (zB (zA 2) zG))))))
  je)))
def yo:SM :=
  (jq (zA 4))
def JR:SM:=(zK q8 (zK qz (zK qT yo)))
def zEx:F:=fn 7 JR
abbrev QH:F:=zEx
theorem zD0 {P:T×List T->Prop}{k:T}{v:List T}{nd:List (T×List T)} (h:∀ q∈nd,P q) (hk:P (k,v)):∀ q∈Zd k v nd,P q:=by
 intro q hq
 unfold Zd at hq
 split at hq
 ·obtain⟨p,hp,rfl⟩:=List.mem_map.mp hq
  by_cases e:p.1=k
  ·rw[if_pos e,e];exact hk
  ·rw[if_neg e];exact h p hp
 ·rcases List.mem_append.mp hq with hq | hq
  ·exact h q hq
  ·rw[List.mem_singleton.mp hq];exact hk
abbrev OkB (b:Nat) (N:List T) (nd:List (T×List T)):Prop:=∀ q∈nd,q.1∈N/\q.2.length <= b/\∀ t∈q.2,t∈N
abbrev OkN (N:List T) (nd:List (T×List T)):Prop:=OkB 10 N nd
theorem OkB.mono {b c:Nat}{N:List T}{nd:List (T×List T)} (h:OkB b N nd) (hc:b <= c):OkB c N nd:=fun q hq=>⟨(h q hq).1,Nat.le_trans (h q hq).2.1 hc,(h q hq).2.2⟩
abbrev zEp:SM :=
  (zK (zS 6 (zH zW (zB (zH zx (zB (zA 0) (zB (eOp zy (eOp zy (zA 1) (eC (.int 1))) (eOp zf (zA 5) (eC (.int 12)))) zG))) (zB (zA 5) zG))))
  (sIf (tOr (zr cGt (eOp zf (eOp qG (zA 6) (eC (.int 64))) (eC (.int 9))) (eC (.int 0))) (zr cEq (zA 3) (eC (.int 2))))
  (qC (zA 4) (eOp zt (zA 2) (zA 5)) (zH yL (zB (zA 6) (zB (zA 5) (zB (zA 3) (zB (zA 2) zG))))))
  je))
abbrev NdI (B:M.S) (N:List T) (j:Nat) (s:M.S):Prop:=∃ kvs nd t,s=B++.dct kvs::t/\DR s kvs nd/\(zR nd).Nodup/\nd.length <= j/\OkB 4 N nd
theorem zHp {ns:List Int}{N:List T} (hN2:N.length <= 60) {B:M.S}{p:Nat}{sh:Int} (hp:B[p]? = some (.lst (N.map .str))) {s:M.S}{j:Nat} (hj:j < N.length) (v5 v6:Option D) (I:NdI B N j s) :
  ∃ v6' s',jr (zX 5) zEp (.int j) [some (.ro (ns.map .int)),some (.int 5),some (.ref p),some (.int sh),some (.ref B.length),v5,v6] s=.nx [some (.ro (ns.map .int)),some (.int 5),some (.ref p),some (.int sh),some (.ref B.length),some (.int j),v6'] s'/\NdI B N (j+1) s':=by
 obtain⟨kvs,nd,t,rfl,dr,ndp,nl,ok⟩:=I
 have m0:=Int.emod_nonneg (j:Int) (show (12:Int)≠0 by decide)
 have hc:=fun s=>ZR ns (6+(j:Int) % 12) s (by omega)
 generalize j0 ns (6+(j:Int) % 12)=c0 at *
 generalize hc1:mix c0 j=c at *
 have gp:∀ g,(B++g)[p]? = some (.lst (N.map .str)):=fun g=>zh hp g
 obtain⟨ts,tl,tm,er⟩:=zMc (S:=B++.dct kvs::t) (q:=p) (N:=N) (c:=c) (k:=(j:Int)) (sh:=sh) (gp _) (by omega) (by omega)
 have ix:=Qk (ts:=N) (k:=(j:Int)) (by omega) (by omega)
 rw[Int.toNat_natCast] at ix
 have hnd:kvs.length < SZ:=by rw[dr.length];unfold SZ;omega
 by_cases hb:0 < c / 64 % 9\/sh=2
 ·refine⟨some (.int c),B++.dct (qN (.str (N.getD j [])) (.ref (B.length+(t.length+1))) kvs)::(t++[.lst (ts.map D.str)]),?_,_,Zd (N.getD j []) ts nd,_,rfl,?_,zBu ndp,Nat.le_trans zI9 (by omega),zD0 ok ⟨Qc hj,(by show ts.length <= 4;omega),tm⟩⟩
  ·have hb':∀ (a b:M.RS),(if 0 < c / 64 % 9 then a else if sh=2 then a else b)=a:=fun a b=>by
    rcases hb with h | h
    ·rw[if_pos h]
    ·rw[if_pos h];split<;>rfl
   have er':yL [.int c,.int j,.int sh,.ref p] (B++.dct kvs::t)=.ok (.ref (B.length+(t.length+1))) (B++.dct kvs::(t++[.lst (ts.map D.str)])):=by rw[er];simp
   have h6:(5:Int)+1+(j:Int) % 12=6+(j:Int) % 12:=by omega
   by_cases h1:0 < c / 64 % 9
   ·simp[hc,zW,hc1,h1,er',gp,ix,ji,hnd]
   ·have h2:sh=2:=by rcases hb with h | h;exact absurd h h1;exact h
    subst h2
    simp[hc,zW,hc1,h1,er',gp,ix,ji,hnd]
  ·have kp:qp (B++.dct kvs::t) (B++.dct (qN (.str (N.getD j [])) (.ref (B.length+(t.length+1))) kvs)::(t++[.lst (ts.map D.str)])):=by
    have k1:=qp.set (s:=B++.dct kvs::t) (i:=B.length) (o:=.dct kvs) (o':=.dct (qN (.str (N.getD j [])) (.ref (B.length+(t.length+1))) kvs)) (by simp) (fun _ z=>nomatch z)
    have k2:=k1.trans (qp.app _ [.lst (ts.map D.str)])
    simpa using k2
   refine (dr.mono kp).put ?_
   rw[List.getElem?_append_right (by omega)]
   simp[show B.length+(t.length+1) - B.length=t.length+1 by omega]
 ·have h1:¬ 0 < c / 64 % 9:=fun z=>hb (.inl z)
  have h2:¬ sh=2:=fun z=>hb (.inr z)
  exact⟨some (.int c),_,by simp[hc,zW,hc1,h1,h2],kvs,nd,t,rfl,dr,ndp,by omega,ok⟩
theorem zJV {ns:List Int}{N:List T} (hN:0 < N.length) (hN2:N.length <= 60) {B:M.S}{p:Nat} (hp:B[p]? = some (.lst (N.map .str))) :
  ∃ kvs nd t,QH [.ro (ns.map .int),.int 5,.ref p] B=.ok (.ref B.length) (B++.dct kvs::t)/\DR (B++.dct kvs::t) kvs nd/\(zR nd).Nodup/\nd.length <= 60/\OkB 4 N nd:=by
 have c5:=fun s=>ZR ns 5 s (by decide)
 generalize hsh:j0 ns 5 % 4=sh at *
 obtain⟨σ',s',e5,⟨v5,v6,eσ⟩,kvs,nd,t,es,dr,ndp,nl,ok⟩:=yq (g:=[]) (f:=jr (zX 5) zEp)
  (fun j σ s=>(∃ v5 v6:Option D,σ=[some (.ro (ns.map .int)),some (.int 5),some (.ref p),some (.int sh),some (.ref B.length),v5,v6])/\NdI B N j s) (jT 0 (N.length:Int)) 0 [some (.ro (ns.map .int)),some (.int 5),some (.ref p),some (.int sh),some (.ref B.length),none,none] (B++[.dct []]) ⟨⟨none,none,rfl⟩,[],[],[],rfl,trivial,List.nodup_nil,Nat.le_refl _,fun q hq=>by cases hq⟩ fun j d hd σ s ⟨⟨v5,v6,eσ⟩,I⟩=>by
   obtain⟨rfl,hj⟩:=zEP hd
   subst eσ
   rw[Nat.zero_add] at I ⊢
   obtain⟨v6',s',e,I'⟩:=zHp (ns:=ns) (sh:=sh) hN2 hp (by omega) v5 v6 I
   exact⟨_,s',e,rfl,⟨_,_,rfl⟩,I'⟩
 rw[zH9,Nat.zero_add] at nl
 subst eσ
 subst es
 refine⟨kvs,nd,t,?_,dr,ndp,by omega,ok⟩
 have q1:(N.length:Int).natAbs < 4611686018427387904:=by omega
 have gp:(B++[O.dct []])[p]? = some (.lst (N.map .str)):=zh hp _
 have hg:∀ s,zi [] s=true:=fun _=>rfl
 have e12:∀ r,(zK q8 (zK qz r)) [some (.ro (ns.map .int)),some (.int 5),some (.ref p),none,none,none,none] B=r [some (.ro (ns.map .int)),some (.int 5),some (.ref p),some (.int sh),some (.ref B.length),none,none] (B++[.dct []]):=fun r=>by
  simp[q8,qz,c5,hsh]
 have e3:qT [some (.ro (ns.map .int)),some (.int 5),some (.ref p),some (.int sh),some (.ref B.length),none,none] (B++[.dct []])=.nx [some (.ro (ns.map .int)),some (.int 5),some (.ref p),some (.int sh),some (.ref B.length),v5,v6] (B++.dct kvs::t):=by
  simp only[qT,yh,jP,zH,zB,zG,zA,List.getElem?_cons_succ,List.getElem?_cons_zero,R.bind_ok,qS,gp,List.length_map,q1,if_true,R.stm_ok,hg]
  exact e5
 show ((zK q8 (zK qz (zK qT yo))) [some (.ro (ns.map .int)),some (.int 5),some (.ref p),none,none,none,none] B).out=_
 rw[e12]
 show ((qT _ _).then _).out=_
 rw[e3]
 simp[yo]
theorem zCa {S:M.S}{p r:Nat}{o u:O}{xs:List D} (hp:S[p]? = some o) (no:∀ xs,o≠.lst xs) (e:S[r]? = some (.lst xs)):(S.set p u)[r]? = some (.lst xs):=by
 rw[List.getElem?_set_ne (fun z=>by subst z;rw[hp] at e;cases e;exact no xs rfl)]
 exact e
theorem zJC {S:M.S}{p:Nat}{o u:O} (hp:S[p]? = some o):(S.set p u).set p o=S:=by
 rw[List.set_set]
 obtain⟨h,e⟩:=List.getElem?_eq_some_iff.mp hp
 rw[<- e,List.set_getElem_self]
theorem zAX {S g:M.S}{p:Nat}{o o':O} (hp:S[p]? = some o):(S++g).set p o'=S.set p o'++g:=by
 rw[List.set_append_left _ _ (List.getElem?_eq_some_iff.mp hp).1]
theorem zB8 {S:M.S}{p:Nat}{o u:O} (hp:S[p]? = some o):(S.set p u)[p]? = some u:=by
 rw[List.getElem?_set_self (List.getElem?_eq_some_iff.mp hp).1]
theorem zBn {S g:M.S}{p:Nat}{kvs:List (D×D)} (hp:S[p]? = some (.dct kvs)) (σ:St):thaw p kvs (.nx σ (S.set p (.fdc kvs)++g))=.nx σ (S++g):=by
 have e1:(S.set p (.fdc kvs)++g)[p]? = some (.fdc kvs):=zh (zB8 hp) g
 have e2:(S.set p (.fdc kvs)++g).set p (.dct kvs)=S++g:=by rw[zAX (zB8 hp),zJC hp]
 simp only[thaw,e1,e2,if_true]
theorem zq {S g:M.S}{o:O}:(S++o::g)[S.length]? = some o:=by rw[List.getElem?_append_right (Nat.le_refl _),Nat.sub_self];rfl
theorem zAM {S g:M.S}{o o':O}:(S++o::g).set S.length o'=S++o'::g:=by rw[List.set_append_right _ _ (Nat.le_refl _),Nat.sub_self];rfl
abbrev tk (x:T):D×D:=(.str x,.bl true)
def yA (y:T) (ks:List T):List T:=if y∈ks then ks else ks++[y]
theorem zEV (y:T) (ks:List T):qN (.str y) (.bl true) (ks.map tk)=(yA y ks).map tk:=by
 unfold qN yA
 have e:((ks.map tk).any fun p=>decide (p.1=.str y))=decide (y∈ks):=by
  rw[List.any_map]
  induction ks with
  | nil=>rfl
  | cons k ks ih =>
   rw[List.any_cons,ih]
   by_cases h:k=y<;>simp[h,eq_comm]
 rw[e]
 by_cases h:y∈ks
 ·rw[if_pos h,if_pos (decide_eq_true h),List.map_map]
  refine List.map_congr_left fun x hx=>?_
  simp only[Function.comp]
  split<;>rfl
 ·rw[if_neg h,if_neg (by simp[h])]
  simp
theorem Zs {x y:T}{ks:List T}:x∈yA y ks↔x∈ks\/x=y:=by
 unfold yA
 split
 ·rename_i h
  constructor
  ·exact .inl
  ·rintro (h1 | rfl)
   ·exact h1
   ·exact h
 ·simp
theorem zAG {y:T}{ks:List T} (h:ks.Nodup):(yA y ks).Nodup:=by
 unfold yA
 split
 ·exact h
 ·rename_i q
  rw[List.nodup_append]
  exact⟨h,by simp,fun a ha b hb z=>by simp at hb;subst hb;subst z;exact q ha⟩
theorem ql:∀ {xs N:List T},xs.Nodup->(∀ x∈xs,x∈N)->xs.length <= N.length
 | [],_,_,_=>by simp
 | x::xs,N,h,m=>by
  rw[List.nodup_cons] at h
  have hx:=m x List.mem_cons_self
  have:xs.length <= (N.erase x).length:=ql h.2 fun y hy=>by
   refine (List.mem_erase_of_ne fun z=>?_).mpr (m y (List.mem_cons_of_mem _ hy))
   subst z;exact h.1 hy
  rw[List.length_erase_of_mem hx] at this
  have:=List.length_pos_of_mem hx
  simp only[List.length_cons]
  omega
theorem zJg (ks:List T):qA ((ks.map tk).map (·.1))=some ks:=by
 rw[List.map_map]
 exact zA4 ks
abbrev NLt (a b:T):Prop:=¬ b < a
theorem zI5 {a b c:T} (h1:¬ b < a) (h2:¬ c < b):¬ c < a:=by
 rw[List.not_lt] at h1 h2 ⊢
 exact List.le_trans h1 h2
theorem zCp (x:T):∀ ts:List T,(jb.insT' x ts).Perm (x::ts)
 | []=>.refl _
 | y::r=>by
  unfold jb.insT'
  split
  ·exact ((zCp x r).cons y).trans (.swap x y r)
  ·exact .refl _
theorem Qd:∀ ts:List T,(jb ts).Perm ts
 | []=>.refl _
 | x::r=>(zCp x _).trans ((Qd r).cons x)
theorem zGD (x:T):∀ ts:List T,ts.Pairwise NLt->(jb.insT' x ts).Pairwise NLt
 | [],_=>by unfold jb.insT';simp
 | y::r,h=>by
  rw[List.pairwise_cons] at h
  unfold jb.insT'
  split
  ·rename_i hy
   rw[List.pairwise_cons]
   refine⟨fun b hb=>?_,zGD x r h.2⟩
   rcases List.mem_cons.mp ((zCp x r).mem_iff.mp hb) with rfl | hb
   ·exact fun z=>List.lt_irrefl _ (List.lt_trans z hy)
   ·exact h.1 b hb
  ·rename_i hy
   rw[List.pairwise_cons]
   refine⟨fun b hb=>?_,List.pairwise_cons.mpr h⟩
   rcases List.mem_cons.mp hb with rfl | hb
   ·exact hy
   ·exact zI5 hy (h.1 b hb)
theorem zAI:∀ ts:List T,(jb ts).Pairwise NLt
 | []=>.nil
 | x::r=>zGD x _ (zAI r)
theorem zHA {ts:List T} (h:ts.Nodup):(jb ts).Nodup:=(Qd ts).nodup_iff.mpr h
theorem zCN {ks:List T} (h:ks.length <= 1000) (s:M.S):Z5 ((ks.map tk).map (·.1)) s=alloc (.lst ((jb ks).map .str)) s:=by
 unfold Z5
 rw[zJg]
 dsimp only
 rw[if_pos (by omega)]
def y9:SM :=
  (zK (zS 1 j2)
  (zK (yP (zA 0) (Jm (yC (zX 2) (yC (zX 3) Jj)))
  (qC (zA 1) (zA 2) (zH yK (zB (zA 3) zG))))
  (jq (zA 1))))
def zDZ:F:=fn 4 y9
abbrev y6:F:=zDZ
abbrev zIG:SM:=qC (zA 1) (zA 2) (zH yK (zB (zA 3) zG))
abbrev zLJ:GM:=Jm (yC (zX 2) (yC (zX 3) Jj))
theorem zDA {S:M.S}{p:Nat}{kvs:List (D×D)}{nd:List (T×List T)} (hp:S[p]? = some (.dct kvs)) (dr:DR S kvs nd) (hn:(zR nd).Nodup) (hl:nd.length <= 100) :
  ∃ hk g,y6 [.ref p] S=.ok (.ref S.length) (S++.dct hk::g)/\DR (S++.dct hk::g) hk nd:=by
 obtain⟨S',hS⟩:∃ S',S'=S.set p (.fdc kvs):=⟨_,rfl⟩
 have hSl:S'.length=S.length:=by rw[hS,List.length_set]
 have hf:∀ (r:Nat) (xs:List D),S[r]? = some (.lst xs)->S'[r]? = some (.lst xs):=fun r xs e=>by rw[hS];exact zCa hp (fun _ z=>nomatch z) e
 obtain⟨σ',s',e5,⟨v2,v3,eσ⟩,hk,g,es,drh⟩:=yq (g:=[]) (f:=jr zLJ zIG)
  (fun j σ s=>(∃ v2 v3:Option D,σ=[some (.ref p),some (.ref S.length),v2,v3])/\∃ hk g,s=S'++.dct hk::g/\DR s hk (nd.take j))
  (kvs.map fun p=>D.tup [p.1,p.2]) 0 [some (.ref p),some (.ref S.length),none,none] (S'++[O.dct []]) ⟨⟨none,none,rfl⟩,[],[],rfl,trivial⟩ fun j x hx σ s ⟨⟨v2,v3,eσ⟩,hk,g,es,drh⟩=>by
   rw[Nat.zero_add] at drh ⊢
   subst eσ
   rw[List.getElem?_map] at hx
   cases q:kvs[j]? with
   | none=>rw[q] at hx;cases hx
   | some kv =>
    rw[q] at hx
    have hx':x=.tup [kv.1,kv.2]:=by simpa using hx.symm
    subst hx'
    obtain⟨pr,r,e1,e2,e3⟩:=dr.at q
    subst e2
    have e3':s[r]? = some (.lst (pr.2.map .str)):=by rw[es];exact zh (hf r _ e3) _
    have hj:j < nd.length:=(List.getElem?_eq_some_iff.mp e1).1
    have ep:nd[j]=pr:=(List.getElem?_eq_some_iff.mp e1).2
    have hlen:hk.length < SZ:=by rw[drh.length,List.length_take];unfold SZ;omega
    have gs:s[S.length]? = some (.dct hk):=by rw[es,<- hSl];exact zq
    have gs':(s++[O.lst (pr.2.map D.str)])[S.length]? = some (.dct hk):=zh gs _
    have hs':(s++[O.lst (pr.2.map D.str)]).set S.length (.dct (qN (.str pr.1) (.ref s.length) hk))=S'++.dct (qN (.str pr.1) (.ref s.length) hk)::(g++[O.lst (pr.2.map D.str)]):=by
     rw[es,List.append_assoc,List.cons_append,<- hSl,zAM]
    refine⟨[some (.ref p),some (.ref S.length),some (.str pr.1),some (.ref r)],_,?_,rfl,⟨_,_,rfl⟩,qN (.str pr.1) (.ref s.length) hk,g++[O.lst (pr.2.map D.str)],rfl,?_⟩
    ·rw[<- hs']
     simp[e3',gs',ji,hlen]
    ·rw[<- hs']
     have kp:qp s ((s++[O.lst (pr.2.map D.str)]).set S.length (.dct (qN (.str pr.1) (.ref s.length) hk))):=(qp.app s [O.lst (pr.2.map D.str)]).trans (qp.set gs' (fun _ z=>nomatch z))
     have key:pr.1∉zR (nd.take j):=fun z=>by
      have hn':=hn
      rw[<- List.take_append_drop j nd] at hn'
      unfold zR at hn' z
      rw[List.map_append,List.nodup_append] at hn'
      refine hn'.2.2 pr.1 z pr.1 (List.mem_map.mpr ⟨pr,?_,rfl⟩) rfl
      rw[List.drop_eq_getElem_cons hj,ep]
      exact List.mem_cons_self
     have:=(drh.mono kp).put (k:=pr.1) (r:=s.length) (row:=pr.2) ?_
     ·rw[zEM key] at this
      rw[List.take_succ,e1]
      exact this
     ·rw[List.getElem?_set_ne (by
       have:=(List.getElem?_eq_some_iff.mp gs).1
       omega)]
      simp
 rw[Nat.zero_add,List.length_map,dr.length,List.take_length] at drh
 subst eσ
 subst es
 refine⟨hk,g,?_,?_⟩
 ·have g5:(S++[O.dct []])[p]? = some (.dct kvs):=zh hp _
  have s5:(S++[O.dct []]).set p (.fdc kvs)=S'++[O.dct []]:=by rw[zAX hp,hS]
  have e6:(yP (zA 0) zLJ zIG) [some (.ref p),some (.ref S.length),none,none] (S++[O.dct []])=.nx [some (.ref p),some (.ref S.length),v2,v3] (S++.dct hk::g):=by
   simp only[yP,zA,List.getElem?_cons_zero,R.stm_ok,g5,s5,e5]
   rw[hS]
   exact zBn hp _
  show ((y9 [some (.ref p),none,none,none] S).out)=_
  unfold y9
  have e0:(zS 1 j2) [some (.ref p),none,none,none] S=.nx [some (.ref p),some (.ref S.length),none,none] (S++[.dct []]):=by simp
  show ((((zS 1 j2) _ _).then _).out)=_
  rw[e0,RS.then_nx]
  show ((((yP _ _ _) _ _).then _).out)=_
  rw[e6]
  simp
 ·refine drh.mono fun r xs e=>?_
  by_cases h:r < S.length
  ·rw[List.getElem?_append_left (by omega)] at e
   rw[List.getElem?_append_left h]
   by_cases hr:r=p
   ·subst hr;rw[hS,zB8 hp] at e;cases e
   ·rw[hS,List.getElem?_set_ne (Ne.symm hr)] at e;exact e
  ·rw[List.getElem?_append_right (by omega),hSl] at e
   rw[List.getElem?_append_right (by omega)];exact e
def yi:SM :=
  (zS 2 j2)
def yf:SM :=
  (zS 3 (eC (.bl true)))
def yk:SM :=
  (zAq (jo (zA 3))
  (zK (zS 3 (eC (.bl false)))
  (yP (zA 0) (Jm (yC (zX 4) (yC (zX 5) Jj)))
  (zK (zS 6 (qt 1 (iE (zA 5)) (zX 7) (tOr (zr cIn (zA 7) (zA 1)) (zr cIn (zA 7) (zA 2))) (zA 7)))
  (sIf (Q2 (jo (zA 6)) (zr qQ (zA 4) (zA 2)))
  (zK (qC (zA 2) (zA 4) (eC (.bl true)))
  (zS 3 (eC (.bl true))))
  je)))))
def ZI:SM :=
  (jq (zH QS (zB (zA 2) zG)))
def zAf:SM:=(zK yi (zK yf (zK yk ZI)))
def zB7:F:=fn 7 zAf
def QC:F:=chN zB7
theorem zFY:jS 2 zB7 QC:=zEg _
theorem DR.keysT {s:M.S}{kvs:List (D×D)}{nd:List (T×List T)} (h:DR s kvs nd):kvs.map (·.1)=(zR nd).map D.str:=by
 rw[h.keys];unfold zR;rw[List.map_map];rfl
def nOf (nd:List (T×List T)) (x:T):List T:=(nd.lookup x).getD []
theorem Qi {nd:List (T×List T)} (hn:(zR nd).Nodup) {x y:T}:y∈nOf nd x ↔ ∃ q∈nd,q.1=x/\y∈q.2:=by
 unfold nOf
 constructor
 ·intro h
  cases e:nd.lookup x with
  | none=>rw[e] at h;cases h
  | some row =>
   rw[e] at h
   have h1:(x,row)∈nd:=by
    clear hn
    induction nd with
    | nil=>cases e
    | cons q nd ih =>
     obtain⟨k,v⟩:=q
     rw[List.lookup_cons] at e
     cases hk:x == k with
     | true =>
      rw[hk] at e
      have:=eq_of_beq hk
      subst this
      cases e
      exact List.mem_cons_self
     | false=>rw[hk] at e;exact List.mem_cons_of_mem _ (ih e)
   exact⟨(x,row),h1,rfl,h⟩
 ·rintro ⟨q,h1,rfl,h2⟩
  rw[Qp hn h1]
  exact h2
def fD (V:List T) (f:T->D):List (D×D):=V.map fun x=>(D.str x,f x)
theorem zH2 {f:T->D}:∀ {V:List T}{x:T},x∈V->jm (.str x) (fD V f)=some (f x)
 | [],_,h=>by cases h
 | v::V,x,h=>by
  unfold fD jm
  rw[List.map_cons,List.lookup_cons]
  by_cases e:x=v
  ·subst e;simp
  ·have h1:(D.str x == D.str v)=false:=by simpa using e
   rw[h1]
   exact zH2 (by rcases List.mem_cons.mp h with h | h;exact absurd h e;exact h)
theorem zHJ {f:T->D}:∀ {V:List T}{x:T},x∉V->jm (.str x) (fD V f)=none
 | [],_,_=>rfl
 | v::V,x,h=>by
  unfold fD jm
  rw[List.map_cons,List.lookup_cons]
  have h1:(D.str x == D.str v)=false:=by
   have:x≠v:=fun e=>h (e ▸ List.mem_cons_self)
   simpa using this
  rw[h1]
  exact zHJ fun q=>h (List.mem_cons_of_mem _ q)
structure Fr2 (a b:Nat) (s s':M.S):Prop where
 len:s'.length=s.length
 eq:∀ q,q≠a->q≠b->s'[q]? = s[q]?
theorem Fr2.refl (a b:Nat) (s:M.S):Fr2 a b s s:=⟨rfl,fun _ _ _=>rfl⟩
theorem Fr2.trans {a b:Nat}{s s' s'':M.S} (h:Fr2 a b s s') (k:Fr2 a b s' s''):Fr2 a b s s'':=⟨k.len.trans h.len,fun q h1 h2=>(k.eq q h1 h2).trans (h.eq q h1 h2)⟩
theorem QT {s:M.S}{a:Nat}{o o':O} (h:s[a]? = some o):(s.set a o')[a]? = some o':=List.getElem?_set_self (List.getElem?_eq_some_iff.mp h).1
theorem jD {s:M.S}{a q:Nat}{o':O} (h:q≠a):(s.set a o')[q]? = s[q]? := List.getElem?_set_ne (Ne.symm h)
theorem zK5 (ks:List T):(ks.map tk).map (·.1)=ks.map D.str:=by rw[List.map_map];rfl
structure zj (S1 s:M.S):Prop where
 le:S1.length <= s.length
 eq:∀ q,q < S1.length->s[q]? = S1[q]?
theorem zj.app {S1 s:M.S} (h:zj S1 s):∃ g,s=S1++g:=⟨s.drop S1.length,by
 have e:s.take S1.length=S1:=by
  apply List.ext_getElem?
  intro i
  by_cases hi:i < S1.length
  ·rw[List.getElem?_take_of_lt hi,h.eq i hi]
  ·rw[List.getElem?_eq_none (by rw[List.length_take];omega),List.getElem?_eq_none (by omega)]
 conv=>lhs;rw[<- List.take_append_drop S1.length s,e]⟩
theorem zj.of (S1 g:M.S):zj S1 (S1++g):=⟨by simp,fun q hq=>List.getElem?_append_left hq⟩
theorem zj.get {s s':M.S} (h:zj s s') {q:Nat}{o:O} (e:s[q]? = some o):s'[q]? = some o:=by
 rw[h.eq q (List.getElem?_eq_some_iff.mp e).1];exact e
theorem zj.keep {s s':M.S} (h:zj s s'):qp s s':=fun _ _ e=>h.get e
theorem zj.trans {a b c:M.S} (h:zj a b) (k:zj b c):zj a c:=⟨Nat.le_trans h.le k.le,fun q hq=>by rw[k.eq q (Nat.lt_of_lt_of_le hq h.le),h.eq q hq]⟩
theorem zj.refl (s:M.S):zj s s:=⟨Nat.le_refl _,fun _ _=>rfl⟩
theorem zj.set {s s':M.S} (h:zj s s') {q:Nat} (hq:s.length <= q) (o:O):zj s (s'.set q o):=⟨by rw[List.length_set];exact h.le,fun r hr=>by rw[jD (by omega)];exact h.eq r hr⟩
theorem zKI {b:Nat}{N:List T}{nd:List (T×List T)} (hn:(zR nd).Nodup) (h:OkB b N nd) (x:T):(nOf nd x).length <= b/\∀ t∈nOf nd x,t∈N:=by
 refine⟨?_,fun t ht=>?_⟩
 ·cases q:nOf nd x with
  | nil=>simp
  | cons y ys =>
   have hy:y∈nOf nd x:=by rw[q];simp
   obtain⟨p,h1,h2,h3⟩:=(Qi hn).mp hy
   have e:nOf nd x=p.2:=by unfold nOf;rw[<- h2,Qp hn h1];rfl
   rw[<- q,e]
   exact (h p h1).2.1
 ·obtain⟨p,h1,h2,h3⟩:=(Qi hn).mp ht
  exact (h p h1).2.2 t h3
inductive Lds (nd:List (T×List T)):T->T->Prop where
 | one {x z:T} (h:z∈nOf nd x):Lds nd x z
 | step {x y z:T} (h:y∈nOf nd x) (r:Lds nd y z):Lds nd x z
theorem zEC {K:List T}{x:T}:jm (.str x) (K.map tk)=if x∈K then some (.bl true) else none:=by
 have e:K.map tk=fD K fun _=>.bl true:=rfl
 rw[e]
 by_cases h:x∈K
 ·rw[if_pos h,zH2 h]
 ·rw[if_neg h,zHJ h]
abbrev zGk:GM:=Jm (yC (zX 4) (yC (zX 5) Jj))
abbrev duC:TM:=tOr (zr cIn (zA 7) (zA 1)) (zr cIn (zA 7) (zA 2))
abbrev zD7:SM:=(sIf (Q2 (jo (zA 6)) (zr qQ (zA 4) (zA 2)))
  (zK (qC (zA 2) (zA 4) (eC (.bl true)))
  (zS 3 (eC (.bl true))))
  je)
abbrev zB2:SM:=(zK (zS 6 (qt 1 (iE (zA 5)) (zX 7) duC (zA 7))) zD7)
structure DuI (nd:List (T×List T)) (st K0 K:List T) (b:Bool) (j:Nat):Prop where
 nk:K.Nodup
 snd:∀ x∈K,x∈zR nd/\∃ y∈st,Lds nd x y
 le:K0.length <= K.length
 go:b=true->K0.length < K.length
 no:b=false->K=K0/\∀ pr∈nd.take j,(∃ y∈pr.2,y∈st\/y∈K)->pr.1∈K
theorem zJ3 {S:M.S}{q j r:Nat}{nd:List (T×List T)}{N st K0 K:List T}{b:Bool}{pr:T×List T} (hn:(zR nd).Nodup) (ok:OkN N nd) (hl:nd.length <= 400) (hq:S[q]? = some (.lst (st.map .str))) (hj:nd[j]? = some pr) (hr:S[r]? = some (.lst (pr.2.map .str))) (I:DuI nd st K0 K b j) (g:M.S) {v0 v4 v5 v6:Option D} :
  ∃ (K':List T) (b':Bool) (g':M.S) (v6':Option D),jr zGk zB2 (.tup [.str pr.1,.ref r]) [v0,some (.ref q),some (.ref S.length),some (.bl b),v4,v5,v6] (S++.dct (K.map tk)::g)=.nx [v0,some (.ref q),some (.ref S.length),some (.bl b'),some (.str pr.1),some (.ref r),v6'] (S++.dct (K'.map tk)::g')/\DuI nd st K0 K' b' (j+1):=by
 have hmem:pr∈nd:=List.mem_of_getElem? hj
 obtain⟨o1,o2,o3⟩:=ok pr hmem
 have et:nd.take (j+1)=nd.take j++[pr]:=by rw[List.take_succ,hj];rfl
 have hkey:pr.1∈zR nd:=List.mem_map.mpr ⟨pr,hmem,rfl⟩
 have lK:K.length <= 400:=by
  have:=ql (N:=zR nd) I.nk fun x hx=>(I.snd x hx).1
  have e:(zR nd).length=nd.length:=by unfold zR;simp
  omega
 obtain⟨f,hf⟩:∃ f:T->Bool,f=fun y=>st.contains y || decide (y∈K):=⟨_,rfl⟩
 obtain⟨s1,hs1⟩:∃ s1,s1=S++.dct (K.map tk)::g:=⟨_,rfl⟩
 have g1:s1[q]? = some (.lst (st.map .str)):=by rw[hs1];exact zh hq _
 have g2:s1[S.length]? = some (.dct (K.map tk)):=by rw[hs1];exact zq
 have g3:s1[r]? = some (.lst (pr.2.map .str)):=by rw[hs1];exact zh hr _
 have hG:zi [(r,O.lst (pr.2.map .str))] s1=true:=by simp only[zi,List.all_cons,List.all_nil,g3,decide_true,Bool.and_self]
 have ec:yO 1 (iE (zA 5)) (zX 7) duC (zA 7) [v0,some (.ref q),some (.ref S.length),some (.bl b),some (.str pr.1),some (.ref r),v6] s1=.ok ((pr.2.filter f).map .str) s1:=by
  refine zCE (n:=1) (g:=[(r,.lst (pr.2.map .str))]) f (by
   simp only[iE,zA,List.getElem?_cons_succ,List.getElem?_cons_zero,R.bind_ok,itD,g3]) (by unfold SZ;omega) hG fun y hy=>?_
  have d:=zEC (K:=K) (x:=y)
  have fl:(flat (.str y) && (st.map D.str).all flat)=true:=by rw[zDJ];rfl
  simp only[qc,zX,List.cons_append,List.nil_append,List.replicate,List.set_cons_succ,List.set_cons_zero,duC,tOr,zr,cIn,zA,List.getElem?_cons_succ,List.getElem?_cons_zero,R.bind_ok,inD,g1,g2,fl,zBb,ji,if_true,d,hf]
  cases st.contains y with
  | true=>simp
  | false=>by_cases c:y∈K<;>simp[c]
 have a1:(zS 6 (qt 1 (iE (zA 5)) (zX 7) duC (zA 7))) [v0,some (.ref q),some (.ref S.length),some (.bl b),some (.str pr.1),some (.ref r),v6] s1=.nx [v0,some (.ref q),some (.ref S.length),some (.bl b),some (.str pr.1),some (.ref r),some (.ref s1.length)] (s1++[O.lst ((pr.2.filter f).map .str)]):=by
  simp only[zS,qt,ec,R.bind_ok,alloc,R.stm_ok,List.set_cons_succ,List.set_cons_zero]
 have go:jr zGk zB2 (.tup [.str pr.1,.ref r]) [v0,some (.ref q),some (.ref S.length),some (.bl b),v4,v5,v6] s1=zD7 [v0,some (.ref q),some (.ref S.length),some (.bl b),some (.str pr.1),some (.ref r),some (.ref s1.length)] (s1++[O.lst ((pr.2.filter f).map .str)]):=by
  show ((zS 6 _) [v0,some (.ref q),some (.ref S.length),some (.bl b),some (.str pr.1),some (.ref r),v6] s1).then _=_
  rw[a1,RS.then_nx]
 have gl:(s1++[O.lst ((pr.2.filter f).map .str)])[s1.length]? = some (.lst ((pr.2.filter f).map .str)):=zq
 have gd:(s1++[O.lst ((pr.2.filter f).map .str)])[S.length]? = some (.dct (K.map tk)):=zh g2 _
 have d:=zEC (K:=K) (x:=pr.1)
 have es:s1++[O.lst ((pr.2.filter f).map .str)]=S++.dct (K.map tk)::(g++[O.lst ((pr.2.filter f).map .str)]):=by rw[hs1];simp
 have fm:∀ y,f y=true↔y∈st\/y∈K:=fun y=>by rw[hf];simp
 rw[<- hs1]
 by_cases c:(∃ y∈pr.2,y∈st\/y∈K)/\pr.1∉K
 ·obtain⟨⟨y,y1,y2⟩,cK⟩:=c
  rw[if_neg cK] at d
  have em:((pr.2.filter f).map D.str).isEmpty=false:=by
   cases q:(pr.2.filter f).map D.str with
   | cons _ _=>rfl
   | nil =>
    rw[List.map_eq_nil_iff] at q
    have:y∈pr.2.filter f:=List.mem_filter.mpr ⟨y1,(fm y).mpr y2⟩
    rw[q] at this;cases this
  have z1:(K.map tk).length < SZ:=by rw[List.length_map];unfold SZ;omega
  have pt:qN (.str pr.1) (.bl true) (K.map tk)=(K++[pr.1]).map tk:=by rw[zEV];unfold yA;rw[if_neg cK]
  refine⟨K++[pr.1],true,g++[O.lst ((pr.2.filter f).map .str)],some (.ref s1.length),?_,⟨?_,fun x hx=>?_,?_,fun _=>?_,fun z=>by cases z⟩⟩
  ·rw[go]
   simp only[zD7,sIf,Q2,jo,zA,List.getElem?_cons_succ,List.getElem?_cons_zero,R.bind_ok,qk,gl,em,Bool.not_false,if_true,zr,qQ,inD,gd,ji,d,Option.isSome_none,R.stm_ok,zK,qC,eC,yZ,z1,decide_true,Bool.and_self,pt,RS.then_nx,zS,List.set_cons_succ,List.set_cons_zero]
   rw[es,zAM]
  ·rw[List.nodup_append]
   exact⟨I.nk,by simp,fun a ha b hb z=>by simp at hb;subst hb;subst z;exact cK ha⟩
  ·rcases List.mem_append.mp hx with hx | hx
   ·exact I.snd x hx
   ·rw[List.mem_singleton.mp hx]
    refine⟨hkey,?_⟩
    have ny:y∈nOf nd pr.1:=(Qi hn).mpr ⟨pr,hmem,rfl,y1⟩
    rcases y2 with y2 | y2
    ·exact⟨y,y2,.one ny⟩
    ·obtain⟨z,z1,z2⟩:=(I.snd y y2).2
     exact⟨z,z1,.step ny z2⟩
  ·have:=I.le;rw[List.length_append];omega
  ·have:=I.le;rw[List.length_append];simp;omega
 ·refine⟨K,b,g++[O.lst ((pr.2.filter f).map .str)],some (.ref s1.length),?_,⟨I.nk,I.snd,I.le,I.go,fun z=>⟨(I.no z).1,fun p hp hy=>?_⟩⟩⟩
  ·rw[go,<- es]
   by_cases cK:pr.1∈K
   ·rw[if_pos cK] at d
    cases em:((pr.2.filter f).map D.str).isEmpty<;>simp only[zD7,sIf,Q2,jo,zA,List.getElem?_cons_succ,List.getElem?_cons_zero,R.bind_ok,qk,gl,em,Bool.not_false,Bool.not_true,if_true,zr,qQ,inD,gd,ji,d,Option.isSome_some,R.stm_ok,Bool.false_eq_true,if_false,je]
   ·have em:((pr.2.filter f).map D.str).isEmpty=true:=by
     have:pr.2.filter f=[]:=by
      rw[List.filter_eq_nil_iff]
      intro y hy z
      exact c ⟨⟨y,hy,(fm y).mp z⟩,cK⟩
     rw[this];rfl
    simp only[zD7,sIf,Q2,jo,zA,List.getElem?_cons_succ,List.getElem?_cons_zero,R.bind_ok,qk,gl,em,Bool.not_true,R.stm_ok,Bool.false_eq_true,if_false,je]
  ·rw[et] at hp
   rcases List.mem_append.mp hp with hp | hp
   ·exact (I.no z).2 p hp hy
   ·rw[List.mem_singleton.mp hp] at hy ⊢
    by_cases cK:pr.1∈K
    ·exact cK
    ·exact absurd ⟨hy,cK⟩ c
abbrev duW:SM:=(zK (zS 3 (eC (.bl false))) (yP (zA 0) zGk zB2))
structure DuD (nd:List (T×List T)) (st K:List T):Prop where
 nk:K.Nodup
 snd:∀ x∈K,x∈zR nd/\∃ y∈st,Lds nd x y
 cl:∀ pr∈nd,(∃ y∈pr.2,y∈st\/y∈K)->pr.1∈K
section
variable {S:M.S}{p q:Nat}{kvs:List (D×D)}{nd:List (T×List T)}{N st:List T}
theorem zFj (hp:S[p]? = some (.dct kvs)) (dr:DR S kvs nd) (hn:(zR nd).Nodup) (ok:OkN N nd) (hl:nd.length <= 400) (hq:S[q]? = some (.lst (st.map .str))) {K:List T} (nk:K.Nodup) (snd:∀ x∈K,x∈zR nd/\∃ y∈st,Lds nd x y) (g:M.S) {v3 v4 v5 v6:Option D} :
  ∃ (K':List T) (b':Bool) (g':M.S) (v4' v5' v6':Option D),duW [some (.ref p),some (.ref q),some (.ref S.length),v3,v4,v5,v6] (S++.dct (K.map tk)::g)=.nx [some (.ref p),some (.ref q),some (.ref S.length),some (.bl b'),v4',v5',v6'] (S++.dct (K'.map tk)::g')/\DuI nd st K K' b' nd.length:=by
 obtain⟨S',hS⟩:∃ S',S'=S.set p (.fdc kvs):=⟨_,rfl⟩
 have hSl:S'.length=S.length:=by rw[hS,List.length_set]
 have hf:∀ (r:Nat) (xs:List D),S[r]? = some (.lst xs)->S'[r]? = some (.lst xs):=fun r xs e=>by rw[hS];exact zCa hp (fun _ z=>nomatch z) e
 obtain⟨σ',s',e5,⟨K',b',v4,v5,v6,eσ,g',es,I⟩⟩:=yq (g:=[]) (f:=jr zGk zB2)
  (fun j σ s=>∃ (K':List T) (b:Bool) (v4 v5 v6:Option D),σ=[some (.ref p),some (.ref q),some (.ref S'.length),some (.bl b),v4,v5,v6]/\∃ g',s=S'++.dct (K'.map tk)::g'/\DuI nd st K K' b j)
  (kvs.map fun p=>D.tup [p.1,p.2]) 0 [some (.ref p),some (.ref q),some (.ref S'.length),some (.bl false),v4,v5,v6] (S'++.dct (K.map tk)::g) ⟨K,false,v4,v5,v6,rfl,g,rfl,nk,snd,Nat.le_refl _,fun z=>(by cases z),fun _=>⟨rfl,fun pr h=>by simp at h⟩⟩ fun j x hx σ s ⟨K',b,v4,v5,v6,eσ,g',es,I⟩=>by
   rw[Nat.zero_add] at I ⊢
   subst eσ
   subst es
   rw[List.getElem?_map] at hx
   cases q1:kvs[j]? with
   | none=>rw[q1] at hx;cases hx
   | some kv =>
    rw[q1] at hx
    have hx':x=.tup [kv.1,kv.2]:=by simpa using hx.symm
    subst hx'
    obtain⟨pr,r,e1,e2,e3⟩:=dr.at q1
    subst e2
    obtain⟨K2,b2,g2,v6',e,I2⟩:=zJ3 (S:=S') (v0:=some (.ref p)) (v4:=v4) (v5:=v5) (v6:=v6) hn ok hl (hf q _ hq) e1 (hf r _ e3) I g'
    exact⟨_,_,e,rfl,K2,b2,_,_,_,rfl,g2,rfl,I2⟩
 rw[Nat.zero_add,List.length_map,dr.length] at I
 subst eσ
 subst es
 refine⟨K',b',g',v4,v5,v6,?_,I⟩
 have g5:(S++.dct (K.map tk)::g)[p]? = some (.dct kvs):=zh hp _
 have s5:(S++.dct (K.map tk)::g).set p (.fdc kvs)=S'++.dct (K.map tk)::g:=by rw[zAX hp,hS]
 rw[hSl] at e5
 simp only[duW,zK,zS,eC,R.stm_ok,List.set_cons_succ,List.set_cons_zero,RS.then_nx,yP,zA,List.getElem?_cons_zero,g5,s5,e5]
 rw[hS]
 exact zBn hp _
theorem zIe (hp:S[p]? = some (.dct kvs)) (dr:DR S kvs nd) (hn:(zR nd).Nodup) (ok:OkN N nd) (hl:nd.length <= 400) (hq:S[q]? = some (.lst (st.map .str))):∀ (m fuel:Nat) (K:List T) (g:M.S) (v4 v5 v6:Option D),nd.length <= K.length+m->m+1 < fuel->K.Nodup->(∀ x∈K,x∈zR nd/\∃ y∈st,Lds nd x y) ->
  ∃ (K':List T) (g':M.S) (v3' v4' v5' v6':Option D),jR fuel (jo (zA 3)) duW [some (.ref p),some (.ref q),some (.ref S.length),some (.bl true),v4,v5,v6] (S++.dct (K.map tk)::g)=.nx [some (.ref p),some (.ref q),some (.ref S.length),v3',v4',v5',v6'] (S++.dct (K'.map tk)::g')/\DuD nd st K':=by
 intro m
 induction m with
 | zero =>
  intro fuel K g v4 v5 v6 hm hf nk snd
  obtain⟨K',b',g',v4',v5',v6',e,I⟩:=zFj hp dr hn ok hl hq nk snd g (v3:=some (.bl true)) (v4:=v4) (v5:=v5) (v6:=v6)
  have le:=ql (N:=zR nd) I.nk fun x hx=>(I.snd x hx).1
  have e0:(zR nd).length=nd.length:=by unfold zR;simp
  cases b' with
  | true=>have:=I.go rfl;omega
  | false =>
   obtain⟨f,rfl⟩:∃ f,fuel=f+2:=⟨fuel - 2,by omega⟩
   refine⟨K',g',some (.bl false),v4',v5',v6',?_,I.nk,I.snd,fun pr h=>(I.no rfl).2 pr (by rw[List.take_length];exact h)⟩
   rw[jR]
   simp only[jo,zA,List.getElem?_cons_succ,List.getElem?_cons_zero,R.bind_ok,qk]
   show (match duW _ _ with | .nx σ s=>jR (f+1) (jo (zA 3)) duW σ s | .ct σ s=>jR (f+1) (jo (zA 3)) duW σ s | .bk σ s=>.nx σ s | r=>r)=_
   rw[e]
   dsimp only
   rw[jR]
   simp only[jo,zA,List.getElem?_cons_succ,List.getElem?_cons_zero,R.bind_ok,qk]
   rfl
 | succ m ih =>
  intro fuel K g v4 v5 v6 hm hf nk snd
  obtain⟨K',b',g',v4',v5',v6',e,I⟩:=zFj hp dr hn ok hl hq nk snd g (v3:=some (.bl true)) (v4:=v4) (v5:=v5) (v6:=v6)
  cases b' with
  | true =>
   have:=I.go rfl
   obtain⟨f,rfl⟩:∃ f,fuel=f+1:=⟨fuel - 1,by omega⟩
   obtain⟨K2,g2,v3,v42,v52,v62,e2,dd⟩:=ih f K' g' v4' v5' v6' (by omega) (by omega) I.nk I.snd
   refine⟨K2,g2,v3,v42,v52,v62,?_,dd⟩
   rw[jR]
   simp only[jo,zA,List.getElem?_cons_succ,List.getElem?_cons_zero,R.bind_ok,qk]
   show (match duW _ _ with | .nx σ s=>jR f (jo (zA 3)) duW σ s | .ct σ s=>jR f (jo (zA 3)) duW σ s | .bk σ s=>.nx σ s | r=>r)=_
   rw[e]
   exact e2
  | false =>
   obtain⟨f,rfl⟩:∃ f,fuel=f+2:=⟨fuel - 2,by omega⟩
   refine⟨K',g',some (.bl false),v4',v5',v6',?_,I.nk,I.snd,fun pr h=>(I.no rfl).2 pr (by rw[List.take_length];exact h)⟩
   rw[jR]
   simp only[jo,zA,List.getElem?_cons_succ,List.getElem?_cons_zero,R.bind_ok,qk]
   show (match duW _ _ with | .nx σ s=>jR (f+1) (jo (zA 3)) duW σ s | .ct σ s=>jR (f+1) (jo (zA 3)) duW σ s | .bk σ s=>.nx σ s | r=>r)=_
   rw[e]
   dsimp only
   rw[jR]
   simp only[jo,zA,List.getElem?_cons_succ,List.getElem?_cons_zero,R.bind_ok,qk]
   rfl
structure LnX (nd:List (T×List T)) (st X:List T):Prop where
 mem:∀ x,x∈X ↔ ∃ y∈st,Lds nd x y
 nx:X.Nodup
 so:X.Pairwise NLt
theorem zLL (hp:S[p]? = some (.dct kvs)) (dr:DR S kvs nd) (hn:(zR nd).Nodup) (ok:OkN N nd) (hl:nd.length <= 400) (hq:S[q]? = some (.lst (st.map .str))) :
  ∃ X:List T,LnX nd st X/\QC [.ref p,.ref q] S=alloc (.lst (X.map .str)) S:=by
 obtain⟨K,g,v3,v4,v5,v6,e,dd⟩:=zIe hp dr hn ok hl hq nd.length zA2 [] [] none none none (by simp) (by unfold zA2;omega) List.nodup_nil fun x h=>by cases h
 have le:=ql (N:=zR nd) dd.nk fun x hx=>(dd.snd x hx).1
 have e0:(zR nd).length=nd.length:=by unfold zR;simp
 have hcl:∀ x y,Lds nd x y->y∈st->x∈K:=fun x y h=>by
  induction h with
  | one h =>
   intro hy
   obtain⟨pr,p1,rfl,p3⟩:=(Qi hn).mp h
   exact dd.cl pr p1 ⟨_,p3,.inl hy⟩
  | step h _ ih =>
   intro hy
   obtain⟨pr,p1,rfl,p3⟩:=(Qi hn).mp h
   exact dd.cl pr p1 ⟨_,p3,.inr (ih hy)⟩
 refine⟨jb K,⟨fun x=>?_,zHA dd.nk,zAI K⟩,?_⟩
 ·rw[(Qd K).mem_iff]
  exact⟨fun h=>(dd.snd x h).2,fun ⟨y,h1,h2⟩=>hcl x y h2 h1⟩
 refine zEY (g:=.dct (K.map tk)::(g++[.lst ((jb K).map .str)])) (j:=(S++O.dct (K.map tk)::g).length) ?_ (by rw[<- List.cons_append,<- List.append_assoc];exact zq) (by simp) (zAA _ _)
 show (zK yi (zK yf (zK yk ZI)) [some (.ref p),some (.ref q),none,none,none,none,none] S).out=_
 have s12:∀ r,(zK yi (zK yf r)) [some (.ref p),some (.ref q),none,none,none,none,none] S=r [some (.ref p),some (.ref q),some (.ref S.length),some (.bl true),none,none,none] (S++[.dct []]):=fun r=>by
  simp[yi,yf]
 rw[s12]
 have e':yk [some (.ref p),some (.ref q),some (.ref S.length),some (.bl true),none,none,none] (S++[.dct []])=.nx [some (.ref p),some (.ref q),some (.ref S.length),v3,v4,v5,v6] (S++.dct (K.map tk)::g):=e
 show ((yk _ _).then _).out=_
 rw[e',RS.then_nx]
 have g7:(S++O.dct (K.map tk)::g)[S.length]? = some (.dct (K.map tk)):=zq
 simp only[ZI,jq,zH,zB,zG,zA,List.getElem?_cons_succ,List.getElem?_cons_zero,R.bind_ok,QS,g7,zCN (show K.length <= 1000 by omega),alloc,R.stm_ok,RS.out_rt]
 simp
end
theorem LnX.one {nd:List (T×List T)}{st X Y:List T} (h:LnX nd st X) (k:LnX nd st Y):X=Y:=by
 have p:X.Perm Y:=(List.perm_ext_iff_of_nodup h.nx k.nx).mpr fun x=>by rw[h.mem,k.mem]
 exact p.eq_of_pairwise (fun a b _ _ h1 h2=>by
  exact List.le_antisymm (List.not_lt.mp h1) (List.not_lt.mp h2)) h.so k.so
def ZO:SM :=
  (zK (zS 1 j2)
  (zK (yv (zA 0) (zX 2)
  (yh (iE (eOp zt (zA 0) (zA 2))) (zX 3)
  (zK (sIf (zr qQ (zA 3) (zA 1))
  (qC (zA 1) (zA 3) j2)
  je)
  (qC (eOp zt (zA 1) (zA 3)) (zA 2) (eC (.bl true))))))
  (jq (zA 1))))
def zFC:F:=fn 4 ZO
abbrev QF:F:=zFC
def qI:Nat->List T->List (D×D)
 | _,[]=>[]
 | b,y::L=>(.str y,.ref b)::qI (b+1) L
abbrev nS (b:Nat) (L:List T) (B:T->List T):M.S:=.dct (qI (b+1) L)::L.map fun y=>O.dct ((B y).map tk)
theorem zFF:∀ (L:List T) (b:Nat),(qI b L).length=L.length
 | [],_=>rfl
 | _::L,b=>by rw[qI,List.length_cons,zFF L,List.length_cons]
theorem Ql:∀ (L:List T) (b:Nat) (y:T),jm (.str y) (qI b L)=if y∈L then some (.ref (b+L.idxOf y)) else none
 | [],_,_=>rfl
 | z::L,b,y=>by
  have ih:=Ql L (b+1) y
  unfold jm at ih ⊢
  rw[qI,List.lookup_cons,List.idxOf_cons]
  by_cases h:y=z
  ·subst h;simp
  ·have h1:((D.str y) == D.str z)=false:=by simpa using h
   have h2:(z == y)=false:=by simpa using Ne.symm h
   rw[h1,ih,h2]
   by_cases hm:y∈L
   ·rw[if_pos hm,if_pos (List.mem_cons_of_mem _ hm)]
    show some (D.ref _)=some (D.ref _)
    congr 2
    simp
    omega
   ·rw[if_neg hm,if_neg (by simp[h,hm])]
theorem zDD:∀ (L:List T) (b:Nat) (y:T),qI b (L++[y])=qI b L++[(.str y,.ref (b+L.length))]
 | [],_,_=>rfl
 | z::L,b,y=>by
  rw[List.cons_append,qI,zDD L,qI,List.cons_append,List.length_cons,show b+1+L.length=b+(L.length+1) by omega]
theorem zEL:∀ (L:List T) (b:Nat) (y:T),((qI b L).any fun p=>decide (p.1=.str y))=decide (y∈L)
 | [],_,_=>rfl
 | z::L,b,y=>by
  rw[qI,List.any_cons,zEL L]
  by_cases h:z=y<;>simp[h,eq_comm]
theorem zJY {L:List T}{b:Nat}{y:T} (h:y∉L):qN (.str y) (.ref (b+L.length)) (qI b L)=qI b (L++[y]):=by
 unfold qN
 rw[zEL,if_neg (by simp[h]),zDD]
theorem zGN {β:Type}{f:T->β}{v:β}:∀ {L:List T}{y:T},L.Nodup->y∈L->(L.map f).set (L.idxOf y) v=L.map fun z=>if z=y then v else f z
 | [],_,_,h=>by cases h
 | z::L,y,hn,h=>by
  rw[List.nodup_cons] at hn
  rw[List.idxOf_cons,List.map_cons,List.map_cons]
  by_cases e:z=y
  ·subst e
   simp only[beq_self_eq_true,cond_true,List.set_cons_zero,if_true,List.cons.injEq,true_and]
   exact List.map_congr_left fun w hw=>by rw[if_neg (fun q:w=z=>hn.1 (q ▸ hw))]
  ·have h2:(z == y)=false:=by simpa using e
   have hm:y∈L:=by rcases List.mem_cons.mp h with h | h;exact absurd h.symm e;exact h
   rw[h2,cond_false,List.set_cons_succ,if_neg e,zGN hn.2 hm]
theorem zJw {S:M.S}{L:List T}{B:T->List T}{y:T} (h:y∈L) (g:M.S):(S++(nS S.length L B++g))[S.length+1+L.idxOf y]? = some (.dct ((B y).map tk)):=by
 have hi:=List.idxOf_lt_length_iff.mpr h
 rw[List.getElem?_append_right (by omega),show S.length+1+L.idxOf y - S.length=L.idxOf y+1 by omega,List.cons_append,List.getElem?_cons_succ,List.getElem?_append_left (by simpa using hi),List.getElem?_map,List.getElem?_eq_getElem hi]
 simp
theorem zLO {S:M.S}{L:List T}{B:T->List T}{y:T}{v:List T} (hn:L.Nodup) (h:y∈L):(S++nS S.length L B).set (S.length+1+L.idxOf y) (.dct (v.map tk))=S++nS S.length L (fun z=>if z=y then v else B z):=by
 rw[List.set_append_right _ _ (by omega),show S.length+1+L.idxOf y - S.length=L.idxOf y+1 by omega,List.set_cons_succ,zGN hn h]
 congr 2
 exact List.map_congr_left fun z _=>by
  show (if z=y then O.dct (v.map tk) else O.dct ((B z).map tk))=O.dct ((if z=y then v else B z).map tk)
  by_cases e:z=y
  ·rw[if_pos e,if_pos e]
  ·rw[if_neg e,if_neg e]
abbrev zA8:SM:=(zK (sIf (zr qQ (zA 3) (zA 1))
  (qC (zA 1) (zA 3) j2)
  je)
  (qC (eOp zt (zA 1) (zA 3)) (zA 2) (eC (.bl true))))
theorem zIu {S:M.S}{L:List T}{B:T->List T}{N:List T} (hN:N.length <= 400) {x y:T} (hx:x∈N) (hy:y∈N) {v0 v3:Option D} (hn:L.Nodup) (hL:∀ z∈L,z∈N) (h0:∀ z,z∉L->B z=[]) (hB:∀ z,(B z).Nodup/\∀ w∈B z,w∈N) :
  jr (zX 3) zA8 (.str y) [v0,some (.ref S.length),some (.str x),v3] (S++nS S.length L B)=.nx [v0,some (.ref S.length),some (.str x),some (.str y)] (S++nS S.length (yA y L) (fun z=>if z=y then yA x (B y) else B z)):=by
 have ll:=ql hn hL
 have lb:=ql (hB y).1 (hB y).2
 have g1:∀ (o:O) (g:M.S),(S++o::g)[S.length]? = some o:=fun o g=>zq
 have g2:∀ (o o':O) (g:M.S),(S++o::g).set S.length o'=S++o'::g:=fun o o' g=>zAM
 have z1:(qI (S.length+1) L).length < SZ:=by rw[zFF];unfold SZ;omega
 have z2:((B y).map tk).length < SZ:=by rw[List.length_map];unfold SZ;omega
 have key:∀ L',L'.Nodup->y∈L'->(qC (eOp zt (zA 1) (zA 3)) (zA 2) (eC (.bl true))) [v0,some (.ref S.length),some (.str x),some (.str y)] (S++nS S.length L' B)=.nx [v0,some (.ref S.length),some (.str x),some (.str y)] (S++nS S.length L' (fun z=>if z=y then yA x (B y) else B z)):=fun L' hn' hm=>by
  have a1:jm (.str y) (qI (S.length+1) L')=some (.ref (S.length+1+L'.idxOf y)):=by rw[Ql,if_pos hm]
  have a2:(S++nS S.length L' B)[S.length+1+L'.idxOf y]? = some (.dct ((B y).map tk)):=by
   have:=zJw (S:=S) (B:=B) hm []
   rwa [List.append_nil] at this
  have a3:=zLO (S:=S) (B:=B) (v:=yA x (B y)) hn' hm
  rw[<- zEV] at a3
  simp only[qC,eC,eOp,zA,R.stm_ok,R.bind_ok,List.getElem?_cons_succ,List.getElem?_cons_zero,zt,g1,ji,if_true,a1,yZ,a2,z2,decide_true,Bool.and_self,a3]
 by_cases hm:y∈L
 ·have e1:yA y L=L:=by unfold yA;rw[if_pos hm]
  rw[e1]
  have a1:jm (.str y) (qI (S.length+1) L)=some (.ref (S.length+1+L.idxOf y)):=by rw[Ql,if_pos hm]
  have i1:(sIf (zr qQ (zA 3) (zA 1)) (qC (zA 1) (zA 3) j2) je) [v0,some (.ref S.length),some (.str x),some (.str y)] (S++nS S.length L B)=.nx [v0,some (.ref S.length),some (.str x),some (.str y)] (S++nS S.length L B):=by
   simp[g1,ji,a1]
  show ((sIf (zr qQ (zA 3) (zA 1)) (qC (zA 1) (zA 3) j2) je) [v0,some (.ref S.length),some (.str x),some (.str y)] (S++nS S.length L B)).then _=_
  rw[i1,RS.then_nx]
  exact key L hn hm
 ·have e1:yA y L=L++[y]:=by unfold yA;rw[if_neg hm]
  rw[e1]
  have a1:jm (.str y) (qI (S.length+1) L)=none:=by rw[Ql,if_neg hm]
  have len:(S++nS S.length L B).length=S.length+1+L.length:=by simp;omega
  have i1:(sIf (zr qQ (zA 3) (zA 1)) (qC (zA 1) (zA 3) j2) je) [v0,some (.ref S.length),some (.str x),some (.str y)] (S++nS S.length L B)=.nx [v0,some (.ref S.length),some (.str x),some (.str y)] (S++nS S.length (L++[y]) B):=by
   have r1:=zJY (L:=L) (b:=S.length+1) hm
   have e2:S++nS S.length (L++[y]) B=S++.dct (qI (S.length+1) (L++[y]))::(L.map (fun y=>O.dct ((B y).map tk))++[.dct []]):=by
    show S++(_::List.map _ (L++[y]))=_
    rw[List.map_append,List.map_cons,List.map_nil,h0 y hm];rfl
   have e3:(S++nS S.length L B)++[O.dct []]=S++.dct (qI (S.length+1) L)::(L.map (fun y=>O.dct ((B y).map tk))++[.dct []]):=by simp
   rw[e2,<- r1]
   simp only[sIf,zr,qQ,zA,R.bind_ok,List.getElem?_cons_succ,List.getElem?_cons_zero,inD,g1,ji,if_true,a1,Option.isSome_none,R.stm_ok,Bool.not_false,qC,j2,alloc,len,e3,yZ,z1,decide_true,Bool.and_self,g2]
  show ((sIf (zr qQ (zA 3) (zA 1)) (qC (zA 1) (zA 3) j2) je) [v0,some (.ref S.length),some (.str x),some (.str y)] (S++nS S.length L B)).then _=_
  rw[i1,RS.then_nx]
  refine key (L++[y]) ?_ (by simp)
  rw[<- e1];exact zAG hn
structure NB (N:List T) (nd:List (T×List T)) (L:List T) (B:T->List T):Prop where
 nl:L.Nodup
 lN:∀ z∈L,z∈N
 out:∀ z,z∉L->B z=[]
 nb:∀ z,(B z).Nodup/\∀ w∈B z,w∈N
 mem:∀ z x,x∈B z ↔ ∃ q∈nd,q.1=x/\z∈q.2
theorem zD1 {S:M.S}{N:List T} (hN:N.length <= 400) {nd:List (T×List T)}{x:T} (hx:x∈N) {v0:Option D}{G:Gd} (hG:∀ g,zi G (S++g)=true):∀ (ys zs:List T) (L:List T) (B:T->List T) (v3:Option D),(∀ y∈ys,y∈N)->NB N (nd++[(x,zs)]) L B ->
  ∃ v3' L' B',qW G (jr (zX 3) zA8) (ys.map .str) [v0,some (.ref S.length),some (.str x),v3] (S++nS S.length L B)=.nx [v0,some (.ref S.length),some (.str x),v3'] (S++nS S.length L' B')/\NB N (nd++[(x,zs++ys)]) L' B'
 | [],zs,L,B,v3,_,h=>⟨v3,L,B,rfl,by rw[List.append_nil];exact h⟩
 | y::ys,zs,L,B,v3,hy,h=>by
  have hy':=hy y List.mem_cons_self
  have e:=zIu (S:=S) (v0:=v0) (v3:=v3) hN hx hy' h.nl h.lN h.out h.nb
  have h':NB N (nd++[(x,zs++[y])]) (yA y L) (fun z=>if z=y then yA x (B y) else B z):=by
   refine⟨zAG h.nl,fun z hz=>?_,fun z hz=>?_,fun z=>?_,fun z w=>?_⟩
   ·rcases Zs.mp hz with hz | hz
    ·exact h.lN z hz
    ·rw[hz];exact hy'
   ·have h1:z≠y:=fun q=>hz (Zs.mpr (.inr q))
    show (if z=y then yA x (B y) else B z)=[]
    rw[if_neg h1]
    exact h.out z fun q=>hz (Zs.mpr (.inl q))
   ·show (if z=y then yA x (B y) else B z).Nodup/\∀ w∈(if z=y then yA x (B y) else B z),w∈N
    by_cases e:z=y
    ·rw[if_pos e]
     refine⟨zAG (h.nb y).1,fun w hw=>?_⟩
     rcases Zs.mp hw with hw | hw
     ·exact (h.nb y).2 w hw
     ·rw[hw];exact hx
    ·rw[if_neg e];exact h.nb z
   ·show w∈(if z=y then yA x (B y) else B z)↔_
    have hm:=h.mem z w
    constructor
    ·intro hw
     by_cases e:z=y
     ·rw[if_pos e] at hw
      rcases Zs.mp hw with hw | hw
      ·obtain⟨q,h1,h2,h3⟩:=(h.mem y w).mp hw
       rcases List.mem_append.mp h1 with h1 | h1
       ·exact⟨q,List.mem_append_left _ h1,h2,e ▸ h3⟩
       ·have hq:=List.mem_singleton.mp h1
        subst hq
        exact⟨(x,zs++[y]),List.mem_append_right _ (by simp),h2,by rw[e];simp⟩
      ·exact⟨(x,zs++[y]),List.mem_append_right _ (by simp),hw.symm,by rw[e];simp⟩
     ·rw[if_neg e] at hw
      obtain⟨q,h1,h2,h3⟩:=hm.mp hw
      rcases List.mem_append.mp h1 with h1 | h1
      ·exact⟨q,List.mem_append_left _ h1,h2,h3⟩
      ·have hq:=List.mem_singleton.mp h1
       subst hq
       exact⟨(x,zs++[y]),List.mem_append_right _ (by simp),h2,List.mem_append_left _ h3⟩
    ·rintro ⟨q,h1,h2,h3⟩
     have old:w∈B z->w∈(if z=y then yA x (B y) else B z):=fun hw=>by
      by_cases e:z=y
      ·rw[if_pos e];exact Zs.mpr (.inl (e ▸ hw))
      ·rw[if_neg e];exact hw
     rcases List.mem_append.mp h1 with h1 | h1
     ·exact old (hm.mpr ⟨q,List.mem_append_left _ h1,h2,h3⟩)
     ·have hq:=List.mem_singleton.mp h1
      subst hq
      rcases List.mem_append.mp h3 with h3 | h3
      ·exact old (hm.mpr ⟨(x,zs),List.mem_append_right _ (by simp),h2,h3⟩)
      ·have e:=List.mem_singleton.mp h3
       rw[if_pos e]
       exact Zs.mpr (.inr h2.symm)
  obtain⟨v3',L',B',e2,h2⟩:=zD1 hN hx hG ys (zs++[y]) _ _ (some (.str y)) (fun w hw=>hy w (List.mem_cons_of_mem _ hw)) h'
  refine⟨v3',L',B',?_,by rw[List.append_assoc] at h2;exact h2⟩
  rw[List.map_cons,qW,e]
  dsimp only
  rw[if_pos (hG _),e2]
theorem NB.nil_row {N:List T}{nd:List (T×List T)}{L:List T}{B:T->List T} (x:T) (h:NB N nd L B):NB N (nd++[(x,[])]) L B :=
 ⟨h.nl,h.lN,h.out,h.nb,fun z w=>by
  rw[h.mem z w]
  constructor
  ·rintro ⟨q,h1,h2⟩;exact⟨q,List.mem_append_left _ h1,h2⟩
  ·rintro ⟨q,h1,h2,h3⟩
   rcases List.mem_append.mp h1 with h1 | h1
   ·exact⟨q,h1,h2,h3⟩
   ·rw[List.mem_singleton.mp h1] at h3;cases h3⟩
theorem zHE {S:M.S}{p:Nat}{kvs:List (D×D)}{nd:List (T×List T)}{N:List T} (hp:S[p]? = some (.dct kvs)) (dr:DR S kvs nd) (hn:(zR nd).Nodup) (ok:OkN N nd) (hN:N.length <= 400) :
  ∃ L B,QF [.ref p] S=.ok (.ref S.length) (S++nS S.length L B)/\NB N nd L B:=by
 obtain⟨S',hS⟩:∃ S',S'=S.set p (.fdc kvs):=⟨_,rfl⟩
 have hSl:S'.length=S.length:=by rw[hS,List.length_set]
 have hf:∀ (r:Nat) (xs:List D),S[r]? = some (.lst xs)->S'[r]? = some (.lst xs):=fun r xs e=>by rw[hS];exact zCa hp (fun _ z=>nomatch z) e
 have hp':∀ g,(S'++g)[p]? = some (.fdc kvs):=fun g=>zh (by rw[hS];exact zB8 hp) g
 have hkeys:kvs.map (·.1)=nd.map fun q=>.str q.1:=dr.keys
 obtain⟨σ',s',e5,⟨v2,v3,eσ⟩,L,B,es,nb⟩:=yq (g:=[]) (f:=jr (zX 2) (yh (iE (eOp zt (zA 0) (zA 2))) (zX 3) zA8))
  (fun j σ s=>(∃ v2 v3:Option D,σ=[some (.ref p),some (.ref S'.length),v2,v3])/\∃ L B,s=S'++nS S'.length L B/\NB N (nd.take j) L B)
  (nd.map fun q=>D.str q.1) 0 [some (.ref p),some (.ref S'.length),none,none] (S'++[O.dct []]) ⟨⟨none,none,rfl⟩,[],fun _=>[],rfl,List.nodup_nil,fun z h=>(by cases h),fun _ _=>rfl,fun _=>⟨List.nodup_nil,fun w h=>(by cases h)⟩,fun z x=>by simp⟩ fun j x hx σ s ⟨⟨v2,v3,eσ⟩,L,B,es,nb⟩=>by
   rw[Nat.zero_add] at nb ⊢
   subst eσ
   subst es
   rw[List.getElem?_map] at hx
   cases q:nd[j]? with
   | none=>rw[q] at hx;cases hx
   | some pr =>
    rw[q] at hx
    have hx':x=.str pr.1:=by simpa using hx.symm
    subst hx'
    have hmem:pr∈nd:=List.mem_of_getElem? q
    obtain⟨o1,o2,o3⟩:=ok pr hmem
    have lk:=Qp hn hmem
    obtain⟨r,er,e3⟩:∃ r,jm (.str pr.1) kvs=some (.ref r)/\S[r]? = some (.lst (pr.2.map .str)):=by
     rcases dr.get pr.1 with ⟨h1,_⟩ | ⟨row,r,h1,h2,h3⟩
     ·rw[lk] at h1;cases h1
     ·rw[lk] at h1;cases h1;exact⟨r,h2,h3⟩
    have g3:∀ g,(S'++g)[r]? = some (.lst (pr.2.map .str)):=fun g=>zh (hf r _ e3) _
    have hg:∀ g,zi [(r,O.lst (pr.2.map .str))] (S'++g)=true:=fun g=>by simp[zi,g3]
    obtain⟨v3',L',B',e2,nb2⟩:=zD1 (S:=S') (v0:=some (.ref p)) hN o1 hg pr.2 [] L B v3 o3 (nb.nil_row pr.1)
    refine⟨[some (.ref p),some (.ref S'.length),some (.str pr.1),v3'],S'++nS S'.length L' B',?_,rfl,⟨_,_,rfl⟩,L',B',rfl,?_⟩
    ·show (yh (iE (eOp zt (zA 0) (zA 2))) (zX 3) zA8) [some (.ref p),some (.ref S'.length),some (.str pr.1),v3] (S'++nS S'.length L B)=_
     simp only[yh,iE,eOp,zA,List.getElem?_cons_succ,List.getElem?_cons_zero,R.bind_ok,zt,hp',ji,if_true,er,itD,g3,R.stm_ok,hg]
     exact e2
    ·rw[List.take_succ,q,Option.toList_some]
     exact nb2
 rw[Nat.zero_add,List.length_map,List.take_length] at nb
 subst eσ
 subst es
 refine⟨L,B,?_,nb⟩
 have g5:(S++[O.dct []])[p]? = some (.dct kvs):=zh hp _
 have s5:(S++[O.dct []]).set p (.fdc kvs)=S'++[O.dct []]:=by rw[zAX hp,hS]
 have e6:(yv (zA 0) (zX 2) (yh (iE (eOp zt (zA 0) (zA 2))) (zX 3) zA8)) [some (.ref p),some (.ref S.length),none,none] (S++[O.dct []])=.nx [some (.ref p),some (.ref S.length),v2,v3] (S++nS S.length L B):=by
  rw[hSl] at e5
  simp only[yv,zA,List.getElem?_cons_zero,R.stm_ok,g5,s5,hkeys,e5]
  rw[hS]
  exact zBn hp _
 show ((ZO [some (.ref p),none,none,none] S).out)=_
 unfold ZO
 have e0:(zS 1 j2) [some (.ref p),none,none,none] S=.nx [some (.ref p),some (.ref S.length),none,none] (S++[.dct []]):=by simp
 show ((((zS 1 j2) _ _).then _).out)=_
 rw[e0,RS.then_nx]
 show ((((yv _ _ _) _ _).then _).out)=_
 rw[e6]
 simp
def yU:SM :=
  (zS 2 (zH QF (zB (zA 0) zG)))
def ZE:SM :=
  (zS 3 j2)
def yR:SM :=
  (zS 4 (zH yK (zB (zA 1) zG)))
def ZD:SM :=
  (zAq (zr cGt (zH qS (zB (zA 4) zG)) (eC (.int 0)))
  (zK (zS 5 (eM .list zBg (zA 4) zG))
  (yv (eM .dict zBq (zA 2) (zB (zA 5) (zB j2 zG))) (zX 6)
  (sIf (zr qQ (zA 6) (zA 3))
  (zK (qC (zA 3) (zA 6) (eC (.bl true)))
  (ZG (eM .list qm (zA 4) (zB (zA 6) zG))))
  je))))
def Zk:SM :=
  (jq (zH QS (zB (zA 3) zG)))
def zA9:SM:=(zK yU (zK ZE (zK yR (zK ZD Zk))))
def zDI:F:=fn 7 zA9
def yM:F:=chN zDI
theorem zGV:jS 2 zDI yM:=zEg _
theorem NB.need {N:List T}{nd:List (T×List T)}{L:List T}{B:T->List T} (nb:NB N nd L B) (hn:(zR nd).Nodup) (l z:T):z∈B l↔l∈nOf nd z:=by
 rw[nb.mem l z,Qi hn]
abbrev zEz:SM:=(sIf (zr qQ (zA 6) (zA 3))
  (zK (qC (zA 3) (zA 6) (eC (.bl true)))
  (ZG (eM .list qm (zA 4) (zB (zA 6) zG))))
  je)
theorem zGu {N:List T} (hN:N.length <= 400) {al at1:Nat} (hne:al≠at1) {v0 v1 v2 v5:Option D}:∀ (xs K td:List T) (s:M.S) (v6:Option D),K.Nodup->(∀ x∈K,x∈N)->(∀ x∈xs,x∈N)->s[al]? = some (.dct (K.map tk))->s[at1]? = some (.lst (td.map .str))->td.length+xs.length <= 100000 ->
  ∃ (v6':Option D) (s':M.S) (K' td':List T),qW [] (jr (zX 6) zEz) (xs.map .str) [v0,v1,v2,some (.ref al),some (.ref at1),v5,v6] s=.nx [v0,v1,v2,some (.ref al),some (.ref at1),v5,v6'] s'/\Fr2 al at1 s s'/\s'[al]? = some (.dct (K'.map tk))/\s'[at1]? = some (.lst (td'.map .str))/\K'.Nodup/\(∀ x,x∈K'↔x∈K\/x∈xs)/\(∀ x∈td,x∈td')/\(∀ x∈td',x∈td\/x∈K')/\(∀ x∈xs,x∈K\/x∈td')/\td'.length+K.length=td.length+K'.length
 | [],K,td,s,v6,kn,kN,_,h1,h2,_=>⟨v6,s,K,td,rfl,Fr2.refl _ _ _,h1,h2,kn,fun x=>by simp,fun x h=>h,fun x h=>.inl h,(fun x h=>by cases h),rfl⟩
 | x::xs,K,td,s,v6,kn,kN,hx,h1,h2,hl=>by
  have d0:=zEC (K:=K) (x:=x)
  have hxN:=hx x List.mem_cons_self
  have hxs:∀ y∈xs,y∈N:=fun y hy=>hx y (List.mem_cons_of_mem _ hy)
  simp only[List.length_cons] at hl
  by_cases c:x∈K
  ·rw[if_pos c] at d0
   have e:jr (zX 6) zEz (.str x) [v0,v1,v2,some (.ref al),some (.ref at1),v5,v6] s=.nx [v0,v1,v2,some (.ref al),some (.ref at1),v5,some (.str x)] s:=by
    simp only[jr,zX,List.set_cons_succ,List.set_cons_zero,zEz,sIf,zr,qQ,zA,List.getElem?_cons_succ,List.getElem?_cons_zero,R.bind_ok,inD,h1,ji,if_true,d0,Option.isSome_some,Bool.not_true,R.stm_ok,Bool.false_eq_true,if_false,je]
   obtain⟨v6',s',K',td',e2,f,a1,a2,a3,a4,a5,a6,a7,a8⟩:=zGu hN hne xs K td s (some (.str x)) kn kN hxs h1 h2 (by omega)
   refine⟨v6',s',K',td',?_,f,a1,a2,a3,fun y=>?_,a5,a6,fun y hy=>?_,a8⟩
   ·rw[List.map_cons,qW,e];exact e2
   ·rw[a4 y,List.mem_cons]
    constructor
    ·rintro (h | h)
     ·exact .inl h
     ·exact .inr (.inr h)
    ·rintro (h | rfl | h)
     ·exact .inl h
     ·exact .inl c
     ·exact .inr h
   ·rcases List.mem_cons.mp hy with rfl | hy
    ·exact .inl c
    ·exact a7 y hy
  ·rw[if_neg c] at d0
   have lK:=ql kn kN
   have z1:(K.map tk).length < SZ:=by rw[List.length_map];unfold SZ;omega
   have z2:(td.map D.str).length < SZ:=by rw[List.length_map];unfold SZ;omega
   obtain⟨s1,hs1⟩:∃ s1,s1=s.set al (.dct ((K++[x]).map tk)):=⟨_,rfl⟩
   obtain⟨s2,hs2⟩:∃ s2,s2=s1.set at1 (.lst ((td++[x]).map .str)):=⟨_,rfl⟩
   have b1:s1[al]? = some (.dct ((K++[x]).map tk)):=by rw[hs1];exact QT h1
   have b2:s1[at1]? = some (.lst (td.map .str)):=by rw[hs1,jD (Ne.symm hne)];exact h2
   have c1:s2[al]? = some (.dct ((K++[x]).map tk)):=by rw[hs2,jD hne];exact b1
   have c2:s2[at1]? = some (.lst ((td++[x]).map .str)):=by rw[hs2];exact QT b2
   have pt:qN (.str x) (.bl true) (K.map tk)=(K++[x]).map tk:=by rw[zEV];unfold yA;rw[if_neg c]
   have e:jr (zX 6) zEz (.str x) [v0,v1,v2,some (.ref al),some (.ref at1),v5,v6] s=.nx [v0,v1,v2,some (.ref al),some (.ref at1),v5,some (.str x)] s2:=by
    have i1:(qC (zA 3) (zA 6) (eC (.bl true))) [v0,v1,v2,some (.ref al),some (.ref at1),v5,some (.str x)] s=.nx [v0,v1,v2,some (.ref al),some (.ref at1),v5,some (.str x)] s1:=by
     simp only[qC,eC,zA,R.stm_ok,List.getElem?_cons_succ,List.getElem?_cons_zero,yZ,h1,ji,z1,decide_true,Bool.and_self,if_true,pt,hs1]
    have i2:(ZG (eM .list qm (zA 4) (zB (zA 6) zG))) [v0,v1,v2,some (.ref al),some (.ref at1),v5,some (.str x)] s1=.nx [v0,v1,v2,some (.ref al),some (.ref at1),v5,some (.str x)] s2:=by
     simp only[ZG,eM,zA,List.getElem?_cons_succ,List.getElem?_cons_zero,R.bind_ok,Zz,b2,if_true,zB,zG,qm,z2,R.stm_ok,hs2,List.map_append,List.map_cons,List.map_nil]
    have i0:(zr qQ (zA 6) (zA 3)) [v0,v1,v2,some (.ref al),some (.ref at1),v5,some (.str x)] s=.ok true s:=by
     simp only[zr,qQ,zA,List.getElem?_cons_succ,List.getElem?_cons_zero,R.bind_ok,inD,h1,ji,if_true,d0,Option.isSome_none,Bool.not_false]
    show ((zr qQ (zA 6) (zA 3)) [v0,v1,v2,some (.ref al),some (.ref at1),v5,some (.str x)] s).stm _ _=_
    rw[i0,R.stm_ok,if_pos rfl]
    show ((qC _ _ _) [v0,v1,v2,some (.ref al),some (.ref at1),v5,some (.str x)] s).then _=_
    rw[i1,RS.then_nx]
    exact i2
   have f12:Fr2 al at1 s s2:=⟨by rw[hs2,List.length_set,hs1,List.length_set],fun q n1 n2=>by rw[hs2,jD n2,hs1,jD n1]⟩
   obtain⟨v6',s',K',td',e2,f,a1,a2,a3,a4,a5,a6,a7,a8⟩:=zGu hN hne xs (K++[x]) (td++[x]) s2 (some (.str x)) (by
    rw[List.nodup_append]
    exact⟨kn,by simp,fun a ha b hb z=>by simp at hb;subst hb;subst z;exact c ha⟩) (fun y hy=>by
    rcases List.mem_append.mp hy with hy | hy
    ·exact kN y hy
    ·rw[List.mem_singleton.mp hy];exact hxN) hxs c1 c2 (by rw[List.length_append];simp;omega)
   refine⟨v6',s',K',td',?_,f12.trans f,a1,a2,a3,fun y=>?_,fun y hy=>a5 y (List.mem_append_left _ hy),fun y hy=>?_,fun y hy=>?_,?_⟩
   ·rw[List.map_cons,qW,e];exact e2
   ·rw[a4 y,List.mem_append,List.mem_singleton,List.mem_cons,or_assoc]
   ·rcases a6 y hy with h | h
    ·rcases List.mem_append.mp h with h | h
     ·exact .inl h
     ·rw[List.mem_singleton.mp h];exact .inr ((a4 x).mpr (.inl (by simp)))
    ·exact .inr h
   ·rcases List.mem_cons.mp hy with rfl | hy
    ·exact .inr (a5 _ (by simp))
    ·rcases a7 y hy with h | h
     ·rcases List.mem_append.mp h with h | h
      ·exact .inl h
      ·rw[List.mem_singleton.mp h];exact .inr (a5 _ (by simp))
     ·exact .inr h
   ·rw[List.length_append,List.length_append] at a8
    simp only[List.length_cons,List.length_nil] at a8
    omega
abbrev zAx:SM:=(zK (zS 5 (eM .list zBg (zA 4) zG))
  (yv (eM .dict zBq (zA 2) (zB (zA 5) (zB j2 zG))) (zX 6) zEz))
abbrev QL:TM:=zr cGt (zH qS (zB (zA 4) zG)) (eC (.int 0))
structure LnI (S1:M.S) (st N:List T) (nd:List (T×List T)) (B:T->List T) (K td:List T) (s:M.S):Prop where
 pre:zj S1 s
 k:s[S1.length]? = some (.dct (K.map tk))
 t:s[S1.length+1]? = some (.lst (td.map .str))
 kn:K.Nodup
 kN:∀ x∈K,x∈N
 snd:∀ x∈K,∃ y∈st,Lds nd x y
 tds:∀ z∈td,z∈st\/z∈K
 cmp:∀ z,z∈st\/z∈K->z∈td\/∀ x∈B z,x∈K
section
variable {S:M.S}{L N st:List T}{B:T->List T}{nd:List (T×List T)}
theorem zKV (nb:NB N nd L B) (hn:(zR nd).Nodup) (hN:N.length <= 400) {K td:List T}{z:T}{s:M.S} (h:LnI (S++nS S.length L B) st N nd B K (td++[z]) s) (hl:td.length <= 50000) {v0 v1 v5 v6:Option D} :
  ∃ (v5' v6':Option D) (K' td':List T) (s':M.S),zAx [v0,v1,some (.ref S.length),some (.ref (S++nS S.length L B).length),some (.ref ((S++nS S.length L B).length+1)),v5,v6] s=.nx [v0,v1,some (.ref S.length),some (.ref (S++nS S.length L B).length),some (.ref ((S++nS S.length L B).length+1)),v5',v6'] s'/\LnI (S++nS S.length L B) st N nd B K' td' s'/\td'.length+K.length=td.length+K'.length/\K.length <= K'.length:=by
 generalize hS1:S++nS S.length L B=S1 at *
 have lS1:S.length < S1.length:=by rw[<- hS1];simp
 have hal:=(List.getElem?_eq_some_iff.mp h.k).1
 have hat:=(List.getElem?_eq_some_iff.mp h.t).1
 obtain⟨s1,hs1⟩:∃ s1,s1=s.set (S1.length+1) (.lst (td.map .str)):=⟨_,rfl⟩
 have l1:s1.length=s.length:=by rw[hs1,List.length_set]
 have t1:s1[S1.length+1]? = some (.lst (td.map .str)):=by rw[hs1];exact QT h.t
 have q1:∀ q,q≠S1.length+1->s1[q]? = s[q]? := fun q hq=>by rw[hs1];exact jD hq
 have e1:(zS 5 (eM .list zBg (zA 4) zG)) [v0,v1,some (.ref S.length),some (.ref S1.length),some (.ref (S1.length+1)),v5,v6] s=.nx [v0,v1,some (.ref S.length),some (.ref S1.length),some (.ref (S1.length+1)),some (.str z),v6] s1:=by
  have g1:((td++[z]).map D.str).getLast? = some (.str z):=by rw[List.map_append];simp
  have g2:((td++[z]).map D.str).dropLast=td.map .str:=by rw[List.map_append];simp
  simp only[zS,eM,zA,List.getElem?_cons_succ,List.getElem?_cons_zero,R.bind_ok,Zz,h.t,if_true,zG,zBg,g1,g2,R.stm_ok,List.set_cons_succ,List.set_cons_zero,hs1]
 obtain⟨s2,hs2⟩:∃ s2,s2=s1++[O.dct []]:=⟨_,rfl⟩
 have l2:s2.length=s.length+1:=by rw[hs2];simp[l1]
 have q2:∀ (q:Nat),q < s.length->s2[q]? = s1[q]? := fun q hq=>by rw[hs2];exact List.getElem?_append_left (by omega)
 have lo:∀ q,q < S1.length->s2[q]? = S1[q]? := fun q hq=>by
  rw[q2 q (Nat.lt_of_lt_of_le hq h.pre.le),q1 q (by omega),h.pre.eq q hq]
 have an:s2[S.length]? = some (.dct (qI (S.length+1) L)):=by rw[lo _ lS1,<- hS1];exact zq
 obtain⟨r0,hg,hr0,na,nt⟩:∃ r0,(jm (.str z) (qI (S.length+1) L)).getD (.ref s1.length)=.ref r0/\s2[r0]? = some (.dct ((B z).map tk))/\r0≠S1.length/\r0≠S1.length+1:=by
  by_cases hL:z∈L
  ·have hi:=List.idxOf_lt_length_iff.mpr hL
   have hlt:S.length+1+L.idxOf z < S1.length:=by rw[<- hS1];simp;omega
   refine⟨S.length+1+L.idxOf z,by rw[Ql,if_pos hL];rfl,?_,by omega,by omega⟩
   rw[lo _ hlt,<- hS1]
   have:=zJw (S:=S) (B:=B) hL []
   rwa [List.append_nil] at this
  ·refine⟨s1.length,by rw[Ql,if_neg hL];rfl,?_,by omega,by omega⟩
   rw[hs2,nb.out z hL]
   exact zq
 obtain⟨s3,hs3⟩:∃ s3,s3=s2.set r0 (.fdc ((B z).map tk)):=⟨_,rfl⟩
 have k3:s3[S1.length]? = some (.dct (K.map tk)):=by rw[hs3,jD (Ne.symm na),q2 _ hal,q1 _ (by omega)];exact h.k
 have t3:s3[S1.length+1]? = some (.lst (td.map .str)):=by rw[hs3,jD (Ne.symm nt),q2 _ hat];exact t1
 have lB:=ql (nb.nb z).1 (nb.nb z).2
 obtain⟨v6',s4,K',td',e4,f4,k4,t4,kn4,km4,a5,a6,a7,a8⟩:=zGu hN (show S1.length≠S1.length+1 by omega) (v0:=v0) (v1:=v1) (v2:=some (.ref S.length)) (v5:=some (.str z)) (B z) K td s3 v6 h.kn h.kN (nb.nb z).2 k3 t3 (by omega)
 have r4:s4[r0]? = some (.fdc ((B z).map tk)):=by rw[f4.eq r0 na nt,hs3];exact QT hr0
 obtain⟨s5,hs5⟩:∃ s5,s5=s4.set r0 (.dct ((B z).map tk)):=⟨_,rfl⟩
 have q5:∀ q,q≠S1.length->q≠S1.length+1->s5[q]? = s2[q]? := fun q h1 h2=>by
  by_cases e:q=r0
  ·rw[e,hs5,QT r4,hr0]
  ·rw[hs5,jD e,f4.eq q h1 h2,hs3,jD e]
 have l5:s5.length=s.length+1:=by rw[hs5,List.length_set,f4.len,hs3,List.length_set,l2]
 refine⟨some (.str z),v6',K',td',s5,?_,⟨⟨by have:=h.pre.le;omega,fun q hq=>by rw[q5 q (by omega) (by omega),lo q hq]⟩,by rw[hs5,jD (Ne.symm na)];exact k4,by rw[hs5,jD (Ne.symm nt)];exact t4,kn4,fun x hx=>?_,fun x hx=>?_,fun x hx=>?_,fun w hw=>?_⟩,a8,ql h.kn fun x hx=>(km4 x).mpr (.inl hx)⟩
 ·show ((zS 5 (eM .list zBg (zA 4) zG)) [v0,v1,some (.ref S.length),some (.ref S1.length),some (.ref (S1.length+1)),v5,v6] s).then _=_
  rw[e1,RS.then_nx]
  have o1:s1[S.length]? = some (.dct (qI (S.length+1) L)):=by
   have:=an
   rwa [q2 _ (by have:=h.pre.le;omega)] at this
  simp only[yv,eM,zA,List.getElem?_cons_succ,List.getElem?_cons_zero,R.bind_ok,Zz,o1,if_true,zB,zG,j2,alloc,<- hs2,zBq,an,ji,R.stm_ok,hg,hr0,<- hs3,zK5,e4,thaw,r4,<- hs5]
 ·rcases (km4 x).mp hx with hx | hx
  ·exact h.kN x hx
  ·exact (nb.nb z).2 x hx
 ·rcases (km4 x).mp hx with hx | hx
  ·exact h.snd x hx
  ·have hz:=(nb.need hn z x).mp hx
   rcases h.tds z (by simp) with h1 | h1
   ·exact⟨z,h1,.one hz⟩
   ·obtain⟨y,h2,h3⟩:=h.snd z h1
    exact⟨y,h2,.step hz h3⟩
 ·rcases a6 x hx with hx | hx
  ·rcases h.tds x (List.mem_append_left _ hx) with h1 | h1
   ·exact .inl h1
   ·exact .inr ((km4 x).mpr (.inl h1))
  ·exact .inr hx
 ·by_cases e:w=z
  ·subst e
   exact .inr fun x hx=>(km4 x).mpr (.inr hx)
  ·have old:w∈st\/w∈K->w∈td'\/∀ x∈B w,x∈K':=fun q=>by
    rcases h.cmp w q with h1 | h1
    ·rcases List.mem_append.mp h1 with h1 | h1
     ·exact .inl (a5 w h1)
     ·exact absurd (List.mem_singleton.mp h1) e
    ·exact .inr fun x hx=>(km4 x).mpr (.inl (h1 x hx))
   rcases hw with hw | hw
   ·exact old (.inl hw)
   ·rcases (km4 w).mp hw with hw | hw
    ·exact old (.inr hw)
    ·rcases a7 w hw with h1 | h1
     ·exact old (.inr h1)
     ·exact .inl h1
theorem zI3 (nb:NB N nd L B) (hn:(zR nd).Nodup) (hN:N.length <= 400) {v0 v1:Option D}:∀ (m fuel:Nat) (K td:List T) (s:M.S) (v5 v6:Option D),2 * (N.length - K.length)+td.length <= m->m < fuel->m <= 50000->LnI (S++nS S.length L B) st N nd B K td s ->
  ∃ (v5' v6':Option D) (K':List T) (s':M.S),jR fuel QL zAx [v0,v1,some (.ref S.length),some (.ref (S++nS S.length L B).length),some (.ref ((S++nS S.length L B).length+1)),v5,v6] s=.nx [v0,v1,some (.ref S.length),some (.ref (S++nS S.length L B).length),some (.ref ((S++nS S.length L B).length+1)),v5',v6'] s'/\LnI (S++nS S.length L B) st N nd B K' [] s':=by
 intro m
 induction m with
 | zero =>
  intro fuel K td s v5 v6 hm hf _ h
  cases fuel with
  | zero=>omega
  | succ fuel =>
   have e0:td=[]:=List.eq_nil_of_length_eq_zero (by omega)
   subst e0
   have c:QL [v0,v1,some (.ref S.length),some (.ref (S++nS S.length L B).length),some (.ref ((S++nS S.length L B).length+1)),v5,v6] s=.ok false s:=by
    simp only[QL,zr,zH,zB,zG,zA,List.getElem?_cons_succ,List.getElem?_cons_zero,R.bind_ok,qS,h.t,eC,cGt,List.map_nil,List.length_nil]
    rfl
   exact⟨v5,v6,K,s,by rw[jR,c];rfl,h⟩
 | succ m ih =>
  intro fuel K td s v5 v6 hm hf hb h
  cases fuel with
  | zero=>omega
  | succ fuel =>
   rcases List.eq_nil_or_concat td with e0 | ⟨td0,z,e0⟩
   ·subst e0
    have c:QL [v0,v1,some (.ref S.length),some (.ref (S++nS S.length L B).length),some (.ref ((S++nS S.length L B).length+1)),v5,v6] s=.ok false s:=by
     simp only[QL,zr,zH,zB,zG,zA,List.getElem?_cons_succ,List.getElem?_cons_zero,R.bind_ok,qS,h.t,eC,cGt,List.map_nil,List.length_nil]
     rfl
    exact⟨v5,v6,K,s,by rw[jR,c];rfl,h⟩
   ·rw[List.concat_eq_append] at e0
    subst e0
    have hp:(0:Int) < (((td0++[z]).map D.str).length:Nat):=by rw[List.length_map,List.length_append];simp
    have c:QL [v0,v1,some (.ref S.length),some (.ref (S++nS S.length L B).length),some (.ref ((S++nS S.length L B).length+1)),v5,v6] s=.ok true s:=by
     simp only[QL,zr,zH,zB,zG,zA,List.getElem?_cons_succ,List.getElem?_cons_zero,R.bind_ok,qS,h.t,eC,cGt,hp,decide_true]
    rw[List.length_append] at hm
    simp only[List.length_cons,List.length_nil] at hm
    obtain⟨v5',v6',K',td',s',e1,h',hc,hcK⟩:=zKV nb hn hN h (by omega) (v0:=v0) (v1:=v1) (v5:=v5) (v6:=v6)
    have lK:=ql h.kn h.kN
    have lK':=ql h'.kn h'.kN
    obtain⟨v5'',v6'',K'',s'',e2,h''⟩:=ih fuel K' td' s' v5' v6' (by omega) (by omega) (by omega) h'
    refine⟨v5'',v6'',K'',s'',?_,h''⟩
    rw[jR,c]
    show (match zAx _ s with | .nx σ s=>jR fuel QL zAx σ s | .ct σ s=>jR fuel QL zAx σ s | .bk σ s=>.nx σ s | r=>r)=_
    rw[e1]
    exact e2
end
theorem zAS {S:M.S}{p q:Nat}{kvs:List (D×D)}{nd:List (T×List T)}{N st:List T} (hp:S[p]? = some (.dct kvs)) (dr:DR S kvs nd) (hn:(zR nd).Nodup) (ok:OkN N nd) (hN:N.length <= 400) (hq:S[q]? = some (.lst (st.map .str))) (hst:st.length <= 1000) :
  ∃ X:List T,LnX nd st X/\X.length <= 400/\yM [.ref p,.ref q] S=alloc (.lst (X.map .str)) S:=by
 obtain⟨L,B,e1,nb⟩:=zHE hp dr hn ok hN
 obtain⟨S1,hS1⟩:∃ S1,S1=S++nS S.length L B:=⟨_,rfl⟩
 have lS1:S.length < S1.length:=by rw[hS1];simp
 have hq1:S1[q]? = some (.lst (st.map .str)):=by rw[hS1];exact zh hq _
 have I0:LnI (S++nS S.length L B) st N nd B [] st (S1++[O.dct [],.lst (st.map .str)]):=by
  rw[<- hS1]
  refine⟨zj.of _ _,zq,?_,List.nodup_nil,(fun x h=>by cases h),(fun x h=>by cases h),fun z h=>.inl h,fun z h=>?_⟩
  ·rw[List.getElem?_append_right (by omega),show S1.length+1 - S1.length=1 by omega];rfl
  ·rcases h with h | h
   ·exact .inl h
   ·cases h
 obtain⟨v5,v6,K,s',e4,I⟩:=zI3 nb hn hN (v0:=some (.ref p)) (v1:=some (.ref q)) (2 * N.length+st.length) zA2 [] st _ none none (by simp) (by unfold zA2;omega) (by omega) I0
 rw[<- hS1] at e1 e4
 have lK:=ql I.kn I.kN
 have hcl:∀ x y,Lds nd x y->y∈st->x∈K:=fun x y h=>by
  induction h with
  | one h =>
   intro hy
   rcases I.cmp _ (.inl hy) with h1 | h1
   ·cases h1
   ·exact h1 _ ((nb.need hn _ _).mpr h)
  | step h _ ih =>
   intro hy
   rcases I.cmp _ (.inr (ih hy)) with h1 | h1
   ·cases h1
   ·exact h1 _ ((nb.need hn _ _).mpr h)
 refine⟨jb K,⟨fun x=>?_,zHA I.kn,zAI K⟩,by rw[(Qd K).length_eq];omega,?_⟩
 ·rw[(Qd K).mem_iff]
  constructor
  ·exact I.snd x
  ·rintro ⟨y,h1,h2⟩;exact hcl x y h2 h1
 obtain⟨g,hg⟩:=I.pre.app
 have eg:s'=S++(nS S.length L B++g):=by rw[hg,List.append_assoc]
 have hk:=I.k
 rw[<- hS1] at hk
 refine zEY (g:=nS S.length L B++g++[.lst ((jb K).map .str)]) (j:=s'.length) ?_ (by rw[<- List.append_assoc,<- eg];exact zq) (by rw[eg];simp) (zAA _ _)
 have s1:yU [some (.ref p),some (.ref q),none,none,none,none,none] S=.nx [some (.ref p),some (.ref q),some (.ref S.length),none,none,none,none] S1:=by
  simp only[yU,zS,zH,zB,zG,zA,List.getElem?_cons_zero,R.bind_ok,e1,R.stm_ok,List.set_cons_succ,List.set_cons_zero]
 have s2:ZE [some (.ref p),some (.ref q),some (.ref S.length),none,none,none,none] S1=.nx [some (.ref p),some (.ref q),some (.ref S.length),some (.ref S1.length),none,none,none] (S1++[.dct []]):=rfl
 have s3:yR [some (.ref p),some (.ref q),some (.ref S.length),some (.ref S1.length),none,none,none] (S1++[.dct []])=.nx [some (.ref p),some (.ref q),some (.ref S.length),some (.ref S1.length),some (.ref (S1.length+1)),none,none] (S1++[O.dct [],.lst (st.map .str)]):=by
  simp only[yR,zS,zH,zB,zG,zA,List.getElem?_cons_succ,List.getElem?_cons_zero,R.bind_ok,yK,zh hq1 [O.dct []],alloc,R.stm_ok,List.set_cons_succ,List.set_cons_zero,List.length_append,List.length_cons,List.length_nil,Nat.zero_add,List.append_assoc,List.cons_append,List.nil_append]
 show (zK yU (zK ZE (zK yR (zK ZD Zk))) [some (.ref p),some (.ref q),none,none,none,none,none] S).out=_
 show ((yU _ _).then _).out=_
 rw[s1,RS.then_nx]
 show ((ZE _ _).then _).out=_
 rw[s2,RS.then_nx]
 show ((yR _ _).then _).out=_
 rw[s3,RS.then_nx]
 have e4':ZD [some (.ref p),some (.ref q),some (.ref S.length),some (.ref S1.length),some (.ref (S1.length+1)),none,none] (S1++[O.dct [],.lst (st.map .str)])=.nx [some (.ref p),some (.ref q),some (.ref S.length),some (.ref S1.length),some (.ref (S1.length+1)),v5,v6] s':=e4
 show ((ZD _ _).then _).out=_
 rw[e4',RS.then_nx]
 simp only[Zk,jq,zH,zB,zG,zA,List.getElem?_cons_succ,List.getElem?_cons_zero,R.bind_ok,QS,hk,zCN (show K.length <= 1000 by omega),alloc,R.stm_ok,RS.out_rt]
 rw[eg]
 simp
def y7:SM :=
  (jq (zA0 (QA cEq (zH yK (zB (zA 0) zG)) (zH yK (zB (zA 1) zG))) (QA cEq (zA 0) (zA 1))))
def zAj:F:=fn 2 y7
def y0:F:=chS zAj
theorem zC4:jS 2 zAj y0:=zHS _
theorem zHi {s:M.S}{h n:Nat}{kvs hk:List (D×D)}{nd:List (T×List T)} (hh:s[h]? = some (.dct hk)) (h5:s[n]? = some (.dct kvs)) (drh:DR s hk nd) (dr:DR s kvs nd) (hn:(zR nd).Nodup):y0 [.ref h,.ref n] s=.ok (.bl true) s:=by
 have kk1:=dr.keysT
 have kk2:=drh.keysT
 have q3:eqD (.ref s.length) (.ref (s.length+1)) (s++[O.lst ((zR nd).map D.str),.lst ((zR nd).map D.str)])=.ok true (s++[O.lst ((zR nd).map D.str),.lst ((zR nd).map D.str)]):=by
  rw[Qw (ts:=zR nd) (us:=zR nd) (by simp) (by simp)];simp
 have l1:yK [.ref h] s=.ok (.ref s.length) (s++[O.lst ((zR nd).map D.str)]):=by
  simp only[yK,hh,kk2,alloc]
 have l2:yK [.ref n] (s++[O.lst ((zR nd).map D.str)])=.ok (.ref (s.length+1)) (s++[O.lst ((zR nd).map D.str),.lst ((zR nd).map D.str)]):=by
  simp only[yK,zh h5 _,kk1,alloc]
  simp
 have q2:=zMh (zh hh [O.lst ((zR nd).map D.str),.lst ((zR nd).map D.str)]) (zh h5 [O.lst ((zR nd).map D.str),.lst ((zR nd).map D.str)]) (drh.mono (qp.app _ _)) (dr.mono (qp.app _ _)) hn
 refine zHX (g:=[O.lst ((zR nd).map D.str),.lst ((zR nd).map D.str)]) ?_ rfl
 show ((y7 [some (.ref h),some (.ref n)] s).out)=_
 simp only[y7,jq,zA0,QA,zA,zH,zB,zG,List.getElem?_cons_succ,List.getElem?_cons_zero,R.bind_ok,l1,l2,cEq,q3,asB,if_true,q2,R.stm_ok,RS.out_rt]
def qZ:SM :=
  (zS 4 (zH QC (zB (zA 0) (zB (zA 2) zG))))
def qR:SM :=
  (zS 5 (zH yK (zB (zA 2) zG)))
def qy:SM :=
  (yh (jP (eC (.int 2))) (zX 6)
  (zK (zS 7 (zH yM (zB (zA 1) (zB (zA 5) zG))))
  (zK (sIf (tOr (ZK (jo (zH Qy (zB (zA 7) (zB (eC (.ty .list)) zG))))) (zr cNe (zA 7) (zA 4)))
  (jq (eC (.bl false)))
  je)
  (zK (sIf (jo (qt 1 (iE (zA 7)) (zX 8) (ZK (jo (zH Qy (zB (zA 8) (zB (eC (.ty .str)) zG))))) (zA 8)))
  (jq (eC (.bl false)))
  je)
  (sIf (zr cEq (zA 6) (eC (.int 0)))
  (ZG (eM .list qm (zA 3) (zB (zD5 (zB (zA 7) (zB (zH yK (zB (zA 7) zG)) zG))) zG)))
  (ZG (eM .list qm (zA 7) (zB (eC (.str [97])) zG))))))))
def yl:SM :=
  (jq (zA0 (QA cEq (zA 5) (zA 2)) (zH y0 (zB (zA 1) (zB (zA 0) zG)))))
def JM:SM:=(zK qZ (zK qR (zK qy yl)))
def zEX:F:=fn 8 JM
abbrev yn:F:=zEX
abbrev msk (e:Nat) (s:M.S):M.S:=s.set e (.dct [])
theorem zAL (e:Nat) (s:M.S):qp (msk e s) s:=fun r xs h=>by
 by_cases q:r=e
 ·subst q
  by_cases hr:r < s.length
  ·rw[List.getElem?_set_self hr] at h;cases h
  ·rw[List.getElem?_eq_none (by rw[List.length_set];omega)] at h;cases h
 ·rwa [jD q] at h
abbrev Gro (e:Nat) (s s':M.S):Prop:=zj (msk e s) (msk e s')
theorem Gro.app {e:Nat}{s:M.S} (h:e < s.length) (g:M.S):Gro e s (s++g):=by
 show zj (s.set e _) ((s++g).set e _)
 rw[List.set_append_left _ _ h]
 exact zj.of _ _
theorem Gro.set {e:Nat} (s:M.S) (o:O):Gro e s (s.set e o):=by
 show zj (s.set e _) ((s.set e o).set e _)
 rw[List.set_set]
 exact zj.refl _
theorem Gro.get {e:Nat}{s s':M.S} (h:Gro e s s') {q:Nat}{o:O} (hq:q≠e) (g:s[q]? = some o):s'[q]? = some o:=by
 have:=zj.get h (q:=q) (o:=o) (by rw[jD hq];exact g)
 rwa [jD hq] at this
theorem Gro.put {e:Nat}{s s':M.S} (h:Gro e s s') {q:Nat} (hq:s.length <= q) (he:q≠e) (o:O):Gro e s (s'.set q o):=by
 show zj (s.set e _) ((s'.set q o).set e _)
 rw[List.set_comm _ _ he]
 exact zj.set h (by rw[List.length_set];exact hq) o
abbrev zB6 (r:SM):SM:=(zK (sIf (tOr (ZK (jo (zH Qy (zB (zA 7) (zB (eC (.ty .list)) zG))))) (zr cNe (zA 7) (zA 4)))
  (jq (eC (.bl false)))
  je)
  (zK (sIf (jo (qt 1 (iE (zA 7)) (zX 8) (ZK (jo (zH Qy (zB (zA 8) (zB (eC (.ty .str)) zG))))) (zA 8)))
  (jq (eC (.bl false)))
  je) r))
theorem zH4 {s:M.S}{a d:Nat}{X:List T} (hX:X.length <= 400) (ga:s[a]? = some (.lst (X.map .str))) (gd:s[d]? = some (.lst (X.map .str))) {v0 v1 v2 v3 v5 v6:Option D} (r:SM) :
  zB6 r [v0,v1,v2,v3,some (.ref d),v5,v6,some (.ref a)] s=r [v0,v1,v2,v3,some (.ref d),v5,v6,some (.ref a)] (s++[.lst []]):=by
 have e1:eqD (.ref a) (.ref d) s=.ok true s:=by rw[Qw ga gd];simp
 have hG:zi [(a,O.lst (X.map .str))] s=true:=by simp only[zi,List.all_cons,List.all_nil,ga,decide_true,Bool.and_self]
 have ec:yO 1 (iE (zA 7)) (zX 8) (ZK (jo (zH Qy (zB (zA 8) (zB (eC (.ty .str)) zG))))) (zA 8) [v0,v1,v2,v3,some (.ref d),v5,v6,some (.ref a)] s=.ok ((X.filter fun _=>false).map .str) s:=by
  refine zCE (n:=1) (g:=[(a,.lst (X.map .str))]) _ (by
   simp only[iE,zA,List.getElem?_cons_succ,List.getElem?_cons_zero,R.bind_ok,itD,ga]) (by unfold SZ;omega) hG fun y hy=>?_
  simp
 have ef:X.filter (fun _=>false)=[]:=by simp
 rw[ef] at ec
 have gl:(s++[O.lst []])[s.length]? = some (.lst []):=zq
 simp only[zB6,zK,sIf,tOr,ZK,jo,zH,zB,zG,zA,eC,List.getElem?_cons_succ,List.getElem?_cons_zero,R.bind_ok,Qy,Zg,ga,qk,Bool.not_true,Bool.false_eq_true,if_false,zr,cNe,e1,R.stm_ok,je,RS.then_nx,qt,ec,List.map_nil,alloc,gl,List.isEmpty_nil]
abbrev zEn:SM:=(zK (zS 7 (zH yM (zB (zA 1) (zB (zA 5) zG)))) (zB6 (sIf (zr cEq (zA 6) (eC (.int 0)))
  (ZG (eM .list qm (zA 3) (zB (zD5 (zB (zA 7) (zB (zH yK (zB (zA 7) zG)) zG))) zG)))
  (ZG (eM .list qm (zA 7) (zB (eC (.str [97])) zG))))))
theorem zEQ {s:M.S}{n h q e:Nat}{kvs hk:List (D×D)}{nd:List (T×List T)}{N st:List T}{hs:List D} (gn:s[n]? = some (.dct kvs)) (drn:DR (msk e s) kvs nd) (gh:s[h]? = some (.dct hk)) (drh:DR (msk e s) hk nd) (hn:(zR nd).Nodup) (ok:OkN N nd) (hN:N.length <= 400) (hl:nd.length <= 400) (gq:s[q]? = some (.lst (st.map .str))) (hst:st.length <= 1000) (hqe:q≠e) (ge:s[e]? = some (.lst hs)) (hhs:hs.length <= 1000) :
  ∃ (X:List T) (a b:Nat) (s':M.S),yn [.ref n,.ref h,.ref q,.ref e] s=.ok (.bl true) s'/\Gro e s s'/\s'[e]? = some (.lst (hs++[.tup [.ref a,.ref b]]))/\s'[a]? = some (.lst (X.map .str))/\s'[b]? = some (.lst (X.map .str))/\e≠a/\e≠b/\X.length <= 400:=by
 have hne:n≠e:=fun z=>by subst z;rw[ge] at gn;cases gn
 have hhe:h≠e:=fun z=>by subst z;rw[ge] at gh;cases gh
 have le:e < s.length:=(List.getElem?_eq_some_iff.mp ge).1
 obtain⟨X,hX,e1⟩:=zLL gn (drn.mono (zAL e s)) hn ok hl gq
 obtain⟨s1,hs1⟩:∃ s1,s1=s++[O.lst (X.map .str)]:=⟨_,rfl⟩
 have l1:s1.length=s.length+1:=by rw[hs1];simp
 have G1:Gro e s s1:=by rw[hs1];exact Gro.app le _
 have gX1:s1[s.length]? = some (.lst (X.map .str)):=by rw[hs1];exact zq
 obtain⟨s2,hs2⟩:∃ s2,s2=s1++[O.lst (st.map .str)]:=⟨_,rfl⟩
 have l2:s2.length=s.length+2:=by rw[hs2,List.length_append,l1];rfl
 have G2:Gro e s s2:=zj.trans G1 (by rw[hs2];exact Gro.app (by omega) _)
 have gX2:s2[s.length]? = some (.lst (X.map .str)):=by rw[hs2];exact zh gX1 _
 have ga2:s2[s.length+1]? = some (.lst (st.map .str)):=by rw[hs2,<- l1];exact zq
 have dk:∀ {s':M.S},Gro e s s'->DR s' hk nd:=fun {s'} g=>(drh.mono (zj.keep g)).mono (zAL e s')
 obtain⟨X3,hX3,x3,e3⟩:=zAS (G2.get hhe gh) (dk G2) hn ok hN ga2 hst
 have ex3:=hX3.one hX
 subst ex3
 obtain⟨s3,hs3⟩:∃ s3,s3=s2++[O.lst (X3.map .str)]:=⟨_,rfl⟩
 have l3:s3.length=s.length+3:=by rw[hs3,List.length_append,l2];rfl
 have gX3:s3[s.length]? = some (.lst (X3.map .str)):=by rw[hs3];exact zh gX2 _
 have gf3:s3[s2.length]? = some (.lst (X3.map .str)):=by rw[hs3];exact zq
 have c3:=fun v0 v1 v2 v3 v5 v6 r=>zH4 x3 gf3 gX3 (v0:=v0) (v1:=v1) (v2:=v2) (v3:=v3) (v5:=v5) (v6:=v6) r
 obtain⟨s5,hs5⟩:∃ s5,s5=s3++[O.lst []]++[O.lst (X3.map .str)]:=⟨_,rfl⟩
 have p5:zj s3 s5:=by rw[hs5,List.append_assoc];exact zj.of _ _
 have l5:s5.length=s.length+5:=by rw[hs5,List.length_append,List.length_append,l3];rfl
 have G5:Gro e s s5:=zj.trans G2 (by rw[hs5,hs3];simp only[List.append_assoc];exact Gro.app (by omega) _)
 have ge5:s5[e]? = some (.lst hs):=by rw[hs5,hs3,hs2,hs1];simp only[List.append_assoc];exact zh ge _
 have gb5:s5[s.length+4]? = some (.lst (X3.map .str)):=by
  have h0:(s3++[O.lst []]).length=s.length+4:=by rw[List.length_append,l3];rfl
  rw[hs5,<- h0];exact zq
 obtain⟨s6,hs6⟩:∃ s6,s6=s5.set e (.lst (hs++[.tup [.ref (s.length+2),.ref (s.length+4)]])):=⟨_,rfl⟩
 have l6:s6.length=s.length+5:=by rw[hs6,List.length_set,l5]
 have G56:Gro e s5 s6:=by rw[hs6];exact Gro.set _ _
 have G6:Gro e s s6:=zj.trans G5 G56
 have ge6:s6[e]? = some (.lst (hs++[.tup [.ref (s.length+2),.ref (s.length+4)]])):=by rw[hs6];exact QT ge5
 have ga6:s6[s.length+1]? = some (.lst (st.map .str)):=G56.get (by omega) (by rw[<- l1] at ga2 ⊢;exact p5.get (by rw[hs3];exact zh ga2 _))
 have gX6:s6[s.length]? = some (.lst (X3.map .str)):=G56.get (by omega) (p5.get gX3)
 have gf6:s6[s.length+2]? = some (.lst (X3.map .str)):=G56.get (by omega) (by rw[<- l2];exact p5.get gf3)
 have gb6:s6[s.length+4]? = some (.lst (X3.map .str)):=G56.get (by omega) gb5
 obtain⟨X7,hX7,x7,e7⟩:=zAS (G6.get hhe gh) (dk G6) hn ok hN ga6 hst
 have ex7:=hX7.one hX3
 subst ex7
 obtain⟨s7,hs7⟩:∃ s7,s7=s6++[O.lst (X7.map .str)]:=⟨_,rfl⟩
 have l7:s7.length=s.length+6:=by rw[hs7,List.length_append,l6];rfl
 have gX7:s7[s.length]? = some (.lst (X7.map .str)):=by rw[hs7];exact zh gX6 _
 have gf7:s7[s6.length]? = some (.lst (X7.map .str)):=by rw[hs7];exact zq
 have c7:=fun v0 v1 v2 v3 v5 v6 r=>zH4 x7 gf7 gX7 (v0:=v0) (v1:=v1) (v2:=v2) (v3:=v3) (v5:=v5) (v6:=v6) r
 obtain⟨s9,hs9⟩:∃ s9,s9=(s7++[O.lst []]).set s6.length (.lst (X7.map .str++[.str [97]])):=⟨_,rfl⟩
 have G68:Gro e s6 (s7++[O.lst []]):=by rw[hs7,List.append_assoc];exact Gro.app (by omega) _
 have G69:Gro e s6 s9:=by rw[hs9];exact G68.put (Nat.le_refl _) (by omega) _
 have G9:Gro e s s9:=zj.trans G6 G69
 have ge9:s9[e]? = some (.lst (hs++[.tup [.ref (s.length+2),.ref (s.length+4)]])):=by
  rw[hs9,jD (by omega),hs7,List.append_assoc];exact zh ge6 _
 refine⟨X7,s.length+2,s.length+4,s9,?_,G9,ge9,G69.get (by omega) gf6,G69.get (by omega) gb6,by omega,by omega,x7⟩
 have t1:qZ [some (.ref n),some (.ref h),some (.ref q),some (.ref e),none,none,none,none] s=.nx [some (.ref n),some (.ref h),some (.ref q),some (.ref e),some (.ref s.length),none,none,none] s1:=by
  simp only[qZ,zS,zH,zB,zG,zA,List.getElem?_cons_succ,List.getElem?_cons_zero,R.bind_ok,e1,alloc,R.stm_ok,List.set_cons_succ,List.set_cons_zero,hs1]
 have t2:qR [some (.ref n),some (.ref h),some (.ref q),some (.ref e),some (.ref s.length),none,none,none] s1=.nx [some (.ref n),some (.ref h),some (.ref q),some (.ref e),some (.ref s.length),some (.ref (s.length+1)),none,none] s2:=by
  simp only[qR,zS,zH,zB,zG,zA,List.getElem?_cons_succ,List.getElem?_cons_zero,R.bind_ok,yK,G1.get hqe gq,alloc,R.stm_ok,List.set_cons_succ,List.set_cons_zero,hs2,l1]
 have t3:qy [some (.ref n),some (.ref h),some (.ref q),some (.ref e),some (.ref s.length),some (.ref (s.length+1)),none,none] s2=.nx [some (.ref n),some (.ref h),some (.ref q),some (.ref e),some (.ref s.length),some (.ref (s.length+1)),some (.int 1),some (.ref s6.length)] s9:=by
  have hq2:(2:Int).natAbs < 4611686018427387904:=by decide
  have hr:jT 0 2=[.int 0,.int 1]:=rfl
  have hg:∀ s,zi [] s=true:=fun _=>rfl
  have f3:(s3++[O.lst []])[s.length+2]? = some (.lst (X7.map .str)):=by rw[<- l2];exact zh gf3 _
  have f8:(s7++[O.lst []])[s6.length]? = some (.lst (X7.map .str)):=zh gf7 _
  have z5:hs.length < SZ:=by unfold SZ;omega
  have z8:(X7.map D.str).length < SZ:=by rw[List.length_map];unfold SZ;omega
  have h03:(s3++[O.lst []])[e]? = some (.lst hs):=by rw[hs3,hs2,hs1];simp only[List.append_assoc];exact zh ge _
  have lb:(s3++[O.lst []]).length=s.length+4:=by rw[List.length_append,l3];rfl
  have z2:([D.ref (s.length+2),D.ref (s.length+4)]:List D).length <= SZ:=by unfold SZ;simp
  have k1:jr (zX 6) zEn (.int 0) [some (.ref n),some (.ref h),some (.ref q),some (.ref e),some (.ref s.length),some (.ref (s.length+1)),none,none] s2=.nx [some (.ref n),some (.ref h),some (.ref q),some (.ref e),some (.ref s.length),some (.ref (s.length+1)),some (.int 0),some (.ref s2.length)] s6:=by
   have w:(zS 7 (zH yM (zB (zA 1) (zB (zA 5) zG)))) [some (.ref n),some (.ref h),some (.ref q),some (.ref e),some (.ref s.length),some (.ref (s.length+1)),some (.int 0),none] s2=.nx [some (.ref n),some (.ref h),some (.ref q),some (.ref e),some (.ref s.length),some (.ref (s.length+1)),some (.int 0),some (.ref s2.length)] s3:=by
    simp only[zS,zH,zB,zG,zA,List.getElem?_cons_succ,List.getElem?_cons_zero,R.bind_ok,e3,alloc,R.stm_ok,List.set_cons_succ,List.set_cons_zero,hs3]
   show ((zS 7 _) [some (.ref n),some (.ref h),some (.ref q),some (.ref e),some (.ref s.length),some (.ref (s.length+1)),some (.int 0),none] s2).then _=_
   rw[w,RS.then_nx]
   show zB6 _ _ _=_
   rw[c3]
   have ez:cEq (.int 0) (.int 0) (s3++[O.lst []])=.ok true (s3++[O.lst []]):=rfl
   simp only[sIf,zr,zA,eC,List.getElem?_cons_succ,List.getElem?_cons_zero,R.bind_ok,ez,R.stm_ok,if_true,ZG,eM,Zz,h03,zB,zD5,zH,zG,yK,f3,alloc,lb,l2,z2,qm,<- hs5,ge5,z5,<- hs6]
  have k2:jr (zX 6) zEn (.int 1) [some (.ref n),some (.ref h),some (.ref q),some (.ref e),some (.ref s.length),some (.ref (s.length+1)),some (.int 0),some (.ref s2.length)] s6=.nx [some (.ref n),some (.ref h),some (.ref q),some (.ref e),some (.ref s.length),some (.ref (s.length+1)),some (.int 1),some (.ref s6.length)] s9:=by
   have w:(zS 7 (zH yM (zB (zA 1) (zB (zA 5) zG)))) [some (.ref n),some (.ref h),some (.ref q),some (.ref e),some (.ref s.length),some (.ref (s.length+1)),some (.int 1),some (.ref s2.length)] s6=.nx [some (.ref n),some (.ref h),some (.ref q),some (.ref e),some (.ref s.length),some (.ref (s.length+1)),some (.int 1),some (.ref s6.length)] s7:=by
    simp only[zS,zH,zB,zG,zA,List.getElem?_cons_succ,List.getElem?_cons_zero,R.bind_ok,e7,alloc,R.stm_ok,List.set_cons_succ,List.set_cons_zero,hs7]
   show ((zS 7 _) [some (.ref n),some (.ref h),some (.ref q),some (.ref e),some (.ref s.length),some (.ref (s.length+1)),some (.int 1),some (.ref s2.length)] s6).then _=_
   rw[w,RS.then_nx]
   show zB6 _ _ _=_
   rw[c7]
   have ez:cEq (.int 1) (.int 0) (s7++[O.lst []])=.ok false (s7++[O.lst []]):=rfl
   simp only[sIf,zr,zA,eC,List.getElem?_cons_succ,List.getElem?_cons_zero,R.bind_ok,ez,R.stm_ok,Bool.false_eq_true,if_false,ZG,eM,Zz,f8,if_true,zB,zG,qm,z8,<- hs9]
  show (yh (jP (eC (.int 2))) (zX 6) zEn) _ _=_
  simp only[yh,jP,eC,R.bind_ok,hq2,if_true,R.stm_ok,hg,hr,qW]
  rw[k1]
  dsimp only
  rw[k2]
 have lX:∀ {q o},s2[q]? = some o->q≠e->s9[q]? = some o:=fun {q o} g hq=>G69.get hq (G56.get hq (p5.get (by rw[hs3];exact zh g _)))
 have q4:eqD (.ref (s.length+1)) (.ref q) s9=.ok true s9:=by rw[Qw (lX ga2 (by omega)) (G9.get hqe gq)];simp
 have q5:=zHi (G9.get hhe gh) (G9.get hne gn) (dk G9) ((drn.mono (zj.keep G9)).mono (zAL e s9)) hn
 show (zK qZ (zK qR (zK qy yl)) [some (.ref n),some (.ref h),some (.ref q),some (.ref e),none,none,none,none] s).out=_
 show ((qZ _ _).then _).out=_
 rw[t1,RS.then_nx]
 show ((qR _ _).then _).out=_
 rw[t2,RS.then_nx]
 show ((qy _ _).then _).out=_
 rw[t3,RS.then_nx]
 simp only[yl,jq,zA0,QA,zA,List.getElem?_cons_succ,List.getElem?_cons_zero,R.bind_ok,cEq,q4,asB,if_true,zH,zB,zG,q5,R.stm_ok,RS.out_rt]
def ja:SM :=
  (zS 1 (eOp zt (Zf (zB (eC (.int 101)) (zB (eC (.int 151)) (zB (eC (.int 211)) (zB (eC (.int 307)) zG))))) (eOp zf (zA 0) (eC (.int 4)))))
def jc:SM :=
  (zDs 4 (zS 2 (qt 1 (jP (zA 1)) (zX 7) yu (eOp zy (eC (.str [110])) (zH zD9 (zB (eOp zf (eOp Zm (zA 7) (eC (.int 7919))) (eC (.int 10007))) zG))))))
def jw:SM :=
  (zS 3 j2)
def jv:SM :=
  (yh (jP (zA 1)) (zX 4)
  (zK (zS 5 (eOp zf (eOp zy (eOp Zm (zA 4) (eOp zy (eC (.int 1)) (eOp zf (eOp qG (zA 0) (eC (.int 4))) (eC (.int 97))))) (eOp qG (zA 0) (eC (.int 388)))) (zA 1)))
  (qC (zA 3) (eOp zt (zA 2) (zA 5)) (eSl (zA 2) (ya (zH zBN (zB (eC (.int 0)) (zB (eOp zBE (zA 5) (eC (.int 1))) zG)))) (ya (zA 5))))))
def jZ:SM :=
  (zS 5 (eOp zf (eOp qG (zA 0) (eC (.int 388))) (zA 1)))
def jY:SM :=
  (zS 6 (zH yM (zB (zA 3) (zB (Zf (zB (eOp zt (zA 2) (zA 5)) zG)) zG))))
def jx:SM :=
  (jq (zA0 (zH Qy (zB (zA 6) (zB (eC (.ty .list)) zG))) (QA cEq (zA 6) (zH zBG (zB (eSl (zA 2) (ya (eOp zy (zA 5) (eC (.int 1)))) Q3) zG)))))
def ZQ:SM:=(zK ja (zK jc (zK jw (zK jv (zK jZ (zK jY jx))))))
def Qx:F:=fn 7 ZQ
def qf:F:=chS Qx
theorem zAo:jS 1 Qx qf:=zHS _
def chT (k:Nat):T:=110::Z9 ((k * 7919 % 10007:Nat):Int)
def zIx (t:T):Nat:=t.foldl (fun a c=>a * 10+(c - 48)) 0
theorem zFw:∀ k,k < 307->zIx (Z9 ((k * 7919 % 10007:Nat):Int))=k * 7919 % 10007:=by decide +kernel
theorem zKF:∀ k,k < 307->(Z9 ((k * 7919 % 10007:Nat):Int)).length <= 10:=by decide +kernel
theorem Q7 {i j:Nat} (hi:i < 307) (hj:j < 307) (h:chT i=chT j):i=j:=by
 have h1:zIx (Z9 ((i * 7919 % 10007:Nat):Int))=zIx (Z9 ((j * 7919 % 10007:Nat):Int)):=by
  unfold chT at h
  rw[(List.cons.inj h).2]
 rw[zFw i hi,zFw j hj] at h1
 omega
def zBL (c:Int):Nat:=[101,151,211,307].getD (c % 4).toNat 0
theorem zJi (c:Int):zBL c∈[101,151,211,307]:=by
 unfold zBL
 have:(c % 4).toNat < 4:=by omega
 generalize (c % 4).toNat=k at *
 match k,this with
 | 0,_=>decide
 | 1,_=>decide
 | 2,_=>decide
 | 3,_=>decide
theorem cop:∀ p∈[101,151,211,307],∀ m,m < 97->Nat.gcd p (m+1)=1:=by decide +kernel
def atC (c:Int) (p:Nat) (k:Nat):Nat:=(((k:Int) * (1+c / 4 % 97)+c / 388) % (p:Int)).toNat
theorem Qt {c:Int}{p:Nat} (hp:0 < p) (k:Nat):atC c p k < p:=by
 unfold atC
 have h1:=Int.emod_nonneg ((k:Int) * (1+c / 4 % 97)+c / 388) (b:=(p:Int)) (by omega)
 have h2:=Int.emod_lt_of_pos ((k:Int) * (1+c / 4 % 97)+c / 388) (b:=(p:Int)) (by omega)
 omega
theorem zFv {c:Int}{p:Nat} (hp:p∈[101,151,211,307]) {i j:Nat} (hi:i < p) (hj:j < p) (h:atC c p i=atC c p j):i=j:=by
 have p0:0 < p:=by omega
 obtain⟨m,hm,em⟩:∃ m:Nat,m < 97/\(1+c / 4 % 97:Int)=((m+1:Nat):Int):=⟨(c / 4 % 97).toNat,by omega,by omega⟩
 have h1:=Int.emod_nonneg ((i:Int) * (1+c / 4 % 97)+c / 388) (b:=(p:Int)) (by omega)
 have h2:=Int.emod_nonneg ((j:Int) * (1+c / 4 % 97)+c / 388) (b:=(p:Int)) (by omega)
 have h3:((i:Int) * (1+c / 4 % 97)+c / 388) % (p:Int)=((j:Int) * (1+c / 4 % 97)+c / 388) % (p:Int):=by
  unfold atC at h
  omega
 rw[em] at h3
 have h4:(p:Int) ∣ ((i:Int) * ((m+1:Nat):Int)+c / 388) - ((j:Int) * ((m+1:Nat):Int)+c / 388):=Int.dvd_of_emod_eq_zero (Int.emod_eq_emod_iff_emod_sub_eq_zero.mp h3)
 have h5:((i:Int) * ((m+1:Nat):Int)+c / 388) - ((j:Int) * ((m+1:Nat):Int)+c / 388)=((i:Int) - j) * ((m+1:Nat):Int):=by rw[Int.sub_mul];omega
 rw[h5] at h4
 have h6:p ∣ ((i:Int) - j).natAbs * (m+1):=by
  have:=Int.natAbs_dvd_natAbs.mpr h4
  rwa [Int.natAbs_mul,Int.natAbs_natCast,Int.natAbs_natCast] at this
 have h7:p ∣ ((i:Int) - j).natAbs:=Nat.Coprime.dvd_of_dvd_mul_right (cop p hp m hm) h6
 have h8:((i:Int) - j).natAbs < p:=by omega
 have h9:=Nat.eq_zero_of_dvd_of_lt h7 h8
 omega
abbrev nmC (p:Nat):List T:=(List.range p).map chT
def prT (p a:Nat):List T:=cut (nmC p) (some (if (a:Int) - 1 > 0 then (a:Int) - 1 else 0)) (some (a:Int))
theorem zCl {p a:Nat} (ha:a < p) {y:T}:y∈prT p a↔1 <= a/\y=chT (a - 1):=by
 have l:(nmC p).length=p:=by simp
 have e1:sIx (nmC p).length 0 (some (if (a:Int) - 1 > 0 then (a:Int) - 1 else 0))=a - 1:=by
  rw[l];unfold sIx
  dsimp only
  by_cases h:(a:Int) - 1 > 0
  ·rw[if_pos h,if_neg (by omega)];omega
  ·rw[if_neg h,if_neg (by omega)];omega
 have e2:sIx (nmC p).length (nmC p).length (some (a:Int))=a:=by
  rw[l];unfold sIx
  dsimp only
  rw[if_neg (by omega)];omega
 unfold prT cut
 rw[e1,e2]
 cases a with
 | zero=>simp
 | succ a =>
  have hx:a < (nmC p).length:=by omega
  rw[show a+1 - 1=a by omega,show a+1 - a=1 by omega,List.drop_eq_getElem_cons hx]
  simp
theorem zK4 (p a:Nat) (ha:a < p):(prT p a).length <= 1:=by
 have l:(nmC p).length=p:=by simp
 have e1:sIx (nmC p).length 0 (some (if (a:Int) - 1 > 0 then (a:Int) - 1 else 0))=a - 1:=by
  rw[l];unfold sIx
  dsimp only
  by_cases h:(a:Int) - 1 > 0
  ·rw[if_pos h,if_neg (by omega)];omega
  ·rw[if_neg h,if_neg (by omega)];omega
 have e2:sIx (nmC p).length (nmC p).length (some (a:Int))=a:=by
  rw[l];unfold sIx
  dsimp only
  rw[if_neg (by omega)];omega
 unfold prT cut
 rw[e1,e2,List.length_take]
 omega
def ndC (c:Int) (p:Nat) (j:Nat):List (T×List T):=(List.range j).map fun k=>(chT (atC c p k),prT p (atC c p k))
theorem zAT (c:Int) (p j:Nat):zR (ndC c p j)=(List.range j).map fun k=>chT (atC c p k):=by
 unfold zR ndC;rw[List.map_map];rfl
section
variable {c:Int}{p:Nat} (hp:p∈[101,151,211,307])
include hp
theorem Je:p <= 307/\101 <= p:=by
 simp only[List.mem_cons,List.not_mem_nil,or_false] at hp
 omega
theorem zIL:(nmC p).Nodup:=by
 have h:=Je hp
 refine List.pairwise_map.mpr ((List.nodup_range (n:=p)).imp_of_mem fun {a b} ha hb hab e=>hab ?_)
 exact Q7 (by have:=List.mem_range.mp ha;omega) (by have:=List.mem_range.mp hb;omega) e
theorem zKd {j:Nat} (hj:j < p):chT (atC c p j)∉zR (ndC c p j):=by
 rw[zAT]
 intro h
 obtain⟨k,h1,h2⟩:=List.mem_map.mp h
 have hk:=List.mem_range.mp h1
 have l:=Je hp
 have h3:=Q7 (by have:=Qt (c:=c) (p:=p) (by omega) k;omega) (by have:=Qt (c:=c) (p:=p) (by omega) j;omega) h2
 have:=zFv hp (by omega) hj h3
 omega
theorem zAz:(zR (ndC c p p)).Nodup:=by
 have l:=Je hp
 rw[zAT]
 refine List.pairwise_map.mpr ((List.nodup_range (n:=p)).imp_of_mem fun {a b} ha hb hab e=>hab ?_)
 have h3:=Q7 (by have:=Qt (c:=c) (p:=p) (by omega) a;omega) (by have:=Qt (c:=c) (p:=p) (by omega) b;omega) e
 exact zFv hp (List.mem_range.mp ha) (List.mem_range.mp hb) h3
theorem zIR (j:Nat):OkN (nmC p) (ndC c p j):=fun q hq=>by
 have l:=Je hp
 obtain⟨k,_,e⟩:=List.mem_map.mp hq
 have la:=Qt (c:=c) (p:=p) (by omega) k
 subst e
 refine⟨List.mem_map.mpr ⟨_,List.mem_range.mpr la,rfl⟩,Nat.le_trans (zK4 p _ la) (by decide),fun t ht=>?_⟩
 obtain⟨h1,h2⟩:=(zCl la).mp ht
 exact List.mem_map.mpr ⟨_,List.mem_range.mpr (by omega),h2.symm⟩
theorem zKJ {i:Nat} (hi:i < p):(chT i,prT p i)∈ndC c p p:=by
 have l:=Je hp
 have h:chT i∈zR (ndC c p p):=by
  apply Classical.byContradiction
  intro hn
  have h1:(chT i::zR (ndC c p p)).Nodup:=List.nodup_cons.mpr ⟨hn,zAz hp⟩
  have h2:=ql (N:=nmC p) h1 fun x hx=>by
   rcases List.mem_cons.mp hx with hx | hx
   ·rw[hx];exact List.mem_map.mpr ⟨i,List.mem_range.mpr hi,rfl⟩
   ·obtain⟨q,q1,q2⟩:=List.mem_map.mp hx
    rw[<- q2];exact (zIR hp p q q1).1
  rw[zAT] at h2
  simp at h2
  omega
 rw[zAT] at h
 obtain⟨k,h1,h2⟩:=List.mem_map.mp h
 have la:=Qt (c:=c) (p:=p) (by omega) k
 have:=Q7 (by omega) (by omega) h2
 exact List.mem_map.mpr ⟨k,h1,by rw[this]⟩
theorem zCB {x y:T}:y∈nOf (ndC c p p) x ↔ ∃ a,a+1 < p/\x=chT (a+1)/\y=chT a:=by
 rw[Qi (zAz hp)]
 have l:=Je hp
 constructor
 ·rintro ⟨q,h1,h2,h3⟩
  obtain⟨k,_,e⟩:=List.mem_map.mp h1
  have la:=Qt (c:=c) (p:=p) (by omega) k
  subst e
  obtain⟨h4,h5⟩:=(zCl la).mp h3
  refine⟨atC c p k - 1,by omega,?_,h5⟩
  rw[<- h2,show atC c p k - 1+1=atC c p k by omega]
 ·rintro ⟨a,h1,h2,h3⟩
  exact⟨_,zKJ hp h1,h2.symm,(zCl h1).mpr ⟨by omega,h3⟩⟩
theorem zJF {x y:T} (h:Lds (ndC c p p) x y):∃ i j,j < i/\i < p/\x=chT i/\y=chT j:=by
 have l:=Je hp
 induction h with
 | one h =>
  obtain⟨a,h1,h2,h3⟩:=(zCB hp).mp h
  exact⟨a+1,a,by omega,h1,h2,h3⟩
 | step h _ ih =>
  obtain⟨a,h1,h2,h3⟩:=(zCB hp).mp h
  obtain⟨i,j,h4,h5,h6,h7⟩:=ih
  have:=Q7 (by omega) (by omega) (h3.symm.trans h6)
  exact⟨a+1,j,by omega,h1,h2,h7⟩
theorem zET (j:Nat):∀ d,j+d+1 < p->Lds (ndC c p p) (chT (j+d+1)) (chT j)
 | 0,h=>.one ((zCB hp).mpr ⟨j,h,rfl,rfl⟩)
 | d+1,h=>.step ((zCB hp).mpr ⟨j+d+1,h,rfl,rfl⟩) (zET j d (by omega))
theorem zK3 {a:Nat} (ha:a < p):LnX (ndC c p p) [chT a] (jb ((nmC p).drop (a+1))):=by
 have l:=Je hp
 refine⟨fun x=>?_,zHA ((zIL hp).sublist (List.drop_sublist _ _)),zAI _⟩
 rw[(Qd _).mem_iff]
 have hd:(nmC p).drop (a+1)=((List.range p).drop (a+1)).map chT:=by rw[List.map_drop]
 rw[hd]
 constructor
 ·intro h
  obtain⟨i,h1,h2⟩:=List.mem_map.mp h
  obtain⟨k,h3,h4⟩:=List.mem_iff_getElem.mp h1
  rw[List.getElem_drop,List.getElem_range] at h4
  have h5:k < p - (a+1):=by simpa using h3
  refine⟨chT a,by simp,?_⟩
  rw[<- h2,<- h4,show a+1+k=a+k+1 by omega]
  exact zET hp a k (by omega)
 ·rintro ⟨y,h1,h2⟩
  rw[List.mem_singleton.mp h1] at h2
  obtain⟨i,j,h3,h4,h5,h6⟩:=zJF hp h2
  have:=Q7 (by omega) (by omega) h6
  subst this
  refine List.mem_map.mpr ⟨i,List.mem_iff_getElem.mpr ⟨i - (a+1),by simp;omega,?_⟩,h5.symm⟩
  rw[List.getElem_drop,List.getElem_range];omega
end
abbrev zE0:SM:=(zK (zS 5 (eOp zf (eOp zy (eOp Zm (zA 4) (eOp zy (eC (.int 1)) (eOp zf (eOp qG (zA 0) (eC (.int 4))) (eC (.int 97))))) (eOp qG (zA 0) (eC (.int 388)))) (zA 1)))
  (qC (zA 3) (eOp zt (zA 2) (zA 5)) (eSl (zA 2) (ya (zH zBN (zB (eC (.int 0)) (zB (eOp zBE (zA 5) (eC (.int 1))) zG)))) (ya (zA 5)))))
theorem zJl {p a:Nat} (ha:a < p):atI ((nmC p).map D.str) (a:Int)=some (.str (chT a)):=by
 rw[zBM (by omega) (by simp;omega) .non]
 simp[List.getD_eq_getElem?_getD,List.getElem?_range ha]
theorem zJ8 {c:Int}{p:Nat} (hp:p∈[101,151,211,307]) {B:M.S}{m j:Nat} (hm:B[m]? = some (.lst ((nmC p).map .str))) (hj:j < p) {s t:M.S}{kvs:List (D×D)} (es:s=B++.dct kvs::t) (dr:DR s kvs (ndC c p j)) {v5 v6:Option D} :
  ∃ (kvs':List (D×D)) (t':M.S),zE0 [some (.int c),some (.int p),some (.ref m),some (.ref B.length),some (.int j),v5,v6] s=.nx [some (.int c),some (.int p),some (.ref m),some (.ref B.length),some (.int j),some (.int (atC c p j)),v6] (B++.dct kvs'::t')/\DR (B++.dct kvs'::t') kvs' (ndC c p (j+1)):=by
 have l:=Je hp
 have p0:(0:Int) < p:=by omega
 have la:=Qt (c:=c) (p:=p) (by omega) j
 have ea:((j:Int) * (1+c / 4 % 97)+c / 388) % (p:Int)=(atC c p j:Int):=by
  unfold atC
  have h1:=Int.emod_nonneg ((j:Int) * (1+c / 4 % 97)+c / 388) (b:=(p:Int)) (by omega)
  omega
 have k1:(0:Int) < 4/\(4:Int).natAbs < 1073741824:=by decide
 have k2:(0:Int) < 97:=by decide
 have k3:(0:Int) < 388/\(388:Int).natAbs < 1073741824:=by decide
 have k4:(small (j:Int) || small (1+c / 4 % 97))=true:=by
  have:small (j:Int)=true:=decide_eq_true (by omega)
  rw[this];rfl
 have gm:s[m]? = some (.lst ((nmC p).map .str)):=by rw[es];exact zh hm _
 have gs:s[B.length]? = some (.dct kvs):=by rw[es];exact zq
 have gs':(s++[O.lst ((prT p (atC c p j)).map D.str)])[B.length]? = some (.dct kvs):=zh gs _
 have gm':(s++[O.lst ((prT p (atC c p j)).map D.str)])[m]? = some (.lst ((nmC p).map .str)):=zh gm _
 have hcut:cut ((nmC p).map D.str) (some (if (atC c p j:Int) - 1 > 0 then (atC c p j:Int) - 1 else 0)) (some (atC c p j:Int))=(prT p (atC c p j)).map D.str:=zGC _ _ _ _
 have hlen:kvs.length < SZ:=by
  rw[dr.length];unfold ndC SZ;simp;omega
 have hs':(s++[O.lst ((prT p (atC c p j)).map D.str)]).set B.length (.dct (qN (.str (chT (atC c p j))) (.ref s.length) kvs))=B++.dct (qN (.str (chT (atC c p j))) (.ref s.length) kvs)::(t++[O.lst ((prT p (atC c p j)).map D.str)]):=by
  rw[es,List.append_assoc,List.cons_append,zAM]
 refine⟨qN (.str (chT (atC c p j))) (.ref s.length) kvs,t++[O.lst ((prT p (atC c p j)).map D.str)],?_,?_⟩
 ·rw[<- hs']
  have e1:(zS 5 (eOp zf (eOp zy (eOp Zm (zA 4) (eOp zy (eC (.int 1)) (eOp zf (eOp qG (zA 0) (eC (.int 4))) (eC (.int 97))))) (eOp qG (zA 0) (eC (.int 388)))) (zA 1))) [some (.int c),some (.int p),some (.ref m),some (.ref B.length),some (.int j),v5,v6] s=.nx [some (.int c),some (.int p),some (.ref m),some (.ref B.length),some (.int j),some (.int (atC c p j)),v6] s:=by
   simp only[zS,eOp,zA,eC,List.getElem?_cons_succ,List.getElem?_cons_zero,R.bind_ok,qG,k1,k3,and_self,if_true,zf,k2,zy,Zm,k4,p0,ea,R.stm_ok,List.set_cons_succ,List.set_cons_zero]
  show ((zS 5 _) _ _).then _=_
  rw[e1,RS.then_nx]
  simp only[qC,eSl,zA,List.getElem?_cons_succ,List.getElem?_cons_zero,R.bind_ok,ya,zH,zB,zG,eC,eOp,zBE,zBN,slD,jL,gm,hcut,alloc,R.stm_ok,zt,gm',zJl la,yZ,gs',ji,hlen,decide_true,Bool.and_self,if_true]
 ·rw[<- hs']
  have kp:qp s ((s++[O.lst ((prT p (atC c p j)).map D.str)]).set B.length (.dct (qN (.str (chT (atC c p j))) (.ref s.length) kvs))):=(qp.app s _).trans (qp.set gs' (fun _ z=>nomatch z))
  have:=(dr.mono kp).put (k:=chT (atC c p j)) (r:=s.length) (row:=prT p (atC c p j)) ?_
  ·rw[zEM (zKd hp hj)] at this
   have e2:ndC c p (j+1)=ndC c p j++[(chT (atC c p j),prT p (atC c p j))]:=by unfold ndC;rw[List.range_succ,List.map_append];rfl
   rw[e2];exact this
  ·rw[List.getElem?_set_ne (by
    have:=(List.getElem?_eq_some_iff.mp gs).1
    omega)]
   simp
theorem zFD {ts:List T} (h:ts.length <= 1000) (s:M.S):Z5 (ts.map .str) s=alloc (.lst ((jb ts).map .str)) s:=by
 unfold Z5
 rw[zA4]
 dsimp only
 rw[if_pos (by omega)]
theorem zIt (c:Int) (S:M.S):qf [.int c] S=.ok (.bl true) S:=by
 have hp:=zJi c
 have e1:∀ s,zt (.ref s.length) (.int (c % 4)) (s++[O.lst [.int 101,.int 151,.int 211,.int 307]])=.ok (.int (zBL c)) (s++[O.lst [.int 101,.int 151,.int 211,.int 307]]):=fun s=>by
  have g:(s++[O.lst [.int 101,.int 151,.int 211,.int 307]])[s.length]? = some (.lst [.int 101,.int 151,.int 211,.int 307]):=zq
  have:atI [D.int 101,.int 151,.int 211,.int 307] (c % 4)=some (.int (zBL c)):=by
   unfold zBL
   obtain⟨k,hk⟩:∃ k:Nat,c % 4=k:=⟨(c % 4).toNat,by omega⟩
   have:k < 4:=by omega
   rw[hk]
   match k,this with
   | 0,_=>rfl
   | 1,_=>rfl
   | 2,_=>rfl
   | 3,_=>rfl
  simp only[zt,g,this]
 generalize zBL c=p at *
 have l:=Je hp
 obtain⟨B,hB⟩:∃ B,B=S++[O.lst [.int 101,.int 151,.int 211,.int 307],.lst ((nmC p).map .str)]:=⟨_,rfl⟩
 have lB:B.length=S.length+2:=by rw[hB];simp
 have gm:B[S.length+1]? = some (.lst ((nmC p).map .str)):=by
  rw[hB,List.getElem?_append_right (by omega),show S.length+1 - S.length=1 by omega];rfl
 obtain⟨σ',s',e5,⟨v4,v5,eσ⟩,kvs,t,es,dr⟩:=yq (g:=[]) (f:=jr (zX 4) zE0)
  (fun j σ s=>(∃ v4 v5:Option D,σ=[some (.int c),some (.int p),some (.ref (S.length+1)),some (.ref B.length),v4,v5,none])/\∃ kvs t,s=B++.dct kvs::t/\DR s kvs (ndC c p j))
  (jT 0 (p:Int)) 0 [some (.int c),some (.int p),some (.ref (S.length+1)),some (.ref B.length),none,none,none] (B++[.dct []]) ⟨⟨none,none,rfl⟩,[],[],rfl,trivial⟩ fun j d hd σ s ⟨⟨v4,v5,eσ⟩,kvs,t,es,dr⟩=>by
   obtain⟨rfl,hj⟩:=zEP hd
   rw[Nat.zero_add] at dr ⊢
   subst eσ
   obtain⟨kvs',t',e,dr'⟩:=zJ8 hp gm (by omega) es dr (v5:=v5) (v6:=none)
   exact⟨_,_,e,rfl,⟨_,_,rfl⟩,kvs',t',rfl,dr'⟩
 have lr:(jT 0 (p:Int)).length=p:=by unfold jT;simp
 rw[Nat.zero_add,lr] at dr
 subst eσ
 obtain⟨a,ha,eA⟩:∃ a:Nat,a < p/\c / 388 % (p:Int)=a:=by
  have h1:=Int.emod_nonneg (c / 388) (b:=(p:Int)) (by omega)
  have h2:=Int.emod_lt_of_pos (c / 388) (b:=(p:Int)) (by omega)
  exact⟨(c / 388 % (p:Int)).toNat,by omega,by omega⟩
 have gd:s'[B.length]? = some (.dct kvs):=by rw[es];exact zq
 have gm':s'[S.length+1]? = some (.lst ((nmC p).map .str)):=by rw[es];exact zh gm _
 obtain⟨s6,hs6⟩:∃ s6,s6=s'++[O.lst ([chT a].map .str)]:=⟨_,rfl⟩
 have p6:zj s' s6:=by rw[hs6];exact zj.of _ _
 have g6:s6[s'.length]? = some (.lst ([chT a].map .str)):=by rw[hs6];exact zq
 obtain⟨X,hX,xl,e6⟩:=zAS (p6.get gd) (dr.mono p6.keep) (zAz hp) (zIR hp p) (show (nmC p).length <= 400 by simp;omega) g6 (by simp)
 have eX:=hX.one (zK3 hp ha)
 subst eX
 obtain⟨s7,hs7⟩:∃ s7,s7=s6++[O.lst ((jb ((nmC p).drop (a+1))).map .str)]:=⟨_,rfl⟩
 have p7:zj s6 s7:=by rw[hs7];exact zj.of _ _
 have g7:s7[s6.length]? = some (.lst ((jb ((nmC p).drop (a+1))).map .str)):=by rw[hs7];exact zq
 have hcut:cut ((nmC p).map D.str) (some ((a:Int)+1)) none=((nmC p).drop (a+1)).map D.str:=by
  rw[zES _ (by omega),<- List.map_drop,show ((a:Int)+1).toNat=a+1 by omega]
 obtain⟨s8,hs8⟩:∃ s8,s8=s7++[O.lst (((nmC p).drop (a+1)).map .str)]:=⟨_,rfl⟩
 have p8:zj s7 s8:=by rw[hs8];exact zj.of _ _
 have g8:s8[s7.length]? = some (.lst (((nmC p).drop (a+1)).map .str)):=by rw[hs8];exact zq
 obtain⟨s9,hs9⟩:∃ s9,s9=s8++[O.lst ((jb ((nmC p).drop (a+1))).map .str)]:=⟨_,rfl⟩
 have p9:zj s8 s9:=by rw[hs9];exact zj.of _ _
 have g9:s9[s8.length]? = some (.lst ((jb ((nmC p).drop (a+1))).map .str)):=by rw[hs9];exact zq
 obtain⟨g,hg⟩:∃ g,s9=S++g:=by
  have h0:zj S B:=by rw[hB];exact zj.of _ _
  have h1:zj B s':=by rw[es];exact zj.of _ _
  exact ((((h0.trans h1).trans p6).trans (p7.trans p8)).trans p9).app
 refine zHX (g:=g) ?_ rfl
 rw[<- hg]
 have t1:ja [some (.int c),none,none,none,none,none,none] S=.nx [some (.int c),some (.int p),none,none,none,none,none] (S++[O.lst [.int 101,.int 151,.int 211,.int 307]]):=by
  have z:([D.int 101,.int 151,.int 211,.int 307]:List D).length <= SZ:=by unfold SZ;simp
  have h4:(0:Int) < 4:=by decide
  simp only[ja,zS,eOp,Zf,zB,zG,eC,zA,List.getElem?_cons_zero,R.bind_ok,z,if_true,alloc,zf,h4,e1,R.stm_ok,List.set_cons_succ,List.set_cons_zero]
 have t2:jc [some (.int c),some (.int p),none,none,none,none,none] (S++[O.lst [.int 101,.int 151,.int 211,.int 307]])=.nx [some (.int c),some (.int p),some (.ref (S.length+1)),none,none,none,none] B:=by
  have hj:(p:Int).natAbs < 4611686018427387904:=by omega
  have ec:yO 1 (jP (zA 1)) (zX 7) yu (eOp zy (eC (.str [110])) (zH zD9 (zB (eOp zf (eOp Zm (zA 7) (eC (.int 7919))) (eC (.int 10007))) zG))) [some (.int c),some (.int p),none,none,none,none,none] (S++[O.lst [.int 101,.int 151,.int 211,.int 307]])=.ok ((List.range ((p:Int) - 0).toNat).map fun k=>.str (chT k)) (S++[O.lst [.int 101,.int 151,.int 211,.int 307]]):=by
   refine Z8 (fun k=>.str (chT k)) (by simp only[jP,zA,List.getElem?_cons_succ,List.getElem?_cons_zero,R.bind_ok,hj,if_true]) (by unfold SZ;omega) fun k hk=>?_
   have k7:k < 307:=by omega
   have h1:(small (k:Int) || small 7919)=true:=by
    have:small (k:Int)=true:=decide_eq_true (by omega)
    rw[this];rfl
   have h2:(0:Int) < 10007:=by decide
   have h3:((k:Int) * 7919) % 10007=((k * 7919 % 10007:Nat):Int):=by omega
   have h4:small ((k * 7919 % 10007:Nat):Int)=true:=decide_eq_true (by omega)
   have h5:1+(Z9 ((k * 7919 % 10007:Nat):Int)).length <= SZ:=by
    have:=zKF k k7
    unfold SZ;omega
   simp only[qc,zX,List.cons_append,List.nil_append,List.replicate,List.set_cons_succ,List.set_cons_zero,yu,R.bind_ok,if_true,eOp,eC,zH,zB,zG,zA,List.getElem?_cons_succ,List.getElem?_cons_zero,Zm,Int.zero_add,h1,zf,h2,h3,zD9,h4,zy,List.length_cons,List.length_nil,Nat.zero_add,h5,List.singleton_append]
   rfl
  have en:((List.range ((p:Int) - 0).toNat).map fun k=>D.str (chT k))=(nmC p).map D.str:=by
   rw[show ((p:Int) - 0).toNat=p by omega,List.map_map];rfl
  rw[en] at ec
  simp only[jc,zDs,List.set_cons_succ,List.set_cons_zero,zS,qt,ec,R.bind_ok,alloc,R.stm_ok,zGr,List.length_append,List.length_cons,List.length_nil,Nat.zero_add,hB,List.append_assoc,List.cons_append,List.nil_append]
 have t3:jw [some (.int c),some (.int p),some (.ref (S.length+1)),none,none,none,none] B=.nx [some (.int c),some (.int p),some (.ref (S.length+1)),some (.ref B.length),none,none,none] (B++[.dct []]):=rfl
 have t4:jv [some (.int c),some (.int p),some (.ref (S.length+1)),some (.ref B.length),none,none,none] (B++[.dct []])=.nx [some (.int c),some (.int p),some (.ref (S.length+1)),some (.ref B.length),v4,v5,none] s':=by
  have hj:(p:Int).natAbs < 4611686018427387904:=by omega
  have hg0:∀ s,zi [] s=true:=fun _=>rfl
  show (yh (jP (zA 1)) (zX 4) zE0) _ _=_
  simp only[yh,jP,zA,List.getElem?_cons_succ,List.getElem?_cons_zero,R.bind_ok,hj,if_true,R.stm_ok,hg0]
  exact e5
 have t5:jZ [some (.int c),some (.int p),some (.ref (S.length+1)),some (.ref B.length),v4,v5,none] s'=.nx [some (.int c),some (.int p),some (.ref (S.length+1)),some (.ref B.length),v4,some (.int a),none] s':=by
  have k3:(0:Int) < 388/\(388:Int).natAbs < 1073741824:=by decide
  have p0:(0:Int) < p:=by omega
  simp only[jZ,zS,eOp,zA,eC,List.getElem?_cons_succ,List.getElem?_cons_zero,R.bind_ok,qG,k3,and_self,if_true,zf,p0,eA,R.stm_ok,List.set_cons_succ,List.set_cons_zero]
 have t6:jY [some (.int c),some (.int p),some (.ref (S.length+1)),some (.ref B.length),v4,some (.int a),none] s'=.nx [some (.int c),some (.int p),some (.ref (S.length+1)),some (.ref B.length),v4,some (.int a),some (.ref s6.length)] s7:=by
  have z:([D.str (chT a)]:List D).length <= SZ:=by unfold SZ;simp
  have es6:s'++[O.lst [.str (chT a)]]=s6:=hs6.symm
  simp only[jY,zS,zH,zB,zG,zA,List.getElem?_cons_succ,List.getElem?_cons_zero,R.bind_ok,Zf,eOp,zt,gm',zJl ha,z,if_true,alloc,es6,e6,R.stm_ok,List.set_cons_succ,List.set_cons_zero,<- hs7]
 have t7:jx [some (.int c),some (.int p),some (.ref (S.length+1)),some (.ref B.length),v4,some (.int a),some (.ref s6.length)] s7=.rt (.bl true) s9:=by
  have q:eqD (.ref s6.length) (.ref s8.length) s9=.ok true s9:=by
   rw[Qw (p9.get (p8.get g7)) g9];simp
  have ks:=zFD (ts:=(nmC p).drop (a+1)) (by simp;omega) s8
  have gm7:s7[S.length+1]? = some (.lst ((nmC p).map .str)):=p7.get (p6.get gm')
  simp only[jx,jq,zA0,zH,zB,zG,zA,eC,List.getElem?_cons_succ,List.getElem?_cons_zero,R.bind_ok,Qy,Zg,g7,asB,if_true,QA,eSl,ya,Q3,eOp,zy,slD,jL,gm7,hcut,alloc,<- hs8,zBG,g8,ks,<- hs9,cEq,q,R.stm_ok]
 show (zK ja (zK jc (zK jw (zK jv (zK jZ (zK jY jx))))) [some (.int c),none,none,none,none,none,none] S).out=_
 show ((ja _ _).then _).out=_
 rw[t1,RS.then_nx]
 show ((jc _ _).then _).out=_
 rw[t2,RS.then_nx]
 show ((jw _ _).then _).out=_
 rw[t3,RS.then_nx]
 show ((jv _ _).then _).out=_
 rw[t4,RS.then_nx]
 show ((jZ _ _).then _).out=_
 rw[t5,RS.then_nx]
 show ((jY _ _).then _).out=_
 rw[t6,RS.then_nx,t7]
 rfl
def QY:SM :=
  (zS 1 (zH qH (zB (zA 0) (zB (eC (.int 0)) zG))))
def QU:SM :=
  (zS 2 (zH QH (zB (zA 0) (zB (eC (.int 5)) (zB (zA 1) zG)))))
def Qf:SM :=
  (zS 3 (zH y6 (zB (zA 2) zG)))
def Qe:SM :=
  (sIf (Q2 (zr cEq (eOp zf (zH zx (zB (zA 0) (zB (eC (.int 19)) zG))) (eC (.int 30))) (eC (.int 7))) (ZK (jo (zH qf (zB (eOp qG (zH zx (zB (zA 0) (zB (eC (.int 19)) zG))) (eC (.int 30))) zG)))))
  (jq (eC (.bl false)))
  je)
def QV:SM :=
  (zS 4 (zH zx (zB (zA 0) (zB (eC (.int 18)) zG))))
def Qj:SM :=
  (zS 5 (qt 1 (jP (eOp zf (zA 4) (eC (.int 4)))) (zX 9) yu (eOp zt (zA 1) (eOp zf (zH zW (zB (zA 4) (zB (zA 9) zG))) (zH qS (zB (zA 1) zG))))))
def Z2:SM :=
  (sIf (zr cEq (eOp zf (eOp qG (zA 4) (eC (.int 4))) (eC (.int 5))) (eC (.int 1)))
  (zS 5 (eOp zy (zA 5) (Zf (zB (eOp zy (eOp zt (zA 1) (eC (.int 0))) (eC (.str [63]))) zG))))
  je)
def Q8:SM :=
  (zS 6 (Zf zG))
def QO:SM :=
  (zS 7 (eOp zt (zA 1) (eOp zf (eOp qG (zA 4) (eC (.int 20))) (zH qS (zB (zA 1) zG)))))
def QQ:SM :=
  (yh (iE (Zf (zB (zA 5) (zB (Zf (zB (zA 7) zG)) (zB (zA 5) zG))))) (zX 8)
  (sIf (ZK (jo (zH yn (zB (zA 2) (zB (zA 3) (zB (zA 8) (zB (zA 6) zG)))))))
  (jq (eC (.bl false)))
  je))
def Zv:SM :=
  (qC (zA 3) (zA 7) (eOp zy (eM .dict zBq (zA 3) (zB (zA 7) (zB (Zf zG) zG))) (eSl (zA 1) Q3 (ya (eC (.int 2))))))
def Zt:SM :=
  (zS 2 (zH y6 (zB (zA 3) zG)))
def Zw:SM :=
  (sIf (ZK (jo (zH yn (zB (zA 2) (zB (zA 3) (zB (zA 5) (zB (zA 6) zG)))))))
  (jq (eC (.bl false)))
  je)
def QW:SM :=
  (jq (JF zBh 1 (iE (zA 6)) (zX 9) yu (QA cEq (eOp zt (zA 9) (eC (.int 0))) (eOp zt (zA 9) (eC (.int 1))))))
def zG5:SM:=(zK QY (zK QU (zK Qf (zK Qe (zK QV (zK Qj (zK Z2 (zK Q8 (zK QO (zK QQ (zK Zv (zK Zt (zK Zw QW)))))))))))))
def zCP:F:=fn 9 zG5
theorem zHR {s:M.S}{n:Nat}{kvs:List (D×D)}{nd:List (T×List T)} (hs:s[n]? = some (.dct kvs)) (dr:DR s kvs nd) (x:T):∃ r,(jm (.str x) kvs).getD (.ref s.length)=.ref r/\(s++[O.lst []])[r]? = some (.lst ((nOf nd x).map .str)):=by
 rcases dr.get x with ⟨h1,h2⟩ | ⟨row,r,h1,h2,h3⟩
 ·refine⟨s.length,by rw[h2];rfl,?_⟩
  unfold nOf
  rw[h1]
  exact zq
 ·refine⟨r,by rw[h2];rfl,?_⟩
  unfold nOf
  rw[h1]
  exact zh h3 _
theorem DR.monoS {s s':M.S} (k:∀ (r:Nat) (row:List T),s[r]? = some (.lst (row.map .str))->s'[r]? = some (.lst (row.map .str))):∀ {kvs:List (D×D)}{nd:List (T×List T)},DR s kvs nd->DR s' kvs nd
 | [],[],_=>trivial
 | kv::kvs,p::nd,h=>⟨let ⟨r,h1,h2⟩:=h.1;⟨r,h1,k r _ h2⟩,DR.monoS k h.2⟩
 | [],_::_,h=>h.elim
 | _::_,[],h=>h.elim
theorem DR.msk {s:M.S}{e:Nat}{ds r:List D} (ge:s[e]? = some (.lst (.tup ds::r))) {kvs:List (D×D)}{nd:List (T×List T)} (h:DR s kvs nd):DR (msk e s) kvs nd:=h.monoS fun q row g=>by
 have:q≠e:=fun z=>by
  subst z
  rw[ge] at g
  cases row with
  | nil=>cases g
  | cons _ _=>cases g
 rw[jD this];exact g
abbrev HsI (e:Nat) (s:M.S) (hs:List D):Prop:=∀ d∈hs,∃ (X:List T) (a b:Nat),d=.tup [.ref a,.ref b]/\s[a]? = some (.lst (X.map .str))/\s[b]? = some (.lst (X.map .str))/\e≠a/\e≠b
theorem HsI.mono {e:Nat}{s s':M.S}{hs:List D} (h:HsI e s hs) (g:Gro e s s'):HsI e s' hs:=fun d hd=>by
 obtain⟨X,a,b,h1,h2,h3,h4,h5⟩:=h d hd
 exact⟨X,a,b,h1,g.get (Ne.symm h4) h2,g.get (Ne.symm h5) h3,h4,h5⟩
abbrev zIy:SM:=(sIf (ZK (jo (zH yn (zB (zA 2) (zB (zA 3) (zB (zA 8) (zB (zA 6) zG)))))))
  (jq (eC (.bl false)))
  je)
theorem zK1 {c:Int}{N:List T} (hN:0 < N.length) (hN2:N.length <= 60) {S:M.S} (g0:S[0]? = some (.lst (N.map .str))) {v0 v2 v3:Option D} :
  ∃ sm:List T,sm.length <= 3/\Qj [v0,some (.ref 0),v2,v3,some (.int c),none,none,none,none] S=.nx [v0,some (.ref 0),v2,v3,some (.int c),some (.ref S.length),none,none,none] (S++[.lst (sm.map .str)]):=by
 have ec:yO 1 (jP (eOp zf (zA 4) (eC (.int 4)))) (zX 9) yu (eOp zt (zA 1) (eOp zf (zH zW (zB (zA 4) (zB (zA 9) zG))) (zH qS (zB (zA 1) zG)))) [v0,some (.ref 0),v2,v3,some (.int c),none,none,none,none] S=.ok ((List.range (c % 4 - 0).toNat).map fun (k:Nat)=>.str (N.getD (mix c k % N.length).toNat [])) S:=by
  have h4:(0:Int) < 4:=by decide
  have hj:(c % 4).natAbs < 4611686018427387904:=by omega
  refine Z8 _ (by simp only[jP,eOp,zA,eC,List.getElem?_cons_succ,List.getElem?_cons_zero,R.bind_ok,zf,h4,if_true,hj]) (by unfold SZ;omega) fun k hk=>?_
  have hp:(0:Int) < (N.length:Nat):=by omega
  have h1:=Int.emod_nonneg (mix c k) (b:=(N.length:Int)) (by omega)
  have h2:=Int.emod_lt_of_pos (mix c k) (b:=(N.length:Int)) (by omega)
  have ix:atI (N.map D.str) (mix c k % (N.length:Int))=some (.str (N.getD (mix c k % N.length).toNat [])):=Qk h1 h2
  have hm:zW [.int c,.int (0+k)] S=.ok (.int (mix c k)) S:=by rw[Int.zero_add];rfl
  simp only[qc,zX,List.cons_append,List.nil_append,List.replicate,List.set_cons_succ,List.set_cons_zero,yu,R.bind_ok,if_true,eOp,zH,zB,zG,zA,List.getElem?_cons_succ,List.getElem?_cons_zero,hm,qS,g0,zf,hp,zt,List.length_map,ix]
 refine⟨(List.range (c % 4 - 0).toNat).map fun (k:Nat)=>N.getD (mix c k % N.length).toNat [],by simp;omega,?_⟩
 simp only[Qj,zS,qt,ec,R.bind_ok,alloc,R.stm_ok,List.set_cons_succ,List.set_cons_zero,List.map_map]
 rfl
theorem zJK (ns:List Int) (hl:ns.length <= 63):∃ s,zCP [.ro (ns.map .int)] []=.ok (.bl true) s:=by
 have hm:=zF8 (j0 ns 0)
 have hlN:=JS ns 0 (Q5 (j0 ns 0)).toNat
 have hoN:=zAO ns 0 (Q5 (j0 ns 0)).toNat
 have hnm:∀ s,qH [.ro (ns.map .int),.int 0] s=.ok (.ref s.length) (s++[O.lst ((j7 ns 0 (Q5 (j0 ns 0)).toNat).map .str)]):=fun s=>by
  simp[qH,zDQ]
 generalize j7 ns 0 (Q5 (j0 ns 0)).toNat=N at *
 have pN:0 < N.length:=by omega
 have hN:N.length <= 60:=by omega
 have c18:∀ s,zx [.ro (ns.map .int),.int 18] s=.ok (.int (j0 ns 18)) s:=fun s=>ZR ns 18 s (by decide)
 have c19:∀ s,zx [.ro (ns.map .int),.int 19] s=.ok (.int (j0 ns 19)) s:=fun s=>ZR ns 19 s (by decide)
 generalize j0 ns 18=c at *
 generalize j0 ns 19=c9 at *
 obtain⟨kvs,nd,t,e2,dr,hn,hnl,ok⟩:=zJV (ns:=ns) pN (by omega) (B:=[O.lst (N.map .str)]) (p:=0) rfl
 obtain⟨S1,hS1⟩:∃ S1,S1=[O.lst (N.map .str)]++O.dct kvs::t:=⟨_,rfl⟩
 rw[<- hS1] at e2 dr
 have g1:S1[1]? = some (.dct kvs):=by rw[hS1];rfl
 have g0:S1[0]? = some (.lst (N.map .str)):=by rw[hS1];rfl
 obtain⟨hk,g,e3,drh⟩:=zDA g1 dr hn (by omega)
 obtain⟨S2,hS2⟩:∃ S2,S2=S1++O.dct hk::g:=⟨_,rfl⟩
 rw[<- hS2] at e3 drh
 have p2:zj S1 S2:=by rw[hS2];exact zj.of _ _
 have gh:S2[S1.length]? = some (.dct hk):=by rw[hS2];exact zq
 obtain⟨sm,smL,l6⟩:=zK1 (c:=c) pN hN (p2.get g0) (v0:=some (.ro (ns.map .int))) (v2:=some (.ref 1)) (v3:=some (.ref S1.length))
 obtain⟨S3,hS3⟩:∃ S3,S3=S2++[O.lst (sm.map .str)]:=⟨_,rfl⟩
 rw[<- hS3] at l6
 have p3:zj S2 S3:=by rw[hS3];exact zj.of _ _
 have g3:S3[S2.length]? = some (.lst (sm.map .str)):=by rw[hS3];exact zq
 have ix0:atI (N.map D.str) 0=some (.str (N.getD 0 [])):=Qk (by omega) (by omega)
 have lN0:(N.getD 0 []).length <= 100:=by
  have:=hoN _ (Qc pN)
  omega
 obtain⟨S4,q,st,p4,gq,stL,l7⟩:∃ (S4:M.S) (q:Nat) (st:List T),zj S3 S4/\S4[q]? = some (.lst (st.map .str))/\st.length <= 4/\Z2 [some (.ro (ns.map .int)),some (.ref 0),some (.ref 1),some (.ref S1.length),some (.int c),some (.ref S2.length),none,none,none] S3=.nx [some (.ro (ns.map .int)),some (.ref 0),some (.ref 1),some (.ref S1.length),some (.int c),some (.ref q),none,none,none] S4:=by
  have k1:(0:Int) < 4/\(4:Int).natAbs < 1073741824:=by decide
  have k2:(0:Int) < 5:=by decide
  by_cases hc:c / 4 % 5=1
  ·have z1:(N.getD 0 []).length+([63]:T).length <= SZ:=by unfold SZ;show (N.getD 0 []).length+1 <= _;omega
   have z2:([D.str (N.getD 0 []++[63])]:List D).length <= SZ:=by unfold SZ;simp
   have z3:(sm.map D.str).length+([D.str (N.getD 0 []++[63])]:List D).length <= SZ:=by unfold SZ;simp;omega
   have ga:∀ g,(S3++g)[S2.length]? = some (.lst (sm.map .str)):=fun g=>zh g3 g
   have gb:(S3++[O.lst [D.str (N.getD 0 []++[63])]])[S3.length]? = some (.lst [D.str (N.getD 0 []++[63])]):=zq
   refine⟨(S3++[O.lst [D.str (N.getD 0 []++[63])]])++[O.lst (sm.map D.str++[D.str (N.getD 0 []++[63])])],(S3++[O.lst [D.str (N.getD 0 []++[63])]]).length,sm++[N.getD 0 []++[63]],by rw[List.append_assoc];exact zj.of _ _,by rw[List.map_append];exact zq,by simp;omega,?_⟩
   have i1:cEq (.int (c / 4 % 5)) (.int 1) S3=.ok true S3:=by rw[hc];rfl
   simp only[Z2,sIf,zr,eOp,zA,eC,List.getElem?_cons_succ,List.getElem?_cons_zero,R.bind_ok,qG,k1,and_self,if_true,zf,k2,i1,R.stm_ok,zS,Zf,zB,zG,zt,p3.get (p2.get g0),ix0,zy,z1,z2,alloc,ga,gb,z3,List.set_cons_succ,List.set_cons_zero]
  ·refine⟨S3,S2.length,sm,zj.refl _,g3,by omega,?_⟩
   have i1:cEq (.int (c / 4 % 5)) (.int 1) S3=.ok false S3:=by
    show R.ok (decide (c / 4 % 5=1)) S3=_
    rw[decide_eq_false hc]
   simp only[Z2,sIf,zr,eOp,zA,eC,List.getElem?_cons_succ,List.getElem?_cons_zero,R.bind_ok,qG,k1,and_self,if_true,zf,k2,i1,R.stm_ok,Bool.false_eq_true,if_false,je]
 have p24:=p3.trans p4
 have lS24:=p24.le
 have hone:=Int.emod_nonneg (c / 20) (b:=(N.length:Int)) (by omega)
 have hone2:=Int.emod_lt_of_pos (c / 20) (b:=(N.length:Int)) (by omega)
 have ixo:atI (N.map D.str) (c / 20 % (N.length:Int))=some (.str (N.getD (c / 20 % (N.length:Int)).toNat [])):=Qk hone hone2
 have oN:N.getD (c / 20 % (N.length:Int)).toNat []∈N:=Qc (by omega)
 generalize N.getD (c / 20 % (N.length:Int)).toNat []=one at *
 obtain⟨S5,hS5⟩:∃ S5,S5=S4++[O.lst []]:=⟨_,rfl⟩
 obtain⟨S7,hS7⟩:∃ S7,S7=S5++[O.lst [.str one],.lst [.ref q,.ref S5.length,.ref q]]:=⟨_,rfl⟩
 have lS5:S5.length=S4.length+1:=by rw[hS5];simp
 have lS7:S7.length=S4.length+3:=by rw[hS7];simp;omega
 have hq4:=(List.getElem?_eq_some_iff.mp gq).1
 have p45:zj S4 S5:=by rw[hS5];exact zj.of _ _
 have p57:zj S5 S7:=by rw[hS7];exact zj.of _ _
 have p47:=p45.trans p57
 have p27:=p24.trans p47
 have ge7:S7[S4.length]? = some (.lst []):=p57.get (by rw[hS5];exact zq)
 have go7:S7[S5.length]? = some (.lst ([one].map .str)):=by rw[hS7];exact zq
 have gl7:S7[S5.length+1]? = some (.lst [.ref q,.ref S5.length,.ref q]):=by rw[hS7,List.getElem?_append_right (by omega),show S5.length+1 - S5.length=1 by omega];rfl
 have lh:S1.length < S2.length:=(List.getElem?_eq_some_iff.mp gh).1
 have drn7:DR (msk S4.length S7) kvs nd:=dr.mono ((p2.trans (p27.set (by omega) _)).keep)
 have drh7:DR (msk S4.length S7) hk nd:=drh.mono ((p27.set (by omega) _).keep)
 have gn7:S7[1]? = some (.dct kvs):=p27.get (p2.get g1)
 have gh7:S7[S1.length]? = some (.dct hk):=p27.get gh
 have l1S:1 < S1.length:=(List.getElem?_eq_some_iff.mp g1).1
 have ok10:OkN N nd:=ok.mono (by omega)
 obtain⟨σ',s8,e10,hs,v8,eσ,G8,ge8,hI8,hsL⟩:=yq (g:=[(S5.length+1,O.lst [.ref q,.ref S5.length,.ref q])]) (f:=jr (zX 8) zIy)
  (fun j σ s=>∃ (hs:List D) (v8:Option D),σ=[some (.ro (ns.map .int)),some (.ref 0),some (.ref 1),some (.ref S1.length),some (.int c),some (.ref q),some (.ref S4.length),some (.str one),v8]/\Gro S4.length S7 s/\s[S4.length]? = some (.lst hs)/\HsI S4.length s hs/\hs.length=j)
  [.ref q,.ref S5.length,.ref q] 0 [some (.ro (ns.map .int)),some (.ref 0),some (.ref 1),some (.ref S1.length),some (.int c),some (.ref q),some (.ref S4.length),some (.str one),none] S7 ⟨[],none,rfl,zj.refl _,ge7,(fun d h=>by cases h),rfl⟩ fun j x hx σ s ⟨hs,v8,eσ,G,ge,hI,hL⟩=>by
   subst eσ
   rw[Nat.zero_add] at hL ⊢
   obtain⟨r,st',er,gr,hr,stl⟩:∃ (r:Nat) (st':List T),x=.ref r/\S7[r]? = some (.lst (st'.map .str))/\r≠S4.length/\st'.length <= 4:=by
    match j,hx with
    | 0,hx=>exact⟨q,st,by simpa using hx.symm,p47.get gq,by omega,stL⟩
    | 1,hx=>exact⟨S5.length,[one],by simpa using hx.symm,go7,by omega,by simp⟩
    | 2,hx=>exact⟨q,st,by simpa using hx.symm,p47.get gq,by omega,stL⟩
    | _+3,hx=>simp at hx
   subst er
   have hj:j < 3:=by
    have:=(List.getElem?_eq_some_iff.mp hx).1
    simpa using this
   obtain⟨X,a,b,s',e,G',ge',ga,gb,ea,eb,xl⟩:=zEQ (N:=N) (G.get (by omega) gn7) (drn7.mono (zj.keep G)) (G.get (by omega) gh7) (drh7.mono (zj.keep G)) hn ok10 (by omega) (by omega) (G.get hr gr) (by omega) hr ge (by omega)
   refine⟨[some (.ro (ns.map .int)),some (.ref 0),some (.ref 1),some (.ref S1.length),some (.int c),some (.ref q),some (.ref S4.length),some (.str one),some (.ref r)],s',?_,?_,hs++[.tup [.ref a,.ref b]],_,rfl,zj.trans G G',ge',fun d hd=>?_,by simp[hL]⟩
   ·simp only[jr,zX,List.set_cons_succ,List.set_cons_zero,zIy,sIf,ZK,jo,zH,zB,zG,zA,List.getElem?_cons_succ,List.getElem?_cons_zero,R.bind_ok,e,qk,Bool.not_true,R.stm_ok,Bool.false_eq_true,if_false,je]
   ·have:=Gro.get (zj.trans G G') (by omega) gl7
    simp only[zi,List.all_cons,List.all_nil,this,decide_true,Bool.and_self]
   ·rcases List.mem_append.mp hd with hd | hd
    ·exact HsI.mono hI G' d hd
    ·rw[List.mem_singleton.mp hd]
     exact⟨X,a,b,rfl,ga,gb,ea,eb⟩
 subst eσ
 have hs3:hs.length=3:=by simpa using hsL
 obtain⟨da,hr,ehs,⟨Xa,aa,ab,eda,_⟩⟩:∃ da hr,hs=da::hr/\∃ (X:List T) (a b:Nat),da=.tup [.ref a,.ref b]/\True:=by
  cases hs with
  | nil=>simp at hs3
  | cons d r =>
   obtain⟨X,a,b,h1,_⟩:=hI8 d (by simp)
   exact⟨d,r,rfl,X,a,b,h1,trivial⟩
 subst eda
 have gh8:=G8.get (show S1.length≠S4.length by omega) gh7
 have drh8:DR s8 hk nd:=(drh7.mono (zj.keep G8)).mono (zAL _ _)
 have g08:s8[0]? = some (.lst (N.map .str)):=G8.get (by omega) (p27.get (p2.get g0))
 obtain⟨r,er,gr⟩:=zHR gh8 drh8 one
 obtain⟨nl,nm⟩:=zKI hn ok one
 have hcut:cut (N.map D.str) none (some 2)=(N.take 2).map D.str:=by rw[zIS _ (by decide),<- List.map_take];rfl
 generalize nOf nd one=row at *
 have tl:(N.take 2).length <= 2:=by rw[List.length_take];omega
 have tm:∀ x∈N.take 2,x∈N:=fun x hx=>List.mem_of_mem_take hx
 generalize N.take 2=tw at *
 obtain⟨s9,hs9⟩:∃ s9,s9=s8++[O.lst [],.lst (tw.map .str),.lst ((row++tw).map .str)]:=⟨_,rfl⟩
 have p9:zj s8 s9:=by rw[hs9];exact zj.of _ _
 have g9:s9[s8.length+2]? = some (.lst ((row++tw).map .str)):=by rw[hs9,List.getElem?_append_right (by omega),show s8.length+2 - s8.length=2 by omega];rfl
 have hkl:hk.length < SZ:=by rw[drh8.length];unfold SZ;omega
 obtain⟨s10,hs10⟩:∃ s10,s10=s9.set S1.length (.dct (qN (.str one) (.ref (s8.length+2)) hk)):=⟨_,rfl⟩
 have gh9:=p9.get gh8
 have kp:qp s9 s10:=by rw[hs10];exact qp.set gh9 (fun _ z=>nomatch z)
 have gh10:s10[S1.length]? = some (.dct (qN (.str one) (.ref (s8.length+2)) hk)):=by rw[hs10];exact QT gh9
 have dr10:DR s10 (qN (.str one) (.ref (s8.length+2)) hk) (Zd one (row++tw) nd):=((drh8.mono p9.keep).mono kp).put (kp _ _ g9)
 have l11:Zv [some (.ro (ns.map .int)),some (.ref 0),some (.ref 1),some (.ref S1.length),some (.int c),some (.ref q),some (.ref S4.length),some (.str one),v8] s8=.nx [some (.ro (ns.map .int)),some (.ref 0),some (.ref 1),some (.ref S1.length),some (.int c),some (.ref q),some (.ref S4.length),some (.str one),v8] s10:=by
  have q0:∀ g,(s8++g)[0]? = some (.lst (N.map .str)):=fun g=>zh g08 g
  have qh:∀ g,(s8++g)[S1.length]? = some (.dct hk):=fun g=>zh gh8 g
  have qr:∀ g,(s8++O.lst []::g)[r]? = some (.lst (row.map .str)):=fun g=>by
   have:=zh gr g
   rwa [List.append_assoc] at this
  have q1:(s8++[O.lst [],.lst (tw.map .str)])[s8.length+1]? = some (.lst (tw.map .str)):=by rw[List.getElem?_append_right (by omega),show s8.length+1 - s8.length=1 by omega];rfl
  have lq0:=fun g=>zF4 (q0 g)
  have z:(row.map D.str).length+(tw.map D.str).length <= SZ:=by rw[List.length_map,List.length_map];unfold SZ;omega
  have gh9':=gh9
  rw[hs9] at gh9'
  simp only[Zv,qC,eOp,eM,zA,eC,List.getElem?_cons_succ,List.getElem?_cons_zero,R.bind_ok,Zz,gh8,if_true,zB,zG,Zf,List.length_nil,Nat.zero_le,alloc,zBq,qh,ji,er,eSl,ya,Q3,slD,lq0,hcut,List.length_append,List.length_cons,Nat.zero_add,Nat.reduceAdd,List.append_assoc,List.cons_append,List.nil_append,zy,qr,q1,z,R.stm_ok,q0,yZ,hkl,decide_true,Bool.and_self,hs10,hs9,List.map_append]
 have okn:OkN N (Zd one (row++tw) nd):=zD0 ok10 ⟨oN,by rw[List.length_append];omega,fun x hx=>by
  rcases List.mem_append.mp hx with hx | hx
  ·exact nm x hx
  ·exact tm x hx⟩
 have ndn:(zR (Zd one (row++tw) nd)).Nodup:=zBu hn
 generalize Zd one (row++tw) nd=nd' at *
 generalize qN (.str one) (.ref (s8.length+2)) hk=hk' at *
 have ndl:nd'.length <= 100:=by
  have h1:nd'.length=(zR nd').length:=by unfold zR;simp
  have:=ql (N:=N) ndn fun x hx=>by
   unfold zR at hx
   obtain⟨q,h1,rfl⟩:=List.mem_map.mp hx
   exact (okn q h1).1
  omega
 obtain⟨kk,g',e12,dr11⟩:=zDA gh10 dr10 ndn ndl
 obtain⟨s11,hs11⟩:∃ s11,s11=s10++O.dct kk::g':=⟨_,rfl⟩
 rw[<- hs11] at e12 dr11
 have p11:zj s10 s11:=by rw[hs11];exact zj.of _ _
 have gk11:s11[s10.length]? = some (.dct kk):=by rw[hs11];exact zq
 have kp811:∀ {r:Nat}{o:O},r≠S1.length->s8[r]? = some o->s11[r]? = some o:=fun {r o} hr g=>p11.get (by rw[hs10,jD hr];exact p9.get g)
 have ge11:=kp811 (show S4.length≠S1.length by omega) ge8
 have gq11:s11[q]? = some (.lst (st.map .str)):=by
  have gq8:=G8.get (show q≠S4.length by omega) (p47.get gq)
  refine kp811 (fun z=>?_) gq8
  rw[z,gh8] at gq8;cases gq8
 have hI11:HsI S4.length s11 hs:=fun d hd=>by
  obtain⟨X,a,b,h1,h2,h3,h4,h5⟩:=hI8 d hd
  refine⟨X,a,b,h1,kp811 (fun z=>?_) h2,kp811 (fun z=>?_) h3,h4,h5⟩
  ·rw[z,gh8] at h2;cases h2
  ·rw[z,gh8] at h3;cases h3
 rw[ehs] at ge11
 obtain⟨X,a,b,s12,e13,G12,ge12,ga,gb,ea,eb,xl⟩:=zEQ (N:=N) gk11 (dr11.msk ge11) (p11.get gh10) ((dr10.mono p11.keep).msk ge11) ndn okn (by omega) (by omega) gq11 (by omega) (by omega) ge11 (by rw[<- ehs];omega)
 rw[<- ehs] at ge12
 have hI12:HsI S4.length s12 (hs++[.tup [.ref a,.ref b]]):=fun d hd=>by
  rcases List.mem_append.mp hd with hd | hd
  ·exact HsI.mono hI11 G12 d hd
  ·rw[List.mem_singleton.mp hd]
   exact⟨X,a,b,rfl,ga,gb,ea,eb⟩
 have hl12:(hs++[D.tup [.ref a,.ref b]]).length=4:=by simp[hs3]
 generalize hs++[D.tup [.ref a,.ref b]]=hs' at *
 refine⟨s12,?_⟩
 have l14:QW [some (.ro (ns.map .int)),some (.ref 0),some (.ref s10.length),some (.ref S1.length),some (.int c),some (.ref q),some (.ref S4.length),some (.str one),v8] s12=.rt (.bl true) s12:=by
  have hG:zi [(S4.length,O.lst hs')] s12=true:=by simp only[zi,List.all_cons,List.all_nil,ge12,decide_true,Bool.and_self]
  have ec:yO 1 (iE (zA 6)) (zX 9) yu (QA cEq (eOp zt (zA 9) (eC (.int 0))) (eOp zt (zA 9) (eC (.int 1)))) [some (.ro (ns.map .int)),some (.ref 0),some (.ref s10.length),some (.ref S1.length),some (.int c),some (.ref q),some (.ref S4.length),some (.str one),v8] s12=.ok (hs'.map fun _=>.bl true) s12:=by
   refine zEa (g:=[(S4.length,.lst hs')]) _ (by
    simp only[iE,zA,List.getElem?_cons_succ,List.getElem?_cons_zero,R.bind_ok,itD,ge12]) (by unfold SZ;omega) hG fun x hx=>?_
   obtain⟨X,a,b,h1,h2,h3,_,_⟩:=hI12 x hx
   subst h1
   have q1:eqD (.ref a) (.ref b) s12=.ok true s12:=by rw[Qw h2 h3];simp
   have i0:∀ s,zt (.tup [.ref a,.ref b]) (.int 0) s=.ok (.ref a) s:=fun s=>rfl
   have i1:∀ s,zt (.tup [.ref a,.ref b]) (.int 1) s=.ok (.ref b) s:=fun s=>rfl
   simp only[qc,zX,List.cons_append,List.nil_append,List.replicate,List.set_cons_succ,List.set_cons_zero,yu,R.bind_ok,if_true,QA,eOp,zA,eC,List.getElem?_cons_succ,List.getElem?_cons_zero,i0,i1,cEq,q1]
  have ka:zBh (hs'.map fun _=>D.bl true) s12=.ok (.bl true) s12:=by
   have:=all_map (fun _:D=>true) hs' s12
   rw[this];simp
  simp only[QW,jq,JF,ec,R.bind_ok,ka,R.stm_ok]
 have l1:QY [some (.ro (ns.map .int)),none,none,none,none,none,none,none,none] []=.nx [some (.ro (ns.map .int)),some (.ref 0),none,none,none,none,none,none,none] [O.lst (N.map .str)]:=by
  simp[QY,hnm]
 have l2:QU [some (.ro (ns.map .int)),some (.ref 0),none,none,none,none,none,none,none] [O.lst (N.map .str)]=.nx [some (.ro (ns.map .int)),some (.ref 0),some (.ref 1),none,none,none,none,none,none] S1:=by
  simp only[QU,zS,zH,zB,zG,zA,eC,List.getElem?_cons_succ,List.getElem?_cons_zero,R.bind_ok,e2,R.stm_ok,List.set_cons_succ,List.set_cons_zero]
  rfl
 have l3:Qf [some (.ro (ns.map .int)),some (.ref 0),some (.ref 1),none,none,none,none,none,none] S1=.nx [some (.ro (ns.map .int)),some (.ref 0),some (.ref 1),some (.ref S1.length),none,none,none,none,none] S2:=by
  simp only[Qf,zS,zH,zB,zG,zA,List.getElem?_cons_succ,List.getElem?_cons_zero,R.bind_ok,e3,R.stm_ok,List.set_cons_succ,List.set_cons_zero]
 have l4:Qe [some (.ro (ns.map .int)),some (.ref 0),some (.ref 1),some (.ref S1.length),none,none,none,none,none] S2=.nx [some (.ro (ns.map .int)),some (.ref 0),some (.ref 1),some (.ref S1.length),none,none,none,none,none] S2:=by
  have k1:(0:Int) < 30/\(30:Int).natAbs < 1073741824:=by decide
  have k2:(0:Int) < 30:=by decide
  have i1:cEq (.int (c9 % 30)) (.int 7) S2=.ok (decide (c9 % 30=7)) S2:=rfl
  simp only[Qe,sIf,Q2,zr,eOp,zH,zB,zG,zA,eC,List.getElem?_cons_zero,R.bind_ok,c19,zf,k2,if_true,i1]
  cases decide (c9 % 30=7)<;>simp only[if_true,Bool.false_eq_true,if_false,ZK,jo,zH,zB,zG,eOp,zA,eC,List.getElem?_cons_zero,R.bind_ok,c19,qG,k1,and_self,zIt,qk,Bool.not_true,R.stm_ok,je]
 have l5:QV [some (.ro (ns.map .int)),some (.ref 0),some (.ref 1),some (.ref S1.length),none,none,none,none,none] S2=.nx [some (.ro (ns.map .int)),some (.ref 0),some (.ref 1),some (.ref S1.length),some (.int c),none,none,none,none] S2:=by
  simp only[QV,zS,zH,zB,zG,zA,eC,List.getElem?_cons_zero,R.bind_ok,c18,R.stm_ok,List.set_cons_succ,List.set_cons_zero]
 have l8:Q8 [some (.ro (ns.map .int)),some (.ref 0),some (.ref 1),some (.ref S1.length),some (.int c),some (.ref q),none,none,none] S4=.nx [some (.ro (ns.map .int)),some (.ref 0),some (.ref 1),some (.ref S1.length),some (.int c),some (.ref q),some (.ref S4.length),none,none] S5:=by
  rw[hS5];rfl
 have l9:QO [some (.ro (ns.map .int)),some (.ref 0),some (.ref 1),some (.ref S1.length),some (.int c),some (.ref q),some (.ref S4.length),none,none] S5=.nx [some (.ro (ns.map .int)),some (.ref 0),some (.ref 1),some (.ref S1.length),some (.int c),some (.ref q),some (.ref S4.length),some (.str one),none] S5:=by
  have k1:(0:Int) < 20/\(20:Int).natAbs < 1073741824:=by decide
  have hp:(0:Int) < (N.length:Nat):=by omega
  have g05:S5[0]? = some (.lst (N.map .str)):=p45.get (p24.get (p2.get g0))
  simp only[QO,zS,eOp,zH,zB,zG,zA,eC,List.getElem?_cons_succ,List.getElem?_cons_zero,R.bind_ok,qG,k1,and_self,if_true,qS,g05,zf,hp,zt,List.length_map,ixo,R.stm_ok,List.set_cons_succ,List.set_cons_zero]
 have l10:QQ [some (.ro (ns.map .int)),some (.ref 0),some (.ref 1),some (.ref S1.length),some (.int c),some (.ref q),some (.ref S4.length),some (.str one),none] S5=.nx [some (.ro (ns.map .int)),some (.ref 0),some (.ref 1),some (.ref S1.length),some (.int c),some (.ref q),some (.ref S4.length),some (.str one),v8] s8:=by
  have z1:([D.str one]:List D).length <= SZ:=by unfold SZ;simp
  have z3:([D.ref q,.ref S5.length,.ref q]:List D).length <= SZ:=by unfold SZ;simp
  have l6:(S5++[O.lst [D.str one]]).length=S5.length+1:=by simp
  have e7:(S5++[O.lst [D.str one]])++[O.lst [.ref q,.ref S5.length,.ref q]]=S7:=by rw[hS7];simp
  have hG:zi [(S5.length+1,O.lst [.ref q,.ref S5.length,.ref q])] S7=true:=by simp only[zi,List.all_cons,List.all_nil,gl7,decide_true,Bool.and_self]
  show (yh _ (zX 8) zIy) _ _=_
  simp only[yh,iE,Zf,zB,zG,zA,List.getElem?_cons_succ,List.getElem?_cons_zero,R.bind_ok,z1,if_true,alloc,z3,l6,e7,itD,gl7,R.stm_ok,hG]
  exact e10
 have l12:Zt [some (.ro (ns.map .int)),some (.ref 0),some (.ref 1),some (.ref S1.length),some (.int c),some (.ref q),some (.ref S4.length),some (.str one),v8] s10=.nx [some (.ro (ns.map .int)),some (.ref 0),some (.ref s10.length),some (.ref S1.length),some (.int c),some (.ref q),some (.ref S4.length),some (.str one),v8] s11:=by
  simp only[Zt,zS,zH,zB,zG,zA,List.getElem?_cons_succ,List.getElem?_cons_zero,R.bind_ok,e12,R.stm_ok,List.set_cons_succ,List.set_cons_zero]
 have l13:Zw [some (.ro (ns.map .int)),some (.ref 0),some (.ref s10.length),some (.ref S1.length),some (.int c),some (.ref q),some (.ref S4.length),some (.str one),v8] s11=.nx [some (.ro (ns.map .int)),some (.ref 0),some (.ref s10.length),some (.ref S1.length),some (.int c),some (.ref q),some (.ref S4.length),some (.str one),v8] s12:=by
  simp only[Zw,sIf,ZK,jo,zH,zB,zG,zA,List.getElem?_cons_succ,List.getElem?_cons_zero,R.bind_ok,e13,qk,Bool.not_true,R.stm_ok,Bool.false_eq_true,if_false,je]
 show (zK QY (zK QU (zK Qf (zK Qe (zK QV (zK Qj (zK Z2 (zK Q8 (zK QO (zK QQ (zK Zv (zK Zt (zK Zw QW)))))))))))) [some (.ro (ns.map .int)),none,none,none,none,none,none,none,none] []).out=_
 show ((QY _ _).then _).out=_
 rw[l1,RS.then_nx]
 show ((QU _ _).then _).out=_
 rw[l2,RS.then_nx]
 show ((Qf _ _).then _).out=_
 rw[l3,RS.then_nx]
 show ((Qe _ _).then _).out=_
 rw[l4,RS.then_nx]
 show ((QV _ _).then _).out=_
 rw[l5,RS.then_nx]
 show ((Qj _ _).then _).out=_
 rw[l6,RS.then_nx]
 show ((Z2 _ _).then _).out=_
 rw[l7,RS.then_nx]
 show ((Q8 _ _).then _).out=_
 rw[l8,RS.then_nx]
 show ((QO _ _).then _).out=_
 rw[l9,RS.then_nx]
 show ((QQ _ _).then _).out=_
 rw[l10,RS.then_nx]
 show ((Zv _ _).then _).out=_
 rw[l11,RS.then_nx]
 show ((Zt _ _).then _).out=_
 rw[l12,RS.then_nx]
 show ((Zw _ _).then _).out=_
 rw[l13,RS.then_nx,l14]
 rfl
end
end M
namespace My
open PySem L2 PyProof.Rows
def top (i:Nat):Stmt:=PySem.Challenge.pw_thingyard_k63_leaners.main.body.getD i (.Pass ⟨0,0,0,0⟩)
abbrev Θ0:Tab:=fun _=>none
theorem vv {X:Cx}{Θ:Tab}{pos:Pos}{x:Str} (i:Nat) (h1:X.N[i]? = some x:=by rfl) (h2:Vis X.env.scope x:=by exact Or.inl (by kernel_rfl)) (h3:(x == ("__debug__" : Str))=false:=by kernel_rfl) (h4:(x == ("__classdict__" : Str))=false:=by kernel_rfl):WE X Θ (.Name x pos) (M.zA i):=zEq i h1 h2 h3 h4
theorem vc {X:Cx}{Θ:Tab}{pos:Pos}{x:Str} (i:Nat) (h1:X.N[i]? = some x:=by rfl) (h2:Vis X.env.scope x:=by exact Or.inr (Or.inl (by kernel_rfl))) (h3:(x == ("__debug__" : Str))=false:=by kernel_rfl) (h4:(x == ("__classdict__" : Str))=false:=by kernel_rfl):WE X Θ (.Name x pos) (M.zA i):=zEq i h1 h2 h3 h4
theorem zz {X:Cx}{Θ:Tab}{pos:Pos}{y:M.T}{x:Str}{j:Nat} (h:x=ofT y:=by decide +kernel) (ok:okT y:=by decide +kernel):WE X Θ (.Constant (.str x) j pos) (M.eC (.str y)):=zJO h ok
theorem gk {X:Cx}{x:Str} (h:X.env.kindOf x=some .globalImplicit:=by kernel_rfl):Gl X x:=h
abbrev cX (P:Program) (w:World) (K:PySem.W.Frag) (mg:Str->Option Value) (base:Heap) (N:List Str) (n:Str) (st:Stmt) (f:Addr) (cdv:Value) (A:Around) (outer:List Env) (s:Shared) (H:Hp) (E:XK):Cx:=(JQ CX0 P w K mg base N n (zQ st) f cdv A outer s H E).nox
abbrev RM (k:Nat) (n:Str) (st:Stmt) (A:Around) (s:Shared) (f:Addr) (cdv:Value):Prop:=jN k (A.deeper (envOfC n (zQ st) s.heap.objs.size f cdv))
abbrev bd (st:Stmt) (j:Nat):Stmt:=(jI st).getD j (.Pass ⟨0,0,0,0⟩)
section
variable (P:Program) (w:World) (K:PySem.W.Frag) (mg:Str->Option Value) (base:Heap)
abbrev qD:Prop:=Has P w K mg base "_law_cell" 1 ["_law_script","_law_k"] (SpM K Θ0 2 M.zx)
abbrev jf:Prop:=Has P w K mg base "_law_mixed" 1 ["_law_cell_here","_law_k"] (SpM K Θ0 2 M.zW)
abbrev Jo:Prop:=Has P w K mg base "_law_name" 2 ["_law_cell_here","_law_taken"] (SpM K Θ0 2 M.jU)
abbrev JH:Prop:=Has P w K mg base "_law_names" 3 ["_law_script","_law_base"] (SpM K Θ0 2 M.qH)
abbrev zAW:Prop:=Has P w K mg base "_law_row" 2 ["_law_cell_here","_law_k","_law_shape","_law_names_here"] (SpM K Θ0 4 M.yL)
abbrev JK:Prop:=Has P w K mg base "_law_needs" 3 ["_law_script","_law_base","_law_names_here"] (SpM K Θ0 3 M.QH)
abbrev Zp:Prop:=Has P w K mg base "_law_copied" 1 ["_law_needs_here"] (SpM K Θ0 1 M.y6)
abbrev zAe:Prop:=Has P w K mg base "_law_due" 1 ["_law_needs_here","_law_names_here"] (SpM K Θ0 2 M.QC)
abbrev JI:Prop:=Has P w K mg base "needers_of" 1 ["needs"] (SpM K Θ0 1 M.QF)
abbrev Qu:Prop:=Has P w K mg base "leaners" 2 ["needs","names"] (SpM K Θ0 2 M.yM)
abbrev Q0:Prop:=Has P w K mg base "_law_stayed" 1 ["_law_handed","_law_needs_here"] (SpM K Θ0 2 M.y0)
abbrev QE:Prop:=Has P w K mg base "_law_right" 3 ["_law_needs_here","_law_handed","_law_names_here","_law_held"] (SpM K Θ0 4 M.yn)
abbrev ZT:Prop:=Has P w K mg base "_law_chain_right" 3 ["_law_cell_here"] (SpM K Θ0 1 M.qf)
end
variable {P:Program}{w:World}{K:PySem.W.Frag}{mg:Str->Option Value}{base:Heap}{f:Addr}{fd:FuncData}{cdv:Value}{A:Around}{outer:List Env}{s:Shared}{H:Hp}{E:XK}
abbrev ZC:Stmt:=top 4
abbrev zFg:List Str:=["_law_script","_law_k"]
theorem zFE:jj zFg ["_law_script","_law_k"] (zQ ZC):=⟨rfl,rfl,rfl,by decide +kernel,rfl,by decide +kernel,by decide +kernel⟩
theorem zE1 (F:Fun K "_law_cell" "_law_cell" ZC f fd) (jM:mg "len" = none) :
  qE P w K mg base CX0 1 f fd ["_law_script","_law_k"] (SpM K Θ0 2 M.zx):=by
 refine ZZ (b:=M.Zj) F zFE M.zFB fun cdv A outer s H E hr=>?_
 unfold M.Zj
 exact (zE (j8 (jd zNs zNa (vv 1) (z7 qe ZN gk jM ZJ (zC (vv 0) zI)) (qJ _))
  (zP (jH (jz (yx hr) qo (vv 0) (vv 1))))
  jl)
  (zP (jH zF)))
abbrev yd:Stmt:=top 5
abbrev zD3:List Str:=["_law_cell_here","_law_k"]
theorem zDc:jj zD3 ["_law_cell_here","_law_k"] (zQ yd):=⟨rfl,rfl,rfl,by decide +kernel,rfl,by decide +kernel,by decide +kernel⟩
theorem zDk (F:Fun K "_law_mixed" "_law_mixed" yd f fd) :
  qE P w K mg base CX0 1 f fd ["_law_cell_here","_law_k"] (SpM K Θ0 2 M.zW):=by
 refine ZZ (b:=M.QJ) F zDc M.zDh fun cdv A outer s H E hr=>?_
 unfold M.QJ
 exact (zP (jH (zL jh jG (zL zAy zA5 (zL (OpR.or qO jX) j1 (vv 0) (zL zAy zA5 zF (vv 1))) zF) zF)))
abbrev zk:Stmt:=top 6
abbrev yS:List Str:=["_law_cell_here","_law_taken","_law_signs","_law_left","_law_found","_law_at"]
theorem qK:jj yS ["_law_cell_here","_law_taken"] (zQ zk):=⟨rfl,rfl,rfl,by decide +kernel,rfl,by decide +kernel,by decide +kernel⟩
theorem zC0:(["_law_cell_here","_law_taken","_law_signs","_law_left","_law_found","_law_at","_law_j"]:List Str).Nodup:=by decide +kernel
theorem zCr (hr:RM 1 "_law_name" zk A s f cdv):WS (cX P w K mg base yS "_law_name" zk f cdv A outer s H E) Θ0 (bd zk 0) M.yI:=by
 unfold M.yI
 exact (zU (i:=2) qK.nd rfl (Or.inr (by kernel_rfl)) zz)
theorem zCh (zT:jf P w K mg base) (hr:RM 1 "_law_name" zk A s f cdv):WS (cX P w K mg base yS "_law_name" zk f cdv A outer s H E) Θ0 (bd zk 1) M.yF:=by
 unfold M.yF
 exact (zU (i:=3) qK.nd rfl (Or.inl (by kernel_rfl)) (zm zT hr (by decide) gk (zC (vc 0) (zC zF zI)) (zO (zO jJ))))
theorem zCc (zT:jf P w K mg base) (zn:mg "range" = none) (hr:RM 1 "_law_name" zk A s f cdv):WS (cX P w K mg base yS "_law_name" zk f cdv A outer s H E) Θ0 (bd zk 2) M.yG:=by
 unfold M.yG
 exact (zU (i:=4) qK.nd rfl (Or.inl (by kernel_rfl)) (zGU (by decide +kernel) (vars:=["_law_j"]) rfl ⟨rfl,rfl,(by kernel_rfl),(by kernel_rfl),(by decide +kernel),⟨(by kernel_rfl),(by kernel_rfl),trivial⟩,(by kernel_rfl)⟩ (qd gk zn (zL jh jG (vv 3) zF)) (fun _ _ _ _=>(jE (i:=6) zC0 rfl (Or.inl (by kernel_rfl)) (.inr (by kernel_rfl)))) (fun _ _ _ _=>Qb) (fun _ _ _ _=>(jz (yx hr) qo (vc 2) (zL jh jG (zm zT hr (by decide) gk (zC (vc 0) (zC (vv 6) zI)) (zO (zO jJ))) zF))) (by kernel_rfl) (fun ρ H S ds ys p Q rp r hq h=>zJQ (by decide +kernel) ρ H S ds ys p Q rp r (.inl hq) h)))
theorem zCZ (jM:mg "len" = none) (hr:RM 1 "_law_name" zk A s f cdv):WS (cX P w K mg base yS "_law_name" zk f cdv A outer s H E) Θ0 (bd zk 3) M.j5:=by
 unfold M.j5
 exact (j8 (QR (zBc (yt (vv 1)) (JB (jd zG9 zDv (zL jh jG (vc 0) zF) zF (qJ _)))))
  (zE (zU (i:=4) qK.nd rfl (Or.inl (by kernel_rfl)) (jz (yx hr) qo (vv 1) (zL jh jG (vv 3) (z7 qe ZN gk jM ZJ (zC (vv 1) zI)))))
  (zE (zU (i:=4) qK.nd rfl (Or.inl (by kernel_rfl)) (zL (OpR.or qO jX) j1 (vv 4) (Qg zBj zAH zz (yQ (z7 qe ZN gk jM ZJ (zC (vv 4) zI))) Qv)))
  (zE (zU (i:=5) qK.nd rfl (Or.inl (by kernel_rfl)) (zL jh jG (zL QD ZP (vv 3) zF) (z7 qe ZN gk jM ZJ (zC (vv 4) zI))))
  (zP (zU (i:=4) qK.nd rfl (Or.inl (by kernel_rfl)) (zL (OpR.or qO jX) j1 (zL (OpR.or qO jX) j1 (Qg zBj zAH (vv 4) Qv (yQ (vv 5))) (jz (yx hr) qo (vc 2) (zL jh jG (zL QD ZP (vv 3) zF) zF))) (Qg zBj zAH (vv 4) (yQ (zL (OpR.or qO jX) j1 (vv 5) zF)) Qv)))))))
  jl)
theorem zCg (zT:jf P w K mg base) (jM:mg "len" = none) (hr:RM 1 "_law_name" zk A s f cdv):WS (cX P w K mg base yS "_law_name" zk f cdv A outer s H E) Θ0 (bd zk 4) M.Zo:=by
 unfold M.Zo
 exact (zAU PassesOwn.never (jd (zEl hr) zG0 (vv 4) (vv 1) (by rfl))
  (zP (zU (i:=4) qK.nd rfl (Or.inl (by kernel_rfl)) (zL (OpR.or qO jX) j1 (vv 4) (jz (yx hr) qo (vc 2) (zL jh jG (zm zT hr (by decide) gk (zC (vc 0) (zC (z7 qe ZN gk jM ZJ (zC (vv 4) zI)) zI)) (zO (zO jJ))) zF))))))
theorem zCn (hr:RM 1 "_law_name" zk A s f cdv):WS (cX P w K mg base yS "_law_name" zk f cdv A outer s H E) Θ0 (bd zk 5) M.y8:=by
 unfold M.y8
 exact (jH (vv 4))
theorem zEu (F:Fun K "_law_name" "_law_name" zk f fd) (zT:jf P w K mg base) (jM:mg "len" = none) (zn:mg "range" = none) :
  qE P w K mg base CX0 2 f fd ["_law_cell_here","_law_taken"] (SpM K Θ0 2 M.jU):=by
 refine ZZ (b:=M.Ji) F qK M.zE7 fun cdv A outer s H E hr=>?_
 unfold M.Ji
 exact (zE (zCr hr) (zE (zCh zT hr) (zE (zCc zT zn hr) (zE (zCZ jM hr) (zE (zCg zT jM hr) (zP (zCn hr)))))))
abbrev zd:Stmt:=top 7
abbrev q9:List Str:=["_law_script","_law_base","_law_first","_law_many","_law_taken","_law_k"]
theorem yJ:jj q9 ["_law_script","_law_base"] (zQ zd):=⟨rfl,rfl,rfl,by decide +kernel,rfl,by decide +kernel,by decide +kernel⟩
theorem zB5 (zg:qD P w K mg base) (hr:RM 2 "_law_names" zd A s f cdv):WS (cX P w K mg base q9 "_law_names" zd f cdv A outer s H E) Θ0 (bd zd 0) M.qV:=by
 unfold M.qV
 exact (zU (i:=2) yJ.nd rfl (Or.inl (by kernel_rfl)) (zm zg hr (by decide) gk (zC (vv 0) (zC (vv 1) zI)) (zO (zO jJ))))
theorem zBz (hr:RM 2 "_law_names" zd A s f cdv):WS (cX P w K mg base q9 "_law_names" zd f cdv A outer s H E) Θ0 (bd zd 1) M.qa:=by
 unfold M.qa
 exact (zU (i:=3) yJ.nd rfl (Or.inl (by kernel_rfl)) (zL (OpR.or qO jX) j1 zF (zL jh jG (vv 2) zF)))
theorem zB9 (hr:RM 2 "_law_names" zd A s f cdv):WS (cX P w K mg base q9 "_law_names" zd f cdv A outer s H E) Θ0 (bd zd 2) M.qb:=by
 unfold M.qb
 exact (j8 (jd (yc hr) ZY (zL jh jG (zL QD ZP (vv 2) zF) zF) zF (qJ _))
  (zP (zU (i:=3) yJ.nd rfl (Or.inl (by kernel_rfl)) (zL (OpR.or qO jX) j1 zF (zL jh jG (zL QD ZP (vv 2) zF) zF))))
  jl)
theorem zB1 (hr:RM 2 "_law_names" zd A s f cdv):WS (cX P w K mg base q9 "_law_names" zd f cdv A outer s H E) Θ0 (bd zd 3) M.qU:=by
 unfold M.qU
 exact (zU (i:=4) yJ.nd rfl (Or.inl (by kernel_rfl)) (yw zI))
theorem zCM (zg:qD P w K mg base) (Zl:Jo P w K mg base) (zT:jf P w K mg base) (zn:mg "range" = none) (hr:RM 2 "_law_names" zd A s f cdv):WS (cX P w K mg base q9 "_law_names" zd f cdv A outer s H E) Θ0 (bd zd 4) M.qY:=by
 unfold M.qY
 exact (QP PassesOwn.never rfl (qd gk zn (vv 3)) (jE (i:=5) yJ.nd rfl (Or.inl (by kernel_rfl)) (.inl rfl))
  (zP (JX (Jz PySem.F.plainAttrs_list PySem.F.slot_list_append PySem.F.type_list_append JW Ja rfl (vv 4) (zC (zm Zl hr (by decide) gk (zC (zm zT hr (by decide) gk (zC (zm zg hr (by decide) gk (zC (vv 0) (zC (zL (OpR.or qO jX) j1 (zL (OpR.or qO jX) j1 (vv 1) zF) (zL jh jG (vv 5) zF)) zI)) (zO (zO jJ))) (zC (vv 5) zI)) (zO (zO jJ))) (zC (vv 4) zI)) (zO (zO jJ))) zI)))))
theorem zCQ (hr:RM 2 "_law_names" zd A s f cdv):WS (cX P w K mg base q9 "_law_names" zd f cdv A outer s H E) Θ0 (bd zd 5) M.yg:=by
 unfold M.yg
 exact (jH (vv 4))
theorem zDa (F:Fun K "_law_names" "_law_names" zd f fd) (zg:qD P w K mg base) (Zl:Jo P w K mg base) (zT:jf P w K mg base) (zn:mg "range" = none) :
  qE P w K mg base CX0 3 f fd ["_law_script","_law_base"] (SpM K Θ0 2 M.qH):=by
 refine ZZ (b:=M.JL) F yJ M.zDp fun cdv A outer s H E hr=>?_
 unfold M.JL
 exact (zE (zB5 zg hr) (zE (zBz hr) (zE (zB9 hr) (zE (zB1 hr) (zE (zCM zg Zl zT zn hr) (zP (zCQ hr)))))))
abbrev Zc:Stmt:=top 8
abbrev zGh:List Str:=["_law_cell_here","_law_k","_law_shape","_law_names_here","_law_row_here"]
theorem Jk:jj zGh ["_law_cell_here","_law_k","_law_shape","_law_names_here"] (zQ Zc):=⟨rfl,rfl,rfl,by decide +kernel,rfl,by decide +kernel,by decide +kernel⟩
theorem zDm:(["_law_cell_here","_law_k","_law_shape","_law_names_here","_law_row_here","_law_j"]:List Str).Nodup:=by decide +kernel
theorem zDo:(["_law_cell_here","_law_k","_law_shape","_law_names_here","_law_row_here","_law_j"]:List Str).Nodup:=by decide +kernel
theorem zFf (F:Fun K "_law_row" "_law_row" Zc f fd) (zT:jf P w K mg base) (zn:mg "range" = none) (Jb:mg "max" = none) (jM:mg "len" = none) (zHF:mg "int" = none) :
  qE P w K mg base CX0 2 f fd ["_law_cell_here","_law_k","_law_shape","_law_names_here"] (SpM K Θ0 4 M.yL):=by
 refine ZZ (b:=M.yy) F Jk M.zFV fun cdv A outer s H E hr=>?_
 unfold M.yy
 exact (zE (j8 (jd (yc hr) ZY (vv 2) zF (qJ _))
  (zP (jH (zAt (vars:=["_law_j"]) rfl ⟨rfl,rfl,(by kernel_rfl),(by kernel_rfl),(by decide +kernel),⟨(by kernel_rfl),(by kernel_rfl),(by kernel_rfl),trivial⟩,(by kernel_rfl)⟩ (qd gk zn (zL zAy zA5 (zL jh jG (vc 0) zF) (qu zHb zMl gk zHF zLm (zC (Qn zG9 zDv (vc 1) zF (qJ _)) zI)))) (fun _ _ _ _=>(jE (i:=5) zDo rfl (Or.inl (by kernel_rfl)) (.inr (by kernel_rfl)))) (fun _ _ _ _=>Qb) (fun _ _ _ _=>(jz (yx hr) qo (vc 3) (zL jh jG (zm zT hr (by decide) gk (zC (vc 0) (zC (zL (OpR.or qO jX) j1 zF (vv 5)) zI)) (zO (zO jJ))) (vc 1)))) (by kernel_rfl))))
  jl)
  (zE (j8 (jd (yc hr) ZY (vv 2) zF (qJ _))
  (zE (zU (i:=4) Jk.nd rfl (Or.inl (by kernel_rfl)) (Qg zBj zAH (vc 3) (yQ (z7 (zDB rfl) zF2 gk Jb zH1 (zC zF (zC (zL zHB zEb (vc 1) zF) zI)))) (yQ (vc 1))))
  (zE (j8 (jd (yc hr) ZY (zL jh jG (vc 0) zF) zF (qJ _))
  (zP (zU (i:=4) Jk.nd rfl (Or.inl (by kernel_rfl)) (zL (OpR.or qO jX) j1 (vv 4) (yw (zC (jz (yx hr) qo (vc 3) (zL zHB zEb (z7 qe ZN gk jM ZJ (zC (vc 3) zI)) zF)) zI)))))
  jl)
  (zP (jH (vv 4)))))
  jl)
  (zP (jH (zAt (vars:=["_law_j"]) rfl ⟨rfl,rfl,(by kernel_rfl),(by kernel_rfl),(by decide +kernel),⟨(by kernel_rfl),(by kernel_rfl),trivial⟩,(by kernel_rfl)⟩ (qd gk zn (zL jh jG (vc 0) zF)) (fun _ _ _ _=>(jE (i:=5) zDm rfl (Or.inl (by kernel_rfl)) (.inr (by kernel_rfl)))) (fun _ _ _ _=>Qb) (fun _ _ _ _=>(jz (yx hr) qo (vc 3) (zL jh jG (zm zT hr (by decide) gk (zC (vc 0) (zC (zL (OpR.or qO jX) j1 zF (vv 5)) zI)) (zO (zO jJ))) (z7 qe ZN gk jM ZJ (zC (vc 3) zI))))) (by kernel_rfl))))))
abbrev zu:Stmt:=top 9
abbrev yb:List Str:=["_law_script","_law_base","_law_names_here","_law_shape","_law_needs_here","_law_k","_law_cell_here"]
theorem ZA:jj yb ["_law_script","_law_base","_law_names_here"] (zQ zu):=⟨rfl,rfl,rfl,by decide +kernel,rfl,by decide +kernel,by decide +kernel⟩
theorem zCO (zg:qD P w K mg base) (hr:RM 2 "_law_needs" zu A s f cdv):WS (cX P w K mg base yb "_law_needs" zu f cdv A outer s H E) Θ0 (bd zu 0) M.q8:=by
 unfold M.q8
 exact (zU (i:=3) ZA.nd rfl (Or.inl (by kernel_rfl)) (zL jh jG (zm zg hr (by decide) gk (zC (vv 0) (zC (vv 1) zI)) (zO (zO jJ))) zF))
theorem zBw (hr:RM 2 "_law_needs" zu A s f cdv):WS (cX P w K mg base yb "_law_needs" zu f cdv A outer s H E) Θ0 (bd zu 1) M.qz:=by
 unfold M.qz
 exact (zU (i:=4) ZA.nd rfl (Or.inl (by kernel_rfl)) yp)
theorem zBt (zg:qD P w K mg base) (zT:jf P w K mg base) (QM:zAW P w K mg base) (zn:mg "range" = none) (jM:mg "len" = none) (hr:RM 2 "_law_needs" zu A s f cdv):WS (cX P w K mg base yb "_law_needs" zu f cdv A outer s H E) Θ0 (bd zu 2) M.qT:=by
 unfold M.qT
 exact (QP PassesOwn.never rfl (qd gk zn (z7 qe ZN gk jM ZJ (zC (vv 2) zI))) (jE (i:=5) ZA.nd rfl (Or.inl (by kernel_rfl)) (.inl rfl))
  (zE (zU (i:=6) ZA.nd rfl (Or.inl (by kernel_rfl)) (zm zT hr (by decide) gk (zC (zm zg hr (by decide) gk (zC (vv 0) (zC (zL (OpR.or qO jX) j1 (zL (OpR.or qO jX) j1 (vv 1) zF) (zL jh jG (vv 5) zF)) zI)) (zO (zO jJ))) (zC (vv 5) zI)) (zO (zO jJ))))
  (zP (j8 (QR (zCv (jd zG9 zDv (zL jh jG (zL QD ZP (vv 6) zF) zF) zF (qJ _)) (Jf (jd (yc hr) ZY (vv 3) zF (qJ _)))))
  (zP (ZM hr (vv 4) (jz (yx hr) qo (vv 2) (vv 5)) (zm QM hr (by decide) gk (zC (vv 6) (zC (vv 5) (zC (vv 3) (zC (vv 2) zI)))) (zO (zO (zO (zO jJ)))))))
  jl))))
theorem zCA (hr:RM 2 "_law_needs" zu A s f cdv):WS (cX P w K mg base yb "_law_needs" zu f cdv A outer s H E) Θ0 (bd zu 3) M.yo:=by
 unfold M.yo
 exact (jH (vv 4))
theorem zDg (F:Fun K "_law_needs" "_law_needs" zu f fd) (zg:qD P w K mg base) (zT:jf P w K mg base) (QM:zAW P w K mg base) (zn:mg "range" = none) (jM:mg "len" = none) :
  qE P w K mg base CX0 3 f fd ["_law_script","_law_base","_law_names_here"] (SpM K Θ0 3 M.QH):=by
 refine JC (N:=yb) (b:=M.JR) F ZA fun cdv A outer s H E hr=>?_
 unfold M.JR
 exact (zE (zCO zg hr) (zE (zBw hr) (zE (zBt zg zT QM zn jM hr) (zP (zCA hr)))))
abbrev yH:Stmt:=top 10
abbrev zAm:List Str:=["_law_needs_here","_law_made","_law_name_here","_law_others"]
theorem ZX:jj zAm ["_law_needs_here"] (zQ yH):=⟨rfl,rfl,rfl,by decide +kernel,rfl,by decide +kernel,by decide +kernel⟩
theorem zC1 (F:Fun K "_law_copied" "_law_copied" yH f fd) (jW:mg "list" = none) :
  qE P w K mg base CX0 1 f fd ["_law_needs_here"] (SpM K Θ0 1 M.y6):=by
 refine JC (N:=zAm) (b:=M.y9) F ZX fun cdv A outer s H E hr=>?_
 unfold M.y9
 exact (zE (zU (i:=1) ZX.nd rfl (Or.inl (by kernel_rfl)) yp)
  (zE (zAl PassesOwn.never rfl (vv 0) (zDP (n:=2) rfl (Q4 (jE (i:=2) ZX.nd rfl (Or.inl (by kernel_rfl)) (.inl rfl)) (Q4 (jE (i:=3) ZX.nd rfl (Or.inl (by kernel_rfl)) (.inl rfl)) zDK (fun a b=>zAF a b)) (fun a b=>zAF a b)) (zJs))
  (zP (ZM hr (vv 1) (vv 2) (qu (Za hr) JA gk jW Z6 (zC (vv 3) zI)))))
  (zP (jH (vv 1)))))
abbrev jC:Stmt:=top 12
abbrev QG:List Str:=["_law_needs_here","_law_names_here","_law_found","_law_going","_law_name_here","_law_others","_law_some"]
theorem qv:jj QG ["_law_needs_here","_law_names_here"] (zQ jC):=⟨rfl,rfl,rfl,by decide +kernel,rfl,by decide +kernel,by decide +kernel⟩
theorem zDb:(["_law_needs_here","_law_names_here","_law_found","_law_going","_law_name_here","_law_others","_law_some","_law_one"]:List Str).Nodup:=by decide +kernel
theorem zDY (hr:RM 0 "_law_due" jC A s f cdv):WS (cX P w K mg base QG "_law_due" jC f cdv A outer s H E) Θ0 (bd jC 0) M.yi:=by
 unfold M.yi
 exact (zU (i:=2) qv.nd rfl (Or.inr (by kernel_rfl)) yp)
theorem zDn (hr:RM 0 "_law_due" jC A s f cdv):WS (cX P w K mg base QG "_law_due" jC f cdv A outer s H E) Θ0 (bd jC 1) M.yf:=by
 unfold M.yf
 exact (zU (i:=3) qv.nd rfl (Or.inl (by kernel_rfl)) yj)
theorem zDi (hr:RM 0 "_law_due" jC A s f cdv):WS (cX P w K mg base QG "_law_due" jC f cdv A outer s H E) Θ0 (bd jC 2) M.yk:=by
 unfold M.yk
 exact (zAU PassesOwn.never (yt (vv 3))
  (zE (zU (i:=3) qv.nd rfl (Or.inl (by kernel_rfl)) yj)
  (zP (zAl PassesOwn.never rfl (vv 0) (zDP (n:=2) rfl (Q4 (jE (i:=4) qv.nd rfl (Or.inl (by kernel_rfl)) (.inl rfl)) (Q4 (jE (i:=5) qv.nd rfl (Or.inl (by kernel_rfl)) (.inl rfl)) zDK (fun a b=>zAF a b)) (fun a b=>zAF a b)) (zJs))
  (zE (JJ (vars:=["_law_one"]) (i:=6) rfl ⟨rfl,rfl,(by kernel_rfl),(by kernel_rfl),(by decide +kernel),⟨(by kernel_rfl),(by kernel_rfl),trivial⟩,(by kernel_rfl)⟩ qv.nd rfl (Or.inl (by kernel_rfl)) (zAr (vv 5)) (fun _ _ _ _=>(jE (i:=7) zDb rfl (Or.inl (by kernel_rfl)) (.inr (by kernel_rfl)))) (fun _ _ _ _=>(zH0 (QR (zCv (jd (zEl hr) zG0 (vv 7) (vc 1) (by rfl)) (Jf (jd (zEl hr) zG0 (vv 7) (vc 2) (by rfl))))))) (fun _ _ _ _=>(vv 7)) (by kernel_rfl))
  (zP (j8 (QR (zBc (yt (vv 6)) (JB (jd (zAu hr) zBm (vv 4) (vc 2) (by rfl)))))
  (zE (ZM hr (vc 2) (vv 4) yj)
  (zP (zU (i:=3) qv.nd rfl (Or.inl (by kernel_rfl)) yj)))
  jl)))))))
theorem zDl (j6:mg "sorted" = none) (hr:RM 0 "_law_due" jC A s f cdv):WS (cX P w K mg base QG "_law_due" jC f cdv A outer s H E) Θ0 (bd jC 3) M.ZI:=by
 unfold M.ZI
 exact (jH (z7 (zBB hr) zCW gk j6 zA7 (zC (vc 2) zI)))
theorem zFO (F:Fun K "_law_due" "_law_due" jC f fd) (j6:mg "sorted" = none) :
  qE P w K mg base CX0 1 f fd ["_law_needs_here","_law_names_here"] (SpM K Θ0 2 M.QC):=by
 refine ZZ (b:=M.zAf) F qv M.zFY fun cdv A outer s H E hr=>?_
 unfold M.zAf
 exact (zE (zDY hr) (zE (zDn hr) (zE (zDi hr) (zP (zDl j6 hr)))))
abbrev ye:Stmt:=top 1
abbrev zBA:List Str:=["needs","needers","name","needed"]
theorem Zn:jj zBA ["needs"] (zQ ye):=⟨rfl,rfl,rfl,by decide +kernel,rfl,by decide +kernel,by decide +kernel⟩
theorem zDj (F:Fun K "needers_of" "needers_of" ye f fd) :
  qE P w K mg base CX0 1 f fd ["needs"] (SpM K Θ0 1 M.QF):=by
 refine JC (N:=zBA) (b:=M.ZO) F Zn fun cdv A outer s H E hr=>?_
 unfold M.ZO
 exact (zE (zU (i:=1) Zn.nd rfl (Or.inl (by kernel_rfl)) yp)
  (zE (zA6 PassesOwn.never rfl (vv 0) (jE (i:=2) Zn.nd rfl (Or.inl (by kernel_rfl)) (.inl rfl))
  (zP (QP PassesOwn.never rfl (zAr (jz (yx hr) qo (vv 0) (vv 2))) (jE (i:=3) Zn.nd rfl (Or.inl (by kernel_rfl)) (.inl rfl))
  (zE (j8 (jd (zAu hr) zBm (vv 3) (vv 1) (by rfl))
  (zP (ZM hr (vv 1) (vv 3) yp))
  jl)
  (zP (ZM hr (jz (yx hr) qo (vv 1) (vv 3)) (vv 2) yj))))))
  (zP (jH (vv 1)))))
abbrev jA:Stmt:=top 2
abbrev Z0:List Str:=["needs","names","needers","leaning","todo","name","needer"]
theorem Zb:jj Z0 ["needs","names"] (zQ jA):=⟨rfl,rfl,rfl,by decide +kernel,rfl,by decide +kernel,by decide +kernel⟩
theorem zEH (ZU:JI P w K mg base) (hr:RM 1 "leaners" jA A s f cdv):WS (cX P w K mg base Z0 "leaners" jA f cdv A outer s H E) Θ0 (bd jA 0) M.yU:=by
 unfold M.yU
 exact (zU (i:=2) Zb.nd rfl (Or.inl (by kernel_rfl)) (zm ZU hr (by decide) gk (zC (vv 0) zI) (zO jJ)))
theorem zE2 (hr:RM 1 "leaners" jA A s f cdv):WS (cX P w K mg base Z0 "leaners" jA f cdv A outer s H E) Θ0 (bd jA 1) M.ZE:=by
 unfold M.ZE
 exact (zU (i:=3) Zb.nd rfl (Or.inl (by kernel_rfl)) yp)
theorem zEm (jW:mg "list" = none) (hr:RM 1 "leaners" jA A s f cdv):WS (cX P w K mg base Z0 "leaners" jA f cdv A outer s H E) Θ0 (bd jA 2) M.yR:=by
 unfold M.yR
 exact (zU (i:=4) Zb.nd rfl (Or.inl (by kernel_rfl)) (qu (Za hr) JA gk jW Z6 (zC (vv 1) zI)))
theorem zEK (jM:mg "len" = none) (hr:RM 1 "leaners" jA A s f cdv):WS (cX P w K mg base Z0 "leaners" jA f cdv A outer s H E) Θ0 (bd jA 3) M.ZD:=by
 unfold M.ZD
 exact (zAU PassesOwn.never (jd zG9 zDv (z7 qe ZN gk jM ZJ (zC (vv 4) zI)) zF (qJ _))
  (zE (zU (i:=5) Zb.nd rfl (Or.inl (by kernel_rfl)) (zKt PySem.F.plainAttrs_list PySem.F.slot_list_pop PySem.F.type_list_pop zLi zLS rfl (vv 4)))
  (zP (zA6 PassesOwn.never rfl (Jz PySem.F.plainAttrs_dict PySem.F.slot_dict_get PySem.F.type_dict_get (zGI hr) zHM rfl (vv 2) (zC (vv 5) (zC yp zI))) (jE (i:=6) Zb.nd rfl (Or.inl (by kernel_rfl)) (.inl rfl))
  (zP (j8 (jd (zAu hr) zBm (vv 6) (vv 3) (by rfl))
  (zE (ZM hr (vv 3) (vv 6) yj)
  (zP (JX (Jz PySem.F.plainAttrs_list PySem.F.slot_list_append PySem.F.type_list_append JW Ja rfl (vv 4) (zC (vv 6) zI)))))
  jl))))))
theorem zE5 (j6:mg "sorted" = none) (hr:RM 1 "leaners" jA A s f cdv):WS (cX P w K mg base Z0 "leaners" jA f cdv A outer s H E) Θ0 (bd jA 4) M.Zk:=by
 unfold M.Zk
 exact (jH (z7 (zBB hr) zCW gk j6 zA7 (zC (vv 3) zI)))
theorem zGx (F:Fun K "leaners" "leaners" jA f fd) (ZU:JI P w K mg base) (jW:mg "list" = none) (j6:mg "sorted" = none) (jM:mg "len" = none) :
  qE P w K mg base CX0 2 f fd ["needs","names"] (SpM K Θ0 2 M.yM):=by
 refine ZZ (b:=M.zA9) F Zb M.zGV fun cdv A outer s H E hr=>?_
 unfold M.zA9
 exact (zE (zEH ZU hr) (zE (zE2 hr) (zE (zEm jW hr) (zE (zEK jM hr) (zP (zE5 j6 hr))))))
abbrev yE:Stmt:=top 11
abbrev zDX:List Str:=["_law_handed","_law_needs_here"]
theorem zCd:jj zDX ["_law_handed","_law_needs_here"] (zQ yE):=⟨rfl,rfl,rfl,by decide +kernel,rfl,by decide +kernel,by decide +kernel⟩
theorem zCY (F:Fun K "_law_stayed" "_law_stayed" yE f fd) (jW:mg "list" = none) :
  qE P w K mg base CX0 1 f fd ["_law_handed","_law_needs_here"] (SpM K Θ0 2 M.y0):=by
 refine ZZ (b:=M.y7) F zCd M.zC4 fun cdv A outer s H E hr=>?_
 unfold M.y7
 exact (zP (jH (zBX (Qn (yc hr) ZY (qu (Za hr) JA gk jW Z6 (zC (vv 0) zI)) (qu (Za hr) JA gk jW Z6 (zC (vv 1) zI)) (qJ _)) (zBo (Qn (yc hr) ZY (vv 0) (vv 1) (qJ _))))))
abbrev zv:Stmt:=top 14
abbrev ym:List Str:=["_law_needs_here","_law_handed","_law_names_here","_law_held","_law_due_here","_law_asked","_law_turn","_law_found"]
theorem y4:jj ym ["_law_needs_here","_law_handed","_law_names_here","_law_held"] (zQ zv):=⟨rfl,rfl,rfl,by decide +kernel,rfl,by decide +kernel,by decide +kernel⟩
theorem zBv:(["_law_needs_here","_law_handed","_law_names_here","_law_held","_law_due_here","_law_asked","_law_turn","_law_found","_law_one"]:List Str).Nodup:=by decide +kernel
theorem zCI (QN:zAe P w K mg base) (hr:RM 2 "_law_right" zv A s f cdv):WS (cX P w K mg base ym "_law_right" zv f cdv A outer s H E) Θ0 (bd zv 0) M.qZ:=by
 unfold M.qZ
 exact (zU (i:=4) y4.nd rfl (Or.inl (by kernel_rfl)) (zm QN hr (by decide) gk (zC (vv 0) (zC (vv 2) zI)) (zO (zO jJ))))
theorem zBx (jW:mg "list" = none) (hr:RM 2 "_law_right" zv A s f cdv):WS (cX P w K mg base ym "_law_right" zv f cdv A outer s H E) Θ0 (bd zv 1) M.qR:=by
 unfold M.qR
 exact (zU (i:=5) y4.nd rfl (Or.inl (by kernel_rfl)) (qu (Za hr) JA gk jW Z6 (zC (vv 2) zI)))
theorem zB3 (qx:Qu P w K mg base) (jW:mg "list" = none) (zn:mg "range" = none) (ju:mg "isinstance" = none) (Qs:mg "str" = none) (hr:RM 2 "_law_right" zv A s f cdv):WS (cX P w K mg base ym "_law_right" zv f cdv A outer s H E) Θ0 (bd zv 2) M.qy:=by
 unfold M.qy
 exact (QP PassesOwn.never rfl (qd gk zn zF) (jE (i:=6) y4.nd rfl (Or.inl (by kernel_rfl)) (.inl rfl))
  (zE (zU (i:=7) y4.nd rfl (Or.inl (by kernel_rfl)) (zm qx hr (by decide) gk (zC (vv 1) (zC (vv 5) zI)) (zO (zO jJ))))
  (zE (j8 (QR (zCv (JG (yt (z7 zBa zEe gk ju Qz (zC (vv 7) (zC (zCj .list gk jW Z6) zI))))) (Jf (jd (zL3 hr) zNX (vv 7) (vv 4) (qJ _)))))
  (zP (jH yj))
  jl)
  (zE (j8 (yt (zAt (vars:=["_law_one"]) rfl ⟨rfl,rfl,(by kernel_rfl),(by kernel_rfl),(by decide +kernel),trivial,(by kernel_rfl)⟩ (zAr (vv 7)) (fun _ _ _ _=>(jE (i:=8) zBv rfl (Or.inl (by kernel_rfl)) (.inr (by kernel_rfl)))) (fun _ _ _ _=>(zH0 (JG (yt (z7 zBa zEe gk ju Qz (zC (vv 8) (zC (zCj .str gk Qs zH6) zI))))))) (fun _ _ _ _=>(vv 8)) (by kernel_rfl)))
  (zP (jH yj))
  jl)
  (zP (j8 (jd (yc hr) ZY (vv 6) zF (qJ _))
  (zP (JX (Jz PySem.F.plainAttrs_list PySem.F.slot_list_append PySem.F.type_list_append JW Ja rfl (vv 3) (zC (zJN (zC (vv 7) (zC (qu (Za hr) JA gk jW Z6 (zC (vv 7) zI)) zI))) zI))))
  (zP (JX (Jz PySem.F.plainAttrs_list PySem.F.slot_list_append PySem.F.type_list_append JW Ja rfl (vv 7) (zC zz zI))))))))))
theorem zBs (ZB:Q0 P w K mg base) (hr:RM 2 "_law_right" zv A s f cdv):WS (cX P w K mg base ym "_law_right" zv f cdv A outer s H E) Θ0 (bd zv 3) M.yl:=by
 unfold M.yl
 exact (jH (zBX (Qn (yc hr) ZY (vv 5) (vv 2) (qJ _)) (zBo (zm ZB hr (by decide) gk (zC (vv 1) (zC (vv 0) zI)) (zO (zO jJ))))))
theorem zDd (F:Fun K "_law_right" "_law_right" zv f fd) (QN:zAe P w K mg base) (qx:Qu P w K mg base) (ZB:Q0 P w K mg base) (jW:mg "list" = none) (zn:mg "range" = none) (ju:mg "isinstance" = none) (Qs:mg "str" = none) :
  qE P w K mg base CX0 3 f fd ["_law_needs_here","_law_handed","_law_names_here","_law_held"] (SpM K Θ0 4 M.yn):=by
 refine JC (N:=ym) (b:=M.JM) F y4 fun cdv A outer s H E hr=>?_
 unfold M.JM
 exact (zE (zCI QN hr) (zE (zBx jW hr) (zE (zB3 qx jW zn ju Qs hr) (zP (zBs ZB hr)))))
abbrev zM:Stmt:=top 13
abbrev jV:List Str:=["_law_cell_here","_law_many","_law_names_here","_law_needs_here","_law_k","_law_at","_law_found"]
theorem jn:jj jV ["_law_cell_here"] (zQ zM):=⟨rfl,rfl,rfl,by decide +kernel,rfl,by decide +kernel,by decide +kernel⟩
theorem Js:(["_law_cell_here","_law_many","_law_names_here","_law_needs_here","","_law_at","_law_found"]:List Str).Nodup:=by decide +kernel
theorem J0:(["_law_cell_here","_law_many","_law_names_here","_law_needs_here","","_law_at","_law_found","_law_k"]:List Str).Nodup:=by decide +kernel
theorem zAC (hr:RM 2 "_law_chain_right" zM A s f cdv):WS (cX P w K mg base jV "_law_chain_right" zM f cdv A outer s H E) Θ0 (bd zM 0) M.ja:=by
 unfold M.ja
 exact (zU (i:=1) jn.nd rfl (Or.inl (by kernel_rfl)) (jz (yx hr) qo (yw (zC zF (zC zF (zC zF (zC zF zI))))) (zL jh jG (vv 0) zF)))
theorem J8 (zn:mg "range" = none) (Qs:mg "str" = none) (hr:RM 2 "_law_chain_right" zM A s f cdv):WS (cX P w K mg base jV "_law_chain_right" zM f cdv A outer s H E) Θ0 (bd zM 1) M.jc:=by
 unfold M.jc
 exact (zHG (i:=4) (N:=["_law_cell_here","_law_many","_law_names_here","_law_needs_here","","_law_at","_law_found"]) rfl (JJ (vars:=["_law_k"]) (i:=2) rfl ⟨rfl,rfl,(by kernel_rfl),(by kernel_rfl),(by decide +kernel),trivial,(by kernel_rfl)⟩ Js rfl (Or.inl (by kernel_rfl)) (qd gk zn (vv 1)) (fun _ _ _ _=>(jE (i:=7) J0 rfl (Or.inl (by kernel_rfl)) (.inr (by kernel_rfl)))) (fun _ _ _ _=>Qb) (fun _ _ _ _=>(zL (OpR.or qO jX) j1 zz (qu zHq zLw gk Qs zH6 (zC (zL jh jG (zL zAy zA5 (vv 7) zF) zF) zI)))) (by kernel_rfl)))
theorem J7 (hr:RM 2 "_law_chain_right" zM A s f cdv):WS (cX P w K mg base jV "_law_chain_right" zM f cdv A outer s H E) Θ0 (bd zM 2) M.jw:=by
 unfold M.jw
 exact (zU (i:=3) jn.nd rfl (Or.inl (by kernel_rfl)) yp)
theorem J9 (zn:mg "range" = none) (Jb:mg "max" = none) (hr:RM 2 "_law_chain_right" zM A s f cdv):WS (cX P w K mg base jV "_law_chain_right" zM f cdv A outer s H E) Θ0 (bd zM 3) M.jv:=by
 unfold M.jv
 exact (QP PassesOwn.never rfl (qd gk zn (vv 1)) (jE (i:=4) jn.nd rfl (Or.inl (by kernel_rfl)) (.inl rfl))
  (zE (zU (i:=5) jn.nd rfl (Or.inl (by kernel_rfl)) (zL jh jG (zL (OpR.or qO jX) j1 (zL zAy zA5 (vv 4) (zL (OpR.or qO jX) j1 zF (zL jh jG (zL QD ZP (vv 0) zF) zF))) (zL QD ZP (vv 0) zF)) (vv 1)))
  (zP (ZM hr (vv 3) (jz (yx hr) qo (vv 2) (vv 5)) (Qg zBj zAH (vv 2) (yQ (z7 (zDB rfl) zF2 gk Jb zH1 (zC zF (zC (zL zHB zEb (vv 5) zF) zI)))) (yQ (vv 5)))))))
theorem Jq (hr:RM 2 "_law_chain_right" zM A s f cdv):WS (cX P w K mg base jV "_law_chain_right" zM f cdv A outer s H E) Θ0 (bd zM 4) M.jZ:=by
 unfold M.jZ
 exact (zU (i:=5) jn.nd rfl (Or.inl (by kernel_rfl)) (zL jh jG (zL QD ZP (vv 0) zF) (vv 1)))
theorem zAD (qx:Qu P w K mg base) (hr:RM 2 "_law_chain_right" zM A s f cdv):WS (cX P w K mg base jV "_law_chain_right" zM f cdv A outer s H E) Θ0 (bd zM 5) M.jY:=by
 unfold M.jY
 exact (zU (i:=6) jn.nd rfl (Or.inl (by kernel_rfl)) (zm qx hr (by decide) gk (zC (vv 3) (zC (yw (zC (jz (yx hr) qo (vv 2) (vv 5)) zI)) zI)) (zO (zO jJ))))
theorem J6 (ju:mg "isinstance" = none) (jW:mg "list" = none) (j6:mg "sorted" = none) (hr:RM 2 "_law_chain_right" zM A s f cdv):WS (cX P w K mg base jV "_law_chain_right" zM f cdv A outer s H E) Θ0 (bd zM 6) M.jx:=by
 unfold M.jx
 exact (jH (zBX (z7 zBa zEe gk ju Qz (zC (vv 6) (zC (zCj .list gk jW Z6) zI))) (zBo (Qn (yc hr) ZY (vv 6) (z7 (zEG hr) zHd gk j6 zA7 (zC (Qg zBj zAH (vv 2) (yQ (zL (OpR.or qO jX) j1 (vv 5) zF)) Qv) zI)) (qJ _)))))
theorem zAn (F:Fun K "_law_chain_right" "_law_chain_right" zM f fd) (qx:Qu P w K mg base) (zn:mg "range" = none) (ju:mg "isinstance" = none) (jW:mg "list" = none) (Qs:mg "str" = none) (j6:mg "sorted" = none) (Jb:mg "max" = none) :
  qE P w K mg base CX0 3 f fd ["_law_cell_here"] (SpM K Θ0 1 M.qf):=by
 refine ZZ (b:=M.ZQ) F jn M.zAo fun cdv A outer s H E hr=>?_
 unfold M.ZQ
 exact (zE (zAC hr) (zE (J8 zn Qs hr) (zE (J7 hr) (zE (J9 zn Jb hr) (zE (Jq hr) (zE (zAD qx hr) (zP (J6 ju jW j6 hr))))))))
abbrev zo:Stmt:=top 15
abbrev yX:List Str:=["_law_script","_law_names_here","_law_needs_here","_law_handed","_law_cell_here","_law_some","_law_held","_law_one","_law_asked"]
theorem ZL:jj yX ["_law_script"] (zQ zo):=⟨rfl,rfl,rfl,by decide +kernel,rfl,by decide +kernel,by decide +kernel⟩
theorem zIc:(["_law_script","_law_names_here","_law_needs_here","_law_handed","_law_cell_here","_law_some","_law_held","_law_one","_law_asked","_law_j"]:List Str).Nodup:=by decide +kernel
theorem zIm:(["_law_script","_law_names_here","_law_needs_here","_law_handed","_law_cell_here","_law_some","_law_held","_law_one","_law_asked","_law_pair"]:List Str).Nodup:=by decide +kernel
theorem zIg (ZV:JH P w K mg base) (hr:RM 3 "law" zo A s f cdv):WS (cX P w K mg base yX "law" zo f cdv A outer s H E) Θ0 (bd zo 0) M.QY:=by
 unfold M.QY
 exact (zU (i:=1) ZL.nd rfl (Or.inr (by kernel_rfl)) (zm ZV hr (by decide) gk (zC (vv 0) (zC zF zI)) (zO (zO jJ))))
theorem zIp (ZW:JK P w K mg base) (hr:RM 3 "law" zo A s f cdv):WS (cX P w K mg base yX "law" zo f cdv A outer s H E) Θ0 (bd zo 1) M.QU:=by
 unfold M.QU
 exact (zU (i:=2) ZL.nd rfl (Or.inl (by kernel_rfl)) (zm ZW hr (by decide) gk (zC (vv 0) (zC zF (zC (vc 1) zI))) (zO (zO (zO jJ)))))
theorem zJD (qM:Zp P w K mg base) (hr:RM 3 "law" zo A s f cdv):WS (cX P w K mg base yX "law" zo f cdv A outer s H E) Θ0 (bd zo 2) M.Qf:=by
 unfold M.Qf
 exact (zU (i:=3) ZL.nd rfl (Or.inl (by kernel_rfl)) (zm qM hr (by decide) gk (zC (vv 2) zI) (zO jJ)))
theorem zIo (zg:qD P w K mg base) (qg:ZT P w K mg base) (hr:RM 3 "law" zo A s f cdv):WS (cX P w K mg base yX "law" zo f cdv A outer s H E) Θ0 (bd zo 3) M.Qe:=by
 unfold M.Qe
 exact (j8 (QR (zBc (jd (yc hr) ZY (zL jh jG (zm zg hr (by decide) gk (zC (vv 0) (zC zF zI)) (zO (zO jJ))) zF) zF (qJ _)) (JB (JG (yt (zm qg hr (by decide) gk (zC (zL QD ZP (zm zg hr (by decide) gk (zC (vv 0) (zC zF zI)) (zO (zO jJ))) zF) zI) (zO jJ)))))))
  (zP (jH yj))
  jl)
theorem zIw (zg:qD P w K mg base) (hr:RM 3 "law" zo A s f cdv):WS (cX P w K mg base yX "law" zo f cdv A outer s H E) Θ0 (bd zo 4) M.QV:=by
 unfold M.QV
 exact (zU (i:=4) ZL.nd rfl (Or.inr (by kernel_rfl)) (zm zg hr (by decide) gk (zC (vv 0) (zC zF zI)) (zO (zO jJ))))
theorem zIf (zT:jf P w K mg base) (zn:mg "range" = none) (jM:mg "len" = none) (hr:RM 3 "law" zo A s f cdv):WS (cX P w K mg base yX "law" zo f cdv A outer s H E) Θ0 (bd zo 5) M.Qj:=by
 unfold M.Qj
 exact (JJ (vars:=["_law_j"]) (i:=5) rfl ⟨rfl,rfl,(by kernel_rfl),(by kernel_rfl),(by decide +kernel),⟨(by kernel_rfl),(by kernel_rfl),trivial⟩,(by kernel_rfl)⟩ ZL.nd rfl (Or.inl (by kernel_rfl)) (qd gk zn (zL jh jG (vc 4) zF)) (fun _ _ _ _=>(jE (i:=9) zIc rfl (Or.inl (by kernel_rfl)) (.inr (by kernel_rfl)))) (fun _ _ _ _=>Qb) (fun _ _ _ _=>(jz (yx hr) qo (vc 1) (zL jh jG (zm zT hr (by decide) gk (zC (vc 4) (zC (vv 9) zI)) (zO (zO jJ))) (z7 qe ZN gk jM ZJ (zC (vc 1) zI))))) (by kernel_rfl))
theorem zI0 (hr:RM 3 "law" zo A s f cdv):WS (cX P w K mg base yX "law" zo f cdv A outer s H E) Θ0 (bd zo 6) M.Z2:=by
 unfold M.Z2
 exact (j8 (jd (yc hr) ZY (zL jh jG (zL QD ZP (vc 4) zF) zF) zF (qJ _))
  (zP (zU (i:=5) ZL.nd rfl (Or.inl (by kernel_rfl)) (zL (OpR.or qO jX) j1 (vv 5) (yw (zC (zL (OpR.or qO jX) j1 (jz (yx hr) qo (vc 1) zF) zz) zI)))))
  jl)
theorem zIj (hr:RM 3 "law" zo A s f cdv):WS (cX P w K mg base yX "law" zo f cdv A outer s H E) Θ0 (bd zo 7) M.Q8:=by
 unfold M.Q8
 exact (zU (i:=6) ZL.nd rfl (Or.inl (by kernel_rfl)) (yw zI))
theorem zJA (jM:mg "len" = none) (hr:RM 3 "law" zo A s f cdv):WS (cX P w K mg base yX "law" zo f cdv A outer s H E) Θ0 (bd zo 8) M.QO:=by
 unfold M.QO
 exact (zU (i:=7) ZL.nd rfl (Or.inl (by kernel_rfl)) (jz (yx hr) qo (vc 1) (zL jh jG (zL QD ZP (vc 4) zF) (z7 qe ZN gk jM ZJ (zC (vc 1) zI)))))
theorem zHx (qj:QE P w K mg base) (hr:RM 3 "law" zo A s f cdv):WS (cX P w K mg base yX "law" zo f cdv A outer s H E) Θ0 (bd zo 9) M.QQ:=by
 unfold M.QQ
 exact (QP PassesOwn.never rfl (zAr (yw (zC (vv 5) (zC (yw (zC (vv 7) zI)) (zC (vv 5) zI))))) (jE (i:=8) ZL.nd rfl (Or.inl (by kernel_rfl)) (.inl rfl))
  (zP (j8 (JG (yt (zm qj hr (by decide) gk (zC (vv 2) (zC (vv 3) (zC (vv 8) (zC (vv 6) zI)))) (zO (zO (zO (zO jJ)))))))
  (zP (jH yj))
  jl)))
theorem zH3 (hr:RM 3 "law" zo A s f cdv):WS (cX P w K mg base yX "law" zo f cdv A outer s H E) Θ0 (bd zo 10) M.Zv:=by
 unfold M.Zv
 exact (ZM hr (vv 3) (vv 7) (zL (OpR.or qO jX) j1 (Jz PySem.F.plainAttrs_dict PySem.F.slot_dict_get PySem.F.type_dict_get (zGI hr) zHM rfl (vv 3) (zC (vv 7) (zC (yw zI) zI))) (Qg zBj zAH (vc 1) Qv (yQ zF))))
theorem zII (qM:Zp P w K mg base) (hr:RM 3 "law" zo A s f cdv):WS (cX P w K mg base yX "law" zo f cdv A outer s H E) Θ0 (bd zo 11) M.Zt:=by
 unfold M.Zt
 exact (zU (i:=2) ZL.nd rfl (Or.inl (by kernel_rfl)) (zm qM hr (by decide) gk (zC (vv 3) zI) (zO jJ)))
theorem zHU (qj:QE P w K mg base) (hr:RM 3 "law" zo A s f cdv):WS (cX P w K mg base yX "law" zo f cdv A outer s H E) Θ0 (bd zo 12) M.Zw:=by
 unfold M.Zw
 exact (j8 (JG (yt (zm qj hr (by decide) gk (zC (vv 2) (zC (vv 3) (zC (vv 5) (zC (vv 6) zI)))) (zO (zO (zO (zO jJ)))))))
  (zP (jH yj))
  jl)
theorem zIN (zCX:mg "all" = none) (hr:RM 3 "law" zo A s f cdv):WS (cX P w K mg base yX "law" zo f cdv A outer s H E) Θ0 (bd zo 13) M.QW:=by
 unfold M.QW
 exact (jH (zHD (zI4 rfl) zKC gk zCX zLc (vars:=["_law_pair"]) rfl ⟨rfl,rfl,(by kernel_rfl),(by kernel_rfl),(by decide +kernel),trivial,(by kernel_rfl)⟩ (zAr (vv 6)) (fun _ _ _ _=>(jE (i:=9) zIm rfl (Or.inl (by kernel_rfl)) (.inr (by kernel_rfl)))) (fun _ _ _ _=>Qb) (fun _ _ _ _=>(Qn (yc hr) ZY (jz (yx hr) qo (vv 9) zF) (jz (yx hr) qo (vv 9) zF) (qJ _))) (by kernel_rfl)))
theorem zLN (F:Fun K "law" "law" zo f fd) (ZV:JH P w K mg base) (ZW:JK P w K mg base) (qM:Zp P w K mg base) (zg:qD P w K mg base) (qj:QE P w K mg base) (qg:ZT P w K mg base) (zT:jf P w K mg base) (zCX:mg "all" = none) (zn:mg "range" = none) (jM:mg "len" = none) :
  qE P w K mg base CX0 4 f fd ["_law_script"] (SpM K Θ0 1 M.zCP):=by
 refine JC (N:=yX) (b:=M.zG5) F ZL fun cdv A outer s H E hr=>?_
 unfold M.zG5
 exact (zE (zIg ZV hr) (zE (zIp ZW hr) (zE (zJD qM hr) (zE (zIo zg qg hr) (zE (zIw zg hr) (zE (zIf zT zn jM hr) (zE (zI0 hr) (zE (zIj hr) (zE (zJA jM hr) (zE (zHx qj hr) (zE (zH3 hr) (zE (zII qM hr) (zE (zHU qj hr) (zP (zIN zCX hr)))))))))))))))
theorem zLX {l:PySem.W.OpenLaw}{w:World}{K:PySem.W.Frag}{h:Heap}{mg:Str->Option Value}{fa f1 f2 f3 f4 f5 f6 f7 f8 f9 f10 f11 f12 f13 f14:Addr} (X:K.In h) (G:h.Ns mainGlobals mg) (hfa:mg "law" = some (.ref fa))
  {od1 an1 od2 an2 od3 an3 od4 an4 od5 an5 od6 an6 od7 an7 od8 an8 od9 an9 od10 an10 od11 an11 od12 an12 od13 an13 od14 an14:Option Addr}{sl1 sl2 sl3 sl4 sl5 sl6 sl7 sl8 sl9 sl10 sl11 sl12 sl13 sl14:Array (Option Value)}{oc1 kV1 dc1 pm1 cd1 ct1 oc2 kV2 dc2 pm2 cd2 ct2 oc3 kV3 dc3 pm3 cd3 ct3 oc4 kV4 dc4 pm4 cd4 ct4 oc5 kV5 dc5 pm5 cd5 ct5 oc6 kV6 dc6 pm6 cd6 ct6 oc7 kV7 dc7 pm7 cd7 ct7 oc8 kV8 dc8 pm8 cd8 ct8 oc9 kV9 dc9 pm9 cd9 ct9 oc10 kV10 dc10 pm10 cd10 ct10 oc11 kV11 dc11 pm11 cd11 ct11 oc12 kV12 dc12 pm12 cd12 ct12 oc13 kV13 dc13 pm13 cd13 ct13 oc14 kV14 dc14 pm14 cd14 ct14:Value}
  (a1:PySem.W.nsIn K mainGlobals "_law_cell" = some (some (.ref f1))) (l1:K.lookup f1=some ⟨oc1,od1,.func (PySem.W.fnOf "_law_cell" "_law_cell" (jy ZC) (jI ZC) (zQ ZC) .none kV1 dc1 pm1 an1 cd1 ct1),sl1⟩) (c1:PySem.W.codeIn K cd1 "_law_cell" = true) (k1:PySem.W.keepIn K (.ref f1)=true)
  (a2:PySem.W.nsIn K mainGlobals "_law_mixed" = some (some (.ref f2))) (l2:K.lookup f2=some ⟨oc2,od2,.func (PySem.W.fnOf "_law_mixed" "_law_mixed" (jy yd) (jI yd) (zQ yd) .none kV2 dc2 pm2 an2 cd2 ct2),sl2⟩) (c2:PySem.W.codeIn K cd2 "_law_mixed" = true) (k2:PySem.W.keepIn K (.ref f2)=true)
  (a3:PySem.W.nsIn K mainGlobals "_law_name" = some (some (.ref f3))) (l3:K.lookup f3=some ⟨oc3,od3,.func (PySem.W.fnOf "_law_name" "_law_name" (jy zk) (jI zk) (zQ zk) .none kV3 dc3 pm3 an3 cd3 ct3),sl3⟩) (c3:PySem.W.codeIn K cd3 "_law_name" = true) (k3:PySem.W.keepIn K (.ref f3)=true)
  (a4:PySem.W.nsIn K mainGlobals "_law_names" = some (some (.ref f4))) (l4:K.lookup f4=some ⟨oc4,od4,.func (PySem.W.fnOf "_law_names" "_law_names" (jy zd) (jI zd) (zQ zd) .none kV4 dc4 pm4 an4 cd4 ct4),sl4⟩) (c4:PySem.W.codeIn K cd4 "_law_names" = true) (k4:PySem.W.keepIn K (.ref f4)=true)
  (a5:PySem.W.nsIn K mainGlobals "_law_row" = some (some (.ref f5))) (l5:K.lookup f5=some ⟨oc5,od5,.func (PySem.W.fnOf "_law_row" "_law_row" (jy Zc) (jI Zc) (zQ Zc) .none kV5 dc5 pm5 an5 cd5 ct5),sl5⟩) (c5:PySem.W.codeIn K cd5 "_law_row" = true) (k5:PySem.W.keepIn K (.ref f5)=true)
  (a6:PySem.W.nsIn K mainGlobals "_law_needs" = some (some (.ref f6))) (l6:K.lookup f6=some ⟨oc6,od6,.func (PySem.W.fnOf "_law_needs" "_law_needs" (jy zu) (jI zu) (zQ zu) .none kV6 dc6 pm6 an6 cd6 ct6),sl6⟩) (c6:PySem.W.codeIn K cd6 "_law_needs" = true) (k6:PySem.W.keepIn K (.ref f6)=true)
  (a7:PySem.W.nsIn K mainGlobals "_law_copied" = some (some (.ref f7))) (l7:K.lookup f7=some ⟨oc7,od7,.func (PySem.W.fnOf "_law_copied" "_law_copied" (jy yH) (jI yH) (zQ yH) .none kV7 dc7 pm7 an7 cd7 ct7),sl7⟩) (c7:PySem.W.codeIn K cd7 "_law_copied" = true) (k7:PySem.W.keepIn K (.ref f7)=true)
  (a8:PySem.W.nsIn K mainGlobals "_law_due" = some (some (.ref f8))) (l8:K.lookup f8=some ⟨oc8,od8,.func (PySem.W.fnOf "_law_due" "_law_due" (jy jC) (jI jC) (zQ jC) .none kV8 dc8 pm8 an8 cd8 ct8),sl8⟩) (c8:PySem.W.codeIn K cd8 "_law_due" = true) (k8:PySem.W.keepIn K (.ref f8)=true)
  (a9:PySem.W.nsIn K mainGlobals "needers_of" = some (some (.ref f9))) (l9:K.lookup f9=some ⟨oc9,od9,.func (PySem.W.fnOf "needers_of" "needers_of" (jy ye) (jI ye) (zQ ye) .none kV9 dc9 pm9 an9 cd9 ct9),sl9⟩) (c9:PySem.W.codeIn K cd9 "needers_of" = true) (k9:PySem.W.keepIn K (.ref f9)=true)
  (a10:PySem.W.nsIn K mainGlobals "leaners" = some (some (.ref f10))) (l10:K.lookup f10=some ⟨oc10,od10,.func (PySem.W.fnOf "leaners" "leaners" (jy jA) (jI jA) (zQ jA) .none kV10 dc10 pm10 an10 cd10 ct10),sl10⟩) (c10:PySem.W.codeIn K cd10 "leaners" = true) (k10:PySem.W.keepIn K (.ref f10)=true)
  (a11:PySem.W.nsIn K mainGlobals "_law_stayed" = some (some (.ref f11))) (l11:K.lookup f11=some ⟨oc11,od11,.func (PySem.W.fnOf "_law_stayed" "_law_stayed" (jy yE) (jI yE) (zQ yE) .none kV11 dc11 pm11 an11 cd11 ct11),sl11⟩) (c11:PySem.W.codeIn K cd11 "_law_stayed" = true) (k11:PySem.W.keepIn K (.ref f11)=true)
  (a12:PySem.W.nsIn K mainGlobals "_law_right" = some (some (.ref f12))) (l12:K.lookup f12=some ⟨oc12,od12,.func (PySem.W.fnOf "_law_right" "_law_right" (jy zv) (jI zv) (zQ zv) .none kV12 dc12 pm12 an12 cd12 ct12),sl12⟩) (c12:PySem.W.codeIn K cd12 "_law_right" = true) (k12:PySem.W.keepIn K (.ref f12)=true)
  (a13:PySem.W.nsIn K mainGlobals "_law_chain_right" = some (some (.ref f13))) (l13:K.lookup f13=some ⟨oc13,od13,.func (PySem.W.fnOf "_law_chain_right" "_law_chain_right" (jy zM) (jI zM) (zQ zM) .none kV13 dc13 pm13 an13 cd13 ct13),sl13⟩) (c13:PySem.W.codeIn K cd13 "_law_chain_right" = true) (k13:PySem.W.keepIn K (.ref f13)=true)
  (a14:PySem.W.nsIn K mainGlobals "law" = some (some (.ref f14))) (l14:K.lookup f14=some ⟨oc14,od14,.func (PySem.W.fnOf "law" "law" (jy zo) (jI zo) (zQ zo) .none kV14 dc14 pm14 an14 cd14 ct14),sl14⟩) (c14:PySem.W.codeIn K cd14 "law" = true) (k14:PySem.W.keepIn K (.ref f14)=true)
  (z_len:PySem.W.nsIn K mainGlobals "len" = some none)
  (z_range:PySem.W.nsIn K mainGlobals "range" = some none)
  (z_max:PySem.W.nsIn K mainGlobals "max" = some none)
  (z_int:PySem.W.nsIn K mainGlobals "int" = some none)
  (z_list:PySem.W.nsIn K mainGlobals "list" = some none)
  (z_sorted:PySem.W.nsIn K mainGlobals "sorted" = some none)
  (z_isinstance:PySem.W.nsIn K mainGlobals "isinstance" = some none)
  (z_str:PySem.W.nsIn K mainGlobals "str" = some none)
  (z_all:PySem.W.nsIn K mainGlobals "all" = some none)
  : ∃ fd:FuncData,(∀ (s:Shared) (v:Value),BindsTo s fd ⟨[v],[]⟩ [("_law_script",v)])/\fd.scope.names.lookup ("_law_script" : Str)=some .local/\∀ base:Heap,K.In base->base.Ns mainGlobals mg->qE l.prog w K mg base CX0 4 fa fd ["_law_script"] (SpM K Θ0 1 M.zCP):=by
 have e:=hfa.symm.trans (PySem.W.mg_of X G a14)
 cases e
 have F1:=yN (x := "_law_cell") (qual := "_law_cell") (st:=ZC) l1 c1 k1
 have B1:=F1.binds (ps:=["_law_script","_law_k"]) fun _ _ _ _ _ _ us hl=>match us,hl with | [_,_],_=>rfl
 have F2:=yN (x := "_law_mixed") (qual := "_law_mixed") (st:=yd) l2 c2 k2
 have B2:=F2.binds (ps:=["_law_cell_here","_law_k"]) fun _ _ _ _ _ _ us hl=>match us,hl with | [_,_],_=>rfl
 have F3:=yN (x := "_law_name") (qual := "_law_name") (st:=zk) l3 c3 k3
 have B3:=F3.binds (ps:=["_law_cell_here","_law_taken"]) fun _ _ _ _ _ _ us hl=>match us,hl with | [_,_],_=>rfl
 have F4:=yN (x := "_law_names") (qual := "_law_names") (st:=zd) l4 c4 k4
 have B4:=F4.binds (ps:=["_law_script","_law_base"]) fun _ _ _ _ _ _ us hl=>match us,hl with | [_,_],_=>rfl
 have F5:=yN (x := "_law_row") (qual := "_law_row") (st:=Zc) l5 c5 k5
 have B5:=F5.binds (ps:=["_law_cell_here","_law_k","_law_shape","_law_names_here"]) fun _ _ _ _ _ _ us hl=>match us,hl with | [_,_,_,_],_=>rfl
 have F6:=yN (x := "_law_needs") (qual := "_law_needs") (st:=zu) l6 c6 k6
 have B6:=F6.binds (ps:=["_law_script","_law_base","_law_names_here"]) fun _ _ _ _ _ _ us hl=>match us,hl with | [_,_,_],_=>rfl
 have F7:=yN (x := "_law_copied") (qual := "_law_copied") (st:=yH) l7 c7 k7
 have B7:=F7.binds (ps:=["_law_needs_here"]) fun _ _ _ _ _ _ us hl=>match us,hl with | [_],_=>rfl
 have F8:=yN (x := "_law_due") (qual := "_law_due") (st:=jC) l8 c8 k8
 have B8:=F8.binds (ps:=["_law_needs_here","_law_names_here"]) fun _ _ _ _ _ _ us hl=>match us,hl with | [_,_],_=>rfl
 have F9:=yN (x := "needers_of") (qual := "needers_of") (st:=ye) l9 c9 k9
 have B9:=F9.binds (ps:=["needs"]) fun _ _ _ _ _ _ us hl=>match us,hl with | [_],_=>rfl
 have F10:=yN (x := "leaners") (qual := "leaners") (st:=jA) l10 c10 k10
 have B10:=F10.binds (ps:=["needs","names"]) fun _ _ _ _ _ _ us hl=>match us,hl with | [_,_],_=>rfl
 have F11:=yN (x := "_law_stayed") (qual := "_law_stayed") (st:=yE) l11 c11 k11
 have B11:=F11.binds (ps:=["_law_handed","_law_needs_here"]) fun _ _ _ _ _ _ us hl=>match us,hl with | [_,_],_=>rfl
 have F12:=yN (x := "_law_right") (qual := "_law_right") (st:=zv) l12 c12 k12
 have B12:=F12.binds (ps:=["_law_needs_here","_law_handed","_law_names_here","_law_held"]) fun _ _ _ _ _ _ us hl=>match us,hl with | [_,_,_,_],_=>rfl
 have F13:=yN (x := "_law_chain_right") (qual := "_law_chain_right") (st:=zM) l13 c13 k13
 have B13:=F13.binds (ps:=["_law_cell_here"]) fun _ _ _ _ _ _ us hl=>match us,hl with | [_],_=>rfl
 have F14:=yN (x := "law") (qual := "law") (st:=zo) l14 c14 k14
 have jM:=PySem.W.mg_none_of X G z_len
 have zn:=PySem.W.mg_none_of X G z_range
 have Jb:=PySem.W.mg_none_of X G z_max
 have zHF:=PySem.W.mg_none_of X G z_int
 have jW:=PySem.W.mg_none_of X G z_list
 have j6:=PySem.W.mg_none_of X G z_sorted
 have ju:=PySem.W.mg_none_of X G z_isinstance
 have Qs:=PySem.W.mg_none_of X G z_str
 have zCX:=PySem.W.mg_none_of X G z_all
 refine⟨PySem.W.fnOf "law" "law" (jy zo) (jI zo) (zQ zo) .none kV14 dc14 pm14 an14 cd14 ct14,fun s v=>.of_eq rfl,by kernel_rfl,fun base _ _=>?_⟩
 have zg:qD l.prog w K mg base:=⟨⟨_,_,zE1 F1 jM,B1,k1,PySem.W.mg_of X G a1⟩⟩
 have zT:jf l.prog w K mg base:=⟨⟨_,_,zDk F2,B2,k2,PySem.W.mg_of X G a2⟩⟩
 have Zl:Jo l.prog w K mg base:=⟨⟨_,_,zEu F3 zT jM zn,B3,k3,PySem.W.mg_of X G a3⟩⟩
 have ZV:JH l.prog w K mg base:=⟨⟨_,_,zDa F4 zg Zl zT zn,B4,k4,PySem.W.mg_of X G a4⟩⟩
 have QM:zAW l.prog w K mg base:=⟨⟨_,_,zFf F5 zT zn Jb jM zHF,B5,k5,PySem.W.mg_of X G a5⟩⟩
 have ZW:JK l.prog w K mg base:=⟨⟨_,_,zDg F6 zg zT QM zn jM,B6,k6,PySem.W.mg_of X G a6⟩⟩
 have qM:Zp l.prog w K mg base:=⟨⟨_,_,zC1 F7 jW,B7,k7,PySem.W.mg_of X G a7⟩⟩
 have QN:zAe l.prog w K mg base:=⟨⟨_,_,zFO F8 j6,B8,k8,PySem.W.mg_of X G a8⟩⟩
 have ZU:JI l.prog w K mg base:=⟨⟨_,_,zDj F9,B9,k9,PySem.W.mg_of X G a9⟩⟩
 have qx:Qu l.prog w K mg base:=⟨⟨_,_,zGx F10 ZU jW j6 jM,B10,k10,PySem.W.mg_of X G a10⟩⟩
 have ZB:Q0 l.prog w K mg base:=⟨⟨_,_,zCY F11 jW,B11,k11,PySem.W.mg_of X G a11⟩⟩
 have qj:QE l.prog w K mg base:=⟨⟨_,_,zDd F12 QN qx ZB jW zn ju Qs,B12,k12,PySem.W.mg_of X G a12⟩⟩
 have qg:ZT l.prog w K mg base:=⟨⟨_,_,zAn F13 qx zn ju jW Qs j6 Jb,B13,k13,PySem.W.mg_of X G a13⟩⟩
 exact zLN F14 ZV ZW qM zg qj qg zT zCX zn jM
theorem zNn {l:PySem.W.OpenLaw}{q:Program}{loose:List Str}{XP:(Str->Option Value)->Heap->Prop}{YP:World->Heap->Prop}{d:DefRec}{K:Params->PySem.W.Frag} (hn:l.most=some 63) (hdf:d.params.defaults=[])
  (hY:∀ (w:World) (h:Heap),YP w h->(K w.params).In h)
  (F:∀ (w:World) (mg:Str->Option Value) (fa:Addr) (h:Heap),(K w.params).In h->h.Ns mainGlobals mg->mg d.name=some (.ref fa) ->
   ∃ fd:FuncData,(∀ (s:Shared) (u:Value),BindsTo s fd ⟨[u],[]⟩ [("_law_script",u)])/\fd.scope.names.lookup ("_law_script" : Str)=some .local/\∀ base:Heap,(K w.params).In base->base.Ns mainGlobals mg->qE l.prog w (K w.params) mg base CX0 4 fa fd ["_law_script"] (SpM (K w.params) Θ0 1 M.zCP)) :
  PySem.W.WalkO q loose XP YP l.row.toRowW d [] (fun f vs=>PySem.call f vs) :=
 L2.zJ9 (n:=63) (k:=4) (x := "_law_script") (CX:=fun _=>CX0) (sp:=fun w=>SpM (K w.params) Θ0 1 M.zCP) hn (by decide) hdf ⟨rfl,by decide,by decide⟩ hY F (fun _ _ _ _ hl hO hS=>zMu M.zJK hl hO hS) fun _ _ _ _ _ z=>z
end My
namespace PySem.W.Fast
theorem zGB:True:=trivial
theorem zFT:True:=trivial
theorem zFS:True:=trivial
theorem zGs:True:=trivial
theorem zFd:True:=trivial
theorem zG4:True:=trivial
theorem zFt:True:=trivial
theorem zGG:True:=trivial
theorem zFh:True:=trivial
theorem zF3:True:=trivial
theorem zGL:True:=trivial
theorem zGJ:True:=trivial
theorem zFQ:True:=trivial
theorem zGP:True:=trivial
theorem zFp:True:=trivial
theorem zFl:True:=trivial
theorem zGQ:True:=trivial
theorem zG7:True:=trivial
theorem zFi:True:=trivial
theorem zFU:True:=trivial
theorem zF1:True:=trivial
theorem zF6:True:=trivial
theorem zGF:True:=trivial
theorem zFP:True:=trivial
theorem zFk:True:=trivial
theorem zFy:True:=trivial
theorem zFb:True:=trivial
theorem zGM:True:=trivial
theorem zGH:True:=trivial
theorem zFK:True:=trivial
theorem zFL:True:=trivial
theorem zFr:True:=trivial
end PySem.W.Fast
open PySem PySem.W PyProof.Rows
set_option maxRecDepth 100000 in
set_option maxHeartbeats 0 in
theorem PySem.Challenge.cw_thingyard_k63_leaners_holds : PySem.Challenge.rw_thingyard_k63_leaners.Holds := by
 w_on;o_law;k_head;(case hw=>w_witness2)
 k_fill
 refine My.zNn (l:=PySem.Challenge.rw_thingyard_k63_leaners) rfl rfl (fun w h Y=>PySem.W.kIn_of Y) ?F
 case F =>
  intro w mg fa h KX G hmg
  refine' My.zLX KX G hmg ?a1 ?l1 ?c1 ?k1 ?a2 ?l2 ?c2 ?k2 ?a3 ?l3 ?c3 ?k3 ?a4 ?l4 ?c4 ?k4 ?a5 ?l5 ?c5 ?k5 ?a6 ?l6 ?c6 ?k6 ?a7 ?l7 ?c7 ?k7 ?a8 ?l8 ?c8 ?k8 ?a9 ?l9 ?c9 ?k9 ?a10 ?l10 ?c10 ?k10 ?a11 ?l11 ?c11 ?k11 ?a12 ?l12 ?c12 ?k12 ?a13 ?l13 ?c13 ?k13 ?a14 ?l14 ?c14 ?k14 ?z_len ?z_range ?z_max ?z_int ?z_list ?z_sorted ?z_isinstance ?z_str ?z_all
  (case a1=>k_is)
  (case l1=>k_is)
  (case c1=>k_is)
  (case k1=>k_is)
  (case a2=>k_is)
  (case l2=>k_is)
  (case c2=>k_is)
  (case k2=>k_is)
  (case a3=>k_is)
  (case l3=>k_is)
  (case c3=>k_is)
  (case k3=>k_is)
  (case a4=>k_is)
  (case l4=>k_is)
  (case c4=>k_is)
  (case k4=>k_is)
  (case a5=>k_is)
  (case l5=>k_is)
  (case c5=>k_is)
  (case k5=>k_is)
  (case a6=>k_is)
  (case l6=>k_is)
  (case c6=>k_is)
  (case k6=>k_is)
  (case a7=>k_is)
  (case l7=>k_is)
  (case c7=>k_is)
  (case k7=>k_is)
  (case a8=>k_is)
  (case l8=>k_is)
  (case c8=>k_is)
  (case k8=>k_is)
  (case a9=>k_is)
  (case l9=>k_is)
  (case c9=>k_is)
  (case k9=>k_is)
  (case a10=>k_is)
  (case l10=>k_is)
  (case c10=>k_is)
  (case k10=>k_is)
  (case a11=>k_is)
  (case l11=>k_is)
  (case c11=>k_is)
  (case k11=>k_is)
  (case a12=>k_is)
  (case l12=>k_is)
  (case c12=>k_is)
  (case k12=>k_is)
  (case a13=>k_is)
  (case l13=>k_is)
  (case c13=>k_is)
  (case k13=>k_is)
  (case a14=>k_is)
  (case l14=>k_is)
  (case c14=>k_is)
  (case k14=>k_is)
  (case z_len=>k_is)
  (case z_range=>k_is)
  (case z_max=>k_is)
  (case z_int=>k_is)
  (case z_list=>k_is)
  (case z_sorted=>k_is)
  (case z_isinstance=>k_is)
  (case z_str=>k_is)
  (case z_all=>k_is)
