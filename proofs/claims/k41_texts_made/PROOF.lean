import PyProof.Rows.All
import Wide.All
import OpenK.AllK
import Wide.FinOn
import Lean
import PyProof.EqAt
import PyProof.EqKinds
import PyProof.TupleCall
import PySem.Challenge.RW_thingyard_k41_texts_made
set_option Elab.async false
set_option linter.all false
set_option maxRecDepth 100000
noncomputable section
namespace L2
open PySem PySem.Spec PyProof.Rows
noncomputable abbrev Key:=Sum Int Str
noncomputable def Qj:Key->Value->Bool
 | .inl k,v=>Value.isInt k v
 | .inr x,v=>Value.isStrOf x v
noncomputable def zJB (w:World):Key->Int
 | .inl k=>hashInt k
 | .inr x=>hashStr w x
theorem jG:∀ {k:Key}{v:Value},Qj k v=true->(∃ i t,k=Sum.inl i/\v=Value.int i t)\/(∃ x t,k=Sum.inr x/\v=Value.str x t)
 | .inl i,v,h=>by
  obtain⟨t,e⟩:=Value.isInt_shape (k:=i) (v:=v) h
  exact .inl ⟨i,t,rfl,e⟩
 | .inr x,v,h=>by
  obtain⟨t,e⟩:=Value.isStrOf_shape (x:=x) (v:=v) h
  exact .inr ⟨x,t,rfl,e⟩
theorem zEH (i:Int) (t:Tok):Qj (.inl i) (.int i t)=true:=by simp[Qj,Value.isInt]
theorem zDg (x:Str) (t:Tok):Qj (.inr x) (.str x t)=true:=by simp[Qj,Value.isStrOf]
theorem zIB (a b:Int):decide ((Sum.inl a:Key)=Sum.inl b)=(a == b):=by
 by_cases e:a=b
 ·subst e;simp
 ·have h:¬ (Sum.inl a:Key)=Sum.inl b:=fun q=>e (Sum.inl.inj q)
  rw[decide_eq_false h]
  exact (beq_eq_false_iff_ne.mpr e).symm
theorem zH9 (a b:Str):decide ((Sum.inr a:Key)=Sum.inr b)=decide (a=b):=by
 by_cases e:a=b
 ·subst e;simp
 ·have h:¬ (Sum.inr a:Key)=Sum.inr b:=fun q=>e (Sum.inr.inj q)
  rw[decide_eq_false h,decide_eq_false e]
theorem zIN (a:Int) (b:Str):decide ((Sum.inl a:Key)=Sum.inr b)=false:=decide_eq_false (fun q=>nomatch q)
theorem zHn (a:Str) (b:Int):decide ((Sum.inr a:Key)=Sum.inl b)=false:=decide_eq_false (fun q=>nomatch q)
noncomputable def jh (prog:Program) (w:World):PySem.KeyKind prog w Key where
 is:=Qj
 hash:=zJB w
 inj:=fun v a b ha hb=>by
  rcases jG ha with ⟨i,t,rfl,rfl⟩ | ⟨x,t,rfl,rfl⟩
  ·rcases jG hb with ⟨j,u,rfl,e⟩ | ⟨y,u,rfl,e⟩
   ·injection e with e1 _;rw[e1]
   ·exact nomatch e
  ·rcases jG hb with ⟨j,u,rfl,e⟩ | ⟨y,u,rfl,e⟩
   ·exact nomatch e
   ·injection e with e1 _;rw[e1]
 byValue:=fun k v h=>by
  rcases jG h with ⟨i,t,rfl,rfl⟩ | ⟨x,t,rfl,rfl⟩<;>rfl
 pyHash:=fun hv h=>by
  rcases jG hv with ⟨i,t,rfl,rfl⟩ | ⟨x,t,rfl,rfl⟩
  ·exact wpAny_pyHash_int h
  ·exact wpAny_pyHash_str h
 eqBool:=fun hu hv h=>by
  rcases jG hu with ⟨i,t,rfl,rfl⟩ | ⟨x,t,rfl,rfl⟩
  ·rcases jG hv with ⟨j,u,rfl,rfl⟩ | ⟨y,u,rfl,rfl⟩
   ·rw[zIB] at h;exact wpAny_eqBool_int h
   ·rw[zIN] at h;exact SeqAt.EqAt.int_str i t y u _ _ _ _ h
  ·rcases jG hv with ⟨j,u,rfl,rfl⟩ | ⟨y,u,rfl,rfl⟩
   ·rw[zHn] at h;exact SeqAt.EqAt.str_int x t j u _ _ _ _ h
   ·rw[zH9] at h;exact wpAny_eqBool_str h
 «strs» := fun k x t v h=>by
  rcases jG h with ⟨i,u,rfl,e⟩ | ⟨y,u,rfl,e⟩
  ·exact nomatch e
  ·injection e with e1 _
   subst e1
   cases v<;>rfl
theorem zCA (prog:Program) (w:World) (i:Int) (t:Tok):(jh prog w).is (.inl i) (.int i t)=true:=zEH i t
theorem zCH (prog:Program) (w:World) (x:Str) (t:Tok):(jh prog w).is (.inr x) (.str x t)=true:=zDg x t
end L2
namespace L2
open PySem PySem.Spec PyProof.Rows
inductive V where
 | non | bl (b:Bool) | int (i:Int) | str (x:Str) | byt (b:Array UInt8) | flt (b:UInt64) | ref (a:Addr) | ty (n:String)
 deriving DecidableEq
noncomputable def zV:V->Value->Prop
 | .non,u=>u=Value.none
 | .bl b,u=>u=Value.bool b
 | .int i,u=>∃ t,u=Value.int i t
 | .str x,u=>∃ t,u=Value.str x t
 | .byt b,u=>∃ t,u=Value.bytes b t
 | .flt b,u=>∃ t,u=Value.float b t
 | .ref a,u=>u=Value.ref a
 | .ty n,u=>u=Value.type n
noncomputable abbrev zJ:List V->List Value->Prop:=Paired zV
theorem zJ.length {xs:List V}{us:List Value} (r:zJ xs us):xs.length=us.length:=Paired.length r
theorem zJ.get:∀ {xs:List V}{us:List Value}{i:Nat}{x:V},zJ xs us->xs[i]? = some x->∃ u,us[i]? = some u/\zV x u
 | _,_,_,_,.nil,e=>by simp at e
 | _,_,0,_,.cons r _,e=>by simp at e;subst e;exact⟨_,rfl,r⟩
 | _,_,i+1,x,.cons _ t,e=>by
  obtain⟨u,h1,h2⟩:=zJ.get (i:=i) (x:=x) t (by simpa using e)
  exact⟨u,by simpa using h1,h2⟩
theorem zJ.set {x:V}{u:Value} (r:zV x u):∀ {xs:List V}{us:List Value} (i:Nat),zJ xs us->zJ (xs.set i x) (us.set i u)
 | _,_,_,.nil=>.nil
 | _,_,0,.cons _ t=>.cons r t
 | _,_,i+1,.cons q t=>.cons q (zJ.set r i t)
theorem zJ.append:∀ {xs ys:List V}{us ws:List Value},zJ xs us->zJ ys ws->zJ (xs++ys) (us++ws)
 | _,_,_,_,.nil,s=>s
 | _,_,_,_,.cons r t,s=>.cons r (zJ.append t s)
theorem zJ.take:∀ {xs:List V}{us:List Value} (n:Nat),zJ xs us->zJ (xs.take n) (us.take n)
 | _,_,0,_=>.nil
 | _,_,_+1,.nil=>.nil
 | _,_,n+1,.cons r t=>.cons r (zJ.take n t)
theorem zJ.drop:∀ {xs:List V}{us:List Value} (n:Nat),zJ xs us->zJ (xs.drop n) (us.drop n)
 | _,_,0,r=>r
 | _,_,_+1,.nil=>.nil
 | _,_,n+1,.cons _ t=>zJ.drop n t
noncomputable def ZS:Option V->Option Value->Prop
 | some v,some u=>zV v u
 | none,none=>True
 | _,_=>False
noncomputable def KV {κ:Type}:List (κ×V)->List (κ×Value)->Prop:=Paired fun (p:κ×V) (q:κ×Value)=>p.1=q.1/\zV p.2 q.2
noncomputable def kV:Key->V
 | .inl i=>.int i
 | .inr x=>.str x
inductive HO where
 | lst (xs:List V)
 | tup (xs:List V)
 | dK (kvs:List (Key×V)) | dT (kvs:List (List Key×V))
 | set (S:Int->Bool) (n:Nat)
 | ins (C dx:Addr) (fs:List (Str×V))
 | own (x:Addr)
 | xd (fs:List (Str×V))
 | met (f x:Addr)
 | rng (lo hi:Int)
 | frz (o:Obj) (u:HO)
 | tbl (ps:Array Value)
 | ext (φ:Heap->Prop)
noncomputable abbrev Hp:=Addr->Option HO
noncomputable def upd (H:Hp) (a:Addr) (o:HO):Hp:=fun b=>if b=a then some o else H b
theorem jm {H:Hp}{a:Addr}{o:HO}:upd H a o a=some o:=by unfold upd;rw[if_pos rfl]
theorem zg {H:Hp}{a b:Addr}{o:HO} (h:b≠a):upd H a o b=H b:=by unfold upd;rw[if_neg h]
theorem j8 {H:Hp}{a b:Addr}{o:HO} (h:H a=some o) (h':H b=none):a≠b:=by
 intro e;subst e;rw[h] at h';cases h'
section
variable (P:Program) (w:World)
noncomputable def jE (H:Hp) (h:Heap) (a:Addr):HO->Prop
 | .lst xs=>xs.length <= sizeLine/\∃ (its:List Value) (n:Nat),zJ xs its/\h.get? a=some { cls:=.type "list",data:=.seq its.toArray n }
 | .tup xs=>xs.length <= sizeLine/\∃ its:List Value,zJ xs its/\IsTup h a its.toArray
 | .dK kvs=>kvs.length <= sizeLine/\(a == sysModules)=false/\∃ vs,KV kvs vs/\h.DictOf (jh P w) a vs
 | .dT kvs=>kvs.length <= sizeLine/\(a == sysModules)=false/\∃ xs:List (List Key×Addr×Value),
   Paired (fun (p:List Key×V) (q:List Key×Addr×Value)=>p.1=q.1/\H q.2.1=some (.tup (p.1.map kV))/\zV p.2 q.2.2) kvs xs /\
   ∃ o es ep,h.get? a=some o/\o.ExactDict/\o.data=.dict es ep/\es.toList=xs.map (entryOfKey (tupleKind (jh P w)))/\(xs.map (·.1)).Nodup
 | .set S n=>h.SetOf (intKind P w) a S n
 | .ins C dx fs=>H dx=some (.own a)/\fs.length <= 1000/\dx≠a/\h.get? a=some (PySem.W.instObj C dx) /\
   ∃ mA,h.Ns1 dx mA/\(∀ f,ZS (fs.lookup f) (mA f))/\PySem.Within mA (fs.map (·.1))
 | .own _=>∃ o,h.get? a=some o
 | .xd fs=>∃ mA,h.Ns1 a mA/\∀ f,ZS (fs.lookup f) (mA f)
 | .rng lo hi=>∃ t u v,h.get? a=some { cls:=.type "range",data:=.fields #[.int lo t,.int hi u,.int 1 v] }
 | .frz o u=>h.get? a=some o/\jE H h a u
 | .tbl ps=>h.get? a=some { cls:=.none,data:=.fields ps }
 | .met f x=>h.get? a=some (PySem.W.methodObj (.ref f) (.ref x))
 | .ext φ=>φ h/\(∃ o,h.get? a=some o)/\∀ h1 h2:Heap,φ h1->(∀ o,h1.get? a=some o->h2.get? a=some o)->φ h2
noncomputable def HOk (H:Hp) (h:Heap):Prop:=∀ a o,H a=some o->jE P w H h a o
end
section
variable {P:Program}{w:World}{H H':Hp}{h h':Heap}{a:Addr}{o:HO}
theorem jE.lt (x:jE P w H h a o):a < h.objs.size:=by
 cases o with
 | lst xs=>obtain⟨_,_,_,_,e⟩:=x;exact Heap.lt_size e
 | tup xs=>obtain⟨_,_,_,p⟩:=x;exact p.lt
 | dK kvs=>obtain⟨_,_,_,_,o,_,_,e,_⟩:=x;exact Heap.lt_size e
 | dT kvs=>obtain⟨_,_,_,_,o,_,_,e,_⟩:=x;exact Heap.lt_size e
 | set S n=>obtain⟨o,_,_,_,e,_⟩:=x;exact Heap.lt_size e
 | ins C dx fs=>obtain⟨_,_,_,e,_⟩:=x;exact Heap.lt_size e
 | own y=>obtain⟨_,e⟩:=x;exact Heap.lt_size e
 | xd fs=>obtain⟨_,⟨_,_,_,e,_⟩,_⟩:=x;exact Heap.lt_size e
 | rng lo hi=>obtain⟨_,_,_,e⟩:=x;exact Heap.lt_size e
 | frz ob u=>obtain⟨e,_⟩:=x;exact Heap.lt_size e
 | tbl ps=>exact Heap.lt_size (show h.get? a=some _ from x)
 | met f y=>exact Heap.lt_size (show h.get? a=some _ from x)
 | ext φ=>obtain⟨_,⟨_,e⟩,_⟩:=x;exact Heap.lt_size e
theorem Paired.mapP {α β:Type}{F G:α->β->Prop}:∀ {l₁:List α}{l₂:List β},Paired F l₁ l₂->(∀ a b,F a b->G a b)->Paired G l₁ l₂
 | _,_,.nil,_=>.nil
 | _,_,.cons r t,f=>.cons (f _ _ r) (Paired.mapP t f)
theorem jE.stay (x:jE P w H h a o) (k:∀ b u,(b=a\/H b=some (.own a))->h.get? b=some u->h'.get? b=some u)
  (ho:∀ b,H b=some (.own a)->H' b=some (.own a)) (ht:∀ b xs,H b=some (.tup xs)->H' b=some (.tup xs)):jE P w H' h' a o:=by
 induction o with
 | lst xs=>obtain⟨z,its,n,r,e⟩:=x;exact⟨z,its,n,r,k _ _ (.inl rfl) e⟩
 | tup xs=>obtain⟨z,its,r,ob,e,c⟩:=x;exact⟨z,its,r,ob,k _ _ (.inl rfl) e,c⟩
 | dK kvs=>obtain⟨z,y,vs,r,ob,es,ep,e,c⟩:=x;exact⟨z,y,vs,r,ob,es,ep,k _ _ (.inl rfl) e,c⟩
 | dT kvs =>
  obtain⟨z,y,xs,r,ob,es,ep,e,c⟩:=x
  exact⟨z,y,xs,Paired.mapP r fun p q z=>⟨z.1,ht _ _ z.2.1,z.2.2⟩,ob,es,ep,k _ _ (.inl rfl) e,c⟩
 | set S n=>obtain⟨ob,es,ep,t,e,c⟩:=x;exact⟨ob,es,ep,t,k _ _ (.inl rfl) e,c⟩
 | ins C dx fs =>
  obtain⟨d,z,ne,e,mA,⟨od,es,ep,e2,c⟩,r⟩:=x
  exact⟨ho _ d,z,ne,k _ _ (.inl rfl) e,mA,⟨od,es,ep,k _ _ (.inr d) e2,c⟩,r⟩
 | own y=>obtain⟨ob,e⟩:=x;exact⟨ob,k _ _ (.inl rfl) e⟩
 | xd fs=>obtain⟨mA,⟨od,es,ep,e,c⟩,r⟩:=x;exact⟨mA,⟨od,es,ep,k _ _ (.inl rfl) e,c⟩,r⟩
 | rng lo hi=>obtain⟨t,u,v,e⟩:=x;exact⟨t,u,v,k _ _ (.inl rfl) e⟩
 | frz ob u ih=>obtain⟨e,q⟩:=x;exact⟨k _ _ (.inl rfl) e,ih q⟩
 | tbl ps =>
  have e:h.get? a=some { cls:=.none,data:=.fields ps }:=x
  show h'.get? a=some { cls:=.none,data:=.fields ps }
  exact k a _ (.inl rfl) e
 | met f y =>
  have e:h.get? a=some (PySem.W.methodObj (.ref f) (.ref y)):=x
  show h'.get? a=some (PySem.W.methodObj (.ref f) (.ref y))
  exact k a _ (.inl rfl) e
 | ext φ=>obtain⟨p,⟨o,e⟩,st⟩:=x;exact⟨st _ _ p fun o q=>k _ _ (.inl rfl) q,⟨o,k _ _ (.inl rfl) e⟩,st⟩
theorem HOk.lt (x:HOk P w H h) (e:H a=some o):a < h.objs.size:=(x a o e).lt
theorem HOk.fresh (x:HOk P w H h) (e:h.objs.size <= a):H a=none:=by
 cases q:H a with
 | none=>rfl
 | some u=>exact absurd (Nat.lt_of_lt_of_le (x.lt q) e) (Nat.lt_irrefl _)
theorem HOk.kept (x:HOk P w H h) (k:∀ b u,h.get? b=some u->h'.get? b=some u):HOk P w H h':=fun a o e =>
 (x a o e).stay (fun b u _ q=>k b u q) (fun _ q=>q) fun _ _ q=>q
theorem HOk.laid (x:HOk P w H h) (k:∀ b u,h.get? b=some u->h'.get? b=some u) (hp:h.objs.size <= a) (new:jE P w (upd H a o) h' a o):HOk P w (upd H a o) h':=fun b u e=>by
 have hn:=x.fresh hp
 by_cases hb:b=a
 ·subst hb;rw[jm] at e;cases e;exact new
 ·rw[zg hb] at e
  exact (x b u e).stay (fun c v _ q=>k c v q) (fun c q=>by rw[zg (j8 q hn)];exact q) fun c xs q=>by rw[zg (j8 q hn)];exact q
end
noncomputable def Rd (H:Hp) (a:Addr) (u:HO):Prop:=H a=some u\/∃ o,H a=some (.frz o u)
theorem Rd.ok {P:Program}{w:World}{H:Hp}{h:Heap}{a:Addr}{u:HO} (r:Rd H a u) (x:HOk P w H h):jE P w H h a u:=by
 rcases r with r | ⟨o,r⟩
 ·exact x a u r
 ·obtain⟨_,q⟩:=x a _ r
  exact q
noncomputable def Mut:Option HO->Prop
 | some (.lst _)=>True
 | some (.dK _)=>True
 | some (.dT _)=>True
 | some (.set _ _)=>True
 | some (.ins _ _ _)=>True
 | some (.ext _)=>True
 | _=>False
section
variable {P:Program}{w:World}{H:Hp}{h h':Heap}{x e:Addr}{o':HO}
theorem HOk.write (ok:HOk P w H h) (mu:Mut (H x)) (he:e=x\/H e=some (.own x)) (k:∀ b u,b≠e->h.get? b=some u->h'.get? b=some u) (heo:∃ u,h'.get? e=some u)
  (new:jE P w (upd H x o') h' x o'):HOk P w (upd H x o') h':=fun b u q=>by
 have nown:∀ c y,H c=some (.own y)->c≠x:=fun c y r z=>by subst z;rw[r] at mu;exact mu
 have ntup:∀ c xs,H c=some (.tup xs)->c≠x:=fun c xs r z=>by subst z;rw[r] at mu;exact mu
 by_cases hb:b=x
 ·subst hb;rw[jm] at q;cases q;exact new
 ·rw[zg hb] at q
  by_cases hbe:b=e
  ·have q':H b=some (.own x):=by
    rcases he with z | z
    ·exact absurd (hbe.trans z) hb
    ·rw[hbe];exact z
   rw[q] at q';cases q'
   obtain⟨v,hv⟩:=heo
   exact⟨v,by rw[hbe];exact hv⟩
  ·refine (ok b u q).stay (fun c v hc r=>k c v ?_ r) (fun c r=>by rw[zg (nown c b r)];exact r) fun c xs r=>by rw[zg (ntup c xs r)];exact r
   rcases hc with rfl | hc
   ·exact hbe
   ·rintro rfl
    rcases he with z | z
    ·exact nown c b hc z
    ·rw[hc] at z;cases z;exact hb rfl
end
structure Un (fs ex:List Addr) (H H':Hp) (h h':Heap):Prop where
 keep:∀ b o,h.get? b=some o->H b=none->b∉fs->b∉ex->h'.get? b=some o
 slot:∀ b o,h.get? b=some o->H b=none->b∈fs->b∉ex->∃ sl,h'.get? b=some { o with slots:=sl }
 free:∀ b o,h.get? b=some o->H b=none->b∉ex->H' b=none
 there:∀ b o,h.get? b=some o->b∉ex->∃ o',h'.get? b=some o'
 tups:∀ b xs,H b=some (.tup xs)->H' b=some (.tup xs)
 frzs:∀ b o u,H b=some (.frz o u)->H' b=some (.frz o u)
 tbls:∀ b ps,H b=some (.tbl ps)->∃ more,H' b=some (.tbl (ps++more))
section
variable {fs fs' ex ex':List Addr}{H H1 H2:Hp}{h h1 h2 h':Heap}{a x e:Addr}{o:HO}
theorem Un.any (u:Un fs ex H H1 h h1) {b:Addr}{ob:Obj} (q:h.get? b=some ob) (n:H b=none) (hx:b∉ex):∃ sl,h1.get? b=some { ob with slots:=sl }:=by
 by_cases hb:b∈fs
 ·exact u.slot b ob q n hb hx
 ·exact⟨ob.slots,u.keep b ob q n hb hx⟩
theorem Un.kept (k:∀ b u,h.get? b=some u->h'.get? b=some u):Un fs ex H H h h' :=
 ⟨fun b ob q _ _ _=>k b ob q,fun b ob q _ _ _=>⟨ob.slots,k b ob q⟩,fun _ _ _ n _=>n,fun b ob q _=>⟨ob,k b ob q⟩,fun _ _ q=>q,fun _ _ _ q=>q,fun _ ps q=>⟨#[],by rw[q];simp⟩⟩
theorem Un.refl:Un fs ex H H h h:=Un.kept fun _ _ q=>q
theorem Un.laid (k:∀ b u,h.get? b=some u->h'.get? b=some u) (hp:h.objs.size <= a) (hn:H a=none):Un fs ex H (upd H a o) h h' where
 keep:=fun b u q _ _ _=>k b u q
 slot:=fun b u q _ _ _=>⟨u.slots,k b u q⟩
 free:=fun b u q n _=>by rw[zg (Nat.ne_of_lt (Nat.lt_of_lt_of_le (Heap.lt_size q) hp))];exact n
 there:=fun b u q _=>⟨u,k b u q⟩
 tups:=fun b xs q=>by rw[zg (j8 q hn)];exact q
 frzs:=fun b u xs q=>by rw[zg (j8 q hn)];exact q
 tbls:=fun b ps q=>⟨#[],by rw[zg (j8 q hn),q];simp⟩
theorem Un.write (mu:Mut (H x)) (he:e=x\/H e=some (.own x)) (k:∀ b u,b≠e->h.get? b=some u->h'.get? b=some u) (heo:∃ u,h'.get? e=some u):Un fs ex H (upd H x o) h h':=by
 have hx:∀ b,H b=none->b≠x:=fun b n z=>by subst z;rw[n] at mu;exact mu
 have hb:∀ b,H b=none->b≠e:=fun b n z=>by
  subst z
  rcases he with r | r
  ·exact hx b n r
  ·rw[n] at r;cases r
 have hm:∀ b u,H b=some u -> ¬ Mut (some u)->b≠x:=fun b u q nm z=>by subst z;rw[q] at mu;exact nm mu
 refine⟨fun b u q n _ _=>k b u (hb b n) q,fun b u q n _ _=>⟨u.slots,k b u (hb b n) q⟩,fun b u q n _=>by rw[zg (hx b n)];exact n,fun b u q _=>?_,
  fun b xs q=>by rw[zg (hm b _ q fun z=>z)];exact q,fun b u xs q=>by rw[zg (hm b _ q fun z=>z)];exact q,fun b ps q=>⟨#[],by rw[zg (hm b _ q fun z=>z),q];simp⟩⟩
 by_cases hbe:b=e
 ·subst hbe;exact heo
 ·exact⟨u,k b u hbe q⟩
end
noncomputable def trk (h:Heap) (H:Hp):List Addr:=(List.range h.objs.size).filter fun a=>(H a).isSome
noncomputable def Z5 (h:Heap) (H:Hp):Heap:=PySem.W.hideAll h (trk h H)
theorem zEL (h:Heap) (H:Hp):(Z5 h H).objs.size=h.objs.size:=PySem.W.hideAll_size _ _
theorem zEk {h:Heap}{H:Hp}{b:Addr}{o:Obj} (e:h.get? b=some o) (n:H b=none):(Z5 h H).get? b=some o :=
 PySem.W.hideAll_get _ e fun hm=>by
  have q:(H b).isSome=true:=(List.mem_filter.mp hm).2
  rw[n] at q;simp at q
theorem zGh {h:Heap}{H:Hp}{b:Addr}{o:Obj} (e:(Z5 h H).get? b=some o):h.get? b=some o/\H b=none:=by
 have e':h.get? b=some o:=PySem.W.of_hideAll (trk h H) e
 refine⟨e',?_⟩
 cases q:H b with
 | none=>rfl
 | some x =>
  have hm:b∈trk h H:=List.mem_filter.mpr ⟨List.mem_range.mpr (Heap.lt_size e'),by simp[q]⟩
  have z:(Z5 h H).get? b=none:=PySem.W.hideAll_none (trk h H) hm
  rw[z] at e;cases e
noncomputable def zFy (g h:Heap) (L:Addr):List (Addr×Obj):=(List.range h.objs.size).filterMap fun a=>if a=L\/(g.get? a).isSome=true then none else (h.get? a).map fun o=>(a,o)
noncomputable def z6 (g h:Heap) (L d:Addr):List (Addr×Obj):=(zFy g h L).filter fun p=>decide (p.1≠d)
end L2
namespace L2
open PySem PySem.Spec PyProof.Rows
structure Mod (K:PySem.W.Frag) (mg:Str->Option Value) (base:Heap):Prop where
 kin:K.In base
 glob:base.Ns mainGlobals mg
 blt:∃ mb,base.Ns builtinsNs mb/\∀ x:Str,x ≠ "__name__" -> mb x=bootBuiltins x
 nolimit:base.NoLimit
structure Cx where
 prog:Program
 w:World
 K:PySem.W.Frag
 mg:Str->Option Value
 base:Heap
 A:Around
 N:List Str
 s₀:Shared
 H₀:Hp
 env:Env
 outer:List Env
 stack:List Env
 ex:List Addr
 fn:Str->Bool
 calm:Bool
 pn:List (Addr×Obj)
 xe:Value->Shared->Prop
noncomputable def frs (l:List Env):List Addr:=l.filterMap (·.frame)
noncomputable abbrev Cx.fs (X:Cx):List Addr:=frs X.outer
noncomputable def Vis (sc:Scope) (x:Str):Prop:=sc.names.lookup x=some .local\/sc.names.lookup x=some .cell\/sc.names.lookup x=some .free
noncomputable def Loc (sc:Scope) (x:Str):Prop:=sc.names.lookup x=some .local\/sc.names.lookup x=some .cell
noncomputable def zJE (env:Env) (h:Heap) (m:Str->Option Value) (x:Str) (u:Value):Prop :=
 (env.kindOf x=some .local/\m x=some u)\/((env.kindOf x=some .cell\/env.kindOf x=some .free)/\∃ c,env.cells.lookup x=some c/\h.IsCell c (some u))
structure Cx.Ok (X:Cx):Prop where
 mod:Mod X.K X.mg X.base
 kind:X.env.scope.kind=.function
 glob:X.env.globals=mainGlobals
 blt:X.env.builtins=builtinsNs
 above:X.s₀.heap.objs.size <= X.env.locals
 inj:∀ x y c,X.env.cells.lookup x=some c->X.env.cells.lookup y=some c->x=y
 has:∀ x,(X.env.kindOf x=some .cell\/X.env.kindOf x=some .free)->∃ c,X.env.cells.lookup x=some c
 cab:∀ x c,X.fn x=true->X.env.cells.lookup x=some c->X.s₀.heap.objs.size <= c
 hd:X.calm=true->X.A.handled=none
 frames:X.A.frames=some X.stack
 stk:X.stack=X.outer\/(X.stack=X.env::X.outer/\X.env.frame=some X.env.locals)
 exf:∀ b∈X.ex,b≠X.env.locals/\∀ x c,X.env.cells.lookup x=some c->c≠b
 bs:∀ b o,X.base.get? b=some o->X.s₀.heap.get? b=some o/\X.H₀ b=none
 bsz:X.base.objs.size <= X.s₀.heap.objs.size
 noex:∀ b o,X.base.get? b=some o->b∉X.ex
 exfs:∀ b∈X.ex,b∉X.fs
 funs:X.s₀.heap.FunFrames X.base X.outer
 frf:∀ b∈X.fs,X.H₀ b=none
structure Inv (X:Cx) (pins:List (Addr×Obj)) (σ:List (Option V)) (H:Hp) (s:Shared):Prop where
 ok:X.Ok
 os:s.os=X.s₀.os
 bare:AllBare s.gens
 base:Un X.fs X.ex X.H₀ H X.s₀.heap s.heap
 loc:∃ m,s.heap.Ns X.env.locals m/\∀ (i:Nat) (x:Str) (v:V),X.N[i]? = some x->σ[i]? = some (some v)->Vis X.env.scope x->∃ u,zV v u/\zJE X.env s.heap m x u
 cell:∀ x c,X.env.cells.lookup x=some c->∃ v,s.heap.IsCell c v
 free:H X.env.locals=none
 freeC:∀ x c,X.env.cells.lookup x=some c->H c=none
 pin:∀ p∈X.pn++pins,s.heap.get? p.1=some p.2/\H p.1=none/\p.1≠X.env.locals/\p.1∉X.fs/\∀ v,p.2.data≠.cell v
 hok:HOk X.prog X.w H s.heap
 len:σ.length=X.N.length
 tk:0 < s.toks
section
variable {X:Cx}{pins:List (Addr×Obj)}{σ:List (Option V)}{H H':Hp}{s:Shared}{h':Heap}
theorem Cx.Ok.nofr (ok:X.Ok) {b:Addr}{o:Obj} (e:X.base.get? b=some o):b∉X.fs:=fun hb=>by
 have:=(ok.funs.mem hb).1
 rw[e] at this;cases this
theorem Inv.bs (I:Inv X pins σ H s):∀ b o,X.base.get? b=some o->s.heap.get? b=some o/\H b=none:=fun b o e =>
 ⟨I.base.keep b o (I.ok.bs b o e).1 (I.ok.bs b o e).2 (I.ok.nofr e) (I.ok.noex b o e),I.base.free b o (I.ok.bs b o e).1 (I.ok.bs b o e).2 (I.ok.noex b o e)⟩
theorem Inv.bk (I:Inv X pins σ H s):∀ b o,X.base.get? b=some o->s.heap.get? b=some o:=fun b o e=>(I.bs b o e).1
theorem Inv.mod (I:Inv X pins σ H s):Mod X.K X.mg X.base:=I.ok.mod
theorem Inv.kIn (I:Inv X pins σ H s):X.K.In s.heap:=I.ok.mod.kin.keeps I.bk
theorem Inv.fr (I:Inv X pins σ H s):∃ m,Fr X.base X.env.locals s.heap m :=
 let ⟨m,hn,_⟩:=I.loc
 ⟨m,hn,I.bk,Nat.le_trans I.ok.bsz I.ok.above⟩
theorem Inv.lt (I:Inv X pins σ H s):X.env.locals < s.heap.objs.size:=let ⟨_,hn,_⟩:=I.loc;hn.lt
theorem Inv.sz (I:Inv X pins σ H s):X.s₀.heap.objs.size <= s.heap.objs.size:=Nat.le_trans I.ok.above (Nat.le_of_lt I.lt)
theorem Inv.nofs (I:Inv X pins σ H s) {a:Addr} (h:s.heap.objs.size <= a):a∉X.fs:=fun hb=>by
 obtain⟨_,o,ho,_⟩:=I.ok.funs.mem hb
 exact absurd (Nat.lt_of_lt_of_le (Heap.lt_size ho) (Nat.le_trans I.sz h)) (Nat.lt_irrefl _)
theorem Inv.cne (I:Inv X pins σ H s):∀ x c,X.env.cells.lookup x=some c->c≠X.env.locals:=fun x c e z=>by
 obtain⟨v,o,ho,hd⟩:=I.cell x c e
 obtain⟨m,⟨o',es,ep,ho',hd',_⟩,_⟩:=I.loc
 rw[z,ho'] at ho;cases ho;rw[hd'] at hd;cases hd
theorem Inv.funs (I:Inv X pins σ H s):s.heap.FunFrames X.base X.outer:=by
 have all:∀ (l:List Env),(∀ b∈frs l,b∈X.fs)->X.s₀.heap.FunFrames X.base l->s.heap.FunFrames X.base l:=by
  intro l
  induction l with
  | nil=>intro _ _;trivial
  | cons env r ih =>
   intro hs hl
   obtain⟨hk,⟨L,o,hf,hn,ho,hd⟩,hr⟩:=hl
   have hL:L∈X.fs:=hs L (by unfold frs;rw[List.filterMap_cons,hf];exact List.mem_cons_self)
   obtain⟨sl,e⟩:=I.base.slot L o ho (I.ok.frf L hL) hL fun z=>I.ok.exfs L z hL
   exact⟨hk,⟨L,_,hf,hn,e,hd⟩,ih (fun b hb=>hs b (by unfold frs;rw[List.filterMap_cons,hf];exact List.mem_cons_of_mem _ hb)) hr⟩
 exact all X.outer (fun _ hb=>hb) I.ok.funs
theorem Inv.stack (I:Inv X pins σ H s):s.heap.FunFrames X.base X.stack:=by
 rcases I.ok.stk with e | ⟨e,hf⟩
 ·rw[e];exact I.funs
 ·rw[e]
  obtain⟨m,hn,_⟩:=I.loc
  refine .cons (by rw[I.ok.kind];decide) hf hn ?_ I.funs
  exact Heap.get?_none_of_le (Nat.le_trans I.ok.bsz I.ok.above)
theorem Inv.stkSub (I:Inv X pins σ H s):∀ b∈frs X.stack,b∈X.env.locals::X.fs:=fun b hb=>by
 rcases I.ok.stk with e | ⟨e,hf⟩
 ·rw[e] at hb;exact List.mem_cons_of_mem _ hb
 ·rw[e] at hb
  unfold frs at hb
  rw[List.filterMap_cons,hf] at hb
  exact hb
theorem Inv.stkFree (I:Inv X pins σ H s):∀ b∈frs X.stack,H b=none:=fun b hb=>by
 rcases List.mem_cons.mp (I.stkSub b hb) with e | hb
 ·rw[e];exact I.free
 ·obtain⟨_,o,ho,_⟩:=I.ok.funs.mem hb
  exact I.base.free b o ho (I.ok.frf b hb) fun z=>I.ok.exfs b z hb
theorem Inv.step {g':Array GenState}{t':Nat}{d':Drawn}{ch:List Addr} (I:Inv X pins σ H s)
  (hch:∀ b∈ch,(b∈X.ex\/X.s₀.heap.objs.size <= b)/\b≠X.env.locals/\(∀ x c,X.env.cells.lookup x=some c->c≠b)/\∀ p∈X.pn++pins,p.1≠b)
  (keep:∀ b o,b≠X.env.locals->b∉X.fs->b∉ch->s.heap.get? b=some o->H b=none->h'.get? b=some o)
  (slot:∀ b o,b≠X.env.locals->b∈X.fs->b∉ch->s.heap.get? b=some o->H b=none->∃ sl,h'.get? b=some { o with slots:=sl }) (free:∀ b o,b∉ch->s.heap.get? b=some o->H b=none->H' b=none)
  (there:∀ b o,b∉ch->s.heap.get? b=some o->∃ o',h'.get? b=some o')
  (tups:∀ b xs,H b=some (.tup xs)->H' b=some (.tup xs)) (frzs:∀ b o u,H b=some (.frz o u)->H' b=some (.frz o u)) (tbls:∀ b ps,H b=some (.tbl ps)->∃ more,H' b=some (.tbl (ps++more)))
  (ns:∀ m,s.heap.Ns X.env.locals m->h'.Ns X.env.locals m) (hok:HOk X.prog X.w H' h') (hg:AllBare g') (ht:0 < t':=by first | exact Nat.succ_pos _ | assumption | exact Inv.tk (by assumption) | omega) :
  Inv X pins σ H' { s with heap:=h',gens:=g',drawn:=d',toks:=t' }:=by
 have neL:∀ b o,X.s₀.heap.get? b=some o->b≠X.env.locals:=fun b o e=>Nat.ne_of_lt (Nat.lt_of_lt_of_le (Heap.lt_size e) I.ok.above)
 have neC:∀ b o,X.s₀.heap.get? b=some o->b∉X.ex->b∉ch:=fun b o e hx hb=>by
  rcases (hch b hb).1 with z | z
  ·exact hx z
  ·exact absurd (Nat.lt_of_lt_of_le (Heap.lt_size e) z) (Nat.lt_irrefl _)
 have cellK:∀ x c,X.env.cells.lookup x=some c->∀ v,s.heap.IsCell c v->h'.IsCell c v:=fun x c e v ⟨o,ho,hd⟩=>by
  have nch:c∉ch:=fun z=>(hch c z).2.2.1 x c e rfl
  by_cases hc:c∈X.fs
  ·obtain⟨sl,q⟩:=slot c o (I.cne x c e) hc nch ho (I.freeC x c e)
   exact⟨_,q,hd⟩
  ·exact⟨o,keep c o (I.cne x c e) hc nch ho (I.freeC x c e),hd⟩
 refine⟨I.ok,I.os,hg,⟨fun b o e n hb hx=>?_,fun b o e n hb hx=>?_,fun b o e n hx=>?_,fun b o e hx=>?_,fun b xs e=>tups b xs (I.base.tups b xs e),fun b o xs e=>frzs b o xs (I.base.frzs b o xs e),fun b ps e=>?_⟩,?_,fun x c e=>?_,?_,fun x c e=>?_,fun p hp=>?_,hok,I.len,ht⟩
 ·exact keep b o (neL b o e) hb (neC b o e hx) (I.base.keep b o e n hb hx) (I.base.free b o e n hx)
 ·obtain⟨sl,e1⟩:=I.base.slot b o e n hb hx
  obtain⟨sl',e2⟩:=slot b _ (neL b o e) hb (neC b o e hx) e1 (I.base.free b o e n hx)
  exact⟨sl',e2⟩
 ·obtain⟨o',e1⟩:=I.base.there b o e hx
  exact free b o' (neC b o e hx) e1 (I.base.free b o e n hx)
 ·obtain⟨o',e1⟩:=I.base.there b o e hx
  exact there b o' (neC b o e hx) e1
 ·obtain⟨m1,e1⟩:=I.base.tbls b ps e
  obtain⟨m2,e2⟩:=tbls b _ e1
  exact⟨m1++m2,by rw[e2,Array.append_assoc]⟩
 ·obtain⟨m,hn,hl⟩:=I.loc
  refine⟨m,ns m hn,fun i x v e1 e2 e3=>?_⟩
  obtain⟨u,r,l⟩:=hl i x v e1 e2 e3
  refine⟨u,r,?_⟩
  rcases l with l | ⟨k,c,e,z⟩
  ·exact .inl l
  ·exact .inr ⟨k,c,e,cellK x c e _ z⟩
 ·obtain⟨v,z⟩:=I.cell x c e
  exact⟨v,cellK x c e v z⟩
 ·obtain⟨m,⟨o,_,_,ho,_⟩,_⟩:=I.loc
  exact free _ o (fun z=>(hch _ z).2.1 rfl) ho I.free
 ·obtain⟨v,o,ho,hd⟩:=I.cell x c e
  exact free c o (fun z=>(hch c z).2.2.1 x c e rfl) ho (I.freeC x c e)
 ·obtain⟨e,n,ne,nf,d⟩:=I.pin p hp
  have nch:p.1∉ch:=fun z=>(hch p.1 z).2.2.2 p hp rfl
  exact⟨keep p.1 p.2 ne nf nch e n,free p.1 p.2 nch e n,ne,nf,d⟩
theorem Inv.un {t':Nat} (I:Inv X pins σ H s) (u:Un X.fs [] H H' s.heap h') (hok:HOk X.prog X.w H' h') (ht:0 < t':=by first | exact Nat.succ_pos _ | assumption | exact Inv.tk (by assumption) | omega):Inv X pins σ H' { s with heap:=h',toks:=t' }:=by
 obtain⟨m,⟨o,es,ep,ho,r⟩,_⟩:=id I.loc
 obtain⟨sl,hL⟩:=u.any ho I.free (by simp)
 exact I.step (g':=s.gens) (d':=s.drawn) (ch:=[]) (fun _ z=>nomatch z) (fun b o _ hb _ e n=>u.keep b o e n hb (by simp)) (fun b o _ hb _ e n=>u.slot b o e n hb (by simp)) (fun b o _ e n=>u.free b o e n (by simp)) (fun b o _ e=>u.there b o e (by simp)) u.tups u.frzs u.tbls (fun m' hm=>by
  obtain⟨o',es',ep',ho',r'⟩:=hm
  rw[ho] at ho';cases ho'
  exact⟨_,es',ep',hL,r'⟩) hok I.bare ht
theorem Inv.call {g':Array GenState}{t':Nat}{d':Drawn}{ch:List Addr} (I:Inv X pins σ H s) (u:Un (frs X.stack) ch H H' s.heap h') (hok:HOk X.prog X.w H' h') (hg:AllBare g')
  (hch:∀ b∈ch,(b∈X.ex\/X.s₀.heap.objs.size <= b)/\b≠X.env.locals/\(∀ x c,X.env.cells.lookup x=some c->c≠b)/\∀ p∈X.pn++pins,p.1≠b) (ht:0 < t':=by first | exact Nat.succ_pos _ | assumption | exact Inv.tk (by assumption) | omega) :
  Inv X pins σ H' { s with heap:=h',gens:=g',drawn:=d',toks:=t' }:=by
 obtain⟨m,⟨o,es,ep,ho,r⟩,_⟩:=id I.loc
 obtain⟨sl,hL⟩:=u.any ho I.free fun z=>(hch _ z).2.1 rfl
 exact I.step (ch:=ch) hch (fun b o hL hb hc e n=>u.keep b o e n (fun z=>(List.mem_cons.mp (I.stkSub b z)).elim hL hb) hc) (fun b o _ _ hc e n=>u.any e n hc) (fun b o hc e n=>u.free b o e n hc) (fun b o hc e=>u.there b o e hc) u.tups u.frzs u.tbls (fun m' hm=>by
  obtain⟨o',es',ep',ho',r'⟩:=hm
  rw[ho] at ho';cases ho'
  exact⟨_,es',ep',hL,r'⟩) hok hg ht
theorem Inv.turned {t':Nat}{it:Addr} (I:Inv X pins σ H s) (k:∀ b o,b≠it->s.heap.get? b=some o->h'.get? b=some o) (hn:H it=none) (hL:it≠X.env.locals)
  (h1:it∈X.ex\/X.s₀.heap.objs.size <= it) (h2:∀ x c,X.env.cells.lookup x=some c->c≠it) (h3:∀ p∈X.pn++pins,p.1≠it) (ht:0 < t':=by first | exact Nat.succ_pos _ | assumption | exact Inv.tk (by assumption) | omega):Inv X pins σ H { s with heap:=h',toks:=t' }:=by
 have nit:∀ b u,H b=some u->b≠it:=fun b u e z=>by rw[z,hn] at e;cases e
 refine I.step (g':=s.gens) (d':=s.drawn) (ch:=[it]) (fun b hb=>?_) (fun b o _ _ hc e _=>k b o (fun z=>hc (by simp[z])) e) (fun b o _ _ hc e _=>⟨o.slots,k b o (fun z=>hc (by simp[z])) e⟩) (fun _ _ _ _ n=>n)
  (fun b o hc e=>⟨o,k b o (fun z=>hc (by simp[z])) e⟩) (fun _ _ e=>e) (fun _ _ _ e=>e) (fun b ps e=>⟨#[],by rw[e];simp⟩) (fun m hm=>?_) (fun b u e=>?_) I.bare ht
 ·have e:b=it:=by simpa using hb
  subst e
  exact⟨h1,hL,h2,h3⟩
 ·obtain⟨o,es,ep,ho,r⟩:=hm
  exact⟨o,es,ep,k _ o (Ne.symm hL) ho,r⟩
 ·refine (I.hok b u e).stay (fun c v hc q=>k c v ?_ q) (fun _ q=>q) fun _ _ q=>q
  rcases hc with z | z
  ·rw[z];exact nit b u e
  ·exact nit c _ z
theorem Inv.tok (I:Inv X pins σ H s) (t:Nat) (ht:0 < t:=by first | exact Nat.succ_pos _ | assumption | exact Inv.tk (by assumption) | omega):Inv X pins σ H { s with toks:=t }:=I.un (h':=s.heap) (t':=t) Un.refl I.hok ht
theorem Inv.kept {t':Nat} (I:Inv X pins σ H s) (k:∀ b u,s.heap.get? b=some u->h'.get? b=some u) (ht:0 < t':=by first | exact Nat.succ_pos _ | assumption | exact Inv.tk (by assumption) | omega):Inv X pins σ H { s with heap:=h',toks:=t' }:=I.un (Un.kept k) (I.hok.kept k) ht
theorem Inv.laid {a:Addr}{o:HO}{t':Nat} (I:Inv X pins σ H s) (k:∀ b u,s.heap.get? b=some u->h'.get? b=some u) (hp:s.heap.objs.size <= a) (new:jE X.prog X.w (upd H a o) h' a o) (ht:0 < t':=by first | exact Nat.succ_pos _ | assumption | exact Inv.tk (by assumption) | omega) :
  Inv X pins σ (upd H a o) { s with heap:=h',toks:=t' }:=I.un (Un.laid k hp (I.hok.fresh hp)) (I.hok.laid k hp new) ht
theorem Inv.write {x e:Addr}{o:HO}{t':Nat} (I:Inv X pins σ H s) (mu:Mut (H x)) (he:e=x\/H e=some (.own x)) (k:∀ b u,b≠e->s.heap.get? b=some u->h'.get? b=some u) (heo:∃ u,h'.get? e=some u)
  (new:jE X.prog X.w (upd H x o) h' x o) (ht:0 < t':=by first | exact Nat.succ_pos _ | assumption | exact Inv.tk (by assumption) | omega):Inv X pins σ (upd H x o) { s with heap:=h',toks:=t' }:=I.un (Un.write mu he k heo) (I.hok.write mu he k heo new) ht
theorem Inv.weak {σ':List (Option V)} (I:Inv X pins σ H s) (hl:σ'.length=σ.length) (w:∀ (i:Nat) v,σ'[i]? = some (some v)->σ[i]? = some (some v)):Inv X pins σ' H s :=
 ⟨I.ok,I.os,I.bare,I.base,let ⟨m,hn,hl'⟩:=I.loc;⟨m,hn,fun i x v e1 e2 e3=>hl' i x v e1 (w i v e2) e3⟩,I.cell,I.free,I.freeC,I.pin,I.hok,hl.trans I.len,I.tk⟩
theorem Inv.pins_of {pins':List (Addr×Obj)} (I:Inv X pins σ H s) (h:∀ p∈pins',s.heap.get? p.1=some p.2/\H p.1=none/\p.1≠X.env.locals/\p.1∉X.fs/\∀ v,p.2.data≠.cell v):Inv X pins' σ H s :=
 ⟨I.ok,I.os,I.bare,I.base,I.loc,I.cell,I.free,I.freeC,fun p hp=>(List.mem_append.mp hp).elim (fun z=>I.pin p (List.mem_append_left _ z)) (h p),I.hok,I.len,I.tk⟩
theorem zBS {N:List Str} (hN:N.Nodup) {i j:Nat}{x:Str} (a:N[i]? = some x) (b:N[j]? = some x):i=j:=by
 obtain⟨h1,e1⟩:=List.getElem?_eq_some_iff.mp a
 obtain⟨h2,e2⟩:=List.getElem?_eq_some_iff.mp b
 exact (List.getElem_inj hN).mp (e1.trans e2.symm)
theorem zDW {M:Model}{A:Around}{E:Value->Shared->Prop}{i:Nat}{x:Str}{v:V}{u:Value}{Q:Unit->Shared->Prop} (I:Inv X pins σ H s) (hN:X.N.Nodup) (hi:X.N[i]? = some x) (hx:Loc X.env.scope x) (r:zV v u)
  (h:∀ s',Inv X pins (σ.set i (some v)) H s'->(∃ a,Heap.SameBut a s.heap s'.heap/\(a=X.env.locals\/X.env.cells.lookup x=some a))->Q () s') (hf:X.fn x=true\/X.env.scope.names.lookup x=some .local:=by first | exact .inl rfl | exact .inr rfl | assumption):wpAny M A (storeName X.env x u) Q E s:=by
 obtain⟨m,hn,hl⟩:=id I.loc
 have hcls:(X.env.scope.kind == .class || (X.env.scope.kind == .module && X.env.locals != X.env.globals))=false:=by rw[I.ok.kind];rfl
 have hiσ:i < σ.length:=by rw[I.len];exact (List.getElem?_eq_some_iff.mp hi).1
 have cne:=I.cne
 have tracked:∀ {a:Addr}{h':Heap},(∃ o,s.heap.get? a=some o/\H a=none)->Heap.SameBut a s.heap h'->HOk X.prog X.w H h':=fun {a h'} ha hs b ob e=>by
  obtain⟨_,_,hfree⟩:=ha
  refine (I.hok b ob e).stay (fun c w' hc q=>(hs.2 c ?_).trans q) (fun _ q=>q) fun _ _ q=>q
  rintro rfl
  rcases hc with rfl | hc
  ·rw[hfree] at e;cases e
  ·rw[hfree] at hc;cases hc
 rcases hx with hk | hk
 ·refine wpAny_storeName_local hk hn (fun h' hn' hs=>?_) hcls
  obtain⟨oL,_,_,hoL,_⟩:=id hn
  refine h _ ⟨I.ok,I.os,I.bare,⟨fun b o e n hb hx=>?_,fun b o e n hb hx=>?_,I.base.free,fun b o e hx=>?_,I.base.tups,I.base.frzs,I.base.tbls⟩,⟨_,hn',fun j y v' e1 e2 e3=>?_⟩,fun y c e=>?_,I.free,I.freeC,fun p hp=>?_,tracked ⟨oL,hoL,I.free⟩ hs,by simpa using I.len,Nat.succ_pos _⟩ ⟨_,hs,.inl rfl⟩
  ·exact (hs.2 b (Nat.ne_of_lt (Nat.lt_of_lt_of_le (Heap.lt_size e) I.ok.above))).trans (I.base.keep b o e n hb hx)
  ·obtain⟨sl,e1⟩:=I.base.slot b o e n hb hx
   exact⟨sl,(hs.2 b (Nat.ne_of_lt (Nat.lt_of_lt_of_le (Heap.lt_size e) I.ok.above))).trans e1⟩
  ·obtain⟨o',e1⟩:=I.base.there b o e hx
   exact⟨o',(hs.2 b (Nat.ne_of_lt (Nat.lt_of_lt_of_le (Heap.lt_size e) I.ok.above))).trans e1⟩
  ·by_cases hj:j=i
   ·subst hj
    rw[hi] at e1;cases e1
    rw[List.getElem?_set_self hiσ] at e2
    cases e2
    exact⟨u,r,.inl ⟨hk,by simp⟩⟩
   ·rw[List.getElem?_set_ne (Ne.symm hj)] at e2
    obtain⟨u',r',q⟩:=hl j y v' e1 e2 e3
    refine⟨u',r',?_⟩
    rcases q with ⟨k,e⟩ | ⟨k,c,e,z⟩
    ·refine .inl ⟨k,?_⟩
     have:y≠x:=fun e=>hj (zBS hN e1 (e ▸ hi))
     simp[this,e]
    ·exact .inr ⟨k,c,e,z.sameBut hs (cne y c e)⟩
  ·obtain⟨w',z⟩:=I.cell y c e
   exact⟨w',z.sameBut hs (cne y c e)⟩
  ·obtain⟨e,n,ne,nf,d⟩:=I.pin p hp
   exact⟨(hs.2 p.1 ne).trans e,n,ne,nf,d⟩
 ·have hfn:X.fn x=true:=by
   rcases hf with z | z
   ·exact z
   ·rw[z] at hk;cases hk
  obtain⟨c,hc⟩:=I.ok.has x (.inl hk)
  obtain⟨w',z⟩:=I.cell x c hc
  refine wpAny_storeName_cell I.ok.kind hk hc z (fun h' hc' hs=>?_)
  obtain⟨oc,hoc,hocd⟩:=id z
  refine h { s with heap:=h' } ⟨I.ok,I.os,I.bare,⟨fun b o e n hb hx=>?_,fun b o e n hb hx=>?_,I.base.free,fun b o e hx=>?_,I.base.tups,I.base.frzs,I.base.tbls⟩,⟨m,hn.sameBut hs (Ne.symm (cne x c hc)),fun j y v' e1 e2 e3=>?_⟩,fun y c' e=>?_,I.free,I.freeC,fun p hp=>?_,tracked ⟨oc,hoc,I.freeC x c hc⟩ hs,by simpa using I.len,I.tk⟩ ⟨c,hs,.inr hc⟩
  ·exact (hs.2 b (Nat.ne_of_lt (Nat.lt_of_lt_of_le (Heap.lt_size e) (I.ok.cab x c hfn hc)))).trans (I.base.keep b o e n hb hx)
  ·obtain⟨sl,e1⟩:=I.base.slot b o e n hb hx
   exact⟨sl,(hs.2 b (Nat.ne_of_lt (Nat.lt_of_lt_of_le (Heap.lt_size e) (I.ok.cab x c hfn hc)))).trans e1⟩
  ·obtain⟨o',e1⟩:=I.base.there b o e hx
   exact⟨o',(hs.2 b (Nat.ne_of_lt (Nat.lt_of_lt_of_le (Heap.lt_size e) (I.ok.cab x c hfn hc)))).trans e1⟩
  ·by_cases hj:j=i
   ·subst hj
    rw[hi] at e1;cases e1
    rw[List.getElem?_set_self hiσ] at e2
    cases e2
    exact⟨u,r,.inr ⟨.inl hk,c,hc,hc'⟩⟩
   ·rw[List.getElem?_set_ne (Ne.symm hj)] at e2
    obtain⟨u',r',q⟩:=hl j y v' e1 e2 e3
    refine⟨u',r',?_⟩
    rcases q with q | ⟨k,c',e,z'⟩
    ·exact .inl q
    ·refine .inr ⟨k,c',e,z'.sameBut hs ?_⟩
     rintro rfl
     exact hj (zBS hN e1 (I.ok.inj _ _ _ e hc ▸ hi))
  ·by_cases hcc:c'=c
   ·subst hcc;exact⟨_,hc'⟩
   ·obtain⟨w2,z2⟩:=I.cell y c' e
    exact⟨w2,z2.sameBut hs hcc⟩
  ·obtain⟨e,n,ne,nf,d⟩:=I.pin p hp
   refine⟨(hs.2 p.1 ?_).trans e,n,ne,nf,d⟩
   intro q
   rw[q,hoc] at e
   have q':oc=p.2:=Option.some.inj e
   exact d w' (by rw[<- q'];exact hocd)
theorem JA {M:Model}{A:Around}{E:Value->Shared->Prop}{i:Nat}{x:Str}{v:V}{u:Value}{Q:Unit->Shared->Prop} (I:Inv X pins σ H s) (hN:X.N.Nodup) (hi:X.N[i]? = some x) (hx:Loc X.env.scope x) (r:zV v u)
  (h:∀ s',Inv X pins (σ.set i (some v)) H s'->Q () s') (hf:X.fn x=true\/X.env.scope.names.lookup x=some .local:=by first | exact .inl rfl | exact .inr rfl | assumption):wpAny M A (storeName X.env x u) Q E s :=
 zDW I hN hi hx r (fun s' I' _=>h s' I') hf
theorem Inv.call' {s':Shared}{ch:List Addr} (I:Inv X pins σ H s) (ho:s'.os=s.os) (u:Un (frs X.stack) ch H H' s.heap s'.heap) (hok:HOk X.prog X.w H' s'.heap) (hg:AllBare s'.gens)
  (hch:∀ b∈ch,(b∈X.ex\/X.s₀.heap.objs.size <= b)/\b≠X.env.locals/\(∀ x c,X.env.cells.lookup x=some c->c≠b)/\∀ p∈X.pn++pins,p.1≠b) (ht:0 < s'.toks):Inv X pins σ H' s':=by
 obtain⟨h',g',d',t',o'⟩:=s'
 have e:o'=s.os:=ho
 subst e
 exact I.call (g':=g') (t':=t') (d':=d') u hok hg hch ht
end
noncomputable abbrev XK:=Value->Option Addr->Hp->Prop
noncomputable abbrev St:=List (Option V)
noncomputable abbrev VK:=V->Hp->Prop
noncomputable abbrev TE:=St->Hp->VK->Prop
noncomputable abbrev TT:=St->Hp->(Bool->Hp->Prop)->Prop
noncomputable abbrev TA:=St->Hp->(List V->Hp->Prop)->Prop
structure Zh where
 nx:St->Hp->Prop
 rt:VK
 bk:St->Hp->Prop:=fun _ _=>False
 ct:St->Hp->Prop:=fun _ _=>False
noncomputable abbrev TS:=Zh->St->Hp->Prop
noncomputable def EP (X:Cx) (pins:List (Addr×Obj)) (σ:St) (Q:VK) (u:Value) (s':Shared):Prop:=∃ v H',Inv X pins σ H' s'/\zV v u/\Q v H'
noncomputable def TP (X:Cx) (pins:List (Addr×Obj)) (σ:St) (Q:Bool->Hp->Prop) (b:Bool) (s':Shared):Prop:=∃ H',Inv X pins σ H' s'/\Q b H'
noncomputable def AP (X:Cx) (pins:List (Addr×Obj)) (σ:St) (Q:List V->Hp->Prop) (us:List Value) (s':Shared):Prop:=∃ vs H',Inv X pins σ H' s'/\zJ vs us/\Q vs H'
noncomputable def SP (X:Cx) (pins:List (Addr×Obj)) (D:Zh) (f:Flow) (s':Shared):Prop :=
 match f with
 | .next=>∃ σ' H',Inv X pins σ' H' s'/\D.nx σ' H'
 | .brk=>∃ σ' H',Inv X pins σ' H' s'/\D.bk σ' H'
 | .cont=>∃ σ' H',Inv X pins σ' H' s'/\D.ct σ' H'
 | .ret u=>∃ v σ' H',Inv X pins σ' H' s'/\zV v u/\D.rt v H'
noncomputable def PE (X:Cx) (e:Expr) (t:TE):Prop :=
 ∀ (pins:List (Addr×Obj)) (s:Shared) (σ:St) (H:Hp) (Q:VK),Inv X pins σ H s->t σ H Q->wpAny (model X.prog X.w) X.A (eval e X.env) (EP X pins σ Q) X.xe s
noncomputable def PT (X:Cx) (e:Expr) (t:TT):Prop :=
 ∀ (pins:List (Addr×Obj)) (s:Shared) (σ:St) (H:Hp) (Q:Bool->Hp->Prop),Inv X pins σ H s->t σ H Q->wpAny (model X.prog X.w) X.A (isTrue e X.env (eval e X.env)) (TP X pins σ Q) X.xe s
noncomputable def PA (X:Cx) (es:List Expr) (t:TA):Prop :=
 ∀ (pos:Pos) (pins:List (Addr×Obj)) (s:Shared) (σ:St) (H:Hp) (Q:List V->Hp->Prop),Inv X pins σ H s->t σ H Q->wpAny (model X.prog X.w) X.A (spliced (backTo pos (starEach es X.env))) (AP X pins σ Q) X.xe s
noncomputable def PS (X:Cx) (st:Stmt) (t:TS):Prop :=
 ∀ (pins:List (Addr×Obj)) (s:Shared) (σ:St) (H:Hp) (D:Zh),Inv X pins σ H s->t D σ H->wpAny (model X.prog X.w) X.A (exec st X.env) (SP X pins D) X.xe s
noncomputable def PSs (X:Cx) (st:List Stmt) (t:TS):Prop :=
 ∀ (pins:List (Addr×Obj)) (s:Shared) (σ:St) (H:Hp) (D:Zh),Inv X pins σ H s->t D σ H->wpAny (model X.prog X.w) X.A (execs st X.env) (SP X pins D) X.xe s
theorem thn {α:Type}{t:Sem α}{Q Q':α->Shared->Prop}{M:Model}{A:Around}{E:Value->Shared->Prop}{s:Shared} (h:wpAny M A t Q E s) (hQ:∀ a s,Q a s->Q' a s):wpAny M A t Q' E s:=wpAny_mono h hQ fun _ _ x=>x
end L2
namespace L2
open PySem PySem.Spec PyProof.Rows
section
variable {X:Cx}
noncomputable def zG6 (i:Nat):TE:=fun σ H Q=>∃ v,σ[i]? = some (some v)/\Q v H
noncomputable def tC (v:V):TE:=fun _ H Q=>Q v H
theorem zHN {i:Nat}{x:Str}{pos:Pos} (hN:X.N[i]? = some x) (hv:Vis X.env.scope x) (hd:(x == ("__debug__" : Str))=false:=by decide) (hcd:(x == ("__classdict__" : Str))=false:=by decide):PE X (.Name x pos) (zG6 i):=by
 intro pins s σ H Q I h
 obtain⟨v,e,h⟩:=h
 obtain⟨m,hn,hl⟩:=I.loc
 obtain⟨u,r,l⟩:=hl i x v hN e hv
 have fin:EP X pins σ Q u s:=⟨v,H,I,r,h⟩
 rcases l with ⟨hk,hm⟩ | ⟨hk,c,hc,hcell⟩
 ·exact wpAny_Name (wpAny_loadName_local I.ok.kind hk hn hm fin) hd
 ·rcases hk with hk | hk
  ·exact wpAny_Name (wpAny_loadName_cell I.ok.kind hk hc hcell fin) hd
  ·exact wpAny_Name (wpAny_loadName_free I.ok.kind hk hc hcell fin hcd) hd
theorem zBQ {i j pos}:PE X (.Constant (.int i) j pos) (tC (.int i)):=fun _ _ _ H _ I h=>wpAny_Constant_int ⟨.int i,H,I.tok _,⟨_,rfl⟩,h⟩
theorem zDx {x j pos}:PE X (.Constant (.str x) j pos) (tC (.str x)):=fun _ _ _ H _ I h=>Calls.Constant_str ⟨.str x,H,I.tok _,⟨_,rfl⟩,h⟩
noncomputable def Gl (X:Cx) (x:Str):Prop:=X.env.kindOf x=some .globalImplicit
theorem zGZ {E:Value->Shared->Prop}{pins:List (Addr×Obj)}{s:Shared}{σ:St}{H:Hp}{x:Str}{u:Value}{pos:Pos}{Q:Value->Shared->Prop} (I:Inv X pins σ H s) (hg:Gl X x) (hm:X.mg x=some u) (h:Q u s)
  (hd:(x == ("__debug__" : Str))=false:=by decide):wpAny (model X.prog X.w) X.A (eval (.Name x pos) X.env) Q E s :=
 Calls.Name_function_global I.ok.kind hg (Calls.loadGlobal_global (by rw[I.ok.glob];exact I.mod.glob.keeps I.bk) hm h) hd
theorem Jf {E:Value->Shared->Prop}{pins:List (Addr×Obj)}{s:Shared}{σ:St}{H:Hp}{x:Str}{u:Value}{pos:Pos}{Q:Value->Shared->Prop} (I:Inv X pins σ H s) (hg:Gl X x) (hm:X.mg x=none) (hv:bootBuiltins x=some u) (h:Q u s)
  (hn:x ≠ "__name__" := by decide) (hd:(x == ("__debug__" : Str))=false:=by decide):wpAny (model X.prog X.w) X.A (eval (.Name x pos) X.env) Q E s:=by
 obtain⟨mb,h1,h2⟩:=I.mod.blt
 exact Calls.Name_function_global I.ok.kind hg (Calls.loadGlobal_builtin (by rw[I.ok.glob];exact I.mod.glob.keeps I.bk) hm (by rw[I.ok.blt];exact h1.keeps I.bk) ((h2 x hn).trans hv) h) hd
theorem zGp {x:Str}{v:V}{u:Value}{pos:Pos} (hg:Gl X x) (hm:X.mg x=none) (hv:bootBuiltins x=some u) (r:zV v u) (hn:x ≠ "__name__" := by decide) (hd:(x == ("__debug__" : Str))=false:=by decide):PE X (.Name x pos) (tC v) :=
 fun _ _ _ H _ I h=>Jf I hg hm hv ⟨v,H,I,r,h⟩ hn hd
variable {a b:Expr}{ta tb:TE}{pos:Pos}
variable {tA tB':TT}{z6:List Expr}
noncomputable def zIq (ta tb:TE):TE:=fun σ H Q=>ta σ H fun x H1=>∃ c,x=.bl c/\if c=true then tb σ H1 Q else Q (.bl false) H1
theorem zHM {op}{t:TE} (h:PE X a t):PE X (.BoolOp op [a] pos) t:=fun pins s σ H Q I hw=>BoolOp_one (h pins s σ H Q I hw)
theorem zHr (ha:PE X a ta) (hb:PE X (.BoolOp .And (b::z6) pos) tb):PE X (.BoolOp .And (a::b::z6) pos) (zIq ta tb):=by
 intro pins s σ H Q I h
 refine BoolOp_and (thn (ha pins s σ H _ I h) fun v s1 ⟨x,H1,I1,r1,q1⟩=>?_)
 obtain⟨c,rfl,q1⟩:=q1
 cases r1
 refine wpAny_truthy_bool ?_
 cases c with
 | true=>exact hb pins s1 σ H1 Q I1 q1
 | false=>exact⟨.bl false,H1,I1,rfl,q1⟩
end
end L2
namespace L2
open PySem PySem.Spec PyProof.Rows
noncomputable def SqL (K:PySem.W.Frag) (H:Hp) (a:Addr) (xs:List V):Prop :=
 Rd H a (.lst xs) \/
  ∃ (o:Obj) (its:Array Value) (n:Nat),K.lookup a=some o/\o.cls=.type "list" /\ o.dict=none/\o.data=.seq its n/\its.size <= sizeLine/\zJ xs its.toList
noncomputable def SqT (K:PySem.W.Frag) (H:Hp) (a:Addr) (xs:List V):Prop :=
 Rd H a (.tup xs) \/
  ∃ (o:Obj) (its:Array Value) (n:Nat),K.lookup a=some o/\o.cls=.type "tuple" /\ o.data=.seq its n/\its.size <= sizeLine/\zJ xs its.toList
noncomputable def zI9:Value->Option V
 | .none=>some .non
 | .bool b=>some (.bl b)
 | .int i _=>some (.int i)
 | .str x _=>some (.str x)
 | .bytes b _=>some (.byt b)
 | .float b _=>some (.flt b)
 | .ref a=>some (.ref a)
 | .type n=>some (.ty n)
 | _=>none
theorem zV.abs {x:V}{u:Value} (r:zV x u):zI9 u=some x:=by
 cases x with
 | non=>cases r;rfl
 | bl _=>cases r;rfl
 | int _=>obtain⟨t,rfl⟩:=r;rfl
 | str _=>obtain⟨t,rfl⟩:=r;rfl
 | byt _=>obtain⟨t,rfl⟩:=r;rfl
 | flt _=>obtain⟨t,rfl⟩:=r;rfl
 | ref _=>cases r;rfl
 | ty _=>cases r;rfl
theorem zV.inj {x y:V}{u:Value} (r:zV x u) (q:zV y u):x=y:=Option.some.inj (r.abs.symm.trans q.abs)
theorem zJ.inj:∀ {xs ys:List V}{us:List Value},zJ xs us->zJ ys us->xs=ys
 | _,_,_,.nil,.nil=>rfl
 | _,_,_,.cons r t,.cons r' t'=>by rw[r.inj r',zJ.inj t t']
section
variable {X:Cx}{pins:List (Addr×Obj)}{σ:St}{H:Hp}{s:Shared}{a:Addr}{xs ys:List V}
theorem SqL.of {K:PySem.W.Frag} (h:H a=some (.lst xs)):SqL K H a xs:=.inl (.inl h)
theorem SqT.of {K:PySem.W.Frag} (h:H a=some (.tup xs)):SqT K H a xs:=.inl (.inl h)
theorem Inv.list (I:Inv X pins σ H s) (h:SqL X.K H a xs):∃ its:List Value,zJ xs its/\PlainL s.heap a its.toArray/\xs.length <= sizeLine:=by
 rcases h with h | ⟨o,its,n,hk,hc,hd,hs,hz,r⟩
 ·obtain⟨z,its,n,r,e⟩:=h.ok I.hok
  exact⟨its,r,⟨_,n,e,rfl,rfl,rfl⟩,z⟩
 ·refine⟨its.toList,r,⟨o,n,I.kIn a o hk,hc,hd,by simpa using hs⟩,?_⟩
  have e:=r.length
  simp only[Array.length_toList] at e
  omega
theorem Inv.tuple (I:Inv X pins σ H s) (h:SqT X.K H a xs):∃ its:List Value,zJ xs its/\IsTup s.heap a its.toArray/\xs.length <= sizeLine:=by
 rcases h with h | ⟨o,its,n,hk,hc,hs,hz,r⟩
 ·obtain⟨z,its,r,p⟩:=h.ok I.hok
  exact⟨its,r,p,z⟩
 ·refine⟨its.toList,r,⟨o,I.kIn a o hk,hc,n,by simpa using hs⟩,?_⟩
  have e:=r.length
  simp only[Array.length_toList] at e
  omega
theorem Inv.list_inj (I:Inv X pins σ H s) (h:SqL X.K H a xs) (h':SqL X.K H a ys):xs=ys:=by
 obtain⟨its,r,⟨o,n,e,_,_,d⟩,_⟩:=I.list h
 obtain⟨its',r',⟨o',n',e',_,_,d'⟩,_⟩:=I.list h'
 rw[e] at e';cases e'
 rw[d] at d'
 injection d' with d1 _
 have:its=its':=by simpa using congrArg Array.toList d1
 subst this
 exact r.inj r'
theorem Inv.tuple_inj (I:Inv X pins σ H s) (h:SqT X.K H a xs) (h':SqT X.K H a ys):xs=ys:=by
 obtain⟨its,r,⟨o,e,_,n,d⟩,_⟩:=I.tuple h
 obtain⟨its',r',⟨o',e',_,n',d'⟩,_⟩:=I.tuple h'
 rw[e] at e';cases e'
 rw[d] at d'
 injection d' with d1 _
 have:its=its':=by simpa using congrArg Array.toList d1
 subst this
 exact r.inj r'
end
noncomputable abbrev Cx.wish (X:Cx) (E:Value->Shared->Prop):Cx:={ X with xe:=E }
noncomputable abbrev Cx.nox (X:Cx):Cx:=X.wish fun _ _=>False
theorem Cx.Ok.wish {X:Cx} (ok:X.Ok) (E:Value->Shared->Prop):(X.wish E).Ok :=
 ⟨ok.mod,ok.kind,ok.glob,ok.blt,ok.above,ok.inj,ok.has,ok.cab,ok.hd,ok.frames,ok.stk,ok.exf,ok.bs,ok.bsz,ok.noex,ok.exfs,ok.funs,ok.frf⟩
theorem Cx.Ok.unwish {X:Cx}{E:Value->Shared->Prop} (ok:(X.wish E).Ok):X.Ok :=
 ⟨ok.mod,ok.kind,ok.glob,ok.blt,ok.above,ok.inj,ok.has,ok.cab,ok.hd,ok.frames,ok.stk,ok.exf,ok.bs,ok.bsz,ok.noex,ok.exfs,ok.funs,ok.frf⟩
section
variable {X:Cx}{pins:List (Addr×Obj)}{σ:St}{H:Hp}{s:Shared}{E:Value->Shared->Prop}
theorem Inv.wish (I:Inv X pins σ H s) (E:Value->Shared->Prop):Inv (X.wish E) pins σ H s:=⟨I.ok.wish E,I.os,I.bare,I.base,I.loc,I.cell,I.free,I.freeC,I.pin,I.hok,I.len,I.tk⟩
theorem Inv.unwish (I:Inv (X.wish E) pins σ H s):Inv X pins σ H s:=⟨I.ok.unwish,I.os,I.bare,I.base,I.loc,I.cell,I.free,I.freeC,I.pin,I.hok,I.len,I.tk⟩
theorem SP.unwish {D:Zh}{f:Flow}{s':Shared} (h:SP (X.wish E) pins D f s'):SP X pins D f s':=by
 cases f with
 | next=>obtain⟨σ',H',I,q⟩:=h;exact⟨σ',H',I.unwish,q⟩
 | brk=>obtain⟨σ',H',I,q⟩:=h;exact⟨σ',H',I.unwish,q⟩
 | cont=>obtain⟨σ',H',I,q⟩:=h;exact⟨σ',H',I.unwish,q⟩
 | ret u=>obtain⟨v,σ',H',I,r,q⟩:=h;exact⟨v,σ',H',I.unwish,r,q⟩
theorem PSs.nox {st:List Stmt}{t:TS} (h:PSs X.nox st t):PSs X st t:=fun pins s σ H D I hw =>
 wpAny_mono (h pins s σ H D (I.wish _) hw) (fun _ _ q=>q.unwish) fun _ _ z=>False.elim z
end
section
variable {X:Cx}{st:Stmt}{z6:List Stmt}{t u:TS}{e:Expr}{te:TE}{pos:Pos}
noncomputable def zIW:TS:=fun D σ H=>D.nx σ H
noncomputable def zHW (t u:TS):TS:=fun D σ H=>t { D with nx:=u D } σ H
theorem zF2:PSs X [] zIW:=fun _ _ σ H _ I h=>wpAny_execs_nil ⟨σ,H,I,h⟩
theorem zFI (h1:PS X st t) (h2:PSs X z6 u):PSs X (st::z6) (zHW t u):=by
 intro pins s σ H D I h
 refine wpAny_execs_cons (thn (h1 pins s σ H { D with nx:=u D } I h) fun f s1 q=>?_)
 cases f with
 | next =>
  obtain⟨σ',H',I',q⟩:=q
  exact h2 pins s1 σ' H' D I' q
 | ret v=>exact q
 | brk=>exact q
 | cont=>exact q
theorem zGL (h1:PS X st t):PSs X [st] t:=by
 intro pins s σ H D I h
 refine wpAny_execs_cons (thn (h1 pins s σ H D I h) fun f s1 q=>?_)
 cases f with
 | next=>exact wpAny_execs_nil q
 | ret v=>exact q
 | brk=>exact q
 | cont=>exact q
theorem Inv.quiet {pins:List (Addr×Obj)}{σ:St}{H:Hp}{s:Shared} (I:Inv X pins σ H s):interactive X.env=false:=by simp[interactive,I.ok.kind]
noncomputable def zIi (te:TE):TS:=fun D σ H=>te σ H fun _ H1=>D.nx σ H1
theorem zGE (he:PE X e te) (hs:swapsWith e none pos.line X.env=pure false:=by rfl):PS X (.Expr e pos) (zIi te):=by
 intro pins s σ H D I h
 exact wpAny_Expr_any (thn (he pins s σ H _ I h) fun v s1 ⟨x,H1,I1,r1,q1⟩=>⟨σ,H1,I1,q1⟩) I.quiet hs
noncomputable def zIu (te:TE):TS:=fun D σ H=>te σ H D.rt
theorem zH7 (he:PE X e te):PS X (.Return (some e) pos) (zIu te):=by
 intro pins s σ H D I h
 exact wpAny_Return_some (thn (he pins s σ H _ I h) fun v s1 ⟨x,H1,I1,r1,q1⟩=>⟨x,σ,H1,I1,r1,q1⟩)
noncomputable def zJA (c:TT) (t u:TS):TS:=fun D σ H=>c σ H fun b H1=>if b=true then t D σ H1 else u D σ H1
theorem zIX {c:Expr}{a b:List Stmt}{tc:TT} (hc:PT X c tc) (ha:PSs X a t) (hb:PSs X b u):PS X (.If c a b pos) (zJA tc t u):=by
 intro pins s σ H D I h
 refine wpAny_If (thn (hc pins s σ H _ I h) fun d s1 ⟨H1,I1,q1⟩=>?_)
 cases d with
 | true=>exact ha pins s1 σ H1 D I1 q1
 | false=>exact hb pins s1 σ H1 D I1 q1
end
noncomputable abbrev TG:=V->St->Hp->(St->Hp->Prop)->Prop
noncomputable def PG (X:Cx) (target:Expr) (t:TG):Prop :=
 ∀ (pins:List (Addr×Obj)) (s:Shared) (σ:St) (H:Hp) (v:V) (u:Value) (Q:St->Hp->Prop),Inv X pins σ H s->zV v u->t v σ H Q ->
  wpAny (model X.prog X.w) X.A (assign target X.env u) (fun _ s'=>∃ σ' H',Inv X pins σ' H' s'/\Q σ' H') X.xe s
section
variable {X:Cx}{pos:Pos}
noncomputable def jS (i:Nat):TG:=fun v σ H Q=>Q (σ.set i (some v)) H
theorem zGA {i:Nat}{x:Str} (hN:X.N.Nodup) (hi:X.N[i]? = some x) (hx:Loc X.env.scope x) (hf:X.fn x=true\/X.env.scope.names.lookup x=some .local:=by first | exact .inl rfl | exact .inr rfl | assumption):PG X (.Name x pos) (jS i):=by
 intro pins s σ H v u Q I r h
 exact wpAny_assign_Name (JA I hN hi hx r (fun s' I'=>⟨_,H,I',h⟩) hf)
noncomputable def zHc (te:TE) (g:TG):TS:=fun D σ H=>te σ H fun x H1=>g x σ H1 D.nx
theorem zHk {i:Nat}{x:Str}{e:Expr}{te:TE}{pos':Pos} (hN:X.N.Nodup) (hi:X.N[i]? = some x) (hx:Loc X.env.scope x) (he:PE X e te) (hs:swapsWith e (some (.Name x pos')) pos.line X.env=pure false:=by rfl) (hf:X.fn x=true\/X.env.scope.names.lookup x=some .local:=by first | exact .inl rfl | exact .inr rfl | assumption) :
  PS X (.Assign [.Name x pos'] e pos) (zHc te (jS i)):=by
 intro pins s σ H D I h
 refine wpAny_Assign_Name (thn (he pins s σ H _ I h) fun v s1 ⟨y,H1,I1,r1,q1⟩=>?_) hs
 exact JA I1 hN hi hx r1 (fun s2 I2=>⟨_,H1,I2,q1⟩) hf
end
section
variable {X:Cx}{pos:Pos}
noncomputable def zHw (c:TT) (tb:TS):TS:=fun D σ H=>∃ W:Nat->St->Hp->Prop,(∃ m,W m σ H)/\∀ m σ H,W m σ H ->
 c σ H fun b H1=>if b=true then ∃ N:St->Hp->Prop,(∀ σ' H',N σ' H'->∃ m',m' < m/\W m' σ' H')/\tb { D with nx:=N,ct:=N,bk:=D.nx } σ H1 else D.nx σ H1
theorem zE2 {c:Expr}{body:List Stmt}{tc:TT}{tb:TS} (hp:PassesOwn (model X.prog X.w) X.A X.env X.xe) (hc:PT X c tc) (hb:PSs X body tb):PS X (.While c body [] pos) (zHw tc tb):=by
 intro pins s σ H D I h
 obtain⟨W,⟨m0,w0⟩,turn⟩:=h
 refine wpAny_While (codeAny_whileLoop (fun n s'=>∃ σ' H',Inv X pins σ' H' s'/\W n σ' H') ?_ m0 ⟨σ,H,I,w0⟩)
 rintro n s1 ⟨σ1,H1,I1,w1⟩
 refine wpAny_passesOwn hp (thn (hc pins s1 σ1 H1 _ I1 (turn n σ1 H1 w1)) fun b s2 ⟨H2,I2,q2⟩=>?_)
 cases b with
 | true =>
  obtain⟨N,hN,q2⟩:=q2
  rw[if_pos rfl]
  refine wpAny_passesOwn hp (thn (hb pins s2 σ1 H2 _ I2 q2) fun f s3 q3=>?_)
  cases f with
  | next =>
   obtain⟨σ3,H3,I3,n3⟩:=q3
   obtain⟨m',hm,w3⟩:=hN σ3 H3 n3
   exact⟨m',hm,σ3,H3,I3,w3⟩
  | cont =>
   obtain⟨σ3,H3,I3,n3⟩:=q3
   obtain⟨m',hm,w3⟩:=hN σ3 H3 n3
   exact⟨m',hm,σ3,H3,I3,w3⟩
  | brk=>exact q3
  | ret v=>exact q3
 | false =>
  rw[if_neg Bool.false_ne_true]
  exact wpAny_execs_nil ⟨σ1,H2,I2,q2⟩
end
structure It where
 go:Nat->Hp->Prop
 yld:Nat->Hp->V->Hp->Prop
 stop:Nat->Hp->Prop
noncomputable def Z9 (X:Cx) (pins:List (Addr×Obj)) (H:Hp) (b:Addr):Prop :=
 H b=none/\b≠X.env.locals/\b∉X.fs/\(b∈X.ex\/X.s₀.heap.objs.size <= b)/\(∀ x c,X.env.cells.lookup x=some c->c≠b)/\∀ p∈X.pn++pins,p.1≠b
theorem Inv.fpOk {X:Cx}{pins:List (Addr×Obj)}{σ:St}{H H':Hp}{s:Shared}{b:Addr} (I:Inv X pins σ H s) (hb:s.heap.objs.size <= b) (hn:H' b=none):Z9 X pins H' b:=by
 refine⟨hn,Nat.ne_of_gt (Nat.lt_of_lt_of_le I.lt hb),I.nofs hb,.inr (Nat.le_trans I.sz hb),fun x c e z=>?_,fun p hp z=>?_⟩
 ·obtain⟨v,q⟩:=I.cell x c e
  exact absurd (Nat.lt_of_lt_of_le q.lt (by rw[z];exact hb)) (Nat.lt_irrefl _)
 ·exact absurd (Nat.lt_of_lt_of_le (Heap.lt_size (I.pin p hp).1) (by rw[z];exact hb)) (Nat.lt_irrefl _)
structure JB (P:Program) (w:World) (K:PySem.W.Frag) (tg:Expr) (J:It) (fp:List Addr) (it:Addr) (tn:Nat->Heap->Prop):Prop where
 mem:it∈fp
 obj:∀ i h,tn i h->∀ b∈fp,∃ o,h.get? b=some o/\∀ v,o.data≠.cell v
 keep:∀ i h h',tn i h->(∀ b∈fp,∀ o,h.get? b=some o->h'.get? b=some o)->tn i h'
 item:∀ (X:Cx),X.prog=P->X.w=w->X.K=K->X.calm=true->∀ (i:Nat) (pins:List (Addr×Obj)) (s:Shared) (σ:St) (H:Hp) (E:Value->Shared->Prop),Inv X pins σ H s->(∀ b∈fp,Z9 X pins H b)->tn i s.heap->J.go i H ->
  wpAny (model P w) X.A (pyNext (.ref it)) (fun r s1=>∃ u,r=some u /\
   wpAny (model P w) X.A (letOwnedTupleGo tg (.ref it) u) (fun _ s2=>∃ x H',Inv X pins σ H' s2/\zV x u/\J.yld i H x H'/\tn (i+1) s2.heap/\∀ b∈fp,H' b=none) E s1) E s
 done:∀ (X:Cx),X.prog=P->X.w=w->X.K=K->X.calm=true->∀ (i:Nat) (pins:List (Addr×Obj)) (s:Shared) (σ:St) (H:Hp) (E:Value->Shared->Prop),Inv X pins σ H s->(∀ b∈fp,Z9 X pins H b)->tn i s.heap->J.stop i H ->
  wpAny (model P w) X.A (pyNext (.ref it)) (fun r s1=>r=none/\Inv X pins σ H s1) E s
 self:∀ (A:Around) (i:Nat) (s:Shared) (Q:Value->Shared->Prop) (E:Value->Shared->Prop),tn i s.heap->Q (.ref it) s->wpAny (model P w) A (pyIter (.ref it)) Q E s
noncomputable abbrev TI:=St->Hp->(It->Hp->Prop)->Prop
noncomputable def PIE (X:Cx) (pins:List (Addr×Obj)) (σ:St) (tg:Expr) (R:It->Hp->Prop) (itv:Value) (s2:Shared):Prop :=
 ∃ (it:Addr) (fp:List Addr) (tn:Nat->Heap->Prop) (J:It) (H':Hp),itv=.ref it/\Inv X pins σ H' s2/\JB X.prog X.w X.K tg J fp it tn/\tn 0 s2.heap/\(∀ b∈fp,Z9 X pins H' b)/\R J H'
noncomputable def PI (X:Cx) (tg iter:Expr) (wi:TI):Prop :=
 ∀ (pins:List (Addr×Obj)) (s:Shared) (σ:St) (H:Hp) (R:It->Hp->Prop),Inv X pins σ H s->wi σ H R ->
  wpAny (model X.prog X.w) X.A (eval iter X.env) (fun v s1=>wpAny (model X.prog X.w) X.A (pyIter v) (PIE X pins σ tg R) X.xe s1) X.xe s
theorem Jl {M:Model}{A:Around}{E:Value->Shared->Prop}{s:Shared}{tg:Expr}{it:Addr}{u:Value}{o:Obj}{n:String}{vs:Array Value}{Q:Unit->Shared->Prop} (ho:s.heap.get? it=some o) (hc:o.cls=.type n) (hd:o.data=.fields vs)
  (hn:["enumerate","zip","dict_itemiterator","dict_reverseitemiterator","odict_iterator","itertools.zip_longest","itertools.pairwise"].contains n=false) (hQ:Q () s):wpAny M A (letOwnedTupleGo tg (.ref it) u) Q E s:=by
 unfold letOwnedTupleGo
 cases tg<;>first
  | exact wpAny_pure hQ
  | (cases u<;>first
      | exact wpAny_pure hQ
      | (refine wpAny_bind (wpAny_load ho ?_)
         rw[hc,hd]
         show wpAny M A (if (["enumerate","zip","dict_itemiterator","dict_reverseitemiterator","odict_iterator","itertools.zip_longest","itertools.pairwise"].contains n && vs[0]? == some (rawInt _))=true then _ else _) Q E s
         rw[if_neg (by intro h;rw[hn,Bool.false_and] at h;cases h)]
         exact wpAny_pure hQ))
noncomputable def Itl (K:PySem.W.Frag) (a:Addr):It :=
 ⟨fun i H=>∃ xs x,SqL K H a xs/\xs[i]? = some x,fun i H x H'=>H'=H/\∀ xs,SqL K H a xs->xs[i]? = some x,fun i H=>∃ xs,SqL K H a xs/\xs.length <= i⟩
noncomputable def Itt (K:PySem.W.Frag) (a:Addr):It :=
 ⟨fun i H=>∃ xs x,SqT K H a xs/\xs[i]? = some x,fun i H x H'=>H'=H/\∀ xs,SqT K H a xs->xs[i]? = some x,fun i H=>∃ xs,SqT K H a xs/\xs.length <= i⟩
noncomputable def Itr (lo:Int) (n:Nat):It:=⟨fun i _=>i < n,fun i H x H'=>H'=H/\x=.int (lo+i),fun i _=>n <= i⟩
theorem zEI {P:Program}{w:World}{K:PySem.W.Frag}{tg:Expr} (a it:Addr):JB P w K tg (Itl K a) [it] it (fun i h=>h.IsListIter it a i) where
 mem:=by simp
 obj:=fun i h st b hb=>by
  have e:b=it:=by simpa using hb
  subst e
  obtain⟨o,e,c,d⟩:=st
  exact⟨o,e,fun v z=>by rw[d] at z;cases z⟩
 keep:=fun i h h' st k=>st.at fun o e=>k it (by simp) o e
 item:=by
  intro X hP hw hK hc i pins s σ H E I hf st hg
  subst hP hw hK
  obtain⟨xs,x,hq,hx⟩:=hg
  obtain⟨its,rv,p,hz⟩:=I.list hq
  obtain⟨u,hu,ru⟩:=rv.get hx
  obtain⟨f0,f1,f2,f3,f4,f5⟩:=hf it (by simp)
  refine wpAny_pyNext_list_item st p.isList (x:=u) (by simpa using hu) fun h' st' sb=>?_
  have I1:Inv X pins σ H { s with heap:=h' }:=I.turned (t':=s.toks) (fun b o hb e=>(sb.2 b hb).trans e) f0 f1 f3 f4 f5
  obtain⟨o,e,c,d⟩:=id st'
  exact⟨u,rfl,Jl (s:={ s with heap:=h' }) e c d (by decide) ⟨x,H,I1,ru,⟨rfl,fun ys hy=>by rw[I.list_inj hy hq];exact hx⟩,st',fun b hb=>(hf b hb).1⟩⟩
 done:=by
  intro X hP hw hK hc i pins s σ H E I hf st hg
  subst hP hw hK
  obtain⟨xs,hq,hx⟩:=hg
  obtain⟨its,rv,p,hz⟩:=I.list hq
  obtain⟨f0,f1,f2,f3,f4,f5⟩:=hf it (by simp)
  have hl:=rv.length
  exact wpAny_pyNext_list_end (I.ok.hd hc) st p.isList (by simp;omega) fun h' eb=>⟨rfl,I.turned (t':=s.toks) (fun b o hb e=>eb b o hb e) f0 f1 f3 f4 f5⟩
 self:=fun _ _ _ _ _ st h=>wpAny_pyIter_listiter st h
theorem zCy {P:Program}{w:World}{K:PySem.W.Frag}{tg:Expr} (a it:Addr):JB P w K tg (Itt K a) [it] it (fun i h=>h.IsTupleIter it a i) where
 mem:=by simp
 obj:=fun i h st b hb=>by
  have e:b=it:=by simpa using hb
  subst e
  obtain⟨o,e,c,d⟩:=st
  exact⟨o,e,fun v z=>by rw[d] at z;cases z⟩
 keep:=fun i h h' st k=>st.at fun o e=>k it (by simp) o e
 item:=by
  intro X hP hw hK hc i pins s σ H E I hf st hg
  subst hP hw hK
  obtain⟨xs,x,hq,hx⟩:=hg
  obtain⟨its,rv,p,hz⟩:=I.tuple hq
  obtain⟨u,hu,ru⟩:=rv.get hx
  obtain⟨f0,f1,f2,f3,f4,f5⟩:=hf it (by simp)
  refine wpAny_pyNext_tuple_item st (show s.heap.IsTuple a its.toArray from p) (x:=u) (by simpa using hu) fun h' st' sb=>?_
  have I1:Inv X pins σ H { s with heap:=h' }:=I.turned (t':=s.toks) (fun b o hb e=>(sb.2 b hb).trans e) f0 f1 f3 f4 f5
  obtain⟨o,e,c,d⟩:=id st'
  exact⟨u,rfl,Jl (s:={ s with heap:=h' }) e c d (by decide) ⟨x,H,I1,ru,⟨rfl,fun ys hy=>by rw[I.tuple_inj hy hq];exact hx⟩,st',fun b hb=>(hf b hb).1⟩⟩
 done:=by
  intro X hP hw hK hc i pins s σ H E I hf st hg
  subst hP hw hK
  obtain⟨xs,hq,hx⟩:=hg
  obtain⟨its,rv,p,hz⟩:=I.tuple hq
  obtain⟨f0,f1,f2,f3,f4,f5⟩:=hf it (by simp)
  have hl:=rv.length
  exact wpAny_pyNext_tuple_end (I.ok.hd hc) st (show s.heap.IsTuple a its.toArray from p) (by simp;omega) fun h' eb=>⟨rfl,I.turned (t':=s.toks) (fun b o hb e=>eb b o hb e) f0 f1 f3 f4 f5⟩
 self:=fun _ _ _ _ _ st h=>wpAny_pyIter_tupleiter st h
theorem zCu {P:Program}{w:World}{K:PySem.W.Frag}{tg:Expr} (it:Addr) (lo:Int) (n:Nat):JB P w K tg (Itr lo n) [it] it (fun i h=>IsRangeIter h it (lo+(i:Nat) * 1) ((n:Int) - (i:Nat)) 1) where
 mem:=by simp
 obj:=fun i h st b hb=>by
  have e:b=it:=by simpa using hb
  subst e
  exact⟨_,st,fun v z=>by
   have z':Data.fields _=Data.cell v:=z
   cases z'⟩
 keep:=fun i h h' st k=>k it (by simp) _ st
 item:=by
  intro X hP hw hK hc i pins s σ H E I hf st hg
  subst hP hw hK
  obtain⟨f0,f1,f2,f3,f4,f5⟩:=hf it (by simp)
  have W:=Walks.range (prog:=X.prog) (w:=X.w) (I.ok.hd hc) it lo 1 n
  refine wpAny_with_toks (n:=1) I.tk (W.item i s _ _ hg st fun v h' tk hv st' kk htk=>?_)
  obtain⟨t,rfl⟩:=hv
  have I1:Inv X pins σ H { s with heap:=h',toks:=tk }:=I.turned (fun b o hb e=>kk b o (by simpa using hb) e) f0 f1 f3 f4 f5
  refine⟨_,rfl,Jl (s:={ s with heap:=h',toks:=tk }) (n := "range_iterator") st' rfl rfl (by decide) ⟨.int (lo+i),H,I1,⟨t,?_⟩,⟨rfl,rfl⟩,st',fun b hb=>(hf b hb).1⟩⟩
  rw[Int.mul_one]
 done:=by
  intro X hP hw hK hc i pins s σ H E I hf st hg
  subst hP hw hK
  obtain⟨f0,f1,f2,f3,f4,f5⟩:=hf it (by simp)
  exact wpAny_pyNext_range_end (I.ok.hd hc) st (by have:n <= i:=hg;omega) fun h' eb=>⟨rfl,I.turned (t':=s.toks) (fun b o hb e=>eb b o hb e) f0 f1 f3 f4 f5⟩
 self:=fun _ _ _ _ _ st h=>wpAny_pyIter_rangeiter st h
end L2
namespace L2
open PySem PySem.Spec PyProof.Rows
section
variable {X:Cx}{tg:Expr}
noncomputable def zIa (K:PySem.W.Frag) (tl:TE):TI:=fun σ H R=>tl σ H fun x H1=>∃ a,x=.ref a/\(∃ xs,SqL K H1 a xs)/\R (Itl K a) H1
noncomputable def zJD (K:PySem.W.Frag) (tl:TE):TI:=fun σ H R=>tl σ H fun x H1=>∃ a,x=.ref a/\(∃ xs,SqT K H1 a xs)/\R (Itt K a) H1
theorem zGu {l:Expr}{tl:TE} (hl:PE X l tl):PI X tg l (zIa X.K tl):=by
 intro pins s σ H R I h
 refine thn (hl pins s σ H _ I h) fun v s1 ⟨x,H1,I1,r1,q1⟩=>?_
 obtain⟨a,e,⟨xs,hq⟩,q⟩:=q1
 subst e
 cases r1
 obtain⟨its,rv,p,hz⟩:=I1.list hq
 refine wpAny_pyIter_list p.isList ?_
 refine⟨s1.heap.objs.size,[s1.heap.objs.size],_,_,H1,rfl,I1.kept (t':=s1.toks) fun b o e=>Heap.get?_push_of_some _ e,zEI a _,⟨_,Heap.get?_push_size _ rfl,rfl,rfl⟩,fun b hb=>?_,q⟩
 have e:b=s1.heap.objs.size:=by simpa using hb
 subst e
 exact I1.fpOk (Nat.le_refl _) (I1.hok.fresh (Nat.le_refl _))
theorem zIP {l:Expr}{tl:TE} (hl:PE X l tl):PI X tg l (zJD X.K tl):=by
 intro pins s σ H R I h
 refine thn (hl pins s σ H _ I h) fun v s1 ⟨x,H1,I1,r1,q1⟩=>?_
 obtain⟨a,e,⟨xs,hq⟩,q⟩:=q1
 subst e
 cases r1
 obtain⟨its,rv,p,hz⟩:=I1.tuple hq
 refine wpAny_pyIter_tuple (show s1.heap.IsTuple a its.toArray from p) ?_
 refine⟨s1.heap.objs.size,[s1.heap.objs.size],_,_,H1,rfl,I1.kept (t':=s1.toks) fun b o e=>Heap.get?_push_of_some _ e,zCy a _,⟨_,Heap.get?_push_size _ rfl,rfl,rfl⟩,fun b hb=>?_,q⟩
 have e:b=s1.heap.objs.size:=by simpa using hb
 subst e
 exact I1.fpOk (Nat.le_refl _) (I1.hok.fresh (Nat.le_refl _))
theorem zFg {pins:List (Addr×Obj)}{σ:St}{H:Hp}{s:Shared}{R:It->Hp->Prop}{E:Value->Shared->Prop}{lo hi:Int}{t u v:Tok}{tk:Nat} (I:Inv X pins σ H s) (h1:-(2 ^ 62) <= lo) (h2:lo < 2 ^ 62) (h3:-(2 ^ 62) <= hi) (h4:hi < 2 ^ 62)
  (q:R (Itr lo (hi - lo).toNat) H) (htk:0 < tk:=by first | exact Nat.succ_pos _ | assumption | exact Inv.tk (by assumption) | omega):wpAny (model X.prog X.w) X.A (pyIter (.ref s.heap.objs.size)) (PIE X pins σ tg R) E { s with heap:=s.heap.push { cls:=.type "range",data:=.fields #[.int lo t,.int hi u,.int 1 v] },toks:=tk }:=by
 refine wpAny_pyIter_range (IsRange.new ..) (small_one h1 h2 h3 h4) ?_
 have I1:Inv X pins σ H { s with heap:=s.heap.push { cls:=.type "range",data:=.fields #[.int lo t,.int hi u,.int 1 v] },toks:=tk }:=I.kept fun b o e=>Heap.get?_push_of_some _ e
 refine⟨(s.heap.push { cls:=.type "range",data:=.fields #[.int lo t,.int hi u,.int 1 v] }).objs.size,[(s.heap.push { cls:=.type "range",data:=.fields #[.int lo t,.int hi u,.int 1 v] }).objs.size],_,_,H,rfl,
  I1.kept (t':=tk) fun b o e=>Heap.get?_push_of_some _ e,zCu _ lo (hi - lo).toNat,?_,fun b hb=>?_,q⟩
 ·have e1:lo+((0:Nat):Int) * 1=lo:=by simp
  have e2:(((hi - lo).toNat:Nat):Int) - ((0:Nat):Int)=Builtin.Range.rangeSize lo hi 1:=by rw[rangeSize_one];split<;>omega
  show IsRangeIter _ _ (lo+((0:Nat):Int) * 1) ((((hi - lo).toNat:Nat):Int) - ((0:Nat):Int)) 1
  rw[e1,e2]
  exact Heap.get?_push_size _ rfl
 ·have e:b=(s.heap.push { cls:=.type "range",data:=.fields #[.int lo t,.int hi u,.int 1 v] }).objs.size:=by simpa using hb
  subst e
  exact I1.fpOk (Nat.le_refl _) (I1.hok.fresh (Nat.le_refl _))
noncomputable def zIZ (ta:TA):TI:=fun σ H R=>ta σ H fun vs H1=>∃ j:Int,vs=[.int j] /\ -(2 ^ 62) <= j/\j < 2 ^ 62/\R (Itr 0 j.toNat) H1
theorem zDm {a:Expr}{ta:TA}{p pos:Pos} (hg:Gl X "range") (hm:X.mg "range" = none) (ha:PA X [a] ta) (hs:starEach [a] X.env=[(false,eval a X.env)]:=by rfl):PI X tg (.Call (.Name "range" p) [a] [] pos) (zIZ ta):=by
 intro pins s σ H R I h
 refine Call_ (Jf I hg hm boot_range (PyProof.Rows.callWith_type1 (thn (ha pos pins s σ H _ I h) fun us s1 ⟨vs,H1,I1,r1,q1⟩=>?_) hs rfl))
 obtain⟨j,e,q1,q2,q⟩:=q1
 subst e
 cases r1 with
 | cons r rr =>
  cases rr
  obtain⟨t,rfl⟩:=r
  exact call_range_1 (zFg I1 (by omega) (by omega) q1 q2 (by simpa using q))
noncomputable def zIt (wi:TI) (g:TG) (tb:TS):TS:=fun D σ H=>wi σ H fun J H1=>∃ W:Nat->Nat->St->Hp->Prop,(∃ m,W 0 m σ H1)/\∀ i m σ H,W i m σ H ->
 (J.stop i H/\D.nx σ H)\/(J.go i H/\∃ N:St->Hp->Prop,(∀ σ' H',N σ' H'->∃ m',m' < m/\W (i+1) m' σ' H')/\∀ x H',J.yld i H x H'->g x σ H' fun σ2 H2=>tb { D with nx:=N,ct:=N,bk:=D.nx } σ2 H2)
noncomputable def qg (fp:List Addr) (h:Heap):List (Addr×Obj):=fp.filterMap fun b=>(h.get? b).map fun o=>(b,o)
theorem y6 {fp:List Addr}{h:Heap}{b:Addr}{o:Obj} (hb:b∈fp) (e:h.get? b=some o):(b,o)∈qg fp h:=List.mem_filterMap.mpr ⟨b,hb,by rw[e];rfl⟩
theorem zAc {fp:List Addr}{h:Heap}{p:Addr×Obj} (hp:p∈qg fp h):p.1∈fp/\h.get? p.1=some p.2:=by
 obtain⟨b,hb,e⟩:=List.mem_filterMap.mp hp
 cases q:h.get? b with
 | none=>rw[q] at e;cases e
 | some o =>
  rw[q] at e
  have e':(b,o)=p:=Option.some.inj e
  subst e'
  exact⟨hb,q⟩
theorem Inv.pinned {pins:List (Addr×Obj)}{σ:St}{H:Hp}{s:Shared}{fp:List Addr} (I:Inv X pins σ H s) (hf:∀ b∈fp,Z9 X pins H b) (ho:∀ b∈fp,∃ o,s.heap.get? b=some o/\∀ v,o.data≠.cell v):Inv X (pins++qg fp s.heap) σ H s :=
 I.pins_of fun p hp=>(List.mem_append.mp hp).elim (fun z=>I.pin p (List.mem_append_right _ z)) fun z=>by
  obtain⟨hb,e⟩:=zAc z
  obtain⟨f0,f1,f2,_⟩:=hf p.1 hb
  obtain⟨o,e',d⟩:=ho p.1 hb
  rw[e] at e';cases e'
  exact⟨e,f0,f1,f2,d⟩
theorem Inv.unpinned {pins pl:List (Addr×Obj)}{σ:St}{H:Hp}{s:Shared} (I:Inv X (pins++pl) σ H s):Inv X pins σ H s:=I.pins_of fun p hp=>I.pin p (List.mem_append_right _ (List.mem_append_left _ hp))
theorem zHb {iter:Expr}{body:List Stmt}{wi:TI}{g:TG}{tb:TS}{pos:Pos} (hp:PassesOwn (model X.prog X.w) X.A X.env X.xe) (hc:X.calm=true) (hi:PI X tg iter wi) (hg:PG X tg g) (hb:PSs X body tb)
  (hs:∀ x,foldedSetIterable iter X.env x=pure x:=by intro _;rfl):PS X (.For tg iter body [] pos) (zIt wi g tb):=by
 intro pins s σ H D I h
 refine wpAny_For (thn (hi pins s σ H _ I h) fun v s1 h1=>thn h1 fun itv s2 h2=>?_) hs
 obtain⟨it,fp,tn,J,H2,e,I2,T,st2,f2,W,⟨m0,w0⟩,turn⟩:=h2
 subst e
 have stat:∀ {H':Hp},(∀ b∈fp,H' b=none)->∀ b∈fp,Z9 X pins H' b:=fun hn b hb=>⟨hn b hb,(f2 b hb).2⟩
 refine codeAny_forLoop_any (fun n s'=>∃ i σ' H',Inv X pins σ' H' s'/\tn i s'.heap/\(∀ b∈fp,H' b=none)/\W i n σ' H') ?_ m0 ⟨0,σ,H2,I2,st2,fun b hb=>(f2 b hb).1,w0⟩
 rintro n s3 ⟨i,σ3,H3,I3,st3,fr3,w3⟩
 rcases turn i n σ3 H3 w3 with ⟨stop,qn⟩ | ⟨go,N,hN,step⟩
 ·refine wpAny_passesOwn hp (thn (T.done X rfl rfl rfl hc i pins s3 σ3 H3 X.xe I3 (stat fr3) st3 stop) fun r s4 ⟨hr,I4⟩=>?_)
  subst hr
  exact wpAny_execs_nil ⟨σ3,H3,I4,qn⟩
 ·refine wpAny_passesOwn hp (thn (T.item X rfl rfl rfl hc i pins s3 σ3 H3 X.xe I3 (stat fr3) st3 go) fun r s4 ⟨u,hr,h4⟩=>?_)
  subst hr
  refine wpAny_passesOwn hp (thn h4 fun _ s5 ⟨x,H5,I5,r5,y5,st5,fr5⟩=>?_)
  have I5':=I5.pinned (stat fr5) (T.obj _ _ st5)
  refine wpAny_passesOwn hp (thn (hg _ s5 σ3 H5 x u _ I5' r5 (step x H5 y5)) fun _ s6 ⟨σ6,H6,I6,q6⟩=>?_)
  refine wpAny_passesOwn hp (thn (hb _ s6 σ6 H6 _ I6 q6) fun f s7 q7=>?_)
  have again:∀ {σ7:St}{H7:Hp},Inv X (pins++qg fp s5.heap) σ7 H7 s7->N σ7 H7->∃ m,m < n/\∃ i σ' H',Inv X pins σ' H' s7/\tn i s7.heap/\(∀ b∈fp,H' b=none)/\W i m σ' H':=fun {σ7 H7} I7 n7=>by
   obtain⟨m',hm,w7⟩:=hN σ7 H7 n7
   refine⟨m',hm,i+1,σ7,H7,I7.unpinned,T.keep _ _ _ st5 fun b hb o e=>(I7.pin (b,o) (List.mem_append_right _ (List.mem_append_right _ (y6 hb e)))).1,fun b hb=>?_,w7⟩
   obtain⟨o,e,d⟩:=T.obj _ _ st5 b hb
   exact (I7.pin (b,o) (List.mem_append_right _ (List.mem_append_right _ (y6 hb e)))).2.1
  cases f with
  | next=>obtain⟨σ7,H7,I7,n7⟩:=q7;exact again I7 n7
  | cont=>obtain⟨σ7,H7,I7,n7⟩:=q7;exact again I7 n7
  | brk=>obtain⟨σ7,H7,I7,q7⟩:=q7;exact⟨σ7,H7,I7.unpinned,q7⟩
  | ret v=>obtain⟨x7,σ7,H7,I7,r7,q7⟩:=q7;exact⟨x7,σ7,H7,I7.unpinned,r7,q7⟩
end
end L2
namespace L2
open PySem PySem.Spec PyProof.Rows
noncomputable abbrev R2:=V->V->Hp->VK->Prop
noncomputable def OpR (X:Cx) (f:Value->Value->Sem Value) (r:R2):Prop :=
 ∀ (pins:List (Addr×Obj)) (s:Shared) (σ:St) (H:Hp) (x y:V) (v u:Value) (Q:VK),Inv X pins σ H s->zV x v->zV y u->r x y H Q ->
  wpAny (model X.prog X.w) X.A (f v u) (EP X pins σ Q) X.xe s
noncomputable def UnR (X:Cx) (f:Value->Sem Value) (r:V->Hp->VK->Prop):Prop :=
 ∀ (pins:List (Addr×Obj)) (s:Shared) (σ:St) (H:Hp) (x:V) (v:Value) (Q:VK),Inv X pins σ H s->zV x v->r x H Q ->
  wpAny (model X.prog X.w) X.A (f v) (EP X pins σ Q) X.xe s
noncomputable def z8 (X:Cx) (f:Value) (r:List V->Hp->VK->Prop):Prop :=
 ∀ (pins:List (Addr×Obj)) (s:Shared) (σ:St) (H:Hp) (xs:List V) (us:List Value) (Q:VK),Inv X pins σ H s->zJ xs us->r xs H Q ->
  wpAny (model X.prog X.w) X.A (call f us) (EP X pins σ Q) X.xe s
noncomputable def tOp (r:R2) (ta tb:TE):TE:=fun σ H Q=>ta σ H fun x H1=>tb σ H1 fun y H2=>r x y H2 Q
noncomputable def tUn (r:V->Hp->VK->Prop) (ta:TE):TE:=fun σ H Q=>ta σ H fun x H1=>r x H1 Q
noncomputable def rI (C:Int->Int->Prop) (g:Int->Int->V):R2:=fun x y H Q=>∃ i j,x=.int i/\y=.int j/\C i j/\Q (g i j) H
noncomputable def rI0 (g:Int->Int->V):R2:=fun x y H Q=>∃ i j,x=.int i/\y=.int j/\Q (g i j) H
noncomputable def rU (g:Int->V):V->Hp->VK->Prop:=fun x H Q=>∃ i,x=.int i/\Q (g i) H
section
variable {X:Cx}{a b c:Expr}{ta tb tc:TE}{pos:Pos}
theorem zE9 (ha:PE X a ta) (hb:PE X b tb) {pins:List (Addr×Obj)}{s:Shared}{σ:St}{H:Hp}{R:V->V->Hp->Prop} (I:Inv X pins σ H s)
  (h:ta σ H fun x H1=>tb σ H1 fun y H2=>R x y H2) {Q:Value->Shared->Prop}{f:Value->Value->Sem Value}
  (hf:∀ v u s2 x y H2,Inv X pins σ H2 s2->zV x v->zV y u->R x y H2->wpAny (model X.prog X.w) X.A (f v u) Q X.xe s2) :
  wpAny (model X.prog X.w) X.A (eval a X.env) (fun v s₁=>wpAny (model X.prog X.w) X.A (eval b X.env) (fun u s₂=>wpAny (model X.prog X.w) X.A (f v u) Q X.xe s₂) X.xe s₁) X.xe s:=by
 refine thn (ha pins s σ H _ I h) fun v s1 ⟨x,H1,I1,r1,q1⟩=>?_
 refine thn (hb pins s1 σ H1 _ I1 q1) fun u s2 ⟨y,H2,I2,r2,q2⟩=>?_
 exact hf v u s2 x y H2 I2 r1 r2 q2
theorem zIf {op:Operator}{r:R2} (ho:OpR X (binaryOp op) r) (ha:PE X a ta) (hb:PE X b tb):PE X (.BinOp a op b pos) (tOp r ta tb):=by
 intro pins s σ H Q I h
 exact wpAny_BinOp (zE9 ha hb I h fun v u s2 x y H2 I2 rx ry q=>ho pins s2 σ H2 x y v u Q I2 rx ry q)
theorem zFv {op:UnaryOp}{r:V->Hp->VK->Prop} (ho:UnR X (unaryOp op) r) (ha:PE X a ta):PE X (.UnaryOp op a pos) (tUn r ta):=by
 intro pins s σ H Q I h
 exact UnaryOp_ (thn (ha pins s σ H _ I h) fun v s1 ⟨x,H1,I1,r1,q1⟩=>ho pins s1 σ H1 x v Q I1 r1 q1)
theorem opI {f:Value->Value->Sem Value}{C:Int->Int->Prop}{g:Int->Int->Int}
  (rule:∀ (i j:Int) (t u:Tok) (s:Shared) (Q:Value->Shared->Prop) (E:Value->Shared->Prop),C i j->Q (.int (g i j) s.toks) { s with toks:=s.toks+1 }->wpAny (model X.prog X.w) X.A (f (.int i t) (.int j u)) Q E s) :
  OpR X f (rI C fun i j=>.int (g i j)):=by
 intro pins s σ H x y v u Q I rx ry h
 obtain⟨i,j,rfl,rfl,hc,q⟩:=h
 obtain⟨t,rfl⟩:=rx
 obtain⟨t',rfl⟩:=ry
 exact rule i j t t' s _ _ hc ⟨.int (g i j),H,I.tok _,⟨_,rfl⟩,q⟩
theorem zJG {f:Value->Value->Sem Value}{g:Int->Int->Int}
  (rule:∀ (i j:Int) (t u:Tok) (s:Shared) (Q:Value->Shared->Prop) (E:Value->Shared->Prop),Q (.int (g i j) s.toks) { s with toks:=s.toks+1 }->wpAny (model X.prog X.w) X.A (f (.int i t) (.int j u)) Q E s) :
  OpR X f (rI0 fun i j=>.int (g i j)):=by
 intro pins s σ H x y v u Q I rx ry h
 obtain⟨i,j,rfl,rfl,q⟩:=h
 obtain⟨t,rfl⟩:=rx
 obtain⟨t',rfl⟩:=ry
 exact rule i j t t' s _ _ ⟨.int (g i j),H,I.tok _,⟨_,rfl⟩,q⟩
theorem zI3 {f:Value->Value->Sem Value}{g:Int->Int->Bool}
  (rule:∀ (i j:Int) (t u:Tok) (s:Shared) (Q:Value->Shared->Prop) (E:Value->Shared->Prop),Q (.bool (g i j)) s->wpAny (model X.prog X.w) X.A (f (.int i t) (.int j u)) Q E s) :
  OpR X f (rI0 fun i j=>.bl (g i j)):=by
 intro pins s σ H x y v u Q I rx ry h
 obtain⟨i,j,rfl,rfl,q⟩:=h
 obtain⟨t,rfl⟩:=rx
 obtain⟨t',rfl⟩:=ry
 exact rule i j t t' s _ _ ⟨.bl (g i j),H,I,rfl,q⟩
noncomputable def zIw (i j:Int):Prop:=0 < j/\j < 1073741824
noncomputable def zC4 (i j:Int):Prop:=(-(2 ^ 64) < i/\i < 2 ^ 64)\/(-(2 ^ 64) < j/\j < 2 ^ 64)
theorem zC4.ok {i j:Int} (h:zC4 i j):IntMulOk i j:=by
 rcases h with ⟨h1,h2⟩ | ⟨h1,h2⟩
 ·exact .of_left (intBits_le_64 h1 h2)
 ·exact .of_right (intBits_le_64 h1 h2)
theorem zHh:OpR X (binaryOp .Add) (rI0 fun i j=>.int (i+j)):=zJG fun _ _ _ _ _ _ _ q=>add_int q
theorem zII:OpR X (binaryOp .Mult) (rI zC4 fun i j=>.int (i * j)):=opI fun _ _ _ _ _ _ _ hc q=>mul_int q hc.ok
theorem zF3:OpR X (binaryOp .FloorDiv) (rI zIw fun i j=>.int (i / j)):=opI fun i j _ _ _ _ _ hc q=>by
 have h1:(0:Int) < j:=hc.1
 have h2:j < 1073741824:=hc.2
 exact floordiv_int (by omega) (by rw[Int.fdiv_eq_ediv_of_nonneg i (by omega)];exact q) (.inl (PyProof.noPylong_small (by omega)))
theorem zHO:OpR X (binaryOp .Mod) (rI (fun _ j=>0 < j) fun i j=>.int (i % j)):=opI fun i j _ _ _ _ _ hc q=>by
 have h1:(0:Int) < j:=hc
 exact mod_int' (by omega) (by rw[Int.fmod_eq_emod_of_nonneg i (by omega)];exact q)
theorem unI {f:Value->Sem Value}{g:Int->Int}
  (rule:∀ (i:Int) (t:Tok) (s:Shared) (Q:Value->Shared->Prop) (E:Value->Shared->Prop),Q (.int (g i) s.toks) { s with toks:=s.toks+1 }->wpAny (model X.prog X.w) X.A (f (.int i t)) Q E s) :
  UnR X f (rU fun i=>.int (g i)):=by
 intro pins s σ H x v Q I rx h
 obtain⟨i,rfl,q⟩:=h
 obtain⟨t,rfl⟩:=rx
 exact rule i t s _ _ ⟨.int (g i),H,I.tok _,⟨_,rfl⟩,q⟩
theorem zEF:UnR X (unaryOp .USub) (rU fun i=>.int (-i)):=unI fun _ _ _ _ _ q=>neg_int q
end
noncomputable def zAQ:V->V->Bool
 | .non,.non=>true | .non,.int _=>true | .int _,.non=>true | .non,.bl _=>true | .bl _,.non=>true | .non,.str _=>true | .str _,.non=>true
 | .int _,.int _=>true | .bl _,.bl _=>true | .str _,.str _=>true | .byt _,.byt _=>true
 | .int _,.str _=>true | .str _,.int _=>true | .bl _,.str _=>true | .str _,.bl _=>true
 | _,_=>false
noncomputable def rEq:R2:=fun x y H Q=>zAQ x y=true/\Q (.bl (decide (x=y))) H
noncomputable def rNe:R2:=fun x y H Q=>zAQ x y=true/\Q (.bl (!decide (x=y))) H
theorem zCa {i j:Int}:decide (V.int i=V.int j)=(i == j):=by
 rw[Bool.eq_iff_iff]
 simp
theorem zDt {i j:Bool}:decide (V.bl i=V.bl j)=(i == j):=by
 rw[Bool.eq_iff_iff]
 simp
theorem zCM {i j:Str}:decide (V.str i=V.str j)=(i == j):=by
 rw[Bool.eq_iff_iff]
 simp
theorem zCZ {i j:Array UInt8}:decide (V.byt i=V.byt j)=(i.toList == j.toList):=by
 rw[Bool.eq_iff_iff]
 cases i
 cases j
 simp
section
variable {X:Cx}{a b c:Expr}{ta tb tc:TE}{pos:Pos}
theorem zh {pins:List (Addr×Obj)}{σ:St}{H:Hp}{s:Shared}{Q:VK}{k k':Bool} (I:Inv X pins σ H s) (q:Q (.bl k) H) (e:k=k'):EP X pins σ Q (.bool k') s:=by
 subst e
 exact⟨.bl k,H,I,rfl,q⟩
theorem zIp:OpR X (compareOp .Eq) rEq:=by
 intro pins s σ H x y v u Q I rx ry h
 obtain⟨hs,q⟩:=h
 cases x with
 | non =>
  cases rx
  cases y with
  | non=>cases ry;exact PySem.EqNone.eq_none_none (zh I q (by simp))
  | bl j=>cases ry;exact PySem.EqNone.eq_none_bool (zh I q (by simp))
  | int j=>obtain⟨t',rfl⟩:=ry;exact PySem.EqNone.eq_none_int (zh I q (by simp))
  | str j=>obtain⟨t',rfl⟩:=ry;exact PySem.EqNone.eq_none_str (zh I q (by simp))
  | _=>exact absurd (show false=true from hs) Bool.false_ne_true
 | bl i =>
  cases rx
  cases y with
  | non=>cases ry;exact PySem.EqNone.eq_bool_none (zh I q (by simp))
  | bl j=>cases ry;exact eq_bool (zh I q zDt)
  | str j=>obtain⟨t',rfl⟩:=ry;exact PySem.EqMixed.eq_bool_str (zh I q (by simp))
  | _=>exact absurd (show false=true from hs) Bool.false_ne_true
 | int i =>
  obtain⟨t,rfl⟩:=rx
  cases y with
  | non=>cases ry;exact PySem.EqNone.eq_int_none (zh I q (by simp))
  | int j=>obtain⟨t',rfl⟩:=ry;exact eq_int (zh I q zCa)
  | str j=>obtain⟨t',rfl⟩:=ry;exact PySem.EqMixed.eq_int_str (zh I q (by simp))
  | _=>exact absurd (show false=true from hs) Bool.false_ne_true
 | str i =>
  obtain⟨t,rfl⟩:=rx
  cases y with
  | non=>cases ry;exact PySem.EqNone.eq_str_none (zh I q (by simp))
  | bl j=>cases ry;exact PySem.EqMixed.eq_str_bool (zh I q (by simp))
  | int j=>obtain⟨t',rfl⟩:=ry;exact PySem.EqMixed.eq_str_int (zh I q (by simp))
  | str j=>obtain⟨t',rfl⟩:=ry;exact eq_str (zh I q zCM)
  | _=>exact absurd (show false=true from hs) Bool.false_ne_true
 | byt i =>
  obtain⟨t,rfl⟩:=rx
  cases y with
  | byt j=>obtain⟨t',rfl⟩:=ry;exact PySem.W.eq_bytes (zh I q zCZ)
  | _=>exact absurd (show false=true from hs) Bool.false_ne_true
 | _=>cases y<;>exact absurd (show false=true from hs) Bool.false_ne_true
theorem zIg:OpR X (compareOp .NotEq) rNe:=by
 intro pins s σ H x y v u Q I rx ry h
 obtain⟨hs,q⟩:=h
 cases x with
 | non =>
  cases rx
  cases y with
  | non=>cases ry;exact PySem.EqNone.ne_none_none (zh I q (by simp))
  | bl j=>cases ry;exact PySem.EqNone.ne_none_bool (zh I q (by simp))
  | int j=>obtain⟨t',rfl⟩:=ry;exact PySem.EqNone.ne_none_int (zh I q (by simp))
  | str j=>obtain⟨t',rfl⟩:=ry;exact PySem.EqNone.ne_none_str (zh I q (by simp))
  | _=>exact absurd (show false=true from hs) Bool.false_ne_true
 | bl i =>
  cases rx
  cases y with
  | non=>cases ry;exact PySem.EqNone.ne_bool_none (zh I q (by simp))
  | bl j=>cases ry;exact ne_bool (zh I q (congrArg not zDt))
  | str j=>obtain⟨t',rfl⟩:=ry;exact PySem.EqMixed.ne_bool_str (zh I q (by simp))
  | _=>exact absurd (show false=true from hs) Bool.false_ne_true
 | int i =>
  obtain⟨t,rfl⟩:=rx
  cases y with
  | non=>cases ry;exact PySem.EqNone.ne_int_none (zh I q (by simp))
  | int j=>obtain⟨t',rfl⟩:=ry;exact ne_int (zh I q (congrArg not zCa))
  | str j=>obtain⟨t',rfl⟩:=ry;exact PySem.EqMixed.ne_int_str (zh I q (by simp))
  | _=>exact absurd (show false=true from hs) Bool.false_ne_true
 | str i =>
  obtain⟨t,rfl⟩:=rx
  cases y with
  | non=>cases ry;exact PySem.EqNone.ne_str_none (zh I q (by simp))
  | bl j=>cases ry;exact PySem.EqMixed.ne_str_bool (zh I q (by simp))
  | int j=>obtain⟨t',rfl⟩:=ry;exact PySem.EqMixed.ne_str_int (zh I q (by simp))
  | str j=>obtain⟨t',rfl⟩:=ry;exact ne_str (zh I q (congrArg not zCM))
  | _=>exact absurd (show false=true from hs) Bool.false_ne_true
 | byt i =>
  obtain⟨t,rfl⟩:=rx
  cases y with
  | byt j=>obtain⟨t',rfl⟩:=ry;exact PySem.W.ne_bytes (zh I q (congrArg not zCZ))
  | _=>exact absurd (show false=true from hs) Bool.false_ne_true
 | _=>cases y<;>exact absurd (show false=true from hs) Bool.false_ne_true
theorem zIY:OpR X (compareOp .Lt) (rI0 fun i j=>.bl (decide (i < j))):=zI3 fun _ _ _ _ _ _ _ q=>lt_int q
theorem zDu:OpR X (compareOp .Lt) (fun x y H Q=>∃ i j,x=.str i/\y=.str j/\Q (.bl (decide (i.cps.toList < j.cps.toList))) H):=by
 intro pins s σ H x y v u Q I rx ry h
 obtain⟨i,j,rfl,rfl,q⟩:=h
 obtain⟨t,rfl⟩:=rx
 obtain⟨t',rfl⟩:=ry
 exact lt_str (zh I q rfl)
theorem zBg:OpR X (compareOp .NotIn) (fun x y H Q=>∃ i j,x=.str i/\y=.str j/\Q (.bl (!(!(Builtin.Str.occurrences j i 0 j.length 1).isEmpty))) H):=by
 intro pins s σ H x y v u Q I rx ry h
 obtain⟨i,j,rfl,rfl,q⟩:=h
 obtain⟨t,rfl⟩:=rx
 obtain⟨t',rfl⟩:=ry
 exact notIn_str (zh I q rfl)
theorem OpR.or {f:Value->Value->Sem Value}{r r':R2} (h:OpR X f r) (h':OpR X f r'):OpR X f (fun x y H Q=>r x y H Q\/r' x y H Q):=by
 intro pins s σ H x y v u Q I rx ry q
 rcases q with q | q
 ·exact h pins s σ H x y v u Q I rx ry q
 ·exact h' pins s σ H x y v u Q I rx ry q
theorem ZL (b:Expr) {op:CmpOp} (h:op≠.In:=by decide) (h2:op≠.NotIn:=by decide):behindInMarks op b=false:=by
 have e1:(op == CmpOp.In)=false:=by cases op<;>first | rfl | exact absurd rfl h
 have e2:(op == CmpOp.NotIn)=false:=by cases op<;>first | rfl | exact absurd rfl h2
 cases b<;>simp[behindInMarks,e1,e2]
theorem zGw {op:CmpOp}{r:R2} (ho:OpR X (compareOp op) r) (ha:PE X a ta) (hb:PE X b tb) (hm:behindInMarks op b=false):PE X (.Compare a [op] [b] pos) (tOp r ta tb):=by
 intro pins s σ H Q I h
 exact wpAny_Compare1 (zE9 ha hb I h fun v u s2 x y H2 I2 rx ry q=>ho pins s2 σ H2 x y v u Q I2 rx ry q) hm
noncomputable def zIl (t:TE):TT:=fun σ H Q=>t σ H fun x H'=>∃ k,x=.bl k/\Q k H'
theorem zGB {op:CmpOp}{r:R2} (ho:OpR X (compareOp op) r) (ha:PE X a ta) (hb:PE X b tb) (hm:behindInMarks op b=false):PT X (.Compare a [op] [b] pos) (zIl (tOp r ta tb)):=by
 intro pins s σ H Q I h
 refine wpAny_isTrue_Compare1 (thn (ha pins s σ H _ I h) fun v s1 ⟨x,H1,I1,r1,q1⟩=>thn (hb pins s1 σ H1 _ I1 q1) fun u s2 ⟨y,H2,I2,r2,q2⟩ =>
  thn (ho pins s2 σ H2 x y v u _ I2 r1 r2 q2) fun c s3 ⟨z,H3,I3,r3,k,e,q3⟩=>?_) hm
 subst e
 cases r3
 exact wpAny_truthy_bool ⟨H3,I3,q3⟩
theorem Qb:(sizeLine:Nat) < 2 ^ 63:=by rw[sizeLine_eq];decide
theorem zCl:OpR X (binaryOp .Add) (fun x y H Q=>∃ i j,x=.str i/\y=.str j/\i.length+j.length <= sizeLine/\Q (.str (i++j)) H):=by
 intro pins s σ H x y v u Q I rx ry h
 obtain⟨i,j,rfl,rfl,hz,q⟩:=h
 obtain⟨t,rfl⟩:=rx
 obtain⟨t',rfl⟩:=ry
 exact wpAny_with_toks (n:=1) I.tk (add_str (fun t' tk htk=>⟨.str (i++j),H,I.tok _ htk,⟨_,rfl⟩,q⟩) hz)
theorem yK {x:V}{us:List Value} (r:zJ [x] us):∃ u,us=[u]/\zV x u:=by
 cases r with
 | cons r1 r2=>cases r2;exact⟨_,rfl,r1⟩
theorem zIV {x y:V}{us:List Value} (r:zJ [x,y] us):∃ u w',us=[u,w']/\zV x u/\zV y w':=by
 cases r with
 | cons r1 r2 =>
  cases r2 with
  | cons r3 r4=>cases r4;exact⟨_,_,rfl,r1,r3⟩
theorem zBm:z8 X (.type "str") (fun xs H Q=>∃ i,xs=[.int i]/\i.natAbs.log2 < 1920/\Q (.str (toString i)) H):=by
 intro pins s σ H xs us Q I r h
 obtain⟨i,rfl,hz,q⟩:=h
 obtain⟨u,rfl,t,rfl⟩:=yK r
 exact PySem.P.str_of_int hz ⟨.str _,H,I.tok _,⟨_,rfl⟩,q⟩
end
end L2
namespace L2
open PySem PySem.Spec PyProof.Rows
structure zFc (h:Heap) (x dx C:Addr) (mA:Str->Option Value):Prop where
 obj:h.get? x=some (PySem.W.instObj C dx)
 ns:h.Ns1 dx mA
 ne:dx≠x
theorem zEK {h:Heap}{dx:Addr}{mA:Str->Option Value} (n:h.Ns1 dx mA):∃ od,h.get? dx=some od/\∀ name,PySem.W.lookIn name od=some (mA name):=by
 obtain⟨o,es,ep,ho,hd,hk,_,hm⟩:=n
 refine⟨o,ho,fun name=>?_⟩
 have e:=hm name
 unfold nsFind findBy at e
 rw[<- Array.find?_toList] at e
 unfold PySem.W.lookIn
 rw[hd]
 dsimp only
 split
 ·rename_i y q
  rw[q] at e
  exact congrArg some e
 ·rename_i q
  rw[q] at e
  have a:es.toList.any (·.refKey)=false:=by
   rw[List.any_eq_false]
   intro y hy
   obtain⟨z,t,hkey⟩:=hk y (Array.mem_toList_iff.mp hy)
   simp[DictEntry.refKey,hkey]
  have a':¬ es.toList.any (·.refKey)=true:=by rw[a];exact Bool.false_ne_true
  rw[if_neg a']
  exact congrArg some e
theorem zFc.look {h:Heap}{x dx C:Addr}{mA:Str->Option Value} (I:zFc h x dx C mA):∃ od,PySem.W.InstAt h x (PySem.W.instObj C dx) C (some od)/\∀ name,PySem.W.lookIn name od=some (mA name) :=
 let ⟨od,ho,hl⟩:=zEK I.ns
 ⟨od,⟨I.obj,rfl,rfl,ho⟩,hl⟩
theorem ZS.some_of {v:V}{o:Option Value} (r:ZS (some v) o):∃ u,o=some u/\zV v u:=by
 cases o with
 | none=>exact (show False from r).elim
 | some u=>exact⟨u,rfl,r⟩
section
variable {P:Program}{w:World}{H H':Hp}{h h':Heap}{a C dx:Addr}{fs fs':List (Str×V)}
theorem zGc (hok:HOk P w H h) (e:H a=some (.ins C dx fs)):∃ mA,zFc h a dx C mA/\(∀ f,ZS (fs.lookup f) (mA f))/\PySem.Within mA (fs.map (·.1))/\fs.length <= 1000/\H dx=some (.own a):=by
 obtain⟨d,z,ne,ob,mA,n,r,q⟩:=(show jE P w H h a (.ins C dx fs) from hok a _ e)
 exact⟨mA,⟨ob,n,ne⟩,r,q,z,d⟩
end
structure Cls (K:PySem.W.Frag) (C:Addr):Prop where
 pg:PySem.W.plainGet K C Str.empty=true
 hd:PySem.W.hasDictIn K C=true
 po:PySem.W.plainOver K C=true
 sa:PySem.W.findIn K (.ref C) "__setattr__" = some (some (.builtin "object.__setattr__"))
theorem Cls.get {K:PySem.W.Frag}{C:Addr} (c:Cls K C) (f:Str):PySem.W.plainGet K C f=true:=c.pg
noncomputable def zHv (K:PySem.W.Frag) (C:Addr) (f:Str):Prop:=PySem.W.findIn K (.ref C) f=some none
structure Con (K:PySem.W.Frag) (C:Addr) (f:Str) (v:V) (u:Value):Prop where
 at_:PySem.W.findIn K (.ref C) f=some (some u)
 rel:zV v u
 get:PySem.W.specialIn K u "__get__" = some none
 cp:PySem.W.copiedNames.contains f=false
structure zIz (K:PySem.W.Frag) (C:Addr) (m:Str) (f:Addr):Prop where
 at_:PySem.W.findIn K (.ref C) m=some (some (.ref f))
 fn:PySem.W.isFn K (.ref f)=true
 kp:PySem.W.keepIn K (.ref f)=true
section
variable {X:Cx}{pins:List (Addr×Obj)}{σ:St}{H:Hp}{s:Shared}{A:Around}{E:Value->Shared->Prop}{Q:Value->Shared->Prop}{c:Value}{b:Bool}
inductive yq (K:PySem.W.Frag) (H:Hp):V->Value->Prop where
 | non:yq K H .non (.type "NoneType")
 | bl (x:Bool):yq K H (.bl x) (.type "bool")
 | int (i:Int):yq K H (.int i) (.type "int")
 | str (x:Str):yq K H (.str x) (.type "str")
 | flt (x:UInt64):yq K H (.flt x) (.type "float")
 | lst {a:Addr}{xs:List V} (e:H a=some (.lst xs)):yq K H (.ref a) (.type "list")
 | frz {a:Addr}{o:Obj}{xs:List V} (e:H a=some (.frz o (.lst xs))):yq K H (.ref a) (.type "list")
 | tup {a:Addr}{xs:List V} (e:H a=some (.tup xs)):yq K H (.ref a) (.type "tuple")
 | dK {a:Addr}{kvs:List (Key×V)} (e:H a=some (.dK kvs)):yq K H (.ref a) (.type "dict")
 | dT {a:Addr}{kvs:List (List Key×V)} (e:H a=some (.dT kvs)):yq K H (.ref a) (.type "dict")
 | ins {a C dx:Addr}{fs:List (Str×V)} (e:H a=some (.ins C dx fs)) (cl:Cls K C) (ha:PySem.W.findIn K (.ref C) "__class__" = some (some (.builtin "object.__class__")))
   (hn:PySem.W.specialIn K (.builtin "object.__class__") "__get__" = some (some (.builtin "getset_descriptor.__get__"))) (htk:PySem.W.takesIn K (.builtin "object.__class__")=some true)
   (hm:PySem.W.mroIn K C (.type "object")=some true):yq K H (.ref a) (.ref C)
theorem zDn {x:V}{u t:Value} (I:Inv X pins σ H s) (rx:zV x u) (ty:yq X.K H x t) (e:PySem.W.kitOne X.K t c=some b) (h:∀ tk,Q (.bool b) { s with toks:=tk }) :
  wpAny (model X.prog X.w) A (call (.builtin "isinstance") [u,c]) Q E s:=by
 cases ty with
 | non=>cases (show u=Value.none from rx);exact PySem.W.kia_one PySem.W.kitx_none I.kIn True.intro e (fun z=>nomatch z) h
 | bl y=>cases (show u=Value.bool y from rx);exact PySem.W.kia_one PySem.W.kitx_bool I.kIn True.intro e (fun z=>nomatch z) h
 | int i=>obtain⟨t,q⟩:=(show ∃ t,u=Value.int i t from rx);cases q;exact PySem.W.kia_one PySem.W.kitx_int I.kIn True.intro e (fun z=>nomatch z) h
 | str y=>obtain⟨t,q⟩:=(show ∃ t,u=Value.str y t from rx);cases q;exact PySem.W.kia_one PySem.W.kitx_str I.kIn True.intro e (fun z=>nomatch z) h
 | flt y=>obtain⟨t,q⟩:=(show ∃ t,u=Value.float y t from rx);cases q;exact PySem.W.kia_one PySem.W.kitx_float I.kIn True.intro e (fun z=>nomatch z) h
 | @lst a xs ea =>
  cases (show u=Value.ref a from rx)
  obtain⟨_,_,n,_,h1⟩:=(show jE X.prog X.w H s.heap a (.lst xs) from I.hok a _ ea)
  exact PySem.W.kia_one PySem.W.kitx_list I.kIn ⟨_,h1,rfl⟩ e (fun z=>nomatch z) h
 | @frz a ob xs ea =>
  cases (show u=Value.ref a from rx)
  obtain⟨_,_,_,n,_,h1⟩:=(show jE X.prog X.w H s.heap a (.frz ob (.lst xs)) from I.hok a _ ea)
  exact PySem.W.kia_one PySem.W.kitx_list I.kIn ⟨_,h1,rfl⟩ e (fun z=>nomatch z) h
 | @tup a xs ea =>
  cases (show u=Value.ref a from rx)
  obtain⟨_,_,_,p⟩:=(show jE X.prog X.w H s.heap a (.tup xs) from I.hok a _ ea)
  obtain⟨o,h1,h2,_⟩:=p
  exact PySem.W.kia_one PySem.W.kitx_tuple I.kIn ⟨o,h1,h2⟩ e (fun z=>nomatch z) h
 | @dK a kvs ea =>
  cases (show u=Value.ref a from rx)
  obtain⟨_,_,vs,_,p⟩:=(show jE X.prog X.w H s.heap a (.dK kvs) from I.hok a _ ea)
  obtain⟨o,es,ep,h1,h2,_⟩:=p
  exact PySem.W.kia_one PySem.W.kitx_dict I.kIn ⟨o,h1,h2.1⟩ e (fun z=>nomatch z) h
 | @dT a kvs ea =>
  cases (show u=Value.ref a from rx)
  obtain⟨_,_,xs,_,o,es,ep,h1,h2,_⟩:=(show jE X.prog X.w H s.heap a (.dT kvs) from I.hok a _ ea)
  exact PySem.W.kia_one PySem.W.kitx_dict I.kIn ⟨o,h1,h2.1⟩ e (fun z=>nomatch z) h
 | @ins a C dx fs ea cl ha hn htk hm =>
  cases (show u=Value.ref a from rx)
  obtain⟨mA,O,_⟩:=zGc I.hok ea
  obtain⟨od,J,_⟩:=O.look
  exact PySem.W.kia_one (PySem.W.kitx_own (cl.get _) cl.hd ha hn htk hm) I.kIn J e (fun z=>nomatch z) h
end
end L2
namespace L2
open PySem PySem.Spec PyProof.Rows
structure zm (k:Nat) (A:Around):Prop where
 hd:A.handled=none
 dp:A.depth+3 * k+5 < recursionLimit
 un:A.units+16 * k+200 < cLine
theorem zm.mono {j k:Nat}{A:Around} (r:zm k A) (h:j <= k):zm j A:=⟨r.hd,by have:=r.dp;omega,by have:=r.un;omega⟩
theorem zm.deeper {k:Nat}{A:Around} (r:zm (k+1) A) (env:Env):zm k (A.deeper env) :=
 ⟨r.hd,by have:=r.dp;show A.depth+1+3 * k+5 < _;omega,by have:=r.un;show A.units+3+16 * k+200 < _;omega⟩
theorem zm.depth {k:Nat}{A:Around} (r:zm k A):A.depth < recursionLimit:=by have:=r.dp;omega
theorem zm.units {k:Nat}{A:Around} (r:zm k A):A.units+64 < cLine:=by have:=r.un;omega
theorem zm.units0 {k:Nat}{A:Around} (r:zm k A):A.units < cLine:=by have:=r.un;omega
noncomputable def zI2:TA:=fun _ H Q=>Q [] H
noncomputable def zCw (ta:TE) (tr:TA):TA:=fun σ H Q=>ta σ H fun x H1=>tr σ H1 fun xs H2=>Q (x::xs) H2
section
variable {X:Cx}{e:Expr}{es:List Expr}{te:TE}{t:TA}{pos:Pos}
theorem zB5:PA X [] zI2:=fun _ _ _ _ H Q I h=>Calls.spliced_nil ⟨[],H,I,.nil,h⟩
theorem Jw (ha:PE X e te) (hr:PA X es t) (hs:starEach (e::es) X.env=(false,eval e X.env)::starEach es X.env:=by rfl):PA X (e::es) (zCw te t):=by
 intro pos pins s σ H Q I h
 rw[hs]
 show wpAny _ _ (spliced ((false,eval e X.env)::backTo pos (starEach es X.env))) _ _ s
 refine Calls.spliced_cons (thn (ha pins s σ H _ I h) fun u s1 ⟨x,H1,I1,r1,q1⟩=>?_)
 exact thn (hr pos pins s1 σ H1 _ I1 q1) fun us s2 ⟨xs,H2,I2,r2,q2⟩=>⟨x::xs,H2,I2,.cons r1 r2,q2⟩
noncomputable def zJJ (t:TA):TE:=fun σ H Q=>t σ H fun xs H1=>xs.length <= sizeLine/\∀ p,H1 p=none->Q (.ref p) (upd H1 p (.lst xs))
theorem zHU (h:PA X es t):PE X (.List es pos) (zJJ t):=by
 intro pins s σ H Q I hq
 refine wpAny_List_spliced (thn (h pos pins s σ H _ I hq) fun us s1 ⟨xs,H1,I1,r,z,q⟩=>⟨by rw[<- r.length];exact z,?_⟩)
 have hf:H1 s1.heap.objs.size=none:=I1.hok.fresh (Nat.le_refl _)
 refine⟨.ref s1.heap.objs.size,upd H1 s1.heap.objs.size (.lst xs),I1.laid (t':=s1.toks) (fun b u e=>Heap.get?_push_of_some _ e) (Nat.le_refl _) ?_,rfl,q _ hf⟩
 exact⟨z,us,0,r,Heap.get?_push_size _ rfl⟩
end
noncomputable abbrev Sp:=List V->Hp->VK->XK->Prop
noncomputable abbrev CXT:=List Env->Hp->Shared->XK->Value->Shared->Prop
structure zC5 (P:Program) (w:World) (K:PySem.W.Frag) (mg:Str->Option Value) (base:Heap) (A:Around) (outer:List Env) (s:Shared) (H:Hp):Prop where
 frames:A.frames=some outer
 mod:Mod K mg base
 bs:∀ b o,base.get? b=some o->s.heap.get? b=some o/\H b=none
 bsz:base.objs.size <= s.heap.objs.size
 funs:s.heap.FunFrames base outer
 frf:∀ b∈frs outer,H b=none
 hok:HOk P w H s.heap
 bare:AllBare s.gens
noncomputable def CE (outer:List Env) (P:Program) (w:World) (H:Hp) (s:Shared) (Q:VK) (u:Value) (s':Shared):Prop :=
 ∃ v H',s'.os=s.os/\AllBare s'.gens/\Un (frs outer) [] H H' s.heap s'.heap/\HOk P w H' s'.heap/\zV v u/\Q v H'
noncomputable def CR (CX:CXT) (outer:List Env) (P:Program) (w:World) (H:Hp) (s:Shared) (Q:VK) (E:XK) (r:Result) (s':Shared):Prop :=
 match r with
 | .ok (.ret u)=>CE outer P w H s Q u s'
 | .ok _=>False
 | .error e=>CX outer H s E e s'
structure jM (P:Program) (w:World) (K:PySem.W.Frag) (mg:Str->Option Value) (base:Heap) (CX:CXT) (k:Nat) (f:Addr) (fd:FuncData) (ps:List Str) (sp:Sp):Prop where
 len:∀ vs H Q E,sp vs H Q E->vs.length=ps.length
 run:∀ (A:Around) (outer:List Env) (s:Shared) (H:Hp) (args:Args) (us:List Value) (vs:List V) (Q:VK) (E:XK),zm k A->zC5 P w K mg base A outer s H->(0 < s.toks\/∃ p∈ps,fd.scope.names.lookup p=some .local)->BindsTo s fd args (ps.zip us)->zJ vs us->sp vs H Q E ->
  codeAny (model P w) A (.call (.ref f) args) (CR CX outer P w H s Q E) s
section
variable {X:Cx}{pins:List (Addr×Obj)}{σ:St}{H:Hp}{s s':Shared}
theorem Inv.env0 (I:Inv X pins σ H s):zC5 X.prog X.w X.K X.mg X.base X.A X.stack s H :=
 ⟨I.ok.frames,I.ok.mod,I.bs,Nat.le_trans I.ok.bsz I.sz,I.stack,I.stkFree,I.hok,I.bare⟩
theorem Inv.after {Q:VK}{u:Value} (I:Inv X pins σ H s) (h:CE X.stack X.prog X.w H s Q u s') (ht:0 < s'.toks):EP X pins σ Q u s':=by
 obtain⟨v,H',os,bare,un,hok,r,q⟩:=h
 obtain⟨hh,g,d,t,os'⟩:=s'
 obtain rfl:os'=s.os:=os
 exact⟨v,H',I.call (h':=hh) (g':=g) (d':=d) (t':=t) (ch:=[]) un hok bare (fun b z=>absurd z (by simp)) ht,r,q⟩
end
noncomputable def zDL (sp:Sp) (dvs:List V) (E:XK) (t:TA):TE:=fun σ H Q=>t σ H fun vs H1=>sp (vs++dvs) H1 Q E
noncomputable def Zc (K:PySem.W.Frag) (fd:FuncData) (ps:List Str) (ds:List Value):Prop :=
 ∀ (s:Shared) (us:List Value),K.In s.heap->(us++ds).length=ps.length->BindsTo s fd ⟨us,[]⟩ (ps.zip (us++ds))
theorem Zc.all {K:PySem.W.Frag}{fd:FuncData}{ps:List Str} (h:∀ us:List Value,us.length=ps.length->bindArgs fd ⟨us,[]⟩=pure (ps.zip us)):Zc K fd ps []:=fun s us _ hl=>by
 rw[List.append_nil] at hl ⊢
 exact .of_eq (h us hl)
noncomputable def yH (CX:CXT) (X:Cx) (E:XK):Prop:=∀ (pins:List (Addr×Obj)) (σ:St) (H:Hp) (s:Shared) (e:Value) (s':Shared),Inv X pins σ H s->CX X.stack H s E e s'->X.xe e s'
section
variable {X:Cx}{CX:CXT}{k:Nat}{f C:Addr}{fd:FuncData}{ps:List Str}{sp:Sp}{dvs:List V}{ds:List Value}{E:XK}{x m:Str}{p pos apos:Pos}{e o:Expr}{es:List Expr}{ta:TE}{t:TA}
theorem zEB {pins:List (Addr×Obj)}{σ:St}{H:Hp}{s:Shared}{Q:VK}{us:List Value}{vs:List V} (F:jM X.prog X.w X.K X.mg X.base CX k f fd ps sp) (hr:zm k X.A) (hb:Zc X.K fd ps ds) (hd:zJ dvs ds) (hx:yH CX X E)
  (I:Inv X pins σ H s) (r:zJ vs us) (h:sp (vs++dvs) H Q E):wpAny (model X.prog X.w) X.A (call (.ref f) us) (EP X pins σ Q) X.xe s:=by
 have r2:zJ (vs++dvs) (us++ds):=r.append hd
 have hl:(us++ds).length=ps.length:=by rw[<- r2.length];exact F.len _ _ _ _ h
 refine wpAny_call (codeAny_mono (codeAny_toks_of (n:=1) I.tk (F.run X.A X.stack s H ⟨us,[]⟩ (us++ds) (vs++dvs) Q E hr I.env0 (.inl I.tk) (hb s us I.kIn hl) r2 h)) fun r s' ⟨htk,hq⟩=>?_)
 cases r with
 | error e=>exact hx pins σ H s e s' I hq
 | ok fl =>
  cases fl with
  | ret u=>exact I.after hq htk
  | next=>exact False.elim hq
  | brk=>exact False.elim hq
  | cont=>exact False.elim hq
theorem zGY (F:jM X.prog X.w X.K X.mg X.base CX k f fd ps sp) (hr:zm k X.A) (hg:Gl X x) (hm:X.mg x=some (.ref f)) (hk:PySem.W.keepIn X.K (.ref f)=true) (hb:Zc X.K fd ps ds) (hd:zJ dvs ds) (hx:yH CX X E)
  (ha:PA X (e::es) t) (hdb:(x == ("__debug__" : Str))=false:=by decide) (he:starEach (e::es) X.env=(false,eval e X.env)::starEach es X.env:=by rfl) (hpl:(backTo pos (starEach es X.env)).any (·.1)=false:=by rfl) :
  PE X (.Call (.Name x p) (e::es) [] pos) (zDL sp dvs E t):=by
 intro pins s σ H Q I h
 refine wpAny_Call_Name_kw (zGZ I hg hm ?_ hdb)
 refine PySem.W.callWith_K (h₀:=X.base) I.ok.mod.kin hk (thn (ha pos pins s σ H _ I h) fun us s1 ⟨vs,H1,I1,r,q⟩=>⟨I1.kIn,?_⟩) he hpl
 exact zEB F hr hb hd hx I1 r q
structure Mk (K:PySem.W.Frag) (C f:Addr):Prop where
 makes:PySem.W.makesIn K C=true
 init:PySem.W.findIn K (.ref C) "__init__" = some (some (.ref f))
 fn:PySem.W.isFn K (.ref f)=true
 kp:PySem.W.keepIn K (.ref C)=true
end
section
variable {X:Cx}{CX:CXT}{k:Nat}{f C:Addr}{fd:FuncData}{ps ks:List Str}{sp:Sp}{E:XK}{x m:Str}{p pos apos kpos:Pos}{e o:Expr}{es:List Expr}{kws:List Keyword}{te ta:TE}{t tk:TA}{nm:Option Str}
structure zJL (K:PySem.W.Frag) (fd:FuncData) (ps ks:List Str) (g:List Value->List Value->List Value) (gV:List V->List V->List V):Prop where
 to:∀ (s:Shared) (us ws:List Value),K.In s.heap->(g us ws).length=ps.length->BindsTo s fd ⟨us,ks.zip ws⟩ (ps.zip (g us ws))
 rel:∀ {vs:List V}{us:List Value}{zs:List V}{ws:List Value},zJ vs us->zJ zs ws->zJ (gV vs zs) (g us ws)
variable {g:List Value->List Value->List Value}{gV:List V->List V->List V}
end
structure zy (N P:List Str) (sc:Scope):Prop where
 kind:sc.kind=.function
 co:sc.isCoroutine=false
 gen:sc.isGenerator=false
 nd:N.Nodup
 pre:N.take P.length=P
 par:∀ x∈P,sc.names.lookup x=some .local\/sc.names.lookup x=some .cell
 nofree:∀ y∈sc.names,y.2≠.free
theorem zAZ {kindOf:Str->Option NameKind}{x:Str}:∀ {binds:List (Str×Value)}{m:Str->Option Value},(∀ v,(x,v)∉binds)->bindL kindOf binds m x=m x
 | [],_,_=>rfl
 | (n,v)::r,m,h=>by
  unfold bindL
  rw[zAZ fun w hw=>h w (List.mem_cons_of_mem _ hw)]
  split
  ·have:x≠n:=by rintro rfl;exact h v List.mem_cons_self
   simp[this]
  ·rfl
theorem zAi {kindOf:Str->Option NameKind}{x:Str}:∀ {binds:List (Str×Value)}{m:Str->Option Value},(∀ v,(x,v)∉binds)->bindC kindOf binds m x=m x
 | [],_,_=>rfl
 | (n,v)::r,m,h=>by
  unfold bindC
  rw[zAi fun w hw=>h w (List.mem_cons_of_mem _ hw)]
  split
  ·rfl
  ·have:x≠n:=by rintro rfl;exact h v List.mem_cons_self
   simp[this]
theorem zAT {kindOf:Str->Option NameKind}{x:Str}{v:Value}:∀ {P:List Str}{vs:List Value}{i:Nat}{m:Str->Option Value},P.Nodup->P[i]? = some x->vs[i]? = some v->kindOf x=some .local ->
  bindL kindOf (P.zip vs) m x=some v
 | [],_,_,_,_,h,_,_=>by simp at h
 | _::_,[],_,_,_,_,h,_=>by simp at h
 | p::P,w::vs,0,m,nd,h1,h2,hk=>by
  simp at h1 h2;subst h1;subst h2
  show bindL kindOf ((p,w)::P.zip vs) m p=_
  unfold bindL
  rw[zAZ fun v hv=>(List.nodup_cons.mp nd).1 (List.of_mem_zip hv).1,if_pos hk]
  simp
 | p::P,w::vs,i+1,m,nd,h1,h2,hk=>by
  show bindL kindOf ((p,w)::P.zip vs) m x=_
  unfold bindL
  exact zAT (i:=i) (List.nodup_cons.mp nd).2 (by simpa using h1) (by simpa using h2) hk
theorem zAh {kindOf:Str->Option NameKind}{x:Str}{v:Value}:∀ {P:List Str}{vs:List Value}{i:Nat}{m:Str->Option Value},P.Nodup->P[i]? = some x->vs[i]? = some v->kindOf x≠some .local ->
  bindC kindOf (P.zip vs) m x=some v
 | [],_,_,_,_,h,_,_=>by simp at h
 | _::_,[],_,_,_,_,h,_=>by simp at h
 | p::P,w::vs,0,m,nd,h1,h2,hk=>by
  simp at h1 h2;subst h1;subst h2
  show bindC kindOf ((p,w)::P.zip vs) m p=_
  unfold bindC
  rw[zAi fun v hv=>(List.nodup_cons.mp nd).1 (List.of_mem_zip hv).1,if_neg hk]
  simp
 | p::P,w::vs,i+1,m,nd,h1,h2,hk=>by
  show bindC kindOf ((p,w)::P.zip vs) m x=_
  unfold bindC
  exact zAh (i:=i) (List.nodup_cons.mp nd).2 (by simpa using h1) (by simpa using h2) hk
noncomputable def qJ (N:List Str) (vs:List V):St:=vs.map some++List.replicate (N.length - vs.length) none
noncomputable def yi (CX:CXT) (P:Program) (w:World) (K:PySem.W.Frag) (mg:Str->Option Value) (base:Heap) (N:List Str) (qual:Str) (scope:Scope) (f:Addr) (cd:Value) (A:Around) (outer:List Env) (s:Shared) (H:Hp) (E:XK):Cx where
 prog:=P
 w:=w
 K:=K
 mg:=mg
 base:=base
 A:=A.deeper (envOfC qual scope s.heap.objs.size f cd)
 N:=N
 s₀:=s
 H₀:=H
 env:=envOfC qual scope s.heap.objs.size f cd
 outer:=outer
 stack:=envOfC qual scope s.heap.objs.size f cd::outer
 ex:=[]
 calm:=true
 fn:=fun _=>true
 pn:=[]
 xe:=fun e s'=>wpAny (model P w) (A.deeper (envOfC qual scope s.heap.objs.size f cd)) (leaving (envOfC qual scope s.heap.objs.size f cd) e) (fun _ s''=>CX outer H s E e s'') (fun e' s''=>CX outer H s E e' s'') s'
theorem zBo {sc:Scope}{n:Nat}{x:Str} (h:sc.names.lookup x=some .cell):∃ c,(cellsFrom n sc.names []).lookup x=some c:=by
 have q:=PySem.W.cellsFrom_some sc.names n [] (.inl h)
 exact Option.isSome_iff_exists.mp q
theorem Zi {M:Model}{A:Around}{E:Value->Shared->Prop}{s₀:Shared}{env:Env} (f:Str×Value->PUnit->Sem (ForInStep PUnit)) (hf:∀ n v u,f (n,v) u=(do storeName env n v;pure (.yield ⟨⟩))) (hk:env.scope.kind=.function) :
  ∀ (binds:List (Str×Value)) (m cm:Str->Option Value) (s:Shared) (Q:PUnit->Shared->Prop),InCallC s₀ env.locals m env.cells cm s ->
   (∀ x∈binds,env.kindOf x.1=some .local\/(env.kindOf x.1=some .cell/\(env.cells.lookup x.1).isSome=true)) ->
   (∀ s',InCallC s₀ env.locals (bindL env.kindOf binds m) env.cells (bindC env.kindOf binds cm) s'->((0 < s.toks\/∃ b∈binds,env.kindOf b.1=some .local)->0 < s'.toks)->Q ⟨⟩ s')->wpAny M A (forIn binds ⟨⟩ f) Q E s
 | [],m,cm,s,Q,x,_,h=>by
  rw[List.forIn_nil]
  exact wpAny_pure (h s x fun z=>z.elim id fun ⟨b,hb,_⟩=>absurd hb (by simp))
 | (n,v)::r,m,cm,s,Q,x,hkind,h=>by
  rw[List.forIn_cons,hf]
  have hr:∀ y∈r,env.kindOf y.1=some .local\/(env.kindOf y.1=some .cell/\(env.cells.lookup y.1).isSome=true):=fun y hy=>hkind y (List.mem_cons_of_mem _ hy)
  rcases hkind (n,v) List.mem_cons_self with hl | ⟨hl,hc⟩
  ·refine wpAny_bind (wpAny_bind (wpAny_storeName_local hl x.toInCall.ns (fun h' hn' hs'=>wpAny_pure (Zi f hf hk r (fun y=>if y=n then some v else m y) cm _ Q ⟨⟨?_,hn',fun b o e=>?_,x.toInCall.fresh⟩,fun k c hc=>?_,x.apart,x.above⟩ hr fun s'' x'' ht=>h s'' ?_ fun _=>ht (.inl (Nat.succ_pos _)))) (by rw[hk];rfl)))
   ·obtain⟨h₁,tk,rfl⟩:=x.toInCall.same
    exact⟨h',_,rfl⟩
   ·exact hs'.extBut b o (Nat.ne_of_lt (Nat.lt_of_lt_of_le (Heap.lt_size e) x.toInCall.fresh)) (x.toInCall.keep b o e)
   ·exact (x.cell k c hc).sameBut hs' (Nat.ne_of_gt (x.above k c (PySem.mem_of_lookup hc)))
   ·unfold bindL bindC;rw[if_pos hl,if_pos hl];exact x''
  ·obtain⟨c,hc⟩:=Option.isSome_iff_exists.mp hc
   have hnl:¬ env.kindOf n=some .local:=by rw[hl];decide
   refine wpAny_bind (wpAny_bind (wpAny_with_toks (n:=s.toks) (Nat.le_refl _) (stCC x hk hl hc fun s' x' hle=>wpAny_pure (Zi f hf hk r m _ s' Q x' hr fun s'' x'' ht=>h s'' ?_ fun z=>ht ?_))))
   ·unfold bindL bindC;rw[if_neg hnl,if_neg hnl];exact x''
   ·rcases z with z | ⟨b,hb,hbl⟩
    ·exact .inl (Nat.lt_of_lt_of_le z hle)
    ·rcases List.mem_cons.mp hb with rfl | hb
     ·exact absurd hbl hnl
     ·exact .inr ⟨b,hb,hbl⟩
theorem zCU {M:Model}{A:Around}{E:Value->Shared->Prop}{s:Shared}{scope:Scope}{globals:Addr}{binds:List (Str×Value)}{qual:Str}{func:Option Addr}{code:Value}{builtins:Addr}{Q:Env->Shared->Prop}
  (hk:scope.kind=.function)
  (hkind:∀ x∈binds,scope.names.lookup x.1=some .local\/(scope.names.lookup x.1=some .cell/\((cellsFrom (s.heap.objs.size+1) scope.names []).lookup x.1).isSome=true))
  (hQ:∀ env,env=newEnv scope s.heap.objs.size globals (cellsFrom (s.heap.objs.size+1) scope.names []) qual func code none builtins ->
   ∀ s',InCallC s env.locals (bindL env.kindOf binds fun _=>none) env.cells (bindC env.kindOf binds fun _=>none) s'->((0 < s.toks\/∃ b∈binds,scope.names.lookup b.1=some .local)->0 < s'.toks)->Q env s') :
  wpAny M A (newFunctionEnv scope globals [] binds qual func code none builtins) Q E s:=by
 simp only[newFunctionEnv,Option.isSome_none,Bool.false_eq_true,if_false]
 refine wpAny_bind (wpAny_alloc ?_)
 refine wpAny_bind (wpAny_layCells _ (fun name kind cells=>by cases hkc:kind == NameKind.cell<;>simp[hkc]) _ _ _ _ ?_)
 have ok:=cellsFrom_ok scope.names (s.heap.push { cls:=.type "frame",data:=.dict #[] }) (s.heap.objs.size+1) [] ⟨fun _ _ hm=>(nomatch hm),List.Pairwise.nil⟩ (by rw[Heap.size_push];exact Nat.le_refl _)
 rw[Heap.size_push] at ok
 rw[show ({ s with heap:=s.heap.push { cls:=.type "frame",data:=.dict #[] } }:Shared).heap.objs.size=s.heap.objs.size+1 from Heap.size_push ..]
 refine wpAny_bind (Zi (s₀:=s) (env:=newEnv scope s.heap.objs.size globals (cellsFrom (s.heap.objs.size+1) scope.names []) qual func code none builtins)
  _ (fun _ _ _=>rfl) hk binds (fun _=>none) (fun _=>none) _ _
  ⟨⟨⟨_,_,rfl⟩,(Heap.Ns.new s.heap (.type "frame")).keeps (pushCells_keeps _ _),fun b o e=>pushCells_keeps _ _ b o (Heap.get?_push_of_some _ e),Nat.le_refl _⟩,
   fun n c hc=>(ok.empty n c (PySem.mem_of_lookup hc)).1,ok.apart,fun n c hm=>(ok.empty n c hm).2⟩
  hkind fun s' x ht=>wpAny_pure (hQ _ rfl s' x ht))
theorem zAb {CX:CXT}{P:Program}{w:World}{K:PySem.W.Frag}{mg:Str->Option Value}{base:Heap}{N ps:List Str}{qual:Str}{scope:Scope}{f:Addr}{cd:Value}{A:Around}{outer:List Env}{s s1:Shared}{H:Hp}{E:XK}{us:List Value}{vs:List V}
  (S:zy N ps scope) (hd:A.handled=none) (e0:zC5 P w K mg base A outer s H) (hl:vs.length=ps.length) (r:zJ vs us)
  (x:InCallC s s.heap.objs.size (bindL (envOfC qual scope s.heap.objs.size f cd).kindOf (ps.zip us) fun _=>none) (cellsFrom (s.heap.objs.size+1) scope.names []) (bindC (envOfC qual scope s.heap.objs.size f cd).kindOf (ps.zip us) fun _=>none) s1) (ht:0 < s1.toks) :
  Inv (yi CX P w K mg base N qual scope f cd A outer s H E) [] (qJ N vs) H s1:=by
 have hpl:ps.length <= N.length:=by have:=congrArg List.length S.pre;rw[List.length_take] at this;omega
 obtain⟨h1,tk,rfl,hk⟩:=x.done
 have noA:∀ b:Addr,b∉(yi CX P w K mg base N qual scope f cd A outer s H E).ex:=fun b z=>absurd (show b∈([]:List Addr) from z) (by simp)
 refine⟨⟨e0.mod,S.kind,rfl,rfl,Nat.le_refl _,fun y z c h1 h2=>?_,fun y hy=>?_,fun y c _ h=>?_,fun _=>hd,Around.frames_deeper e0.frames,.inr ⟨rfl,rfl⟩,fun b z=>absurd z (noA b),e0.bs,e0.bsz,fun b _ _=>noA b,fun b z=>absurd z (noA b),e0.funs,e0.frf⟩,
  rfl,e0.bare,Un.kept hk,⟨_,x.toInCall.ns,fun i y v h1 h2 h3=>?_⟩,fun y c h=>⟨_,x.cell y c h⟩,e0.hok.fresh (Nat.le_refl _),fun y c h=>?_,fun p hp=>absurd (show p∈([]:List (Addr×Obj)) from hp) (by simp),e0.hok.kept hk,?_,ht⟩
 ·exact name_of_addr x.apart (PySem.mem_of_lookup h1) (PySem.mem_of_lookup h2)
 ·have hy:scope.names.lookup y=some .cell\/scope.names.lookup y=some .free:=hy
  rcases hy with hy | hy
  ·exact zBo hy
  ·exact absurd rfl (S.nofree _ (PySem.mem_of_lookup hy))
 ·exact Nat.le_of_lt (x.above y c (PySem.mem_of_lookup h))
 ·have hi:i < vs.length:=by
   unfold qJ at h2
   by_cases hi:i < vs.length
   ·exact hi
   ·rw[List.getElem?_append_right (by simpa using hi)] at h2
    rw[List.getElem?_replicate] at h2
    split at h2<;>cases h2
  have ha:vs[i]? = some v:=by
   unfold qJ at h2
   rw[List.getElem?_append_left (by simpa using hi),List.getElem?_map] at h2
   cases e:vs[i]? with
   | none=>rw[e] at h2;cases h2
   | some a=>rw[e] at h2;cases h2;rfl
  obtain⟨u,hu,rv⟩:=r.get ha
  have hp:ps[i]? = some y:=by
   rw[<- S.pre,List.getElem?_take_of_lt (by omega)];exact h1
  have ndP:ps.Nodup:=by rw[<- S.pre];exact S.nd.sublist (List.take_sublist _ _)
  refine⟨u,rv,?_⟩
  rcases S.par y (List.mem_of_getElem? hp) with k | k
  ·exact .inl ⟨k,zAT ndP hp hu k⟩
  ·obtain⟨c,e⟩:=zBo (n:=s.heap.objs.size+1) k
   refine .inr ⟨.inl k,c,e,?_⟩
   have q:=x.cell y c e
   rw[zAh ndP hp hu (by show scope.names.lookup y≠_;rw[k];decide)] at q
   exact q
 ·exact e0.hok.fresh (Nat.le_of_lt (x.above y c (PySem.mem_of_lookup h)))
 ·unfold qJ
  show _=N.length
  rw[List.length_append,List.length_map,List.length_replicate]
  omega
theorem zIk {CX:CXT}{P:Program}{w:World}{K:PySem.W.Frag}{mg:Str->Option Value}{base:Heap}{k:Nat}{f:Addr}{name qual:Str}{params:Arguments}{body:List Stmt}{scope:Scope}{dV kV doc pm cdv ct oc:Value}{an od:Option Addr}
  {osl:Array (Option Value)}{N ps:List Str}{sp:Sp} (lk:K.lookup f=some ⟨oc,od,.func (PySem.W.fnOf name qual params body scope dV kV doc pm an cdv ct),osl⟩) (hcd:PySem.W.codeIn K cdv qual=true) (S:zy N ps scope)
  (len:∀ vs H Q E,sp vs H Q E->vs.length=ps.length)
  (hbody:∀ (A:Around) (outer:List Env) (s:Shared) (H:Hp) (vs:List V) (Q:VK) (E:XK),zm k (A.deeper (envOfC qual scope s.heap.objs.size f cdv))->sp vs H Q E ->
   ∃ t,PSs (yi CX P w K mg base N qual scope f cdv A outer s H E) body t/\t { nx:=fun _ H'=>Q .non H',rt:=Q } (qJ N vs) H) :
  jM P w K mg base CX (k+1) f (PySem.W.fnOf name qual params body scope dV kV doc pm an cdv ct) ps sp:=by
 refine⟨len,fun A outer s H args us vs Q E hr e0 htk hb r hsp=>?_⟩
 have hl:=len _ _ _ _ hsp
 have KX:K.In s.heap:=e0.mod.kin.keeps fun b o e=>(e0.bs b o e).1
 have lim:s.heap.NoLimit:=e0.mod.nolimit.keeps fun b o e=>(e0.bs b o e).1
 have hkind:∀ y∈ps.zip us,scope.names.lookup y.1=some .local\/(scope.names.lookup y.1=some .cell/\((cellsFrom (s.heap.objs.size+1) scope.names []).lookup y.1).isSome=true):=fun ⟨n,v⟩ hy=>by
  rcases S.par n (List.of_mem_zip hy).1 with q | q
  ·exact .inl q
  ·exact .inr ⟨q,PySem.W.cellsFrom_some _ _ _ (.inl q)⟩
 refine codeAny_call_function hr.depth (KX _ _ lk) rfl S.co S.gen rfl (PySem.W.codeRec_of KX hcd) (hb _ _ _ _ ?_)
 refine zCU S.kind hkind fun env he s1 x htk1=>?_
 subst he
 refine⟨lim.keeps x.toInCall.keep,codeAny_func ?_⟩
 obtain⟨t,ht,hq⟩:=hbody A outer s H vs Q E (hr.deeper _) hsp
 have I:Inv (yi CX P w K mg base N qual scope f cdv A outer s H E) [] (qJ N vs) H s1:=zAb S hr.hd e0 hl r x (htk1 (htk.imp id fun ⟨p,hp,hpl⟩=>by
  obtain⟨i,hi,e⟩:=List.mem_iff_getElem.mp hp
  have hu:i < us.length:=by rw[<- r.length,hl];exact hi
  exact⟨(p,us[i]),List.mem_iff_getElem.mpr ⟨i,by rw[List.length_zip];omega,by rw[List.getElem_zip,e]⟩,hpl⟩))
 refine wpAny_mono (ht [] s1 (qJ N vs) H _ I hq) (fun fl s' hs=>?_) fun e s' hs=>hs
 have fin:∀ {σ':St}{H':Hp}{v:V}{u:Value},Inv (yi CX P w K mg base N qual scope f cdv A outer s H E) [] σ' H' s'->zV v u->Q v H'->CE outer P w H s Q u s' :=
  fun {σ' H' v u} J rv q=>⟨v,H',J.os,J.bare,J.base,J.hok,rv,q⟩
 cases fl with
 | ret u =>
  obtain⟨v,σ',H',J,rv,q⟩:=hs
  exact fin J rv q
 | next =>
  obtain⟨σ',H',J,q⟩:=hs
  exact fin (v:=V.non) (u:=Value.none) J rfl q
 | brk =>
  obtain⟨_,_,_,q⟩:=hs
  exact False.elim q
 | cont =>
  obtain⟨_,_,_,q⟩:=hs
  exact False.elim q
end L2
namespace L2
open PySem PySem.Spec PyProof.Rows
section
variable {X:Cx}{x:Str}{p pos:Pos}{e:Expr}{es:List Expr}{t:TA}{id T:String}{r:List V->Hp->VK->Prop}
noncomputable def tCB (r:List V->Hp->VK->Prop) (t:TA):TE:=fun σ H Q=>t σ H fun vs H1=>r vs H1 Q
theorem zBr (hc:z8 X (.builtin id) r) (hg:Gl X x) (hm:X.mg x=none) (hv:bootBuiltins x=some (.builtin id)) (ha:PA X (e::es) t) (hn:x ≠ "__name__" := by decide) (hdb:(x == ("__debug__" : Str))=false:=by decide)
  (he:starEach (e::es) X.env=(false,eval e X.env)::starEach es X.env:=by rfl) (hpl:(backTo pos (starEach es X.env)).any (·.1)=false:=by rfl):PE X (.Call (.Name x p) (e::es) [] pos) (tCB r t):=by
 intro pins s σ H Q I h
 refine wpAny_Call_Name_kw (Jf I hg hm hv ?_ hn hdb)
 exact PyProof.Rows.callWith_builtin1 (thn (ha pos pins s σ H _ I h) fun us s1 ⟨vs,H1,I1,r1,q1⟩=>hc pins s1 σ H1 vs us Q I1 r1 q1) he hpl
theorem zDk (hc:z8 X (.type T) r) (hg:Gl X x) (hm:X.mg x=none) (hv:bootBuiltins x=some (.type T)) (ha:PA X (e::es) t) (hn:x ≠ "__name__" := by decide) (hdb:(x == ("__debug__" : Str))=false:=by decide)
  (he:starEach (e::es) X.env=(false,eval e X.env)::starEach es X.env:=by rfl) (hpl:(backTo pos (starEach es X.env)).any (·.1)=false:=by rfl):PE X (.Call (.Name x p) (e::es) [] pos) (tCB r t):=by
 intro pins s σ H Q I h
 refine wpAny_Call_Name_kw (Jf I hg hm hv ?_ hn hdb)
 exact PyProof.Rows.callWith_type1 (thn (ha pos pins s σ H _ I h) fun us s1 ⟨vs,H1,I1,r1,q1⟩=>hc pins s1 σ H1 vs us Q I1 r1 q1) he hpl
end
end L2
namespace HT
open PySem PyProof.Rows
section
variable {prog:Program}{w:World}{A:Around}{E:Value->Shared->Prop}{s:Shared}
theorem zGS {t b:Addr}{vs ws:List Value}{Q:Value->Shared->Prop} (ht:IsTup s.heap t vs.toArray) (hb:IsTup s.heap b ws.toArray) (hv:vs≠[])
  (h1:ws=[]->Q (.ref t) s) (h2:ws≠[]->Q (.ref s.heap.objs.size) { s with heap:=s.heap.push { cls:=.type "tuple",data:=.seq (vs++ws).toArray } })
  (hsz:vs.length+ws.length <= sizeLine):wpAny (model prog w) A (binaryOp .Add (.ref t) (.ref b)) Q E s:=by
 obtain⟨⟨cls,dd,data,sl⟩,ho,hc,n,hd⟩:=id ht
 obtain⟨⟨cls2,dd2,data2,sl2⟩,ho2,hc2,n2,hd2⟩:=id hb
 simp only at hc hd hc2 hd2
 subst hc hd hc2 hd2
 have e:vs.toArray++ws.toArray=(vs++ws).toArray:=by simp
 by_cases hw:ws=[]
 ·exact concat_meets ⟨_,ho,rfl⟩ ⟨_,ho2,rfl⟩ noFill_tuple_add seq_tuple_add PySem.F.slot_tuple_add PySem.F.entry_tuple_add (PySem.F.args_tuple_add_2 _ _)
   (tuple_addW1 t b vs.toArray ws.toArray n n2 dd dd2 sl sl2 (by simpa using hv) (by simp[hw])) ⟨ho,ho2,h1 hw⟩
 ·refine concat_meets ⟨_,ho,rfl⟩ ⟨_,ho2,rfl⟩ noFill_tuple_add seq_tuple_add PySem.F.slot_tuple_add PySem.F.entry_tuple_add (PySem.F.args_tuple_add_2 _ _)
   (tuple_addW2 t b vs.toArray ws.toArray n n2 dd dd2 sl sl2 (by simpa using hv) (by simpa using hw) (by rw[List.size_toArray,List.size_toArray];exact hsz)) ⟨ho,ho2,?_⟩
  rw[e]
  exact h2 hw
noncomputable def sIx (n d:Nat):Option Int->Nat
 | none=>d
 | some v=>if v < 0 then (v+(n:Int)).toNat else min v.toNat n
theorem zBx (n d:Nat) (hd:d <= n) (o:Option Int):sIx n d o <= n:=by
 cases o with
 | none=>exact hd
 | some v =>
  show (if v < 0 then (v+(n:Int)).toNat else min v.toNat n) <= n
  by_cases hv:v < 0
  ·rw[if_pos hv];omega
  ·rw[if_neg hv];exact Nat.min_le_right _ _
theorem zAM (v:Int) (n d:Nat):(if v < 0 then max (v+(n:Int)) 0 else min v (n:Int))=((sIx n d (some v):Nat):Int):=by
 show (if v < 0 then max (v+(n:Int)) 0 else min v (n:Int))=(((if v < 0 then (v+(n:Int)).toNat else min v.toNat n):Nat):Int)
 by_cases hv:v < 0
 ·simp only[if_pos hv];omega
 ·simp only[if_neg hv];omega
theorem zDF (lo hi:Option Int) (n:Nat):Builtin.Slice.sliceAdjust lo hi 1 (n:Int)=(((sIx n 0 lo:Nat):Int),((sIx n n hi:Nat):Int)):=by
 have h1:¬ ((1:Int) < 0):=by omega
 unfold Builtin.Slice.sliceAdjust
 simp only[h1,if_false]
 refine Prod.ext ?_ ?_
 ·cases lo with
  | none=>rfl
  | some v=>exact zAM v n 0
 ·cases hi with
  | none=>rfl
  | some v=>exact zAM v n n
theorem zCo (i j:Nat):Builtin.Slice.slicePlaces (i:Int) (j:Int) 1=j - i:=by
 unfold Builtin.Slice.slicePlaces
 have h1:(1:Int) > 0:=by omega
 simp only[h1,if_true,Int.ediv_one]
 split<;>omega
theorem JI {v:Value}{o:Option Int}{Q:Option Int->Shared->Prop} (p:IsPart v o) (h:Q o s):wpAny (model prog w) A (Builtin.Slice.slicePartIndex v) Q E s:=by
 cases p with
 | none=>exact slicePart_none h
 | int i t=>exact slicePart_int h
theorem JD {sl:Addr}{vl vu:Value}{lo hi:Option Int}{n:Nat}{Q:Int×Int×Nat->Shared->Prop} (hs:s.heap.IsSliceOf sl vl vu .none) (pl:IsPart vl lo) (pu:IsPart vu hi)
  (h:Q (((sIx n 0 lo:Nat):Int),1,sIx n n hi - sIx n 0 lo) s):wpAny (model prog w) A (Builtin.Slice.sliceApplied (.ref sl) (pure (n:Int))) Q E s:=by
 obtain⟨os,hos,hcs,hds⟩:=id hs
 unfold Builtin.Slice.sliceApplied Builtin.Slice.sliceFields
 refine wpAny_bind (wpAny_bind (wpAny_field hos hds (x:=vl) rfl (wpAny_bind (wpAny_field hos hds (x:=vu) rfl (wpAny_bind (wpAny_field hos hds (x:=.none) rfl (wpAny_pure ?_)))))))
 refine wpAny_bind (slicePart_none ?_)
 show wpAny _ _ (if ((1:Int) == 0)=true then _ else _) _ _ s
 rw[if_neg (by decide)]
 refine wpAny_bind (JI pl (wpAny_bind (JI pu (wpAny_bind (wpAny_pure ?_)))))
 show wpAny _ _ (match Builtin.Slice.sliceAdjust lo hi 1 (n:Int) with | (lo,hi)=>pure (lo,(1:Int),Builtin.Slice.slicePlaces lo hi 1)) _ _ s
 rw[zDF lo hi n]
 show wpAny _ _ (pure (((sIx n 0 lo:Nat):Int),(1:Int),Builtin.Slice.slicePlaces ((sIx n 0 lo:Nat):Int) ((sIx n n hi:Nat):Int) 1)) _ _ s
 rw[zCo]
 exact wpAny_pure h
theorem zFG (xs:Array Value) (i k:Nat):((List.range k).filterMap fun (m:Nat)=>xs[((i:Int)+(m:Int) * 1).toNat]?).toArray=((xs.toList.drop i).take k).toArray:=by
 have e:(fun (m:Nat)=>xs[((i:Int)+(m:Int) * 1).toNat]?)=fun m=>xs[i+m]? := by
  funext m
  have:((i:Int)+(m:Int) * 1).toNat=i+m:=by omega
  rw[this]
 rw[e]
 have:=pick_run xs i k
 rw[List.filterMap_map] at this
 have e2:((fun x=>xs[x]?) ∘ fun x=>i+x)=fun m=>xs[i+m]? := rfl
 rw[e2] at this
 rw[this]
theorem Qp {t sl:Addr}{items:Array Value}{vl vu:Value}{lo hi:Option Int}{Q:Value->Shared->Prop} (ht:IsTup s.heap t items) (hs:s.heap.IsSliceOf sl vl vu .none) (pl:IsPart vl lo) (pu:IsPart vu hi)
  (hw:¬ (sIx items.size 0 lo=0/\sIx items.size items.size hi=items.size))
  (h:Q (.ref s.heap.objs.size) { s with heap:=s.heap.push { cls:=.type "tuple",data:=.seq ((items.toList.drop (sIx items.size 0 lo)).take (sIx items.size items.size hi - sIx items.size 0 lo)).toArray } })
  (hsz:items.size <= sizeLine):wpAny (model prog w) A (getItem (.ref t) (.ref sl)) Q E s:=by
 have htake:sizeOk (.seq ((items.toList.drop (sIx items.size 0 lo)).take (sIx items.size items.size hi - sIx items.size 0 lo)).toArray):=by
  show ((items.toList.drop (sIx items.size 0 lo)).take (sIx items.size items.size hi - sIx items.size 0 lo)).toArray.size <= sizeLine
  rw[List.size_toArray,List.length_take,List.length_drop,Array.length_toList]
  omega
 have hj:sIx items.size items.size hi <= items.size:=zBx _ _ (Nat.le_refl _) hi
 obtain⟨os,hos,hcs,hds⟩:=id hs
 have hTs:s.TypeIs (.ref sl) "slice" := ⟨os,hos,hcs⟩
 unfold getItem
 try with_reducible refine wpAny_holding ?_
 first | refine wpAny_bind (wpAny_pure ?_) | skip
 refine wpAny_bind (wpAny_sequenceKey ht.typeIs (by decide) ?_)
 refine wpAny_bind (wpAny_callSpecial?_slot (name:=Str.ofString "__getitem__") ht.typeIs PyProof.Rows.slot_tuple_getitem
  (wpAny_call_entry PyProof.Rows.slot_tuple_getitem ht.typeIs entry_tuple_getitem ?_ (args_tuple_getitem _ _)))
 show wpAny _ _ (Builtin.Tuple.tupleItemsOf (.ref t) >>= _) _ _ s
 refine wpAny_bind (tupleItemsOf_ ht ?_)
 refine wpAny_bind (wpAny_typeOf hTs ?_)
 rw[if_pos (by decide)]
 refine wpAny_bind (JD hs pl pu ?_)
 have hno:¬ ((((sIx items.size 0 lo:Nat):Int) == 0 && (1:Int) == 1 && (sIx items.size items.size hi - sIx items.size 0 lo) == items.size)=true):=by
  intro q
  rw[Bool.and_eq_true,Bool.and_eq_true] at q
  have q1:((sIx items.size 0 lo:Nat):Int)=0:=eq_of_beq q.1.1
  have q2:sIx items.size items.size hi - sIx items.size 0 lo=items.size:=eq_of_beq q.2
  exact hw ⟨by omega,by omega⟩
 show wpAny _ _ (if (((sIx items.size 0 lo:Nat):Int) == 0 && (1:Int) == 1 && (sIx items.size items.size hi - sIx items.size 0 lo) == items.size)=true then _ else _) _ _ s
 rw[if_neg hno,zFG]
 first
  | exact wpAny_bind (m:=Builtin.Tuple.tupleExact _) (wpAny_newObj_type (wpAny_pure ⟨_,rfl,wpAny_pure h⟩) htake)
  | exact wpAny_bind (m:=Builtin.Tuple.tupleExact _) (wpAny_newObj_type (wpAny_bind (wpAny_pure (wpAny_pure ⟨_,rfl,wpAny_pure h⟩))) htake)
  | exact wpAny_bind (wpAny_bind (m:=Builtin.Tuple.tupleExact _) (wpAny_newObj_type (wpAny_pure (wpAny_pure ⟨_,rfl,wpAny_pure h⟩)) htake))
  | exact wpAny_bind (wpAny_bind (m:=Builtin.Tuple.tupleExact _) (wpAny_newObj_type (wpAny_pure ⟨_,rfl,wpAny_pure h⟩) htake))
end
end HT
namespace L2
open PySem PySem.Spec PyProof.Rows
noncomputable abbrev TO:=St->Hp->(Option Int->Hp->Prop)->Prop
noncomputable def PO (X:Cx) (e:Option Expr) (t:TO):Prop :=
 ∀ (pins:List (Addr×Obj)) (s:Shared) (σ:St) (H:Hp) (Q:Option Int->Hp->Prop),Inv X pins σ H s->t σ H Q ->
  wpAny (model X.prog X.w) X.A (evalPart e X.env) (fun u s'=>∃ o H',Inv X pins σ H' s'/\IsPart u o/\Q o H') X.xe s
noncomputable def zGa:TO:=fun _ H Q=>Q none H
noncomputable def zIS (t:TE):TO:=fun σ H Q=>t σ H fun x H1=>∃ i,x=.int i/\Q (some i) H1
section
variable {X:Cx}{e:Expr}{te:TE}{lo hi:Option Expr}{tl th:TO}{pos p2:Pos}
theorem zGv:PO X none zGa:=by
 intro pins s σ H Q I h
 rw[evalPart_none]
 exact wpAny_pure ⟨none,H,I,.none,h⟩
theorem zGl (h:PE X e te):PO X (some e) (zIS te):=by
 intro pins s σ H Q I hw
 rw[evalPart_some]
 refine thn (h pins s σ H _ I hw) fun u s1 ⟨x,H1,I1,r1,q1⟩=>?_
 obtain⟨i,rfl,q⟩:=q1
 obtain⟨t,rfl⟩:=r1
 exact⟨some i,H1,I1,.int i t,q⟩
noncomputable def SlR (X:Cx) (r:V->Option Int->Option Int->Hp->VK->Prop):Prop :=
 ∀ (pins:List (Addr×Obj)) (s:Shared) (σ:St) (H:Hp) (x:V) (v vl vu:Value) (lo hi:Option Int) (sl:Addr) (Q:VK),Inv X pins σ H s->zV x v->s.heap.IsSliceOf sl vl vu .none->IsPart vl lo->IsPart vu hi->r x lo hi H Q ->
  ∃ T id,typeLookup (.type T) "__getitem__" = pure (some (.builtin id))/\s.TypeIs v T/\wpAny (model X.prog X.w) X.A (getItem v (.ref sl)) (EP X pins σ Q) X.xe s
noncomputable def tSl (r:V->Option Int->Option Int->Hp->VK->Prop) (te:TE) (tl th:TO):TE:=fun σ H Q=>te σ H fun x H1=>tl σ H1 fun l H2=>th σ H2 fun u H3=>r x l u H3 Q
theorem zFM {r:V->Option Int->Option Int->Hp->VK->Prop} (hr:SlR X r) (he:PE X e te) (hl:PO X lo tl) (hu:PO X hi th):PE X (.Subscript e (.Slice lo hi none p2) pos) (tSl r te tl th):=by
 intro pins s σ H Q I h
 refine Subscript_ (thn (he pins s σ H _ I h) fun v s1 ⟨x,H1,I1,r1,q1⟩=>?_)
 refine wpAny_Slice (thn (hl pins s1 σ H1 _ I1 q1) fun vl s2 ⟨l,H2,I2,pl,q2⟩=>thn (hu pins s2 σ H2 _ I2 q2) fun vu s3 ⟨u,H3,I3,pu,q3⟩=>?_)
 rw[evalPart_none]
 refine wpAny_pure ?_
 have I4:Inv X pins σ H3 { s3 with heap:=s3.heap.push { cls:=.type "slice",data:=.fields #[vl,vu,.none] } }:=I3.kept (t':=s3.toks) fun b ob q=>Heap.get?_push_of_some _ q
 obtain⟨T,id,hT,ht,hg⟩:=hr pins { s3 with heap:=s3.heap.push { cls:=.type "slice",data:=.fields #[vl,vu,.none] } } σ H3 x v vl vu l u s3.heap.objs.size Q I4 r1 (Heap.IsSliceOf.new ..) pl pu q3
 show wpAny (model X.prog X.w) X.A (subscriptTail e (.Slice lo hi none p2) v (.ref s3.heap.objs.size)) (EP X pins σ Q) X.xe { s3 with heap:=s3.heap.push { cls:=.type "slice",data:=.fields #[vl,vu,.none] } }
 exact tail_any (ops:=[.ref s3.heap.objs.size,v]) ht hT hg (by with_unfolding_all rfl)
noncomputable def Zj (xs:List V) (lo hi:Option Int):List V:=(xs.drop (HT.sIx xs.length 0 lo)).take (HT.sIx xs.length xs.length hi - HT.sIx xs.length 0 lo)
theorem Qt (xs:List V) (lo hi:Option Int):(Zj xs lo hi).length <= xs.length:=by
 unfold Zj
 rw[List.length_take,List.length_drop]
 omega
noncomputable def zI0 (K:PySem.W.Frag):V->Option Int->Option Int->Hp->VK->Prop:=fun x lo hi H Q=>∃ a xs,x=.ref a/\SqT K H a xs /\
 ¬ (HT.sIx xs.length 0 lo=0/\HT.sIx xs.length xs.length hi=xs.length)/\∀ p,H p=none->Q (.ref p) (upd H p (.tup (Zj xs lo hi)))
theorem zIL:SlR X (zI0 X.K):=by
 intro pins s σ H x v vl vu lo hi sl Q I rx hs pl pu h
 obtain⟨a,xs,rfl,hx,hw,q⟩:=h
 cases rx
 obtain⟨its,r,ht,hz⟩:=I.tuple hx
 have hlen:its.toArray.size=xs.length:=by rw[List.size_toArray];exact r.length.symm
 refine⟨"tuple",_,PyProof.Rows.slot_tuple_getitem.lookup,ht.typeIs,?_⟩
 refine HT.Qp ht hs pl pu (by rw[hlen];exact hw) ?_ (by rw[hlen];exact hz)
 rw[hlen]
 refine⟨.ref s.heap.objs.size,_,I.laid (t':=s.toks) (o:=.tup (Zj xs lo hi)) (fun b ob q=>Heap.get?_push_of_some _ q) (Nat.le_refl _) ?_,rfl,q _ (I.hok.fresh (Nat.le_refl _))⟩
 exact⟨Nat.le_trans (Qt xs lo hi) hz,_,(r.drop (HT.sIx xs.length 0 lo)).take (HT.sIx xs.length xs.length hi - HT.sIx xs.length 0 lo),IsTup.new _ _⟩
noncomputable def zFp (K:PySem.W.Frag):R2:=fun x y H Q=>∃ a b xs ys,x=.ref a/\y=.ref b/\SqT K H a xs/\SqT K H b ys/\xs≠[]/\xs.length+ys.length <= sizeLine /\
 (ys=[]->Q (.ref a) H)/\(ys≠[]->∀ p,H p=none->Q (.ref p) (upd H p (.tup (xs++ys))))
theorem zJ.nil_iff {xs:List V}{us:List Value} (r:zJ xs us):us=[]↔xs=[]:=by
 cases r with
 | nil=>simp
 | cons _ _=>simp
theorem qe:OpR X (binaryOp .Add) (zFp X.K):=by
 intro pins s σ H x y v u Q I rx ry h
 obtain⟨a,b,xs,ys,rfl,rfl,ha,hb,hx,hz,q1,q2⟩:=h
 cases rx
 cases ry
 obtain⟨its,r1,p1,_⟩:=I.tuple ha
 obtain⟨its2,r2,p2,_⟩:=I.tuple hb
 refine HT.zGS p1 p2 (fun z=>hx (r1.nil_iff.mp z)) (fun z=>⟨.ref a,H,I,rfl,q1 (r2.nil_iff.mp z)⟩) (fun z=>?_) (by rw[<- r1.length,<- r2.length];exact hz)
 refine⟨.ref s.heap.objs.size,_,I.laid (t':=s.toks) (o:=.tup (xs++ys)) (fun b ob q=>Heap.get?_push_of_some _ q) (Nat.le_refl _) ?_,rfl,q2 (fun w=>z (r2.nil_iff.mpr w)) _ (I.hok.fresh (Nat.le_refl _))⟩
 exact⟨by rw[List.length_append];exact hz,_,r1.append r2,IsTup.new _ _⟩
end
end L2
namespace L2
open PySem PySem.Spec PyProof.Rows
noncomputable def ixN (n:Nat) (i:Int):Option Nat:=if 0 <= i then (if i < n then some i.toNat else none) else if -(n:Int) <= i then some (i+n).toNat else none
noncomputable def atI {α:Type} (xs:List α) (i:Int):Option α:=(ixN xs.length i).bind fun j=>xs[j]?
theorem zGz {n:Nat}{i:Int}{j:Nat} (h:ixN n i=some j):seqIndex? i n=some j/\j < n /\ -(n:Int) <= i/\i < n:=by
 unfold ixN at h
 by_cases h0:0 <= i
 ·rw[if_pos h0] at h
  by_cases h1:i < n
  ·rw[if_pos h1] at h
   have e:i.toNat=j:=Option.some.inj h
   exact⟨by rw[seqIndex_of h0 h1,e],by omega,by omega,h1⟩
  ·rw[if_neg h1] at h;cases h
 ·rw[if_neg h0] at h
  by_cases h1:-(n:Int) <= i
  ·rw[if_pos h1] at h
   have e:(i+n).toNat=j:=Option.some.inj h
   exact⟨by rw[seqIndex_neg (by omega) h1,e],by omega,h1,by omega⟩
  ·rw[if_neg h1] at h;cases h
theorem J5 {α:Type}{xs:List α}{i:Int}{v:α} (h:atI xs i=some v):∃ j,seqIndex? i xs.length=some j/\xs[j]? = some v/\j < xs.length /\ -(xs.length:Int) <= i/\i < xs.length:=by
 unfold atI at h
 cases e:ixN xs.length i with
 | none=>rw[e] at h;cases h
 | some j =>
  rw[e] at h
  obtain⟨h1,h2,h3,h4⟩:=zGz e
  exact⟨j,h1,h,h2,h3,h4⟩
noncomputable def zCb (b:Expr):Prop:=∀ o i,subscripted b false o i=operate [o,i] (getItem o i)
noncomputable def IxR (X:Cx) (r:R2):Prop :=
 ∀ (value slice:Expr) (pins:List (Addr×Obj)) (s:Shared) (σ:St) (H:Hp) (x y:V) (v u:Value) (Q:VK),Inv X pins σ H s->zV x v->zV y u->r x y H Q ->
  subscripted slice false v u=operate [v,u] (getItem v u)->wpAny (model X.prog X.w) X.A (subscriptTail value slice v u) (EP X pins σ Q) X.xe s
noncomputable def MtR (X:Cx) (id:String) (r:V->List V->Hp->VK->Prop):Prop :=
 ∀ (pins:List (Addr×Obj)) (s:Shared) (σ:St) (H:Hp) (x:V) (xs:List V) (v:Value) (us:List Value) (Q:VK),Inv X pins σ H s->zV x v->zJ xs us->r x xs H Q ->
  wpAny (model X.prog X.w) X.A (call (.builtin id) (v::us)) (EP X pins σ Q) X.xe s
section
variable {X:Cx}{a b:Expr}{ta tb:TE}{pos:Pos}
theorem IxR.or {r r':R2} (h:IxR X r) (h':IxR X r'):IxR X (fun x y H Q=>r x y H Q\/r' x y H Q):=by
 intro value slice pins s σ H x y v u Q I rx ry q hs
 rcases q with q | q
 ·exact h value slice pins s σ H x y v u Q I rx ry q hs
 ·exact h' value slice pins s σ H x y v u Q I rx ry q hs
theorem zIo {r:R2} (hr:IxR X r) (ha:PE X a ta) (hb:PE X b tb) (hs:zCb b):PE X (.Subscript a b pos) (tOp r ta tb):=by
 intro pins s σ H Q I h
 exact Subscript_ (zE9 ha hb I h fun v u s2 x y H2 I2 rx ry q=>hr a b pins s2 σ H2 x y v u Q I2 rx ry q (hs _ _))
noncomputable def zIy (K:PySem.W.Frag):R2:=fun x y H Q=>∃ p xs i v,x=.ref p/\y=.int i/\SqL K H p xs/\atI xs i=some v/\Q v H
noncomputable def zIx (K:PySem.W.Frag):R2:=fun x y H Q=>∃ p xs i v,x=.ref p/\y=.int i/\SqT K H p xs/\atI xs i=some v/\Q v H
noncomputable def zJH:R2:=fun x y H Q=>∃ z i c,x=.str z/\y=.int i/\z.length <= sizeLine/\atI z.cps.toList i=some c/\Q (.str ⟨#[c]⟩) H
theorem zGO:IxR X (zIy X.K):=by
 intro value slice pins s σ H x y v u Q I rx ry h hs
 obtain⟨p,xs,i,z,rfl,rfl,hq,he,q⟩:=h
 cases rx
 obtain⟨t,rfl⟩:=ry
 obtain⟨its,r,pl,hz⟩:=I.list hq
 obtain⟨j,h1,h2,h3,h4,h5⟩:=J5 he
 obtain⟨w,ew,rw'⟩:=r.get h2
 have hl:=r.length
 have hn:=Qb
 have fin:EP X pins σ Q w s:=⟨z,H,I,rw',q⟩
 by_cases h0:0 <= i
 ·have hj:i.toNat=j:=by
   rw[seqIndex_of h0 h5] at h1
   exact Option.some.inj h1
  exact item_listR pl.isList h0 (by omega) (by rw[hj];simpa using ew) fin hs
 ·have hj:(i+(its.toArray.size:Int)).toNat=j:=by
   rw[seqIndex_neg (by omega) h4] at h1
   rw[List.size_toArray,<- hl]
   exact Option.some.inj h1
  exact subscriptTail_builtinR (x:=w) pl.isList.typeIs slot_list_getitem.lookup
   (wpAny_getItem_list_neg (Q:=fun r s'=>r=w/\EP X pins σ Q r s') pl.isList (by omega) (by rw[List.size_toArray]<;>omega) (by omega) (by rw[hj];simpa using ew) ⟨rfl,fin⟩) hs
theorem zHo:IxR X (zIx X.K):=by
 intro value slice pins s σ H x y v u Q I rx ry h hs
 obtain⟨p,xs,i,z,rfl,rfl,hq,he,q⟩:=h
 cases rx
 obtain⟨t,rfl⟩:=ry
 obtain⟨its,r,pl,hz⟩:=I.tuple hq
 obtain⟨j,h1,h2,h3,h4,h5⟩:=J5 he
 obtain⟨w,ew,rw'⟩:=r.get h2
 have hl:=r.length
 have hn:=Qb
 have fin:EP X pins σ Q w s:=⟨z,H,I,rw',q⟩
 exact subscriptTail_builtinR (x:=w) pl.typeIs slot_tuple_getitem.lookup
  (getItem_tuple (j:=j) (Q:=fun r s'=>r=w/\EP X pins σ Q r s') pl (by omega) (by omega) (by rw[List.size_toArray,<- hl];exact h1) (by simpa using ew) ⟨rfl,fin⟩) hs
theorem zHj:IxR X zJH:=by
 intro value slice pins s σ H x y v u Q I rx ry h hs
 obtain⟨z,i,c,rfl,rfl,hz,he,q⟩:=h
 obtain⟨t,rfl⟩:=rx
 obtain⟨t',rfl⟩:=ry
 obtain⟨j,h1,h2,h3,h4,h5⟩:=J5 he
 have hl:z.cps.toList.length=z.length:=by simp[Str.length]
 rw[hl] at h1 h4 h5
 have hn:=Qb
 exact tail_any (typeIs_str s z t) slot_str_getitem.lookup (getItem_str (c:=c) (by
  have e1:decide (i < -(2 ^ 63:Int))=false:=decide_eq_false (by omega)
  have e2:decide (i ≥ 2 ^ 63)=false:=decide_eq_false (by omega)
  rw[e1,e2,Bool.or_false]) (by rw[h1];simpa using h2) ⟨.str ⟨#[c]⟩,H,I.tok _,⟨_,rfl⟩,q⟩) hs
theorem zB3 (lo hi:Option Int) (n:Nat):(sliceBounds lo hi none n).1=((HT.sIx n 0 lo:Nat):Int)/\(sliceBounds lo hi none n).2.1=((HT.sIx n n hi:Nat):Int)/\(sliceBounds lo hi none n).2.2=1:=by
 refine⟨?_,?_,rfl⟩
 ·cases lo with
  | none=>simp[sliceBounds,HT.sIx]
  | some i =>
   simp only[sliceBounds,HT.sIx,Option.getD_none,show (1:Int) > 0 by decide,if_true]
   by_cases h:i < 0
   ·simp only[h,if_true]<;>omega
   ·simp only[h,if_false]<;>omega
 ·cases hi with
  | none=>simp[sliceBounds,HT.sIx]
  | some i =>
   simp only[sliceBounds,HT.sIx,Option.getD_none,show (1:Int) > 0 by decide,if_true]
   by_cases h:i < 0
   ·simp only[h,if_true]<;>omega
   ·simp only[h,if_false]<;>omega
theorem zAx (its:List Value) (lo hi:Option Int):slicePick its.toArray lo hi none=((its.drop (HT.sIx its.length 0 lo)).take (HT.sIx its.length its.length hi - HT.sIx its.length 0 lo)).toArray:=by
 obtain⟨h1,h2,h3⟩:=zB3 lo hi its.toArray.size
 unfold slicePick
 rw[h1,h2,h3]
 simp only[sliceRange_one,pick_run,List.size_toArray]<;>rfl
noncomputable def zJK (K:PySem.W.Frag):V->Option Int->Option Int->Hp->VK->Prop:=fun x lo hi H Q=>∃ a xs,x=.ref a/\SqL K H a xs/\∀ p,H p=none->Q (.ref p) (upd H p (.lst (Zj xs lo hi)))
theorem zGM:SlR X (zJK X.K):=by
 intro pins s σ H x v vl vu lo hi sl Q I rx hs pl pu h
 obtain⟨a,xs,rfl,hx,q⟩:=h
 cases rx
 obtain⟨its,r,ht,hz⟩:=I.list hx
 have hlen:=r.length
 refine⟨"list",_,slot_list_getitem.lookup,ht.isList.typeIs,?_⟩
 refine wpAny_getItem_list_slice ht.isList hs pl pu .none (by simp) ?_ (by rw[List.size_toArray]<;>omega)
 rw[zAx,<- hlen]
 refine⟨.ref s.heap.objs.size,_,I.laid (t':=s.toks) (o:=.lst (Zj xs lo hi)) (fun b ob q=>Heap.get?_push_of_some _ q) (Nat.le_refl _) ?_,rfl,q _ (I.hok.fresh (Nat.le_refl _))⟩
 exact⟨Nat.le_trans (Qt xs lo hi) hz,_,0,(r.drop (HT.sIx xs.length 0 lo)).take (HT.sIx xs.length xs.length hi - HT.sIx xs.length 0 lo),Heap.get?_push_size _ rfl⟩
noncomputable def jp:V->Bool
 | .non=>true
 | .bl _=>true
 | .int _=>true
 | .str _=>true
 | _=>false
noncomputable def eqV:V->V->Bool
 | .non,.non=>true
 | .bl a,.bl b=>a == b
 | .bl a,.int b=>(if a then 1 else 0) == b
 | .int a,.bl b=>a == (if b then 1 else 0)
 | .int a,.int b=>a == b
 | .str a,.str b=>a == b
 | _,_=>false
theorem zHg {A:Around}{s:Shared}{y x:V}{u v:Value} (ry:zV y u) (rx:zV x v) (fy:jp y=true) (fx:jp x=true):SeqAt.EqAt A s u v (eqV y x):=by
 cases y with
 | non =>
  cases ry
  cases x with
  | non=>cases rx;exact SeqAt.EqAt.same _
  | bl b=>cases rx;exact SeqAt.EqAt.none_bool b
  | int b=>obtain⟨t,rfl⟩:=rx;exact SeqAt.EqAt.none_int b t
  | str b=>obtain⟨t,rfl⟩:=rx;exact SeqAt.EqAt.none_str b t
  | _=>exact absurd (show false=true from fx) Bool.false_ne_true
 | bl a =>
  cases ry
  cases x with
  | non=>cases rx;exact SeqAt.EqAt.bool_none a
  | bl b=>cases rx;exact SeqAt.EqAt.bool_bool a b
  | int b=>obtain⟨t,rfl⟩:=rx;exact SeqAt.EqAt.bool_int a b t
  | str b=>obtain⟨t,rfl⟩:=rx;exact SeqAt.EqAt.bool_str a b t
  | _=>exact absurd (show false=true from fx) Bool.false_ne_true
 | int a =>
  obtain⟨t',rfl⟩:=ry
  cases x with
  | non=>cases rx;exact SeqAt.EqAt.int_none a t'
  | bl b=>cases rx;exact SeqAt.EqAt.int_bool a t' b
  | int b=>obtain⟨t,rfl⟩:=rx;exact SeqAt.EqAt.int_int a t' b t
  | str b=>obtain⟨t,rfl⟩:=rx;exact SeqAt.EqAt.int_str a t' b t
  | _=>exact absurd (show false=true from fx) Bool.false_ne_true
 | str a =>
  obtain⟨t',rfl⟩:=ry
  cases x with
  | non=>cases rx;exact SeqAt.EqAt.str_none a t'
  | bl b=>cases rx;exact SeqAt.EqAt.str_bool a t' b
  | int b=>obtain⟨t,rfl⟩:=rx;exact SeqAt.EqAt.str_int a t' b t
  | str b=>obtain⟨t,rfl⟩:=rx;exact SeqAt.EqAt.str_str a t' b t
  | _=>exact absurd (show false=true from fx) Bool.false_ne_true
 | _=>exact absurd (show false=true from fy) Bool.false_ne_true
noncomputable def eqU (x:V) (u:Value):Bool:=match u with
 | .none=>eqV .non x
 | .bool b=>eqV (.bl b) x
 | .int i _=>eqV (.int i) x
 | .str z _=>eqV (.str z) x
 | _=>false
theorem zEP {x y:V}{u:Value} (r:zV y u) (f:jp y=true):eqU x u=eqV y x:=by
 cases y with
 | non=>cases r;rfl
 | bl b=>cases r;rfl
 | int i=>obtain⟨t,rfl⟩:=r;rfl
 | str z=>obtain⟨t,rfl⟩:=r;rfl
 | _=>exact absurd (show false=true from f) Bool.false_ne_true
theorem zAP {x:V}:∀ {xs:List V}{us:List Value},zJ xs us->xs.all jp=true->us.any (eqU x)=xs.any fun y=>eqV y x
 | _,_,.nil,_=>rfl
 | y::xs,u::us,.cons r t,f=>by
  rw[List.all_cons,Bool.and_eq_true] at f
  rw[List.any_cons,List.any_cons,zEP r f.1,zAP t f.2]
theorem JE {A:Around}{s:Shared}{x:V}{v:Value} (rx:zV x v) (fx:jp x=true):∀ {xs:List V}{us:List Value},zJ xs us->xs.all jp=true->∀ u∈us,SeqAt.EqAt A s u v (eqU x u)
 | _,_,.nil,_=>fun u hu=>by cases hu
 | y::xs,u::us,.cons r t,f=>fun u' hu=>by
  rw[List.all_cons,Bool.and_eq_true] at f
  rcases List.mem_cons.mp hu with rfl | hu
  ·rw[zEP r f.1];exact zHg r rx f.1 fx
  ·exact JE rx fx t f.2 u' hu
noncomputable def inV (x:V) (xs:List V):Bool:=xs.any fun y=>eqV y x
noncomputable def rIn (K:PySem.W.Frag) (neg:Bool):R2:=fun x y H Q=>∃ p xs,y=.ref p/\(SqL K H p xs\/SqT K H p xs)/\jp x=true/\xs.all jp=true/\Q (.bl (if neg then !inV x xs else inV x xs)) H
theorem zBZ:OpR X (compareOp .NotIn) (rIn X.K true):=by
 intro pins s σ H x y v u Q I rx ry h
 obtain⟨p,xs,rfl,hq,fx,fs,q⟩:=h
 cases ry
 rcases hq with hq | hq
 ·obtain⟨its,r,pl,hz⟩:=I.list hq
  refine SeqAt.notIn_listAt (eqU x) pl.isList (fun w hw=>JE rx fx r fs w (by simpa using hw)) ⟨.bl _,H,I,rfl,?_⟩
  rw[show its.toArray.any (eqU x)=its.any (eqU x) by simp,zAP r fs]
  exact q
 ·obtain⟨its,r,pl,hz⟩:=I.tuple hq
  refine SeqAt.notIn_tupleAt (eqU x) pl (fun w hw=>JE rx fx r fs w (by simpa using hw)) ⟨.bl _,H,I,rfl,?_⟩
  rw[show its.toArray.any (eqU x)=its.any (eqU x) by simp,zAP r fs]
  exact q
theorem zBd:z8 X (.builtin "len") (fun xs H Q=>∃ p ys,xs=[.ref p]/\(SqL X.K H p ys\/SqT X.K H p ys)/\Q (.int ys.length) H):=by
 intro pins s σ H xs us Q I r h
 obtain⟨p,ys,rfl,hq,q⟩:=h
 obtain⟨u,rfl,rx⟩:=yK r
 cases rx
 have hn:=Qb
 rcases hq with hq | hq
 ·obtain⟨its,r',pl,hz⟩:=I.list hq
  have hlen:=r'.length
  exact Calls.call_len_list pl.isList (by simp only[List.size_toArray]<;>omega) ⟨.int ys.length,H,I.tok _,⟨s.toks+1,by rw[List.size_toArray,hlen]⟩,q⟩
 ·obtain⟨its,r',pl,hz⟩:=I.tuple hq
  have hlen:=r'.length
  exact len_tuple pl (by simp only[List.size_toArray]<;>omega) ⟨.int ys.length,H,I.tok _,⟨s.toks+1,by rw[List.size_toArray,hlen]⟩,q⟩
theorem zBt:z8 X (.builtin "len") (fun xs H Q=>∃ z,xs=[.str z]/\z.length <= sizeLine/\Q (.int z.length) H):=by
 intro pins s σ H xs us Q I r h
 obtain⟨z,rfl,hz,q⟩:=h
 obtain⟨u,rfl,t,rfl⟩:=yK r
 have hn:=Qb
 exact len_str (by omega) ⟨.int z.length,H,I.tok _,⟨_,rfl⟩,q⟩
theorem z8.or {f:Value}{r r':List V->Hp->VK->Prop} (h:z8 X f r) (h':z8 X f r'):z8 X f (fun xs H Q=>r xs H Q\/r' xs H Q):=by
 intro pins s σ H xs us Q I rs q
 rcases q with q | q
 ·exact h pins s σ H xs us Q I rs q
 ·exact h' pins s σ H xs us Q I rs q
theorem zBz:z8 X (.type "list") (fun xs H Q=>∃ p ys,xs=[.ref p]/\(SqL X.K H p ys\/SqT X.K H p ys)/\∀ l,H l=none->Q (.ref l) (upd H l (.lst ys))):=by
 intro pins s σ H xs us Q I r h
 obtain⟨p,ys,rfl,hq,q⟩:=h
 obtain⟨u,rfl,rx⟩:=yK r
 cases rx
 have fin:∀ (its:List Value),zJ ys its->ys.length <= sizeLine->∀ (h':Heap) (c':Nat),(∀ b o',s.heap.get? b=some o'->h'.get? b=some o') ->
   h'.get? s.heap.objs.size=some { cls:=.type "list",dict:=none,data:=.seq its.toArray c',slots:=#[] }->EP X pins σ Q (.ref s.heap.objs.size) { s with heap:=h' }:=fun its r' hz h' c' kp e =>
  ⟨.ref s.heap.objs.size,_,I.laid (t':=s.toks) kp (Nat.le_refl _) (show jE X.prog X.w _ h' _ (.lst ys) from ⟨hz,its,c',r',e⟩),rfl,q _ (I.hok.fresh (Nat.le_refl _))⟩
 rcases hq with hq | hq
 ·obtain⟨its,r',pl,hz⟩:=I.list hq
  have hlen:=r'.length
  obtain⟨o,ho,hc,n,hd⟩:=pl.isList
  exact call_list_seq p (.inl rfl) ho hc hd (fun h' c' kp e=>fin its r' hz h' c' kp e) (by simp only[List.size_toArray]<;>omega)
 ·obtain⟨its,r',pl,hz⟩:=I.tuple hq
  have hlen:=r'.length
  obtain⟨o,ho,hc,n,hd⟩:=pl
  exact call_list_seq p (.inr rfl) ho hc hd (fun h' c' kp e=>fin its r' hz h' c' kp e) (by simp only[List.size_toArray]<;>omega)
noncomputable def tyV (K:PySem.W.Frag) (T:String) (x:V) (H:Hp):Prop:=match x with
 | .str _=>T = "str"
 | .int _=>T = "int"
 | .ref p=>(T = "list" /\ ∃ xs,SqL K H p xs)\/(T = "tuple" /\ ∃ o,K.lookup p=some o/\o.cls=.type "tuple" /\ o.dict=none) \/
   (T = "dict" /\ ((∃ kvs,H p=some (.dK kvs))\/∃ kvs,H p=some (.dT kvs)))\/(T = "set" /\ ∃ S n,H p=some (.set S n))
 | _=>False
theorem zED {pins:List (Addr×Obj)}{σ:St}{H:Hp}{s:Shared}{T:String}{x:V}{v:Value} (I:Inv X pins σ H s) (r:zV x v) (ty:tyV X.K T x H) :
  s.TypeIs v T/\∀ a,v=.ref a->∃ ob,s.heap.get? a=some ob/\ob.dict=none:=by
 cases x with
 | str z =>
  obtain⟨t,rfl⟩:=r
  cases (show T = "str" from ty)
  exact⟨typeIs_str s z t,fun _ e=>nomatch e⟩
 | int i =>
  obtain⟨t,rfl⟩:=r
  cases (show T = "int" from ty)
  exact⟨typeIs_int s i t,fun _ e=>nomatch e⟩
 | ref p =>
  cases r
  rcases ty with ⟨rfl,xs,hq⟩ | ⟨rfl,o,hk,hc,hd⟩ | ⟨rfl,hk⟩ | ⟨rfl,S,n,hk⟩
  ·obtain⟨its,_,pl,_⟩:=I.list hq
   refine⟨pl.isList.typeIs,fun a e=>?_⟩
   cases e
   obtain⟨o,n,e,c,hd,_⟩:=pl
   exact⟨o,e,hd⟩
  ·refine⟨⟨o,I.kIn p o hk,hc⟩,fun a e=>?_⟩
   cases e
   exact⟨o,I.kIn _ o hk,hd⟩
  ·have z:∃ o,s.heap.get? p=some o/\o.ExactDict:=by
    rcases hk with ⟨kvs,hk⟩ | ⟨kvs,hk⟩
    ·obtain⟨_,_,_,_,o,_,_,e,ex,_⟩:=I.hok p _ hk
     exact⟨o,e,ex⟩
    ·obtain⟨_,_,_,_,o,_,_,e,ex,_⟩:=I.hok p _ hk
     exact⟨o,e,ex⟩
   obtain⟨o,e,ex⟩:=z
   refine⟨⟨o,e,ex.1⟩,fun a e2=>?_⟩
   cases e2
   exact⟨o,e,ex.2.1⟩
  ·obtain⟨o,_,_,_,e,ex,_⟩:=I.hok p _ hk
   refine⟨⟨o,e,ex.1⟩,fun a e2=>?_⟩
   cases e2
   exact⟨o,e,ex.2.1⟩
 | _=>exact False.elim ty
noncomputable def tBM (K:PySem.W.Frag) (T:String) (r:V->List V->Hp->VK->Prop) (to:TE) (t:TA):TE:=fun σ H Q=>to σ H fun x H1=>tyV K T x H1/\t σ H1 fun xs H2=>r x xs H2 Q
variable {o e:Expr}{es:List Expr}{to:TE}{t:TA}{name:Str}{apos cpos:Pos}{T id:String}{r:V->List V->Hp->VK->Prop}
theorem zFt (pa:PlainAttrs T) (slot:Slot T name id) (hty:typeOf (.builtin id)=pure (.type "method_descriptor")) (hm:MtR X id r) (ho:PE X o to) (ha:PA X (e::es) t)
  (hbase:attributeBase o name X.env (eval o X.env)=eval o X.env:=by rfl)
  (hfew:((backTo cpos (starEach (e::es) X.env)).all (fun x=>!x.1) && (backToKw cpos (keywordEach [] X.env)).all (fun x=>x.1.isSome)
   && decide ((e::es).length+([]:List Keyword).length+(if ([]:List Keyword).isEmpty then 0 else 1) < 30))=true:=by rfl)
  (hline:(apos.endLine == cpos.line)=true:=by rfl) (hs:starEach (e::es) X.env=(false,eval e X.env)::starEach es X.env:=by rfl) (hplain:(backTo cpos (starEach es X.env)).any (·.1)=false:=by rfl) :
  PE X (.Call (.Attribute o name apos) (e::es) [] cpos) (tBM X.K T r to t):=by
 intro pins s σ H Q I h
 refine wpAny_Call_method_late hbase hfew hline rfl (thn (ho pins s σ H _ I h) fun v s1 ⟨x,H1,I1,r1,ty,q1⟩=>?_)
 obtain⟨h1,h2⟩:=zED I1 r1 ty
 refine⟨T,id,pa,slot,hty,h1,h2,?_⟩
 have hA:=ha cpos pins s1 σ H1 _ I1 q1
 rw[hs] at hA ⊢
 refine Calls.callWith_builtin (by show (false || (backTo cpos (starEach es X.env)).any (·.1))=false;rw[hplain]<;>rfl) (Calls.evalArgs_plain ?_)
 exact thn hA fun us s2 ⟨vs,H2,I2,r2,q2⟩=>hm pins s2 σ H2 x vs v us Q I2 r1 r2 q2
end
end L2
namespace L2
open PySem PySem.Spec PyProof.Rows
noncomputable def MtM (X:Cx) (id:String) (r:V->List V->Hp->VK->Prop):Prop :=
 ∀ (pins:List (Addr×Obj)) (s:Shared) (σ:St) (H:Hp) (x:V) (xs:List V) (v:Value) (us:List Value) (Q:VK),Inv X pins σ H s->zV x v->zJ xs us->r x xs H Q ->
  wpAny (model X.prog X.w) X.A (call (.builtin id) (v::us)) (EP X pins σ Q) X.xe s
theorem zJ.one:∀ {x:V}{us:List Value},zJ [x] us->∃ u,us=[u]/\zV x u
 | _,_,.cons r .nil=>⟨_,rfl,r⟩
theorem zJ.eraseIdx:∀ {xs:List V}{us:List Value} (i:Nat),zJ xs us->zJ (xs.eraseIdx i) (us.eraseIdx i)
 | _,_,_,.nil=>.nil
 | _,_,0,.cons _ t=>t
 | _,_,i+1,.cons r t=>.cons r (zJ.eraseIdx i t)
theorem zJ.reverse {xs:List V}{us:List Value} (h:zJ xs us):zJ xs.reverse us.reverse:=by
 induction h with
 | nil=>exact .nil
 | cons r t ih=>rw[List.reverse_cons,List.reverse_cons];exact zJ.append ih (.cons r .nil)
theorem zJ.rep {xs:List V}{us:List Value} (h:zJ xs us):∀ k:Nat,zJ (List.replicate k xs).flatten (List.replicate k us).flatten
 | 0=>.nil
 | k+1=>by
  rw[List.replicate_succ,List.replicate_succ,List.flatten_cons,List.flatten_cons]
  exact zJ.append h (zJ.rep h k)
theorem zAo (its:List Value):∀ (k:Nat) (acc:List Value),
  List.foldl (fun x1 x2=>x1++x2) acc.toArray (List.replicate k its.toArray)=(acc++(List.replicate k its).flatten).toArray
 | 0,acc=>by simp
 | k+1,acc=>by
  have e:acc.toArray++its.toArray=(acc++its).toArray:=by simp
  have e2:(acc++its)++(List.replicate k its).flatten=acc++(List.replicate (k+1) its).flatten:=by
   rw[List.replicate_succ,List.flatten_cons,List.append_assoc]
  rw[<- e2,<- zAo its k (acc++its),<- e,List.replicate_succ,List.foldl_cons]
section
variable {X:Cx}{pins:List (Addr×Obj)}{σ:St}{H:Hp}{s:Shared}{l b:Addr}{xs ys zs:List V}
theorem Inv.lset {its its':List Value}{n:Nat}{f:Array Value->Array Value}{t':Nat} (I:Inv X pins σ H s) (hH:H l=some (.lst xs))
  (e:s.heap.get? l=some { cls:=.type "list",data:=.seq its.toArray n }) (hf:f its.toArray=its'.toArray) (hv:zJ ys its') (hz:ys.length <= sizeLine) (ht:0 < t':=by first | exact Nat.succ_pos _ | assumption | exact Inv.tk (by assumption) | omega) :
  Inv X pins σ (upd H l (.lst ys)) { s with heap:=s.heap.update l (Obj.mapSeq f),toks:=t' }:=by
 have q:=PySem.IsL.update e f
 rw[hf] at q
 refine I.write (x:=l) (e:=l) (by rw[hH];exact trivial) (.inl rfl) (fun b' u hb hu=>(Heap.get?_update_other s.heap (Obj.mapSeq f) (Ne.symm hb)).trans hu) ⟨_,q⟩ ?_
 exact⟨hz,its',_,hv,q⟩
theorem Inv.lnew {its:List Value}{t':Nat} (I:Inv X pins σ H s) (hv:zJ ys its) (hz:ys.length <= sizeLine) (ht:0 < t':=by first | exact Nat.succ_pos _ | assumption | exact Inv.tk (by assumption) | omega) :
  Inv X pins σ (upd H s.heap.objs.size (.lst ys)) { s with heap:=s.heap.push { cls:=.type "list",data:=.seq its.toArray },toks:=t' } :=
 I.laid (fun _ _ q=>Heap.get?_push_of_some _ q) (Nat.le_refl _) ⟨hz,its,0,hv,Heap.get?_push_size _ rfl⟩
theorem Inv.fresh (I:Inv X pins σ H s):H s.heap.objs.size=none:=I.hok.fresh (Nat.le_refl _)
theorem Inv.lstM (I:Inv X pins σ H s) (hH:H l=some (.lst xs)):xs.length <= sizeLine/\∃ (its:List Value) (n:Nat),zJ xs its/\xs.length=its.length/\s.heap.get? l=some { cls:=.type "list",data:=.seq its.toArray n }:=by
 obtain⟨z,its,n,r,e⟩:=I.hok l _ hH
 exact⟨z,its,n,r,r.length,e⟩
theorem zEx {n:Nat} (h:n <= sizeLine):Builtin.List.listTooLong n=false:=by
 unfold Builtin.List.listTooLong
 exact decide_eq_false (by omega)
end
section
variable {X:Cx}
noncomputable def zCR:V->List V->Hp->VK->Prop:=fun x vs H Q=>∃ l xs y,x=.ref l/\vs=[y]/\H l=some (.lst xs)/\xs.length < sizeLine/\Q .non (upd H l (.lst (xs++[y])))
theorem zAl:MtM X "list.append" zCR:=by
 intro pins s σ H x vs v us Q I rx rv h
 obtain⟨l,xs,y,rfl,rfl,hH,hz,q⟩:=h
 cases rx
 obtain⟨u,rfl,ru⟩:=rv.one
 obtain⟨z,its,n,r,hl,e⟩:=I.lstM hH
 refine call_meets F.slot_list_append ⟨_,e,rfl⟩ F.entry_list_append (F.args_list_append_2 _ _) (PySem.list_append l its.toArray n u (by rw[List.size_toArray];omega)) ⟨e,?_⟩
 refine⟨.non,_,I.lset (its':=its++[u]) hH e (by simp) (r.append (.cons ru .nil)) ?_,rfl,q⟩
 rw[List.length_append,List.length_singleton]
 omega
noncomputable def zI8:R2:=fun x y H Q=>∃ l b xs zs,x=.ref l/\y=.ref b/\H l=some (.lst xs)/\H b=some (.lst zs)/\xs.length+zs.length <= sizeLine/\∀ p,H p=none->Q (.ref p) (upd H p (.lst (xs++zs)))
theorem zHS:OpR X (binaryOp .Add) zI8:=by
 intro pins s σ H x y v u Q I rx ry h
 obtain⟨l,b,xs,zs,rfl,rfl,hH,hB,hz,q⟩:=h
 cases rx
 cases ry
 obtain⟨z,its,n,r,hl,e⟩:=I.lstM hH
 obtain⟨z2,its2,n2,r2,hl2,e2⟩:=I.lstM hB
 refine PySem.P.add_list e e2 ?_ (by rw[List.size_toArray,List.size_toArray];omega)
 have ea:its.toArray++its2.toArray=(its++its2).toArray:=by simp
 rw[ea]
 exact⟨.ref _,_,I.lnew (t':=s.toks) (r.append r2) (by rw[List.length_append];omega),rfl,q _ I.fresh⟩
noncomputable def zIR:R2:=fun x y H Q=>∃ l k xs,x=.ref l/\y=.int k/\H l=some (.lst xs) /\ -(2 ^ 63) <= k/\k < 2 ^ 63/\xs.length * k.toNat <= sizeLine /\
 ∀ p,H p=none->Q (.ref p) (upd H p (.lst (List.replicate k.toNat xs).flatten))
theorem zGJ {α:Type} (xs:List α) (k:Nat):(List.replicate k xs).flatten.length=k * xs.length:=by
 induction k with
 | zero=>simp
 | succ k ih=>rw[List.replicate_succ,List.flatten_cons,List.length_append,ih,Nat.succ_mul,Nat.add_comm]
theorem zHZ:OpR X (binaryOp .Mult) zIR:=by
 intro pins s σ H x y v u Q I rx ry h
 obtain⟨l,k,xs,rfl,rfl,hH,h1,h2,hz,q⟩:=h
 cases rx
 obtain⟨t,rfl⟩:=ry
 obtain⟨z,its,n,r,hl,e⟩:=I.lstM hH
 have hlen:its.toArray.size * k.toNat <= sizeLine:=by rw[List.size_toArray,<- hl];exact hz
 have hcap:¬ its.toArray.size * k.toNat > (2 ^ 63 - 1) / 8:=by
  have:(sizeLine:Nat) <= (2 ^ 63 - 1) / 8:=by decide
  omega
 have hfit:¬ (!Builtin.List.listFitsIndex k)=true:=by
  rw[fitsIndex_both h1 h2]
  exact Bool.false_ne_true
 have hlong:¬ Builtin.List.listTooLong (its.toArray.size * k.toNat)=true:=by
  rw[zEx hlen]
  exact Bool.false_ne_true
 have hnew:List.foldl (fun x1 x2=>x1++x2) #[] (List.replicate (if its.toArray.isEmpty=true then 0 else k.toNat) its.toArray)=(List.replicate k.toNat its).flatten.toArray:=by
  have f0:∀ m:Nat,List.foldl (fun x1 x2=>x1++x2) #[] (List.replicate m its.toArray)=(List.replicate m its).flatten.toArray:=fun m=>by
   have:=zAo its m []
   rw[List.nil_append] at this
   exact this
  rw[f0]
  cases its with
  | nil=>simp
  | cons a r'=>rw[if_neg (by simp)]
 refine wpAny_binaryOp_repeat_ref (T := "list") (U := "int") (by decide) ⟨_,e,rfl⟩ (fun s'=>typeIs_int s' k t) noFill_list_mul F.fills_int_mul F.slot_int_rmul repeat_list F.slot_int_index.lookup
  (call_meets F.slot_int_rmul (typeIs_int s k t) F.entry_int_rmul (F.args_int_rmul_2 _ _) (int___rmul___int_list k t l its.toArray n)
   ⟨e,rfl,⟨_,e,rfl⟩,call_meets F.slot_list_mul ⟨_,e,rfl⟩ F.entry_list_mul (F.args_list_mul_2 _ _) (AutoListH.list___mul___list_int_3 l its.toArray n k t hfit hcap hlong) ⟨e,?_⟩⟩)
 rw[hnew]
 exact⟨.ref _,_,I.lnew (t':=s.toks) (r.rep k.toNat) (by rw[zGJ,Nat.mul_comm];exact hz),rfl,q _ I.fresh⟩
end
section
variable {prog:Program}{w:World}{A:Around}{E:Value->Shared->Prop}{s:Shared}
set_option maxRecDepth 100000 in
end
end L2
namespace L2
open PySem PySem.Spec PyProof.Rows
section
variable {κ:Type} [DecidableEq κ]
noncomputable def qD (kvs:List (κ×V)) (k:κ):Option V:=(kvs.find? fun kv=>decide (kv.1=k)).map (·.2)
theorem Q1 {p:κ×V}{r:List (κ×V)}{k:κ} (e:p.1=k):qD (p::r) k=some p.2:=by simp[qD,List.find?_cons,e]
theorem Q4 {p:κ×V}{r:List (κ×V)}{k:κ} (e:¬ p.1=k):qD (p::r) k=qD r k:=by simp[qD,List.find?_cons,e]
theorem ZS.isSome_eq {o:Option V}{u:Option Value} (r:ZS o u):o.isSome=u.isSome:=by
 cases o with
 | none=>cases u with
  | none=>rfl
  | some _=>exact (show False from r).elim
 | some _=>cases u with
  | none=>exact (show False from r).elim
  | some _=>rfl
theorem KV.val {kvs:List (κ×V)}{vs:List (κ×Value)} (r:KV kvs vs) (k:κ):ZS (qD kvs k) (valueAt vs k):=by
 unfold KV at r
 induction r with
 | nil=>exact True.intro
 | @cons p q ps qs h t ih =>
  obtain⟨h1,h2⟩:=h
  by_cases e:p.1=k
  ·have e':q.1=k:=h1.symm.trans e
   have b:valueAt (q::qs) k=some q.2:=by simp[valueAt,List.find?_cons,e']
   rw[Q1 e,b];exact h2
  ·have e':¬ q.1=k:=fun z=>e (h1.trans z)
   have b:valueAt (q::qs) k=valueAt qs k:=by simp[valueAt,List.find?_cons,e']
   rw[Q4 e,b];exact ih
theorem KV.keys {kvs:List (κ×V)}{vs:List (κ×Value)} (r:KV kvs vs):kvs.map (·.1)=vs.map (·.1):=by
 unfold KV at r
 induction r with
 | nil=>rfl
 | cons h t ih=>rw[List.map_cons,List.map_cons,ih,h.1]
theorem KV.length {kvs:List (κ×V)}{vs:List (κ×Value)} (r:KV kvs vs):kvs.length=vs.length:=Paired.length r
end
theorem zCe {P:Program}{w:World}{k:Key}{u:Value} (r:zV (kV k) u):(jh P w).is k u=true:=by
 cases k with
 | inl i=>obtain⟨t,e⟩:=(show ∃ t,u=Value.int i t from r);subst e;exact zCA P w i t
 | inr x=>obtain⟨t,e⟩:=(show ∃ t,u=Value.str x t from r);subst e;exact zCH P w x t
theorem zAq {P:Program}{w:World}:∀ {ks:List Key}{us:List Value},zJ (ks.map kV) us->ItemsAre (jh P w) ks us
 | [],_,r=>by rw[List.map_nil] at r;cases r;exact .nil
 | k::ks,_,r=>by
  rw[List.map_cons] at r
  cases r with
  | cons h t=>exact .cons (zCe h) (zAq t)
noncomputable abbrev KT (H:Hp):List (List Key×V)->List (List Key×Addr×Value)->Prop:=Paired fun p q=>p.1=q.1/\H q.2.1=some (.tup (p.1.map kV))/\zV p.2 q.2.2
theorem KT.val {H:Hp}{kvs:List (List Key×V)}{xs:List (List Key×Addr×Value)} (r:KT H kvs xs) (k:List Key):ZS (qD kvs k) ((atKey xs k).map (·.2)):=by
 induction r with
 | nil=>exact True.intro
 | @cons p q ps qs h t ih =>
  obtain⟨h1,_,h2⟩:=h
  by_cases e:p.1=k
  ·have e':q.1=k:=h1.symm.trans e
   have b:atKey (q::qs) k=some q.2:=by simp[atKey,List.find?_cons,e']
   rw[Q1 e,b];exact h2
  ·have e':¬ q.1=k:=fun z=>e (h1.trans z)
   have b:atKey (q::qs) k=atKey qs k:=by simp[atKey,List.find?_cons,e']
   rw[Q4 e,b];exact ih
section
variable {P:Program}{w:World}{H:Hp}{h:Heap}{a:Addr}
theorem zFn {u:HO} (ok:HOk P w H h) (e:Rd H a u):jE P w H h a u:=e.ok ok
theorem JH {kvs:List (Key×V)} (ok:HOk P w H h) (e:Rd H a (.dK kvs)):kvs.length <= sizeLine/\(a == sysModules)=false/\∃ vs,KV kvs vs/\h.DictOf (jh P w) a vs :=
 show jE P w H h a (.dK kvs) from zFn ok e
theorem JP {kvs:List (Key×V)} (ok:HOk P w H h) (e:H a=some (.dK kvs)):kvs.length <= sizeLine/\(a == sysModules)=false/\∃ vs,KV kvs vs/\h.DictOf (jh P w) a vs:=JH ok (.inl e)
theorem zBT {ks:List Key} (ok:HOk P w H h) (e:H a=some (.tup (ks.map kV))):(tupleKind (jh P w)).is h ks a:=by
 obtain⟨_,its,r,o,h1,h2,n,h3⟩:=(show jE P w H h a (.tup (ks.map kV)) from ok a _ e)
 exact⟨o,its.toArray,n,h1,h2,h3,by simpa using zAq r⟩
theorem zC7 {kvs:List (List Key×V)} (ok:HOk P w H h) (e:Rd H a (.dT kvs)):kvs.length <= sizeLine/\(a == sysModules)=false /\
  ∃ xs,KT H kvs xs/\h.DictOfH (tupleKind (jh P w)) a xs:=by
 obtain⟨z,y,xs,r,o,es,ep,h1,h2,h3,h4,h5⟩:=(show jE P w H h a (.dT kvs) from zFn ok e)
 refine⟨z,y,xs,r,o,es,ep,h1,h2,h3,h4,fun x hx=>?_,h5⟩
 have all:∀ {l:List (List Key×V)}{m:List (List Key×Addr×Value)},KT H l m->∀ x∈m,(tupleKind (jh P w)).is h x.1 x.2.1:=by
  intro l m q
  induction q with
  | nil=>intro x hx;exact nomatch hx
  | @cons p q ps qs hq t ih =>
   intro x hx
   rcases List.mem_cons.mp hx with e | hx
   ·subst e
    exact zBT ok (by rw[<- hq.1];exact hq.2.1)
   ·exact ih x hx
 exact all r x hx
end
noncomputable def Z1 (H:Hp) (a:Addr) (y:V) (r:Option V):Prop :=
 (∃ kvs k,Rd H a (.dK kvs)/\y=kV k/\r=qD kvs k)\/∃ kvs k b,Rd H a (.dT kvs)/\y=.ref b/\H b=some (.tup (k.map kV))/\r=qD kvs k
theorem Z1.k {H:Hp}{a:Addr}{kvs:List (Key×V)}{k:Key} (e:H a=some (.dK kvs)):Z1 H a (kV k) (qD kvs k):=.inl ⟨kvs,k,.inl e,rfl,rfl⟩
section
variable {X:Cx}{pins:List (Addr×Obj)}{σ:St}{H:Hp}{s:Shared}{a:Addr}{y v:V}{u r:Value}{o:Option V}{A:Around}{E:Value->Shared->Prop}
theorem zD0 {Q:Value->Shared->Prop} (hu:A.units+1 < cLine) (I:Inv X pins σ H s) (g:Z1 H a y (some v)) (ry:zV y u) (h:∀ w' s',Inv X pins σ H s'->zV v w'->Q w' s') :
  wpAny (model X.prog X.w) A (getItem (.ref a) u) Q E s:=by
 rcases g with ⟨kvs,k,e,ey,l⟩ | ⟨kvs,k,b,e,ey,eb,l⟩
 ·subst ey
  obtain⟨z,hd,vs,rel,dd⟩:=JH I.hok e
  obtain⟨w',hw,rw'⟩:=ZS.some_of (v:=v) (o:=valueAt vs k) (by rw[l];exact rel.val k)
  exact wpAny_getItem_of (zCe ry) dd.mapOf hw (h w' _ (I.tok _) rw')
 ·subst ey
  cases (show u=Value.ref b from ry)
  obtain⟨z,hd,xs,rel,dd⟩:=zC7 I.hok e
  obtain⟨w',hw,rw'⟩:=ZS.some_of (v:=v) (o:=(atKey xs k).map (·.2)) (by rw[l];exact rel.val k)
  obtain⟨p,hp,hp2⟩:=Option.map_eq_some_iff.mp hw
  refine wpAny_getItem_heap (tupleKind_room_in1 hu) (zBT I.hok eb) dd hp ?_
  rw[hp2]
  exact h w' _ (I.tok _) rw'
theorem zGy {Q:Value->Shared->Prop} (hu:A.units+1 < cLine) (I:Inv X pins σ H s) (g:Z1 H a y o) (ry:zV y u) (h:∀ s',Inv X pins σ H s'->Q (.bool (!o.isSome)) s') :
  wpAny (model X.prog X.w) A (compareOp .NotIn u (.ref a)) Q E s:=by
 rcases g with ⟨kvs,k,e,ey,l⟩ | ⟨kvs,k,b,e,ey,eb,l⟩
 ·subst ey
  obtain⟨z,hd,vs,rel,dd⟩:=JH I.hok e
  refine wpAny_notIn_of (zCe ry) hd dd.mapOf ?_
  rw[<- (rel.val k).isSome_eq,<- l]
  exact h _ (I.tok _)
 ·subst ey
  cases (show u=Value.ref b from ry)
  obtain⟨z,hd,xs,rel,dd⟩:=zC7 I.hok e
  refine wpAny_notIn_heap (tupleKind_room_in1 hu) (zBT I.hok eb) hd dd ?_
  have q:=(rel.val k).isSome_eq
  rw[Option.isSome_map] at q
  rw[<- q,<- l]
  exact h _ (I.tok _)
end
section
variable {X:Cx}{pins:List (Addr×Obj)}{σ:St}{H:Hp}{s:Shared}{a:Addr}{kvs:List (Key×V)}{k:Key}{u:Value}{A:Around}{E:Value->Shared->Prop}
theorem zIc {Q:Value->Shared->Prop} (I:Inv X pins σ H s) (e:Rd H a (.dK kvs)) (h:∀ t s',Inv X pins σ H s'->Q (.int kvs.length t) s'):wpAny (model X.prog X.w) A (call (.builtin "len") [.ref a]) Q E s:=by
 obtain⟨z,hd,vs,rel,dd⟩:=JH I.hok e
 refine call_len_dict hd dd (by rw[<- rel.length];rw[sizeLine_eq] at z;omega) ?_
 rw[<- rel.length]
 exact h _ _ (I.tok _)
end
theorem zCB {X:Cx}{pins:List (Addr×Obj)}{σ:St}{H:Hp}{s:Shared}{a:Addr}{y:V}{o:Option V} (I:Inv X pins σ H s) (g:Z1 H a y o):s.TypeIs (.ref a) "dict" := by
 rcases g with ⟨kvs,k,e,_,_⟩ | ⟨kvs,k,b,e,_,_,_⟩
 ·obtain⟨_,_,vs,_,dd⟩:=JH I.hok e
  exact dd.typeIs
 ·obtain⟨_,_,xs,_,dd⟩:=zC7 I.hok e
  exact dd.typeIs
structure M1 (X:Cx) (o:Expr) (m:Str) (apos:Pos) (e:Expr) (cpos:Pos):Prop where
 base:attributeBase o m X.env (eval o X.env)=eval o X.env
 few:((backTo cpos (starEach [e] X.env)).all (fun x=>!x.1) && (backToKw cpos (keywordEach [] X.env)).all (fun x=>x.1.isSome)
  && decide (([e]:List Expr).length+([]:List Keyword).length+(if ([]:List Keyword).isEmpty then 0 else 1) < 30))=true
 line:(apos.endLine == cpos.line)=true
 trees:backTo cpos (starEach [e] X.env)=[(false,eval e X.env)]
structure M2 (X:Cx) (o:Expr) (m:Str) (apos:Pos) (e f:Expr) (cpos:Pos):Prop where
 base:attributeBase o m X.env (eval o X.env)=eval o X.env
 few:((backTo cpos (starEach [e,f] X.env)).all (fun x=>!x.1) && (backToKw cpos (keywordEach [] X.env)).all (fun x=>x.1.isSome)
  && decide (([e,f]:List Expr).length+([]:List Keyword).length+(if ([]:List Keyword).isEmpty then 0 else 1) < 30))=true
 line:(apos.endLine == cpos.line)=true
 trees:backTo cpos (starEach [e,f] X.env)=[(false,eval e X.env),(false,eval f X.env)]
end L2
namespace Att
open PySem PySem.W PySem.Calls PyProof.Rows
theorem Ji {P:Params}{h:Heap}:∀ (ns:List Int) (vs:List Value),WellAll P h vs (ns.map WData.int)->IntsAre vs ns:=by
 intro ns
 induction ns with
 | nil =>
  intro vs w
  rw[List.map_nil] at w
  cases w
  exact .nil
 | cons n ns ih =>
  intro vs w
  rw[List.map_cons] at w
  cases w with
  | cons a b =>
   cases a
   exact .cons _ _ (ih _ b)
theorem zDj {l:OpenLaw}{n:Nat} (hn:l.most=some n) {P:Params}{h:Heap}{args:List WData}{vals:List Value}
  (hpre:l.row.toRowW.claim.pre args=true) (hwl:WellAll P h vals args) :
  ∃ a vs ns,vals=[Value.ref a]/\args=[WData.list (ns.map WData.int)]/\h.get? a=some { cls:=.type "list",data:=.seq vs.toArray }/\IntsAre vs ns/\ns.length <= n:=by
 have hsh:WShape.hasAll [] args [.list .int]=true:=(pre_splitW hpre).1
 have hc:l.pre.holds [] { args:=args }=true:=(pre_splitW hpre).2
 obtain⟨d,r,rfl,h1,h2⟩:=hasAllW_cons hsh
 obtain rfl:=hasAllW_nil h2
 obtain⟨xs,rfl,h3⟩:=hasW_list h1
 obtain⟨ns,rfl⟩:=items_int h3
 have hlen:ns.length <= n:=by
  unfold OpenLaw.pre at hc
  have h4:(WTm.not (.lt (.lit (.int (n:Int))) (.len (.arg 0)))).holds [] { args:=[.list (ns.map .int)] }=true:=by
   have h4:=(holds_andW hc).1
   rw[hn] at h4
   exact h4
  have h5:=condW_of h4 (w_not (w_lt w_lit (w_len_list (w_arg rfl))))
  rw[List.length_map] at h5
  refine Nat.le_of_not_lt fun q=>?_
  have q':(n:Int) < ((ns.length:Nat):Int):=by omega
  first
   | (rw[decide_eq_true q'] at h5;exact absurd h5 (by decide))
   | (simp at h5;omega)
 cases hwl with
 | cons w1 w2 =>
  cases w2
  cases w1 with
  | list ho hall=>exact⟨_,_,ns,rfl,rfl,ho,Ji ns _ hall,hlen⟩
theorem zDc (l:OpenLaw) (args:List WData):l.row.toRowW.claim.post args (.bool true) args=true :=
 postW_of (r:=l.row.toRowW) (X:=(true == true))
  (show WShape.has [] (.bool true) .bool=true by first | rfl | decide | simp[WShape.has,WShape.arms,WShape.armsAll])
  (show (WTm.eq .res (.lit (.bool true))).value [] { args:=args,res:=some (.bool true),after:=args }=some (.bool (true == true)) from w_eq_bool (w_res rfl) w_lit) rfl
theorem zB9 {l:OpenLaw}{n:Nat}{q:Program}{loose:List Str}{XP:(Str->Option Value)->Heap->Prop}{YP:World->Heap->Prop}{d:DefRec}
  (hn:l.most=some n) (hdf:d.params.defaults=[])
  (call:∀ (w:World) (s₀ s₁:Shared) (mg mb:Str->Option Value) (fa:Addr) (o:Obj) (pm cd doc:Value) (a:Addr) (vs:List Value) (ns:List Int),
   Ground q loose [] XP w s₀ mg mb s₁.heap->YP w s₁.heap ->
   s₁.heap.get? fa=some o->o.data=.func (docDef d.name d.params d.body d.scope pm cd doc)->s₁.heap.CodeRec cd d.name->mg d.name=some (.ref fa) ->
   s₁.heap.get? a=some { cls:=.type "list",data:=.seq vs.toArray }->IntsAre vs ns->ns.length <= n->s₁.gens = #[] ->
   codeAny (model l.prog w) callerA (.call (.ref fa) ⟨[.ref a],[]⟩) (fun r s'=>r=.ok (.ret (.bool true))/\OldK s₁.heap s'.heap/\s'.os=s₁.os/\AllBare s'.gens) s₁) :
  WalkO q loose XP YP l.row.toRowW d [] (fun f vs=>PySem.call f vs):=by
 intro w s₀ s₁ mg mb G Y fa o pm cd doc dV kV ho hd hcd hD hmg hg args vals as hpre hlay hrd hwl hlo
 obtain rfl:dV=.none:=Dflts.none hD hdf
 obtain rfl:kV=.none:=Dflts.noKw hD
 obtain⟨a,vs,ns,rfl,rfl,hobj,hints,hlen⟩:=zDj hn hpre hwl
 refine enter_call (codeAny_mono (call w s₀ s₁ mg mb fa o pm cd doc a vs ns G Y ho (fd_plain hd) hcd hmg hobj hints hlen hg) fun r s' hq=>?_)
 obtain⟨rfl,h2,h3,h4⟩:=hq
 exact⟨.inl ⟨.bool true,.bool true,[],rfl,fun _=>rfl,.bool true,zDc l _,fun _=>⟨List.Pairwise.nil,fun _ hm=>(nomatch hm)⟩⟩,h2,h3,h4⟩
end Att
namespace L2
open PySem PySem.Spec PyProof.Rows
theorem zAU:∀ {vs:List Value}{ns:List Int},IntsAre vs ns->zJ (ns.map V.int) vs
 | _,_,.nil=>.nil
 | _,_,.cons n t h=>.cons ⟨t,rfl⟩ (zAU h)
noncomputable def zC9 (H:Hp):Prop:=∀ b,H b=none\/∃ o xs,H b=some (.frz o (.lst xs))
theorem zEw {P:Program}{w:World}{K:PySem.W.Frag}{mg mb:Str->Option Value}{CX:CXT}{k:Nat}{fa a:Addr}{fd:FuncData}{x:Str}{sp:Sp}{s₁:Shared}{vs:List Value}{ns:List Int}
  (KX:K.In s₁.heap) (hns:s₁.heap.Ns mainGlobals mg) (hb:s₁.heap.Ns builtinsNs mb) (hbb:∀ x:Str,x ≠ "__name__" -> mb x=bootBuiltins x) (hlim:s₁.heap.NoLimit) (hg:s₁.gens = #[])
  (ha:s₁.heap.get? a=some { cls:=.type "list",data:=.seq vs.toArray }) (hi:IntsAre vs ns) (hl:ns.length <= sizeLine) (hr:zm k callerA)
  (F:∀ base:Heap,K.In base->base.Ns mainGlobals mg->jM P w K mg base CX k fa fd [x] sp) (hT:fd.scope.names.lookup x=some .local) (hbind:∀ (s:Shared) (u:Value),BindsTo s fd ⟨[u],[]⟩ [(x,u)])
  (hsp:∀ H:Hp,zC9 H->SqL K H a (ns.map V.int)->sp [.ref a] H (fun v _=>v=.bl true) fun _ _ _=>False)
  (hCX:∀ H e s',CX [] H s₁ (fun _ _ _=>False) e s'->False) :
  codeAny (model P w) callerA (.call (.ref fa) ⟨[.ref a],[]⟩) (fun r s'=>r=.ok (.ret (.bool true))/\OldK s₁.heap s'.heap/\s'.os=s₁.os/\AllBare s'.gens) s₁:=by
 have rv:=zAU hi
 have lenV:=hi.length
 have core:∀ H:Hp,zC9 H->SqL K H a (ns.map V.int)->HOk P w H s₁.heap->(∀ b,H b≠none->b=a)->(H a≠none->K.lookup a=none) ->
   codeAny (model P w) callerA (.call (.ref fa) ⟨[.ref a],[]⟩) (fun r s'=>r=.ok (.ret (.bool true))/\OldK s₁.heap s'.heap/\s'.os=s₁.os/\AllBare s'.gens) s₁:=by
  intro H hO hS hok hA hK
  have base_of:∀ {b:Addr}{o:Obj},s₁.heap.get? b=some o->H b=none->(Z5 s₁.heap H).get? b=some o:=fun e n=>zEk e n
  have noA:∀ {b:Addr}{o:Obj}{es:Array DictEntry}{ep:Nat},s₁.heap.get? b=some o->o.data=.dict es ep->H b=none:=fun {b o es ep} e d=>by
   cases q:H b with
   | none=>rfl
   | some u =>
    have e':b=a:=hA b (by rw[q];simp)
    subst e'
    rw[ha] at e;cases e
    have d':Data.seq vs.toArray _=Data.dict es ep:=d
    cases d'
  have nsK:∀ {b:Addr}{m:Str->Option Value},s₁.heap.Ns b m->(Z5 s₁.heap H).Ns b m:=fun {b m} ⟨o,es,ep,e,d,r⟩=>⟨o,es,ep,base_of e (noA e d),d,r⟩
  have hKb:K.In (Z5 s₁.heap H):=fun b o e=>base_of (KX b o e) (by
   cases q:H b with
   | none=>rfl
   | some u =>
    have e':b=a:=hA b (by rw[q];simp)
    subst e'
    rw[hK (by rw[q];simp)] at e;cases e)
  have hM:Mod K mg (Z5 s₁.heap H):=⟨hKb,nsK hns,⟨mb,nsK hb,hbb⟩,let ⟨mc,h1,h2⟩:=hlim;⟨mc,nsK h1,h2⟩⟩
  have e0:zC5 P w K mg (Z5 s₁.heap H) callerA [] s₁ H:=⟨rfl,hM,fun b o e=>zGh e,Nat.le_of_eq (zEL _ _),trivial,fun b hb=>absurd (show b∈([]:List Addr) from hb) (by simp),hok,.of_eq hg⟩
  refine codeAny_mono ((F _ hKb (nsK hns)).run callerA [] s₁ H ⟨[.ref a],[]⟩ [.ref a] [.ref a] _ _ hr e0 (.inr ⟨x,List.mem_singleton.mpr rfl,hT⟩) (hbind s₁ (.ref a)) (.cons rfl .nil) (hsp H hO hS)) fun r s' h=>?_
  cases r with
  | error e=>exact (hCX H e s' h).elim
  | ok fl =>
   cases fl with
   | next=>exact False.elim h
   | brk=>exact False.elim h
   | cont=>exact False.elim h
   | ret u =>
    obtain⟨v,H',os,bare,un,hok',r',q⟩:=h
    have q':v=.bl true:=q
    subst q'
    obtain rfl:u=Value.bool true:=r'
    refine⟨rfl,OldK.of_keep fun b o e=>?_,os,bare⟩
    cases q:H b with
    | none=>exact un.keep b o e q (by intro z;exact absurd (show b∈([]:List Addr) from z) (by simp)) (by simp)
    | some u =>
     rcases hO b with z | ⟨ob,xs,z⟩
     ·rw[q] at z;cases z
     ·have z2:=un.frzs b ob _ z
      obtain⟨e1,_⟩:=hok b _ z
      obtain⟨e2,_⟩:=hok' b _ z2
      rw[e] at e1;cases e1
      exact e2
 cases hk:K.lookup a with
 | some o =>
  have e:=KX a o hk
  rw[ha] at e
  cases e
  refine core (fun _=>none) (fun _=>.inl rfl) (.inr ⟨_,vs.toArray,_,hk,rfl,rfl,rfl,by rw[List.size_toArray,lenV];exact hl,by simpa using rv⟩) (fun b u z=>by have z':(none:Option HO)=some u:=z;cases z') (fun b z=>absurd rfl z) fun z=>absurd rfl z
 | none =>
  refine core (fun b=>if b=a then some (.frz { cls:=.type "list",data:=.seq vs.toArray } (.lst (ns.map V.int))) else none) (fun b=>?_) (.inl (.inr ⟨{ cls:=.type "list",data:=.seq vs.toArray },if_pos rfl⟩)) (fun b u z=>?_) (fun b z=>?_) fun _=>hk
  ·by_cases hb:b=a
   ·exact .inr ⟨_,_,if_pos hb⟩
   ·exact .inl (if_neg hb)
  ·by_cases hb:b=a
   ·have z':=(if_pos hb).symm.trans z
    cases z'
    subst hb
    exact⟨ha,by rw[List.length_map];exact hl,vs,_,rv,ha⟩
   ·have z':=(if_neg hb).symm.trans z
    cases z'
  ·by_cases hb:b=a
   ·exact hb
   ·exact absurd (if_neg hb) z
end L2
namespace L2
open PySem PySem.Spec PyProof.Rows
theorem zGV {l:PySem.W.OpenLaw}{n k:Nat}{q:Program}{loose:List Str}{XP:(Str->Option Value)->Heap->Prop}{YP:World->Heap->Prop}{d:DefRec}{K:Params->PySem.W.Frag}{CX:World->CXT}{sp:World->Sp}{x:Str}
  (hn:l.most=some n) (hn2:n <= sizeLine) (hdf:d.params.defaults=[]) (hr:zm k callerA)
  (hY:∀ (w:World) (h:Heap),YP w h->(K w.params).In h)
  (F:∀ (w:World) (mg:Str->Option Value) (fa:Addr) (h:Heap),(K w.params).In h->h.Ns mainGlobals mg->mg d.name=some (.ref fa) ->
   ∃ fd:FuncData,(∀ (s:Shared) (u:Value),BindsTo s fd ⟨[u],[]⟩ [(x,u)])/\fd.scope.names.lookup x=some .local /\
    ∀ base:Heap,(K w.params).In base->base.Ns mainGlobals mg->jM l.prog w (K w.params) mg base (CX w) k fa fd [x] (sp w))
  (hsp:∀ (w:World) (H:Hp) (a:Addr) (ns:List Int),ns.length <= n->zC9 H->SqL (K w.params) H a (ns.map V.int)->sp w [.ref a] H (fun v _=>v=.bl true) fun _ _ _=>False)
  (hCX:∀ (w:World) (H:Hp) (s:Shared) (e:Value) (s':Shared),CX w [] H s (fun _ _ _=>False) e s'->False) :
  PySem.W.WalkO q loose XP YP l.row.toRowW d [] (fun f vs=>PySem.call f vs):=by
 refine Att.zB9 hn hdf fun w s₀ s₁ mg mb fa o pm cd doc a vs ns G Y ho hd hcd hmg hobj hints hlen hg=>?_
 have KX:=hY w _ Y
 obtain⟨fd,hb,hT,hF⟩:=F w mg fa _ KX G.T.g hmg
 exact zEw KX G.T.g G.T.b G.T.builtins G.T.nolimit hg hobj hints (Nat.le_trans hlen hn2) hr hF hT hb (fun H hO hS=>hsp w H a ns hlen hO hS) fun H e s'=>hCX w H s₁ e s'
end L2
namespace L2
open PySem PySem.Spec PyProof.Rows
noncomputable def z9 (s:Stmt):Arguments:=match s with
 | .FunctionDef _ a _ _ _ _ _ _ _ _=>a
 | _=>{ posonlyargs:=[],args:=[],vararg:=none,kwonlyargs:=[],kw_defaults:=[],kwarg:=none,defaults:=[] }
noncomputable def zl (s:Stmt):List Stmt:=match s with
 | .FunctionDef _ _ b _ _ _ _ _ _ _=>b
 | _=>[]
noncomputable def zG (s:Stmt):Scope:=match s with
 | .FunctionDef _ _ _ _ _ _ sc _ _ _=>sc
 | _=>{ kind:=.function,names:=[],isGenerator:=false,isCoroutine:=false }
noncomputable abbrev CX0:CXT:=fun _ _ _ _ _ _=>False
noncomputable abbrev E0:XK:=fun _ _ _=>False
theorem Qk {X:Cx}:yH CX0 X E0:=fun _ _ _ _ _ _ _ h=>h.elim
structure Fun (K:PySem.W.Frag) (x qual:Str) (st:Stmt) (f:Addr) (fd:FuncData):Prop where
 ex:∃ (oc:Value) (od:Option Addr) (kV doc pm:Value) (an:Option Addr) (cdv ct:Value) (osl:Array (Option Value)),
  fd=PySem.W.fnOf x qual (z9 st) (zl st) (zG st) .none kV doc pm an cdv ct/\K.lookup f=some ⟨oc,od,.func fd,osl⟩/\PySem.W.codeIn K cdv qual=true
 kp:PySem.W.keepIn K (.ref f)=true
section
variable {P:Program}{w:World}{K:PySem.W.Frag}{mg:Str->Option Value}{base:Heap}
theorem Fun.ok {x qual:Str}{st:Stmt}{f:Addr}{fd:FuncData}{N ps:List Str}{k:Nat}{sp:Sp} (F:Fun K x qual st f fd) (S:zy N ps (zG st)) (len:∀ vs H Q E,sp vs H Q E->vs.length=ps.length)
  (hbody:∀ (cdv:Value) (A:Around) (outer:List Env) (s:Shared) (H:Hp) (vs:List V) (Q:VK) (E:XK),zm k (A.deeper (envOfC qual (zG st) s.heap.objs.size f cdv))->sp vs H Q E ->
   ∃ t,PSs (yi CX0 P w K mg base N qual (zG st) f cdv A outer s H E).nox (zl st) t/\t { nx:=fun _ H'=>Q .non H',rt:=Q } (qJ N vs) H):jM P w K mg base CX0 (k+1) f fd ps sp:=by
 obtain⟨oc,od,kV,doc,pm,an,cdv,ct,osl,rfl,lk,hcd⟩:=F.ex
 refine zIk lk hcd S len fun A outer s H vs Q E hr hsp=>?_
 obtain⟨t,h,q⟩:=hbody cdv A outer s H vs Q E hr hsp
 exact⟨t,h.nox,q⟩
theorem Fun.binds {x qual:Str}{st:Stmt}{f:Addr}{fd:FuncData}{ps:List Str} (F:Fun K x qual st f fd)
  (h:∀ (kV doc pm:Value) (an:Option Addr) (cdv ct:Value) (us:List Value),us.length=ps.length->bindArgs (PySem.W.fnOf x qual (z9 st) (zl st) (zG st) .none kV doc pm an cdv ct) ⟨us,[]⟩=pure (ps.zip us)):Zc K fd ps []:=by
 obtain⟨oc,od,kV,doc,pm,an,cdv,ct,osl,rfl,lk,hcd⟩:=F.ex
 exact .all (h kV doc pm an cdv ct)
theorem jx {x qual:Str}{st:Stmt}{f:Addr}{oc:Value}{od an:Option Addr}{osl:Array (Option Value)}{kV doc pm cdv ct:Value} (l:K.lookup f=some ⟨oc,od,.func (PySem.W.fnOf x qual (z9 st) (zl st) (zG st) .none kV doc pm an cdv ct),osl⟩)
  (c:PySem.W.codeIn K cdv qual=true) (k:PySem.W.keepIn K (.ref f)=true):Fun K x qual st f (PySem.W.fnOf x qual (z9 st) (zl st) (zG st) .none kV doc pm an cdv ct):=⟨⟨oc,od,kV,doc,pm,an,cdv,ct,osl,rfl,l,c⟩,k⟩
end
theorem zFw {A:Around}{k:Nat} (hr:zm k A):A.units+1 < cLine:=Nat.lt_of_le_of_lt (Nat.add_le_add_left (by decide:1 <= 64) _) hr.units
theorem zCs {A B:Prop} (h:B):if false=true then A else B:=by
 rw[if_neg Bool.false_ne_true]
 exact h
theorem zCv {A B:Prop} (h:A):if true=true then A else B:=by
 rw[if_pos rfl]
 exact h
end L2
namespace L2
open PySem PySem.Spec PyProof.Rows
section
variable {X:Cx}
theorem zEW:z8 X (.builtin "len") (fun xs H Q=>∃ a kvs,xs=[V.ref a]/\H a=some (.dK kvs)/\Q (.int kvs.length) H):=by
 intro pins s σ H xs us Q I r h
 obtain⟨a,kvs,rfl,ha,q⟩:=h
 obtain⟨u,rfl,ru⟩:=yK r
 cases ru
 exact zIc I (.inl ha) fun t s' I'=>⟨.int kvs.length,H,I',⟨t,rfl⟩,q⟩
end
end L2
set_option maxHeartbeats 4000000
namespace L2
open PySem PySem.Spec PyProof.Rows
noncomputable abbrev zQ (X:Cx) (vars:List Str) (scope:Scope) (cl:List (Str×Addr)) (C:Addr) (fp:List Addr) (s₂:Shared) (H₂:Hp):Cx where
 prog:=X.prog
 w:=X.w
 K:=X.K
 mg:=X.mg
 base:=X.base
 A:=X.A
 N:=X.N++vars
 s₀:=s₂
 H₀:=H₂
 env:=compEnvC scope cl C X.env
 outer:=X.stack
 stack:=X.stack
 ex:=fp
 fn:=fun _=>false
 calm:=X.calm
 pn:=[]
 xe:=fun _ _=>False
noncomputable def Zt (cells:List (Str×Addr)):List (Str×Addr)->Prop
 | []=>True
 | p::r=>cells.lookup p.1=some p.2/\Zt cells r
theorem Zt.get {cells:List (Str×Addr)}:∀ {cl:List (Str×Addr)}{x:Str}{c:Addr},Zt cells cl->cl.lookup x=some c->cells.lookup x=some c
 | [],_,_,_,e=>by simp at e
 | (y,d)::r,x,c,h,e=>by
  cases hx:x == y with
  | true =>
   simp only[List.lookup_cons,hx] at e
   have e1:x=y:=eq_of_beq hx
   subst e1
   rw[<- e]
   exact h.1
  | false =>
   simp only[List.lookup_cons,hx] at e
   exact Zt.get h.2 e
noncomputable def okK (on:List (Str×NameKind)) (vars:List Str) (cl:List (Str×Addr)) (x:Str):NameKind->Bool
 | .local=>x == (".0" : Str) || vars.contains x
 | .cell=>false
 | .free=>(cl.lookup x).isSome && (on.lookup x == some .cell || on.lookup x == some .free)
 | _=>true
structure zq (X:Cx) (vars:List Str) (scope:Scope) (cl:List (Str×Addr)):Prop where
 kind:scope.kind=.function
 clos:closureFor scope X.env=pure cl
 dis:(vars.all fun x=>!X.N.contains x)=true
 zero:X.N.contains (".0" : Str)=false
 names:∀ y∈scope.names,y.2=.local->scope.names.lookup y.1=some .local
 cells:Zt X.env.cells cl
 ok:(scope.names.all fun p=>okK X.env.scope.names vars cl p.1 p.2)=true
theorem yZ {env:Env}{x:Str}:∀ {names:List (Str×NameKind)},
  (names.map fun (n,k)=>if (k == NameKind.free && env.scope.kind == .function && env.kindOf n == some .cell) then (n,NameKind.cell) else (n,k)).lookup x =
   (names.lookup x).map fun k=>if (k == NameKind.free && env.scope.kind == .function && env.kindOf x == some .cell) then NameKind.cell else k
 | []=>rfl
 | (n,k)::r=>by
  have ih:=@yZ env x r
  show List.lookup x ((if (k == NameKind.free && env.scope.kind == .function && env.kindOf n == some .cell)=true then (n,NameKind.cell) else (n,k))::_)=_
  cases hx:x == n with
  | true =>
   have e:x=n:=eq_of_beq hx
   subst e
   by_cases hc:(k == NameKind.free && env.scope.kind == .function && env.kindOf x == some .cell)=true
   ·rw[if_pos hc];simp only[List.lookup_cons,hx,Option.map_some,if_pos hc]
   ·rw[if_neg hc];simp only[List.lookup_cons,hx,Option.map_some,if_neg hc]
  | false =>
   by_cases hc:(k == NameKind.free && env.scope.kind == .function && env.kindOf n == some .cell)=true
   ·rw[if_pos hc];simp only[List.lookup_cons,hx];exact ih
   ·rw[if_neg hc];simp only[List.lookup_cons,hx];exact ih
section
variable {X:Cx}{vars:List Str}{scope:Scope}{cl:List (Str×Addr)}{C D:Addr}{fp:List Addr}{s₂:Shared}{H:Hp}{pins:List (Addr×Obj)}{σ:St}
theorem zq.okAt (S:zq X vars scope cl) {x:Str}{k:NameKind} (h:scope.names.lookup x=some k):okK X.env.scope.names vars cl x k=true:=by
 have:=List.all_eq_true.mp S.ok (x,k) (PySem.mem_of_lookup h)
 exact this
theorem zq.noCell (S:zq X vars scope cl):∀ y∈scope.names,y.2≠.cell:=fun y hy e=>by
 have h:=List.all_eq_true.mp S.ok y hy
 rw[e] at h
 exact absurd (show false=true from h) Bool.false_ne_true
theorem zq.freeOf (S:zq X vars scope cl) {x:Str} (h:(compEnvC scope cl C X.env).kindOf x=some .cell\/(compEnvC scope cl C X.env).kindOf x=some .free):scope.names.lookup x=some .free:=by
 have e:(compEnvC scope cl C X.env).kindOf x=(scope.names.lookup x).map fun k=>if (k == NameKind.free && X.env.scope.kind == .function && X.env.kindOf x == some .cell) then NameKind.cell else k:=yZ
 rw[e] at h
 cases q:scope.names.lookup x with
 | none=>rw[q] at h;simp at h
 | some k =>
  rw[q] at h
  by_cases hk:k=.free
  ·rw[hk]
  ·have hb:(k == NameKind.free)=false:=by simpa using hk
   simp only[Option.map_some,hb,Bool.false_and,Bool.false_eq_true,if_false,Option.some.injEq] at h
   rcases h with h | h
   ·subst h
    exact absurd rfl (S.noCell (x,.cell) (PySem.mem_of_lookup q))
   ·exact absurd h hk
theorem zq.localOf (S:zq X vars scope cl) {x:Str} (h:(compEnvC scope cl C X.env).kindOf x=some .local):scope.names.lookup x=some .local:=by
 have e:(compEnvC scope cl C X.env).kindOf x=(scope.names.lookup x).map fun k=>if (k == NameKind.free && X.env.scope.kind == .function && X.env.kindOf x == some .cell) then NameKind.cell else k:=yZ
 rw[e] at h
 cases q:scope.names.lookup x with
 | none=>rw[q] at h;simp at h
 | some k =>
  rw[q] at h
  simp only[Option.map_some,Option.some.injEq] at h
  split at h
  ·cases h
  ·rw[h]
theorem zDM (I:Inv X pins σ H s₂) (S:zq X vars scope cl) (hf:∀ b∈fp,Z9 X pins H b) (hob:∀ b∈fp,∃ o,s₂.heap.get? b=some o)
  {h₁:Heap}{tk:Nat} (hD:s₂.heap.objs.size <= D) (hC:s₂.heap.objs.size <= C) (hDC:D≠C) {oD:Obj} (eD:h₁.get? D=some oD) (cD:∀ v,oD.data≠.cell v) {m:Str->Option Value} (hn:h₁.Ns C m)
  (old:∀ b o,s₂.heap.get? b=some o->h₁.get? b=some o) (ht:0 < tk:=by first | exact Nat.succ_pos _ | assumption | exact Inv.tk (by assumption) | omega) :
  Inv (zQ X vars scope cl C fp s₂ H) [(D,oD)] (σ++List.replicate vars.length none) H { s₂ with heap:=h₁,toks:=tk }:=by
 have fpst:∀ b∈fp,b∉frs X.stack:=fun b hb z=>by
  rcases List.mem_cons.mp (I.stkSub b z) with e | e
  ·exact (hf b hb).2.1 e
  ·exact (hf b hb).2.2.1 e
 have cget:∀ x c,cl.lookup x=some c->X.env.cells.lookup x=some c:=fun x c e=>S.cells.get e
 have fpl:∀ b∈fp,b < s₂.heap.objs.size:=fun b hb=>by
  obtain⟨o,e⟩:=hob b hb
  exact Heap.lt_size e
 have ok:(zQ X vars scope cl C fp s₂ H).Ok:=by
  refine⟨I.ok.mod,S.kind,I.ok.glob,I.ok.blt,hC,fun x y c h1 h2=>I.ok.inj x y c (cget x c h1) (cget y c h2),fun x hx=>?_,fun x c h _=>absurd (show false=true from h) Bool.false_ne_true,I.ok.hd,I.ok.frames,.inl rfl,
   fun b hb=>⟨Nat.ne_of_lt (Nat.lt_of_lt_of_le (fpl b hb) hC),fun x c e z=>(hf b hb).2.2.2.2.1 x c (cget x c e) z⟩,I.bs,Nat.le_trans I.ok.bsz I.sz,fun b o e hb=>?_,fpst,I.stack,I.stkFree⟩
  ·have q:=S.okAt (S.freeOf (C:=C) hx)
   have q1:((cl.lookup x).isSome && (X.env.scope.names.lookup x == some .cell || X.env.scope.names.lookup x == some .free))=true:=q
   rw[Bool.and_eq_true] at q1
   exact Option.isSome_iff_exists.mp q1.1
  ·rcases (hf b hb).2.2.2.1 with z | z
   ·exact I.ok.noex b o e z
   ·exact absurd (Nat.lt_of_lt_of_le (Heap.lt_size e) (Nat.le_trans I.ok.bsz z)) (Nat.lt_irrefl _)
 have nst:D∉frs X.stack:=fun z=>by
  rcases List.mem_cons.mp (I.stkSub D z) with e | e
  ·exact absurd (Nat.lt_of_lt_of_le (e ▸ I.lt) hD) (Nat.lt_irrefl _)
  ·exact I.nofs hD e
 refine⟨ok,rfl,I.bare,Un.kept old,⟨m,hn,fun i x v h1 h2 h3=>?_⟩,fun x c e=>?_,I.hok.fresh hC,fun x c e=>I.freeC x c (cget x c e),fun p hp=>?_,I.hok.kept old,?_,ht⟩
 ·have hlen:=I.len
  have h1':(X.N++vars)[i]? = some x:=h1
  by_cases hi:i < σ.length
  ·rw[List.getElem?_append_left (by omega)] at h1'
   rw[List.getElem?_append_left hi] at h2
   have inN:X.N.contains x=true:=by
    rw[List.contains_iff_exists_mem_beq]
    exact⟨x,List.mem_of_getElem? h1',by simp⟩
   have hk:(compEnvC scope cl C X.env).kindOf x=some .cell\/(compEnvC scope cl C X.env).kindOf x=some .free:=by
    rcases h3 with h3 | h3
    ·have q:=S.okAt (S.localOf (C:=C) h3)
     have q1:(x == (".0" : Str) || vars.contains x)=true:=q
     rw[Bool.or_eq_true] at q1
     rcases q1 with q1 | q1
     ·have e0:x=(".0" : Str):=eq_of_beq q1
      rw[e0,S.zero] at inN
      cases inN
     ·have q2:=List.all_eq_true.mp S.dis x (by simpa using q1)
      rw[inN] at q2
      cases q2
    ·exact h3
   have q:=S.okAt (S.freeOf (C:=C) hk)
   have q1:((cl.lookup x).isSome && (X.env.scope.names.lookup x == some .cell || X.env.scope.names.lookup x == some .free))=true:=q
   rw[Bool.and_eq_true,Bool.or_eq_true] at q1
   obtain⟨c,hc⟩:=Option.isSome_iff_exists.mp q1.1
   have ho:X.env.scope.names.lookup x=some .cell\/X.env.scope.names.lookup x=some .free:=by
    rcases q1.2 with z | z
    ·exact .inl (eq_of_beq z)
    ·exact .inr (eq_of_beq z)
   obtain⟨m0,_,hl⟩:=I.loc
   obtain⟨u,r,l⟩:=hl i x v h1' h2 (.inr ho)
   refine⟨u,r,.inr ⟨hk,c,hc,?_⟩⟩
   rcases l with ⟨l1,_⟩ | ⟨_,c',e',o,eo,ed⟩
   ·have l2:X.env.scope.names.lookup x=some .local:=l1
    rcases ho with z | z
    ·rw[l2] at z;cases z
    ·rw[l2] at z;cases z
   ·rw[cget x c hc] at e'
    cases e'
    exact⟨o,old _ _ eo,ed⟩
  ·rw[List.getElem?_append_right (by omega),List.getElem?_replicate] at h2
   split at h2<;>cases h2
 ·obtain⟨v,o,eo,ed⟩:=I.cell x c (cget x c e)
  exact⟨v,o,old _ _ eo,ed⟩
 ·have e:p=(D,oD):=by simpa using hp
  subst e
  exact⟨eD,I.hok.fresh hD,hDC,nst,cD⟩
 ·show (σ++List.replicate vars.length none).length=(X.N++vars).length
  rw[List.length_append,List.length_append,List.length_replicate,I.len]
end
noncomputable def yn (X:Cx) (ifs:List Expr) (t:TT):Prop :=
 ∀ (pins:List (Addr×Obj)) (s:Shared) (σ:St) (H:Hp) (Q:Bool->Hp->Prop),Inv X pins σ H s->t σ H Q ->
  wpAny (model X.prog X.w) X.A (forIn ifs true fun c r=>if r=true then do let ok <- isTrue c X.env (eval c X.env);pure (ForInStep.yield ok) else pure (ForInStep.yield r)) (TP X pins σ Q) X.xe s
noncomputable def qu:TT:=fun _ H Q=>Q true H
theorem zEh {X:Cx}:yn X [] qu:=fun _ _ _ H _ I h=>wpAny_tests_nil ⟨H,I,h⟩
theorem zFP {X:Cx}{c:Expr}{t:TT} (h:PT X c t):yn X [c] t:=fun pins s σ H Q I hw=>wpAny_tests_one (h pins s σ H Q I hw)
noncomputable def Wk (σ σ':St):Prop:=σ.length=σ'.length/\∀ (i:Nat) v,σ[i]? = some (some v)->σ'[i]? = some (some v)
noncomputable def zDU (n:Nat) (wi:TI) (g:TG) (ti:TT) (te:TE):TE:=fun σ H Q=>wi σ H fun J H1=>∃ W:Nat->Nat->List V->Hp->Prop,(∃ m,W 0 m [] H1)/\∀ i m ys H2,W i m ys H2->ys.length <= sizeLine /\
 ((J.stop i H2/\∀ D,H2 D=none->Q (.ref D) (upd H2 D (.lst ys))) \/
  (J.go i H2/\∀ x H3,J.yld i H2 x H3->g x (σ++List.replicate n none) H3 fun σ2 H4=>Wk (σ++List.replicate n none) σ2/\ti σ2 H4 fun b H5 =>
   if b=true then te σ2 H5 fun y H6=>∃ m',m' < m/\W (i+1) m' (ys++[y]) H6 else ∃ m',m' < m/\W (i+1) m' ys H5))
theorem Inv.track {X:Cx}{pins:List (Addr×Obj)}{σ:St}{H:Hp}{s:Shared}{D:Addr}{o:HO} (I:Inv X pins σ H s) (hD:X.s₀.heap.objs.size <= D) (hn:H D=none) (hL:D≠X.env.locals)
  (hcl:∀ x c,X.env.cells.lookup x=some c->c≠D) (hp:∀ p∈X.pn++pins,p.1≠D) (new:jE X.prog X.w (upd H D o) s.heap D o):Inv X pins σ (upd H D o) s:=by
 have ne:∀ {b u},H b=some u->b≠D:=fun e z=>by rw[z,hn] at e;cases e
 refine⟨I.ok,I.os,I.bare,⟨I.base.keep,I.base.slot,fun b ob e n hx=>?_,I.base.there,fun b xs e=>?_,fun b ob u e=>?_,fun b ps e=>?_⟩,I.loc,I.cell,?_,fun x c e=>?_,fun p hp'=>?_,fun b u e=>?_,I.len,I.tk⟩
 ·rw[zg (Nat.ne_of_lt (Nat.lt_of_lt_of_le (Heap.lt_size e) hD))]
  exact I.base.free b ob e n hx
 ·have q:=I.base.tups b xs e
  rw[zg (ne q)];exact q
 ·have q:=I.base.frzs b ob u e
  rw[zg (ne q)];exact q
 ·obtain⟨mo,q⟩:=I.base.tbls b ps e
  exact⟨mo,by rw[zg (ne q)];exact q⟩
 ·rw[zg (Ne.symm hL)];exact I.free
 ·rw[zg (hcl x c e)];exact I.freeC x c e
 ·obtain⟨e1,e2,e3,e4,e5⟩:=I.pin p hp'
  exact⟨e1,by rw[zg (hp p hp')];exact e2,e3,e4,e5⟩
 ·by_cases hb:b=D
  ·subst hb;rw[jm] at e;cases e;exact new
  ·rw[zg hb] at e
   exact (I.hok b u e).stay (fun _ _ _ q=>q) (fun c q=>by rw[zg (ne q)];exact q) fun c xs q=>by rw[zg (ne q)];exact q
noncomputable abbrev QA (us:List Value) (n:Nat):Obj:={ cls:=.type "list",data:=.seq us.toArray n }
section
variable {X:Cx}{vars:List Str}{scope:Scope}{cl:List (Str×Addr)}{C D it:Addr}{fp:List Addr}{s₂:Shared}{H₂:Hp}{tg elt iter:Expr}{ifs:List Expr}{pos:Pos}{J:It}{tn:Nat->Heap->Prop}
 {g:TG}{ti:TT}{te:TE}{R:Result->Shared->Prop}
theorem zD5 (hc:X.calm=true) (T:JB X.prog X.w X.K tg J fp it tn) (hg:PG (zQ X vars scope cl C fp s₂ H₂) tg g) (hi:yn (zQ X vars scope cl C fp s₂ H₂) ifs ti) (he:PE (zQ X vars scope cl C fp s₂ H₂) elt te)
  {σ0:St} (W:Nat->Nat->List V->Hp->Prop) {F:List V->Hp->Prop} (hD0:s₂.heap.objs.size <= D) (hDC:D≠C) (hDs:D∉frs X.stack) (hDc:∀ x c,cl.lookup x=some c->c≠D)
  (hS:∀ b∈fp,b≠C/\b∉frs X.stack/\(∀ x c,cl.lookup x=some c->c≠b)/\D≠b)
  (turn:∀ i m ys H2,W i m ys H2->ys.length <= sizeLine/\((J.stop i H2/\F ys H2) \/
   (J.go i H2/\∀ x H3,J.yld i H2 x H3->g x σ0 H3 fun σ2 H4=>Wk σ0 σ2/\ti σ2 H4 fun b H5 =>
    if b=true then te σ2 H5 fun y H6=>∃ m',m' < m/\W (i+1) m' (ys++[y]) H6 else ∃ m',m' < m/\W (i+1) m' ys H5)))
  (hR:∀ s' ys us n H2,Inv (zQ X vars scope cl C fp s₂ H₂) [(D,QA us n)] σ0 H2 s'->zJ ys us->ys.length <= sizeLine->F ys H2->R (.ok .next) s')
  {s:Shared}{m0:Nat}{n0:Nat}{H0:Hp} (I0:Inv (zQ X vars scope cl C fp s₂ H₂) [(D,QA [] n0)] σ0 H0 s) (st0:tn 0 s.heap) (f0:∀ b∈fp,H0 b=none) (w0:W 0 m0 [] H0) :
  codeAny (model X.prog X.w) X.A (.compLoop (.ListComp elt [⟨tg,iter,ifs,0⟩] scope pos) 0 (.ref it) (.ref D) (compEnvC scope cl C X.env)) R s:=by
 have stat:∀ {H':Hp}{o:Obj},(∀ b∈fp,H' b=none)->∀ b∈fp,Z9 (zQ X vars scope cl C fp s₂ H₂) [(D,o)] H' b:=fun {H' o} hn b hb =>
  ⟨hn b hb,(hS b hb).1,(hS b hb).2.1,.inl hb,(hS b hb).2.2.1,fun p hp=>by
   have e:p=(D,o):=by simpa using hp
   subst e
   exact (hS b hb).2.2.2⟩
 refine codeAny_loop rfl (fun n s=>∃ i ys us nn H',Inv (zQ X vars scope cl C fp s₂ H₂) [(D,QA us nn)] σ0 H' s/\zJ ys us/\tn i s.heap/\(∀ b∈fp,H' b=none)/\W i n ys H') (fun n s hI=>?_) m0 ⟨0,[],[],n0,H0,I0,.nil,st0,f0,w0⟩
 show wpAny _ X.A ((compTurn (.ListComp elt [⟨tg,iter,ifs,0⟩] scope pos) 0 (.ref it) (.ref D) (compEnvC scope cl C X.env)).onRaise (fun x=>do noteFrame x (compEnvC scope cl C X.env);theTreesLotGoes x)) _ _ s
 refine wpAny_noted ?_
 rw[compTurn_list]
 obtain⟨i,ys,us,nn,H',I,rv,st,fr,w⟩:=hI
 obtain⟨hz,tt⟩:=turn i n ys H' w
 refine wpAny_bind (wpAny_standAt (wpAny_bind ?_))
 rcases tt with ⟨stop,q⟩ | ⟨go,q⟩
 ·refine wpAny_mono (T.done (zQ X vars scope cl C fp s₂ H₂) rfl rfl rfl hc i _ s σ0 H' _ I (stat fr) st stop) (fun r s1 ⟨hr,I1⟩=>?_) (fun _ _ e=>e)
  subst hr
  exact wpAny_pure (hR s1 ys us nn H' I1 rv hz q)
 ·refine wpAny_mono (T.item (zQ X vars scope cl C fp s₂ H₂) rfl rfl rfl hc i _ s σ0 H' _ I (stat fr) st go) (fun r s1 ⟨u,hr,h1⟩=>?_) (fun _ _ e=>e)
  subst hr
  refine wpAny_bind (wpAny_mono h1 (fun _ s2 ⟨x,H3,I3,r3,y3,st3,fr3⟩=>?_) (fun _ _ e=>e))
  have I3':=I3.pinned (stat fr3) (T.obj _ _ st3)
  refine wpAny_bind (wpAny_mono (hg _ s2 σ0 H3 x u _ I3' r3 (q x H3 y3)) (fun _ s3 ⟨σ4,H4,I4,wk,q4⟩=>?_) (fun _ _ f=>False.elim f))
  refine wpAny_bind (wpAny_mono (hi _ s3 σ4 H4 _ I4 q4) (fun b s4 ⟨H5,I5,q5⟩=>?_) (fun _ _ f=>False.elim f))
  have back:∀ {s7:Shared}{H7:Hp}{o:Obj},Inv (zQ X vars scope cl C fp s₂ H₂) ((D,o)::qg fp s2.heap) σ4 H7 s7->tn (i+1) s7.heap/\∀ b∈fp,H7 b=none:=fun {s7 H7 o} I7=>by
   refine⟨T.keep _ _ _ st3 fun b hb ob e=>(I7.pin (b,ob) (List.mem_append_right _ (List.mem_cons_of_mem _ (y6 hb e)))).1,fun b hb=>?_⟩
   obtain⟨ob,e,d⟩:=T.obj _ _ st3 b hb
   exact (I7.pin (b,ob) (List.mem_append_right _ (List.mem_cons_of_mem _ (y6 hb e)))).2.1
  have one:∀ {s7:Shared}{H7:Hp}{o:Obj},Inv (zQ X vars scope cl C fp s₂ H₂) ((D,o)::qg fp s2.heap) σ4 H7 s7->Inv (zQ X vars scope cl C fp s₂ H₂) [(D,o)] σ0 H7 s7:=fun {s7 H7 o} I7 =>
   (I7.pins_of (pins':=[(D,o)]) fun p hp=>by
    have e:p=(D,o):=by simpa using hp
    subst e
    exact I7.pin (D,o) (List.mem_append_right _ List.mem_cons_self)).weak wk.1 wk.2
  cases b with
  | false =>
   obtain⟨m',hm,w'⟩:=q5
   obtain⟨b1,b2⟩:=back I5
   exact wpAny_pure ⟨rfl,m',hm,i+1,ys,us,nn,H5,one I5,rv,b1,b2,w'⟩
  | true =>
   refine wpAny_bind (wpAny_bind (wpAny_mono (he _ s4 σ4 H5 _ I5 q5) (fun v s5 ⟨y,H6,I6,r6,q6⟩=>?_) (fun _ _ f=>False.elim f)))
   obtain⟨m',hm,w'⟩:=q6
   obtain⟨eD,nD,_,_,_⟩:=I6.pin (D,QA us nn) (List.mem_append_right _ List.mem_cons_self)
   have hul:us.toArray.size <= sizeLine:=by rw[List.size_toArray,<- rv.length];exact hz
   refine wpAny_bind (wpAny_list_append_plain (hsz:=hul) ⟨nn,eD⟩ fun h' hp hs=>wpAny_pure (wpAny_pure ⟨rfl,?_⟩))
   obtain⟨n',hp⟩:=hp
   have hp':h'.get? D=some (QA (us++[v]) n'):=by rw[hp];simp
   have I7:Inv (zQ X vars scope cl C fp s₂ H₂) (qg fp s2.heap) σ4 H6 { s5 with heap:=h',toks:=s5.toks }:=by
    refine Inv.turned (it:=D) (I6.pins_of (pins':=qg fp s2.heap) fun p hp=>I6.pin p (List.mem_append_right _ (List.mem_cons_of_mem _ hp))) (fun b o hb e=>(hs.2 b hb).trans e) nD hDC (.inr hD0) (fun x c e=>hDc x c e) fun p hp=>?_
    have hp2:p∈qg fp s2.heap:=by simpa using hp
    exact Ne.symm (hS p.1 (zAc hp2).1).2.2.2
   have I8:Inv (zQ X vars scope cl C fp s₂ H₂) ((D,QA (us++[v]) n')::qg fp s2.heap) σ4 H6 { s5 with heap:=h',toks:=s5.toks }:=I7.pins_of fun p hp=>by
    rcases List.mem_cons.mp hp with rfl | hp
    ·exact⟨hp',nD,hDC,hDs,fun v z=>by cases z⟩
    ·exact I7.pin p (List.mem_append_right _ hp)
   obtain⟨b1,b2⟩:=back I8
   exact⟨m',hm,i+1,ys++[y],us++[v],n',H6,one I8,rv.append (.cons r6 .nil),b1,b2,w'⟩
end
section
variable {X:Cx}{vars:List Str}{scope:Scope}{cl:List (Str×Addr)}{tg elt iter:Expr}{ifs:List Expr}{pos:Pos}{wi:TI}{g:TG}{ti:TT}{te:TE}
theorem zDH (hc:X.calm=true) (S:zq X vars scope cl) (hg:∀ C fp s₂ H₂,PG (zQ X vars scope cl C fp s₂ H₂) tg g) (ht:∀ C fp s₂ H₂,yn (zQ X vars scope cl C fp s₂ H₂) ifs ti)
  (he:∀ C fp s₂ H₂,PE (zQ X vars scope cl C fp s₂ H₂) elt te) {pins:List (Addr×Obj)}{σ:St}{s2:Shared}{E:Value->Shared->Prop}{F:Addr->Hp->Prop}{RR:Value->Addr->Result->Shared->Prop}{itv:Value}
  (h2:PIE X pins σ tg (fun J H1=>∃ W:Nat->Nat->List V->Hp->Prop,(∃ m,W 0 m [] H1)/\∀ i m ys H2,W i m ys H2->ys.length <= sizeLine /\
   ((J.stop i H2/\∀ D,H2 D=none->F D (upd H2 D (.lst ys))) \/
    (J.go i H2/\∀ x H3,J.yld i H2 x H3->g x (σ++List.replicate vars.length none) H3 fun σ2 H4=>Wk (σ++List.replicate vars.length none) σ2/\ti σ2 H4 fun b H5 =>
     if b=true then te σ2 H5 fun y H6=>∃ m',m' < m/\W (i+1) m' (ys++[y]) H6 else ∃ m',m' < m/\W (i+1) m' ys H5))) itv s2)
  (hRR:∀ D C s' H',(∃ m,s'.heap.Ns C m)->C≠X.env.locals->(∀ x c,X.env.cells.lookup x=some c->c≠C)->Inv X pins σ H' s'->(∀ (h':Heap),Heap.SameBut C s'.heap h'->∀ (s'':Shared),s''={ s' with heap:=h' }->Inv X pins σ H' s'') ->
   (∀ (σ':St) (s3:Shared),Inv X pins σ' H' s3->(∃ a,Heap.SameBut a s'.heap s3.heap/\(a=X.env.locals\/∃ x,X.env.cells.lookup x=some a))->∀ (h':Heap),Heap.SameBut C s3.heap h'->Inv X pins σ' H' { s3 with heap:=h' }) ->
   F D H'->RR (.ref D) C (.ok .next) s') :
  wpAny (model X.prog X.w) X.A (newList []) (fun acc s₃=>wpAny (model X.prog X.w) X.A (newFunctionEnv scope X.env.globals cl [] X.env.qual none .none (some X.env)) (fun cenv s₄ =>
   codeAny (model X.prog X.w) X.A (.compStart (.ListComp elt [⟨tg,iter,ifs,0⟩] scope pos) 0 itv acc { cenv with scope:=relabel scope X.env }) (RR acc cenv.locals) s₄) E s₃) E s2:=by
 obtain⟨it,fp,tn,J,H2,e,I2,T,st2,f2,W,⟨m0,w0⟩,turn⟩:=h2
 subst e
 refine wpAny_newObj_type (wpAny_newFunctionEnv S.noCell (by intro y hy;simp at hy) (fun h₁ hns₁ hsb₁=>?_) S.kind)
 dsimp only at hns₁ hsb₁ ⊢
 generalize hH2:s2.heap.push { cls:=.type "list",dict:=none,data:=.seq ([]:List Value).toArray }=P2 at hns₁ hsb₁ ⊢
 have hC:P2.objs.size=s2.heap.objs.size+1:=by rw[<- hH2,Heap.size_push]
 have hDC:s2.heap.objs.size≠P2.objs.size:=by rw[hC];exact Nat.ne_of_lt (Nat.lt_succ_self _)
 have hCle:s2.heap.objs.size <= P2.objs.size:=by rw[hC];exact Nat.le_succ _
 have below:∀ b,b < s2.heap.objs.size->b≠P2.objs.size/\b≠s2.heap.objs.size:=fun b hb=>⟨by rw[hC];exact Nat.ne_of_lt (Nat.lt_succ_of_lt hb),Nat.ne_of_lt hb⟩
 have old:∀ b o,s2.heap.get? b=some o->h₁.get? b=some o:=fun b o e=>hsb₁.extBut b o (below b (Heap.lt_size e)).1 (Heap.get?_push_of_some _ (hH2 ▸ Heap.get?_push_of_some _ e))
 have hacc:h₁.get? s2.heap.objs.size=some (QA [] 0):=hsb₁.extBut _ _ hDC (Heap.get?_push_of_some _ (hH2 ▸ Heap.get?_push_size _ rfl))
 have hst₁:tn 0 h₁:=T.keep _ _ _ st2 fun b _ o e=>old b o e
 have hob:∀ b∈fp,∃ o,s2.heap.get? b=some o:=fun b hb=>by
  obtain⟨o,e,_⟩:=T.obj _ _ st2 b hb
  exact⟨o,e⟩
 have fpl:∀ b∈fp,b < s2.heap.objs.size:=fun b hb=>by
  obtain⟨o,e⟩:=hob b hb
  exact Heap.lt_size e
 have cget:∀ x c,cl.lookup x=some c->X.env.cells.lookup x=some c:=fun x c e=>S.cells.get e
 have celt:∀ x c,X.env.cells.lookup x=some c->c < s2.heap.objs.size:=fun x c e=>by
  obtain⟨v,q⟩:=I2.cell x c e
  exact q.lt
 have pint:∀ p∈X.pn++pins,p.1 < s2.heap.objs.size:=fun p hp=>Heap.lt_size (I2.pin p hp).1
 have fpst:∀ b∈fp,b∉frs X.stack:=fun b hb z=>by
  rcases List.mem_cons.mp (I2.stkSub b z) with e | e
  ·exact (f2 b hb).2.1 e
  ·exact (f2 b hb).2.2.1 e
 have nst:s2.heap.objs.size∉frs X.stack:=fun z=>by
  rcases List.mem_cons.mp (I2.stkSub _ z) with e | e
  ·exact absurd (e ▸ I2.lt) (Nat.lt_irrefl _)
  ·exact I2.nofs (Nat.le_refl _) e
 have CL:P2.objs.size≠X.env.locals:=fun z=>absurd (Nat.lt_of_lt_of_le (z ▸ I2.lt) hCle) (Nat.lt_irrefl _)
 have CC:∀ x c,X.env.cells.lookup x=some c->c≠P2.objs.size:=fun x c e=>Nat.ne_of_lt (Nat.lt_of_lt_of_le (celt x c e) hCle)
 have CP:∀ p∈X.pn++pins,p.1≠P2.objs.size:=fun p hp=>Nat.ne_of_lt (Nat.lt_of_lt_of_le (pint p hp) hCle)
 have loop:∀ s₃:Shared,s₃={ s2 with heap:=h₁,toks:=s2.toks+([]:List (Str×Value)).length } ->
   codeAny (model X.prog X.w) X.A (.compLoop (.ListComp elt [⟨tg,iter,ifs,0⟩] scope pos) 0 (.ref it) (.ref s2.heap.objs.size) (compEnvC scope cl P2.objs.size X.env)) (RR (.ref s2.heap.objs.size) P2.objs.size) s₃:=by
  rintro s₃ rfl
  have I0:Inv (zQ X vars scope cl P2.objs.size fp s2 H2) [(s2.heap.objs.size,QA [] 0)] (σ++List.replicate vars.length none) H2 { s2 with heap:=h₁,toks:=s2.toks+([]:List (Str×Value)).length } :=
   zDM I2 S f2 hob (Nat.le_refl _) hCle hDC hacc (fun v z=>by cases z) hns₁ old
  refine zD5 hc T (hg _ _ _ _) (ht _ _ _ _) (he _ _ _ _) (D:=s2.heap.objs.size) W (F:=fun ys H'=>∀ D,H' D=none->F D (upd H' D (.lst ys))) (Nat.le_refl _) hDC nst (fun x c e=>Nat.ne_of_lt (celt x c (cget x c e)))
   (fun b hb=>⟨(below b (fpl b hb)).1,fpst b hb,fun x c e z=>(f2 b hb).2.2.2.2.1 x c (cget x c e) z,Nat.ne_of_gt (fpl b hb)⟩) turn ?_ I0 hst₁ (fun b hb=>(f2 b hb).1) w0
  intro s' ys us n H' I' rv hz q
  obtain⟨eD,nD,_,_,_⟩:=I'.pin (s2.heap.objs.size,QA us n) (List.mem_append_right _ List.mem_cons_self)
  have J1:Inv X pins σ H' s':=I2.call' I'.os I'.base I'.hok I'.bare (fun b hb=>⟨(f2 b hb).2.2.2.1,(f2 b hb).2.1,(f2 b hb).2.2.2.2.1,(f2 b hb).2.2.2.2.2⟩) I'.tk
  have J2:Inv X pins σ (upd H' s2.heap.objs.size (.lst ys)) s':=J1.track I2.sz nD (fun z=>absurd (z ▸ I2.lt) (Nat.lt_irrefl _)) (fun x c e=>Nat.ne_of_lt (celt x c e)) (fun p hp=>Nat.ne_of_lt (pint p hp)) ⟨hz,us,n,rv,eD⟩
  have nC:upd H' s2.heap.objs.size (.lst ys) P2.objs.size=none:=by
   rw[zg (Ne.symm hDC)]
   exact I'.free
  refine hRR _ _ s' _ ?_ CL CC J2 (fun h' hs s'' e=>?_) (fun σ' s3 I3 _ h' hs=>?_) (q _ nD)
  ·obtain⟨m,hn,_⟩:=I'.loc
   exact⟨m,hn⟩
  ·subst e
   exact J2.turned (t':=s'.toks) (it:=P2.objs.size) (fun b o hb e=>(hs.2 b hb).trans e) nC CL (.inr (Nat.le_trans I2.sz hCle)) CC CP
  ·exact I3.turned (t':=s3.toks) (it:=P2.objs.size) (fun b o hb e=>(hs.2 b hb).trans e) nC CL (.inr (Nat.le_trans I2.sz hCle)) CC CP
 exact codeAny_compStart_list (loop _ rfl) (T.self _ 0 _ _ _ hst₁ (loop _ rfl))
theorem J7 (hc:X.calm=true) (S:zq X vars scope cl) (hi:PI X tg iter wi) (hg:∀ C fp s₂ H₂,PG (zQ X vars scope cl C fp s₂ H₂) tg g) (ht:∀ C fp s₂ H₂,yn (zQ X vars scope cl C fp s₂ H₂) ifs ti)
  (he:∀ C fp s₂ H₂,PE (zQ X vars scope cl C fp s₂ H₂) elt te) (hs:∀ x,foldedSetIterable iter X.env x=pure x:=by intro _;rfl):PE X (.ListComp elt [⟨tg,iter,ifs,0⟩] scope pos) (zDU vars.length wi g ti te):=by
 intro pins s σ H Q I h
 rw[eval_ListComp]
 refine wpAny_comprehension_free (use:=none) rfl hs S.clos S.kind S.names (thn (hi pins s σ H _ I h) fun v s1 h1=>thn h1 fun itv s2 h2=>?_)
 refine zDH hc S hg ht he (F:=fun D H'=>Q (.ref D) H') h2 fun D C s' H' hn hCL hCC J2 J3 _ q=>?_
 obtain⟨m,hn⟩:=hn
 exact⟨m,hn,fun h' hs'=>⟨.ref D,H',J3 h' hs' _ rfl,rfl,q⟩⟩
end
end L2
namespace L2
open PySem PySem.Spec PyProof.Rows
noncomputable def Its (z:Str):It:=⟨fun i _=>i < z.length,fun i H x H'=>H'=H/\∃ c,z.cps[i]? = some c/\x=.str ⟨#[c]⟩,fun i _=>z.length <= i⟩
theorem zDe {P:Program}{w:World}{K:PySem.W.Frag}{tg:Expr} (it:Addr) (z:Str) (t:Tok):JB P w K tg (Its z) [it] it (fun i h=>h.IsStrIter it "str_ascii_iterator" z t i) where
 mem:=by simp
 obj:=fun i h st b hb=>by
  have e:b=it:=by simpa using hb
  subst e
  obtain⟨o,e,c,d⟩:=st
  exact⟨o,e,fun v z=>by rw[d] at z;cases z⟩
 keep:=fun i h h' st k=>let ⟨o,ho,r⟩:=st;⟨o,k it (by simp) o ho,r⟩
 item:=by
  intro X hP hw hK hc i pins s σ H E I hf st hg
  subst hP hw hK
  obtain⟨f0,f1,f2,f3,f4,f5⟩:=hf it (by simp)
  have hlt:i < z.cps.size:=hg
  refine wpAny_pyNext_ascii_item st (c:=z.cps[i]) (by simp[hlt]) fun h' st' sb=>?_
  have I1:Inv X pins σ H { s with heap:=h',toks:=s.toks+1 }:=I.turned (fun b o hb e=>(sb.2 b hb).trans e) f0 f1 f3 f4 f5
  obtain⟨o,e,c,d⟩:=id st'
  exact⟨_,rfl,Jl (s:={ s with heap:=h',toks:=s.toks+1 }) e c d (by decide) ⟨.str ⟨#[z.cps[i]]⟩,H,I1,⟨_,rfl⟩,⟨rfl,z.cps[i],by simp[hlt],rfl⟩,st',fun b hb=>(hf b hb).1⟩⟩
 done:=by
  intro X hP hw hK hc i pins s σ H E I hf st hg
  subst hP hw hK
  obtain⟨f0,f1,f2,f3,f4,f5⟩:=hf it (by simp)
  have hle:z.cps.size <= i:=hg
  exact wpAny_pyNext_ascii_end (I.ok.hd hc) st (by simp[hle]) fun h' eb=>⟨rfl,I.turned (t':=s.toks) (fun b o hb e=>eb b o hb e) f0 f1 f3 f4 f5⟩
 self:=fun _ _ _ _ _ st h=>wpAny_pyIter_striter_ascii st h
theorem zEY {P:Program}{w:World}{K:PySem.W.Frag}{tg:Expr} (it:Addr) (z:Str) (t:Tok):JB P w K tg (Its z) [it] it (fun i h=>h.IsStrIter it "str_iterator" z t i) where
 mem:=by simp
 obj:=fun i h st b hb=>by
  have e:b=it:=by simpa using hb
  subst e
  obtain⟨o,e,c,d⟩:=st
  exact⟨o,e,fun v z=>by rw[d] at z;cases z⟩
 keep:=fun i h h' st k=>let ⟨o,ho,r⟩:=st;⟨o,k it (by simp) o ho,r⟩
 item:=by
  intro X hP hw hK hc i pins s σ H E I hf st hg
  subst hP hw hK
  obtain⟨f0,f1,f2,f3,f4,f5⟩:=hf it (by simp)
  have hlt:i < z.cps.size:=hg
  refine wpAny_pyNext_wide_item st (c:=z.cps[i]) (by simp[hlt]) fun h' st' sb=>?_
  have I1:Inv X pins σ H { s with heap:=h',toks:=s.toks+1 }:=I.turned (fun b o hb e=>(sb.2 b hb).trans e) f0 f1 f3 f4 f5
  obtain⟨o,e,c,d⟩:=id st'
  exact⟨_,rfl,Jl (s:={ s with heap:=h',toks:=s.toks+1 }) e c d (by decide) ⟨.str ⟨#[z.cps[i]]⟩,H,I1,⟨_,rfl⟩,⟨rfl,z.cps[i],by simp[hlt],rfl⟩,st',fun b hb=>(hf b hb).1⟩⟩
 done:=by
  intro X hP hw hK hc i pins s σ H E I hf st hg
  subst hP hw hK
  obtain⟨f0,f1,f2,f3,f4,f5⟩:=hf it (by simp)
  have hle:z.cps.size <= i:=hg
  exact wpAny_pyNext_wide_end (I.ok.hd hc) st (by simp[hle]) fun h' eb=>⟨rfl,I.turned (t':=s.toks) (fun b o hb e=>eb b o hb e) f0 f1 f3 f4 f5⟩
 self:=fun _ _ _ _ _ st h=>wpAny_pyIter_striter_wide st h
noncomputable def zIv (tl:TE):TI:=fun σ H R=>tl σ H fun x H1=>∃ z,x=.str z/\R (Its z) H1
theorem zHY {X:Cx}{tg l:Expr}{tl:TE} (hl:PE X l tl):PI X tg l (zIv tl):=by
 intro pins s σ H R I h
 refine thn (hl pins s σ H _ I h) fun v s1 ⟨x,H1,I1,r1,q1⟩=>?_
 obtain⟨z,e,q⟩:=q1
 subst e
 obtain⟨t,rfl⟩:=r1
 have fin:∀ b∈[s1.heap.objs.size],Z9 X pins H1 b:=fun b hb=>by
  have e:b=s1.heap.objs.size:=by simpa using hb
  subst e
  exact I1.fpOk (Nat.le_refl _) (I1.hok.fresh (Nat.le_refl _))
 cases ha:z.cps.all (· < 128)
 ·refine wpAny_pyIter_wide ha ?_
  exact⟨s1.heap.objs.size,[s1.heap.objs.size],_,Its z,H1,rfl,I1.kept (t':=s1.toks) fun b o e=>Heap.get?_push_of_some _ e,zEY _ z t,⟨_,Heap.get?_push_size _ rfl,rfl,rfl⟩,fin,q⟩
 ·refine wpAny_pyIter_ascii ha ?_
  exact⟨s1.heap.objs.size,[s1.heap.objs.size],_,Its z,H1,rfl,I1.kept (t':=s1.toks) fun b o e=>Heap.get?_push_of_some _ e,zDe _ z t,⟨_,Heap.get?_push_size _ rfl,rfl,rfl⟩,fin,q⟩
section
variable {X:Cx}
noncomputable def zAL (z:Str) (lo hi:Option Int):Str:=⟨((z.cps.toList.drop (HT.sIx z.length 0 lo)).take (HT.sIx z.length z.length hi - HT.sIx z.length 0 lo)).toArray⟩
theorem zBk (lo hi:Option Int) (n:Nat):Builtin.Str.strSliceIndices lo hi 1 n=(List.range (HT.sIx n n hi - HT.sIx n 0 lo)).map fun k=>HT.sIx n 0 lo+k:=by
 have clip:∀ v:Int,max 0 (min (if v < 0 then v+(n:Int) else v) (n:Int))=((HT.sIx n 0 (some v):Nat):Int)/\max 0 (min (if v < 0 then v+(n:Int) else v) (n:Int))=((HT.sIx n n (some v):Nat):Int):=fun v=>by
  unfold HT.sIx
  by_cases hv:v < 0
  ·simp only[if_pos hv];omega
  ·simp only[if_neg hv];omega
 have key:∀ a b:Nat,sliceRange (a:Int) (b:Int) 1=(List.range (b - a)).map fun k=>a+k:=fun a b=>by
  unfold sliceRange
  have hc:(if (1:Int) > 0 then (if (a:Int) < (b:Int) then ((b:Int) - a+1 - 1) / 1 else 0) else (if (a:Int) > (b:Int) then ((a:Int) - b - 1 - 1) / (-1) else 0)).toNat=b - a:=by
   rw[if_pos (by decide)]
   by_cases h:(a:Int) < (b:Int)
   ·rw[if_pos h,Int.ediv_one];omega
   ·rw[if_neg h];omega
  dsimp only
  rw[hc]
  refine List.map_congr_left fun k _=>?_
  omega
 unfold Builtin.Str.strSliceIndices
 cases lo with
 | none =>
  cases hi with
  | none=>exact key 0 n
  | some v =>
   simp only[show (1:Int) > 0 by decide,if_true]
   rw[(clip v).2]
   exact key 0 _
 | some u =>
  cases hi with
  | none =>
   simp only[show (1:Int) > 0 by decide,if_true]
   rw[(clip u).1]
   exact key _ n
  | some v =>
   simp only[show (1:Int) > 0 by decide,if_true]
   rw[(clip u).1,(clip v).2]
   exact key _ _
theorem zGb {α:Type} (xs:Array α) (a m:Nat):((List.range m).map fun k=>a+k).filterMap (xs[·]?)=(xs.toList.drop a).take m:=by
 rw[List.filterMap_map]
 induction m generalizing a with
 | zero=>simp
 | succ m ih =>
  rw[List.range_succ,List.filterMap_append,ih,List.take_succ]
  congr 1
  simp only[List.filterMap_cons,List.filterMap_nil,Function.comp]
  rw[List.getElem?_drop,Array.getElem?_toList]
  cases xs[a+m]?<;>rfl
theorem zDa (z:Str) (lo hi:Option Int):Txt.slice z lo hi=zAL z lo hi:=by
 have h1:=HT.zBx z.length 0 (Nat.zero_le _) lo
 have h2:=HT.zBx z.length z.length (Nat.le_refl _) hi
 unfold Txt.slice zAL
 rw[zBk,zGb]
 split
 ·rename_i h
  rw[List.length_map,List.length_range] at h
  have h3:HT.sIx z.length z.length hi - HT.sIx z.length 0 lo=z.length:=by
   have h':=(Bool.and_eq_true_iff.mp h).2
   exact eq_of_beq h'
  have e1:HT.sIx z.length 0 lo=0:=by omega
  rw[h3,e1,List.drop_zero]
  have hl:z.cps.toList.length=z.length:=by simp[Str.length]
  rw[List.take_of_length_le (by omega)]
 ·rfl
noncomputable def zJI:V->Option Int->Option Int->Hp->VK->Prop:=fun x lo hi H Q=>∃ z,x=.str z/\z.length <= sizeLine/\Q (.str (zAL z lo hi)) H
theorem zIE:SlR X zJI:=by
 intro pins s σ H x v vl vu lo hi sl Q I rx hs pl pu h
 obtain⟨z,rfl,hz,q⟩:=h
 obtain⟨t,rfl⟩:=rx
 refine⟨"str",_,F.slot_str_getitem.lookup,typeIs_str _ _ _,wpAny_with_toks (n:=1) I.tk ?_⟩
 obtain⟨o,ho,hc,hd⟩:=hs
 have fin:(Txt.slice z lo hi).length <= sizeLine/\∀ t' k,1 <= ({ s with toks:=k }:Shared).toks->EP X pins σ Q (.str (Txt.slice z lo hi) t') { s with toks:=k } :=
  ⟨Nat.le_trans (Txt.slice_le z lo hi) hz,fun t' k hk=>⟨.str (Txt.slice z lo hi),H,I.tok k hk,⟨_,rfl⟩,by rw[zDa];exact q⟩⟩
 cases pl with
 | none =>
  cases pu with
  | none=>exact wpAny_getItem_str_slice (l:=none) (u:=none) (st:=none) ⟨o,ho,hc,hd⟩ rfl (post_val_or_str fin)
  | int j uj=>exact wpAny_getItem_str_slice (l:=none) (u:=some (j,uj)) (st:=none) ⟨o,ho,hc,hd⟩ rfl (post_val_or_str fin)
 | int i ui =>
  cases pu with
  | none=>exact wpAny_getItem_str_slice (l:=some (i,ui)) (u:=none) (st:=none) ⟨o,ho,hc,hd⟩ rfl (post_val_or_str fin)
  | int j uj=>exact wpAny_getItem_str_slice (l:=some (i,ui)) (u:=some (j,uj)) (st:=none) ⟨o,ho,hc,hd⟩ rfl (post_val_or_str fin)
theorem ZD {ys:List Str}:∀ {us:List Value},zJ (ys.map V.str) us->StrsAre us ys:=by
 induction ys with
 | nil=>intro us r;rw[List.map_nil] at r;cases r;exact .nil
 | cons y ys ih =>
  intro us r
  rw[List.map_cons] at r
  cases r with
  | cons r1 r2 =>
   obtain⟨t,e⟩:=r1
   subst e
   exact .cons y t (ih r2)
noncomputable def Js (K:PySem.W.Frag):V->List V->Hp->VK->Prop:=fun x vs H Q=>∃ z p ys,x=.str z/\vs=[.ref p]/\(SqL K H p (ys.map V.str)\/SqT K H p (ys.map V.str))/\(ys.map (·.length)).sum+ys.length * z.length <= 16777216/\Q (.str (Txt.join z ys)) H
theorem ym:MtR X "str.join" (Js X.K):=by
 intro pins s σ H x vs v us Q I rx rv h
 obtain⟨z,p,ys,rfl,rfl,hq,hz,q⟩:=h
 obtain⟨t,rfl⟩:=rx
 obtain⟨u,rfl,ru⟩:=yK rv
 cases ru
 rcases hq with hq | hq
 ·obtain⟨its,r,pl,_⟩:=I.list hq
  exact wpAny_with_toks (n:=1) I.tk (join_list pl.isList (by simpa using ZD r) hz fun t' k hk=>⟨.str (Txt.join z ys),H,I.tok k hk,⟨_,rfl⟩,q⟩)
 ·obtain⟨its,r,pl,_⟩:=I.tuple hq
  exact wpAny_with_toks (n:=1) I.tk (join_tuple pl (by simpa using ZD r) hz fun t' k hk=>⟨.str (Txt.join z ys),H,I.tok k hk,⟨_,rfl⟩,q⟩)
theorem zAk:∀ (l:List (Str×Tok)),zJ ((l.map (·.1)).map V.str) (strValues l)
 | []=>.nil
 | (x,t)::r=>.cons ⟨t,rfl⟩ (zAk r)
noncomputable def zDY:V->List V->Hp->VK->Prop:=fun x vs H Q=>∃ z y,x=.str z/\vs=[.str y]/\(y.length == 0)=false/\z.length+2 <= sizeLine/\∀ p,H p=none->Q (.ref p) (upd H p (.lst ((Txt.split z y).map V.str)))
end
end L2
namespace L2
open PySem PySem.Spec PyProof.Rows PySem.Builtin.Str
section
variable {X:Cx}
theorem zFO:MtR X "str.split" zDY:=by
 intro pins s σ H x vs v us Q I rx rv h
 obtain⟨z,y,rfl,rfl,hy,hz,q⟩:=h
 obtain⟨t,rfl⟩:=rx
 obtain⟨u,rfl,tu,rfl⟩:=yK rv
 have hn:(partsBetween z (occurrences z y 0 z.length (z.length+1)) y.length).length <= sizeLine:=by
  have e1:=StrLaws.occ_length_le z y 0 z.length (z.length+1)
  rw[length_partsBetween];omega
 have fin:∀ (l:List (Str×Tok)) (k:Nat),l.map (·.1)=Txt.split z y->l.length <= sizeLine->1 <= k->EP X pins σ Q (.ref s.heap.objs.size) { s with heap:=s.heap.push { cls:=.type "list",data:=.seq (strValues l).toArray },toks:=k }:=fun l k e hl hk=>by
  have e2:=zAk l
  rw[e] at e2
  have hz2:((Txt.split z y).map V.str).length <= sizeLine:=by rw[List.length_map,<- e,List.length_map];exact hl
  exact⟨.ref s.heap.objs.size,_,I.lnew e2 hz2 hk,rfl,q _ I.fresh⟩
 refine wpAny_with_toks (n:=1) I.tk ?_
 cases h1:(decide (z.length < y.length) || decide (strKind z < strKind y))
 ·cases hf:(occurrences z y 0 z.length (z.length+1)).isEmpty
  ·refine call_meets F.slot_str_split (typeIs_str _ _ _) F.entry_str_split (F.args_str_split_2 _ _) (meets_str_split_sep z y t tu h1 hy hf (by omega) hn) ?_
   show wants _ _ _ { s with toks:=_,heap:=s.heap.push { cls:=.type "list",data:=.seq (strsFrom s.toks (partsBetween z (occurrences z y 0 z.length (z.length+1)) y.length)).toArray } }
   rw[strsFrom_eq]
   have e3:=(numbered_texts s.toks (partsBetween z (occurrences z y 0 z.length (z.length+1)) y.length))
   refine fin (numbered s.toks _) _ (e3.trans ((if_neg (ne_true_of_eq_false h1)).trans (if_neg (ne_true_of_eq_false hf))).symm) ?_
   have e4:=congrArg List.length e3
   rw[List.length_map] at e4
   rw[e4];exact hn
  ·exact call_meets F.slot_str_split (typeIs_str _ _ _) F.entry_str_split (F.args_str_split_2 _ _) (meets_str_split_not_found z y t tu h1 hy hf)
    (fin [(z,t)] s.toks ((if_neg (ne_true_of_eq_false h1)).trans (if_pos hf)).symm (by show 1 <= sizeLine;decide))
 ·exact call_meets F.slot_str_split (typeIs_str _ _ _) F.entry_str_split (F.args_str_split_2 _ _) (meets_str_split_cannot_occur z y t tu h1)
   (fin [(z,t)] s.toks (if_pos h1).symm (by show 1 <= sizeLine;decide))
theorem zDS:OpR X (binaryOp .Mult) (fun x y H Q=>∃ z n,x=.str z/\y=.int n/\MulOk z n/\Q (.str (Txt.mul z n)) H):=by
 intro pins s σ H x y v u Q I rx ry h
 obtain⟨z,n,rfl,rfl,hm,q⟩:=h
 obtain⟨t,rfl⟩:=rx
 obtain⟨t',rfl⟩:=ry
 exact wpAny_with_toks (n:=1) I.tk (SB.mul hm fun t' k hk=>⟨.str _,H,I.tok k hk,⟨_,rfl⟩,q⟩)
theorem zEp {bs:List Bool}:∀ {us:List Value},zJ (bs.map V.bl) us->us=bs.map Value.bool:=by
 induction bs with
 | nil=>intro us r;rw[List.map_nil] at r;cases r;rfl
 | cons b bs ih =>
  intro us r
  rw[List.map_cons] at r
  cases r with
  | cons r1 r2=>rw[ih r2];cases r1;rfl
theorem zAB (bs:List Bool):((List.range bs.length).all fun i=>bs.getD i false)=bs.all id:=by
 induction bs with
 | nil=>rfl
 | cons b bs ih =>
  rw[List.length_cons,List.range_succ_eq_map,List.all_cons,List.all_map,List.all_cons,<- ih]
  rfl
noncomputable def zHP (K:PySem.W.Frag):List V->Hp->VK->Prop:=fun xs H Q=>∃ (p:Addr) (bs:List Bool),xs=[.ref p]/\SqL K H p (bs.map V.bl)/\Q (.bl (bs.all id)) H
theorem zFT (hc:X.calm=true):z8 X (.builtin "all") (zHP X.K):=by
 intro pins s σ H xs us Q I r h
 obtain⟨p,bs,rfl,hq,q⟩:=h
 obtain⟨u,rfl,ru⟩:=yK r
 cases ru
 obtain⟨its,rv,pl,hz⟩:=I.list hq
 have e:=zEp rv
 subst e
 obtain⟨o,ho,ho2⟩:=pl.isList
 have hlt:p < s.heap.objs.size:=Heap.lt_size ho
 refine wpAny_with_toks (n:=1) I.tk (call_all_walk (wpAny_pyIter_list pl.isList ?_))
 refine⟨s.heap.objs.size,_,_,_,_,_,fun i=>bs.getD i false,rfl,Walks.list (show X.A.in1.handled=none from I.ok.hd hc) s.heap.objs.size p (Nat.ne_of_lt hlt) (bs.map Value.bool).toArray,⟨⟨_,Heap.get?_push_size _ rfl,rfl,rfl⟩,pl.isList.push _⟩,?_,fun h' tk hk htk=>?_⟩
 ·intro i v s' Q' E' hP hQ
  have hP':(bs.map Value.bool)[i]? = some v:=by simpa using hP
  rw[List.getElem?_map] at hP'
  cases hb:bs[i]? with
  | none=>rw[hb] at hP';cases hP'
  | some b =>
   rw[hb] at hP'
   cases hP'
   have e:bs.getD i false=b:=by simp[List.getD,hb]
   dsimp only at hQ
   rw[e] at hQ
   exact wpAny_truthy_bool hQ
 ·have hk':∀ b o,s.heap.get? b=some o->h'.get? b=some o:=fun b o e=>hk b o (by simpa using Nat.ne_of_lt (Heap.lt_size e)) (Heap.get?_push_of_some _ e)
  refine⟨.bl (bs.all id),H,I.kept hk' htk,?_,q⟩
  show Value.bool _=Value.bool _
  rw[<- zAB]
  simp
end
mutual
inductive jF (K:PySem.W.Frag) (H:Hp):V->PyData->Prop
 | non:jF K H .non .none
 | bl (b:Bool):jF K H (.bl b) (.bool b)
 | int (i:Int):jF K H (.int i) (.int i)
 | str (x:Str):jF K H (.str x) (.str x)
 | lst {p:Addr}{xs:List V}{ds:List PyData}:SqL K H p xs->qL K H xs ds->jF K H (.ref p) (.list ds)
 | tup {p:Addr}{xs:List V}{ds:List PyData}:SqT K H p xs->qL K H xs ds->jF K H (.ref p) (.tuple ds)
inductive qL (K:PySem.W.Frag) (H:Hp):List V->List PyData->Prop
 | nil:qL K H [] []
 | cons {v:V}{d:PyData}{vs:List V}{ds:List PyData}:jF K H v d->qL K H vs ds->qL K H (v::vs) (d::ds)
end
section
variable {X:Cx}{pins:List (Addr×Obj)}{σ:St}{H:Hp}{s:Shared}
mutual
theorem jF.reads (I:Inv X pins σ H s):∀ {v:V}{d:PyData}{u:Value},jF X.K H v d->zV v u->∃ as,Reads s.heap u d as
 | _,_,_,.non,r=>by cases r;exact⟨_,.none⟩
 | _,_,_,.bl b,r=>by cases r;exact⟨_,.bool b⟩
 | _,_,_,.int i,r=>by obtain⟨t,rfl⟩:=r;exact⟨_,.int i t⟩
 | _,_,_,.str x,r=>by obtain⟨t,rfl⟩:=r;exact⟨_,.str x t⟩
 | _,_,_,.lst hq ha,r=>by
  cases r
  obtain⟨its,rv,⟨o,n,e,hc,hd,hs⟩,_⟩:=I.list hq
  obtain⟨as,ra⟩:=qL.reads I ha rv
  exact⟨_,.list e hc hs (by simpa using ra)⟩
 | _,_,_,.tup hq ha,r=>by
  cases r
  obtain⟨its,rv,⟨o,e,hc,n,hs⟩,_⟩:=I.tuple hq
  obtain⟨as,ra⟩:=qL.reads I ha rv
  exact⟨_,.tuple e hc hs (by simpa using ra)⟩
theorem qL.reads (I:Inv X pins σ H s):∀ {vs:List V}{ds:List PyData}{us:List Value},qL X.K H vs ds->zJ vs us->∃ as,ReadsAll s.heap us ds as
 | _,_,_,.nil,r=>by cases r;exact⟨_,.nil⟩
 | _,_,_,.cons h t,r=>by
  cases r with
  | cons r1 r2 =>
   obtain⟨as,ra⟩:=jF.reads I h r1
   obtain⟨bs,rb⟩:=qL.reads I t r2
   exact⟨_,.cons ra rb⟩
end
end
section
variable {X:Cx}
noncomputable def zE7 (K:PySem.W.Frag) (neg:Bool):R2:=fun x y H Q=>∃ d e,jF K H x d/\jF K H y e/\SeqAt.shaped d=true/\SeqAt.shaped e=true/\Q (.bl (if neg then !PyData.eqv d e else PyData.eqv d e)) H
theorem zHB {k:Nat} (hr:zm k X.A):OpR X (compareOp .Eq) (zE7 X.K false):=by
 intro pins s σ H x y v u Q I rx ry h
 obtain⟨d,e,hd,he,sd,se,q⟩:=h
 obtain⟨as,ra⟩:=hd.reads I rx
 obtain⟨bs,rb⟩:=he.reads I ry
 exact eq_dataH ra rb sd se hr.units ⟨.bl _,H,I,rfl,q⟩
theorem zHq {k:Nat} (hr:zm k X.A):OpR X (compareOp .NotEq) (zE7 X.K true):=by
 intro pins s σ H x y v u Q I rx ry h
 obtain⟨d,e,hd,he,sd,se,q⟩:=h
 obtain⟨as,ra⟩:=hd.reads I rx
 obtain⟨bs,rb⟩:=he.reads I ry
 exact ne_dataH ra rb sd se hr.units ⟨.bl _,H,I,rfl,q⟩
where RelC:V->Value->Prop:=fun c cv=>(∃ n,c=.ty n/\cv=.type n)\/∃ a,c=.ref a/\cv=.ref a
end
end L2
namespace L2
open PySem PySem.Spec PyProof.Rows
section
variable {X:Cx}
noncomputable def zH0:R2:=fun x y H Q=>match x,y with
 | .int i,.int j=>Q (.int (i+j)) H
 | .str a,.str b=>a.length+b.length <= sizeLine/\Q (.str (a++b)) H
 | .ref l,.ref b=>∃ xs zs,H l=some (.lst xs)/\H b=some (.lst zs)/\xs.length+zs.length <= sizeLine/\∀ p,H p=none->Q (.ref p) (upd H p (.lst (xs++zs)))
 | _,_=>False
theorem y8:OpR X (binaryOp .Add) zH0:=by
 intro pins s σ H x y v u Q I rx ry h
 cases x with
 | int i =>
  cases y with
  | int j=>exact zHh pins s σ H _ _ v u Q I rx ry ⟨i,j,rfl,rfl,h⟩
  | _=>exact False.elim h
 | str a =>
  cases y with
  | str b=>exact zCl pins s σ H _ _ v u Q I rx ry ⟨a,b,rfl,rfl,h⟩
  | _=>exact False.elim h
 | ref l =>
  cases y with
  | ref b =>
   obtain⟨xs,zs,h1,h2,h3,h4⟩:=h
   exact zHS pins s σ H _ _ v u Q I rx ry ⟨l,b,xs,zs,rfl,rfl,h1,h2,h3,h4⟩
  | _=>exact False.elim h
 | _=>exact False.elim h
noncomputable def zG7:R2:=fun x y H Q=>match x,y with
 | .int i,.int j=>zC4 i j/\Q (.int (i * j)) H
 | .str z,.int n=>MulOk z n/\Q (.str (Txt.mul z n)) H
 | _,_=>False
theorem zIm:OpR X (binaryOp .Mult) zG7:=by
 intro pins s σ H x y v u Q I rx ry h
 cases x with
 | int i =>
  cases y with
  | int j=>exact zII pins s σ H _ _ v u Q I rx ry ⟨i,j,rfl,rfl,h⟩
  | _=>exact False.elim h
 | str z =>
  cases y with
  | int n=>exact zDS pins s σ H _ _ v u Q I rx ry ⟨z,n,rfl,rfl,h⟩
  | _=>exact False.elim h
 | _=>exact False.elim h
noncomputable def zH1:R2:=fun x y H Q=>match x,y with
 | .int i,.int j=>0 < j/\Q (.int (i % j)) H
 | _,_=>False
theorem yt:OpR X (binaryOp .Mod) zH1:=by
 intro pins s σ H x y v u Q I rx ry h
 cases x with
 | int i =>
  cases y with
  | int j=>exact zHO pins s σ H _ _ v u Q I rx ry ⟨i,j,rfl,rfl,h⟩
  | _=>exact False.elim h
 | _=>exact False.elim h
noncomputable def zIF:R2:=fun x y H Q=>match x,y with
 | .int i,.int j=>(0 < j/\j < 1073741824)/\Q (.int (i / j)) H
 | _,_=>False
theorem Qi:OpR X (binaryOp .FloorDiv) zIF:=by
 intro pins s σ H x y v u Q I rx ry h
 cases x with
 | int i =>
  cases y with
  | int j=>exact zF3 pins s σ H _ _ v u Q I rx ry ⟨i,j,rfl,rfl,h⟩
  | _=>exact False.elim h
 | _=>exact False.elim h
noncomputable def uLt:R2:=fun x y H Q=>match x,y with
 | .int i,.int j=>Q (.bl (decide (i < j))) H
 | .str i,.str j=>Q (.bl (decide (i.cps.toList < j.cps.toList))) H
 | _,_=>False
theorem zJC:OpR X (compareOp .Lt) uLt:=by
 intro pins s σ H x y v u Q I rx ry h
 cases x with
 | int i =>
  cases y with
  | int j=>exact zIY pins s σ H _ _ v u Q I rx ry ⟨i,j,rfl,rfl,h⟩
  | _=>exact False.elim h
 | str i =>
  cases y with
  | str j=>exact zDu pins s σ H _ _ v u Q I rx ry ⟨i,j,rfl,rfl,h⟩
  | _=>exact False.elim h
 | _=>exact False.elim h
noncomputable def uIn (K:PySem.W.Frag) (neg:Bool):R2:=fun x y H Q=>match x,y with
 | .str i,.str j=>Q (.bl (xor neg (!(Builtin.Str.occurrences j i 0 j.length 1).isEmpty))) H
 | x,.ref p=>∃ xs,(SqL K H p xs\/SqT K H p xs)/\jp x=true/\xs.all jp=true/\Q (.bl (xor neg (inV x xs))) H
 | _,_=>False
theorem zGn:OpR X (compareOp .NotIn) (uIn X.K true):=by
 intro pins s σ H x y v u Q I rx ry h
 cases y with
 | str j =>
  cases x with
  | str i =>
   have h':Q (.bl (xor true (!(Builtin.Str.occurrences j i 0 j.length 1).isEmpty))) H:=h
   rw[Bool.true_xor] at h'
   exact zBg pins s σ H _ _ v u Q I rx ry ⟨i,j,rfl,rfl,h'⟩
  | _=>exact False.elim h
 | ref p =>
  have h':∃ xs,(SqL X.K H p xs\/SqT X.K H p xs)/\jp x=true/\xs.all jp=true/\Q (.bl (xor true (inV x xs))) H:=by cases x<;>exact h
  obtain⟨xs,h1,h2,h3,h4⟩:=h'
  rw[Bool.true_xor] at h4
  exact zBZ pins s σ H _ _ v u Q I rx ry ⟨p,xs,rfl,h1,h2,h3,h4⟩
 | _=>cases x<;>exact False.elim h
noncomputable def uIx (K:PySem.W.Frag):R2:=fun x y H Q=>match x,y with
 | .str z,.int i=>∃ c,z.length <= sizeLine/\atI z.cps.toList i=some c/\Q (.str ⟨#[c]⟩) H
 | .ref p,.int i=>∃ xs v,(SqL K H p xs\/SqT K H p xs)/\atI xs i=some v/\Q v H
 | _,_=>False
theorem zI5:IxR X (uIx X.K):=by
 intro value slice pins s σ H x y v u Q I rx ry h hs
 cases x with
 | str z =>
  cases y with
  | int i =>
   obtain⟨c,h1,h2,h3⟩:=h
   exact zHj value slice pins s σ H _ _ v u Q I rx ry ⟨z,i,c,rfl,rfl,h1,h2,h3⟩ hs
  | _=>exact False.elim h
 | ref p =>
  cases y with
  | int i =>
   obtain⟨xs,c,h1 | h1,h2,h3⟩:=h
   ·exact zGO value slice pins s σ H _ _ v u Q I rx ry ⟨p,xs,i,c,rfl,rfl,h1,h2,h3⟩ hs
   ·exact zHo value slice pins s σ H _ _ v u Q I rx ry ⟨p,xs,i,c,rfl,rfl,h1,h2,h3⟩ hs
  | _=>exact False.elim h
 | _=>exact False.elim h
noncomputable def uSl (K:PySem.W.Frag):V->Option Int->Option Int->Hp->VK->Prop:=fun x lo hi H Q=>match x with
 | .str z=>z.length <= sizeLine/\Q (.str (zAL z lo hi)) H
 | .ref a=>(∃ xs,SqL K H a xs/\∀ p,H p=none->Q (.ref p) (upd H p (.lst (Zj xs lo hi)))) \/
   (∃ xs,SqT K H a xs /\ ¬ (HT.sIx xs.length 0 lo=0/\HT.sIx xs.length xs.length hi=xs.length)/\∀ p,H p=none->Q (.ref p) (upd H p (.tup (Zj xs lo hi))))
 | _=>False
theorem zDC:SlR X (uSl X.K):=by
 intro pins s σ H x v vl vu lo hi sl Q I rx hs pl pu h
 cases x with
 | str z=>exact zIE pins s σ H _ v vl vu lo hi sl Q I rx hs pl pu ⟨z,rfl,h⟩
 | ref a =>
  rcases h with ⟨xs,h1,h2⟩ | ⟨xs,h1,h2,h3⟩
  ·exact zGM pins s σ H _ v vl vu lo hi sl Q I rx hs pl pu ⟨a,xs,rfl,h1,h2⟩
  ·exact zIL pins s σ H _ v vl vu lo hi sl Q I rx hs pl pu ⟨a,xs,rfl,h1,h2,h3⟩
 | _=>exact False.elim h
noncomputable def zHs (K:PySem.W.Frag):List V->Hp->VK->Prop:=fun xs H Q=>match xs with
 | [.str z]=>z.length <= sizeLine/\Q (.int z.length) H
 | [.ref p]=>∃ ys,(SqL K H p ys\/SqT K H p ys)/\Q (.int ys.length) H
 | _=>False
theorem zIs:z8 X (.builtin "len") (zHs X.K):=by
 intro pins s σ H xs us Q I r h
 match xs,h with
 | [.str z],h=>exact zBt pins s σ H _ us Q I r ⟨z,rfl,h⟩
 | [.ref p],h =>
  obtain⟨ys,h1,h2⟩:=h
  exact zBd pins s σ H _ us Q I r ⟨p,ys,rfl,h1,h2⟩
end
theorem zBp:bootBuiltins "len" = some (.builtin "len"):=by decide +kernel
theorem zHi:bootBuiltins "all" = some (.builtin "all"):=by decide +kernel
theorem zAw:bootBuiltins "isinstance" = some (.builtin "isinstance"):=by decide +kernel
theorem zBM:bootBuiltins "str" = some (.type "str"):=by decide +kernel
theorem zF5:bootBuiltins "list" = some (.type "list"):=by decide +kernel
structure Has (P:Program) (w:World) (K:PySem.W.Frag) (mg:Str->Option Value) (base:Heap) (x:Str) (k:Nat) (ps:List Str) (sp:Sp):Prop where
 ex:∃ f fd,jM P w K mg base CX0 k f fd ps sp/\Zc K fd ps []/\PySem.W.keepIn K (.ref f)=true/\mg x=some (.ref f)
section
variable {X:Cx}{k kk:Nat}{x:Str}{ps:List Str}{sp:Sp}{e:Expr}{es:List Expr}{t:TA}{p pos:Pos}
theorem zE8 (h:Has X.prog X.w X.K X.mg X.base x k ps sp) (hr:zm kk X.A) (hk:k <= kk) (hg:Gl X x) (ha:PA X (e::es) t) (hx:yH CX0 X E0:=by exact Qk) (hdb:(x == ("__debug__" : Str))=false:=by decide)
  (he:starEach (e::es) X.env=(false,eval e X.env)::starEach es X.env:=by rfl) (hpl:(backTo pos (starEach es X.env)).any (·.1)=false:=by rfl) :
  PE X (.Call (.Name x p) (e::es) [] pos) (zDL sp [] E0 t):=by
 obtain⟨f,fd,F,b,kp,m⟩:=h.ex
 exact zGY F (hr.mono hk) hg m kp b .nil hx ha hdb he hpl
structure zJQ (mg:Str->Option Value) (x:Str) (v:V):Prop where
 ex:∃ u,mg x=some u/\zV v u
end
theorem ZO {K:PySem.W.Frag}{A B:String}{b:Bool} (h:(if (Value.type A == Value.type B)=true then some true else if PySem.W.kitMeta B=true then (PySem.fastBuiltinMro A).map (·.contains (Value.type B)) else none)=some b):PySem.W.kitOne K (.type A) (.type B)=some b:=h
end L2
namespace TX
open PySem
noncomputable def z3 (c:Nat):List Nat->List (List Nat)
 | []=>[[]]
 | d::r=>if d=c then []::z3 c r else match z3 c r with
  | []=>[[d]]
  | p::ps=>(d::p)::ps
noncomputable def ZC (c:Nat):List (List Nat)->List Nat
 | []=>[]
 | [p]=>p
 | p::q::r=>p++c::ZC c (q::r)
theorem zDb (c:Nat) (l:List Nat):z3 c l≠[]:=by
 cases l with
 | nil=>simp[z3]
 | cons d r =>
  unfold z3
  split
  ·simp
  ·split<;>simp
theorem Qu (c:Nat):∀ p:List Nat,c∉p->z3 c p=[p]
 | [],_=>rfl
 | d::r,h=>by
  have hd:d≠c:=fun e=>h (by simp[e])
  have hr:c∉r:=fun e=>h (List.mem_cons_of_mem _ e)
  unfold z3
  rw[if_neg hd,Qu c r hr]
theorem JO (c:Nat):∀ (p r:List Nat),c∉p->z3 c (p++c::r)=p::z3 c r
 | [],r,_=>by
  show z3 c (c::r)=_
  unfold z3
  rw[if_pos rfl]
  cases r<;>rfl
 | d::q,r,h=>by
  have hd:d≠c:=fun e=>h (by simp[e])
  have hq:c∉q:=fun e=>h (List.mem_cons_of_mem _ e)
  show z3 c (d::(q++c::r))=_
  conv=>lhs;unfold z3
  rw[if_neg hd,JO c q r hq]
theorem Qr (c:Nat):∀ ps:List (List Nat),ps≠[]->(∀ p∈ps,c∉p)->z3 c (ZC c ps)=ps
 | [],h,_=>absurd rfl h
 | [p],_,h=>Qu c p (h p (by simp))
 | p::q::r,_,h=>by
  show z3 c (p++c::ZC c (q::r))=_
  rw[JO c p _ (h p (by simp)),Qr c (q::r) (by simp) fun x hx=>h x (List.mem_cons_of_mem _ hx)]
theorem ZB (c:Nat):∀ ps:List Str,(Str.join ⟨#[c]⟩ ps).cps.toList=ZC c (ps.map fun p=>p.cps.toList)
 | []=>rfl
 | [p]=>rfl
 | p::q::r=>by
  have ih:=ZB c (q::r)
  show (p++(⟨#[c]⟩:Str)++Str.join ⟨#[c]⟩ (q::r)).cps.toList=p.cps.toList++c::ZC c ((q::r).map fun p=>p.cps.toList)
  rw[<- ih]
  show (p.cps ++ #[c]++(Str.join ⟨#[c]⟩ (q::r)).cps).toList=_
  simp
theorem zFF (x:Str) (c:Nat):Txt.split x ⟨#[c]⟩≠[]:=by
 unfold Txt.split
 split
 ·simp
 ·split
  ·simp
  ·rw[StrLaws.partsBetween_eq]
   obtain⟨p,r,e⟩:=StrLaws.partsFrom_ne x (⟨#[c]⟩:Str).length 0 (Builtin.Str.occurrences x ⟨#[c]⟩ 0 x.length (x.length+1))
   rw[e];simp
theorem zB8 (x:Str) (c:Nat):(Txt.split x ⟨#[c]⟩).map (fun p=>p.cps.toList)=z3 c x.cps.toList:=by
 have h1:=StrLaws.join_split x ⟨#[c]⟩
 have h2:=ZB c (Txt.split x ⟨#[c]⟩)
 rw[h1] at h2
 rw[h2,Qr]
 ·intro e
  exact zFF x c (List.map_eq_nil_iff.mp e)
 ·intro p hp
  obtain⟨q,hq,rfl⟩:=List.mem_map.mp hp
  exact StrLaws.split_free x c q hq
noncomputable def ofL (l:List Nat):Str:=⟨l.toArray⟩
theorem zCk (x:Str):ofL x.cps.toList=x:=by
 cases x;simp[ofL]
theorem zEg (x:Str) (c:Nat):Txt.split x ⟨#[c]⟩=(z3 c x.cps.toList).map ofL:=by
 rw[<- zB8,List.map_map]
 have:(ofL ∘ fun p:Str=>p.cps.toList)=id:=by
  funext p;exact zCk p
 rw[this,List.map_id]
theorem zAe (c d:Nat):∀ ps:List (List Nat),(∀ p∈ps,c∉p)->ZC d ps=(ZC c ps).map fun x=>if x=c then d else x
 | [],_=>rfl
 | [p],h=>by
  show p=p.map _
  have hp:=h p (by simp)
  conv=>lhs;rw[<- List.map_id p]
  refine List.map_congr_left fun x hx=>?_
  have:x≠c:=fun e=>hp (e ▸ hx)
  simp[this]
 | p::q::r,h=>by
  show p++d::ZC d (q::r)=(p++c::ZC c (q::r)).map _
  rw[List.map_append,List.map_cons,zAe c d (q::r) fun x hx=>h x (List.mem_cons_of_mem _ hx)]
  have hp:=h p (by simp)
  have e:p.map (fun x=>if x=c then d else x)=p:=by
   conv=>rhs;rw[<- List.map_id p]
   refine List.map_congr_left fun x hx=>?_
   have:x≠c:=fun e=>hp (e ▸ hx)
   simp[this]
  rw[e];simp
theorem zA0 (x:Str) (c d:Nat):(Txt.replace x ⟨#[c]⟩ ⟨#[d]⟩).cps.toList=x.cps.toList.map fun y=>if y=c then d else y:=by
 rw[StrLaws.replace_one,ZB,zAe c d]
 ·rw[<- ZB,StrLaws.join_split]
 ·intro p hp
  obtain⟨q,hq,rfl⟩:=List.mem_map.mp hp
  exact StrLaws.split_free x c q hq
end TX
namespace TX
open PySem
noncomputable def sp (y:Nat):Nat:=if y=10 then 32 else y
end TX
namespace TS
open PySem PyProof.Rows
variable {prog:Program}{w:World}{A:Around}{E:Value->Shared->Prop}{s:Shared}{a₀:Array Keyed}{κ:KeyKind}
structure SG (a₀:Array Keyed) (st:SortSt):Prop where
 pm:(arrOf st).Perm a₀
 kd:kindOf st=oneType'
 fl:failedOf st=none
theorem SG.sz {st:SortSt} (h:SG a₀ st):(arrOf st).size=a₀.size:=h.pm.size_eq
theorem SG.arr {st:SortSt} (h:SG a₀ st) {xs:Array Keyed} (p:xs.Perm (arrOf st)):SG a₀ (setArr st xs):=⟨p.trans h.pm,h.kd,h.fl⟩
theorem SG.item {st:SortSt} (h:SG a₀ st) (h0:KeysOf κ a₀) {i:Nat} (hi:i < a₀.size):∃ x p a,(arrOf st)[i]? = some (x,p)/\κ.keyOf x=some a/\KK κ (arrOf st) i=a:=by
 have hi':i < (arrOf st).size:=by rw[h.sz];exact hi
 have hm:(arrOf st)[i]∈a₀.toList:=(Array.perm_iff_toList_perm.mp h.pm).mem_iff.mp (by simp)
 obtain⟨a,ha⟩:=h0 _ hm
 have e:(arrOf st)[i]? = some ((arrOf st)[i].1,(arrOf st)[i].2):=getElem?_pos _ i hi'
 exact⟨_,_,a,e,ha,by unfold KK;rw[e];show (κ.keyOf (arrOf st)[i].1).getD κ.dflt=a;rw[ha];rfl⟩
theorem JT {st:SortSt}{i j:Nat}{Q:Option Bool->SortSt->Prop} (hO:κ.OneLt) (h0:KeysOf κ a₀) (g:SG a₀ st) (hi:i < a₀.size) (hj:j < a₀.size) (h:Q (some (κ.blt (KK κ (arrOf st) i) (KK κ (arrOf st) j))) st):wpS (model prog w) A E s (ltAt' i j) Q st:=by
 obtain⟨x,p,a,e1,h1,k1⟩:=g.item h0 hi
 obtain⟨y,q,b,e2,h2,k2⟩:=g.item h0 hj
 rw[k1,k2] at h
 exact wpS_ltAtK hO g.kd e1 e2 h1 h2 h
noncomputable def Ri (κ:KeyKind) (xs:Array Keyed) (lo k:Nat):Prop:=∀ i j,i <= j->j < k->κ.kle (KK κ xs (lo+i)) (KK κ xs (lo+j))
structure zu (a₀:Array Keyed) (lo hi:Nat) (st st':SortSt):Prop where
 ok:SG a₀ st'
 out:∀ k,k < lo\/hi <= k->(arrOf st')[k]? = (arrOf st)[k]?
 pd:pendingOf st'=pendingOf st
theorem zu.refl {lo hi:Nat}{st:SortSt} (g:SG a₀ st):zu a₀ lo hi st st:=⟨g,fun _ _=>rfl,rfl⟩
theorem zu.trans {lo hi:Nat}{st st' st'':SortSt} (h:zu a₀ lo hi st st') (k:zu a₀ lo hi st' st''):zu a₀ lo hi st st'':=⟨k.ok,fun i hi=>(k.out i hi).trans (h.out i hi),k.pd.trans h.pd⟩
theorem zDX {st:SortSt}{lo n ok:Nat}{Q:Bool->SortSt->Prop} (hO:κ.OneLt) (h0:KeysOf κ a₀) (hn:lo+n <= a₀.size) (hok:ok <= n) (g:SG a₀ st) (hs:Ri κ (arrOf st) lo ok)
  (h:∀ st',zu a₀ lo (lo+n) st st'->Ri κ (arrOf st') lo n->Q true st'):wpS (model prog w) A E s (binarySort' lo n ok) Q st:=by
 rw[binarySort'_eq]
 refine wpS_bind (wpS_mono (wpS_forRange (I:=fun k c t=>c=(none,())/\zu a₀ lo (lo+n) st t/\Ri κ (arrOf t) lo (min k n))
  (Q:=fun c t=>c=(none,())/\zu a₀ lo (lo+n) st t/\Ri κ (arrOf t) lo n) (fun k c t hak hkn ⟨ec,kp,ri⟩=>?step) (fun c t ⟨ec,kp,ri⟩=>⟨ec,kp,?fin⟩) ⟨rfl,zu.refl g,fun i j hij hj=>?ini⟩) fun c t ⟨ec,kp,ri⟩=>?post)
 case step =>
  subst ec
  rw[show min k n=k by omega] at ri
  have kl:lo+k < a₀.size:=by omega
  refine wpS_bind (wpS_mono (wpS_forRange (I:=fun x c u=>u=t/\∃ l r,c=(none,l,r)/\l <= r/\r <= k/\r - l <= k - x/\(∀ i,i < l->κ.kle (KK κ (arrOf t) (lo+i)) (KK κ (arrOf t) (lo+k)))/\(∀ i,r <= i->i < k->κ.klt (KK κ (arrOf t) (lo+k)) (KK κ (arrOf t) (lo+i))))
   (Q:=fun c u=>u=t/\∃ l r,c=(none,l,r)/\l <= k/\(∀ i,i < l->κ.kle (KK κ (arrOf t) (lo+i)) (KK κ (arrOf t) (lo+k)))/\(∀ i,l <= i->i < k->κ.klt (KK κ (arrOf t) (lo+k)) (KK κ (arrOf t) (lo+i))))
   (fun x c u _ hx ⟨eu,l,r,ec,h1,h2,h3,h4,h5⟩=>?st2) (fun c u ⟨eu,l,r,ec,h1,h2,h3,h4,h5⟩=>?fi2) ⟨rfl,0,k,rfl,by omega,by omega,by omega,fun i hi=>by omega,fun i h1 h2=>by omega⟩) fun c u ⟨eu,l,r,ec,h1,h2,h3⟩=>?po2)
  case st2 =>
   subst eu ec
   dsimp only
   by_cases hge:l ≥ r
   ·rw[if_pos hge]
    obtain rfl:l=r:=by omega
    exact wpS_pure ⟨rfl,l,l,rfl,h2,h4,h5⟩
   ·rw[if_neg hge]
    refine wpS_bind (JT hO h0 kp.ok kl (by omega) ?_)
    cases hb:κ.blt (KK κ (arrOf u) (lo+k)) (KK κ (arrOf u) (lo+(l+r) / 2)) with
    | true =>
     simp only[if_true]
     exact wpS_pure ⟨rfl,l,(l+r) / 2,rfl,by omega,by omega,by omega,h4,fun i a b=>KeyOrd.klt_of_klt_of_kle hb (ri _ _ a b)⟩
    | false =>
     simp only[Bool.false_eq_true,if_false]
     exact wpS_pure ⟨rfl,(l+r) / 2+1,r,rfl,by omega,by omega,by omega,fun i a=>KeyOrd.kle_trans (ri i ((l+r) / 2) (by omega) (by omega)) (show κ.kle _ _ from hb),h5⟩
  case fi2 =>
   subst eu ec
   obtain rfl:l=r:=by omega
   exact⟨rfl,l,l,rfl,h2,h4,h5⟩
  case po2 =>
   subst eu ec
   show wpS _ _ _ _ (do moveDown' (lo+k) (lo+l);pure (ForInStep.yield (none,()))) _ _
   rw[moveDown'_eq]
   have ks:lo+k < (arrOf u).size:=by rw[kp.ok.sz];exact kl
   refine wpS_bind (wpS_modify (wpS_pure ⟨rfl,kp.trans ⟨kp.ok.arr (bubble_perm _ _ _),fun i hi=>?_,rfl⟩,?_⟩))
   ·show (bubble (arrOf u) (lo+k) (lo+k - (lo+l)))[i]? = _
    rw[getElem?_bubble ks _ (by omega),if_neg (by omega),if_neg (by omega)]
   ·rw[show min (k+1) n=k+1 by omega]
    intro i j hij hj
    show κ.kle (KK κ (bubble (arrOf u) (lo+k) (lo+k - (lo+l))) (lo+i)) (KK κ (bubble (arrOf u) (lo+k) (lo+k - (lo+l))) (lo+j))
    rw[KK_bubble ks (by omega),KK_bubble ks (by omega),show lo+k - (lo+k - (lo+l))=lo+l by omega]
    by_cases c1:lo+i=lo+l<;>by_cases c2:lo+l < lo+i/\lo+i <= lo+k<;>by_cases c3:lo+j=lo+l<;>by_cases c4:lo+l < lo+j/\lo+j <= lo+k<;>simp only[c1,c2,c3,c4,if_true,if_false]<;>try omega
    ·exact KeyOrd.kle_refl _
    ·exact KeyOrd.kle_of_klt (by have:=h3 (j - 1) (by omega) (by omega);rwa [show lo+(j - 1)=lo+j - 1 by omega] at this)
    ·have:=ri (i - 1) (j - 1) (by omega) (by omega);rwa [show lo+(i - 1)=lo+i - 1 by omega,show lo+(j - 1)=lo+j - 1 by omega] at this
    ·exact h2 _ (by omega)
    ·have:=ri i (j - 1) (by omega) (by omega);rwa [show lo+(j - 1)=lo+j - 1 by omega] at this
    ·exact ri _ _ (by omega) (by omega)
 case fin=>rwa [show min (max (max ok 1) n) n=n by omega] at ri
 case ini =>
  by_cases h1:ok=0
  ·obtain rfl:i=j:=by omega
   exact KeyOrd.kle_refl _
  ·exact hs i j hij (by omega)
 case post =>
  subst ec
  exact wpS_pure (h t kp ri)
noncomputable def zBi (lo a nrem:Nat):StateT SortSt Sem AscSt :=
 forIn [a:nrem] ((none,a):AscSt) fun _ c=>do
  match <- ltAt' (lo+c.2) (lo+c.2 - 1) with
  | some b=>if b=true then pure (ForInStep.done (none,c.2)) else pure (ForInStep.yield (none,c.2+1))
  | _=>pure (ForInStep.done (some none,c.2))
noncomputable def tl3 (lo n nrem:Nat):StateT SortSt Sem (Option Nat):=do
 reverseSlice' lo (lo+n)
 let c <- zBi lo n nrem
 match c.1 with
 | some r=>pure r
 | none=>pure (some c.2)
noncomputable def zDN (lo n nrem:Nat):StateT SortSt Sem DescSt :=
 forIn [n:nrem] ((none,n,0):DescSt) fun _ c=>do
  match <- ltAt' (lo+c.2.1) (lo+c.2.1 - 1) with
  | some b =>
   if b=true then
    if c.2.2 > 0 then do
     reverseSlice' (lo+c.2.1 - (c.2.2+1)) (lo+c.2.1)
     pure (ForInStep.yield (none,c.2.1+1,0))
    else pure (ForInStep.yield (none,c.2.1+1,0))
   else do
    match <- ltAt' (lo+c.2.1 - 1) (lo+c.2.1) with
    | some b=>if b=true then pure (ForInStep.done (none,c.2.1,c.2.2)) else pure (ForInStep.yield (none,c.2.1+1,c.2.2+1))
    | _=>pure (ForInStep.done (some none,c.2.1,c.2.2))
  | _=>pure (ForInStep.done (some none,c.2.1,c.2.2))
noncomputable def zBU (lo n nrem:Nat):StateT SortSt Sem (Option Nat):=do
 liftM (rule "list.sort.descending-run")
 let c <- zDN lo (n+1) nrem
 match c.1 with
 | some r=>pure r
 | none =>
  if c.2.2 > 0 then do
   reverseSlice' (lo+c.2.1 - (c.2.2+1)) (lo+c.2.1)
   tl3 lo c.2.1 nrem
  else tl3 lo c.2.1 nrem
theorem zCE (lo nrem:Nat):countRun' lo nrem=(do
  let c <- zBi lo 1 nrem
  match c.1 with
  | some r=>pure r
  | none =>
   if (c.2 == nrem)=true then pure (some c.2)
   else if c.2 > 1 then do
    match <- ltAt' lo (lo+c.2 - 1) with
    | some b=>if b=true then pure (some c.2) else do
      reverseSlice' lo (lo+c.2)
      zBU lo c.2 nrem
    | _=>pure none
   else zBU lo c.2 nrem):=by
 rw[countRun'_eq]
 unfold zBU tl3 zDN zBi
 refine congrArg (bind _) ?_
 funext c
 obtain⟨r,n⟩:=c
 cases r with
 | some r=>rfl
 | none =>
  dsimp only
  split
  ·rfl
  ·split
   ·congr 1;funext x
    cases x with
    | none=>rfl
    | some b =>
     dsimp only
     split
     ·rfl
     ·congr 1;funext _r
      congr 1;funext _u;congr 1;congr 1;funext c2;obtain⟨r2,n2,q2⟩:=c2
      cases r2 with
      | some r2=>rfl
      | none =>
       dsimp only
       split
       ·congr 1;funext _v;congr 1;funext _w;congr 1;funext c3;obtain⟨r3,n3⟩:=c3;cases r3<;>rfl
       ·congr 1;funext _w;congr 1;funext c3;obtain⟨r3,n3⟩:=c3;cases r3<;>rfl
   ·congr 1;funext _u;congr 1;congr 1;funext c2;obtain⟨r2,n2,q2⟩:=c2
    cases r2 with
    | some r2=>rfl
    | none =>
     dsimp only
     split
     ·congr 1;funext _v;congr 1;funext _w;congr 1;funext c3;obtain⟨r3,n3⟩:=c3;cases r3<;>rfl
     ·congr 1;funext _w;congr 1;funext c3;obtain⟨r3,n3⟩:=c3;cases r3<;>rfl
noncomputable def Fa (κ:KeyKind) (xs:Array Keyed) (lo k:Nat):Prop:=∀ i j,i <= j->j < k->κ.kle (KK κ xs (lo+j)) (KK κ xs (lo+i))
theorem Ri.more {xs:Array Keyed}{lo x:Nat} (h:Ri κ xs lo x) (hx:1 <= x) (e:κ.kle (KK κ xs (lo+x - 1)) (KK κ xs (lo+x))):Ri κ xs lo (x+1):=by
 intro i j hij hj
 by_cases c:j < x
 ·exact h i j hij c
 obtain rfl:j=x:=by omega
 by_cases d:i=j
 ·subst d;exact KeyOrd.kle_refl _
 ·exact KeyOrd.kle_trans (h i (j - 1) (by omega) (by omega)) (by rwa [show lo+(j - 1)=lo+j - 1 by omega])
theorem Fa.more {xs:Array Keyed}{lo x:Nat} (h:Fa κ xs lo x) (hx:1 <= x) (e:κ.kle (KK κ xs (lo+x)) (KK κ xs (lo+x - 1))):Fa κ xs lo (x+1):=by
 intro i j hij hj
 by_cases c:j < x
 ·exact h i j hij c
 obtain rfl:j=x:=by omega
 by_cases d:i=j
 ·subst d;exact KeyOrd.kle_refl _
 ·exact KeyOrd.kle_trans (by rwa [show lo+(j - 1)=lo+j - 1 by omega]) (h i (j - 1) (by omega) (by omega))
theorem Ri.one {xs:Array Keyed}{lo:Nat}:Ri κ xs lo 1:=fun i j a b=>by obtain rfl:i=j:=(by omega);exact KeyOrd.kle_refl _
theorem Fa.one {xs:Array Keyed}{lo:Nat}:Fa κ xs lo 1:=fun i j a b=>by obtain rfl:i=j:=(by omega);exact KeyOrd.kle_refl _
theorem zDy {st:SortSt}{lo a nrem:Nat}{Q:AscSt->SortSt->Prop} (hO:κ.OneLt) (h0:KeysOf κ a₀) (hn:lo+nrem <= a₀.size) (ha:1 <= a) (han:a <= nrem) (g:SG a₀ st) (hs:Ri κ (arrOf st) lo a)
  (h:∀ n,a <= n->n <= nrem->Ri κ (arrOf st) lo n->(n=nrem\/κ.klt (KK κ (arrOf st) (lo+n)) (KK κ (arrOf st) (lo+n - 1)))->Q (none,n) st):wpS (model prog w) A E s (zBi lo a nrem) Q st:=by
 unfold zBi
 refine wpS_forRange (I:=fun x c u=>u=st/\c=(none,x)/\Ri κ (arrOf st) lo x) (fun x c u hax hxn ⟨eu,ec,ri⟩=>?step) (fun c u ⟨eu,ec,ri⟩=>?fin) ⟨rfl,rfl,hs⟩
 case fin =>
  subst eu ec
  rw[show max a nrem=nrem by omega] at ri ⊢
  exact h nrem han (Nat.le_refl _) ri (.inl rfl)
 case step =>
  subst eu ec
  dsimp only
  refine wpS_bind (JT hO h0 g (by omega) (by omega) ?_)
  cases hb:κ.blt (KK κ (arrOf u) (lo+x)) (KK κ (arrOf u) (lo+x - 1)) with
  | true=>simp only[if_true];exact wpS_pure (h x hax (by omega) ri (.inr hb))
  | false=>simp only[Bool.false_eq_true,if_false];exact wpS_pure ⟨rfl,rfl,ri.more (by omega) hb⟩
theorem zu.mir {lo n i j:Nat}{st:SortSt} (g:SG a₀ st) (hi:lo <= i) (hj:j <= lo+n) (hn:lo+n <= a₀.size):zu a₀ lo (lo+n) st (setArr st (mirror (arrOf st) i j ((j - i) / 2))) :=
 ⟨g.arr (mirror_perm _ _ _ _),fun k hk=>by show (mirror (arrOf st) i j ((j - i) / 2))[k]? = _;rw[getElem?_mirror_all (by rw[g.sz];omega),if_neg (by omega)],rfl⟩
theorem zDw {st st₀:SortSt}{lo n nrem:Nat}{Q:Option Nat->SortSt->Prop} (hO:κ.OneLt) (h0:KeysOf κ a₀) (hn:lo+nrem <= a₀.size) (h1:1 <= n) (hnn:n <= nrem) (kp:zu a₀ lo (lo+nrem) st₀ st) (hs:Fa κ (arrOf st) lo n)
  (h:∀ m st',zu a₀ lo (lo+nrem) st₀ st'->1 <= m->m <= nrem->Ri κ (arrOf st') lo m->Q (some m) st'):wpS (model prog w) A E s (tl3 lo n nrem) Q st:=by
 unfold tl3
 have hz:lo+n <= (arrOf st).size:=by rw[kp.ok.sz];omega
 refine wpS_bind (wpS_reverse ?_)
 have k2:=kp.trans (zu.mir (i:=lo) (j:=lo+n) (lo:=lo) (n:=nrem) kp.ok (Nat.le_refl _) (by omega) hn)
 refine wpS_bind (zDy hO h0 hn h1 hnn k2.ok ?_ fun m a b c _=>wpS_pure (h m _ k2 (by omega) b c))
 intro i j hij hj
 show κ.kle (KK κ (mirror (arrOf st) lo (lo+n) ((lo+n - lo) / 2)) (lo+i)) (KK κ (mirror (arrOf st) lo (lo+n) ((lo+n - lo) / 2)) (lo+j))
 rw[KK_mirror hz,KK_mirror hz,if_pos (by omega),if_pos (by omega)]
 have:=hs (n - 1 - j) (n - 1 - i) (by omega) (by omega)
 rwa [show lo+(n - 1 - i)=lo+(lo+n) - 1 - (lo+i) by omega,show lo+(n - 1 - j)=lo+(lo+n) - 1 - (lo+j) by omega] at this
theorem Fa.same {xs ys:Array Keyed}{lo n:Nat} (h:Fa κ xs lo n) (e:∀ k,KK κ ys k=KK κ xs k):Fa κ ys lo n:=fun i j a b=>by rw[e,e];exact h i j a b
theorem zHE {st st₀:SortSt}{lo n nrem:Nat}{Q:DescSt->SortSt->Prop} (hO:κ.OneLt) (h0:KeysOf κ a₀) (hn:lo+nrem <= a₀.size) (h1:1 <= n) (hnn:n <= nrem) (kp:zu a₀ lo (lo+nrem) st₀ st) (hs:Fa κ (arrOf st) lo n)
  (h:∀ m q st',zu a₀ lo (lo+nrem) st₀ st'->n <= m->m <= nrem->Fa κ (arrOf st') lo m->q+1 <= m->(∀ i,lo+m - (q+1) <= i->i < lo+m->KK κ (arrOf st') i=KK κ (arrOf st') (lo+m - 1))->Q (none,m,q) st') :
  wpS (model prog w) A E s (zDN lo n nrem) Q st:=by
 unfold zDN
 refine wpS_forRange (I:=fun x c u=>∃ q,c=(none,x,q)/\zu a₀ lo (lo+nrem) st₀ u/\Fa κ (arrOf u) lo x/\q+1 <= x/\(∀ i,lo+x - (q+1) <= i->i < lo+x->KK κ (arrOf u) i=KK κ (arrOf u) (lo+x - 1)))
  (fun x c u hax hxn ⟨q,ec,k2,fa,hq,he⟩=>?step) (fun c u ⟨q,ec,k2,fa,hq,he⟩=>?fin) ⟨0,rfl,kp,hs,by omega,fun i a b=>by congr 1;omega⟩
 case fin =>
  subst ec
  rw[show max n nrem=nrem by omega] at fa hq he ⊢
  exact h nrem q u k2 hnn (Nat.le_refl _) fa hq he
 case step =>
  subst ec
  dsimp only
  have hz:lo+x <= (arrOf u).size:=by rw[k2.ok.sz];omega
  refine wpS_bind (JT hO h0 k2.ok (by omega) (by omega) ?_)
  cases hb:κ.blt (KK κ (arrOf u) (lo+x)) (KK κ (arrOf u) (lo+x - 1)) with
  | true =>
   simp only[if_true]
   have f2:=fa.more (by omega) (KeyOrd.kle_of_klt hb)
   by_cases c:q > 0
   ·rw[if_pos c]
    exact wpS_bind (wpS_reverse (wpS_pure ⟨0,rfl,k2.trans (zu.mir k2.ok (by omega) (by omega) hn),f2.same (KK_mirror_equal hz he),by omega,fun i a b=>by congr 1;omega⟩))
   ·rw[if_neg c]
    exact wpS_pure ⟨0,rfl,k2,f2,by omega,fun i a b=>by congr 1;omega⟩
  | false =>
   simp only[Bool.false_eq_true,if_false]
   refine wpS_bind (JT hO h0 k2.ok (by omega) (by omega) ?_)
   cases hc:κ.blt (KK κ (arrOf u) (lo+x - 1)) (KK κ (arrOf u) (lo+x)) with
   | true=>simp only[if_true];exact wpS_pure (h x q u k2 hax (by omega) fa hq he)
   | false =>
    simp only[Bool.false_eq_true,if_false]
    have eq:=KeyOrd.kle_antisymm (show κ.kle (KK κ (arrOf u) (lo+x)) (KK κ (arrOf u) (lo+x - 1)) from hc) hb
    refine wpS_pure ⟨q+1,rfl,k2,fa.more (by omega) hc,by omega,fun i a b=>?_⟩
    rw[show lo+(x+1) - 1=lo+x by omega]
    by_cases d:i=lo+x
    ·rw[d]
    ·rw[eq];exact he i (by omega) (by omega)
theorem zCN {st st₀:SortSt}{lo n nrem:Nat}{Q:Option Nat->SortSt->Prop} (hO:κ.OneLt) (h0:KeysOf κ a₀) (hn:lo+nrem <= a₀.size) (hnn:n+1 <= nrem) (kp:zu a₀ lo (lo+nrem) st₀ st) (hs:Fa κ (arrOf st) lo (n+1))
  (h:∀ m st',zu a₀ lo (lo+nrem) st₀ st'->1 <= m->m <= nrem->Ri κ (arrOf st') lo m->Q (some m) st'):wpS (model prog w) A E s (zBU lo n nrem) Q st:=by
 unfold zBU
 refine wpS_bind (wpS_lift (wpAny_rule ⟨rfl,?_⟩))
 refine wpS_bind (zHE hO h0 hn (by omega) hnn kp hs fun m q u k2 a b fa hq he=>?_)
 dsimp only
 have hz:lo+m <= (arrOf u).size:=by rw[k2.ok.sz];omega
 by_cases c:q > 0
 ·rw[if_pos c]
  exact wpS_bind (wpS_reverse (zDw hO h0 hn (by omega) b (k2.trans (zu.mir k2.ok (by omega) (by omega) hn)) (fa.same (KK_mirror_equal hz he)) h))
 ·rw[if_neg c]
  exact zDw hO h0 hn (by omega) b k2 fa h
theorem zHL {st:SortSt}{lo nrem:Nat}{Q:Option Nat->SortSt->Prop} (hO:κ.OneLt) (h0:KeysOf κ a₀) (hn:lo+nrem <= a₀.size) (h1:1 <= nrem) (g:SG a₀ st)
  (h:∀ m st',zu a₀ lo (lo+nrem) st st'->1 <= m->m <= nrem->Ri κ (arrOf st') lo m->Q (some m) st'):wpS (model prog w) A E s (countRun' lo nrem) Q st:=by
 rw[zCE]
 refine wpS_bind (zDy hO h0 hn (Nat.le_refl 1) h1 g Ri.one fun n a b ri hor=>?_)
 dsimp only
 by_cases e:n=nrem
 ·rw[if_pos (by simpa using e)]
  exact wpS_pure (h n st (zu.refl g) a b ri)
 rw[if_neg (by simpa using e)]
 have hlt:=hor.resolve_left e
 by_cases c:n > 1
 ·rw[if_pos c]
  refine wpS_bind (JT hO h0 g (by omega) (by omega) ?_)
  cases hb:κ.blt (KK κ (arrOf st) lo) (KK κ (arrOf st) (lo+n - 1)) with
  | true=>simp only[if_true];exact wpS_pure (h n st (zu.refl g) a b ri)
  | false =>
   simp only[Bool.false_eq_true,if_false]
   have hz:lo+n <= (arrOf st).size:=by rw[g.sz];omega
   have hall:∀ k,lo <= k->k < lo+n->KK κ (arrOf st) k=KK κ (arrOf st) (lo+n - 1):=by
    intro k k1 k2
    have a1:=ri 0 (k - lo) (by omega) (by omega)
    have a2:=ri (k - lo) (n - 1) (by omega) (by omega)
    rw[show lo+(k - lo)=k by omega] at a1 a2
    rw[show lo+(n - 1)=lo+n - 1 by omega] at a2
    exact KeyOrd.kle_antisymm a2 (KeyOrd.kle_trans hb a1)
   refine wpS_bind (wpS_reverse (zCN hO h0 hn (by omega) (zu.mir g (Nat.le_refl _) (by omega) hn) (Fa.same (xs:=arrOf st) (Fa.more (fun i j p q=>?_) (by omega) (KeyOrd.kle_of_klt hlt)) (KK_mirror_equal hz hall)) h))
   rw[hall (lo+i) (by omega) (by omega),hall (lo+j) (by omega) (by omega)]
   exact KeyOrd.kle_refl _
 ·rw[if_neg c]
  obtain rfl:n=1:=by omega
  exact zCN hO h0 hn (by omega) (zu.refl g) (Fa.one.more (Nat.le_refl _) (KeyOrd.kle_of_klt hlt)) h
noncomputable def kyo (κ:KeyKind) (p:Keyed):κ.α:=(κ.keyOf p.1).getD κ.dflt
noncomputable def qE (κ:KeyKind) (p:Keyed):Prop:=∃ a,κ.keyOf p.1=some a
theorem zBB {st:SortSt}{p q:Keyed}{Q:Option Bool->SortSt->Prop} (hO:κ.OneLt) (kd:kindOf st=oneType') (hp:qE κ p) (hq:qE κ q) (h:Q (some (κ.blt (kyo κ p) (kyo κ q))) st):wpS (model prog w) A E s (lt' p q) Q st:=by
 obtain⟨a,ha⟩:=hp
 obtain⟨b,hb⟩:=hq
 rw[show kyo κ p=a by unfold kyo;rw[ha];rfl,show kyo κ q=b by unfold kyo;rw[hb];rfl] at h
 rw[lt'_eq]
 refine wpS_bind (wpS_get ?_)
 rw[kd,keyLt'_oneType]
 exact wpS_bind (wpS_lift (wpAny_attempt (hO prog w A _ s p.1 q.1 a b ha hb ⟨rfl,wpS_pure h⟩)))
theorem zw {st:SortSt}{arr:Array Keyed}{i:Nat}{p:Keyed}{Q:Keyed->SortSt->Prop} (e:arr[i]? = some p) (h:Q p st):wpS (model prog w) A E s (elem' arr i) Q st:=by
 rw[elem'_eq,e];exact wpS_pure h
noncomputable def yA:Bool->Keyed->Array Keyed->Nat->Nat->Nat->StateT SortSt Sem (Option Nat):=sortPriv% PySem.Builtin.gallop
noncomputable def byd (left:Bool) (key:Keyed) (arr:Array Keyed) (base i:Nat):StateT SortSt Sem (Option Bool):=do
 let x <- elem' arr (base+i)
 if left then lt' x key else return (<- lt' key x).map (!·)
noncomputable def gl3 (left:Bool) (key:Keyed) (arr:Array Keyed) (base n lo hi:Nat):StateT SortSt Sem (Option Nat):=do
 let mut lo:=lo
 let mut hi:=hi
 for _ in [0:n] do
  if lo ≥ hi then break
  let m:=lo+(hi - lo) / 2
  let some more <- byd left key arr base m | return none
  if more then lo:=m+1 else hi:=m
 return some hi
noncomputable def gl1 (left:Bool) (key:Keyed) (arr:Array Keyed) (base n hint:Nat):StateT SortSt Sem (Option Nat):=do
 let mut lastofs:=0
 let mut ofs:=1
 for _ in [0:n] do
  if ofs ≥ n - hint then break
  let some more <- byd left key arr base (hint+ofs) | return none
  if !more then break
  lastofs:=ofs
  ofs:=2 * ofs+1
 gl3 left key arr base n (hint+lastofs+1) (hint+min ofs (n - hint))
noncomputable def gl2 (left:Bool) (key:Keyed) (arr:Array Keyed) (base n hint:Nat):StateT SortSt Sem (Option Nat):=do
 let mut lastofs:=0
 let mut ofs:=1
 for _ in [0:n] do
  if ofs ≥ hint+1 then break
  let some found <- byd left key arr base (hint - ofs) | return none
  if found then break
  lastofs:=ofs
  ofs:=2 * ofs+1
 gl3 left key arr base n (hint+1 - min ofs (hint+1)) (hint - lastofs)
theorem zC1 (left:Bool) (key:Keyed) (arr:Array Keyed) (base n hint:Nat):yA left key arr base n hint=(do
  match <- byd left key arr base hint with
  | some r=>if r=true then gl1 left key arr base n hint else gl2 left key arr base n hint
  | _=>pure none):=by
 show (sortPriv% PySem.Builtin.gallop) left key arr base n hint=_
 unfold gl1 gl2 gl3
 rfl
noncomputable def By (κ:KeyKind) (left:Bool) (key:Keyed) (arr:Array Keyed) (i:Nat):Bool:=if left then κ.blt (KK κ arr i) (kyo κ key) else !κ.blt (kyo κ key) (KK κ arr i)
theorem jO {arr:Array Keyed}{i:Nat}{p:Keyed} (e:arr[i]? = some p):KK κ arr i=kyo κ p:=by unfold KK;rw[e];rfl
theorem JY {st:SortSt}{left:Bool}{key:Keyed}{arr:Array Keyed}{base i:Nat}{Q:Option Bool->SortSt->Prop} (hO:κ.OneLt) (kd:kindOf st=oneType') (ha:∀ p,p∈arr.toList->qE κ p) (hk:qE κ key) (hi:base+i < arr.size)
  (h:Q (some (By κ left key arr (base+i))) st):wpS (model prog w) A E s (byd left key arr base i) Q st:=by
 unfold byd
 have e:arr[base+i]? = some arr[base+i]:=getElem?_pos arr (base+i) hi
 have hx:qE κ arr[base+i]:=ha _ (by simp)
 refine wpS_bind (zw e ?_)
 unfold By at h
 rw[jO e] at h
 cases left with
 | true=>simp only[if_true] at h ⊢;exact zBB hO kd hx hk h
 | false=>simp only[Bool.false_eq_true,if_false] at h ⊢;exact wpS_bind (zBB hO kd hk hx (wpS_pure h))
noncomputable def GK (κ:KeyKind) (left:Bool) (key:Keyed) (arr:Array Keyed) (base n k:Nat):Prop:=k <= n/\(∀ i,i < k->By κ left key arr (base+i)=true)/\(∀ i,k <= i->i < n->By κ left key arr (base+i)=false)
theorem By.down {left:Bool}{key:Keyed}{arr:Array Keyed}{base n:Nat} (so:Ri κ arr base n) {i j:Nat} (hij:i <= j) (hj:j < n) (h:By κ left key arr (base+j)=true):By κ left key arr (base+i)=true:=by
 unfold By at *
 cases left with
 | true=>simp only[if_true] at h ⊢;exact KeyOrd.klt_of_kle_of_klt (so i j hij hj) h
 | false =>
  simp only[Bool.false_eq_true,if_false,Bool.not_eq_true'] at h ⊢
  exact KeyOrd.kle_trans (so i j hij hj) h
theorem By.up {left:Bool}{key:Keyed}{arr:Array Keyed}{base n:Nat} (so:Ri κ arr base n) {i j:Nat} (hij:i <= j) (hj:j < n) (h:By κ left key arr (base+i)=false):By κ left key arr (base+j)=false:=by
 cases e:By κ left key arr (base+j) with
 | false=>rfl
 | true=>rw[By.down so hij hj e] at h;cases h
theorem zDz {st:SortSt}{left:Bool}{key:Keyed}{arr:Array Keyed}{base n lo hi:Nat}{Q:Option Nat->SortSt->Prop} (hO:κ.OneLt) (kd:kindOf st=oneType') (ha:∀ p,p∈arr.toList->qE κ p) (hk:qE κ key) (hb:base+n <= arr.size) (so:Ri κ arr base n)
  (hlh:lo <= hi) (hn:hi <= n) (h1:∀ i,i < lo->By κ left key arr (base+i)=true) (h2:∀ i,hi <= i->i < n->By κ left key arr (base+i)=false) (h:∀ k,GK κ left key arr base n k->Q (some k) st):wpS (model prog w) A E s (gl3 left key arr base n lo hi) Q st:=by
 unfold gl3
 refine wpS_bind (wpS_mono (wpS_forRange (I:=fun x c u=>u=st/\∃ r l,c=(none,l,r)/\l <= r/\r <= n/\r - l <= n - x/\(∀ i,i < l->By κ left key arr (base+i)=true)/\(∀ i,r <= i->i < n->By κ left key arr (base+i)=false))
  (Q:=fun c u=>u=st/\∃ r l,c=(none,l,r)/\GK κ left key arr base n r) (fun x c u _ hx ⟨eu,r,l,ec,a1,a2,a3,a4,a5⟩=>?step) (fun c u ⟨eu,r,l,ec,a1,a2,a3,a4,a5⟩=>?fin) ⟨rfl,hi,lo,rfl,hlh,hn,by omega,h1,h2⟩) fun c u ⟨eu,r,l,ec,g⟩=>?post)
 case step =>
  subst eu ec
  dsimp only
  by_cases hge:l ≥ r
  ·rw[if_pos hge]
   obtain rfl:l=r:=by omega
   exact wpS_pure ⟨rfl,l,l,rfl,a2,a4,a5⟩
  rw[if_neg hge]
  refine wpS_bind (JY hO kd ha hk (by omega) ?_)
  cases hm:By κ left key arr (base+(l+(r - l) / 2)) with
  | true =>
   simp only[if_true]
   exact wpS_pure ⟨rfl,r,l+(r - l) / 2+1,rfl,by omega,a2,by omega,fun i hi=>By.down so (by omega) (by omega) hm,a5⟩
  | false =>
   simp only[Bool.false_eq_true,if_false]
   exact wpS_pure ⟨rfl,l+(r - l) / 2,l,rfl,by omega,by omega,by omega,a4,fun i b c=>By.up so b c hm⟩
 case fin =>
  obtain rfl:l=r:=by omega
  exact⟨eu,l,l,ec,a2,a4,a5⟩
 case post =>
  subst eu ec
  exact wpS_pure (h r g)
theorem zHt {st:SortSt}{left:Bool}{key:Keyed}{arr:Array Keyed}{base n hint:Nat}{Q:Option Nat->SortSt->Prop} (hO:κ.OneLt) (kd:kindOf st=oneType') (ha:∀ p,p∈arr.toList->qE κ p) (hk:qE κ key) (hb:base+n <= arr.size) (so:Ri κ arr base n)
  (hh:hint < n) (h1:By κ left key arr (base+hint)=true) (h:∀ k,GK κ left key arr base n k->Q (some k) st):wpS (model prog w) A E s (gl1 left key arr base n hint) Q st:=by
 unfold gl1
 refine wpS_bind (wpS_mono (wpS_forRange (I:=fun x c u=>u=st/\∃ l o,c=(none,l,o)/\l < o/\x+1 <= o/\hint+l < n/\By κ left key arr (base+(hint+l))=true)
  (Q:=fun c u=>u=st/\∃ l o,c=(none,l,o)/\l < o/\hint+l < n/\By κ left key arr (base+(hint+l))=true/\(n - hint <= o\/By κ left key arr (base+(hint+o))=false)) (fun x c u _ hx ⟨eu,l,o,ec,a1,a2,a3,a4⟩=>?step) (fun c u ⟨eu,l,o,ec,a1,a2,a3,a4⟩=>⟨eu,l,o,ec,a1,a3,a4,.inl (by omega)⟩)
   ⟨rfl,0,1,rfl,by omega,by omega,by omega,h1⟩) fun c u ⟨eu,l,o,ec,a1,a2,a3,a4⟩=>?post)
 case step =>
  subst eu ec
  dsimp only
  by_cases hge:o ≥ n - hint
  ·rw[if_pos hge]
   exact wpS_pure ⟨rfl,l,o,rfl,a1,a3,a4,.inl hge⟩
  rw[if_neg hge]
  refine wpS_bind (JY hO kd ha hk (by omega) ?_)
  cases hm:By κ left key arr (base+(hint+o)) with
  | true =>
   simp only[Bool.not_true,Bool.false_eq_true,if_false]
   exact wpS_pure ⟨rfl,o,2 * o+1,rfl,by omega,by omega,by omega,hm⟩
  | false =>
   simp only[Bool.not_false,if_true]
   exact wpS_pure ⟨rfl,l,o,rfl,a1,a3,a4,.inr hm⟩
 case post =>
  subst eu ec
  dsimp only
  refine zDz hO kd ha hk hb so (by omega) (by omega) (fun i hi=>By.down so (j:=hint+l) (by omega) (by omega) a3) (fun i b c=>?_) h
  rcases a4 with a4 | a4
  ·omega
  ·by_cases hge:o ≥ n - hint
   ·omega
   ·exact By.up so (by omega) c a4
theorem zG3 {st:SortSt}{left:Bool}{key:Keyed}{arr:Array Keyed}{base n hint:Nat}{Q:Option Nat->SortSt->Prop} (hO:κ.OneLt) (kd:kindOf st=oneType') (ha:∀ p,p∈arr.toList->qE κ p) (hk:qE κ key) (hb:base+n <= arr.size) (so:Ri κ arr base n)
  (hh:hint < n) (h1:By κ left key arr (base+hint)=false) (h:∀ k,GK κ left key arr base n k->Q (some k) st):wpS (model prog w) A E s (gl2 left key arr base n hint) Q st:=by
 unfold gl2
 refine wpS_bind (wpS_mono (wpS_forRange (I:=fun x c u=>u=st/\∃ l o,c=(none,l,o)/\l < o/\x+1 <= o/\l <= hint/\By κ left key arr (base+(hint - l))=false)
  (Q:=fun c u=>u=st/\∃ l o,c=(none,l,o)/\l < o/\l <= hint/\By κ left key arr (base+(hint - l))=false/\(hint+1 <= o\/By κ left key arr (base+(hint - o))=true)) (fun x c u _ hx ⟨eu,l,o,ec,a1,a2,a3,a4⟩=>?step) (fun c u ⟨eu,l,o,ec,a1,a2,a3,a4⟩=>⟨eu,l,o,ec,a1,a3,a4,.inl (by omega)⟩)
   ⟨rfl,0,1,rfl,by omega,by omega,by omega,h1⟩) fun c u ⟨eu,l,o,ec,a1,a2,a3,a4⟩=>?post)
 case step =>
  subst eu ec
  dsimp only
  by_cases hge:o ≥ hint+1
  ·rw[if_pos hge]
   exact wpS_pure ⟨rfl,l,o,rfl,a1,a3,a4,.inl hge⟩
  rw[if_neg hge]
  refine wpS_bind (JY hO kd ha hk (by omega) ?_)
  cases hm:By κ left key arr (base+(hint - o)) with
  | false =>
   simp only[Bool.false_eq_true,if_false]
   exact wpS_pure ⟨rfl,o,2 * o+1,rfl,by omega,by omega,by omega,hm⟩
  | true =>
   simp only[if_true]
   exact wpS_pure ⟨rfl,l,o,rfl,a1,a3,a4,.inr hm⟩
 case post =>
  subst eu ec
  dsimp only
  refine zDz hO kd ha hk hb so (by omega) (by omega) (fun i hi=>?_) (fun i b c=>By.up so (i:=hint - l) (by omega) c a3) h
  rcases a4 with a4 | a4
  ·omega
  ·by_cases hge:o ≥ hint+1
   ·omega
   ·exact By.down so (j:=hint - o) (by omega) (by omega) a4
theorem q9 {st:SortSt}{left:Bool}{key:Keyed}{arr:Array Keyed}{base n hint:Nat}{Q:Option Nat->SortSt->Prop} (hO:κ.OneLt) (kd:kindOf st=oneType') (ha:∀ p,p∈arr.toList->qE κ p) (hk:qE κ key) (hb:base+n <= arr.size) (so:Ri κ arr base n)
  (hh:hint < n) (h:∀ k,GK κ left key arr base n k->Q (some k) st):wpS (model prog w) A E s (yA left key arr base n hint) Q st:=by
 rw[zC1]
 refine wpS_bind (JY hO kd ha hk (by omega) ?_)
 cases hm:By κ left key arr (base+hint) with
 | true=>simp only[if_true];exact zHt hO kd ha hk hb so hh hm h
 | false=>simp only[Bool.false_eq_true,if_false];exact zG3 hO kd ha hk hb so hh hm h
structure MI (R:Keyed->Keyed->Prop) (l ra rb out:List Keyed):Prop where
 pm:(out++ra++rb).Perm l
 so:out.Pairwise R
 oa:∀ x,x∈out->∀ y,y∈ra->R x y
 ob:∀ x,x∈out->∀ y,y∈rb->R x y
 sa:ra.Pairwise R
 sb:rb.Pairwise R
theorem MI.swap {R:Keyed->Keyed->Prop}{l ra rb out:List Keyed} (h:MI R l ra rb out):MI R l rb ra out :=
 ⟨List.Perm.trans (l₂:=out++ra++rb) (by rw[List.append_assoc,List.append_assoc];exact List.perm_append_comm.append_left out) h.pm,h.so,h.ob,h.oa,h.sb,h.sa⟩
theorem MI.run {R:Keyed->Keyed->Prop}{l xs ra rb out:List Keyed} (h:MI R l (xs++ra) rb out) (c:∀ x,x∈xs->∀ y,y∈rb->R x y):MI R l ra rb (out++xs):=by
 obtain⟨pm,so,oa,ob,sa,sb⟩:=h
 rw[List.pairwise_append] at sa
 refine⟨by simpa [List.append_assoc] using pm,List.pairwise_append.mpr ⟨so,sa.1,fun x hx y hy=>oa x hx y (List.mem_append_left _ hy)⟩,fun x hx y hy=>?_,fun x hx y hy=>?_,sa.2.1,sb⟩
 ·rcases List.mem_append.mp hx with hx | hx
  ·exact oa x hx y (List.mem_append_right _ hy)
  ·exact sa.2.2 x hx y hy
 ·rcases List.mem_append.mp hx with hx | hx
  ·exact ob x hx y hy
  ·exact c x hx y hy
theorem MI.fin {R:Keyed->Keyed->Prop}{l ra rb out:List Keyed} (h:MI R l ra rb out) (c:∀ x,x∈ra->∀ y,y∈rb->R x y):(out++ra++rb).Pairwise R:=by
 obtain⟨pm,so,oa,ob,sa,sb⟩:=h
 refine List.pairwise_append.mpr ⟨List.pairwise_append.mpr ⟨so,sa,oa⟩,sb,fun x hx y hy=>?_⟩
 rcases List.mem_append.mp hx with hx | hx
 ·exact ob x hx y hy
 ·exact c x hx y hy
theorem qz {a:Array Keyed}{i:Nat}{y:Keyed} (h:y∈a.toList.drop i):∃ j,i <= j/\j < a.size/\a[j]? = some y:=by
 obtain⟨j,hj,e⟩:=List.mem_iff_getElem.mp h
 rw[List.getElem_drop] at e
 rw[List.length_drop] at hj
 have:i+j < a.size:=by rw[<- Array.length_toList];omega
 exact⟨i+j,by omega,this,by rw[getElem?_pos a (i+j) this,<- e];simp⟩
theorem zCK {a:Array Keyed}{i:Nat}{p:Keyed} (e:a[i]? = some p):a.toList.drop i=p::a.toList.drop (i+1):=by
 obtain⟨hi,e⟩:=Array.getElem?_eq_some_iff.mp e
 rw[List.drop_eq_getElem_cons (by rw[Array.length_toList];exact hi),Array.getElem_toList,e]
theorem QB {a:Array Keyed}{i k:Nat}:a.toList.drop i=(a.extract i (i+k)).toList++a.toList.drop (i+k):=by
 rw[Array.toList_extract,List.extract_eq_take_drop,<- List.drop_drop,Nat.add_sub_cancel_left,List.take_append_drop]
theorem QR {a:Array Keyed}{i k:Nat}{y:Keyed} (h:y∈(a.extract i k).toList):∃ j,i <= j/\j < k/\j < a.size/\a[j]? = some y:=by
 obtain⟨j,hj,e⟩:=List.mem_iff_getElem.mp h
 rw[Array.getElem_toList,Array.getElem_extract] at e
 rw[Array.length_toList,Array.size_extract] at hj
 have:i+j < a.size:=by omega
 exact⟨i+j,by omega,by omega,this,by rw[getElem?_pos a (i+j) this,e]⟩
theorem Qx {a:Array Keyed}{n:Nat}{p:Keyed} (e:a[n]? = some p):(a.toList.take (n+1)).reverse=p::(a.toList.take n).reverse:=by
 obtain⟨hi,e⟩:=Array.getElem?_eq_some_iff.mp e
 rw[List.take_succ_eq_append_getElem (by rw[Array.length_toList];exact hi),List.reverse_append,Array.getElem_toList,e];rfl
theorem QM {a:Array Keyed}{m n:Nat} (h:m <= n):(a.toList.take n).reverse=(a.extract m n).reverse.toList++(a.toList.take m).reverse:=by
 rw[Array.toList_reverse,<- List.reverse_append,Array.toList_extract,List.extract_eq_take_drop]
 congr 1
 obtain⟨d,rfl⟩:∃ d,n=m+d:=⟨n - m,by omega⟩
 rw[Nat.add_sub_cancel_left,List.take_add]
theorem qy {a:Array Keyed}{n:Nat}{y:Keyed} (h:y∈(a.toList.take n).reverse):∃ j,j < n/\j < a.size/\a[j]? = some y:=by
 rw[List.mem_reverse] at h
 obtain⟨j,hj,e⟩:=List.mem_iff_getElem.mp h
 rw[List.getElem_take] at e
 rw[List.length_take,Array.length_toList] at hj
 exact⟨j,by omega,by omega,by rw[getElem?_pos a j (by omega),<- e];simp⟩
structure zk (st st':SortSt):Prop where
 kd:kindOf st'=kindOf st
 ar:arrOf st'=arrOf st
 pd:pendingOf st'=pendingOf st
 fl:failedOf st'=failedOf st
theorem zk.refl (st:SortSt):zk st st:=⟨rfl,rfl,rfl,rfl⟩
noncomputable def Jg:Nat->StateT SortSt Sem Unit:=sortPriv% PySem.Builtin.setMinGallop
theorem Qe {st₀ st:SortSt}{n:Nat}{Q:Unit->SortSt->Prop} (g:zk st₀ st) (h:∀ st',zk st₀ st'->Q () st'):wpS (model prog w) A E s (Jg n) Q st:=by
 show wpS _ _ _ _ (modify fun z:SortSt=>SortSt.mk' (kindOf z) (arrOf z) (pendingOf z) n (failedOf z)) _ _
 exact wpS_modify (h _ ⟨g.kd,g.ar,g.pd,g.fl⟩)
noncomputable def Q2:Array Keyed->Array Keyed->StateT SortSt Sem (Array Keyed):=sortPriv% PySem.Builtin.mergeLo
noncomputable def Q5:Array Keyed->Array Keyed->StateT SortSt Sem (Array Keyed):=sortPriv% PySem.Builtin.mergeHi
noncomputable def dnL (x y out:Array Keyed) (i j:Nat):=out++x.extract i x.size++y.extract j y.size
noncomputable def lsL (x y out:Array Keyed) (i j:Nat):=out++y.extract j y.size++x.extract i x.size
noncomputable def dnH (x y out:Array Keyed) (i j:Nat):=x.extract 0 i++y.extract 0 j++out.reverse
noncomputable def fsH (x y out:Array Keyed) (i j:Nat):=y.extract 0 j++x.extract 0 i++out.reverse
noncomputable abbrev C7:=Option (Array Keyed)×Array Keyed×Nat×Nat×Nat×Nat×Nat
noncomputable abbrev C6:=Option (Array Keyed)×Array Keyed×Nat×Nat×Nat×Nat
noncomputable def loD (x y out:Array Keyed) (i j mg ac bc:Nat):StateT SortSt Sem (ForInStep C7):=do
 let p <- elem' x i
 if (i+1+1 == x.size)=true then pure (.done (some (lsL x y (out.push p) (i+1) j),out.push p,i+1,j,mg,ac,bc))
 else if (decide (ac < 7) && decide (bc < 7))=true then pure (.done (none,out.push p,i+1,j,mg,ac,bc))
 else pure (.yield (none,out.push p,i+1,j,mg,ac,bc))
noncomputable def loC (x y out:Array Keyed) (i j mg ac bc:Nat):StateT SortSt Sem (ForInStep C7):=do
 let p <- elem' x i
 match <- yA true p y j (y.size - j) 0 with
 | some k =>
  if k > 0 then
   if (j+k == y.size)=true then pure (.done (some (dnL x y (out++y.extract j (j+k)) i (j+k)),out++y.extract j (j+k),i,j+k,mg,ac,k))
   else loD x y (out++y.extract j (j+k)) i (j+k) mg ac k
  else loD x y out i j mg ac k
 | _=>pure (.done (some (dnL x y out i j),out,i,j,mg,ac,bc))
noncomputable def loB (x y out:Array Keyed) (i j mg ac bc:Nat):StateT SortSt Sem (ForInStep C7):=do
 let p <- elem' y j
 if (j+1 == y.size)=true then pure (.done (some (dnL x y (out.push p) i (j+1)),out.push p,i,j+1,mg,ac,bc))
 else loC x y (out.push p) i (j+1) mg ac bc
noncomputable def loA (x y out:Array Keyed) (i j mg ac bc:Nat):StateT SortSt Sem (ForInStep C7):=do
 Jg mg
 let p <- elem' y j
 match <- yA false p x i (x.size - i) 0 with
 | some k =>
  if k > 0 then
   if (i+k+1 == x.size)=true then pure (.done (some (lsL x y (out++x.extract i (i+k)) (i+k) j),out++x.extract i (i+k),i+k,j,mg,k,bc))
   else if (i+k == x.size)=true then pure (.done (some (dnL x y (out++x.extract i (i+k)) (i+k) j),out++x.extract i (i+k),i+k,j,mg,k,bc))
   else loB x y (out++x.extract i (i+k)) (i+k) j mg k bc
  else loB x y out i j mg k bc
 | _=>pure (.done (some (dnL x y out i j),out,i,j,mg,ac,bc))
noncomputable def lo1 (x y:Array Keyed) (mg:Nat) (c:C6):StateT SortSt Sem (ForInStep C6):=do
 let p <- elem' y c.2.2.2.1
 let q <- elem' x c.2.2.1
 match <- lt' p q with
 | some r =>
  if r=true then do
   let p <- elem' y c.2.2.2.1
   if (c.2.2.2.1+1 == y.size)=true then pure (.done (some (dnL x y (c.2.1.push p) c.2.2.1 (c.2.2.2.1+1)),c.2.1.push p,c.2.2.1,c.2.2.2.1+1,0,c.2.2.2.2.2+1))
   else if c.2.2.2.2.2+1 ≥ mg then pure (.done (none,c.2.1.push p,c.2.2.1,c.2.2.2.1+1,0,c.2.2.2.2.2+1))
   else pure (.yield (none,c.2.1.push p,c.2.2.1,c.2.2.2.1+1,0,c.2.2.2.2.2+1))
  else do
   let q <- elem' x c.2.2.1
   if (c.2.2.1+1+1 == x.size)=true then pure (.done (some (lsL x y (c.2.1.push q) (c.2.2.1+1) c.2.2.2.1),c.2.1.push q,c.2.2.1+1,c.2.2.2.1,c.2.2.2.2.1+1,0))
   else if c.2.2.2.2.1+1 ≥ mg then pure (.done (none,c.2.1.push q,c.2.2.1+1,c.2.2.2.1,c.2.2.2.2.1+1,0))
   else pure (.yield (none,c.2.1.push q,c.2.2.1+1,c.2.2.2.1,c.2.2.2.2.1+1,0))
 | _=>pure (.done (some (dnL x y c.2.1 c.2.2.1 c.2.2.2.1),c.2.1,c.2.2.1,c.2.2.2.1,c.2.2.2.2.1,c.2.2.2.2.2))
noncomputable abbrev C5:=Option (Array Keyed)×Array Keyed×Nat×Nat×Nat
noncomputable def loO (x y:Array Keyed) (c:C5):StateT SortSt Sem (ForInStep C5):=do
 let d <- forIn [0:x.size+y.size] ((none,c.2.1,c.2.2.1,c.2.2.2.1,0,0):C6) fun _ d=>lo1 x y c.2.2.2.2 d
 match d.1 with
 | some r=>pure (.done (some r,d.2.1,d.2.2.1,d.2.2.2.1,c.2.2.2.2))
 | none=>do
  liftM (rule "list.sort.gallop")
  let e <- forIn [0:x.size+y.size] ((none,d.2.1,d.2.2.1,d.2.2.2.1,c.2.2.2.2+1,d.2.2.2.2.1,d.2.2.2.2.2):C7) fun _ e =>
   if e.2.2.2.2.1 > 1 then loA x y e.2.1 e.2.2.1 e.2.2.2.1 (e.2.2.2.2.1 - 1) e.2.2.2.2.2.1 e.2.2.2.2.2.2 else loA x y e.2.1 e.2.2.1 e.2.2.2.1 e.2.2.2.2.1 e.2.2.2.2.2.1 e.2.2.2.2.2.2
  match e.1 with
  | some r=>pure (.done (some r,e.2.1,e.2.2.1,e.2.2.2.1,e.2.2.2.2.1))
  | none=>do
   Jg (e.2.2.2.2.1+1)
   pure (.yield (none,e.2.1,e.2.2.1,e.2.2.2.1,e.2.2.2.2.1+1))
theorem zCD (x y:Array Keyed):Q2 x y=(do
 liftM (rule "list.sort.merge-lo")
 let p <- elem' y 0
 if (1 == y.size)=true then pure (dnL x y #[p] 0 1)
 else if (0+1 == x.size)=true then pure (lsL x y #[p] 0 1)
 else do
  let z <- get
  let c <- forIn [0:x.size+y.size] ((none,#[p],0,1,gallopOf z):C5) fun _ c=>loO x y c
  match c.1 with
  | some r=>pure r
  | none=>liftM (unsupported "internal:list.sort.merge-bound" : Sem (Array Keyed))):=by
 show (sortPriv% PySem.Builtin.mergeLo) x y=_
 refine congrArg (bind _) (funext fun _=>congrArg (bind _) (funext fun p=>ite_congr rfl (fun _=>rfl) fun _=>ite_congr rfl (fun _=>rfl) fun _=>congrArg (bind _) (funext fun z=>?_)))
 refine congr (congrArg bind (congrArg _ (funext fun _=>funext fun c=>congrArg (bind _) (funext fun d=>?_)))) (funext fun c=>?_)
 ·obtain⟨d1,d⟩:=d
  cases d1 with
  | some r=>rfl
  | none=>exact congrArg (bind _) (funext fun _=>congrArg (bind _) (funext fun e=>by obtain⟨e1,e⟩:=e;cases e1<;>rfl))
 ·obtain⟨c1,c⟩:=c
  cases c1<;>rfl
noncomputable def kl (κ:KeyKind) (p q:Keyed):Prop:=κ.kle (kyo κ p) (kyo κ q)
structure MG (κ:KeyKind) (x y:Array Keyed):Prop where
 kx:∀ p,p∈x.toList->qE κ p
 ky:∀ p,p∈y.toList->qE κ p
 rx:Ri κ x 0 x.size
 ry:Ri κ y 0 y.size
 nx:1 <= x.size
 ny:1 <= y.size
 fst:∀ p q,y[0]? = some p->x[0]? = some q->kl κ p q
 lst:∀ p q,y[y.size - 1]? = some p->x[x.size - 1]? = some q->kl κ p q
noncomputable def Rs (κ:KeyKind) (x y r:Array Keyed):Prop:=r.toList.Perm (x.toList++y.toList)/\r.toList.Pairwise (kl κ)
theorem Ri.at {x:Array Keyed} (r:Ri κ x 0 x.size) {i j:Nat}{p q:Keyed} (hij:i <= j) (hp:x[i]? = some p) (hq:x[j]? = some q):kl κ p q:=by
 have hj:j < x.size:=(Array.getElem?_eq_some_iff.mp hq).1
 have:=r i j hij hj
 rwa [Nat.zero_add,Nat.zero_add,jO hp,jO hq] at this
theorem Ri.tail {x:Array Keyed} (r:Ri κ x 0 x.size) (i n:Nat) (h:i+n <= x.size):Ri κ x i n:=fun a b c d=>by
 have:=r (i+a) (i+b) (by omega) (by omega)
 rwa [Nat.zero_add,Nat.zero_add] at this
theorem Ri.pair {x:Array Keyed} (r:Ri κ x 0 x.size):x.toList.Pairwise (kl κ):=by
 rw[List.pairwise_iff_getElem]
 intro i j hi hj hij
 rw[Array.length_toList] at hi hj
 exact r.at (Nat.le_of_lt hij) (by rw[getElem?_pos x i hi];simp) (by rw[getElem?_pos x j hj];simp)
theorem yu {x:Array Keyed} (h:∀ p,p∈x.toList->qE κ p) {i:Nat}{p:Keyed} (e:x[i]? = some p):qE κ p:=by
 obtain⟨hi,rfl⟩:=Array.getElem?_eq_some_iff.mp e
 exact h _ (by simp)
theorem jB (x:Array Keyed) {i:Nat} (h:i < x.size):∃ p,x[i]? = some p:=⟨_,getElem?_pos x i h⟩
noncomputable def ML (κ:KeyKind) (x y:Array Keyed) (i j:Nat) (out:Array Keyed):Prop:=MI (kl κ) (x.toList++y.toList) (x.toList.drop i) (y.toList.drop j) out.toList
section
variable {x y out:Array Keyed}{i j:Nat}{p:Keyed}
theorem ML.a (h:ML κ x y i j out) (e:x[i]? = some p) (c:∀ m q,j <= m->y[m]? = some q->kl κ p q):ML κ x y (i+1) j (out.push p):=by
 unfold ML at *
 rw[zCK e] at h
 have:=MI.run (xs:=[p]) h fun z hz q hq=>by
  obtain⟨m,a,_,b⟩:=qz hq
  rw[List.mem_singleton.mp hz];exact c m q a b
 rwa [Array.toList_push]
theorem ML.b (h:ML κ x y i j out) (e:y[j]? = some p) (c:∀ m q,i <= m->x[m]? = some q->kl κ p q):ML κ x y i (j+1) (out.push p):=by
 unfold ML at *
 rw[zCK e] at h
 have:=MI.run (xs:=[p]) h.swap fun z hz q hq=>by
  obtain⟨m,a,_,b⟩:=qz hq
  rw[List.mem_singleton.mp hz];exact c m q a b
 rw[Array.toList_push];exact this.swap
theorem ML.as {k:Nat} (h:ML κ x y i j out) (c:∀ m q,i <= m->m < i+k->x[m]? = some q->∀ m' q',j <= m'->y[m']? = some q'->kl κ q q'):ML κ x y (i+k) j (out++x.extract i (i+k)):=by
 unfold ML at *
 rw[QB (k:=k)] at h
 have:=MI.run h fun z hz q hq=>by
  obtain⟨m,a,_,b⟩:=qz hq
  obtain⟨m',a',b',_,c'⟩:=QR hz
  exact c m' z a' b' c' m q a b
 rwa [Array.toList_append]
theorem ML.bs {k:Nat} (h:ML κ x y i j out) (c:∀ m q,j <= m->m < j+k->y[m]? = some q->∀ m' q',i <= m'->x[m']? = some q'->kl κ q q'):ML κ x y i (j+k) (out++y.extract j (j+k)):=by
 unfold ML at *
 have h:=h.swap
 rw[QB (k:=k)] at h
 have:=MI.run h fun z hz q hq=>by
  obtain⟨m,a,_,b⟩:=qz hq
  obtain⟨m',a',b',_,c'⟩:=QR hz
  exact c m' z a' b' c' m q a b
 rw[Array.toList_append];exact this.swap
theorem Z7 (z:Array Keyed) (i:Nat):(z.extract i z.size).toList=z.toList.drop i:=by
 rw[Array.toList_extract,List.extract_eq_take_drop,List.take_of_length_le (by rw[List.length_drop,Array.length_toList];omega)]
theorem ML.dn (h:ML κ x y i j out) (c:i=x.size\/j=y.size):Rs κ x y (dnL x y out i j):=by
 unfold Rs dnL
 rw[Array.toList_append,Array.toList_append,Z7,Z7]
 refine⟨h.pm,h.fin fun a ha b hb=>?_⟩
 obtain⟨m,a1,a2,a3⟩:=qz ha
 obtain⟨m',b1,b2,b3⟩:=qz hb
 omega
theorem ML.ls (g:MG κ x y) (h:ML κ x y i j out) (c:i+1=x.size):Rs κ x y (lsL x y out i j):=by
 unfold Rs lsL
 rw[Array.toList_append,Array.toList_append,Z7,Z7]
 refine⟨h.swap.pm,h.swap.fin fun a ha b hb=>?_⟩
 obtain⟨m,a1,a2,a3⟩:=qz ha
 obtain⟨m',b1,b2,b3⟩:=qz hb
 obtain rfl:m'=x.size - 1:=by omega
 obtain⟨l,el⟩:=jB y (i:=y.size - 1) (by omega)
 exact KeyOrd.kle_trans (g.ry.at (show m <= y.size - 1 by omega) a3 el) (g.lst l b el b3)
end
noncomputable def Lo7 (κ:KeyKind) (st₀:SortSt) (x y:Array Keyed) (b:Nat) (c:C7) (u:SortSt):Prop :=
 zk st₀ u/\match c.1 with
  | some r=>Rs κ x y r
  | none=>ML κ x y c.2.2.1 c.2.2.2.1 c.2.1/\c.2.2.1+1 < x.size/\c.2.2.2.1 < y.size/\b <= c.2.2.1+c.2.2.2.1
noncomputable def St7 (κ:KeyKind) (st₀:SortSt) (x y:Array Keyed) (b:Nat) (r:ForInStep C7) (u:SortSt):Prop :=
 match r with
 | .done c=>Lo7 κ st₀ x y b c u
 | .yield c=>c.1=none/\Lo7 κ st₀ x y b c u
section
variable {st₀ st:SortSt}{x y out:Array Keyed}{i j mg ac bc b:Nat}
theorem zD4 (g:MG κ x y) (sg:zk st₀ st) (h:ML κ x y i j out) (hi:i+1 < x.size) (hj:j < y.size) (hb:b <= i+j) (c:∀ p,x[i]? = some p->∀ m q,j <= m->y[m]? = some q->kl κ p q) :
  wpS (model prog w) A E s (loD x y out i j mg ac bc) (St7 κ st₀ x y b) st:=by
 unfold loD
 obtain⟨p,e⟩:=jB x (show i < x.size by omega)
 have h2:=h.a e (c p e)
 refine wpS_bind (zw e ?_)
 by_cases c1:i+1+1=x.size
 ·rw[if_pos (by simpa using c1)]
  exact wpS_pure ⟨sg,h2.ls g c1⟩
 rw[if_neg (by simpa using c1)]
 split
 ·exact wpS_pure ⟨sg,h2,by show i+1+1 < _;omega,hj,by show b <= i+1+j;omega⟩
 ·exact wpS_pure ⟨rfl,sg,h2,by show i+1+1 < _;omega,hj,by show b <= i+1+j;omega⟩
theorem zIJ (hO:κ.OneLt) (kd:kindOf st=oneType') (g:MG κ x y) (sg:zk st₀ st) (h:ML κ x y i j out) (hi:i+1 < x.size) (hj:j < y.size) (hb:b <= i+j) :
  wpS (model prog w) A E s (loC x y out i j mg ac bc) (St7 κ st₀ x y b) st:=by
 unfold loC
 obtain⟨p,e⟩:=jB x (show i < x.size by omega)
 refine wpS_bind (zw e (wpS_bind (q9 hO kd g.ky (yu g.kx e) (by omega) (g.ry.tail j _ (by omega)) (by omega) fun k ⟨k1,k2,k3⟩=>?_)))
 have f2:∀ m q,j <= m->m < j+k->y[m]? = some q->∀ m' q',i <= m'->x[m']? = some q'->kl κ q q':=fun m q a b c m' q' a' b'=>by
  have:=k2 (m - j) (by omega)
  unfold By at this
  rw[if_pos rfl,show j+(m - j)=m by omega,jO c] at this
  exact KeyOrd.kle_trans (KeyOrd.kle_of_klt this) (g.rx.at a' e b')
 have f3:∀ m q,j+k <= m->y[m]? = some q->kl κ p q:=fun m q a b=>by
  have hm:m < y.size:=(Array.getElem?_eq_some_iff.mp b).1
  have:=k3 (m - j) (by omega) (by omega)
  unfold By at this
  rw[if_pos rfl,show j+(m - j)=m by omega,jO b] at this
  exact this
 dsimp only
 by_cases c1:k > 0
 ·rw[if_pos c1]
  have h2:=h.bs f2
  by_cases c2:j+k=y.size
  ·rw[if_pos (by simpa using c2)]
   exact wpS_pure ⟨sg,h2.dn (.inr c2)⟩
  rw[if_neg (by simpa using c2)]
  exact zD4 g sg h2 hi (by omega) (by omega) fun p' e' m q a b=>by rw[e] at e';cases e';exact f3 m q a b
 ·rw[if_neg c1]
  obtain rfl:k=0:=by omega
  exact zD4 g sg h hi hj hb fun p' e' m q a b=>by rw[e] at e';cases e';exact f3 m q (by omega) b
theorem zEC (hO:κ.OneLt) (kd:kindOf st=oneType') (g:MG κ x y) (sg:zk st₀ st) (h:ML κ x y i j out) (hi:i+1 < x.size) (hj:j < y.size) (hb:b <= i+j) (c:∀ p,y[j]? = some p->∀ m q,i <= m->x[m]? = some q->kl κ p q) :
  wpS (model prog w) A E s (loB x y out i j mg ac bc) (St7 κ st₀ x y b) st:=by
 unfold loB
 obtain⟨p,e⟩:=jB y hj
 have h2:=h.b e (c p e)
 refine wpS_bind (zw e ?_)
 by_cases c1:j+1=y.size
 ·rw[if_pos (by simpa using c1)]
  exact wpS_pure ⟨sg,h2.dn (.inr c1)⟩
 rw[if_neg (by simpa using c1)]
 exact zIJ hO kd g sg h2 hi (by omega) (by omega)
theorem zHK (hO:κ.OneLt) (kd:kindOf st₀=oneType') (g:MG κ x y) (sg:zk st₀ st) (h:ML κ x y i j out) (hi:i+1 < x.size) (hj:j < y.size) (hb:b <= i+j) :
  wpS (model prog w) A E s (loA x y out i j mg ac bc) (St7 κ st₀ x y b) st:=by
 unfold loA
 obtain⟨p,e⟩:=jB y hj
 refine wpS_bind (Qe sg fun u sg=>?_)
 have kd:kindOf u=oneType':=sg.kd.trans kd
 refine wpS_bind (zw e (wpS_bind (q9 hO kd g.kx (yu g.ky e) (by omega) (g.rx.tail i _ (by omega)) (by omega) fun k ⟨k1,k2,k3⟩=>?_)))
 have f2:∀ m q,i <= m->m < i+k->x[m]? = some q->∀ m' q',j <= m'->y[m']? = some q'->kl κ q q':=fun m q a b c m' q' a' b'=>by
  have:=k2 (m - i) (by omega)
  unfold By at this
  rw[if_neg (by decide),show i+(m - i)=m by omega,jO c,Bool.not_eq_true'] at this
  exact KeyOrd.kle_trans (show κ.kle (kyo κ q) (kyo κ p) from this) (g.ry.at a' e b')
 have f3:∀ m q,i+k <= m->x[m]? = some q->kl κ p q:=fun m q a b=>by
  have hm:m < x.size:=(Array.getElem?_eq_some_iff.mp b).1
  have:=k3 (m - i) (by omega) (by omega)
  unfold By at this
  rw[if_neg (by decide),show i+(m - i)=m by omega,jO b,Bool.not_eq_false'] at this
  exact KeyOrd.kle_of_klt this
 dsimp only
 by_cases c1:k > 0
 ·rw[if_pos c1]
  have h2:=h.as f2
  by_cases c2:i+k+1=x.size
  ·rw[if_pos (by simpa using c2)]
   exact wpS_pure ⟨sg,h2.ls g c2⟩
  rw[if_neg (by simpa using c2)]
  by_cases c3:i+k=x.size
  ·rw[if_pos (by simpa using c3)]
   exact wpS_pure ⟨sg,h2.dn (.inl c3)⟩
  rw[if_neg (by simpa using c3)]
  exact zEC hO kd g sg h2 (by omega) hj (by omega) fun p' e' m q a b=>by rw[e] at e';cases e';exact f3 m q a b
 ·rw[if_neg c1]
  obtain rfl:k=0:=by omega
  exact zEC hO kd g sg h hi hj hb fun p' e' m q a b=>by rw[e] at e';cases e';exact f3 m q (by omega) b
noncomputable def Lo6 (κ:KeyKind) (st₀:SortSt) (x y:Array Keyed) (b:Nat) (c:C6) (u:SortSt):Prop :=
 zk st₀ u/\match c.1 with
  | some r=>Rs κ x y r
  | none=>ML κ x y c.2.2.1 c.2.2.2.1 c.2.1/\c.2.2.1+1 < x.size/\c.2.2.2.1 < y.size/\b <= c.2.2.1+c.2.2.2.1
noncomputable def St6 (κ:KeyKind) (st₀:SortSt) (x y:Array Keyed) (b:Nat) (r:ForInStep C6) (u:SortSt):Prop :=
 match r with
 | .done c=>Lo6 κ st₀ x y b c u
 | .yield c=>c.1=none/\Lo6 κ st₀ x y b c u
theorem zG5 {c:C6} (hO:κ.OneLt) (kd:kindOf st₀=oneType') (g:MG κ x y) (sg:zk st₀ st) (h:ML κ x y c.2.2.1 c.2.2.2.1 c.2.1) (hi:c.2.2.1+1 < x.size) (hj:c.2.2.2.1 < y.size) (hb:b <= c.2.2.1+c.2.2.2.1+1) :
  wpS (model prog w) A E s (lo1 x y mg c) (St6 κ st₀ x y b) st:=by
 unfold lo1
 obtain⟨p,e⟩:=jB y hj
 obtain⟨q,e'⟩:=jB x (show c.2.2.1 < x.size by omega)
 have kd:kindOf st=oneType':=sg.kd.trans kd
 refine wpS_bind (zw e (wpS_bind (zw e' (wpS_bind (zBB hO kd (yu g.ky e) (yu g.kx e') ?_)))))
 cases hb:κ.blt (kyo κ p) (kyo κ q) with
 | true =>
  dsimp only
  rw[if_pos rfl]
  have h2:=h.b e fun m z a b=>KeyOrd.kle_trans (KeyOrd.kle_of_klt hb) (g.rx.at a e' b)
  refine wpS_bind (zw e ?_)
  by_cases c1:c.2.2.2.1+1=y.size
  ·rw[if_pos (by simpa using c1)]
   exact wpS_pure ⟨sg,h2.dn (.inr c1)⟩
  rw[if_neg (by simpa using c1)]
  split
  ·exact wpS_pure ⟨sg,h2,hi,by show c.2.2.2.1+1 < _;omega,by show b <= c.2.2.1+(c.2.2.2.1+1);omega⟩
  ·exact wpS_pure ⟨rfl,sg,h2,hi,by show c.2.2.2.1+1 < _;omega,by show b <= c.2.2.1+(c.2.2.2.1+1);omega⟩
 | false =>
  dsimp only
  rw[if_neg (by decide)]
  have h2:=h.a e' fun m z a b=>KeyOrd.kle_trans hb (g.ry.at a e b)
  refine wpS_bind (zw e' ?_)
  by_cases c1:c.2.2.1+1+1=x.size
  ·rw[if_pos (by simpa using c1)]
   exact wpS_pure ⟨sg,h2.ls g c1⟩
  rw[if_neg (by simpa using c1)]
  split
  ·exact wpS_pure ⟨sg,h2,by show c.2.2.1+1+1 < _;omega,hj,by show b <= c.2.2.1+1+c.2.2.2.1;omega⟩
  ·exact wpS_pure ⟨rfl,sg,h2,by show c.2.2.1+1+1 < _;omega,hj,by show b <= c.2.2.1+1+c.2.2.2.1;omega⟩
noncomputable def Lo5 (κ:KeyKind) (st₀:SortSt) (x y:Array Keyed) (b:Nat) (c:C5) (u:SortSt):Prop :=
 zk st₀ u/\match c.1 with
  | some r=>Rs κ x y r
  | none=>ML κ x y c.2.2.1 c.2.2.2.1 c.2.1/\c.2.2.1+1 < x.size/\c.2.2.2.1 < y.size/\b <= c.2.2.1+c.2.2.2.1
theorem zHf {c:C5}{R:ForInStep C5->SortSt->Prop} (hO:κ.OneLt) (kd:kindOf st₀=oneType') (g:MG κ x y) (sg:zk st₀ st) (h:ML κ x y c.2.2.1 c.2.2.2.1 c.2.1) (hi:c.2.2.1+1 < x.size) (hj:c.2.2.2.1 < y.size) (hb:b <= c.2.2.1+c.2.2.2.1)
  (hd:∀ r d u,zk st₀ u->Rs κ x y r->R (.done (some r,d)) u) (hy:∀ d u,Lo5 κ st₀ x y (b+1) (none,d) u->R (.yield (none,d)) u) :
  wpS (model prog w) A E s (loO x y c) R st:=by
 unfold loO
 refine wpS_bind (wpS_mono (wpS_forRange (I:=fun k d u=>d.1=none/\Lo6 κ st₀ x y (b+min k 1) d u) (Q:=Lo6 κ st₀ x y (b+1)) (fun k d u _ hk ⟨n,sg,d2⟩=>?step) (fun d u ⟨n,dd⟩=>?fin) ⟨rfl,sg,h,hi,hj,hb⟩) fun d u dd=>?post)
 case step =>
  rw[n] at d2
  refine wpS_mono (zG5 (b:=b+1) hO kd g sg d2.1 d2.2.1 d2.2.2.1 (by have:=d2.2.2.2;omega)) fun r u h=>?_
  rw[show min (k+1) 1=1 by omega]
  cases r<;>exact h
 case fin=>rwa [show min (max 0 (x.size+y.size)) 1=1 by have:=g.nx;omega] at dd
 case post =>
  obtain⟨d1,d⟩:=d
  cases d1 with
  | some r=>exact wpS_pure (hd r _ u dd.1 dd.2)
  | none =>
   refine wpS_bind (wpS_lift (wpAny_rule ⟨rfl,?_⟩))
   refine wpS_bind (wpS_mono (wpS_forRange (I:=fun k e u=>e.1=none/\Lo7 κ st₀ x y (b+1) e u) (Q:=Lo7 κ st₀ x y (b+1)) (fun k e u _ hk ⟨n,sg,e2⟩=>?step2) (fun e u ⟨n,ee⟩=>ee) ⟨rfl,dd⟩) fun e u ee=>?post2)
   case step2 =>
    rw[n] at e2
    split<;>exact wpS_mono (zHK hO kd g sg e2.1 e2.2.1 e2.2.2.1 e2.2.2.2) fun r u h=>by cases r<;>exact h
   case post2 =>
    obtain⟨e1,e⟩:=e
    cases e1 with
    | some r=>exact wpS_pure (hd r _ u ee.1 ee.2)
    | none=>exact wpS_bind (Qe ee.1 fun u sg=>wpS_pure (hy _ u ⟨sg,ee.2⟩))
theorem zCh {Q:Array Keyed->SortSt->Prop} (hO:κ.OneLt) (kd:kindOf st=oneType') (g:MG κ x y) (h:∀ r u,zk st u->Rs κ x y r->Q r u):wpS (model prog w) A E s (Q2 x y) Q st:=by
 rw[zCD]
 refine wpS_bind (wpS_lift (wpAny_rule ⟨rfl,?_⟩))
 obtain⟨p,e⟩:=jB y (show 0 < y.size from g.ny)
 have g1:=g.nx
 have g2:=g.ny
 refine wpS_bind (zw e ?_)
 have h1:ML κ x y 0 1 #[p]:=by
  have h0:ML κ x y 0 0 #[]:=⟨by simp,List.Pairwise.nil,fun _ h=>by simp at h,fun _ h=>by simp at h,by rw[List.drop_zero];exact g.rx.pair,by rw[List.drop_zero];exact g.ry.pair⟩
  obtain⟨q,e'⟩:=jB x (show 0 < x.size from g.nx)
  exact h0.b e fun m z a b=>KeyOrd.kle_trans (g.fst p q e e') (g.rx.at a e' b)
 by_cases c1:1=y.size
 ·rw[if_pos (by simpa using c1)]
  exact wpS_pure (h _ _ (zk.refl _) (h1.dn (.inr c1)))
 rw[if_neg (by simpa using c1)]
 by_cases c2:0+1=x.size
 ·rw[if_pos (by simpa using c2)]
  exact wpS_pure (h _ _ (zk.refl _) (h1.ls g c2))
 rw[if_neg (by simpa using c2)]
 refine wpS_bind (wpS_get ?_)
 refine wpS_bind (wpS_mono (wpS_forRange (I:=fun k c u=>c.1=none/\Lo5 κ st x y (k+1) c u) (Q:=fun c u=>∃ r d,c=(some r,d)/\zk st u/\Rs κ x y r) (fun k c u _ hk ⟨n,sg,c2⟩=>?step) (fun c u ⟨n,sg,c2⟩=>?fin) ⟨rfl,zk.refl _,h1,by show 0+1 < _;omega,by show 1 < _;omega,by show 0+1 <= 0+1;omega⟩) fun c u ⟨r,d,ec,sg,rs⟩=>?post)
 case step =>
  rw[n] at c2
  exact zHf (b:=k+1) hO kd g sg c2.1 c2.2.1 c2.2.2.1 c2.2.2.2 (fun r d u sg rs=>⟨r,d,rfl,sg,rs⟩) fun d u l=>⟨rfl,l⟩
 case fin=>rw[n] at c2;have:=c2.2;omega
 case post=>subst ec;exact wpS_pure (h r u sg rs)
end
noncomputable abbrev H7:=Option (Array Keyed)×Nat×Nat×Array Keyed×Nat×Nat×Nat
noncomputable abbrev H6:=Option (Array Keyed)×Nat×Nat×Array Keyed×Nat×Nat
noncomputable abbrev H5:=Option (Array Keyed)×Nat×Nat×Array Keyed×Nat
noncomputable def hiD (x y out:Array Keyed) (i j mg ac bc:Nat):StateT SortSt Sem (ForInStep H7):=do
 let p <- elem' x (i - 1)
 if (i - 1 == 0)=true then pure (.done (some (dnH x y (out.push p) (i - 1) j),i - 1,j,out.push p,mg,ac,bc))
 else if (decide (ac < 7) && decide (bc < 7))=true then pure (.done (none,i - 1,j,out.push p,mg,ac,bc))
 else pure (.yield (none,i - 1,j,out.push p,mg,ac,bc))
noncomputable def hiC (x y out:Array Keyed) (i j mg ac bc:Nat):StateT SortSt Sem (ForInStep H7):=do
 let p <- elem' x (i - 1)
 match <- yA true p y 0 j (j - 1) with
 | some t =>
  if j - t > 0 then
   if (t == 1)=true then pure (.done (some (fsH x y (out++(y.extract t j).reverse) i t),i,t,out++(y.extract t j).reverse,mg,ac,j - t))
   else if (t == 0)=true then pure (.done (some (dnH x y (out++(y.extract t j).reverse) i t),i,t,out++(y.extract t j).reverse,mg,ac,j - t))
   else hiD x y (out++(y.extract t j).reverse) i t mg ac (j - t)
  else hiD x y out i j mg ac (j - t)
 | _=>pure (.done (some (dnH x y out i j),i,j,out,mg,ac,bc))
noncomputable def hiB (x y out:Array Keyed) (i j mg ac bc:Nat):StateT SortSt Sem (ForInStep H7):=do
 let p <- elem' y (j - 1)
 if (j - 1 == 1)=true then pure (.done (some (fsH x y (out.push p) i (j - 1)),i,j - 1,out.push p,mg,ac,bc))
 else hiC x y (out.push p) i (j - 1) mg ac bc
noncomputable def hiA (x y out:Array Keyed) (i j mg ac bc:Nat):StateT SortSt Sem (ForInStep H7):=do
 Jg mg
 let p <- elem' y (j - 1)
 match <- yA false p x 0 i (i - 1) with
 | some t =>
  if i - t > 0 then
   if (t == 0)=true then pure (.done (some (dnH x y (out++(x.extract t i).reverse) t j),t,j,out++(x.extract t i).reverse,mg,i - t,bc))
   else hiB x y (out++(x.extract t i).reverse) t j mg (i - t) bc
  else hiB x y out i j mg (i - t) bc
 | _=>pure (.done (some (dnH x y out i j),i,j,out,mg,ac,bc))
noncomputable def hi1 (x y:Array Keyed) (mg:Nat) (c:H6):StateT SortSt Sem (ForInStep H6):=do
 let p <- elem' y (c.2.2.1 - 1)
 let q <- elem' x (c.2.1 - 1)
 match <- lt' p q with
 | some r =>
  if r=true then do
   let q <- elem' x (c.2.1 - 1)
   if (c.2.1 - 1 == 0)=true then pure (.done (some (dnH x y (c.2.2.2.1.push q) (c.2.1 - 1) c.2.2.1),c.2.1 - 1,c.2.2.1,c.2.2.2.1.push q,c.2.2.2.2.1+1,0))
   else if c.2.2.2.2.1+1 ≥ mg then pure (.done (none,c.2.1 - 1,c.2.2.1,c.2.2.2.1.push q,c.2.2.2.2.1+1,0))
   else pure (.yield (none,c.2.1 - 1,c.2.2.1,c.2.2.2.1.push q,c.2.2.2.2.1+1,0))
  else do
   let p <- elem' y (c.2.2.1 - 1)
   if (c.2.2.1 - 1 == 1)=true then pure (.done (some (fsH x y (c.2.2.2.1.push p) c.2.1 (c.2.2.1 - 1)),c.2.1,c.2.2.1 - 1,c.2.2.2.1.push p,0,c.2.2.2.2.2+1))
   else if c.2.2.2.2.2+1 ≥ mg then pure (.done (none,c.2.1,c.2.2.1 - 1,c.2.2.2.1.push p,0,c.2.2.2.2.2+1))
   else pure (.yield (none,c.2.1,c.2.2.1 - 1,c.2.2.2.1.push p,0,c.2.2.2.2.2+1))
 | _=>pure (.done (some (dnH x y c.2.2.2.1 c.2.1 c.2.2.1),c.2.1,c.2.2.1,c.2.2.2.1,c.2.2.2.2.1,c.2.2.2.2.2))
noncomputable def hiO (x y:Array Keyed) (c:H5):StateT SortSt Sem (ForInStep H5):=do
 let d <- forIn [0:x.size+y.size] ((none,c.2.1,c.2.2.1,c.2.2.2.1,0,0):H6) fun _ d=>hi1 x y c.2.2.2.2 d
 match d.1 with
 | some r=>pure (.done (some r,d.2.1,d.2.2.1,d.2.2.2.1,c.2.2.2.2))
 | none=>do
  liftM (rule "list.sort.gallop")
  let e <- forIn [0:x.size+y.size] ((none,d.2.1,d.2.2.1,d.2.2.2.1,c.2.2.2.2+1,d.2.2.2.2.1,d.2.2.2.2.2):H7) fun _ e =>
   if e.2.2.2.2.1 > 1 then hiA x y e.2.2.2.1 e.2.1 e.2.2.1 (e.2.2.2.2.1 - 1) e.2.2.2.2.2.1 e.2.2.2.2.2.2 else hiA x y e.2.2.2.1 e.2.1 e.2.2.1 e.2.2.2.2.1 e.2.2.2.2.2.1 e.2.2.2.2.2.2
  match e.1 with
  | some r=>pure (.done (some r,e.2.1,e.2.2.1,e.2.2.2.1,e.2.2.2.2.1))
  | none=>do
   Jg (e.2.2.2.2.1+1)
   pure (.yield (none,e.2.1,e.2.2.1,e.2.2.2.1,e.2.2.2.2.1+1))
theorem zCG (x y:Array Keyed):Q5 x y=(do
 liftM (rule "list.sort.merge-hi")
 let p <- elem' x (x.size - 1)
 if (x.size - 1 == 0)=true then pure (dnH x y #[p] (x.size - 1) y.size)
 else if (y.size == 1)=true then pure (fsH x y #[p] (x.size - 1) y.size)
 else do
  let z <- get
  let c <- forIn [0:x.size+y.size] ((none,x.size - 1,y.size,#[p],gallopOf z):H5) fun _ c=>hiO x y c
  match c.1 with
  | some r=>pure r
  | none=>liftM (unsupported "internal:list.sort.merge-bound" : Sem (Array Keyed))):=by
 show (sortPriv% PySem.Builtin.mergeHi) x y=_
 refine congrArg (bind _) (funext fun _=>congrArg (bind _) (funext fun p=>ite_congr rfl (fun _=>rfl) fun _=>ite_congr rfl (fun _=>rfl) fun _=>congrArg (bind _) (funext fun z=>?_)))
 refine congr (congrArg bind (congrArg _ (funext fun _=>funext fun c=>congrArg (bind _) (funext fun d=>?_)))) (funext fun c=>?_)
 ·obtain⟨d1,d⟩:=d
  cases d1 with
  | some r=>rfl
  | none=>exact congrArg (bind _) (funext fun _=>congrArg (bind _) (funext fun e=>by obtain⟨e1,e⟩:=e;cases e1<;>rfl))
 ·obtain⟨c1,c⟩:=c
  cases c1<;>rfl
noncomputable def MH (κ:KeyKind) (x y:Array Keyed) (i j:Nat) (out:Array Keyed):Prop:=MI (fun p q=>kl κ q p) (x.toList++y.toList) (x.toList.take i).reverse (y.toList.take j).reverse out.toList
section
variable {x y out:Array Keyed}{i j:Nat}{p:Keyed}
theorem MH.a (h:MH κ x y (i+1) j out) (e:x[i]? = some p) (c:∀ m q,m < j->y[m]? = some q->kl κ q p):MH κ x y i j (out.push p):=by
 unfold MH at *
 rw[Qx e] at h
 have:=MI.run (xs:=[p]) h fun z hz q hq=>by
  obtain⟨m,a,_,b⟩:=qy hq
  rw[List.mem_singleton.mp hz];exact c m q a b
 rwa [Array.toList_push]
theorem MH.b (h:MH κ x y i (j+1) out) (e:y[j]? = some p) (c:∀ m q,m < i->x[m]? = some q->kl κ q p):MH κ x y i j (out.push p):=by
 unfold MH at *
 rw[Qx e] at h
 have:=MI.run (xs:=[p]) h.swap fun z hz q hq=>by
  obtain⟨m,a,_,b⟩:=qy hq
  rw[List.mem_singleton.mp hz];exact c m q a b
 rw[Array.toList_push];exact this.swap
theorem MH.as {k:Nat} (hk:k <= i) (h:MH κ x y i j out) (c:∀ m q,k <= m->m < i->x[m]? = some q->∀ m' q',m' < j->y[m']? = some q'->kl κ q' q):MH κ x y k j (out++(x.extract k i).reverse):=by
 unfold MH at *
 rw[QM hk] at h
 have:=MI.run h fun z hz q hq=>by
  obtain⟨m,a,_,b⟩:=qy hq
  rw[Array.toList_reverse,List.mem_reverse] at hz
  obtain⟨m',a',b',_,c'⟩:=QR hz
  exact c m' z a' b' c' m q a b
 rwa [Array.toList_append]
theorem MH.bs {k:Nat} (hk:k <= j) (h:MH κ x y i j out) (c:∀ m q,k <= m->m < j->y[m]? = some q->∀ m' q',m' < i->x[m']? = some q'->kl κ q' q):MH κ x y i k (out++(y.extract k j).reverse):=by
 unfold MH at *
 have h:=h.swap
 rw[QM hk] at h
 have:=MI.run h fun z hz q hq=>by
  obtain⟨m,a,_,b⟩:=qy hq
  rw[Array.toList_reverse,List.mem_reverse] at hz
  obtain⟨m',a',b',_,c'⟩:=QR hz
  exact c m' z a' b' c' m q a b
 rw[Array.toList_append];exact this.swap
theorem QC (z:Array Keyed) (i:Nat):(z.extract 0 i).toList=z.toList.take i:=by
 rw[Array.toList_extract,List.extract_eq_take_drop];rfl
theorem zHA (a b c:List Keyed):a++b++c.reverse=(c++b.reverse++a.reverse).reverse:=by simp
theorem MH.dn (h:MH κ x y i j out) (c:i=0\/j=0):Rs κ x y (dnH x y out i j):=by
 unfold Rs dnH
 rw[Array.toList_append,Array.toList_append,QC,QC,Array.toList_reverse,zHA]
 refine⟨(List.reverse_perm _).trans h.swap.pm,List.pairwise_reverse.mpr (h.swap.fin fun a ha b hb=>?_)⟩
 obtain⟨m,a1,a2,a3⟩:=qy ha
 obtain⟨m',b1,b2,b3⟩:=qy hb
 omega
theorem MH.fs (g:MG κ x y) (h:MH κ x y i j out) (c:j=1):Rs κ x y (fsH x y out i j):=by
 unfold Rs fsH
 rw[Array.toList_append,Array.toList_append,QC,QC,Array.toList_reverse,zHA]
 refine⟨(List.reverse_perm _).trans h.pm,List.pairwise_reverse.mpr (h.fin fun a ha b hb=>?_)⟩
 obtain⟨m,a1,a2,a3⟩:=qy ha
 obtain⟨m',b1,b2,b3⟩:=qy hb
 obtain rfl:m'=0:=by omega
 obtain⟨l,el⟩:=jB x (i:=0) (by omega)
 exact KeyOrd.kle_trans (g.fst b l b3 el) (g.rx.at (Nat.zero_le m) el a3)
end
noncomputable def Hi7 (κ:KeyKind) (st₀:SortSt) (x y:Array Keyed) (b:Nat) (c:H7) (u:SortSt):Prop :=
 zk st₀ u/\match c.1 with
  | some r=>Rs κ x y r
  | none=>MH κ x y c.2.1 c.2.2.1 c.2.2.2.1/\1 <= c.2.1/\2 <= c.2.2.1/\c.2.1 <= x.size/\c.2.2.1 <= y.size/\c.2.1+c.2.2.1+b <= x.size+y.size
noncomputable def Th7 (κ:KeyKind) (st₀:SortSt) (x y:Array Keyed) (b:Nat) (r:ForInStep H7) (u:SortSt):Prop :=
 match r with
 | .done c=>Hi7 κ st₀ x y b c u
 | .yield c=>c.1=none/\Hi7 κ st₀ x y b c u
section
variable {st₀ st:SortSt}{x y out:Array Keyed}{i j mg ac bc b:Nat}
theorem zDf (g:MG κ x y) (sg:zk st₀ st) (h:MH κ x y i j out) (hi:1 <= i) (hj:2 <= j) (hix:i <= x.size) (hjy:j <= y.size) (hb:i+j+b <= x.size+y.size) (c:∀ p,x[i - 1]? = some p->∀ m q,m < j->y[m]? = some q->kl κ q p) :
  wpS (model prog w) A E s (hiD x y out i j mg ac bc) (Th7 κ st₀ x y b) st:=by
 unfold hiD
 obtain⟨p,e⟩:=jB x (show i - 1 < x.size by omega)
 obtain⟨n,rfl⟩:∃ n,i=n+1:=⟨i - 1,by omega⟩
 rw[Nat.add_sub_cancel] at e c ⊢
 have h2:=h.a e (c p e)
 refine wpS_bind (zw e ?_)
 by_cases c1:n=0
 ·rw[if_pos (by simpa using c1)]
  exact wpS_pure ⟨sg,h2.dn (.inl c1)⟩
 rw[if_neg (by simpa using c1)]
 split
 ·exact wpS_pure ⟨sg,h2,by show 1 <= n;omega,hj,by show n <= _;omega,hjy,by show n+j+b <= _;omega⟩
 ·exact wpS_pure ⟨rfl,sg,h2,by show 1 <= n;omega,hj,by show n <= _;omega,hjy,by show n+j+b <= _;omega⟩
theorem zID (hO:κ.OneLt) (kd:kindOf st=oneType') (g:MG κ x y) (sg:zk st₀ st) (h:MH κ x y i j out) (hi:1 <= i) (hj:2 <= j) (hix:i <= x.size) (hjy:j <= y.size) (hb:i+j+b <= x.size+y.size) :
  wpS (model prog w) A E s (hiC x y out i j mg ac bc) (Th7 κ st₀ x y b) st:=by
 unfold hiC
 obtain⟨p,e⟩:=jB x (show i - 1 < x.size by omega)
 refine wpS_bind (zw e (wpS_bind (q9 hO kd g.ky (yu g.kx e) (by omega) (g.ry.tail 0 _ (by omega)) (by omega) fun k ⟨k1,k2,k3⟩=>?_)))
 have f2:∀ m q,m < k->y[m]? = some q->kl κ q p:=fun m q a c=>by
  have:=k2 m a
  unfold By at this
  rw[if_pos rfl,Nat.zero_add,jO c] at this
  exact KeyOrd.kle_of_klt this
 have f3:∀ m q,k <= m->m < j->y[m]? = some q->∀ m' q',m' < i->x[m']? = some q'->kl κ q' q:=fun m q a b c m' q' a' c'=>by
  have:=k3 m a b
  unfold By at this
  rw[if_pos rfl,Nat.zero_add,jO c] at this
  exact KeyOrd.kle_trans (g.rx.at (show m' <= i - 1 by omega) c' e) this
 dsimp only
 by_cases c1:j - k > 0
 ·rw[if_pos c1]
  have h2:=h.bs k1 f3
  by_cases c2:k=1
  ·rw[if_pos (by simpa using c2)]
   exact wpS_pure ⟨sg,h2.fs g c2⟩
  rw[if_neg (by simpa using c2)]
  by_cases c3:k=0
  ·rw[if_pos (by simpa using c3)]
   exact wpS_pure ⟨sg,h2.dn (.inr c3)⟩
  rw[if_neg (by simpa using c3)]
  exact zDf g sg h2 hi (by omega) hix (by omega) (by omega) fun p' e' m q a b=>by rw[e] at e';cases e';exact f2 m q a b
 ·rw[if_neg c1]
  obtain rfl:k=j:=by omega
  exact zDf g sg h hi hj hix hjy hb fun p' e' m q a b=>by rw[e] at e';cases e';exact f2 m q a b
theorem zEJ (hO:κ.OneLt) (kd:kindOf st=oneType') (g:MG κ x y) (sg:zk st₀ st) (h:MH κ x y i j out) (hi:1 <= i) (hj:2 <= j) (hix:i <= x.size) (hjy:j <= y.size) (hb:i+j+b <= x.size+y.size) (c:∀ p,y[j - 1]? = some p->∀ m q,m < i->x[m]? = some q->kl κ q p) :
  wpS (model prog w) A E s (hiB x y out i j mg ac bc) (Th7 κ st₀ x y b) st:=by
 unfold hiB
 obtain⟨p,e⟩:=jB y (show j - 1 < y.size by omega)
 obtain⟨n,rfl⟩:∃ n,j=n+1:=⟨j - 1,by omega⟩
 rw[Nat.add_sub_cancel] at e c ⊢
 have h2:=h.b e (c p e)
 refine wpS_bind (zw e ?_)
 by_cases c1:n=1
 ·rw[if_pos (by simpa using c1)]
  exact wpS_pure ⟨sg,h2.fs g c1⟩
 rw[if_neg (by simpa using c1)]
 exact zID hO kd g sg h2 hi (by omega) hix (by omega) (by omega)
theorem zHp (hO:κ.OneLt) (kd:kindOf st₀=oneType') (g:MG κ x y) (sg:zk st₀ st) (h:MH κ x y i j out) (hi:1 <= i) (hj:2 <= j) (hix:i <= x.size) (hjy:j <= y.size) (hb:i+j+b <= x.size+y.size) :
  wpS (model prog w) A E s (hiA x y out i j mg ac bc) (Th7 κ st₀ x y b) st:=by
 unfold hiA
 obtain⟨p,e⟩:=jB y (show j - 1 < y.size by omega)
 refine wpS_bind (Qe sg fun u sg=>?_)
 have kd:kindOf u=oneType':=sg.kd.trans kd
 refine wpS_bind (zw e (wpS_bind (q9 hO kd g.kx (yu g.ky e) (by omega) (g.rx.tail 0 _ (by omega)) (by omega) fun k ⟨k1,k2,k3⟩=>?_)))
 have f2:∀ m q,m < k->x[m]? = some q->kl κ q p:=fun m q a c=>by
  have:=k2 m a
  unfold By at this
  rw[if_neg (by decide),Nat.zero_add,jO c,Bool.not_eq_true'] at this
  exact this
 have f3:∀ m q,k <= m->m < i->x[m]? = some q->∀ m' q',m' < j->y[m']? = some q'->kl κ q' q:=fun m q a b c m' q' a' c'=>by
  have:=k3 m a b
  unfold By at this
  rw[if_neg (by decide),Nat.zero_add,jO c,Bool.not_eq_false'] at this
  exact KeyOrd.kle_trans (g.ry.at (show m' <= j - 1 by omega) c' e) (KeyOrd.kle_of_klt this)
 dsimp only
 by_cases c1:i - k > 0
 ·rw[if_pos c1]
  have h2:=h.as k1 f3
  by_cases c3:k=0
  ·rw[if_pos (by simpa using c3)]
   exact wpS_pure ⟨sg,h2.dn (.inl c3)⟩
  rw[if_neg (by simpa using c3)]
  exact zEJ hO kd g sg h2 (by omega) hj (by omega) hjy (by omega) fun p' e' m q a b=>by rw[e] at e';cases e';exact f2 m q a b
 ·rw[if_neg c1]
  obtain rfl:k=i:=by omega
  exact zEJ hO kd g sg h hi hj hix hjy hb fun p' e' m q a b=>by rw[e] at e';cases e';exact f2 m q a b
noncomputable def Hi6 (κ:KeyKind) (st₀:SortSt) (x y:Array Keyed) (b:Nat) (c:H6) (u:SortSt):Prop :=
 zk st₀ u/\match c.1 with
  | some r=>Rs κ x y r
  | none=>MH κ x y c.2.1 c.2.2.1 c.2.2.2.1/\1 <= c.2.1/\2 <= c.2.2.1/\c.2.1 <= x.size/\c.2.2.1 <= y.size/\c.2.1+c.2.2.1+b <= x.size+y.size
noncomputable def Th6 (κ:KeyKind) (st₀:SortSt) (x y:Array Keyed) (b:Nat) (r:ForInStep H6) (u:SortSt):Prop :=
 match r with
 | .done c=>Hi6 κ st₀ x y b c u
 | .yield c=>c.1=none/\Hi6 κ st₀ x y b c u
theorem zHH {c:H6} (hO:κ.OneLt) (kd:kindOf st₀=oneType') (g:MG κ x y) (sg:zk st₀ st) (h:MH κ x y c.2.1 c.2.2.1 c.2.2.2.1) (hi:1 <= c.2.1) (hj:2 <= c.2.2.1) (hix:c.2.1 <= x.size) (hjy:c.2.2.1 <= y.size) (hb:c.2.1+c.2.2.1+b <= x.size+y.size+1) :
  wpS (model prog w) A E s (hi1 x y mg c) (Th6 κ st₀ x y b) st:=by
 unfold hi1
 obtain⟨c1,i,j,out,ac,bc⟩:=c
 dsimp only at *
 obtain⟨p,e⟩:=jB y (show j - 1 < y.size by omega)
 obtain⟨q,e'⟩:=jB x (show i - 1 < x.size by omega)
 have kd:kindOf st=oneType':=sg.kd.trans kd
 refine wpS_bind (zw e (wpS_bind (zw e' (wpS_bind (zBB hO kd (yu g.ky e) (yu g.kx e') ?_)))))
 cases hv:κ.blt (kyo κ p) (kyo κ q) with
 | true =>
  dsimp only
  rw[if_pos rfl]
  obtain⟨n,rfl⟩:∃ n,i=n+1:=⟨i - 1,by omega⟩
  rw[Nat.add_sub_cancel] at e' ⊢
  have h2:=h.a e' fun m z a b=>KeyOrd.kle_trans (g.ry.at (show m <= j - 1 by omega) b e) (KeyOrd.kle_of_klt hv)
  refine wpS_bind (zw e' ?_)
  by_cases c1:n=0
  ·rw[if_pos (by simpa using c1)]
   exact wpS_pure ⟨sg,h2.dn (.inl c1)⟩
  rw[if_neg (by simpa using c1)]
  split
  ·exact wpS_pure ⟨sg,h2,by show 1 <= n;omega,hj,by show n <= _;omega,hjy,by show n+j+b <= _;omega⟩
  ·exact wpS_pure ⟨rfl,sg,h2,by show 1 <= n;omega,hj,by show n <= _;omega,hjy,by show n+j+b <= _;omega⟩
 | false =>
  dsimp only
  rw[if_neg (by decide)]
  obtain⟨n,rfl⟩:∃ n,j=n+1:=⟨j - 1,by omega⟩
  rw[Nat.add_sub_cancel] at e ⊢
  have h2:=h.b e fun m z a b=>KeyOrd.kle_trans (g.rx.at (show m <= i - 1 by omega) b e') hv
  refine wpS_bind (zw e ?_)
  by_cases c1:n=1
  ·rw[if_pos (by simpa using c1)]
   exact wpS_pure ⟨sg,h2.fs g c1⟩
  rw[if_neg (by simpa using c1)]
  split
  ·exact wpS_pure ⟨sg,h2,hi,by show 2 <= n;omega,hix,by show n <= _;omega,by show i+n+b <= _;omega⟩
  ·exact wpS_pure ⟨rfl,sg,h2,hi,by show 2 <= n;omega,hix,by show n <= _;omega,by show i+n+b <= _;omega⟩
noncomputable def Hi5 (κ:KeyKind) (st₀:SortSt) (x y:Array Keyed) (b:Nat) (c:H5) (u:SortSt):Prop :=
 zk st₀ u/\match c.1 with
  | some r=>Rs κ x y r
  | none=>MH κ x y c.2.1 c.2.2.1 c.2.2.2.1/\1 <= c.2.1/\2 <= c.2.2.1/\c.2.1 <= x.size/\c.2.2.1 <= y.size/\c.2.1+c.2.2.1+b <= x.size+y.size
theorem zHy {c:H5}{R:ForInStep H5->SortSt->Prop} (hO:κ.OneLt) (kd:kindOf st₀=oneType') (g:MG κ x y) (hc:c.1=none) (hh:Hi5 κ st₀ x y b c st)
  (hd:∀ r d u,zk st₀ u->Rs κ x y r->R (.done (some r,d)) u) (hy:∀ d u,Hi5 κ st₀ x y (b+1) (none,d) u->R (.yield (none,d)) u) :
  wpS (model prog w) A E s (hiO x y c) R st:=by
 unfold hiO
 obtain⟨sg,h⟩:=hh
 rw[hc] at h
 refine wpS_bind (wpS_mono (wpS_forRange (I:=fun k d u=>d.1=none/\Hi6 κ st₀ x y (b+min k 1) d u) (Q:=Hi6 κ st₀ x y (b+1)) (fun k d u _ hk ⟨n,sg,d2⟩=>?step) (fun d u ⟨n,dd⟩=>?fin) ⟨rfl,sg,h⟩) fun d u dd=>?post)
 case step =>
  rw[n] at d2
  obtain⟨a1,a2,a3,a4,a5,a6⟩:=d2
  refine wpS_mono (zHH (b:=b+1) hO kd g sg a1 a2 a3 a4 a5 (by omega)) fun r u h=>?_
  rw[show min (k+1) 1=1 by omega]
  cases r<;>exact h
 case fin=>rwa [show min (max 0 (x.size+y.size)) 1=1 by have:=g.nx;omega] at dd
 case post =>
  obtain⟨d1,d⟩:=d
  cases d1 with
  | some r=>exact wpS_pure (hd r _ u dd.1 dd.2)
  | none =>
   refine wpS_bind (wpS_lift (wpAny_rule ⟨rfl,?_⟩))
   refine wpS_bind (wpS_mono (wpS_forRange (I:=fun k e u=>e.1=none/\Hi7 κ st₀ x y (b+1) e u) (Q:=Hi7 κ st₀ x y (b+1)) (fun k e u _ hk ⟨n,sg,e2⟩=>?step2) (fun e u ⟨n,ee⟩=>ee) ⟨rfl,dd⟩) fun e u ee=>?post2)
   case step2 =>
    rw[n] at e2
    obtain⟨a1,a2,a3,a4,a5,a6⟩:=e2
    split<;>exact wpS_mono (zHp hO kd g sg a1 a2 a3 a4 a5 a6) fun r u h=>by cases r<;>exact h
   case post2 =>
    obtain⟨e1,e⟩:=e
    cases e1 with
    | some r=>exact wpS_pure (hd r _ u ee.1 ee.2)
    | none=>exact wpS_bind (Qe ee.1 fun u sg=>wpS_pure (hy _ u ⟨sg,ee.2⟩))
theorem zDR {Q:Array Keyed->SortSt->Prop} (hO:κ.OneLt) (kd:kindOf st=oneType') (g:MG κ x y) (h:∀ r u,zk st u->Rs κ x y r->Q r u):wpS (model prog w) A E s (Q5 x y) Q st:=by
 rw[zCG]
 refine wpS_bind (wpS_lift (wpAny_rule ⟨rfl,?_⟩))
 have g1:=g.nx
 have g2:=g.ny
 obtain⟨p,e⟩:=jB x (show x.size - 1 < x.size by omega)
 refine wpS_bind (zw e ?_)
 have h1:MH κ x y (x.size - 1) y.size #[p]:=by
  have h0:MH κ x y (x.size - 1+1) y.size #[]:=by
   unfold MH
   rw[Nat.sub_add_cancel g1,List.take_of_length_le (by simp),List.take_of_length_le (by simp)]
   exact⟨by simpa using (List.reverse_perm _).append (List.reverse_perm _),List.Pairwise.nil,fun _ h=>by simp at h,fun _ h=>by simp at h,List.pairwise_reverse.mpr g.rx.pair,List.pairwise_reverse.mpr g.ry.pair⟩
  obtain⟨q,e'⟩:=jB y (show y.size - 1 < y.size by omega)
  exact h0.a e fun m z a b=>KeyOrd.kle_trans (g.ry.at (show m <= y.size - 1 by omega) b e') (g.lst q p e' e)
 by_cases c1:x.size - 1=0
 ·rw[if_pos (by simpa using c1)]
  exact wpS_pure (h _ _ (zk.refl _) (h1.dn (.inl c1)))
 rw[if_neg (by simpa using c1)]
 by_cases c2:y.size=1
 ·rw[if_pos (by simpa using c2)]
  exact wpS_pure (h _ _ (zk.refl _) (h1.fs g c2))
 rw[if_neg (by simpa using c2)]
 refine wpS_bind (wpS_get ?_)
 refine wpS_bind (wpS_mono (wpS_forRange (I:=fun k c u=>c.1=none/\Hi5 κ st x y (k+1) c u) (Q:=fun c u=>∃ r d,c=(some r,d)/\zk st u/\Rs κ x y r) (fun k c u _ hk ⟨n,hh⟩=>?step) (fun c u ⟨n,sg,c2⟩=>?fin) ⟨rfl,zk.refl _,h1,by show 1 <= x.size - 1;omega,by show 2 <= y.size;omega,by show x.size - 1 <= _;omega,Nat.le_refl _,by show x.size - 1+y.size+(0+1) <= _;omega⟩) fun c u ⟨r,d,ec,sg,rs⟩=>?post)
 case step=>exact zHy (b:=k+1) hO kd g n hh (fun r d u sg rs=>⟨r,d,rfl,sg,rs⟩) fun d u l=>⟨rfl,l⟩
 case fin=>rw[n] at c2;have:=c2.2;omega
 case post=>subst ec;exact wpS_pure (h r u sg rs)
end
noncomputable def qG (a:Array Keyed) (o:Nat) (l:List (Keyed×Nat)):Array Keyed:=l.foldl (fun a (p,j)=>a.setIfInBounds (o+j) p) a
theorem JZ:∀ (l:List Keyed) (a:Array Keyed) (o n:Nat),o+n+l.length <= a.size->(qG a o (l.zipIdx n)).toList=a.toList.take (o+n)++l++a.toList.drop (o+n+l.length)
 | [],a,o,n,h=>by show a.toList=_;simp
 | p::l,a,o,n,h=>by
  rw[List.zipIdx_cons]
  show (qG (a.setIfInBounds (o+n) p) o (l.zipIdx (n+1))).toList=_
  rw[List.length_cons] at h ⊢
  rw[JZ l _ o (n+1) (by rw[Array.size_setIfInBounds];omega),Array.toList_setIfInBounds,show o+(n+1)=(o+n)+1 by omega]
  have hl:o+n < a.toList.length:=by rw[Array.length_toList];omega
  rw[List.take_set,List.drop_set_of_lt (by omega),List.take_succ_eq_append_getElem hl,List.set_append_right _ _ (by rw[List.length_take];omega),List.length_take,show o+n - min (o+n) a.toList.length=0 by omega,show o+n+1+l.length=o+n+(l.length+1) by omega]
  simp
theorem zGN {M:Model}{σ:Type}{z:σ}{Q:PUnit->σ->Prop}{st:σ} (h:Q ⟨⟩ z):wpS M A E s (set z:StateT σ Sem PUnit) Q st:=by
 unfold wpS;rw[StateT.run_set];exact wpAny_pure ⟨rfl,h⟩
noncomputable def mgE (a:Array Keyed) (sa na sb nb:Nat):StateT SortSt Sem Bool :=
 if (nb == 0)=true then pure true else
 if na <= nb then do
  let r <- Q2 (a.extract sa sb) (a.extract sb (sb+nb))
  modify fun z=>setArr z (qG (arrOf z) sa r.toList.zipIdx)
  let z <- get
  pure (failedOf z).isNone
 else do
  let r <- Q5 (a.extract sa sb) (a.extract sb (sb+nb))
  modify fun z=>setArr z (qG (arrOf z) sa r.toList.zipIdx)
  let z <- get
  pure (failedOf z).isNone
noncomputable def mgB (a:Array Keyed) (sa na sb nb:Nat):StateT SortSt Sem Bool:=do
 let p <- elem' a sb
 match <- yA false p a sa na 0 with
 | some k =>
  if (na - k == 0)=true then pure true else do
   let q <- elem' a (sa+k+(na - k) - 1)
   match <- yA true q a sb nb (nb - 1) with
   | some nb=>mgE a (sa+k) (na - k) sb nb
   | _=>pure false
 | _=>pure false
theorem zCx {st:SortSt}{i sa na pw sb nb qw:Nat}{Q:Bool->SortSt->Prop} (h1:(pendingOf st)[i]? = some (sa,na,pw)) (h2:(pendingOf st)[i+1]? = some (sb,nb,qw))
  (h:wpS (model prog w) A E s (mgB (arrOf st) sa na sb nb) Q (setPending st (((pendingOf st).setIfInBounds i (sa,na+nb,pw)).eraseIdxIfInBounds (i+1)))):wpS (model prog w) A E s (mergeAt' i) Q st:=by
 show wpS (model prog w) A E s ((sortPriv% PySem.Builtin.mergeAt) i) Q st
 refine wpS_bind (wpS_get ?_)
 rw[h1,h2]
 exact wpS_bind (zGN h)
theorem Rs.mem {x y r:Array Keyed} (h:Rs κ x y r) {p:Keyed}{m:Nat} (e:r[m]? = some p):(∃ k:Nat,x[k]? = some p)\/∃ k:Nat,y[k]? = some p:=by
 obtain⟨hm,rfl⟩:=Array.getElem?_eq_some_iff.mp e
 have:=h.1.mem_iff.mp (show r[m]∈r.toList by simp)
 rcases List.mem_append.mp this with a | a
 ·obtain⟨k,hk,ek⟩:=List.mem_iff_getElem.mp a
  exact .inl ⟨k,by rw[<- ek];simpa using hk⟩
 ·obtain⟨k,hk,ek⟩:=List.mem_iff_getElem.mp a
  exact .inr ⟨k,by rw[<- ek];simpa using hk⟩
theorem Rs.le {x y r:Array Keyed} (h:Rs κ x y r) {i j:Nat}{p q:Keyed} (hij:i < j) (ei:r[i]? = some p) (ej:r[j]? = some q):kl κ p q:=by
 obtain⟨hi,rfl⟩:=Array.getElem?_eq_some_iff.mp ei
 obtain⟨hj,rfl⟩:=Array.getElem?_eq_some_iff.mp ej
 have:=List.pairwise_iff_getElem.mp h.2 i j (by rw[Array.length_toList];exact hi) (by rw[Array.length_toList];exact hj) hij
 simpa using this
theorem Zr {a:Array Keyed}{lo hi k:Nat}{p:Keyed} (e:(a.extract lo hi)[k]? = some p):lo+k < hi/\a[lo+k]? = some p:=by
 obtain⟨hk,rfl⟩:=Array.getElem?_eq_some_iff.mp e
 have hk':=hk
 rw[Array.size_extract] at hk'
 exact⟨by omega,by rw[Array.getElem_extract,getElem?_pos a (lo+k) (by omega)]⟩
theorem Ri.ext {a:Array Keyed}{lo n:Nat} (hn:lo+n <= a.size) (r:Ri κ a lo n):Ri κ (a.extract lo (lo+n)) 0 (a.extract lo (lo+n)).size:=by
 intro i j hij hj
 have hs:(a.extract lo (lo+n)).size=n:=by rw[Array.size_extract];omega
 rw[hs] at hj
 have e:∀ k,k < n->KK κ (a.extract lo (lo+n)) (0+k)=KK κ a (lo+k):=fun k hk=>KK_congr (by rw[Nat.zero_add,Array.getElem?_extract,if_pos (by omega)])
 rw[e i (by omega),e j hj]
 exact r i j hij hj
theorem Ri.sub {a:Array Keyed}{lo n:Nat} (r:Ri κ a lo n) (k m:Nat) (h:k+m <= n):Ri κ a (lo+k) m:=fun i j p q=>by
 have:=r (k+i) (k+j) (by omega) (by omega)
 rwa [<- Nat.add_assoc,<- Nat.add_assoc] at this
noncomputable def Mrg (κ:KeyKind) (a₀:Array Keyed) (sa n:Nat) (st st':SortSt):Prop:=zu a₀ sa (sa+n) st st'/\Ri κ (arrOf st') sa n
theorem zGx {st st':SortSt}{sa k nb nb' na:Nat}{r:Array Keyed} (g:SG a₀ st) (sg:zk st st') (hn:sa+na+nb <= a₀.size) (hk:k <= na) (hb:nb' <= nb) (r1:Ri κ (arrOf st) sa na) (r2:Ri κ (arrOf st) (sa+na) nb)
  (f1:∀ i j,i < k->j < nb->κ.kle (KK κ (arrOf st) (sa+i)) (KK κ (arrOf st) (sa+na+j))) (f2:∀ i j,i < na->nb' <= j->j < nb->κ.kle (KK κ (arrOf st) (sa+i)) (KK κ (arrOf st) (sa+na+j)))
  (rs:Rs κ ((arrOf st).extract (sa+k) (sa+na)) ((arrOf st).extract (sa+na) (sa+na+nb')) r):Mrg κ a₀ sa (na+nb) st (setArr st' (qG (arrOf st') (sa+k) r.toList.zipIdx)):=by
 have hz:=g.sz
 have hl:r.size=na - k+nb':=by
  have:=rs.1.length_eq
  rw[List.length_append,Array.length_toList,Array.length_toList,Array.length_toList,Array.size_extract,Array.size_extract] at this
  omega
 have pl:=JZ r.toList (arrOf st') (sa+k) 0 (by rw[Array.length_toList,sg.ar];omega)
 rw[sg.ar,Nat.add_zero,Array.length_toList,hl] at pl
 rw[sg.ar]
 have at_:∀ m:Nat,(qG (arrOf st) (sa+k) r.toList.zipIdx)[m]? = if sa+k <= m/\m < sa+na+nb' then r[m - (sa+k)]? else (arrOf st)[m]? := by
  intro m
  rw[<- Array.getElem?_toList,pl,List.append_assoc]
  by_cases c1:m < sa+k
  ·rw[List.getElem?_append_left (by rw[List.length_take,Array.length_toList];omega),List.getElem?_take_of_lt c1,if_neg (by omega),Array.getElem?_toList]
  rw[List.getElem?_append_right (by rw[List.length_take,Array.length_toList];omega),List.length_take,Array.length_toList,Nat.min_eq_left (by omega)]
  by_cases c2:m < sa+na+nb'
  ·rw[List.getElem?_append_left (by rw[Array.length_toList];omega),if_pos (by omega),Array.getElem?_toList]
  ·rw[List.getElem?_append_right (by rw[Array.length_toList];omega),if_neg (by omega),List.getElem?_drop,Array.length_toList,Array.getElem?_toList]
   congr 1;omega
 refine⟨⟨⟨?_,sg.kd.trans g.kd,sg.fl.trans g.fl⟩,fun m hm=>?_,sg.pd⟩,?_⟩
 ·refine Array.Perm.trans (Array.perm_iff_toList_perm.mpr ?_) g.pm
  show (qG (arrOf st) (sa+k) r.toList.zipIdx).toList.Perm _
  rw[pl]
  have e:(arrOf st).toList=(arrOf st).toList.take (sa+k)++(((arrOf st).extract (sa+k) (sa+na)).toList++((arrOf st).extract (sa+na) (sa+na+nb')).toList)++(arrOf st).toList.drop (sa+k+(na - k+nb')):=by
   have e1:=QB (a:=arrOf st) (i:=sa+na) (k:=nb')
   have e2:=QB (a:=arrOf st) (i:=sa+k) (k:=na - k)
   rw[show sa+k+(na - k)=sa+na by omega] at e2
   rw[show sa+k+(na - k+nb')=sa+na+nb' by omega,List.append_assoc,List.append_assoc,<- e1,<- e2,List.take_append_drop]
  conv=>rhs;rw[e]
  exact (rs.1.append_left _).append_right _
 ·show (qG (arrOf st) (sa+k) r.toList.zipIdx)[m]? = _
  rw[at_,if_neg (by omega)]
 ·show Ri κ (qG (arrOf st) (sa+k) r.toList.zipIdx) sa (na+nb)
  have low:∀ i,i < k->KK κ (qG (arrOf st) (sa+k) r.toList.zipIdx) (sa+i)=KK κ (arrOf st) (sa+i):=fun i hi=>KK_congr (by rw[at_,if_neg (by omega)])
  have hig:∀ i,na+nb' <= i->KK κ (qG (arrOf st) (sa+k) r.toList.zipIdx) (sa+i)=KK κ (arrOf st) (sa+i):=fun i hi=>KK_congr (by rw[at_,if_neg (by omega)])
  have mid:∀ i,k <= i->i < na+nb'->∃ p,r[i - k]? = some p/\KK κ (qG (arrOf st) (sa+k) r.toList.zipIdx) (sa+i)=kyo κ p/\∃ m,k <= m/\m < na+nb'/\kyo κ p=KK κ (arrOf st) (sa+m):=fun i hi hj=>by
   obtain⟨p,e⟩:=jB r (show i - k < r.size by omega)
   refine⟨p,e,jO (by rw[at_,if_pos (by omega),show sa+i - (sa+k)=i - k by omega];exact e),?_⟩
   rcases Rs.mem rs e with ⟨m,em⟩ | ⟨m,em⟩
   ·obtain⟨c1,c2⟩:=Zr em
    exact⟨k+m,by omega,by omega,by rw[<- Nat.add_assoc];exact (jO c2).symm⟩
   ·obtain⟨c1,c2⟩:=Zr em
    exact⟨na+m,by omega,by omega,by rw[<- Nat.add_assoc];exact (jO c2).symm⟩
  have f1':∀ i m,i < k->m < na+nb->i <= m->κ.kle (KK κ (arrOf st) (sa+i)) (KK κ (arrOf st) (sa+m)):=fun i m hi hm hj=>by
   by_cases c:m < na
   ·exact r1 i m hj c
   ·have:=f1 i (m - na) hi (by omega)
    rwa [show sa+na+(m - na)=sa+m by omega] at this
  have f2':∀ m j,na+nb' <= j->j < na+nb->m <= j->κ.kle (KK κ (arrOf st) (sa+m)) (KK κ (arrOf st) (sa+j)):=fun m j hi hm hj=>by
   by_cases c:m < na
   ·have:=f2 m (j - na) c (by omega) (by omega)
    rwa [show sa+na+(j - na)=sa+j by omega] at this
   ·have:=r2 (m - na) (j - na) (by omega) (by omega)
    rwa [show sa+na+(j - na)=sa+j by omega,show sa+na+(m - na)=sa+m by omega] at this
  intro i j hij hj
  by_cases c1:i < k
  ·rw[low i c1]
   by_cases d1:j < k
   ·rw[low j d1];exact f1' i j c1 hj hij
   by_cases d2:j < na+nb'
   ·obtain⟨p,_,e,m,m1,m2,em⟩:=mid j (by omega) d2
    rw[e,em];exact f1' i m c1 (by omega) (by omega)
   ·rw[hig j (by omega)];exact f1' i j c1 hj hij
  by_cases c2:i < na+nb'
  ·obtain⟨p,ep,e,m,m1,m2,em⟩:=mid i (by omega) c2
   by_cases d2:j < na+nb'
   ·obtain⟨q,eq,e',_⟩:=mid j (by omega) d2
    rw[e,e']
    by_cases c:i=j
    ·subst c;rw[ep] at eq;cases eq;exact KeyOrd.kle_refl _
    ·exact Rs.le rs (show i - k < j - k by omega) ep eq
   ·rw[e,em,hig j (by omega)];exact f2' m j (by omega) hj (by omega)
  ·rw[hig i (by omega),hig j (by omega)];exact f2' i j (by omega) hj hij
theorem SG.has {st:SortSt} (h:SG a₀ st) (h0:KeysOf κ a₀) {p:Keyed} (hp:p∈(arrOf st).toList):qE κ p:=h0 p ((Array.perm_iff_toList_perm.mp h.pm).mem_iff.mp hp)
theorem zCO {a:Array Keyed}{i k:Nat}{y:Keyed} (h:y∈(a.extract i k).toList):y∈a.toList:=by
 obtain⟨j,_,_,hj,e⟩:=QR h
 obtain⟨hj,rfl⟩:=Array.getElem?_eq_some_iff.mp e
 simp
theorem Ri.join {a:Array Keyed}{sa na nb:Nat} (r1:Ri κ a sa na) (r2:Ri κ a (sa+na) nb) (f:∀ i j,i < na->j < nb->κ.kle (KK κ a (sa+i)) (KK κ a (sa+na+j))):Ri κ a sa (na+nb):=fun i j hij hj=>by
 by_cases c:j < na
 ·exact r1 i j hij c
 by_cases d:i < na
 ·have:=f i (j - na) d (by omega)
  rwa [show sa+na+(j - na)=sa+j by omega] at this
 ·have:=r2 (i - na) (j - na) (by omega) (by omega)
  rwa [show sa+na+(j - na)=sa+j by omega,show sa+na+(i - na)=sa+i by omega] at this
theorem zHm {st:SortSt}{sa k na nb nb':Nat}{Q:Bool->SortSt->Prop} (hO:κ.OneLt) (h0:KeysOf κ a₀) (g:SG a₀ st) (hn:sa+na+nb <= a₀.size) (hk:k < na) (hb:nb' <= nb) (r1:Ri κ (arrOf st) sa na) (r2:Ri κ (arrOf st) (sa+na) nb)
  (f1:∀ i j,i < k->j < nb->κ.kle (KK κ (arrOf st) (sa+i)) (KK κ (arrOf st) (sa+na+j))) (f2:∀ i j,i < na->nb' <= j->j < nb->κ.kle (KK κ (arrOf st) (sa+i)) (KK κ (arrOf st) (sa+na+j)))
  (f3:nb'≠0->κ.kle (KK κ (arrOf st) (sa+na)) (KK κ (arrOf st) (sa+k))) (f4:nb'≠0->κ.kle (KK κ (arrOf st) (sa+na+(nb' - 1))) (KK κ (arrOf st) (sa+na - 1)))
  (h:∀ st',Mrg κ a₀ sa (na+nb) st st'->Q true st'):wpS (model prog w) A E s (mgE (arrOf st) (sa+k) (na - k) (sa+na) nb') Q st:=by
 unfold mgE
 by_cases c:nb'=0
 ·rw[if_pos (by simpa using c)]
  exact wpS_pure (h _ ⟨zu.refl g,r1.join r2 fun i j a b=>f2 i j a (by omega) b⟩)
 rw[if_neg (by simpa using c)]
 have hz:=g.sz
 have s1:((arrOf st).extract (sa+k) (sa+na)).size=na - k:=by rw[Array.size_extract];omega
 have s2:((arrOf st).extract (sa+na) (sa+na+nb')).size=nb':=by rw[Array.size_extract];omega
 have mg:MG κ ((arrOf st).extract (sa+k) (sa+na)) ((arrOf st).extract (sa+na) (sa+na+nb')):=by
  refine⟨fun p hp=>g.has h0 (zCO hp),fun p hp=>g.has h0 (zCO hp),?_,Ri.ext (by omega) (r2.sub 0 nb' (by omega)),by omega,by omega,fun p q e1 e2=>?_,fun p q e1 e2=>?_⟩
  ·have:=Ri.ext (lo:=sa+k) (n:=na - k) (by omega) (r1.sub k (na - k) (by omega))
   rwa [show sa+k+(na - k)=sa+na by omega] at this
  ·have a1:=(Zr e1).2
   have a2:=(Zr e2).2
   have:=f3 c
   rw[Nat.add_zero] at a1 a2
   rwa [jO a1,jO a2] at this
  ·rw[s2] at e1
   rw[s1] at e2
   have a1:=(Zr e1).2
   have a2:=(Zr e2).2
   rw[show sa+k+(na - k - 1)=sa+na - 1 by omega] at a2
   have:=f4 c
   rwa [jO a1,jO a2] at this
 have fin:∀ r u,zk st u->Rs κ ((arrOf st).extract (sa+k) (sa+na)) ((arrOf st).extract (sa+na) (sa+na+nb')) r->wpS (model prog w) A E s (do modify fun z=>setArr z (qG (arrOf z) (sa+k) r.toList.zipIdx);let z <- get;pure (failedOf z).isNone) Q u:=fun r u sg rs=>by
  refine wpS_bind (wpS_modify (wpS_bind (wpS_get (wpS_pure ?_))))
  have m:=zGx g sg hn (by omega) hb r1 r2 f1 f2 rs
  have:=h _ m
  rw[show (failedOf (setArr u (qG (arrOf u) (sa+k) r.toList.zipIdx))).isNone=true by rw[m.1.ok.fl];rfl]
  exact this
 split
 ·exact wpS_bind (zCh hO g.kd mg fin)
 ·exact wpS_bind (zDR hO g.kd mg fin)
theorem zH3 {st:SortSt}{sa na nb:Nat}{Q:Bool->SortSt->Prop} (hO:κ.OneLt) (h0:KeysOf κ a₀) (g:SG a₀ st) (hn:sa+na+nb <= a₀.size) (h1:1 <= na) (h2:1 <= nb) (r1:Ri κ (arrOf st) sa na) (r2:Ri κ (arrOf st) (sa+na) nb)
  (h:∀ st',Mrg κ a₀ sa (na+nb) st st'->Q true st'):wpS (model prog w) A E s (mgB (arrOf st) sa na (sa+na) nb) Q st:=by
 unfold mgB
 have hz:=g.sz
 obtain⟨p,e⟩:=jB (arrOf st) (show sa+na < (arrOf st).size by omega)
 refine wpS_bind (zw e (wpS_bind (q9 hO g.kd (fun p hp=>g.has h0 hp) (yu (fun p hp=>g.has h0 hp) e) (by omega) r1 (by omega) fun k ⟨k1,k2,k3⟩=>?_)))
 have f1:∀ i j,i < k->j < nb->κ.kle (KK κ (arrOf st) (sa+i)) (KK κ (arrOf st) (sa+na+j)):=fun i j hi hj=>by
  have:=k2 i hi
  unfold By at this
  rw[if_neg (by decide),Bool.not_eq_true'] at this
  have a:=r2 0 j (by omega) hj
  rw[Nat.add_zero,jO e] at a
  exact KeyOrd.kle_trans this a
 dsimp only
 by_cases c:na - k=0
 ·rw[if_pos (by simpa using c)]
  exact wpS_pure (h _ ⟨zu.refl g,r1.join r2 fun i j a b=>f1 i j (by omega) b⟩)
 rw[if_neg (by simpa using c),show sa+k+(na - k) - 1=sa+na - 1 by omega]
 obtain⟨q,e'⟩:=jB (arrOf st) (show sa+na - 1 < (arrOf st).size by omega)
 refine wpS_bind (zw e' (wpS_bind (q9 hO g.kd (fun p hp=>g.has h0 hp) (yu (fun p hp=>g.has h0 hp) e') (by omega) r2 (by omega) fun t ⟨t1,t2,t3⟩=>?_)))
 refine zHm hO h0 g hn (by omega) t1 r1 r2 f1 (fun i j a b d=>?_) (fun n=>?_) (fun n=>?_) h
 ·have:=t3 j b d
  unfold By at this
  rw[if_pos rfl] at this
  have a:=r1 i (na - 1) (by omega) (by omega)
  rw[show sa+(na - 1)=sa+na - 1 by omega,jO e'] at a
  exact KeyOrd.kle_trans a this
 ·have:=k3 k (Nat.le_refl _) (by omega)
  unfold By at this
  rw[if_neg (by decide),Bool.not_eq_false'] at this
  rw[jO e]
  exact KeyOrd.kle_of_klt this
 ·have:=t2 (t - 1) (by omega)
  unfold By at this
  rw[if_pos rfl] at this
  rw[jO e']
  exact KeyOrd.kle_of_klt this
noncomputable def jn (κ:KeyKind) (xs:Array Keyed):List (Nat×Nat×Nat)->Nat->Nat->Prop
 | [],lo,hi=>lo=hi
 | r::t,lo,hi=>r.1=lo/\1 <= r.2.1/\Ri κ xs lo r.2.1/\jn κ xs t (lo+r.2.1) hi
theorem jn.app {xs:Array Keyed}:∀ {a b:List (Nat×Nat×Nat)}{lo hi:Nat},jn κ xs (a++b) lo hi ↔ ∃ m,jn κ xs a lo m/\jn κ xs b m hi
 | [],b,lo,hi=>⟨fun h=>⟨lo,rfl,h⟩,fun ⟨m,e,h⟩=>by cases e;exact h⟩
 | r::a,b,lo,hi=>⟨fun ⟨h1,h2,h3,h4⟩=>by obtain⟨m,h5,h6⟩:=jn.app.mp h4;exact⟨m,⟨h1,h2,h3,h5⟩,h6⟩,fun ⟨m,⟨h1,h2,h3,h4⟩,h5⟩=>⟨h1,h2,h3,jn.app.mpr ⟨m,h4,h5⟩⟩⟩
theorem jn.len {xs:Array Keyed}:∀ {a:List (Nat×Nat×Nat)}{lo hi:Nat},jn κ xs a lo hi->lo+a.length <= hi
 | [],lo,hi,h=>by cases h;exact Nat.le_refl _
 | r::a,lo,hi,⟨h1,h2,h3,h4⟩=>by have:=h4.len;rw[List.length_cons];omega
theorem Ri.same {xs ys:Array Keyed}{lo n:Nat} (h:Ri κ xs lo n) (e:∀ k,lo <= k->k < lo+n->ys[k]? = xs[k]?):Ri κ ys lo n:=fun i j a b=>by
 rw[KK_congr (e (lo+i) (by omega) (by omega)),KK_congr (e (lo+j) (by omega) (by omega))];exact h i j a b
theorem jn.same {xs ys:Array Keyed}:∀ {a:List (Nat×Nat×Nat)}{lo hi:Nat},jn κ xs a lo hi->(∀ k,lo <= k->k < hi->ys[k]? = xs[k]?)->jn κ ys a lo hi
 | [],lo,hi,h,_=>h
 | r::a,lo,hi,⟨h1,h2,h3,h4⟩,e=>by
  have:=h4.len
  exact⟨h1,h2,h3.same fun k a b=>e k a (by omega),h4.same fun k a b=>e k (by omega) b⟩
theorem jn.mod {xs:Array Keyed}{pw:Nat}:∀ {a:List (Nat×Nat×Nat)}{lo hi:Nat} (k:Nat),jn κ xs a lo hi->jn κ xs (a.modify k fun r=>(r.1,r.2.1,pw)) lo hi
 | [],lo,hi,k,h=>by rw[List.modify_nil];exact h
 | r::a,lo,hi,0,h=>by rw[List.modify_zero_cons];exact h
 | r::a,lo,hi,k+1,⟨h1,h2,h3,h4⟩=>by rw[List.modify_succ_cons];exact⟨h1,h2,h3,h4.mod k⟩
structure PR (κ:KeyKind) (a₀:Array Keyed) (lo:Nat) (st:SortSt):Prop where
 ok:SG a₀ st
 rn:jn κ (arrOf st) (pendingOf st).toList 0 lo
theorem Z0 {st:SortSt}{i lo:Nat}{Q:Bool->SortSt->Prop} (hO:κ.OneLt) (h0:KeysOf κ a₀) (pr:PR κ a₀ lo st) (hl:lo <= a₀.size) (hi:i+1 < (pendingOf st).size)
  (h:∀ st',PR κ a₀ lo st'->(pendingOf st').size+1=(pendingOf st).size->(∀ k,lo <= k->(arrOf st')[k]? = (arrOf st)[k]?)->Q true st'):wpS (model prog w) A E s (mergeAt' i) Q st:=by
 obtain⟨g,rn⟩:=pr
 obtain⟨⟨sa,na,pw⟩,e1⟩:∃ r,(pendingOf st)[i]? = some r:=⟨_,getElem?_pos (pendingOf st) i (by omega)⟩
 obtain⟨⟨sb,nb,qw⟩,e2⟩:∃ r,(pendingOf st)[i+1]? = some r:=⟨_,getElem?_pos (pendingOf st) (i+1) hi⟩
 have spl:(pendingOf st).toList=(pendingOf st).toList.take i++(sa,na,pw)::(sb,nb,qw)::(pendingOf st).toList.drop (i+2):=by
  obtain⟨b1,c1⟩:=Array.getElem?_eq_some_iff.mp e1
  obtain⟨b2,c2⟩:=Array.getElem?_eq_some_iff.mp e2
  have d1:=List.drop_eq_getElem_cons (l:=(pendingOf st).toList) (i:=i) (by rw[Array.length_toList];exact b1)
  have d2:=List.drop_eq_getElem_cons (l:=(pendingOf st).toList) (i:=i+1) (by rw[Array.length_toList];exact b2)
  rw[Array.getElem_toList,c1] at d1
  rw[Array.getElem_toList,c2] at d2
  rw[<- d2,<- d1,List.take_append_drop]
 generalize hL:(pendingOf st).toList.take i=L at spl
 generalize hR:(pendingOf st).toList.drop (i+2)=R at spl
 have hLl:L.length=i:=by rw[<- hL,List.length_take,Array.length_toList];omega
 rw[spl] at rn
 obtain⟨m,rl,hs1,n1,ra,hs2,n2,rb,rr⟩:=jn.app.mp rn
 dsimp only at hs1 n1 ra hs2 n2 rb rr
 subst hs1 hs2
 have len:=rr.len
 refine zCx e1 e2 (zH3 (st:=setPending st (((pendingOf st).setIfInBounds i (sa,na+nb,pw)).eraseIdxIfInBounds (i+1))) hO h0 ⟨g.pm,g.kd,g.fl⟩ (by omega) n1 n2 ra rb fun st' ⟨kp,ri⟩=>?_)
 have pl:(pendingOf st').toList=L++(sa,na+nb,pw)::R:=by
  rw[kp.pd]
  show (((pendingOf st).setIfInBounds i (sa,na+nb,pw)).eraseIdxIfInBounds (i+1)).toList=_
  rw[Array.toList_eraseIdxIfInBounds,Array.toList_setIfInBounds,spl]
  subst hLl
  rw[List.set_append_right _ _ (Nat.le_refl _),List.eraseIdx_append_of_length_le (by omega),Nat.sub_self,Nat.add_sub_cancel_left]
  rfl
 have ll:=rl.len
 refine h st' ⟨kp.ok,?_⟩ ?_ fun k hk=>kp.out k (.inr (by omega))
 ·rw[pl]
  exact jn.app.mpr ⟨sa,rl.same fun k _ b=>kp.out k (.inl b),rfl,by show 1 <= na+nb;omega,ri,by rw[<- Nat.add_assoc];exact rr.same fun k a _=>kp.out k (.inr (by omega))⟩
 ·rw[<- Array.length_toList,<- Array.length_toList,pl,spl]
  simp;omega
theorem PR.push {lo n:Nat}{st:SortSt} (h:PR κ a₀ lo st) (h1:1 <= n) (r:Ri κ (arrOf st) lo n):PR κ a₀ (lo+n) (setPending st ((pendingOf st).push (lo,n,0))) :=
 ⟨⟨h.ok.pm,h.ok.kd,h.ok.fl⟩,by
  show jn κ (arrOf st) ((pendingOf st).push (lo,n,0)).toList 0 (lo+n)
  rw[Array.toList_push]
  exact jn.app.mpr ⟨lo,h.rn,rfl,h1,r,rfl⟩⟩
theorem PR.modi {lo k pw:Nat}{st:SortSt} (h:PR κ a₀ lo st):PR κ a₀ lo (setPending st ((pendingOf st).modify k fun (a,b,_)=>(a,b,pw))) :=
 ⟨⟨h.ok.pm,h.ok.kd,h.ok.fl⟩,by
  show jn κ (arrOf st) ((pendingOf st).modify k fun (a,b,_)=>(a,b,pw)).toList 0 lo
  rw[Array.toList_modify]
  exact h.rn.mod k⟩
theorem zFW {st:SortSt}{Q:Unit->SortSt->Prop} (hO:κ.OneLt) (h0:KeysOf κ a₀) (hB:SBase a₀ st) (h2:2 <= a₀.size)
  (h:∀ st',(arrOf st').Perm a₀->failedOf st'=none->SortedToK κ (arrOf st') a₀.size->Q () st'):wpS (model prog w) A E s sortRuns' Q st:=by
 rw[sortRuns'_eq]
 refine wpS_bind (wpS_get ?_)
 dsimp only
 simp only[hB.size]
 refine wpS_bind (wpS_mono (wpS_forRange (I:=fun x c u=>∃ lo,c=(none,lo)/\x <= lo/\lo <= a₀.size/\PR κ a₀ lo u) (Q:=fun c u=>c=(none,a₀.size)/\PR κ a₀ a₀.size u)
  (fun x c u _ hx ⟨lo,ec,h1,h2,pr⟩=>?step) (fun c u ⟨lo,ec,h1,h2,pr⟩=>?fin) ⟨0,rfl,Nat.le_refl _,Nat.zero_le _,⟨hB.perm,hB.kind,hB.failed⟩,by rw[hB.pend];rfl⟩) fun c u ⟨ec,pr⟩=>?post)
 case fin =>
  obtain rfl:lo=a₀.size:=by omega
  exact⟨ec,pr⟩
 case step =>
  subst ec
  dsimp only
  by_cases c:lo ≥ a₀.size
  ·rw[if_pos c]
   obtain rfl:lo=a₀.size:=by omega
   exact wpS_pure ⟨rfl,pr⟩
  rw[if_neg c]
  refine wpS_bind (zHL hO h0 (by omega) (by omega) pr.ok fun m z kp m1 m2 ri=>?_)
  have pr2:PR κ a₀ lo z:=⟨kp.ok,by rw[kp.pd];exact pr.rn.same fun k _ b=>kp.out k (.inl b)⟩
  dsimp only
  by_cases d:m < minRun' a₀.size a₀.size 0
  ·rw[if_pos d]
   refine wpS_bind (wpS_lift (wpAny_rule ⟨rfl,?_⟩))
   refine wpS_bind (zDX hO h0 (by omega) (by omega) kp.ok ri fun z kp2 ri2=>?_)
   simp only[Bool.not_true,Bool.false_eq_true,if_false]
   have pr2:PR κ a₀ lo z:=⟨kp2.ok,by rw[kp2.pd];exact pr2.rn.same fun k _ b=>kp2.out k (.inl b)⟩
   have hn1:1 <= min (a₀.size - lo) (minRun' a₀.size a₀.size 0):=by omega
   have hn2:lo+min (a₀.size - lo) (minRun' a₀.size a₀.size 0) <= a₀.size:=by omega
   generalize min (a₀.size - lo) (minRun' a₀.size a₀.size 0)=n at *
   have ri:=ri2
   refine wpS_bind (wpS_get ?_)
   rcases hb:(pendingOf z).back? with _ | ⟨s1,n1,q1⟩
   ·dsimp only
    exact wpS_bind (wpS_modify (wpS_pure ⟨_,rfl,by omega,hn2,pr2.push hn1 ri⟩))
   ·dsimp only
    refine wpS_bind (wpS_mono (wpS_forRange (I:=fun _ c u=>c=(none,())/\PR κ a₀ lo u/\Ri κ (arrOf u) lo n) (Q:=fun c u=>c=(none,())/\PR κ a₀ lo u/\Ri κ (arrOf u) lo n)
     (fun y c u _ hy ⟨ec,pr3,ri3⟩=>?st2) (fun c u hh=>hh) ⟨rfl,pr2,ri⟩) fun c u ⟨ec,pr3,ri3⟩=>?po2)
    case st2 =>
     subst ec
     refine wpS_bind (wpS_get ?_)
     by_cases c1:(pendingOf u).size > 1
     ·rw[if_pos c1]
      rcases hq:(pendingOf u)[(pendingOf u).size - 2]? with _ | ⟨s2,n2,q2⟩
      ·exact wpS_pure ⟨rfl,pr3,ri3⟩
      ·dsimp only
       split
       ·exact wpS_pure ⟨rfl,pr3,ri3⟩
       ·refine wpS_bind (Z0 hO h0 pr3 (by omega) (by omega) fun z pr4 _ o4=>?_)
        simp only[Bool.not_true,Bool.false_eq_true,if_false]
        exact wpS_pure ⟨rfl,pr4,ri3.same fun k a _=>o4 k a⟩
     ·rw[if_neg c1]
      exact wpS_pure ⟨rfl,pr3,ri3⟩
    case po2 =>
     subst ec
     exact wpS_bind (wpS_modify (wpS_bind (wpS_modify (wpS_pure ⟨_,rfl,by omega,hn2,pr3.modi.push hn1 ri3⟩))))
  ·rw[if_neg d]
   have hn2:lo+m <= a₀.size:=by omega
   have hn1:=m1
   generalize m=n at *
   refine wpS_bind (wpS_get ?_)
   rcases hb:(pendingOf z).back? with _ | ⟨s1,n1,q1⟩
   ·dsimp only
    exact wpS_bind (wpS_modify (wpS_pure ⟨_,rfl,by omega,hn2,pr2.push hn1 ri⟩))
   ·dsimp only
    refine wpS_bind (wpS_mono (wpS_forRange (I:=fun _ c u=>c=(none,())/\PR κ a₀ lo u/\Ri κ (arrOf u) lo n) (Q:=fun c u=>c=(none,())/\PR κ a₀ lo u/\Ri κ (arrOf u) lo n)
     (fun y c u _ hy ⟨ec,pr3,ri3⟩=>?st2) (fun c u hh=>hh) ⟨rfl,pr2,ri⟩) fun c u ⟨ec,pr3,ri3⟩=>?po2)
    case st2 =>
     subst ec
     refine wpS_bind (wpS_get ?_)
     by_cases c1:(pendingOf u).size > 1
     ·rw[if_pos c1]
      rcases hq:(pendingOf u)[(pendingOf u).size - 2]? with _ | ⟨s2,n2,q2⟩
      ·exact wpS_pure ⟨rfl,pr3,ri3⟩
      ·dsimp only
       split
       ·exact wpS_pure ⟨rfl,pr3,ri3⟩
       ·refine wpS_bind (Z0 hO h0 pr3 (by omega) (by omega) fun z pr4 _ o4=>?_)
        simp only[Bool.not_true,Bool.false_eq_true,if_false]
        exact wpS_pure ⟨rfl,pr4,ri3.same fun k a _=>o4 k a⟩
     ·rw[if_neg c1]
      exact wpS_pure ⟨rfl,pr3,ri3⟩
    case po2 =>
     subst ec
     exact wpS_bind (wpS_modify (wpS_bind (wpS_modify (wpS_pure ⟨_,rfl,by omega,hn2,pr3.modi.push hn1 ri3⟩))))
 case post =>
  subst ec
  dsimp only
  have pl:=pr.rn.len
  rw[Nat.zero_add,Array.length_toList] at pl
  refine wpS_bind (wpS_mono (wpS_forRange (I:=fun k c u=>c=(none,())/\PR κ a₀ a₀.size u/\(pendingOf u).size <= max 1 (a₀.size - k)) (Q:=fun c u=>c=(none,())/\PR κ a₀ a₀.size u/\(pendingOf u).size <= 1)
   (fun k c u _ hk ⟨ec,pr,hs⟩=>?st3) (fun c u ⟨ec,pr,hs⟩=>⟨ec,pr,by omega⟩) ⟨rfl,pr,by omega⟩) fun c u ⟨ec,pr,hs⟩=>?po3)
  case st3 =>
   subst ec
   refine wpS_bind (wpS_get ?_)
   by_cases c1:(pendingOf u).size <= 1
   ·rw[if_pos c1]
    exact wpS_pure ⟨rfl,pr,c1⟩
   rw[if_neg c1]
   split
   all_goals
    refine wpS_bind (Z0 hO h0 pr (Nat.le_refl _) (by split<;>omega) fun z pr4 e4 _=>?_)
    simp only[Bool.not_true,Bool.false_eq_true,if_false]
    exact wpS_pure ⟨rfl,pr4,by omega⟩
  case po3 =>
   subst ec
   refine wpS_pure (h u pr.ok.pm pr.ok.fl ?_)
   have rn:=pr.rn
   match hp:(pendingOf u).toList,rn with
   | [],rn=>have:0=a₀.size:=rn;omega
   | [r],⟨r1,r2,r3,r4⟩ =>
    have:0+r.2.1=a₀.size:=r4
    intro i j hij hj
    have:=r3 i j hij (by omega)
    rwa [Nat.zero_add,Nat.zero_add] at this
   | _::_::_,_=>rw[<- Array.length_toList,hp] at hs;simp at hs
theorem zFh {a:Addr}{vs:List Value}{n:Nat}{P:Fin->Shared->Prop} (hO:κ.OneLt) (ho:s.heap.get? a=some (seqObj "list" vs.toArray n)) (h0:KeysOf κ (pairsOf vs))
  (hkk:∀ x y r,vs=x::y::r->keyKind' (x::y::r).toArray=pure oneType') (hl:vs.length <= 16777216)
  (h:∀ u:SortSt,(arrOf u).Perm (pairsOf vs)->SortedToK κ (arrOf u) (pairsOf vs).size->P (.done (.ret .none)) { s with heap:=sortedHeap s.heap a vs ((arrOf u).map (·.2)) }) :
  wpAny (model prog w) A (Builtin.«list.sort» ⟨[.ref a],[]⟩) P E s:=by
 rw[list_sort_plain]
 have la:a < s.heap.objs.size:=Heap.lt_size ho
 refine wpAny_bind (listItems_at ho rfl (wpAny_bind (listUpdate_at ho rfl ?_)))
 obtain⟨e1,o1⟩:∃ e1,(s.heap.update a (Obj.mapSeq fun _=>#[])).get? a=some (seqObj "list" #[] e1):=⟨_,get?_update_seq ho (fun _=>#[])⟩
 refine wpAny_bind (seqEpoch_at o1 rfl (wpAny_bind (wpAny_newTuple (wpAny_bind (wpAny_newList (wpAny_holding ?_))))))
 have o6:(((s.heap.update a (Obj.mapSeq fun _=>#[])).push (seqObj "tuple" vs.toArray 0)).push (seqObj "list" #[] 0)).get? a=some (seqObj "list" #[] e1):=by
  rw[Heap.get?_push_ne _ _ _ (by rw[size_push',Heap.size_update];exact Nat.ne_of_lt (Nat.lt_succ_of_lt la)),Heap.get?_push_ne _ _ _ (by rw[Heap.size_update];exact Nat.ne_of_lt la)];exact o1
 show wpAny (model prog w) A _ P E { s with heap:=((s.heap.update a (Obj.mapSeq fun _=>#[])).push (seqObj "tuple" vs.toArray 0)).push (seqObj "list" #[] 0) }
 dsimp only
 have hz:vs.toArray.size=vs.length:=by simp
 by_cases h2:vs.toArray.size < 2
 ·rw[if_pos h2,if_pos h2]
  refine wpAny_bind (wpAny_pure ?_)
  rw[StateT.run_pure]
  refine wpAny_bind (wpAny_pure ?_)
  dsimp only
  refine wpAny_bind (seqEpoch_at o6 rfl (wpAny_bind (listUpdate_at o6 rfl ?_ (hsz2:=by rw[Array.size_map];show (pairsOf vs).size <= _;rw[pairsOf_size,sizeLine_eq];omega))))
  simp only[bne_self_eq_false,Bool.false_eq_true,if_false]
  refine wpAny_pure (h (SortSt.mk' general' (vs.toArray.zip vs.toArray) #[] 7 none) (Array.Perm.refl _) fun i j hij hj=>?_)
  rw[pairsOf_size] at hj
  obtain rfl:i=j:=by omega
  exact KeyOrd.kle_refl _
 ·rw[if_neg h2,if_neg h2]
  match vs,hz,h2 with
  | [],_,h2=>simp at h2
  | [_],_,h2=>simp at h2
  | x::y::r,_,_ =>
  rw[hkk _ _ _ rfl]
  refine wpAny_bind (wpAny_pure (wpAny_bind (wpAny_mono (zFW hO (a₀:=pairsOf (x::y::r)) (st:=SortSt.mk' oneType' ((x::y::r).toArray.zip (x::y::r).toArray) #[] 7 none)
   (Q:=fun _ u=>(arrOf u).Perm (pairsOf (x::y::r))/\failedOf u=none/\SortedToK κ (arrOf u) (pairsOf (x::y::r)).size) h0 ⟨Array.Perm.refl _,rfl,rfl,rfl⟩ (by rw[pairsOf_size];simp) fun u a1 a2 a3=>⟨a1,a2,a3⟩) ?_ fun _ _ e=>e)))
  rintro ⟨⟨⟩,u⟩ _ ⟨rfl,hp,hf,hs⟩
  dsimp only
  refine wpAny_bind (seqEpoch_at o6 rfl (wpAny_bind (listUpdate_at o6 rfl ?_ (hsz2:=Nat.le_trans (Nat.le_of_eq ((Array.size_map ..).trans (hp.size_eq.trans (pairsOf_size _)))) (by rw[sizeLine_eq];omega)))))
  rw[hf]
  simp only[bne_self_eq_false,Bool.false_eq_true,if_false]
  exact wpAny_pure (h u hp hs)
theorem sorted_any {l:Addr}{vs:List Value}{ss:List Str}{Q:Value->Shared->Prop} (hl:s.heap.IsList l vs.toArray) (hS:StrsAre vs ss) (hn:vs.length <= 16777216)
  (h:∀ (out:Array Value) (ss':List Str),StrsAre out.toList ss'->ss'.Perm ss->sortedS ss'=true->Q (.ref (s.heap.objs.size+1)) { s with heap:=sortedAll s.heap vs out }) :
  wpAny (model prog w) A (call (.builtin "sorted") [.ref l]) Q E s:=by
 refine Calls.call_function_entry kind_sorted plain_sorted entry_sorted (args_sorted1 _) ?_
 unfold Builtin.«sorted»
 refine wpAny_bind (m:=checkCount "sorted" 1 1 _) (wpAny_pure (wpAny_bind (collect_list hl (wpAny_bind (wpAny_newList ?_)))))
 have hz:((s.heap.push (seqObj "list" #[] 0)).update s.heap.objs.size (Obj.mapSeq (· ++ vs.toArray))).objs.size=s.heap.objs.size+1:=(Heap.size_update ..).trans (size_push' ..)
 have oL:(((s.heap.push (seqObj "list" #[] 0)).update s.heap.objs.size (Obj.mapSeq (· ++ vs.toArray))).push (seqObj "list" vs.toArray 0)).get? (s.heap.objs.size+1)=some (seqObj "list" vs.toArray 0):=by rw[<- hz];exact Heap.get?_push_size _ rfl
 show wpAny _ _ _ _ _ { s with heap:=((s.heap.push (seqObj "list" #[] 0)).update s.heap.objs.size (Obj.mapSeq (· ++ vs.toArray))).push (seqObj "list" vs.toArray 0) }
 rw[hz]
 refine wpAny_bind (wpAny_holding (wpAny_call_entry slot_list_sort ⟨_,oL,rfl⟩ entry_list_sort (zFh strKind_oneLt oL hS.keysOf (fun x y r e=>keyKind_strs (by rw[<- e];exact hS)) hn fun u a1 a2=>⟨_,rfl,?_⟩) (args_list_sort _)))
 obtain⟨ss',h1,h2,h3⟩:=sorted_out_str hS a1 a2
 exact wpAny_pure ⟨_,rfl,h _ ss' h1 h2 h3⟩
end TS
namespace M
noncomputable abbrev T:=List Nat
inductive Kd where
 | str | int | bool | list | tuple | dict
 deriving DecidableEq
inductive D where
 | non | bl (b:Bool) | int (i:Int) | str (x:T) | tup (ds:List D) | ro (ds:List D) | ref (i:Nat) | ty (n:Kd)
mutual
noncomputable def D.decEq:(a b:D)->Decidable (a=b)
 | .non,.non=>isTrue rfl
 | .bl a,.bl b=>if h:a=b then isTrue (by rw[h]) else isFalse (fun e=>h (D.bl.inj e))
 | .int a,.int b=>if h:a=b then isTrue (by rw[h]) else isFalse (fun e=>h (D.int.inj e))
 | .str a,.str b=>if h:a=b then isTrue (by rw[h]) else isFalse (fun e=>h (D.str.inj e))
 | .ref a,.ref b=>if h:a=b then isTrue (by rw[h]) else isFalse (fun e=>h (D.ref.inj e))
 | .ty a,.ty b=>if h:a=b then isTrue (by rw[h]) else isFalse (fun e=>h (D.ty.inj e))
 | .tup a,.tup b=>match D.decEqs a b with
  | isTrue h=>isTrue (by rw[h])
  | isFalse h=>isFalse (fun e=>h (D.tup.inj e))
 | .ro a,.ro b=>match D.decEqs a b with
  | isTrue h=>isTrue (by rw[h])
  | isFalse h=>isFalse (fun e=>h (D.ro.inj e))
 | .non,.bl _ | .non,.int _ | .non,.str _ | .non,.tup _ | .non,.ro _ | .non,.ref _ | .non,.ty _=>isFalse (fun e=>nomatch e)
 | .bl _,.non | .bl _,.int _ | .bl _,.str _ | .bl _,.tup _ | .bl _,.ro _ | .bl _,.ref _ | .bl _,.ty _=>isFalse (fun e=>nomatch e)
 | .int _,.non | .int _,.bl _ | .int _,.str _ | .int _,.tup _ | .int _,.ro _ | .int _,.ref _ | .int _,.ty _=>isFalse (fun e=>nomatch e)
 | .str _,.non | .str _,.bl _ | .str _,.int _ | .str _,.tup _ | .str _,.ro _ | .str _,.ref _ | .str _,.ty _=>isFalse (fun e=>nomatch e)
 | .tup _,.non | .tup _,.bl _ | .tup _,.int _ | .tup _,.str _ | .tup _,.ro _ | .tup _,.ref _ | .tup _,.ty _=>isFalse (fun e=>nomatch e)
 | .ro _,.non | .ro _,.bl _ | .ro _,.int _ | .ro _,.str _ | .ro _,.tup _ | .ro _,.ref _ | .ro _,.ty _=>isFalse (fun e=>nomatch e)
 | .ref _,.non | .ref _,.bl _ | .ref _,.int _ | .ref _,.str _ | .ref _,.tup _ | .ref _,.ro _ | .ref _,.ty _=>isFalse (fun e=>nomatch e)
 | .ty _,.non | .ty _,.bl _ | .ty _,.int _ | .ty _,.str _ | .ty _,.tup _ | .ty _,.ro _ | .ty _,.ref _=>isFalse (fun e=>nomatch e)
noncomputable def D.decEqs:(a b:List D)->Decidable (a=b)
 | [],[]=>isTrue rfl
 | [],_::_=>isFalse (fun e=>nomatch e)
 | _::_,[]=>isFalse (fun e=>nomatch e)
 | a::r,b::t=>match D.decEq a b,D.decEqs r t with
  | isTrue h,isTrue k=>isTrue (by rw[h,k])
  | isFalse h,_=>isFalse (fun e=>h (List.cons.inj e).1)
  | _,isFalse k=>isFalse (fun e=>k (List.cons.inj e).2)
end
instance:DecidableEq D:=D.decEq
inductive O where
 | lst (xs:List D) | dct (kvs:List (D×D)) | fdc (kvs:List (D×D)) | ins (c:Nat) (fs:List (Option D))
 deriving DecidableEq
noncomputable abbrev S:=List O
noncomputable abbrev St:=List (Option D)
inductive R (α:Type) where
 | ok (a:α) (s:S) | exc (e:D) (s:S) | no
noncomputable def R.bind {α β:Type}:R α->(α->S->R β)->R β
 | .ok a s,f=>f a s
 | .exc e s,_=>.exc e s
 | .no,_=>.no
@[simp] theorem R.bind_ok {α β:Type} (a:α) (s:S) (f:α->S->R β):(R.ok a s).bind f=f a s:=rfl
@[simp] theorem R.bind_no {α β:Type} (f:α->S->R β):(R.no:R α).bind f=.no:=rfl
@[simp] theorem R.bind_exc {α β:Type} (e:D) (s:S) (f:α->S->R β):(R.exc e s:R α).bind f=.exc e s:=rfl
section
variable {α β:Type}{c:Prop} [Decidable c]
@[simp] theorem R.bind_ite (a b:R α) (f:α->S->R β):(if c then a else b).bind f=if c then a.bind f else b.bind f:=by split<;>rfl
@[simp] theorem R.ite_ok (a b:α) (s:S):(if c then R.ok a s else R.ok b s)=R.ok (if c then a else b) s:=by split<;>rfl
@[simp] theorem D.ite_bl (a b:Bool):(if c then D.bl a else D.bl b)=D.bl (if c then a else b):=by split<;>rfl
@[simp] theorem D.ite_int (a b:Int):(if c then D.int a else D.int b)=D.int (if c then a else b):=by split<;>rfl
@[simp] theorem D.ite_str (a b:T):(if c then D.str a else D.str b)=D.str (if c then a else b):=by split<;>rfl
@[simp] theorem D.ite_tup (a b:List D):(if c then D.tup a else D.tup b)=D.tup (if c then a else b):=by split<;>rfl
@[simp] theorem St.ite_some (a b:D):(if c then some a else some b)=some (if c then a else b):=by split<;>rfl
@[simp] theorem St.ite_cons (a b:Option D) (r t:St):(if c then a::r else b::t)=(if c then a else b)::(if c then r else t):=by split<;>rfl
end
noncomputable abbrev EM:=St->S->R D
noncomputable abbrev TM:=St->S->R Bool
noncomputable abbrev AM:=St->S->R (List D)
noncomputable def SZ:Nat:=16777216
@[simp] noncomputable def zE (i:Nat):EM:=fun σ s=>match σ[i]? with
 | some (some d)=>.ok d s
 | _=>.no
@[simp] noncomputable def eC (d:D):EM:=fun _ s=>.ok d s
@[simp] noncomputable def eOp (f:D->D->S->R D) (a b:EM):EM:=fun σ s=>(a σ s).bind fun x s=>(b σ s).bind fun y s=>f x y s
@[simp] noncomputable def eUn (f:D->S->R D) (a:EM):EM:=fun σ s=>(a σ s).bind fun x s=>f x s
@[simp] noncomputable def zK:AM:=fun _ s=>.ok [] s
@[simp] noncomputable def zC (a:EM) (r:AM):AM:=fun σ s=>(a σ s).bind fun x s=>(r σ s).bind fun xs s=>.ok (x::xs) s
@[simp] noncomputable def alloc (o:O) (s:S):R D:=.ok (.ref s.length) (s++[o])
@[simp] noncomputable def yY (a:AM):EM:=fun σ s=>(a σ s).bind fun xs s=>if xs.length <= SZ then alloc (.lst xs) s else .no
@[simp] noncomputable def zT (s:S) (i:Nat):Option (List D):=match s[i]? with
 | some (.lst xs)=>some xs
 | _=>none
@[simp] noncomputable def jX:D->D->S->R D
 | .int i,.int j,s=>.ok (.int (i+j)) s
 | .str a,.str b,s=>if a.length+b.length <= SZ then .ok (.str (a++b)) s else .no
 | .tup a,.tup b,s=>if a≠[]/\a.length+b.length <= SZ then .ok (.tup (a++b)) s else .no
 | .ref i,.ref j,s=>match s[i]?,s[j]? with
  | some (.lst xs),some (.lst ys)=>if xs.length+ys.length <= SZ then alloc (.lst (xs++ys)) s else .no
  | _,_=>.no
 | _,_,_=>.no
@[simp] noncomputable def zJO:D->D->S->R D
 | .int i,.int j,s=>.ok (.int (i - j)) s
 | _,_,_=>.no
noncomputable def zv (i:Int):Bool:=decide (i.natAbs < 18446744073709551616)
@[simp] noncomputable def yv:D->D->S->R D
 | .int i,.int j,s=>if zv i || zv j then .ok (.int (i * j)) s else .no
 | .str a,.int n,s=>if 0 <= n/\n.natAbs <= 1000000/\a.length * n.natAbs <= 1000000 then .ok (.str (List.replicate n.toNat a).flatten) s else .no
 | .ref p,.int n,s=>match zT s p with
  | some xs=>if n.natAbs <= 1000/\xs.length * n.natAbs <= 1000000 then alloc (.lst (List.replicate n.toNat xs).flatten) s else .no
  | none=>.no
 | _,_,_=>.no
@[simp] noncomputable def qH:D->D->S->R D
 | .int i,.int j,s=>if 0 < j/\j.natAbs < 1073741824 then .ok (.int (i / j)) s else .no
 | _,_,_=>.no
@[simp] noncomputable def jN:D->D->S->R D
 | .int i,.int j,s=>if 0 < j then .ok (.int (i % j)) s else .no
 | _,_,_=>.no
noncomputable abbrev CM:=D->D->S->R Bool
@[simp] noncomputable def cLt:CM
 | .int i,.int j,s=>.ok (decide (i < j)) s
 | .str a,.str b,s=>.ok (decide (a < b)) s
 | _,_,_=>.no
inductive P where
 | non | bl (b:Bool) | int (i:Int) | str (x:T) | tup (ps:List P) | lst (ps:List P)
mutual
noncomputable def P.eqv:P->P->Bool
 | .non,.non=>true
 | .bl a,.bl b=>a == b
 | .int a,.int b=>a == b
 | .bl a,.int b=>(if a then 1 else 0) == b
 | .int a,.bl b=>a == (if b then 1 else 0)
 | .str a,.str b=>a == b
 | .tup a,.tup b=>P.eqvs a b
 | .lst a,.lst b=>P.eqvs a b
 | _,_=>false
noncomputable def P.eqvs:List P->List P->Bool
 | [],[]=>true
 | a::r,b::t=>P.eqv a b && P.eqvs r t
 | _,_=>false
end
mutual
noncomputable def P.dep:P->Nat
 | .tup ps=>P.deps ps+1
 | .lst ps=>P.deps ps+1
 | _=>0
noncomputable def P.deps:List P->Nat
 | []=>0
 | p::ps=>max (P.dep p) (P.deps ps)
end
noncomputable def jl (g:Nat->Option P):D->Option P
 | .non=>some .non
 | .bl b=>some (.bl b)
 | .int i=>some (.int i)
 | .str x=>some (.str x)
 | .tup ds=>(all ds).map .tup
 | .ro ds=>(all ds).map .lst
 | .ref i=>g i
 | .ty _=>none
where all:List D->Option (List P)
 | []=>some []
 | d::ds=>match jl g d,all ds with
  | some p,some ps=>some (p::ps)
  | _,_=>none
noncomputable def toP:Nat->S->D->Option P
 | 0,_=>jl fun _=>none
 | n+1,s=>jl fun i=>match zT s i with
  | some xs=>(jl.all (fun j=>toP n s (.ref j)) xs).map .lst
  | none=>none
noncomputable def QD:Nat:=9
noncomputable def qO (k:D) (kvs:List (D×D)):Option D:=kvs.lookup k
noncomputable def dEq (s:S) (ws:List (D×D)):List (D×D)->Option Bool
 | []=>some true
 | (k,v)::r=>match qO k ws with
  | none=>some false
  | some w=>match toP 8 s v,toP 8 s w,dEq s ws r with
   | some p,some q,some b=>if P.dep p <= 64/\P.dep q <= 64 then some (P.eqv p q && b) else none
   | _,_,_=>none
noncomputable def zBA (x y:D) (s:S):R Bool:=match x,y with
 | .ref i,.ref j=>match s[i]?,s[j]? with
  | some (.dct ks),some (.dct ws)=>if ks.length=ws.length then (match dEq s ws ks with | some b=>.ok b s | none=>.no) else .ok false s
  | _,_=>.no
 | _,_=>.no
@[simp] noncomputable def eqD (x y:D) (s:S):R Bool:=match x,y with
 | .str a,.str b=>.ok (decide (a=b)) s
 | .int a,.int b=>.ok (decide (a=b)) s
 | .bl a,.bl b=>.ok (decide (a=b)) s
 | .non,.non=>.ok true s
 | x,y=>match toP QD s x,toP QD s y with
  | some p,some q=>if P.dep p <= 64/\P.dep q <= 64 then .ok (P.eqv p q) s else .no
  | _,_=>zBA x y s
@[simp] noncomputable def cEq:CM:=fun x y s=>eqD x y s
@[simp] noncomputable def cNe:CM:=fun x y s=>(eqD x y s).bind fun b s=>.ok (!b) s
noncomputable def ZT (a:T):T->Bool
 | []=>a.isEmpty
 | c::r=>a.isPrefixOf (c::r) || ZT a r
noncomputable def flat:D->Bool
 | .non=>true
 | .bl _=>true
 | .int _=>true
 | .str _=>true
 | _=>false
noncomputable def eqF:D->D->Bool
 | .non,.non=>true
 | .bl a,.bl b=>a == b
 | .int a,.int b=>a == b
 | .bl a,.int b=>(if a then 1 else 0) == b
 | .int a,.bl b=>a == (if b then 1 else 0)
 | .str a,.str b=>a == b
 | _,_=>false
noncomputable def QH (x:D) (xs:List D):Bool:=xs.any fun y=>eqF y x
noncomputable def y7:D->Bool
 | .int _=>true
 | .str _=>true
 | _=>false
@[simp] noncomputable def inD (x y:D) (s:S):R Bool:=match y with
 | .str b=>match x with
  | .str a=>.ok (ZT a b) s
  | _=>.no
 | .tup ys=>if flat x && ys.all flat then .ok (QH x ys) s else .no
 | .ro ys=>if flat x && ys.all flat then .ok (QH x ys) s else .no
 | .ref i=>match s[i]? with
  | some (.lst ys)=>if flat x && ys.all flat then .ok (QH x ys) s else .no
  | some (.dct kvs)=>if y7 x then .ok (qO x kvs).isSome s else .no
  | some (.fdc kvs)=>if y7 x then .ok (qO x kvs).isSome s else .no
  | _=>.no
 | _=>.no
@[simp] noncomputable def zBJ:CM:=fun x y s=>(inD x y s).bind fun b s=>.ok (!b) s
@[simp] noncomputable def zDG (c:CM) (a b:EM):EM:=fun σ s=>(a σ s).bind fun x s=>(b σ s).bind fun y s=>(c x y s).bind fun k s=>.ok (.bl k) s
@[simp] noncomputable def qC (c:CM) (a b:EM):TM:=fun σ s=>(a σ s).bind fun x s=>(b σ s).bind fun y s=>c x y s
@[simp] noncomputable def zJM:D->S->R Bool
 | .non,s=>.ok false s
 | .bl b,s=>.ok b s
 | .int i,s=>.ok (decide (i≠0)) s
 | .str x,s=>if x.length <= SZ then .ok (!x.isEmpty) s else .no
 | .tup ds,s=>.ok (!ds.isEmpty) s
 | .ro ds,s=>.ok (!ds.isEmpty) s
 | .ref i,s=>match s[i]? with
  | some (.lst xs)=>.ok (!xs.isEmpty) s
  | some (.dct kvs)=>.ok (!kvs.isEmpty) s
  | _=>.no
 | .ty _,_=>.no
@[simp] noncomputable def asB:D->S->R Bool
 | .bl b,s=>.ok b s
 | _,_=>.no
@[simp] noncomputable def zDA (a b:EM):EM:=fun σ s=>(a σ s).bind fun x s=>(asB x s).bind fun k s=>if k then b σ s else .ok (.bl false) s
noncomputable def ixN (n:Nat) (i:Int):Option Nat:=if 0 <= i then (if i < n then some i.toNat else none) else if -(n:Int) <= i then some (i+n).toNat else none
noncomputable def atI {α:Type} (xs:List α) (i:Int):Option α:=(ixN xs.length i).bind fun j=>xs[j]?
@[simp] noncomputable def qf:D->D->S->R D
 | .str x,.int i,s=>if x.length <= SZ then (match atI x i with | some c=>.ok (.str [c]) s | none=>.no) else .no
 | .tup xs,.int i,s=>match atI xs i with | some d=>.ok d s | none=>.no
 | .ro xs,.int i,s=>match atI xs i with | some d=>.ok d s | none=>.no
 | .ref p,k,s=>match s[p]? with
  | some (.lst xs)=>(match k with | .int i=>(match atI xs i with | some d=>.ok d s | none=>.no) | _=>.no)
  | some (.dct kvs)=>if y7 k then (match qO k kvs with | some d=>.ok d s | none=>.no) else .no
  | some (.fdc kvs)=>if y7 k then (match qO k kvs with | some d=>.ok d s | none=>.no) else .no
  | _=>.no
 | _,_,_=>.no
noncomputable def sIx (n d:Nat):Option Int->Nat
 | none=>d
 | some v=>(if v < 0 then max (v+(n:Int)) 0 else min v (n:Int)).toNat
noncomputable def cut {α:Type} (xs:List α) (lo hi:Option Int):List α:=(xs.drop (sIx xs.length 0 lo)).take (sIx xs.length xs.length hi - sIx xs.length 0 lo)
noncomputable abbrev OM:=St->S->R (Option Int)
@[simp] noncomputable def Zz:OM:=fun _ s=>.ok none s
@[simp] noncomputable def Z3 (a:EM):OM:=fun σ s=>(a σ s).bind fun x s=>match x with | .int i=>.ok (some i) s | _=>.no
@[simp] noncomputable def slD (x:D) (lo hi:Option Int) (s:S):R D:=match x with
 | .str z=>if z.length <= SZ then .ok (.str (cut z lo hi)) s else .no
 | .tup xs=>if sIx xs.length 0 lo=0/\sIx xs.length xs.length hi=xs.length then .no else .ok (.tup (cut xs lo hi)) s
 | .ro xs=>alloc (.lst (cut xs lo hi)) s
 | .ref p=>match zT s p with
  | some xs=>alloc (.lst (cut xs lo hi)) s
  | none=>.no
 | _=>.no
@[simp] noncomputable def eSl (a:EM) (lo hi:OM):EM:=fun σ s=>(a σ s).bind fun x s=>(lo σ s).bind fun l s=>(hi σ s).bind fun h s=>slD x l h s
@[simp] noncomputable def zCp (x:D) (s:S):R D:=match x with
 | .str z=>if z.length <= SZ then .ok (.str z.reverse) s else .no
 | .ref p=>match zT s p with
  | some xs=>alloc (.lst xs.reverse) s
  | none=>.no
 | _=>.no
noncomputable abbrev F:=List D->S->R D
@[simp] noncomputable def zM (f:F) (a:AM):EM:=fun σ s=>(a σ s).bind fun xs s=>f xs s
@[simp] noncomputable def qx (k:Kd) (x:D) (s:S):Bool:=match x with
 | .str _=>(match k with | .str=>true | _=>false)
 | .ro _=>(match k with | .list=>true | _=>false)
 | .ref p=>match s[p]? with
  | some (.lst _)=>(match k with | .list=>true | _=>false)
  | some (.dct _)=>(match k with | .dict=>true | _=>false)
  | _=>false
 | _=>false
@[simp] noncomputable def eM (k:Kd) (f:D->F) (o:EM) (a:AM):EM:=fun σ s=>(o σ s).bind fun x s=>if qx k x s then (a σ s).bind fun xs s=>f x xs s else .no
@[simp] noncomputable def Zg:F
 | [.str x],s=>if x.length <= SZ then .ok (.int x.length) s else .no
 | [.tup xs],s=>.ok (.int xs.length) s
 | [.ro xs],s=>.ok (.int xs.length) s
 | [.ref p],s=>match s[p]? with
  | some (.lst xs)=>.ok (.int xs.length) s
  | some (.dct kvs)=>.ok (.int kvs.length) s
  | _=>.no
 | _,_=>.no
@[simp] noncomputable def y0 (n:Kd) (x:D) (s:S):R Bool:=match x with
 | .non=>.ok false s
 | .bl _=>.ok (match n with | .bool=>true | .int=>true | _=>false) s
 | .int _=>.ok (match n with | .int=>true | _=>false) s
 | .str _=>.ok (match n with | .str=>true | _=>false) s
 | .tup _=>.ok (match n with | .tuple=>true | _=>false) s
 | .ro _=>.ok (match n with | .list=>true | _=>false) s
 | .ty _=>.no
 | .ref p=>match s[p]? with
  | some (.lst _)=>.ok (match n with | .list=>true | _=>false) s
  | some (.dct _)=>.ok (match n with | .dict=>true | _=>false) s
  | _=>.no
@[simp] noncomputable def zAF:F
 | [x,.ty n],s=>(y0 n x s).bind fun b s=>.ok (.bl b) s
 | _,_=>.no
noncomputable def Zb:List D->Option (List Bool)
 | []=>some []
 | .bl b::r=>(Zb r).map (b :: ·)
 | _::_=>none
noncomputable def qq:List D->Option (List T)
 | []=>some []
 | .str x::r=>(qq r).map (x :: ·)
 | _::_=>none
noncomputable def Q0 (xs:List D) (s:S):R D:=match Zb xs with
 | some bs=>.ok (.bl (bs.all id)) s
 | none=>.no
@[simp] noncomputable def QW (k:List D->S->R D):F
 | [.tup xs],s=>k xs s
 | [.ro xs],s=>k xs s
 | [.ref p],s=>match zT s p with
  | some xs=>k xs s
  | none=>.no
 | _,_=>.no
noncomputable def zt (x:T):List T->T
 | []=>[]
 | [y]=>y
 | y::r=>y++x++zt x r
noncomputable def qb (x:T) (xs:List D) (s:S):R D:=match qq xs with
 | some ys=>if (ys.map List.length).sum+ys.length * x.length <= SZ then .ok (.str (zt x ys)) s else .no
 | none=>.no
@[simp] noncomputable def qI:D->F
 | .str x,xs,s=>QW (qb x) xs s
 | _,_,_=>.no
noncomputable def zo (c:Nat):T->List T
 | []=>[[]]
 | d::r=>if d=c then []::zo c r else match zo c r with
  | []=>[[d]]
  | p::ps=>(d::p)::ps
@[simp] noncomputable def JV:D->F
 | .str x,[.str [c]],s=>if x.length+2 <= SZ then alloc (.lst ((zo c x).map .str)) s else .no
 | _,_,_=>.no
@[simp] noncomputable def Z4:D->F
 | .str x,[.str [a],.str [b]],s=>if 2 * x.length+1 <= SZ then .ok (.str (x.map fun c=>if c=a then b else c)) s else .no
 | _,_,_=>.no
noncomputable def ZQ (i:Int):T:=(toString i).toList.map Char.toNat
@[simp] noncomputable def zBY:F
 | [.int i],s=>if zv i then .ok (.str (ZQ i)) s else .no
 | _,_=>.no
@[simp] noncomputable def zCf:F
 | [.tup xs],s=>alloc (.lst xs) s
 | [.ro xs],s=>alloc (.lst xs) s
 | [.ref p],s=>match s[p]? with
  | some (.lst xs)=>alloc (.lst xs) s
  | some (.dct kvs)=>alloc (.lst (kvs.map (·.1))) s
  | _=>.no
 | _,_=>.no
@[simp] noncomputable def zJN:F
 | [.ref p],s=>match s[p]? with
  | some (.dct kvs)=>alloc (.dct kvs) s
  | _=>.no
 | _,_=>.no
@[simp] noncomputable def q8:D->F
 | .ref p,[y],s=>match s[p]? with
  | some (.lst xs)=>if xs.length < SZ then .ok .non (s.set p (.lst (xs++[y]))) else .no
  | _=>.no
 | _,_,_=>.no
noncomputable def zEf:List T->Option T
 | []=>none
 | x::r=>some (r.foldl (fun b y=>if y < b then y else b) x)
noncomputable def zFN (xs:List D) (s:S):R D:=match qq xs with
 | some ys=>(match zEf ys with | some y=>.ok (.str y) s | none=>.no)
 | none=>.no
@[simp] noncomputable def zFL (k:List D->S->R D):F
 | [.ref p],s=>match zT s p with
  | some xs=>k xs s
  | none=>.no
 | _,_=>.no
@[simp] noncomputable def ZA:F:=fun xs s=>zFL zFN xs s
noncomputable def zn:List T->List T
 | []=>[]
 | x::r=>insT' x (zn r)
where insT' (x:T):List T->List T
 | []=>[x]
 | y::r=>if y < x then y::insT' x r else x::y::r
noncomputable def Jx (xs:List D) (s:S):R D:=match qq xs with
 | some ys=>if ys.length <= 16777216 then alloc (.lst ((zn ys).map .str)) s else .no
 | none=>.no
@[simp] noncomputable def zAN:F
 | [.ref p],s=>match zT s p with
  | some xs=>Jx xs s
  | none=>.no
 | _,_=>.no
@[simp] noncomputable def Zw:D->F
 | .ref p,[.str x],s=>match s[p]? with
  | some (.lst xs)=>(match qq xs with | some ts=>if x∈ts then .ok .non (s.set p (.lst ((ts.erase x).map .str))) else .no | none=>.no)
  | _=>.no
 | _,_,_=>.no
noncomputable abbrev Gd:=List (Nat×O)
noncomputable def zR (g:Gd) (s:S):Bool:=g.all fun p=>decide (s[p.1]? = some p.2)
noncomputable abbrev IM:=St->S->R (List D×Gd)
@[simp] noncomputable def itD:D->S->R (List D×Gd)
 | .str x,s=>if x.length <= SZ then .ok (x.map fun c=>.str [c],[]) s else .no
 | .tup ds,s=>.ok (ds,[]) s
 | .ro ds,s=>.ok (ds,[]) s
 | .ref i,s=>match s[i]? with
  | some (.lst xs)=>.ok (xs,[(i,.lst xs)]) s
  | _=>.no
 | _,_=>.no
@[simp] noncomputable def iE (a:EM):IM:=fun σ s=>(a σ s).bind itD
noncomputable def qR (lo hi:Int):List D:=(List.range (hi - lo).toNat).map fun (k:Nat)=>.int (lo+k)
@[simp] noncomputable def q0 (a:EM):IM:=fun σ s=>(a σ s).bind fun x s=>match x with
 | .int j=>if j.natAbs < 4611686018427387904 then .ok (qR 0 j,[]) s else .no
 | _=>.no
noncomputable abbrev GM:=D->St->Option St
@[simp] noncomputable def jS (i:Nat):GM:=fun d σ=>some (σ.set i (some d))
noncomputable abbrev GMs:=List D->St->Option St
@[simp] noncomputable def zJP (g:GM) (r:GMs):GMs:=fun ds σ=>match ds with
 | []=>none
 | d::ds=>match g d σ with
  | some σ'=>r ds σ'
  | none=>none
noncomputable def jo (g:Gd) (f:D->S->R (Option D)):List D->S->R (List D)
 | [],s=>.ok [] s
 | x::xs,s=>(f x s).bind fun o s=>if zR g s then (jo g f xs s).bind fun ys s=>.ok (match o with | some y=>y::ys | none=>ys) s else .no
@[simp] noncomputable def qu:TM:=fun _ s=>.ok true s
@[simp] noncomputable def jW (n:Nat) (tg:GM) (c:TM) (e:EM) (σ:St):D->S->R (Option D):=fun x s=>match tg x (σ++List.replicate n none) with
 | none=>.no
 | some σ'=>(c σ' s).bind fun b s=>if b then (e σ' s).bind fun d s=>.ok (some d) s else .ok none s
noncomputable def qF (n:Nat) (it:IM) (tg:GM) (c:TM) (e:EM):AM:=fun σ s=>(it σ s).bind fun p s=>if p.1.length <= SZ/\zR p.2 s=true then jo p.2 (jW n tg c e σ) p.1 s else .no
@[simp] noncomputable def zCg (n:Nat) (it:IM) (tg:GM) (c:TM) (e:EM):EM:=fun σ s=>(qF n it tg c e σ s).bind fun ys s=>alloc (.lst ys) s
@[simp] noncomputable def qh (k:List D->S->R D) (n:Nat) (it:IM) (tg:GM) (c:TM) (e:EM):EM:=fun σ s=>(qF n it tg c e σ s).bind k
inductive RS where
 | nx (σ:St) (s:S) | rt (d:D) (s:S) | bk (σ:St) (s:S) | ct (σ:St) (s:S) | exc (e:D) (σ:St) (s:S) | no
noncomputable abbrev SM:=St->S->RS
noncomputable def R.stm {α:Type} (r:R α) (σ:St) (f:α->S->RS):RS:=match r with
 | .ok a s=>f a s
 | .exc e s=>.exc e σ s
 | .no=>.no
@[simp] theorem R.stm_ok {α:Type} (a:α) (s:S) (σ:St) (f:α->S->RS):(R.ok a s).stm σ f=f a s:=rfl
@[simp] theorem R.stm_no {α:Type} (σ:St) (f:α->S->RS):(R.no:R α).stm σ f=.no:=rfl
noncomputable def RS.then (r:RS) (f:SM):RS:=match r with
 | .nx σ s=>f σ s
 | r=>r
@[simp] theorem RS.then_nx (σ:St) (s:S) (f:SM):(RS.nx σ s).then f=f σ s:=rfl
@[simp] theorem RS.then_rt (d:D) (s:S) (f:SM):(RS.rt d s).then f=.rt d s:=rfl
@[simp] theorem RS.then_no (f:SM):RS.no.then f=.no:=rfl
@[simp] theorem RS.then_bk (σ:St) (s:S) (f:SM):(RS.bk σ s).then f=.bk σ s:=rfl
section
variable {α:Type}{c:Prop} [Decidable c]
@[simp] theorem R.stm_ite (a b:R α) (σ:St) (f:α->S->RS):(if c then a else b).stm σ f=if c then a.stm σ f else b.stm σ f:=by split<;>rfl
@[simp] theorem RS.ite_nx (a b:St) (s:S):(if c then RS.nx a s else RS.nx b s)=RS.nx (if c then a else b) s:=by split<;>rfl
@[simp] theorem RS.ite_rt (a b:D) (s:S):(if c then RS.rt a s else RS.rt b s)=RS.rt (if c then a else b) s:=by split<;>rfl
@[simp] theorem RS.then_ite (a b:RS) (f:SM):(if c then a else b).then f=if c then a.then f else b.then f:=by split<;>rfl
end
@[simp] theorem RS.then_exc (e:D) (σ:St) (s:S) (f:SM):(RS.exc e σ s).then f=.exc e σ s:=rfl
@[simp] theorem R.stm_exc {α:Type} (e:D) (s:S) (σ:St) (f:α->S->RS):(R.exc e s:R α).stm σ f=.exc e σ s:=rfl
@[simp] theorem RS.then_ct (σ:St) (s:S) (f:SM):(RS.ct σ s).then f=.ct σ s:=rfl
@[simp] noncomputable def Z8:SM:=fun σ s=>.nx σ s
@[simp] noncomputable def zZ (a b:SM):SM:=fun σ s=>(a σ s).then b
@[simp] noncomputable def qp (e:EM):SM:=fun σ s=>(e σ s).stm σ fun _ s=>.nx σ s
@[simp] noncomputable def jy (e:EM):SM:=fun σ s=>(e σ s).stm σ fun d s=>.rt d s
@[simp] noncomputable def z7 (i:Nat) (e:EM):SM:=fun σ s=>(e σ s).stm σ fun d s=>.nx (σ.set i (some d)) s
@[simp] noncomputable def sIf (c:TM) (a b:SM):SM:=fun σ s=>(c σ s).stm σ fun k s=>if k then a σ s else b σ s
noncomputable def j0 (g:Gd) (f:D->SM):List D->SM
 | [],σ,s=>.nx σ s
 | x::xs,σ,s=>match f x σ s with
  | .nx σ s=>if zR g s then j0 g f xs σ s else .no
  | .ct σ s=>if zR g s then j0 g f xs σ s else .no
  | .bk σ s=>.nx σ s
  | r=>r
@[simp] noncomputable def yR (tg:GM) (b:SM):D->SM:=fun x σ s=>match tg x σ with
 | some σ'=>b σ' s
 | none=>.no
@[simp] noncomputable def J6 (it:IM) (tg:GM) (b:SM):SM:=fun σ s=>(it σ s).stm σ fun p s=>if zR p.2 s=true then j0 p.2 (yR tg b) p.1 σ s else .no
noncomputable def qo:Nat->TM->SM->SM
 | 0,_,_,_,_=>.no
 | n+1,c,b,σ,s=>(c σ s).stm σ fun k s=>if k then (match b σ s with
  | .nx σ s=>qo n c b σ s
  | .ct σ s=>qo n c b σ s
  | .bk σ s=>.nx σ s
  | r=>r) else .nx σ s
noncomputable def zC8:Nat:=1000000000000
@[simp] noncomputable def zBv (c:TM) (b:SM):SM:=fun σ s=>qo zC8 c b σ s
noncomputable def RS.out (r:RS):R D:=match r with
 | .rt d s=>.ok d s
 | .nx _ s=>.ok .non s
 | .exc e _ s=>.exc e s
 | _=>.no
@[simp] theorem RS.out_rt (d:D) (s:S):(RS.rt d s).out=.ok d s:=rfl
@[simp] theorem RS.out_nx (σ:St) (s:S):(RS.nx σ s).out=.ok .non s:=rfl
@[simp] theorem RS.out_no:RS.no.out=.no:=rfl
@[simp] theorem RS.out_exc (e:D) (σ:St) (s:S):(RS.exc e σ s).out=.exc e s:=rfl
@[simp] theorem RS.out_ite {c:Prop} [Decidable c] (a b:RS):(if c then a else b).out=if c then a.out else b.out:=by split<;>rfl
@[simp] noncomputable def fn (n:Nat) (b:SM):F:=fun xs s=>(b (xs.map some++List.replicate (n - xs.length) none) s).out
noncomputable def D.cl (n:Nat):D->Bool
 | .ref i=>decide (i < n)
 | .tup ds=>all ds
 | .ro ds=>all ds
 | _=>true
where all:List D->Bool
 | []=>true
 | d::ds=>D.cl n d && all ds
noncomputable def O.cl (n:Nat):O->Bool
 | .lst xs=>D.cl.all n xs
 | .dct kvs=>kvs.all fun p=>D.cl n p.1 && D.cl n p.2
 | .fdc kvs=>kvs.all fun p=>D.cl n p.1 && D.cl n p.2
 | .ins _ fs=>fs.all fun o=>match o with | some d=>D.cl n d | none=>true
noncomputable def clS (n:Nat) (s:S):Bool:=s.all (O.cl n)
noncomputable def D.ren (e:List Nat):D->D
 | .ref i=>.ref (e.getD i i)
 | .tup ds=>.tup (all ds)
 | .ro ds=>.ro (all ds)
 | d=>d
where all:List D->List D
 | []=>[]
 | d::ds=>D.ren e d::all ds
noncomputable def O.ren (e:List Nat):O->O
 | .lst xs=>.lst (D.ren.all e xs)
 | .dct kvs=>.dct (kvs.map fun p=>(D.ren e p.1,D.ren e p.2))
 | .fdc kvs=>.fdc (kvs.map fun p=>(D.ren e p.1,D.ren e p.2))
 | .ins c fs=>.ins c (fs.map (Option.map (D.ren e)))
end M
namespace M
structure Emb (n:Nat) (e:List Nat) (S' S1:S):Prop where
 len:e.length=S'.length
 nd:e.Nodup
 le:n <= S'.length
 old:∀ i,i < n->e[i]? = some i
 obj:∀ (i:Nat) o,S'[i]? = some o->∃ j,e[i]? = some j/\S1[j]? = some (O.ren e o)/\O.cl S'.length o=true
noncomputable def zj (n:Nat) (f q:F):Prop:=∀ ds S,ds.length=n->clS S.length S=true->D.cl.all S.length ds=true ->
 q ds S=.no\/∃ d S' S1 e,q ds S=.ok d S'/\f ds S=.ok (D.ren e d) S1/\Emb S.length e S' S1/\D.cl S'.length d=true
section
variable {e:List Nat}
mutual
theorem D.ren_id (h:∀ i,e.getD i i=i):∀ d:D,D.ren e d=d
 | .non=>rfl
 | .bl _=>rfl
 | .int _=>rfl
 | .str _=>rfl
 | .ty _=>rfl
 | .ref i=>by show D.ref (e.getD i i)=_;rw[h]
 | .tup ds=>by show D.tup (D.ren.all e ds)=_;rw[D.rens_id h]
 | .ro ds=>by show D.ro (D.ren.all e ds)=_;rw[D.rens_id h]
theorem D.rens_id (h:∀ i,e.getD i i=i):∀ ds:List D,D.ren.all e ds=ds
 | []=>rfl
 | d::ds=>by show D.ren e d::D.ren.all e ds=_;rw[D.ren_id h,D.rens_id h]
end
theorem O.ren_id (h:∀ i,e.getD i i=i) (o:O):O.ren e o=o:=by
 cases o with
 | lst xs=>show O.lst _=_;rw[D.rens_id h]
 | dct kvs =>
  show O.dct (kvs.map fun p=>(D.ren e p.1,D.ren e p.2))=_
  have:(fun p:D×D=>(D.ren e p.1,D.ren e p.2))=id:=by funext p;rw[D.ren_id h,D.ren_id h];rfl
  rw[this,List.map_id]
 | fdc kvs =>
  show O.fdc (kvs.map fun p=>(D.ren e p.1,D.ren e p.2))=_
  have:(fun p:D×D=>(D.ren e p.1,D.ren e p.2))=id:=by funext p;rw[D.ren_id h,D.ren_id h];rfl
  rw[this,List.map_id]
 | ins c fs =>
  show O.ins c (fs.map (Option.map (D.ren e)))=_
  have:Option.map (D.ren e)=id:=by funext o;cases o with | none=>rfl | some d=>show some _=_;rw[D.ren_id h];rfl
  rw[this,List.map_id]
theorem Jb (n i:Nat):(List.range n).getD i i=i:=by
 rw[List.getD_eq_getElem?_getD]
 by_cases h:i < n
 ·rw[List.getElem?_range h];rfl
 ·rw[List.getElem?_eq_none (by simp;omega)];rfl
end
section
variable {e:List Nat}{n:Nat}
mutual
theorem D.ren_old (h:∀ i,i < n->e[i]? = some i):∀ d:D,D.cl n d=true->D.ren e d=d
 | .non,_=>rfl
 | .bl _,_=>rfl
 | .int _,_=>rfl
 | .str _,_=>rfl
 | .ty _,_=>rfl
 | .ref i,c=>by
  have hi:i < n:=of_decide_eq_true c
  show D.ref (e.getD i i)=_
  rw[List.getD_eq_getElem?_getD,h i hi];rfl
 | .tup ds,c=>by show D.tup (D.ren.all e ds)=_;rw[D.rens_old h ds c]
 | .ro ds,c=>by show D.ro (D.ren.all e ds)=_;rw[D.rens_old h ds c]
theorem D.rens_old (h:∀ i,i < n->e[i]? = some i):∀ ds:List D,D.cl.all n ds=true->D.ren.all e ds=ds
 | [],_=>rfl
 | d::ds,c=>by
  have c':(D.cl n d && D.cl.all n ds)=true:=c
  rw[Bool.and_eq_true] at c'
  show D.ren e d::D.ren.all e ds=_
  rw[D.ren_old h d c'.1,D.rens_old h ds c'.2]
end
theorem O.ren_old (h:∀ i,i < n->e[i]? = some i) (o:O) (c:O.cl n o=true):O.ren e o=o:=by
 cases o with
 | lst xs=>show O.lst _=_;rw[D.rens_old h xs c]
 | dct kvs =>
  show O.dct (kvs.map fun p=>(D.ren e p.1,D.ren e p.2))=_
  congr 1
  conv=>rhs;rw[<- List.map_id kvs]
  refine List.map_congr_left fun p hp=>?_
  have c1:=List.all_eq_true.mp c p hp
  rw[Bool.and_eq_true] at c1
  rw[D.ren_old h _ c1.1,D.ren_old h _ c1.2];rfl
 | fdc kvs =>
  show O.fdc (kvs.map fun p=>(D.ren e p.1,D.ren e p.2))=_
  congr 1
  conv=>rhs;rw[<- List.map_id kvs]
  refine List.map_congr_left fun p hp=>?_
  have c1:=List.all_eq_true.mp c p hp
  rw[Bool.and_eq_true] at c1
  rw[D.ren_old h _ c1.1,D.ren_old h _ c1.2];rfl
 | ins cc fs =>
  show O.ins cc (fs.map (Option.map (D.ren e)))=_
  congr 1
  conv=>rhs;rw[<- List.map_id fs]
  refine List.map_congr_left fun p hp=>?_
  cases p with
  | none=>rfl
  | some d =>
   have c1:=List.all_eq_true.mp c (some d) hp
   show some _=some _
   rw[D.ren_old h d c1]
mutual
theorem D.cl_mono {m:Nat} (h:n <= m):∀ d:D,D.cl n d=true->D.cl m d=true
 | .non,_=>rfl
 | .bl _,_=>rfl
 | .int _,_=>rfl
 | .str _,_=>rfl
 | .ty _,_=>rfl
 | .ref i,c=>decide_eq_true (Nat.lt_of_lt_of_le (of_decide_eq_true c) h)
 | .tup ds,c=>D.cls_mono h ds c
 | .ro ds,c=>D.cls_mono h ds c
theorem D.cls_mono {m:Nat} (h:n <= m):∀ ds:List D,D.cl.all n ds=true->D.cl.all m ds=true
 | [],_=>rfl
 | d::ds,c=>by
  have c':(D.cl n d && D.cl.all n ds)=true:=c
  rw[Bool.and_eq_true] at c'
  show (D.cl m d && D.cl.all m ds)=true
  rw[D.cl_mono h d c'.1,D.cls_mono h ds c'.2];rfl
end
theorem O.cl_mono {m:Nat} (h:n <= m) (o:O) (c:O.cl n o=true):O.cl m o=true:=by
 cases o with
 | lst xs=>exact D.cls_mono h xs c
 | dct kvs =>
  refine List.all_eq_true.mpr fun p hp=>?_
  have c1:=List.all_eq_true.mp c p hp
  rw[Bool.and_eq_true] at c1 ⊢
  exact⟨D.cl_mono h _ c1.1,D.cl_mono h _ c1.2⟩
 | fdc kvs =>
  refine List.all_eq_true.mpr fun p hp=>?_
  have c1:=List.all_eq_true.mp c p hp
  rw[Bool.and_eq_true] at c1 ⊢
  exact⟨D.cl_mono h _ c1.1,D.cl_mono h _ c1.2⟩
 | ins cc fs =>
  refine List.all_eq_true.mpr fun p hp=>?_
  have c1:=List.all_eq_true.mp c p hp
  cases p with
  | none=>rfl
  | some d=>exact D.cl_mono h d c1
theorem zCc {S:M.S} (h:clS n S=true) {i:Nat}{o:O} (e:S[i]? = some o):O.cl n o=true:=List.all_eq_true.mp h o (List.mem_of_getElem? e)
end
theorem zFj {S S' g:M.S} (hn:S.length <= S'.length) (c:clS S'.length S'=true):Emb S.length (List.range S'.length) S' (S'++g) :=
 ⟨by simp,List.nodup_range,hn,fun i hi=>by rw[List.getElem?_range (by omega)],fun i o q=>by
  have hi:i < S'.length:=(List.getElem?_eq_some_iff.mp q).1
  exact⟨i,by rw[List.getElem?_range hi],by rw[List.getElem?_append_left hi,O.ren_id (Jb _),q],zCc c q⟩⟩
theorem zG1 {S g:M.S}{o:O}{j:Nat} (c:clS S.length S=true) (co:O.cl S.length o=true) (hj:(S++g)[j]? = some o) (hle:S.length <= j):Emb S.length (List.range S.length++[j]) (S++[o]) (S++g):=by
 have old:∀ i,i < S.length->(List.range S.length++[j])[i]? = some i:=fun i hi=>by
  rw[List.getElem?_append_left (by simpa using hi),List.getElem?_range hi]
 refine⟨by simp,?_,by simp,old,fun i ob q=>?_⟩
 ·rw[List.nodup_append]
  refine⟨List.nodup_range,by simp,fun a ha b hb=>?_⟩
  have h1:=List.mem_range.mp ha
  have h2:b=j:=by simpa using hb
  omega
 ·by_cases hi:i < S.length
  ·rw[List.getElem?_append_left hi] at q
   have cq:=zCc c q
   exact⟨i,old i hi,by rw[List.getElem?_append_left hi,O.ren_old old ob cq,q],O.cl_mono (by simp) ob cq⟩
  ·rw[List.getElem?_append_right (by omega)] at q
   have hz:i - S.length=0:=by
    cases hz:i - S.length with
    | zero=>rfl
    | succ k=>rw[hz] at q;simp at q
   rw[hz] at q
   simp at q
   subst q
   refine⟨j,?_,by rw[O.ren_old old o co,hj],O.cl_mono (by simp) o co⟩
   rw[List.getElem?_append_right (by simp;omega)]
   simp[hz]
theorem zj.pure {n:Nat}{f q:F} (h:∀ ds S,ds.length=n->clS S.length S=true->D.cl.all S.length ds=true->q ds S=.no\/∃ d g,q ds S=.ok d S/\f ds S=.ok d (S++g)/\D.cl S.length d=true):zj n f q:=fun ds S hl c ca=>by
 rcases h ds S hl c ca with e | ⟨d,g,e1,e2,e3⟩
 ·exact .inl e
 ·exact .inr ⟨d,S,S++g,List.range S.length,e1,by rw[D.ren_id (Jb _)];exact e2,zFj (Nat.le_refl _) c,e3⟩
theorem zj.new {n:Nat}{f q:F} (h:∀ ds S,ds.length=n->clS S.length S=true->D.cl.all S.length ds=true->q ds S=.no\/∃ o j g,q ds S=alloc o S/\f ds S=.ok (.ref j) (S++g)/\(S++g)[j]? = some o/\S.length <= j/\O.cl S.length o=true):zj n f q:=fun ds S hl c ca=>by
 rcases h ds S hl c ca with e | ⟨o,j,g,e1,e2,e3,e4,e5⟩
 ·exact .inl e
 ·refine .inr ⟨.ref S.length,S++[o],S++g,List.range S.length++[j],e1,?_,zG1 c e5 e3 e4,?_⟩
  ·rw[e2]
   show R.ok (D.ref j) _=R.ok (D.ref ((List.range S.length++[j]).getD S.length S.length)) _
   rw[List.getD_eq_getElem?_getD,List.getElem?_append_right (by simp)]
   simp
  ·show decide (S.length < (S++[o]).length)=true
   simp
noncomputable def chS (m:F):F:=fun ds s=>@dite (R D) (∃ d g,m ds s=.ok d (s++g)/\D.cl s.length d=true) (Classical.propDecidable _) (fun h=>.ok h.choose s) (fun _=>.no)
theorem yz {n:Nat} (m:F):zj n m (chS m):=zj.pure fun ds S hl c ca=>by
 unfold chS
 by_cases h:∃ d g,m ds S=.ok d (S++g)/\D.cl S.length d=true
 ·obtain⟨g,e,k⟩:=h.choose_spec
  exact .inr ⟨h.choose,g,by rw[dif_pos h],e,k⟩
 ·exact .inl (by rw[dif_neg h])
theorem y1 {m:F}{ds:List D}{s g:S}{d:D} (e:m ds s=.ok d (s++g)) (k:D.cl s.length d=true):chS m ds s=.ok d s:=by
 have h:∃ d g,m ds s=.ok d (s++g)/\D.cl s.length d=true:=⟨d,g,e,k⟩
 obtain⟨g',e',_⟩:=h.choose_spec
 have e2:d=h.choose:=by
  have e3:=e.symm.trans e'
  injection e3
 unfold chS
 rw[dif_pos h,<- e2]
noncomputable def chN (m:F):F:=fun ds s=>@dite (R D) (∃ o j g,m ds s=.ok (.ref j) (s++g)/\(s++g)[j]? = some o/\s.length <= j/\O.cl s.length o=true) (Classical.propDecidable _) (fun h=>alloc h.choose s) (fun _=>.no)
theorem zHl {n:Nat} (m:F):zj n m (chN m):=zj.new fun ds S hl c ca=>by
 unfold chN
 by_cases h:∃ o j g,m ds S=.ok (.ref j) (S++g)/\(S++g)[j]? = some o/\S.length <= j/\O.cl S.length o=true
 ·obtain⟨j,g,e,k⟩:=h.choose_spec
  exact .inr ⟨h.choose,j,g,by rw[dif_pos h],e,k⟩
 ·exact .inl (by rw[dif_neg h])
theorem zG4 {m:F}{ds:List D}{s g:S}{j:Nat}{o:O} (e:m ds s=.ok (.ref j) (s++g)) (q:(s++g)[j]? = some o) (l:s.length <= j) (k:O.cl s.length o=true):chN m ds s=alloc o s:=by
 have h:∃ o j g,m ds s=.ok (.ref j) (s++g)/\(s++g)[j]? = some o/\s.length <= j/\O.cl s.length o=true:=⟨o,j,g,e,q,l,k⟩
 obtain⟨j',g',e',q',_⟩:=h.choose_spec
 have e4:=e.symm.trans e'
 injection e4 with e1 e2
 injection e1 with e1
 have e3:o=h.choose:=by
  have q2:=q
  rw[e2,e1] at q2
  exact Option.some.inj (q2.symm.trans q')
 unfold chN
 rw[dif_pos h,<- e3]
end M
namespace M
theorem zAr {g:Gd}{f:D->S->R (Option D)}{s:S}{h:D->D} (hg:zR g s=true):∀ {xs:List D},(∀ x∈xs,f x s=.ok (some (h x)) s)->jo g f xs s=.ok (xs.map h) s
 | [],_=>rfl
 | x::xs,e=>by
  show (f x s).bind _=_
  rw[e x List.mem_cons_self,R.bind_ok,if_pos hg,zAr hg fun y hy=>e y (List.mem_cons_of_mem _ hy)]
  rfl
theorem QF {g:Gd}{f:D->S->R (Option D)}{s:S}{p:D->Bool}{h:D->D} (hg:zR g s=true):∀ {xs:List D},(∀ x∈xs,f x s=.ok (if p x then some (h x) else none) s)->jo g f xs s=.ok ((xs.filter p).map h) s
 | [],_=>rfl
 | x::xs,e=>by
  show (f x s).bind _=_
  rw[e x List.mem_cons_self,R.bind_ok,if_pos hg,QF hg fun y hy=>e y (List.mem_cons_of_mem _ hy),R.bind_ok]
  cases hp:p x<;>simp[hp]
theorem zBN {n:Nat}{it:IM}{tg:GM}{e:EM}{σ:St}{s:S}{xs:List D}{g:Gd} (h:D->D) (hi:it σ s=.ok (xs,g) s) (hl:xs.length <= SZ) (hg:zR g s=true) (he:∀ x∈xs,jW n tg qu e σ x s=.ok (some (h x)) s):qF n it tg qu e σ s=.ok (xs.map h) s:=by
 unfold qF
 rw[hi,R.bind_ok,if_pos ⟨hl,hg⟩]
 exact zAr hg he
theorem Jp {n:Nat}{it:IM}{tg:GM}{e:EM}{σ:St}{s:S}{lo hi:Int} (h:Nat->D) (hit:it σ s=.ok (qR lo hi,[]) s) (hl:(hi - lo).toNat <= SZ) (he:∀ k:Nat,k < (hi - lo).toNat->jW n tg qu e σ (.int (lo+k)) s=.ok (some (h k)) s) :
  qF n it tg qu e σ s=.ok ((List.range (hi - lo).toNat).map h) s:=by
 have:=zBN (n:=n) (tg:=tg) (e:=e) (fun d=>match d with | .int i=>h (i - lo).toNat | d=>d) hit (by simpa [qR] using hl) rfl fun x hx=>by
  obtain⟨k,hk,rfl⟩:=List.mem_map.mp hx
  have e:(lo+(k:Int) - lo).toNat=k:=by omega
  rw[he k (List.mem_range.mp hk)]
  show R.ok (some (h k)) s=R.ok (some (h (lo+(k:Int) - lo).toNat)) s
  rw[e]
 rw[this]
 unfold qR
 rw[List.map_map]
 have e2:∀ k:Nat,(lo+(k:Int) - lo).toNat=k:=fun k=>by omega
 have e3:((fun d=>match d with | .int i=>h (i - lo).toNat | d=>d) ∘ fun (k:Nat)=>D.int (lo+k))=h:=by
  funext k
  show h (lo+(k:Int) - lo).toNat=h k
  rw[e2]
 rw[e3]
theorem zEA {α:Type} (f:α->Bool) (xs:List α):Zb (xs.map fun x=>.bl (f x))=some (xs.map f):=by
 induction xs with
 | nil=>rfl
 | cons x xs ih=>show (Zb (xs.map fun x=>D.bl (f x))).map _=_;rw[ih];rfl
theorem all_map {α:Type} (f:α->Bool) (xs:List α) (s:S):Q0 (xs.map fun x=>.bl (f x)) s=.ok (.bl (xs.all f)) s:=by
 unfold Q0
 rw[zEA]
 simp[List.all_map]
theorem zEG {α:Type} (xs:List α) {k:Int} (h:0 <= k):cut xs none (some k)=xs.take k.toNat:=by
 unfold cut sIx
 have:¬ k < 0:=by omega
 simp only[List.drop_zero,if_neg this,Nat.sub_zero]
 by_cases hk:k <= xs.length
 ·rw[show (min k (xs.length:Int)).toNat=k.toNat by omega]
 ·rw[List.take_of_length_le (by omega),List.take_of_length_le (by omega)]
theorem zEQ {α:Type} (xs:List α) {k:Int} (h:0 <= k):cut xs (some k) none=xs.drop k.toNat:=by
 unfold cut sIx
 have:¬ k < 0:=by omega
 simp only[if_neg this]
 by_cases hk:k <= xs.length
 ·rw[show (min k (xs.length:Int)).toNat=k.toNat by omega,List.take_of_length_le (by rw[List.length_drop];omega)]
 ·rw[List.drop_of_length_le (by omega),List.drop_of_length_le (by omega)];simp
theorem zD9 {α:Type} (f:α->T) (xs:List α):qq (xs.map fun x=>.str (f x))=some (xs.map f):=by
 induction xs with
 | nil=>rfl
 | cons x xs ih=>show (qq (xs.map fun x=>D.str (f x))).map _=_;rw[ih];rfl
theorem Zf (xs:List T):qq (xs.map .str)=some xs:=by
 have:=zD9 (fun x:T=>x) xs
 rwa [List.map_id'] at this
theorem J9 (n:Nat):∀ ts:List T,D.cl.all n (ts.map .str)=true
 | []=>rfl
 | _::ts=>by
  show (D.cl n (.str _) && D.cl.all n (ts.map .str))=true
  rw[J9 n ts];rfl
theorem J8 {α:Type}{xs:List α}{k:Int} (h0:0 <= k) (h:k < xs.length) (d:α):atI xs k=some (xs.getD k.toNat d):=by
 unfold atI ixN
 rw[if_pos h0,if_pos h]
 have hk:k.toNat < xs.length:=by omega
 simp[List.getD_eq_getElem?_getD,hk]
theorem zBs {n:Nat}{it:IM}{tg:GM}{c:TM}{e:EM}{σ:St}{s s1:S}{xs:List D}{g:Gd} (p:D->Bool) (h:D->D) (hi:it σ s=.ok (xs,g) s1) (hl:xs.length <= SZ) (hg:zR g s1=true) (he:∀ x∈xs,jW n tg c e σ x s1=.ok (if p x then some (h x) else none) s1):qF n it tg c e σ s=.ok ((xs.filter p).map h) s1:=by
 unfold qF
 rw[hi,R.bind_ok,if_pos ⟨hl,hg⟩]
 exact QF hg he
theorem zDQ {n:Nat}{it:IM}{tg:GM}{c:TM}{e:EM}{σ:St}{s s1:S}{ts:List T}{g:Gd} (p:T->Bool) (hi:it σ s=.ok (ts.map .str,g) s1) (hl:ts.length <= SZ) (hg:zR g s1=true) (he:∀ x∈ts,jW n tg c e σ (.str x) s1=.ok (if p x then some (.str x) else none) s1):qF n it tg c e σ s=.ok ((ts.filter p).map .str) s1:=by
 rw[zBs (fun d=>match d with | .str y=>p y | _=>false) id hi (by simpa using hl) hg fun d hd=>by
  obtain⟨y,hy,rfl⟩:=List.mem_map.mp hd
  exact he y hy]
 rw[List.map_id,List.filter_map]
 rfl
theorem Zk (c:Nat):∀ x:T,(zo c x).length <= x.length+1
 | []=>by simp[zo]
 | d::r=>by
  have ih:=Zk c r
  unfold zo
  split
  ·simp;omega
  ·split<;>simp_all<;>omega
theorem zDq (g:Nat->Option P):∀ ts:List T,jl.all g (ts.map .str)=some (ts.map P.str)
 | []=>rfl
 | t::ts=>by
  show (match jl g (.str t),jl.all g (ts.map .str) with | some p,some ps=>some (p::ps) | _,_=>none)=_
  rw[zDq g ts]
  rfl
theorem zAd:∀ ts:List T,P.deps (ts.map P.str)=0
 | []=>by simp[P.deps]
 | t::ts=>by simp[P.deps,P.dep,zAd ts]
theorem zAX:∀ ts us:List T,P.eqvs (ts.map P.str) (us.map P.str)=decide (ts=us)
 | [],[]=>by simp[P.eqvs]
 | [],u::us=>by simp[P.eqvs]
 | t::ts,[]=>by simp[P.eqvs]
 | t::ts,u::us=>by
  simp only[List.map_cons,P.eqvs,P.eqv,zAX ts us]
  by_cases h:t=u<;>by_cases h2:ts=us<;>simp[h,h2]
theorem zAg {s:S}{p q:Nat}{ts us:List T} (hp:s[p]? = some (.lst (ts.map .str))) (hq:s[q]? = some (.lst (us.map .str))):eqD (.ref p) (.ref q) s=.ok (decide (ts=us)) s:=by
 have h:∀ (r:Nat) (vs:List T),s[r]? = some (.lst (vs.map .str))->toP QD s (.ref r)=some (.lst (vs.map P.str)):=fun r vs e=>by
  show (match zT s r with | some xs=>(jl.all (fun j=>toP 8 s (.ref j)) xs).map P.lst | none=>none)=_
  have:zT s r=some (vs.map .str):=by simp[zT,e]
  rw[this]
  show (jl.all _ (vs.map .str)).map P.lst=_
  rw[zDq];rfl
 simp only[eqD,h p ts hp,h q us hq]
 simp only[P.dep,zAd,P.eqv,zAX]
 rfl
noncomputable def jT (x:T):T:=x.map fun c=>if c=10 then 32 else c
noncomputable def zD (x:T):List T:=(zo 32 (jT x)).filter fun w=>decide (w≠[])
end M
namespace L2
open PySem PySem.Spec PyProof.Rows
noncomputable def ofT (x:M.T):Str:=⟨x.toArray⟩
theorem zx (x:M.T):(ofT x).length=x.length:=by simp[ofT,Str.length]
theorem jf (x:M.T):(ofT x).cps.toList=x:=by simp[ofT]
theorem Zs {x y:M.T} (h:ofT x=ofT y):x=y:=by rw[<- jf x,h,jf]
theorem zGX (x y:M.T):ofT x++ofT y=ofT (x++y):=by
 show (⟨x.toArray++y.toArray⟩:Str)=_
 simp[ofT]
noncomputable abbrev okT (x:M.T):Prop:=x.all (fun c=>decide (c < 1114112))=true
theorem zAD {x y:M.T} (h:okT x) (k:okT y):okT (x++y):=by show (x++y).all _=true;rw[List.all_append,h,k];rfl
theorem ZE {x y:M.T} (h:okT x) (k:∀ c∈y,c∈x):okT y:=List.all_eq_true.mpr fun c hc=>List.all_eq_true.mp h c (k c hc)
theorem yI:M.SZ=sizeLine:=by rw[sizeLine_eq];rfl
noncomputable def zAC (K:PySem.W.Frag) (H:Hp) (a:Addr) (xs:List V):Prop :=
 (∃ o,H a=some (.frz o (.lst xs))) \/
  ∃ (o:Obj) (its:Array Value) (n:Nat),K.lookup a=some o/\o.cls=.type "list" /\ o.dict=none/\o.data=.seq its n/\its.size <= sizeLine/\zJ xs its.toList
theorem zAC.sq {K:PySem.W.Frag}{H:Hp}{a:Addr}{xs:List V} (h:zAC K H a xs):SqL K H a xs:=by
 rcases h with ⟨o,h⟩ | h
 ·exact .inl (.inr ⟨o,h⟩)
 ·exact .inr h
structure Le (H H':Hp):Prop where
 tups:∀ b xs,H b=some (.tup xs)->H' b=some (.tup xs)
 frzs:∀ b o u,H b=some (.frz o u)->H' b=some (.frz o u)
theorem Le.refl (H:Hp):Le H H:=⟨fun _ _ h=>h,fun _ _ _ h=>h⟩
theorem Le.trans {H H1 H2:Hp} (a:Le H H1) (b:Le H1 H2):Le H H2:=⟨fun c xs h=>b.tups c xs (a.tups c xs h),fun c o u h=>b.frzs c o u (a.frzs c o u h)⟩
theorem Le.new {H:Hp}{p:Addr} (h:H p=none) (o:HO):Le H (upd H p o) :=
 ⟨fun b xs q=>by rw[zg (j8 q h)];exact q,fun b o u q=>by rw[zg (j8 q h)];exact q⟩
theorem Le.put {H:Hp}{p:Addr} (h:Mut (H p)) (o:HO):Le H (upd H p o) :=
 ⟨fun b xs q=>by rw[zg (fun z=>by subst z;rw[q] at h;exact h)];exact q,fun b o u q=>by rw[zg (fun z=>by subst z;rw[q] at h;exact h)];exact q⟩
theorem Le.rol {K:PySem.W.Frag}{H H':Hp}{a:Addr}{xs:List V} (e:Le H H') (h:zAC K H a xs):zAC K H' a xs:=by
 rcases h with ⟨o,h⟩ | h
 ·exact .inl ⟨o,e.frzs _ _ _ h⟩
 ·exact .inr h
theorem Le.sqT {K:PySem.W.Frag}{H H':Hp}{a:Addr}{xs:List V} (e:Le H H') (h:SqT K H a xs):SqT K H' a xs:=by
 rcases h with (h | ⟨o,h⟩) | h
 ·exact .inl (.inl (e.tups _ _ h))
 ·exact .inl (.inr ⟨o,e.frzs _ _ _ h⟩)
 ·exact .inr h
noncomputable def jR:M.Kd->String
 | .str => "str" | .int => "int" | .bool => "bool" | .list => "list" | .tuple => "tuple" | .dict => "dict"
noncomputable def zH (K:PySem.W.Frag) (ρ:List Addr) (H:Hp):M.D->V->Prop
 | .non,v=>v=.non
 | .bl b,v=>v=.bl b
 | .int i,v=>v=.int i
 | .str x,v=>v=.str (ofT x)/\okT x
 | .ty n,v=>v=.ty (jR n)
 | .ref i,v=>∃ a,v=.ref a/\ρ[i]? = some a
 | .tup ds,v=>∃ a xs,v=.ref a/\SqT K H a xs/\all ds xs
 | .ro ds,v=>∃ a xs,v=.ref a/\zAC K H a xs/\all ds xs
where all:List M.D->List V->Prop
 | [],xs=>xs=[]
 | d::ds,xs=>∃ y ys,xs=y::ys/\zH K ρ H d y/\all ds ys
noncomputable abbrev zF (K:PySem.W.Frag) (ρ:List Addr) (H:Hp):List M.D->List V->Prop:=zH.all K ρ H
theorem Qh {ρ ρ':List Addr} (h:ρ <+: ρ') {i:Nat}{a:Addr} (e:ρ[i]? = some a):ρ'[i]? = some a:=by
 obtain⟨t,rfl⟩:=h
 rw[List.getElem?_append_left (List.getElem?_eq_some_iff.mp e).1]
 exact e
section
variable {K:PySem.W.Frag}{ρ ρ':List Addr}{H H':Hp}
mutual
theorem zH.mono (hρ:ρ <+: ρ') (le:Le H H'):∀ {d:M.D}{v:V},zH K ρ H d v->zH K ρ' H' d v
 | .non,_,h=>h
 | .bl _,_,h=>h
 | .int _,_,h=>h
 | .str _,_,h=>h
 | .ty _,_,h=>h
 | .ref _,_,⟨a,e,h⟩=>⟨a,e,Qh hρ h⟩
 | .tup _,_,⟨a,xs,e,h,r⟩=>⟨a,xs,e,le.sqT h,zF.mono hρ le r⟩
 | .ro _,_,⟨a,xs,e,h,r⟩=>⟨a,xs,e,le.rol h,zF.mono hρ le r⟩
theorem zF.mono (hρ:ρ <+: ρ') (le:Le H H'):∀ {ds:List M.D}{xs:List V},zF K ρ H ds xs->zF K ρ' H' ds xs
 | [],_,h=>h
 | _::_,_,⟨y,ys,e,h,r⟩=>⟨y,ys,e,zH.mono hρ le h,zF.mono hρ le r⟩
end
theorem zF.length:∀ {ds:List M.D}{xs:List V},zF K ρ H ds xs->ds.length=xs.length
 | [],_,h=>by cases h;rfl
 | _::_,_,⟨_,_,e,_,r⟩=>by subst e;rw[List.length_cons,List.length_cons,zF.length r]
theorem zF.get:∀ {ds:List M.D}{xs:List V}{i:Nat}{d:M.D},zF K ρ H ds xs->ds[i]? = some d->∃ v,xs[i]? = some v/\zH K ρ H d v
 | [],_,_,_,_,e=>by simp at e
 | _::_,_,0,_,⟨y,_,e1,h,_⟩,e=>by subst e1;simp at e;subst e;exact⟨y,rfl,h⟩
 | _::_,_,i+1,d,⟨_,ys,e1,_,r⟩,e=>by
  subst e1
  obtain⟨v,h1,h2⟩:=zF.get (i:=i) (d:=d) r (by simpa using e)
  exact⟨v,by simpa using h1,h2⟩
theorem zF.app:∀ {ds es:List M.D}{xs ys:List V},zF K ρ H ds xs->zF K ρ H es ys->zF K ρ H (ds++es) (xs++ys)
 | [],_,_,_,h,k=>by cases h;exact k
 | _::_,_,_,_,⟨y,ys,e,h,r⟩,k=>by subst e;exact⟨y,_,rfl,h,zF.app r k⟩
theorem zF.take:∀ {ds:List M.D}{xs:List V} (n:Nat),zF K ρ H ds xs->zF K ρ H (ds.take n) (xs.take n)
 | _,_,0,_=>rfl
 | [],_,_+1,h=>by cases h;rfl
 | _::_,_,n+1,⟨y,ys,e,h,r⟩=>by subst e;exact⟨y,_,rfl,h,zF.take n r⟩
theorem zF.drop:∀ {ds:List M.D}{xs:List V} (n:Nat),zF K ρ H ds xs->zF K ρ H (ds.drop n) (xs.drop n)
 | _,_,0,h=>h
 | [],_,_+1,h=>by cases h;rfl
 | _::_,_,n+1,⟨y,ys,e,h,r⟩=>by subst e;exact zF.drop n r
theorem zF.rev {ds:List M.D}{xs:List V} (h:zF K ρ H ds xs):zF K ρ H ds.reverse xs.reverse:=by
 induction ds generalizing xs with
 | nil=>cases h;rfl
 | cons d ds ih =>
  obtain⟨y,ys,e,h1,r⟩:=h
  subst e
  rw[List.reverse_cons,List.reverse_cons]
  exact (ih r).app ⟨y,[],rfl,h1,rfl⟩
end
section
variable {K:PySem.W.Frag}{ρ ρ':List Addr}{H H':Hp}{ds es:List M.D}{xs ys:List V}
theorem zH.all.mono (h:zH.all K ρ H ds xs) (hρ:ρ <+: ρ') (le:Le H H'):zH.all K ρ' H' ds xs:=zF.mono hρ le h
theorem zH.all.length (h:zH.all K ρ H ds xs):ds.length=xs.length:=zF.length h
theorem zH.all.app (h:zH.all K ρ H ds xs) (k:zH.all K ρ H es ys):zH.all K ρ H (ds++es) (xs++ys):=zF.app h k
end
noncomputable def Zl:M.D->Key->Prop
 | .int i,k=>k=.inl i
 | .str x,k=>k=.inr (ofT x)/\okT x
 | _,_=>False
noncomputable abbrev Tab:=Nat->Option (Addr×List Str)
structure zI7 (K:PySem.W.Frag) (ρ:List Addr) (H:Hp) (N:List Str) (fs:List (Option M.D)) (gs:List (Str×V)):Prop where
 len:fs.length=N.length
 nd:(gs.map (·.1)).Nodup
 within:∀ f∈gs.map (·.1),f∈N
 get:∀ (i:Nat) (f:Str) (d:M.D),N[i]? = some f->fs[i]? = some (some d)->∃ v,gs.lookup f=some v/\zH K ρ H d v
noncomputable def ObR (K:PySem.W.Frag) (Θ:Tab) (ρ:List Addr) (H:Hp) (a:Addr):M.O->Prop
 | .lst ds=>∃ xs,H a=some (.lst xs)/\zF K ρ H ds xs
 | .dct kvs=>∃ ks,H a=some (.dK ks)/\Paired (fun (p:M.D×M.D) (q:Key×V)=>Zl p.1 q.1/\zH K ρ H p.2 q.2) kvs ks
 | .fdc kvs=>∃ o ks,H a=some (.frz o (.dK ks))/\Paired (fun (p:M.D×M.D) (q:Key×V)=>Zl p.1 q.1/\zH K ρ H p.2 q.2) kvs ks
 | .ins c fs=>∃ C dx gs N,H a=some (.ins C dx gs)/\Θ c=some (C,N)/\zI7 K ρ H N fs gs
structure zL (K:PySem.W.Frag) (Θ:Tab) (ρ:List Addr) (S:M.S) (H:Hp):Prop where
 len:ρ.length=S.length
 nd:ρ.Nodup
 obj:∀ (i:Nat) (o:M.O),S[i]? = some o->∃ a,ρ[i]? = some a/\ObR K Θ ρ H a o
structure zr (K:PySem.W.Frag) (ρ:List Addr) (H:Hp) (σ':M.St) (σ:St):Prop where
 len:σ'.length=σ.length
 get:∀ (i:Nat) (d:M.D),σ'[i]? = some (some d)->∃ v,σ[i]? = some (some v)/\zH K ρ H d v
section
variable {K:PySem.W.Frag}{Θ:Tab}{ρ ρ':List Addr}{H H':Hp}{S:M.S}
theorem zr.mono {σ':M.St}{σ:St} (h:zr K ρ H σ' σ) (hρ:ρ <+: ρ') (le:Le H H'):zr K ρ' H' σ' σ :=
 ⟨h.len,fun i d e=>let ⟨v,h1,h2⟩:=h.get i d e;⟨v,h1,h2.mono hρ le⟩⟩
theorem zr.set {σ':M.St}{σ:St}{d:M.D}{v:V} (h:zr K ρ H σ' σ) (hd:zH K ρ H d v) (i:Nat):zr K ρ H (σ'.set i (some d)) (σ.set i (some v)):=by
 refine⟨by rw[List.length_set,List.length_set,h.len],fun j e q=>?_⟩
 by_cases hj:i=j
 ·subst hj
  by_cases hl:i < σ'.length
  ·rw[List.getElem?_set_self hl] at q
   cases q
   exact⟨v,by rw[List.getElem?_set_self (h.len ▸ hl)],hd⟩
  ·rw[List.getElem?_eq_none (by rw[List.length_set];omega)] at q
   cases q
 ·rw[List.getElem?_set_ne hj] at q
  rw[List.getElem?_set_ne hj]
  exact h.get j e q
theorem zr.more {σ':M.St}{σ:St} (h:zr K ρ H σ' σ) (n:Nat):zr K ρ H (σ'++List.replicate n none) (σ++List.replicate n none):=by
 refine⟨by simp[h.len],fun i d q=>?_⟩
 by_cases hl:i < σ'.length
 ·rw[List.getElem?_append_left hl] at q
  rw[List.getElem?_append_left (h.len ▸ hl)]
  exact h.get i d q
 ·rw[List.getElem?_append_right (by omega),List.getElem?_replicate] at q
  split at q<;>cases q
theorem zL.tracked (h:zL K Θ ρ S H) {a:Addr} (m:a∈ρ):∃ o,H a=some o:=by
 obtain⟨i,hi,e⟩:=List.mem_iff_getElem.mp m
 have hl:i < S.length:=h.len ▸ hi
 obtain⟨a',e1,r⟩:=h.obj i S[i] (by simp[hl])
 rw[List.getElem?_eq_getElem hi,e] at e1
 cases e1
 cases q:S[i] with
 | lst ds=>rw[q] at r;obtain⟨xs,e2,_⟩:=r;exact⟨_,e2⟩
 | dct kvs=>rw[q] at r;obtain⟨xs,e2,_⟩:=r;exact⟨_,e2⟩
 | fdc kvs=>rw[q] at r;obtain⟨o,xs,e2,_⟩:=r;exact⟨_,e2⟩
 | ins c fs=>rw[q] at r;obtain⟨_,_,_,_,e2,_⟩:=r;exact⟨_,e2⟩
theorem zL.fresh (h:zL K Θ ρ S H) {p:Addr} (hp:H p=none):p∉ρ:=fun m=>by
 obtain⟨o,e⟩:=h.tracked m
 rw[hp] at e;cases e
theorem ObR.stay {a:Addr}{o:M.O} (h:ObR K Θ ρ H a o) (hρ:ρ <+: ρ') (le:Le H H') (e:H' a=H a):ObR K Θ ρ' H' a o:=by
 cases o with
 | lst ds=>obtain⟨xs,e1,r⟩:=h;exact⟨xs,e.trans e1,r.mono hρ le⟩
 | dct kvs=>obtain⟨ks,e1,r⟩:=h;exact⟨ks,e.trans e1,Paired.mapP r fun p q z=>⟨z.1,z.2.mono hρ le⟩⟩
 | fdc kvs=>obtain⟨o,ks,e1,r⟩:=h;exact⟨o,ks,e.trans e1,Paired.mapP r fun p q z=>⟨z.1,z.2.mono hρ le⟩⟩
 | ins c fs =>
  obtain⟨C,dx,gs,N,e1,e2,r⟩:=h
  exact⟨C,dx,gs,N,e.trans e1,e2,r.len,r.nd,r.within,fun i f d h1 h2=>let ⟨v,k1,k2⟩:=r.get i f d h1 h2;⟨v,k1,k2.mono hρ le⟩⟩
theorem zL.stay (h:zL K Θ ρ S H) (le:Le H H') (e:∀ a∈ρ,H' a=H a):zL K Θ ρ S H' :=
 ⟨h.len,h.nd,fun i o q=>let ⟨a,h1,h2⟩:=h.obj i o q;⟨a,h1,h2.stay (List.prefix_refl _) le (e a (List.mem_of_getElem? h1))⟩⟩
theorem zL.aside (h:zL K Θ ρ S H) {p:Addr} (hp:H p=none) (o:HO):zL K Θ ρ S (upd H p o) :=
 h.stay (Le.new hp o) fun a m=>zg (fun z=>h.fresh hp (z ▸ m))
theorem zL.alloc (h:zL K Θ ρ S H) {p:Addr} (hp:H p=none) {o:M.O}{u:HO} (r:ObR K Θ (ρ++[p]) (upd H p u) p o):zL K Θ (ρ++[p]) (S++[o]) (upd H p u):=by
 refine⟨by simp[h.len],?_,fun i ob q=>?_⟩
 ·rw[List.nodup_append]
  refine⟨h.nd,by simp,fun a ha b hb=>?_⟩
  have hb':b=p:=by simpa using hb
  rw[hb']
  exact fun z=>h.fresh hp (z ▸ ha)
 ·by_cases hl:i < S.length
  ·rw[List.getElem?_append_left hl] at q
   obtain⟨a,h1,h2⟩:=h.obj i ob q
   refine⟨a,Qh (List.prefix_append _ _) h1,h2.stay (List.prefix_append _ _) (Le.new hp u) (zg fun z=>h.fresh hp (z ▸ List.mem_of_getElem? h1))⟩
  ·rw[List.getElem?_append_right (by omega)] at q
   have hi:i - S.length=0:=by
    cases hz:i - S.length with
    | zero=>rfl
    | succ k=>rw[hz] at q;simp at q
   rw[hi] at q
   simp at q
   subst q
   refine⟨p,?_,r⟩
   rw[List.getElem?_append_right (by rw[h.len];omega),h.len,hi]
   rfl
theorem Q6 {α:Type}{ρ:List α} (hN:ρ.Nodup) {i j:Nat}{x:α} (a:ρ[i]? = some x) (b:ρ[j]? = some x):i=j:=by
 induction ρ generalizing i j with
 | nil=>simp at a
 | cons y r ih =>
  rw[List.nodup_cons] at hN
  cases i with
  | zero =>
   cases j with
   | zero=>rfl
   | succ j =>
    simp at a b
    subst a
    exact absurd (List.mem_of_getElem? b) hN.1
  | succ i =>
   cases j with
   | zero =>
    simp at a b
    subst b
    exact absurd (List.mem_of_getElem? a) hN.1
   | succ j =>
    simp at a b
    rw[ih hN.2 a b]
theorem zFA {α:Type}{l:List α} (h:∀ (i j:Nat) x,l[i]? = some x->l[j]? = some x->i=j):l.Nodup:=by
 induction l with
 | nil=>exact List.nodup_nil
 | cons y r ih =>
  refine List.nodup_cons.mpr ⟨fun m=>?_,ih fun i j x a b=>?_⟩
  ·obtain⟨j,hj,e⟩:=List.mem_iff_getElem.mp m
   have:=h 0 (j+1) y (by simp) (by simp[e,hj])
   omega
  ·have:=h (i+1) (j+1) x (by simpa using a) (by simpa using b)
   omega
theorem zDl {α:Type}{l:List α} (hN:l.Nodup) {i j:Nat} (hi:i < l.length) (hj:j < l.length) (e:l[i]=l[j]):i=j :=
 Q6 hN (x:=l[i]) (by simp[hi]) (by rw[e];simp[hj])
theorem zL.put (h:zL K Θ ρ S H) {i:Nat}{a:Addr} (ha:ρ[i]? = some a) {o:M.O}{u:HO} (mu:Mut (H a)) (r:ObR K Θ ρ (upd H a u) a o):zL K Θ ρ (S.set i o) (upd H a u):=by
 refine⟨by simp[h.len],h.nd,fun j ob q=>?_⟩
 by_cases hj:i=j
 ·subst hj
  by_cases hl:i < S.length
  ·rw[List.getElem?_set_self hl] at q
   cases q
   exact⟨a,ha,r⟩
  ·rw[List.getElem?_eq_none (by rw[List.length_set];omega)] at q
   cases q
 ·rw[List.getElem?_set_ne hj] at q
  obtain⟨b,h1,h2⟩:=h.obj j ob q
  refine⟨b,h1,h2.stay (List.prefix_refl _) (Le.put mu u) (zg fun z=>?_)⟩
  subst z
  exact hj (Q6 h.nd ha h1)
end
noncomputable def zA {α β:Type} (K:PySem.W.Frag) (Θ:Tab) (Rl:List Addr->Hp->α->β->Prop) (ρ:List Addr) (H:Hp):M.R α->(β->Hp->Prop)->Prop
 | .ok a S',Q=>∀ ρ' H' b,ρ <+: ρ'->Le H H'->zL K Θ ρ' S' H'->Rl ρ' H' a b->Q b H'
 | .exc _ _,_=>False
 | .no,_=>False
noncomputable abbrev rB:List Addr->Hp->Bool->Bool->Prop:=fun _ _ a b=>a=b
noncomputable abbrev rO:List Addr->Hp->Option Int->Option Int->Prop:=fun _ _ a b=>a=b
section
variable {K:PySem.W.Frag}{Θ:Tab}{ρ ρ':List Addr}{H H':Hp}{S:M.S}{α β γ δ:Type}{Rl:List Addr->Hp->α->β->Prop}{Rk:List Addr->Hp->γ->δ->Prop}{Q:β->Hp->Prop}{Q':δ->Hp->Prop}
theorem zA.weak {r:M.R α} (h:zA K Θ Rl ρ H r Q) (hρ:ρ <+: ρ') (le:Le H H'):zA K Θ Rl ρ' H' r Q:=by
 cases r with
 | ok a s=>exact fun ρ2 H2 b p l=>h ρ2 H2 b (hρ.trans p) (le.trans l)
 | exc e s=>exact h
 | no=>exact h
theorem zA.bind {r:M.R α}{f:α->M.S->M.R γ} (h:zA K Θ Rk ρ H (r.bind f) Q')
  (k:∀ ρ' H' a b S',ρ <+: ρ'->Le H H'->zL K Θ ρ' S' H'->Rl ρ' H' a b->zA K Θ Rk ρ' H' (f a S') Q'->Q b H'):zA K Θ Rl ρ H r Q:=by
 cases r with
 | ok a s=>exact fun ρ2 H2 b p l rp rl=>k ρ2 H2 a b s p l rp rl (zA.weak h p l)
 | exc e s=>exact h
 | no=>exact h
theorem zA.here {a:α}{b:β} (h:zA K Θ Rl ρ H (.ok a S) Q) (rp:zL K Θ ρ S H) (rl:Rl ρ H a b):Q b H:=h ρ H b (List.prefix_refl _) (Le.refl _) rp rl
end
noncomputable def RdE (K:PySem.W.Frag) (Θ:Tab) (m:M.EM):TE:=fun σ H Q=>∃ ρ σ' S,zr K ρ H σ' σ/\zL K Θ ρ S H/\zA K Θ (zH K) ρ H (m σ' S) Q
noncomputable def RdT (K:PySem.W.Frag) (Θ:Tab) (m:M.TM):TT:=fun σ H Q=>∃ ρ σ' S,zr K ρ H σ' σ/\zL K Θ ρ S H/\zA K Θ rB ρ H (m σ' S) Q
noncomputable def RdA (K:PySem.W.Frag) (Θ:Tab) (m:M.AM):TA:=fun σ H Q=>∃ ρ σ' S,zr K ρ H σ' σ/\zL K Θ ρ S H/\zA K Θ (zF K) ρ H (m σ' S) Q
noncomputable def RdO (K:PySem.W.Frag) (Θ:Tab) (m:M.OM):TO:=fun σ H Q=>∃ ρ σ' S,zr K ρ H σ' σ/\zL K Θ ρ S H/\zA K Θ rO ρ H (m σ' S) Q
noncomputable abbrev ME (X:Cx) (Θ:Tab) (e:Expr) (m:M.EM):Prop:=PE X e (RdE X.K Θ m)
@[irreducible] noncomputable def WE (X:Cx) (Θ:Tab) (e:Expr) (m:M.EM):Prop:=ME X Θ e m
noncomputable abbrev MT (X:Cx) (Θ:Tab) (e:Expr) (m:M.TM):Prop:=PT X e (RdT X.K Θ m)
@[irreducible] noncomputable def WT (X:Cx) (Θ:Tab) (e:Expr) (m:M.TM):Prop:=MT X Θ e m
noncomputable abbrev MA (X:Cx) (Θ:Tab) (es:List Expr) (m:M.AM):Prop:=PA X es (RdA X.K Θ m)
@[irreducible] noncomputable def WA (X:Cx) (Θ:Tab) (es:List Expr) (m:M.AM):Prop:=MA X Θ es m
noncomputable abbrev MO (X:Cx) (Θ:Tab) (e:Option Expr) (m:M.OM):Prop:=PO X e (RdO X.K Θ m)
@[irreducible] noncomputable def WO (X:Cx) (Θ:Tab) (e:Option Expr) (m:M.OM):Prop:=MO X Θ e m
theorem PE.imp {X:Cx}{e:Expr}{t t':TE} (h:PE X e t) (i:∀ σ H Q,t' σ H Q->t σ H Q):PE X e t':=fun pins s σ H Q I q=>h pins s σ H Q I (i σ H Q q)
theorem PT.imp {X:Cx}{e:Expr}{t t':TT} (h:PT X e t) (i:∀ σ H Q,t' σ H Q->t σ H Q):PT X e t':=fun pins s σ H Q I q=>h pins s σ H Q I (i σ H Q q)
theorem PA.imp {X:Cx}{es:List Expr}{t t':TA} (h:PA X es t) (i:∀ σ H Q,t' σ H Q->t σ H Q):PA X es t':=fun pos pins s σ H Q I q=>h pos pins s σ H Q I (i σ H Q q)
theorem PO.imp {X:Cx}{e:Option Expr}{t t':TO} (h:PO X e t) (i:∀ σ H Q,t' σ H Q->t σ H Q):PO X e t':=fun pins s σ H Q I q=>h pins s σ H Q I (i σ H Q q)
noncomputable def zX:Expr->Bool
 | .Starred _ _=>false
 | _=>true
theorem z4 {e:Expr}{es:List Expr}{env:Env} (h:zX e=true):starEach (e::es) env=(false,eval e env)::starEach es env:=by
 cases e<;>first | rfl | cases h
theorem yh {env:Env}{pos:Pos}:∀ {es:List Expr},es.all zX=true->(backTo pos (starEach es env)).any (·.1)=false
 | [],_=>rfl
 | e::es,h=>by
  rw[List.all_cons,Bool.and_eq_true] at h
  rw[z4 h.1]
  show (false || (backTo pos (starEach es env)).any (·.1))=false
  rw[yh h.2];rfl
theorem zBb {env:Env}{pos:Pos}:∀ {es:List Expr},es.all zX=true->(backTo pos (starEach es env)).all (fun x=>!x.1)=true
 | [],_=>rfl
 | e::es,h=>by
  rw[List.all_cons,Bool.and_eq_true] at h
  rw[z4 h.1]
  show (true && (backTo pos (starEach es env)).all (fun x=>!x.1))=true
  rw[zBb h.2];rfl
theorem zBH {env:Env}{pos:Pos}{es:List Expr} (h:es.all zX=true) (hl:es.length < 30):((backTo pos (starEach es env)).all (fun x=>!x.1) && (backToKw pos (keywordEach [] env)).all (fun x=>x.1.isSome)
  && decide (es.length+([]:List Keyword).length+(if ([]:List Keyword).isEmpty then 0 else 1) < 30))=true:=by
 rw[zBb h,Bool.true_and,Bool.and_eq_true]
 exact⟨rfl,decide_eq_true (by simpa using hl)⟩
section
variable {X:Cx}{Θ:Tab}{a b c:Expr}{pos:Pos}{ma mb mc:M.EM}{ta tb:M.TM}{z6:List Expr}
theorem zIA (i:Nat) {x:Str} (hN:X.N[i]? = some x:=by rfl) (hv:Vis X.env.scope x:=by first | exact Or.inl rfl | exact Or.inr (Or.inl rfl) | exact Or.inr (Or.inr rfl)) (hd:(x == ("__debug__" : Str))=false:=by decide)
  (hcd:(x == ("__classdict__" : Str))=false:=by decide):ME X Θ (.Name x pos) (M.zE i):=(zHN hN hv hd hcd).imp fun σ H Q ⟨ρ,σ',S,st,rp,h⟩=>by
 unfold M.zE at h
 split at h
 ·rename_i d e
  obtain⟨v,e1,r⟩:=st.get i d e
  exact⟨v,e1,h.here rp r⟩
 ·exact h.elim
theorem zB2 (i:Nat) {x:Str} (hN:X.N[i]? = some x:=by rfl) (hv:Vis X.env.scope x:=by first | exact Or.inl rfl | exact Or.inr (Or.inl rfl) | exact Or.inr (Or.inr rfl)) (hd:(x == ("__debug__" : Str))=false:=by decide)
  (hcd:(x == ("__classdict__" : Str))=false:=by decide):WE X Θ (.Name x pos) (M.zE i):=by with_unfolding_all exact zIA i (x:=x) hN hv hd hcd
theorem zCj {e:Expr}{v:V}{d:M.D} (h:PE X e (tC v)) (r:∀ ρ H,zH X.K ρ H d v):ME X Θ e (M.eC d):=h.imp fun σ H Q ⟨ρ,σ',S,st,rp,h⟩=>h.here rp (r ρ H)
theorem zHR {i:Int}{j:Nat}:ME X Θ (.Constant (.int i) j pos) (M.eC (.int i)):=zCj zBQ fun _ _=>rfl
theorem zO {i:Int}{j:Nat}:WE X Θ (.Constant (.int i) j pos) (M.eC (.int i)):=by with_unfolding_all exact zHR (i:=i) (j:=j)
theorem zHV {y:M.T}{x:Str}{j:Nat} (h:x=ofT y) (ok:okT y):ME X Θ (.Constant (.str x) j pos) (M.eC (.str y)):=zCj zDx fun _ _=>by rw[h];exact⟨rfl,ok⟩
theorem zEz {y:M.T}{x:Str}{j:Nat} (h:x=ofT y) (ok:okT y):WE X Θ (.Constant (.str x) j pos) (M.eC (.str y)):=by with_unfolding_all exact zHV (y:=y) (x:=x) (j:=j) h ok
theorem zIj (n:M.Kd) {x:Str} (hg:Gl X x) (hm:X.mg x=none) (hv:bootBuiltins x=some (.type (jR n))) (hn:x ≠ "__name__" := by decide) (hd:(x == ("__debug__" : Str))=false:=by decide):ME X Θ (.Name x pos) (M.eC (.ty n)) :=
 zCj (zGp (v:=.ty (jR n)) hg hm hv rfl hn hd) fun _ _=>rfl
theorem zGF (n:M.Kd) {x:Str} (hg:Gl X x) (hm:X.mg x=none) (hv:bootBuiltins x=some (.type (jR n))) (hn:x ≠ "__name__" := by decide) (hd:(x == ("__debug__" : Str))=false:=by decide):WE X Θ (.Name x pos) (M.eC (.ty n)):=by with_unfolding_all exact zIj n (x:=x) hg hm hv hn hd
noncomputable def Ad2 (K:PySem.W.Frag) (Θ:Tab) (f:M.D->M.D->M.S->M.R M.D) (r:R2):Prop:=∀ ρ H S x y X Y Q,zL K Θ ρ S H->zH K ρ H x X->zH K ρ H y Y->zA K Θ (zH K) ρ H (f x y S) Q->r X Y H Q
noncomputable def AdC (K:PySem.W.Frag) (Θ:Tab) (f:M.CM) (r:R2):Prop:=∀ ρ H S x y X Y (Q:VK),zL K Θ ρ S H->zH K ρ H x X->zH K ρ H y Y->zA K Θ rB ρ H (f x y S) (fun b H'=>Q (.bl b) H')->r X Y H Q
noncomputable def AdN (K:PySem.W.Frag) (Θ:Tab) (f:M.F) (r:List V->Hp->VK->Prop):Prop:=∀ ρ H S xs Xs Q,zL K Θ ρ S H->zF K ρ H xs Xs->zA K Θ (zH K) ρ H (f xs S) Q->r Xs H Q
noncomputable def AdM (K:PySem.W.Frag) (Θ:Tab) (f:M.D->M.F) (r:V->List V->Hp->VK->Prop):Prop :=
 ∀ ρ H S x xs X Xs Q,zL K Θ ρ S H->zH K ρ H x X->zF K ρ H xs Xs->zA K Θ (zH K) ρ H (f x xs S) Q->r X Xs H Q
theorem zIT {op:Operator}{f:M.D->M.D->M.S->M.R M.D}{r:R2} (ho:OpR X (binaryOp op) r) (ad:Ad2 X.K Θ f r) (ha:ME X Θ a ma) (hb:ME X Θ b mb):ME X Θ (.BinOp a op b pos) (M.eOp f ma mb) :=
 (zIf ho ha hb).imp fun σ H Q ⟨ρ,σ',S,st,rp,h⟩=>⟨ρ,σ',S,st,rp,zA.bind h fun ρ1 H1 x X1 S1 p1 l1 rp1 rx h1=>⟨ρ1,σ',S1,st.mono p1 l1,rp1,
  zA.bind h1 fun ρ2 H2 y Y S2 p2 l2 rp2 ry h2=>ad ρ2 H2 S2 x y X1 Y Q rp2 (rx.mono p2 l2) ry h2⟩⟩
theorem zW {op:Operator}{f:M.D->M.D->M.S->M.R M.D}{r:R2} (ho:OpR X (binaryOp op) r) (ad:Ad2 X.K Θ f r) (ha:WE X Θ a ma) (hb:WE X Θ b mb):WE X Θ (.BinOp a op b pos) (M.eOp f ma mb):=by with_unfolding_all exact zIT (op:=op) (f:=f) (r:=r) ho ad ha hb
noncomputable def zB1:Expr->Bool
 | .Slice _ _ _ _=>false
 | .Tuple _ _ _=>false
 | _=>true
theorem zEs {b:Expr} (h:zB1 b=true):zCb b:=fun o i=>by
 cases b<;>first | rfl | cases h
theorem zIe {f:M.D->M.D->M.S->M.R M.D}{r:R2} (ho:IxR X r) (ad:Ad2 X.K Θ f r) (ha:ME X Θ a ma) (hb:ME X Θ b mb) (hs:zB1 b=true:=by rfl):ME X Θ (.Subscript a b pos) (M.eOp f ma mb) :=
 (zIo ho ha hb (zEs hs)).imp fun σ H Q ⟨ρ,σ',S,st,rp,h⟩=>⟨ρ,σ',S,st,rp,zA.bind h fun ρ1 H1 x X1 S1 p1 l1 rp1 rx h1=>⟨ρ1,σ',S1,st.mono p1 l1,rp1,
  zA.bind h1 fun ρ2 H2 y Y S2 p2 l2 rp2 ry h2=>ad ρ2 H2 S2 x y X1 Y Q rp2 (rx.mono p2 l2) ry h2⟩⟩
theorem J4 {f:M.D->M.D->M.S->M.R M.D}{r:R2} (ho:IxR X r) (ad:Ad2 X.K Θ f r) (ha:WE X Θ a ma) (hb:WE X Θ b mb) (hs:zB1 b=true:=by rfl):WE X Θ (.Subscript a b pos) (M.eOp f ma mb):=by with_unfolding_all exact zIe (f:=f) (r:=r) ho ad ha hb hs
theorem zG2 {op:CmpOp}{f:M.CM}{r:R2} (ho:OpR X (compareOp op) r) (ad:AdC X.K Θ f r) (ha:ME X Θ a ma) (hb:ME X Θ b mb) (hm:behindInMarks op b=false):ME X Θ (.Compare a [op] [b] pos) (M.zDG f ma mb) :=
 (zGw ho ha hb hm).imp fun σ H Q ⟨ρ,σ',S,st,rp,h⟩=>⟨ρ,σ',S,st,rp,zA.bind h fun ρ1 H1 x X1 S1 p1 l1 rp1 rx h1=>⟨ρ1,σ',S1,st.mono p1 l1,rp1,
  zA.bind h1 fun ρ2 H2 y Y S2 p2 l2 rp2 ry h2=>ad ρ2 H2 S2 x y X1 Y Q rp2 (rx.mono p2 l2) ry (zA.bind h2 fun ρ3 H3 k k' S3 p3 l3 rp3 e h3=>by cases e;exact h3.here rp3 rfl)⟩⟩
theorem zFf {op:CmpOp}{f:M.CM}{r:R2} (ho:OpR X (compareOp op) r) (ad:AdC X.K Θ f r) (ha:WE X Θ a ma) (hb:WE X Θ b mb) (hm:behindInMarks op b=false):WE X Θ (.Compare a [op] [b] pos) (M.zDG f ma mb):=by with_unfolding_all exact zG2 (op:=op) (f:=f) (r:=r) ho ad ha hb hm
theorem zHJ {op:CmpOp}{f:M.CM}{r:R2} (ho:OpR X (compareOp op) r) (ad:AdC X.K Θ f r) (ha:ME X Θ a ma) (hb:ME X Θ b mb) (hm:behindInMarks op b=false):MT X Θ (.Compare a [op] [b] pos) (M.qC f ma mb) :=
 (zGB ho ha hb hm).imp fun σ H Q ⟨ρ,σ',S,st,rp,h⟩=>⟨ρ,σ',S,st,rp,zA.bind h fun ρ1 H1 x X1 S1 p1 l1 rp1 rx h1=>⟨ρ1,σ',S1,st.mono p1 l1,rp1,
  zA.bind h1 fun ρ2 H2 y Y S2 p2 l2 rp2 ry h2=>ad ρ2 H2 S2 x y X1 Y _ rp2 (rx.mono p2 l2) ry (by
   revert h2
   cases f x y S2 with
   | ok k s=>exact fun h2 ρ3 H3 k' p3 l3 rp3 e=>⟨k',rfl,h2 ρ3 H3 k' p3 l3 rp3 e⟩
   | exc e s=>exact fun h2=>h2
   | no=>exact fun h2=>h2)⟩⟩
theorem qv {op:CmpOp}{f:M.CM}{r:R2} (ho:OpR X (compareOp op) r) (ad:AdC X.K Θ f r) (ha:WE X Θ a ma) (hb:WE X Θ b mb) (hm:behindInMarks op b=false):WT X Θ (.Compare a [op] [b] pos) (M.qC f ma mb):=by with_unfolding_all exact zHJ (op:=op) (f:=f) (r:=r) ho ad ha hb hm
theorem zH6 {op} (ha:ME X Θ a ma):ME X Θ (.BoolOp op [a] pos) ma:=zHM ha
theorem zFH {op} (ha:WE X Θ a ma):WE X Θ (.BoolOp op [a] pos) ma:=by with_unfolding_all exact zH6 (op:=op) ha
theorem zHQ {K:PySem.W.Frag}{γ δ:Type}{Rk:List Addr->Hp->γ->δ->Prop}{ρ:List Addr}{H:Hp}{x:M.D}{v:V}{S:M.S}{f:Bool->M.S->M.R γ}{Q:δ->Hp->Prop} (r:zH K ρ H x v) (h:zA K Θ Rk ρ H ((M.asB x S).bind f) Q):∃ k,v=.bl k/\zA K Θ Rk ρ H (f k S) Q:=by
 cases x with
 | bl b=>cases r;exact⟨b,rfl,h⟩
 | _=>exact h.elim
theorem zHD (ha:ME X Θ a ma) (hb:ME X Θ (.BoolOp .And (b::z6) pos) mb):ME X Θ (.BoolOp .And (a::b::z6) pos) (M.zDA ma mb) :=
 (zHr ha hb).imp fun σ H Q ⟨ρ,σ',S,st,rp,h⟩=>⟨ρ,σ',S,st,rp,zA.bind h fun ρ1 H1 x X1 S1 p1 l1 rp1 rx h1=>by
  obtain⟨k,e,h2⟩:=zHQ rx h1
  refine⟨k,e,?_⟩
  cases k with
  | true=>exact zCv ⟨ρ1,σ',S1,st.mono p1 l1,rp1,h2⟩
  | false=>exact zCs (zA.here (b:=V.bl false) h2 rp1 rfl)⟩
theorem zFU (ha:WE X Θ a ma) (hb:WE X Θ (.BoolOp .And (b::z6) pos) mb):WE X Θ (.BoolOp .And (a::b::z6) pos) (M.zDA ma mb):=by with_unfolding_all exact zHD ha hb
theorem zEE:MA X Θ [] M.zK:=zB5.imp fun σ H Q ⟨ρ,σ',S,st,rp,h⟩=>zA.here (b:=[]) h rp rfl
theorem zI:WA X Θ [] M.zK:=by with_unfolding_all exact zEE
theorem zCV {e:Expr}{es:List Expr}{r:M.AM} (ha:ME X Θ e ma) (hr:MA X Θ es r) (hs:zX e=true:=by rfl):MA X Θ (e::es) (M.zC ma r) :=
 (Jw ha hr (z4 hs)).imp fun σ H Q ⟨ρ,σ',S,st,rp,h⟩=>⟨ρ,σ',S,st,rp,zA.bind h fun ρ1 H1 x X1 S1 p1 l1 rp1 rx h1=>⟨ρ1,σ',S1,st.mono p1 l1,rp1,
  zA.bind h1 fun ρ2 H2 ys Ys S2 p2 l2 rp2 ry h2=>h2.here rp2 ⟨X1,Ys,rfl,rx.mono p2 l2,ry⟩⟩⟩
theorem zB {e:Expr}{es:List Expr}{r:M.AM} (ha:WE X Θ e ma) (hr:WA X Θ es r) (hs:zX e=true:=by rfl):WA X Θ (e::es) (M.zC ma r):=by with_unfolding_all exact zCV (e:=e) (es:=es) (r:=r) ha hr hs
theorem zA.alloc {K:PySem.W.Frag}{ρ:List Addr}{H:Hp}{S:M.S}{ds:List M.D}{xs:List V}{Q:VK} (h:zA K Θ (zH K) ρ H (M.alloc (.lst ds) S) Q) (rp:zL K Θ ρ S H) (r:zF K ρ H ds xs) {p:Addr} (hp:H p=none):Q (.ref p) (upd H p (.lst xs)) :=
 h (ρ++[p]) _ _ (List.prefix_append _ _) (Le.new hp _) (rp.alloc hp ⟨xs,jm,r.mono (List.prefix_append _ _) (Le.new hp _)⟩) ⟨p,rfl,by rw[<- rp.len];simp⟩
theorem zIQ {es:List Expr}{r:M.AM} (hr:MA X Θ es r):ME X Θ (.List es pos) (M.yY r):=(zHU hr).imp fun σ H Q ⟨ρ,σ',S,st,rp,h⟩=>⟨ρ,σ',S,st,rp,zA.bind h fun ρ1 H1 xs Xs S1 p1 l1 rp1 rx h1=>by
 by_cases hl:xs.length <= M.SZ
 ·rw[if_pos hl] at h1
  rw[yI,rx.length] at hl
  exact⟨hl,fun p hp=>h1.alloc rp1 rx hp⟩
 ·rw[if_neg hl] at h1
  exact h1.elim⟩
theorem yj {es:List Expr}{r:M.AM} (hr:WA X Θ es r):WE X Θ (.List es pos) (M.yY r):=by with_unfolding_all exact zIQ (es:=es) (r:=r) hr
theorem zGt:MO X Θ none M.Zz:=zGv.imp fun σ H Q ⟨ρ,σ',S,st,rp,h⟩=>zA.here (b:=none) h rp rfl
theorem ZX:WO X Θ none M.Zz:=by with_unfolding_all exact zGt
theorem zGI (ha:ME X Θ a ma):MO X Θ (some a) (M.Z3 ma):=(zGl ha).imp fun σ H Q ⟨ρ,σ',S,st,rp,h⟩=>⟨ρ,σ',S,st,rp,zA.bind h fun ρ1 H1 x X1 S1 p1 l1 rp1 rx h1=>by
 cases x with
 | int i=>cases rx;exact⟨i,rfl,zA.here (b:=some i) h1 rp1 rfl⟩
 | _=>exact h1.elim⟩
theorem Za (ha:WE X Θ a ma):WO X Θ (some a) (M.Z3 ma):=by with_unfolding_all exact zGI ha
theorem zIh {lo hi:Option Expr}{p2:Pos}{ml mh:M.OM}{r:V->Option Int->Option Int->Hp->VK->Prop} (hr:SlR X r) (ad:∀ ρ H S x X1 l u Q,zL X.K Θ ρ S H->zH X.K ρ H x X1->zA X.K Θ (zH X.K) ρ H (M.slD x l u S) Q->r X1 l u H Q) (ha:ME X Θ a ma) (hl:MO X Θ lo ml) (hh:MO X Θ hi mh) :
  ME X Θ (.Subscript a (.Slice lo hi none p2) pos) (M.eSl ma ml mh):=(zFM hr ha hl hh).imp fun σ H Q ⟨ρ,σ',S,st,rp,h⟩=>⟨ρ,σ',S,st,rp,zA.bind h fun ρ1 H1 x X1 S1 p1 l1 rp1 rx h1=>⟨ρ1,σ',S1,st.mono p1 l1,rp1,
  zA.bind h1 fun ρ2 H2 l l' S2 p2 l2 rp2 e2 h2=>by
   cases e2
   exact⟨ρ2,σ',S2,st.mono (p1.trans p2) (l1.trans l2),rp2,zA.bind h2 fun ρ3 H3 u u' S3 p3 l3 rp3 e3 h3=>by
    cases e3
    exact ad ρ3 H3 S3 x X1 l u Q rp3 (rx.mono (p2.trans p3) (l2.trans l3)) h3⟩⟩⟩
theorem Qn {lo hi:Option Expr}{p2:Pos}{ml mh:M.OM}{r:V->Option Int->Option Int->Hp->VK->Prop} (hr:SlR X r) (ad:∀ ρ H S x X1 l u Q,zL X.K Θ ρ S H->zH X.K ρ H x X1->zA X.K Θ (zH X.K) ρ H (M.slD x l u S) Q->r X1 l u H Q) (ha:WE X Θ a ma) (hl:WO X Θ lo ml) (hh:WO X Θ hi mh) :
  WE X Θ (.Subscript a (.Slice lo hi none p2) pos) (M.eSl ma ml mh):=by with_unfolding_all exact zIh (lo:=lo) (hi:=hi) (p2:=p2) (ml:=ml) (mh:=mh) (r:=r) hr ad ha hl hh
theorem zFa {x:Str}{p:Pos}{id:String}{e:Expr}{es:List Expr}{f:M.F}{r:List V->Hp->VK->Prop}{m:M.AM} (hc:z8 X (.builtin id) r) (ad:AdN X.K Θ f r) (hg:Gl X x) (hm:X.mg x=none) (hv:bootBuiltins x=some (.builtin id)) (ha:MA X Θ (e::es) m)
  (hn:x ≠ "__name__" := by decide) (hdb:(x == ("__debug__" : Str))=false:=by decide) (he:zX e=true:=by rfl) (hpl:es.all zX=true:=by rfl) :
  ME X Θ (.Call (.Name x p) (e::es) [] pos) (M.zM f m):=(zBr hc hg hm hv ha hn hdb (z4 he) (yh hpl)).imp fun σ H Q ⟨ρ,σ',S,st,rp,h⟩=>⟨ρ,σ',S,st,rp,zA.bind h fun ρ1 H1 xs Xs S1 p1 l1 rp1 rx h1=>ad ρ1 H1 S1 xs Xs Q rp1 rx h1⟩
theorem qA {x:Str}{p:Pos}{id:String}{e:Expr}{es:List Expr}{f:M.F}{r:List V->Hp->VK->Prop}{m:M.AM} (hc:z8 X (.builtin id) r) (ad:AdN X.K Θ f r) (hg:Gl X x) (hm:X.mg x=none) (hv:bootBuiltins x=some (.builtin id)) (ha:WA X Θ (e::es) m)
  (hn:x ≠ "__name__" := by decide) (hdb:(x == ("__debug__" : Str))=false:=by decide) (he:zX e=true:=by rfl) (hpl:es.all zX=true:=by rfl) :
  WE X Θ (.Call (.Name x p) (e::es) [] pos) (M.zM f m):=by with_unfolding_all exact zFa (x:=x) (p:=p) (id:=id) (e:=e) (es:=es) (f:=f) (r:=r) (m:=m) hc ad hg hm hv ha hn hdb he hpl
theorem zD2 {x:Str}{p:Pos}{T:String}{e:Expr}{es:List Expr}{f:M.F}{r:List V->Hp->VK->Prop}{m:M.AM} (hc:z8 X (.type T) r) (ad:AdN X.K Θ f r) (hg:Gl X x) (hm:X.mg x=none) (hv:bootBuiltins x=some (.type T)) (ha:MA X Θ (e::es) m)
  (hn:x ≠ "__name__" := by decide) (hdb:(x == ("__debug__" : Str))=false:=by decide) (he:zX e=true:=by rfl) (hpl:es.all zX=true:=by rfl) :
  ME X Θ (.Call (.Name x p) (e::es) [] pos) (M.zM f m):=(zDk hc hg hm hv ha hn hdb (z4 he) (yh hpl)).imp fun σ H Q ⟨ρ,σ',S,st,rp,h⟩=>⟨ρ,σ',S,st,rp,zA.bind h fun ρ1 H1 xs Xs S1 p1 l1 rp1 rx h1=>ad ρ1 H1 S1 xs Xs Q rp1 rx h1⟩
theorem Zm {x:Str}{p:Pos}{T:String}{e:Expr}{es:List Expr}{f:M.F}{r:List V->Hp->VK->Prop}{m:M.AM} (hc:z8 X (.type T) r) (ad:AdN X.K Θ f r) (hg:Gl X x) (hm:X.mg x=none) (hv:bootBuiltins x=some (.type T)) (ha:WA X Θ (e::es) m)
  (hn:x ≠ "__name__" := by decide) (hdb:(x == ("__debug__" : Str))=false:=by decide) (he:zX e=true:=by rfl) (hpl:es.all zX=true:=by rfl) :
  WE X Θ (.Call (.Name x p) (e::es) [] pos) (M.zM f m):=by with_unfolding_all exact zD2 (x:=x) (p:=p) (T:=T) (e:=e) (es:=es) (f:=f) (r:=r) (m:=m) hc ad hg hm hv ha hn hdb he hpl
theorem zGg {K:PySem.W.Frag}{ρ:List Addr}{H:Hp}{S:M.S}{k:M.Kd}{x:M.D}{v:V} (rp:zL K Θ ρ S H) (r:zH K ρ H x v) (h:M.qx k x S=true):tyV K (jR k) v H:=by
 cases x with
 | str z=>obtain⟨rfl,_⟩:=r;cases k<;>first | rfl | cases h
 | ro ds =>
  obtain⟨a,xs,rfl,q,_⟩:=r
  cases k<;>first | exact .inl ⟨rfl,xs,q.sq⟩ | cases h
 | ref i =>
  obtain⟨a,rfl,e⟩:=r
  cases q:S[i]? with
  | none=>simp[M.qx,q] at h
  | some o =>
   cases o with
   | lst xs =>
    obtain⟨b,e1,zs,e2,_⟩:=rp.obj _ _ q
    rw[e] at e1;cases e1
    cases k<;>first | exact .inl ⟨rfl,zs,SqL.of e2⟩ | simp[M.qx,q] at h
   | dct xs =>
    obtain⟨b,e1,zs,e2,_⟩:=rp.obj _ _ q
    rw[e] at e1;cases e1
    cases k<;>first | exact .inr (.inr (.inl ⟨rfl,.inl ⟨zs,e2⟩⟩)) | simp[M.qx,q] at h
   | fdc _=>simp[M.qx,q] at h
   | ins c fs=>simp[M.qx,q] at h
 | _=>cases h
theorem zI4 {k:M.Kd}{T:String}{f:M.D->M.F}{r:V->List V->Hp->VK->Prop}{o e:Expr}{es:List Expr}{mo:M.EM}{m:M.AM}{name:Str}{apos cpos:Pos}{id:String} (pa:PlainAttrs T) (slot:Slot T name id) (hty:typeOf (.builtin id)=pure (.type "method_descriptor")) (hm:MtR X id r) (ad:AdM X.K Θ f r) (hT:T=jR k) (ho:ME X Θ o mo) (ha:MA X Θ (e::es) m)
  (hbase:attributeBase o name X.env (eval o X.env)=eval o X.env:=by rfl)
  (hfew:(e::es).length < 30:=by exact Nat.le_of_ble_eq_true rfl) (hline:(apos.endLine == cpos.line)=true:=by rfl) (hs:zX e=true:=by rfl) (hplain:es.all zX=true:=by rfl) :
  ME X Θ (.Call (.Attribute o name apos) (e::es) [] cpos) (M.eM k f mo m):=(zFt pa slot hty hm ho ha hbase (zBH (by rw[List.all_cons,hs,hplain];rfl) hfew) hline (z4 hs) (yh hplain)).imp fun σ H Q ⟨ρ,σ',S,st,rp,h⟩=>⟨ρ,σ',S,st,rp,zA.bind h fun ρ1 H1 x X1 S1 p1 l1 rp1 rx h1=>by
 cases ht:M.qx k x S1 with
 | false=>rw[ht] at h1;exact h1.elim
 | true =>
  rw[ht] at h1
  exact⟨hT ▸ zGg rp1 rx ht,ρ1,σ',S1,st.mono p1 l1,rp1,zA.bind h1 fun ρ2 H2 xs Xs S2 p2 l2 rp2 rxs h2=>ad ρ2 H2 S2 x xs X1 Xs Q rp2 (rx.mono p2 l2) rxs h2⟩⟩
theorem qj {k:M.Kd}{T:String}{f:M.D->M.F}{r:V->List V->Hp->VK->Prop}{o e:Expr}{es:List Expr}{mo:M.EM}{m:M.AM}{name:Str}{apos cpos:Pos}{id:String} (pa:PlainAttrs T) (slot:Slot T name id) (hty:typeOf (.builtin id)=pure (.type "method_descriptor")) (hm:MtR X id r) (ad:AdM X.K Θ f r) (hT:T=jR k) (ho:WE X Θ o mo) (ha:WA X Θ (e::es) m)
  (hbase:attributeBase o name X.env (eval o X.env)=eval o X.env:=by rfl)
  (hfew:(e::es).length < 30:=by exact Nat.le_of_ble_eq_true rfl) (hline:(apos.endLine == cpos.line)=true:=by rfl) (hs:zX e=true:=by rfl) (hplain:es.all zX=true:=by rfl) :
  WE X Θ (.Call (.Attribute o name apos) (e::es) [] cpos) (M.eM k f mo m):=by with_unfolding_all exact zI4 (k:=k) (T:=T) (f:=f) (r:=r) (o:=o) (e:=e) (es:=es) (mo:=mo) (m:=m) (name:=name) (apos:=apos) (cpos:=cpos) (id:=id) pa slot hty hm ad hT ho ha hbase hfew hline hs hplain
end
end L2
namespace L2
open PySem PySem.Spec PyProof.Rows
noncomputable def zY (K:PySem.W.Frag) (Θ:Tab) (ρ:List Addr) (H:Hp):M.RS->Zh->Prop
 | .nx σ1 S1,D=>∀ ρ' H' σ,ρ <+: ρ'->Le H H'->zL K Θ ρ' S1 H'->zr K ρ' H' σ1 σ->D.nx σ H'
 | .rt d S1,D=>∀ ρ' H' v,ρ <+: ρ'->Le H H'->zL K Θ ρ' S1 H'->zH K ρ' H' d v->D.rt v H'
 | .bk σ1 S1,D=>∀ ρ' H' σ,ρ <+: ρ'->Le H H'->zL K Θ ρ' S1 H'->zr K ρ' H' σ1 σ->D.bk σ H'
 | .ct σ1 S1,D=>∀ ρ' H' σ,ρ <+: ρ'->Le H H'->zL K Θ ρ' S1 H'->zr K ρ' H' σ1 σ->D.ct σ H'
 | .exc _ _ _,_=>False
 | .no,_=>False
noncomputable def RdS (K:PySem.W.Frag) (Θ:Tab) (m:M.SM):TS:=fun D σ H=>∃ ρ σ' S,zr K ρ H σ' σ/\zL K Θ ρ S H/\zY K Θ ρ H (m σ' S) D
noncomputable abbrev MS (X:Cx) (Θ:Tab) (st:Stmt) (m:M.SM):Prop:=PS X st (RdS X.K Θ m)
@[irreducible] noncomputable def WS (X:Cx) (Θ:Tab) (st:Stmt) (m:M.SM):Prop:=MS X Θ st m
noncomputable abbrev MSs (X:Cx) (Θ:Tab) (st:List Stmt) (m:M.SM):Prop:=PSs X st (RdS X.K Θ m)
@[irreducible] noncomputable def WSs (X:Cx) (Θ:Tab) (st:List Stmt) (m:M.SM):Prop:=MSs X Θ st m
theorem PS.imp {X:Cx}{e:Stmt}{t t':TS} (h:PS X e t) (i:∀ D σ H,t' D σ H->t D σ H):PS X e t':=fun pins s σ H D I q=>h pins s σ H D I (i D σ H q)
theorem PSs.imp {X:Cx}{e:List Stmt}{t t':TS} (h:PSs X e t) (i:∀ D σ H,t' D σ H->t D σ H):PSs X e t':=fun pins s σ H D I q=>h pins s σ H D I (i D σ H q)
section
variable {K:PySem.W.Frag}{Θ:Tab}{ρ ρ':List Addr}{H H':Hp}{S:M.S}{α β:Type}{Rl:List Addr->Hp->α->β->Prop}{Q:β->Hp->Prop}{D D':Zh}
theorem zY.weak {r:M.RS} (h:zY K Θ ρ H r D) (hρ:ρ <+: ρ') (le:Le H H'):zY K Θ ρ' H' r D:=by
 cases r with
 | nx a s=>exact fun ρ2 H2 b p l=>h ρ2 H2 b (hρ.trans p) (le.trans l)
 | rt a s=>exact fun ρ2 H2 b p l=>h ρ2 H2 b (hρ.trans p) (le.trans l)
 | bk a s=>exact fun ρ2 H2 b p l=>h ρ2 H2 b (hρ.trans p) (le.trans l)
 | ct a s=>exact fun ρ2 H2 b p l=>h ρ2 H2 b (hρ.trans p) (le.trans l)
 | exc e a s=>exact h
 | no=>exact h
theorem zY.stm {r:M.R α}{σ:M.St}{f:α->M.S->M.RS} (h:zY K Θ ρ H (r.stm σ f) D)
  (k:∀ ρ' H' a b S',ρ <+: ρ'->Le H H'->zL K Θ ρ' S' H'->Rl ρ' H' a b->zY K Θ ρ' H' (f a S') D->Q b H'):zA K Θ Rl ρ H r Q:=by
 cases r with
 | ok a s=>exact fun ρ2 H2 b p l rp rl=>k ρ2 H2 a b s p l rp rl (zY.weak h p l)
 | exc e s=>exact h
 | no=>exact h
theorem zY.nx {σ1:M.St}{σ:St} (h:zY K Θ ρ H (.nx σ1 S) D) (rp:zL K Θ ρ S H) (st:zr K ρ H σ1 σ):D.nx σ H:=h ρ H σ (List.prefix_refl _) (Le.refl _) rp st
theorem zY.rt {d:M.D}{v:V} (h:zY K Θ ρ H (.rt d S) D) (rp:zL K Θ ρ S H) (r:zH K ρ H d v):D.rt v H:=h ρ H v (List.prefix_refl _) (Le.refl _) rp r
end
section
variable {X:Cx}{Θ:Tab}{e:Expr}{pos:Pos}{m:M.EM}{st:Stmt}{z6:List Stmt}{ms mr:M.SM}
theorem zF9:MSs X Θ [] M.Z8:=zF2.imp fun D σ H ⟨ρ,σ',S,st,rp,h⟩=>h.nx rp st
theorem Ze:WSs X Θ [] M.Z8:=by with_unfolding_all exact zF9
theorem zGk (h:MS X Θ st ms):MSs X Θ [st] ms:=zGL h
theorem ze (h:WS X Θ st ms):WSs X Θ [st] ms:=by with_unfolding_all exact zGk h
theorem zEj (h1:MS X Θ st ms) (h2:MSs X Θ z6 mr):MSs X Θ (st::z6) (M.zZ ms mr):=(zFI h1 h2).imp fun D σ H ⟨ρ,σ',S,st,rp,h⟩=>⟨ρ,σ',S,st,rp,by
 have h':zY X.K Θ ρ H ((ms σ' S).then mr) D:=h
 revert h'
 cases ms σ' S with
 | nx a s=>exact fun h' ρ2 H2 σ2 p l rp2 st2=>⟨ρ2,a,s,st2,rp2,zY.weak h' p l⟩
 | rt a s=>exact fun h'=>h'
 | bk a s=>exact fun h'=>h'
 | ct a s=>exact fun h'=>h'
 | exc e a s=>exact fun h'=>h'
 | no=>exact fun h'=>h'⟩
theorem zd (h1:WS X Θ st ms) (h2:WSs X Θ z6 mr):WSs X Θ (st::z6) (M.zZ ms mr):=by with_unfolding_all exact zEj h1 h2
theorem zGr (he:ME X Θ e m) (hs:swapsWith e none pos.line X.env=pure false:=by rfl):MS X Θ (.Expr e pos) (M.qp m):=(zGE he hs).imp fun D σ H ⟨ρ,σ',S,st,rp,h⟩=>⟨ρ,σ',S,st,rp,zY.stm h fun ρ1 H1 x X1 S1 p1 l1 rp1 rx h1=>h1.nx rp1 (st.mono p1 l1)⟩
theorem QU (he:WE X Θ e m) (hs:swapsWith e none pos.line X.env=pure false:=by rfl):WS X Θ (.Expr e pos) (M.qp m):=by with_unfolding_all exact zGr he hs
theorem zHe (he:ME X Θ e m):MS X Θ (.Return (some e) pos) (M.jy m):=(zH7 he).imp fun D σ H ⟨ρ,σ',S,st,rp,h⟩=>⟨ρ,σ',S,st,rp,zY.stm h fun ρ1 H1 x X1 S1 p1 l1 rp1 rx h1=>h1.rt rp1 rx⟩
theorem jI (he:WE X Θ e m):WS X Θ (.Return (some e) pos) (M.jy m):=by with_unfolding_all exact zHe he
theorem zH2 {i:Nat}{x:Str}{pos':Pos} (hN:X.N.Nodup) (hi:X.N[i]? = some x) (hx:Loc X.env.scope x) (he:ME X Θ e m) (hs:swapsWith e (some (.Name x pos')) pos.line X.env=pure false:=by kernel_rfl) (hf:X.fn x=true\/X.env.scope.names.lookup x=some .local:=by first | exact .inl rfl | exact .inr rfl | assumption) :
  MS X Θ (.Assign [.Name x pos'] e pos) (M.z7 i m):=(zHk hN hi hx he hs hf).imp fun D σ H ⟨ρ,σ',S,st,rp,h⟩=>⟨ρ,σ',S,st,rp,zY.stm h fun ρ1 H1 x X1 S1 p1 l1 rp1 rx h1=>h1.nx rp1 ((st.mono p1 l1).set rx i)⟩
theorem z0 {i:Nat}{x:Str}{pos':Pos} (hN:X.N.Nodup) (hi:X.N[i]? = some x) (hx:Loc X.env.scope x) (he:WE X Θ e m) (hs:swapsWith e (some (.Name x pos')) pos.line X.env=pure false:=by kernel_rfl) (hf:X.fn x=true\/X.env.scope.names.lookup x=some .local:=by first | exact .inl rfl | exact .inr rfl | assumption) :
  WS X Θ (.Assign [.Name x pos'] e pos) (M.z7 i m):=by with_unfolding_all exact zH2 (i:=i) (x:=x) (pos':=pos') hN hi hx he hs hf
theorem zIb {c:Expr}{a b:List Stmt}{tc:M.TM}{ma mb:M.SM} (hc:MT X Θ c tc) (ha:MSs X Θ a ma) (hb:MSs X Θ b mb):MS X Θ (.If c a b pos) (M.sIf tc ma mb):=(zIX hc ha hb).imp fun D σ H ⟨ρ,σ',S,st,rp,h⟩=>⟨ρ,σ',S,st,rp,zY.stm h fun ρ1 H1 k k' S1 p1 l1 rp1 ek h1=>by
 cases ek
 cases k with
 | true=>exact zCv ⟨ρ1,σ',S1,st.mono p1 l1,rp1,h1⟩
 | false=>exact zCs ⟨ρ1,σ',S1,st.mono p1 l1,rp1,h1⟩⟩
theorem Zq {c:Expr}{a b:List Stmt}{tc:M.TM}{ma mb:M.SM} (hc:WT X Θ c tc) (ha:WSs X Θ a ma) (hb:WSs X Θ b mb):WS X Θ (.If c a b pos) (M.sIf tc ma mb):=by with_unfolding_all exact zIb (c:=c) (a:=a) (b:=b) (tc:=tc) (ma:=ma) (mb:=mb) hc ha hb
end
noncomputable def RdG (K:PySem.W.Frag) (Θ:Tab) (js:List Nat) (g:M.GM):TG:=fun v σ H Q=>∃ ρ σ' S d,zr K ρ H σ' σ/\zL K Θ ρ S H/\zH K ρ H d v/\∃ σ1,g d σ'=some σ1 /\
 ∀ H' σ2,Le H H'->zL K Θ ρ S H'->zr K ρ H' σ1 σ2->σ2.length=σ.length->(∀ j,j∉js->σ2[j]? = σ[j]?)->Q σ2 H'
noncomputable abbrev MG (X:Cx) (Θ:Tab) (js:List Nat) (tg:Expr) (g:M.GM):Prop:=PG X tg (RdG X.K Θ js g)
@[irreducible] noncomputable def WG (X:Cx) (Θ:Tab) (js:List Nat) (tg:Expr) (g:M.GM):Prop:=MG X Θ js tg g
theorem PG.imp {X:Cx}{e:Expr}{t t':TG} (h:PG X e t) (i:∀ v σ H Q,t' v σ H Q->t v σ H Q):PG X e t':=fun pins s σ H v u Q I r q=>h pins s σ H v u Q I r (i v σ H Q q)
theorem zFz {X:Cx}{Θ:Tab}{pos:Pos}{i:Nat}{x:Str} (hN:X.N.Nodup) (hi:X.N[i]? = some x) (hx:Loc X.env.scope x) (hf:X.fn x=true\/X.env.scope.names.lookup x=some .local:=by first | exact .inl rfl | exact .inr rfl | assumption) :
  MG X Θ [i] (.Name x pos) (M.jS i):=(zGA hN hi hx hf).imp fun v σ H Q ⟨ρ,σ',S,d,st,rp,rv,σ1,e,h⟩=>by
 cases e
 exact h H _ (Le.refl _) rp (st.set rv i) (by rw[List.length_set]) fun j hj=>List.getElem?_set_ne (fun z=>hj (by rw[z];simp))
theorem yD {X:Cx}{Θ:Tab}{pos:Pos}{i:Nat}{x:Str} (hN:X.N.Nodup) (hi:X.N[i]? = some x) (hx:Loc X.env.scope x) (hf:X.fn x=true\/X.env.scope.names.lookup x=some .local:=by first | exact .inl rfl | exact .inr rfl | assumption) :
  WG X Θ [i] (.Name x pos) (M.jS i):=by with_unfolding_all exact zFz (X:=X) (Θ:=Θ) (pos:=pos) (i:=i) (x:=x) hN hi hx hf
structure ItR (K:PySem.W.Frag) (Θ:Tab) (ρ:List Addr) (H:Hp) (J:It) (xs:List M.D) (g:M.Gd):Prop where
 go:∀ (i:Nat) ρ' S' H',ρ <+: ρ'->Le H H'->zL K Θ ρ' S' H'->M.zR g S'=true->i < xs.length->J.go i H'
 yld:∀ (i:Nat) ρ' S' H' v H2,ρ <+: ρ'->Le H H'->zL K Θ ρ' S' H'->M.zR g S'=true->i < xs.length->J.yld i H' v H2->∃ d,xs[i]? = some d/\zH K ρ' H2 d v/\Le H' H2/\zL K Θ ρ' S' H2
 stop:∀ ρ' S' H',ρ <+: ρ'->Le H H'->zL K Θ ρ' S' H'->M.zR g S'=true->J.stop xs.length H'
noncomputable def RdI (K:PySem.W.Frag) (Θ:Tab) (m:M.IM):TI:=fun σ H R=>∃ ρ σ' S,zr K ρ H σ' σ/\zL K Θ ρ S H /\
 zA K Θ (fun ρ' H' (p:List M.D×M.Gd) (J:It)=>ItR K Θ ρ' H' J p.1 p.2) ρ H ((m σ' S).bind fun p s=>if M.zR p.2 s then .ok p s else .no) R
noncomputable abbrev MI (X:Cx) (Θ:Tab) (tg iter:Expr) (m:M.IM):Prop:=PI X tg iter (RdI X.K Θ m)
@[irreducible] noncomputable def WI (X:Cx) (Θ:Tab) (tg iter:Expr) (m:M.IM):Prop:=MI X Θ tg iter m
theorem PI.imp {X:Cx}{tg e:Expr}{t t':TI} (h:PI X tg e t) (i:∀ σ H R,t' σ H R->t σ H R):PI X tg e t':=fun pins s σ H R I q=>h pins s σ H R I (i σ H R q)
theorem PI.or {X:Cx}{tg e:Expr}{t t':TI} (h:PI X tg e t) (h':PI X tg e t'):PI X tg e (fun σ H R=>t σ H R\/t' σ H R):=fun pins s σ H R I q=>by
 rcases q with q | q
 ·exact h pins s σ H R I q
 ·exact h' pins s σ H R I q
section
variable {X:Cx}{Θ:Tab}{tg e:Expr}{m:M.EM}
theorem zFQ {K:PySem.W.Frag}{ρ:List Addr}{H:Hp}{i:Nat}{a:Addr}{ds:List M.D} (ha:ρ[i]? = some a):ItR K Θ ρ H (Itl K a) ds [(i,.lst ds)]:=by
 have key:∀ {ρ':List Addr}{S':M.S}{H':Hp},ρ <+: ρ'->zL K Θ ρ' S' H'->M.zR [(i,.lst ds)] S'=true->∃ zs,H' a=some (.lst zs)/\zF K ρ' H' ds zs:=fun {ρ' S' H'} p rp g=>by
  have g':S'[i]? = some (M.O.lst ds):=by simpa [M.zR] using g
  obtain⟨b,e1,zs,e2,r⟩:=rp.obj i _ g'
  rw[Qh p ha] at e1;cases e1
  exact⟨zs,e2,r⟩
 refine⟨fun j ρ' S' H' p l rp g hj=>?_,fun j ρ' S' H' v H2 p l rp g hj y=>?_,fun ρ' S' H' p l rp g=>?_⟩
 ·obtain⟨zs,e,r⟩:=key p rp g
  obtain⟨v,e1,_⟩:=r.get (i:=j) (d:=ds[j]) (by simp[hj])
  exact⟨zs,v,SqL.of e,e1⟩
 ·obtain⟨zs,e,r⟩:=key p rp g
  obtain⟨v',e1,rv⟩:=r.get (i:=j) (d:=ds[j]) (by simp[hj])
  obtain⟨rfl,y2⟩:=y
  have y3:=y2 zs (SqL.of e)
  rw[e1] at y3;cases y3
  exact⟨ds[j],by simp[hj],rv,Le.refl _,rp⟩
 ·obtain⟨zs,e,r⟩:=key p rp g
  exact⟨zs,SqL.of e,Nat.le_of_eq r.length.symm⟩
theorem zH8 {K:PySem.W.Frag}{ρ:List Addr}{H:Hp}{a:Addr}{ds:List M.D}{xs:List V} (hq:zAC K H a xs) (r:zF K ρ H ds xs):ItR K Θ ρ H (Itl K a) ds []:=by
 refine⟨fun j ρ' S' H' p l rp g hj=>?_,fun j ρ' S' H' v H2 p l rp g hj y=>?_,fun ρ' S' H' p l rp g=>?_⟩
 ·obtain⟨v,e1,_⟩:=r.get (i:=j) (d:=ds[j]) (by simp[hj])
  exact⟨xs,v,(l.rol hq).sq,e1⟩
 ·obtain⟨v',e1,rv⟩:=(r.mono p l).get (i:=j) (d:=ds[j]) (by simp[hj])
  obtain⟨rfl,y2⟩:=y
  have y3:=y2 xs (l.rol hq).sq
  rw[e1] at y3;cases y3
  exact⟨ds[j],by simp[hj],rv,Le.refl _,rp⟩
 ·exact⟨xs,(l.rol hq).sq,Nat.le_of_eq r.length.symm⟩
theorem zGq {K:PySem.W.Frag}{ρ:List Addr}{H:Hp}{a:Addr}{ds:List M.D}{xs:List V} (hq:SqT K H a xs) (r:zF K ρ H ds xs):ItR K Θ ρ H (Itt K a) ds []:=by
 refine⟨fun j ρ' S' H' p l rp g hj=>?_,fun j ρ' S' H' v H2 p l rp g hj y=>?_,fun ρ' S' H' p l rp g=>?_⟩
 ·obtain⟨v,e1,_⟩:=r.get (i:=j) (d:=ds[j]) (by simp[hj])
  exact⟨xs,v,l.sqT hq,e1⟩
 ·obtain⟨v',e1,rv⟩:=(r.mono p l).get (i:=j) (d:=ds[j]) (by simp[hj])
  obtain⟨rfl,y2⟩:=y
  have y3:=y2 xs (l.sqT hq)
  rw[e1] at y3;cases y3
  exact⟨ds[j],by simp[hj],rv,Le.refl _,rp⟩
 ·exact⟨xs,l.sqT hq,Nat.le_of_eq r.length.symm⟩
theorem zGe {K:PySem.W.Frag}{ρ:List Addr}{H:Hp}{x:M.T} (ok:okT x):ItR K Θ ρ H (Its (ofT x)) (x.map fun c=>.str [c]) []:=by
 refine⟨fun j ρ' S' H' p l rp g hj=>?_,fun j ρ' S' H' v H2 p l rp g hj y=>?_,fun ρ' S' H' p l rp g=>?_⟩
 ·rw[List.length_map] at hj
  show j < (ofT x).length
  rw[zx];exact hj
 ·obtain⟨rfl,c,hc,rfl⟩:=y
  have hc':x[j]? = some c:=by simpa [ofT] using hc
  exact⟨.str [c],by rw[List.getElem?_map,hc'];rfl,⟨rfl,ZE ok fun d hd=>by rw[List.mem_singleton.mp hd];exact List.mem_of_getElem? hc'⟩,Le.refl _,rp⟩
 ·show (ofT x).length <= _
  rw[zx,List.length_map];exact Nat.le_refl _
theorem zEN {K:PySem.W.Frag}{ρ:List Addr}{H:Hp}{lo hi:Int}:ItR K Θ ρ H (Itr lo (hi - lo).toNat) (M.qR lo hi) []:=by
 refine⟨fun j ρ' S' H' p l rp g hj=>?_,fun j ρ' S' H' v H2 p l rp g hj y=>?_,fun ρ' S' H' p l rp g=>?_⟩
 ·show j < _
  simpa [M.qR] using hj
 ·obtain⟨rfl,rfl⟩:=y
  have hj':j < (hi - lo).toNat:=by simpa [M.qR] using hj
  exact⟨.int (lo+j),by unfold M.qR;rw[List.getElem?_map,List.getElem?_range hj'];rfl,rfl,Le.refl _,rp⟩
 ·show _ <= _
  simp[M.qR]
theorem zJF (he:ME X Θ e m):MI X Θ tg e (M.iE m):=(PI.or (zGu he) (PI.or (zIP he) (zHY he))).imp fun σ H R ⟨ρ,σ',S,st,rp,h⟩=>by
 have h':zA X.K Θ _ ρ H (((m σ' S).bind M.itD).bind fun p s=>if M.zR p.2 s then .ok p s else .no) R:=h
 clear h
 cases hm:m σ' S with
 | no=>rw[hm] at h';exact h'.elim
 | exc a s=>rw[hm] at h';exact h'.elim
 | ok d S1 =>
  rw[hm] at h'
  have go:∀ {Q:VK},(∀ ρ1 H1 v,ρ <+: ρ1->Le H H1->zL X.K Θ ρ1 S1 H1->zH X.K ρ1 H1 d v->Q v H1)->RdE X.K Θ m σ H Q:=fun q=>⟨ρ,σ',S,st,rp,by rw[hm];exact q⟩
  cases d with
  | str x =>
   refine .inr (.inr (go fun ρ1 H1 v p l rp1 rv=>?_))
   have h2:zA X.K Θ _ ρ H ((if x.length <= M.SZ then .ok (x.map fun c=>M.D.str [c],[]) S1 else M.R.no).bind fun p s=>if M.zR p.2 s then .ok p s else .no) R:=h'
   by_cases hl:x.length <= M.SZ
   ·rw[if_pos hl] at h2
    exact⟨ofT x,rv.1,h2 ρ1 H1 _ p l rp1 (zGe rv.2)⟩
   ·rw[if_neg hl] at h2
    exact h2.elim
  | tup ds =>
   refine .inr (.inl (go fun ρ1 H1 v p l rp1 rv=>?_))
   obtain⟨a,xs,rfl,hq,r⟩:=rv
   exact⟨a,rfl,⟨xs,hq⟩,h' ρ1 H1 _ p l rp1 (zGq hq r)⟩
  | ro ds =>
   refine .inl (go fun ρ1 H1 v p l rp1 rv=>?_)
   obtain⟨a,xs,rfl,hq,r⟩:=rv
   exact⟨a,rfl,⟨xs,hq.sq⟩,h' ρ1 H1 _ p l rp1 (zH8 hq r)⟩
  | ref i =>
   have h2:zA X.K Θ _ ρ H ((match S1[i]? with
    | some (.lst xs)=>M.R.ok (xs,[(i,M.O.lst xs)]) S1
    | _=>.no).bind fun p s=>if M.zR p.2 s then .ok p s else .no) R:=h'
   cases q:S1[i]? with
   | none=>rw[q] at h2;exact h2.elim
   | some o =>
    rw[q] at h2
    cases o with
    | lst xs =>
     refine .inl (go fun ρ1 H1 v p l rp1 rv=>?_)
     obtain⟨a,rfl,e1⟩:=rv
     obtain⟨b,e2,zs,e3,r⟩:=rp1.obj i _ q
     rw[e1] at e2;cases e2
     have hg:M.zR [(i,M.O.lst xs)] S1=true:=by simp[M.zR,q]
     have h3:zA X.K Θ _ ρ H (if M.zR [(i,M.O.lst xs)] S1 then M.R.ok (xs,[(i,M.O.lst xs)]) S1 else .no) R:=h2
     rw[if_pos hg] at h3
     exact⟨a,rfl,⟨zs,SqL.of e3⟩,h3 ρ1 H1 _ p l rp1 (zFQ e1)⟩
    | dct kvs=>exact h2.elim
    | fdc _=>exact h2.elim
    | ins c fs=>exact h2.elim
  | non=>exact h'.elim
  | bl b=>exact h'.elim
  | int b=>exact h'.elim
  | ty b=>exact h'.elim
theorem Ja (he:WE X Θ e m):WI X Θ tg e (M.iE m):=by with_unfolding_all exact zJF he
theorem zER {p pos:Pos} (hg:Gl X "range") (hm:X.mg "range" = none) (he:ME X Θ e m) (hs:zX e=true:=by rfl):MI X Θ tg (.Call (.Name "range" p) [e] [] pos) (M.q0 m) :=
 (zDm hg hm (zCV he zEE hs) (z4 hs)).imp fun σ H R ⟨ρ,σ',S,st,rp,h⟩=>⟨ρ,σ',S,st,rp,by
  have h':zA X.K Θ _ ρ H (((m σ' S).bind fun x s=>match x with
   | .int j=>if j.natAbs < 4611686018427387904 then M.R.ok (M.qR 0 j,([]:M.Gd)) s else .no
   | _=>.no).bind fun p s=>if M.zR p.2 s then .ok p s else .no) R:=h
  show zA X.K Θ _ ρ H ((m σ' S).bind fun x s=>(M.R.ok [] s).bind fun xs s=>.ok (x::xs) s) _
  cases hm:m σ' S with
  | no=>rw[hm] at h';exact h'.elim
  | exc a s=>rw[hm] at h';exact h'.elim
  | ok d S1 =>
   rw[hm] at h'
   intro ρ1 H1 vs p l rp1 rv
   obtain⟨v,ys,rfl,rv,hy⟩:=rv
   cases hy
   cases d with
   | int j =>
    cases rv
    have h2:zA X.K Θ _ ρ H ((if j.natAbs < 4611686018427387904 then M.R.ok (M.qR 0 j,([]:M.Gd)) S1 else .no).bind fun p s=>if M.zR p.2 s then .ok p s else .no) R:=h'
    by_cases hj:j.natAbs < 4611686018427387904
    ·rw[if_pos hj] at h2
     refine⟨j,rfl,by omega,by omega,?_⟩
     have:=h2 ρ1 H1 _ p l rp1 (zEN (lo:=0) (hi:=j))
     rw[Int.sub_zero] at this
     exact this
    ·rw[if_neg hj] at h2
     exact h2.elim
   | _=>exact h'.elim⟩
theorem Qq {p pos:Pos} (hg:Gl X "range") (hm:X.mg "range" = none) (he:WE X Θ e m) (hs:zX e=true:=by rfl):WI X Θ tg (.Call (.Name "range" p) [e] [] pos) (M.q0 m):=by with_unfolding_all exact zER (p:=p) (pos:=pos) hg hm he hs
end
section
variable {X:Cx}{Θ:Tab}{pos:Pos}
theorem zFE {c:Expr}{body:List Stmt}{tc:M.TM}{mb:M.SM} (hp:PassesOwn (model X.prog X.w) X.A X.env X.xe) (hc:MT X Θ c tc) (hb:MSs X Θ body mb):MS X Θ (.While c body [] pos) (M.zBv tc mb) :=
 (zE2 hp hc hb).imp fun D σ H ⟨ρ,σ',S,st,rp,h⟩=>by
  refine⟨fun k σ2 H2=>∃ ρ2 σ2' S2,zr X.K ρ2 H2 σ2' σ2/\zL X.K Θ ρ2 S2 H2/\zY X.K Θ ρ2 H2 (M.qo k tc mb σ2' S2) D,⟨M.zC8,ρ,σ',S,st,rp,h⟩,?_⟩
  rintro k σ2 H2 ⟨ρ2,σ2',S2,st2,rp2,h2⟩
  cases k with
  | zero=>exact h2.elim
  | succ k =>
   refine⟨ρ2,σ2',S2,st2,rp2,zY.stm h2 fun ρ3 H3 b b' S3 p3 l3 rp3 eb h3=>?_⟩
   cases eb
   cases b with
   | false=>exact zCs (zY.nx (σ:=σ2) h3 rp3 (st2.mono p3 l3))
   | true =>
    refine zCv ⟨fun σ4 H4=>∃ ρ4 σ4' S4,zr X.K ρ4 H4 σ4' σ4/\zL X.K Θ ρ4 S4 H4/\zY X.K Θ ρ4 H4 (M.qo k tc mb σ4' S4) D,fun σ4 H4 q=>⟨k,Nat.lt_succ_self k,q⟩,ρ3,σ2',S3,st2.mono p3 l3,rp3,?_⟩
    have h4:zY X.K Θ ρ3 H3 (match mb σ2' S3 with
     | .nx σ s=>M.qo k tc mb σ s
     | .ct σ s=>M.qo k tc mb σ s
     | .bk σ s=>.nx σ s
     | r=>r) D:=h3
    revert h4
    cases mb σ2' S3 with
    | nx a s=>exact fun h4 ρ4 H4 σ4 p4 l4 rp4 st4=>⟨ρ4,a,s,st4,rp4,zY.weak h4 p4 l4⟩
    | ct a s=>exact fun h4 ρ4 H4 σ4 p4 l4 rp4 st4=>⟨ρ4,a,s,st4,rp4,zY.weak h4 p4 l4⟩
    | bk a s=>exact fun h4=>h4
    | rt a s=>exact fun h4=>h4
    | exc e a s=>exact fun h4=>h4
    | no=>exact fun h4=>h4
theorem zCt {c:Expr}{body:List Stmt}{tc:M.TM}{mb:M.SM} (hp:PassesOwn (model X.prog X.w) X.A X.env X.xe) (hc:WT X Θ c tc) (hb:WSs X Θ body mb):WS X Θ (.While c body [] pos) (M.zBv tc mb):=by with_unfolding_all exact zFE (c:=c) (body:=body) (tc:=tc) (mb:=mb) hp hc hb
theorem zId {K:PySem.W.Frag}{g:M.GM}{js:List Nat}{mb:M.SM}{xs:List M.D}{gd:M.Gd}{J:It}{ρ1:List Addr}{H1:Hp}{σ:St}{σ':M.St}{S1:M.S}{D:Zh} (itr:ItR K Θ ρ1 H1 J xs gd) (st:zr K ρ1 H1 σ' σ) (rp1:zL K Θ ρ1 S1 H1) (hgd:M.zR gd S1=true) (h2:zY K Θ ρ1 H1 (M.j0 gd (M.yR g mb) xs σ' S1) D) :
  ∃ W:Nat->Nat->St->Hp->Prop,(∃ m,W 0 m σ H1)/\∀ i m σ H,W i m σ H ->
   (J.stop i H/\D.nx σ H)\/(J.go i H/\∃ N:St->Hp->Prop,(∀ σ' H',N σ' H'->∃ m',m' < m/\W (i+1) m' σ' H')/\∀ x H',J.yld i H x H'->RdG K Θ js g x σ H' fun σ2 H2=>RdS K Θ mb { D with nx:=N,ct:=N,bk:=D.nx } σ2 H2):=by
 refine⟨fun i k σ2 H2=>∃ ρ2 σ2' S2,ρ1 <+: ρ2/\Le H1 H2/\zr K ρ2 H2 σ2' σ2/\zL K Θ ρ2 S2 H2/\M.zR gd S2=true/\k=xs.length - i/\i <= xs.length/\zY K Θ ρ2 H2 (M.j0 gd (M.yR g mb) (xs.drop i) σ2' S2) D,
  ⟨xs.length,ρ1,σ',S1,List.prefix_refl _,Le.refl _,st,rp1,hgd,rfl,Nat.zero_le _,h2⟩,?_⟩
 rintro i k σ2 H2 ⟨ρ2,σ2',S2,p2,l2,st2,rp2,g2,rfl,hi2,h3⟩
 by_cases hlt:i < xs.length
 ·refine .inr ⟨itr.go i ρ2 S2 H2 p2 l2 rp2 g2 hlt,fun σ3 H3=>∃ ρ3 σ3' S3,ρ1 <+: ρ3/\Le H1 H3/\zr K ρ3 H3 σ3' σ3/\zL K Θ ρ3 S3 H3/\M.zR gd S3=true/\zY K Θ ρ3 H3 (M.j0 gd (M.yR g mb) (xs.drop (i+1)) σ3' S3) D,
   fun σ3 H3 ⟨ρ3,σ3',S3,a1,a2,a3,a4,a5,a6⟩=>⟨xs.length - (i+1),by omega,ρ3,σ3',S3,a1,a2,a3,a4,a5,rfl,hlt,a6⟩,fun x H' y=>?_⟩
  obtain⟨d,ed,rd,ld,rpd⟩:=itr.yld i ρ2 S2 H2 x H' p2 l2 rp2 g2 hlt y
  have edr:xs.drop i=d::xs.drop (i+1):=by
   obtain⟨_,e⟩:=List.getElem?_eq_some_iff.mp ed
   rw[List.drop_eq_getElem_cons hlt,e]
  rw[edr] at h3
  have h4:zY K Θ ρ2 H2 (match (match g d σ2' with | some σ'=>mb σ' S2 | none=>M.RS.no) with
   | .nx σ s=>if M.zR gd s then M.j0 gd (M.yR g mb) (xs.drop (i+1)) σ s else .no
   | .ct σ s=>if M.zR gd s then M.j0 gd (M.yR g mb) (xs.drop (i+1)) σ s else .no
   | .bk σ s=>.nx σ s
   | r=>r) D:=h3
  cases hgq:g d σ2' with
  | none=>rw[hgq] at h4;exact h4.elim
  | some σ1 =>
   rw[hgq] at h4
   refine⟨ρ2,σ2',S2,d,st2.mono (List.prefix_refl _) ld,rpd,rd,σ1,hgq,fun H'' σ3 le3 rp3 st3 _ _=>⟨ρ2,σ1,S2,st3,rp3,?_⟩⟩
   have h5:=zY.weak h4 (List.prefix_refl _) (ld.trans le3)
   have h6:zY K Θ ρ2 H'' (match mb σ1 S2 with
    | .nx σ s=>if M.zR gd s then M.j0 gd (M.yR g mb) (xs.drop (i+1)) σ s else .no
    | .ct σ s=>if M.zR gd s then M.j0 gd (M.yR g mb) (xs.drop (i+1)) σ s else .no
    | .bk σ s=>.nx σ s
    | r=>r) D:=h5
   have more:∀ (a:M.St) (s:M.S),zY K Θ ρ2 H'' (if M.zR gd s then M.j0 gd (M.yR g mb) (xs.drop (i+1)) a s else .no) D->∀ ρ4 H4 σ4,ρ2 <+: ρ4->Le H'' H4->zL K Θ ρ4 s H4->zr K ρ4 H4 a σ4 ->
     ∃ ρ3 σ3' S3,ρ1 <+: ρ3/\Le H1 H4/\zr K ρ3 H4 σ3' σ4/\zL K Θ ρ3 S3 H4/\M.zR gd S3=true/\zY K Θ ρ3 H4 (M.j0 gd (M.yR g mb) (xs.drop (i+1)) σ3' S3) D:=fun a s h7 ρ4 H4 σ4 p4 l4 rp4 st4=>by
    by_cases hs:M.zR gd s=true
    ·rw[if_pos hs] at h7
     exact⟨ρ4,a,s,p2.trans p4,l2.trans (ld.trans (le3.trans l4)),st4,rp4,hs,zY.weak h7 p4 l4⟩
    ·rw[if_neg hs] at h7;exact h7.elim
   revert h6
   cases mb σ1 S2 with
   | nx a s=>exact fun h6=>more a s h6
   | ct a s=>exact fun h6=>more a s h6
   | bk a s=>exact fun h6=>h6
   | rt a s=>exact fun h6=>h6
   | exc e a s=>exact fun h6=>h6
   | no=>exact fun h6=>h6
 ·have e:i=xs.length:=by omega
  subst e
  rw[List.drop_length] at h3
  exact .inl ⟨itr.stop ρ2 S2 H2 p2 l2 rp2 g2,zY.nx (σ:=σ2) h3 rp2 st2⟩
theorem zHG {tg iter:Expr}{body:List Stmt}{it:M.IM}{g:M.GM}{js:List Nat}{mb:M.SM} (hp:PassesOwn (model X.prog X.w) X.A X.env X.xe) (hc:X.calm=true) (hi:MI X Θ tg iter it) (hg:MG X Θ js tg g) (hb:MSs X Θ body mb)
  (hs:∀ x,foldedSetIterable iter X.env x=pure x:=by intro _;rfl):MS X Θ (.For tg iter body [] pos) (M.J6 it g mb) :=
 (zHb hp hc hi hg hb hs).imp fun D σ H ⟨ρ,σ',S,st,rp,h⟩=>⟨ρ,σ',S,st,rp,by
  have h':zY X.K Θ ρ H ((it σ' S).stm σ' fun p s=>if M.zR p.2 s=true then M.j0 p.2 (M.yR g mb) p.1 σ' s else .no) D:=h
  cases hit:it σ' S with
  | no=>rw[hit] at h';exact h'.elim
  | exc a s=>rw[hit] at h';exact h'.elim
  | ok p S1 =>
   rw[hit] at h'
   obtain⟨xs,gd⟩:=p
   show zA X.K Θ _ ρ H (if M.zR gd S1 then M.R.ok (xs,gd) S1 else .no) _
   have h2:zY X.K Θ ρ H (if M.zR gd S1=true then M.j0 gd (M.yR g mb) xs σ' S1 else .no) D:=h'
   by_cases hgd:M.zR gd S1=true
   case neg=>rw[if_neg hgd] at h2;exact h2.elim
   rw[if_pos hgd] at h2
   rw[if_pos hgd]
   intro ρ1 H1 J p1 l1 rp1 (itr:ItR X.K Θ ρ1 H1 J xs gd)
   exact zId itr (st.mono p1 l1) rp1 hgd (zY.weak h2 p1 l1)⟩
theorem zBn {tg iter:Expr}{body:List Stmt}{it:M.IM}{g:M.GM}{js:List Nat}{mb:M.SM} (hp:PassesOwn (model X.prog X.w) X.A X.env X.xe) (hc:X.calm=true) (hi:WI X Θ tg iter it) (hg:WG X Θ js tg g) (hb:WSs X Θ body mb)
  (hs:∀ x,foldedSetIterable iter X.env x=pure x:=by intro _;rfl):WS X Θ (.For tg iter body [] pos) (M.J6 it g mb):=by with_unfolding_all exact zHG (tg:=tg) (iter:=iter) (body:=body) (it:=it) (g:=g) (js:=js) (mb:=mb) hp hc hi hg hb hs
theorem zG9 {K:PySem.W.Frag}{n:Nat}{it:M.IM}{g:M.GM}{js:List Nat}{tc:M.TM}{me:M.EM}{σ:St}{σ':M.St}{S:M.S}{ρ:List Addr}{H:Hp}{R:List V->Hp->Prop} (st:zr K ρ H σ' σ) (rp:zL K Θ ρ S H) (hj:∀ j∈js,σ.length <= j)
  (h:zA K Θ (zF K) ρ H (M.qF n it g tc me σ' S) R) :
  RdI K Θ it σ H fun J H1=>∃ W:Nat->Nat->List V->Hp->Prop,(∃ m,W 0 m [] H1)/\∀ i m ys H2,W i m ys H2->ys.length <= sizeLine /\
   ((J.stop i H2/\R ys H2) \/
    (J.go i H2/\∀ x H3,J.yld i H2 x H3->RdG K Θ js g x (σ++List.replicate n none) H3 fun σ2 H4=>Wk (σ++List.replicate n none) σ2/\RdT K Θ tc σ2 H4 fun b H5 =>
     if b=true then RdE K Θ me σ2 H5 fun y H6=>∃ m',m' < m/\W (i+1) m' (ys++[y]) H6 else ∃ m',m' < m/\W (i+1) m' ys H5)):=by
 refine⟨ρ,σ',S,st,rp,?_⟩
 have h':zA K Θ (zF K) ρ H ((it σ' S).bind fun p s=>if p.1.length <= M.SZ/\M.zR p.2 s=true then M.jo p.2 (M.jW n g tc me σ') p.1 s else .no) R:=h
 cases hit:it σ' S with
 | no=>rw[hit] at h';exact h'.elim
 | exc a s=>rw[hit] at h';exact h'.elim
 | ok p S1 =>
  rw[hit] at h'
  obtain⟨xs,gd⟩:=p
  show zA K Θ _ ρ H (if M.zR gd S1 then M.R.ok (xs,gd) S1 else .no) _
  have h2:zA K Θ (zF K) ρ H (if xs.length <= M.SZ/\M.zR gd S1=true then M.jo gd (M.jW n g tc me σ') xs S1 else .no) R:=h'
  by_cases hgd:xs.length <= M.SZ/\M.zR gd S1=true
  case neg=>rw[if_neg hgd] at h2;exact h2.elim
  rw[if_pos hgd] at h2
  rw[if_pos hgd.2]
  intro ρ1 H1 J p1 l1 rp1 (itr:ItR K Θ ρ1 H1 J xs gd)
  refine⟨fun i k ys H2=>∃ ρ2 S2 ds,ρ1 <+: ρ2/\Le H1 H2/\zL K Θ ρ2 S2 H2/\M.zR gd S2=true/\zF K ρ2 H2 ds ys/\ds.length <= i/\k=xs.length - i/\i <= xs.length/\zA K Θ (zF K) ρ2 H2 ((M.jo gd (M.jW n g tc me σ') (xs.drop i) S2).bind fun es s=>.ok (ds++es) s) R,
   ⟨xs.length,ρ1,S1,[],List.prefix_refl _,Le.refl _,rp1,hgd.2,rfl,Nat.le_refl _,rfl,Nat.zero_le _,?_⟩,?_⟩
  ·have h3:=zA.weak h2 p1 l1
   revert h3
   show zA K Θ (zF K) ρ1 H1 (M.jo gd (M.jW n g tc me σ') xs S1) R->_
   rw[List.drop_zero]
   cases M.jo gd (M.jW n g tc me σ') xs S1 with
   | ok a s=>exact fun h3=>h3
   | exc e s=>exact fun h3=>h3
   | no=>exact fun h3=>h3
  rintro i k ys H2 ⟨ρ2,S2,ds,p2,l2,rp2,g2,rds,hdl,rfl,hi2,h3⟩
  refine⟨by rw[<- rds.length,<- yI];omega,?_⟩
  by_cases hlt:i < xs.length
  ·refine .inr ⟨itr.go i ρ2 S2 H2 p2 l2 rp2 g2 hlt,fun x H3 y=>?_⟩
   obtain⟨d,ed,rd,ld,rpd⟩:=itr.yld i ρ2 S2 H2 x H3 p2 l2 rp2 g2 hlt y
   have edr:xs.drop i=d::xs.drop (i+1):=by
    obtain⟨_,e⟩:=List.getElem?_eq_some_iff.mp ed
    rw[List.drop_eq_getElem_cons hlt,e]
   rw[edr] at h3
   have h4:zA K Θ (zF K) ρ2 H2 (((match g d (σ'++List.replicate n none) with
     | none=>M.R.no
     | some σ1=>(tc σ1 S2).bind fun b s=>if b then (me σ1 s).bind fun d s=>.ok (some d) s else .ok none s).bind fun o s =>
      if M.zR gd s then (M.jo gd (M.jW n g tc me σ') (xs.drop (i+1)) s).bind fun ys s=>.ok (match o with | some y=>y::ys | none=>ys) s else .no).bind fun es s=>.ok (ds++es) s) R:=h3
   cases hgq:g d (σ'++List.replicate n none) with
   | none=>rw[hgq] at h4;exact h4.elim
   | some σ1 =>
    rw[hgq] at h4
    refine⟨ρ2,σ'++List.replicate n none,S2,d,((st.mono (p1.trans p2) (l1.trans (l2.trans ld))).more n),rpd,rd,σ1,hgq,fun H4 σ2 le4 rp4 st4 hl4 hj4=>⟨⟨hl4.symm,fun j v e=>?_⟩,ρ2,σ1,S2,st4,rp4,?_⟩⟩
    ·by_cases hjj:j∈js
     ·rw[List.getElem?_append_right (hj j hjj),List.getElem?_replicate] at e
      split at e<;>cases e
     ·rw[hj4 j hjj];exact e
    ·have h5:=zA.weak h4 (List.prefix_refl _) (ld.trans le4)
     dsimp only at h5
     cases htc:tc σ1 S2 with
     | no=>rw[htc] at h5;exact h5.elim
     | exc a s=>rw[htc] at h5;exact h5.elim
     | ok b S3 =>
      rw[htc] at h5
      intro ρ5 H5 b' p5 l5 rp5 eb
      cases eb
      have next:∀ (o:Option M.D) (s:M.S) (ρ6:List Addr) (H6:Hp) (zs:List V),ρ2 <+: ρ6->Le H4 H6->zL K Θ ρ6 s H6->zF K ρ6 H6 (match o with | some y=>ds++[y] | none=>ds) zs ->
        zA K Θ (zF K) ρ6 H6 ((if M.zR gd s then (M.jo gd (M.jW n g tc me σ') (xs.drop (i+1)) s).bind fun ys s=>.ok (match o with | some y=>y::ys | none=>ys) s else .no).bind fun es s=>.ok (ds++es) s) R ->
        ∃ m',m' < xs.length - i/\∃ ρ2 S2 es,ρ1 <+: ρ2/\Le H1 H6/\zL K Θ ρ2 S2 H6/\M.zR gd S2=true/\zF K ρ2 H6 es zs/\es.length <= i+1/\m'=xs.length - (i+1)/\i+1 <= xs.length /\
         zA K Θ (zF K) ρ2 H6 ((M.jo gd (M.jW n g tc me σ') (xs.drop (i+1)) S2).bind fun fs s=>.ok (es++fs) s) R:=fun o s ρ6 H6 zs p6 l6 rp6 rz h6=>by
       by_cases hs:M.zR gd s=true
       case neg=>rw[if_neg hs] at h6;exact h6.elim
       rw[if_pos hs] at h6
       refine⟨xs.length - (i+1),by omega,ρ6,s,_,p2.trans p6,l2.trans (ld.trans (le4.trans l6)),rp6,hs,rz,?_,rfl,hlt,?_⟩
       ·cases o<;>simp<;>omega
       ·revert h6
        cases M.jo gd (M.jW n g tc me σ') (xs.drop (i+1)) s with
        | ok a s2 =>
         intro h6
         cases o with
         | none=>exact h6
         | some y =>
          show zA K Θ (zF K) ρ6 H6 (.ok (ds++[y]++a) s2) R
          rw[List.append_assoc]
          exact h6
        | exc e s=>exact fun h6=>h6
        | no=>exact fun h6=>h6
      cases b with
      | false=>exact zCs (next none S3 ρ5 H5 ys p5 l5 rp5 (rds.mono p5 (ld.trans (le4.trans l5))) (zA.weak h5 p5 l5))
      | true =>
       refine zCv ⟨ρ5,σ1,S3,st4.mono p5 l5,rp5,?_⟩
       have h6:=zA.weak h5 p5 l5
       cases hme:me σ1 S3 with
       | no =>
        have h7:zA K Θ (zF K) ρ5 H5 ((((me σ1 S3).bind fun d s=>M.R.ok (some d) s).bind fun o s=>if M.zR gd s then (M.jo gd (M.jW n g tc me σ') (xs.drop (i+1)) s).bind fun ys s=>.ok (match o with | some y=>y::ys | none=>ys) s else .no).bind fun es s=>.ok (ds++es) s) R:=h6
        rw[hme] at h7;exact h7.elim
       | exc a s =>
        have h7:zA K Θ (zF K) ρ5 H5 ((((me σ1 S3).bind fun d s=>M.R.ok (some d) s).bind fun o s=>if M.zR gd s then (M.jo gd (M.jW n g tc me σ') (xs.drop (i+1)) s).bind fun ys s=>.ok (match o with | some y=>y::ys | none=>ys) s else .no).bind fun es s=>.ok (ds++es) s) R:=h6
        rw[hme] at h7;exact h7.elim
       | ok y S6 =>
        have h7:zA K Θ (zF K) ρ5 H5 ((((me σ1 S3).bind fun d s=>M.R.ok (some d) s).bind fun o s=>if M.zR gd s then (M.jo gd (M.jW n g tc me σ') (xs.drop (i+1)) s).bind fun ys s=>.ok (match o with | some y=>y::ys | none=>ys) s else .no).bind fun es s=>.ok (ds++es) s) R:=h6
        rw[hme] at h7
        intro ρ6 H6 v p6 l6 rp6 rv
        exact next (some y) S6 ρ6 H6 (ys++[v]) (p5.trans p6) (l5.trans l6) rp6 ((rds.mono (p5.trans p6) (ld.trans (le4.trans (l5.trans l6)))).app ⟨v,[],rfl,rv,rfl⟩) (zA.weak h7 p6 l6)
  ·have e:i=xs.length:=by omega
   subst e
   rw[List.drop_length] at h3
   refine .inl ⟨itr.stop ρ2 S2 H2 p2 l2 rp2 g2,?_⟩
   have h4:zA K Θ (zF K) ρ2 H2 (.ok (ds++[]) S2) R:=h3
   rw[List.append_nil] at h4
   exact h4.here rp2 rds
end
end L2
namespace L2
open PySem PySem.Spec PyProof.Rows
section
variable {X:Cx}{Θ:Tab}{pos:Pos}{vars:List Str}{scope:Scope}{cl:List (Str×Addr)}{tg elt iter:Expr}{ifs:List Expr}{it:M.IM}{g:M.GM}{js:List Nat}{tc:M.TM}{me:M.EM}
theorem zAG {pins:List (Addr×Obj)}{s:Shared}{σ:St}{H:Hp} (I:Inv X pins σ H s) (hj:∀ j∈js,X.N.length <= j) {ρ:List Addr}{σ':M.St}{S:M.S} (st:zr X.K ρ H σ' σ) (rp:zL X.K Θ ρ S H) {Q:VK}{n:Nat}
  (h:zA X.K Θ (zF X.K) ρ H (M.qF n it g tc me σ' S) fun ys H2=>∀ D,H2 D=none->Q (.ref D) (upd H2 D (.lst ys))) :
  zDU n (RdI X.K Θ it) (RdG X.K Θ js g) (RdT X.K Θ tc) (RdE X.K Θ me) σ H Q:=zG9 st rp (fun j hjj=>by rw[I.len];exact hj j hjj) h
theorem zF4 (hc:X.calm=true) (C:zq X vars scope cl) (hi:MI X Θ tg iter it) (hg:∀ C fp s₂ H₂,MG (zQ X vars scope cl C fp s₂ H₂) Θ js tg g) (ht:∀ C fp s₂ H₂,yn (zQ X vars scope cl C fp s₂ H₂) ifs (RdT X.K Θ tc))
  (he:∀ C fp s₂ H₂,ME (zQ X vars scope cl C fp s₂ H₂) Θ elt me) (hj':(js.all fun j=>decide (X.N.length <= j))=true) (hs:∀ x,foldedSetIterable iter X.env x=pure x:=by intro _;rfl):ME X Θ (.ListComp elt [⟨tg,iter,ifs,0⟩] scope pos) (M.zCg vars.length it g tc me):=by
 intro pins s σ H Q I ⟨ρ,σ',S,st,rp,h⟩
 have hj:∀ j∈js,X.N.length <= j:=fun j hjj=>of_decide_eq_true (List.all_eq_true.mp hj' j hjj)
 exact J7 hc C hi hg ht he hs pins s σ H Q I (zAG I hj st rp (zA.bind h fun ρ1 H1 ds ys S1 p1 l1 rp1 r1 h1 D hD=>h1.alloc rp1 r1 hD))
theorem zDo (hc:X.calm=true) (C:zq X vars scope cl) (hi:WI X Θ tg iter it) (hg:∀ C fp s₂ H₂,WG (zQ X vars scope cl C fp s₂ H₂) Θ js tg g) (ht:∀ C fp s₂ H₂,yn (zQ X vars scope cl C fp s₂ H₂) ifs (RdT X.K Θ tc))
  (he:∀ C fp s₂ H₂,WE (zQ X vars scope cl C fp s₂ H₂) Θ elt me) (hj':(js.all fun j=>decide (X.N.length <= j))=true) (hs:∀ x,foldedSetIterable iter X.env x=pure x:=by intro _;rfl):WE X Θ (.ListComp elt [⟨tg,iter,ifs,0⟩] scope pos) (M.zCg vars.length it g tc me):=by with_unfolding_all exact zF4 hc C hi hg ht he hj' hs
noncomputable def AdK (K:PySem.W.Frag) (Θ:Tab) (k:List M.D->M.S->M.R M.D) (r:List V->Hp->VK->Prop):Prop:=∀ ρ H S ds ys p Q,zL K Θ ρ S H->zF K ρ H ds ys->SqL K H p ys->zA K Θ (zH K) ρ H (k ds S) Q->r [.ref p] H Q
theorem zFX {x:Str}{p:Pos}{id:String}{pos2:Pos}{k:List M.D->M.S->M.R M.D}{r:List V->Hp->VK->Prop} (hcr:z8 X (.builtin id) r) (ad:AdK X.K Θ k r) (hgl:Gl X x) (hm:X.mg x=none) (hv:bootBuiltins x=some (.builtin id))
  (hc:X.calm=true) (C:zq X vars scope cl) (hi:MI X Θ tg iter it) (hg:∀ C fp s₂ H₂,MG (zQ X vars scope cl C fp s₂ H₂) Θ js tg g) (ht:∀ C fp s₂ H₂,yn (zQ X vars scope cl C fp s₂ H₂) ifs (RdT X.K Θ tc))
  (he:∀ C fp s₂ H₂,ME (zQ X vars scope cl C fp s₂ H₂) Θ elt me) (hj':(js.all fun j=>decide (X.N.length <= j))=true) (hs:∀ x,foldedSetIterable iter X.env x=pure x:=by intro _;rfl)
  (hn:x ≠ "__name__" := by decide) (hdb:(x == ("__debug__" : Str))=false:=by decide)
  :
  ME X Θ (.Call (.Name x p) [.ListComp elt [⟨tg,iter,ifs,0⟩] scope pos] [] pos2) (M.qh k vars.length it g tc me):=by
 intro pins s σ H Q I ⟨ρ,σ',S,st,rp,h⟩
 have hj:∀ j∈js,X.N.length <= j:=fun j hjj=>of_decide_eq_true (List.all_eq_true.mp hj' j hjj)
 refine zBr hcr hgl hm hv (Jw (J7 (g:=RdG X.K Θ js g) (ti:=RdT X.K Θ tc) (te:=RdE X.K Θ me) hc C hi hg ht he hs) zB5 (z4 rfl)) hn hdb (z4 rfl) rfl pins s σ H Q I ?_
 show zDU vars.length _ _ _ _ σ H (fun x H1=>r [x] H1 Q)
 refine zAG I hj st rp (zA.bind h fun ρ1 H1 ds ys S1 p1 l1 rp1 r1 h1 D hD=>?_)
 exact ad ρ1 _ S1 ds ys D Q (rp1.aside hD _) (r1.mono (List.prefix_refl _) (Le.new hD _)) (SqL.of jm) (zA.weak h1 (List.prefix_refl _) (Le.new hD _))
theorem zDI {x:Str}{p:Pos}{id:String}{pos2:Pos}{k:List M.D->M.S->M.R M.D}{r:List V->Hp->VK->Prop} (hcr:z8 X (.builtin id) r) (ad:AdK X.K Θ k r) (hgl:Gl X x) (hm:X.mg x=none) (hv:bootBuiltins x=some (.builtin id))
  (hc:X.calm=true) (C:zq X vars scope cl) (hi:WI X Θ tg iter it) (hg:∀ C fp s₂ H₂,WG (zQ X vars scope cl C fp s₂ H₂) Θ js tg g) (ht:∀ C fp s₂ H₂,yn (zQ X vars scope cl C fp s₂ H₂) ifs (RdT X.K Θ tc))
  (he:∀ C fp s₂ H₂,WE (zQ X vars scope cl C fp s₂ H₂) Θ elt me) (hj':(js.all fun j=>decide (X.N.length <= j))=true) (hs:∀ x,foldedSetIterable iter X.env x=pure x:=by intro _;rfl)
  (hn:x ≠ "__name__" := by decide) (hdb:(x == ("__debug__" : Str))=false:=by decide)
  :
  WE X Θ (.Call (.Name x p) [.ListComp elt [⟨tg,iter,ifs,0⟩] scope pos] [] pos2) (M.qh k vars.length it g tc me):=by with_unfolding_all exact zFX (x:=x) (p:=p) (id:=id) (pos2:=pos2) (k:=k) (r:=r) hcr ad hgl hm hv hc C hi hg ht he hj' hs hn hdb
theorem zFB {y:M.T}{z:Str}{j:Nat}{p apos cpos:Pos} (hz:z=ofT y) (hc:X.calm=true) (C:zq X vars scope cl) (hi:MI X Θ tg iter it) (hg:∀ C fp s₂ H₂,MG (zQ X vars scope cl C fp s₂ H₂) Θ js tg g) (ht:∀ C fp s₂ H₂,yn (zQ X vars scope cl C fp s₂ H₂) ifs (RdT X.K Θ tc))
  (he:∀ C fp s₂ H₂,ME (zQ X vars scope cl C fp s₂ H₂) Θ elt me) (hj':(js.all fun j=>decide (X.N.length <= j))=true) (ad:∀ ρ H S ds ys p Q,zL X.K Θ ρ S H->zF X.K ρ H ds ys->SqL X.K H p ys->zA X.K Θ (zH X.K) ρ H (M.qb y ds S) Q->Js X.K (.str (ofT y)) [.ref p] H Q) (hs:∀ x,foldedSetIterable iter X.env x=pure x:=by intro _;rfl)
  (hline:(apos.endLine == cpos.line)=true:=by rfl)
  :
  ME X Θ (.Call (.Attribute (.Constant (.str z) j p) "join" apos) [.ListComp elt [⟨tg,iter,ifs,0⟩] scope pos] [] cpos) (M.qh (M.qb y) vars.length it g tc me):=by
 intro pins s σ H Q I ⟨ρ,σ',S,st,rp,h⟩
 have hj:∀ j∈js,X.N.length <= j:=fun j hjj=>of_decide_eq_true (List.all_eq_true.mp hj' j hjj)
 subst hz
 refine zFt PySem.F.plainAttrs_str PySem.F.slot_str_join PySem.F.type_str_join ym zDx (Jw (J7 (g:=RdG X.K Θ js g) (ti:=RdT X.K Θ tc) (te:=RdE X.K Θ me) hc C hi hg ht he hs) zB5 (z4 rfl)) rfl (zBH rfl (show 1 < 30 by decide)) hline (z4 rfl) rfl pins s σ H Q I ?_
 refine⟨rfl,zAG I hj st rp (zA.bind h fun ρ1 H1 ds ys S1 p1 l1 rp1 r1 h1 D hD=>?_)⟩
 exact ad ρ1 _ S1 ds ys D Q (rp1.aside hD _) (r1.mono (List.prefix_refl _) (Le.new hD _)) (SqL.of jm) (zA.weak h1 (List.prefix_refl _) (Le.new hD _))
theorem JK {y:M.T}{z:Str}{j:Nat}{p apos cpos:Pos} (hz:z=ofT y) (hc:X.calm=true) (C:zq X vars scope cl) (hi:WI X Θ tg iter it) (hg:∀ C fp s₂ H₂,WG (zQ X vars scope cl C fp s₂ H₂) Θ js tg g) (ht:∀ C fp s₂ H₂,yn (zQ X vars scope cl C fp s₂ H₂) ifs (RdT X.K Θ tc))
  (he:∀ C fp s₂ H₂,WE (zQ X vars scope cl C fp s₂ H₂) Θ elt me) (hj':(js.all fun j=>decide (X.N.length <= j))=true) (ad:∀ ρ H S ds ys p Q,zL X.K Θ ρ S H->zF X.K ρ H ds ys->SqL X.K H p ys->zA X.K Θ (zH X.K) ρ H (M.qb y ds S) Q->Js X.K (.str (ofT y)) [.ref p] H Q) (hs:∀ x,foldedSetIterable iter X.env x=pure x:=by intro _;rfl)
  (hline:(apos.endLine == cpos.line)=true:=by rfl)
  :
  WE X Θ (.Call (.Attribute (.Constant (.str z) j p) "join" apos) [.ListComp elt [⟨tg,iter,ifs,0⟩] scope pos] [] cpos) (M.qh (M.qb y) vars.length it g tc me):=by with_unfolding_all exact zFB (y:=y) (z:=z) (j:=j) (p:=p) (apos:=apos) (cpos:=cpos) hz hc C hi hg ht he hj' ad hs hline
end
noncomputable def SpM (K:PySem.W.Frag) (Θ:Tab) (n:Nat) (f:M.F):Sp:=fun vs H Q _=>∃ ρ ds S,ds.length=n/\zF K ρ H ds vs/\zL K Θ ρ S H/\zA K Θ (zH K) ρ H (f ds S) Q
noncomputable def Z2 (m:M.AM) (n:Nat):Prop:=∀ σ s xs s',m σ s=.ok xs s'->xs.length=n
theorem jA:Z2 M.zK 0:=fun σ s xs s' h=>by cases h;rfl
theorem zc {a:M.EM}{r:M.AM}{n:Nat} (h:Z2 r n):Z2 (M.zC a r) (n+1):=fun σ s xs s' e=>by
 have e':((a σ s).bind fun x s=>(r σ s).bind fun xs s=>M.R.ok (x::xs) s)=.ok xs s':=e
 cases ha:a σ s with
 | no=>rw[ha] at e';cases e'
 | exc a s=>rw[ha] at e';cases e'
 | ok d S1 =>
  rw[ha] at e'
  have e2:((r σ S1).bind fun xs s=>M.R.ok (d::xs) s)=.ok xs s':=e'
  cases hr:r σ S1 with
  | no=>rw[hr] at e2;cases e2
  | exc a s=>rw[hr] at e2;cases e2
  | ok ds S2 =>
   rw[hr] at e2
   cases e2
   rw[List.length_cons,h _ _ _ _ hr]
section
variable {X:Cx}{Θ:Tab}{pos p:Pos}{x:Str}{ps:List Str}{e:Expr}{es:List Expr}{f:M.F}{m:M.AM}{k kk n:Nat}
theorem zGm (h:Has X.prog X.w X.K X.mg X.base x k ps (SpM X.K Θ n f)) (hr:zm kk X.A) (hk:k <= kk) (hg:Gl X x) (ha:MA X Θ (e::es) m) (ar:Z2 m n) (hx:yH CX0 X E0:=by exact Qk) (hdb:(x == ("__debug__" : Str))=false:=by decide)
  (he:zX e=true:=by rfl) (hpl:es.all zX=true:=by rfl):ME X Θ (.Call (.Name x p) (e::es) [] pos) (M.zM f m) :=
 (zE8 h hr hk hg ha hx hdb (z4 he) (yh hpl)).imp fun σ H Q ⟨ρ,σ',S,st,rp,h⟩=>⟨ρ,σ',S,st,rp,by
  have h':zA X.K Θ (zH X.K) ρ H ((m σ' S).bind fun xs s=>f xs s) Q:=h
  cases hm:m σ' S with
  | no=>rw[hm] at h';exact h'.elim
  | exc a s=>rw[hm] at h';exact h'.elim
  | ok ds S1 =>
   rw[hm] at h'
   intro ρ1 H1 vs p1 l1 rp1 r1
   rw[List.append_nil]
   exact⟨ρ1,ds,S1,ar _ _ _ _ hm,r1,rp1,zA.weak h' p1 l1⟩⟩
theorem zi (h:Has X.prog X.w X.K X.mg X.base x k ps (SpM X.K Θ n f)) (hr:zm kk X.A) (hk:k <= kk) (hg:Gl X x) (ha:WA X Θ (e::es) m) (ar:Z2 m n) (hx:yH CX0 X E0:=by exact Qk) (hdb:(x == ("__debug__" : Str))=false:=by decide)
  (he:zX e=true:=by rfl) (hpl:es.all zX=true:=by rfl):WE X Θ (.Call (.Name x p) (e::es) [] pos) (M.zM f m):=by with_unfolding_all exact zGm h hr hk hg ha ar hx hdb he hpl
end
section
variable {K:PySem.W.Frag}{Θ:Tab}{ρ ρ':List Addr}{H:Hp}{e:List Nat}
mutual
theorem zH.unren (hρ:∀ (i j:Nat) a,e[i]? = some j->ρ[j]? = some a->ρ'[i]? = some a):∀ {d:M.D}{v:V},M.D.cl e.length d=true->zH K ρ H (M.D.ren e d) v->zH K ρ' H d v
 | .non,_,_,h=>h
 | .bl _,_,_,h=>h
 | .int _,_,_,h=>h
 | .str _,_,_,h=>h
 | .ty _,_,_,h=>h
 | .ref i,_,c,⟨a,h1,h2⟩=>by
  have hi:i < e.length:=of_decide_eq_true c
  refine⟨a,h1,hρ i (e.getD i i) a ?_ h2⟩
  rw[List.getD_eq_getElem?_getD,List.getElem?_eq_getElem hi];rfl
 | .tup _,_,c,⟨a,xs,h1,h2,h3⟩=>⟨a,xs,h1,h2,zF.unren hρ c h3⟩
 | .ro _,_,c,⟨a,xs,h1,h2,h3⟩=>⟨a,xs,h1,h2,zF.unren hρ c h3⟩
theorem zF.unren (hρ:∀ (i j:Nat) a,e[i]? = some j->ρ[j]? = some a->ρ'[i]? = some a):∀ {ds:List M.D}{xs:List V},M.D.cl.all e.length ds=true->zF K ρ H (M.D.ren.all e ds) xs->zF K ρ' H ds xs
 | [],_,_,h=>h
 | d::ds,_,c,⟨y,ys,h1,h2,h3⟩=>by
  have c':(M.D.cl e.length d && M.D.cl.all e.length ds)=true:=c
  rw[Bool.and_eq_true] at c'
  exact⟨y,ys,h1,zH.unren hρ c'.1 h2,zF.unren hρ c'.2 h3⟩
end
theorem ObR.unren (hρ:∀ (i j:Nat) a,e[i]? = some j->ρ[j]? = some a->ρ'[i]? = some a) {a:Addr}{o:M.O} (c:M.O.cl e.length o=true) (h:ObR K Θ ρ H a (M.O.ren e o)):ObR K Θ ρ' H a o:=by
 cases o with
 | lst ds=>obtain⟨xs,h1,h2⟩:=h;exact⟨xs,h1,zF.unren hρ c h2⟩
 | dct kvs =>
  obtain⟨ks,h1,h2⟩:=h
  refine⟨ks,h1,?_⟩
  have c':∀ p∈kvs,(M.D.cl e.length p.1 && M.D.cl e.length p.2)=true:=List.all_eq_true.mp c
  clear h1
  revert h2 c'
  clear c
  induction kvs generalizing ks with
  | nil=>intro h2 c';cases h2;exact .nil
  | cons p kvs ih =>
   intro h2 c'
   rw[List.map_cons] at h2
   cases h2 with
   | cons r1 r2 =>
    have c1:=c' p List.mem_cons_self
    rw[Bool.and_eq_true] at c1
    refine .cons ⟨?_,zH.unren hρ c1.2 r1.2⟩ (ih _ r2 (fun q hq=>c' q (List.mem_cons_of_mem _ hq)))
    have hk:=r1.1
    revert hk
    cases p.1<;>exact fun hk=>hk
 | fdc kvs =>
  obtain⟨o,ks,h1,h2⟩:=h
  refine⟨o,ks,h1,?_⟩
  have c':∀ p∈kvs,(M.D.cl e.length p.1 && M.D.cl e.length p.2)=true:=List.all_eq_true.mp c
  clear h1
  revert h2 c'
  clear c
  induction kvs generalizing ks with
  | nil=>intro h2 c';cases h2;exact .nil
  | cons p kvs ih =>
   intro h2 c'
   rw[List.map_cons] at h2
   cases h2 with
   | cons r1 r2 =>
    have c1:=c' p List.mem_cons_self
    rw[Bool.and_eq_true] at c1
    refine .cons ⟨?_,zH.unren hρ c1.2 r1.2⟩ (ih _ r2 (fun q hq=>c' q (List.mem_cons_of_mem _ hq)))
    have hk:=r1.1
    revert hk
    cases p.1<;>exact fun hk=>hk
 | ins cc fs =>
  obtain⟨C,dx,gs,N,h1,h2,h3⟩:=h
  refine⟨C,dx,gs,N,h1,h2,by rw[<- h3.len];simp,h3.nd,h3.within,fun i f d q1 q2=>?_⟩
  obtain⟨v,k1,k2⟩:=h3.get i f (M.D.ren e d) q1 (by rw[List.getElem?_map,q2];rfl)
  refine⟨v,k1,zH.unren hρ ?_ k2⟩
  have:=List.all_eq_true.mp c (some d) (List.mem_of_getElem? q2)
  exact this
theorem zA.gc {S S' S1:M.S}{d:M.D}{Q:VK} (em:M.Emb S.length e S' S1) (cd:M.D.cl S'.length d=true) (rp:zL K Θ ρ S H) (h:zA K Θ (zH K) ρ H (.ok d S') Q):zA K Θ (zH K) ρ H (.ok (M.D.ren e d) S1) Q:=by
 intro ρ1 H1 v p1 l1 rp1 r1
 have hlt:∀ {i j:Nat},e[i]? = some j->j < ρ1.length:=fun {i j} q=>by
  have hi:i < S'.length:=by rw[<- em.len];exact (List.getElem?_eq_some_iff.mp q).1
  obtain⟨j',q1,q2,_⟩:=em.obj i S'[i] (by simp[hi])
  rw[q] at q1;cases q1
  rw[rp1.len];exact (List.getElem?_eq_some_iff.mp q2).1
 have hρ:∀ (i j:Nat) a,e[i]? = some j->ρ1[j]? = some a->(e.map fun j=>ρ1.getD j 0)[i]? = some a:=fun i j a q1 q2=>by
  rw[List.getElem?_map,q1,Option.map_some,List.getD_eq_getElem?_getD,q2];rfl
 refine h (e.map fun j=>ρ1.getD j 0) H1 v ?_ l1 ⟨by rw[List.length_map,em.len],?_,fun i o q=>?_⟩ (zH.unren hρ (by rw[em.len];exact cd) r1)
 ·refine List.prefix_iff_getElem?.mpr fun i hi=>?_
  have hi':i < S.length:=rp.len ▸ hi
  exact hρ i i _ (em.old i hi') (Qh p1 (List.getElem?_eq_getElem hi))
 ·refine zFA fun i j x a b=>?_
  rw[List.getElem?_map] at a b
  cases ei:e[i]? with
  | none=>rw[ei] at a;cases a
  | some k =>
   cases ej:e[j]? with
   | none=>rw[ej] at b;cases b
   | some l =>
    rw[ei,Option.map_some,List.getD_eq_getElem?_getD,List.getElem?_eq_getElem (hlt ei)] at a
    rw[ej,Option.map_some,List.getD_eq_getElem?_getD,List.getElem?_eq_getElem (hlt ej)] at b
    have e1:ρ1[k]'(hlt ei)=x:=by simpa using a
    have e2:ρ1[l]'(hlt ej)=x:=by simpa using b
    have e3:=zDl rp1.nd (hlt ei) (hlt ej) (e1.trans e2.symm)
    subst e3
    exact Q6 em.nd ei ej
 ·obtain⟨j,q1,q2,q3⟩:=em.obj i o q
  obtain⟨a,q4,q5⟩:=rp1.obj j _ q2
  exact⟨a,hρ i j a q1 q4,ObR.unren hρ (by rw[em.len];exact q3) q5⟩
end
section
variable {K:PySem.W.Frag}{Θ:Tab}{ρ:List Addr}{H:Hp}
mutual
theorem zH.cl:∀ {d:M.D}{v:V},zH K ρ H d v->M.D.cl ρ.length d=true
 | .non,_,_=>rfl
 | .bl _,_,_=>rfl
 | .int _,_,_=>rfl
 | .str _,_,_=>rfl
 | .ty _,_,_=>rfl
 | .ref _,_,⟨a,_,h2⟩=>decide_eq_true (List.getElem?_eq_some_iff.mp h2).1
 | .tup _,_,⟨_,_,_,_,h⟩=>zF.cl h
 | .ro _,_,⟨_,_,_,_,h⟩=>zF.cl h
theorem zF.cl:∀ {ds:List M.D}{xs:List V},zF K ρ H ds xs->M.D.cl.all ρ.length ds=true
 | [],_,_=>rfl
 | d::ds,_,⟨_,_,_,h1,h2⟩=>by
  show (M.D.cl ρ.length d && M.D.cl.all ρ.length ds)=true
  rw[zH.cl h1,zF.cl h2];rfl
end
theorem zL.cl {S:M.S} (rp:zL K Θ ρ S H):M.clS S.length S=true:=by
 refine List.all_eq_true.mpr fun o ho=>?_
 obtain⟨i,hi,rfl⟩:=List.mem_iff_getElem.mp ho
 obtain⟨a,h1,h2⟩:=rp.obj i S[i] (by simp[hi])
 rw[<- rp.len]
 revert h2
 cases S[i] with
 | lst ds=>exact fun ⟨xs,_,r⟩=>r.cl
 | dct kvs =>
  intro ⟨ks,_,r⟩
  refine List.all_eq_true.mpr fun p hp=>?_
  have:∀ {kvs:List (M.D×M.D)}{ks:List (Key×V)},Paired (fun (p:M.D×M.D) (q:Key×V)=>Zl p.1 q.1/\zH K ρ H p.2 q.2) kvs ks->p∈kvs->(M.D.cl ρ.length p.1 && M.D.cl ρ.length p.2)=true:=by
   intro kvs ks r hp
   induction r with
   | nil=>cases hp
   | cons r1 r2 ih =>
    rcases List.mem_cons.mp hp with rfl | hp
    ·rw[r1.2.cl,Bool.and_true]
     have hk:=r1.1
     revert hk
     cases p.1<;>first | exact fun _=>rfl | exact fun hk=>hk.elim
    ·exact ih hp
  exact this r hp
 | fdc kvs =>
  intro ⟨_,ks,_,r⟩
  refine List.all_eq_true.mpr fun p hp=>?_
  have:∀ {kvs:List (M.D×M.D)}{ks:List (Key×V)},Paired (fun (p:M.D×M.D) (q:Key×V)=>Zl p.1 q.1/\zH K ρ H p.2 q.2) kvs ks->p∈kvs->(M.D.cl ρ.length p.1 && M.D.cl ρ.length p.2)=true:=by
   intro kvs ks r hp
   induction r with
   | nil=>cases hp
   | cons r1 r2 ih =>
    rcases List.mem_cons.mp hp with rfl | hp
    ·rw[r1.2.cl,Bool.and_true]
     have hk:=r1.1
     revert hk
     cases p.1<;>first | exact fun _=>rfl | exact fun hk=>hk.elim
    ·exact ih hp
  exact this r hp
 | ins c fs =>
  intro ⟨C,dx,gs,N,_,_,r⟩
  refine List.all_eq_true.mpr fun od hod=>?_
  cases od with
  | none=>rfl
  | some d =>
   obtain⟨j,hj,ej⟩:=List.mem_iff_getElem.mp hod
   have hN:j < N.length:=r.len ▸ hj
   obtain⟨v,_,rv⟩:=r.get j N[j] d (by simp[hN]) (by rw[List.getElem?_eq_getElem hj,ej])
   exact rv.cl
end
section
variable {P:Program}{w:World}{K:PySem.W.Frag}{mg:Str->Option Value}{base:Heap}{Θ:Tab}
theorem zAW {ρ:List Addr}{H:Hp}{ds:List M.D}{vs:List V} (r:zF K ρ H ds vs) (N:List Str):zr K ρ H (ds.map some++List.replicate (N.length - ds.length) none) (qJ N vs):=by
 have hl:=r.length
 refine⟨by simp[qJ,hl],fun i d q=>?_⟩
 unfold qJ
 by_cases hi:i < ds.length
 ·rw[List.getElem?_append_left (by simpa using hi),List.getElem?_map] at q
  cases e:ds[i]? with
  | none=>rw[e] at q;cases q
  | some d' =>
   rw[e] at q
   cases q
   obtain⟨v,e1,rv⟩:=r.get e
   refine⟨v,?_,rv⟩
   rw[List.getElem?_append_left (by simp;omega),List.getElem?_map,e1];rfl
 ·rw[List.getElem?_append_right (by simp;omega),List.getElem?_replicate] at q
  split at q<;>cases q
theorem zIr {x qual:Str}{st:Stmt}{f:Addr}{fd:FuncData}{N ps:List Str}{k:Nat}{b:M.SM}{q:M.F} (F:Fun K x qual st f fd) (Sc:zy N ps (zG st)) (rf:M.zj ps.length (M.fn N.length b) q)
  (hbody:∀ (cdv:Value) (A:Around) (outer:List Env) (s:Shared) (H:Hp) (E:XK),zm k (A.deeper (envOfC qual (zG st) s.heap.objs.size f cdv)) ->
   MSs (yi CX0 P w K mg base N qual (zG st) f cdv A outer s H E).nox Θ (zl st) b):jM P w K mg base CX0 (k+1) f fd ps (SpM K Θ ps.length q):=by
 refine F.ok (k:=k) Sc (fun vs H Q E h=>?_) (fun cdv A outer s H vs Q E hr h=>?_)
 ·obtain⟨ρ,ds,S,hl,r,_⟩:=h
  rw[<- r.length,hl]
 ·obtain⟨ρ,ds,S,hl,r,rp,h⟩:=h
  refine⟨_,hbody cdv A outer s H E hr,ρ,_,S,zAW r N,rp,?_⟩
  rcases rf ds S hl rp.cl (rp.len ▸ r.cl) with e | ⟨d,S',S1,em,e1,e2,emb,cd⟩
  ·rw[e] at h;exact h.elim
  ·rw[e1] at h
   have h2:=zA.gc emb cd rp h
   have e3:(b (ds.map some++List.replicate (N.length - ds.length) none) S).out=.ok (M.D.ren em d) S1:=e2
   show zY K Θ ρ H (b (ds.map some++List.replicate (N.length - ds.length) none) S) _
   revert e3
   cases b (ds.map some++List.replicate (N.length - ds.length) none) S with
   | rt a s=>intro e3;cases e3;exact h2
   | nx a s =>
    intro e3
    have e4:M.R.ok M.D.non s=.ok (M.D.ren em d) S1:=e3
    injection e4 with e5 e6
    subst e6
    rw[<- e5] at h2
    exact fun ρ1 H1 σ1 p1 l1 rp1 _=>h2 ρ1 H1 .non p1 l1 rp1 rfl
   | bk a s=>intro e3;cases e3
   | ct a s=>intro e3;cases e3
   | exc e a s=>intro e3;cases e3
   | no=>intro e3;cases e3
theorem ji {x qual:Str}{st:Stmt}{f:Addr}{fd:FuncData}{N ps:List Str}{k:Nat}{b:M.SM}{q:M.F} (F:Fun K x qual st f fd) (Sc:zy N ps (zG st)) (rf:M.zj ps.length (M.fn N.length b) q)
  (hbody:∀ (cdv:Value) (A:Around) (outer:List Env) (s:Shared) (H:Hp) (E:XK),zm k (A.deeper (envOfC qual (zG st) s.heap.objs.size f cdv)) ->
   WSs (yi CX0 P w K mg base N qual (zG st) f cdv A outer s H E).nox Θ (zl st) b):jM P w K mg base CX0 (k+1) f fd ps (SpM K Θ ps.length q):=by with_unfolding_all exact zIr (x:=x) (qual:=qual) (st:=st) (f:=f) (fd:=fd) (N:=N) (ps:=ps) (k:=k) (b:=b) (q:=q) F Sc rf hbody
end
end L2
namespace L2
open PySem PySem.Spec PyProof.Rows
section
variable {K:PySem.W.Frag}{Θ:Tab}
theorem zBW {i:Int} (h:M.zv i=true):-(2 ^ 64) < i/\i < 2 ^ 64:=by
 have h':i.natAbs < 18446744073709551616:=of_decide_eq_true h
 exact⟨by omega,by omega⟩
theorem Zo:Ad2 K Θ M.qH zIF:=by
 intro ρ H S x y X Y Q rp rx ry h
 cases x with
 | int i =>
  cases y with
  | int j =>
   cases rx;cases ry
   have h':zA K Θ (zH K) ρ H (if 0 < j/\j.natAbs < 1073741824 then M.R.ok (M.D.int (i / j)) S else .no) Q:=h
   by_cases hc:0 < j/\j.natAbs < 1073741824
   ·rw[if_pos hc] at h';exact⟨⟨hc.1,by omega⟩,zA.here (b:=V.int (i / j)) h' rp rfl⟩
   ·rw[if_neg hc] at h';exact h'.elim
  | _=>exact h.elim
 | _=>exact h.elim
theorem qk:Ad2 K Θ M.jN zH1:=by
 intro ρ H S x y X Y Q rp rx ry h
 cases x with
 | int i =>
  cases y with
  | int j =>
   cases rx;cases ry
   have h':zA K Θ (zH K) ρ H (if 0 < j then M.R.ok (M.D.int (i % j)) S else .no) Q:=h
   by_cases hc:0 < j
   ·rw[if_pos hc] at h';exact⟨hc,zA.here (b:=V.int (i % j)) h' rp rfl⟩
   ·rw[if_neg hc] at h';exact h'.elim
  | _=>exact h.elim
 | _=>exact h.elim
theorem ql {ρ:List Addr}{S:M.S}{H:Hp} (rp:zL K Θ ρ S H) {i:Nat}{a:Addr} (ha:ρ[i]? = some a) {xs:List M.D} (q:S[i]? = some (.lst xs)):∃ zs,H a=some (.lst zs)/\zF K ρ H xs zs:=by
 obtain⟨b,e1,zs,e2,r⟩:=rp.obj i _ q
 rw[ha] at e1;cases e1
 exact⟨zs,e2,r⟩
theorem yL:Ad2 K Θ M.jX (fun x y H Q=>zH0 x y H Q\/zFp K x y H Q):=by
 intro ρ H S x y X Y Q rp rx ry h
 cases x with
 | int i =>
  cases y with
  | int j=>cases rx;cases ry;exact .inl (zA.here (b:=V.int (i+j)) h rp rfl)
  | _=>exact h.elim
 | str a =>
  cases y with
  | str b =>
   obtain⟨rfl,oka⟩:=rx
   obtain⟨rfl,okb⟩:=ry
   have h':zA K Θ (zH K) ρ H (if a.length+b.length <= M.SZ then M.R.ok (M.D.str (a++b)) S else .no) Q:=h
   by_cases hc:a.length+b.length <= M.SZ
   ·rw[if_pos hc] at h'
    refine .inl ⟨by rw[zx,zx,<- yI];exact hc,?_⟩
    rw[zGX]
    exact zA.here (b:=V.str (ofT (a++b))) h' rp ⟨rfl,zAD oka okb⟩
   ·rw[if_neg hc] at h';exact h'.elim
  | _=>exact h.elim
 | tup a =>
  cases y with
  | tup b =>
   obtain⟨l,xs,rfl,hq,r⟩:=rx
   obtain⟨l',ys,rfl,hq',r'⟩:=ry
   have h':zA K Θ (zH K) ρ H (if a≠[]/\a.length+b.length <= M.SZ then M.R.ok (M.D.tup (a++b)) S else .no) Q:=h
   by_cases hc:a≠[]/\a.length+b.length <= M.SZ
   ·rw[if_pos hc] at h'
    refine .inr ⟨l,l',xs,ys,rfl,rfl,hq,hq',fun z=>hc.1 ?_,by rw[<- r.length,<- r'.length,<- yI];exact hc.2,fun hy=>?_,fun hy p hp=>?_⟩
    ·subst z
     have:=r.length
     exact List.length_eq_zero_iff.mp this
    ·subst hy
     have hb:b=[]:=List.length_eq_zero_iff.mp r'.length
     subst hb
     rw[List.append_nil] at h'
     exact zA.here h' rp ⟨l,xs,rfl,hq,r⟩
    ·exact h' ρ _ _ (List.prefix_refl _) (Le.new hp _) (rp.aside hp _) ⟨p,_,rfl,SqT.of jm,(r.app r').mono (List.prefix_refl _) (Le.new hp _)⟩
   ·rw[if_neg hc] at h';exact h'.elim
  | _=>exact h.elim
 | ref i =>
  cases y with
  | ref j =>
   obtain⟨a,rfl,ea⟩:=rx
   obtain⟨b,rfl,eb⟩:=ry
   have h':zA K Θ (zH K) ρ H (match S[i]?,S[j]? with
    | some (.lst xs),some (.lst ys)=>if xs.length+ys.length <= M.SZ then M.alloc (.lst (xs++ys)) S else .no
    | _,_=>.no) Q:=h
   split at h'
   ·rename_i xs ys q1 q2
    obtain⟨zs,e1,r1⟩:=ql rp ea q1
    obtain⟨ws,e2,r2⟩:=ql rp eb q2
    by_cases hc:xs.length+ys.length <= M.SZ
    ·rw[if_pos hc] at h'
     exact .inl ⟨zs,ws,e1,e2,by rw[<- r1.length,<- r2.length,<- yI];exact hc,fun p hp=>h'.alloc rp (r1.app r2) hp⟩
    ·rw[if_neg hc] at h';exact h'.elim
   ·exact h'.elim
  | _=>exact h.elim
 | _=>exact h.elim
theorem zIn:AdC K Θ M.cLt uLt:=by
 intro ρ H S x y X Y Q rp rx ry h
 cases x with
 | int i =>
  cases y with
  | int j=>cases rx;cases ry;exact zA.here (b:=decide (i < j)) h rp rfl
  | _=>exact h.elim
 | str a =>
  cases y with
  | str b =>
   obtain⟨rfl,_⟩:=rx
   obtain⟨rfl,_⟩:=ry
   show Q (.bl (decide ((ofT a).cps.toList < (ofT b).cps.toList))) H
   rw[jf,jf]
   exact zA.here (b:=decide (a < b)) h rp rfl
  | _=>exact h.elim
 | _=>exact h.elim
theorem zAO {ρ:List Addr}{H:Hp}{ds:List M.D}{xs:List V}{i:Int}{d:M.D} (r:zF K ρ H ds xs) (e:M.atI ds i=some d):∃ v,atI xs i=some v/\zH K ρ H d v:=by
 unfold M.atI at e
 cases q:M.ixN ds.length i with
 | none=>rw[q] at e;cases e
 | some j =>
  rw[q] at e
  obtain⟨v,e1,rv⟩:=r.get (i:=j) e
  have q':ixN xs.length i=some j:=by rw[<- r.length];exact q
  exact⟨v,by unfold atI;rw[q'];exact e1,rv⟩
end
end L2
namespace L2
open PySem PySem.Spec PyProof.Rows
section
variable {K:PySem.W.Frag}{Θ:Tab}
inductive TyM (K:PySem.W.Frag) (H:Hp):V->String->Prop where
 | of {x:V}{A:String} (h:yq K H x (.type A)):TyM K H x A
 | sqT {a:Addr}{xs:List V} (h:SqT K H a xs):TyM K H (.ref a) "tuple"
 | sqL {a:Addr}{xs:List V} (h:SqL K H a xs):TyM K H (.ref a) "list"
noncomputable def zFZ (K:PySem.W.Frag):List V->Hp->VK->Prop:=fun xs H Q=>∃ x n A b,xs=[x,.ty n]/\TyM K H x A/\PySem.W.kitOne K (.type A) (.type n)=some b/\Q (.bl b) H
theorem zFV {X:Cx}:z8 X (.builtin "isinstance") (zFZ X.K):=by
 intro pins s σ H xs us Q I r h
 obtain⟨x,n,A,b,rfl,ty,e,q⟩:=h
 obtain⟨u,w',rfl,ru,rc⟩:=zIV r
 cases rc
 cases ty with
 | of h=>exact wpAny_with_toks (n:=1) I.tk (zDn I ru h e fun tk hk=>⟨.bl b,H,I.tok tk hk,rfl,q⟩)
 | sqT h =>
  cases ru
  obtain⟨its,_,⟨o,h1,h2,_⟩,_⟩:=I.tuple h
  exact wpAny_with_toks (n:=1) I.tk (PySem.W.kia_one PySem.W.kitx_tuple I.kIn ⟨o,h1,h2⟩ e (fun z=>nomatch z) fun tk hk=>⟨.bl b,H,I.tok tk hk,rfl,q⟩)
 | sqL h =>
  cases ru
  obtain⟨its,_,⟨o,n,h1,h2,_⟩,_⟩:=I.list h
  exact wpAny_with_toks (n:=1) I.tk (PySem.W.kia_one PySem.W.kitx_list I.kIn ⟨o,h1,h2⟩ e (fun z=>nomatch z) fun tk hk=>⟨.bl b,H,I.tok tk hk,rfl,q⟩)
theorem zGW (n:M.Kd):PySem.W.kitOne K (.type "NoneType") (.type (jR n))=some false/\PySem.W.kitOne K (.type "bool") (.type (jR n))=some (match n with | .bool=>true | .int=>true | _=>false) /\
  PySem.W.kitOne K (.type "int") (.type (jR n))=some (match n with | .int=>true | _=>false)/\PySem.W.kitOne K (.type "str") (.type (jR n))=some (match n with | .str=>true | _=>false) /\
  PySem.W.kitOne K (.type "tuple") (.type (jR n))=some (match n with | .tuple=>true | _=>false)/\PySem.W.kitOne K (.type "list") (.type (jR n))=some (match n with | .list=>true | _=>false) /\
  PySem.W.kitOne K (.type "dict") (.type (jR n))=some (match n with | .dict=>true | _=>false):=by
 cases n<;>exact⟨ZO (by decide +kernel),ZO (by decide +kernel),ZO (by decide +kernel),ZO (by decide +kernel),ZO (by decide +kernel),ZO (by decide +kernel),ZO (by decide +kernel)⟩
theorem zIC:AdN K Θ M.zAF (zFZ K):=by
 intro ρ H S xs Xs Q rp rx h
 match xs,rx,h with
 | [x,.ty n],rx,h =>
  obtain⟨v,_,rfl,rv,_,_,rfl,rfl,rfl⟩:=rx
  obtain⟨k1,k2,k3,k4,k5,k6,k7⟩:=zGW (K:=K) n
  have fin:∀ {A:String}{b:Bool},M.y0 n x S=.ok b S->TyM K H v A->PySem.W.kitOne K (.type A) (.type (jR n))=some b->zFZ K [v,.ty (jR n)] H Q:=fun {A b} e ty k=>by
   have h':zA K Θ (zH K) ρ H ((M.y0 n x S).bind fun b s=>.ok (.bl b) s) Q:=h
   rw[e] at h'
   exact⟨v,jR n,A,b,rfl,ty,k,zA.here (b:=V.bl b) h' rp rfl⟩
  cases x with
  | non=>cases rv;exact fin rfl (.of .non) k1
  | bl b=>cases rv;exact fin rfl (.of (.bl b)) k2
  | int i=>cases rv;exact fin rfl (.of (.int i)) k3
  | str z=>obtain⟨rfl,_⟩:=rv;exact fin rfl (.of (.str _)) k4
  | tup ds=>obtain⟨l,ys,rfl,hq,r⟩:=rv;exact fin rfl (.sqT hq) k5
  | ro ds=>obtain⟨l,ys,rfl,hq,r⟩:=rv;exact fin rfl (.sqL hq.sq) k6
  | ty m=>exact h.elim
  | ref p =>
   obtain⟨a,rfl,ea⟩:=rv
   cases q:S[p]? with
   | none=>simp[M.zAF,M.y0,q] at h;exact h.elim
   | some o =>
    cases o with
    | lst xs =>
     obtain⟨zs,e1,r⟩:=ql rp ea q
     refine fin ?_ (.sqL (SqL.of e1)) k6
     simp only[M.y0,q]<;>(cases n<;>rfl)
    | dct kvs =>
     obtain⟨b,e1,zs,e2,r⟩:=rp.obj _ _ q
     rw[ea] at e1;cases e1
     refine fin ?_ (.of (.dK e2)) k7
     simp only[M.y0,q]<;>(cases n<;>rfl)
    | fdc _=>simp[M.zAF,M.y0,q] at h;exact h.elim
    | ins c fs=>simp[M.zAF,M.y0,q] at h;exact h.elim
 | [_,.non],_,h=>exact h.elim
 | [_,.bl _],_,h=>exact h.elim
 | [_,.int _],_,h=>exact h.elim
 | [_,.str _],_,h=>exact h.elim
 | [_,.tup _],_,h=>exact h.elim
 | [_,.ro _],_,h=>exact h.elim
 | [_,.ref _],_,h=>exact h.elim
 | [],_,h=>exact h.elim
 | [_],_,h=>exact h.elim
 | _::b::_::_,_,h=>cases b<;>exact h.elim
noncomputable def ofP:M.P->PyData
 | .non=>.none
 | .bl b=>.bool b
 | .int i=>.int i
 | .str x=>.str (ofT x)
 | .tup ps=>.tuple (all ps)
 | .lst ps=>.list (all ps)
where all:List M.P->List PyData
 | []=>[]
 | p::ps=>ofP p::all ps
theorem zCW (x y:M.T):(ofT x == ofT y)=(x == y):=by
 by_cases h:x=y
 ·subst h;simp
 ·rw[beq_eq_false_iff_ne.mpr h,beq_eq_false_iff_ne.mpr fun e=>h (Zs e)]
mutual
theorem Jy:∀ p q:M.P,PyData.eqv (ofP p) (ofP q)=M.P.eqv p q
 | .non,.non=>rfl
 | .non,.bl _=>rfl
 | .non,.int _=>rfl
 | .non,.str _=>rfl
 | .non,.tup _=>rfl
 | .non,.lst _=>rfl
 | .bl _,.non=>rfl
 | .bl _,.bl _=>rfl
 | .bl _,.int _=>rfl
 | .bl _,.str _=>rfl
 | .bl _,.tup _=>rfl
 | .bl _,.lst _=>rfl
 | .int _,.non=>rfl
 | .int _,.bl _=>rfl
 | .int _,.int _=>rfl
 | .int _,.str _=>rfl
 | .int _,.tup _=>rfl
 | .int _,.lst _=>rfl
 | .str _,.non=>rfl
 | .str _,.bl _=>rfl
 | .str _,.int _=>rfl
 | .str x,.str y=>zCW x y
 | .str _,.tup _=>rfl
 | .str _,.lst _=>rfl
 | .tup _,.non=>rfl
 | .tup _,.bl _=>rfl
 | .tup _,.int _=>rfl
 | .tup _,.str _=>rfl
 | .tup ps,.tup qs=>Q9 ps qs
 | .tup _,.lst _=>rfl
 | .lst _,.non=>rfl
 | .lst _,.bl _=>rfl
 | .lst _,.int _=>rfl
 | .lst _,.str _=>rfl
 | .lst _,.tup _=>rfl
 | .lst ps,.lst qs=>Q9 ps qs
theorem Q9:∀ ps qs:List M.P,PyData.eqvAll (ofP.all ps) (ofP.all qs)=M.P.eqvs ps qs
 | [],[]=>rfl
 | [],_::_=>rfl
 | _::_,[]=>rfl
 | p::ps,q::qs=>by
  show (PyData.eqv (ofP p) (ofP q) && PyData.eqvAll (ofP.all ps) (ofP.all qs))=(M.P.eqv p q && M.P.eqvs ps qs)
  rw[Jy p q,Q9 ps qs]
end
mutual
theorem Zv:∀ p:M.P,PyData.depth (ofP p)=M.P.dep p
 | .non=>rfl
 | .bl _=>rfl
 | .int _=>rfl
 | .str _=>rfl
 | .tup ps=>by show PyData.depthAll (ofP.all ps)+1=M.P.deps ps+1;rw[Q7 ps]
 | .lst ps=>by show PyData.depthAll (ofP.all ps)+1=M.P.deps ps+1;rw[Q7 ps]
theorem Q7:∀ ps:List M.P,PyData.depthAll (ofP.all ps)=M.P.deps ps
 | []=>rfl
 | p::ps=>by show max (PyData.depth (ofP p)) (PyData.depthAll (ofP.all ps))=max (M.P.dep p) (M.P.deps ps);rw[Zv p,Q7 ps]
end
section
variable {ρ:List Addr}{H:Hp}
mutual
theorem zDO {g:Nat->Option M.P} (hg:∀ i p v,g i=some p->zH K ρ H (.ref i) v->jF K H v (ofP p)/\(ofP p).canLay0=true):∀ {d:M.D}{p:M.P}{v:V},M.jl g d=some p->zH K ρ H d v->jF K H v (ofP p)/\(ofP p).canLay0=true
 | .non,_,_,e,r=>by cases e;cases r;exact⟨.non,rfl⟩
 | .bl _,_,_,e,r=>by cases e;cases r;exact⟨.bl _,rfl⟩
 | .int _,_,_,e,r=>by cases e;cases r;exact⟨.int _,rfl⟩
 | .str x,_,_,e,r=>by
  cases e
  obtain⟨rfl,ok⟩:=r
  refine⟨.str _,?_⟩
  show PyData.strOk (ofT x)=true
  unfold PyData.strOk ofT
  have ok':x.all (fun c=>decide (c < 1114112))=true:=ok
  simpa using ok'
 | .tup ds,_,_,e,r=>by
  obtain⟨l,xs,rfl,hq,rr⟩:=r
  have e':(M.jl.all g ds).map M.P.tup=some _:=e
  cases q:M.jl.all g ds with
  | none=>rw[q] at e';cases e'
  | some ps =>
   rw[q] at e'
   cases e'
   obtain⟨h1,h2⟩:=JR hg q rr
   exact⟨.tup hq h1,h2⟩
 | .ro ds,_,_,e,r=>by
  obtain⟨l,xs,rfl,hq,rr⟩:=r
  have e':(M.jl.all g ds).map M.P.lst=some _:=e
  cases q:M.jl.all g ds with
  | none=>rw[q] at e';cases e'
  | some ps =>
   rw[q] at e'
   cases e'
   obtain⟨h1,h2⟩:=JR hg q rr
   exact⟨.lst hq.sq h1,h2⟩
 | .ref i,_,_,e,r=>hg i _ _ e r
 | .ty _,_,_,e,_=>by cases e
theorem JR {g:Nat->Option M.P} (hg:∀ i p v,g i=some p->zH K ρ H (.ref i) v->jF K H v (ofP p)/\(ofP p).canLay0=true):∀ {ds:List M.D}{ps:List M.P}{xs:List V},M.jl.all g ds=some ps->zF K ρ H ds xs->qL K H xs (ofP.all ps)/\PyData.canLayAll0 (ofP.all ps)=true
 | [],_,_,e,r=>by cases e;cases r;exact⟨.nil,rfl⟩
 | d::ds,_,_,e,r=>by
  obtain⟨y,ys,rfl,r1,r2⟩:=r
  have e':(match M.jl g d,M.jl.all g ds with | some p,some ps=>some (p::ps) | _,_=>none)=some _:=e
  cases q1:M.jl g d with
  | none=>rw[q1] at e';cases e'
  | some p =>
   cases q2:M.jl.all g ds with
   | none=>rw[q1,q2] at e';cases e'
   | some ps =>
    rw[q1,q2] at e'
    cases e'
    obtain⟨h1,h2⟩:=zDO hg q1 r1
    obtain⟨h3,h4⟩:=JR hg q2 r2
    refine⟨.cons h1 h3,?_⟩
    show (PyData.canLay0 (ofP p) && PyData.canLayAll0 (ofP.all ps))=true
    rw[h2,h4];rfl
end
theorem QZ {S:M.S} (rp:zL K Θ ρ S H):∀ (n:Nat) {d:M.D}{p:M.P}{v:V},M.toP n S d=some p->zH K ρ H d v->jF K H v (ofP p)/\(ofP p).canLay0=true
 | 0,_,_,_,e,r=>zDO (fun i p v e _=>by cases e) e r
 | n+1,_,_,_,e,r=>zDO (fun i p v e r=>by
   obtain⟨a,rfl,ea⟩:=r
   have e':(match M.zT S i with | some xs=>(M.jl.all (fun j=>M.toP n S (.ref j)) xs).map M.P.lst | none=>none)=some p:=e
   cases q:S[i]? with
   | none=>simp[M.zT,q] at e'
   | some o =>
    cases o with
    | lst xs =>
     simp only[M.zT,q] at e'
     obtain⟨zs,e1,rr⟩:=ql rp ea q
     cases q2:M.jl.all (fun j=>M.toP n S (.ref j)) xs with
     | none=>rw[q2] at e';cases e'
     | some ps =>
      rw[q2] at e'
      cases e'
      obtain⟨h1,h2⟩:=JR (fun j p v e r=>QZ rp n e r) q2 rr
      exact⟨.lst (SqL.of e1) h1,h2⟩
    | dct kvs=>simp[M.zT,q] at e'
    | fdc _=>simp[M.zT,q] at e'
    | ins c fs=>simp[M.zT,q] at e') e r
end
noncomputable abbrev DR (K:PySem.W.Frag) (ρ:List Addr) (H:Hp):List (M.D×M.D)->List (Key×V)->Prop:=Paired fun p q=>Zl p.1 q.1/\zH K ρ H p.2 q.2
theorem zEb {d e:M.D}{a b:Key} (ha:Zl d a) (hb:Zl e b):(a=b)=(d=e):=by
 cases d with
 | int i =>
  cases ha
  cases e with
  | int j=>cases hb;exact propext ⟨fun z=>by cases z;rfl,fun z=>by cases z;rfl⟩
  | str y=>obtain⟨rfl,_⟩:=hb;exact propext ⟨fun z=>(nomatch z),fun z=>(nomatch z)⟩
  | _=>exact hb.elim
 | str x =>
  obtain⟨rfl,_⟩:=ha
  cases e with
  | int j=>cases hb;exact propext ⟨fun z=>(nomatch z),fun z=>(nomatch z)⟩
  | str y=>obtain⟨rfl,_⟩:=hb;exact propext ⟨fun z=>by rw[Zs (Sum.inr.inj z)],fun z=>by cases z;rfl⟩
  | _=>exact hb.elim
 | _=>exact ha.elim
theorem Ql {ρ:List Addr}{H:Hp}{d:M.D}{v:V} (h:M.y7 d=true) (r:zH K ρ H d v):∃ k,Zl d k/\v=kV k:=by
 cases d with
 | int i=>cases r;exact⟨.inl i,rfl,rfl⟩
 | str x=>obtain⟨rfl,ok⟩:=r;exact⟨.inr (ofT x),⟨rfl,ok⟩,rfl⟩
 | _=>cases h
section
variable {ρ:List Addr}{H:Hp}{kvs:List (M.D×M.D)}{ks:List (Key×V)}{d:M.D}{k:Key}
theorem DR.val (r:DR K ρ H kvs ks) (hk:Zl d k):match M.qO d kvs with | some e=>∃ v,qD ks k=some v/\zH K ρ H e v | none=>qD ks k=none:=by
 induction r with
 | nil=>exact rfl
 | @cons p q ps qs h t ih =>
  have e:=zEb h.1 hk
  by_cases hd:p.1=d
  ·have hq:q.1=k:=e.mpr hd
   rw[Q1 hq,M.qO,List.lookup_cons,beq_iff_eq.mpr hd.symm]
   exact⟨_,rfl,h.2⟩
  ·have hq:¬ q.1=k:=fun z=>hd (e.mp z)
   rw[Q4 hq,M.qO,List.lookup_cons,beq_eq_false_iff_ne.mpr (Ne.symm hd)]
   exact ih
end
theorem Zn {ρ:List Addr}{S:M.S}{H:Hp} (rp:zL K Θ ρ S H) {i:Nat}{a:Addr} (ha:ρ[i]? = some a) {kvs:List (M.D×M.D)} (q:S[i]? = some (.dct kvs)):∃ ks,H a=some (.dK ks)/\DR K ρ H kvs ks:=by
 obtain⟨b,e1,zs,e2,r⟩:=rp.obj i _ q
 rw[ha] at e1;cases e1
 exact⟨zs,e2,r⟩
theorem zDs {ρ:List Addr}{S:M.S}{H:Hp} (rp:zL K Θ ρ S H) {i:Nat}{a:Addr} (ha:ρ[i]? = some a) {kvs:List (M.D×M.D)} (q:S[i]? = some (.fdc kvs)):∃ o ks,H a=some (.frz o (.dK ks))/\DR K ρ H kvs ks:=by
 obtain⟨b,e1,o,zs,e2,r⟩:=rp.obj i _ q
 rw[ha] at e1;cases e1
 exact⟨o,zs,e2,r⟩
inductive yw (K:PySem.W.Frag) (H:Hp) (kb:List (Key×V)):List (Key×V)->Bool->Prop where
 | nil:yw K H kb [] true
 | miss {k:Key}{v:V}{r:List (Key×V)} (h:qD kb k=none):yw K H kb ((k,v)::r) false
 | hit {k:Key}{v y:V}{r:List (Key×V)}{d e:PyData}{b:Bool} (h:qD kb k=some y) (hd:jF K H v d) (he:jF K H y e) (sd:SeqAt.shaped d=true) (se:SeqAt.shaped e=true) (t:yw K H kb r b):yw K H kb ((k,v)::r) (PyData.eqv d e && b)
noncomputable def zFR (neg:Bool) (K:PySem.W.Frag):R2:=fun x y H Q=>∃ a b ka kb r,x=.ref a/\y=.ref b/\H a=some (.dK ka)/\H b=some (.dK kb)/\(ka.length=kb.length->yw K H kb ka r)/\Q (.bl (if neg then !(ka.length == kb.length && r) else (ka.length == kb.length && r))) H
theorem zAJ {X:Cx}{pins:List (Addr×Obj)}{σ:St}{H:Hp}{s:Shared}{A:Around} (I:Inv X pins σ H s) (hu:A.units+64 < cLine) {kb:List (Key×V)}{vb:List (Key×Value)} (rb:KV kb vb):∀ {ka:List (Key×V)}{va:List (Key×Value)}{r:Bool},KV ka va->yw X.K H kb ka r->PySem.W.KeqHits A s vb va r
 | _,_,_,ra,.nil=>by cases ra;exact .nil
 | _,_,_,ra,.miss h=>by
  cases ra with
  | @cons p q ps qs h1 t =>
   obtain⟨k,v⟩:=q
   have hk:_=k:=h1.1
   have hv:=rb.val k
   rw[<- hk,h] at hv
   refine .miss ?_
   rw[<- hk]
   cases q2:valueAt vb _ with
   | none=>rfl
   | some w=>rw[q2] at hv;exact hv.elim
 | _,_,_,ra,.hit h hd he sd se t=>by
  cases ra with
  | @cons p q ps qs h1 t1 =>
   obtain⟨k,v⟩:=q
   have hk:_=k:=h1.1
   have hv:=rb.val k
   rw[<- hk,h] at hv
   cases q2:valueAt vb k with
   | none=>rw[hk,q2] at hv;exact hv.elim
   | some w =>
    rw[hk,q2] at hv
    obtain⟨as,r1⟩:=hd.reads I h1.2
    obtain⟨bs,r2⟩:=he.reads I hv
    exact .hit q2 (SeqAt.eqAt_reads _ _ A s _ _ as bs r1 r2 (SeqAt.canLay_of_shaped sd) (SeqAt.canLay_of_shaped se) (SeqAt.room_of_shaped sd hu)) (zAJ I hu rb t1 t)
theorem zHC {X:Cx}{k:Nat} (hr:zm k X.A):OpR X (compareOp .Eq) (zFR false X.K):=by
 intro pins s σ H x y v u Q I rx ry h
 obtain⟨a,b,ka,kb,r,rfl,rfl,ha,hb,hh,q⟩:=h
 cases rx;cases ry
 obtain⟨za,la,va,ra,da⟩:=JP I.hok ha
 obtain⟨zb,lb,vb,rb,db⟩:=JP I.hok hb
 refine PySem.W.keq_eq la lb da db hr.units0 (fun e=>zAJ I (by show X.A.units+1+64 < _;have:=hr.un;omega) rb ra (hh (by rw[ra.length,rb.length];exact e))) ⟨.bl _,H,I,rfl,?_⟩
 rw[<- ra.length,<- rb.length]
 exact q
theorem zIM {X:Cx}{k:Nat} (hr:zm k X.A):OpR X (compareOp .NotEq) (zFR true X.K):=by
 intro pins s σ H x y v u Q I rx ry h
 obtain⟨a,b,ka,kb,r,rfl,rfl,ha,hb,hh,q⟩:=h
 cases rx;cases ry
 obtain⟨za,la,va,ra,da⟩:=JP I.hok ha
 obtain⟨zb,lb,vb,rb,db⟩:=JP I.hok hb
 refine PySem.W.keq_ne la lb da db hr.units0 (fun e=>zAJ I (by show X.A.units+1+64 < _;have:=hr.un;omega) rb ra (hh (by rw[ra.length,rb.length];exact e))) ⟨.bl _,H,I,rfl,?_⟩
 rw[<- ra.length,<- rb.length]
 exact q
theorem zBR {ρ:List Addr}{H:Hp}{S:M.S} (rp:zL K Θ ρ S H) {ws:List (M.D×M.D)}{kb:List (Key×V)} (rb:DR K ρ H ws kb):∀ {ks:List (M.D×M.D)}{ka:List (Key×V)}{b:Bool},DR K ρ H ks ka->M.dEq S ws ks=some b->yw K H kb ka b
 | _,_,_,.nil,e=>by cases e;exact .nil
 | (k,v)::ks,(kk,vv)::ka,b,.cons h t,e=>by
  have hv:=DR.val rb h.1
  unfold M.dEq at e
  cases q:M.qO k ws with
  | none =>
   rw[q] at e hv
   cases e
   exact .miss hv
  | some w =>
   rw[q] at e hv
   obtain⟨y,hy,ry⟩:=hv
   dsimp only at e
   cases q1:M.toP 8 S v with
   | none=>rw[q1] at e;cases e
   | some p1 =>
    cases q2:M.toP 8 S w with
    | none=>rw[q1,q2] at e;cases e
    | some p2 =>
     cases q3:M.dEq S ws ks with
     | none=>rw[q1,q2,q3] at e;cases e
     | some b' =>
      rw[q1,q2,q3] at e
      dsimp only at e
      by_cases hc:M.P.dep p1 <= 64/\M.P.dep p2 <= 64
      ·rw[if_pos hc] at e
       cases e
       obtain⟨d1,c1⟩:=QZ rp _ q1 h.2
       obtain⟨d2,c2⟩:=QZ rp _ q2 ry
       rw[<- Jy]
       refine .hit hy d1 d2 ?_ ?_ (zBR rp rb t q3)
       ·unfold SeqAt.shaped;rw[c1,Bool.true_and,Zv];exact decide_eq_true hc.1
       ·unfold SeqAt.shaped;rw[c2,Bool.true_and,Zv];exact decide_eq_true hc.2
      ·rw[if_neg hc] at e;cases e
theorem zBO {ρ:List Addr}{H:Hp}{S:M.S}{x y:M.D}{X1 Y:V}{Q':Bool->Hp->Prop} (rp:zL K Θ ρ S H) (rx:zH K ρ H x X1) (ry:zH K ρ H y Y) (h:zA K Θ rB ρ H (M.zBA x y S) Q') :
  ∃ a b ka kb r,X1=.ref a/\Y=.ref b/\H a=some (.dK ka)/\H b=some (.dK kb)/\(ka.length=kb.length->yw K H kb ka r)/\Q' (ka.length == kb.length && r) H:=by
 unfold M.zBA at h
 split at h
 ·rename_i i j
  split at h
  ·rename_i ks ws e1 e2
   obtain⟨a,rfl,ha⟩:=rx
   obtain⟨b,rfl,hb⟩:=ry
   obtain⟨ka,h1,r1⟩:=Zn rp ha e1
   obtain⟨kb,h2,r2⟩:=Zn rp hb e2
   have l1:=Paired.length r1
   have l2:=Paired.length r2
   split at h
   ·rename_i hl
    split at h
    ·rename_i bb q
     refine⟨a,b,ka,kb,bb,rfl,rfl,h1,h2,fun _=>zBR rp r2 r1 q,?_⟩
     rw[show (ka.length == kb.length)=true by rw[beq_iff_eq];omega,Bool.true_and]
     exact zA.here (b:=bb) h rp rfl
    ·exact h.elim
   ·rename_i hl
    refine⟨a,b,ka,kb,false,rfl,rfl,h1,h2,fun e=>absurd (by omega) hl,?_⟩
    rw[Bool.and_false]
    exact zA.here (b:=false) h rp rfl
  ·exact h.elim
 ·exact h.elim
noncomputable def zC6 (K:PySem.W.Frag) (neg:Bool):R2:=fun x y H Q=>(zAQ x y=true/\Q (.bl (if neg then !decide (x=y) else decide (x=y))) H)\/zE7 K neg x y H Q\/zFR neg K x y H Q
theorem zBf {X:Cx}{k:Nat} (hr:zm k X.A):OpR X (compareOp .Eq) (zC6 X.K false):=by
 intro pins s σ H x y v u Q I rx ry h
 rcases h with h | h | h
 ·exact zIp pins s σ H x y v u Q I rx ry h
 ·exact zHB hr pins s σ H x y v u Q I rx ry h
 ·exact zHC hr pins s σ H x y v u Q I rx ry h
theorem zBh {X:Cx}{k:Nat} (hr:zm k X.A):OpR X (compareOp .NotEq) (zC6 X.K true):=by
 intro pins s σ H x y v u Q I rx ry h
 rcases h with h | h | h
 ·exact zIg pins s σ H x y v u Q I rx ry h
 ·exact zHq hr pins s σ H x y v u Q I rx ry h
 ·exact zIM hr pins s σ H x y v u Q I rx ry h
theorem zCY {ρ:List Addr}{H:Hp}{S:M.S}{x y:M.D}{X1 Y:V}{Q':Bool->Hp->Prop} (rp:zL K Θ ρ S H) (rx:zH K ρ H x X1) (ry:zH K ρ H y Y) (h:zA K Θ rB ρ H (M.eqD x y S) Q') :
  (zAQ X1 Y=true/\Q' (decide (X1=Y)) H)\/(∃ d e,jF K H X1 d/\jF K H Y e/\SeqAt.shaped d=true/\SeqAt.shaped e=true/\Q' (PyData.eqv d e) H)\/∃ a b ka kb r,X1=.ref a/\Y=.ref b/\H a=some (.dK ka)/\H b=some (.dK kb)/\(ka.length=kb.length->yw K H kb ka r)/\Q' (ka.length == kb.length && r) H:=by
 have gen:∀ {p q:M.P},M.toP M.QD S x=some p->M.toP M.QD S y=some q->M.P.dep p <= 64/\M.P.dep q <= 64->Q' (M.P.eqv p q) H->∃ d e,jF K H X1 d/\jF K H Y e/\SeqAt.shaped d=true/\SeqAt.shaped e=true/\Q' (PyData.eqv d e) H:=fun {p q} e1 e2 hd hq=>by
  obtain⟨d1,c1⟩:=QZ rp _ e1 rx
  obtain⟨d2,c2⟩:=QZ rp _ e2 ry
  refine⟨_,_,d1,d2,?_,?_,by rw[Jy];exact hq⟩
  ·unfold SeqAt.shaped;rw[c1,Bool.true_and,Zv];exact decide_eq_true hd.1
  ·unfold SeqAt.shaped;rw[c2,Bool.true_and,Zv];exact decide_eq_true hd.2
 have z6:zA K Θ rB ρ H (match M.toP M.QD S x,M.toP M.QD S y with
   | some p,some q=>if M.P.dep p <= 64/\M.P.dep q <= 64 then M.R.ok (M.P.eqv p q) S else .no
   | _,_=>M.zBA x y S) Q'->(∃ d e,jF K H X1 d/\jF K H Y e/\SeqAt.shaped d=true/\SeqAt.shaped e=true/\Q' (PyData.eqv d e) H)\/∃ a b ka kb r,X1=.ref a/\Y=.ref b/\H a=some (.dK ka)/\H b=some (.dK kb)/\(ka.length=kb.length->yw K H kb ka r)/\Q' (ka.length == kb.length && r) H:=fun h'=>by
  cases e1:M.toP M.QD S x with
  | none=>rw[e1] at h';exact .inr (zBO rp rx ry h')
  | some p =>
   cases e2:M.toP M.QD S y with
   | none=>rw[e1,e2] at h';exact .inr (zBO rp rx ry h')
   | some q =>
    rw[e1,e2] at h'
    dsimp only at h'
    by_cases hc:M.P.dep p <= 64/\M.P.dep q <= 64
    ·rw[if_pos hc] at h';exact .inl <| gen e1 e2 hc (zA.here (b:=M.P.eqv p q) h' rp rfl)
    ·rw[if_neg hc] at h';exact h'.elim
 have sc:∀ {b:Bool},zAQ X1 Y=true->decide (X1=Y)=b->M.eqD x y S=.ok b S->(zAQ X1 Y=true/\Q' (decide (X1=Y)) H):=fun {b} h1 h2 h3=>by
  rw[h3] at h
  rw[h2]
  exact⟨h1,zA.here (b:=b) h rp rfl⟩
 cases x with
 | str a =>
  cases y with
  | str b =>
   obtain⟨rfl,_⟩:=rx
   obtain⟨rfl,_⟩:=ry
   refine .inl (sc rfl ?_ rfl)
   by_cases hab:a=b
   ·subst hab;simp
   ·rw[decide_eq_false hab,decide_eq_false fun e=>hab (Zs (V.str.inj e))]
  | _=>exact .inr (z6 h)
 | int a =>
  cases y with
  | int b =>
   cases rx;cases ry
   refine .inl (sc rfl ?_ rfl)
   by_cases hab:a=b
   ·subst hab;simp
   ·rw[decide_eq_false hab,decide_eq_false fun e=>hab (V.int.inj e)]
  | _=>exact .inr (z6 h)
 | bl a =>
  cases y with
  | bl b =>
   cases rx;cases ry
   refine .inl (sc rfl ?_ rfl)
   by_cases hab:a=b
   ·subst hab;simp
   ·rw[decide_eq_false hab,decide_eq_false fun e=>hab (V.bl.inj e)]
  | _=>exact .inr (z6 h)
 | non =>
  cases y with
  | non=>cases rx;cases ry;exact .inl (sc rfl rfl rfl)
  | _=>exact .inr (z6 h)
 | _=>exact .inr (z6 h)
theorem zDK:AdC K Θ M.cEq (zC6 K false):=by
 intro ρ H S x y X1 Y Q rp rx ry h
 rcases zCY rp rx ry h with h | ⟨d,e,h1,h2,h3,h4,h5⟩ | ⟨a,b,ka,kb,r,h⟩
 ·exact .inl h
 ·exact .inr (.inl ⟨d,e,h1,h2,h3,h4,h5⟩)
 ·exact .inr (.inr ⟨a,b,ka,kb,r,h⟩)
theorem zDP:AdC K Θ M.cNe (zC6 K true):=by
 intro ρ H S x y X1 Y Q rp rx ry h
 have h':zA K Θ rB ρ H (M.eqD x y S) (fun b H'=>Q (.bl (!b)) H'):=zA.bind h fun ρ1 H1 b b' S1 p1 l1 rp1 e h1=>by cases e;exact zA.here (b:=!b) h1 rp1 rfl
 rcases zCY rp rx ry h' with h | ⟨d,e,h1,h2,h3,h4,h5⟩ | ⟨a,b,ka,kb,r,h⟩
 ·exact .inl h
 ·exact .inr (.inl ⟨d,e,h1,h2,h3,h4,h5⟩)
 ·exact .inr (.inr ⟨a,b,ka,kb,r,h⟩)
end
end L2
namespace L2
open PySem PySem.Spec PyProof.Rows
section
variable {K:PySem.W.Frag}{Θ:Tab}
theorem Zx (n d:Nat) (o:Option Int):M.sIx n d o=HT.sIx n d o:=by
 cases o with
 | none=>rfl
 | some v =>
  have:=HT.zAM v n d
  show (if v < 0 then max (v+(n:Int)) 0 else min v (n:Int)).toNat=_
  rw[this];simp
theorem zGP {x:M.T}{lo hi:Option Int}:∀ c∈M.cut x lo hi,c∈x:=fun c hc=>List.mem_of_mem_drop (List.mem_of_mem_take hc)
theorem zAK {ρ:List Addr}{H:Hp}{ds:List M.D}{xs:List V} (r:zF K ρ H ds xs) (lo hi:Option Int):zF K ρ H (M.cut ds lo hi) (Zj xs lo hi):=by
 unfold M.cut Zj
 rw[Zx,Zx,r.length]
 exact (r.drop _).take _
theorem zBD:∀ ρ H S x X1 l u Q,zL K Θ ρ S H->zH K ρ H x X1->zA K Θ (zH K) ρ H (M.slD x l u S) Q->uSl K X1 l u H Q:=by
 intro ρ H S x X1 l u Q rp rx h
 cases x with
 | str z =>
  obtain⟨rfl,ok⟩:=rx
  by_cases hz:z.length <= M.SZ
  ·simp only[M.slD,if_pos hz] at h
   refine⟨by rw[zx,<- yI];exact hz,zA.here h rp ⟨?_,ZE ok zGP⟩⟩
   show V.str (zAL (ofT z) l u)=V.str (ofT (M.cut z l u))
   unfold zAL M.cut ofT
   have e:(⟨z.toArray⟩:Str).length=z.length:=by simp[Str.length]
   rw[e,Zx,Zx]
  ·simp only[M.slD,if_neg hz] at h;exact h.elim
 | tup ds =>
  obtain⟨a,xs,rfl,hq,r⟩:=rx
  by_cases hc:M.sIx ds.length 0 l=0/\M.sIx ds.length ds.length u=ds.length
  ·simp only[M.slD,if_pos hc] at h;exact h.elim
  ·simp only[M.slD,if_neg hc] at h
   refine .inr ⟨xs,hq,?_,fun p hp=>h ρ _ _ (List.prefix_refl _) (Le.new hp _) (rp.aside hp _) ⟨p,_,rfl,SqT.of jm,(zAK r l u).mono (List.prefix_refl _) (Le.new hp _)⟩⟩
   rw[Zx,Zx,r.length] at hc
   exact hc
 | ro ds =>
  obtain⟨a,xs,rfl,hq,r⟩:=rx
  exact .inl ⟨xs,hq.sq,fun p hp=>zA.alloc h rp (zAK r l u) hp⟩
 | ref p =>
  obtain⟨a,rfl,ea⟩:=rx
  cases q:S[p]? with
  | none=>simp[M.slD,M.zT,q] at h;exact h.elim
  | some o =>
   cases o with
   | lst xs =>
    simp only[M.slD,M.zT,q] at h
    obtain⟨zs,e1,r⟩:=ql rp ea q
    exact .inl ⟨zs,SqL.of e1,fun p hp=>zA.alloc h rp (zAK r l u) hp⟩
   | dct kvs=>simp[M.slD,M.zT,q] at h;exact h.elim
   | fdc _=>simp[M.slD,M.zT,q] at h;exact h.elim
   | ins c fs=>simp[M.slD,M.zT,q] at h;exact h.elim
 | _=>exact h.elim
theorem zAS {ρ:List Addr}{H:Hp}:∀ {ds:List M.D}{ys:List V}{bs:List Bool},M.Zb ds=some bs->zF K ρ H ds ys->ys=bs.map V.bl
 | [],_,_,e,r=>by cases e;cases r;rfl
 | .bl b::ds,_,_,e,r=>by
  obtain⟨y,ys,rfl,r1,r2⟩:=r
  cases r1
  have e':(M.Zb ds).map (b :: ·)=some _:=e
  cases q:M.Zb ds with
  | none=>rw[q] at e';cases e'
  | some cs=>rw[q] at e';cases e';rw[zAS q r2];rfl
 | .non::_,_,_,e,_=>by cases e
 | .int _::_,_,_,e,_=>by cases e
 | .str _::_,_,_,e,_=>by cases e
 | .tup _::_,_,_,e,_=>by cases e
 | .ro _::_,_,_,e,_=>by cases e
 | .ref _::_,_,_,e,_=>by cases e
 | .ty _::_,_,_,e,_=>by cases e
theorem zGT:AdK K Θ M.Q0 (zHP K):=by
 intro ρ H S ds ys p Q rp r hq h
 cases e:M.Zb ds with
 | none=>simp only[M.Q0,e] at h;exact h.elim
 | some bs =>
  simp only[M.Q0,e] at h
  have:=zAS e r
  subst this
  exact⟨p,bs,rfl,hq,zA.here (b:=V.bl (bs.all id)) h rp rfl⟩
theorem yy {ρ:List Addr}{H:Hp}:∀ {ds:List M.D}{ys:List V}{ts:List M.T},M.qq ds=some ts->zF K ρ H ds ys->ys=(ts.map ofT).map V.str/\∀ t∈ts,okT t
 | [],_,_,e,r=>by cases e;cases r;exact⟨rfl,fun t h=>by cases h⟩
 | .str x::ds,_,_,e,r=>by
  obtain⟨y,ys,rfl,r1,r2⟩:=r
  obtain⟨rfl,ok⟩:=r1
  have e':(M.qq ds).map (x :: ·)=some _:=e
  cases q:M.qq ds with
  | none=>rw[q] at e';cases e'
  | some cs =>
   rw[q] at e'
   cases e'
   obtain⟨h1,h2⟩:=yy q r2
   refine⟨by rw[h1];rfl,fun t ht=>?_⟩
   rcases List.mem_cons.mp ht with rfl | ht
   ·exact ok
   ·exact h2 t ht
 | .non::_,_,_,e,_=>by cases e
 | .int _::_,_,_,e,_=>by cases e
 | .bl _::_,_,_,e,_=>by cases e
 | .tup _::_,_,_,e,_=>by cases e
 | .ro _::_,_,_,e,_=>by cases e
 | .ref _::_,_,_,e,_=>by cases e
 | .ty _::_,_,_,e,_=>by cases e
theorem zAm (x:M.T):∀ (ys:List M.T) (acc:M.T),((ys.map ofT).foldl (fun acc p=>acc++(ofT x).cps++p.cps) acc.toArray)=(acc++(ys.map (x ++ ·)).flatten).toArray
 | [],acc=>by simp
 | y::ys,acc=>by
  rw[List.map_cons,List.foldl_cons]
  have e:acc.toArray++(ofT x).cps++(ofT y).cps=(acc++x++y).toArray:=by simp[ofT]
  rw[e,zAm x ys]
  simp
theorem Jc (x y:M.T):∀ ys:List M.T,M.zt x (y::ys)=y++(ys.map (x ++ ·)).flatten
 | []=>by simp[M.zt]
 | z::ys=>by
  show y++x++M.zt x (z::ys)=_
  rw[Jc x z ys];simp
theorem zGf (x:M.T) (ys:List M.T):Txt.join (ofT x) (ys.map ofT)=ofT (M.zt x ys):=by
 cases ys with
 | nil=>rfl
 | cons y ys =>
  show (⟨(((y::ys).map ofT).drop 1).foldl (fun acc p=>acc++(ofT x).cps++p.cps) (((y::ys).map ofT).headD Str.empty).cps⟩:Str)=_
  rw[Jc,List.map_cons,List.drop_one,List.tail_cons]
  have:=zAm x ys y
  show (⟨(ys.map ofT).foldl _ y.toArray⟩:Str)=_
  rw[this];rfl
theorem zBw {x:M.T} (hx:okT x):∀ {ys:List M.T},(∀ t∈ys,okT t)->okT (M.zt x ys)
 | [],_=>rfl
 | [y],h=>h y (by simp)
 | y::z::ys,h=>zAD (zAD (h y (by simp)) hx) (zBw hx fun t ht=>h t (List.mem_cons_of_mem _ ht))
theorem zGd (ts:List M.T):((ts.map ofT).map (·.length)).sum=(ts.map List.length).sum:=by
 rw[List.map_map]
 exact congrArg List.sum (List.map_congr_left fun t _=>zx t)
theorem ZM {y:M.T} (hy:okT y):∀ ρ H S ds ys p Q,zL K Θ ρ S H->zF K ρ H ds ys->(SqL K H p ys\/SqT K H p ys)->zA K Θ (zH K) ρ H (M.qb y ds S) Q->Js K (.str (ofT y)) [.ref p] H Q:=by
 intro ρ H S ds ys p Q rp r hq h
 cases e:M.qq ds with
 | none=>simp only[M.qb,e] at h;exact h.elim
 | some ts =>
  obtain⟨rfl,ok⟩:=yy e r
  by_cases hz:(ts.map List.length).sum+ts.length * y.length <= M.SZ
  ·simp only[M.qb,e,if_pos hz] at h
   refine⟨ofT y,p,ts.map ofT,rfl,rfl,hq,?_,?_⟩
   ·rw[zGd,List.length_map,zx];exact hz
   ·rw[zGf];exact zA.here h rp ⟨rfl,zBw hy ok⟩
  ·simp only[M.qb,e,if_neg hz] at h;exact h.elim
theorem ZG:AdM K Θ M.qI (Js K):=by
 intro ρ H S x xs X1 Xs Q rp rx rxs h
 cases x with
 | str y =>
  obtain⟨rfl,ok⟩:=rx
  match xs,rxs,h with
  | [.tup ds],rxs,h =>
   obtain⟨_,_,rfl,⟨l,ys,rfl,hq,r⟩,rfl⟩:=rxs
   exact ZM ok ρ H S ds ys l Q rp r (.inr hq) h
  | [.ro ds],rxs,h =>
   obtain⟨_,_,rfl,⟨l,ys,rfl,hq,r⟩,rfl⟩:=rxs
   exact ZM ok ρ H S ds ys l Q rp r (.inl hq.sq) h
  | [.ref p],rxs,h =>
   obtain⟨_,_,rfl,⟨a,rfl,ea⟩,rfl⟩:=rxs
   cases q:S[p]? with
   | none=>simp[M.qI,M.QW,M.zT,q] at h;exact h.elim
   | some o =>
    cases o with
    | lst xs =>
     simp only[M.qI,M.QW,M.zT,q] at h
     obtain⟨zs,e1,r⟩:=ql rp ea q
     exact ZM ok ρ H S xs zs a Q rp r (.inl (SqL.of e1)) h
    | dct kvs=>simp[M.qI,M.QW,M.zT,q] at h;exact h.elim
    | fdc _=>simp[M.qI,M.QW,M.zT,q] at h;exact h.elim
    | ins c fs=>simp[M.qI,M.QW,M.zT,q] at h;exact h.elim
  | [.non],_,h=>exact h.elim
  | [.bl _],_,h=>exact h.elim
  | [.int _],_,h=>exact h.elim
  | [.str _],_,h=>exact h.elim
  | [.ty _],_,h=>exact h.elim
  | [],_,h=>exact h.elim
  | a::_::_,_,h=>cases a<;>exact h.elim
 | _=>exact h.elim
end
end L2
namespace L2
open PySem PySem.Spec PyProof.Rows
section
variable {K:PySem.W.Frag}{Θ:Tab}
theorem QE (a:M.T):∀ (n:Nat) (acc:Array Nat),(List.replicate n a.toArray).foldl (· ++ ·) acc=acc++((List.replicate n a).flatten).toArray
 | 0,acc=>by simp
 | n+1,acc=>by
  rw[List.replicate_succ,List.foldl_cons,QE a n,List.replicate_succ,List.flatten_cons]
  simp
theorem zGQ (a:M.T) (n:Int) (h0:0 <= n):Txt.mul (ofT a) n=ofT (List.replicate n.toNat a).flatten:=by
 unfold Txt.mul
 by_cases h1:n < 1
 ·have e:n.toNat=0:=by omega
  rw[if_pos h1,e];rfl
 ·rw[if_neg h1]
  by_cases h2:(n == 1 || (ofT a).length == 0)=true
  ·rw[if_pos h2]
   rw[Bool.or_eq_true] at h2
   rcases h2 with h2 | h2
   ·have e:n=1:=eq_of_beq h2
    subst e
    simp
   ·have e:a.length=0:=by rw[<- zx];exact eq_of_beq h2
    have e2:a=[]:=List.length_eq_zero_iff.mp e
    subst e2
    simp[ofT]
  ·rw[if_neg h2]
   have:=QE a n.toNat #[]
   show (⟨(List.replicate n.toNat a.toArray).foldl (· ++ ·) #[]⟩:Str)=_
   rw[this];simp[ofT]
theorem zIH (a:M.T) (n:Int) (h0:0 <= n) (h1:n <= 1000000) (h2:a.length * n.toNat <= 1000000):MulOk (ofT a) n:=by
 refine⟨?_,fun h3 _=>?_,fun h3 _=>?_⟩
 ·rw[Bool.or_eq_false_iff]
  exact⟨decide_eq_false (by omega),decide_eq_false (by omega)⟩
 ·rw[zx]
  have hn:1 <= n.toNat:=by omega
  have ha:a.length <= 1000000:=Nat.le_trans (Nat.le_mul_of_pos_right _ (by omega)) h2
  have hd:(1000000:Int) <= (2 ^ 63 - 1) / n:=Int.le_ediv_of_mul_le (by omega) (by omega)
  omega
 ·rw[zx]
  unfold Builtin.Str.tooLong
  exact decide_eq_false (by rw[sizeLine_eq];omega)
noncomputable def zFs:R2:=fun x y H Q=>zG7 x y H Q\/zIR x y H Q
theorem Zu {X:Cx}:OpR X (binaryOp .Mult) zFs:=OpR.or zIm zHZ
theorem zF.flat {ρ:List Addr}{H:Hp}{ds:List M.D}{xs:List V} (h:zF K ρ H ds xs):∀ n:Nat,zF K ρ H (List.replicate n ds).flatten (List.replicate n xs).flatten
 | 0=>rfl
 | n+1=>by
  rw[List.replicate_succ,List.replicate_succ,List.flatten_cons,List.flatten_cons]
  exact zF.app h (zF.flat h n)
theorem Zy:Ad2 K Θ M.yv zFs:=by
 intro ρ H S x y X Y Q rp rx ry h
 cases x with
 | int i =>
  cases y with
  | int j =>
   cases rx;cases ry
   have h':zA K Θ (zH K) ρ H (if (M.zv i || M.zv j)=true then M.R.ok (M.D.int (i * j)) S else .no) Q:=h
   by_cases hc:(M.zv i || M.zv j)=true
   ·rw[if_pos hc] at h'
    refine .inl ⟨?_,zA.here (b:=V.int (i * j)) h' rp rfl⟩
    rw[Bool.or_eq_true] at hc
    rcases hc with hc | hc
    ·exact .inl (zBW hc)
    ·exact .inr (zBW hc)
   ·rw[if_neg hc] at h';exact h'.elim
  | _=>exact h.elim
 | str a =>
  cases y with
  | int n =>
   obtain⟨rfl,oka⟩:=rx
   cases ry
   have h':zA K Θ (zH K) ρ H (if 0 <= n/\n.natAbs <= 1000000/\a.length * n.natAbs <= 1000000 then M.R.ok (M.D.str (List.replicate n.toNat a).flatten) S else .no) Q:=h
   by_cases hc:0 <= n/\n.natAbs <= 1000000/\a.length * n.natAbs <= 1000000
   ·rw[if_pos hc] at h'
    have hn:n.natAbs=n.toNat:=by omega
    refine .inl ⟨zIH a n hc.1 (by omega) (by rw[<- hn];exact hc.2.2),?_⟩
    show Q (.str (Txt.mul (ofT a) n)) H
    rw[zGQ a n hc.1]
    refine zA.here h' rp ⟨rfl,ZE oka fun c hc=>?_⟩
    obtain⟨l,hl,hcl⟩:=List.mem_flatten.mp hc
    rw[(List.mem_replicate.mp hl).2] at hcl
    exact hcl
   ·rw[if_neg hc] at h';exact h'.elim
  | _=>exact h.elim
 | ref p =>
  cases y with
  | int n =>
   cases ry
   have h':zA K Θ (zH K) ρ H (match M.zT S p with | some xs=>if n.natAbs <= 1000/\xs.length * n.natAbs <= 1000000 then M.alloc (.lst (List.replicate n.toNat xs).flatten) S else .no | none=>.no) Q:=h
   cases q:S[p]? with
   | none=>simp only[M.zT,q] at h';exact h'.elim
   | some o =>
    cases o with
    | lst ds =>
     simp only[M.zT,q] at h'
     obtain⟨a,rfl,ea⟩:=rx
     obtain⟨zs,e1,r⟩:=ql rp ea q
     by_cases hc:n.natAbs <= 1000/\ds.length * n.natAbs <= 1000000
     ·rw[if_pos hc] at h'
      have hn:n.toNat <= n.natAbs:=by omega
      refine .inr ⟨a,n,zs,rfl,rfl,e1,by omega,by omega,?_,fun p hp=>zA.alloc h' rp (zF.flat r n.toNat) hp⟩
      have hm:=Nat.mul_le_mul_left ds.length hn
      rw[<- r.length,sizeLine_eq]
      omega
     ·rw[if_neg hc] at h';exact h'.elim
    | dct _=>simp only[M.zT,q] at h';exact h'.elim
    | fdc _=>simp only[M.zT,q] at h';exact h'.elim
    | ins _ _=>simp only[M.zT,q] at h';exact h'.elim
  | _=>exact h.elim
 | _=>exact h.elim
noncomputable def zIG (K:PySem.W.Frag):R2:=fun x y H Q=>uIx K x y H Q\/∃ a v,x=.ref a/\Z1 H a y (some v)/\Q v H
theorem zE5 {X:Cx}{k:Nat} (hr:zm k X.A):IxR X (zIG X.K):=by
 refine IxR.or zI5 ?_
 intro value slice pins s σ H x y v u Q I rx ry h hs
 obtain⟨a,w',rfl,g,q⟩:=h
 cases rx
 exact tail_any (zCB I g) PySem.F.slot_dict_getitem.lookup (zD0 (zFw hr) I g ry fun w2 s3 I3 rw'=>⟨w',H,I3,rw',q⟩) hs
noncomputable def zFu (K:PySem.W.Frag):List V->Hp->VK->Prop:=fun xs H Q=>zHs K xs H Q\/∃ a kvs,xs=[V.ref a]/\H a=some (.dK kvs)/\Q (.int kvs.length) H
theorem QQ {X:Cx}:z8 X (.builtin "len") (zFu X.K):=z8.or zIs zEW
theorem zC3:Ad2 K Θ M.qf (zIG K):=by
 intro ρ H S x y X Y Q rp rx ry h
 cases x with
 | str a =>
  cases y with
  | int i =>
   obtain⟨rfl,oka⟩:=rx
   cases ry
   have h':zA K Θ (zH K) ρ H (if a.length <= M.SZ then (match M.atI a i with | some c=>M.R.ok (M.D.str [c]) S | none=>.no) else .no) Q:=h
   by_cases hc:a.length <= M.SZ
   ·rw[if_pos hc] at h'
    cases q:M.atI a i with
    | none=>rw[q] at h';exact h'.elim
    | some c =>
     rw[q] at h'
     refine .inl ⟨c,by rw[zx,<- yI];exact hc,?_,zA.here (b:=V.str (ofT [c])) h' rp ⟨rfl,ZE oka fun d hd=>by
      have e:d=c:=by simpa using hd
      rw[e]
      unfold M.atI at q
      cases qi:M.ixN a.length i with
      | none=>rw[qi] at q;cases q
      | some j=>rw[qi] at q;exact List.mem_of_getElem? q⟩⟩
     rw[jf];exact q
   ·rw[if_neg hc] at h';exact h'.elim
  | _=>exact h.elim
 | tup ds =>
  cases y with
  | int i =>
   obtain⟨l,xs,rfl,hq,r⟩:=rx
   cases ry
   have h':zA K Θ (zH K) ρ H (match M.atI ds i with | some d=>M.R.ok d S | none=>.no) Q:=h
   cases q:M.atI ds i with
   | none=>rw[q] at h';exact h'.elim
   | some d =>
    rw[q] at h'
    obtain⟨v,e1,rv⟩:=zAO r q
    exact .inl ⟨xs,v,.inr hq,e1,zA.here h' rp rv⟩
  | _=>exact h.elim
 | ro ds =>
  cases y with
  | int i =>
   obtain⟨l,xs,rfl,hq,r⟩:=rx
   cases ry
   have h':zA K Θ (zH K) ρ H (match M.atI ds i with | some d=>M.R.ok d S | none=>.no) Q:=h
   cases q:M.atI ds i with
   | none=>rw[q] at h';exact h'.elim
   | some d =>
    rw[q] at h'
    obtain⟨v,e1,rv⟩:=zAO r q
    exact .inl ⟨xs,v,.inl hq.sq,e1,zA.here h' rp rv⟩
  | _=>exact h.elim
 | ref p =>
  obtain⟨a,rfl,ea⟩:=rx
  cases q:S[p]? with
  | none=>simp[M.qf,q] at h;exact h.elim
  | some o =>
   cases o with
   | lst xs =>
    cases y with
    | int i =>
     cases ry
     obtain⟨zs,e1,r⟩:=ql rp ea q
     cases q2:M.atI xs i with
     | none=>simp[M.qf,q,q2] at h;exact h.elim
     | some d =>
      simp[M.qf,q,q2] at h
      obtain⟨v,e2,rv⟩:=zAO r q2
      exact .inl ⟨zs,v,.inl (SqL.of e1),e2,zA.here h rp rv⟩
    | _=>simp[M.qf,q] at h;exact h.elim
   | dct kvs =>
    by_cases hk:M.y7 y=true
    case neg=>simp[M.qf,q,hk] at h;exact h.elim
    obtain⟨ks,e1,r⟩:=Zn rp ea q
    obtain⟨k,h1,rfl⟩:=Ql hk ry
    have hv:=r.val h1
    cases q2:M.qO y kvs with
    | none=>simp[M.qf,q,hk,q2] at h;exact h.elim
    | some d =>
     simp[M.qf,q,hk,q2] at h
     rw[q2] at hv
     obtain⟨v,e2,rv⟩:=hv
     refine .inr ⟨a,v,rfl,?_,zA.here h rp rv⟩
     rw[<- e2]
     exact Z1.k e1
   | fdc kvs =>
    by_cases hk:M.y7 y=true
    case neg=>simp[M.qf,q,hk] at h;exact h.elim
    obtain⟨fo,ks,e1,r⟩:=zDs rp ea q
    obtain⟨k,h1,rfl⟩:=Ql hk ry
    have hv:=r.val h1
    cases q2:M.qO y kvs with
    | none=>simp[M.qf,q,hk,q2] at h;exact h.elim
    | some d =>
     simp[M.qf,q,hk,q2] at h
     rw[q2] at hv
     obtain⟨v,e2,rv⟩:=hv
     refine .inr ⟨a,v,rfl,?_,zA.here h rp rv⟩
     rw[<- e2]
     exact (.inl ⟨ks,k,.inr ⟨fo,e1⟩,rfl,rfl⟩)
   | ins c fs=>simp[M.qf,q] at h;exact h.elim
 | _=>exact h.elim
theorem zBa:AdN K Θ M.Zg (zFu K):=by
 intro ρ H S xs Xs Q rp rx h
 match xs,rx,h with
 | [.str a],rx,h =>
  obtain⟨_,_,rfl,⟨rfl,_⟩,rfl⟩:=rx
  have h':zA K Θ (zH K) ρ H (if a.length <= M.SZ then M.R.ok (M.D.int a.length) S else .no) Q:=h
  by_cases hc:a.length <= M.SZ
  ·rw[if_pos hc] at h'
   refine .inl ⟨by rw[zx,<- yI];exact hc,?_⟩
   rw[zx]
   exact zA.here (b:=V.int a.length) h' rp rfl
  ·rw[if_neg hc] at h';exact h'.elim
 | [.tup ds],rx,h =>
  obtain⟨_,_,rfl,⟨l,ys,rfl,hq,r⟩,rfl⟩:=rx
  exact .inl ⟨ys,.inr hq,by rw[<- r.length];exact zA.here (b:=V.int ds.length) h rp rfl⟩
 | [.ro ds],rx,h =>
  obtain⟨_,_,rfl,⟨l,ys,rfl,hq,r⟩,rfl⟩:=rx
  exact .inl ⟨ys,.inl hq.sq,by rw[<- r.length];exact zA.here (b:=V.int ds.length) h rp rfl⟩
 | [.ref p],rx,h =>
  obtain⟨_,_,rfl,⟨a,rfl,ea⟩,rfl⟩:=rx
  cases q:S[p]? with
  | none=>simp[M.Zg,q] at h;exact h.elim
  | some o =>
   cases o with
   | lst xs =>
    simp[M.Zg,q] at h
    obtain⟨zs,e1,r⟩:=ql rp ea q
    exact .inl ⟨zs,.inl (SqL.of e1),by rw[<- r.length];exact zA.here (b:=V.int xs.length) h rp rfl⟩
   | dct kvs =>
    simp[M.Zg,q] at h
    obtain⟨ks,e1,r⟩:=Zn rp ea q
    exact .inr ⟨a,ks,rfl,e1,by rw[<- Paired.length r];exact zA.here (b:=V.int kvs.length) h rp rfl⟩
   | fdc _=>simp[M.Zg,q] at h;exact h.elim
   | ins c fs=>simp[M.Zg,q] at h;exact h.elim
 | [.non],_,h=>exact h.elim
 | [.bl _],_,h=>exact h.elim
 | [.int _],_,h=>exact h.elim
 | [.ty _],_,h=>exact h.elim
 | [],_,h=>exact h.elim
 | a::_::_,_,h=>cases a<;>exact h.elim
noncomputable def zEt (K:PySem.W.Frag) (neg:Bool):R2:=fun x y H Q=>uIn K neg x y H Q\/∃ a o,y=.ref a/\Z1 H a x o/\Q (.bl (xor neg o.isSome)) H
theorem zD6 {X:Cx}{k:Nat} (hr:zm k X.A):OpR X (compareOp .NotIn) (zEt X.K true):=by
 refine OpR.or zGn ?_
 intro pins s σ H x y v u Q I rx ry h
 obtain⟨a,o,rfl,g,q⟩:=h
 cases ry
 exact zGy (zFw hr) I g rx fun s' I'=>⟨.bl (!o.isSome),H,I',rfl,by rw[Bool.true_xor] at q;exact q⟩
theorem zBe {ρ:List Addr}{H:Hp}{d:M.D}{v:V} (r:zH K ρ H d v):jp v=M.flat d:=by
 cases d with
 | non=>cases r;rfl
 | bl _=>cases r;rfl
 | int _=>cases r;rfl
 | str _=>obtain⟨rfl,_⟩:=r;rfl
 | ty _=>cases r;rfl
 | ref _=>obtain⟨_,rfl,_⟩:=r;rfl
 | tup _=>obtain⟨_,_,rfl,_⟩:=r;rfl
 | ro _=>obtain⟨_,_,rfl,_⟩:=r;rfl
theorem zGo {ρ:List Addr}{H:Hp}{d e:M.D}{v u:V} (r:zH K ρ H d v) (q:zH K ρ H e u):eqV v u=M.eqF d e:=by
 cases d with
 | non =>
  cases r
  cases e with
  | str _=>obtain⟨rfl,_⟩:=q;rfl
  | ref _=>obtain⟨_,rfl,_⟩:=q;rfl
  | tup _=>obtain⟨_,_,rfl,_⟩:=q;rfl
  | ro _=>obtain⟨_,_,rfl,_⟩:=q;rfl
  | _=>cases q;rfl
 | bl _ =>
  cases r
  cases e with
  | str _=>obtain⟨rfl,_⟩:=q;rfl
  | ref _=>obtain⟨_,rfl,_⟩:=q;rfl
  | tup _=>obtain⟨_,_,rfl,_⟩:=q;rfl
  | ro _=>obtain⟨_,_,rfl,_⟩:=q;rfl
  | _=>cases q;rfl
 | int _ =>
  cases r
  cases e with
  | str _=>obtain⟨rfl,_⟩:=q;rfl
  | ref _=>obtain⟨_,rfl,_⟩:=q;rfl
  | tup _=>obtain⟨_,_,rfl,_⟩:=q;rfl
  | ro _=>obtain⟨_,_,rfl,_⟩:=q;rfl
  | _=>cases q;rfl
 | str x =>
  obtain⟨rfl,_⟩:=r
  cases e with
  | str y=>obtain⟨rfl,_⟩:=q;exact zCW x y
  | ref _=>obtain⟨_,rfl,_⟩:=q;rfl
  | tup _=>obtain⟨_,_,rfl,_⟩:=q;rfl
  | ro _=>obtain⟨_,_,rfl,_⟩:=q;rfl
  | _=>cases q;rfl
 | ty _=>cases r;rfl
 | ref _=>obtain⟨_,rfl,_⟩:=r;rfl
 | tup _=>obtain⟨_,_,rfl,_⟩:=r;rfl
 | ro _=>obtain⟨_,_,rfl,_⟩:=r;rfl
theorem zAY {ρ:List Addr}{H:Hp}:∀ {ds:List M.D}{xs:List V},zF K ρ H ds xs->xs.all jp=ds.all M.flat
 | [],_,r=>by cases r;rfl
 | _::_,_,⟨y,ys,e,r1,r2⟩=>by subst e;rw[List.all_cons,List.all_cons,zBe r1,zAY r2]
theorem zBy {ρ:List Addr}{H:Hp}{x:M.D}{v:V} (rx:zH K ρ H x v):∀ {ds:List M.D}{xs:List V},zF K ρ H ds xs->inV v xs=M.QH x ds
 | [],_,r=>by cases r;rfl
 | _::_,_,⟨y,ys,e,r1,r2⟩=>by
  subst e
  unfold inV M.QH
  rw[List.any_cons,List.any_cons,zGo r1 rx]
  have:=zBy rx r2
  unfold inV M.QH at this
  rw[this]
theorem Qz (a:M.T):∀ b:M.T,M.ZT a b=true ↔ ∃ i,i+a.length <= b.length/\(b.drop i).take a.length=a
 | []=>by
  simp only[M.ZT,List.isEmpty_iff]
  constructor
  ·rintro rfl;exact⟨0,by simp,by simp⟩
  ·rintro ⟨i,h,e⟩
   simp at h
   exact h.2
 | c::r=>by
  simp only[M.ZT,Bool.or_eq_true,Qz a r]
  constructor
  ·rintro (h | ⟨i,h,e⟩)
   ·have:=List.isPrefixOf_iff_prefix.mp h
    exact⟨0,by simpa using this.length_le,by simpa using (List.prefix_iff_eq_take.mp this).symm⟩
   ·exact⟨i+1,by simp;omega,by simpa using e⟩
  ·rintro ⟨i,h,e⟩
   cases i with
   | zero=>left;exact List.isPrefixOf_iff_prefix.mpr (List.prefix_iff_eq_take.mpr (by simpa using e.symm))
   | succ i=>right;exact⟨i,by simp at h;omega,by simpa using e⟩
theorem zDp (a b:M.T) (i:Nat):StrLaws.At (ofT b) (ofT a) (ofT b).length i↔(i+a.length <= b.length/\(b.drop i).take a.length=a):=by
 unfold StrLaws.At Builtin.Str.subAt
 rw[zx,zx]
 refine and_congr_right fun _=>?_
 rw[beq_iff_eq]
 constructor
 ·intro h
  have:=congrArg Array.toList h
  simpa [ofT,List.extract_eq_take_drop] using this
 ·intro h
  apply Array.ext'
  simpa [ofT,List.extract_eq_take_drop] using h
theorem zGG (a b:M.T):(!(Builtin.Str.occurrences (ofT b) (ofT a) 0 (ofT b).length 1).isEmpty)=M.ZT a b:=by
 rcases StrLaws.occ_head (ofT b) (ofT a) 1 (by decide) with ⟨e,h⟩ | ⟨i,r,e,h,_⟩
 ·rw[e]
  have:¬ M.ZT a b=true:=fun q=>by
   obtain⟨i,q⟩:=(Qz a b).mp q
   exact h i ((zDp a b i).mpr q)
  simpa using this
 ·rw[e]
  have:=(Qz a b).mpr ⟨i,(zDp a b i).mp h⟩
  simp[this]
theorem zGi {neg:Bool}{ρ:List Addr}{H:Hp}{S:M.S}{x y:M.D}{X1 Y:V}{Q:VK} (rp:zL K Θ ρ S H) (rx:zH K ρ H x X1) (ry:zH K ρ H y Y) (h:zA K Θ rB ρ H (M.inD x y S) (fun b H'=>Q (.bl (xor neg b)) H')):zEt K neg X1 Y H Q:=by
 have seq:∀ {ds:List M.D}{xs:List V}{a:Addr},(SqL K H a xs\/SqT K H a xs)->zF K ρ H ds xs->zA K Θ rB ρ H (if (M.flat x && ds.all M.flat)=true then M.R.ok (M.QH x ds) S else .no) (fun b H'=>Q (.bl (xor neg b)) H')->uIn K neg X1 (.ref a) H Q:=fun {ds xs a} hq r h'=>by
  by_cases hc:(M.flat x && ds.all M.flat)=true
  ·rw[if_pos hc] at h'
   rw[Bool.and_eq_true,<- zBe rx,<- zAY r] at hc
   have:=zA.here (b:=M.QH x ds) h' rp rfl
   rw[<- zBy rx r] at this
   have g:∃ xs,(SqL K H a xs\/SqT K H a xs)/\jp X1=true/\xs.all jp=true/\Q (.bl (xor neg (inV X1 xs))) H:=⟨xs,hq,hc.1,hc.2,this⟩
   cases X1<;>exact g
  ·rw[if_neg hc] at h';exact h'.elim
 cases y with
 | str b =>
  cases x with
  | str a =>
   obtain⟨rfl,_⟩:=rx
   obtain⟨rfl,_⟩:=ry
   refine .inl ?_
   show Q (.bl (xor neg (!(Builtin.Str.occurrences (ofT b) (ofT a) 0 (ofT b).length 1).isEmpty))) H
   rw[zGG]
   exact zA.here (b:=M.ZT a b) h rp rfl
  | _=>exact h.elim
 | tup ds =>
  obtain⟨l,xs,rfl,hq,r⟩:=ry
  exact .inl (seq (.inr hq) r h)
 | ro ds =>
  obtain⟨l,xs,rfl,hq,r⟩:=ry
  exact .inl (seq (.inl hq.sq) r h)
 | ref p =>
  obtain⟨a,rfl,ea⟩:=ry
  cases q:S[p]? with
  | none=>simp[M.inD,q] at h;exact h.elim
  | some o =>
   cases o with
   | lst ds =>
    obtain⟨zs,e1,r⟩:=ql rp ea q
    refine .inl (seq (.inl (SqL.of e1)) r ?_)
    simp only[M.inD,q] at h
    exact h
   | dct kvs =>
    by_cases hk:M.y7 x=true
    case neg=>simp[M.inD,q,hk] at h;exact h.elim
    simp only[M.inD,q,if_pos hk] at h
    obtain⟨ks,e1,r⟩:=Zn rp ea q
    obtain⟨k,h1,rfl⟩:=Ql hk rx
    have hv:=r.val h1
    refine .inr ⟨a,qD ks k,rfl,Z1.k e1,?_⟩
    have e2:(qD ks k).isSome=(M.qO x kvs).isSome:=by
     cases q2:M.qO x kvs with
     | none=>rw[q2] at hv;rw[hv];rfl
     | some d=>rw[q2] at hv;obtain⟨v,e2,_⟩:=hv;rw[e2];rfl
    rw[e2]
    exact zA.here (b:=(M.qO x kvs).isSome) h rp rfl
   | fdc kvs =>
    by_cases hk:M.y7 x=true
    case neg=>simp[M.inD,q,hk] at h;exact h.elim
    simp only[M.inD,q,if_pos hk] at h
    obtain⟨fo,ks,e1,r⟩:=zDs rp ea q
    obtain⟨k,h1,rfl⟩:=Ql hk rx
    have hv:=r.val h1
    refine .inr ⟨a,qD ks k,rfl,(.inl ⟨ks,k,.inr ⟨fo,e1⟩,rfl,rfl⟩),?_⟩
    have e2:(qD ks k).isSome=(M.qO x kvs).isSome:=by
     cases q2:M.qO x kvs with
     | none=>rw[q2] at hv;rw[hv];rfl
     | some d=>rw[q2] at hv;obtain⟨v,e2,_⟩:=hv;rw[e2];rfl
    rw[e2]
    exact zA.here (b:=(M.qO x kvs).isSome) h rp rfl
   | ins c fs=>simp[M.inD,q] at h;exact h.elim
 | _=>exact h.elim
theorem zEn:AdC K Θ M.zBJ (zEt K true):=by
 intro ρ H S x y X1 Y Q rp rx ry h
 exact zGi rp rx ry (zA.bind h fun ρ1 H1 b b' S1 p1 l1 rp1 e h1=>by cases e;rw[Bool.true_xor];exact zA.here (b:=!b) h1 rp1 rfl)
theorem JC {X:Cx}:yn X [] (RdT X.K Θ M.qu):=fun pins s σ H Q I ⟨ρ,σ',S,st,rp,h⟩=>zEh pins s σ H Q I (zA.here (b:=true) h rp rfl)
theorem zHa {X:Cx}{c:Expr}{t:M.TM} (h:WT X Θ c t):yn X [c] (RdT X.K Θ t):=zFP (by with_unfolding_all exact h)
theorem zBX {ρ:List Addr}{H:Hp}:∀ ns:List Int,zF K ρ H (ns.map .int) (ns.map V.int)
 | []=>rfl
 | n::ns=>⟨_,_,rfl,rfl,zBX ns⟩
theorem zHX {f:M.F} (ht:∀ ns:List Int,ns.length <= 63->∃ s,f [.ro (ns.map .int)] []=.ok (.bl true) s) {H:Hp}{a:Addr}{ns:List Int}{E:XK} (hl:ns.length <= 63) (hO:zC9 H) (hS:SqL K H a (ns.map V.int)):SpM K Θ 1 f [.ref a] H (fun v _=>v=.bl true) E:=by
 obtain⟨s,e⟩:=ht ns hl
 refine⟨[],[.ro (ns.map .int)],[],rfl,⟨_,_,rfl,⟨a,ns.map V.int,rfl,?_,zBX ns⟩,rfl⟩,⟨rfl,List.nodup_nil,fun i o q=>by simp at q⟩,?_⟩
 ·rcases hS with (h | h) | h
  ·rcases hO a with z | ⟨o,xs,z⟩
   ·rw[h] at z;cases z
   ·rw[h] at z;cases z
  ·exact .inl h
  ·exact .inr h
 ·rw[e]
  exact fun ρ' H' b _ _ _ r=>r
end
theorem zEX:bootBuiltins "sorted" = some (.builtin "sorted"):=by decide +kernel
theorem zD3:bootBuiltins "min" = some (.builtin "min"):=by decide +kernel
end L2
namespace L2
open PySem PySem.Spec PyProof.Rows PySem.Builtin.Str
section
variable {K:PySem.W.Frag}{Θ:Tab}
theorem QY (c:Nat):∀ l:M.T,M.zo c l=TX.z3 c l
 | []=>rfl
 | d::r=>by
  unfold M.zo TX.z3
  rw[QY c r]
  rfl
theorem JU (c:Nat):∀ (l p:List Nat),p∈TX.z3 c l->∀ x∈p,x∈l
 | [],p,hp,x,hx=>by
  simp only[TX.z3,List.mem_cons,List.not_mem_nil,or_false] at hp
  subst hp
  exact absurd hx (by simp)
 | d::r,p,hp,x,hx=>by
  have ih:=JU c r
  unfold TX.z3 at hp
  split at hp
  ·rcases List.mem_cons.mp hp with rfl | hp
   ·cases hx
   ·exact List.mem_cons_of_mem _ (ih p hp x hx)
  ·cases q:TX.z3 c r with
   | nil=>exact absurd q (TX.zDb c r)
   | cons a as =>
    rw[q] at hp ih
    rcases List.mem_cons.mp hp with rfl | hp
    ·rcases List.mem_cons.mp hx with rfl | hx
     ·exact List.mem_cons_self
     ·exact List.mem_cons_of_mem _ (ih a List.mem_cons_self x hx)
    ·exact List.mem_cons_of_mem _ (ih p (List.mem_cons_of_mem _ hp) x hx)
theorem Z6 {ρ:List Addr}{H:Hp}:∀ (ts:List M.T),(∀ t∈ts,okT t)->zF K ρ H (ts.map .str) ((ts.map ofT).map V.str)
 | [],_=>rfl
 | t::ts,h=>⟨_,_,rfl,⟨rfl,h t List.mem_cons_self⟩,Z6 ts fun x hx=>h x (List.mem_cons_of_mem _ hx)⟩
theorem zE3:AdM K Θ M.JV zDY:=by
 intro ρ H S x xs X Xs Q rp rx rxs h
 unfold M.JV at h
 split at h
 ·rename_i z c
  obtain⟨rfl,okz⟩:=rx
  obtain⟨Y,r,rfl,⟨rfl,okc⟩,rfl⟩:=rxs
  split at h
  ·rename_i hl
   refine⟨ofT z,ofT [c],rfl,rfl,rfl,by rw[zx,<- yI];exact hl,fun p hp=>?_⟩
   rw[show ofT [c]=⟨#[c]⟩ from rfl,TX.zEg,jf,<- QY]
   refine h.alloc rp (Z6 (M.zo c z) fun t ht=>ZE okz fun d hd=>?_) hp
   rw[QY] at ht
   exact JU c z t ht d hd
  ·exact h.elim
 ·exact h.elim
theorem ZH {ρ:List Addr}{H:Hp}{S:M.S}{p:Nat}{X:V}{ds:List M.D} (rp:zL K Θ ρ S H) (rx:zH K ρ H (.ref p) X) (e:S[p]? = some (.lst ds)):∃ a xs,X=.ref a/\ρ[p]? = some a/\H a=some (.lst xs)/\zF K ρ H ds xs:=by
 obtain⟨a,rfl,ha⟩:=rx
 obtain⟨b,hb,xs,hx,r⟩:=rp.obj p _ e
 rw[ha] at hb;cases hb
 exact⟨a,xs,rfl,ha,hx,r⟩
theorem Qf {H:Hp}{a:Addr}{xs:List V} (h:H a=some (.lst xs)):Mut (H a):=by rw[h];trivial
theorem zAp:AdM K Θ M.q8 zCR:=by
 intro ρ H S x xs X Xs Q rp rx rxs h
 unfold M.q8 at h
 split at h
 ·rename_i p y
  obtain⟨Y,r,rfl,ry,rfl⟩:=rxs
  split at h
  ·rename_i ds e
   obtain⟨a,zs,rfl,ha,hx,rz⟩:=ZH rp rx e
   split at h
   ·rename_i hl
    have le:=Le.put (Qf hx) (.lst (zs++[Y]))
    refine⟨a,zs,Y,rfl,rfl,hx,by rw[<- yI,<- rz.length];exact hl,?_⟩
    exact h ρ _ _ (List.prefix_refl _) le (rp.put ha (Qf hx) ⟨_,jm,(rz.mono (List.prefix_refl _) le).app ⟨_,_,rfl,ry.mono (List.prefix_refl _) le,rfl⟩⟩) rfl
   ·exact h.elim
  ·exact h.elim
 ·exact h.elim
end
end L2
namespace L2
open PySem PySem.Spec PyProof.Rows PySem.Builtin.Str
section
variable {K:PySem.W.Frag}{Θ:Tab}
theorem zCJ (x:M.T) (a b:Nat):Txt.replace (ofT x) (ofT [a]) (ofT [b])=ofT (x.map fun c=>if c=a then b else c):=by
 have h:=TX.zA0 (ofT x) a b
 have e:∀ s:Str,s=ofT s.cps.toList:=fun s=>by cases s;simp[ofT]
 rw[e (Txt.replace (ofT x) (ofT [a]) (ofT [b]))]
 show ofT (Txt.replace (ofT x) ⟨#[a]⟩ ⟨#[b]⟩).cps.toList=_
 rw[h,jf]
theorem zGU {X:Cx}{o:Expr}{to:TE}{y z:Str}{j k:Nat}{p1 p2 apos cpos:Pos} (ho:PE X o to) (hyz:(y == z)=false) (hbase:attributeBase o "replace" X.env (eval o X.env)=eval o X.env:=by rfl) (hline:(apos.endLine == cpos.line)=true:=by rfl) :
  PE X (.Call (.Attribute o "replace" apos) [.Constant (.str y) j p1,.Constant (.str z) k p2] [] cpos) (fun σ H Q=>to σ H fun x H1=>∃ a,x=.str a/\a.length+(a.length+1) * z.length <= 16777216/\Q (.str (Txt.replace a y z)) H1):=by
 intro pins s σ H Q I h
 refine wpAny_Call_method_late hbase rfl hline rfl (thn (ho pins s σ H _ I h) fun v s1 ⟨x,H1,I1,r1,a,ex,hb,q⟩=>?_)
 subst ex
 obtain⟨h1,h2⟩:=zED (T := "str") I1 r1 rfl
 obtain⟨t,rfl⟩:=r1
 refine⟨"str","str.replace",PySem.F.plainAttrs_str,PySem.F.slot_str_replace,PySem.F.type_str_replace,h1,h2,?_⟩
 refine Calls.callWith_builtin rfl (Calls.evalArgs_plain ?_)
 show wpAny _ _ (spliced [(false,eval (.Constant (.str y) j p1) X.env),(false,eval (.Constant (.str z) k p2) X.env)]) _ _ s1
 refine Calls.spliced_cons (Calls.Constant_str (Calls.spliced_cons (Calls.Constant_str (Calls.spliced_nil ?_))))
 have hp:=I1.tk
 exact wpAny_with_toks (n:=1) (show 1 <= s1.toks+1+1 by omega) (SC.replace (u:=s1.toks) (v:=s1.toks+1) (Nat.ne_of_gt hp) (Nat.succ_ne_zero _) (Nat.ne_of_lt (Nat.lt_succ_self _)) hyz hb fun t' k hk=>⟨.str _,H1,I1.tok k hk,⟨_,rfl⟩,q⟩)
theorem zGC {X:Cx}{o:Expr}{mo:M.EM}{y z:Str}{a b:Nat}{j k:Nat}{p1 p2 apos cpos:Pos} (ho:ME X Θ o mo) (hy:y=ofT [a]) (hz:z=ofT [b]) (hab:(a == b)=false) (hok:okT [b]) (hbase:attributeBase o "replace" X.env (eval o X.env)=eval o X.env:=by rfl) (hline:(apos.endLine == cpos.line)=true:=by rfl) :
  ME X Θ (.Call (.Attribute o "replace" apos) [.Constant (.str y) j p1,.Constant (.str z) k p2] [] cpos) (M.eM .str M.Z4 mo (M.zC (M.eC (.str [a])) (M.zC (M.eC (.str [b])) M.zK))):=by
 have hyz:(y == z)=false:=by
  cases q:y == z with
  | false=>rfl
  | true =>
   have e:=eq_of_beq q
   rw[hy,hz] at e
   have e2:=Zs e
   cases e2
   simp at hab
 refine (zGU ho hyz hbase hline).imp fun σ H Q ⟨ρ,σ',S,st,rp,h⟩=>⟨ρ,σ',S,st,rp,zA.bind h fun ρ1 H1 x X1 S1 p1 l1 rp1 rx h1=>?_⟩
 cases x with
 | str w =>
  obtain⟨rfl,okw⟩:=rx
  have h2:zA X.K Θ (zH X.K) ρ1 H1 (if 2 * w.length+1 <= M.SZ then .ok (.str (w.map fun c=>if c=a then b else c)) S1 else .no) Q:=h1
  by_cases hl:2 * w.length+1 <= M.SZ
  ·rw[if_pos hl] at h2
   refine⟨ofT w,rfl,?_,?_⟩
   ·rw[hz,zx,zx]
    have:M.SZ=16777216:=rfl
    simp only[List.length_cons,List.length_nil]
    omega
   ·rw[hy,hz,zCJ]
    refine zA.here h2 rp1 ⟨rfl,List.all_eq_true.mpr fun c hc=>?_⟩
    obtain⟨d,hd,rfl⟩:=List.mem_map.mp hc
    split
    ·exact List.all_eq_true.mp hok b (by simp)
    ·exact List.all_eq_true.mp okw d hd
  ·rw[if_neg hl] at h2;exact h2.elim
 | non=>exact h1.elim
 | bl _=>exact h1.elim
 | int _=>exact h1.elim
 | ty _=>exact h1.elim
 | tup _=>exact h1.elim
 | ro _=>exact h1.elim
 | ref p =>
  have h2:zA X.K Θ (zH X.K) ρ1 H1 (if M.qx .str (.ref p) S1 then _ else .no) Q:=h1
  have e:M.qx .str (.ref p) S1=false:=by
   simp only[M.qx]
   cases S1[p]? with
   | none=>rfl
   | some o=>cases o<;>rfl
  rw[e] at h2
  exact h2.elim
theorem zD8 {X:Cx}{o:Expr}{mo:M.EM}{y z:Str}{a b:Nat}{j k:Nat}{p1 p2 apos cpos:Pos} (ho:WE X Θ o mo) (hy:y=ofT [a]) (hz:z=ofT [b]) (hab:(a == b)=false) (hok:okT [b]) (hbase:attributeBase o "replace" X.env (eval o X.env)=eval o X.env:=by rfl) (hline:(apos.endLine == cpos.line)=true:=by rfl) :
  WE X Θ (.Call (.Attribute o "replace" apos) [.Constant (.str y) j p1,.Constant (.str z) k p2] [] cpos) (M.eM .str M.Z4 mo (M.zC (M.eC (.str [a])) (M.zC (M.eC (.str [b])) M.zK))):=by with_unfolding_all exact zGC (X:=X) (o:=o) (mo:=mo) (y:=y) (z:=z) (a:=a) (b:=b) (j:=j) (k:=k) (p1:=p1) (p2:=p2) (apos:=apos) (cpos:=cpos) ho hy hz hab hok hbase hline
end
end L2
namespace L2
open PySem PySem.Spec PyProof.Rows
section
variable {K:PySem.W.Frag}{Θ:Tab}
theorem zBl:∀ {xs:List V}{us:List Value},xs.length=us.length->(∀ (j:Nat) u,us[j]? = some u->∃ x,xs[j]? = some x/\zV x u)->zJ xs us
 | [],[],_,_=>.nil
 | [],_::_,h,_=>by simp at h
 | _::_,[],h,_=>by simp at h
 | x::xs,u::us,h,k=>by
  obtain⟨y,e,r⟩:=k 0 u rfl
  cases e
  exact .cons r (zBl (by simpa using h) fun j u hu=>by
   obtain⟨y,e,r⟩:=k (j+1) u (by simpa using hu)
   exact⟨y,by simpa using e,r⟩)
theorem zH4 {P:Program}{w:World}{k:Key}{v:Value} (h:(jh P w).is k v=true):zV (kV k) v:=by
 rcases jG (k:=k) (v:=v) h with ⟨i,t,rfl,rfl⟩ | ⟨x,t,rfl,rfl⟩
 ·exact⟨t,rfl⟩
 ·exact⟨t,rfl⟩
noncomputable def zDi (K:PySem.W.Frag):List V->Hp->VK->Prop:=fun xs H Q=>(∃ p ys,xs=[.ref p]/\(SqL K H p ys\/SqT K H p ys)/\∀ l,H l=none->Q (.ref l) (upd H l (.lst ys))) \/
 ∃ p ks,xs=[.ref p]/\H p=some (.dK ks)/\∀ l,H l=none->Q (.ref l) (upd H l (.lst (ks.map fun kv=>kV kv.1)))
theorem zC2 {X:Cx}{k:Nat} (hr:zm k X.A):z8 X (.type "list") (zDi X.K):=by
 intro pins s σ H xs us Q I r h
 rcases h with h | ⟨p,ks,rfl,hp,q⟩
 ·exact zBz pins s σ H xs us Q I r h
 ·obtain⟨u,rfl,ru⟩:=yK r
  cases ru
  obtain⟨z,lo,vs,rv,dd⟩:=JP I.hok hp
  obtain⟨ep,da⟩:=dd.dictAt
  have hl:=rv.length
  refine wpAny_with_toks (n:=1) I.tk (PySem.W.kdl_call (PySem.W.kdl_dict lo) hr.hd da (by omega) fun h' tk acc c' keep hS it htk=>?_)
  obtain⟨hsz,hit⟩:=it
  refine⟨.ref s.heap.objs.size,_,I.laid (t':=tk) (o:=.lst (ks.map fun kv=>kV kv.1)) keep (Nat.le_refl _) ⟨by rw[List.length_map];exact z,acc.toList,c',zBl (by simp;omega) fun j u hu=>?_,by simpa using hS⟩ htk,rfl,q _ (I.hok.fresh (Nat.le_refl _))⟩
  obtain⟨k,x,e,hk⟩:=hit j u (by simpa using hu)
  have hj:j < ks.length:=by have:=(List.getElem?_eq_some_iff.mp e).1;omega
  have ek:(ks.map (·.1))[j]? = some k:=by rw[rv.keys,List.getElem?_map,e];rfl
  refine⟨kV k,?_,zH4 hk⟩
  rw[List.getElem?_map] at ek ⊢
  cases q2:ks[j]? with
  | none=>rw[q2] at ek;cases ek
  | some kv=>rw[q2] at ek;cases ek;rfl
theorem zBq {ρ:List Addr}{H:Hp}:∀ {kvs:List (M.D×M.D)}{ks:List (Key×V)},DR K ρ H kvs ks->zF K ρ H (kvs.map (·.1)) (ks.map fun kv=>kV kv.1)
 | _,_,.nil=>rfl
 | (d,_)::_,(k,_)::_,.cons h t=>by
  refine⟨_,_,rfl,?_,zBq t⟩
  have h1:Zl d k:=h.1
  cases d with
  | int i=>cases h1;rfl
  | str x=>obtain⟨rfl,ok⟩:=h1;exact⟨rfl,ok⟩
  | _=>exact h1.elim
theorem zG0:AdN K Θ M.zCf (zDi K):=by
 intro ρ H S xs Xs Q rp rxs h
 unfold M.zCf at h
 split at h
 ·obtain⟨Y,r,rfl,⟨a,zs,rfl,hq,rz⟩,rfl⟩:=rxs
  exact .inl ⟨a,zs,rfl,.inr hq,fun p hp=>zA.alloc h rp rz hp⟩
 ·obtain⟨Y,r,rfl,⟨a,zs,rfl,hq,rz⟩,rfl⟩:=rxs
  exact .inl ⟨a,zs,rfl,.inl hq.sq,fun p hp=>zA.alloc h rp rz hp⟩
 ·rename_i p
  obtain⟨Y,r,rfl,ry,rfl⟩:=rxs
  split at h
  ·rename_i ds e
   obtain⟨a,zs,rfl,ha,hx,rz⟩:=ZH rp ry e
   exact .inl ⟨a,zs,rfl,.inl (SqL.of hx),fun p hp=>zA.alloc h rp rz hp⟩
  ·rename_i kvs e
   obtain⟨a,rfl,ha⟩:=ry
   obtain⟨ks,e2,r⟩:=Zn rp ha e
   exact .inr ⟨a,ks,rfl,e2,fun p hp=>zA.alloc h rp (zBq r) hp⟩
  ·exact h.elim
 ·exact h.elim
noncomputable def Qd {α:Type} (c:α->α->Bool) (y:α) (ys:List α):α:=ys.foldl (fun b z=>if c z b then z else b) y
theorem zB4 {α:Type} (c:α->α->Bool) (y:α) (ys:List α):∀ k,k <= ys.length->(y::ys).getD (argBest (fun i j=>c ((y::ys).getD i y) ((y::ys).getD j y)) k) y=Qd c y (ys.take k)
 | 0,_=>rfl
 | k+1,h=>by
  have ih:=zB4 c y ys k (by omega)
  have e:ys.take (k+1)=ys.take k++[(y::ys).getD (k+1) y]:=by
   rw[List.take_succ,List.getElem?_eq_getElem (by omega)]
   simp[List.getD_eq_getElem?_getD,show k < ys.length by omega]
  rw[e]
  unfold Qd at ih ⊢
  rw[List.foldl_append,<- ih]
  show (y::ys).getD (if c ((y::ys).getD (k+1) y) ((y::ys).getD (argBest _ k) y) then k+1 else argBest _ k) y=_
  split
  ·rename_i hc;simp only[List.foldl_cons,List.foldl_nil];rw[if_pos hc]
  ·rename_i hc;simp only[List.foldl_cons,List.foldl_nil];rw[if_neg hc]
theorem Jv {ys:List Str}{its:List Value} (r:zJ (ys.map V.str) its) {i:Nat}{v:Value} (h:its[i]? = some v) (d:Str):∃ t,v=.str (ys.getD i d) t:=by
 have hl:=r.length
 have hi:i < its.length:=(List.getElem?_eq_some_iff.mp h).1
 rw[List.length_map] at hl
 obtain⟨u,hu,ru⟩:=r.get (i:=i) (x:=V.str (ys.getD i d)) (by rw[List.getElem?_map,List.getD_eq_getElem?_getD,List.getElem?_eq_getElem (by omega)];rfl)
 rw[h] at hu
 cases hu
 exact ru
noncomputable def zFo (K:PySem.W.Frag) (c:Str->Str->Bool):List V->Hp->VK->Prop:=fun xs H Q=>∃ p y ys,xs=[.ref p]/\SqL K H p ((y::ys).map V.str)/\Q (.str (Qd c y ys)) H
noncomputable def ltS (x y:Str):Bool:=decide (x.cps.toList < y.cps.toList)
theorem zAf {X:Cx}{k:Nat} (hr:zm k X.A):z8 X (.builtin "min") (zFo X.K ltS):=by
 intro pins s σ H xs us Q I r h
 obtain⟨p,y,ys,rfl,hq,q⟩:=h
 obtain⟨u,rfl,ru⟩:=yK r
 cases ru
 obtain⟨its,rv,pl,hz⟩:=I.list hq
 have hlen:its.length=ys.length+1:=by have:=rv.length;simp at this;omega
 obtain⟨o,ho,ho2⟩:=pl.isList
 have hlt:p < s.heap.objs.size:=Heap.lt_size ho
 refine wpAny_with_toks (n:=1) I.tk (call_min_walk (wpAny_pyIter_list pl.isList ?_))
 refine⟨s.heap.objs.size,_,_,_,_,_,fun i j=>ltS ((y::ys).getD i y) ((y::ys).getD j y),rfl,Walks.list (show X.A.in1.handled=none from hr.hd) s.heap.objs.size p (Nat.ne_of_lt hlt) its.toArray,⟨⟨_,Heap.get?_push_size _ rfl,rfl,rfl⟩,pl.isList.push _⟩,?_,by simp[hlen],?_,fun v h' tk hP hk htk=>?_⟩
 ·intro b hb
  rw[Heap.size_push]
  rcases List.mem_cons.mp hb with rfl | hb
  ·exact Nat.lt_succ_self _
  ·have:b=p:=by simpa using hb
   rw[this];exact Nat.lt_succ_of_lt hlt
 ·intro i j vi vj s' Q' E' hi hj hQ
  obtain⟨t,rfl⟩:=Jv rv (v:=vi) (by simpa using hi) y
  obtain⟨t',rfl⟩:=Jv rv (v:=vj) (by simpa using hj) y
  exact lt_str hQ
 ·have hk':∀ b o,s.heap.get? b=some o->h'.get? b=some o:=fun b o e=>hk b o (by simpa using Nat.ne_of_lt (Heap.lt_size e)) (Heap.get?_push_of_some _ e)
  obtain⟨t,rfl⟩:=Jv rv (v:=v) (i:=argBest (fun i j=>ltS ((y::ys).getD i y) ((y::ys).getD j y)) (its.toArray.size - 1)) (by rw[<- List.getElem?_toArray];exact hP) y
  refine⟨.str (Qd ltS y ys),H,I.kept hk' htk,⟨t,?_⟩,q⟩
  rw[show its.toArray.size - 1=ys.length by simp[hlen],zB4 ltS y ys ys.length (Nat.le_refl _),List.take_length]
theorem zBL {c:Str->Str->Bool}{d:M.T->M.T->Bool} (h:∀ x y,c (ofT x) (ofT y)=d x y):∀ (ys:List M.T) (y:M.T),Qd c (ofT y) (ys.map ofT)=ofT (ys.foldl (fun b z=>if d z b then z else b) y)
 | [],y=>rfl
 | z::ys,y=>by
  have ih:=zBL h ys
  unfold Qd at ih ⊢
  rw[List.map_cons,List.foldl_cons,List.foldl_cons,h]
  split
  ·exact ih z
  ·exact ih y
theorem zCS {f:M.T->M.T->Bool}:∀ (ys:List M.T) (y:M.T),okT y->(∀ t∈ys,okT t)->okT (ys.foldl (fun b z=>if f z b then z else b) y)
 | [],_,h,_=>h
 | z::ys,y,h,k=>by
  rw[List.foldl_cons]
  refine zCS ys _ ?_ fun t ht=>k t (List.mem_cons_of_mem _ ht)
  split
  ·exact k z List.mem_cons_self
  ·exact h
theorem zET:AdN K Θ M.ZA (zFo K ltS):=by
 intro ρ H S xs Xs Q rp rxs h
 unfold M.ZA M.zFL at h
 split at h
 ·rename_i p
  obtain⟨Y,r,rfl,ry,rfl⟩:=rxs
  split at h
  ·rename_i ds e
   have e':S[p]? = some (.lst ds):=by
    unfold M.zT at e
    split at e
    ·rename_i ds' e1;cases e;exact e1
    ·cases e
   obtain⟨a,zs,rfl,ha,hx,rz⟩:=ZH rp ry e'
   unfold M.zFN at h
   split at h
   ·rename_i ts et
    obtain⟨rfl,hok⟩:=yy et rz
    split at h
    ·rename_i y ey
     cases ts with
     | nil=>cases ey
     | cons t ts =>
      cases ey
      refine⟨a,ofT t,ts.map ofT,rfl,SqL.of hx,?_⟩
      rw[zBL (d:=fun x y=>decide (x < y)) (fun x y=>by unfold ltS;rw[jf,jf])]
      have e3:(ts.foldl (fun b z=>if (fun x y=>decide (x < y)) z b then z else b) t)=ts.foldl (fun b y=>if y < b then y else b) t:=by
       congr 1
       funext b z
       simp
      refine zA.here h rp ⟨by rw[e3],?_⟩
      have:=zCS (f:=fun x y=>decide (x < y)) ts t (hok t (by simp)) fun u hu=>hok u (by simp[hu])
      rwa [e3] at this
    ·exact h.elim
   ·exact h.elim
  ·exact h.elim
 ·exact h.elim
theorem zDv {α:Type} (xs:List α):(List.range xs.length).filterMap (xs[·]?)=xs:=by
 induction xs with
 | nil=>rfl
 | cons x xs ih =>
  rw[List.length_cons,List.range_succ_eq_map,List.filterMap_cons,List.filterMap_map]
  simp only[List.getElem?_cons_zero]
  congr 1
theorem zE6 (its:List Value):slicePick its.toArray none none (some (-1))=its.reverse.toArray:=by
 unfold slicePick
 have hb:sliceBounds none none (some (-1)) its.toArray.size=((its.length:Int) - 1,-1,-1):=by
  simp[sliceBounds]
 rw[hb]
 have hr:sliceRange ((its.length:Int) - 1) (-1) (-1)=(List.range its.length).reverse:=by
  unfold sliceRange
  have e:(if (-1:Int) > 0 then (if (its.length:Int) - 1 < -1 then (-1 - ((its.length:Int) - 1) + -1 - 1) / -1 else 0) else (if (its.length:Int) - 1 > -1 then ((its.length:Int) - 1 - -1 - -1 - 1) / - -1 else 0)).toNat=its.length:=by
   rw[if_neg (by decide)]
   split
   ·rw[show (- -1:Int)=1 by decide,Int.ediv_one];omega
   ·omega
  dsimp only
  rw[e]
  apply List.ext_getElem
  ·simp
  ·intro i h1 h2
   simp at h1 ⊢
   omega
 dsimp only
 rw[hr,List.filterMap_reverse]
 congr 2
 have:=zDv its
 simpa using this
theorem zHx {X:Cx}{e st:Expr}{te:TE}{p2 pos:Pos} (he:PE X e te) (hst:PE X st (tC (.int (-1)))):PE X (.Subscript e (.Slice none none (some st) p2) pos) (fun σ H Q=>te σ H fun x H1=>∃ a xs,x=.ref a/\SqL X.K H1 a xs/\∀ p,H1 p=none->Q (.ref p) (upd H1 p (.lst xs.reverse))):=by
 intro pins s σ H Q I h
 refine Subscript_ (thn (he pins s σ H _ I h) fun v s1 ⟨x,H1,I1,r1,q1⟩=>?_)
 obtain⟨a,xs,rfl,hq,q⟩:=q1
 cases r1
 refine wpAny_Slice ?_
 rw[evalPart_none]
 refine wpAny_pure (wpAny_pure ?_)
 rw[evalPart_some]
 refine thn (hst pins s1 σ H1 (fun v H'=>v=.int (-1)/\H'=H1) I1 ⟨rfl,rfl⟩) fun u s2 ⟨y,H2,I2,r2,ey,eh⟩=>?_
 subst ey
 subst eh
 obtain⟨t,rfl⟩:=r2
 have I4:Inv X pins σ H2 { s2 with heap:=s2.heap.push { cls:=.type "slice",data:=.fields #[.none,.none,.int (-1) t] } }:=I2.kept (t':=s2.toks) fun b ob q=>Heap.get?_push_of_some _ q
 obtain⟨its,r,ht,hz⟩:=I4.list hq
 have hlen:=r.length
 show wpAny (model X.prog X.w) X.A (subscriptTail e (.Slice none none (some st) p2) (.ref a) (.ref s2.heap.objs.size)) (EP X pins σ Q) X.xe { s2 with heap:=s2.heap.push { cls:=.type "slice",data:=.fields #[.none,.none,.int (-1) t] } }
 refine tail_any (ops:=[.ref a,.ref s2.heap.objs.size]) ht.isList.typeIs slot_list_getitem.lookup ?_ (by with_unfolding_all rfl)
 refine wpAny_getItem_list_slice ht.isList (Heap.IsSliceOf.new ..) .none .none (.int (-1) t) (by decide) ?_ (by rw[List.size_toArray]<;>omega)
 rw[zE6]
 refine⟨.ref _,_,I4.laid (t':=s2.toks) (o:=.lst xs.reverse) (fun b ob q=>Heap.get?_push_of_some _ q) (Nat.le_refl _) ?_,rfl,q _ (I4.hok.fresh (Nat.le_refl _))⟩
 exact⟨by rw[List.length_reverse];exact hz,_,0,r.reverse,Heap.get?_push_size _ rfl⟩
end
end L2
namespace L2
open PySem PySem.Spec PyProof.Rows
section
variable {P:Program}{w:World}{A:Around}{E:Value->Shared->Prop}{s:Shared}
noncomputable def zI1 (h:Heap) (z TI TO:Addr) (f0:Value) (b:Bool):Prop:=h.get? z=some { cls:=.type "zip",dict:=none,data:=.fields #[f0,.bool b,.bool false,.ref TI,.ref TO],slots:=#[] }
structure ZSt (z TI TO i1 i2 l1 l2:Addr) (xs ys:Array Value) (i:Nat) (h:Heap):Prop where
 zp:∃ f0 b,zI1 h z TI TO f0 b/\((i=0/\f0=.none)\/∃ (T:Addr) (o:Obj),f0=rawInt T/\h.get? T=some o)
 ti:IsPair h TI (.ref i1) (.ref i2)
 to:∃ a b,IsPair h TO a b
 n1:h.IsTupleIter i1 l1 i
 n2:h.IsTupleIter i2 l2 i
 t1:h.IsTuple l1 xs
 t2:h.IsTuple l2 ys
structure ZLp (lo z TO i1 i2 S:Addr) (xs ys:List Value) (h0 h:Heap) (ps:List Addr):Prop where
 its:∀ (j:Nat) p,ps[j]? = some p->lo <= p/\∃ x y,xs[j]? = some x/\ys[j]? = some y/\IsPair h p x y
 keep:∀ b o,b≠S->b≠z->b≠TO->b≠i1->b≠i2->h0.get? b=some o->h.get? b=some o
 nd:ps.Nodup
end
end L2
namespace L2
open PySem PySem.Spec PyProof.Rows
inductive zFJ:Hp->List (V×V)->List V->Hp->Prop
 | nil (H:Hp):zFJ H [] [] H
 | cons {H H':Hp}{a:Addr}{x y:V}{r:List (V×V)}{zs:List V} (h:H a=none) (t:zFJ (upd H a (.tup [x,y])) r zs H'):zFJ H ((x,y)::r) (.ref a::zs) H'
noncomputable def zFq:List V->Hp->VK->Prop:=fun xs H Q=>∃ i,xs=[.int i]/\i.natAbs.log2 < 1920/\Q (.str (toString i)) H
theorem zAR {X:Cx}:z8 X (.type "str") zFq:=zBm
theorem zCq (i:Int):(Str.ofString (toString i))=ofT (M.ZQ i):=by
 rw[Str.ofString_eq_toList];rfl
theorem zCn (i:Int):okT (M.ZQ i):=List.all_eq_true.mpr fun c hc=>by
 obtain⟨d,_,rfl⟩:=List.mem_map.mp hc
 have:=d.valid
 rw[decide_eq_true_iff]
 rcases this with h | h
 ·exact Nat.lt_trans h (by decide)
 ·exact h.2
theorem zES {K:PySem.W.Frag}{Θ:Tab}:AdN K Θ M.zBY zFq:=by
 intro ρ H S xs Xs Q rp rxs h
 unfold M.zBY at h
 split at h
 ·rename_i i
  obtain⟨Y,r,rfl,ry,rfl⟩:=rxs
  cases ry
  by_cases hc:M.zv i=true
  ·rw[if_pos hc] at h
   unfold M.zv at hc
   rw[decide_eq_true_iff] at hc
   refine⟨i,rfl,?_,?_⟩
   ·by_cases hz:i.natAbs=0
    ·rw[hz];decide
    ·exact Nat.lt_trans ((Nat.log2_lt hz).mpr (show i.natAbs < 2 ^ 64 from hc)) (by decide)
   ·show Q (.str (Str.ofString (toString i))) H
    rw[zCq]
    exact zA.here h rp ⟨rfl,zCn i⟩
  ·rw[if_neg hc] at h
   exact h.elim
 ·exact h.elim
end L2
namespace L2
open PySem PySem.Spec PyProof.Rows
structure zJS (K:PySem.W.Frag) (Θ:Tab) (c:Nat) (C:Addr) (N:List Str):Prop where
 tab:Θ c=some (C,N)
 cl:Cls K C
 no:∀ f∈N,zHv K C f
 few:N.length < 999
 nd:N.Nodup
structure zJR (P:Program) (w:World) (K:PySem.W.Frag) (mg:Str->Option Value) (base:Heap) (C:Addr) (m:Str) (k:Nat) (ps:List Str) (sp:Sp):Prop where
 ex:∃ f fd,jM P w K mg base CX0 k f fd ps sp/\Zc K fd ps []/\zIz K C m f
structure zJT (P:Program) (w:World) (K:PySem.W.Frag) (mg:Str->Option Value) (base:Heap) (C:Addr) (x:Str) (k:Nat) (ps:List Str) (sp:Sp):Prop where
 ex:∃ f fd,jM P w K mg base CX0 k f fd ps sp/\Zc K fd ps []/\Mk K C f/\mg x=some (.ref C)
end L2
namespace L2
open PySem PySem.Spec PyProof.Rows
noncomputable def SIt (b:Bool) (h:Heap) (it a:Addr) (i:Nat):Prop:=match b with | true=>h.IsListIter it a i | false=>h.IsTupleIter it a i
section
variable {P:Program}{w:World}{A:Around}{E:Value->Shared->Prop}{s:Shared}
structure ZAt (b1 b2:Bool) (z TI TO i1 i2 l1 l2:Addr) (i:Nat) (h:Heap):Prop where
 zp:IsZip h z TI TO .none
 ti:IsPair h TI (.ref i1) (.ref i2)
 to:∃ a b,IsPair h TO a b
 n1:SIt b1 h i1 l1 i
 n2:SIt b2 h i2 l2 i
end
section
variable {Θ:Tab}
theorem zAa {S:M.S}{p:Nat}{ds:List M.D} (e:M.zT S p=some ds):S[p]? = some (.lst ds):=by
 unfold M.zT at e
 split at e
 ·rename_i ds' e1;cases e;exact e1
 ·cases e
end
end L2
namespace L2
open PySem PySem.Spec PyProof.Rows
section
variable {P:Program}{w:World}{A:Around}{E:Value->Shared->Prop}{s:Shared}
set_option maxHeartbeats 4000000 in
end
end L2
namespace L2
open PySem PySem.Spec PyProof.Rows
section
variable {K:PySem.W.Frag}{Θ:Tab}{ρ:List Addr}{H H':Hp}
section
variable {a:Addr}{o:Obj}{ks:List (Key×V)} (ha:H a=some (.frz o (.dK ks)))
include ha
end
end
end L2
namespace L2
open PySem PySem.Spec PyProof.Rows
theorem Je:∀ {us:List Value}{ys:List Str},StrsAre us ys->zJ (ys.map V.str) us
 | _,_,.nil=>.nil
 | _,_,.cons x t r=>.cons ⟨t,rfl⟩ (Je r)
noncomputable def zFr (K:PySem.W.Frag):List V->Hp->VK->Prop:=fun xs H Q=>∃ p ys,xs=[.ref p]/\SqL K H p (ys.map V.str)/\ys.length <= 16777216/\∀ q ys',H q=none->ys'.Perm ys->sortedS ys'=true->Q (.ref q) (upd H q (.lst (ys'.map V.str)))
theorem zBu {X:Cx}{k:Nat} (hr:zm k X.A):z8 X (.builtin "sorted") (zFr X.K):=by
 intro pins s σ H xs us Q I r h
 obtain⟨p,ys,rfl,hq,h64,q⟩:=h
 obtain⟨u,rfl,ru⟩:=yK r
 cases ru
 obtain⟨its,rv,pl,hz⟩:=I.list hq
 have hlen:its.length=ys.length:=by have:=rv.length;simp at this;omega
 refine TS.sorted_any pl.isList (ZD rv) (by omega) fun out ys' a1 a2 a3=>?_
 obtain⟨e,he⟩:=sortedAll_at s.heap its out
 have hl':=a2.length_eq
 refine⟨.ref (s.heap.objs.size+1),_,I.laid (t':=s.toks) (o:=.lst (ys'.map V.str)) (fun b ob q=>sortedAll_old q) (Nat.le_succ _) ⟨by rw[List.length_map,sizeLine_eq];omega,out.toList,e,Je a1,?_⟩,rfl,q _ _ (I.hok.fresh (Nat.le_succ _)) a2 a3⟩
 simpa [seqObj] using he
theorem zHT (a:M.T):¬ a < a:=fun h=>List.lt_irrefl a h
theorem zAj {a b c:M.T} (h1:¬ b < a) (h2:¬ c < b):¬ c < a:=by
 rw[List.not_lt] at h1 h2 ⊢
 exact List.le_trans h1 h2
theorem zEy {a b:M.T} (h1:¬ b < a) (h2:¬ a < b):a=b:=by
 rw[List.not_lt] at h1 h2
 exact List.le_antisymm h1 h2
theorem Q3 (x:M.T):∀ ts:List M.T,(M.zn.insT' x ts).Perm (x::ts)
 | []=>.refl _
 | y::r=>by
  unfold M.zn.insT'
  split
  ·exact ((Q3 x r).cons y).trans (.swap x y r)
  ·exact .refl _
theorem QO:∀ ts:List M.T,(M.zn ts).Perm ts
 | []=>.refl _
 | x::r=>(Q3 x _).trans ((QO r).cons x)
theorem zBI (x:M.T):∀ ts:List M.T,ts.Pairwise (fun a b=>¬ b < a)->(M.zn.insT' x ts).Pairwise (fun a b=>¬ b < a)
 | [],_=>by unfold M.zn.insT';simp
 | y::r,h=>by
  rw[List.pairwise_cons] at h
  unfold M.zn.insT'
  split
  ·rename_i hy
   rw[List.pairwise_cons]
   refine⟨fun b hb=>?_,zBI x r h.2⟩
   rcases List.mem_cons.mp ((Q3 x r).mem_iff.mp hb) with rfl | hb
   ·exact fun z=>zHT _ (List.lt_trans z hy)
   ·exact h.1 b hb
  ·rename_i hy
   rw[List.pairwise_cons]
   refine⟨fun b hb=>?_,List.pairwise_cons.mpr h⟩
   rcases List.mem_cons.mp hb with rfl | hb
   ·exact hy
   ·exact zAj hy (h.1 b hb)
theorem zAV:∀ ts:List M.T,(M.zn ts).Pairwise (fun a b=>¬ b < a)
 | []=>.nil
 | x::r=>zBI x _ (zAV r)
theorem Qv:∀ (p:Str) (l:List Str),risingS p l=true->(p::l).Pairwise (fun a b=>¬ b.cps.toList < a.cps.toList)
 | p,[],_=>by simp
 | p,x::r,h=>by
  unfold risingS at h
  rw[Bool.and_eq_true,Bool.not_eq_true',ltCps_eq,decide_eq_false_iff_not] at h
  have ih:=Qv x r h.2
  rw[List.pairwise_cons]
  refine⟨fun b hb=>?_,ih⟩
  rcases List.mem_cons.mp hb with rfl | hb
  ·exact h.1
  ·exact zAj h.1 ((List.pairwise_cons.mp ih).1 b hb)
theorem zCz {l:List Str} (h:sortedS l=true):l.Pairwise (fun a b=>¬ b.cps.toList < a.cps.toList):=by
 cases l with
 | nil=>exact .nil
 | cons x r=>exact Qv x r h
theorem zDD {ts:List M.T}{ys:List Str} (hp:ys.Perm (ts.map ofT)) (hs:sortedS ys=true):ys=(M.zn ts).map ofT:=by
 refine List.Perm.eq_of_pairwise (le:=fun a b=>¬ b.cps.toList < a.cps.toList) (fun a b _ hb h1 h2=>?_) (zCz hs) ?_ (hp.trans ((QO ts).map ofT).symm)
 ·have e:=zEy h1 h2
  cases a with
  | mk ca=>cases b with
   | mk cb=>exact congrArg Str.mk (Array.toList_inj.mp e)
 ·rw[List.pairwise_map]
  refine (zAV ts).imp fun {a b} h=>?_
  rw[jf,jf]
  exact h
section
variable {K:PySem.W.Frag}{Θ:Tab}
theorem zDr:AdN K Θ M.zAN (zFr K):=by
 intro ρ H S xs Xs Q rp rxs h
 unfold M.zAN at h
 split at h
 ·rename_i p
  obtain⟨Y,r,rfl,ry,rfl⟩:=rxs
  split at h
  ·rename_i ds e
   obtain⟨a,zs,rfl,ha,hx,rz⟩:=ZH rp ry (zAa e)
   unfold M.Jx at h
   split at h
   ·rename_i ts et
    obtain⟨rfl,hok⟩:=yy et rz
    split at h
    ·rename_i h64
     refine⟨a,ts.map ofT,rfl,SqL.of hx,by rw[List.length_map];exact h64,fun q ys' hq hp hs=>?_⟩
     rw[zDD hp hs]
     exact h.alloc rp (Z6 (M.zn ts) fun t ht=>hok t ((QO ts).mem_iff.mp ht)) hq
    ·exact h.elim
   ·exact h.elim
  ·exact h.elim
 ·exact h.elim
end
theorem zHz (x:M.T) (u:Tok):Txt.sliceBy (ofT x) none none (-1,u)=ofT x.reverse:=by
 have h:=step_rev_list (ofT x) u
 have hl:(ofT x).length=x.length:=zx x
 have e:(Txt.sliceBy (ofT x) none none (-1,u)).cps.toList=x.reverse:=by
  rw[h,hl]
  refine List.ext_getElem (by simp) fun i h1 h2=>?_
  rw[List.getElem_map,List.getElem_range,List.getElem_reverse]
  have hi:i < x.length:=by simpa using h2
  simp[ofT,Array.getD,show x.length - 1 - i < x.length by omega]
 cases hq:Txt.sliceBy (ofT x) none none (-1,u) with
 | mk c =>
  rw[hq] at e
  exact congrArg Str.mk (Array.toList_inj.mp e)
theorem zF7 {X:Cx}{e st:Expr}{te:TE}{p2 pos:Pos} (he:PE X e te) (hst:PE X st (tC (.int (-1)))):PE X (.Subscript e (.Slice none none (some st) p2) pos) (fun σ H Q=>te σ H fun x H1=>∃ z:M.T,x=.str (ofT z)/\(ofT z).length <= sizeLine/\Q (.str (ofT z.reverse)) H1):=by
 intro pins s σ H Q I h
 refine Subscript_ (thn (he pins s σ H _ I h) fun v s1 ⟨x,H1,I1,r1,q1⟩=>?_)
 obtain⟨z,rfl,hz,q⟩:=q1
 obtain⟨tx,rfl⟩:=r1
 refine wpAny_Slice ?_
 rw[evalPart_none]
 refine wpAny_pure (wpAny_pure ?_)
 rw[evalPart_some]
 refine thn (hst pins s1 σ H1 (fun v H'=>v=.int (-1)/\H'=H1) I1 ⟨rfl,rfl⟩) fun u s2 ⟨y,H2,I2,r2,ey,eh⟩=>?_
 subst ey
 subst eh
 obtain⟨t,rfl⟩:=r2
 have I4:Inv X pins σ H2 { s2 with heap:=s2.heap.push { cls:=.type "slice",data:=.fields #[.none,.none,.int (-1) t] } }:=I2.kept (t':=s2.toks) fun b ob q=>Heap.get?_push_of_some _ q
 show wpAny (model X.prog X.w) X.A (subscriptTail e (.Slice none none (some st) p2) (.str (ofT z) tx) (.ref s2.heap.objs.size)) (EP X pins σ Q) X.xe { s2 with heap:=s2.heap.push { cls:=.type "slice",data:=.fields #[.none,.none,.int (-1) t] } }
 refine wpAny_with_toks (n:=1) I4.tk ?_
 refine tail_any (ops:=[.ref s2.heap.objs.size,.str (ofT z) tx]) (typeIs_str _ _ _) F.slot_str_getitem.lookup ?_ (by with_unfolding_all rfl)
 refine wpAny_getItem_str_slice (l:=none) (u:=none) (st:=some (-1,t)) ⟨_,Heap.get?_push_size _ rfl,rfl,rfl⟩ rfl (post_val_or_str ⟨Nat.le_trans (Txt.sliceBy_le (ofT z) none none (-1,t) (show (-1:Int)≠0 by decide)) hz,fun t' c hc=>⟨.str (ofT z.reverse),H2,I4.tok c hc,⟨t',?_⟩,q⟩⟩)
 exact congrArg (fun y=>Value.str y t') (zHz z t)
section
variable {X:Cx}{Θ:Tab}
theorem PE.or {e:Expr}{t t':TE} (h:PE X e t) (h':PE X e t'):PE X e (fun σ H Q=>t σ H Q\/t' σ H Q):=fun pins s σ H Q I q=>by
 rcases q with q | q
 ·exact h pins s σ H Q I q
 ·exact h' pins s σ H Q I q
theorem zIO {e:Expr}{m:M.EM}{j:Nat}{p1 p2 p3 pos:Pos} (he:ME X Θ e m):ME X Θ (.Subscript e (.Slice none none (some (.UnaryOp .USub (.Constant (.int 1) j p1) p2)) p3) pos) (M.eUn M.zCp m) :=
 (PE.or (zHx he ((zFv zEF zBQ).imp fun σ H Q h=>⟨1,rfl,h⟩)) (zF7 he ((zFv zEF zBQ).imp fun σ H Q h=>⟨1,rfl,h⟩))).imp fun σ H Q ⟨ρ,σ',S,st,rp,h⟩=>by
  have h':zA X.K Θ (zH X.K) ρ H ((m σ' S).bind M.zCp) Q:=h
  cases hm:m σ' S with
  | no=>rw[hm] at h';exact h'.elim
  | exc a s=>rw[hm] at h';exact h'.elim
  | ok d S1 =>
   rw[hm] at h'
   have go:∀ {Q':VK},(∀ ρ1 H1 v,ρ <+: ρ1->Le H H1->zL X.K Θ ρ1 S1 H1->zH X.K ρ1 H1 d v->Q' v H1)->RdE X.K Θ m σ H Q':=fun q=>⟨ρ,σ',S,st,rp,by rw[hm];exact q⟩
   cases d with
   | ref p =>
    refine .inl (go fun ρ1 H1 v p1 l1 rp1 rx=>?_)
    have h2:zA X.K Θ (zH X.K) ρ H (match M.zT S1 p with | some xs=>M.alloc (.lst xs.reverse) S1 | none=>.no) Q:=h'
    cases e:M.zT S1 p with
    | none=>rw[e] at h2;exact h2.elim
    | some ds =>
     rw[e] at h2
     obtain⟨a,zs,rfl,ha,hx,rz⟩:=ZH rp1 rx (zAa e)
     exact⟨a,zs,rfl,SqL.of hx,fun p hp=>zA.alloc (zA.weak h2 p1 l1) rp1 rz.rev hp⟩
   | str z =>
    refine .inr (go fun ρ1 H1 v p1 l1 rp1 rx=>?_)
    obtain⟨rfl,ok⟩:=rx
    have h2:zA X.K Θ (zH X.K) ρ H (if z.length <= M.SZ then M.R.ok (.str z.reverse) S1 else .no) Q:=h'
    by_cases hz:z.length <= M.SZ
    ·rw[if_pos hz] at h2
     exact⟨z,rfl,by rw[zx,<- yI];exact hz,h2 ρ1 H1 _ p1 l1 rp1 ⟨rfl,ZE ok fun c hc=>List.mem_reverse.mp hc⟩⟩
    ·rw[if_neg hz] at h2
     exact h2.elim
   | _=>exact h'.elim
theorem zEi {e:Expr}{m:M.EM}{j:Nat}{p1 p2 p3 pos:Pos} (he:WE X Θ e m):WE X Θ (.Subscript e (.Slice none none (some (.UnaryOp .USub (.Constant (.int 1) j p1) p2)) p3) pos) (M.eUn M.zCp m):=by with_unfolding_all exact zIO (e:=e) (m:=m) (j:=j) (p1:=p1) (p2:=p2) (p3:=p3) (pos:=pos) he
end
end L2
namespace L2
open PySem PySem.Spec PyProof.Rows
section
variable {X:Cx}{Θ:Tab}{K:PySem.W.Frag}
noncomputable def zCT:V->List V->Hp->VK->Prop:=fun x vs H Q=>∃ l,∃ xs:List Str,∃ y:Str,x=.ref l/\vs=[.str y]/\H l=some (.lst (xs.map V.str))/\y∈xs/\Q .non (upd H l (.lst ((xs.erase y).map V.str)))
theorem zBP {y:Str}:∀ {ys:List Str}{its:List Value},StrsAre its ys->y∈ys->∃ j,∃ h:j < its.length,isStrOf y its[j]=true/\(∀ m (hm:m < its.length),m < j->isStrOf y its[m]=false)/\ys.erase y=ys.eraseIdx j
 | _,_,.nil,h=>by cases h
 | n::ys,_::its,.cons _ t r,h=>by
  by_cases e:n=y
  ·subst e
   exact⟨0,by simp,by simp[isStrOf],fun m _ hm=>by omega,by simp⟩
  ·have hy:y∈ys:=by
    rcases List.mem_cons.mp h with q | q
    ·exact absurd q.symm e
    ·exact q
   obtain⟨j,h1,h2,h3,h4⟩:=zBP r hy
   refine⟨j+1,by simp;omega,by simpa using h2,fun m hm hj=>?_,?_⟩
   ·cases m with
    | zero=>simp[isStrOf,e]
    | succ m=>simpa using h3 m (by simpa using hm) (by omega)
   ·rw[List.erase_cons_tail (by simpa using e),h4];rfl
theorem Qw {α β:Type} (f:α->β):∀ (l:List α) (j:Nat),(l.eraseIdx j).map f=(l.map f).eraseIdx j
 | [],_=>rfl
 | _::_,0=>rfl
 | a::l,j+1=>by show f a::(l.eraseIdx j).map f=_;rw[Qw f l j];rfl
theorem zCr:MtM X "list.remove" zCT:=by
 intro pins s σ H x vs v us Q I rx rv h
 obtain⟨l,xs,y,rfl,rfl,hH,hy,q⟩:=h
 cases rx
 obtain⟨u,rfl,ru⟩:=rv.one
 obtain⟨t,rfl⟩:=ru
 obtain⟨z,its,n,r,hl,e⟩:=I.lstM hH
 have st:=ZD r
 obtain⟨j,h1,h2,h3,h4⟩:=zBP st hy
 have hz:its.toArray.size <= sizeLine:=by rw[List.size_toArray,<- hl];exact z
 refine call_meets F.slot_list_remove ⟨_,e,rfl⟩ F.entry_list_remove (F.args_list_remove_2 _ _) (MeetsSeq.list_remove l its.toArray n (.str y t) (isStrOf y) (fun w hw=>eq_isStrOf y t st w (by simpa using hw)) j (by simpa using h1) (by simpa using h2) (fun m hm hj=>by simpa using h3 m (by simpa using hm) hj) hz) ⟨e,?_⟩
 refine⟨.non,_,I.lset (its':=its.eraseIdx j) hH e ?_ ?_ ?_,rfl,q⟩
 ·show its.toArray.eraseIdxIfInBounds j=(its.eraseIdx j).toArray
  rw[List.eraseIdxIfInBounds_toArray]
 ·rw[h4,Qw]
  exact r.eraseIdx j
 ·rw[List.length_map]
  have:=List.length_erase_le (a:=y) (l:=xs)
  rw[List.length_map] at z
  omega
theorem zAn {y:M.T}:∀ (ts:List M.T),(ts.map ofT).erase (ofT y)=(ts.erase y).map ofT
 | []=>rfl
 | t::ts=>by
  rw[List.map_cons]
  by_cases e:t=y
  ·subst e;rw[List.erase_cons_head,List.erase_cons_head]
  ·have e1:((ofT t) == (ofT y))=false:=by simpa using fun z=>e (Zs z)
   have e2:(t == y)=false:=by simpa using e
   rw[List.erase_cons_tail (by rw[e1];decide),List.erase_cons_tail (by rw[e2];decide),List.map_cons,zAn ts]
theorem zEO:AdM K Θ M.Zw zCT:=by
 intro ρ H S x xs X Xs Q rp rx rxs h
 unfold M.Zw at h
 split at h
 ·rename_i p y
  obtain⟨Y0,r0,rfl,⟨rfl,oky⟩,rfl⟩:=rxs
  split at h
  ·rename_i ds e
   obtain⟨a,zs,rfl,ha,hx,rz⟩:=ZH rp rx e
   split at h
   ·rename_i ts et
    obtain⟨rfl,hok⟩:=yy et rz
    split at h
    ·rename_i hm
     have le:=Le.put (Qf hx) (.lst (((ts.map ofT).erase (ofT y)).map V.str))
     refine⟨a,ts.map ofT,ofT y,rfl,rfl,hx,List.mem_map.mpr ⟨y,hm,rfl⟩,?_⟩
     rw[zAn] at le ⊢
     exact h ρ _ _ (List.prefix_refl _) le (rp.put ha (Qf hx) ⟨_,jm,Z6 (ts.erase y) fun t ht=>hok t (List.mem_of_mem_erase ht)⟩) rfl
    ·exact h.elim
   ·exact h.elim
  ·exact h.elim
 ·exact h.elim
end
end L2
namespace L2
open PySem PySem.Spec PyProof.Rows
noncomputable abbrev Q8 (X:Cx) (pins:List (Addr×Obj)) (σ:St) (H:Hp) (s:Shared):Prop:=Inv X pins σ H { s with toks:=s.toks+1 }
noncomputable def PE0 (X:Cx) (e:Expr) (t:TE):Prop :=
 ∀ (pins:List (Addr×Obj)) (s:Shared) (σ:St) (H:Hp) (Q:VK),Q8 X pins σ H s->t σ H Q->wpAny (model X.prog X.w) X.A (eval e X.env) (EP X pins σ Q) X.xe s
noncomputable def PA0 (X:Cx) (es:List Expr) (t:TA):Prop :=
 ∀ (pos:Pos) (pins:List (Addr×Obj)) (s:Shared) (σ:St) (H:Hp) (Q:List V->Hp->Prop),Q8 X pins σ H s->t σ H Q->wpAny (model X.prog X.w) X.A (spliced (backTo pos (starEach es X.env))) (AP X pins σ Q) X.xe s
noncomputable def PS0 (X:Cx) (st:Stmt) (t:TS):Prop :=
 ∀ (pins:List (Addr×Obj)) (s:Shared) (σ:St) (H:Hp) (D:Zh),Q8 X pins σ H s->t D σ H->wpAny (model X.prog X.w) X.A (exec st X.env) (SP X pins D) X.xe s
noncomputable def QL (X:Cx) (st:List Stmt) (t:TS):Prop :=
 ∀ (pins:List (Addr×Obj)) (s:Shared) (σ:St) (H:Hp) (D:Zh),Q8 X pins σ H s->t D σ H->wpAny (model X.prog X.w) X.A (execs st X.env) (SP X pins D) X.xe s
theorem PE0.imp {X:Cx}{e:Expr}{t t':TE} (h:PE0 X e t) (i:∀ σ H Q,t' σ H Q->t σ H Q):PE0 X e t':=fun pins s σ H Q I q=>h pins s σ H Q I (i σ H Q q)
theorem PA0.imp {X:Cx}{e:List Expr}{t t':TA} (h:PA0 X e t) (i:∀ σ H Q,t' σ H Q->t σ H Q):PA0 X e t':=fun po pins s σ H Q I q=>h po pins s σ H Q I (i σ H Q q)
theorem PS0.imp {X:Cx}{e:Stmt}{t t':TS} (h:PS0 X e t) (i:∀ D σ H,t' D σ H->t D σ H):PS0 X e t':=fun pins s σ H D I q=>h pins s σ H D I (i D σ H q)
theorem QL.imp {X:Cx}{e:List Stmt}{t t':TS} (h:QL X e t) (i:∀ D σ H,t' D σ H->t D σ H):QL X e t':=fun pins s σ H D I q=>h pins s σ H D I (i D σ H q)
section
variable {X:Cx}{pos p:Pos}
theorem zF0 {i:Int}{j:Nat}:PE0 X (.Constant (.int i) j pos) (tC (.int i)):=fun _ _ _ H _ I h=>wpAny_Constant_int ⟨.int i,H,I,⟨_,rfl⟩,h⟩
theorem zEm {E:Value->Shared->Prop}{pins:List (Addr×Obj)}{s:Shared}{σ:St}{H:Hp}{x:Str}{u:Value}{Q:Value->Shared->Prop} (I:Q8 X pins σ H s) (hg:Gl X x) (hm:X.mg x=some u) (h:Q u s)
  (hd:(x == ("__debug__" : Str))=false:=by decide):wpAny (model X.prog X.w) X.A (eval (.Name x pos) X.env) Q E s :=
 Calls.Name_function_global I.ok.kind hg (Calls.loadGlobal_global (by rw[I.ok.glob];exact I.mod.glob.keeps I.bk) hm h) hd
theorem zF6 {E:Value->Shared->Prop}{pins:List (Addr×Obj)}{s:Shared}{σ:St}{H:Hp}{i:Nat}{x:Str}{v:V}{Q:Value->Shared->Prop} (I:Q8 X pins σ H s) (hN:X.N[i]? = some x) (hv:Vis X.env.scope x) (e:σ[i]? = some (some v)) (h:∀ u,zV v u->Q u s)
  (hd:(x == ("__debug__" : Str))=false:=by decide) (hcd:(x == ("__classdict__" : Str))=false:=by decide):wpAny (model X.prog X.w) X.A (eval (.Name x pos) X.env) Q E s:=by
 obtain⟨m,hn,hl⟩:=I.loc
 obtain⟨u,r,l⟩:=hl i x v hN e hv
 rcases l with ⟨hk,hm⟩ | ⟨hk,c,hc,hcell⟩
 ·exact wpAny_Name (wpAny_loadName_local I.ok.kind hk hn hm (h u r)) hd
 ·rcases hk with hk | hk
  ·exact wpAny_Name (wpAny_loadName_cell I.ok.kind hk hc hcell (h u r)) hd
  ·exact wpAny_Name (wpAny_loadName_free I.ok.kind hk hc hcell (h u r) hcd) hd
theorem zGj {i:Nat}{x:Str}{es:List Expr}{t:TA} (hN:X.N[i]? = some x) (hv:Vis X.env.scope x) (hr:PA0 X es t) (hd:(x == ("__debug__" : Str))=false:=by decide) (hcd:(x == ("__classdict__" : Str))=false:=by decide):PA0 X (.Name x p::es) (zCw (zG6 i) t):=by
 intro pos pins s σ H Q I h
 rw[z4 (e:=.Name x p) (es:=es) (env:=X.env) rfl]
 show wpAny _ _ (spliced ((false,eval (.Name x p) X.env)::backTo pos (starEach es X.env))) _ _ s
 obtain⟨v,e,h⟩:=h
 refine Calls.spliced_cons (zF6 I hN hv e (fun u r=>?_) hd hcd)
 exact thn (hr pos pins s σ H _ I h) fun us s2 ⟨xs,H2,I2,r2,q2⟩=>⟨v::xs,H2,I2,.cons r r2,q2⟩
theorem zEe {e:Expr}{es:List Expr}{te:TE}{t:TA} (ha:PE0 X e te) (hr:PA X es t) (hs:starEach (e::es) X.env=(false,eval e X.env)::starEach es X.env:=by rfl):PA0 X (e::es) (zCw te t):=by
 intro pos pins s σ H Q I h
 rw[hs]
 show wpAny _ _ (spliced ((false,eval e X.env)::backTo pos (starEach es X.env))) _ _ s
 refine Calls.spliced_cons (thn (ha pins s σ H _ I h) fun u s1 ⟨x,H1,I1,r1,q1⟩=>?_)
 exact thn (hr pos pins s1 σ H1 _ I1 q1) fun us s2 ⟨xs,H2,I2,r2,q2⟩=>⟨x::xs,H2,I2,.cons r1 r2,q2⟩
theorem zEu {k kk:Nat}{x:Str}{ps:List Str}{sp:Sp}{e:Expr}{es:List Expr}{t:TA} (h:Has X.prog X.w X.K X.mg X.base x k ps sp) (hr:zm kk X.A) (hk:k <= kk) (hg:Gl X x) (ha:PA0 X (e::es) t) (hx:yH CX0 X E0:=by exact Qk) (hdb:(x == ("__debug__" : Str))=false:=by decide)
  (he:starEach (e::es) X.env=(false,eval e X.env)::starEach es X.env:=by rfl) (hpl:(backTo pos (starEach es X.env)).any (·.1)=false:=by rfl) :
  PE0 X (.Call (.Name x p) (e::es) [] pos) (zDL sp [] E0 t):=by
 obtain⟨f,fd,F,b,kp,m⟩:=h.ex
 intro pins s σ H Q I h
 refine wpAny_Call_Name_kw (zEm I hg m ?_ hdb)
 refine PySem.W.callWith_K (h₀:=X.base) I.ok.mod.kin kp (thn (ha pos pins s σ H _ I h) fun us s1 ⟨vs,H1,I1,r,q⟩=>⟨I1.kIn,?_⟩) he hpl
 exact zEB F (hr.mono hk) b .nil hx I1 r q
theorem zH5 {a b:Expr}{ta tb:TE}{op:Operator}{r:R2} (ho:OpR X (binaryOp op) r) (ha:PE0 X a ta) (hb:PE X b tb):PE0 X (.BinOp a op b pos) (tOp r ta tb):=by
 intro pins s σ H Q I h
 refine wpAny_BinOp (thn (ha pins s σ H _ I h) fun v s1 ⟨x,H1,I1,r1,q1⟩=>?_)
 refine thn (hb pins s1 σ H1 _ I1 q1) fun u s2 ⟨y,H2,I2,r2,q2⟩=>?_
 exact ho pins s2 σ H2 x y v u Q I2 r1 r2 q2
theorem zGs {i:Nat}{x:Str}{e:Expr}{te:TE}{pos':Pos} (hN:X.N.Nodup) (hi:X.N[i]? = some x) (hx:Loc X.env.scope x) (he:PE0 X e te) (hs:swapsWith e (some (.Name x pos')) pos.line X.env=pure false:=by rfl) (hf:X.fn x=true\/X.env.scope.names.lookup x=some .local:=by first | exact .inl rfl | exact .inr rfl | assumption) :
  PS0 X (.Assign [.Name x pos'] e pos) (zHc te (jS i)):=by
 intro pins s σ H D I h
 refine wpAny_Assign_Name (thn (he pins s σ H _ I h) fun v s1 ⟨y,H1,I1,r1,q1⟩=>?_) hs
 exact JA I1 hN hi hx r1 (fun s2 I2=>⟨_,H1,I2,q1⟩) hf
theorem zEU {st:Stmt}{z6:List Stmt}{t u:TS} (h1:PS0 X st t) (h2:PSs X z6 u):QL X (st::z6) (zHW t u):=by
 intro pins s σ H D I h
 refine wpAny_execs_cons (thn (h1 pins s σ H { D with nx:=u D } I h) fun f s1 q=>?_)
 cases f with
 | next =>
  obtain⟨σ',H',I',q⟩:=q
  exact h2 pins s1 σ' H' D I' q
 | brk=>exact q
 | cont=>exact q
 | ret v=>exact q
end
section
variable {X:Cx}{Θ:Tab}{pos p:Pos}{a b:Expr}{ma mb:M.EM}
noncomputable abbrev ME0 (X:Cx) (Θ:Tab) (e:Expr) (m:M.EM):Prop:=PE0 X e (RdE X.K Θ m)
@[irreducible] noncomputable def WE0 (X:Cx) (Θ:Tab) (e:Expr) (m:M.EM):Prop:=ME0 X Θ e m
noncomputable abbrev MA0 (X:Cx) (Θ:Tab) (es:List Expr) (m:M.AM):Prop:=PA0 X es (RdA X.K Θ m)
@[irreducible] noncomputable def WA0 (X:Cx) (Θ:Tab) (es:List Expr) (m:M.AM):Prop:=MA0 X Θ es m
noncomputable abbrev MS0 (X:Cx) (Θ:Tab) (st:Stmt) (m:M.SM):Prop:=PS0 X st (RdS X.K Θ m)
@[irreducible] noncomputable def WS0 (X:Cx) (Θ:Tab) (st:Stmt) (m:M.SM):Prop:=MS0 X Θ st m
noncomputable abbrev zFk (X:Cx) (Θ:Tab) (st:List Stmt) (m:M.SM):Prop:=QL X st (RdS X.K Θ m)
@[irreducible] noncomputable def zHd (X:Cx) (Θ:Tab) (st:List Stmt) (m:M.SM):Prop:=zFk X Θ st m
theorem zGD {i:Int}{j:Nat}:ME0 X Θ (.Constant (.int i) j pos) (M.eC (.int i)):=zF0.imp fun σ H Q ⟨ρ,σ',S,st,rp,h⟩=>zA.here h rp rfl
theorem zDh {i:Int}{j:Nat}:WE0 X Θ (.Constant (.int i) j pos) (M.eC (.int i)):=by with_unfolding_all exact zGD (i:=i) (j:=j)
theorem zGH (i:Nat) {x:Str}{es:List Expr}{r:M.AM} (hr:MA0 X Θ es r) (hN:X.N[i]? = some x:=by rfl) (hv:Vis X.env.scope x:=by first | exact Or.inl rfl | exact Or.inr (Or.inl rfl) | exact Or.inr (Or.inr rfl)) (hd:(x == ("__debug__" : Str))=false:=by decide)
  (hcd:(x == ("__classdict__" : Str))=false:=by decide):MA0 X Θ (.Name x p::es) (M.zC (M.zE i) r):=(zGj hN hv hr hd hcd).imp fun σ H Q ⟨ρ,σ',S,st,rp,h⟩=>by
 have h':zA X.K Θ (zF X.K) ρ H ((M.zE i σ' S).bind fun x s=>(r σ' s).bind fun xs s=>.ok (x::xs) s) Q:=h
 unfold M.zE at h'
 cases e:σ'[i]? with
 | none=>rw[e] at h';exact h'.elim
 | some od =>
  cases od with
  | none=>rw[e] at h';exact h'.elim
  | some d =>
   rw[e] at h'
   obtain⟨v,e1,rv⟩:=st.get i d e
   exact⟨v,e1,ρ,σ',S,st,rp,zA.bind h' fun ρ2 H2 ys Ys S2 p2 l2 rp2 ry h2=>h2.here rp2 ⟨v,Ys,rfl,rv.mono p2 l2,ry⟩⟩
theorem zEM (i:Nat) {x:Str}{es:List Expr}{r:M.AM} (hr:WA0 X Θ es r) (hN:X.N[i]? = some x:=by rfl) (hv:Vis X.env.scope x:=by first | exact Or.inl rfl | exact Or.inr (Or.inl rfl) | exact Or.inr (Or.inr rfl)) (hd:(x == ("__debug__" : Str))=false:=by decide)
  (hcd:(x == ("__classdict__" : Str))=false:=by decide):WA0 X Θ (.Name x p::es) (M.zC (M.zE i) r):=by with_unfolding_all exact zGH i (x:=x) (es:=es) (r:=r) hr hN hv hd hcd
theorem zFK {e:Expr}{es:List Expr}{r:M.AM} (ha:ME0 X Θ e ma) (hr:MA X Θ es r) (hs:zX e=true:=by rfl):MA0 X Θ (e::es) (M.zC ma r) :=
 (zEe ha hr (z4 hs)).imp fun σ H Q ⟨ρ,σ',S,st,rp,h⟩=>⟨ρ,σ',S,st,rp,zA.bind h fun ρ1 H1 x X1 S1 p1 l1 rp1 rx h1=>⟨ρ1,σ',S1,st.mono p1 l1,rp1,
  zA.bind h1 fun ρ2 H2 ys Ys S2 p2 l2 rp2 ry h2=>h2.here rp2 ⟨X1,Ys,rfl,rx.mono p2 l2,ry⟩⟩⟩
theorem zCm {e:Expr}{es:List Expr}{r:M.AM} (ha:WE0 X Θ e ma) (hr:WA X Θ es r) (hs:zX e=true:=by rfl):WA0 X Θ (e::es) (M.zC ma r):=by with_unfolding_all exact zFK (e:=e) (es:=es) (r:=r) ha hr hs
theorem zFD {x:Str}{ps:List Str}{e:Expr}{es:List Expr}{f:M.F}{m:M.AM}{k kk n:Nat} (h:Has X.prog X.w X.K X.mg X.base x k ps (SpM X.K Θ n f)) (hr:zm kk X.A) (hk:k <= kk) (hg:Gl X x) (ha:MA0 X Θ (e::es) m) (ar:Z2 m n) (hx:yH CX0 X E0:=by exact Qk) (hdb:(x == ("__debug__" : Str))=false:=by decide)
  (he:zX e=true:=by rfl) (hpl:es.all zX=true:=by rfl):ME0 X Θ (.Call (.Name x p) (e::es) [] pos) (M.zM f m) :=
 (zEu h hr hk hg ha hx hdb (z4 he) (yh hpl)).imp fun σ H Q ⟨ρ,σ',S,st,rp,h⟩=>⟨ρ,σ',S,st,rp,by
  have h':zA X.K Θ (zH X.K) ρ H ((m σ' S).bind fun xs s=>f xs s) Q:=h
  cases hm:m σ' S with
  | no=>rw[hm] at h';exact h'.elim
  | exc a s=>rw[hm] at h';exact h'.elim
  | ok ds S1 =>
   rw[hm] at h'
   intro ρ1 H1 vs p1 l1 rp1 r1
   rw[List.append_nil]
   exact⟨ρ1,ds,S1,ar _ _ _ _ hm,r1,rp1,zA.weak h' p1 l1⟩⟩
theorem zCd {x:Str}{ps:List Str}{e:Expr}{es:List Expr}{f:M.F}{m:M.AM}{k kk n:Nat} (h:Has X.prog X.w X.K X.mg X.base x k ps (SpM X.K Θ n f)) (hr:zm kk X.A) (hk:k <= kk) (hg:Gl X x) (ha:WA0 X Θ (e::es) m) (ar:Z2 m n) (hx:yH CX0 X E0:=by exact Qk) (hdb:(x == ("__debug__" : Str))=false:=by decide)
  (he:zX e=true:=by rfl) (hpl:es.all zX=true:=by rfl):WE0 X Θ (.Call (.Name x p) (e::es) [] pos) (M.zM f m):=by with_unfolding_all exact zFD (x:=x) (ps:=ps) (e:=e) (es:=es) (f:=f) (m:=m) (k:=k) (kk:=kk) (n:=n) h hr hk hg ha ar hx hdb he hpl
theorem zHF {op:Operator}{f:M.D->M.D->M.S->M.R M.D}{r:R2} (ho:OpR X (binaryOp op) r) (ad:Ad2 X.K Θ f r) (ha:ME0 X Θ a ma) (hb:ME X Θ b mb):ME0 X Θ (.BinOp a op b pos) (M.eOp f ma mb) :=
 (zH5 ho ha hb).imp fun σ H Q ⟨ρ,σ',S,st,rp,h⟩=>⟨ρ,σ',S,st,rp,zA.bind h fun ρ1 H1 x X1 S1 p1 l1 rp1 rx h1=>⟨ρ1,σ',S1,st.mono p1 l1,rp1,
  zA.bind h1 fun ρ2 H2 y Y S2 p2 l2 rp2 ry h2=>ad ρ2 H2 S2 x y X1 Y Q rp2 (rx.mono p2 l2) ry h2⟩⟩
theorem zFl {op:Operator}{f:M.D->M.D->M.S->M.R M.D}{r:R2} (ho:OpR X (binaryOp op) r) (ad:Ad2 X.K Θ f r) (ha:WE0 X Θ a ma) (hb:WE X Θ b mb):WE0 X Θ (.BinOp a op b pos) (M.eOp f ma mb):=by with_unfolding_all exact zHF (op:=op) (f:=f) (r:=r) ho ad ha hb
theorem zF1 {i:Nat}{x:Str}{e:Expr}{m:M.EM}{pos':Pos} (hN:X.N.Nodup) (hi:X.N[i]? = some x) (hx:Loc X.env.scope x) (he:ME0 X Θ e m) (hs:swapsWith e (some (.Name x pos')) pos.line X.env=pure false:=by kernel_rfl) (hf:X.fn x=true\/X.env.scope.names.lookup x=some .local:=by first | exact .inl rfl | exact .inr rfl | assumption) :
  MS0 X Θ (.Assign [.Name x pos'] e pos) (M.z7 i m):=(zGs hN hi hx he hs hf).imp fun D σ H ⟨ρ,σ',S,st,rp,h⟩=>⟨ρ,σ',S,st,rp,zY.stm h fun ρ1 H1 x X1 S1 p1 l1 rp1 rx h1=>h1.nx rp1 ((st.mono p1 l1).set rx i)⟩
theorem zD7 {i:Nat}{x:Str}{e:Expr}{m:M.EM}{pos':Pos} (hN:X.N.Nodup) (hi:X.N[i]? = some x) (hx:Loc X.env.scope x) (he:WE0 X Θ e m) (hs:swapsWith e (some (.Name x pos')) pos.line X.env=pure false:=by kernel_rfl) (hf:X.fn x=true\/X.env.scope.names.lookup x=some .local:=by first | exact .inl rfl | exact .inr rfl | assumption) :
  WS0 X Θ (.Assign [.Name x pos'] e pos) (M.z7 i m):=by with_unfolding_all exact zF1 (i:=i) (x:=x) (e:=e) (m:=m) (pos':=pos') hN hi hx he hs hf
theorem zEZ {st:Stmt}{z6:List Stmt}{ms mr:M.SM} (h1:MS0 X Θ st ms) (h2:MSs X Θ z6 mr):zFk X Θ (st::z6) (M.zZ ms mr):=(zEU h1 h2).imp fun D σ H ⟨ρ,σ',S,st,rp,h⟩=>⟨ρ,σ',S,st,rp,by
 have h':zY X.K Θ ρ H ((ms σ' S).then mr) D:=h
 revert h'
 cases ms σ' S with
 | nx a s=>exact fun h' ρ2 H2 σ2 p l rp2 st2=>⟨ρ2,a,s,st2,rp2,zY.weak h' p l⟩
 | rt a s=>exact fun h'=>h'
 | bk a s=>exact fun h'=>h'
 | ct a s=>exact fun h'=>h'
 | exc e a s=>exact fun h'=>h'
 | no=>exact fun h'=>h'⟩
theorem zCI {st:Stmt}{z6:List Stmt}{ms mr:M.SM} (h1:WS0 X Θ st ms) (h2:WSs X Θ z6 mr):zHd X Θ (st::z6) (M.zZ ms mr):=by with_unfolding_all exact zEZ (st:=st) (z6:=z6) (ms:=ms) (mr:=mr) h1 h2
end
theorem QL.nox {X:Cx}{st:List Stmt}{t:TS} (h:QL X.nox st t):QL X st t:=fun pins s σ H D I hw =>
 wpAny_mono (h pins s σ H D (I.wish _) hw) (fun _ _ q=>q.unwish) fun _ _ z=>False.elim z
noncomputable abbrev fdL (fd:FuncData) (x:Str):FuncData:={ fd with scope:={ fd.scope with names:=[(x,.local)] } }
theorem zIU {P:Program}{w:World}{K:PySem.W.Frag}{mg:Str->Option Value}{base:Heap}{Θ:Tab}{x qual y:Str}{st:Stmt}{f:Addr}{fd:FuncData}{N:List Str}{k:Nat}{b:M.SM} (F:Fun K x qual st f fd) (S:zy N [y] (zG st))
  (hbody:∀ (cdv:Value) (A:Around) (outer:List Env) (s:Shared) (H:Hp) (E:XK),zm k (A.deeper (envOfC qual (zG st) s.heap.objs.size f cdv)) ->
   zFk (yi CX0 P w K mg base N qual (zG st) f cdv A outer s H E).nox Θ (zl st) b):jM P w K mg base CX0 (k+1) f (fdL fd y) [y] (SpM K Θ 1 (M.fn N.length b)):=by
 obtain⟨oc,od,kV,doc,pm,an,cdv,ct,osl,rfl,lk,hcd⟩:=F.ex
 refine⟨fun vs H Q E h=>?_,fun A outer s H args us vs Q E hr e0 _ hb r hsp=>?_⟩
 ·obtain⟨ρ,ds,S,hl,r,_⟩:=h
  rw[<- r.length,hl];rfl
 ·obtain⟨ρ,ds,S0,hl,rd,rp,h⟩:=hsp
  have hlv:vs.length=([y]:List Str).length:=by rw[<- rd.length,hl];rfl
  have KX:K.In s.heap:=e0.mod.kin.keeps fun b o e=>(e0.bs b o e).1
  have lim:s.heap.NoLimit:=e0.mod.nolimit.keeps fun b o e=>(e0.bs b o e).1
  have hkind:∀ z∈([y]:List Str).zip us,(zG st).names.lookup z.1=some .local\/((zG st).names.lookup z.1=some .cell/\((cellsFrom (s.heap.objs.size+1) (zG st).names []).lookup z.1).isSome=true):=fun ⟨n,v⟩ hy=>by
   rcases S.par n (List.of_mem_zip hy).1 with q | q
   ·exact .inl q
   ·exact .inr ⟨q,PySem.W.cellsFrom_some _ _ _ (.inl q)⟩
  refine codeAny_call_function hr.depth (KX _ _ lk) rfl S.co S.gen rfl (PySem.W.codeRec_of KX hcd) (hb _ _ _ _ ?_)
  refine zCU S.kind hkind fun env he s1 x htk1=>?_
  subst he
  refine⟨lim.keeps x.toInCall.keep,codeAny_func ?_⟩
  have x2:InCallC s s.heap.objs.size (bindL (envOfC qual (zG st) s.heap.objs.size f cdv).kindOf (([y]:List Str).zip us) fun _=>none) (cellsFrom (s.heap.objs.size+1) (zG st).names []) (bindC (envOfC qual (zG st) s.heap.objs.size f cdv).kindOf (([y]:List Str).zip us) fun _=>none) { s1 with toks:=s1.toks+1 }:=by
   obtain⟨⟨⟨h1,tk,e1⟩,a2,a3,a4⟩,a5,a6,a7⟩:=x
   subst e1
   exact⟨⟨⟨h1,_,rfl⟩,a2,a3,a4⟩,a5,a6,a7⟩
  have I:Q8 (yi CX0 P w K mg base N qual (zG st) f cdv A outer s H E) [] (qJ N vs) H s1:=zAb S hr.hd e0 hlv r x2 (Nat.succ_pos _)
  have hq:RdS K Θ b { nx:=fun _ H'=>Q .non H',rt:=Q } (qJ N vs) H:=by
   refine⟨ρ,_,S0,zAW rd N,rp,?_⟩
   have h':zA K Θ (zH K) ρ H (b (ds.map some++List.replicate (N.length - ds.length) none) S0).out Q:=h
   revert h'
   cases b (ds.map some++List.replicate (N.length - ds.length) none) S0 with
   | rt a s=>exact fun h'=>h'
   | nx a s=>exact fun h' ρ1 H1 σ1 p1 l1 rp1 _=>h' ρ1 H1 .non p1 l1 rp1 rfl
   | bk a s=>exact fun h'=>h'.elim
   | ct a s=>exact fun h'=>h'.elim
   | exc e a s=>exact fun h'=>h'
   | no=>exact fun h'=>h'
  refine wpAny_mono ((hbody cdv A outer s H E (hr.deeper _)).nox [] s1 (qJ N vs) H _ I hq) (fun fl s' hs=>?_) fun e s' hs=>hs
  have fin:∀ {σ':St}{H':Hp}{v:V}{u:Value},Inv (yi CX0 P w K mg base N qual (zG st) f cdv A outer s H E) [] σ' H' s'->zV v u->Q v H'->CE outer P w H s Q u s' :=
   fun {σ' H' v u} J rv q=>⟨v,H',J.os,J.bare,J.base,J.hok,rv,q⟩
  cases fl with
  | ret u =>
   obtain⟨v,σ',H',J,rv,q⟩:=hs
   exact fin J rv q
  | next =>
   obtain⟨σ',H',J,q⟩:=hs
   exact fin (v:=V.non) (u:=Value.none) J rfl q
  | brk=>obtain⟨_,_,_,q⟩:=hs;exact False.elim q
  | cont=>obtain⟨_,_,_,q⟩:=hs;exact False.elim q
theorem zF8 {P:Program}{w:World}{K:PySem.W.Frag}{mg:Str->Option Value}{base:Heap}{Θ:Tab}{x qual y:Str}{st:Stmt}{f:Addr}{fd:FuncData}{N:List Str}{k:Nat}{b:M.SM} (F:Fun K x qual st f fd) (S:zy N [y] (zG st))
  (hbody:∀ (cdv:Value) (A:Around) (outer:List Env) (s:Shared) (H:Hp) (E:XK),zm k (A.deeper (envOfC qual (zG st) s.heap.objs.size f cdv)) ->
   zHd (yi CX0 P w K mg base N qual (zG st) f cdv A outer s H E).nox Θ (zl st) b):jM P w K mg base CX0 (k+1) f (fdL fd y) [y] (SpM K Θ 1 (M.fn N.length b)):=by with_unfolding_all exact zIU (P:=P) (w:=w) (K:=K) (mg:=mg) (base:=base) (Θ:=Θ) (x:=x) (qual:=qual) (y:=y) (st:=st) (f:=f) (fd:=fd) (N:=N) (k:=k) (b:=b) F S hbody
end L2
set_option maxHeartbeats 4000000
namespace M
noncomputable section
noncomputable def jd:SM :=
  (z7 1 (yY zK))
noncomputable def jc:SM :=
  (z7 2 (eC (.str [])))
noncomputable def jQ:SM :=
  (J6 (iE (eOp jX (zE 0) (eC (.str [32])))) (jS 3)
  (sIf (qC zBJ (zE 3) (eC (.str [32,10])))
  (z7 2 (eOp jX (zE 2) (zE 3)))
  (sIf (qC cNe (zE 2) (eC (.str [])))
  (zZ (qp (eM .list q8 (zE 1) (zC (zE 2) zK)))
  (z7 2 (eC (.str []))))
  Z8)))
noncomputable def jv:SM :=
  (jy (zE 1))
noncomputable def ZJ:SM:=(zZ jd (zZ jc (zZ jQ jv)))
noncomputable def QV:F:=fn 4 ZJ
noncomputable def j9 (done:List T):Option T->T->List T
 | cur,[]=>done++cur.toList
 | cur,c::r=>if c=32\/c=10 then j9 (done++cur.toList) none r else j9 done (some (cur.getD []++[c])) r
theorem Zp:∀ (r:T) (done:List T),j9 done none r=done++zD r/\∀ w,∃ p ps,zo 32 (jT r)=p::ps/\j9 done (some w) r=done++(w++p)::ps.filter fun w=>decide (w≠[])
 | [],done=>by
  refine⟨by simp[j9,zD,jT,zo],fun w=>⟨[],[],by simp[jT,zo],by simp[j9]⟩⟩
 | c::r,done=>by
  by_cases h:c=32\/c=10
  ·have e:zo 32 (jT (c::r))=[]::zo 32 (jT r):=by
    show zo 32 ((if c=10 then 32 else c)::jT r)=_
    have:(if c=10 then 32 else c)=32:=by rcases h with h | h<;>simp[h]
    rw[this,zo,if_pos rfl]
   refine⟨?_,fun w=>⟨[],_,e,?_⟩⟩
   ·rw[j9,if_pos h]
    have:=(Zp r (done++(none:Option T).toList)).1
    rw[this]
    simp[zD,e]
   ·rw[j9,if_pos h,(Zp r _).1]
    simp[zD]
  ·have hc:(if c=10 then 32 else c)=c:=by rw[if_neg fun e=>h (.inr e)]
   obtain⟨p,ps,ep,es⟩:=(Zp r done).2 [c]
   have e:zo 32 (jT (c::r))=(c::p)::ps:=by
    show zo 32 ((if c=10 then 32 else c)::jT r)=_
    rw[hc,zo,if_neg fun e=>h (.inl e),ep]
   refine⟨?_,fun w=>⟨c::p,ps,e,?_⟩⟩
   ·rw[j9,if_neg h]
    show j9 done (some [c]) r=_
    rw[es]
    simp[zD,e]
   ·rw[j9,if_neg h]
    obtain⟨p',ps',ep',es'⟩:=(Zp r done).2 (w++[c])
    rw[ep] at ep'
    cases ep'
    show j9 done (some (w++[c])) r=_
    rw[es']
    simp
noncomputable def qK:F:=chN QV
theorem zAz:zj 1 QV qK:=zHl _
noncomputable def wl (done:List T) (cur:T):T->List T×T
 | []=>(done,cur)
 | c::r=>if c=32\/c=10 then (if cur=[] then wl done [] r else wl (done++[cur]) [] r) else wl done (cur++[c]) r
theorem zBC:∀ (r:T) (done:List T) (cur:T),(wl done cur (r++[32])).1=j9 done (if cur=[] then none else some cur) r
 | [],done,cur=>by
  by_cases h:cur=[]<;>simp[wl,j9,h]
 | c::r,done,cur=>by
  rw[List.cons_append,wl,j9]
  by_cases h:c=32\/c=10
  ·rw[if_pos h,if_pos h]
   by_cases hc:cur=[]
   ·rw[if_pos hc,zBC r];simp[hc]
   ·rw[if_neg hc,zBC r];simp[hc]
  ·rw[if_neg h,if_neg h,zBC r]
   by_cases hc:cur=[]<;>simp[hc]
noncomputable abbrev zIK:SM:=(sIf (qC zBJ (zE 3) (eC (.str [32,10])))
  (z7 2 (eOp jX (zE 2) (zE 3)))
  (sIf (qC cNe (zE 2) (eC (.str [])))
  (zZ (qp (eM .list q8 (zE 1) (zC (zE 2) zK)))
  (z7 2 (eC (.str []))))
  Z8))
theorem Qg (S:M.S) (v0:Option D):∀ (r:T) (done:List T) (cur:T) (v:Option D),cur.length+r.length <= 100000->done.length+r.length <= 100000 ->
  ∃ v',j0 [] (yR (jS 3) zIK) (r.map fun c=>.str [c]) [v0,some (.ref S.length),some (.str cur),v] (S++[.lst (done.map .str)])=.nx [v0,some (.ref S.length),some (.str (wl done cur r).2),v'] (S++[.lst ((wl done cur r).1.map .str)])
 | [],done,cur,v,_,_=>⟨_,rfl⟩
 | c::r,done,cur,v,h1,h2=>by
  rw[List.length_cons] at h1 h2
  have hZ:SZ=16777216:=rfl
  by_cases h:c=32\/c=10
  ·have hs:ZT [c] [32,10]=true:=by rcases h with h | h<;>subst h<;>rfl
   by_cases hc:cur=[]
   ·subst hc
    obtain⟨v',e⟩:=Qg S v0 r done [] (some (.str [c])) (by simp at h1 ⊢;omega) (by omega)
    refine⟨v',?_⟩
    rw[wl,if_pos h,if_pos rfl,<- e]
    simp[j0,zR,hs]
   ·obtain⟨v',e⟩:=Qg S v0 r (done++[cur]) [] (some (.str [c])) (by simp;omega) (by simp;omega)
    refine⟨v',?_⟩
    have q:done.length < SZ:=by omega
    rw[wl,if_pos h,if_neg hc,<- e]
    simp[j0,zR,hs,hc,q]
  ·have hs:ZT [c] [32,10]=false:=by
    have n1:¬ c=32:=fun e=>h (.inl e)
    have n2:¬ c=10:=fun e=>h (.inr e)
    simp[ZT,List.isPrefixOf,n1,n2]
   obtain⟨v',e⟩:=Qg S v0 r done (cur++[c]) (some (.str [c])) (by simp;omega) (by omega)
   refine⟨v',?_⟩
   have q:cur.length+1 <= SZ:=by omega
   rw[wl,if_neg h,<- e]
   simp[j0,zR,hs,q]
theorem zD1 {t:T} (h:t.length <= 2000) (S:M.S):qK [.str t] S=alloc (.lst ((zD t).map .str)) S:=by
 obtain⟨v',e⟩:=Qg S (some (.str t)) (t++[32]) [] [] none (by simp;omega) (by simp;omega)
 rw[zBC,if_pos rfl,(Zp t []).1,List.nil_append] at e
 have z:t.length+1 <= SZ:=by unfold SZ;omega
 refine zG4 (g:=[.lst ((zD t).map .str)]) (j:=S.length) ?_ (by simp) (Nat.le_refl _) (J9 _ _)
 show (zZ jd (zZ jc (zZ jQ jv)) [some (.str t),none,none,none] S).out=_
 have e3:jQ [some (.str t),some (.ref S.length),some (.str []),none] (S++[.lst []])=.nx [some (.str t),some (.ref S.length),some (.str (wl [] [] (t++[32])).2),v'] (S++[.lst ((zD t).map .str)]):=by
  rw[<- e]
  have g:zR [] (S++[O.lst []])=true:=rfl
  have z2:(t++[32]).length <= SZ:=by simpa using z
  simp only[jQ,J6,iE,eOp,zE,eC,List.getElem?_cons_zero,R.bind_ok,jX,List.length_cons,List.length_nil,Nat.zero_add,z,if_true,itD,z2,R.stm_ok,g,List.map_nil]
 have e12:∀ r,(zZ jd (zZ jc r)) [some (.str t),none,none,none] S=r [some (.str t),some (.ref S.length),some (.str []),none] (S++[.lst []]):=fun r=>by simp[jd,jc]
 rw[e12]
 show ((jQ _ _).then _).out=_
 rw[e3,RS.then_nx]
 simp[jv]
noncomputable def yP:SM :=
  (jy (eOp jN (eOp yv (eOp jX (zE 0) (eOp yv (eC (.int 7919)) (zE 1))) (eC (.int 48271))) (eC (.int 2147483647))))
noncomputable def QX:F:=fn 2 yP
noncomputable def mix (c k:Int):Int:=(c+7919 * k) * 48271 % 2147483647
noncomputable def qM:F
 | [.int c,.int k],s=>.ok (.int (mix c k)) s
 | _,_=>.no
theorem zAu:zj 2 QX qM:=zj.pure fun ds S hl c ca=>by
 match ds,hl with
 | [a,b],_ =>
  cases a with
  | int c =>
   cases b with
   | int k =>
    have h1:zv 7919=true:=by decide
    have h2:zv 48271=true:=by decide
    exact .inr ⟨_,[],rfl,by simp[QX,yP,h1,h2,mix],rfl⟩
   | _=>exact .inl rfl
  | _=>exact .inl rfl
noncomputable def j4:SM :=
  (zZ (sIf (qC cLt (zE 1) (zM Zg (zC (zE 0) zK)))
  (jy (zM qM (zC (eOp qf (zE 0) (zE 1)) (zC (zE 1) zK))))
  Z8)
  (jy (eC (.int 0))))
noncomputable def yp:F:=fn 2 j4
noncomputable def Qm (xs:List D) (k:Int):Option Int:=if k < xs.length then (match xs.getD k.toNat .non with | .int i=>some (mix i k) | _=>none) else some 0
noncomputable def zP:F
 | [.ro xs,.int k],s=>if 0 <= k then (match Qm xs k with | some i=>.ok (.int i) s | none=>.no) else .no
 | _,_=>.no
theorem Jd:zj 2 yp zP:=zj.pure fun ds S hl c ca=>by
 match ds,hl with
 | [a,b],_ =>
  cases a with
  | ro xs =>
   cases b with
   | int k =>
    by_cases h0:0 <= k
    ·have s1:zv 48271=true:=by decide
     have s2:zv 7919=true:=by decide
     by_cases h:k < (xs.length:Int)
     ·have ea:=J8 h0 h (D.non)
      cases hd:xs.getD k.toNat .non with
      | int i =>
       have hc:Qm xs k=some (mix i k):=by unfold Qm;rw[if_pos h,hd]
       exact .inr ⟨_,[],by simp[zP,h0,hc];rfl,by simp[yp,j4,h,ea,-List.getD_eq_getElem?_getD,hd,qM],rfl⟩
      | _=>exact .inl (by simp[zP,h0,Qm,h,-List.getD_eq_getElem?_getD,hd])
     ·exact .inr ⟨.int 0,[],by simp[zP,h0,Qm,h],by simp[yp,j4,h],rfl⟩
    ·exact .inl (by simp[zP,h0])
   | _=>exact .inl rfl
  | _=>exact .inl rfl
theorem zHI (c k:Int):0 <= mix c k/\mix c k < 2147483647:=⟨Int.emod_nonneg _ (by decide),Int.emod_lt_of_pos _ (by decide)⟩
noncomputable def yM (ns:List Int) (k:Nat):Int:=if k < ns.length then mix (ns.getD k 0) k else 0
theorem zFS (ns:List Int) (k:Nat):0 <= yM ns k/\yM ns k < 2147483647:=by
 unfold yM
 split
 ·exact zHI _ _
 ·decide
theorem zCX (ns:List Int) (k:Nat) (s:M.S):zP [.ro (ns.map .int),.int (k:Int)] s=.ok (.int (yM ns k)) s:=by
 have h0:(0:Int) <= (k:Int):=by omega
 simp only[zP,h0,if_true]
 unfold Qm yM
 by_cases h:k < ns.length
 ·have h':(k:Int) < ((ns.map D.int).length:Int):=by rw[List.length_map];omega
  rw[if_pos h',if_pos h]
  have:(ns.map D.int).getD (k:Int).toNat .non=.int (ns.getD k 0):=by
   rw[Int.toNat_natCast,List.getD_eq_getElem?_getD,List.getElem?_map,List.getD_eq_getElem?_getD,List.getElem?_eq_getElem h]
   rfl
  rw[this]
 ·have h':¬ (k:Int) < ((ns.map D.int).length:Int):=by rw[List.length_map];omega
  rw[if_neg h',if_neg h]
noncomputable def jL:SM :=
  (z7 1 (zM zCf (zC (zE 0) zK)))
noncomputable def jJ:SM :=
  (z7 2 (yY zK))
noncomputable def jK:SM :=
  (zBv (qC cNe (zE 1) (yY zK))
  (zZ (qp (eM .list q8 (zE 2) (zC (zM ZA (zC (zE 1) zK)) zK)))
  (qp (eM .list Zw (zE 1) (zC (zM ZA (zC (zE 1) zK)) zK)))))
noncomputable def jV:SM :=
  (jy (eM .str qI (eC (.str [32])) (zC (zE 2) zK)))
noncomputable def yG:SM:=(zZ jL (zZ jJ (zZ jK jV)))
noncomputable def ZY:F:=fn 3 yG
theorem Qs (c:Nat):∀ (x:T),∀ p∈zo c x,p.length <= x.length
 | [],p,h=>by simp[zo] at h;subst h;simp
 | d::r,p,h=>by
  have ih:=Qs c r
  unfold zo at h
  split at h
  ·rcases List.mem_cons.mp h with rfl | h
   ·simp
   ·have:=ih p h;simp;omega
  ·split at h
   ·simp at h;subst h;simp
   ·rename_i q qs e
    rw[e] at ih
    rcases List.mem_cons.mp h with rfl | h
    ·have:=ih q (by simp);simp;omega
    ·have:=ih p (by simp[h]);simp;omega
theorem qm {t:T} (h:t.length <= 2000):(zD t).length <= 2001/\∀ p∈zD t,p.length <= 2000:=by
 have hl:(jT t).length=t.length:=by simp[jT]
 have h1:=Zk 32 (jT t)
 have h2:=Qs 32 (jT t)
 unfold zD
 refine⟨Nat.le_trans (List.length_filter_le _ _) (by omega),fun p hp=>?_⟩
 have:=h2 p (List.mem_filter.mp hp).1
 omega
theorem Zd {m:Nat}:∀ ys:List T,(∀ p∈ys,p.length <= m)->(ys.map List.length).sum <= m * ys.length
 | [],_=>by simp
 | y::ys,h=>by
  have:=Zd ys fun p hp=>h p (List.mem_cons_of_mem _ hp)
  have:=h y List.mem_cons_self
  simp only[List.map_cons,List.sum_cons,List.length_cons,Nat.mul_add,Nat.mul_one]
  omega
theorem yB (x:T) (hx:x.length <= 1) (ys:List T) (hl:ys.length <= 2001) (h:∀ p∈ys,p.length <= 2000) (s:M.S):qb x (ys.map .str) s=.ok (.str (zt x ys)) s:=by
 unfold qb
 rw[Zf]
 have:=Zd ys h
 have h2:ys.length * x.length <= ys.length * 1:=Nat.mul_le_mul_left _ hx
 dsimp only
 rw[if_pos (by unfold SZ;omega)]
noncomputable abbrev NLt (a b:T):Prop:=¬ b < a
theorem zBc {a b c:T} (h1:¬ b < a) (h2:¬ c < b):¬ c < a:=by
 rw[List.not_lt] at h1 h2 ⊢
 exact List.le_trans h1 h2
theorem zAE (x:T):∀ ts:List T,(zn.insT' x ts).Perm (x::ts)
 | []=>.refl _
 | y::r=>by
  unfold zn.insT'
  split
  ·exact ((zAE x r).cons y).trans (.swap x y r)
  ·exact .refl _
theorem yr:∀ ts:List T,(zn ts).Perm ts
 | []=>.refl _
 | x::r=>(zAE x _).trans ((yr r).cons x)
theorem zCL (x:T):∀ ts:List T,ts.Pairwise NLt->(zn.insT' x ts).Pairwise NLt
 | [],_=>by unfold zn.insT';simp
 | y::r,h=>by
  rw[List.pairwise_cons] at h
  unfold zn.insT'
  split
  ·rename_i hy
   rw[List.pairwise_cons]
   refine⟨fun b hb=>?_,zCL x r h.2⟩
   rcases List.mem_cons.mp ((zAE x r).mem_iff.mp hb) with rfl | hb
   ·exact fun z=>List.lt_irrefl _ (List.lt_trans z hy)
   ·exact h.1 b hb
  ·rename_i hy
   rw[List.pairwise_cons]
   refine⟨fun b hb=>?_,List.pairwise_cons.mpr h⟩
   rcases List.mem_cons.mp hb with rfl | hb
   ·exact hy
   ·exact zBc hy (h.1 b hb)
theorem zBV:∀ ts:List T,(zn ts).Pairwise NLt
 | []=>.nil
 | x::r=>zCL x _ (zBV r)
theorem zAI:∀ (r:List T) (x:T),(r.foldl (fun b y=>if y < b then y else b) x)∈x::r/\∀ z∈x::r,¬ z < r.foldl (fun b y=>if y < b then y else b) x
 | [],x=>⟨by simp,fun z hz=>by rw[List.mem_singleton.mp hz];exact List.lt_irrefl _⟩
 | y::r,x=>by
  rw[List.foldl_cons]
  obtain⟨h1,h2⟩:=zAI r (if y < x then y else x)
  by_cases h:y < x
  ·rw[if_pos h] at h1 h2 ⊢
   refine⟨List.mem_cons_of_mem _ h1,fun z hz=>?_⟩
   rcases List.mem_cons.mp hz with rfl | hz
   ·exact fun q=>h2 y (by simp) (List.lt_trans h q)
   ·exact h2 z hz
  ·rw[if_neg h] at h1 h2 ⊢
   refine⟨?_,fun z hz=>?_⟩
   ·rcases List.mem_cons.mp h1 with h1 | h1
    ·rw[h1];simp
    ·exact List.mem_cons_of_mem _ (List.mem_cons_of_mem _ h1)
   ·rcases List.mem_cons.mp hz with rfl | hz
    ·exact h2 _ (by simp)
    ·rcases List.mem_cons.mp hz with rfl | hz
     ·exact zBc (h2 x (by simp)) h
     ·exact h2 z (List.mem_cons_of_mem _ hz)
noncomputable def jU:F:=chS ZY
theorem Qy:zj 1 ZY jU:=yz _
noncomputable abbrev ioC:TM:=qC cNe (zE 1) (yY zK)
noncomputable abbrev zDd:SM:=(zZ (qp (eM .list q8 (zE 2) (zC (zM ZA (zC (zE 1) zK)) zK)))
  (qp (eM .list Zw (zE 1) (zC (zM ZA (zC (zE 1) zK)) zK))))
noncomputable abbrev ioS (S:M.S) (B A:List T) (g:M.S):M.S:=S++.lst (B.map .str)::.lst (A.map .str)::g
theorem QN {S g:M.S}{B A:List T}:(ioS S B A g)[S.length]? = some (.lst (B.map .str))/\(ioS S B A g)[S.length+1]? = some (.lst (A.map .str)):=by
 refine⟨?_,?_⟩
 ·rw[List.getElem?_append_right (Nat.le_refl _),Nat.sub_self];rfl
 ·rw[List.getElem?_append_right (by omega),show S.length+1 - S.length=1 by omega];rfl
theorem zCQ {S g:M.S}{B A:List T}{v0:Option D}:ioC [v0,some (.ref S.length),some (.ref (S.length+1))] (ioS S B A g)=.ok (!decide (B=[])) (ioS S B A (g++[.lst []])):=by
 have e:ioS S B A g++[O.lst []]=ioS S B A (g++[.lst []]):=by simp[ioS]
 have q:=zAg (s:=ioS S B A (g++[.lst []])) (p:=S.length) (q:=(ioS S B A g).length) (ts:=B) (us:=[]) QN.1 (by rw[<- e,List.getElem?_append_right (Nat.le_refl _),Nat.sub_self];rfl)
 simp only[ioC,qC,zE,List.getElem?_cons_succ,List.getElem?_cons_zero,R.bind_ok,yY,zK,List.length_nil,Nat.zero_le,if_true,alloc,cNe,e,q]
theorem zFx {S g:M.S}{B A:List T}{v0:Option D}{m:T} (hm:zEf B=some m) (hR:m∈B) (hA:A.length <= 5000):zDd [v0,some (.ref S.length),some (.ref (S.length+1))] (ioS S B A g)=.nx [v0,some (.ref S.length),some (.ref (S.length+1))] (ioS S (B.erase m) (A++[m]) g):=by
 have km:∀ (A:List T),ZA [.ref S.length] (ioS S B A g)=.ok (.str m) (ioS S B A g):=fun A=>by
  have h1:zT (ioS S B A g) S.length=some (B.map .str):=by unfold zT;rw[QN.1]
  simp only[ZA,zFL,h1,zFN,Zf,hm]
 have s1:(ioS S B A g).set (S.length+1) (.lst ((A++[m]).map .str))=ioS S B (A++[m]) g:=by
  unfold ioS;rw[List.set_append_right _ _ (by omega),show S.length+1 - S.length=1 by omega];rfl
 have s2:(ioS S B (A++[m]) g).set S.length (.lst ((B.erase m).map .str))=ioS S (B.erase m) (A++[m]) g:=by
  unfold ioS;rw[List.set_append_right _ _ (Nat.le_refl _),Nat.sub_self];rfl
 have z:(A.map D.str).length < SZ:=by rw[List.length_map];unfold SZ;omega
 have e1:(qp (eM .list q8 (zE 2) (zC (zM ZA (zC (zE 1) zK)) zK))) [v0,some (.ref S.length),some (.ref (S.length+1))] (ioS S B A g)=.nx [v0,some (.ref S.length),some (.ref (S.length+1))] (ioS S B (A++[m]) g):=by
  simp only[qp,eM,zE,List.getElem?_cons_succ,List.getElem?_cons_zero,R.bind_ok,qx,QN.2,if_true,zC,zM,zK,km,q8,z,R.stm_ok]
  rw[<- s1,List.map_append];rfl
 show ((qp _) _ _).then _=_
 rw[e1,RS.then_nx]
 simp only[qp,eM,zE,List.getElem?_cons_succ,List.getElem?_cons_zero,R.bind_ok,qx,QN.1,if_true,zC,zM,zK,km,Zw,Zf,hR,R.stm_ok,s2]
theorem zBj {S:M.S}{v0:Option D}{ts:List T} (ht:ts.length <= 5000):∀ (n fuel:Nat) (B A:List T) (g:M.S),B.length=n->n < fuel->(A++B).Perm ts->A.Pairwise NLt->(∀ a∈A,∀ b∈B,¬ b < a) ->
  ∃ A' g',qo fuel ioC zDd [v0,some (.ref S.length),some (.ref (S.length+1))] (ioS S B A g)=.nx [v0,some (.ref S.length),some (.ref (S.length+1))] (ioS S [] A' g')/\A'.Perm ts/\A'.Pairwise NLt
 | 0,fuel+1,B,A,g,hn,_,hp,hA,_=>by
  have e0:B=[]:=List.eq_nil_of_length_eq_zero hn
  subst e0
  refine⟨A,g++[.lst []],?_,by simpa using hp,hA⟩
  rw[qo,zCQ]
  rfl
 | n+1,fuel+1,B,A,g,hn,hf,hp,hA,hAR=>by
  have hne:B≠[]:=fun e=>by rw[e] at hn;simp at hn
  obtain⟨m,hm,mR,ml⟩:∃ m,zEf B=some m/\m∈B/\∀ z∈B,¬ z < m:=by
   cases B with
   | nil=>exact absurd rfl hne
   | cons x r=>exact⟨_,rfl,(zAI r x).1,(zAI r x).2⟩
  have hl:=hp.length_eq
  rw[List.length_append] at hl
  have pe:(A++[m]++B.erase m).Perm (A++B):=by
   rw[List.append_assoc]
   exact List.Perm.append_left A (List.perm_cons_erase mR).symm
  obtain⟨A',g',e,p',q'⟩:=zBj ht n fuel (B.erase m) (A++[m]) (g++[.lst []]) (by rw[List.length_erase_of_mem mR];omega) (by omega) (pe.trans hp) (by
   rw[List.pairwise_append]
   exact⟨hA,by simp,fun a ha b hb=>by rw[List.mem_singleton.mp hb];exact hAR a ha m mR⟩) (fun a ha b hb=>by
   have hb':=List.mem_of_mem_erase hb
   rcases List.mem_append.mp ha with ha | ha
   ·exact hAR a ha b hb'
   ·rw[List.mem_singleton.mp ha];exact ml b hb')
  refine⟨A',g',?_,p',q'⟩
  rw[qo,zCQ,R.stm_ok]
  simp only[hne,decide_false,Bool.not_false,if_true]
  rw[zFx hm mR (by omega)]
  exact e
theorem zEc {S:M.S}{p:Nat}{ts:List T} (hp:S[p]? = some (.lst (ts.map .str))) (ht:ts.length <= 2001) (hb:∀ t∈ts,t.length <= 2000):jU [.ref p] S=.ok (.str (zt [32] (zn ts))) S:=by
 obtain⟨A,g,e,p1,p2⟩:=zBj (S:=S) (v0:=some (.ref p)) (ts:=ts) (by omega) ts.length zC8 ts [] [] rfl (by unfold zC8;omega) (by simp) .nil (fun a h=>by cases h)
 have eA:A=zn ts:=(p1.trans (yr ts).symm).eq_of_pairwise (fun a b _ _ h1 h2=>List.le_antisymm (List.not_lt.mp h1) (List.not_lt.mp h2)) p2 (zBV ts)
 subst eA
 refine y1 (g:=.lst []::.lst ((zn ts).map .str)::g) ?_ rfl
 show (zZ jL (zZ jJ (zZ jK jV)) [some (.ref p),none,none] S).out=_
 have e12:∀ r,(zZ jL (zZ jJ r)) [some (.ref p),none,none] S=r [some (.ref p),some (.ref S.length),some (.ref (S.length+1))] (ioS S ts [] []):=fun r=>by
  simp[jL,jJ,hp,ioS]
 rw[e12]
 have e3:jK [some (.ref p),some (.ref S.length),some (.ref (S.length+1))] (ioS S ts [] [])=.nx [some (.ref p),some (.ref S.length),some (.ref (S.length+1))] (ioS S [] (zn ts) g):=e
 show ((jK _ _).then _).out=_
 rw[e3,RS.then_nx]
 have j:=yB [32] (by simp) (zn ts) (by rw[(yr ts).length_eq];exact ht) (fun q hq=>hb q ((yr ts).mem_iff.mp hq)) (ioS S [] (zn ts) g)
 have h1:zT (ioS S [] (zn ts) g) (S.length+1)=some ((zn ts).map .str):=by unfold zT;rw[QN.2]
 simp only[jV,jy,eM,eC,R.bind_ok,qx,if_true,zC,zE,List.getElem?_cons_succ,List.getElem?_cons_zero,zK,qI,QW,h1,j,R.stm_ok,RS.out_rt]
 rfl
noncomputable def qc:SM :=
  (jy (eUn zCp (zE 0)))
noncomputable def yo:F:=fn 1 qc
noncomputable def ju:F:=chS yo
theorem Jk:zj 1 yo ju:=yz _
theorem zFb {t:T} (h:t.length <= 2000) (S:M.S):ju [.str t] S=.ok (.str t.reverse) S:=by
 have z:t.length <= SZ:=by unfold SZ;omega
 refine y1 (g:=[]) ?_ rfl
 simp[yo,qc,z]
noncomputable def y9:SM :=
  (jy (zCg 1 (iE (eM .str JV (eM .str Z4 (zE 0) (zC (eC (.str [10])) (zC (eC (.str [32])) zK))) (zC (eC (.str [32])) zK))) (jS 1) (qC cNe (zE 1) (eC (.str []))) (zE 1)))
noncomputable def JL:F:=fn 1 y9
noncomputable def jH:F
 | [.str x],s=>if x.length <= 100000 then alloc (.lst ((zD x).map .str)) s else .no
 | _,_=>.no
theorem zCF:zj 1 JL jH:=zj.new fun ds S hl c ca=>by
 match ds,hl with
 | [.str x],_ =>
  by_cases hz:x.length <= 100000
  ·have h1:2 * x.length+1 <= SZ:=by unfold SZ;omega
   have h2:x.length+2 <= SZ:=by unfold SZ;omega
   have hs:=Zk 32 (jT x)
   have hll:(jT x).length=x.length:=by simp[jT]
   have e:qF 1 (iE (eM .str JV (eM .str Z4 (zE 0) (zC (eC (.str [10])) (zC (eC (.str [32])) zK))) (zC (eC (.str [32])) zK))) (jS 1) (qC cNe (zE 1) (eC (.str []))) (zE 1) [some (.str x)] S=.ok ((zD x).map .str) (S++[.lst ((zo 32 (jT x)).map .str)]) :=
    zDQ (ts:=zo 32 (jT x)) (g:=[(S.length,.lst ((zo 32 (jT x)).map .str))]) (fun w=>decide (w≠[])) (by simp[h1,h2];rfl) (by unfold SZ;omega) (by simp[zR]) fun w _=>by by_cases h:w=[]<;>simp[h]
   refine .inr ⟨.lst ((zD x).map .str),S.length+1,[.lst ((zo 32 (jT x)).map .str),.lst ((zD x).map .str)],by simp[jH,hz],by simp[JL,y9,e],by simp,by omega,J9 _ _⟩
  ·exact .inl (by simp[jH,hz])
 | [.non],_=>exact .inl rfl
 | [.bl _],_=>exact .inl rfl
 | [.int _],_=>exact .inl rfl
 | [.ty _],_=>exact .inl rfl
 | [.ref _],_=>exact .inl rfl
 | [.tup _],_=>exact .inl rfl
 | [.ro _],_=>exact .inl rfl
noncomputable def yJ:SM :=
  (jy (eM .str qI (eC (.str [32])) (zC (eSl (zM jH (zC (zE 0) zK)) Zz (Z3 (eC (.int 1)))) zK)))
noncomputable def ZR:F:=fn 1 yJ
noncomputable def qQ:F:=chS ZR
theorem zAs:zj 1 ZR qQ:=yz _
theorem zBF {t:T} (h:t.length <= 2000) (s:M.S):jH [.str t] s=.ok (.ref s.length) (s++[.lst ((zD t).map .str)]):=by
 simp only[jH]
 rw[if_pos (by omega)]
 rfl
theorem zEr {t:T} (h:t.length <= 2000) (S:M.S):qQ [.str t] S=.ok (.str (zt [32] ((zD t).take 1))) S:=by
 have hwb:=qm h
 have c1:cut ((zD t).map D.str) none (some 1)=((zD t).take 1).map D.str:=by rw[zEG _ (by decide)];simp
 have j1:=fun s=>yB [32] (by simp) ((zD t).take 1) (by rw[List.length_take];omega) (fun p hp=>Nat.le_trans (hwb.2 p (List.mem_of_mem_take hp)) (by omega)) s
 refine y1 (g:=[.lst ((zD t).map .str),.lst (((zD t).take 1).map .str)]) ?_ rfl
 simp[ZR,yJ,zBF h,-List.map_take,c1,j1]
noncomputable def yO:SM :=
  (jy (eM .str qI (eC (.str [32])) (zC (eSl (zM jH (zC (zE 0) zK)) (Z3 (eC (.int 1))) Zz) zK)))
noncomputable def ZI:F:=fn 1 yO
noncomputable def qN:F:=chS ZI
theorem zAt:zj 1 ZI qN:=yz _
theorem zGK {t:T} (h:t.length <= 2000) (S:M.S):qN [.str t] S=.ok (.str (zt [32] ((zD t).drop 1))) S:=by
 have hwb:=qm h
 have c1:cut ((zD t).map D.str) (some 1) none=((zD t).drop 1).map D.str:=by rw[zEQ _ (by decide)];simp
 have j1:=fun s=>yB [32] (by simp) ((zD t).drop 1) (by rw[List.length_drop];omega) (fun p hp=>Nat.le_trans (hwb.2 p (List.mem_of_mem_drop hp)) (by omega)) s
 refine y1 (g:=[.lst ((zD t).map .str),.lst (((zD t).drop 1).map .str)]) ?_ rfl
 simp[ZI,yO,zBF h,-List.map_drop,-List.drop_one,c1,j1]
noncomputable def ZZ:SM :=
  (jy (zM zBY (zC (zM Zg (zC (zM jH (zC (zE 0) zK)) zK)) zK)))
noncomputable def QS:F:=fn 1 ZZ
noncomputable def yx:F:=chS QS
theorem zDJ:zj 1 QS yx:=yz _
theorem zDT {t:T} (h:t.length <= 2000) (S:M.S):yx [.str t] S=.ok (.str (ZQ (zD t).length)) S:=by
 have hwb:=qm h
 have zs:zv ((zD t).length:Int)=true:=by unfold zv;rw[decide_eq_true_iff];omega
 refine y1 (g:=[.lst ((zD t).map .str)]) ?_ rfl
 simp[QS,ZZ,zBF h,zs]
noncomputable def qd:SM :=
  (jy (eM .str qI (eC (.str [32])) (zC (zM zAN (zC (zM jH (zC (zE 0) zK)) zK)) zK)))
noncomputable def yW:F:=fn 1 qd
noncomputable def jq:F:=chS yW
theorem Jn:zj 1 yW jq:=yz _
theorem zC0 {t:T} (h:t.length <= 2000) (S:M.S):jq [.str t] S=.ok (.str (zt [32] (zn (zD t)))) S:=by
 have hwb:=qm h
 have j3:=fun s=>yB [32] (by simp) (zn (zD t)) (by rw[(yr (zD t)).length_eq];omega) (fun p hp=>Nat.le_trans (hwb.2 p ((yr (zD t)).mem_iff.mp hp)) (by omega)) s
 refine y1 (g:=[.lst ((zD t).map .str),.lst ((zn (zD t)).map .str)]) ?_ rfl
 simp[yW,qd,zBF h,Jx,Zf,show (zD t).length <= 16777216 by omega,j3]
noncomputable def qX:SM :=
  (zZ (z7 1 (eC (.str [32,33,35,36,38,39,40,41,42,43,44,45,46,47,48,49,50,51,52,53,54,55,56,57,58,59,60,61,62,63,64,65,66,67,68,69,70,71,72,73,74,75,76,77,78,79,80,81,82,83,84,85,86,87,88,89,90,91,92,93,94,95,96])))
  (zZ (z7 1 (eOp jX (zE 1) (eC (.str [97,98,99,100,101,102,103,104,105,106,107,108,109,110,111,112,113,114,115,116,117,118,119,120,121,122,123,124,125,126]))))
  (jy (eOp qf (zE 1) (eOp jN (zE 0) (eC (.int 93)))))))
noncomputable def yg:F:=fn 2 qX
noncomputable def jP:F:=chS yg
theorem JW:zj 1 yg jP:=yz _
noncomputable def zBE:T:=[32,33,35,36,38,39,40,41,42,43,44,45,46,47,48,49,50,51,52,53,54,55,56,57,58,59,60,61,62,63,64,65,66,67,68,69,70,71,72,73,74,75,76,77,78,79,80,81,82,83,84,85,86,87,88,89,90,91,92,93,94,95,96]++[97,98,99,100,101,102,103,104,105,106,107,108,109,110,111,112,113,114,115,116,117,118,119,120,121,122,123,124,125,126]
noncomputable def sgN (c:Int):Nat:=zBE.getD (c % 93).toNat 0
theorem zCP (c:Int) (S:M.S):jP [.int c] S=.ok (.str [sgN c]) S:=by
 have a:=Int.emod_nonneg c (show (93:Int)≠0 by decide)
 have b:=Int.emod_lt_of_pos c (show (0:Int) < 93 by decide)
 have e:atI zBE (c % 93)=some (sgN c):=J8 (xs:=zBE) a (show c % 93 < ((93:Nat):Int) from b) 0
 have z1:(93:Nat) <= SZ:=by decide
 refine y1 (g:=[]) ?_ rfl
 rw[List.append_nil]
 unfold zBE at e
 have z2:(63:Nat)+30 <= SZ:=by decide
 simp only[yg,qX,fn,List.map_cons,List.map_nil,List.length_cons,List.length_nil,List.replicate,List.cons_append,List.nil_append,zZ,z7,eC,R.stm_ok,List.set_cons_succ,List.set_cons_zero,RS.then_nx,eOp,zE,List.getElem?_cons_succ,List.getElem?_cons_zero,R.bind_ok,jX,jy,jN]
 simp only[List.cons_append,List.nil_append] at e
 simp[e,z1,RS.out]
noncomputable def yN:SM :=
  (jy (eOp qf (yY (zC (eC (.str [])) (zC (eC (.str [32])) (zC (eC (.str [10])) (zC (eC (.str [98])) (zC (eC (.str [97])) (zC (zM jP (zC (eOp jX (zE 0) (eOp yv (zE 1) (eC (.int 7)))) zK)) (zC (eC (.str [97,98])) (zC (eC (.str [66])) zK))))))))) (eOp jN (eOp jN (eOp yv (eOp jX (eOp qH (zE 0) (eC (.int 93))) (eOp yv (zE 1) (eC (.int 977)))) (eC (.int 48271))) (eC (.int 7919))) (eC (.int 8)))))
noncomputable def ZP:F:=fn 2 yN
noncomputable def jt:F:=chS ZP
theorem zA9:zj 2 ZP jt:=yz _
noncomputable def pcL (c k:Int):List T:=[[],[32],[10],[98],[97],[sgN (c+k * 7)],[97,98],[66]]
noncomputable def pcT (c k:Int):T:=(pcL c k).getD ((c / 93+k * 977) * 48271 % 7919 % 8).toNat []
theorem zGR (c k:Int):(pcT c k).length <= 2:=by
 unfold pcT pcL
 generalize ((c / 93+k * 977) * 48271 % 7919 % 8).toNat=j
 match j with
 | 0=>show 0 <= 2;omega
 | 1=>show 1 <= 2;omega
 | 2=>show 1 <= 2;omega
 | 3=>show 1 <= 2;omega
 | 4=>show 1 <= 2;omega
 | 5=>show 1 <= 2;omega
 | 6=>show 2 <= 2;omega
 | 7=>show 1 <= 2;omega
 | _+8=>show 0 <= 2;omega
theorem zFi (c k:Int) (S:M.S):jt [.int c,.int k] S=.ok (.str (pcT c k)) S:=by
 have a:=Int.emod_nonneg ((c / 93+k * 977) * 48271 % 7919) (show (8:Int)≠0 by decide)
 have b:=Int.emod_lt_of_pos ((c / 93+k * 977) * 48271 % 7919) (show (0:Int) < 8 by decide)
 have e:atI ((pcL c k).map D.str) ((c / 93+k * 977) * 48271 % 7919 % 8)=some (.str (pcT c k)):=by
  rw[J8 a (show _ < (((pcL c k).map D.str).length:Int) from b) (.str [])]
  unfold pcT
  rw[List.getD_eq_getElem?_getD,List.getElem?_map,List.getD_eq_getElem?_getD]
  cases (pcL c k)[((c / 93+k * 977) * 48271 % 7919 % 8).toNat]?<;>rfl
 have s1:∀ i:Int,(zv i || zv 7)=true:=fun i=>by rw[show zv 7=true by decide,Bool.or_true]
 have s2:∀ i:Int,(zv i || zv 977)=true:=fun i=>by rw[show zv 977=true by decide,Bool.or_true]
 have s3:∀ i:Int,(zv i || zv 48271)=true:=fun i=>by rw[show zv 48271=true by decide,Bool.or_true]
 have d93:(0:Int) < 93/\(93:Int).natAbs < 1073741824:=by decide
 have m1:(0:Int) < 7919:=by decide
 have m2:(0:Int) < 8:=by decide
 have z:((pcL c k).map D.str).length <= SZ:=by show 8 <= SZ;decide
 have g:(S++[O.lst ((pcL c k).map D.str)])[S.length]? = some (.lst ((pcL c k).map D.str)):=by simp
 refine y1 (g:=[.lst ((pcL c k).map D.str)]) ?_ rfl
 have e1:([D.str [],.str [32],.str [10],.str [98],.str [97],.str [sgN (c+k * 7)],.str [97,98],.str [66]]:List D)=(pcL c k).map D.str:=rfl
 simp only[ZP,yN,fn,List.map_cons,List.map_nil,List.length_cons,List.length_nil,List.replicate,List.append_nil,Nat.sub_self,jy,eOp,yY,zC,zK,eC,zM,zE,List.getElem?_cons_succ,List.getElem?_cons_zero,R.bind_ok,yv,s1,if_true,jX,zCP,e1,z,alloc,qH,d93,and_self,s2,s3,jN,m1,m2,qf,g,e,R.stm_ok,RS.out_rt]
noncomputable def qa:SM :=
  (z7 1 (eOp jN (zM zP (zC (zE 0) (zC (eC (.int 0)) zK))) (eC (.int 13))))
noncomputable def yc:SM :=
  (sIf (qC cEq (eOp jN (eOp qH (zM zP (zC (zE 0) (zC (eC (.int 0)) zK))) (eC (.int 13))) (eC (.int 4))) (eC (.int 1)))
  (z7 1 (eOp jN (eOp qH (zM zP (zC (zE 0) (zC (eC (.int 0)) zK))) (eC (.int 52))) (eC (.int 451))))
  Z8)
noncomputable def yX:SM :=
  (z7 2 (qh (qb []) 1 (q0 (zE 1)) (jS 9) qu (zM jt (zC (zM zP (zC (zE 0) (zC (eOp jX (eC (.int 1)) (eOp jN (zE 9) (eC (.int 5)))) zK))) (zC (eOp qH (zE 9) (eC (.int 5))) zK)))))
noncomputable def yE:SM :=
  (sIf (qC cEq (eOp jN (eOp qH (zM zP (zC (zE 0) (zC (eC (.int 0)) zK))) (eC (.int 13))) (eC (.int 4))) (eC (.int 2)))
  (zZ (z7 3 (eOp qH (zM zP (zC (zE 0) (zC (eC (.int 0)) zK))) (eC (.int 52))))
  (z7 2 (qh (qb [32]) 1 (q0 (eOp jN (zE 3) (eC (.int 451)))) (jS 9) qu (zM jP (zC (eOp jX (zE 3) (eOp yv (zE 9) (eC (.int 7)))) zK)))))
  Z8)
noncomputable def yl:SM :=
  (z7 4 (zM qK (zC (zE 2) zK)))
noncomputable def ZF:SM :=
  (z7 5 (eC (.str [])))
noncomputable def yb:SM :=
  (J6 (iE (zE 2)) (jS 6)
  (z7 5 (eOp jX (zE 6) (zE 5))))
noncomputable def ye:SM :=
  (z7 7 (yY (zC (zE 5) (zC (eM .str qI (eC (.str [])) (zC (eSl (zE 4) Zz (Z3 (eC (.int 1)))) zK)) (zC (eM .str qI (eC (.str [32])) (zC (eSl (zE 4) (Z3 (eC (.int 1))) Zz) zK)) (zC (zM zBY (zC (zM Zg (zC (zE 4) zK)) zK)) (zC (zM jU (zC (zE 4) zK)) zK)))))))
noncomputable def yf:SM :=
  (z7 8 (yY (zC (zM ju (zC (zE 2) zK)) (zC (zM qQ (zC (zE 2) zK)) (zC (zM qN (zC (zE 2) zK)) (zC (zM yx (zC (zE 2) zK)) (zC (zM jq (zC (zE 2) zK)) zK)))))))
noncomputable def ya:SM :=
  (jy (zDA (qh Q0 1 (iE (zE 8)) (jS 9) qu (zM zAF (zC (zE 9) (zC (eC (.ty .str)) zK)))) (zDG cEq (zE 8) (zE 7))))
noncomputable def zCi:SM:=(zZ qa (zZ yc (zZ yX (zZ yE (zZ yl (zZ ZF (zZ yb (zZ ye (zZ yf ya)))))))))
noncomputable def JX:F:=fn 9 zCi
theorem QI (x:T):∀ ys:List T,(zt x ys).length <= (ys.map List.length).sum+ys.length * x.length
 | []=>by simp[zt]
 | [y]=>by simp[zt]
 | y::z::r=>by
  have ih:=QI x (z::r)
  have e:zt x (y::z::r)=y++x++zt x (z::r):=rfl
  rw[e]
  simp only[List.length_append,List.map_cons,List.sum_cons,List.length_cons] at ih ⊢
  rw[Nat.add_mul (r.length+1) 1,Nat.one_mul]
  omega
theorem Jt {v0 v1 v2 v3 v4 v7 v8:Option D}{s:M.S}:∀ (r a:T) (v6:Option D),r.length+a.length <= 100000 ->
  ∃ v6',j0 [] (yR (jS 6) (z7 5 (eOp jX (zE 6) (zE 5)))) (r.map fun c=>.str [c]) [v0,v1,v2,v3,v4,some (.str a),v6,v7,v8] s=.nx [v0,v1,v2,v3,v4,some (.str (r.reverse++a)),v6',v7,v8] s
 | [],a,v6,_=>⟨v6,rfl⟩
 | c::r,a,v6,h=>by
  rw[List.length_cons] at h
  obtain⟨v6',e⟩:=Jt (v0:=v0) (v1:=v1) (v2:=v2) (v3:=v3) (v4:=v4) (v7:=v7) (v8:=v8) (s:=s) r (c::a) (some (.str [c])) (by simp;omega)
  refine⟨v6',?_⟩
  have z:1+a.length <= SZ:=by unfold SZ;omega
  rw[List.reverse_cons,List.append_assoc,List.singleton_append,<- e]
  simp[j0,zR,z]
theorem zE4 (x y:T) (ws:List T):zt x (ws.take 1)=zt y (ws.take 1):=by
 cases ws with
 | nil=>rfl
 | cons w ws=>rfl
theorem zEq (ns:List Int) (hl:ns.length <= 63):∃ s,JX [.ro (ns.map .int)] []=.ok (.bl true) s:=by
 have c0:∀ s,zP [.ro (ns.map .int),.int 0] s=.ok (.int (yM ns 0)) s:=fun s=>by simpa using zCX ns 0 s
 obtain⟨h0,h1⟩:=zFS ns 0
 generalize hc:yM ns 0=c at *
 obtain⟨n,hn,l12⟩:∃ n:Nat,n <= 450/\∀ r,(zZ qa (zZ yc r)) [some (.ro (ns.map .int)),none,none,none,none,none,none,none,none] []=r [some (.ro (ns.map .int)),some (.int n),none,none,none,none,none,none,none] []:=by
  have m1:(0:Int) < 13:=by decide
  have d1:(0:Int) < 13/\(13:Int).natAbs < 1073741824:=by decide
  have m2:(0:Int) < 4:=by decide
  have d2:(0:Int) < 52/\(52:Int).natAbs < 1073741824:=by decide
  have m3:(0:Int) < 451:=by decide
  have e1:qa [some (.ro (ns.map .int)),none,none,none,none,none,none,none,none] []=.nx [some (.ro (ns.map .int)),some (.int (c % 13)),none,none,none,none,none,none,none] []:=by
   simp only[qa,z7,eOp,zM,zC,zK,zE,eC,List.getElem?_cons_zero,R.bind_ok,c0,jN,m1,if_true,R.stm_ok,List.set_cons_succ,List.set_cons_zero]
  by_cases h:c / 13 % 4=1
  ·refine⟨(c / 52 % 451).toNat,by omega,fun r=>?_⟩
   have i1:∀ s,cEq (.int (c / 13 % 4)) (.int 1) s=.ok true s:=fun s=>by rw[h];rfl
   show ((qa _ _).then _)=_
   rw[e1,RS.then_nx]
   simp only[zZ,yc,sIf,qC,eOp,zM,zC,zK,zE,eC,List.getElem?_cons_zero,R.bind_ok,c0,qH,d1,and_self,if_true,jN,m2,i1,R.stm_ok,z7,d2,m3,List.set_cons_succ,List.set_cons_zero,RS.then_nx]
   rw[show ((c / 52 % 451).toNat:Int)=c / 52 % 451 by omega]
  ·refine⟨(c % 13).toNat,by omega,fun r=>?_⟩
   have i1:∀ s,cEq (.int (c / 13 % 4)) (.int 1) s=.ok false s:=fun s=>by
    show R.ok (decide (c / 13 % 4=1)) s=_
    rw[decide_eq_false h]
   show ((qa _ _).then _)=_
   rw[e1,RS.then_nx]
   simp only[zZ,yc,sIf,qC,eOp,zM,zC,zK,zE,eC,List.getElem?_cons_zero,R.bind_ok,c0,qH,d1,and_self,if_true,jN,m2,i1,R.stm_ok,Bool.false_eq_true,if_false,Z8,RS.then_nx]
   rw[show ((c % 13).toNat:Int)=c % 13 by omega]
 obtain⟨t0,ht0,l3⟩:∃ t:T,t.length <= 2000/\yX [some (.ro (ns.map .int)),some (.int n),none,none,none,none,none,none,none] []=.nx [some (.ro (ns.map .int)),some (.int n),some (.str t),none,none,none,none,none,none] []:=by
  have hj:(n:Int).natAbs < 4611686018427387904:=by omega
  have ec:qF 1 (q0 (zE 1)) (jS 9) qu (zM jt (zC (zM zP (zC (zE 0) (zC (eOp jX (eC (.int 1)) (eOp jN (zE 9) (eC (.int 5)))) zK))) (zC (eOp qH (zE 9) (eC (.int 5))) zK))) [some (.ro (ns.map .int)),some (.int n),none,none,none,none,none,none,none] []=.ok ((List.range ((n:Int) - 0).toNat).map fun (k:Nat)=>.str (pcT (yM ns (1+k % 5)) ((k:Int) / 5))) []:=by
   refine Jp _ (by simp only[q0,zE,List.getElem?_cons_succ,List.getElem?_cons_zero,R.bind_ok,hj,if_true]) (by unfold SZ;omega) fun k hk=>?_
   have m5:(0:Int) < 5:=by decide
   have d5:(0:Int) < 5/\(5:Int).natAbs < 1073741824:=by decide
   have ck:∀ s,zP [.ro (ns.map .int),.int (1+(k:Int) % 5)] s=.ok (.int (yM ns (1+k % 5))) s:=fun s=>by
    have:=zCX ns (1+k % 5) s
    rwa [show ((1+k % 5:Nat):Int)=1+(k:Int) % 5 by omega] at this
   simp only[jW,jS,List.cons_append,List.nil_append,List.replicate,List.set_cons_succ,List.set_cons_zero,qu,R.bind_ok,if_true,zM,zC,zK,zE,List.getElem?_cons_succ,List.getElem?_cons_zero,eOp,eC,Int.zero_add,jN,m5,jX,ck,qH,d5,and_self,zFi]
  generalize hys:(List.range ((n:Int) - 0).toNat).map (fun (k:Nat)=>pcT (yM ns (1+k % 5)) ((k:Int) / 5))=ys at *
  have ey:((List.range ((n:Int) - 0).toNat).map fun (k:Nat)=>D.str (pcT (yM ns (1+k % 5)) ((k:Int) / 5)))=ys.map .str:=by rw[<- hys,List.map_map];rfl
  rw[ey] at ec
  have hl:ys.length <= 450:=by rw[<- hys];simp;omega
  have hb:∀ p∈ys,p.length <= 2:=fun p hp=>by
   rw[<- hys] at hp
   obtain⟨k,_,rfl⟩:=List.mem_map.mp hp
   exact zGR _ _
  have j:=fun s=>yB [] (by simp) ys (by omega) (fun p hp=>Nat.le_trans (hb p hp) (by omega)) s
  refine⟨zt [] ys,?_,?_⟩
  ·have:=QI [] ys
   have:=Zd ys hb
   simp only[List.length_nil,Nat.mul_zero,Nat.add_zero] at *
   omega
  ·simp only[yX,z7,qh,ec,R.bind_ok,j,R.stm_ok,List.set_cons_succ,List.set_cons_zero]
 obtain⟨t,v3,ht,l4⟩:∃ (t:T) (v3:Option D),t.length <= 2000/\yE [some (.ro (ns.map .int)),some (.int n),some (.str t0),none,none,none,none,none,none] []=.nx [some (.ro (ns.map .int)),some (.int n),some (.str t),v3,none,none,none,none,none] []:=by
  have d1:(0:Int) < 13/\(13:Int).natAbs < 1073741824:=by decide
  have m2:(0:Int) < 4:=by decide
  have d2:(0:Int) < 52/\(52:Int).natAbs < 1073741824:=by decide
  have m3:(0:Int) < 451:=by decide
  by_cases h:c / 13 % 4=2
  ·have i1:∀ s,cEq (.int (c / 13 % 4)) (.int 2) s=.ok true s:=fun s=>by rw[h];rfl
   generalize hd:c / 52=d at *
   have hj:(d % 451).natAbs < 4611686018427387904:=by omega
   have ec:qF 1 (q0 (eOp jN (zE 3) (eC (.int 451)))) (jS 9) qu (zM jP (zC (eOp jX (zE 3) (eOp yv (zE 9) (eC (.int 7)))) zK)) [some (.ro (ns.map .int)),some (.int n),some (.str t0),some (.int d),none,none,none,none,none] []=.ok ((List.range (d % 451 - 0).toNat).map fun (k:Nat)=>.str [sgN (d+(k:Int) * 7)]) []:=by
    refine Jp _ (by simp only[q0,eOp,zE,eC,List.getElem?_cons_succ,List.getElem?_cons_zero,R.bind_ok,jN,m3,if_true,hj]) (by unfold SZ;omega) fun k hk=>?_
    have s7:(zv (k:Int) || zv 7)=true:=by rw[show zv 7=true by decide,Bool.or_true]
    simp only[jW,jS,List.cons_append,List.nil_append,List.replicate,List.set_cons_succ,List.set_cons_zero,qu,R.bind_ok,if_true,zM,zC,zK,zE,List.getElem?_cons_succ,List.getElem?_cons_zero,eOp,eC,Int.zero_add,yv,s7,jX,zCP]
   generalize hys:(List.range (d % 451 - 0).toNat).map (fun (k:Nat)=>([sgN (d+(k:Int) * 7)]:T))=ys at *
   have ey:((List.range (d % 451 - 0).toNat).map fun (k:Nat)=>D.str [sgN (d+(k:Int) * 7)])=ys.map .str:=by rw[<- hys,List.map_map];rfl
   rw[ey] at ec
   have hl:ys.length <= 450:=by rw[<- hys];simp;omega
   have hb:∀ p∈ys,p.length <= 1:=fun p hp=>by
    rw[<- hys] at hp
    obtain⟨k,_,rfl⟩:=List.mem_map.mp hp
    simp
   have j:=fun s=>yB [32] (by simp) ys (by omega) (fun p hp=>Nat.le_trans (hb p hp) (by omega)) s
   refine⟨zt [32] ys,some (.int d),?_,?_⟩
   ·have:=QI [32] ys
    have:=Zd ys hb
    simp only[List.length_cons,List.length_nil,Nat.zero_add,Nat.mul_one] at *
    omega
   ·simp only[yE,sIf,qC,eOp,zM,zC,zK,zE,eC,List.getElem?_cons_zero,R.bind_ok,c0,qH,d1,and_self,if_true,jN,m2,i1,R.stm_ok,zZ,z7,d2,hd,List.set_cons_succ,List.set_cons_zero,RS.then_nx,qh,ec,j]
  ·refine⟨t0,none,ht0,?_⟩
   have i1:∀ s,cEq (.int (c / 13 % 4)) (.int 2) s=.ok false s:=fun s=>by
    show R.ok (decide (c / 13 % 4=2)) s=_
    rw[decide_eq_false h]
   simp only[yE,sIf,qC,eOp,zM,zC,zK,zE,eC,List.getElem?_cons_zero,R.bind_ok,c0,qH,d1,and_self,if_true,jN,m2,i1,R.stm_ok,Bool.false_eq_true,if_false,Z8]
 have hwb:=qm ht
 have l5:yl [some (.ro (ns.map .int)),some (.int n),some (.str t),v3,none,none,none,none,none] []=.nx [some (.ro (ns.map .int)),some (.int n),some (.str t),v3,some (.ref 0),none,none,none,none] [O.lst ((zD t).map .str)]:=by
  simp only[yl,z7,zM,zC,zK,zE,List.getElem?_cons_succ,List.getElem?_cons_zero,R.bind_ok,zD1 ht,alloc,R.stm_ok,List.set_cons_succ,List.set_cons_zero]
  rfl
 have l6:∀ s,ZF [some (.ro (ns.map .int)),some (.int n),some (.str t),v3,some (.ref 0),none,none,none,none] s=.nx [some (.ro (ns.map .int)),some (.int n),some (.str t),v3,some (.ref 0),some (.str []),none,none,none] s:=fun s=>rfl
 obtain⟨v6,e7⟩:=Jt (v0:=some (.ro (ns.map .int))) (v1:=some (.int n)) (v2:=some (.str t)) (v3:=v3) (v4:=some (.ref 0)) (v7:=none) (v8:=none) (s:=[O.lst ((zD t).map .str)]) t [] none (by simp;omega)
 rw[List.append_nil] at e7
 have l7:yb [some (.ro (ns.map .int)),some (.int n),some (.str t),v3,some (.ref 0),some (.str []),none,none,none] [O.lst ((zD t).map .str)]=.nx [some (.ro (ns.map .int)),some (.int n),some (.str t),v3,some (.ref 0),some (.str t.reverse),v6,none,none] [O.lst ((zD t).map .str)]:=by
  have z:t.length <= SZ:=by unfold SZ;omega
  have g:∀ s,zR [] s=true:=fun _=>rfl
  simp only[yb,J6,iE,zE,List.getElem?_cons_succ,List.getElem?_cons_zero,R.bind_ok,itD,z,if_true,R.stm_ok,g]
  exact e7
 obtain⟨due,hdue⟩:∃ due,due=[t.reverse,zt [32] ((zD t).take 1),zt [32] ((zD t).drop 1),ZQ (zD t).length,zt [32] (zn (zD t))]:=⟨_,rfl⟩
 have zs:zv ((zD t).length:Int)=true:=by unfold zv;rw[decide_eq_true_iff];omega
 obtain⟨S3,hS3⟩:∃ S3,S3=[O.lst ((zD t).map .str),.lst (((zD t).take 1).map .str),.lst (((zD t).drop 1).map .str)]:=⟨_,rfl⟩
 have l8:ye [some (.ro (ns.map .int)),some (.int n),some (.str t),v3,some (.ref 0),some (.str t.reverse),v6,none,none] [O.lst ((zD t).map .str)]=.nx [some (.ro (ns.map .int)),some (.int n),some (.str t),v3,some (.ref 0),some (.str t.reverse),v6,some (.ref 3),none] (S3++[.lst (due.map .str)]):=by
  have c1:cut ((zD t).map D.str) none (some 1)=((zD t).take 1).map D.str:=by rw[zEG _ (by decide),<- List.map_take];rfl
  have c2:cut ((zD t).map D.str) (some 1) none=((zD t).drop 1).map D.str:=by rw[zEQ _ (by decide),<- List.map_drop];rfl
  have j1:=fun s=>yB [] (by simp) ((zD t).take 1) (by rw[List.length_take];omega) (fun p hp=>hwb.2 p (List.mem_of_mem_take hp)) s
  have j2:=fun s=>yB [32] (by simp) ((zD t).drop 1) (by rw[List.length_drop];omega) (fun p hp=>hwb.2 p (List.mem_of_mem_drop hp)) s
  rw[zE4 [] [32]] at j1
  have o:=zEc (S:=[O.lst ((zD t).map .str),.lst (((zD t).take 1).map .str),.lst (((zD t).drop 1).map .str)]) (p:=0) (ts:=zD t) rfl hwb.1 hwb.2
  generalize (zD t).take 1=w1 at *
  generalize (zD t).drop 1=w2 at *
  have z5:([D.str t.reverse,.str (zt [32] w1),.str (zt [32] w2),.str (ZQ (zD t).length),.str (zt [32] (zn (zD t)))]:List D).length <= SZ:=by show 5 <= SZ;decide
  have a1:zT [O.lst ((zD t).map .str)] 0=some ((zD t).map .str):=rfl
  have a2:zT ([O.lst ((zD t).map .str)]++[O.lst (w1.map .str)]) 1=some (w1.map .str):=rfl
  have a3:zT ([O.lst ((zD t).map .str)]++[O.lst (w1.map .str)]) 0=some ((zD t).map .str):=rfl
  have a4:zT ([O.lst ((zD t).map .str)]++[O.lst (w1.map .str)]++[O.lst (w2.map .str)]) 2=some (w2.map .str):=rfl
  have a5:([O.lst ((zD t).map .str)]++[O.lst (w1.map .str)]++[O.lst (w2.map .str)])[0]? = some (.lst ((zD t).map .str)):=rfl
  have n1:([O.lst ((zD t).map .str)]:M.S).length=1:=rfl
  have n2:([O.lst ((zD t).map .str)]++[O.lst (w1.map .str)]:M.S).length=2:=rfl
  have n3:([O.lst ((zD t).map .str)]++[O.lst (w1.map .str)]++[O.lst (w2.map .str)]:M.S).length=3:=rfl
  have o':jU [.ref 0] ([O.lst ((zD t).map .str)]++[O.lst (w1.map .str)]++[O.lst (w2.map .str)])=.ok (.str (zt [32] (zn (zD t)))) ([O.lst ((zD t).map .str)]++[O.lst (w1.map .str)]++[O.lst (w2.map .str)]):=o
  simp only[ye,z7,yY,zC,zK,zE,List.getElem?_cons_succ,List.getElem?_cons_zero,R.bind_ok,eM,eC,qx,if_true,eSl,Zz,Z3,slD,a1,c1,alloc,n1,qI,QW,a2,j1,a3,c2,n2,a4,j2,zM,Zg,a5,List.length_map,zBY,zs,o',z5,n3,R.stm_ok,List.set_cons_succ,List.set_cons_zero]
  rw[hdue,hS3]
  rfl
 obtain⟨S4,hS4⟩:∃ S4,S4=S3++[O.lst (due.map .str)]:=⟨_,rfl⟩
 rw[<- hS4] at l8
 have n4:S4.length=4:=by rw[hS4,hS3];rfl
 have l9:yf [some (.ro (ns.map .int)),some (.int n),some (.str t),v3,some (.ref 0),some (.str t.reverse),v6,some (.ref 3),none] S4=.nx [some (.ro (ns.map .int)),some (.int n),some (.str t),v3,some (.ref 0),some (.str t.reverse),v6,some (.ref 3),some (.ref 4)] (S4++[.lst (due.map .str)]):=by
  have z5:([D.str t.reverse,.str (zt [32] ((zD t).take 1)),.str (zt [32] ((zD t).drop 1)),.str (ZQ (zD t).length),.str (zt [32] (zn (zD t)))]:List D).length <= SZ:=by show 5 <= SZ;decide
  simp only[yf,z7,yY,zC,zK,zM,zE,List.getElem?_cons_succ,List.getElem?_cons_zero,R.bind_ok,zFb ht,zEr ht,zGK ht,zDT ht,zC0 ht,z5,if_true,alloc,n4,R.stm_ok,List.set_cons_succ,List.set_cons_zero]
  rw[hdue]
  rfl
 obtain⟨S5,hS5⟩:∃ S5,S5=S4++[O.lst (due.map .str)]:=⟨_,rfl⟩
 rw[<- hS5] at l9
 have g4:S5[4]? = some (.lst (due.map .str)):=by rw[hS5,hS4,hS3];rfl
 have g3:S5[3]? = some (.lst (due.map .str)):=by rw[hS5,hS4,hS3];rfl
 have q:eqD (.ref 4) (.ref 3) S5=.ok true S5:=by rw[zAg g4 g3];simp
 have l10:ya [some (.ro (ns.map .int)),some (.int n),some (.str t),v3,some (.ref 0),some (.str t.reverse),v6,some (.ref 3),some (.ref 4)] S5=.rt (.bl true) S5:=by
  have hG:zR [(4,O.lst (due.map .str))] S5=true:=by simp only[zR,List.all_cons,List.all_nil,g4,decide_true,Bool.and_self]
  have ec:qF 1 (iE (zE 8)) (jS 9) qu (zM zAF (zC (zE 9) (zC (eC (.ty .str)) zK))) [some (.ro (ns.map .int)),some (.int n),some (.str t),v3,some (.ref 0),some (.str t.reverse),v6,some (.ref 3),some (.ref 4)] S5=.ok ((due.map D.str).map fun _=>.bl true) S5:=by
   refine zBN (g:=[(4,.lst (due.map .str))]) _ (by
    simp only[iE,zE,List.getElem?_cons_succ,List.getElem?_cons_zero,R.bind_ok,itD,g4]) (by rw[hdue];show 5 <= SZ;decide) hG fun x hx=>?_
   obtain⟨w,_,rfl⟩:=List.mem_map.mp hx
   simp
  have ka:Q0 ((due.map D.str).map fun _=>D.bl true) S5=.ok (.bl true) S5:=by
   have:=all_map (fun _:D=>true) (due.map D.str) S5
   rw[this];simp
  simp only[ya,jy,zDA,qh,ec,R.bind_ok,ka,asB,if_true,zDG,zE,List.getElem?_cons_succ,List.getElem?_cons_zero,cEq,q,R.stm_ok]
 refine⟨S5,?_⟩
 show (zZ qa (zZ yc (zZ yX (zZ yE (zZ yl (zZ ZF (zZ yb (zZ ye (zZ yf ya)))))))) [some (.ro (ns.map .int)),none,none,none,none,none,none,none,none] []).out=_
 rw[l12]
 show ((yX _ _).then _).out=_
 rw[l3,RS.then_nx]
 show ((yE _ _).then _).out=_
 rw[l4,RS.then_nx]
 show ((yl _ _).then _).out=_
 rw[l5,RS.then_nx]
 show ((ZF _ _).then _).out=_
 rw[l6,RS.then_nx]
 show ((yb _ _).then _).out=_
 rw[l7,RS.then_nx]
 show ((ye _ _).then _).out=_
 rw[l8,RS.then_nx]
 show ((yf _ _).then _).out=_
 rw[l9,RS.then_nx,l10]
 rfl
end
end M
namespace My
open PySem L2 PyProof.Rows
noncomputable def top (i:Nat):Stmt:=PySem.Challenge.pw_thingyard_k41_texts_made.main.body.getD i (.Pass ⟨0,0,0,0⟩)
noncomputable abbrev Θ0:Tab:=fun _=>none
theorem vv {X:Cx}{Θ:Tab}{pos:Pos}{x:Str} (i:Nat) (h1:X.N[i]? = some x:=by rfl) (h2:Vis X.env.scope x:=by exact Or.inl (by kernel_rfl)) (h3:(x == ("__debug__" : Str))=false:=by kernel_rfl) (h4:(x == ("__classdict__" : Str))=false:=by kernel_rfl):WE X Θ (.Name x pos) (M.zE i):=zB2 i h1 h2 h3 h4
theorem vc {X:Cx}{Θ:Tab}{pos:Pos}{x:Str} (i:Nat) (h1:X.N[i]? = some x:=by rfl) (h2:Vis X.env.scope x:=by exact Or.inr (Or.inl (by kernel_rfl))) (h3:(x == ("__debug__" : Str))=false:=by kernel_rfl) (h4:(x == ("__classdict__" : Str))=false:=by kernel_rfl):WE X Θ (.Name x pos) (M.zE i):=zB2 i h1 h2 h3 h4
theorem zz {X:Cx}{Θ:Tab}{pos:Pos}{y:M.T}{x:Str}{j:Nat} (h:x=ofT y:=by decide +kernel) (ok:okT y:=by decide +kernel):WE X Θ (.Constant (.str x) j pos) (M.eC (.str y)):=zEz h ok
theorem gk {X:Cx}{x:Str} (h:X.env.kindOf x=some .globalImplicit:=by kernel_rfl):Gl X x:=h
noncomputable abbrev cX (P:Program) (w:World) (K:PySem.W.Frag) (mg:Str->Option Value) (base:Heap) (N:List Str) (n:Str) (st:Stmt) (f:Addr) (cdv:Value) (A:Around) (outer:List Env) (s:Shared) (H:Hp) (E:XK):Cx:=(yi CX0 P w K mg base N n (zG st) f cdv A outer s H E).nox
noncomputable abbrev RM (k:Nat) (n:Str) (st:Stmt) (A:Around) (s:Shared) (f:Addr) (cdv:Value):Prop:=zm k (A.deeper (envOfC n (zG st) s.heap.objs.size f cdv))
noncomputable abbrev bd (st:Stmt) (j:Nat):Stmt:=(zl st).getD j (.Pass ⟨0,0,0,0⟩)
section
variable (P:Program) (w:World) (K:PySem.W.Frag) (mg:Str->Option Value) (base:Heap)
noncomputable abbrev ZU:Prop:=Has P w K mg base "_law_words" 1 ["_law_text"] (SpM K Θ0 1 M.qK)
noncomputable abbrev QJ:Prop:=Has P w K mg base "_law_mixed" 1 ["_law_cell","_law_k"] (SpM K Θ0 2 M.qM)
noncomputable abbrev jZ:Prop:=Has P w K mg base "_law_cell_at" 2 ["_law_script","_law_k"] (SpM K Θ0 2 M.zP)
noncomputable abbrev yS:Prop:=Has P w K mg base "_law_in_order" 1 ["_law_words_here"] (SpM K Θ0 1 M.jU)
noncomputable abbrev yd:Prop:=Has P w K mg base "turned_about" 1 ["text"] (SpM K Θ0 1 M.ju)
noncomputable abbrev yT:Prop:=Has P w K mg base "words_of" 1 ["text"] (SpM K Θ0 1 M.jH)
noncomputable abbrev ZK:Prop:=Has P w K mg base "first_word" 2 ["text"] (SpM K Θ0 1 M.qQ)
noncomputable abbrev ZV:Prop:=Has P w K mg base "rest_words" 2 ["text"] (SpM K Θ0 1 M.qN)
noncomputable abbrev QG:Prop:=Has P w K mg base "counted" 2 ["text"] (SpM K Θ0 1 M.yx)
noncomputable abbrev yk:Prop:=Has P w K mg base "sorted_words" 2 ["text"] (SpM K Θ0 1 M.jq)
noncomputable abbrev qZ:Prop:=Has P w K mg base "_law_sign_by" 1 ["_law_cell"] (SpM K Θ0 1 M.jP)
noncomputable abbrev ZN:Prop:=Has P w K mg base "_law_piece" 2 ["_law_cell","_law_k"] (SpM K Θ0 2 M.jt)
end
variable {P:Program}{w:World}{K:PySem.W.Frag}{mg:Str->Option Value}{base:Heap}{f:Addr}{fd:FuncData}{cdv:Value}{A:Around}{outer:List Env}{s:Shared}{H:Hp}{E:XK}
noncomputable abbrev zU:Stmt:=top 14
noncomputable abbrev qP:List Str:=["_law_text","_law_words_here","_law_kept","_law_sign"]
theorem jg:zy qP ["_law_text"] (zG zU):=⟨rfl,rfl,rfl,by decide +kernel,rfl,by decide +kernel,by decide +kernel⟩
theorem JN (hr:RM 0 "_law_words" zU A s f cdv):WS (cX P w K mg base qP "_law_words" zU f cdv A outer s H E) Θ0 (bd zU 0) M.jd:=by
 unfold M.jd
 exact (z0 (i:=1) jg.nd rfl (Or.inl (by kernel_rfl)) (yj zI))
theorem Jm (hr:RM 0 "_law_words" zU A s f cdv):WS (cX P w K mg base qP "_law_words" zU f cdv A outer s H E) Θ0 (bd zU 1) M.jc:=by
 unfold M.jc
 exact (z0 (i:=2) jg.nd rfl (Or.inl (by kernel_rfl)) zz)
theorem JQ (hr:RM 0 "_law_words" zU A s f cdv):WS (cX P w K mg base qP "_law_words" zU f cdv A outer s H E) Θ0 (bd zU 2) M.jQ:=by
 unfold M.jQ
 exact (zBn PassesOwn.never rfl (Ja (zW (OpR.or y8 qe) yL (vv 0) zz)) (yD (i:=3) jg.nd rfl (Or.inl (by kernel_rfl)) (.inl rfl))
  (ze (Zq (qv (zD6 hr) zEn (vv 3) zz (by rfl))
  (ze (z0 (i:=2) jg.nd rfl (Or.inl (by kernel_rfl)) (zW (OpR.or y8 qe) yL (vv 2) (vv 3))))
  (ze (Zq (qv (zBh hr) zDP (vv 2) zz (ZL _))
  (zd (QU (qj PySem.F.plainAttrs_list PySem.F.slot_list_append PySem.F.type_list_append zAl zAp rfl (vv 1) (zB (vv 2) zI)))
  (ze (z0 (i:=2) jg.nd rfl (Or.inl (by kernel_rfl)) zz)))
  Ze)))))
theorem Jo (hr:RM 0 "_law_words" zU A s f cdv):WS (cX P w K mg base qP "_law_words" zU f cdv A outer s H E) Θ0 (bd zU 3) M.jv:=by
 unfold M.jv
 exact (jI (vv 1))
theorem zA5 (F:Fun K "_law_words" "_law_words" zU f fd) :
  jM P w K mg base CX0 1 f fd ["_law_text"] (SpM K Θ0 1 M.qK):=by
 refine ji (b:=M.ZJ) F jg M.zAz fun cdv A outer s H E hr=>?_
 unfold M.ZJ
 exact (zd (JN hr) (zd (Jm hr) (zd (JQ hr) (ze (Jo hr)))))
noncomputable abbrev j5:Stmt:=top 9
noncomputable abbrev zB0:List Str:=["_law_cell","_law_k"]
theorem zAy:zy zB0 ["_law_cell","_law_k"] (zG j5):=⟨rfl,rfl,rfl,by decide +kernel,rfl,by decide +kernel,by decide +kernel⟩
theorem zA6 (F:Fun K "_law_mixed" "_law_mixed" j5 f fd) :
  jM P w K mg base CX0 1 f fd ["_law_cell","_law_k"] (SpM K Θ0 2 M.qM):=by
 refine ji (b:=M.yP) F zAy M.zAu fun cdv A outer s H E hr=>?_
 unfold M.yP
 exact (ze (jI (zW yt qk (zW Zu Zy (zW (OpR.or y8 qe) yL (vv 0) (zW Zu Zy zO (vv 1))) zO) zO)))
noncomputable abbrev je:Stmt:=top 10
noncomputable abbrev J0:List Str:=["_law_script","_law_k"]
theorem Jr:zy J0 ["_law_script","_law_k"] (zG je):=⟨rfl,rfl,rfl,by decide +kernel,rfl,by decide +kernel,by decide +kernel⟩
theorem JM (F:Fun K "_law_cell_at" "_law_cell_at" je f fd) (ZW:QJ P w K mg base) (yU:mg "len" = none) :
  jM P w K mg base CX0 2 f fd ["_law_script","_law_k"] (SpM K Θ0 2 M.zP):=by
 refine ji (b:=M.j4) F Jr M.Jd fun cdv A outer s H E hr=>?_
 unfold M.j4
 exact (zd (Zq (qv zJC zIn (vv 1) (qA QQ zBa gk yU zBp (zB (vv 0) zI)) (ZL _))
  (ze (jI (zi ZW hr (by decide) gk (zB (J4 (zE5 hr) zC3 (vv 0) (vv 1)) (zB (vv 1) zI)) (zc (zc jA)))))
  Ze)
  (ze (jI zO)))
noncomputable abbrev zN:Stmt:=top 15
noncomputable abbrev jj:List Str:=["_law_words_here","_law_rest","_law_made"]
theorem qt:zy jj ["_law_words_here"] (zG zN):=⟨rfl,rfl,rfl,by decide +kernel,rfl,by decide +kernel,by decide +kernel⟩
theorem QT (Qc:mg "list" = none) (hr:RM 0 "_law_in_order" zN A s f cdv):WS (cX P w K mg base jj "_law_in_order" zN f cdv A outer s H E) Θ0 (bd zN 0) M.jL:=by
 unfold M.jL
 exact (z0 (i:=1) qt.nd rfl (Or.inl (by kernel_rfl)) (Zm (zC2 hr) zG0 gk Qc zF5 (zB (vv 0) zI)))
theorem Qa (hr:RM 0 "_law_in_order" zN A s f cdv):WS (cX P w K mg base jj "_law_in_order" zN f cdv A outer s H E) Θ0 (bd zN 1) M.jJ:=by
 unfold M.jJ
 exact (z0 (i:=2) qt.nd rfl (Or.inl (by kernel_rfl)) (yj zI))
theorem QP (Qo:mg "min" = none) (hr:RM 0 "_law_in_order" zN A s f cdv):WS (cX P w K mg base jj "_law_in_order" zN f cdv A outer s H E) Θ0 (bd zN 2) M.jK:=by
 unfold M.jK
 exact (zCt PassesOwn.never (qv (zBh hr) zDP (vv 1) (yj zI) (ZL _))
  (zd (QU (qj PySem.F.plainAttrs_list PySem.F.slot_list_append PySem.F.type_list_append zAl zAp rfl (vv 2) (zB (qA (zAf hr) zET gk Qo zD3 (zB (vv 1) zI)) zI)))
  (ze (QU (qj PySem.F.plainAttrs_list PySem.F.slot_list_remove PySem.F.type_list_remove zCr zEO rfl (vv 1) (zB (qA (zAf hr) zET gk Qo zD3 (zB (vv 1) zI)) zI))))))
theorem QK (hr:RM 0 "_law_in_order" zN A s f cdv):WS (cX P w K mg base jj "_law_in_order" zN f cdv A outer s H E) Θ0 (bd zN 3) M.jV:=by
 unfold M.jV
 exact (jI (qj PySem.F.plainAttrs_str PySem.F.slot_str_join PySem.F.type_str_join ym ZG rfl zz (zB (vv 2) zI)))
theorem JF (F:Fun K "_law_in_order" "_law_in_order" zN f fd) (Qc:mg "list" = none) (Qo:mg "min" = none) :
  jM P w K mg base CX0 1 f fd ["_law_words_here"] (SpM K Θ0 1 M.jU):=by
 refine ji (b:=M.yG) F qt M.Qy fun cdv A outer s H E hr=>?_
 unfold M.yG
 exact (zd (QT Qc hr) (zd (Qa hr) (zd (QP Qo hr) (ze (QK hr)))))
noncomputable abbrev ja:Stmt:=top 3
noncomputable abbrev zAH:List Str:=["text"]
theorem JJ:zy zAH ["text"] (zG ja):=⟨rfl,rfl,rfl,by decide +kernel,rfl,by decide +kernel,by decide +kernel⟩
theorem Jq (F:Fun K "turned_about" "turned_about" ja f fd) :
  jM P w K mg base CX0 1 f fd ["text"] (SpM K Θ0 1 M.ju):=by
 refine ji (b:=M.qc) F JJ M.Jk fun cdv A outer s H E hr=>?_
 unfold M.qc
 exact (ze (jI (zEi (vv 0))))
noncomputable abbrev qY:Stmt:=top 1
noncomputable abbrev zDB:List Str:=["text"]
theorem zB7:zy zDB ["text"] (zG qY):=⟨rfl,rfl,rfl,by decide +kernel,rfl,by decide +kernel,by decide +kernel⟩
theorem zA8:(["text","word"]:List Str).Nodup:=by decide +kernel
theorem zCC (F:Fun K "words_of" "words_of" qY f fd) :
  jM P w K mg base CX0 1 f fd ["text"] (SpM K Θ0 1 M.jH):=by
 refine ji (b:=M.y9) F zB7 M.zCF fun cdv A outer s H E hr=>?_
 unfold M.y9
 exact (ze (jI (zDo (vars:=["word"]) rfl ⟨rfl,rfl,(by kernel_rfl),(by kernel_rfl),(by decide +kernel),trivial,(by kernel_rfl)⟩ (Ja (qj PySem.F.plainAttrs_str PySem.F.slot_str_split PySem.F.type_str_split zFO zE3 rfl (zD8 (vv 0) (by decide +kernel) (by decide +kernel) rfl (by decide +kernel)) (zB zz zI))) (fun _ _ _ _=>(yD (i:=1) zA8 rfl (Or.inl (by kernel_rfl)) (.inr (by kernel_rfl)))) (fun _ _ _ _=>(zHa (qv (zBh hr) zDP (vv 1) zz (ZL _)))) (fun _ _ _ _=>(vv 1)) (by kernel_rfl))))
noncomputable abbrev jr:Stmt:=top 4
noncomputable abbrev zBK:List Str:=["text"]
theorem zA3:zy zBK ["text"] (zG jr):=⟨rfl,rfl,rfl,by decide +kernel,rfl,by decide +kernel,by decide +kernel⟩
theorem zA2 (F:Fun K "first_word" "first_word" jr f fd) (jC:yT P w K mg base) :
  jM P w K mg base CX0 2 f fd ["text"] (SpM K Θ0 1 M.qQ):=by
 refine ji (b:=M.yJ) F zA3 M.zAs fun cdv A outer s H E hr=>?_
 unfold M.yJ
 exact (ze (jI (qj PySem.F.plainAttrs_str PySem.F.slot_str_join PySem.F.type_str_join ym ZG rfl zz (zB (Qn zDC zBD (zi jC hr (by decide) gk (zB (vv 0) zI) (zc jA)) ZX (Za zO)) zI))))
noncomputable abbrev jz:Stmt:=top 5
noncomputable abbrev zBG:List Str:=["text"]
theorem zAv:zy zBG ["text"] (zG jz):=⟨rfl,rfl,rfl,by decide +kernel,rfl,by decide +kernel,by decide +kernel⟩
theorem zA4 (F:Fun K "rest_words" "rest_words" jz f fd) (jC:yT P w K mg base) :
  jM P w K mg base CX0 2 f fd ["text"] (SpM K Θ0 1 M.qN):=by
 refine ji (b:=M.yO) F zAv M.zAt fun cdv A outer s H E hr=>?_
 unfold M.yO
 exact (ze (jI (qj PySem.F.plainAttrs_str PySem.F.slot_str_join PySem.F.type_str_join ym ZG rfl zz (zB (Qn zDC zBD (zi jC hr (by decide) gk (zB (vv 0) zI) (zc jA)) (Za zO) ZX) zI))))
noncomputable abbrev yC:Stmt:=top 6
noncomputable abbrev zDZ:List Str:=["text"]
theorem zDE:zy zDZ ["text"] (zG yC):=⟨rfl,rfl,rfl,by decide +kernel,rfl,by decide +kernel,by decide +kernel⟩
theorem zDV (F:Fun K "counted" "counted" yC f fd) (jC:yT P w K mg base) (yV:mg "str" = none) (yU:mg "len" = none) :
  jM P w K mg base CX0 2 f fd ["text"] (SpM K Θ0 1 M.yx):=by
 refine ji (b:=M.ZZ) F zDE M.zDJ fun cdv A outer s H E hr=>?_
 unfold M.ZZ
 exact (ze (jI (Zm zAR zES gk yV zBM (zB (qA QQ zBa gk yU zBp (zB (zi jC hr (by decide) gk (zB (vv 0) zI) (zc jA)) zI)) zI))))
noncomputable abbrev jY:Stmt:=top 7
noncomputable abbrev zAA:List Str:=["text"]
theorem JS:zy zAA ["text"] (zG jY):=⟨rfl,rfl,rfl,by decide +kernel,rfl,by decide +kernel,by decide +kernel⟩
theorem Jh (F:Fun K "sorted_words" "sorted_words" jY f fd) (jC:yT P w K mg base) (JG:mg "sorted" = none) :
  jM P w K mg base CX0 2 f fd ["text"] (SpM K Θ0 1 M.jq):=by
 refine ji (b:=M.qd) F JS M.Jn fun cdv A outer s H E hr=>?_
 unfold M.qd
 exact (ze (jI (qj PySem.F.plainAttrs_str PySem.F.slot_str_join PySem.F.type_str_join ym ZG rfl zz (zB (qA (zBu hr) zDr gk JG zEX (zB (zi jC hr (by decide) gk (zB (vv 0) zI) (zc jA)) zI)) zI))))
noncomputable abbrev jb:Stmt:=top 11
noncomputable abbrev Jz:List Str:=["_law_cell","_law_some"]
theorem yQ:zy Jz ["_law_cell"] (zG jb):=⟨rfl,rfl,rfl,by decide +kernel,rfl,by decide +kernel,by decide +kernel⟩
theorem Jj (F:Fun K "_law_sign_by" "_law_sign_by" jb f fd) :
  jM P w K mg base CX0 1 f fd ["_law_cell"] (SpM K Θ0 1 M.jP):=by
 refine ji (b:=M.qX) F yQ M.JW fun cdv A outer s H E hr=>?_
 unfold M.qX
 exact (zd (z0 (i:=1) yQ.nd rfl (Or.inl (by kernel_rfl)) zz)
  (zd (z0 (i:=1) yQ.nd rfl (Or.inl (by kernel_rfl)) (zW (OpR.or y8 qe) yL (vv 1) zz))
  (ze (jI (J4 (zE5 hr) zC3 (vv 1) (zW yt qk (vv 0) zO))))))
noncomputable abbrev jw:Stmt:=top 13
noncomputable abbrev zB6:List Str:=["_law_cell","_law_k"]
theorem zA1:zy zB6 ["_law_cell","_law_k"] (zG jw):=⟨rfl,rfl,rfl,by decide +kernel,rfl,by decide +kernel,by decide +kernel⟩
theorem zA7 (F:Fun K "_law_piece" "_law_piece" jw f fd) (jD:qZ P w K mg base) :
  jM P w K mg base CX0 2 f fd ["_law_cell","_law_k"] (SpM K Θ0 2 M.jt):=by
 refine ji (b:=M.yN) F zA1 M.zA9 fun cdv A outer s H E hr=>?_
 unfold M.yN
 exact (ze (jI (J4 (zE5 hr) zC3 (yj (zB zz (zB zz (zB zz (zB zz (zB zz (zB (zi jD hr (by decide) gk (zB (zW (OpR.or y8 qe) yL (vv 0) (zW Zu Zy (vv 1) zO)) zI) (zc jA)) (zB zz (zB zz zI))))))))) (zW yt qk (zW yt qk (zW Zu Zy (zW (OpR.or y8 qe) yL (zW Qi Zo (vv 0) zO) (zW Zu Zy (vv 1) zO)) zO) zO) zO))))
noncomputable abbrev zf:Stmt:=top 16
noncomputable abbrev qr:List Str:=["_law_script","_law_size","_law_text","_law_cell","_law_words_here","_law_about","_law_sign","_law_due","_law_gave"]
theorem qB:zy qr ["_law_script"] (zG zf):=⟨rfl,rfl,rfl,by decide +kernel,rfl,by decide +kernel,by decide +kernel⟩
theorem zEl:(["_law_script","_law_size","_law_text","_law_cell","_law_words_here","_law_about","_law_sign","_law_due","_law_gave","_law_k"]:List Str).Nodup:=by decide +kernel
theorem zE1:(["_law_script","_law_size","_law_text","_law_cell","_law_words_here","_law_about","_law_sign","_law_due","_law_gave","_law_k"]:List Str).Nodup:=by decide +kernel
theorem zEa:(["_law_script","_law_size","_law_text","_law_cell","_law_words_here","_law_about","_law_sign","_law_due","_law_gave","_law_one"]:List Str).Nodup:=by decide +kernel
theorem zEv (zS:jZ P w K mg base) (hr:RM 2 "law" zf A s f cdv):WS0 (cX P w K mg base qr "law" zf f cdv A outer s H E) Θ0 (bd zf 0) M.qa:=by
 unfold M.qa
 exact (zD7 (i:=1) qB.nd rfl (Or.inl (by kernel_rfl)) (zFl yt qk (zCd zS hr (by decide) gk (zEM 0 (zCm zDh zI) (by rfl) (Or.inr (Or.inl (by kernel_rfl))) (by kernel_rfl) (by kernel_rfl)) (zc (zc jA))) zO))
theorem zFe (zS:jZ P w K mg base) (hr:RM 2 "law" zf A s f cdv):WS (cX P w K mg base qr "law" zf f cdv A outer s H E) Θ0 (bd zf 1) M.yc:=by
 unfold M.yc
 exact (Zq (qv (zBf hr) zDK (zW yt qk (zW Qi Zo (zi zS hr (by decide) gk (zB (vc 0) (zB zO zI)) (zc (zc jA))) zO) zO) zO (ZL _))
  (ze (z0 (i:=1) qB.nd rfl (Or.inl (by kernel_rfl)) (zW yt qk (zW Qi Zo (zi zS hr (by decide) gk (zB (vc 0) (zB zO zI)) (zc (zc jA))) zO) zO)))
  Ze)
theorem zEo (zS:jZ P w K mg base) (qS:ZN P w K mg base) (yF:mg "range" = none) (hr:RM 2 "law" zf A s f cdv):WS (cX P w K mg base qr "law" zf f cdv A outer s H E) Θ0 (bd zf 2) M.yX:=by
 unfold M.yX
 exact (z0 (i:=2) qB.nd rfl (Or.inl (by kernel_rfl)) (JK (by decide +kernel) (vars:=["_law_k"]) rfl ⟨rfl,rfl,(by kernel_rfl),(by kernel_rfl),(by decide +kernel),⟨(by kernel_rfl),trivial⟩,(by kernel_rfl)⟩ (Qq gk yF (vv 1)) (fun _ _ _ _=>(yD (i:=9) zEl rfl (Or.inl (by kernel_rfl)) (.inr (by kernel_rfl)))) (fun _ _ _ _=>JC) (fun _ _ _ _=>(zi qS hr (by decide) gk (zB (zi zS hr (by decide) gk (zB (vc 0) (zB (zW (OpR.or y8 qe) yL zO (zW yt qk (vv 9) zO)) zI)) (zc (zc jA))) (zB (zW Qi Zo (vv 9) zO) zI)) (zc (zc jA)))) (by kernel_rfl) (fun ρ H S ds ys p Q rp r hq h=>ZM (by decide +kernel) ρ H S ds ys p Q rp r (.inl hq) h)))
theorem zFY (zS:jZ P w K mg base) (jD:qZ P w K mg base) (yF:mg "range" = none) (hr:RM 2 "law" zf A s f cdv):WS (cX P w K mg base qr "law" zf f cdv A outer s H E) Θ0 (bd zf 3) M.yE:=by
 unfold M.yE
 exact (Zq (qv (zBf hr) zDK (zW yt qk (zW Qi Zo (zi zS hr (by decide) gk (zB (vc 0) (zB zO zI)) (zc (zc jA))) zO) zO) zO (ZL _))
  (zd (z0 (i:=3) qB.nd rfl (Or.inr (by kernel_rfl)) (zW Qi Zo (zi zS hr (by decide) gk (zB (vc 0) (zB zO zI)) (zc (zc jA))) zO))
  (ze (z0 (i:=2) qB.nd rfl (Or.inl (by kernel_rfl)) (JK (by decide +kernel) (vars:=["_law_k"]) rfl ⟨rfl,rfl,(by kernel_rfl),(by kernel_rfl),(by decide +kernel),⟨(by kernel_rfl),trivial⟩,(by kernel_rfl)⟩ (Qq gk yF (zW yt qk (vc 3) zO)) (fun _ _ _ _=>(yD (i:=9) zE1 rfl (Or.inl (by kernel_rfl)) (.inr (by kernel_rfl)))) (fun _ _ _ _=>JC) (fun _ _ _ _=>(zi jD hr (by decide) gk (zB (zW (OpR.or y8 qe) yL (vc 3) (zW Zu Zy (vv 9) zO)) zI) (zc jA))) (by kernel_rfl) (fun ρ H S ds ys p Q rp r hq h=>ZM (by decide +kernel) ρ H S ds ys p Q rp r (.inl hq) h)))))
  Ze)
theorem zFm (qT:ZU P w K mg base) (hr:RM 2 "law" zf A s f cdv):WS (cX P w K mg base qr "law" zf f cdv A outer s H E) Θ0 (bd zf 4) M.yl:=by
 unfold M.yl
 exact (z0 (i:=4) qB.nd rfl (Or.inl (by kernel_rfl)) (zi qT hr (by decide) gk (zB (vv 2) zI) (zc jA)))
theorem zEd (hr:RM 2 "law" zf A s f cdv):WS (cX P w K mg base qr "law" zf f cdv A outer s H E) Θ0 (bd zf 5) M.ZF:=by
 unfold M.ZF
 exact (z0 (i:=5) qB.nd rfl (Or.inl (by kernel_rfl)) zz)
theorem zFd (hr:RM 2 "law" zf A s f cdv):WS (cX P w K mg base qr "law" zf f cdv A outer s H E) Θ0 (bd zf 6) M.yb:=by
 unfold M.yb
 exact (zBn PassesOwn.never rfl (Ja (vv 2)) (yD (i:=6) qB.nd rfl (Or.inl (by kernel_rfl)) (.inl rfl))
  (ze (z0 (i:=5) qB.nd rfl (Or.inl (by kernel_rfl)) (zW (OpR.or y8 qe) yL (vv 6) (vv 5)))))
theorem zFC (jk:yS P w K mg base) (yV:mg "str" = none) (yU:mg "len" = none) (hr:RM 2 "law" zf A s f cdv):WS (cX P w K mg base qr "law" zf f cdv A outer s H E) Θ0 (bd zf 7) M.ye:=by
 unfold M.ye
 exact (z0 (i:=7) qB.nd rfl (Or.inl (by kernel_rfl)) (yj (zB (vv 5) (zB (qj PySem.F.plainAttrs_str PySem.F.slot_str_join PySem.F.type_str_join ym ZG rfl zz (zB (Qn zDC zBD (vv 4) ZX (Za zO)) zI)) (zB (qj PySem.F.plainAttrs_str PySem.F.slot_str_join PySem.F.type_str_join ym ZG rfl zz (zB (Qn zDC zBD (vv 4) (Za zO) ZX) zI)) (zB (Zm zAR zES gk yV zBM (zB (qA QQ zBa gk yU zBp (zB (vv 4) zI)) zI)) (zB (zi jk hr (by decide) gk (zB (vv 4) zI) (zc jA)) zI)))))))
theorem zE0 (j6:yd P w K mg base) (qU:ZK P w K mg base) (qV:ZV P w K mg base) (y4:QG P w K mg base) (j7:yk P w K mg base) (hr:RM 2 "law" zf A s f cdv):WS (cX P w K mg base qr "law" zf f cdv A outer s H E) Θ0 (bd zf 8) M.yf:=by
 unfold M.yf
 exact (z0 (i:=8) qB.nd rfl (Or.inl (by kernel_rfl)) (yj (zB (zi j6 hr (by decide) gk (zB (vv 2) zI) (zc jA)) (zB (zi qU hr (by decide) gk (zB (vv 2) zI) (zc jA)) (zB (zi qV hr (by decide) gk (zB (vv 2) zI) (zc jA)) (zB (zi y4 hr (by decide) gk (zB (vv 2) zI) (zc jA)) (zB (zi j7 hr (by decide) gk (zB (vv 2) zI) (zc jA)) zI)))))))
theorem zEV (yV:mg "str" = none) (Ju:mg "all" = none) (qW:mg "isinstance" = none) (hr:RM 2 "law" zf A s f cdv):WS (cX P w K mg base qr "law" zf f cdv A outer s H E) Θ0 (bd zf 9) M.ya:=by
 unfold M.ya
 exact (jI (zFU (zDI (zFT rfl) zGT gk Ju zHi (vars:=["_law_one"]) rfl ⟨rfl,rfl,(by kernel_rfl),(by kernel_rfl),(by decide +kernel),trivial,(by kernel_rfl)⟩ (Ja (vv 8)) (fun _ _ _ _=>(yD (i:=9) zEa rfl (Or.inl (by kernel_rfl)) (.inr (by kernel_rfl)))) (fun _ _ _ _=>JC) (fun _ _ _ _=>(qA zFV zIC gk qW zAw (zB (vv 9) (zB (zGF .str gk yV zBM) zI)))) (by kernel_rfl)) (zFH (zFf (zBf hr) zDK (vv 8) (vv 7) (ZL _)))))
theorem zG8 (F:Fun K "law" "law" zf f fd) (qT:ZU P w K mg base) (zS:jZ P w K mg base) (jk:yS P w K mg base) (j6:yd P w K mg base) (qU:ZK P w K mg base) (qV:ZV P w K mg base) (y4:QG P w K mg base) (j7:yk P w K mg base) (qS:ZN P w K mg base) (jD:qZ P w K mg base) (yV:mg "str" = none) (Ju:mg "all" = none) (yU:mg "len" = none) (yF:mg "range" = none) (qW:mg "isinstance" = none) :
  jM P w K mg base CX0 3 f (fdL fd "_law_script") ["_law_script"] (SpM K Θ0 1 M.JX):=by
 refine zF8 (N:=qr) (b:=M.zCi) F qB fun cdv A outer s H E hr=>?_
 unfold M.zCi
 exact (zCI (zEv zS hr) (zd (zFe zS hr) (zd (zEo zS qS yF hr) (zd (zFY zS jD yF hr) (zd (zFm qT hr) (zd (zEd hr) (zd (zFd hr) (zd (zFC jk yV yU hr) (zd (zE0 j6 qU qV y4 j7 hr) (ze (zEV yV Ju qW hr)))))))))))
theorem zHu {l:PySem.W.OpenLaw}{w:World}{K:PySem.W.Frag}{h:Heap}{mg:Str->Option Value}{fa f1 f2 f3 f4 f5 f6 f7 f8 f9 f10 f11 f12 f13:Addr} (X:K.In h) (G:h.Ns mainGlobals mg) (hfa:mg "law" = some (.ref fa))
  {od1 an1 od2 an2 od3 an3 od4 an4 od5 an5 od6 an6 od7 an7 od8 an8 od9 an9 od10 an10 od11 an11 od12 an12 od13 an13:Option Addr}{sl1 sl2 sl3 sl4 sl5 sl6 sl7 sl8 sl9 sl10 sl11 sl12 sl13:Array (Option Value)}{oc1 kV1 dc1 pm1 cd1 ct1 oc2 kV2 dc2 pm2 cd2 ct2 oc3 kV3 dc3 pm3 cd3 ct3 oc4 kV4 dc4 pm4 cd4 ct4 oc5 kV5 dc5 pm5 cd5 ct5 oc6 kV6 dc6 pm6 cd6 ct6 oc7 kV7 dc7 pm7 cd7 ct7 oc8 kV8 dc8 pm8 cd8 ct8 oc9 kV9 dc9 pm9 cd9 ct9 oc10 kV10 dc10 pm10 cd10 ct10 oc11 kV11 dc11 pm11 cd11 ct11 oc12 kV12 dc12 pm12 cd12 ct12 oc13 kV13 dc13 pm13 cd13 ct13:Value}
  (a1:PySem.W.nsIn K mainGlobals "_law_words" = some (some (.ref f1))) (l1:K.lookup f1=some ⟨oc1,od1,.func (PySem.W.fnOf "_law_words" "_law_words" (z9 zU) (zl zU) (zG zU) .none kV1 dc1 pm1 an1 cd1 ct1),sl1⟩) (c1:PySem.W.codeIn K cd1 "_law_words" = true) (k1:PySem.W.keepIn K (.ref f1)=true)
  (a2:PySem.W.nsIn K mainGlobals "_law_mixed" = some (some (.ref f2))) (l2:K.lookup f2=some ⟨oc2,od2,.func (PySem.W.fnOf "_law_mixed" "_law_mixed" (z9 j5) (zl j5) (zG j5) .none kV2 dc2 pm2 an2 cd2 ct2),sl2⟩) (c2:PySem.W.codeIn K cd2 "_law_mixed" = true) (k2:PySem.W.keepIn K (.ref f2)=true)
  (a3:PySem.W.nsIn K mainGlobals "_law_cell_at" = some (some (.ref f3))) (l3:K.lookup f3=some ⟨oc3,od3,.func (PySem.W.fnOf "_law_cell_at" "_law_cell_at" (z9 je) (zl je) (zG je) .none kV3 dc3 pm3 an3 cd3 ct3),sl3⟩) (c3:PySem.W.codeIn K cd3 "_law_cell_at" = true) (k3:PySem.W.keepIn K (.ref f3)=true)
  (a4:PySem.W.nsIn K mainGlobals "_law_in_order" = some (some (.ref f4))) (l4:K.lookup f4=some ⟨oc4,od4,.func (PySem.W.fnOf "_law_in_order" "_law_in_order" (z9 zN) (zl zN) (zG zN) .none kV4 dc4 pm4 an4 cd4 ct4),sl4⟩) (c4:PySem.W.codeIn K cd4 "_law_in_order" = true) (k4:PySem.W.keepIn K (.ref f4)=true)
  (a5:PySem.W.nsIn K mainGlobals "turned_about" = some (some (.ref f5))) (l5:K.lookup f5=some ⟨oc5,od5,.func (PySem.W.fnOf "turned_about" "turned_about" (z9 ja) (zl ja) (zG ja) .none kV5 dc5 pm5 an5 cd5 ct5),sl5⟩) (c5:PySem.W.codeIn K cd5 "turned_about" = true) (k5:PySem.W.keepIn K (.ref f5)=true)
  (a6:PySem.W.nsIn K mainGlobals "words_of" = some (some (.ref f6))) (l6:K.lookup f6=some ⟨oc6,od6,.func (PySem.W.fnOf "words_of" "words_of" (z9 qY) (zl qY) (zG qY) .none kV6 dc6 pm6 an6 cd6 ct6),sl6⟩) (c6:PySem.W.codeIn K cd6 "words_of" = true) (k6:PySem.W.keepIn K (.ref f6)=true)
  (a7:PySem.W.nsIn K mainGlobals "first_word" = some (some (.ref f7))) (l7:K.lookup f7=some ⟨oc7,od7,.func (PySem.W.fnOf "first_word" "first_word" (z9 jr) (zl jr) (zG jr) .none kV7 dc7 pm7 an7 cd7 ct7),sl7⟩) (c7:PySem.W.codeIn K cd7 "first_word" = true) (k7:PySem.W.keepIn K (.ref f7)=true)
  (a8:PySem.W.nsIn K mainGlobals "rest_words" = some (some (.ref f8))) (l8:K.lookup f8=some ⟨oc8,od8,.func (PySem.W.fnOf "rest_words" "rest_words" (z9 jz) (zl jz) (zG jz) .none kV8 dc8 pm8 an8 cd8 ct8),sl8⟩) (c8:PySem.W.codeIn K cd8 "rest_words" = true) (k8:PySem.W.keepIn K (.ref f8)=true)
  (a9:PySem.W.nsIn K mainGlobals "counted" = some (some (.ref f9))) (l9:K.lookup f9=some ⟨oc9,od9,.func (PySem.W.fnOf "counted" "counted" (z9 yC) (zl yC) (zG yC) .none kV9 dc9 pm9 an9 cd9 ct9),sl9⟩) (c9:PySem.W.codeIn K cd9 "counted" = true) (k9:PySem.W.keepIn K (.ref f9)=true)
  (a10:PySem.W.nsIn K mainGlobals "sorted_words" = some (some (.ref f10))) (l10:K.lookup f10=some ⟨oc10,od10,.func (PySem.W.fnOf "sorted_words" "sorted_words" (z9 jY) (zl jY) (zG jY) .none kV10 dc10 pm10 an10 cd10 ct10),sl10⟩) (c10:PySem.W.codeIn K cd10 "sorted_words" = true) (k10:PySem.W.keepIn K (.ref f10)=true)
  (a11:PySem.W.nsIn K mainGlobals "_law_sign_by" = some (some (.ref f11))) (l11:K.lookup f11=some ⟨oc11,od11,.func (PySem.W.fnOf "_law_sign_by" "_law_sign_by" (z9 jb) (zl jb) (zG jb) .none kV11 dc11 pm11 an11 cd11 ct11),sl11⟩) (c11:PySem.W.codeIn K cd11 "_law_sign_by" = true) (k11:PySem.W.keepIn K (.ref f11)=true)
  (a12:PySem.W.nsIn K mainGlobals "_law_piece" = some (some (.ref f12))) (l12:K.lookup f12=some ⟨oc12,od12,.func (PySem.W.fnOf "_law_piece" "_law_piece" (z9 jw) (zl jw) (zG jw) .none kV12 dc12 pm12 an12 cd12 ct12),sl12⟩) (c12:PySem.W.codeIn K cd12 "_law_piece" = true) (k12:PySem.W.keepIn K (.ref f12)=true)
  (a13:PySem.W.nsIn K mainGlobals "law" = some (some (.ref f13))) (l13:K.lookup f13=some ⟨oc13,od13,.func (PySem.W.fnOf "law" "law" (z9 zf) (zl zf) (zG zf) .none kV13 dc13 pm13 an13 cd13 ct13),sl13⟩) (c13:PySem.W.codeIn K cd13 "law" = true) (k13:PySem.W.keepIn K (.ref f13)=true)
  (z_len:PySem.W.nsIn K mainGlobals "len" = some none)
  (z_list:PySem.W.nsIn K mainGlobals "list" = some none)
  (z_min:PySem.W.nsIn K mainGlobals "min" = some none)
  (z_str:PySem.W.nsIn K mainGlobals "str" = some none)
  (z_sorted:PySem.W.nsIn K mainGlobals "sorted" = some none)
  (z_all:PySem.W.nsIn K mainGlobals "all" = some none)
  (z_range:PySem.W.nsIn K mainGlobals "range" = some none)
  (z_isinstance:PySem.W.nsIn K mainGlobals "isinstance" = some none)
  : ∃ fd:FuncData,(∀ (s:Shared) (v:Value),BindsTo s fd ⟨[v],[]⟩ [("_law_script",v)])/\fd.scope.names.lookup ("_law_script" : Str)=some .local/\∀ base:Heap,K.In base->base.Ns mainGlobals mg->jM l.prog w K mg base CX0 3 fa fd ["_law_script"] (SpM K Θ0 1 M.JX):=by
 have e:=hfa.symm.trans (PySem.W.mg_of X G a13)
 cases e
 have F1:=jx (x := "_law_words") (qual := "_law_words") (st:=zU) l1 c1 k1
 have B1:=F1.binds (ps:=["_law_text"]) fun _ _ _ _ _ _ us hl=>match us,hl with | [_],_=>rfl
 have F2:=jx (x := "_law_mixed") (qual := "_law_mixed") (st:=j5) l2 c2 k2
 have B2:=F2.binds (ps:=["_law_cell","_law_k"]) fun _ _ _ _ _ _ us hl=>match us,hl with | [_,_],_=>rfl
 have F3:=jx (x := "_law_cell_at") (qual := "_law_cell_at") (st:=je) l3 c3 k3
 have B3:=F3.binds (ps:=["_law_script","_law_k"]) fun _ _ _ _ _ _ us hl=>match us,hl with | [_,_],_=>rfl
 have F4:=jx (x := "_law_in_order") (qual := "_law_in_order") (st:=zN) l4 c4 k4
 have B4:=F4.binds (ps:=["_law_words_here"]) fun _ _ _ _ _ _ us hl=>match us,hl with | [_],_=>rfl
 have F5:=jx (x := "turned_about") (qual := "turned_about") (st:=ja) l5 c5 k5
 have B5:=F5.binds (ps:=["text"]) fun _ _ _ _ _ _ us hl=>match us,hl with | [_],_=>rfl
 have F6:=jx (x := "words_of") (qual := "words_of") (st:=qY) l6 c6 k6
 have B6:=F6.binds (ps:=["text"]) fun _ _ _ _ _ _ us hl=>match us,hl with | [_],_=>rfl
 have F7:=jx (x := "first_word") (qual := "first_word") (st:=jr) l7 c7 k7
 have B7:=F7.binds (ps:=["text"]) fun _ _ _ _ _ _ us hl=>match us,hl with | [_],_=>rfl
 have F8:=jx (x := "rest_words") (qual := "rest_words") (st:=jz) l8 c8 k8
 have B8:=F8.binds (ps:=["text"]) fun _ _ _ _ _ _ us hl=>match us,hl with | [_],_=>rfl
 have F9:=jx (x := "counted") (qual := "counted") (st:=yC) l9 c9 k9
 have B9:=F9.binds (ps:=["text"]) fun _ _ _ _ _ _ us hl=>match us,hl with | [_],_=>rfl
 have F10:=jx (x := "sorted_words") (qual := "sorted_words") (st:=jY) l10 c10 k10
 have B10:=F10.binds (ps:=["text"]) fun _ _ _ _ _ _ us hl=>match us,hl with | [_],_=>rfl
 have F11:=jx (x := "_law_sign_by") (qual := "_law_sign_by") (st:=jb) l11 c11 k11
 have B11:=F11.binds (ps:=["_law_cell"]) fun _ _ _ _ _ _ us hl=>match us,hl with | [_],_=>rfl
 have F12:=jx (x := "_law_piece") (qual := "_law_piece") (st:=jw) l12 c12 k12
 have B12:=F12.binds (ps:=["_law_cell","_law_k"]) fun _ _ _ _ _ _ us hl=>match us,hl with | [_,_],_=>rfl
 have F13:=jx (x := "law") (qual := "law") (st:=zf) l13 c13 k13
 have yU:=PySem.W.mg_none_of X G z_len
 have Qc:=PySem.W.mg_none_of X G z_list
 have Qo:=PySem.W.mg_none_of X G z_min
 have yV:=PySem.W.mg_none_of X G z_str
 have JG:=PySem.W.mg_none_of X G z_sorted
 have Ju:=PySem.W.mg_none_of X G z_all
 have yF:=PySem.W.mg_none_of X G z_range
 have qW:=PySem.W.mg_none_of X G z_isinstance
 refine⟨fdL (PySem.W.fnOf "law" "law" (z9 zf) (zl zf) (zG zf) .none kV13 dc13 pm13 an13 cd13 ct13) "_law_script",fun s v=>.of_eq rfl,by kernel_rfl,fun base _ _=>?_⟩
 have qT:ZU l.prog w K mg base:=⟨⟨_,_,zA5 F1,B1,k1,PySem.W.mg_of X G a1⟩⟩
 have ZW:QJ l.prog w K mg base:=⟨⟨_,_,zA6 F2,B2,k2,PySem.W.mg_of X G a2⟩⟩
 have zS:jZ l.prog w K mg base:=⟨⟨_,_,JM F3 ZW yU,B3,k3,PySem.W.mg_of X G a3⟩⟩
 have jk:yS l.prog w K mg base:=⟨⟨_,_,JF F4 Qc Qo,B4,k4,PySem.W.mg_of X G a4⟩⟩
 have j6:yd l.prog w K mg base:=⟨⟨_,_,Jq F5,B5,k5,PySem.W.mg_of X G a5⟩⟩
 have jC:yT l.prog w K mg base:=⟨⟨_,_,zCC F6,B6,k6,PySem.W.mg_of X G a6⟩⟩
 have qU:ZK l.prog w K mg base:=⟨⟨_,_,zA2 F7 jC,B7,k7,PySem.W.mg_of X G a7⟩⟩
 have qV:ZV l.prog w K mg base:=⟨⟨_,_,zA4 F8 jC,B8,k8,PySem.W.mg_of X G a8⟩⟩
 have y4:QG l.prog w K mg base:=⟨⟨_,_,zDV F9 jC yV yU,B9,k9,PySem.W.mg_of X G a9⟩⟩
 have j7:yk l.prog w K mg base:=⟨⟨_,_,Jh F10 jC JG,B10,k10,PySem.W.mg_of X G a10⟩⟩
 have jD:qZ l.prog w K mg base:=⟨⟨_,_,Jj F11,B11,k11,PySem.W.mg_of X G a11⟩⟩
 have qS:ZN l.prog w K mg base:=⟨⟨_,_,zA7 F12 jD,B12,k12,PySem.W.mg_of X G a12⟩⟩
 exact zG8 F13 qT zS jk j6 qU qV y4 j7 qS jD yV Ju yU yF qW
theorem zI6 {l:PySem.W.OpenLaw}{q:Program}{loose:List Str}{XP:(Str->Option Value)->Heap->Prop}{YP:World->Heap->Prop}{d:DefRec}{K:Params->PySem.W.Frag} (hn:l.most=some 63) (hdf:d.params.defaults=[])
  (hY:∀ (w:World) (h:Heap),YP w h->(K w.params).In h)
  (F:∀ (w:World) (mg:Str->Option Value) (fa:Addr) (h:Heap),(K w.params).In h->h.Ns mainGlobals mg->mg d.name=some (.ref fa) ->
   ∃ fd:FuncData,(∀ (s:Shared) (u:Value),BindsTo s fd ⟨[u],[]⟩ [("_law_script",u)])/\fd.scope.names.lookup ("_law_script" : Str)=some .local/\∀ base:Heap,(K w.params).In base->base.Ns mainGlobals mg->jM l.prog w (K w.params) mg base CX0 3 fa fd ["_law_script"] (SpM (K w.params) Θ0 1 M.JX)) :
  PySem.W.WalkO q loose XP YP l.row.toRowW d [] (fun f vs=>PySem.call f vs) :=
 L2.zGV (n:=63) (k:=3) (x := "_law_script") (CX:=fun _=>CX0) (sp:=fun w=>SpM (K w.params) Θ0 1 M.JX) hn (by decide) hdf ⟨rfl,by decide,by decide⟩ hY F (fun _ _ _ _ hl hO hS=>zHX M.zEq hl hO hS) fun _ _ _ _ _ z=>z
end My
theorem PySem.W.Fast.tw908046895388884837:True:=trivial
theorem PySem.W.Fast.tw3917120007916790348:True:=trivial
theorem PySem.W.Fast.tw12704930278277503833:True:=trivial
theorem PySem.W.Fast.tw18441512948058050080:True:=trivial
theorem PySem.W.Fast.tw8355916325531828358:True:=trivial
theorem PySem.W.Fast.tw13926640709780969045:True:=trivial
theorem PySem.W.Fast.tw8512317837819952420:True:=trivial
theorem PySem.W.Fast.tw17215277237918649621:True:=trivial
theorem PySem.W.Fast.tw14271606918390592050:True:=trivial
theorem PySem.W.Fast.tw7362191765488711437:True:=trivial
theorem PySem.W.Fast.tw14212711011148447874:True:=trivial
theorem PySem.W.Fast.tw1516763736414468841:True:=trivial
theorem PySem.W.Fast.tw9769265928614284846:True:=trivial
theorem PySem.W.Fast.tw6281887919305678448:True:=trivial
theorem PySem.W.Fast.tw8112528149067489458:True:=trivial
theorem PySem.W.Fast.tw7078351758057649943:True:=trivial
theorem PySem.W.Fast.tw18404598942562713165:True:=trivial
theorem PySem.W.Fast.tw13536407892969336624:True:=trivial
theorem PySem.W.Fast.tw4450163506368925961:True:=trivial
theorem PySem.W.Fast.tw3342338757572655651:True:=trivial
theorem PySem.W.Fast.tw16045406271604187705:True:=trivial
theorem PySem.W.Fast.tw7702245499811741719:True:=trivial
theorem PySem.W.Fast.tw10817615702856496656:True:=trivial
theorem PySem.W.Fast.tw13758455649609888225:True:=trivial
theorem PySem.W.Fast.tw8747278764457801607:True:=trivial
open PySem PySem.W PyProof.Rows
set_option maxRecDepth 100000 in
set_option maxHeartbeats 0 in
theorem PySem.Challenge.cw_thingyard_k41_texts_made_holds : PySem.Challenge.rw_thingyard_k41_texts_made.Holds := by
 w_on;o_law;k_head;(case hw=>w_witness2)
 k_fill
 refine My.zI6 (l:=PySem.Challenge.rw_thingyard_k41_texts_made) rfl rfl (fun w h Y=>PySem.W.kIn_of Y) ?F
 case F =>
  intro w mg fa h KX G hmg
  refine' My.zHu KX G hmg ?a1 ?l1 ?c1 ?k1 ?a2 ?l2 ?c2 ?k2 ?a3 ?l3 ?c3 ?k3 ?a4 ?l4 ?c4 ?k4 ?a5 ?l5 ?c5 ?k5 ?a6 ?l6 ?c6 ?k6 ?a7 ?l7 ?c7 ?k7 ?a8 ?l8 ?c8 ?k8 ?a9 ?l9 ?c9 ?k9 ?a10 ?l10 ?c10 ?k10 ?a11 ?l11 ?c11 ?k11 ?a12 ?l12 ?c12 ?k12 ?a13 ?l13 ?c13 ?k13 ?z_len ?z_list ?z_min ?z_str ?z_sorted ?z_all ?z_range ?z_isinstance
  (case a1=>k_is)
  (case l1=>k_is)
  (case c1=>k_is)
  (case k1=>k_is)
  (case a2=>k_is)
  (case l2=>k_is)
  (case c2=>k_is)
  (case k2=>k_is)
  (case a3=>k_is)
  (case l3=>k_is)
  (case c3=>k_is)
  (case k3=>k_is)
  (case a4=>k_is)
  (case l4=>k_is)
  (case c4=>k_is)
  (case k4=>k_is)
  (case a5=>k_is)
  (case l5=>k_is)
  (case c5=>k_is)
  (case k5=>k_is)
  (case a6=>k_is)
  (case l6=>k_is)
  (case c6=>k_is)
  (case k6=>k_is)
  (case a7=>k_is)
  (case l7=>k_is)
  (case c7=>k_is)
  (case k7=>k_is)
  (case a8=>k_is)
  (case l8=>k_is)
  (case c8=>k_is)
  (case k8=>k_is)
  (case a9=>k_is)
  (case l9=>k_is)
  (case c9=>k_is)
  (case k9=>k_is)
  (case a10=>k_is)
  (case l10=>k_is)
  (case c10=>k_is)
  (case k10=>k_is)
  (case a11=>k_is)
  (case l11=>k_is)
  (case c11=>k_is)
  (case k11=>k_is)
  (case a12=>k_is)
  (case l12=>k_is)
  (case c12=>k_is)
  (case k12=>k_is)
  (case a13=>k_is)
  (case l13=>k_is)
  (case c13=>k_is)
  (case k13=>k_is)
  (case z_len=>k_is)
  (case z_list=>k_is)
  (case z_min=>k_is)
  (case z_str=>k_is)
  (case z_sorted=>k_is)
  (case z_all=>k_is)
  (case z_range=>k_is)
  (case z_isinstance=>k_is)
