import PyProof.Rows.All
import Wide.All
import OpenK.AllK
import Wide.FinOn
import Lean
import PyProof.EqAt
import PyProof.EqKinds
import PyProof.TupleCall
import PySem.Challenge.RW_thingyard_k42_parts_alone
set_option Elab.async false
set_option linter.all false
set_option maxRecDepth 100000
noncomputable section
namespace L2
open PySem PySem.Spec PyProof.Rows
noncomputable abbrev Key:=Sum Int Str
noncomputable def zFZ:Key->Value->Bool
 | .inl k,v=>Value.isInt k v
 | .inr x,v=>Value.isStrOf x v
noncomputable def zT5 (w:World):Key->Int
 | .inl k=>hashInt k
 | .inr x=>hashStr w x
theorem yW:∀ {k:Key}{v:Value},zFZ k v=true->(∃ i t,k=Sum.inl i/\v=Value.int i t)\/(∃ x t,k=Sum.inr x/\v=Value.str x t)
 | .inl i,v,h=>by
  obtain⟨t,e⟩:=Value.isInt_shape (k:=i) (v:=v) h
  exact .inl ⟨i,t,rfl,e⟩
 | .inr x,v,h=>by
  obtain⟨t,e⟩:=Value.isStrOf_shape (x:=x) (v:=v) h
  exact .inr ⟨x,t,rfl,e⟩
theorem zN4 (i:Int) (t:Tok):zFZ (.inl i) (.int i t)=true:=by simp[zFZ,Value.isInt]
theorem zNK (x:Str) (t:Tok):zFZ (.inr x) (.str x t)=true:=by simp[zFZ,Value.isStrOf]
theorem zSJ (a b:Int):decide ((Sum.inl a:Key)=Sum.inl b)=(a == b):=by
 by_cases e:a=b
 ·subst e;simp
 ·have h:¬ (Sum.inl a:Key)=Sum.inl b:=fun q=>e (Sum.inl.inj q)
  rw[decide_eq_false h]
  exact (beq_eq_false_iff_ne.mpr e).symm
theorem zSK (a b:Str):decide ((Sum.inr a:Key)=Sum.inr b)=decide (a=b):=by
 by_cases e:a=b
 ·subst e;simp
 ·have h:¬ (Sum.inr a:Key)=Sum.inr b:=fun q=>e (Sum.inr.inj q)
  rw[decide_eq_false h,decide_eq_false e]
theorem zSr (a:Int) (b:Str):decide ((Sum.inl a:Key)=Sum.inr b)=false:=decide_eq_false (fun q=>nomatch q)
theorem zS2 (a:Str) (b:Int):decide ((Sum.inr a:Key)=Sum.inl b)=false:=decide_eq_false (fun q=>nomatch q)
noncomputable def yR (prog:Program) (w:World):PySem.KeyKind prog w Key where
 is:=zFZ
 hash:=zT5 w
 inj:=fun v a b ha hb=>by
  rcases yW ha with ⟨i,t,rfl,rfl⟩ | ⟨x,t,rfl,rfl⟩
  ·rcases yW hb with ⟨j,u,rfl,e⟩ | ⟨y,u,rfl,e⟩
   ·injection e with e1 _;rw[e1]
   ·exact nomatch e
  ·rcases yW hb with ⟨j,u,rfl,e⟩ | ⟨y,u,rfl,e⟩
   ·exact nomatch e
   ·injection e with e1 _;rw[e1]
 byValue:=fun k v h=>by
  rcases yW h with ⟨i,t,rfl,rfl⟩ | ⟨x,t,rfl,rfl⟩<;>rfl
 pyHash:=fun hv h=>by
  rcases yW hv with ⟨i,t,rfl,rfl⟩ | ⟨x,t,rfl,rfl⟩
  ·exact wpAny_pyHash_int h
  ·exact wpAny_pyHash_str h
 eqBool:=fun hu hv h=>by
  rcases yW hu with ⟨i,t,rfl,rfl⟩ | ⟨x,t,rfl,rfl⟩
  ·rcases yW hv with ⟨j,u,rfl,rfl⟩ | ⟨y,u,rfl,rfl⟩
   ·rw[zSJ] at h;exact wpAny_eqBool_int h
   ·rw[zSr] at h;exact SeqAt.EqAt.int_str i t y u _ _ _ _ h
  ·rcases yW hv with ⟨j,u,rfl,rfl⟩ | ⟨y,u,rfl,rfl⟩
   ·rw[zS2] at h;exact SeqAt.EqAt.str_int x t j u _ _ _ _ h
   ·rw[zSK] at h;exact wpAny_eqBool_str h
 «strs» := fun k x t v h=>by
  rcases yW h with ⟨i,u,rfl,e⟩ | ⟨y,u,rfl,e⟩
  ·exact nomatch e
  ·injection e with e1 _
   subst e1
   cases v<;>rfl
theorem zLL (prog:Program) (w:World) (i:Int) (t:Tok):(yR prog w).is (.inl i) (.int i t)=true:=zN4 i t
theorem zLG (prog:Program) (w:World) (x:Str) (t:Tok):(yR prog w).is (.inr x) (.str x t)=true:=zNK x t
end L2
namespace L2
open PySem PySem.Spec PyProof.Rows
inductive V where
 | non | bl (b:Bool) | int (i:Int) | str (x:Str) | byt (b:Array UInt8) | flt (b:UInt64) | ref (a:Addr) | ty (n:String)
 deriving DecidableEq
noncomputable def zv:V->Value->Prop
 | .non,u=>u=Value.none
 | .bl b,u=>u=Value.bool b
 | .int i,u=>∃ t,u=Value.int i t
 | .str x,u=>∃ t,u=Value.str x t
 | .byt b,u=>∃ t,u=Value.bytes b t
 | .flt b,u=>∃ t,u=Value.float b t
 | .ref a,u=>u=Value.ref a
 | .ty n,u=>u=Value.type n
noncomputable abbrev ze:List V->List Value->Prop:=Paired zv
theorem ze.length {xs:List V}{us:List Value} (r:ze xs us):xs.length=us.length:=Paired.length r
theorem ze.get:∀ {xs:List V}{us:List Value}{i:Nat}{x:V},ze xs us->xs[i]? = some x->∃ u,us[i]? = some u/\zv x u
 | _,_,_,_,.nil,e=>by simp at e
 | _,_,0,_,.cons r _,e=>by simp at e;subst e;exact⟨_,rfl,r⟩
 | _,_,i+1,x,.cons _ t,e=>by
  obtain⟨u,h1,h2⟩:=ze.get (i:=i) (x:=x) t (by simpa using e)
  exact⟨u,by simpa using h1,h2⟩
theorem ze.set {x:V}{u:Value} (r:zv x u):∀ {xs:List V}{us:List Value} (i:Nat),ze xs us->ze (xs.set i x) (us.set i u)
 | _,_,_,.nil=>.nil
 | _,_,0,.cons _ t=>.cons r t
 | _,_,i+1,.cons q t=>.cons q (ze.set r i t)
theorem ze.append:∀ {xs ys:List V}{us ws:List Value},ze xs us->ze ys ws->ze (xs++ys) (us++ws)
 | _,_,_,_,.nil,s=>s
 | _,_,_,_,.cons r t,s=>.cons r (ze.append t s)
theorem ze.take:∀ {xs:List V}{us:List Value} (n:Nat),ze xs us->ze (xs.take n) (us.take n)
 | _,_,0,_=>.nil
 | _,_,_+1,.nil=>.nil
 | _,_,n+1,.cons r t=>.cons r (ze.take n t)
theorem ze.drop:∀ {xs:List V}{us:List Value} (n:Nat),ze xs us->ze (xs.drop n) (us.drop n)
 | _,_,0,r=>r
 | _,_,_+1,.nil=>.nil
 | _,_,n+1,.cons _ t=>ze.drop n t
noncomputable def zAD:Option V->Option Value->Prop
 | some v,some u=>zv v u
 | none,none=>True
 | _,_=>False
noncomputable def KV {κ:Type}:List (κ×V)->List (κ×Value)->Prop:=Paired fun (p:κ×V) (q:κ×Value)=>p.1=q.1/\zv p.2 q.2
noncomputable def kV:Key->V
 | .inl i=>.int i
 | .inr x=>.str x
inductive HO where
 | lst (xs:List V)
 | tup (xs:List V)
 | dK (kvs:List (Key×V)) | dT (kvs:List (List Key×V))
 | set (S:Int->Bool) (n:Nat)
 | ins (C dx:Addr) (fs:List (Str×V))
 | own (x:Addr)
 | xd (fs:List (Str×V))
 | met (f x:Addr)
 | rng (lo hi:Int)
 | frz (o:Obj) (u:HO)
 | tbl (ps:Array Value)
 | ext (φ:Heap->Prop)
noncomputable abbrev Hp:=Addr->Option HO
noncomputable def upd (H:Hp) (a:Addr) (o:HO):Hp:=fun b=>if b=a then some o else H b
theorem qA {H:Hp}{a:Addr}{o:HO}:upd H a o a=some o:=by unfold upd;rw[if_pos rfl]
theorem jZ {H:Hp}{a b:Addr}{o:HO} (h:b≠a):upd H a o b=H b:=by unfold upd;rw[if_neg h]
theorem zTu {H:Hp}{a b:Addr}{o u:HO} (h:H a=some o) (h':H b=some u) (d:o≠u):a≠b:=by
 intro e;subst e;rw[h] at h';exact d (Option.some.inj h')
theorem JD {H:Hp}{a b:Addr}{o:HO} (h:H a=some o) (h':H b=none):a≠b:=by
 intro e;subst e;rw[h] at h';cases h'
section
variable (P:Program) (w:World)
noncomputable def qS (H:Hp) (h:Heap) (a:Addr):HO->Prop
 | .lst xs=>xs.length <= sizeLine/\∃ (its:List Value) (n:Nat),ze xs its/\h.get? a=some { cls:=.type "list",data:=.seq its.toArray n }
 | .tup xs=>xs.length <= sizeLine/\∃ its:List Value,ze xs its/\IsTup h a its.toArray
 | .dK kvs=>kvs.length <= sizeLine/\(a == sysModules)=false/\∃ vs,KV kvs vs/\h.DictOf (yR P w) a vs
 | .dT kvs=>kvs.length <= sizeLine/\(a == sysModules)=false/\∃ xs:List (List Key×Addr×Value),
   Paired (fun (p:List Key×V) (q:List Key×Addr×Value)=>p.1=q.1/\H q.2.1=some (.tup (p.1.map kV))/\zv p.2 q.2.2) kvs xs /\
   ∃ o es ep,h.get? a=some o/\o.ExactDict/\o.data=.dict es ep/\es.toList=xs.map (entryOfKey (tupleKind (yR P w)))/\(xs.map (·.1)).Nodup
 | .set S n=>h.SetOf (intKind P w) a S n
 | .ins C dx fs=>H dx=some (.own a)/\fs.length <= 1000/\dx≠a/\h.get? a=some (PySem.W.instObj C dx) /\
   ∃ mA,h.Ns1 dx mA/\(∀ f,zAD (fs.lookup f) (mA f))/\PySem.Within mA (fs.map (·.1))
 | .own _=>∃ o,h.get? a=some o
 | .xd fs=>∃ mA,h.Ns1 a mA/\∀ f,zAD (fs.lookup f) (mA f)
 | .rng lo hi=>∃ t u v,h.get? a=some { cls:=.type "range",data:=.fields #[.int lo t,.int hi u,.int 1 v] }
 | .frz o u=>h.get? a=some o/\qS H h a u
 | .tbl ps=>h.get? a=some { cls:=.none,data:=.fields ps }
 | .met f x=>h.get? a=some (PySem.W.methodObj (.ref f) (.ref x))
 | .ext φ=>φ h/\(∃ o,h.get? a=some o)/\∀ h1 h2:Heap,φ h1->(∀ o,h1.get? a=some o->h2.get? a=some o)->φ h2
noncomputable def HOk (H:Hp) (h:Heap):Prop:=∀ a o,H a=some o->qS P w H h a o
end
section
variable {P:Program}{w:World}{H H':Hp}{h h':Heap}{a:Addr}{o:HO}
theorem qS.lt (x:qS P w H h a o):a < h.objs.size:=by
 cases o with
 | lst xs=>obtain⟨_,_,_,_,e⟩:=x;exact Heap.lt_size e
 | tup xs=>obtain⟨_,_,_,p⟩:=x;exact p.lt
 | dK kvs=>obtain⟨_,_,_,_,o,_,_,e,_⟩:=x;exact Heap.lt_size e
 | dT kvs=>obtain⟨_,_,_,_,o,_,_,e,_⟩:=x;exact Heap.lt_size e
 | set S n=>obtain⟨o,_,_,_,e,_⟩:=x;exact Heap.lt_size e
 | ins C dx fs=>obtain⟨_,_,_,e,_⟩:=x;exact Heap.lt_size e
 | own y=>obtain⟨_,e⟩:=x;exact Heap.lt_size e
 | xd fs=>obtain⟨_,⟨_,_,_,e,_⟩,_⟩:=x;exact Heap.lt_size e
 | rng lo hi=>obtain⟨_,_,_,e⟩:=x;exact Heap.lt_size e
 | frz ob u=>obtain⟨e,_⟩:=x;exact Heap.lt_size e
 | tbl ps=>exact Heap.lt_size (show h.get? a=some _ from x)
 | met f y=>exact Heap.lt_size (show h.get? a=some _ from x)
 | ext φ=>obtain⟨_,⟨_,e⟩,_⟩:=x;exact Heap.lt_size e
theorem Paired.mapP {α β:Type}{F G:α->β->Prop}:∀ {l₁:List α}{l₂:List β},Paired F l₁ l₂->(∀ a b,F a b->G a b)->Paired G l₁ l₂
 | _,_,.nil,_=>.nil
 | _,_,.cons r t,f=>.cons (f _ _ r) (Paired.mapP t f)
theorem qS.stay (x:qS P w H h a o) (k:∀ b u,(b=a\/H b=some (.own a))->h.get? b=some u->h'.get? b=some u)
  (ho:∀ b,H b=some (.own a)->H' b=some (.own a)) (ht:∀ b xs,H b=some (.tup xs)->H' b=some (.tup xs)):qS P w H' h' a o:=by
 induction o with
 | lst xs=>obtain⟨z,its,n,r,e⟩:=x;exact⟨z,its,n,r,k _ _ (.inl rfl) e⟩
 | tup xs=>obtain⟨z,its,r,ob,e,c⟩:=x;exact⟨z,its,r,ob,k _ _ (.inl rfl) e,c⟩
 | dK kvs=>obtain⟨z,y,vs,r,ob,es,ep,e,c⟩:=x;exact⟨z,y,vs,r,ob,es,ep,k _ _ (.inl rfl) e,c⟩
 | dT kvs =>
  obtain⟨z,y,xs,r,ob,es,ep,e,c⟩:=x
  exact⟨z,y,xs,Paired.mapP r fun p q z=>⟨z.1,ht _ _ z.2.1,z.2.2⟩,ob,es,ep,k _ _ (.inl rfl) e,c⟩
 | set S n=>obtain⟨ob,es,ep,t,e,c⟩:=x;exact⟨ob,es,ep,t,k _ _ (.inl rfl) e,c⟩
 | ins C dx fs =>
  obtain⟨d,z,ne,e,mA,⟨od,es,ep,e2,c⟩,r⟩:=x
  exact⟨ho _ d,z,ne,k _ _ (.inl rfl) e,mA,⟨od,es,ep,k _ _ (.inr d) e2,c⟩,r⟩
 | own y=>obtain⟨ob,e⟩:=x;exact⟨ob,k _ _ (.inl rfl) e⟩
 | xd fs=>obtain⟨mA,⟨od,es,ep,e,c⟩,r⟩:=x;exact⟨mA,⟨od,es,ep,k _ _ (.inl rfl) e,c⟩,r⟩
 | rng lo hi=>obtain⟨t,u,v,e⟩:=x;exact⟨t,u,v,k _ _ (.inl rfl) e⟩
 | frz ob u ih=>obtain⟨e,q⟩:=x;exact⟨k _ _ (.inl rfl) e,ih q⟩
 | tbl ps =>
  have e:h.get? a=some { cls:=.none,data:=.fields ps }:=x
  show h'.get? a=some { cls:=.none,data:=.fields ps }
  exact k a _ (.inl rfl) e
 | met f y =>
  have e:h.get? a=some (PySem.W.methodObj (.ref f) (.ref y)):=x
  show h'.get? a=some (PySem.W.methodObj (.ref f) (.ref y))
  exact k a _ (.inl rfl) e
 | ext φ=>obtain⟨p,⟨o,e⟩,st⟩:=x;exact⟨st _ _ p fun o q=>k _ _ (.inl rfl) q,⟨o,k _ _ (.inl rfl) e⟩,st⟩
theorem HOk.lt (x:HOk P w H h) (e:H a=some o):a < h.objs.size:=(x a o e).lt
theorem HOk.fresh (x:HOk P w H h) (e:h.objs.size <= a):H a=none:=by
 cases q:H a with
 | none=>rfl
 | some u=>exact absurd (Nat.lt_of_lt_of_le (x.lt q) e) (Nat.lt_irrefl _)
theorem HOk.kept (x:HOk P w H h) (k:∀ b u,h.get? b=some u->h'.get? b=some u):HOk P w H h':=fun a o e =>
 (x a o e).stay (fun b u _ q=>k b u q) (fun _ q=>q) fun _ _ q=>q
theorem HOk.laid (x:HOk P w H h) (k:∀ b u,h.get? b=some u->h'.get? b=some u) (hp:h.objs.size <= a) (new:qS P w (upd H a o) h' a o):HOk P w (upd H a o) h':=fun b u e=>by
 have hn:=x.fresh hp
 by_cases hb:b=a
 ·subst hb;rw[qA] at e;cases e;exact new
 ·rw[jZ hb] at e
  exact (x b u e).stay (fun c v _ q=>k c v q) (fun c q=>by rw[jZ (JD q hn)];exact q) fun c xs q=>by rw[jZ (JD q hn)];exact q
end
noncomputable def Rd (H:Hp) (a:Addr) (u:HO):Prop:=H a=some u\/∃ o,H a=some (.frz o u)
theorem Rd.ok {P:Program}{w:World}{H:Hp}{h:Heap}{a:Addr}{u:HO} (r:Rd H a u) (x:HOk P w H h):qS P w H h a u:=by
 rcases r with r | ⟨o,r⟩
 ·exact x a u r
 ·obtain⟨_,q⟩:=x a _ r
  exact q
noncomputable def Mut:Option HO->Prop
 | some (.lst _)=>True
 | some (.dK _)=>True
 | some (.dT _)=>True
 | some (.set _ _)=>True
 | some (.ins _ _ _)=>True
 | some (.ext _)=>True
 | _=>False
section
variable {P:Program}{w:World}{H:Hp}{h h':Heap}{x e:Addr}{o':HO}
theorem HOk.write (ok:HOk P w H h) (mu:Mut (H x)) (he:e=x\/H e=some (.own x)) (k:∀ b u,b≠e->h.get? b=some u->h'.get? b=some u) (heo:∃ u,h'.get? e=some u)
  (new:qS P w (upd H x o') h' x o'):HOk P w (upd H x o') h':=fun b u q=>by
 have nown:∀ c y,H c=some (.own y)->c≠x:=fun c y r z=>by subst z;rw[r] at mu;exact mu
 have ntup:∀ c xs,H c=some (.tup xs)->c≠x:=fun c xs r z=>by subst z;rw[r] at mu;exact mu
 by_cases hb:b=x
 ·subst hb;rw[qA] at q;cases q;exact new
 ·rw[jZ hb] at q
  by_cases hbe:b=e
  ·have q':H b=some (.own x):=by
    rcases he with z | z
    ·exact absurd (hbe.trans z) hb
    ·rw[hbe];exact z
   rw[q] at q';cases q'
   obtain⟨v,hv⟩:=heo
   exact⟨v,by rw[hbe];exact hv⟩
  ·refine (ok b u q).stay (fun c v hc r=>k c v ?_ r) (fun c r=>by rw[jZ (nown c b r)];exact r) fun c xs r=>by rw[jZ (ntup c xs r)];exact r
   rcases hc with rfl | hc
   ·exact hbe
   ·rintro rfl
    rcases he with z | z
    ·exact nown c b hc z
    ·rw[hc] at z;cases z;exact hb rfl
end
structure Un (fs ex:List Addr) (H H':Hp) (h h':Heap):Prop where
 keep:∀ b o,h.get? b=some o->H b=none->b∉fs->b∉ex->h'.get? b=some o
 slot:∀ b o,h.get? b=some o->H b=none->b∈fs->b∉ex->∃ sl,h'.get? b=some { o with slots:=sl }
 free:∀ b o,h.get? b=some o->H b=none->b∉ex->H' b=none
 there:∀ b o,h.get? b=some o->b∉ex->∃ o',h'.get? b=some o'
 tups:∀ b xs,H b=some (.tup xs)->H' b=some (.tup xs)
 frzs:∀ b o u,H b=some (.frz o u)->H' b=some (.frz o u)
 tbls:∀ b ps,H b=some (.tbl ps)->∃ more,H' b=some (.tbl (ps++more))
section
variable {fs fs' ex ex':List Addr}{H H1 H2:Hp}{h h1 h2 h':Heap}{a x e:Addr}{o:HO}
theorem Un.any (u:Un fs ex H H1 h h1) {b:Addr}{ob:Obj} (q:h.get? b=some ob) (n:H b=none) (hx:b∉ex):∃ sl,h1.get? b=some { ob with slots:=sl }:=by
 by_cases hb:b∈fs
 ·exact u.slot b ob q n hb hx
 ·exact⟨ob.slots,u.keep b ob q n hb hx⟩
theorem Un.kept (k:∀ b u,h.get? b=some u->h'.get? b=some u):Un fs ex H H h h' :=
 ⟨fun b ob q _ _ _=>k b ob q,fun b ob q _ _ _=>⟨ob.slots,k b ob q⟩,fun _ _ _ n _=>n,fun b ob q _=>⟨ob,k b ob q⟩,fun _ _ q=>q,fun _ _ _ q=>q,fun _ ps q=>⟨#[],by rw[q];simp⟩⟩
theorem Un.refl:Un fs ex H H h h:=Un.kept fun _ _ q=>q
theorem Un.laid (k:∀ b u,h.get? b=some u->h'.get? b=some u) (hp:h.objs.size <= a) (hn:H a=none):Un fs ex H (upd H a o) h h' where
 keep:=fun b u q _ _ _=>k b u q
 slot:=fun b u q _ _ _=>⟨u.slots,k b u q⟩
 free:=fun b u q n _=>by rw[jZ (Nat.ne_of_lt (Nat.lt_of_lt_of_le (Heap.lt_size q) hp))];exact n
 there:=fun b u q _=>⟨u,k b u q⟩
 tups:=fun b xs q=>by rw[jZ (JD q hn)];exact q
 frzs:=fun b u xs q=>by rw[jZ (JD q hn)];exact q
 tbls:=fun b ps q=>⟨#[],by rw[jZ (JD q hn),q];simp⟩
theorem Un.write (mu:Mut (H x)) (he:e=x\/H e=some (.own x)) (k:∀ b u,b≠e->h.get? b=some u->h'.get? b=some u) (heo:∃ u,h'.get? e=some u):Un fs ex H (upd H x o) h h':=by
 have hx:∀ b,H b=none->b≠x:=fun b n z=>by subst z;rw[n] at mu;exact mu
 have hb:∀ b,H b=none->b≠e:=fun b n z=>by
  subst z
  rcases he with r | r
  ·exact hx b n r
  ·rw[n] at r;cases r
 have hm:∀ b u,H b=some u -> ¬ Mut (some u)->b≠x:=fun b u q nm z=>by subst z;rw[q] at mu;exact nm mu
 refine⟨fun b u q n _ _=>k b u (hb b n) q,fun b u q n _ _=>⟨u.slots,k b u (hb b n) q⟩,fun b u q n _=>by rw[jZ (hx b n)];exact n,fun b u q _=>?_,
  fun b xs q=>by rw[jZ (hm b _ q fun z=>z)];exact q,fun b u xs q=>by rw[jZ (hm b _ q fun z=>z)];exact q,fun b ps q=>⟨#[],by rw[jZ (hm b _ q fun z=>z),q];simp⟩⟩
 by_cases hbe:b=e
 ·subst hbe;exact heo
 ·exact⟨u,k b u hbe q⟩
end
noncomputable def trk (h:Heap) (H:Hp):List Addr:=(List.range h.objs.size).filter fun a=>(H a).isSome
noncomputable def zEG (h:Heap) (H:Hp):Heap:=PySem.W.hideAll h (trk h H)
theorem zNQ (h:Heap) (H:Hp):(zEG h H).objs.size=h.objs.size:=PySem.W.hideAll_size _ _
theorem zOt {h:Heap}{H:Hp}{b:Addr}{o:Obj} (e:h.get? b=some o) (n:H b=none):(zEG h H).get? b=some o :=
 PySem.W.hideAll_get _ e fun hm=>by
  have q:(H b).isSome=true:=(List.mem_filter.mp hm).2
  rw[n] at q;simp at q
theorem zQN {h:Heap}{H:Hp}{b:Addr}{o:Obj} (e:(zEG h H).get? b=some o):h.get? b=some o/\H b=none:=by
 have e':h.get? b=some o:=PySem.W.of_hideAll (trk h H) e
 refine⟨e',?_⟩
 cases q:H b with
 | none=>rfl
 | some x =>
  have hm:b∈trk h H:=List.mem_filter.mpr ⟨List.mem_range.mpr (Heap.lt_size e'),by simp[q]⟩
  have z:(zEG h H).get? b=none:=PySem.W.hideAll_none (trk h H) hm
  rw[z] at e;cases e
noncomputable def zQY (g h:Heap) (L:Addr):List (Addr×Obj):=(List.range h.objs.size).filterMap fun a=>if a=L\/(g.get? a).isSome=true then none else (h.get? a).map fun o=>(a,o)
noncomputable def qu (g h:Heap) (L d:Addr):List (Addr×Obj):=(zQY g h L).filter fun p=>decide (p.1≠d)
end L2
namespace L2
open PySem PySem.Spec PyProof.Rows
structure Mod (K:PySem.W.Frag) (mg:Str->Option Value) (base:Heap):Prop where
 kin:K.In base
 glob:base.Ns mainGlobals mg
 blt:∃ mb,base.Ns builtinsNs mb/\∀ x:Str,x ≠ "__name__" -> mb x=bootBuiltins x
 nolimit:base.NoLimit
structure Cx where
 prog:Program
 w:World
 K:PySem.W.Frag
 mg:Str->Option Value
 base:Heap
 A:Around
 N:List Str
 s₀:Shared
 H₀:Hp
 env:Env
 outer:List Env
 stack:List Env
 ex:List Addr
 fn:Str->Bool
 calm:Bool
 pn:List (Addr×Obj)
 xe:Value->Shared->Prop
noncomputable def frs (l:List Env):List Addr:=l.filterMap (·.frame)
noncomputable abbrev Cx.fs (X:Cx):List Addr:=frs X.outer
noncomputable def Vis (sc:Scope) (x:Str):Prop:=sc.names.lookup x=some .local\/sc.names.lookup x=some .cell\/sc.names.lookup x=some .free
noncomputable def Loc (sc:Scope) (x:Str):Prop:=sc.names.lookup x=some .local\/sc.names.lookup x=some .cell
noncomputable def zUL (env:Env) (h:Heap) (m:Str->Option Value) (x:Str) (u:Value):Prop :=
 (env.kindOf x=some .local/\m x=some u)\/((env.kindOf x=some .cell\/env.kindOf x=some .free)/\∃ c,env.cells.lookup x=some c/\h.IsCell c (some u))
structure Cx.Ok (X:Cx):Prop where
 mod:Mod X.K X.mg X.base
 kind:X.env.scope.kind=.function
 glob:X.env.globals=mainGlobals
 blt:X.env.builtins=builtinsNs
 above:X.s₀.heap.objs.size <= X.env.locals
 inj:∀ x y c,X.env.cells.lookup x=some c->X.env.cells.lookup y=some c->x=y
 has:∀ x,(X.env.kindOf x=some .cell\/X.env.kindOf x=some .free)->∃ c,X.env.cells.lookup x=some c
 cab:∀ x c,X.fn x=true->X.env.cells.lookup x=some c->X.s₀.heap.objs.size <= c
 hd:X.calm=true->X.A.handled=none
 frames:X.A.frames=some X.stack
 stk:X.stack=X.outer\/(X.stack=X.env::X.outer/\X.env.frame=some X.env.locals)
 exf:∀ b∈X.ex,b≠X.env.locals/\∀ x c,X.env.cells.lookup x=some c->c≠b
 bs:∀ b o,X.base.get? b=some o->X.s₀.heap.get? b=some o/\X.H₀ b=none
 bsz:X.base.objs.size <= X.s₀.heap.objs.size
 noex:∀ b o,X.base.get? b=some o->b∉X.ex
 exfs:∀ b∈X.ex,b∉X.fs
 funs:X.s₀.heap.FunFrames X.base X.outer
 frf:∀ b∈X.fs,X.H₀ b=none
structure Inv (X:Cx) (pins:List (Addr×Obj)) (σ:List (Option V)) (H:Hp) (s:Shared):Prop where
 ok:X.Ok
 os:s.os=X.s₀.os
 bare:AllBare s.gens
 base:Un X.fs X.ex X.H₀ H X.s₀.heap s.heap
 loc:∃ m,s.heap.Ns X.env.locals m/\∀ (i:Nat) (x:Str) (v:V),X.N[i]? = some x->σ[i]? = some (some v)->Vis X.env.scope x->∃ u,zv v u/\zUL X.env s.heap m x u
 cell:∀ x c,X.env.cells.lookup x=some c->∃ v,s.heap.IsCell c v
 free:H X.env.locals=none
 freeC:∀ x c,X.env.cells.lookup x=some c->H c=none
 pin:∀ p∈X.pn++pins,s.heap.get? p.1=some p.2/\H p.1=none/\p.1≠X.env.locals/\p.1∉X.fs/\∀ v,p.2.data≠.cell v
 hok:HOk X.prog X.w H s.heap
 len:σ.length=X.N.length
 tk:0 < s.toks
section
variable {X:Cx}{pins:List (Addr×Obj)}{σ:List (Option V)}{H H':Hp}{s:Shared}{h':Heap}
theorem Cx.Ok.nofr (ok:X.Ok) {b:Addr}{o:Obj} (e:X.base.get? b=some o):b∉X.fs:=fun hb=>by
 have:=(ok.funs.mem hb).1
 rw[e] at this;cases this
theorem Inv.bs (I:Inv X pins σ H s):∀ b o,X.base.get? b=some o->s.heap.get? b=some o/\H b=none:=fun b o e =>
 ⟨I.base.keep b o (I.ok.bs b o e).1 (I.ok.bs b o e).2 (I.ok.nofr e) (I.ok.noex b o e),I.base.free b o (I.ok.bs b o e).1 (I.ok.bs b o e).2 (I.ok.noex b o e)⟩
theorem Inv.bk (I:Inv X pins σ H s):∀ b o,X.base.get? b=some o->s.heap.get? b=some o:=fun b o e=>(I.bs b o e).1
theorem Inv.mod (I:Inv X pins σ H s):Mod X.K X.mg X.base:=I.ok.mod
theorem Inv.kIn (I:Inv X pins σ H s):X.K.In s.heap:=I.ok.mod.kin.keeps I.bk
theorem Inv.fr (I:Inv X pins σ H s):∃ m,Fr X.base X.env.locals s.heap m :=
 let ⟨m,hn,_⟩:=I.loc
 ⟨m,hn,I.bk,Nat.le_trans I.ok.bsz I.ok.above⟩
theorem Inv.lt (I:Inv X pins σ H s):X.env.locals < s.heap.objs.size:=let ⟨_,hn,_⟩:=I.loc;hn.lt
theorem Inv.sz (I:Inv X pins σ H s):X.s₀.heap.objs.size <= s.heap.objs.size:=Nat.le_trans I.ok.above (Nat.le_of_lt I.lt)
theorem Inv.nofs (I:Inv X pins σ H s) {a:Addr} (h:s.heap.objs.size <= a):a∉X.fs:=fun hb=>by
 obtain⟨_,o,ho,_⟩:=I.ok.funs.mem hb
 exact absurd (Nat.lt_of_lt_of_le (Heap.lt_size ho) (Nat.le_trans I.sz h)) (Nat.lt_irrefl _)
theorem Inv.cne (I:Inv X pins σ H s):∀ x c,X.env.cells.lookup x=some c->c≠X.env.locals:=fun x c e z=>by
 obtain⟨v,o,ho,hd⟩:=I.cell x c e
 obtain⟨m,⟨o',es,ep,ho',hd',_⟩,_⟩:=I.loc
 rw[z,ho'] at ho;cases ho;rw[hd'] at hd;cases hd
theorem Inv.funs (I:Inv X pins σ H s):s.heap.FunFrames X.base X.outer:=by
 have all:∀ (l:List Env),(∀ b∈frs l,b∈X.fs)->X.s₀.heap.FunFrames X.base l->s.heap.FunFrames X.base l:=by
  intro l
  induction l with
  | nil=>intro _ _;trivial
  | cons env r ih =>
   intro hs hl
   obtain⟨hk,⟨L,o,hf,hn,ho,hd⟩,hr⟩:=hl
   have hL:L∈X.fs:=hs L (by unfold frs;rw[List.filterMap_cons,hf];exact List.mem_cons_self)
   obtain⟨sl,e⟩:=I.base.slot L o ho (I.ok.frf L hL) hL fun z=>I.ok.exfs L z hL
   exact⟨hk,⟨L,_,hf,hn,e,hd⟩,ih (fun b hb=>hs b (by unfold frs;rw[List.filterMap_cons,hf];exact List.mem_cons_of_mem _ hb)) hr⟩
 exact all X.outer (fun _ hb=>hb) I.ok.funs
theorem Inv.stack (I:Inv X pins σ H s):s.heap.FunFrames X.base X.stack:=by
 rcases I.ok.stk with e | ⟨e,hf⟩
 ·rw[e];exact I.funs
 ·rw[e]
  obtain⟨m,hn,_⟩:=I.loc
  refine .cons (by rw[I.ok.kind];decide) hf hn ?_ I.funs
  exact Heap.get?_none_of_le (Nat.le_trans I.ok.bsz I.ok.above)
theorem Inv.stkSub (I:Inv X pins σ H s):∀ b∈frs X.stack,b∈X.env.locals::X.fs:=fun b hb=>by
 rcases I.ok.stk with e | ⟨e,hf⟩
 ·rw[e] at hb;exact List.mem_cons_of_mem _ hb
 ·rw[e] at hb
  unfold frs at hb
  rw[List.filterMap_cons,hf] at hb
  exact hb
theorem Inv.stkFree (I:Inv X pins σ H s):∀ b∈frs X.stack,H b=none:=fun b hb=>by
 rcases List.mem_cons.mp (I.stkSub b hb) with e | hb
 ·rw[e];exact I.free
 ·obtain⟨_,o,ho,_⟩:=I.ok.funs.mem hb
  exact I.base.free b o ho (I.ok.frf b hb) fun z=>I.ok.exfs b z hb
theorem Inv.step {g':Array GenState}{t':Nat}{d':Drawn}{ch:List Addr} (I:Inv X pins σ H s)
  (hch:∀ b∈ch,(b∈X.ex\/X.s₀.heap.objs.size <= b)/\b≠X.env.locals/\(∀ x c,X.env.cells.lookup x=some c->c≠b)/\∀ p∈X.pn++pins,p.1≠b)
  (keep:∀ b o,b≠X.env.locals->b∉X.fs->b∉ch->s.heap.get? b=some o->H b=none->h'.get? b=some o)
  (slot:∀ b o,b≠X.env.locals->b∈X.fs->b∉ch->s.heap.get? b=some o->H b=none->∃ sl,h'.get? b=some { o with slots:=sl }) (free:∀ b o,b∉ch->s.heap.get? b=some o->H b=none->H' b=none)
  (there:∀ b o,b∉ch->s.heap.get? b=some o->∃ o',h'.get? b=some o')
  (tups:∀ b xs,H b=some (.tup xs)->H' b=some (.tup xs)) (frzs:∀ b o u,H b=some (.frz o u)->H' b=some (.frz o u)) (tbls:∀ b ps,H b=some (.tbl ps)->∃ more,H' b=some (.tbl (ps++more)))
  (ns:∀ m,s.heap.Ns X.env.locals m->h'.Ns X.env.locals m) (hok:HOk X.prog X.w H' h') (hg:AllBare g') (ht:0 < t':=by first | exact Nat.succ_pos _ | assumption | exact Inv.tk (by assumption) | omega) :
  Inv X pins σ H' { s with heap:=h',gens:=g',drawn:=d',toks:=t' }:=by
 have neL:∀ b o,X.s₀.heap.get? b=some o->b≠X.env.locals:=fun b o e=>Nat.ne_of_lt (Nat.lt_of_lt_of_le (Heap.lt_size e) I.ok.above)
 have neC:∀ b o,X.s₀.heap.get? b=some o->b∉X.ex->b∉ch:=fun b o e hx hb=>by
  rcases (hch b hb).1 with z | z
  ·exact hx z
  ·exact absurd (Nat.lt_of_lt_of_le (Heap.lt_size e) z) (Nat.lt_irrefl _)
 have cellK:∀ x c,X.env.cells.lookup x=some c->∀ v,s.heap.IsCell c v->h'.IsCell c v:=fun x c e v ⟨o,ho,hd⟩=>by
  have nch:c∉ch:=fun z=>(hch c z).2.2.1 x c e rfl
  by_cases hc:c∈X.fs
  ·obtain⟨sl,q⟩:=slot c o (I.cne x c e) hc nch ho (I.freeC x c e)
   exact⟨_,q,hd⟩
  ·exact⟨o,keep c o (I.cne x c e) hc nch ho (I.freeC x c e),hd⟩
 refine⟨I.ok,I.os,hg,⟨fun b o e n hb hx=>?_,fun b o e n hb hx=>?_,fun b o e n hx=>?_,fun b o e hx=>?_,fun b xs e=>tups b xs (I.base.tups b xs e),fun b o xs e=>frzs b o xs (I.base.frzs b o xs e),fun b ps e=>?_⟩,?_,fun x c e=>?_,?_,fun x c e=>?_,fun p hp=>?_,hok,I.len,ht⟩
 ·exact keep b o (neL b o e) hb (neC b o e hx) (I.base.keep b o e n hb hx) (I.base.free b o e n hx)
 ·obtain⟨sl,e1⟩:=I.base.slot b o e n hb hx
  obtain⟨sl',e2⟩:=slot b _ (neL b o e) hb (neC b o e hx) e1 (I.base.free b o e n hx)
  exact⟨sl',e2⟩
 ·obtain⟨o',e1⟩:=I.base.there b o e hx
  exact free b o' (neC b o e hx) e1 (I.base.free b o e n hx)
 ·obtain⟨o',e1⟩:=I.base.there b o e hx
  exact there b o' (neC b o e hx) e1
 ·obtain⟨m1,e1⟩:=I.base.tbls b ps e
  obtain⟨m2,e2⟩:=tbls b _ e1
  exact⟨m1++m2,by rw[e2,Array.append_assoc]⟩
 ·obtain⟨m,hn,hl⟩:=I.loc
  refine⟨m,ns m hn,fun i x v e1 e2 e3=>?_⟩
  obtain⟨u,r,l⟩:=hl i x v e1 e2 e3
  refine⟨u,r,?_⟩
  rcases l with l | ⟨k,c,e,z⟩
  ·exact .inl l
  ·exact .inr ⟨k,c,e,cellK x c e _ z⟩
 ·obtain⟨v,z⟩:=I.cell x c e
  exact⟨v,cellK x c e v z⟩
 ·obtain⟨m,⟨o,_,_,ho,_⟩,_⟩:=I.loc
  exact free _ o (fun z=>(hch _ z).2.1 rfl) ho I.free
 ·obtain⟨v,o,ho,hd⟩:=I.cell x c e
  exact free c o (fun z=>(hch c z).2.2.1 x c e rfl) ho (I.freeC x c e)
 ·obtain⟨e,n,ne,nf,d⟩:=I.pin p hp
  have nch:p.1∉ch:=fun z=>(hch p.1 z).2.2.2 p hp rfl
  exact⟨keep p.1 p.2 ne nf nch e n,free p.1 p.2 nch e n,ne,nf,d⟩
theorem Inv.un {t':Nat} (I:Inv X pins σ H s) (u:Un X.fs [] H H' s.heap h') (hok:HOk X.prog X.w H' h') (ht:0 < t':=by first | exact Nat.succ_pos _ | assumption | exact Inv.tk (by assumption) | omega):Inv X pins σ H' { s with heap:=h',toks:=t' }:=by
 obtain⟨m,⟨o,es,ep,ho,r⟩,_⟩:=id I.loc
 obtain⟨sl,hL⟩:=u.any ho I.free (by simp)
 exact I.step (g':=s.gens) (d':=s.drawn) (ch:=[]) (fun _ z=>nomatch z) (fun b o _ hb _ e n=>u.keep b o e n hb (by simp)) (fun b o _ hb _ e n=>u.slot b o e n hb (by simp)) (fun b o _ e n=>u.free b o e n (by simp)) (fun b o _ e=>u.there b o e (by simp)) u.tups u.frzs u.tbls (fun m' hm=>by
  obtain⟨o',es',ep',ho',r'⟩:=hm
  rw[ho] at ho';cases ho'
  exact⟨_,es',ep',hL,r'⟩) hok I.bare ht
theorem Inv.call {g':Array GenState}{t':Nat}{d':Drawn}{ch:List Addr} (I:Inv X pins σ H s) (u:Un (frs X.stack) ch H H' s.heap h') (hok:HOk X.prog X.w H' h') (hg:AllBare g')
  (hch:∀ b∈ch,(b∈X.ex\/X.s₀.heap.objs.size <= b)/\b≠X.env.locals/\(∀ x c,X.env.cells.lookup x=some c->c≠b)/\∀ p∈X.pn++pins,p.1≠b) (ht:0 < t':=by first | exact Nat.succ_pos _ | assumption | exact Inv.tk (by assumption) | omega) :
  Inv X pins σ H' { s with heap:=h',gens:=g',drawn:=d',toks:=t' }:=by
 obtain⟨m,⟨o,es,ep,ho,r⟩,_⟩:=id I.loc
 obtain⟨sl,hL⟩:=u.any ho I.free fun z=>(hch _ z).2.1 rfl
 exact I.step (ch:=ch) hch (fun b o hL hb hc e n=>u.keep b o e n (fun z=>(List.mem_cons.mp (I.stkSub b z)).elim hL hb) hc) (fun b o _ _ hc e n=>u.any e n hc) (fun b o hc e n=>u.free b o e n hc) (fun b o hc e=>u.there b o e hc) u.tups u.frzs u.tbls (fun m' hm=>by
  obtain⟨o',es',ep',ho',r'⟩:=hm
  rw[ho] at ho';cases ho'
  exact⟨_,es',ep',hL,r'⟩) hok hg ht
theorem Inv.turned {t':Nat}{it:Addr} (I:Inv X pins σ H s) (k:∀ b o,b≠it->s.heap.get? b=some o->h'.get? b=some o) (hn:H it=none) (hL:it≠X.env.locals)
  (h1:it∈X.ex\/X.s₀.heap.objs.size <= it) (h2:∀ x c,X.env.cells.lookup x=some c->c≠it) (h3:∀ p∈X.pn++pins,p.1≠it) (ht:0 < t':=by first | exact Nat.succ_pos _ | assumption | exact Inv.tk (by assumption) | omega):Inv X pins σ H { s with heap:=h',toks:=t' }:=by
 have nit:∀ b u,H b=some u->b≠it:=fun b u e z=>by rw[z,hn] at e;cases e
 refine I.step (g':=s.gens) (d':=s.drawn) (ch:=[it]) (fun b hb=>?_) (fun b o _ _ hc e _=>k b o (fun z=>hc (by simp[z])) e) (fun b o _ _ hc e _=>⟨o.slots,k b o (fun z=>hc (by simp[z])) e⟩) (fun _ _ _ _ n=>n)
  (fun b o hc e=>⟨o,k b o (fun z=>hc (by simp[z])) e⟩) (fun _ _ e=>e) (fun _ _ _ e=>e) (fun b ps e=>⟨#[],by rw[e];simp⟩) (fun m hm=>?_) (fun b u e=>?_) I.bare ht
 ·have e:b=it:=by simpa using hb
  subst e
  exact⟨h1,hL,h2,h3⟩
 ·obtain⟨o,es,ep,ho,r⟩:=hm
  exact⟨o,es,ep,k _ o (Ne.symm hL) ho,r⟩
 ·refine (I.hok b u e).stay (fun c v hc q=>k c v ?_ q) (fun _ q=>q) fun _ _ q=>q
  rcases hc with z | z
  ·rw[z];exact nit b u e
  ·exact nit c _ z
theorem Inv.tok (I:Inv X pins σ H s) (t:Nat) (ht:0 < t:=by first | exact Nat.succ_pos _ | assumption | exact Inv.tk (by assumption) | omega):Inv X pins σ H { s with toks:=t }:=I.un (h':=s.heap) (t':=t) Un.refl I.hok ht
theorem Inv.kept {t':Nat} (I:Inv X pins σ H s) (k:∀ b u,s.heap.get? b=some u->h'.get? b=some u) (ht:0 < t':=by first | exact Nat.succ_pos _ | assumption | exact Inv.tk (by assumption) | omega):Inv X pins σ H { s with heap:=h',toks:=t' }:=I.un (Un.kept k) (I.hok.kept k) ht
theorem Inv.laid {a:Addr}{o:HO}{t':Nat} (I:Inv X pins σ H s) (k:∀ b u,s.heap.get? b=some u->h'.get? b=some u) (hp:s.heap.objs.size <= a) (new:qS X.prog X.w (upd H a o) h' a o) (ht:0 < t':=by first | exact Nat.succ_pos _ | assumption | exact Inv.tk (by assumption) | omega) :
  Inv X pins σ (upd H a o) { s with heap:=h',toks:=t' }:=I.un (Un.laid k hp (I.hok.fresh hp)) (I.hok.laid k hp new) ht
theorem Inv.write {x e:Addr}{o:HO}{t':Nat} (I:Inv X pins σ H s) (mu:Mut (H x)) (he:e=x\/H e=some (.own x)) (k:∀ b u,b≠e->s.heap.get? b=some u->h'.get? b=some u) (heo:∃ u,h'.get? e=some u)
  (new:qS X.prog X.w (upd H x o) h' x o) (ht:0 < t':=by first | exact Nat.succ_pos _ | assumption | exact Inv.tk (by assumption) | omega):Inv X pins σ (upd H x o) { s with heap:=h',toks:=t' }:=I.un (Un.write mu he k heo) (I.hok.write mu he k heo new) ht
theorem Inv.weak {σ':List (Option V)} (I:Inv X pins σ H s) (hl:σ'.length=σ.length) (w:∀ (i:Nat) v,σ'[i]? = some (some v)->σ[i]? = some (some v)):Inv X pins σ' H s :=
 ⟨I.ok,I.os,I.bare,I.base,let ⟨m,hn,hl'⟩:=I.loc;⟨m,hn,fun i x v e1 e2 e3=>hl' i x v e1 (w i v e2) e3⟩,I.cell,I.free,I.freeC,I.pin,I.hok,hl.trans I.len,I.tk⟩
theorem Inv.pins_of {pins':List (Addr×Obj)} (I:Inv X pins σ H s) (h:∀ p∈pins',s.heap.get? p.1=some p.2/\H p.1=none/\p.1≠X.env.locals/\p.1∉X.fs/\∀ v,p.2.data≠.cell v):Inv X pins' σ H s :=
 ⟨I.ok,I.os,I.bare,I.base,I.loc,I.cell,I.free,I.freeC,fun p hp=>(List.mem_append.mp hp).elim (fun z=>I.pin p (List.mem_append_left _ z)) (h p),I.hok,I.len,I.tk⟩
theorem zKe {N:List Str} (hN:N.Nodup) {i j:Nat}{x:Str} (a:N[i]? = some x) (b:N[j]? = some x):i=j:=by
 obtain⟨h1,e1⟩:=List.getElem?_eq_some_iff.mp a
 obtain⟨h2,e2⟩:=List.getElem?_eq_some_iff.mp b
 exact (List.getElem_inj hN).mp (e1.trans e2.symm)
theorem zOD {M:Model}{A:Around}{E:Value->Shared->Prop}{i:Nat}{x:Str}{v:V}{u:Value}{Q:Unit->Shared->Prop} (I:Inv X pins σ H s) (hN:X.N.Nodup) (hi:X.N[i]? = some x) (hx:Loc X.env.scope x) (r:zv v u)
  (h:∀ s',Inv X pins (σ.set i (some v)) H s'->(∃ a,Heap.SameBut a s.heap s'.heap/\(a=X.env.locals\/X.env.cells.lookup x=some a))->Q () s') (hf:X.fn x=true\/X.env.scope.names.lookup x=some .local:=by first | exact .inl rfl | exact .inr rfl | assumption):wpAny M A (storeName X.env x u) Q E s:=by
 obtain⟨m,hn,hl⟩:=id I.loc
 have hcls:(X.env.scope.kind == .class || (X.env.scope.kind == .module && X.env.locals != X.env.globals))=false:=by rw[I.ok.kind];rfl
 have hiσ:i < σ.length:=by rw[I.len];exact (List.getElem?_eq_some_iff.mp hi).1
 have cne:=I.cne
 have tracked:∀ {a:Addr}{h':Heap},(∃ o,s.heap.get? a=some o/\H a=none)->Heap.SameBut a s.heap h'->HOk X.prog X.w H h':=fun {a h'} ha hs b ob e=>by
  obtain⟨_,_,hfree⟩:=ha
  refine (I.hok b ob e).stay (fun c w' hc q=>(hs.2 c ?_).trans q) (fun _ q=>q) fun _ _ q=>q
  rintro rfl
  rcases hc with rfl | hc
  ·rw[hfree] at e;cases e
  ·rw[hfree] at hc;cases hc
 rcases hx with hk | hk
 ·refine wpAny_storeName_local hk hn (fun h' hn' hs=>?_) hcls
  obtain⟨oL,_,_,hoL,_⟩:=id hn
  refine h _ ⟨I.ok,I.os,I.bare,⟨fun b o e n hb hx=>?_,fun b o e n hb hx=>?_,I.base.free,fun b o e hx=>?_,I.base.tups,I.base.frzs,I.base.tbls⟩,⟨_,hn',fun j y v' e1 e2 e3=>?_⟩,fun y c e=>?_,I.free,I.freeC,fun p hp=>?_,tracked ⟨oL,hoL,I.free⟩ hs,by simpa using I.len,Nat.succ_pos _⟩ ⟨_,hs,.inl rfl⟩
  ·exact (hs.2 b (Nat.ne_of_lt (Nat.lt_of_lt_of_le (Heap.lt_size e) I.ok.above))).trans (I.base.keep b o e n hb hx)
  ·obtain⟨sl,e1⟩:=I.base.slot b o e n hb hx
   exact⟨sl,(hs.2 b (Nat.ne_of_lt (Nat.lt_of_lt_of_le (Heap.lt_size e) I.ok.above))).trans e1⟩
  ·obtain⟨o',e1⟩:=I.base.there b o e hx
   exact⟨o',(hs.2 b (Nat.ne_of_lt (Nat.lt_of_lt_of_le (Heap.lt_size e) I.ok.above))).trans e1⟩
  ·by_cases hj:j=i
   ·subst hj
    rw[hi] at e1;cases e1
    rw[List.getElem?_set_self hiσ] at e2
    cases e2
    exact⟨u,r,.inl ⟨hk,by simp⟩⟩
   ·rw[List.getElem?_set_ne (Ne.symm hj)] at e2
    obtain⟨u',r',q⟩:=hl j y v' e1 e2 e3
    refine⟨u',r',?_⟩
    rcases q with ⟨k,e⟩ | ⟨k,c,e,z⟩
    ·refine .inl ⟨k,?_⟩
     have:y≠x:=fun e=>hj (zKe hN e1 (e ▸ hi))
     simp[this,e]
    ·exact .inr ⟨k,c,e,z.sameBut hs (cne y c e)⟩
  ·obtain⟨w',z⟩:=I.cell y c e
   exact⟨w',z.sameBut hs (cne y c e)⟩
  ·obtain⟨e,n,ne,nf,d⟩:=I.pin p hp
   exact⟨(hs.2 p.1 ne).trans e,n,ne,nf,d⟩
 ·have hfn:X.fn x=true:=by
   rcases hf with z | z
   ·exact z
   ·rw[z] at hk;cases hk
  obtain⟨c,hc⟩:=I.ok.has x (.inl hk)
  obtain⟨w',z⟩:=I.cell x c hc
  refine wpAny_storeName_cell I.ok.kind hk hc z (fun h' hc' hs=>?_)
  obtain⟨oc,hoc,hocd⟩:=id z
  refine h { s with heap:=h' } ⟨I.ok,I.os,I.bare,⟨fun b o e n hb hx=>?_,fun b o e n hb hx=>?_,I.base.free,fun b o e hx=>?_,I.base.tups,I.base.frzs,I.base.tbls⟩,⟨m,hn.sameBut hs (Ne.symm (cne x c hc)),fun j y v' e1 e2 e3=>?_⟩,fun y c' e=>?_,I.free,I.freeC,fun p hp=>?_,tracked ⟨oc,hoc,I.freeC x c hc⟩ hs,by simpa using I.len,I.tk⟩ ⟨c,hs,.inr hc⟩
  ·exact (hs.2 b (Nat.ne_of_lt (Nat.lt_of_lt_of_le (Heap.lt_size e) (I.ok.cab x c hfn hc)))).trans (I.base.keep b o e n hb hx)
  ·obtain⟨sl,e1⟩:=I.base.slot b o e n hb hx
   exact⟨sl,(hs.2 b (Nat.ne_of_lt (Nat.lt_of_lt_of_le (Heap.lt_size e) (I.ok.cab x c hfn hc)))).trans e1⟩
  ·obtain⟨o',e1⟩:=I.base.there b o e hx
   exact⟨o',(hs.2 b (Nat.ne_of_lt (Nat.lt_of_lt_of_le (Heap.lt_size e) (I.ok.cab x c hfn hc)))).trans e1⟩
  ·by_cases hj:j=i
   ·subst hj
    rw[hi] at e1;cases e1
    rw[List.getElem?_set_self hiσ] at e2
    cases e2
    exact⟨u,r,.inr ⟨.inl hk,c,hc,hc'⟩⟩
   ·rw[List.getElem?_set_ne (Ne.symm hj)] at e2
    obtain⟨u',r',q⟩:=hl j y v' e1 e2 e3
    refine⟨u',r',?_⟩
    rcases q with q | ⟨k,c',e,z'⟩
    ·exact .inl q
    ·refine .inr ⟨k,c',e,z'.sameBut hs ?_⟩
     rintro rfl
     exact hj (zKe hN e1 (I.ok.inj _ _ _ e hc ▸ hi))
  ·by_cases hcc:c'=c
   ·subst hcc;exact⟨_,hc'⟩
   ·obtain⟨w2,z2⟩:=I.cell y c' e
    exact⟨w2,z2.sameBut hs hcc⟩
  ·obtain⟨e,n,ne,nf,d⟩:=I.pin p hp
   refine⟨(hs.2 p.1 ?_).trans e,n,ne,nf,d⟩
   intro q
   rw[q,hoc] at e
   have q':oc=p.2:=Option.some.inj e
   exact d w' (by rw[<- q'];exact hocd)
theorem zKX {M:Model}{A:Around}{E:Value->Shared->Prop}{i:Nat}{x:Str}{v:V}{u:Value}{Q:Unit->Shared->Prop} (I:Inv X pins σ H s) (hN:X.N.Nodup) (hi:X.N[i]? = some x) (hx:Loc X.env.scope x) (r:zv v u)
  (h:∀ s',Inv X pins (σ.set i (some v)) H s'->Q () s') (hf:X.fn x=true\/X.env.scope.names.lookup x=some .local:=by first | exact .inl rfl | exact .inr rfl | assumption):wpAny M A (storeName X.env x u) Q E s :=
 zOD I hN hi hx r (fun s' I' _=>h s' I') hf
theorem Inv.call' {s':Shared}{ch:List Addr} (I:Inv X pins σ H s) (ho:s'.os=s.os) (u:Un (frs X.stack) ch H H' s.heap s'.heap) (hok:HOk X.prog X.w H' s'.heap) (hg:AllBare s'.gens)
  (hch:∀ b∈ch,(b∈X.ex\/X.s₀.heap.objs.size <= b)/\b≠X.env.locals/\(∀ x c,X.env.cells.lookup x=some c->c≠b)/\∀ p∈X.pn++pins,p.1≠b) (ht:0 < s'.toks):Inv X pins σ H' s':=by
 obtain⟨h',g',d',t',o'⟩:=s'
 have e:o'=s.os:=ho
 subst e
 exact I.call (g':=g') (t':=t') (d':=d') u hok hg hch ht
end
noncomputable abbrev XK:=Value->Option Addr->Hp->Prop
noncomputable abbrev St:=List (Option V)
noncomputable abbrev VK:=V->Hp->Prop
noncomputable abbrev TE:=St->Hp->VK->Prop
noncomputable abbrev TT:=St->Hp->(Bool->Hp->Prop)->Prop
noncomputable abbrev TA:=St->Hp->(List V->Hp->Prop)->Prop
structure zEH where
 nx:St->Hp->Prop
 rt:VK
 bk:St->Hp->Prop:=fun _ _=>False
 ct:St->Hp->Prop:=fun _ _=>False
noncomputable abbrev TS:=zEH->St->Hp->Prop
noncomputable def EP (X:Cx) (pins:List (Addr×Obj)) (σ:St) (Q:VK) (u:Value) (s':Shared):Prop:=∃ v H',Inv X pins σ H' s'/\zv v u/\Q v H'
noncomputable def TP (X:Cx) (pins:List (Addr×Obj)) (σ:St) (Q:Bool->Hp->Prop) (b:Bool) (s':Shared):Prop:=∃ H',Inv X pins σ H' s'/\Q b H'
noncomputable def AP (X:Cx) (pins:List (Addr×Obj)) (σ:St) (Q:List V->Hp->Prop) (us:List Value) (s':Shared):Prop:=∃ vs H',Inv X pins σ H' s'/\ze vs us/\Q vs H'
noncomputable def SP (X:Cx) (pins:List (Addr×Obj)) (D:zEH) (f:Flow) (s':Shared):Prop :=
 match f with
 | .next=>∃ σ' H',Inv X pins σ' H' s'/\D.nx σ' H'
 | .brk=>∃ σ' H',Inv X pins σ' H' s'/\D.bk σ' H'
 | .cont=>∃ σ' H',Inv X pins σ' H' s'/\D.ct σ' H'
 | .ret u=>∃ v σ' H',Inv X pins σ' H' s'/\zv v u/\D.rt v H'
noncomputable def PE (X:Cx) (e:Expr) (t:TE):Prop :=
 ∀ (pins:List (Addr×Obj)) (s:Shared) (σ:St) (H:Hp) (Q:VK),Inv X pins σ H s->t σ H Q->wpAny (model X.prog X.w) X.A (eval e X.env) (EP X pins σ Q) X.xe s
noncomputable def PT (X:Cx) (e:Expr) (t:TT):Prop :=
 ∀ (pins:List (Addr×Obj)) (s:Shared) (σ:St) (H:Hp) (Q:Bool->Hp->Prop),Inv X pins σ H s->t σ H Q->wpAny (model X.prog X.w) X.A (isTrue e X.env (eval e X.env)) (TP X pins σ Q) X.xe s
noncomputable def PW (X:Cx) (e:Expr) (t:TT):Prop :=
 ∀ (whole:Sem Value) (pins:List (Addr×Obj)) (s:Shared) (σ:St) (H:Hp) (Q:Bool->Hp->Prop),Inv X pins σ H s->t σ H Q->wpAny (model X.prog X.w) X.A (isTrue e X.env whole) (TP X pins σ Q) X.xe s
theorem PW.pt {X:Cx}{e:Expr}{t:TT} (h:PW X e t):PT X e t:=h _
noncomputable def PA (X:Cx) (es:List Expr) (t:TA):Prop :=
 ∀ (pos:Pos) (pins:List (Addr×Obj)) (s:Shared) (σ:St) (H:Hp) (Q:List V->Hp->Prop),Inv X pins σ H s->t σ H Q->wpAny (model X.prog X.w) X.A (spliced (backTo pos (starEach es X.env))) (AP X pins σ Q) X.xe s
noncomputable def PS (X:Cx) (st:Stmt) (t:TS):Prop :=
 ∀ (pins:List (Addr×Obj)) (s:Shared) (σ:St) (H:Hp) (D:zEH),Inv X pins σ H s->t D σ H->wpAny (model X.prog X.w) X.A (exec st X.env) (SP X pins D) X.xe s
noncomputable def PSs (X:Cx) (st:List Stmt) (t:TS):Prop :=
 ∀ (pins:List (Addr×Obj)) (s:Shared) (σ:St) (H:Hp) (D:zEH),Inv X pins σ H s->t D σ H->wpAny (model X.prog X.w) X.A (execs st X.env) (SP X pins D) X.xe s
theorem thn {α:Type}{t:Sem α}{Q Q':α->Shared->Prop}{M:Model}{A:Around}{E:Value->Shared->Prop}{s:Shared} (h:wpAny M A t Q E s) (hQ:∀ a s,Q a s->Q' a s):wpAny M A t Q' E s:=wpAny_mono h hQ fun _ _ x=>x
end L2
namespace L2
open PySem PySem.Spec PyProof.Rows
section
variable {X:Cx}
noncomputable def zTx (i:Nat):TE:=fun σ H Q=>∃ v,σ[i]? = some (some v)/\Q v H
noncomputable def tC (v:V):TE:=fun _ H Q=>Q v H
theorem zR0 {i:Nat}{x:Str}{pos:Pos} (hN:X.N[i]? = some x) (hv:Vis X.env.scope x) (hd:(x == ("__debug__" : Str))=false:=by decide) (hcd:(x == ("__classdict__" : Str))=false:=by decide):PE X (.Name x pos) (zTx i):=by
 intro pins s σ H Q I h
 obtain⟨v,e,h⟩:=h
 obtain⟨m,hn,hl⟩:=I.loc
 obtain⟨u,r,l⟩:=hl i x v hN e hv
 have fin:EP X pins σ Q u s:=⟨v,H,I,r,h⟩
 rcases l with ⟨hk,hm⟩ | ⟨hk,c,hc,hcell⟩
 ·exact wpAny_Name (wpAny_loadName_local I.ok.kind hk hn hm fin) hd
 ·rcases hk with hk | hk
  ·exact wpAny_Name (wpAny_loadName_cell I.ok.kind hk hc hcell fin) hd
  ·exact wpAny_Name (wpAny_loadName_free I.ok.kind hk hc hcell fin hcd) hd
theorem zKY {i j pos}:PE X (.Constant (.int i) j pos) (tC (.int i)):=fun _ _ _ H _ I h=>wpAny_Constant_int ⟨.int i,H,I.tok _,⟨_,rfl⟩,h⟩
theorem zTP {b j pos}:PE X (.Constant (.bool b) j pos) (tC (.bl b)):=fun _ _ _ H _ I h=>Constant_bool ⟨.bl b,H,I,rfl,h⟩
theorem zR3 {j pos}:PE X (.Constant .none j pos) (tC .non):=fun _ _ _ H _ I h=>Constant_none ⟨.non,H,I,rfl,h⟩
theorem zOB {x j pos}:PE X (.Constant (.str x) j pos) (tC (.str x)):=fun _ _ _ H _ I h=>Calls.Constant_str ⟨.str x,H,I.tok _,⟨_,rfl⟩,h⟩
noncomputable def Gl (X:Cx) (x:Str):Prop:=X.env.kindOf x=some .globalImplicit
theorem zIT {E:Value->Shared->Prop}{pins:List (Addr×Obj)}{s:Shared}{σ:St}{H:Hp}{x:Str}{u:Value}{pos:Pos}{Q:Value->Shared->Prop} (I:Inv X pins σ H s) (hg:Gl X x) (hm:X.mg x=some u) (h:Q u s)
  (hd:(x == ("__debug__" : Str))=false:=by decide):wpAny (model X.prog X.w) X.A (eval (.Name x pos) X.env) Q E s :=
 Calls.Name_function_global I.ok.kind hg (Calls.loadGlobal_global (by rw[I.ok.glob];exact I.mod.glob.keeps I.bk) hm h) hd
theorem zAs {E:Value->Shared->Prop}{pins:List (Addr×Obj)}{s:Shared}{σ:St}{H:Hp}{x:Str}{u:Value}{pos:Pos}{Q:Value->Shared->Prop} (I:Inv X pins σ H s) (hg:Gl X x) (hm:X.mg x=none) (hv:bootBuiltins x=some u) (h:Q u s)
  (hn:x ≠ "__name__" := by decide) (hd:(x == ("__debug__" : Str))=false:=by decide):wpAny (model X.prog X.w) X.A (eval (.Name x pos) X.env) Q E s:=by
 obtain⟨mb,h1,h2⟩:=I.mod.blt
 exact Calls.Name_function_global I.ok.kind hg (Calls.loadGlobal_builtin (by rw[I.ok.glob];exact I.mod.glob.keeps I.bk) hm (by rw[I.ok.blt];exact h1.keeps I.bk) ((h2 x hn).trans hv) h) hd
theorem zQC {x:Str}{v:V}{u:Value}{pos:Pos} (hg:Gl X x) (hm:X.mg x=some u) (r:zv v u) (hd:(x == ("__debug__" : Str))=false:=by decide):PE X (.Name x pos) (tC v) :=
 fun _ _ _ H _ I h=>zIT I hg hm ⟨v,H,I,r,h⟩ hd
theorem zQX {x:Str}{v:V}{u:Value}{pos:Pos} (hg:Gl X x) (hm:X.mg x=none) (hv:bootBuiltins x=some u) (r:zv v u) (hn:x ≠ "__name__" := by decide) (hd:(x == ("__debug__" : Str))=false:=by decide):PE X (.Name x pos) (tC v) :=
 fun _ _ _ H _ I h=>zAs I hg hm hv ⟨v,H,I,r,h⟩ hn hd
variable {a b:Expr}{ta tb:TE}{pos:Pos}
noncomputable def PC (X:Cx) (op:CmpOp) (a b:Expr) (t:TE):Prop :=
 ∀ (pins:List (Addr×Obj)) (s:Shared) (σ:St) (H:Hp) (Q:VK),Inv X pins σ H s->t σ H Q ->
  wpAny (model X.prog X.w) X.A (eval a X.env) (fun v s₁=>wpAny (model X.prog X.w) X.A (eval b X.env) (fun u s₂=>wpAny (model X.prog X.w) X.A (compareOp op v u) (EP X pins σ Q) X.xe s₂) X.xe s₁) X.xe s
theorem zPc (b:Expr) {op:CmpOp} (h:op≠.In) (h2:op≠.NotIn):behindInMarks op b=false:=by
 have e1:(op == CmpOp.In)=false:=by cases op<;>first | rfl | exact absurd rfl h
 have e2:(op == CmpOp.NotIn)=false:=by cases op<;>first | rfl | exact absurd rfl h2
 cases b<;>simp[behindInMarks,e1,e2]
noncomputable def zFR (ta:TE):TE:=fun σ H Q=>ta σ H fun x H1=>Q (.bl (decide (x=.non))) H1
noncomputable def zDB (ta:TE):TE:=fun σ H Q=>ta σ H fun x H1=>Q (.bl (!decide (x=.non))) H1
theorem zv.none_iff {x:V}{v:Value} (r:zv x v):(v == Value.none)=decide (x=.non):=by
 cases x with
 | non=>cases r;rfl
 | bl _=>cases r;rfl
 | int _=>obtain⟨t,rfl⟩:=r;rfl
 | str _=>obtain⟨t,rfl⟩:=r;rfl
 | byt _=>obtain⟨t,rfl⟩:=r;rfl
 | flt _=>obtain⟨t,rfl⟩:=r;rfl
 | ref _=>cases r;rfl
 | ty _=>cases r;rfl
theorem zSn {j pos'} (ha:PE X a ta):PC X .Is a (.Constant .none j pos') (zFR ta):=by
 intro pins s σ H Q I h
 refine thn (ha pins s σ H _ I h) fun v s1 ⟨x,H1,I1,r1,q1⟩=>?_
 exact Constant_none (is_none_gen ⟨.bl _,H1,I1,by rw[r1.none_iff];rfl,q1⟩)
theorem zQw {j pos'} (ha:PE X a ta):PC X .IsNot a (.Constant .none j pos') (zDB ta):=by
 intro pins s σ H Q I h
 refine thn (ha pins s σ H _ I h) fun v s1 ⟨x,H1,I1,r1,q1⟩=>?_
 exact Constant_none (isnot_none_gen ⟨.bl _,H1,I1,by rw[r1.none_iff];rfl,q1⟩)
noncomputable def tB (t:TE):TT:=fun σ H Q=>t σ H fun x H1=>∃ c,x=.bl c/\Q c H1
theorem zNA {op:CmpOp}{t:TE} (h:PC X op a b t) (h1:behindInMarks op b=false:=by first | exact zPc _ (by decide) (by decide) | rfl):PT X (.Compare a [op] [b] pos) (tB t):=by
 intro pins s σ H Q I hw
 refine wpAny_isTrue_Compare1 (thn (h pins s σ H _ I hw) fun v s1 h1=>thn h1 fun u s2 h2=>thn h2 fun c s3 ⟨x,H1,I1,r1,q1⟩=>?_) h1
 obtain⟨d,rfl,q⟩:=q1
 cases r1
 exact wpAny_truthy_bool ⟨H1,I1,q⟩
variable {tA tB':TT}{qu:List Expr}
noncomputable def zEx (t u:TT):TT:=fun σ H Q=>t σ H fun c H1=>if c=true then u σ H1 Q else Q false H1
noncomputable def tOr (t u:TT):TT:=fun σ H Q=>t σ H fun c H1=>if c=true then Q true H1 else u σ H1 Q
noncomputable def ZX (t:TT):TT:=fun σ H Q=>t σ H fun c H1=>Q (!c) H1
theorem zQc (ha:PT X a tA):PW X (.BoolOp .And [a] pos) tA:=by
 intro wh pins s σ H Q I h
 refine isTrue_and (thn (ha pins s σ H Q I h) fun c s1 e=>?_)
 cases c with
 | true=>exact isTrue_and_nil e
 | false=>exact e
theorem zSv (ha:PT X a tA):PW X (.BoolOp .Or [a] pos) tA:=by
 intro wh pins s σ H Q I h
 refine isTrue_or (thn (ha pins s σ H Q I h) fun c s1 e=>?_)
 cases c with
 | false=>exact isTrue_or_nil e
 | true=>exact e
theorem zSN (ha:PT X a tA) (hb:PW X (.BoolOp .And (b::qu) pos) tB'):PW X (.BoolOp .And (a::b::qu) pos) (zEx tA tB'):=by
 intro wh pins s σ H Q I h
 refine isTrue_and (thn (ha pins s σ H _ I h) fun c s1 ⟨H1,I1,q1⟩=>?_)
 cases c with
 | true=>exact hb wh pins s1 σ H1 Q I1 q1
 | false=>exact⟨H1,I1,q1⟩
theorem zTq (ha:PT X a tA) (hb:PW X (.BoolOp .Or (b::qu) pos) tB'):PW X (.BoolOp .Or (a::b::qu) pos) (tOr tA tB'):=by
 intro wh pins s σ H Q I h
 refine isTrue_or (thn (ha pins s σ H _ I h) fun c s1 ⟨H1,I1,q1⟩=>?_)
 cases c with
 | true=>exact⟨H1,I1,q1⟩
 | false=>exact hb wh pins s1 σ H1 Q I1 q1
theorem zSk (ha:PT X a tA):PT X (.UnaryOp .Not a pos) (ZX tA):=by
 intro pins s σ H Q I h
 exact isTrue_not (ha pins s σ H (fun c H1=>Q (!c) H1) I h)
noncomputable def zTG (ta tb:TE):TE:=fun σ H Q=>ta σ H fun x H1=>∃ c,x=.bl c/\if c=true then tb σ H1 Q else Q (.bl false) H1
theorem zSc {op}{t:TE} (h:PE X a t):PE X (.BoolOp op [a] pos) t:=fun pins s σ H Q I hw=>BoolOp_one (h pins s σ H Q I hw)
theorem zRU (ha:PE X a ta) (hb:PE X (.BoolOp .And (b::qu) pos) tb):PE X (.BoolOp .And (a::b::qu) pos) (zTG ta tb):=by
 intro pins s σ H Q I h
 refine BoolOp_and (thn (ha pins s σ H _ I h) fun v s1 ⟨x,H1,I1,r1,q1⟩=>?_)
 obtain⟨c,rfl,q1⟩:=q1
 cases r1
 refine wpAny_truthy_bool ?_
 cases c with
 | true=>exact hb pins s1 σ H1 Q I1 q1
 | false=>exact⟨.bl false,H1,I1,rfl,q1⟩
end
end L2
namespace L2
open PySem PySem.Spec PyProof.Rows
noncomputable def SqL (K:PySem.W.Frag) (H:Hp) (a:Addr) (xs:List V):Prop :=
 Rd H a (.lst xs) \/
  ∃ (o:Obj) (its:Array Value) (n:Nat),K.lookup a=some o/\o.cls=.type "list" /\ o.dict=none/\o.data=.seq its n/\its.size <= sizeLine/\ze xs its.toList
noncomputable def SqT (K:PySem.W.Frag) (H:Hp) (a:Addr) (xs:List V):Prop :=
 Rd H a (.tup xs) \/
  ∃ (o:Obj) (its:Array Value) (n:Nat),K.lookup a=some o/\o.cls=.type "tuple" /\ o.data=.seq its n/\its.size <= sizeLine/\ze xs its.toList
noncomputable def zT0:Value->Option V
 | .none=>some .non
 | .bool b=>some (.bl b)
 | .int i _=>some (.int i)
 | .str x _=>some (.str x)
 | .bytes b _=>some (.byt b)
 | .float b _=>some (.flt b)
 | .ref a=>some (.ref a)
 | .type n=>some (.ty n)
 | _=>none
theorem zv.abs {x:V}{u:Value} (r:zv x u):zT0 u=some x:=by
 cases x with
 | non=>cases r;rfl
 | bl _=>cases r;rfl
 | int _=>obtain⟨t,rfl⟩:=r;rfl
 | str _=>obtain⟨t,rfl⟩:=r;rfl
 | byt _=>obtain⟨t,rfl⟩:=r;rfl
 | flt _=>obtain⟨t,rfl⟩:=r;rfl
 | ref _=>cases r;rfl
 | ty _=>cases r;rfl
theorem zv.inj {x y:V}{u:Value} (r:zv x u) (q:zv y u):x=y:=Option.some.inj (r.abs.symm.trans q.abs)
theorem ze.inj:∀ {xs ys:List V}{us:List Value},ze xs us->ze ys us->xs=ys
 | _,_,_,.nil,.nil=>rfl
 | _,_,_,.cons r t,.cons r' t'=>by rw[r.inj r',ze.inj t t']
section
variable {X:Cx}{pins:List (Addr×Obj)}{σ:St}{H:Hp}{s:Shared}{a:Addr}{xs ys:List V}
theorem SqL.of {K:PySem.W.Frag} (h:H a=some (.lst xs)):SqL K H a xs:=.inl (.inl h)
theorem SqT.of {K:PySem.W.Frag} (h:H a=some (.tup xs)):SqT K H a xs:=.inl (.inl h)
theorem Inv.list (I:Inv X pins σ H s) (h:SqL X.K H a xs):∃ its:List Value,ze xs its/\PlainL s.heap a its.toArray/\xs.length <= sizeLine:=by
 rcases h with h | ⟨o,its,n,hk,hc,hd,hs,hz,r⟩
 ·obtain⟨z,its,n,r,e⟩:=h.ok I.hok
  exact⟨its,r,⟨_,n,e,rfl,rfl,rfl⟩,z⟩
 ·refine⟨its.toList,r,⟨o,n,I.kIn a o hk,hc,hd,by simpa using hs⟩,?_⟩
  have e:=r.length
  simp only[Array.length_toList] at e
  omega
theorem Inv.tuple (I:Inv X pins σ H s) (h:SqT X.K H a xs):∃ its:List Value,ze xs its/\IsTup s.heap a its.toArray/\xs.length <= sizeLine:=by
 rcases h with h | ⟨o,its,n,hk,hc,hs,hz,r⟩
 ·obtain⟨z,its,r,p⟩:=h.ok I.hok
  exact⟨its,r,p,z⟩
 ·refine⟨its.toList,r,⟨o,I.kIn a o hk,hc,n,by simpa using hs⟩,?_⟩
  have e:=r.length
  simp only[Array.length_toList] at e
  omega
theorem Inv.list_inj (I:Inv X pins σ H s) (h:SqL X.K H a xs) (h':SqL X.K H a ys):xs=ys:=by
 obtain⟨its,r,⟨o,n,e,_,_,d⟩,_⟩:=I.list h
 obtain⟨its',r',⟨o',n',e',_,_,d'⟩,_⟩:=I.list h'
 rw[e] at e';cases e'
 rw[d] at d'
 injection d' with d1 _
 have:its=its':=by simpa using congrArg Array.toList d1
 subst this
 exact r.inj r'
theorem Inv.tuple_inj (I:Inv X pins σ H s) (h:SqT X.K H a xs) (h':SqT X.K H a ys):xs=ys:=by
 obtain⟨its,r,⟨o,e,_,n,d⟩,_⟩:=I.tuple h
 obtain⟨its',r',⟨o',e',_,n',d'⟩,_⟩:=I.tuple h'
 rw[e] at e';cases e'
 rw[d] at d'
 injection d' with d1 _
 have:its=its':=by simpa using congrArg Array.toList d1
 subst this
 exact r.inj r'
end
noncomputable abbrev Cx.wish (X:Cx) (E:Value->Shared->Prop):Cx:={ X with xe:=E }
noncomputable abbrev Cx.nox (X:Cx):Cx:=X.wish fun _ _=>False
theorem Cx.Ok.wish {X:Cx} (ok:X.Ok) (E:Value->Shared->Prop):(X.wish E).Ok :=
 ⟨ok.mod,ok.kind,ok.glob,ok.blt,ok.above,ok.inj,ok.has,ok.cab,ok.hd,ok.frames,ok.stk,ok.exf,ok.bs,ok.bsz,ok.noex,ok.exfs,ok.funs,ok.frf⟩
theorem Cx.Ok.unwish {X:Cx}{E:Value->Shared->Prop} (ok:(X.wish E).Ok):X.Ok :=
 ⟨ok.mod,ok.kind,ok.glob,ok.blt,ok.above,ok.inj,ok.has,ok.cab,ok.hd,ok.frames,ok.stk,ok.exf,ok.bs,ok.bsz,ok.noex,ok.exfs,ok.funs,ok.frf⟩
section
variable {X:Cx}{pins:List (Addr×Obj)}{σ:St}{H:Hp}{s:Shared}{E:Value->Shared->Prop}
theorem Inv.wish (I:Inv X pins σ H s) (E:Value->Shared->Prop):Inv (X.wish E) pins σ H s:=⟨I.ok.wish E,I.os,I.bare,I.base,I.loc,I.cell,I.free,I.freeC,I.pin,I.hok,I.len,I.tk⟩
theorem Inv.unwish (I:Inv (X.wish E) pins σ H s):Inv X pins σ H s:=⟨I.ok.unwish,I.os,I.bare,I.base,I.loc,I.cell,I.free,I.freeC,I.pin,I.hok,I.len,I.tk⟩
theorem SP.unwish {D:zEH}{f:Flow}{s':Shared} (h:SP (X.wish E) pins D f s'):SP X pins D f s':=by
 cases f with
 | next=>obtain⟨σ',H',I,q⟩:=h;exact⟨σ',H',I.unwish,q⟩
 | brk=>obtain⟨σ',H',I,q⟩:=h;exact⟨σ',H',I.unwish,q⟩
 | cont=>obtain⟨σ',H',I,q⟩:=h;exact⟨σ',H',I.unwish,q⟩
 | ret u=>obtain⟨v,σ',H',I,r,q⟩:=h;exact⟨v,σ',H',I.unwish,r,q⟩
theorem PSs.nox {st:List Stmt}{t:TS} (h:PSs X.nox st t):PSs X st t:=fun pins s σ H D I hw =>
 wpAny_mono (h pins s σ H D (I.wish _) hw) (fun _ _ q=>q.unwish) fun _ _ z=>False.elim z
end
section
variable {X:Cx}{st:Stmt}{qu:List Stmt}{t u:TS}{e:Expr}{te:TE}{pos:Pos}
noncomputable def zTv:TS:=fun D σ H=>D.nx σ H
noncomputable def zUH (t u:TS):TS:=fun D σ H=>t { D with nx:=u D } σ H
theorem zP5:PSs X [] zTv:=fun _ _ σ H _ I h=>wpAny_execs_nil ⟨σ,H,I,h⟩
theorem zOs (h1:PS X st t) (h2:PSs X qu u):PSs X (st::qu) (zUH t u):=by
 intro pins s σ H D I h
 refine wpAny_execs_cons (thn (h1 pins s σ H { D with nx:=u D } I h) fun f s1 q=>?_)
 cases f with
 | next =>
  obtain⟨σ',H',I',q⟩:=q
  exact h2 pins s1 σ' H' D I' q
 | ret v=>exact q
 | brk=>exact q
 | cont=>exact q
theorem zQK (h1:PS X st t):PSs X [st] t:=by
 intro pins s σ H D I h
 refine wpAny_execs_cons (thn (h1 pins s σ H D I h) fun f s1 q=>?_)
 cases f with
 | next=>exact wpAny_execs_nil q
 | ret v=>exact q
 | brk=>exact q
 | cont=>exact q
theorem Inv.quiet {pins:List (Addr×Obj)}{σ:St}{H:Hp}{s:Shared} (I:Inv X pins σ H s):interactive X.env=false:=by simp[interactive,I.ok.kind]
noncomputable def zTF (te:TE):TS:=fun D σ H=>te σ H fun _ H1=>D.nx σ H1
theorem zQS (he:PE X e te) (hs:swapsWith e none pos.line X.env=pure false:=by rfl):PS X (.Expr e pos) (zTF te):=by
 intro pins s σ H D I h
 exact wpAny_Expr_any (thn (he pins s σ H _ I h) fun v s1 ⟨x,H1,I1,r1,q1⟩=>⟨σ,H1,I1,q1⟩) I.quiet hs
noncomputable def zT4 (te:TE):TS:=fun D σ H=>te σ H D.rt
theorem zSV (he:PE X e te):PS X (.Return (some e) pos) (zT4 te):=by
 intro pins s σ H D I h
 exact wpAny_Return_some (thn (he pins s σ H _ I h) fun v s1 ⟨x,H1,I1,r1,q1⟩=>⟨x,σ,H1,I1,r1,q1⟩)
noncomputable def zT6 (c:TT) (t u:TS):TS:=fun D σ H=>c σ H fun b H1=>if b=true then t D σ H1 else u D σ H1
theorem zTH {c:Expr}{a b:List Stmt}{tc:TT} (hc:PT X c tc) (ha:PSs X a t) (hb:PSs X b u):PS X (.If c a b pos) (zT6 tc t u):=by
 intro pins s σ H D I h
 refine wpAny_If (thn (hc pins s σ H _ I h) fun d s1 ⟨H1,I1,q1⟩=>?_)
 cases d with
 | true=>exact ha pins s1 σ H1 D I1 q1
 | false=>exact hb pins s1 σ H1 D I1 q1
noncomputable def zSq:TS:=fun _ _ _=>False
theorem zO3:PS X st zSq:=fun _ _ _ _ _ _ h=>h.elim
end
noncomputable abbrev TG:=V->St->Hp->(St->Hp->Prop)->Prop
noncomputable def PG (X:Cx) (target:Expr) (t:TG):Prop :=
 ∀ (pins:List (Addr×Obj)) (s:Shared) (σ:St) (H:Hp) (v:V) (u:Value) (Q:St->Hp->Prop),Inv X pins σ H s->zv v u->t v σ H Q ->
  wpAny (model X.prog X.w) X.A (assign target X.env u) (fun _ s'=>∃ σ' H',Inv X pins σ' H' s'/\Q σ' H') X.xe s
noncomputable abbrev zPO:=V->V->V->Hp->(Hp->Prop)->Prop
noncomputable def zRg (X:Cx) (t:zPO):Prop :=
 ∀ (pins:List (Addr×Obj)) (s:Shared) (σ:St) (H:Hp) (o i v:V) (ov iv u:Value) (Q:Hp->Prop),Inv X pins σ H s->zv o ov->zv i iv->zv v u->t o i v H Q ->
  wpAny (model X.prog X.w) X.A (setItem ov iv u) (fun _ s'=>∃ H',Inv X pins σ H' s'/\Q H') X.xe s
noncomputable abbrev TIp:=V->V->Hp->VK->Prop
noncomputable def PIp (X:Cx) (op:Operator) (t:TIp):Prop :=
 ∀ (pins:List (Addr×Obj)) (s:Shared) (σ:St) (H:Hp) (x y:V) (v u:Value) (Q:VK),Inv X pins σ H s->zv x v->zv y u->t x y H Q ->
  wpAny (model X.prog X.w) X.A (inplaceOp op v u) (EP X pins σ Q) X.xe s
section
variable {X:Cx}{pos:Pos}
noncomputable def jl (i:Nat):TG:=fun v σ H Q=>Q (σ.set i (some v)) H
theorem zQ5 {i:Nat}{x:Str} (hN:X.N.Nodup) (hi:X.N[i]? = some x) (hx:Loc X.env.scope x) (hf:X.fn x=true\/X.env.scope.names.lookup x=some .local:=by first | exact .inl rfl | exact .inr rfl | assumption):PG X (.Name x pos) (jl i):=by
 intro pins s σ H v u Q I r h
 exact wpAny_assign_Name (zKX I hN hi hx r (fun s' I'=>⟨_,H,I',h⟩) hf)
noncomputable def zUM (to ti:TE) (t:zPO):TG:=fun v σ H Q=>to σ H fun o H1=>ti σ H1 fun i H2=>t o i v H2 fun H3=>Q σ H3
theorem zRl {o i:Expr}{to ti:TE}{t:zPO} (ho:PE X o to) (hi:PE X i ti) (hs:zRg X t)
  (ha:∀ v,assign (.Subscript o i pos) X.env v=(do
   let ov <- holding [v] (eval o X.env)
   let iv <- holding [v,ov] (eval i X.env)
   standAt pos
   holding [v,ov,iv] (setItem ov iv v)
   release [v,ov,iv] []):=by intro _;rfl):PG X (.Subscript o i pos) (zUM to ti t):=by
 intro pins s σ H v u Q I r h
 rw[ha]
 refine wpAny_bind (wpAny_holding (thn (ho pins s σ H _ I h) fun ov s1 ⟨x,H1,I1,r1,q1⟩=>?_))
 refine wpAny_bind (wpAny_holding (thn (hi pins s1 σ H1 _ I1 q1) fun iv s2 ⟨y,H2,I2,r2,q2⟩=>?_))
 refine wpAny_bind (wpAny_standAt (wpAny_bind (wpAny_holding (thn (hs pins s2 σ H2 x y v ov iv u _ I2 r1 r2 r q2) fun _ s3 ⟨H3,I3,q3⟩=>?_))))
 exact wpAny_release ⟨σ,H3,I3,q3⟩
noncomputable def zS3 (te:TE) (g:TG):TS:=fun D σ H=>te σ H fun x H1=>g x σ H1 D.nx
theorem zSg {tg e:Expr}{te:TE}{g:TG} (he:PE X e te) (hg:PG X tg g) (hs:swapsWithSole [tg] e pos.line X.env=pure false:=by rfl) (hw:swappedStores [tg] e X.env=pure none:=by rfl)
  (h1:(assignEach [tg] X.env).map (·.2)=[assign tg X.env]:=by rfl):PS X (.Assign [tg] e pos) (zS3 te g):=by
 intro pins s σ H D I h
 refine wpAny_Assign_stores (thn (he pins s σ H _ I h) fun v s1 ⟨x,H1,I1,r1,q1⟩=>?_) hs hw
 rw[h1]
 exact thn (hg pins s1 σ H1 x v _ I1 r1 q1) fun _ s2 q=>q
theorem zTA {i:Nat}{x:Str}{e:Expr}{te:TE}{pos':Pos} (hN:X.N.Nodup) (hi:X.N[i]? = some x) (hx:Loc X.env.scope x) (he:PE X e te) (hs:swapsWith e (some (.Name x pos')) pos.line X.env=pure false:=by rfl) (hf:X.fn x=true\/X.env.scope.names.lookup x=some .local:=by first | exact .inl rfl | exact .inr rfl | assumption) :
  PS X (.Assign [.Name x pos'] e pos) (zS3 te (jl i)):=by
 intro pins s σ H D I h
 refine wpAny_Assign_Name (thn (he pins s σ H _ I h) fun v s1 ⟨y,H1,I1,r1,q1⟩=>?_) hs
 exact zKX I1 hN hi hx r1 (fun s2 I2=>⟨_,H1,I2,q1⟩) hf
noncomputable def ipI (f:Int->Int->Int):TIp:=fun x y H Q=>∃ i j,x=.int i/\y=.int j/\Q (.int (f i j)) H
theorem zSQ:PIp X .Add (ipI fun i j=>i+j):=by
 intro pins s σ H x y v u Q I r1 r2 h
 obtain⟨i,j,e1,e2,q⟩:=h
 subst e1;subst e2
 obtain⟨t,rfl⟩:=r1
 obtain⟨t',rfl⟩:=r2
 exact iadd_int ⟨.int _,H,I.tok _,⟨_,rfl⟩,q⟩
end
section
variable {X:Cx}{pos:Pos}
noncomputable def zSH (c:TT) (tb:TS):TS:=fun D σ H=>∃ W:Nat->St->Hp->Prop,(∃ m,W m σ H)/\∀ m σ H,W m σ H ->
 c σ H fun b H1=>if b=true then ∃ N:St->Hp->Prop,(∀ σ' H',N σ' H'->∃ m',m' < m/\W m' σ' H')/\tb { D with nx:=N,ct:=N,bk:=D.nx } σ H1 else D.nx σ H1
theorem zOw {c:Expr}{body:List Stmt}{tc:TT}{tb:TS} (hp:PassesOwn (model X.prog X.w) X.A X.env X.xe) (hc:PT X c tc) (hb:PSs X body tb):PS X (.While c body [] pos) (zSH tc tb):=by
 intro pins s σ H D I h
 obtain⟨W,⟨m0,w0⟩,turn⟩:=h
 refine wpAny_While (codeAny_whileLoop (fun n s'=>∃ σ' H',Inv X pins σ' H' s'/\W n σ' H') ?_ m0 ⟨σ,H,I,w0⟩)
 rintro n s1 ⟨σ1,H1,I1,w1⟩
 refine wpAny_passesOwn hp (thn (hc pins s1 σ1 H1 _ I1 (turn n σ1 H1 w1)) fun b s2 ⟨H2,I2,q2⟩=>?_)
 cases b with
 | true =>
  obtain⟨N,hN,q2⟩:=q2
  rw[if_pos rfl]
  refine wpAny_passesOwn hp (thn (hb pins s2 σ1 H2 _ I2 q2) fun f s3 q3=>?_)
  cases f with
  | next =>
   obtain⟨σ3,H3,I3,n3⟩:=q3
   obtain⟨m',hm,w3⟩:=hN σ3 H3 n3
   exact⟨m',hm,σ3,H3,I3,w3⟩
  | cont =>
   obtain⟨σ3,H3,I3,n3⟩:=q3
   obtain⟨m',hm,w3⟩:=hN σ3 H3 n3
   exact⟨m',hm,σ3,H3,I3,w3⟩
  | brk=>exact q3
  | ret v=>exact q3
 | false =>
  rw[if_neg Bool.false_ne_true]
  exact wpAny_execs_nil ⟨σ1,H2,I2,q2⟩
end
structure It where
 go:Nat->Hp->Prop
 yld:Nat->Hp->V->Hp->Prop
 stop:Nat->Hp->Prop
noncomputable def zDw (X:Cx) (pins:List (Addr×Obj)) (H:Hp) (b:Addr):Prop :=
 H b=none/\b≠X.env.locals/\b∉X.fs/\(b∈X.ex\/X.s₀.heap.objs.size <= b)/\(∀ x c,X.env.cells.lookup x=some c->c≠b)/\∀ p∈X.pn++pins,p.1≠b
theorem Inv.fpOk {X:Cx}{pins:List (Addr×Obj)}{σ:St}{H H':Hp}{s:Shared}{b:Addr} (I:Inv X pins σ H s) (hb:s.heap.objs.size <= b) (hn:H' b=none):zDw X pins H' b:=by
 refine⟨hn,Nat.ne_of_gt (Nat.lt_of_lt_of_le I.lt hb),I.nofs hb,.inr (Nat.le_trans I.sz hb),fun x c e z=>?_,fun p hp z=>?_⟩
 ·obtain⟨v,q⟩:=I.cell x c e
  exact absurd (Nat.lt_of_lt_of_le q.lt (by rw[z];exact hb)) (Nat.lt_irrefl _)
 ·exact absurd (Nat.lt_of_lt_of_le (Heap.lt_size (I.pin p hp).1) (by rw[z];exact hb)) (Nat.lt_irrefl _)
structure zE3 (P:Program) (w:World) (K:PySem.W.Frag) (tg:Expr) (J:It) (fp:List Addr) (it:Addr) (tn:Nat->Heap->Prop):Prop where
 mem:it∈fp
 obj:∀ i h,tn i h->∀ b∈fp,∃ o,h.get? b=some o/\∀ v,o.data≠.cell v
 keep:∀ i h h',tn i h->(∀ b∈fp,∀ o,h.get? b=some o->h'.get? b=some o)->tn i h'
 item:∀ (X:Cx),X.prog=P->X.w=w->X.K=K->X.calm=true->∀ (i:Nat) (pins:List (Addr×Obj)) (s:Shared) (σ:St) (H:Hp) (E:Value->Shared->Prop),Inv X pins σ H s->(∀ b∈fp,zDw X pins H b)->tn i s.heap->J.go i H ->
  wpAny (model P w) X.A (pyNext (.ref it)) (fun r s1=>∃ u,r=some u /\
   wpAny (model P w) X.A (letOwnedTupleGo tg (.ref it) u) (fun _ s2=>∃ x H',Inv X pins σ H' s2/\zv x u/\J.yld i H x H'/\tn (i+1) s2.heap/\∀ b∈fp,H' b=none) E s1) E s
 done:∀ (X:Cx),X.prog=P->X.w=w->X.K=K->X.calm=true->∀ (i:Nat) (pins:List (Addr×Obj)) (s:Shared) (σ:St) (H:Hp) (E:Value->Shared->Prop),Inv X pins σ H s->(∀ b∈fp,zDw X pins H b)->tn i s.heap->J.stop i H ->
  wpAny (model P w) X.A (pyNext (.ref it)) (fun r s1=>r=none/\Inv X pins σ H s1) E s
 self:∀ (A:Around) (i:Nat) (s:Shared) (Q:Value->Shared->Prop) (E:Value->Shared->Prop),tn i s.heap->Q (.ref it) s->wpAny (model P w) A (pyIter (.ref it)) Q E s
noncomputable abbrev TI:=St->Hp->(It->Hp->Prop)->Prop
noncomputable def PIE (X:Cx) (pins:List (Addr×Obj)) (σ:St) (tg:Expr) (R:It->Hp->Prop) (itv:Value) (s2:Shared):Prop :=
 ∃ (it:Addr) (fp:List Addr) (tn:Nat->Heap->Prop) (J:It) (H':Hp),itv=.ref it/\Inv X pins σ H' s2/\zE3 X.prog X.w X.K tg J fp it tn/\tn 0 s2.heap/\(∀ b∈fp,zDw X pins H' b)/\R J H'
noncomputable def PI (X:Cx) (tg iter:Expr) (wi:TI):Prop :=
 ∀ (pins:List (Addr×Obj)) (s:Shared) (σ:St) (H:Hp) (R:It->Hp->Prop),Inv X pins σ H s->wi σ H R ->
  wpAny (model X.prog X.w) X.A (eval iter X.env) (fun v s1=>wpAny (model X.prog X.w) X.A (pyIter v) (PIE X pins σ tg R) X.xe s1) X.xe s
theorem zFl {M:Model}{A:Around}{E:Value->Shared->Prop}{s:Shared}{tg:Expr}{it:Addr}{u:Value}{o:Obj}{n:String}{vs:Array Value}{Q:Unit->Shared->Prop} (ho:s.heap.get? it=some o) (hc:o.cls=.type n) (hd:o.data=.fields vs)
  (hn:["enumerate","zip","dict_itemiterator","dict_reverseitemiterator","odict_iterator","itertools.zip_longest","itertools.pairwise"].contains n=false) (hQ:Q () s):wpAny M A (letOwnedTupleGo tg (.ref it) u) Q E s:=by
 unfold letOwnedTupleGo
 cases tg<;>first
  | exact wpAny_pure hQ
  | (cases u<;>first
      | exact wpAny_pure hQ
      | (refine wpAny_bind (wpAny_load ho ?_)
         rw[hc,hd]
         show wpAny M A (if (["enumerate","zip","dict_itemiterator","dict_reverseitemiterator","odict_iterator","itertools.zip_longest","itertools.pairwise"].contains n && vs[0]? == some (rawInt _))=true then _ else _) Q E s
         rw[if_neg (by intro h;rw[hn,Bool.false_and] at h;cases h)]
         exact wpAny_pure hQ))
noncomputable def Itl (K:PySem.W.Frag) (a:Addr):It :=
 ⟨fun i H=>∃ xs x,SqL K H a xs/\xs[i]? = some x,fun i H x H'=>H'=H/\∀ xs,SqL K H a xs->xs[i]? = some x,fun i H=>∃ xs,SqL K H a xs/\xs.length <= i⟩
noncomputable def Itt (K:PySem.W.Frag) (a:Addr):It :=
 ⟨fun i H=>∃ xs x,SqT K H a xs/\xs[i]? = some x,fun i H x H'=>H'=H/\∀ xs,SqT K H a xs->xs[i]? = some x,fun i H=>∃ xs,SqT K H a xs/\xs.length <= i⟩
noncomputable def Itr (lo:Int) (n:Nat):It:=⟨fun i _=>i < n,fun i H x H'=>H'=H/\x=.int (lo+i),fun i _=>n <= i⟩
theorem zNJ {P:Program}{w:World}{K:PySem.W.Frag}{tg:Expr} (a it:Addr):zE3 P w K tg (Itl K a) [it] it (fun i h=>h.IsListIter it a i) where
 mem:=by simp
 obj:=fun i h st b hb=>by
  have e:b=it:=by simpa using hb
  subst e
  obtain⟨o,e,c,d⟩:=st
  exact⟨o,e,fun v z=>by rw[d] at z;cases z⟩
 keep:=fun i h h' st k=>st.at fun o e=>k it (by simp) o e
 item:=by
  intro X hP hw hK hc i pins s σ H E I hf st hg
  subst hP hw hK
  obtain⟨xs,x,hq,hx⟩:=hg
  obtain⟨its,rv,p,hz⟩:=I.list hq
  obtain⟨u,hu,ru⟩:=rv.get hx
  obtain⟨f0,f1,f2,f3,f4,f5⟩:=hf it (by simp)
  refine wpAny_pyNext_list_item st p.isList (x:=u) (by simpa using hu) fun h' st' sb=>?_
  have I1:Inv X pins σ H { s with heap:=h' }:=I.turned (t':=s.toks) (fun b o hb e=>(sb.2 b hb).trans e) f0 f1 f3 f4 f5
  obtain⟨o,e,c,d⟩:=id st'
  exact⟨u,rfl,zFl (s:={ s with heap:=h' }) e c d (by decide) ⟨x,H,I1,ru,⟨rfl,fun ys hy=>by rw[I.list_inj hy hq];exact hx⟩,st',fun b hb=>(hf b hb).1⟩⟩
 done:=by
  intro X hP hw hK hc i pins s σ H E I hf st hg
  subst hP hw hK
  obtain⟨xs,hq,hx⟩:=hg
  obtain⟨its,rv,p,hz⟩:=I.list hq
  obtain⟨f0,f1,f2,f3,f4,f5⟩:=hf it (by simp)
  have hl:=rv.length
  exact wpAny_pyNext_list_end (I.ok.hd hc) st p.isList (by simp;omega) fun h' eb=>⟨rfl,I.turned (t':=s.toks) (fun b o hb e=>eb b o hb e) f0 f1 f3 f4 f5⟩
 self:=fun _ _ _ _ _ st h=>wpAny_pyIter_listiter st h
theorem zMJ {P:Program}{w:World}{K:PySem.W.Frag}{tg:Expr} (a it:Addr):zE3 P w K tg (Itt K a) [it] it (fun i h=>h.IsTupleIter it a i) where
 mem:=by simp
 obj:=fun i h st b hb=>by
  have e:b=it:=by simpa using hb
  subst e
  obtain⟨o,e,c,d⟩:=st
  exact⟨o,e,fun v z=>by rw[d] at z;cases z⟩
 keep:=fun i h h' st k=>st.at fun o e=>k it (by simp) o e
 item:=by
  intro X hP hw hK hc i pins s σ H E I hf st hg
  subst hP hw hK
  obtain⟨xs,x,hq,hx⟩:=hg
  obtain⟨its,rv,p,hz⟩:=I.tuple hq
  obtain⟨u,hu,ru⟩:=rv.get hx
  obtain⟨f0,f1,f2,f3,f4,f5⟩:=hf it (by simp)
  refine wpAny_pyNext_tuple_item st (show s.heap.IsTuple a its.toArray from p) (x:=u) (by simpa using hu) fun h' st' sb=>?_
  have I1:Inv X pins σ H { s with heap:=h' }:=I.turned (t':=s.toks) (fun b o hb e=>(sb.2 b hb).trans e) f0 f1 f3 f4 f5
  obtain⟨o,e,c,d⟩:=id st'
  exact⟨u,rfl,zFl (s:={ s with heap:=h' }) e c d (by decide) ⟨x,H,I1,ru,⟨rfl,fun ys hy=>by rw[I.tuple_inj hy hq];exact hx⟩,st',fun b hb=>(hf b hb).1⟩⟩
 done:=by
  intro X hP hw hK hc i pins s σ H E I hf st hg
  subst hP hw hK
  obtain⟨xs,hq,hx⟩:=hg
  obtain⟨its,rv,p,hz⟩:=I.tuple hq
  obtain⟨f0,f1,f2,f3,f4,f5⟩:=hf it (by simp)
  have hl:=rv.length
  exact wpAny_pyNext_tuple_end (I.ok.hd hc) st (show s.heap.IsTuple a its.toArray from p) (by simp;omega) fun h' eb=>⟨rfl,I.turned (t':=s.toks) (fun b o hb e=>eb b o hb e) f0 f1 f3 f4 f5⟩
 self:=fun _ _ _ _ _ st h=>wpAny_pyIter_tupleiter st h
theorem zL7 {P:Program}{w:World}{K:PySem.W.Frag}{tg:Expr} (it:Addr) (lo:Int) (n:Nat):zE3 P w K tg (Itr lo n) [it] it (fun i h=>IsRangeIter h it (lo+(i:Nat) * 1) ((n:Int) - (i:Nat)) 1) where
 mem:=by simp
 obj:=fun i h st b hb=>by
  have e:b=it:=by simpa using hb
  subst e
  exact⟨_,st,fun v z=>by
   have z':Data.fields _=Data.cell v:=z
   cases z'⟩
 keep:=fun i h h' st k=>k it (by simp) _ st
 item:=by
  intro X hP hw hK hc i pins s σ H E I hf st hg
  subst hP hw hK
  obtain⟨f0,f1,f2,f3,f4,f5⟩:=hf it (by simp)
  have W:=Walks.range (prog:=X.prog) (w:=X.w) (I.ok.hd hc) it lo 1 n
  refine wpAny_with_toks (n:=1) I.tk (W.item i s _ _ hg st fun v h' tk hv st' kk htk=>?_)
  obtain⟨t,rfl⟩:=hv
  have I1:Inv X pins σ H { s with heap:=h',toks:=tk }:=I.turned (fun b o hb e=>kk b o (by simpa using hb) e) f0 f1 f3 f4 f5
  refine⟨_,rfl,zFl (s:={ s with heap:=h',toks:=tk }) (n := "range_iterator") st' rfl rfl (by decide) ⟨.int (lo+i),H,I1,⟨t,?_⟩,⟨rfl,rfl⟩,st',fun b hb=>(hf b hb).1⟩⟩
  rw[Int.mul_one]
 done:=by
  intro X hP hw hK hc i pins s σ H E I hf st hg
  subst hP hw hK
  obtain⟨f0,f1,f2,f3,f4,f5⟩:=hf it (by simp)
  exact wpAny_pyNext_range_end (I.ok.hd hc) st (by have:n <= i:=hg;omega) fun h' eb=>⟨rfl,I.turned (t':=s.toks) (fun b o hb e=>eb b o hb e) f0 f1 f3 f4 f5⟩
 self:=fun _ _ _ _ _ st h=>wpAny_pyIter_rangeiter st h
end L2
namespace L2
open PySem PySem.Spec PyProof.Rows
section
variable {X:Cx}{tg:Expr}
noncomputable def zTw (K:PySem.W.Frag) (tl:TE):TI:=fun σ H R=>tl σ H fun x H1=>∃ a,x=.ref a/\(∃ xs,SqL K H1 a xs)/\R (Itl K a) H1
noncomputable def zT2 (K:PySem.W.Frag) (tl:TE):TI:=fun σ H R=>tl σ H fun x H1=>∃ a,x=.ref a/\(∃ xs,SqT K H1 a xs)/\R (Itt K a) H1
theorem zP2 {l:Expr}{tl:TE} (hl:PE X l tl):PI X tg l (zTw X.K tl):=by
 intro pins s σ H R I h
 refine thn (hl pins s σ H _ I h) fun v s1 ⟨x,H1,I1,r1,q1⟩=>?_
 obtain⟨a,e,⟨xs,hq⟩,q⟩:=q1
 subst e
 cases r1
 obtain⟨its,rv,p,hz⟩:=I1.list hq
 refine wpAny_pyIter_list p.isList ?_
 refine⟨s1.heap.objs.size,[s1.heap.objs.size],_,_,H1,rfl,I1.kept (t':=s1.toks) fun b o e=>Heap.get?_push_of_some _ e,zNJ a _,⟨_,Heap.get?_push_size _ rfl,rfl,rfl⟩,fun b hb=>?_,q⟩
 have e:b=s1.heap.objs.size:=by simpa using hb
 subst e
 exact I1.fpOk (Nat.le_refl _) (I1.hok.fresh (Nat.le_refl _))
theorem zRm {l:Expr}{tl:TE} (hl:PE X l tl):PI X tg l (zT2 X.K tl):=by
 intro pins s σ H R I h
 refine thn (hl pins s σ H _ I h) fun v s1 ⟨x,H1,I1,r1,q1⟩=>?_
 obtain⟨a,e,⟨xs,hq⟩,q⟩:=q1
 subst e
 cases r1
 obtain⟨its,rv,p,hz⟩:=I1.tuple hq
 refine wpAny_pyIter_tuple (show s1.heap.IsTuple a its.toArray from p) ?_
 refine⟨s1.heap.objs.size,[s1.heap.objs.size],_,_,H1,rfl,I1.kept (t':=s1.toks) fun b o e=>Heap.get?_push_of_some _ e,zMJ a _,⟨_,Heap.get?_push_size _ rfl,rfl,rfl⟩,fun b hb=>?_,q⟩
 have e:b=s1.heap.objs.size:=by simpa using hb
 subst e
 exact I1.fpOk (Nat.le_refl _) (I1.hok.fresh (Nat.le_refl _))
theorem zOc {pins:List (Addr×Obj)}{σ:St}{H:Hp}{s:Shared}{R:It->Hp->Prop}{E:Value->Shared->Prop}{lo hi:Int}{t u v:Tok}{tk:Nat} (I:Inv X pins σ H s) (h1:-(2 ^ 62) <= lo) (h2:lo < 2 ^ 62) (h3:-(2 ^ 62) <= hi) (h4:hi < 2 ^ 62)
  (q:R (Itr lo (hi - lo).toNat) H) (htk:0 < tk:=by first | exact Nat.succ_pos _ | assumption | exact Inv.tk (by assumption) | omega):wpAny (model X.prog X.w) X.A (pyIter (.ref s.heap.objs.size)) (PIE X pins σ tg R) E { s with heap:=s.heap.push { cls:=.type "range",data:=.fields #[.int lo t,.int hi u,.int 1 v] },toks:=tk }:=by
 refine wpAny_pyIter_range (IsRange.new ..) (small_one h1 h2 h3 h4) ?_
 have I1:Inv X pins σ H { s with heap:=s.heap.push { cls:=.type "range",data:=.fields #[.int lo t,.int hi u,.int 1 v] },toks:=tk }:=I.kept fun b o e=>Heap.get?_push_of_some _ e
 refine⟨(s.heap.push { cls:=.type "range",data:=.fields #[.int lo t,.int hi u,.int 1 v] }).objs.size,[(s.heap.push { cls:=.type "range",data:=.fields #[.int lo t,.int hi u,.int 1 v] }).objs.size],_,_,H,rfl,
  I1.kept (t':=tk) fun b o e=>Heap.get?_push_of_some _ e,zL7 _ lo (hi - lo).toNat,?_,fun b hb=>?_,q⟩
 ·have e1:lo+((0:Nat):Int) * 1=lo:=by simp
  have e2:(((hi - lo).toNat:Nat):Int) - ((0:Nat):Int)=Builtin.Range.rangeSize lo hi 1:=by rw[rangeSize_one];split<;>omega
  show IsRangeIter _ _ (lo+((0:Nat):Int) * 1) ((((hi - lo).toNat:Nat):Int) - ((0:Nat):Int)) 1
  rw[e1,e2]
  exact Heap.get?_push_size _ rfl
 ·have e:b=(s.heap.push { cls:=.type "range",data:=.fields #[.int lo t,.int hi u,.int 1 v] }).objs.size:=by simpa using hb
  subst e
  exact I1.fpOk (Nat.le_refl _) (I1.hok.fresh (Nat.le_refl _))
noncomputable def zTW (ta:TA):TI:=fun σ H R=>ta σ H fun vs H1=>∃ j:Int,vs=[.int j] /\ -(2 ^ 62) <= j/\j < 2 ^ 62/\R (Itr 0 j.toNat) H1
theorem zM6 {a:Expr}{ta:TA}{p pos:Pos} (hg:Gl X "range") (hm:X.mg "range" = none) (ha:PA X [a] ta) (hs:starEach [a] X.env=[(false,eval a X.env)]:=by rfl):PI X tg (.Call (.Name "range" p) [a] [] pos) (zTW ta):=by
 intro pins s σ H R I h
 refine Call_ (zAs I hg hm boot_range (PyProof.Rows.callWith_type1 (thn (ha pos pins s σ H _ I h) fun us s1 ⟨vs,H1,I1,r1,q1⟩=>?_) hs rfl))
 obtain⟨j,e,q1,q2,q⟩:=q1
 subst e
 cases r1 with
 | cons r rr =>
  cases rr
  obtain⟨t,rfl⟩:=r
  exact call_range_1 (zOc I1 (by omega) (by omega) q1 q2 (by simpa using q))
noncomputable def zUN (wi:TI) (g:TG) (tb:TS):TS:=fun D σ H=>wi σ H fun J H1=>∃ W:Nat->Nat->St->Hp->Prop,(∃ m,W 0 m σ H1)/\∀ i m σ H,W i m σ H ->
 (J.stop i H/\D.nx σ H)\/(J.go i H/\∃ N:St->Hp->Prop,(∀ σ' H',N σ' H'->∃ m',m' < m/\W (i+1) m' σ' H')/\∀ x H',J.yld i H x H'->g x σ H' fun σ2 H2=>tb { D with nx:=N,ct:=N,bk:=D.nx } σ2 H2)
noncomputable def zAF (fp:List Addr) (h:Heap):List (Addr×Obj):=fp.filterMap fun b=>(h.get? b).map fun o=>(b,o)
theorem zB0 {fp:List Addr}{h:Heap}{b:Addr}{o:Obj} (hb:b∈fp) (e:h.get? b=some o):(b,o)∈zAF fp h:=List.mem_filterMap.mpr ⟨b,hb,by rw[e];rfl⟩
theorem zIs {fp:List Addr}{h:Heap}{p:Addr×Obj} (hp:p∈zAF fp h):p.1∈fp/\h.get? p.1=some p.2:=by
 obtain⟨b,hb,e⟩:=List.mem_filterMap.mp hp
 cases q:h.get? b with
 | none=>rw[q] at e;cases e
 | some o =>
  rw[q] at e
  have e':(b,o)=p:=Option.some.inj e
  subst e'
  exact⟨hb,q⟩
theorem Inv.pinned {pins:List (Addr×Obj)}{σ:St}{H:Hp}{s:Shared}{fp:List Addr} (I:Inv X pins σ H s) (hf:∀ b∈fp,zDw X pins H b) (ho:∀ b∈fp,∃ o,s.heap.get? b=some o/\∀ v,o.data≠.cell v):Inv X (pins++zAF fp s.heap) σ H s :=
 I.pins_of fun p hp=>(List.mem_append.mp hp).elim (fun z=>I.pin p (List.mem_append_right _ z)) fun z=>by
  obtain⟨hb,e⟩:=zIs z
  obtain⟨f0,f1,f2,_⟩:=hf p.1 hb
  obtain⟨o,e',d⟩:=ho p.1 hb
  rw[e] at e';cases e'
  exact⟨e,f0,f1,f2,d⟩
theorem Inv.unpinned {pins pl:List (Addr×Obj)}{σ:St}{H:Hp}{s:Shared} (I:Inv X (pins++pl) σ H s):Inv X pins σ H s:=I.pins_of fun p hp=>I.pin p (List.mem_append_right _ (List.mem_append_left _ hp))
theorem zSu {iter:Expr}{body:List Stmt}{wi:TI}{g:TG}{tb:TS}{pos:Pos} (hp:PassesOwn (model X.prog X.w) X.A X.env X.xe) (hc:X.calm=true) (hi:PI X tg iter wi) (hg:PG X tg g) (hb:PSs X body tb)
  (hs:∀ x,foldedSetIterable iter X.env x=pure x:=by intro _;rfl):PS X (.For tg iter body [] pos) (zUN wi g tb):=by
 intro pins s σ H D I h
 refine wpAny_For (thn (hi pins s σ H _ I h) fun v s1 h1=>thn h1 fun itv s2 h2=>?_) hs
 obtain⟨it,fp,tn,J,H2,e,I2,T,st2,f2,W,⟨m0,w0⟩,turn⟩:=h2
 subst e
 have stat:∀ {H':Hp},(∀ b∈fp,H' b=none)->∀ b∈fp,zDw X pins H' b:=fun hn b hb=>⟨hn b hb,(f2 b hb).2⟩
 refine codeAny_forLoop_any (fun n s'=>∃ i σ' H',Inv X pins σ' H' s'/\tn i s'.heap/\(∀ b∈fp,H' b=none)/\W i n σ' H') ?_ m0 ⟨0,σ,H2,I2,st2,fun b hb=>(f2 b hb).1,w0⟩
 rintro n s3 ⟨i,σ3,H3,I3,st3,fr3,w3⟩
 rcases turn i n σ3 H3 w3 with ⟨stop,qn⟩ | ⟨go,N,hN,step⟩
 ·refine wpAny_passesOwn hp (thn (T.done X rfl rfl rfl hc i pins s3 σ3 H3 X.xe I3 (stat fr3) st3 stop) fun r s4 ⟨hr,I4⟩=>?_)
  subst hr
  exact wpAny_execs_nil ⟨σ3,H3,I4,qn⟩
 ·refine wpAny_passesOwn hp (thn (T.item X rfl rfl rfl hc i pins s3 σ3 H3 X.xe I3 (stat fr3) st3 go) fun r s4 ⟨u,hr,h4⟩=>?_)
  subst hr
  refine wpAny_passesOwn hp (thn h4 fun _ s5 ⟨x,H5,I5,r5,y5,st5,fr5⟩=>?_)
  have I5':=I5.pinned (stat fr5) (T.obj _ _ st5)
  refine wpAny_passesOwn hp (thn (hg _ s5 σ3 H5 x u _ I5' r5 (step x H5 y5)) fun _ s6 ⟨σ6,H6,I6,q6⟩=>?_)
  refine wpAny_passesOwn hp (thn (hb _ s6 σ6 H6 _ I6 q6) fun f s7 q7=>?_)
  have again:∀ {σ7:St}{H7:Hp},Inv X (pins++zAF fp s5.heap) σ7 H7 s7->N σ7 H7->∃ m,m < n/\∃ i σ' H',Inv X pins σ' H' s7/\tn i s7.heap/\(∀ b∈fp,H' b=none)/\W i m σ' H':=fun {σ7 H7} I7 n7=>by
   obtain⟨m',hm,w7⟩:=hN σ7 H7 n7
   refine⟨m',hm,i+1,σ7,H7,I7.unpinned,T.keep _ _ _ st5 fun b hb o e=>(I7.pin (b,o) (List.mem_append_right _ (List.mem_append_right _ (zB0 hb e)))).1,fun b hb=>?_,w7⟩
   obtain⟨o,e,d⟩:=T.obj _ _ st5 b hb
   exact (I7.pin (b,o) (List.mem_append_right _ (List.mem_append_right _ (zB0 hb e)))).2.1
  cases f with
  | next=>obtain⟨σ7,H7,I7,n7⟩:=q7;exact again I7 n7
  | cont=>obtain⟨σ7,H7,I7,n7⟩:=q7;exact again I7 n7
  | brk=>obtain⟨σ7,H7,I7,q7⟩:=q7;exact⟨σ7,H7,I7.unpinned,q7⟩
  | ret v=>obtain⟨x7,σ7,H7,I7,r7,q7⟩:=q7;exact⟨x7,σ7,H7,I7.unpinned,r7,q7⟩
end
end L2
namespace L2
open PySem PySem.Spec PyProof.Rows
noncomputable abbrev R2:=V->V->Hp->VK->Prop
noncomputable def OpR (X:Cx) (f:Value->Value->Sem Value) (r:R2):Prop :=
 ∀ (pins:List (Addr×Obj)) (s:Shared) (σ:St) (H:Hp) (x y:V) (v u:Value) (Q:VK),Inv X pins σ H s->zv x v->zv y u->r x y H Q ->
  wpAny (model X.prog X.w) X.A (f v u) (EP X pins σ Q) X.xe s
noncomputable def UnR (X:Cx) (f:Value->Sem Value) (r:V->Hp->VK->Prop):Prop :=
 ∀ (pins:List (Addr×Obj)) (s:Shared) (σ:St) (H:Hp) (x:V) (v:Value) (Q:VK),Inv X pins σ H s->zv x v->r x H Q ->
  wpAny (model X.prog X.w) X.A (f v) (EP X pins σ Q) X.xe s
noncomputable def qj (X:Cx) (f:Value) (r:List V->Hp->VK->Prop):Prop :=
 ∀ (pins:List (Addr×Obj)) (s:Shared) (σ:St) (H:Hp) (xs:List V) (us:List Value) (Q:VK),Inv X pins σ H s->ze xs us->r xs H Q ->
  wpAny (model X.prog X.w) X.A (call f us) (EP X pins σ Q) X.xe s
noncomputable def zUO (X:Cx) (r:V->Hp->(Bool->Hp->Prop)->Prop):Prop :=
 ∀ (pins:List (Addr×Obj)) (s:Shared) (σ:St) (H:Hp) (x:V) (v:Value) (Q:Bool->Hp->Prop),Inv X pins σ H s->zv x v->r x H Q ->
  wpAny (model X.prog X.w) X.A (truthy v) (TP X pins σ Q) X.xe s
noncomputable def tOp (r:R2) (ta tb:TE):TE:=fun σ H Q=>ta σ H fun x H1=>tb σ H1 fun y H2=>r x y H2 Q
noncomputable def tUn (r:V->Hp->VK->Prop) (ta:TE):TE:=fun σ H Q=>ta σ H fun x H1=>r x H1 Q
noncomputable def rI (C:Int->Int->Prop) (g:Int->Int->V):R2:=fun x y H Q=>∃ i j,x=.int i/\y=.int j/\C i j/\Q (g i j) H
noncomputable def rI0 (g:Int->Int->V):R2:=fun x y H Q=>∃ i j,x=.int i/\y=.int j/\Q (g i j) H
noncomputable def rU (g:Int->V):V->Hp->VK->Prop:=fun x H Q=>∃ i,x=.int i/\Q (g i) H
section
variable {X:Cx}{a b c:Expr}{ta tb tc:TE}{pos:Pos}
theorem zOj (ha:PE X a ta) (hb:PE X b tb) {pins:List (Addr×Obj)}{s:Shared}{σ:St}{H:Hp}{R:V->V->Hp->Prop} (I:Inv X pins σ H s)
  (h:ta σ H fun x H1=>tb σ H1 fun y H2=>R x y H2) {Q:Value->Shared->Prop}{f:Value->Value->Sem Value}
  (hf:∀ v u s2 x y H2,Inv X pins σ H2 s2->zv x v->zv y u->R x y H2->wpAny (model X.prog X.w) X.A (f v u) Q X.xe s2) :
  wpAny (model X.prog X.w) X.A (eval a X.env) (fun v s₁=>wpAny (model X.prog X.w) X.A (eval b X.env) (fun u s₂=>wpAny (model X.prog X.w) X.A (f v u) Q X.xe s₂) X.xe s₁) X.xe s:=by
 refine thn (ha pins s σ H _ I h) fun v s1 ⟨x,H1,I1,r1,q1⟩=>?_
 refine thn (hb pins s1 σ H1 _ I1 q1) fun u s2 ⟨y,H2,I2,r2,q2⟩=>?_
 exact hf v u s2 x y H2 I2 r1 r2 q2
theorem zTY {op:Operator}{r:R2} (ho:OpR X (binaryOp op) r) (ha:PE X a ta) (hb:PE X b tb):PE X (.BinOp a op b pos) (tOp r ta tb):=by
 intro pins s σ H Q I h
 exact wpAny_BinOp (zOj ha hb I h fun v u s2 x y H2 I2 rx ry q=>ho pins s2 σ H2 x y v u Q I2 rx ry q)
theorem zPv {op:UnaryOp}{r:V->Hp->VK->Prop} (ho:UnR X (unaryOp op) r) (ha:PE X a ta):PE X (.UnaryOp op a pos) (tUn r ta):=by
 intro pins s σ H Q I h
 exact UnaryOp_ (thn (ha pins s σ H _ I h) fun v s1 ⟨x,H1,I1,r1,q1⟩=>ho pins s1 σ H1 x v Q I1 r1 q1)
theorem opI {f:Value->Value->Sem Value}{C:Int->Int->Prop}{g:Int->Int->Int}
  (rule:∀ (i j:Int) (t u:Tok) (s:Shared) (Q:Value->Shared->Prop) (E:Value->Shared->Prop),C i j->Q (.int (g i j) s.toks) { s with toks:=s.toks+1 }->wpAny (model X.prog X.w) X.A (f (.int i t) (.int j u)) Q E s) :
  OpR X f (rI C fun i j=>.int (g i j)):=by
 intro pins s σ H x y v u Q I rx ry h
 obtain⟨i,j,rfl,rfl,hc,q⟩:=h
 obtain⟨t,rfl⟩:=rx
 obtain⟨t',rfl⟩:=ry
 exact rule i j t t' s _ _ hc ⟨.int (g i j),H,I.tok _,⟨_,rfl⟩,q⟩
theorem zRV {f:Value->Value->Sem Value}{g:Int->Int->Int}
  (rule:∀ (i j:Int) (t u:Tok) (s:Shared) (Q:Value->Shared->Prop) (E:Value->Shared->Prop),Q (.int (g i j) s.toks) { s with toks:=s.toks+1 }->wpAny (model X.prog X.w) X.A (f (.int i t) (.int j u)) Q E s) :
  OpR X f (rI0 fun i j=>.int (g i j)):=by
 intro pins s σ H x y v u Q I rx ry h
 obtain⟨i,j,rfl,rfl,q⟩:=h
 obtain⟨t,rfl⟩:=rx
 obtain⟨t',rfl⟩:=ry
 exact rule i j t t' s _ _ ⟨.int (g i j),H,I.tok _,⟨_,rfl⟩,q⟩
theorem zOm {f:Value->Value->Sem Value}{g:Int->Int->Bool}
  (rule:∀ (i j:Int) (t u:Tok) (s:Shared) (Q:Value->Shared->Prop) (E:Value->Shared->Prop),Q (.bool (g i j)) s->wpAny (model X.prog X.w) X.A (f (.int i t) (.int j u)) Q E s) :
  OpR X f (rI0 fun i j=>.bl (g i j)):=by
 intro pins s σ H x y v u Q I rx ry h
 obtain⟨i,j,rfl,rfl,q⟩:=h
 obtain⟨t,rfl⟩:=rx
 obtain⟨t',rfl⟩:=ry
 exact rule i j t t' s _ _ ⟨.bl (g i j),H,I,rfl,q⟩
noncomputable def zUP (i j:Int):Prop:=0 < j/\j < 1073741824
noncomputable def zMe (i j:Int):Prop:=(-(2 ^ 64) < i/\i < 2 ^ 64)\/(-(2 ^ 64) < j/\j < 2 ^ 64)
theorem zMe.ok {i j:Int} (h:zMe i j):IntMulOk i j:=by
 rcases h with ⟨h1,h2⟩ | ⟨h1,h2⟩
 ·exact .of_left (intBits_le_64 h1 h2)
 ·exact .of_right (intBits_le_64 h1 h2)
theorem zSp:OpR X (binaryOp .Add) (rI0 fun i j=>.int (i+j)):=zRV fun _ _ _ _ _ _ _ q=>add_int q
theorem zSP:OpR X (binaryOp .Sub) (rI0 fun i j=>.int (i - j)):=zRV fun _ _ _ _ _ _ _ q=>sub_int q
theorem zRu:OpR X (binaryOp .Mult) (rI zMe fun i j=>.int (i * j)):=opI fun _ _ _ _ _ _ _ hc q=>mul_int q hc.ok
theorem zQf:OpR X (binaryOp .FloorDiv) (rI zUP fun i j=>.int (i / j)):=opI fun i j _ _ _ _ _ hc q=>by
 have h1:(0:Int) < j:=hc.1
 have h2:j < 1073741824:=hc.2
 exact floordiv_int (by omega) (by rw[Int.fdiv_eq_ediv_of_nonneg i (by omega)];exact q) (.inl (PyProof.noPylong_small (by omega)))
theorem zSL:OpR X (binaryOp .Mod) (rI (fun _ j=>0 < j) fun i j=>.int (i % j)):=opI fun i j _ _ _ _ _ hc q=>by
 have h1:(0:Int) < j:=hc
 exact mod_int' (by omega) (by rw[Int.fmod_eq_emod_of_nonneg i (by omega)];exact q)
theorem unI {f:Value->Sem Value}{g:Int->Int}
  (rule:∀ (i:Int) (t:Tok) (s:Shared) (Q:Value->Shared->Prop) (E:Value->Shared->Prop),Q (.int (g i) s.toks) { s with toks:=s.toks+1 }->wpAny (model X.prog X.w) X.A (f (.int i t)) Q E s) :
  UnR X f (rU fun i=>.int (g i)):=by
 intro pins s σ H x v Q I rx h
 obtain⟨i,rfl,q⟩:=h
 obtain⟨t,rfl⟩:=rx
 exact rule i t s _ _ ⟨.int (g i),H,I.tok _,⟨_,rfl⟩,q⟩
theorem zNR:UnR X (unaryOp .USub) (rU fun i=>.int (-i)):=unI fun _ _ _ _ _ q=>neg_int q
end
noncomputable def zIO:V->V->Bool
 | .non,.non=>true | .non,.int _=>true | .int _,.non=>true | .non,.bl _=>true | .bl _,.non=>true | .non,.str _=>true | .str _,.non=>true
 | .int _,.int _=>true | .bl _,.bl _=>true | .str _,.str _=>true | .byt _,.byt _=>true
 | .int _,.str _=>true | .str _,.int _=>true | .bl _,.str _=>true | .str _,.bl _=>true
 | _,_=>false
noncomputable def rEq:R2:=fun x y H Q=>zIO x y=true/\Q (.bl (decide (x=y))) H
noncomputable def rNe:R2:=fun x y H Q=>zIO x y=true/\Q (.bl (!decide (x=y))) H
theorem zLf {i j:Int}:decide (V.int i=V.int j)=(i == j):=by
 rw[Bool.eq_iff_iff]
 simp
theorem zNG {i j:Bool}:decide (V.bl i=V.bl j)=(i == j):=by
 rw[Bool.eq_iff_iff]
 simp
theorem zLa {i j:Str}:decide (V.str i=V.str j)=(i == j):=by
 rw[Bool.eq_iff_iff]
 simp
theorem zLe {i j:Array UInt8}:decide (V.byt i=V.byt j)=(i.toList == j.toList):=by
 rw[Bool.eq_iff_iff]
 cases i
 cases j
 simp
section
variable {X:Cx}{a b c:Expr}{ta tb tc:TE}{pos:Pos}
theorem jg {pins:List (Addr×Obj)}{σ:St}{H:Hp}{s:Shared}{Q:VK}{k k':Bool} (I:Inv X pins σ H s) (q:Q (.bl k) H) (e:k=k'):EP X pins σ Q (.bool k') s:=by
 subst e
 exact⟨.bl k,H,I,rfl,q⟩
theorem zTa:OpR X (compareOp .Eq) rEq:=by
 intro pins s σ H x y v u Q I rx ry h
 obtain⟨hs,q⟩:=h
 cases x with
 | non =>
  cases rx
  cases y with
  | non=>cases ry;exact PySem.EqNone.eq_none_none (jg I q (by simp))
  | bl j=>cases ry;exact PySem.EqNone.eq_none_bool (jg I q (by simp))
  | int j=>obtain⟨t',rfl⟩:=ry;exact PySem.EqNone.eq_none_int (jg I q (by simp))
  | str j=>obtain⟨t',rfl⟩:=ry;exact PySem.EqNone.eq_none_str (jg I q (by simp))
  | _=>exact absurd (show false=true from hs) Bool.false_ne_true
 | bl i =>
  cases rx
  cases y with
  | non=>cases ry;exact PySem.EqNone.eq_bool_none (jg I q (by simp))
  | bl j=>cases ry;exact eq_bool (jg I q zNG)
  | str j=>obtain⟨t',rfl⟩:=ry;exact PySem.EqMixed.eq_bool_str (jg I q (by simp))
  | _=>exact absurd (show false=true from hs) Bool.false_ne_true
 | int i =>
  obtain⟨t,rfl⟩:=rx
  cases y with
  | non=>cases ry;exact PySem.EqNone.eq_int_none (jg I q (by simp))
  | int j=>obtain⟨t',rfl⟩:=ry;exact eq_int (jg I q zLf)
  | str j=>obtain⟨t',rfl⟩:=ry;exact PySem.EqMixed.eq_int_str (jg I q (by simp))
  | _=>exact absurd (show false=true from hs) Bool.false_ne_true
 | str i =>
  obtain⟨t,rfl⟩:=rx
  cases y with
  | non=>cases ry;exact PySem.EqNone.eq_str_none (jg I q (by simp))
  | bl j=>cases ry;exact PySem.EqMixed.eq_str_bool (jg I q (by simp))
  | int j=>obtain⟨t',rfl⟩:=ry;exact PySem.EqMixed.eq_str_int (jg I q (by simp))
  | str j=>obtain⟨t',rfl⟩:=ry;exact eq_str (jg I q zLa)
  | _=>exact absurd (show false=true from hs) Bool.false_ne_true
 | byt i =>
  obtain⟨t,rfl⟩:=rx
  cases y with
  | byt j=>obtain⟨t',rfl⟩:=ry;exact PySem.W.eq_bytes (jg I q zLe)
  | _=>exact absurd (show false=true from hs) Bool.false_ne_true
 | _=>cases y<;>exact absurd (show false=true from hs) Bool.false_ne_true
theorem zTb:OpR X (compareOp .NotEq) rNe:=by
 intro pins s σ H x y v u Q I rx ry h
 obtain⟨hs,q⟩:=h
 cases x with
 | non =>
  cases rx
  cases y with
  | non=>cases ry;exact PySem.EqNone.ne_none_none (jg I q (by simp))
  | bl j=>cases ry;exact PySem.EqNone.ne_none_bool (jg I q (by simp))
  | int j=>obtain⟨t',rfl⟩:=ry;exact PySem.EqNone.ne_none_int (jg I q (by simp))
  | str j=>obtain⟨t',rfl⟩:=ry;exact PySem.EqNone.ne_none_str (jg I q (by simp))
  | _=>exact absurd (show false=true from hs) Bool.false_ne_true
 | bl i =>
  cases rx
  cases y with
  | non=>cases ry;exact PySem.EqNone.ne_bool_none (jg I q (by simp))
  | bl j=>cases ry;exact ne_bool (jg I q (congrArg not zNG))
  | str j=>obtain⟨t',rfl⟩:=ry;exact PySem.EqMixed.ne_bool_str (jg I q (by simp))
  | _=>exact absurd (show false=true from hs) Bool.false_ne_true
 | int i =>
  obtain⟨t,rfl⟩:=rx
  cases y with
  | non=>cases ry;exact PySem.EqNone.ne_int_none (jg I q (by simp))
  | int j=>obtain⟨t',rfl⟩:=ry;exact ne_int (jg I q (congrArg not zLf))
  | str j=>obtain⟨t',rfl⟩:=ry;exact PySem.EqMixed.ne_int_str (jg I q (by simp))
  | _=>exact absurd (show false=true from hs) Bool.false_ne_true
 | str i =>
  obtain⟨t,rfl⟩:=rx
  cases y with
  | non=>cases ry;exact PySem.EqNone.ne_str_none (jg I q (by simp))
  | bl j=>cases ry;exact PySem.EqMixed.ne_str_bool (jg I q (by simp))
  | int j=>obtain⟨t',rfl⟩:=ry;exact PySem.EqMixed.ne_str_int (jg I q (by simp))
  | str j=>obtain⟨t',rfl⟩:=ry;exact ne_str (jg I q (congrArg not zLa))
  | _=>exact absurd (show false=true from hs) Bool.false_ne_true
 | byt i =>
  obtain⟨t,rfl⟩:=rx
  cases y with
  | byt j=>obtain⟨t',rfl⟩:=ry;exact PySem.W.ne_bytes (jg I q (congrArg not zLe))
  | _=>exact absurd (show false=true from hs) Bool.false_ne_true
 | _=>cases y<;>exact absurd (show false=true from hs) Bool.false_ne_true
theorem zTZ:OpR X (compareOp .Lt) (rI0 fun i j=>.bl (decide (i < j))):=zOm fun _ _ _ _ _ _ _ q=>lt_int q
theorem zTn:OpR X (compareOp .LtE) (rI0 fun i j=>.bl (decide (i <= j))):=zOm fun _ _ _ _ _ _ _ q=>le_int q
theorem zTU:OpR X (compareOp .Gt) (rI0 fun i j=>.bl (decide (j < i))):=zOm fun _ _ _ _ _ _ _ q=>gt_int q
theorem zNI:OpR X (compareOp .Lt) (fun x y H Q=>∃ i j,x=.str i/\y=.str j/\Q (.bl (decide (i.cps.toList < j.cps.toList))) H):=by
 intro pins s σ H x y v u Q I rx ry h
 obtain⟨i,j,rfl,rfl,q⟩:=h
 obtain⟨t,rfl⟩:=rx
 obtain⟨t',rfl⟩:=ry
 exact lt_str (jg I q rfl)
theorem zNs:OpR X (compareOp .In) (fun x y H Q=>∃ i j,x=.str i/\y=.str j/\Q (.bl (!(Builtin.Str.occurrences j i 0 j.length 1).isEmpty)) H):=by
 intro pins s σ H x y v u Q I rx ry h
 obtain⟨i,j,rfl,rfl,q⟩:=h
 obtain⟨t,rfl⟩:=rx
 obtain⟨t',rfl⟩:=ry
 exact in_str (jg I q rfl)
theorem zKN:OpR X (compareOp .NotIn) (fun x y H Q=>∃ i j,x=.str i/\y=.str j/\Q (.bl (!(!(Builtin.Str.occurrences j i 0 j.length 1).isEmpty))) H):=by
 intro pins s σ H x y v u Q I rx ry h
 obtain⟨i,j,rfl,rfl,q⟩:=h
 obtain⟨t,rfl⟩:=rx
 obtain⟨t',rfl⟩:=ry
 exact notIn_str (jg I q rfl)
theorem OpR.or {f:Value->Value->Sem Value}{r r':R2} (h:OpR X f r) (h':OpR X f r'):OpR X f (fun x y H Q=>r x y H Q\/r' x y H Q):=by
 intro pins s σ H x y v u Q I rx ry q
 rcases q with q | q
 ·exact h pins s σ H x y v u Q I rx ry q
 ·exact h' pins s σ H x y v u Q I rx ry q
theorem jM (b:Expr) {op:CmpOp} (h:op≠.In:=by decide) (h2:op≠.NotIn:=by decide):behindInMarks op b=false:=by
 have e1:(op == CmpOp.In)=false:=by cases op<;>first | rfl | exact absurd rfl h
 have e2:(op == CmpOp.NotIn)=false:=by cases op<;>first | rfl | exact absurd rfl h2
 cases b<;>simp[behindInMarks,e1,e2]
theorem zQj {op:CmpOp}{r:R2} (ho:OpR X (compareOp op) r) (ha:PE X a ta) (hb:PE X b tb) (hm:behindInMarks op b=false):PE X (.Compare a [op] [b] pos) (tOp r ta tb):=by
 intro pins s σ H Q I h
 exact wpAny_Compare1 (zOj ha hb I h fun v u s2 x y H2 I2 rx ry q=>ho pins s2 σ H2 x y v u Q I2 rx ry q) hm
noncomputable def zPx (t:TE):TT:=fun σ H Q=>t σ H fun x H'=>∃ k,x=.bl k/\Q k H'
theorem zQ2 {op:CmpOp}{r:R2} (ho:OpR X (compareOp op) r) (ha:PE X a ta) (hb:PE X b tb) (hm:behindInMarks op b=false):PT X (.Compare a [op] [b] pos) (zPx (tOp r ta tb)):=by
 intro pins s σ H Q I h
 refine wpAny_isTrue_Compare1 (thn (ha pins s σ H _ I h) fun v s1 ⟨x,H1,I1,r1,q1⟩=>thn (hb pins s1 σ H1 _ I1 q1) fun u s2 ⟨y,H2,I2,r2,q2⟩ =>
  thn (ho pins s2 σ H2 x y v u _ I2 r1 r2 q2) fun c s3 ⟨z,H3,I3,r3,k,e,q3⟩=>?_) hm
 subst e
 cases r3
 exact wpAny_truthy_bool ⟨H3,I3,q3⟩
noncomputable def zBh (r r':R2) (ta tb tc:TE):TE:=fun σ H Q=>ta σ H fun x H1=>tb σ H1 fun y H2=>r x y H2 fun z H3=>∃ k,z=.bl k /\
 (if k=true then tc σ H3 fun w' H4=>r' y w' H4 Q else Q (.bl false) H3)
theorem zOP {op op':CmpOp}{r r':R2} (ho:OpR X (compareOp op) r) (ho':OpR X (compareOp op') r') (ha:PE X a ta) (hb:PE X b tb) (hc:PE X c tc)
  (hm:lastMarks [op,op'] [b,c]=false:=by with_unfolding_all rfl):PE X (.Compare a [op,op'] [b,c] pos) (zBh r r' ta tb tc):=by
 intro pins s σ H Q I h
 refine Compare_chain (thn (ha pins s σ H _ I h) fun v s1 ⟨x,H1,I1,r1,q1⟩=>chain_link (thn (hb pins s1 σ H1 _ I1 q1) fun u s2 ⟨y,H2,I2,r2,q2⟩ =>
  thn (ho pins s2 σ H2 x y v u _ I2 r1 r2 q2) fun d s3 ⟨z,H3,I3,r3,k,e,q3⟩=>?_)) hm
 subst e
 cases r3
 refine wpAny_truthy_bool ?_
 cases k with
 | false=>exact ite_ff ⟨.bl false,H3,I3,rfl,q3⟩
 | true=>exact ite_tt (chain_last (thn (hc pins s3 σ H3 _ I3 q3) fun w' s4 ⟨z',H4,I4,r4,q4⟩=>ho' pins s4 σ H4 y z' u w' Q I4 r2 r4 q4))
theorem zPL {op op':CmpOp}{r r':R2} (ho:OpR X (compareOp op) r) (ho':OpR X (compareOp op') r') (ha:PE X a ta) (hb:PE X b tb) (hc:PE X c tc)
  (hm:lastMarks [op,op'] [b,c]=false:=by with_unfolding_all rfl):PT X (.Compare a [op,op'] [b,c] pos) (zPx (zBh r r' ta tb tc)):=by
 intro pins s σ H Q I h
 refine isTrue_chain (thn (ha pins s σ H _ I h) fun v s1 ⟨x,H1,I1,r1,q1⟩=>test_link (thn (hb pins s1 σ H1 _ I1 q1) fun u s2 ⟨y,H2,I2,r2,q2⟩ =>
  thn (ho pins s2 σ H2 x y v u _ I2 r1 r2 q2) fun d s3 ⟨z,H3,I3,r3,k,e,q3⟩=>?_)) hm
 subst e
 cases r3
 refine wpAny_truthy_bool ?_
 cases k with
 | false =>
  obtain⟨k',e',q'⟩:=q3
  cases e'
  exact ite_ff ⟨H3,I3,q'⟩
 | true =>
  refine ite_tt (test_last (thn (hc pins s3 σ H3 _ I3 q3) fun w' s4 ⟨z',H4,I4,r4,q4⟩=>thn (ho' pins s4 σ H4 y z' u w' _ I4 r2 r4 q4) fun d' s5 ⟨z2,H5,I5,r5,k2,e2,q5⟩=>?_))
  subst e2
  cases r5
  exact wpAny_truthy_bool ⟨H5,I5,q5⟩
noncomputable def zSt (K:PySem.W.Frag) (x:V) (H:Hp) (k:Bool):Prop :=
 match x with
 | .non=>k=false
 | .bl b=>k=b
 | .int i=>k=(i != 0)
 | .str y=>y.length <= sizeLine/\k=((y.length:Int) != 0)
 | .byt y=>y.size <= sizeLine/\k=((y.size:Int) != 0)
 | .ref p=>(∃ xs,SqL K H p xs/\k = !xs.isEmpty)\/(∃ xs,SqT K H p xs/\k = !xs.isEmpty)\/∃ kvs,H p=some (.dK kvs)/\k = !kvs.isEmpty
 | _=>False
theorem zL2 {κ:Type}{kvs:List (κ×V)}{vs:List (κ×Value)} (r:KV kvs vs):(!vs.isEmpty) = !kvs.isEmpty:=by
 cases r<;>rfl
theorem zG5 {xs:List V}{its:List Value} (r:ze xs its):(!its.toArray.isEmpty) = !xs.isEmpty:=by
 cases r<;>simp
theorem zCi:(sizeLine:Nat) < 2 ^ 63:=by rw[sizeLine_eq];decide
theorem zSZ:zUO X (fun x H Q=>∃ k,zSt X.K x H k/\Q k H):=by
 intro pins s σ H x v Q I rx h
 obtain⟨k,e,q⟩:=h
 have hl:=zCi
 have hs:sizeLine=16777216:=sizeLine_eq
 cases x with
 | non =>
  cases rx
  have e':k=false:=e
  subst e'
  exact truthy_none ⟨H,I,q⟩
 | bl b =>
  cases rx
  have e':k=b:=e
  subst e'
  exact wpAny_truthy_bool ⟨H,I,q⟩
 | int i =>
  obtain⟨t,rfl⟩:=rx
  have e':k=(i != 0):=e
  subst e'
  exact PySem.P.truthy_int ⟨H,I,q⟩
 | str y =>
  obtain⟨t,rfl⟩:=rx
  obtain⟨hy,e'⟩:y.length <= sizeLine/\k=((y.length:Int) != 0):=e
  subst e'
  exact PySem.P.truthy_str (by omega) ⟨H,I.tok _,q⟩
 | byt y =>
  obtain⟨t,rfl⟩:=rx
  obtain⟨hy,e'⟩:y.size <= sizeLine/\k=((y.size:Int) != 0):=e
  subst e'
  exact PySem.W.truthy_bytes (by omega) ⟨H,I.tok _,q⟩
 | ref p =>
  cases rx
  have e':(∃ xs,SqL X.K H p xs/\k = !xs.isEmpty)\/(∃ xs,SqT X.K H p xs/\k = !xs.isEmpty)\/∃ kvs,H p=some (.dK kvs)/\k = !kvs.isEmpty:=e
  rcases e' with ⟨xs,hx,e'⟩ | ⟨xs,hx,e'⟩ | ⟨kvs,hx,e'⟩
  ·subst e'
   obtain⟨its,r,pl,hz⟩:=I.list hx
   have hlen:=r.length
   exact wpAny_truthy_list pl.isList (by simp only[List.size_toArray];omega) ⟨H,I.tok _,by rw[zG5 r];exact q⟩
  ·subst e'
   obtain⟨its,r,pl,hz⟩:=I.tuple hx
   have hlen:=r.length
   exact truthy_tuple pl (by simp only[List.size_toArray];omega) ⟨H,I.tok _,by rw[zG5 r];exact q⟩
  ·subst e'
   obtain⟨hz,hS,vs,r,m⟩:kvs.length <= sizeLine/\(p == sysModules)=false/\∃ vs,KV kvs vs/\s.heap.DictOf (yR X.prog X.w) p vs:=I.hok p _ hx
   have hlen:kvs.length=vs.length:=Paired.length r
   exact wpAny_truthy_dict hS m (by omega) ⟨H,I.tok _,by rw[zL2 r];exact q⟩
 | _=>exact (show False from e).elim
theorem zOd (ha:PE X a ta) (he:∀ whole,isTrue a X.env whole=(do let v <- whole;standAt a.pos;holding [v] (truthy v))) :
  PT X a (fun σ H Q=>ta σ H fun x H'=>∃ k,zSt X.K x H' k/\Q k H'):=by
 intro pins s σ H Q I h
 exact isTrue_plain (thn (ha pins s σ H _ I h) fun v s1 ⟨x,H1,I1,r1,q1⟩=>zSZ pins s1 σ H1 x v Q I1 r1 q1) (he _)
theorem zMh:OpR X (binaryOp .Add) (fun x y H Q=>∃ i j,x=.str i/\y=.str j/\i.length+j.length <= sizeLine/\Q (.str (i++j)) H):=by
 intro pins s σ H x y v u Q I rx ry h
 obtain⟨i,j,rfl,rfl,hz,q⟩:=h
 obtain⟨t,rfl⟩:=rx
 obtain⟨t',rfl⟩:=ry
 exact wpAny_with_toks (n:=1) I.tk (add_str (fun t' tk htk=>⟨.str (i++j),H,I.tok _ htk,⟨_,rfl⟩,q⟩) hz)
theorem zLV:OpR X (inplaceOp .Add) (fun x y H Q=>∃ i j,x=.str i/\y=.str j/\i.length+j.length <= sizeLine/\Q (.str (i++j)) H):=by
 intro pins s σ H x y v u Q I rx ry h
 obtain⟨i,j,rfl,rfl,hz,q⟩:=h
 obtain⟨t,rfl⟩:=rx
 obtain⟨t',rfl⟩:=ry
 exact wpAny_with_toks (n:=1) I.tk (iadd_str (fun t' tk htk=>⟨.str (i++j),H,I.tok _ htk,⟨_,rfl⟩,q⟩) hz)
theorem Jw {x:V}{us:List Value} (r:ze [x] us):∃ u,us=[u]/\zv x u:=by
 cases r with
 | cons r1 r2=>cases r2;exact⟨_,rfl,r1⟩
theorem zTR {x y:V}{us:List Value} (r:ze [x,y] us):∃ u w',us=[u,w']/\zv x u/\zv y w':=by
 cases r with
 | cons r1 r2 =>
  cases r2 with
  | cons r3 r4=>cases r4;exact⟨_,_,rfl,r1,r3⟩
theorem zKf:qj X (.type "str") (fun xs H Q=>∃ i,xs=[.int i]/\i.natAbs.log2 < 1920/\Q (.str (toString i)) H):=by
 intro pins s σ H xs us Q I r h
 obtain⟨i,rfl,hz,q⟩:=h
 obtain⟨u,rfl,t,rfl⟩:=Jw r
 exact PySem.P.str_of_int hz ⟨.str _,H,I.tok _,⟨_,rfl⟩,q⟩
end
end L2
namespace L2
open PySem PySem.Spec PyProof.Rows
structure zF9 (h:Heap) (x dx C:Addr) (mA:Str->Option Value):Prop where
 obj:h.get? x=some (PySem.W.instObj C dx)
 ns:h.Ns1 dx mA
 ne:dx≠x
theorem zNl {h:Heap}{dx:Addr}{mA:Str->Option Value} (n:h.Ns1 dx mA):∃ od,h.get? dx=some od/\∀ name,PySem.W.lookIn name od=some (mA name):=by
 obtain⟨o,es,ep,ho,hd,hk,_,hm⟩:=n
 refine⟨o,ho,fun name=>?_⟩
 have e:=hm name
 unfold nsFind findBy at e
 rw[<- Array.find?_toList] at e
 unfold PySem.W.lookIn
 rw[hd]
 dsimp only
 split
 ·rename_i y q
  rw[q] at e
  exact congrArg some e
 ·rename_i q
  rw[q] at e
  have a:es.toList.any (·.refKey)=false:=by
   rw[List.any_eq_false]
   intro y hy
   obtain⟨z,t,hkey⟩:=hk y (Array.mem_toList_iff.mp hy)
   simp[DictEntry.refKey,hkey]
  have a':¬ es.toList.any (·.refKey)=true:=by rw[a];exact Bool.false_ne_true
  rw[if_neg a']
  exact congrArg some e
theorem zF9.look {h:Heap}{x dx C:Addr}{mA:Str->Option Value} (I:zF9 h x dx C mA):∃ od,PySem.W.InstAt h x (PySem.W.instObj C dx) C (some od)/\∀ name,PySem.W.lookIn name od=some (mA name) :=
 let ⟨od,ho,hl⟩:=zNl I.ns
 ⟨od,⟨I.obj,rfl,rfl,ho⟩,hl⟩
section
variable {prog:Program}{w:World}{A:Around}{E:Value->Shared->Prop}{s:Shared}{K:PySem.W.Frag}{x dx C f:Addr}{mA:Str->Option Value}{name:Str}{v:Value}
theorem zRO {expr:Bool}{Q:Value->Shared->Prop} (X:K.In s.heap) (I:zF9 s.heap x dx C mA) (hg:PySem.W.plainGet K C name=true) (hh:PySem.W.hasDictIn K C=true)
  (ha:PySem.W.findIn K (.ref C) name=some none) (hv:mA name=some v) (hv':PySem.W.handedIn v=true) (h:Q v { s with toks:=s.toks+1 }) :
  wpAny (model prog w) A (getAttr (.ref x) name expr) Q E s:=by
 obtain⟨od,J,hl⟩:=I.look
 exact PySem.W.get_value X J (PySem.W.plainGet_of hg).1 (PySem.W.findObj_own hh ha rfl (by rw[hl,hv])) hv' h
theorem zPj {pl:Sem Bool}{Q:Value×List Value->Shared->Prop} (X:K.In s.heap) (I:zF9 s.heap x dx C mA) (hg:PySem.W.plainGet K C name=true)
  (hf:PySem.W.findIn K (.ref C) name=some (some (.ref f))) (ht:PySem.W.isFn K (.ref f)=true) (hv:mA name=none) (h:Q (.ref f,[.ref x]) s) :
  wpAny (model prog w) A (getMethod (.ref x) name pl) Q E s:=by
 obtain⟨od,J,hl⟩:=I.look
 exact PySem.W.method_fn X J (PySem.W.plainGet_of hg).1 (PySem.W.plainGet_of hg).2 hf (beq_iff_eq.mp ht) (by show (PySem.W.lookIn name od).map (·.isSome)=some false;rw[hl,hv];rfl) h
theorem zRQ {ns:List Str}{Q:Unit->Shared->Prop} (X:K.In s.heap) (I:zF9 s.heap x dx C mA)
  (hs:PySem.W.findIn K (.ref C) "__setattr__" = some (some (.builtin "object.__setattr__"))) (hp:PySem.W.plainOver K C=true) (ht:PySem.W.takerIn K C name=some none) (hh:PySem.W.hasDictIn K C=true)
  (hw:PySem.Within mA ns) (hsz:ns.length <= sizeLine)
  (h:∀ h',zF9 h' x dx C (fun y=>if y=name then some v else mA y)->Heap.SameBut dx s.heap h'->Q () { s with heap:=h',toks:=s.toks+2 }) :
  wpAny (model prog w) A (setAttr (.ref x) name v) Q E s:=by
 obtain⟨od,J,hl⟩:=I.look
 refine PySem.W.set_plain X J hs (PySem.W.osa_open (s:={ s with toks:=s.toks+1 }) (r:=none) X J hp ht fun b=>?_)
 obtain⟨cd,hc,hd'⟩:=PySem.W.any_some hh
 have hx:s.heap.get? x=some ⟨.ref C,some dx,.plain,#[]⟩:=I.obj
 refine wpAny_bind (wpAny_pure (wpAny_bind (wpAny_bind (wpAny_loadPart hx (wpAny_bind (PySem.W.Looks.here (s:={ s with toks:=s.toks+1 }) (PySem.W.looks_clsIn X hc) ?_))))))
 rw[hd']
 refine wpAny_pure (a:=some dx) (wpAny_bind (wpAny_pure (wpAny_bind ?_)))
 refine wpAny_nsSet1 (s:={ s with toks:=s.toks+1 }) I.ns fun h' hn2 hs2=>?_
 obtain⟨oD,esD,epD,hoD,hdD,hcD⟩:=hn2.count (PySem.Within.cons name v hw)
 refine wpAny_bind (wpAny_lookBehind hoD (by rw[hdD];exact pastItsLine_dict (Nat.le_trans hcD (by rw[List.length_cons];omega))) ?_)
 exact wpAny_pure (h _ ⟨(hs2.2 _ (Ne.symm I.ne)).trans I.obj,hn2,I.ne⟩ hs2)
theorem zOa {R:Result->Shared->Prop}{vs:List Value}{kw:List (Str×Value)} (X:K.In s.heap) (hm:PySem.W.makesIn K C=true)
  (hi:PySem.W.findIn K (.ref C) "__init__" = some (some (.ref f))) (hf:PySem.W.typeIn K (.ref f)=some (.type "function"))
  (h:codeAny (model prog w) (A.under (.builtin "type.__call__" ⟨.ref C::vs,kw⟩)) (.call (.ref f) ⟨.ref (s.heap.objs.size+1)::vs,kw⟩) (PySem.W.InitBack (s.heap.objs.size+1) R)
   { s with heap:=(s.heap.push PySem.W.emptyDict).push (PySem.W.instObj C s.heap.objs.size) }) :
  codeAny (model prog w) A (.call (.ref C) ⟨vs,kw⟩) R s:=by
 obtain⟨hh,g,d,t,os⟩:=s
 exact PySem.W.make_core (PySem.W.makes_of X hm) (PySem.W.looks_findIn X hi) (fun self=>PySem.W.bind_fn X self hf) (.inl rfl) h
end
noncomputable def ZG (f:Str) (v:V):List (Str×V)->List (Str×V)
 | []=>[(f,v)]
 | (g,x)::r=>if g=f then (g,v)::r else (g,x)::ZG f v r
theorem zDP (f g:Str) (v:V):∀ fs:List (Str×V),(ZG f v fs).lookup g=if g=f then some v else fs.lookup g
 | []=>by
  show List.lookup g [(f,v)]=_
  by_cases h:g=f
  ·have hb:(g == f)=true:=beq_iff_eq.mpr h
   simp only[List.lookup,hb,if_pos h]
  ·have hb:(g == f)=false:=beq_eq_false_iff_ne.mpr h
   simp only[List.lookup,hb,if_neg h]
 | (k,x)::r=>by
  have ih:=zDP f g v r
  rw[show ZG f v ((k,x)::r)=(if k=f then (k,v)::r else (k,x)::ZG f v r) from rfl]
  by_cases hk:k=f
  ·rw[if_pos hk]
   by_cases h:g=k
   ·have hb:(g == k)=true:=beq_iff_eq.mpr h
    simp only[List.lookup,hb,if_pos (h.trans hk)]
   ·have hb:(g == k)=false:=beq_eq_false_iff_ne.mpr h
    simp only[List.lookup,hb,if_neg (fun e:g=f=>h (e.trans hk.symm))]
  ·rw[if_neg hk]
   by_cases h:g=k
   ·have hb:(g == k)=true:=beq_iff_eq.mpr h
    simp only[List.lookup,hb,if_neg (fun e:g=f=>hk (h.symm.trans e))]
   ·have hb:(g == k)=false:=beq_eq_false_iff_ne.mpr h
    simp only[List.lookup,hb]
    exact ih
theorem zEs (f:Str) (v:V):∀ fs:List (Str×V),f∈(ZG f v fs).map (·.1)/\∀ g,g∈fs.map (·.1)->g∈(ZG f v fs).map (·.1)
 | []=>⟨by simp[ZG],fun g h=>by simp at h⟩
 | (k,x)::r=>by
  obtain⟨i1,i2⟩:=zEs f v r
  rw[show ZG f v ((k,x)::r)=(if k=f then (k,v)::r else (k,x)::ZG f v r) from rfl]
  by_cases hk:k=f
  ·rw[if_pos hk]
   subst hk
   exact⟨by simp,fun g h=>by simpa using h⟩
  ·rw[if_neg hk]
   refine⟨?_,fun g h=>?_⟩
   ·rw[List.map_cons]
    exact List.mem_cons_of_mem _ i1
   ·rw[List.map_cons] at h ⊢
    rcases List.mem_cons.mp h with e | e
    ·exact List.mem_cons.mpr (.inl e)
    ·exact List.mem_cons_of_mem _ (i2 g e)
theorem zFv (f:Str) (v:V):∀ fs:List (Str×V),(ZG f v fs).length <= fs.length+1
 | []=>by simp[ZG]
 | (k,x)::r=>by
  have ih:=zFv f v r
  rw[show ZG f v ((k,x)::r)=(if k=f then (k,v)::r else (k,x)::ZG f v r) from rfl]
  by_cases hk:k=f
  ·rw[if_pos hk,List.length_cons,List.length_cons];omega
  ·rw[if_neg hk,List.length_cons,List.length_cons];omega
theorem zAD.some_of {v:V}{o:Option Value} (r:zAD (some v) o):∃ u,o=some u/\zv v u:=by
 cases o with
 | none=>exact (show False from r).elim
 | some u=>exact⟨u,rfl,r⟩
theorem zAD.none_of {o:Option Value} (r:zAD none o):o=none:=by
 cases o with
 | none=>rfl
 | some u=>exact (show False from r).elim
theorem zNZ {v:V}{u:Value} (r:zv v u):PySem.W.handedIn u=true:=by
 cases v with
 | non=>cases (show u=Value.none from r);rfl
 | bl b=>cases (show u=Value.bool b from r);rfl
 | int i=>obtain⟨t,e⟩:=(show ∃ t,u=Value.int i t from r);cases e;rfl
 | str x=>obtain⟨t,e⟩:=(show ∃ t,u=Value.str x t from r);cases e;rfl
 | byt b=>obtain⟨t,e⟩:=(show ∃ t,u=Value.bytes b t from r);cases e;rfl
 | flt b=>obtain⟨t,e⟩:=(show ∃ t,u=Value.float b t from r);cases e;rfl
 | ref a=>cases (show u=Value.ref a from r);rfl
 | ty n=>cases (show u=Value.type n from r);rfl
section
variable {P:Program}{w:World}{H H':Hp}{h h':Heap}{a C dx:Addr}{fs fs':List (Str×V)}
theorem zFb (hok:HOk P w H h) (e:H a=some (.ins C dx fs)):∃ mA,zF9 h a dx C mA/\(∀ f,zAD (fs.lookup f) (mA f))/\PySem.Within mA (fs.map (·.1))/\fs.length <= 1000/\H dx=some (.own a):=by
 obtain⟨d,z,ne,ob,mA,n,r,q⟩:=(show qS P w H h a (.ins C dx fs) from hok a _ e)
 exact⟨mA,⟨ob,n,ne⟩,r,q,z,d⟩
end
structure Cls (K:PySem.W.Frag) (C:Addr):Prop where
 pg:PySem.W.plainGet K C Str.empty=true
 hd:PySem.W.hasDictIn K C=true
 po:PySem.W.plainOver K C=true
 sa:PySem.W.findIn K (.ref C) "__setattr__" = some (some (.builtin "object.__setattr__"))
theorem Cls.get {K:PySem.W.Frag}{C:Addr} (c:Cls K C) (f:Str):PySem.W.plainGet K C f=true:=c.pg
noncomputable def zBd (K:PySem.W.Frag) (C:Addr) (f:Str):Prop:=PySem.W.findIn K (.ref C) f=some none
theorem zBd.taker {K:PySem.W.Frag}{C:Addr}{f:Str} (n:zBd K C f):PySem.W.takerIn K C f=some none:=by
 unfold PySem.W.takerIn
 rw[show PySem.W.findIn K (.ref C) f=some none from n]
 rfl
structure Con (K:PySem.W.Frag) (C:Addr) (f:Str) (v:V) (u:Value):Prop where
 at_:PySem.W.findIn K (.ref C) f=some (some u)
 rel:zv v u
 get:PySem.W.specialIn K u "__get__" = some none
 cp:PySem.W.copiedNames.contains f=false
structure zMt (K:PySem.W.Frag) (C:Addr) (m:Str) (f:Addr):Prop where
 at_:PySem.W.findIn K (.ref C) m=some (some (.ref f))
 fn:PySem.W.isFn K (.ref f)=true
 kp:PySem.W.keepIn K (.ref f)=true
section
variable {X:Cx}{pins:List (Addr×Obj)}{σ:St}{H:Hp}{s:Shared}{a C dx:Addr}{fs:List (Str×V)}{f:Str}{v:V}{A:Around}{E:Value->Shared->Prop}
theorem zHp {b:Bool}{Q:Value->Shared->Prop} (I:Inv X pins σ H s) (e:H a=some (.ins C dx fs)) (c:Cls X.K C) (n:zBd X.K C f) (l:fs.lookup f=some v)
  (h:∀ u s',Inv X pins σ H s'->zv v u->Q u s'):wpAny (model X.prog X.w) A (getAttr (.ref a) f b) Q E s:=by
 obtain⟨mA,O,r,_,_,_⟩:=zFb I.hok e
 obtain⟨u,hu,ru⟩:=zAD.some_of (v:=v) (o:=mA f) (by rw[<- l];exact r f)
 exact zRO I.kIn O (c.get f) c.hd n hu (zNZ ru) (h u _ (I.tok _) ru)
theorem zHb {m:Str}{g:Addr}{pl:Sem Bool}{Q:Value×List Value->Shared->Prop} (I:Inv X pins σ H s) (e:H a=some (.ins C dx fs)) (c:Cls X.K C) (k:zMt X.K C m g) (l:fs.lookup m=none)
  (h:Q (.ref g,[.ref a]) s):wpAny (model X.prog X.w) A (getMethod (.ref a) m pl) Q E s:=by
 obtain⟨mA,O,r,_,_,_⟩:=zFb I.hok e
 have hn:mA m=none:=zAD.none_of (by rw[<- l];exact r m)
 exact zPj I.kIn O (c.get m) k.at_ k.fn hn h
theorem zHJ {y:V}{u:Value}{Q:Unit->Shared->Prop} (I:Inv X pins σ H s) (e:H a=some (.ins C dx fs)) (c:Cls X.K C) (n:zBd X.K C f) (hl:fs.length < 1000) (ry:zv y u)
  (h:∀ s',Inv X pins σ (upd H a (.ins C dx (ZG f y fs))) s'->Q () s'):wpAny (model X.prog X.w) A (setAttr (.ref a) f u) Q E s:=by
 obtain⟨mA,O,r,wi,_,ho⟩:=zFb I.hok e
 have hz:(fs.map (·.1)).length <= sizeLine:=by rw[List.length_map,sizeLine_eq];omega
 refine zRQ I.kIn O c.sa c.po n.taker c.hd wi hz fun h' O' sb=>h _ ?_
 have hd:∃ o,h'.get? dx=some o:=let ⟨o,_,_,e',_⟩:=O'.ns;⟨o,e'⟩
 refine I.write (x:=a) (e:=dx) (by rw[e];exact True.intro) (.inr ho) (fun b q hb z=>(sb.2 b hb).trans z) hd ?_
 refine⟨by rw[jZ O.ne];exact ho,?_,O.ne,O'.obj,_,O'.ns,fun g=>?_,fun g hg=>?_⟩
 ·have:=zFv f y fs;omega
 ·show zAD ((ZG f y fs).lookup g) (if g=f then some u else mA g)
  rw[zDP]
  by_cases q:g=f
  ·rw[if_pos q,if_pos q];exact ry
  ·rw[if_neg q,if_neg q];exact r g
 ·by_cases q:g=f
  ·rw[q];exact (zEs f y fs).1
  ·refine (zEs f y fs).2 g (wi g fun z=>hg ?_)
   show (if g=f then some u else mA g)=none
   rw[if_neg q];exact z
theorem Inv.made (I:Inv X pins σ H s):Inv X pins σ (upd (upd H s.heap.objs.size (.own (s.heap.objs.size+1))) (s.heap.objs.size+1) (.ins C s.heap.objs.size []))
  { s with heap:=(s.heap.push PySem.W.emptyDict).push (PySem.W.instObj C s.heap.objs.size) }:=by
 have e1:(s.heap.push PySem.W.emptyDict).get? s.heap.objs.size=some PySem.W.emptyDict:=Heap.get?_push_size s.heap rfl
 have e2:((s.heap.push PySem.W.emptyDict).push (PySem.W.instObj C s.heap.objs.size)).get? (s.heap.objs.size+1)=some (PySem.W.instObj C s.heap.objs.size):=by
  have:=Heap.get?_push_size (s.heap.push PySem.W.emptyDict) (o:=PySem.W.instObj C s.heap.objs.size) rfl
  rwa [Heap.size_push] at this
 have e3:(s.heap.push PySem.W.emptyDict).Ns s.heap.objs.size (fun _=>none):=⟨PySem.W.emptyDict,#[],_,e1,rfl,(fun e he=>absurd he (by simp)),fun _=>rfl⟩
 have I1:=I.laid (a:=s.heap.objs.size) (o:=.own (s.heap.objs.size+1)) (h':=s.heap.push PySem.W.emptyDict) (t':=s.toks) (fun b u q=>Heap.get?_push_of_some _ q) (Nat.le_refl _) ⟨_,e1⟩
 refine I1.laid (a:=s.heap.objs.size+1) (o:=.ins C s.heap.objs.size []) (t':=s.toks) (fun b u q=>Heap.get?_push_of_some _ q) (Nat.le_of_eq (Heap.size_push _ _)) ?_
 have ne:s.heap.objs.size≠s.heap.objs.size+1:=Nat.ne_of_lt (Nat.lt_succ_self _)
 refine⟨by rw[jZ ne,qA],Nat.zero_le _,ne,e2,fun _=>none,(Heap.Ns1.of_empty e3).at fun o q=>Heap.get?_push_of_some _ q,fun _=>True.intro,fun y hy=>absurd rfl hy⟩
theorem zRP {prog:Program}{w:World}{env:Env}{e:Expr}{f:Str}{pos:Pos}{s:Shared}{Q:Value->Shared->Prop} (hb:attributeBase e f env (eval e env)=eval e env)
  (h:wpAny (model prog w) A (eval e env) (fun o s₁=>wpAny (model prog w) A (getAttr o f true) Q E s₁) E s):wpAny (model prog w) A (eval (.Attribute e f pos) env) Q E s :=
 Attribute_any_ h (by rw[arm_eval_Attribute,hb])
end
noncomputable def zUD (K:PySem.W.Frag) (ta:TE) (f:Str):TE:=fun σ H Q=>ta σ H fun x H1=>∃ a C dx fs v,x=.ref a/\H1 a=some (.ins C dx fs)/\Cls K C/\zBd K C f/\fs.lookup f=some v/\Q v H1
noncomputable def zBN (K:PySem.W.Frag) (ta tv:TE) (f:Str):TS:=fun D σ H=>tv σ H fun y H1=>ta σ H1 fun x H2=>∃ a C dx fs,x=.ref a/\H2 a=some (.ins C dx fs)/\Cls K C/\zBd K C f/\fs.length < 1000 /\
 D.nx σ (upd H2 a (.ins C dx (ZG f y fs)))
noncomputable def zTy (X:Cx) (op:Operator) (rd:V->V->Hp->VK->Prop):Prop :=
 ∀ (pins:List (Addr×Obj)) (s:Shared) (σ:St) (H:Hp) (x y:V) (u v:Value) (Q:VK),Inv X pins σ H s->zv x u->zv y v->rd x y H Q->wpAny (model X.prog X.w) X.A (inplaceOp op u v) (EP X pins σ Q) X.xe s
noncomputable def zBD (K:PySem.W.Frag) (ta tv:TE) (rd:V->V->Hp->VK->Prop) (f:Str):TS:=fun D σ H=>ta σ H fun x H1=>∃ a C dx fs v,x=.ref a/\H1 a=some (.ins C dx fs)/\Cls K C/\zBd K C f/\fs.lookup f=some v /\
 tv σ H1 fun y H2=>rd v y H2 fun z H3=>∃ dx' fs',H3 a=some (.ins C dx' fs')/\fs'.length < 1000/\D.nx σ (upd H3 a (.ins C dx' (ZG f z fs')))
section
variable {X:Cx}{o e value:Expr}{f:Str}{pos pos' tpos:Pos}{ta tv:TE}
theorem zSm (he:PE X e ta) (hb:attributeBase e f X.env (eval e X.env)=eval e X.env):PE X (.Attribute e f pos) (zUD X.K ta f):=by
 intro pins s σ H Q I h
 refine zRP hb (thn (he pins s σ H _ I h) fun u s1 ⟨x,H1,I1,rx,a,C,dx,fs,v,ex,ea,c,n,l,q⟩=>?_)
 subst ex
 obtain rfl:u=Value.ref a:=rx
 exact zHp I1 ea c n l fun u' s2 I2 ru=>⟨v,H1,I2,ru,q⟩
theorem zRa (ha:PE X o ta) (hv:PE X value tv) (hs:swapsWith value (some (.Attribute o f pos')) pos.line X.env=pure false):PS X (.Assign [.Attribute o f pos'] value pos) (zBN X.K ta tv f):=by
 intro pins s σ H D I h
 refine plainObj_wpAny_Assign_Attribute (thn (hv pins s σ H _ I h) fun u s1 ⟨y,H1,I1,ry,q⟩=>thn (ha pins s1 σ H1 _ I1 q) fun ov s2 ⟨x,H2,I2,rx,a,C,dx,fs,ex,ea,c,n,l,q2⟩=>?_) hs
 subst ex
 obtain rfl:ov=Value.ref a:=rx
 exact zHJ I2 ea c n l ry fun s3 I3=>⟨σ,_,I3,q2⟩
theorem zOE {op:Operator}{rd:V->V->Hp->VK->Prop} (ha:PE X o ta) (hv:PE X value tv) (hop:zTy X op rd):PS X (.AugAssign (.Attribute o f tpos) op value pos) (zBD X.K ta tv rd f):=by
 intro pins s σ H D I h
 refine wpAny_AugAssign_AttributeAny (thn (ha pins s σ H _ I h) fun ov s1 ⟨x,H1,I1,rx,a,C,dx,fs,v,ex,ea,c,n,l,q⟩=>?_)
 subst ex
 obtain rfl:ov=Value.ref a:=rx
 refine zHp I1 ea c n l fun u s2 I2 ru=>thn (hv pins s2 σ H1 _ I2 q) fun w3 s3 ⟨y,H2,I3,ry,q3⟩=>thn (hop pins s3 σ H2 v y u w3 _ I3 ru ry q3) fun w4 s4 ⟨z,H3,I4,rz,dx',fs',ea',l',q4⟩=>?_
 exact zHJ I4 ea' c n l' rz fun s5 I5=>⟨σ,_,I5,q4⟩
end
section
variable {X:Cx}{pins:List (Addr×Obj)}{σ:St}{H:Hp}{s:Shared}{A:Around}{E:Value->Shared->Prop}{Q:Value->Shared->Prop}{c:Value}{b:Bool}
inductive zA6 (K:PySem.W.Frag) (H:Hp):V->Value->Prop where
 | non:zA6 K H .non (.type "NoneType")
 | bl (x:Bool):zA6 K H (.bl x) (.type "bool")
 | int (i:Int):zA6 K H (.int i) (.type "int")
 | str (x:Str):zA6 K H (.str x) (.type "str")
 | flt (x:UInt64):zA6 K H (.flt x) (.type "float")
 | lst {a:Addr}{xs:List V} (e:H a=some (.lst xs)):zA6 K H (.ref a) (.type "list")
 | frz {a:Addr}{o:Obj}{xs:List V} (e:H a=some (.frz o (.lst xs))):zA6 K H (.ref a) (.type "list")
 | tup {a:Addr}{xs:List V} (e:H a=some (.tup xs)):zA6 K H (.ref a) (.type "tuple")
 | dK {a:Addr}{kvs:List (Key×V)} (e:H a=some (.dK kvs)):zA6 K H (.ref a) (.type "dict")
 | dT {a:Addr}{kvs:List (List Key×V)} (e:H a=some (.dT kvs)):zA6 K H (.ref a) (.type "dict")
 | ins {a C dx:Addr}{fs:List (Str×V)} (e:H a=some (.ins C dx fs)) (cl:Cls K C) (ha:PySem.W.findIn K (.ref C) "__class__" = some (some (.builtin "object.__class__")))
   (hn:PySem.W.specialIn K (.builtin "object.__class__") "__get__" = some (some (.builtin "getset_descriptor.__get__"))) (htk:PySem.W.takesIn K (.builtin "object.__class__")=some true)
   (hm:PySem.W.mroIn K C (.type "object")=some true):zA6 K H (.ref a) (.ref C)
theorem zN0 {x:V}{u t:Value} (I:Inv X pins σ H s) (rx:zv x u) (ty:zA6 X.K H x t) (e:PySem.W.kitOne X.K t c=some b) (h:∀ tk,Q (.bool b) { s with toks:=tk }) :
  wpAny (model X.prog X.w) A (call (.builtin "isinstance") [u,c]) Q E s:=by
 cases ty with
 | non=>cases (show u=Value.none from rx);exact PySem.W.kia_one PySem.W.kitx_none I.kIn True.intro e (fun z=>nomatch z) h
 | bl y=>cases (show u=Value.bool y from rx);exact PySem.W.kia_one PySem.W.kitx_bool I.kIn True.intro e (fun z=>nomatch z) h
 | int i=>obtain⟨t,q⟩:=(show ∃ t,u=Value.int i t from rx);cases q;exact PySem.W.kia_one PySem.W.kitx_int I.kIn True.intro e (fun z=>nomatch z) h
 | str y=>obtain⟨t,q⟩:=(show ∃ t,u=Value.str y t from rx);cases q;exact PySem.W.kia_one PySem.W.kitx_str I.kIn True.intro e (fun z=>nomatch z) h
 | flt y=>obtain⟨t,q⟩:=(show ∃ t,u=Value.float y t from rx);cases q;exact PySem.W.kia_one PySem.W.kitx_float I.kIn True.intro e (fun z=>nomatch z) h
 | @lst a xs ea =>
  cases (show u=Value.ref a from rx)
  obtain⟨_,_,n,_,h1⟩:=(show qS X.prog X.w H s.heap a (.lst xs) from I.hok a _ ea)
  exact PySem.W.kia_one PySem.W.kitx_list I.kIn ⟨_,h1,rfl⟩ e (fun z=>nomatch z) h
 | @frz a ob xs ea =>
  cases (show u=Value.ref a from rx)
  obtain⟨_,_,_,n,_,h1⟩:=(show qS X.prog X.w H s.heap a (.frz ob (.lst xs)) from I.hok a _ ea)
  exact PySem.W.kia_one PySem.W.kitx_list I.kIn ⟨_,h1,rfl⟩ e (fun z=>nomatch z) h
 | @tup a xs ea =>
  cases (show u=Value.ref a from rx)
  obtain⟨_,_,_,p⟩:=(show qS X.prog X.w H s.heap a (.tup xs) from I.hok a _ ea)
  obtain⟨o,h1,h2,_⟩:=p
  exact PySem.W.kia_one PySem.W.kitx_tuple I.kIn ⟨o,h1,h2⟩ e (fun z=>nomatch z) h
 | @dK a kvs ea =>
  cases (show u=Value.ref a from rx)
  obtain⟨_,_,vs,_,p⟩:=(show qS X.prog X.w H s.heap a (.dK kvs) from I.hok a _ ea)
  obtain⟨o,es,ep,h1,h2,_⟩:=p
  exact PySem.W.kia_one PySem.W.kitx_dict I.kIn ⟨o,h1,h2.1⟩ e (fun z=>nomatch z) h
 | @dT a kvs ea =>
  cases (show u=Value.ref a from rx)
  obtain⟨_,_,xs,_,o,es,ep,h1,h2,_⟩:=(show qS X.prog X.w H s.heap a (.dT kvs) from I.hok a _ ea)
  exact PySem.W.kia_one PySem.W.kitx_dict I.kIn ⟨o,h1,h2.1⟩ e (fun z=>nomatch z) h
 | @ins a C dx fs ea cl ha hn htk hm =>
  cases (show u=Value.ref a from rx)
  obtain⟨mA,O,_⟩:=zFb I.hok ea
  obtain⟨od,J,_⟩:=O.look
  exact PySem.W.kia_one (PySem.W.kitx_own (cl.get _) cl.hd ha hn htk hm) I.kIn J e (fun z=>nomatch z) h
end
end L2
namespace L2
open PySem PySem.Spec PyProof.Rows
structure jY (k:Nat) (A:Around):Prop where
 hd:A.handled=none
 dp:A.depth+3 * k+5 < recursionLimit
 un:A.units+16 * k+200 < cLine
theorem jY.mono {j k:Nat}{A:Around} (r:jY k A) (h:j <= k):jY j A:=⟨r.hd,by have:=r.dp;omega,by have:=r.un;omega⟩
theorem jY.deeper {k:Nat}{A:Around} (r:jY (k+1) A) (env:Env):jY k (A.deeper env) :=
 ⟨r.hd,by have:=r.dp;show A.depth+1+3 * k+5 < _;omega,by have:=r.un;show A.units+3+16 * k+200 < _;omega⟩
theorem zMo {A:Around}{C:Addr}{us:List Value}{kw:List (Str×Value)}:(A.under (.builtin "type.__call__" ⟨.ref C::us,kw⟩)).depth=A.depth+1:=by
 first | rfl | simp[Around.under,Code.weight,Code.isCreation,Code.isGuard,Code.isCaller,Code.frames,Code.isFrame,guardIds]
theorem zMp {A:Around}{C:Addr}{us:List Value}{kw:List (Str×Value)}:(A.under (.builtin "type.__call__" ⟨.ref C::us,kw⟩)).units=A.units+1:=by
 first | rfl | simp[Around.under,Code.cUnits,Code.frames,Code.isFrame]
theorem jY.make {k:Nat}{A:Around} (r:jY (k+1) A) (C:Addr) (us:List Value) (kw:List (Str×Value)):jY k (A.under (.builtin "type.__call__" ⟨.ref C::us,kw⟩)) :=
 ⟨r.hd,by have:=r.dp;rw[zMo];omega,by have:=r.un;rw[zMp];omega⟩
theorem jY.depth {k:Nat}{A:Around} (r:jY k A):A.depth < recursionLimit:=by have:=r.dp;omega
theorem jY.units {k:Nat}{A:Around} (r:jY k A):A.units+64 < cLine:=by have:=r.un;omega
theorem jY.units0 {k:Nat}{A:Around} (r:jY k A):A.units < cLine:=by have:=r.un;omega
noncomputable def zSW:TA:=fun _ H Q=>Q [] H
noncomputable def zTX (ta:TE) (tr:TA):TA:=fun σ H Q=>ta σ H fun x H1=>tr σ H1 fun xs H2=>Q (x::xs) H2
section
variable {X:Cx}{e:Expr}{es:List Expr}{te:TE}{t:TA}{pos:Pos}
theorem zKR:PA X [] zSW:=fun _ _ _ _ H Q I h=>Calls.spliced_nil ⟨[],H,I,.nil,h⟩
theorem zIa (ha:PE X e te) (hr:PA X es t) (hs:starEach (e::es) X.env=(false,eval e X.env)::starEach es X.env:=by rfl):PA X (e::es) (zTX te t):=by
 intro pos pins s σ H Q I h
 rw[hs]
 show wpAny _ _ (spliced ((false,eval e X.env)::backTo pos (starEach es X.env))) _ _ s
 refine Calls.spliced_cons (thn (ha pins s σ H _ I h) fun u s1 ⟨x,H1,I1,r1,q1⟩=>?_)
 exact thn (hr pos pins s1 σ H1 _ I1 q1) fun us s2 ⟨xs,H2,I2,r2,q2⟩=>⟨x::xs,H2,I2,.cons r1 r2,q2⟩
noncomputable def zUJ (t:TA):TE:=fun σ H Q=>t σ H fun xs H1=>xs.length <= sizeLine/\∀ p,H1 p=none->Q (.ref p) (upd H1 p (.tup xs))
noncomputable def zUA (t:TA):TE:=fun σ H Q=>t σ H fun xs H1=>xs.length <= sizeLine/\∀ p,H1 p=none->Q (.ref p) (upd H1 p (.lst xs))
theorem zSx {x1} (h:PA X es t):PE X (.Tuple es x1 pos) (zUJ t):=by
 intro pins s σ H Q I hq
 refine wpAny_Tuple_spliced (thn (h pos pins s σ H _ I hq) fun us s1 ⟨xs,H1,I1,r,z,q⟩=>⟨by rw[<- r.length];exact z,?_⟩)
 have hf:H1 s1.heap.objs.size=none:=I1.hok.fresh (Nat.le_refl _)
 refine⟨.ref s1.heap.objs.size,upd H1 s1.heap.objs.size (.tup xs),I1.laid (t':=s1.toks) (fun b u e=>Heap.get?_push_of_some _ e) (Nat.le_refl _) ?_,rfl,q _ hf⟩
 exact⟨z,us,r,⟨_,Heap.get?_push_size _ rfl,rfl,_,rfl⟩⟩
theorem zS8 (h:PA X es t):PE X (.List es pos) (zUA t):=by
 intro pins s σ H Q I hq
 refine wpAny_List_spliced (thn (h pos pins s σ H _ I hq) fun us s1 ⟨xs,H1,I1,r,z,q⟩=>⟨by rw[<- r.length];exact z,?_⟩)
 have hf:H1 s1.heap.objs.size=none:=I1.hok.fresh (Nat.le_refl _)
 refine⟨.ref s1.heap.objs.size,upd H1 s1.heap.objs.size (.lst xs),I1.laid (t':=s1.toks) (fun b u e=>Heap.get?_push_of_some _ e) (Nat.le_refl _) ?_,rfl,q _ hf⟩
 exact⟨z,us,0,r,Heap.get?_push_size _ rfl⟩
end
noncomputable abbrev Sp:=List V->Hp->VK->XK->Prop
noncomputable abbrev CXT:=List Env->Hp->Shared->XK->Value->Shared->Prop
structure zGb (P:Program) (w:World) (K:PySem.W.Frag) (mg:Str->Option Value) (base:Heap) (A:Around) (outer:List Env) (s:Shared) (H:Hp):Prop where
 frames:A.frames=some outer
 mod:Mod K mg base
 bs:∀ b o,base.get? b=some o->s.heap.get? b=some o/\H b=none
 bsz:base.objs.size <= s.heap.objs.size
 funs:s.heap.FunFrames base outer
 frf:∀ b∈frs outer,H b=none
 hok:HOk P w H s.heap
 bare:AllBare s.gens
noncomputable def CE (outer:List Env) (P:Program) (w:World) (H:Hp) (s:Shared) (Q:VK) (u:Value) (s':Shared):Prop :=
 ∃ v H',s'.os=s.os/\AllBare s'.gens/\Un (frs outer) [] H H' s.heap s'.heap/\HOk P w H' s'.heap/\zv v u/\Q v H'
noncomputable def CR (CX:CXT) (outer:List Env) (P:Program) (w:World) (H:Hp) (s:Shared) (Q:VK) (E:XK) (r:Result) (s':Shared):Prop :=
 match r with
 | .ok (.ret u)=>CE outer P w H s Q u s'
 | .ok _=>False
 | .error e=>CX outer H s E e s'
structure jX (P:Program) (w:World) (K:PySem.W.Frag) (mg:Str->Option Value) (base:Heap) (CX:CXT) (k:Nat) (f:Addr) (fd:FuncData) (ps:List Str) (sp:Sp):Prop where
 len:∀ vs H Q E,sp vs H Q E->vs.length=ps.length
 run:∀ (A:Around) (outer:List Env) (s:Shared) (H:Hp) (args:Args) (us:List Value) (vs:List V) (Q:VK) (E:XK),jY k A->zGb P w K mg base A outer s H->(0 < s.toks\/∃ p∈ps,fd.scope.names.lookup p=some .local)->BindsTo s fd args (ps.zip us)->ze vs us->sp vs H Q E ->
  codeAny (model P w) A (.call (.ref f) args) (CR CX outer P w H s Q E) s
theorem jX.imp {P:Program}{w:World}{K:PySem.W.Frag}{mg:Str->Option Value}{base:Heap}{CX:CXT}{k:Nat}{f:Addr}{fd:FuncData}{ps:List Str}{sp sp':Sp} (F:jX P w K mg base CX k f fd ps sp)
  (h:∀ vs H Q E,sp' vs H Q E->sp vs H Q E):jX P w K mg base CX k f fd ps sp' :=
 ⟨fun vs H Q E q=>F.len vs H Q E (h _ _ _ _ q),fun A outer s H args us vs Q E hr he ht hb hv hs=>F.run A outer s H args us vs Q E hr he ht hb hv (h _ _ _ _ hs)⟩
theorem zGb.make {P:Program}{w:World}{K:PySem.W.Frag}{mg:Str->Option Value}{base:Heap}{A:Around}{outer:List Env}{s:Shared}{H:Hp} (e:zGb P w K mg base A outer s H) (C:Addr) (us:List Value) (kw:List (Str×Value)) :
  zGb P w K mg base (A.under (.builtin "type.__call__" ⟨.ref C::us,kw⟩)) outer s H:=⟨by first | exact e.frames | (simpa [Around.under,Code.envs,Code.isFrame,pushEnvs] using e.frames),e.mod,e.bs,e.bsz,e.funs,e.frf,e.hok,e.bare⟩
section
variable {X:Cx}{pins:List (Addr×Obj)}{σ:St}{H:Hp}{s s':Shared}
theorem Inv.env0 (I:Inv X pins σ H s):zGb X.prog X.w X.K X.mg X.base X.A X.stack s H :=
 ⟨I.ok.frames,I.ok.mod,I.bs,Nat.le_trans I.ok.bsz I.sz,I.stack,I.stkFree,I.hok,I.bare⟩
theorem Inv.after {Q:VK}{u:Value} (I:Inv X pins σ H s) (h:CE X.stack X.prog X.w H s Q u s') (ht:0 < s'.toks):EP X pins σ Q u s':=by
 obtain⟨v,H',os,bare,un,hok,r,q⟩:=h
 obtain⟨hh,g,d,t,os'⟩:=s'
 obtain rfl:os'=s.os:=os
 exact⟨v,H',I.call (h':=hh) (g':=g) (d':=d) (t':=t) (ch:=[]) un hok bare (fun b z=>absurd z (by simp)) ht,r,q⟩
end
noncomputable def zPq (sp:Sp) (dvs:List V) (E:XK) (t:TA):TE:=fun σ H Q=>t σ H fun vs H1=>sp (vs++dvs) H1 Q E
noncomputable def zPn (C:Addr) (m:Str) (sp:Sp) (dvs:List V) (E:XK) (ta:TE) (t:TA):TE:=fun σ H Q=>ta σ H fun x H1=>∃ a dx fs,x=.ref a/\H1 a=some (.ins C dx fs)/\fs.lookup m=none /\
 t σ H1 fun vs H2=>sp (x::(vs++dvs)) H2 Q E
noncomputable def zTB (C:Addr) (sp:Sp) (dvs:List V) (E:XK) (t:TA):TE:=fun σ H Q=>t σ H fun vs H1=>∀ x dx,H1 x=none->H1 dx=none->dx≠x ->
 sp (.ref x::(vs++dvs)) (upd (upd H1 dx (.own x)) x (.ins C dx [])) (fun v H2=>v=.non/\Q (.ref x) H2) E
noncomputable def zAQ (K:PySem.W.Frag) (fd:FuncData) (ps:List Str) (ds:List Value):Prop :=
 ∀ (s:Shared) (us:List Value),K.In s.heap->(us++ds).length=ps.length->BindsTo s fd ⟨us,[]⟩ (ps.zip (us++ds))
theorem zAQ.all {K:PySem.W.Frag}{fd:FuncData}{ps:List Str} (h:∀ us:List Value,us.length=ps.length->bindArgs fd ⟨us,[]⟩=pure (ps.zip us)):zAQ K fd ps []:=fun s us _ hl=>by
 rw[List.append_nil] at hl ⊢
 exact .of_eq (h us hl)
noncomputable def Zd (CX:CXT) (X:Cx) (E:XK):Prop:=∀ (pins:List (Addr×Obj)) (σ:St) (H:Hp) (s:Shared) (e:Value) (s':Shared),Inv X pins σ H s->CX X.stack H s E e s'->X.xe e s'
section
variable {X:Cx}{CX:CXT}{k:Nat}{f C:Addr}{fd:FuncData}{ps:List Str}{sp:Sp}{dvs:List V}{ds:List Value}{E:XK}{x m:Str}{p pos apos:Pos}{e o:Expr}{es:List Expr}{ta:TE}{t:TA}
theorem zKs {pins:List (Addr×Obj)}{σ:St}{H:Hp}{s:Shared}{Q:VK}{us:List Value}{vs:List V} (F:jX X.prog X.w X.K X.mg X.base CX k f fd ps sp) (hr:jY k X.A) (hb:zAQ X.K fd ps ds) (hd:ze dvs ds) (hx:Zd CX X E)
  (I:Inv X pins σ H s) (r:ze vs us) (h:sp (vs++dvs) H Q E):wpAny (model X.prog X.w) X.A (call (.ref f) us) (EP X pins σ Q) X.xe s:=by
 have r2:ze (vs++dvs) (us++ds):=r.append hd
 have hl:(us++ds).length=ps.length:=by rw[<- r2.length];exact F.len _ _ _ _ h
 refine wpAny_call (codeAny_mono (codeAny_toks_of (n:=1) I.tk (F.run X.A X.stack s H ⟨us,[]⟩ (us++ds) (vs++dvs) Q E hr I.env0 (.inl I.tk) (hb s us I.kIn hl) r2 h)) fun r s' ⟨htk,hq⟩=>?_)
 cases r with
 | error e=>exact hx pins σ H s e s' I hq
 | ok fl =>
  cases fl with
  | ret u=>exact I.after hq htk
  | next=>exact False.elim hq
  | brk=>exact False.elim hq
  | cont=>exact False.elim hq
theorem zQo (F:jX X.prog X.w X.K X.mg X.base CX k f fd ps sp) (hr:jY k X.A) (hg:Gl X x) (hm:X.mg x=some (.ref f)) (hk:PySem.W.keepIn X.K (.ref f)=true) (hb:zAQ X.K fd ps ds) (hd:ze dvs ds) (hx:Zd CX X E)
  (ha:PA X (e::es) t) (hdb:(x == ("__debug__" : Str))=false:=by decide) (he:starEach (e::es) X.env=(false,eval e X.env)::starEach es X.env:=by rfl) (hpl:(backTo pos (starEach es X.env)).any (·.1)=false:=by rfl) :
  PE X (.Call (.Name x p) (e::es) [] pos) (zPq sp dvs E t):=by
 intro pins s σ H Q I h
 refine wpAny_Call_Name_kw (zIT I hg hm ?_ hdb)
 refine PySem.W.callWith_K (h₀:=X.base) I.ok.mod.kin hk (thn (ha pos pins s σ H _ I h) fun us s1 ⟨vs,H1,I1,r,q⟩=>⟨I1.kIn,?_⟩) he hpl
 exact zKs F hr hb hd hx I1 r q
theorem zP9 {pl:Sem Bool} (he:PE X o ta) (c:Cls X.K C) (hm:zMt X.K C m f) (F:jX X.prog X.w X.K X.mg X.base CX k f fd ps sp) (hr:jY k X.A) (hb:zAQ X.K fd ps ds) (hd:ze dvs ds) (hx:Zd CX X E) (ha:PA X (e::es) t)
  (hst:starEach (e::es) X.env=(false,eval e X.env)::starEach es X.env:=by rfl) (hpl:(backTo pos (starEach es X.env)).any (·.1)=false:=by rfl)
  (ht:eval (.Call (.Attribute o m apos) (e::es) [] pos) X.env=(do
   let ov <- eval o X.env
   standAt apos.atName
   let (f,first) <- holding [ov] (getMethod ov m pl)
   callWith pos f first (backTo pos (starEach (e::es) X.env)) (backToKw pos (keywordEach [] X.env))):=by rfl) :
  PE X (.Call (.Attribute o m apos) (e::es) [] pos) (zPn C m sp dvs E ta t):=by
 intro pins s σ H Q I h
 refine PySem.W.methodCall_KW (pl:=pl) (thn (he pins s σ H _ I h) fun u s1 ⟨x,H1,I1,rx,a,dx,fs,ex,ea,l,q⟩=>?_) ht
 subst ex
 obtain rfl:u=Value.ref a:=rx
 refine zHb I1 ea c hm l ?_
 refine PySem.W.callWith_K (first:=[.ref a]) (h₀:=X.base) I.ok.mod.kin hm.kp (thn (ha pos pins s1 σ H1 _ I1 q) fun us s2 ⟨vs,H2,I2,r,q2⟩=>⟨I2.kIn,?_⟩) hst hpl
 exact zKs (us:=.ref a::us) (vs:=.ref a::vs) F hr hb hd hx I2 (.cons rfl r) q2
theorem zOf {pl:Sem Bool} (he:PE X o ta) (c:Cls X.K C) (hm:zMt X.K C m f) (F:jX X.prog X.w X.K X.mg X.base CX k f fd ps sp) (hr:jY k X.A) (hb:zAQ X.K fd ps ds) (hd:ze dvs ds) (hx:Zd CX X E)
  (ht:eval (.Call (.Attribute o m apos) [] [] pos) X.env=(do
   let ov <- eval o X.env
   standAt apos.atName
   let (f,first) <- holding [ov] (getMethod ov m pl)
   callWith pos f first (backTo pos (starEach [] X.env)) (backToKw pos (keywordEach [] X.env))):=by rfl) :
  PE X (.Call (.Attribute o m apos) [] [] pos) (zPn C m sp dvs E ta zSW):=by
 intro pins s σ H Q I h
 refine PySem.W.methodCall_KW (pl:=pl) (thn (he pins s σ H _ I h) fun u s1 ⟨x,H1,I1,rx,a,dx,fs,ex,ea,l,q⟩=>?_) ht
 subst ex
 obtain rfl:u=Value.ref a:=rx
 refine zHb I1 ea c hm l ?_
 exact PySem.W.callWith_K0 (first:=[.ref a]) I1.kIn hm.kp (zKs (us:=[.ref a]) (vs:=[.ref a]) F hr hb hd hx I1 (.cons rfl .nil) q)
structure Mk (K:PySem.W.Frag) (C f:Addr):Prop where
 makes:PySem.W.makesIn K C=true
 init:PySem.W.findIn K (.ref C) "__init__" = some (some (.ref f))
 fn:PySem.W.isFn K (.ref f)=true
 kp:PySem.W.keepIn K (.ref C)=true
theorem zPW {pins:List (Addr×Obj)}{σ:St}{H:Hp}{s:Shared}{Q:VK}{us:List Value}{vs:List V} (M:Mk X.K C f) (F:jX X.prog X.w X.K X.mg X.base CX k f fd ps sp) (hr:jY (k+1) X.A) (hb:zAQ X.K fd ps ds) (hd:ze dvs ds)
  (hx:Zd CX X E) (I:Inv X pins σ H s) (r:ze vs us)
  (h:∀ x dx,H x=none->H dx=none->dx≠x->sp (.ref x::(vs++dvs)) (upd (upd H dx (.own x)) x (.ins C dx [])) (fun v H2=>v=.non/\Q (.ref x) H2) E) :
  wpAny (model X.prog X.w) X.A (call (.ref C) us) (EP X pins σ Q) X.xe s:=by
 have hq:=h (s.heap.objs.size+1) s.heap.objs.size (I.hok.fresh (Nat.le_succ _)) (I.hok.fresh (Nat.le_refl _)) (Nat.ne_of_lt (Nat.lt_succ_self _))
 have I2:=Inv.made (C:=C) I
 have r2:ze (V.ref (s.heap.objs.size+1)::(vs++dvs)) (Value.ref (s.heap.objs.size+1)::(us++ds)):=.cons rfl (r.append hd)
 have hl:(Value.ref (s.heap.objs.size+1)::us++ds).length=ps.length:=by
  have e:=r2.length
  rw[F.len _ _ _ _ hq] at e
  exact e.symm
 refine wpAny_call (zOa (f:=f) I.kIn M.makes M.init (beq_iff_eq.mp M.fn) (codeAny_mono (codeAny_toks_of (n:=1) I2.tk (F.run _ X.stack _ _ ⟨Value.ref (s.heap.objs.size+1)::us,[]⟩ (Value.ref (s.heap.objs.size+1)::(us++ds)) _ _ E (hr.make C us [])
  (I2.env0.make C us []) (.inl I2.tk) (hb _ (Value.ref (s.heap.objs.size+1)::us) I2.kIn hl) r2 hq)) fun r s' ⟨htk,hq'⟩=>?_))
 cases r with
 | error e=>exact hx pins σ _ _ e s' I2 hq'
 | ok fl =>
  cases fl with
  | ret u =>
   obtain⟨v,H',I3,rv,ev,q3⟩:=I2.after hq' htk
   subst ev
   exact⟨rv,⟨V.ref (s.heap.objs.size+1),H',I3,rfl,q3⟩⟩
  | next=>exact False.elim hq'
  | brk=>exact False.elim hq'
  | cont=>exact False.elim hq'
theorem zRG (M:Mk X.K C f) (F:jX X.prog X.w X.K X.mg X.base CX k f fd ps sp) (hr:jY (k+1) X.A) (hg:Gl X x) (hm:X.mg x=some (.ref C)) (hb:zAQ X.K fd ps ds) (hd:ze dvs ds) (hx:Zd CX X E)
  (ha:PA X (e::es) t) (hdb:(x == ("__debug__" : Str))=false:=by decide) (he:starEach (e::es) X.env=(false,eval e X.env)::starEach es X.env:=by rfl) (hpl:(backTo pos (starEach es X.env)).any (·.1)=false:=by rfl) :
  PE X (.Call (.Name x p) (e::es) [] pos) (zTB C sp dvs E t):=by
 intro pins s σ H Q I h
 refine wpAny_Call_Name_kw (zIT I hg hm ?_ hdb)
 refine PySem.W.callWith_K (h₀:=X.base) I.ok.mod.kin M.kp (thn (ha pos pins s σ H _ I h) fun us s1 ⟨vs,H1,I1,r,q⟩=>⟨I1.kIn,?_⟩) he hpl
 exact zPW M F hr hb hd hx I1 r q
end
section
variable {X:Cx}{CX:CXT}{k:Nat}{f C:Addr}{fd:FuncData}{ps ks:List Str}{sp:Sp}{E:XK}{x m:Str}{p pos apos kpos:Pos}{e o:Expr}{es:List Expr}{kws:List Keyword}{te ta:TE}{t tk:TA}{nm:Option Str}
structure zUV (K:PySem.W.Frag) (fd:FuncData) (ps ks:List Str) (g:List Value->List Value->List Value) (gV:List V->List V->List V):Prop where
 to:∀ (s:Shared) (us ws:List Value),K.In s.heap->(g us ws).length=ps.length->BindsTo s fd ⟨us,ks.zip ws⟩ (ps.zip (g us ws))
 rel:∀ {vs:List V}{us:List Value}{zs:List V}{ws:List Value},ze vs us->ze zs ws->ze (gV vs zs) (g us ws)
variable {g:List Value->List Value->List Value}{gV:List V->List V->List V}
end
structure jE (N P:List Str) (sc:Scope):Prop where
 kind:sc.kind=.function
 co:sc.isCoroutine=false
 gen:sc.isGenerator=false
 nd:N.Nodup
 pre:N.take P.length=P
 par:∀ x∈P,sc.names.lookup x=some .local\/sc.names.lookup x=some .cell
 nofree:∀ y∈sc.names,y.2≠.free
theorem zI7 {kindOf:Str->Option NameKind}{x:Str}:∀ {binds:List (Str×Value)}{m:Str->Option Value},(∀ v,(x,v)∉binds)->bindL kindOf binds m x=m x
 | [],_,_=>rfl
 | (n,v)::r,m,h=>by
  unfold bindL
  rw[zI7 fun w hw=>h w (List.mem_cons_of_mem _ hw)]
  split
  ·have:x≠n:=by rintro rfl;exact h v List.mem_cons_self
   simp[this]
  ·rfl
theorem zIw {kindOf:Str->Option NameKind}{x:Str}:∀ {binds:List (Str×Value)}{m:Str->Option Value},(∀ v,(x,v)∉binds)->bindC kindOf binds m x=m x
 | [],_,_=>rfl
 | (n,v)::r,m,h=>by
  unfold bindC
  rw[zIw fun w hw=>h w (List.mem_cons_of_mem _ hw)]
  split
  ·rfl
  ·have:x≠n:=by rintro rfl;exact h v List.mem_cons_self
   simp[this]
theorem zIv {kindOf:Str->Option NameKind}{x:Str}{v:Value}:∀ {P:List Str}{vs:List Value}{i:Nat}{m:Str->Option Value},P.Nodup->P[i]? = some x->vs[i]? = some v->kindOf x=some .local ->
  bindL kindOf (P.zip vs) m x=some v
 | [],_,_,_,_,h,_,_=>by simp at h
 | _::_,[],_,_,_,_,h,_=>by simp at h
 | p::P,w::vs,0,m,nd,h1,h2,hk=>by
  simp at h1 h2;subst h1;subst h2
  show bindL kindOf ((p,w)::P.zip vs) m p=_
  unfold bindL
  rw[zI7 fun v hv=>(List.nodup_cons.mp nd).1 (List.of_mem_zip hv).1,if_pos hk]
  simp
 | p::P,w::vs,i+1,m,nd,h1,h2,hk=>by
  show bindL kindOf ((p,w)::P.zip vs) m x=_
  unfold bindL
  exact zIv (i:=i) (List.nodup_cons.mp nd).2 (by simpa using h1) (by simpa using h2) hk
theorem zIh {kindOf:Str->Option NameKind}{x:Str}{v:Value}:∀ {P:List Str}{vs:List Value}{i:Nat}{m:Str->Option Value},P.Nodup->P[i]? = some x->vs[i]? = some v->kindOf x≠some .local ->
  bindC kindOf (P.zip vs) m x=some v
 | [],_,_,_,_,h,_,_=>by simp at h
 | _::_,[],_,_,_,_,h,_=>by simp at h
 | p::P,w::vs,0,m,nd,h1,h2,hk=>by
  simp at h1 h2;subst h1;subst h2
  show bindC kindOf ((p,w)::P.zip vs) m p=_
  unfold bindC
  rw[zIw fun v hv=>(List.nodup_cons.mp nd).1 (List.of_mem_zip hv).1,if_neg hk]
  simp
 | p::P,w::vs,i+1,m,nd,h1,h2,hk=>by
  show bindC kindOf ((p,w)::P.zip vs) m x=_
  unfold bindC
  exact zIh (i:=i) (List.nodup_cons.mp nd).2 (by simpa using h1) (by simpa using h2) hk
noncomputable def Zm (N:List Str) (vs:List V):St:=vs.map some++List.replicate (N.length - vs.length) none
noncomputable def zCR (CX:CXT) (P:Program) (w:World) (K:PySem.W.Frag) (mg:Str->Option Value) (base:Heap) (N:List Str) (qual:Str) (scope:Scope) (f:Addr) (cd:Value) (A:Around) (outer:List Env) (s:Shared) (H:Hp) (E:XK):Cx where
 prog:=P
 w:=w
 K:=K
 mg:=mg
 base:=base
 A:=A.deeper (envOfC qual scope s.heap.objs.size f cd)
 N:=N
 s₀:=s
 H₀:=H
 env:=envOfC qual scope s.heap.objs.size f cd
 outer:=outer
 stack:=envOfC qual scope s.heap.objs.size f cd::outer
 ex:=[]
 calm:=true
 fn:=fun _=>true
 pn:=[]
 xe:=fun e s'=>wpAny (model P w) (A.deeper (envOfC qual scope s.heap.objs.size f cd)) (leaving (envOfC qual scope s.heap.objs.size f cd) e) (fun _ s''=>CX outer H s E e s'') (fun e' s''=>CX outer H s E e' s'') s'
theorem zK9 {sc:Scope}{n:Nat}{x:Str} (h:sc.names.lookup x=some .cell):∃ c,(cellsFrom n sc.names []).lookup x=some c:=by
 have q:=PySem.W.cellsFrom_some sc.names n [] (.inl h)
 exact Option.isSome_iff_exists.mp q
theorem zDJ {M:Model}{A:Around}{E:Value->Shared->Prop}{s₀:Shared}{env:Env} (f:Str×Value->PUnit->Sem (ForInStep PUnit)) (hf:∀ n v u,f (n,v) u=(do storeName env n v;pure (.yield ⟨⟩))) (hk:env.scope.kind=.function) :
  ∀ (binds:List (Str×Value)) (m cm:Str->Option Value) (s:Shared) (Q:PUnit->Shared->Prop),InCallC s₀ env.locals m env.cells cm s ->
   (∀ x∈binds,env.kindOf x.1=some .local\/(env.kindOf x.1=some .cell/\(env.cells.lookup x.1).isSome=true)) ->
   (∀ s',InCallC s₀ env.locals (bindL env.kindOf binds m) env.cells (bindC env.kindOf binds cm) s'->((0 < s.toks\/∃ b∈binds,env.kindOf b.1=some .local)->0 < s'.toks)->Q ⟨⟩ s')->wpAny M A (forIn binds ⟨⟩ f) Q E s
 | [],m,cm,s,Q,x,_,h=>by
  rw[List.forIn_nil]
  exact wpAny_pure (h s x fun z=>z.elim id fun ⟨b,hb,_⟩=>absurd hb (by simp))
 | (n,v)::r,m,cm,s,Q,x,hkind,h=>by
  rw[List.forIn_cons,hf]
  have hr:∀ y∈r,env.kindOf y.1=some .local\/(env.kindOf y.1=some .cell/\(env.cells.lookup y.1).isSome=true):=fun y hy=>hkind y (List.mem_cons_of_mem _ hy)
  rcases hkind (n,v) List.mem_cons_self with hl | ⟨hl,hc⟩
  ·refine wpAny_bind (wpAny_bind (wpAny_storeName_local hl x.toInCall.ns (fun h' hn' hs'=>wpAny_pure (zDJ f hf hk r (fun y=>if y=n then some v else m y) cm _ Q ⟨⟨?_,hn',fun b o e=>?_,x.toInCall.fresh⟩,fun k c hc=>?_,x.apart,x.above⟩ hr fun s'' x'' ht=>h s'' ?_ fun _=>ht (.inl (Nat.succ_pos _)))) (by rw[hk];rfl)))
   ·obtain⟨h₁,tk,rfl⟩:=x.toInCall.same
    exact⟨h',_,rfl⟩
   ·exact hs'.extBut b o (Nat.ne_of_lt (Nat.lt_of_lt_of_le (Heap.lt_size e) x.toInCall.fresh)) (x.toInCall.keep b o e)
   ·exact (x.cell k c hc).sameBut hs' (Nat.ne_of_gt (x.above k c (PySem.mem_of_lookup hc)))
   ·unfold bindL bindC;rw[if_pos hl,if_pos hl];exact x''
  ·obtain⟨c,hc⟩:=Option.isSome_iff_exists.mp hc
   have hnl:¬ env.kindOf n=some .local:=by rw[hl];decide
   refine wpAny_bind (wpAny_bind (wpAny_with_toks (n:=s.toks) (Nat.le_refl _) (stCC x hk hl hc fun s' x' hle=>wpAny_pure (zDJ f hf hk r m _ s' Q x' hr fun s'' x'' ht=>h s'' ?_ fun z=>ht ?_))))
   ·unfold bindL bindC;rw[if_neg hnl,if_neg hnl];exact x''
   ·rcases z with z | ⟨b,hb,hbl⟩
    ·exact .inl (Nat.lt_of_lt_of_le z hle)
    ·rcases List.mem_cons.mp hb with rfl | hb
     ·exact absurd hbl hnl
     ·exact .inr ⟨b,hb,hbl⟩
theorem zQe {M:Model}{A:Around}{E:Value->Shared->Prop}{s:Shared}{scope:Scope}{globals:Addr}{binds:List (Str×Value)}{qual:Str}{func:Option Addr}{code:Value}{builtins:Addr}{Q:Env->Shared->Prop}
  (hk:scope.kind=.function)
  (hkind:∀ x∈binds,scope.names.lookup x.1=some .local\/(scope.names.lookup x.1=some .cell/\((cellsFrom (s.heap.objs.size+1) scope.names []).lookup x.1).isSome=true))
  (hQ:∀ env,env=newEnv scope s.heap.objs.size globals (cellsFrom (s.heap.objs.size+1) scope.names []) qual func code none builtins ->
   ∀ s',InCallC s env.locals (bindL env.kindOf binds fun _=>none) env.cells (bindC env.kindOf binds fun _=>none) s'->((0 < s.toks\/∃ b∈binds,scope.names.lookup b.1=some .local)->0 < s'.toks)->Q env s') :
  wpAny M A (newFunctionEnv scope globals [] binds qual func code none builtins) Q E s:=by
 simp only[newFunctionEnv,Option.isSome_none,Bool.false_eq_true,if_false]
 refine wpAny_bind (wpAny_alloc ?_)
 refine wpAny_bind (wpAny_layCells _ (fun name kind cells=>by cases hkc:kind == NameKind.cell<;>simp[hkc]) _ _ _ _ ?_)
 have ok:=cellsFrom_ok scope.names (s.heap.push { cls:=.type "frame",data:=.dict #[] }) (s.heap.objs.size+1) [] ⟨fun _ _ hm=>(nomatch hm),List.Pairwise.nil⟩ (by rw[Heap.size_push];exact Nat.le_refl _)
 rw[Heap.size_push] at ok
 rw[show ({ s with heap:=s.heap.push { cls:=.type "frame",data:=.dict #[] } }:Shared).heap.objs.size=s.heap.objs.size+1 from Heap.size_push ..]
 refine wpAny_bind (zDJ (s₀:=s) (env:=newEnv scope s.heap.objs.size globals (cellsFrom (s.heap.objs.size+1) scope.names []) qual func code none builtins)
  _ (fun _ _ _=>rfl) hk binds (fun _=>none) (fun _=>none) _ _
  ⟨⟨⟨_,_,rfl⟩,(Heap.Ns.new s.heap (.type "frame")).keeps (pushCells_keeps _ _),fun b o e=>pushCells_keeps _ _ b o (Heap.get?_push_of_some _ e),Nat.le_refl _⟩,
   fun n c hc=>(ok.empty n c (PySem.mem_of_lookup hc)).1,ok.apart,fun n c hm=>(ok.empty n c hm).2⟩
  hkind fun s' x ht=>wpAny_pure (hQ _ rfl s' x ht))
theorem zN5 {CX:CXT}{P:Program}{w:World}{K:PySem.W.Frag}{mg:Str->Option Value}{base:Heap}{N ps:List Str}{qual:Str}{scope:Scope}{f:Addr}{cd:Value}{A:Around}{outer:List Env}{s s1:Shared}{H:Hp}{E:XK}{us:List Value}{vs:List V}
  (S:jE N ps scope) (hd:A.handled=none) (e0:zGb P w K mg base A outer s H) (hl:vs.length=ps.length) (r:ze vs us)
  (x:InCallC s s.heap.objs.size (bindL (envOfC qual scope s.heap.objs.size f cd).kindOf (ps.zip us) fun _=>none) (cellsFrom (s.heap.objs.size+1) scope.names []) (bindC (envOfC qual scope s.heap.objs.size f cd).kindOf (ps.zip us) fun _=>none) s1) (ht:0 < s1.toks) :
  Inv (zCR CX P w K mg base N qual scope f cd A outer s H E) [] (Zm N vs) H s1:=by
 have hpl:ps.length <= N.length:=by have:=congrArg List.length S.pre;rw[List.length_take] at this;omega
 obtain⟨h1,tk,rfl,hk⟩:=x.done
 have noA:∀ b:Addr,b∉(zCR CX P w K mg base N qual scope f cd A outer s H E).ex:=fun b z=>absurd (show b∈([]:List Addr) from z) (by simp)
 refine⟨⟨e0.mod,S.kind,rfl,rfl,Nat.le_refl _,fun y z c h1 h2=>?_,fun y hy=>?_,fun y c _ h=>?_,fun _=>hd,Around.frames_deeper e0.frames,.inr ⟨rfl,rfl⟩,fun b z=>absurd z (noA b),e0.bs,e0.bsz,fun b _ _=>noA b,fun b z=>absurd z (noA b),e0.funs,e0.frf⟩,
  rfl,e0.bare,Un.kept hk,⟨_,x.toInCall.ns,fun i y v h1 h2 h3=>?_⟩,fun y c h=>⟨_,x.cell y c h⟩,e0.hok.fresh (Nat.le_refl _),fun y c h=>?_,fun p hp=>absurd (show p∈([]:List (Addr×Obj)) from hp) (by simp),e0.hok.kept hk,?_,ht⟩
 ·exact name_of_addr x.apart (PySem.mem_of_lookup h1) (PySem.mem_of_lookup h2)
 ·have hy:scope.names.lookup y=some .cell\/scope.names.lookup y=some .free:=hy
  rcases hy with hy | hy
  ·exact zK9 hy
  ·exact absurd rfl (S.nofree _ (PySem.mem_of_lookup hy))
 ·exact Nat.le_of_lt (x.above y c (PySem.mem_of_lookup h))
 ·have hi:i < vs.length:=by
   unfold Zm at h2
   by_cases hi:i < vs.length
   ·exact hi
   ·rw[List.getElem?_append_right (by simpa using hi)] at h2
    rw[List.getElem?_replicate] at h2
    split at h2<;>cases h2
  have ha:vs[i]? = some v:=by
   unfold Zm at h2
   rw[List.getElem?_append_left (by simpa using hi),List.getElem?_map] at h2
   cases e:vs[i]? with
   | none=>rw[e] at h2;cases h2
   | some a=>rw[e] at h2;cases h2;rfl
  obtain⟨u,hu,rv⟩:=r.get ha
  have hp:ps[i]? = some y:=by
   rw[<- S.pre,List.getElem?_take_of_lt (by omega)];exact h1
  have ndP:ps.Nodup:=by rw[<- S.pre];exact S.nd.sublist (List.take_sublist _ _)
  refine⟨u,rv,?_⟩
  rcases S.par y (List.mem_of_getElem? hp) with k | k
  ·exact .inl ⟨k,zIv ndP hp hu k⟩
  ·obtain⟨c,e⟩:=zK9 (n:=s.heap.objs.size+1) k
   refine .inr ⟨.inl k,c,e,?_⟩
   have q:=x.cell y c e
   rw[zIh ndP hp hu (by show scope.names.lookup y≠_;rw[k];decide)] at q
   exact q
 ·exact e0.hok.fresh (Nat.le_of_lt (x.above y c (PySem.mem_of_lookup h)))
 ·unfold Zm
  show _=N.length
  rw[List.length_append,List.length_map,List.length_replicate]
  omega
theorem zTt {CX:CXT}{P:Program}{w:World}{K:PySem.W.Frag}{mg:Str->Option Value}{base:Heap}{k:Nat}{f:Addr}{name qual:Str}{params:Arguments}{body:List Stmt}{scope:Scope}{dV kV doc pm cdv ct oc:Value}{an od:Option Addr}
  {osl:Array (Option Value)}{N ps:List Str}{sp:Sp} (lk:K.lookup f=some ⟨oc,od,.func (PySem.W.fnOf name qual params body scope dV kV doc pm an cdv ct),osl⟩) (hcd:PySem.W.codeIn K cdv qual=true) (S:jE N ps scope)
  (len:∀ vs H Q E,sp vs H Q E->vs.length=ps.length)
  (hbody:∀ (A:Around) (outer:List Env) (s:Shared) (H:Hp) (vs:List V) (Q:VK) (E:XK),jY k (A.deeper (envOfC qual scope s.heap.objs.size f cdv))->sp vs H Q E ->
   ∃ t,PSs (zCR CX P w K mg base N qual scope f cdv A outer s H E) body t/\t { nx:=fun _ H'=>Q .non H',rt:=Q } (Zm N vs) H) :
  jX P w K mg base CX (k+1) f (PySem.W.fnOf name qual params body scope dV kV doc pm an cdv ct) ps sp:=by
 refine⟨len,fun A outer s H args us vs Q E hr e0 htk hb r hsp=>?_⟩
 have hl:=len _ _ _ _ hsp
 have KX:K.In s.heap:=e0.mod.kin.keeps fun b o e=>(e0.bs b o e).1
 have lim:s.heap.NoLimit:=e0.mod.nolimit.keeps fun b o e=>(e0.bs b o e).1
 have hkind:∀ y∈ps.zip us,scope.names.lookup y.1=some .local\/(scope.names.lookup y.1=some .cell/\((cellsFrom (s.heap.objs.size+1) scope.names []).lookup y.1).isSome=true):=fun ⟨n,v⟩ hy=>by
  rcases S.par n (List.of_mem_zip hy).1 with q | q
  ·exact .inl q
  ·exact .inr ⟨q,PySem.W.cellsFrom_some _ _ _ (.inl q)⟩
 refine codeAny_call_function hr.depth (KX _ _ lk) rfl S.co S.gen rfl (PySem.W.codeRec_of KX hcd) (hb _ _ _ _ ?_)
 refine zQe S.kind hkind fun env he s1 x htk1=>?_
 subst he
 refine⟨lim.keeps x.toInCall.keep,codeAny_func ?_⟩
 obtain⟨t,ht,hq⟩:=hbody A outer s H vs Q E (hr.deeper _) hsp
 have I:Inv (zCR CX P w K mg base N qual scope f cdv A outer s H E) [] (Zm N vs) H s1:=zN5 S hr.hd e0 hl r x (htk1 (htk.imp id fun ⟨p,hp,hpl⟩=>by
  obtain⟨i,hi,e⟩:=List.mem_iff_getElem.mp hp
  have hu:i < us.length:=by rw[<- r.length,hl];exact hi
  exact⟨(p,us[i]),List.mem_iff_getElem.mpr ⟨i,by rw[List.length_zip];omega,by rw[List.getElem_zip,e]⟩,hpl⟩))
 refine wpAny_mono (ht [] s1 (Zm N vs) H _ I hq) (fun fl s' hs=>?_) fun e s' hs=>hs
 have fin:∀ {σ':St}{H':Hp}{v:V}{u:Value},Inv (zCR CX P w K mg base N qual scope f cdv A outer s H E) [] σ' H' s'->zv v u->Q v H'->CE outer P w H s Q u s' :=
  fun {σ' H' v u} J rv q=>⟨v,H',J.os,J.bare,J.base,J.hok,rv,q⟩
 cases fl with
 | ret u =>
  obtain⟨v,σ',H',J,rv,q⟩:=hs
  exact fin J rv q
 | next =>
  obtain⟨σ',H',J,q⟩:=hs
  exact fin (v:=V.non) (u:=Value.none) J rfl q
 | brk =>
  obtain⟨_,_,_,q⟩:=hs
  exact False.elim q
 | cont =>
  obtain⟨_,_,_,q⟩:=hs
  exact False.elim q
end L2
namespace L2
open PySem PySem.Spec PyProof.Rows
section
variable {X:Cx}{x:Str}{p pos:Pos}{e:Expr}{es:List Expr}{t:TA}{id T:String}{r:List V->Hp->VK->Prop}
noncomputable def tCB (r:List V->Hp->VK->Prop) (t:TA):TE:=fun σ H Q=>t σ H fun vs H1=>r vs H1 Q
theorem zKG (hc:qj X (.builtin id) r) (hg:Gl X x) (hm:X.mg x=none) (hv:bootBuiltins x=some (.builtin id)) (ha:PA X (e::es) t) (hn:x ≠ "__name__" := by decide) (hdb:(x == ("__debug__" : Str))=false:=by decide)
  (he:starEach (e::es) X.env=(false,eval e X.env)::starEach es X.env:=by rfl) (hpl:(backTo pos (starEach es X.env)).any (·.1)=false:=by rfl):PE X (.Call (.Name x p) (e::es) [] pos) (tCB r t):=by
 intro pins s σ H Q I h
 refine wpAny_Call_Name_kw (zAs I hg hm hv ?_ hn hdb)
 exact PyProof.Rows.callWith_builtin1 (thn (ha pos pins s σ H _ I h) fun us s1 ⟨vs,H1,I1,r1,q1⟩=>hc pins s1 σ H1 vs us Q I1 r1 q1) he hpl
theorem zM7 (hc:qj X (.type T) r) (hg:Gl X x) (hm:X.mg x=none) (hv:bootBuiltins x=some (.type T)) (ha:PA X (e::es) t) (hn:x ≠ "__name__" := by decide) (hdb:(x == ("__debug__" : Str))=false:=by decide)
  (he:starEach (e::es) X.env=(false,eval e X.env)::starEach es X.env:=by rfl) (hpl:(backTo pos (starEach es X.env)).any (·.1)=false:=by rfl):PE X (.Call (.Name x p) (e::es) [] pos) (tCB r t):=by
 intro pins s σ H Q I h
 refine wpAny_Call_Name_kw (zAs I hg hm hv ?_ hn hdb)
 exact PyProof.Rows.callWith_type1 (thn (ha pos pins s σ H _ I h) fun us s1 ⟨vs,H1,I1,r1,q1⟩=>hc pins s1 σ H1 vs us Q I1 r1 q1) he hpl
end
end L2
namespace HT
open PySem PyProof.Rows
section
variable {prog:Program}{w:World}{A:Around}{E:Value->Shared->Prop}{s:Shared}
theorem zRH {t b:Addr}{vs ws:List Value}{Q:Value->Shared->Prop} (ht:IsTup s.heap t vs.toArray) (hb:IsTup s.heap b ws.toArray) (hv:vs≠[])
  (h1:ws=[]->Q (.ref t) s) (h2:ws≠[]->Q (.ref s.heap.objs.size) { s with heap:=s.heap.push { cls:=.type "tuple",data:=.seq (vs++ws).toArray } })
  (hsz:vs.length+ws.length <= sizeLine):wpAny (model prog w) A (binaryOp .Add (.ref t) (.ref b)) Q E s:=by
 obtain⟨⟨cls,dd,data,sl⟩,ho,hc,n,hd⟩:=id ht
 obtain⟨⟨cls2,dd2,data2,sl2⟩,ho2,hc2,n2,hd2⟩:=id hb
 simp only at hc hd hc2 hd2
 subst hc hd hc2 hd2
 have e:vs.toArray++ws.toArray=(vs++ws).toArray:=by simp
 by_cases hw:ws=[]
 ·exact concat_meets ⟨_,ho,rfl⟩ ⟨_,ho2,rfl⟩ noFill_tuple_add seq_tuple_add PySem.F.slot_tuple_add PySem.F.entry_tuple_add (PySem.F.args_tuple_add_2 _ _)
   (tuple_addW1 t b vs.toArray ws.toArray n n2 dd dd2 sl sl2 (by simpa using hv) (by simp[hw])) ⟨ho,ho2,h1 hw⟩
 ·refine concat_meets ⟨_,ho,rfl⟩ ⟨_,ho2,rfl⟩ noFill_tuple_add seq_tuple_add PySem.F.slot_tuple_add PySem.F.entry_tuple_add (PySem.F.args_tuple_add_2 _ _)
   (tuple_addW2 t b vs.toArray ws.toArray n n2 dd dd2 sl sl2 (by simpa using hv) (by simpa using hw) (by rw[List.size_toArray,List.size_toArray];exact hsz)) ⟨ho,ho2,?_⟩
  rw[e]
  exact h2 hw
noncomputable def sIx (n d:Nat):Option Int->Nat
 | none=>d
 | some v=>if v < 0 then (v+(n:Int)).toNat else min v.toNat n
theorem zKm (n d:Nat) (hd:d <= n) (o:Option Int):sIx n d o <= n:=by
 cases o with
 | none=>exact hd
 | some v =>
  show (if v < 0 then (v+(n:Int)).toNat else min v.toNat n) <= n
  by_cases hv:v < 0
  ·rw[if_pos hv];omega
  ·rw[if_neg hv];exact Nat.min_le_right _ _
theorem zIN (v:Int) (n d:Nat):(if v < 0 then max (v+(n:Int)) 0 else min v (n:Int))=((sIx n d (some v):Nat):Int):=by
 show (if v < 0 then max (v+(n:Int)) 0 else min v (n:Int))=(((if v < 0 then (v+(n:Int)).toNat else min v.toNat n):Nat):Int)
 by_cases hv:v < 0
 ·simp only[if_pos hv];omega
 ·simp only[if_neg hv];omega
theorem zMk (lo hi:Option Int) (n:Nat):Builtin.Slice.sliceAdjust lo hi 1 (n:Int)=(((sIx n 0 lo:Nat):Int),((sIx n n hi:Nat):Int)):=by
 have h1:¬ ((1:Int) < 0):=by omega
 unfold Builtin.Slice.sliceAdjust
 simp only[h1,if_false]
 refine Prod.ext ?_ ?_
 ·cases lo with
  | none=>rfl
  | some v=>exact zIN v n 0
 ·cases hi with
  | none=>rfl
  | some v=>exact zIN v n n
theorem zMa (i j:Nat):Builtin.Slice.slicePlaces (i:Int) (j:Int) 1=j - i:=by
 unfold Builtin.Slice.slicePlaces
 have h1:(1:Int) > 0:=by omega
 simp only[h1,if_true,Int.ediv_one]
 split<;>omega
theorem zHk {v:Value}{o:Option Int}{Q:Option Int->Shared->Prop} (p:IsPart v o) (h:Q o s):wpAny (model prog w) A (Builtin.Slice.slicePartIndex v) Q E s:=by
 cases p with
 | none=>exact slicePart_none h
 | int i t=>exact slicePart_int h
theorem zGC {sl:Addr}{vl vu:Value}{lo hi:Option Int}{n:Nat}{Q:Int×Int×Nat->Shared->Prop} (hs:s.heap.IsSliceOf sl vl vu .none) (pl:IsPart vl lo) (pu:IsPart vu hi)
  (h:Q (((sIx n 0 lo:Nat):Int),1,sIx n n hi - sIx n 0 lo) s):wpAny (model prog w) A (Builtin.Slice.sliceApplied (.ref sl) (pure (n:Int))) Q E s:=by
 obtain⟨os,hos,hcs,hds⟩:=id hs
 unfold Builtin.Slice.sliceApplied Builtin.Slice.sliceFields
 refine wpAny_bind (wpAny_bind (wpAny_field hos hds (x:=vl) rfl (wpAny_bind (wpAny_field hos hds (x:=vu) rfl (wpAny_bind (wpAny_field hos hds (x:=.none) rfl (wpAny_pure ?_)))))))
 refine wpAny_bind (slicePart_none ?_)
 show wpAny _ _ (if ((1:Int) == 0)=true then _ else _) _ _ s
 rw[if_neg (by decide)]
 refine wpAny_bind (zHk pl (wpAny_bind (zHk pu (wpAny_bind (wpAny_pure ?_)))))
 show wpAny _ _ (match Builtin.Slice.sliceAdjust lo hi 1 (n:Int) with | (lo,hi)=>pure (lo,(1:Int),Builtin.Slice.slicePlaces lo hi 1)) _ _ s
 rw[zMk lo hi n]
 show wpAny _ _ (pure (((sIx n 0 lo:Nat):Int),(1:Int),Builtin.Slice.slicePlaces ((sIx n 0 lo:Nat):Int) ((sIx n n hi:Nat):Int) 1)) _ _ s
 rw[zMa]
 exact wpAny_pure h
theorem zO9 (xs:Array Value) (i k:Nat):((List.range k).filterMap fun (m:Nat)=>xs[((i:Int)+(m:Int) * 1).toNat]?).toArray=((xs.toList.drop i).take k).toArray:=by
 have e:(fun (m:Nat)=>xs[((i:Int)+(m:Int) * 1).toNat]?)=fun m=>xs[i+m]? := by
  funext m
  have:((i:Int)+(m:Int) * 1).toNat=i+m:=by omega
  rw[this]
 rw[e]
 have:=pick_run xs i k
 rw[List.filterMap_map] at this
 have e2:((fun x=>xs[x]?) ∘ fun x=>i+x)=fun m=>xs[i+m]? := rfl
 rw[e2] at this
 rw[this]
theorem zFr {t sl:Addr}{items:Array Value}{vl vu:Value}{lo hi:Option Int}{Q:Value->Shared->Prop} (ht:IsTup s.heap t items) (hs:s.heap.IsSliceOf sl vl vu .none) (pl:IsPart vl lo) (pu:IsPart vu hi)
  (hw:¬ (sIx items.size 0 lo=0/\sIx items.size items.size hi=items.size))
  (h:Q (.ref s.heap.objs.size) { s with heap:=s.heap.push { cls:=.type "tuple",data:=.seq ((items.toList.drop (sIx items.size 0 lo)).take (sIx items.size items.size hi - sIx items.size 0 lo)).toArray } })
  (hsz:items.size <= sizeLine):wpAny (model prog w) A (getItem (.ref t) (.ref sl)) Q E s:=by
 have htake:sizeOk (.seq ((items.toList.drop (sIx items.size 0 lo)).take (sIx items.size items.size hi - sIx items.size 0 lo)).toArray):=by
  show ((items.toList.drop (sIx items.size 0 lo)).take (sIx items.size items.size hi - sIx items.size 0 lo)).toArray.size <= sizeLine
  rw[List.size_toArray,List.length_take,List.length_drop,Array.length_toList]
  omega
 have hj:sIx items.size items.size hi <= items.size:=zKm _ _ (Nat.le_refl _) hi
 obtain⟨os,hos,hcs,hds⟩:=id hs
 have hTs:s.TypeIs (.ref sl) "slice" := ⟨os,hos,hcs⟩
 unfold getItem
 try with_reducible refine wpAny_holding ?_
 first | refine wpAny_bind (wpAny_pure ?_) | skip
 refine wpAny_bind (wpAny_sequenceKey ht.typeIs (by decide) ?_)
 refine wpAny_bind (wpAny_callSpecial?_slot (name:=Str.ofString "__getitem__") ht.typeIs PyProof.Rows.slot_tuple_getitem
  (wpAny_call_entry PyProof.Rows.slot_tuple_getitem ht.typeIs entry_tuple_getitem ?_ (args_tuple_getitem _ _)))
 show wpAny _ _ (Builtin.Tuple.tupleItemsOf (.ref t) >>= _) _ _ s
 refine wpAny_bind (tupleItemsOf_ ht ?_)
 refine wpAny_bind (wpAny_typeOf hTs ?_)
 rw[if_pos (by decide)]
 refine wpAny_bind (zGC hs pl pu ?_)
 have hno:¬ ((((sIx items.size 0 lo:Nat):Int) == 0 && (1:Int) == 1 && (sIx items.size items.size hi - sIx items.size 0 lo) == items.size)=true):=by
  intro q
  rw[Bool.and_eq_true,Bool.and_eq_true] at q
  have q1:((sIx items.size 0 lo:Nat):Int)=0:=eq_of_beq q.1.1
  have q2:sIx items.size items.size hi - sIx items.size 0 lo=items.size:=eq_of_beq q.2
  exact hw ⟨by omega,by omega⟩
 show wpAny _ _ (if (((sIx items.size 0 lo:Nat):Int) == 0 && (1:Int) == 1 && (sIx items.size items.size hi - sIx items.size 0 lo) == items.size)=true then _ else _) _ _ s
 rw[if_neg hno,zO9]
 first
  | exact wpAny_bind (m:=Builtin.Tuple.tupleExact _) (wpAny_newObj_type (wpAny_pure ⟨_,rfl,wpAny_pure h⟩) htake)
  | exact wpAny_bind (m:=Builtin.Tuple.tupleExact _) (wpAny_newObj_type (wpAny_bind (wpAny_pure (wpAny_pure ⟨_,rfl,wpAny_pure h⟩))) htake)
  | exact wpAny_bind (wpAny_bind (m:=Builtin.Tuple.tupleExact _) (wpAny_newObj_type (wpAny_pure (wpAny_pure ⟨_,rfl,wpAny_pure h⟩)) htake))
  | exact wpAny_bind (wpAny_bind (m:=Builtin.Tuple.tupleExact _) (wpAny_newObj_type (wpAny_pure ⟨_,rfl,wpAny_pure h⟩) htake))
end
end HT
namespace L2
open PySem PySem.Spec PyProof.Rows
noncomputable abbrev TO:=St->Hp->(Option Int->Hp->Prop)->Prop
noncomputable def PO (X:Cx) (e:Option Expr) (t:TO):Prop :=
 ∀ (pins:List (Addr×Obj)) (s:Shared) (σ:St) (H:Hp) (Q:Option Int->Hp->Prop),Inv X pins σ H s->t σ H Q ->
  wpAny (model X.prog X.w) X.A (evalPart e X.env) (fun u s'=>∃ o H',Inv X pins σ H' s'/\IsPart u o/\Q o H') X.xe s
noncomputable def zQO:TO:=fun _ H Q=>Q none H
noncomputable def QM (t:TE):TO:=fun σ H Q=>t σ H fun x H1=>∃ i,x=.int i/\Q (some i) H1
section
variable {X:Cx}{e:Expr}{te:TE}{lo hi:Option Expr}{tl th:TO}{pos p2:Pos}
theorem zQM:PO X none zQO:=by
 intro pins s σ H Q I h
 rw[evalPart_none]
 exact wpAny_pure ⟨none,H,I,.none,h⟩
theorem zRK (h:PE X e te):PO X (some e) (QM te):=by
 intro pins s σ H Q I hw
 rw[evalPart_some]
 refine thn (h pins s σ H _ I hw) fun u s1 ⟨x,H1,I1,r1,q1⟩=>?_
 obtain⟨i,rfl,q⟩:=q1
 obtain⟨t,rfl⟩:=r1
 exact⟨some i,H1,I1,.int i t,q⟩
noncomputable def SlR (X:Cx) (r:V->Option Int->Option Int->Hp->VK->Prop):Prop :=
 ∀ (pins:List (Addr×Obj)) (s:Shared) (σ:St) (H:Hp) (x:V) (v vl vu:Value) (lo hi:Option Int) (sl:Addr) (Q:VK),Inv X pins σ H s->zv x v->s.heap.IsSliceOf sl vl vu .none->IsPart vl lo->IsPart vu hi->r x lo hi H Q ->
  ∃ T id,typeLookup (.type T) "__getitem__" = pure (some (.builtin id))/\s.TypeIs v T/\wpAny (model X.prog X.w) X.A (getItem v (.ref sl)) (EP X pins σ Q) X.xe s
noncomputable def tSl (r:V->Option Int->Option Int->Hp->VK->Prop) (te:TE) (tl th:TO):TE:=fun σ H Q=>te σ H fun x H1=>tl σ H1 fun l H2=>th σ H2 fun u H3=>r x l u H3 Q
theorem zOz {r:V->Option Int->Option Int->Hp->VK->Prop} (hr:SlR X r) (he:PE X e te) (hl:PO X lo tl) (hu:PO X hi th):PE X (.Subscript e (.Slice lo hi none p2) pos) (tSl r te tl th):=by
 intro pins s σ H Q I h
 refine Subscript_ (thn (he pins s σ H _ I h) fun v s1 ⟨x,H1,I1,r1,q1⟩=>?_)
 refine wpAny_Slice (thn (hl pins s1 σ H1 _ I1 q1) fun vl s2 ⟨l,H2,I2,pl,q2⟩=>thn (hu pins s2 σ H2 _ I2 q2) fun vu s3 ⟨u,H3,I3,pu,q3⟩=>?_)
 rw[evalPart_none]
 refine wpAny_pure ?_
 have I4:Inv X pins σ H3 { s3 with heap:=s3.heap.push { cls:=.type "slice",data:=.fields #[vl,vu,.none] } }:=I3.kept (t':=s3.toks) fun b ob q=>Heap.get?_push_of_some _ q
 obtain⟨T,id,hT,ht,hg⟩:=hr pins { s3 with heap:=s3.heap.push { cls:=.type "slice",data:=.fields #[vl,vu,.none] } } σ H3 x v vl vu l u s3.heap.objs.size Q I4 r1 (Heap.IsSliceOf.new ..) pl pu q3
 show wpAny (model X.prog X.w) X.A (subscriptTail e (.Slice lo hi none p2) v (.ref s3.heap.objs.size)) (EP X pins σ Q) X.xe { s3 with heap:=s3.heap.push { cls:=.type "slice",data:=.fields #[vl,vu,.none] } }
 exact tail_any (ops:=[.ref s3.heap.objs.size,v]) ht hT hg (by with_unfolding_all rfl)
noncomputable def zDQ (xs:List V) (lo hi:Option Int):List V:=(xs.drop (HT.sIx xs.length 0 lo)).take (HT.sIx xs.length xs.length hi - HT.sIx xs.length 0 lo)
theorem zF6 (xs:List V) (lo hi:Option Int):(zDQ xs lo hi).length <= xs.length:=by
 unfold zDQ
 rw[List.length_take,List.length_drop]
 omega
noncomputable def zT8 (K:PySem.W.Frag):V->Option Int->Option Int->Hp->VK->Prop:=fun x lo hi H Q=>∃ a xs,x=.ref a/\SqT K H a xs /\
 ¬ (HT.sIx xs.length 0 lo=0/\HT.sIx xs.length xs.length hi=xs.length)/\∀ p,H p=none->Q (.ref p) (upd H p (.tup (zDQ xs lo hi)))
theorem zS0:SlR X (zT8 X.K):=by
 intro pins s σ H x v vl vu lo hi sl Q I rx hs pl pu h
 obtain⟨a,xs,rfl,hx,hw,q⟩:=h
 cases rx
 obtain⟨its,r,ht,hz⟩:=I.tuple hx
 have hlen:its.toArray.size=xs.length:=by rw[List.size_toArray];exact r.length.symm
 refine⟨"tuple",_,PyProof.Rows.slot_tuple_getitem.lookup,ht.typeIs,?_⟩
 refine HT.zFr ht hs pl pu (by rw[hlen];exact hw) ?_ (by rw[hlen];exact hz)
 rw[hlen]
 refine⟨.ref s.heap.objs.size,_,I.laid (t':=s.toks) (o:=.tup (zDQ xs lo hi)) (fun b ob q=>Heap.get?_push_of_some _ q) (Nat.le_refl _) ?_,rfl,q _ (I.hok.fresh (Nat.le_refl _))⟩
 exact⟨Nat.le_trans (zF6 xs lo hi) hz,_,(r.drop (HT.sIx xs.length 0 lo)).take (HT.sIx xs.length xs.length hi - HT.sIx xs.length 0 lo),IsTup.new _ _⟩
noncomputable def zPo (K:PySem.W.Frag):R2:=fun x y H Q=>∃ a b xs ys,x=.ref a/\y=.ref b/\SqT K H a xs/\SqT K H b ys/\xs≠[]/\xs.length+ys.length <= sizeLine /\
 (ys=[]->Q (.ref a) H)/\(ys≠[]->∀ p,H p=none->Q (.ref p) (upd H p (.tup (xs++ys))))
theorem ze.nil_iff {xs:List V}{us:List Value} (r:ze xs us):us=[]↔xs=[]:=by
 cases r with
 | nil=>simp
 | cons _ _=>simp
theorem jI:OpR X (binaryOp .Add) (zPo X.K):=by
 intro pins s σ H x y v u Q I rx ry h
 obtain⟨a,b,xs,ys,rfl,rfl,ha,hb,hx,hz,q1,q2⟩:=h
 cases rx
 cases ry
 obtain⟨its,r1,p1,_⟩:=I.tuple ha
 obtain⟨its2,r2,p2,_⟩:=I.tuple hb
 refine HT.zRH p1 p2 (fun z=>hx (r1.nil_iff.mp z)) (fun z=>⟨.ref a,H,I,rfl,q1 (r2.nil_iff.mp z)⟩) (fun z=>?_) (by rw[<- r1.length,<- r2.length];exact hz)
 refine⟨.ref s.heap.objs.size,_,I.laid (t':=s.toks) (o:=.tup (xs++ys)) (fun b ob q=>Heap.get?_push_of_some _ q) (Nat.le_refl _) ?_,rfl,q2 (fun w=>z (r2.nil_iff.mpr w)) _ (I.hok.fresh (Nat.le_refl _))⟩
 exact⟨by rw[List.length_append];exact hz,_,r1.append r2,IsTup.new _ _⟩
end
end L2
namespace L2
open PySem PySem.Spec PyProof.Rows
noncomputable def ixN (n:Nat) (i:Int):Option Nat:=if 0 <= i then (if i < n then some i.toNat else none) else if -(n:Int) <= i then some (i+n).toNat else none
noncomputable def atI {α:Type} (xs:List α) (i:Int):Option α:=(ixN xs.length i).bind fun j=>xs[j]?
theorem zLi {n:Nat}{i:Int}{j:Nat} (h:ixN n i=some j):seqIndex? i n=some j/\j < n /\ -(n:Int) <= i/\i < n:=by
 unfold ixN at h
 by_cases h0:0 <= i
 ·rw[if_pos h0] at h
  by_cases h1:i < n
  ·rw[if_pos h1] at h
   have e:i.toNat=j:=Option.some.inj h
   exact⟨by rw[seqIndex_of h0 h1,e],by omega,by omega,h1⟩
  ·rw[if_neg h1] at h;cases h
 ·rw[if_neg h0] at h
  by_cases h1:-(n:Int) <= i
  ·rw[if_pos h1] at h
   have e:(i+n).toNat=j:=Option.some.inj h
   exact⟨by rw[seqIndex_neg (by omega) h1,e],by omega,h1,by omega⟩
  ·rw[if_neg h1] at h;cases h
theorem zH6 {α:Type}{xs:List α}{i:Int}{v:α} (h:atI xs i=some v):∃ j,seqIndex? i xs.length=some j/\xs[j]? = some v/\j < xs.length /\ -(xs.length:Int) <= i/\i < xs.length:=by
 unfold atI at h
 cases e:ixN xs.length i with
 | none=>rw[e] at h;cases h
 | some j =>
  rw[e] at h
  obtain⟨h1,h2,h3,h4⟩:=zLi e
  exact⟨j,h1,h,h2,h3,h4⟩
noncomputable def zLw (b:Expr):Prop:=∀ o i,subscripted b false o i=operate [o,i] (getItem o i)
noncomputable def IxR (X:Cx) (r:R2):Prop :=
 ∀ (value slice:Expr) (pins:List (Addr×Obj)) (s:Shared) (σ:St) (H:Hp) (x y:V) (v u:Value) (Q:VK),Inv X pins σ H s->zv x v->zv y u->r x y H Q ->
  subscripted slice false v u=operate [v,u] (getItem v u)->wpAny (model X.prog X.w) X.A (subscriptTail value slice v u) (EP X pins σ Q) X.xe s
noncomputable def MtR (X:Cx) (id:String) (r:V->List V->Hp->VK->Prop):Prop :=
 ∀ (pins:List (Addr×Obj)) (s:Shared) (σ:St) (H:Hp) (x:V) (xs:List V) (v:Value) (us:List Value) (Q:VK),Inv X pins σ H s->zv x v->ze xs us->r x xs H Q ->
  wpAny (model X.prog X.w) X.A (call (.builtin id) (v::us)) (EP X pins σ Q) X.xe s
section
variable {X:Cx}{a b:Expr}{ta tb:TE}{pos:Pos}
theorem IxR.or {r r':R2} (h:IxR X r) (h':IxR X r'):IxR X (fun x y H Q=>r x y H Q\/r' x y H Q):=by
 intro value slice pins s σ H x y v u Q I rx ry q hs
 rcases q with q | q
 ·exact h value slice pins s σ H x y v u Q I rx ry q hs
 ·exact h' value slice pins s σ H x y v u Q I rx ry q hs
theorem zTV {r:R2} (hr:IxR X r) (ha:PE X a ta) (hb:PE X b tb) (hs:zLw b):PE X (.Subscript a b pos) (tOp r ta tb):=by
 intro pins s σ H Q I h
 exact Subscript_ (zOj ha hb I h fun v u s2 x y H2 I2 rx ry q=>hr a b pins s2 σ H2 x y v u Q I2 rx ry q (hs _ _))
noncomputable def zT7 (K:PySem.W.Frag):R2:=fun x y H Q=>∃ p xs i v,x=.ref p/\y=.int i/\SqL K H p xs/\atI xs i=some v/\Q v H
noncomputable def zUC (K:PySem.W.Frag):R2:=fun x y H Q=>∃ p xs i v,x=.ref p/\y=.int i/\SqT K H p xs/\atI xs i=some v/\Q v H
noncomputable def zUK:R2:=fun x y H Q=>∃ z i c,x=.str z/\y=.int i/\z.length <= sizeLine/\atI z.cps.toList i=some c/\Q (.str ⟨#[c]⟩) H
theorem zQl:IxR X (zT7 X.K):=by
 intro value slice pins s σ H x y v u Q I rx ry h hs
 obtain⟨p,xs,i,z,rfl,rfl,hq,he,q⟩:=h
 cases rx
 obtain⟨t,rfl⟩:=ry
 obtain⟨its,r,pl,hz⟩:=I.list hq
 obtain⟨j,h1,h2,h3,h4,h5⟩:=zH6 he
 obtain⟨w,ew,rw'⟩:=r.get h2
 have hl:=r.length
 have hn:=zCi
 have fin:EP X pins σ Q w s:=⟨z,H,I,rw',q⟩
 by_cases h0:0 <= i
 ·have hj:i.toNat=j:=by
   rw[seqIndex_of h0 h5] at h1
   exact Option.some.inj h1
  exact item_listR pl.isList h0 (by omega) (by rw[hj];simpa using ew) fin hs
 ·have hj:(i+(its.toArray.size:Int)).toNat=j:=by
   rw[seqIndex_neg (by omega) h4] at h1
   rw[List.size_toArray,<- hl]
   exact Option.some.inj h1
  exact subscriptTail_builtinR (x:=w) pl.isList.typeIs slot_list_getitem.lookup
   (wpAny_getItem_list_neg (Q:=fun r s'=>r=w/\EP X pins σ Q r s') pl.isList (by omega) (by rw[List.size_toArray]<;>omega) (by omega) (by rw[hj];simpa using ew) ⟨rfl,fin⟩) hs
theorem zSf:IxR X (zUC X.K):=by
 intro value slice pins s σ H x y v u Q I rx ry h hs
 obtain⟨p,xs,i,z,rfl,rfl,hq,he,q⟩:=h
 cases rx
 obtain⟨t,rfl⟩:=ry
 obtain⟨its,r,pl,hz⟩:=I.tuple hq
 obtain⟨j,h1,h2,h3,h4,h5⟩:=zH6 he
 obtain⟨w,ew,rw'⟩:=r.get h2
 have hl:=r.length
 have hn:=zCi
 have fin:EP X pins σ Q w s:=⟨z,H,I,rw',q⟩
 exact subscriptTail_builtinR (x:=w) pl.typeIs slot_tuple_getitem.lookup
  (getItem_tuple (j:=j) (Q:=fun r s'=>r=w/\EP X pins σ Q r s') pl (by omega) (by omega) (by rw[List.size_toArray,<- hl];exact h1) (by simpa using ew) ⟨rfl,fin⟩) hs
theorem zSC:IxR X zUK:=by
 intro value slice pins s σ H x y v u Q I rx ry h hs
 obtain⟨z,i,c,rfl,rfl,hz,he,q⟩:=h
 obtain⟨t,rfl⟩:=rx
 obtain⟨t',rfl⟩:=ry
 obtain⟨j,h1,h2,h3,h4,h5⟩:=zH6 he
 have hl:z.cps.toList.length=z.length:=by simp[Str.length]
 rw[hl] at h1 h4 h5
 have hn:=zCi
 exact tail_any (typeIs_str s z t) slot_str_getitem.lookup (getItem_str (c:=c) (by
  have e1:decide (i < -(2 ^ 63:Int))=false:=decide_eq_false (by omega)
  have e2:decide (i ≥ 2 ^ 63)=false:=decide_eq_false (by omega)
  rw[e1,e2,Bool.or_false]) (by rw[h1];simpa using h2) ⟨.str ⟨#[c]⟩,H,I.tok _,⟨_,rfl⟩,q⟩) hs
theorem zMd (its:List Value) (n j:Nat) (u:Value):Obj.mapSeq (·.setIfInBounds j u) { cls:=.type "list",data:=.seq its.toArray n }={ cls:=.type "list",data:=.seq (its.set j u).toArray n }:=by
 simp[Obj.mapSeq]
theorem Inv.lst {pins:List (Addr×Obj)}{σ:St}{H:Hp}{s:Shared}{p:Addr}{xs:List V} (I:Inv X pins σ H s) (h:H p=some (.lst xs)) :
  ∃ (its:List Value) (n:Nat),ze xs its/\s.heap.get? p=some { cls:=.type "list",data:=.seq its.toArray n }/\xs.length <= sizeLine:=by
 obtain⟨z,its,n,r,e⟩:=I.hok p _ h
 exact⟨its,n,r,e,z⟩
theorem Inv.lstUpd {pins:List (Addr×Obj)}{σ:St}{H:Hp}{s:Shared}{p:Addr}{xs ys:List V}{its its':List Value}{n n':Nat}{f:Obj->Obj} (I:Inv X pins σ H s) (h:H p=some (.lst xs))
  (ho:s.heap.get? p=some { cls:=.type "list",data:=.seq its.toArray n }) (hf:f { cls:=.type "list",data:=.seq its.toArray n }={ cls:=.type "list",data:=.seq its'.toArray n' }) (r:ze ys its') (hz:ys.length <= sizeLine) (t:Nat) (ht:0 < t:=by first | exact Nat.succ_pos _ | assumption | exact Inv.tk (by assumption) | omega) :
  Inv X pins σ (upd H p (.lst ys)) { s with heap:=s.heap.update p f,toks:=t }:=by
 have e:(s.heap.update p f).get? p=some { cls:=.type "list",data:=.seq its'.toArray n' }:=by
  rw[Heap.get?_update_self f ho (by rw[hf]<;>rfl),hf]
 refine I.write (x:=p) (e:=p) (by rw[h];trivial) (.inl rfl) (fun b u hb q=>(Heap.get?_update_other _ _ (Ne.symm hb)).trans q) ⟨_,e⟩ ?_
 exact⟨hz,its',n',r,e⟩
noncomputable def zTs:V->V->V->Hp->(Hp->Prop)->Prop:=fun o i v H Q=>∃ p xs k j,o=.ref p/\i=.int k/\H p=some (.lst xs)/\ixN xs.length k=some j/\Q (upd H p (.lst (xs.set j v)))
theorem zPe:zRg X zTs:=by
 intro pins s σ H o i v ov iv u Q I ro ri rv h
 obtain⟨p,xs,k,j,rfl,rfl,hp,hj,q⟩:=h
 cases ro
 obtain⟨t,rfl⟩:=ri
 obtain⟨its,n,r,ho,hz⟩:=I.lst hp
 obtain⟨h1,h2,h3,h4⟩:=zLi hj
 have hl:=r.length
 have hn:=zCi
 have I':Inv X pins σ (upd H p (.lst (xs.set j v))) { s with heap:=s.heap.update p (Obj.mapSeq (·.setIfInBounds j u)) } :=
  I.lstUpd hp ho (zMd its n j u) (r.set rv j) (by rw[List.length_set];exact hz) s.toks
 by_cases h0:0 <= k
 ·have hk:k.toNat=j:=by
   rw[seqIndex_of h0 h4] at h1
   exact Option.some.inj h1
  exact PySem.W.ki_setAt ho h0 (by omega) (by rw[List.size_toArray,<- hl];exact h4) (by rw[hk];exact⟨_,I',q⟩)
 ·have hk:(k+(its.toArray.size:Int)).toNat=j:=by
   rw[seqIndex_neg (by omega) h3] at h1
   rw[List.size_toArray,<- hl]
   exact Option.some.inj h1
  exact PySem.W.ki_setBack ho (by omega) (by rw[List.size_toArray,<- hl];exact h3) (by omega) (by rw[hk];exact⟨_,I',q⟩)
theorem zK6 (lo hi:Option Int) (n:Nat):(sliceBounds lo hi none n).1=((HT.sIx n 0 lo:Nat):Int)/\(sliceBounds lo hi none n).2.1=((HT.sIx n n hi:Nat):Int)/\(sliceBounds lo hi none n).2.2=1:=by
 refine⟨?_,?_,rfl⟩
 ·cases lo with
  | none=>simp[sliceBounds,HT.sIx]
  | some i =>
   simp only[sliceBounds,HT.sIx,Option.getD_none,show (1:Int) > 0 by decide,if_true]
   by_cases h:i < 0
   ·simp only[h,if_true]<;>omega
   ·simp only[h,if_false]<;>omega
 ·cases hi with
  | none=>simp[sliceBounds,HT.sIx]
  | some i =>
   simp only[sliceBounds,HT.sIx,Option.getD_none,show (1:Int) > 0 by decide,if_true]
   by_cases h:i < 0
   ·simp only[h,if_true]<;>omega
   ·simp only[h,if_false]<;>omega
theorem zJS (its:List Value) (lo hi:Option Int):slicePick its.toArray lo hi none=((its.drop (HT.sIx its.length 0 lo)).take (HT.sIx its.length its.length hi - HT.sIx its.length 0 lo)).toArray:=by
 obtain⟨h1,h2,h3⟩:=zK6 lo hi its.toArray.size
 unfold slicePick
 rw[h1,h2,h3]
 simp only[sliceRange_one,pick_run,List.size_toArray]<;>rfl
noncomputable def zUR (K:PySem.W.Frag):V->Option Int->Option Int->Hp->VK->Prop:=fun x lo hi H Q=>∃ a xs,x=.ref a/\SqL K H a xs/\∀ p,H p=none->Q (.ref p) (upd H p (.lst (zDQ xs lo hi)))
theorem zQG:SlR X (zUR X.K):=by
 intro pins s σ H x v vl vu lo hi sl Q I rx hs pl pu h
 obtain⟨a,xs,rfl,hx,q⟩:=h
 cases rx
 obtain⟨its,r,ht,hz⟩:=I.list hx
 have hlen:=r.length
 refine⟨"list",_,slot_list_getitem.lookup,ht.isList.typeIs,?_⟩
 refine wpAny_getItem_list_slice ht.isList hs pl pu .none (by simp) ?_ (by rw[List.size_toArray]<;>omega)
 rw[zJS,<- hlen]
 refine⟨.ref s.heap.objs.size,_,I.laid (t':=s.toks) (o:=.lst (zDQ xs lo hi)) (fun b ob q=>Heap.get?_push_of_some _ q) (Nat.le_refl _) ?_,rfl,q _ (I.hok.fresh (Nat.le_refl _))⟩
 exact⟨Nat.le_trans (zF6 xs lo hi) hz,_,0,(r.drop (HT.sIx xs.length 0 lo)).take (HT.sIx xs.length xs.length hi - HT.sIx xs.length 0 lo),Heap.get?_push_size _ rfl⟩
noncomputable def QB:V->Bool
 | .non=>true
 | .bl _=>true
 | .int _=>true
 | .str _=>true
 | _=>false
noncomputable def eqV:V->V->Bool
 | .non,.non=>true
 | .bl a,.bl b=>a == b
 | .bl a,.int b=>(if a then 1 else 0) == b
 | .int a,.bl b=>a == (if b then 1 else 0)
 | .int a,.int b=>a == b
 | .str a,.str b=>a == b
 | _,_=>false
theorem zSy {A:Around}{s:Shared}{y x:V}{u v:Value} (ry:zv y u) (rx:zv x v) (fy:QB y=true) (fx:QB x=true):SeqAt.EqAt A s u v (eqV y x):=by
 cases y with
 | non =>
  cases ry
  cases x with
  | non=>cases rx;exact SeqAt.EqAt.same _
  | bl b=>cases rx;exact SeqAt.EqAt.none_bool b
  | int b=>obtain⟨t,rfl⟩:=rx;exact SeqAt.EqAt.none_int b t
  | str b=>obtain⟨t,rfl⟩:=rx;exact SeqAt.EqAt.none_str b t
  | _=>exact absurd (show false=true from fx) Bool.false_ne_true
 | bl a =>
  cases ry
  cases x with
  | non=>cases rx;exact SeqAt.EqAt.bool_none a
  | bl b=>cases rx;exact SeqAt.EqAt.bool_bool a b
  | int b=>obtain⟨t,rfl⟩:=rx;exact SeqAt.EqAt.bool_int a b t
  | str b=>obtain⟨t,rfl⟩:=rx;exact SeqAt.EqAt.bool_str a b t
  | _=>exact absurd (show false=true from fx) Bool.false_ne_true
 | int a =>
  obtain⟨t',rfl⟩:=ry
  cases x with
  | non=>cases rx;exact SeqAt.EqAt.int_none a t'
  | bl b=>cases rx;exact SeqAt.EqAt.int_bool a t' b
  | int b=>obtain⟨t,rfl⟩:=rx;exact SeqAt.EqAt.int_int a t' b t
  | str b=>obtain⟨t,rfl⟩:=rx;exact SeqAt.EqAt.int_str a t' b t
  | _=>exact absurd (show false=true from fx) Bool.false_ne_true
 | str a =>
  obtain⟨t',rfl⟩:=ry
  cases x with
  | non=>cases rx;exact SeqAt.EqAt.str_none a t'
  | bl b=>cases rx;exact SeqAt.EqAt.str_bool a t' b
  | int b=>obtain⟨t,rfl⟩:=rx;exact SeqAt.EqAt.str_int a t' b t
  | str b=>obtain⟨t,rfl⟩:=rx;exact SeqAt.EqAt.str_str a t' b t
  | _=>exact absurd (show false=true from fx) Bool.false_ne_true
 | _=>exact absurd (show false=true from fy) Bool.false_ne_true
noncomputable def eqU (x:V) (u:Value):Bool:=match u with
 | .none=>eqV .non x
 | .bool b=>eqV (.bl b) x
 | .int i _=>eqV (.int i) x
 | .str z _=>eqV (.str z) x
 | _=>false
theorem zN3 {x y:V}{u:Value} (r:zv y u) (f:QB y=true):eqU x u=eqV y x:=by
 cases y with
 | non=>cases r;rfl
 | bl b=>cases r;rfl
 | int i=>obtain⟨t,rfl⟩:=r;rfl
 | str z=>obtain⟨t,rfl⟩:=r;rfl
 | _=>exact absurd (show false=true from f) Bool.false_ne_true
theorem zDZ {x:V}:∀ {xs:List V}{us:List Value},ze xs us->xs.all QB=true->us.any (eqU x)=xs.any fun y=>eqV y x
 | _,_,.nil,_=>rfl
 | y::xs,u::us,.cons r t,f=>by
  rw[List.all_cons,Bool.and_eq_true] at f
  rw[List.any_cons,List.any_cons,zN3 r f.1,zDZ t f.2]
theorem zCV {A:Around}{s:Shared}{x:V}{v:Value} (rx:zv x v) (fx:QB x=true):∀ {xs:List V}{us:List Value},ze xs us->xs.all QB=true->∀ u∈us,SeqAt.EqAt A s u v (eqU x u)
 | _,_,.nil,_=>fun u hu=>by cases hu
 | y::xs,u::us,.cons r t,f=>fun u' hu=>by
  rw[List.all_cons,Bool.and_eq_true] at f
  rcases List.mem_cons.mp hu with rfl | hu
  ·rw[zN3 r f.1];exact zSy r rx f.1 fx
  ·exact zCV rx fx t f.2 u' hu
noncomputable def inV (x:V) (xs:List V):Bool:=xs.any fun y=>eqV y x
noncomputable def rIn (K:PySem.W.Frag) (neg:Bool):R2:=fun x y H Q=>∃ p xs,y=.ref p/\(SqL K H p xs\/SqT K H p xs)/\QB x=true/\xs.all QB=true/\Q (.bl (if neg then !inV x xs else inV x xs)) H
theorem zM8:OpR X (compareOp .In) (rIn X.K false):=by
 intro pins s σ H x y v u Q I rx ry h
 obtain⟨p,xs,rfl,hq,fx,fs,q⟩:=h
 cases ry
 rcases hq with hq | hq
 ·obtain⟨its,r,pl,hz⟩:=I.list hq
  refine SeqAt.in_listAt (eqU x) pl.isList (fun w hw=>zCV rx fx r fs w (by simpa using hw)) ⟨.bl _,H,I,rfl,?_⟩
  rw[show its.toArray.any (eqU x)=its.any (eqU x) by simp,zDZ r fs]
  exact q
 ·obtain⟨its,r,pl,hz⟩:=I.tuple hq
  refine SeqAt.in_tupleAt (eqU x) pl (fun w hw=>zCV rx fx r fs w (by simpa using hw)) ⟨.bl _,H,I,rfl,?_⟩
  rw[show its.toArray.any (eqU x)=its.any (eqU x) by simp,zDZ r fs]
  exact q
theorem zK7:OpR X (compareOp .NotIn) (rIn X.K true):=by
 intro pins s σ H x y v u Q I rx ry h
 obtain⟨p,xs,rfl,hq,fx,fs,q⟩:=h
 cases ry
 rcases hq with hq | hq
 ·obtain⟨its,r,pl,hz⟩:=I.list hq
  refine SeqAt.notIn_listAt (eqU x) pl.isList (fun w hw=>zCV rx fx r fs w (by simpa using hw)) ⟨.bl _,H,I,rfl,?_⟩
  rw[show its.toArray.any (eqU x)=its.any (eqU x) by simp,zDZ r fs]
  exact q
 ·obtain⟨its,r,pl,hz⟩:=I.tuple hq
  refine SeqAt.notIn_tupleAt (eqU x) pl (fun w hw=>zCV rx fx r fs w (by simpa using hw)) ⟨.bl _,H,I,rfl,?_⟩
  rw[show its.toArray.any (eqU x)=its.any (eqU x) by simp,zDZ r fs]
  exact q
theorem zKy:qj X (.builtin "len") (fun xs H Q=>∃ p ys,xs=[.ref p]/\(SqL X.K H p ys\/SqT X.K H p ys)/\Q (.int ys.length) H):=by
 intro pins s σ H xs us Q I r h
 obtain⟨p,ys,rfl,hq,q⟩:=h
 obtain⟨u,rfl,rx⟩:=Jw r
 cases rx
 have hn:=zCi
 rcases hq with hq | hq
 ·obtain⟨its,r',pl,hz⟩:=I.list hq
  have hlen:=r'.length
  exact Calls.call_len_list pl.isList (by simp only[List.size_toArray]<;>omega) ⟨.int ys.length,H,I.tok _,⟨s.toks+1,by rw[List.size_toArray,hlen]⟩,q⟩
 ·obtain⟨its,r',pl,hz⟩:=I.tuple hq
  have hlen:=r'.length
  exact len_tuple pl (by simp only[List.size_toArray]<;>omega) ⟨.int ys.length,H,I.tok _,⟨s.toks+1,by rw[List.size_toArray,hlen]⟩,q⟩
theorem zKp:qj X (.builtin "len") (fun xs H Q=>∃ z,xs=[.str z]/\z.length <= sizeLine/\Q (.int z.length) H):=by
 intro pins s σ H xs us Q I r h
 obtain⟨z,rfl,hz,q⟩:=h
 obtain⟨u,rfl,t,rfl⟩:=Jw r
 have hn:=zCi
 exact len_str (by omega) ⟨.int z.length,H,I.tok _,⟨_,rfl⟩,q⟩
theorem qj.or {f:Value}{r r':List V->Hp->VK->Prop} (h:qj X f r) (h':qj X f r'):qj X f (fun xs H Q=>r xs H Q\/r' xs H Q):=by
 intro pins s σ H xs us Q I rs q
 rcases q with q | q
 ·exact h pins s σ H xs us Q I rs q
 ·exact h' pins s σ H xs us Q I rs q
theorem zJ8:qj X (.type "list") (fun xs H Q=>∃ p ys,xs=[.ref p]/\(SqL X.K H p ys\/SqT X.K H p ys)/\∀ l,H l=none->Q (.ref l) (upd H l (.lst ys))):=by
 intro pins s σ H xs us Q I r h
 obtain⟨p,ys,rfl,hq,q⟩:=h
 obtain⟨u,rfl,rx⟩:=Jw r
 cases rx
 have fin:∀ (its:List Value),ze ys its->ys.length <= sizeLine->∀ (h':Heap) (c':Nat),(∀ b o',s.heap.get? b=some o'->h'.get? b=some o') ->
   h'.get? s.heap.objs.size=some { cls:=.type "list",dict:=none,data:=.seq its.toArray c',slots:=#[] }->EP X pins σ Q (.ref s.heap.objs.size) { s with heap:=h' }:=fun its r' hz h' c' kp e =>
  ⟨.ref s.heap.objs.size,_,I.laid (t':=s.toks) kp (Nat.le_refl _) (show qS X.prog X.w _ h' _ (.lst ys) from ⟨hz,its,c',r',e⟩),rfl,q _ (I.hok.fresh (Nat.le_refl _))⟩
 rcases hq with hq | hq
 ·obtain⟨its,r',pl,hz⟩:=I.list hq
  have hlen:=r'.length
  obtain⟨o,ho,hc,n,hd⟩:=pl.isList
  exact call_list_seq p (.inl rfl) ho hc hd (fun h' c' kp e=>fin its r' hz h' c' kp e) (by simp only[List.size_toArray]<;>omega)
 ·obtain⟨its,r',pl,hz⟩:=I.tuple hq
  have hlen:=r'.length
  obtain⟨o,ho,hc,n,hd⟩:=pl
  exact call_list_seq p (.inr rfl) ho hc hd (fun h' c' kp e=>fin its r' hz h' c' kp e) (by simp only[List.size_toArray]<;>omega)
theorem zJM:qj X (.type "tuple") (fun xs H Q=>∃ p ys,xs=[.ref p]/\((SqL X.K H p ys/\∀ l,H l=none->Q (.ref l) (upd H l (.tup ys)))\/(SqT X.K H p ys/\Q (.ref p) H))):=by
 intro pins s σ H xs us Q I r h
 obtain⟨p,ys,rfl,h⟩:=h
 obtain⟨u,rfl,rx⟩:=Jw r
 cases rx
 rcases h with ⟨hq,q⟩ | ⟨hq,q⟩
 ·obtain⟨its,r',pl,hz⟩:=I.list hq
  have hlen:=r'.length
  refine call_tuple_list pl.isList (fun h' kp=>?_) (by simp only[List.size_toArray]<;>omega)
  have I1:Inv X pins σ H { s with heap:=h' }:=I.kept (t':=s.toks) kp
  have I2:Inv X pins σ (upd H h'.objs.size (.tup ys)) { s with heap:=h'.push { cls:=.type "tuple",data:=.seq its.toArray } } :=
   I1.laid (t':=s.toks) (fun b o e=>Heap.get?_push_of_some _ e) (Nat.le_refl _) (show qS X.prog X.w _ _ _ (.tup ys) from ⟨hz,its,r',IsTup.new _ _⟩)
  exact⟨.ref h'.objs.size,_,I2,rfl,q _ (I1.hok.fresh (Nat.le_refl _))⟩
 ·obtain⟨its,r',pl,hz⟩:=I.tuple hq
  exact call_tuple_same pl ⟨.ref p,H,I,rfl,q⟩
noncomputable def tyV (K:PySem.W.Frag) (T:String) (x:V) (H:Hp):Prop:=match x with
 | .str _=>T = "str"
 | .int _=>T = "int"
 | .ref p=>(T = "list" /\ ∃ xs,SqL K H p xs)\/(T = "tuple" /\ ∃ o,K.lookup p=some o/\o.cls=.type "tuple" /\ o.dict=none) \/
   (T = "dict" /\ ((∃ kvs,H p=some (.dK kvs))\/∃ kvs,H p=some (.dT kvs)))\/(T = "set" /\ ∃ S n,H p=some (.set S n))
 | _=>False
theorem zKM {pins:List (Addr×Obj)}{σ:St}{H:Hp}{s:Shared}{T:String}{x:V}{v:Value} (I:Inv X pins σ H s) (r:zv x v) (ty:tyV X.K T x H) :
  s.TypeIs v T/\∀ a,v=.ref a->∃ ob,s.heap.get? a=some ob/\ob.dict=none:=by
 cases x with
 | str z =>
  obtain⟨t,rfl⟩:=r
  cases (show T = "str" from ty)
  exact⟨typeIs_str s z t,fun _ e=>nomatch e⟩
 | int i =>
  obtain⟨t,rfl⟩:=r
  cases (show T = "int" from ty)
  exact⟨typeIs_int s i t,fun _ e=>nomatch e⟩
 | ref p =>
  cases r
  rcases ty with ⟨rfl,xs,hq⟩ | ⟨rfl,o,hk,hc,hd⟩ | ⟨rfl,hk⟩ | ⟨rfl,S,n,hk⟩
  ·obtain⟨its,_,pl,_⟩:=I.list hq
   refine⟨pl.isList.typeIs,fun a e=>?_⟩
   cases e
   obtain⟨o,n,e,c,hd,_⟩:=pl
   exact⟨o,e,hd⟩
  ·refine⟨⟨o,I.kIn p o hk,hc⟩,fun a e=>?_⟩
   cases e
   exact⟨o,I.kIn _ o hk,hd⟩
  ·have z:∃ o,s.heap.get? p=some o/\o.ExactDict:=by
    rcases hk with ⟨kvs,hk⟩ | ⟨kvs,hk⟩
    ·obtain⟨_,_,_,_,o,_,_,e,ex,_⟩:=I.hok p _ hk
     exact⟨o,e,ex⟩
    ·obtain⟨_,_,_,_,o,_,_,e,ex,_⟩:=I.hok p _ hk
     exact⟨o,e,ex⟩
   obtain⟨o,e,ex⟩:=z
   refine⟨⟨o,e,ex.1⟩,fun a e2=>?_⟩
   cases e2
   exact⟨o,e,ex.2.1⟩
  ·obtain⟨o,_,_,_,e,ex,_⟩:=I.hok p _ hk
   refine⟨⟨o,e,ex.1⟩,fun a e2=>?_⟩
   cases e2
   exact⟨o,e,ex.2.1⟩
 | _=>exact False.elim ty
noncomputable def zT1 (K:PySem.W.Frag) (T:String) (r:V->List V->Hp->VK->Prop) (to:TE):TE:=fun σ H Q=>to σ H fun x H1=>tyV K T x H1/\r x [] H1 Q
noncomputable def tBM (K:PySem.W.Frag) (T:String) (r:V->List V->Hp->VK->Prop) (to:TE) (t:TA):TE:=fun σ H Q=>to σ H fun x H1=>tyV K T x H1/\t σ H1 fun xs H2=>r x xs H2 Q
variable {o e:Expr}{es:List Expr}{to:TE}{t:TA}{name:Str}{apos cpos:Pos}{T id:String}{r:V->List V->Hp->VK->Prop}
theorem zSY (pa:PlainAttrs T) (slot:Slot T name id) (hty:typeOf (.builtin id)=pure (.type "method_descriptor")) (hm:MtR X id r) (ho:PE X o to)
  (hbase:attributeBase o name X.env (eval o X.env)=eval o X.env:=by rfl) (hline:(apos.endLine == cpos.line)=true:=by rfl):PE X (.Call (.Attribute o name apos) [] [] cpos) (zT1 X.K T r to):=by
 intro pins s σ H Q I h
 refine wpAny_Call_method0_late hbase hline (thn (ho pins s σ H _ I h) fun v s1 ⟨x,H1,I1,r1,ty,q1⟩=>?_)
 obtain⟨h1,h2⟩:=zKM I1 r1 ty
 exact⟨T,id,pa,slot,hty,h1,h2,Calls.callWith_builtin rfl (PySem.evalArgs_none (hm pins s1 σ H1 x [] v [] Q I1 r1 .nil q1))⟩
theorem zPz (pa:PlainAttrs T) (slot:Slot T name id) (hty:typeOf (.builtin id)=pure (.type "method_descriptor")) (hm:MtR X id r) (ho:PE X o to) (ha:PA X (e::es) t)
  (hbase:attributeBase o name X.env (eval o X.env)=eval o X.env:=by rfl)
  (hfew:((backTo cpos (starEach (e::es) X.env)).all (fun x=>!x.1) && (backToKw cpos (keywordEach [] X.env)).all (fun x=>x.1.isSome)
   && decide ((e::es).length+([]:List Keyword).length+(if ([]:List Keyword).isEmpty then 0 else 1) < 30))=true:=by rfl)
  (hline:(apos.endLine == cpos.line)=true:=by rfl) (hs:starEach (e::es) X.env=(false,eval e X.env)::starEach es X.env:=by rfl) (hplain:(backTo cpos (starEach es X.env)).any (·.1)=false:=by rfl) :
  PE X (.Call (.Attribute o name apos) (e::es) [] cpos) (tBM X.K T r to t):=by
 intro pins s σ H Q I h
 refine wpAny_Call_method_late hbase hfew hline rfl (thn (ho pins s σ H _ I h) fun v s1 ⟨x,H1,I1,r1,ty,q1⟩=>?_)
 obtain⟨h1,h2⟩:=zKM I1 r1 ty
 refine⟨T,id,pa,slot,hty,h1,h2,?_⟩
 have hA:=ha cpos pins s1 σ H1 _ I1 q1
 rw[hs] at hA ⊢
 refine Calls.callWith_builtin (by show (false || (backTo cpos (starEach es X.env)).any (·.1))=false;rw[hplain]<;>rfl) (Calls.evalArgs_plain ?_)
 exact thn hA fun us s2 ⟨vs,H2,I2,r2,q2⟩=>hm pins s2 σ H2 x vs v us Q I2 r1 r2 q2
end
end L2
namespace L2
open PySem PySem.Spec PyProof.Rows
noncomputable def MtM (X:Cx) (id:String) (r:V->List V->Hp->VK->Prop):Prop :=
 ∀ (pins:List (Addr×Obj)) (s:Shared) (σ:St) (H:Hp) (x:V) (xs:List V) (v:Value) (us:List Value) (Q:VK),Inv X pins σ H s->zv x v->ze xs us->r x xs H Q ->
  wpAny (model X.prog X.w) X.A (call (.builtin id) (v::us)) (EP X pins σ Q) X.xe s
theorem ze.one:∀ {x:V}{us:List Value},ze [x] us->∃ u,us=[u]/\zv x u
 | _,_,.cons r .nil=>⟨_,rfl,r⟩
theorem ze.zero:∀ {us:List Value},ze [] us->us=[]
 | _,.nil=>rfl
theorem ze.dropLast {xs:List V}{us:List Value} (h:ze xs us):ze xs.dropLast us.dropLast:=by
 induction h with
 | nil=>exact .nil
 | cons r t ih =>
  cases t with
  | nil=>exact .nil
  | cons q t'=>exact .cons r ih
theorem ze.reverse {xs:List V}{us:List Value} (h:ze xs us):ze xs.reverse us.reverse:=by
 induction h with
 | nil=>exact .nil
 | cons r t ih=>rw[List.reverse_cons,List.reverse_cons];exact ze.append ih (.cons r .nil)
theorem ze.rep {xs:List V}{us:List Value} (h:ze xs us):∀ k:Nat,ze (List.replicate k xs).flatten (List.replicate k us).flatten
 | 0=>.nil
 | k+1=>by
  rw[List.replicate_succ,List.replicate_succ,List.flatten_cons,List.flatten_cons]
  exact ze.append h (ze.rep h k)
theorem zL9 {α:Type} (l:List α):l.eraseIdx (l.length - 1)=l.dropLast:=by
 induction l with
 | nil=>rfl
 | cons a r ih =>
  cases r with
  | nil=>rfl
  | cons b r =>
   have e:(a::b::r).length - 1=((b::r).length - 1)+1:=by
    have h1:(a::b::r).length=r.length+2:=rfl
    have h2:(b::r).length=r.length+1:=rfl
    omega
   rw[e,List.eraseIdx_cons_succ,ih]
   all_goals rfl
theorem zIf (its:List Value):∀ (k:Nat) (acc:List Value),
  List.foldl (fun x1 x2=>x1++x2) acc.toArray (List.replicate k its.toArray)=(acc++(List.replicate k its).flatten).toArray
 | 0,acc=>by simp
 | k+1,acc=>by
  have e:acc.toArray++its.toArray=(acc++its).toArray:=by simp
  have e2:(acc++its)++(List.replicate k its).flatten=acc++(List.replicate (k+1) its).flatten:=by
   rw[List.replicate_succ,List.flatten_cons,List.append_assoc]
  rw[<- e2,<- zIf its k (acc++its),<- e,List.replicate_succ,List.foldl_cons]
section
variable {X:Cx}{pins:List (Addr×Obj)}{σ:St}{H:Hp}{s:Shared}{l b:Addr}{xs ys zs:List V}
theorem Inv.lset {its its':List Value}{n:Nat}{f:Array Value->Array Value}{t':Nat} (I:Inv X pins σ H s) (hH:H l=some (.lst xs))
  (e:s.heap.get? l=some { cls:=.type "list",data:=.seq its.toArray n }) (hf:f its.toArray=its'.toArray) (hv:ze ys its') (hz:ys.length <= sizeLine) (ht:0 < t':=by first | exact Nat.succ_pos _ | assumption | exact Inv.tk (by assumption) | omega) :
  Inv X pins σ (upd H l (.lst ys)) { s with heap:=s.heap.update l (Obj.mapSeq f),toks:=t' }:=by
 have q:=PySem.IsL.update e f
 rw[hf] at q
 refine I.write (x:=l) (e:=l) (by rw[hH];exact trivial) (.inl rfl) (fun b' u hb hu=>(Heap.get?_update_other s.heap (Obj.mapSeq f) (Ne.symm hb)).trans hu) ⟨_,q⟩ ?_
 exact⟨hz,its',_,hv,q⟩
theorem Inv.lnew {its:List Value}{t':Nat} (I:Inv X pins σ H s) (hv:ze ys its) (hz:ys.length <= sizeLine) (ht:0 < t':=by first | exact Nat.succ_pos _ | assumption | exact Inv.tk (by assumption) | omega) :
  Inv X pins σ (upd H s.heap.objs.size (.lst ys)) { s with heap:=s.heap.push { cls:=.type "list",data:=.seq its.toArray },toks:=t' } :=
 I.laid (fun _ _ q=>Heap.get?_push_of_some _ q) (Nat.le_refl _) ⟨hz,its,0,hv,Heap.get?_push_size _ rfl⟩
theorem Inv.fresh (I:Inv X pins σ H s):H s.heap.objs.size=none:=I.hok.fresh (Nat.le_refl _)
theorem Inv.lstM (I:Inv X pins σ H s) (hH:H l=some (.lst xs)):xs.length <= sizeLine/\∃ (its:List Value) (n:Nat),ze xs its/\xs.length=its.length/\s.heap.get? l=some { cls:=.type "list",data:=.seq its.toArray n }:=by
 obtain⟨z,its,n,r,e⟩:=I.hok l _ hH
 exact⟨z,its,n,r,r.length,e⟩
theorem zOX {n:Nat} (h:n <= sizeLine):Builtin.List.listTooLong n=false:=by
 unfold Builtin.List.listTooLong
 exact decide_eq_false (by omega)
end
section
variable {X:Cx}
noncomputable def zLu:V->List V->Hp->VK->Prop:=fun x vs H Q=>∃ l xs y,x=.ref l/\vs=[y]/\H l=some (.lst xs)/\xs.length < sizeLine/\Q .non (upd H l (.lst (xs++[y])))
theorem Jd:MtM X "list.append" zLu:=by
 intro pins s σ H x vs v us Q I rx rv h
 obtain⟨l,xs,y,rfl,rfl,hH,hz,q⟩:=h
 cases rx
 obtain⟨u,rfl,ru⟩:=rv.one
 obtain⟨z,its,n,r,hl,e⟩:=I.lstM hH
 refine call_meets F.slot_list_append ⟨_,e,rfl⟩ F.entry_list_append (F.args_list_append_2 _ _) (PySem.list_append l its.toArray n u (by rw[List.size_toArray];omega)) ⟨e,?_⟩
 refine⟨.non,_,I.lset (its':=its++[u]) hH e (by simp) (r.append (.cons ru .nil)) ?_,rfl,q⟩
 rw[List.length_append,List.length_singleton]
 omega
noncomputable def zSz:V->List V->Hp->VK->Prop:=fun x vs H Q=>∃ l xs y,x=.ref l/\vs=[]/\H l=some (.lst xs)/\xs[xs.length - 1]? = some y/\Q y (upd H l (.lst xs.dropLast))
theorem zKq:MtM X "list.pop" zSz:=by
 intro pins s σ H x vs v us Q I rx rv h
 obtain⟨l,xs,y,rfl,rfl,hH,hy,q⟩:=h
 cases rx
 have hus:=rv.zero
 subst hus
 obtain⟨z,its,n,r,hl,e⟩:=I.lstM hH
 obtain⟨u,hu,ru⟩:=r.get hy
 have hy':its.toArray[its.toArray.size - 1]? = some u:=by
  show its.toArray[its.length - 1]? = some u
  rw[<- Array.getElem?_toList,<- hl]
  exact hu
 refine call_meets F.slot_list_pop ⟨_,e,rfl⟩ F.entry_list_pop (F.args_list_pop_1 _) (MeetsSeq.list_pop_last l its.toArray n u hy' (by rw[List.size_toArray];omega)) ⟨e,?_⟩
 refine⟨y,_,I.lset (its':=its.dropLast) hH e ?_ r.dropLast ?_,ru,q⟩
 ·show its.toArray.eraseIdxIfInBounds (its.toArray.size - 1)=its.dropLast.toArray
  rw[List.size_toArray,List.eraseIdxIfInBounds_toArray,zL9]
 ·rw[List.length_dropLast]
  omega
noncomputable def zT3:R2:=fun x y H Q=>∃ l b xs zs,x=.ref l/\y=.ref b/\H l=some (.lst xs)/\H b=some (.lst zs)/\xs.length+zs.length <= sizeLine/\∀ p,H p=none->Q (.ref p) (upd H p (.lst (xs++zs)))
theorem zRx:OpR X (binaryOp .Add) zT3:=by
 intro pins s σ H x y v u Q I rx ry h
 obtain⟨l,b,xs,zs,rfl,rfl,hH,hB,hz,q⟩:=h
 cases rx
 cases ry
 obtain⟨z,its,n,r,hl,e⟩:=I.lstM hH
 obtain⟨z2,its2,n2,r2,hl2,e2⟩:=I.lstM hB
 refine PySem.P.add_list e e2 ?_ (by rw[List.size_toArray,List.size_toArray];omega)
 have ea:its.toArray++its2.toArray=(its++its2).toArray:=by simp
 rw[ea]
 exact⟨.ref _,_,I.lnew (t':=s.toks) (r.append r2) (by rw[List.length_append];omega),rfl,q _ I.fresh⟩
noncomputable def zSw:R2:=fun x y H Q=>∃ l k xs,x=.ref l/\y=.int k/\H l=some (.lst xs) /\ -(2 ^ 63) <= k/\k < 2 ^ 63/\xs.length * k.toNat <= sizeLine /\
 ∀ p,H p=none->Q (.ref p) (upd H p (.lst (List.replicate k.toNat xs).flatten))
theorem zQL {α:Type} (xs:List α) (k:Nat):(List.replicate k xs).flatten.length=k * xs.length:=by
 induction k with
 | zero=>simp
 | succ k ih=>rw[List.replicate_succ,List.flatten_cons,List.length_append,ih,Nat.succ_mul,Nat.add_comm]
theorem zR4:OpR X (binaryOp .Mult) zSw:=by
 intro pins s σ H x y v u Q I rx ry h
 obtain⟨l,k,xs,rfl,rfl,hH,h1,h2,hz,q⟩:=h
 cases rx
 obtain⟨t,rfl⟩:=ry
 obtain⟨z,its,n,r,hl,e⟩:=I.lstM hH
 have hlen:its.toArray.size * k.toNat <= sizeLine:=by rw[List.size_toArray,<- hl];exact hz
 have hcap:¬ its.toArray.size * k.toNat > (2 ^ 63 - 1) / 8:=by
  have:(sizeLine:Nat) <= (2 ^ 63 - 1) / 8:=by decide
  omega
 have hfit:¬ (!Builtin.List.listFitsIndex k)=true:=by
  rw[fitsIndex_both h1 h2]
  exact Bool.false_ne_true
 have hlong:¬ Builtin.List.listTooLong (its.toArray.size * k.toNat)=true:=by
  rw[zOX hlen]
  exact Bool.false_ne_true
 have hnew:List.foldl (fun x1 x2=>x1++x2) #[] (List.replicate (if its.toArray.isEmpty=true then 0 else k.toNat) its.toArray)=(List.replicate k.toNat its).flatten.toArray:=by
  have f0:∀ m:Nat,List.foldl (fun x1 x2=>x1++x2) #[] (List.replicate m its.toArray)=(List.replicate m its).flatten.toArray:=fun m=>by
   have:=zIf its m []
   rw[List.nil_append] at this
   exact this
  rw[f0]
  cases its with
  | nil=>simp
  | cons a r'=>rw[if_neg (by simp)]
 refine wpAny_binaryOp_repeat_ref (T := "list") (U := "int") (by decide) ⟨_,e,rfl⟩ (fun s'=>typeIs_int s' k t) noFill_list_mul F.fills_int_mul F.slot_int_rmul repeat_list F.slot_int_index.lookup
  (call_meets F.slot_int_rmul (typeIs_int s k t) F.entry_int_rmul (F.args_int_rmul_2 _ _) (int___rmul___int_list k t l its.toArray n)
   ⟨e,rfl,⟨_,e,rfl⟩,call_meets F.slot_list_mul ⟨_,e,rfl⟩ F.entry_list_mul (F.args_list_mul_2 _ _) (AutoListH.list___mul___list_int_3 l its.toArray n k t hfit hcap hlong) ⟨e,?_⟩⟩)
 rw[hnew]
 exact⟨.ref _,_,I.lnew (t':=s.toks) (r.rep k.toNat) (by rw[zQL,Nat.mul_comm];exact hz),rfl,q _ I.fresh⟩
end
section
variable {prog:Program}{w:World}{A:Around}{E:Value->Shared->Prop}{s:Shared}
set_option maxRecDepth 100000 in
end
end L2
namespace L2
open PySem PySem.Spec PyProof.Rows
section
variable {κ:Type} [DecidableEq κ]
noncomputable def Q9 (kvs:List (κ×V)) (k:κ):Option V:=(kvs.find? fun kv=>decide (kv.1=k)).map (·.2)
noncomputable def JG (kvs:List (κ×V)) (k:κ) (v:V):List (κ×V) :=
 if (kvs.any fun kv=>decide (kv.1=k))=true then kvs.map (fun kv=>if kv.1=k then (kv.1,v) else kv) else kvs++[(k,v)]
theorem zD2 {p:κ×V}{r:List (κ×V)}{k:κ} (e:p.1=k):Q9 (p::r) k=some p.2:=by simp[Q9,List.find?_cons,e]
theorem zD3 {p:κ×V}{r:List (κ×V)}{k:κ} (e:¬ p.1=k):Q9 (p::r) k=Q9 r k:=by simp[Q9,List.find?_cons,e]
theorem zKE (k:κ):∀ kvs:List (κ×V),(kvs.any fun kv=>decide (kv.1=k))=(Q9 kvs k).isSome
 | []=>rfl
 | p::r=>by
  rw[List.any_cons]
  by_cases e:p.1=k
  ·simp only[zD2 e,decide_eq_true e,Bool.true_or,Option.isSome_some]
  ·rw[zD3 e,decide_eq_false e,Bool.false_or];exact zKE k r
theorem zDO (kvs:List (κ×V)) (k:κ) (v:V):(JG kvs k v).length <= kvs.length+1:=by
 unfold JG
 split
 ·rw[List.length_map];omega
 ·rw[List.length_append,List.length_cons,List.length_nil];omega
theorem zAD.isSome_eq {o:Option V}{u:Option Value} (r:zAD o u):o.isSome=u.isSome:=by
 cases o with
 | none=>cases u with
  | none=>rfl
  | some _=>exact (show False from r).elim
 | some _=>cases u with
  | none=>exact (show False from r).elim
  | some _=>rfl
theorem KV.val {kvs:List (κ×V)}{vs:List (κ×Value)} (r:KV kvs vs) (k:κ):zAD (Q9 kvs k) (valueAt vs k):=by
 unfold KV at r
 induction r with
 | nil=>exact True.intro
 | @cons p q ps qs h t ih =>
  obtain⟨h1,h2⟩:=h
  by_cases e:p.1=k
  ·have e':q.1=k:=h1.symm.trans e
   have b:valueAt (q::qs) k=some q.2:=by simp[valueAt,List.find?_cons,e']
   rw[zD2 e,b];exact h2
  ·have e':¬ q.1=k:=fun z=>e (h1.trans z)
   have b:valueAt (q::qs) k=valueAt qs k:=by simp[valueAt,List.find?_cons,e']
   rw[zD3 e,b];exact ih
theorem KV.any {kvs:List (κ×V)}{vs:List (κ×Value)} (r:KV kvs vs) (k:κ):(kvs.any fun kv=>decide (kv.1=k))=vs.any fun kv=>decide (kv.1=k):=by
 unfold KV at r
 induction r with
 | nil=>rfl
 | cons h t ih=>rw[List.any_cons,List.any_cons,ih,h.1]
theorem KV.repl {kvs:List (κ×V)}{vs:List (κ×Value)} (r:KV kvs vs) (k:κ) {y:V}{u:Value} (ry:zv y u) :
  KV (kvs.map fun kv=>if kv.1=k then (kv.1,y) else kv) (vs.map fun kv=>if kv.1=k then (kv.1,u) else kv):=by
 unfold KV at r ⊢
 induction r with
 | nil=>exact .nil
 | @cons p q ps qs h t ih =>
  rw[List.map_cons,List.map_cons]
  refine .cons ?_ ih
  obtain⟨h1,h2⟩:=h
  by_cases e:p.1=k
  ·rw[if_pos e,if_pos (h1.symm.trans e)];exact⟨h1,ry⟩
  ·rw[if_neg e,if_neg (fun z=>e (h1.trans z))];exact⟨h1,h2⟩
theorem KV.put {kvs:List (κ×V)}{vs:List (κ×Value)} (r:KV kvs vs) (k:κ) {y:V}{u:Value} (ry:zv y u):KV (JG kvs k y) (stored vs k u):=by
 unfold JG stored
 rw[r.any k]
 by_cases e:(vs.any fun kv=>decide (kv.1=k))=true
 ·rw[if_pos e,if_pos e];exact r.repl k ry
 ·rw[if_neg e,if_neg e];exact Paired.snoc r ⟨rfl,ry⟩
theorem KV.keys {kvs:List (κ×V)}{vs:List (κ×Value)} (r:KV kvs vs):kvs.map (·.1)=vs.map (·.1):=by
 unfold KV at r
 induction r with
 | nil=>rfl
 | cons h t ih=>rw[List.map_cons,List.map_cons,ih,h.1]
theorem KV.length {kvs:List (κ×V)}{vs:List (κ×Value)} (r:KV kvs vs):kvs.length=vs.length:=Paired.length r
end
theorem zFY {P:Program}{w:World}{k:Key}{u:Value} (r:zv (kV k) u):(yR P w).is k u=true:=by
 cases k with
 | inl i=>obtain⟨t,e⟩:=(show ∃ t,u=Value.int i t from r);subst e;exact zLL P w i t
 | inr x=>obtain⟨t,e⟩:=(show ∃ t,u=Value.str x t from r);subst e;exact zLG P w x t
theorem zI9 {P:Program}{w:World}:∀ {ks:List Key}{us:List Value},ze (ks.map kV) us->ItemsAre (yR P w) ks us
 | [],_,r=>by rw[List.map_nil] at r;cases r;exact .nil
 | k::ks,_,r=>by
  rw[List.map_cons] at r
  cases r with
  | cons h t=>exact .cons (zFY h) (zI9 t)
noncomputable abbrev KT (H:Hp):List (List Key×V)->List (List Key×Addr×Value)->Prop:=Paired fun p q=>p.1=q.1/\H q.2.1=some (.tup (p.1.map kV))/\zv p.2 q.2.2
theorem KT.val {H:Hp}{kvs:List (List Key×V)}{xs:List (List Key×Addr×Value)} (r:KT H kvs xs) (k:List Key):zAD (Q9 kvs k) ((atKey xs k).map (·.2)):=by
 induction r with
 | nil=>exact True.intro
 | @cons p q ps qs h t ih =>
  obtain⟨h1,_,h2⟩:=h
  by_cases e:p.1=k
  ·have e':q.1=k:=h1.symm.trans e
   have b:atKey (q::qs) k=some q.2:=by simp[atKey,List.find?_cons,e']
   rw[zD2 e,b];exact h2
  ·have e':¬ q.1=k:=fun z=>e (h1.trans z)
   have b:atKey (q::qs) k=atKey qs k:=by simp[atKey,List.find?_cons,e']
   rw[zD3 e,b];exact ih
theorem KT.repl {H:Hp}{kvs:List (List Key×V)}{xs:List (List Key×Addr×Value)} (r:KT H kvs xs) (k:List Key) {y:V}{u:Value} (ry:zv y u) :
  KT H (kvs.map fun kv=>if kv.1=k then (kv.1,y) else kv) (xs.map (putAt k u)):=by
 induction r with
 | nil=>exact .nil
 | @cons p q ps qs h t ih =>
  rw[List.map_cons,List.map_cons]
  refine .cons ?_ ih
  obtain⟨h1,h2,h3⟩:=h
  unfold putAt
  by_cases e:p.1=k
  ·rw[if_pos e,if_pos (h1.symm.trans e)];exact⟨h1,h2,ry⟩
  ·rw[if_neg e,if_neg (fun z=>e (h1.trans z))];exact⟨h1,h2,h3⟩
theorem KT.put {H:Hp}{kvs:List (List Key×V)}{xs:List (List Key×Addr×Value)} (r:KT H kvs xs) (k:List Key) {b:Addr}{y:V}{u:Value} (hb:H b=some (.tup (k.map kV))) (ry:zv y u) :
  KT H (JG kvs k y) (storedH xs k b u):=by
 have e:(kvs.any fun kv=>decide (kv.1=k))=(atKey xs k).isSome:=by
  rw[zKE,(r.val k).isSome_eq,Option.isSome_map]
 unfold JG storedH
 rw[e]
 by_cases q:(atKey xs k).isSome=true
 ·rw[if_pos q,if_pos q];exact r.repl k ry
 ·rw[if_neg q,if_neg q];exact Paired.snoc r ⟨rfl,hb,ry⟩
theorem KT.keeps {H H':Hp}{kvs:List (List Key×V)}{xs:List (List Key×Addr×Value)} (r:KT H kvs xs) (ht:∀ b ys,H b=some (.tup ys)->H' b=some (.tup ys)):KT H' kvs xs :=
 Paired.mapP r fun _ _ z=>⟨z.1,ht _ _ z.2.1,z.2.2⟩
section
variable {P:Program}{w:World}{H:Hp}{h:Heap}{a:Addr}
theorem zPt {u:HO} (ok:HOk P w H h) (e:Rd H a u):qS P w H h a u:=e.ok ok
theorem zFj {kvs:List (Key×V)} (ok:HOk P w H h) (e:Rd H a (.dK kvs)):kvs.length <= sizeLine/\(a == sysModules)=false/\∃ vs,KV kvs vs/\h.DictOf (yR P w) a vs :=
 show qS P w H h a (.dK kvs) from zPt ok e
theorem zDA {kvs:List (Key×V)} (ok:HOk P w H h) (e:H a=some (.dK kvs)):kvs.length <= sizeLine/\(a == sysModules)=false/\∃ vs,KV kvs vs/\h.DictOf (yR P w) a vs:=zFj ok (.inl e)
theorem zFT {ks:List Key} (ok:HOk P w H h) (e:H a=some (.tup (ks.map kV))):(tupleKind (yR P w)).is h ks a:=by
 obtain⟨_,its,r,o,h1,h2,n,h3⟩:=(show qS P w H h a (.tup (ks.map kV)) from ok a _ e)
 exact⟨o,its.toArray,n,h1,h2,h3,by simpa using zI9 r⟩
theorem zHB {kvs:List (List Key×V)} (ok:HOk P w H h) (e:Rd H a (.dT kvs)):kvs.length <= sizeLine/\(a == sysModules)=false /\
  ∃ xs,KT H kvs xs/\h.DictOfH (tupleKind (yR P w)) a xs:=by
 obtain⟨z,y,xs,r,o,es,ep,h1,h2,h3,h4,h5⟩:=(show qS P w H h a (.dT kvs) from zPt ok e)
 refine⟨z,y,xs,r,o,es,ep,h1,h2,h3,h4,fun x hx=>?_,h5⟩
 have all:∀ {l:List (List Key×V)}{m:List (List Key×Addr×Value)},KT H l m->∀ x∈m,(tupleKind (yR P w)).is h x.1 x.2.1:=by
  intro l m q
  induction q with
  | nil=>intro x hx;exact nomatch hx
  | @cons p q ps qs hq t ih =>
   intro x hx
   rcases List.mem_cons.mp hx with e | hx
   ·subst e
    exact zFT ok (by rw[<- hq.1];exact hq.2.1)
   ·exact ih x hx
 exact all r x hx
theorem zTf {kvs:List (List Key×V)} (ok:HOk P w H h) (e:H a=some (.dT kvs)):kvs.length <= sizeLine/\(a == sysModules)=false /\
  ∃ xs,KT H kvs xs/\h.DictOfH (tupleKind (yR P w)) a xs:=zHB ok (.inl e)
end
noncomputable def zDN (H:Hp) (a:Addr) (y:V) (r:Option V):Prop :=
 (∃ kvs k,Rd H a (.dK kvs)/\y=kV k/\r=Q9 kvs k)\/∃ kvs k b,Rd H a (.dT kvs)/\y=.ref b/\H b=some (.tup (k.map kV))/\r=Q9 kvs k
noncomputable def zJ3 (H:Hp) (a:Addr) (y v:V) (H':Hp):Prop :=
 (∃ kvs k,H a=some (.dK kvs)/\y=kV k/\kvs.length < sizeLine/\H'=upd H a (.dK (JG kvs k v))) \/
 ∃ kvs k b,H a=some (.dT kvs)/\y=.ref b/\H b=some (.tup (k.map kV))/\kvs.length < sizeLine/\H'=upd H a (.dT (JG kvs k v))
theorem zDN.k {H:Hp}{a:Addr}{kvs:List (Key×V)}{k:Key} (e:H a=some (.dK kvs)):zDN H a (kV k) (Q9 kvs k):=.inl ⟨kvs,k,.inl e,rfl,rfl⟩
theorem zJ3.k {H:Hp}{a:Addr}{kvs:List (Key×V)}{k:Key}{v:V} (e:H a=some (.dK kvs)) (hl:kvs.length < sizeLine):zJ3 H a (kV k) v (upd H a (.dK (JG kvs k v))):=.inl ⟨kvs,k,e,rfl,hl,rfl⟩
section
variable {X:Cx}{pins:List (Addr×Obj)}{σ:St}{H:Hp}{s:Shared}{a:Addr}{y v:V}{u r:Value}{o:Option V}{A:Around}{E:Value->Shared->Prop}
theorem Inv.big (I:Inv X pins σ H s):sysModules < s.heap.objs.size:=by
 have h:mainGlobals < s.heap.objs.size:=(I.mod.glob.keeps I.bk).lt
 exact Nat.lt_trans (by decide) h
theorem zNk {Q:Value->Shared->Prop} (hu:A.units+1 < cLine) (I:Inv X pins σ H s) (g:zDN H a y (some v)) (ry:zv y u) (h:∀ w' s',Inv X pins σ H s'->zv v w'->Q w' s') :
  wpAny (model X.prog X.w) A (getItem (.ref a) u) Q E s:=by
 rcases g with ⟨kvs,k,e,ey,l⟩ | ⟨kvs,k,b,e,ey,eb,l⟩
 ·subst ey
  obtain⟨z,hd,vs,rel,dd⟩:=zFj I.hok e
  obtain⟨w',hw,rw'⟩:=zAD.some_of (v:=v) (o:=valueAt vs k) (by rw[l];exact rel.val k)
  exact wpAny_getItem_of (zFY ry) dd.mapOf hw (h w' _ (I.tok _) rw')
 ·subst ey
  cases (show u=Value.ref b from ry)
  obtain⟨z,hd,xs,rel,dd⟩:=zHB I.hok e
  obtain⟨w',hw,rw'⟩:=zAD.some_of (v:=v) (o:=(atKey xs k).map (·.2)) (by rw[l];exact rel.val k)
  obtain⟨p,hp,hp2⟩:=Option.map_eq_some_iff.mp hw
  refine wpAny_getItem_heap (tupleKind_room_in1 hu) (zFT I.hok eb) dd hp ?_
  rw[hp2]
  exact h w' _ (I.tok _) rw'
theorem zUQ {Q:Value->Shared->Prop} (hu:A.units+1 < cLine) (I:Inv X pins σ H s) (g:zDN H a y o) (ry:zv y u) (h:∀ s',Inv X pins σ H s'->Q (.bool o.isSome) s') :
  wpAny (model X.prog X.w) A (compareOp .In u (.ref a)) Q E s:=by
 rcases g with ⟨kvs,k,e,ey,l⟩ | ⟨kvs,k,b,e,ey,eb,l⟩
 ·subst ey
  obtain⟨z,hd,vs,rel,dd⟩:=zFj I.hok e
  refine wpAny_in_of (zFY ry) hd dd.mapOf ?_
  rw[<- (rel.val k).isSome_eq,<- l]
  exact h _ (I.tok _)
 ·subst ey
  cases (show u=Value.ref b from ry)
  obtain⟨z,hd,xs,rel,dd⟩:=zHB I.hok e
  refine wpAny_in_heap (tupleKind_room_in1 hu) (zFT I.hok eb) hd dd ?_
  have q:=(rel.val k).isSome_eq
  rw[Option.isSome_map] at q
  rw[<- q,<- l]
  exact h _ (I.tok _)
theorem zQg {Q:Value->Shared->Prop} (hu:A.units+1 < cLine) (I:Inv X pins σ H s) (g:zDN H a y o) (ry:zv y u) (h:∀ s',Inv X pins σ H s'->Q (.bool (!o.isSome)) s') :
  wpAny (model X.prog X.w) A (compareOp .NotIn u (.ref a)) Q E s:=by
 rcases g with ⟨kvs,k,e,ey,l⟩ | ⟨kvs,k,b,e,ey,eb,l⟩
 ·subst ey
  obtain⟨z,hd,vs,rel,dd⟩:=zFj I.hok e
  refine wpAny_notIn_of (zFY ry) hd dd.mapOf ?_
  rw[<- (rel.val k).isSome_eq,<- l]
  exact h _ (I.tok _)
 ·subst ey
  cases (show u=Value.ref b from ry)
  obtain⟨z,hd,xs,rel,dd⟩:=zHB I.hok e
  refine wpAny_notIn_heap (tupleKind_room_in1 hu) (zFT I.hok eb) hd dd ?_
  have q:=(rel.val k).isSome_eq
  rw[Option.isSome_map] at q
  rw[<- q,<- l]
  exact h _ (I.tok _)
theorem zIC {h':Heap}{t':Nat}{ob:HO} (I:Inv X pins σ H s) (mu:Mut (H a)) (hs:Heap.SameBut a s.heap h') (he:∃ q,h'.get? a=some q) (new:qS X.prog X.w (upd H a ob) h' a ob) (ht:0 < t':=by first | exact Nat.succ_pos _ | assumption | exact Inv.tk (by assumption) | omega) :
  Inv X pins σ (upd H a ob) { s with heap:=h',toks:=t' } :=
 I.write (x:=a) (e:=a) mu (.inl rfl) (fun b q hb z=>(hs.2 b hb).trans z) he new
theorem zKW {P:Program}{w:World}{H':Hp}{h':Heap}{kvs:List (Key×V)}{vs:List (Key×Value)} (z:kvs.length <= sizeLine) (hd:(a == sysModules)=false) (rel:KV kvs vs) (dd:h'.DictOf (yR P w) a vs) :
  qS P w H' h' a (.dK kvs):=⟨z,hd,vs,rel,dd⟩
theorem zOI {H':Hp}{Q:Unit->Shared->Prop} (hu:A.units+1 < cLine) (I:Inv X pins σ H s) (g:zJ3 H a y v H') (ry:zv y u) (rv:zv v r) (h:∀ s',Inv X pins σ H' s'->Q () s') :
  wpAny (model X.prog X.w) A (setItem (.ref a) u r) Q E s:=by
 rcases g with ⟨kvs,k,e,ey,l,eH⟩ | ⟨kvs,k,b,e,ey,eb,l,eH⟩
 ·subst ey eH
  obtain⟨z,hd,vs,rel,dd⟩:=zDA I.hok e
  have hz:vs.length <= sizeLine:=by rw[<- rel.length];exact z
  have hl:(JG kvs k v).length <= sizeLine:=by have:=zDO kvs k v;omega
  refine wpAny_setItem_pairs (hsz:=hz) (zFY ry) dd fun h' dd' hs=>h _ ?_
  have he:∃ q,h'.get? a=some q:=let ⟨q,_,_,hq,_⟩:=dd';⟨q,hq⟩
  exact zIC I (by rw[e];exact True.intro) hs he (zKW hl hd (rel.put k rv) dd')
 ·subst ey eH
  cases (show u=Value.ref b from ry)
  obtain⟨z,hd,xs,rel,dd⟩:=zTf I.hok e
  have hz:xs.length <= sizeLine:=by rw[<- Paired.length rel];exact z
  have hl:(JG kvs k v).length <= sizeLine:=by have:=zDO kvs k v;omega
  refine wpAny_setItem_heap (hsz:=hz) (tupleKind_room_in1 hu) (zFT I.hok eb) dd fun h' dd' hs=>h _ ?_
  obtain⟨q,es,ep,hq,h2,h3,h4,_,h5⟩:=dd'
  refine zIC I (by rw[e];exact True.intro) hs ⟨q,hq⟩ ⟨hl,hd,_,(rel.put k eb rv).keeps fun c ys ec=>?_,q,es,ep,hq,h2,h3,h4,h5⟩
  rw[jZ (zTu ec e (fun z=>nomatch z))]
  exact ec
end
section
variable {X:Cx}{pins:List (Addr×Obj)}{σ:St}{H:Hp}{s:Shared}{a:Addr}{kvs:List (Key×V)}{k:Key}{u:Value}{A:Around}{E:Value->Shared->Prop}
theorem zTS {Q:Value->Shared->Prop} (I:Inv X pins σ H s) (e:Rd H a (.dK kvs)) (h:∀ t s',Inv X pins σ H s'->Q (.int kvs.length t) s'):wpAny (model X.prog X.w) A (call (.builtin "len") [.ref a]) Q E s:=by
 obtain⟨z,hd,vs,rel,dd⟩:=zFj I.hok e
 refine call_len_dict hd dd (by rw[<- rel.length];rw[sizeLine_eq] at z;omega) ?_
 rw[<- rel.length]
 exact h _ _ (I.tok _)
end
theorem zLP {X:Cx}{pins:List (Addr×Obj)}{σ:St}{H:Hp}{s:Shared}{a:Addr}{y:V}{o:Option V} (I:Inv X pins σ H s) (g:zDN H a y o):s.TypeIs (.ref a) "dict" := by
 rcases g with ⟨kvs,k,e,_,_⟩ | ⟨kvs,k,b,e,_,_,_⟩
 ·obtain⟨_,_,vs,_,dd⟩:=zFj I.hok e
  exact dd.typeIs
 ·obtain⟨_,_,xs,_,dd⟩:=zHB I.hok e
  exact dd.typeIs
noncomputable def zTc (td ty tv:TE):TS:=fun D σ H=>tv σ H fun v H1=>td σ H1 fun x H2=>ty σ H2 fun y H3=>∃ a H4,x=.ref a/\zJ3 H3 a y v H4/\D.nx σ H4
section
variable {X:Cx}{o i e value:Expr}{pos pos' tpos:Pos}{td ty tv:TE}
theorem zQ8 (hu:X.A.units+1 < cLine) (ho:PE X o td) (hi:PE X i ty) (hv:PE X value tv) (hs:swapsWith value (some (.Subscript o i pos')) pos.line X.env=pure false) :
  PS X (.Assign [.Subscript o i pos'] value pos) (zTc td ty tv):=by
 intro pins s σ H D I h
 refine wpAny_Assign_Subscript (thn (hv pins s σ H _ I h) fun r s1 ⟨v,H1,I1,rv,q1⟩=>thn (ho pins s1 σ H1 _ I1 q1) fun u s2 ⟨x,H2,I2,rx,q2⟩=>thn (hi pins s2 σ H2 _ I2 q2) fun iv s3 ⟨y,H3,I3,ry,a,H4,ex,g,q3⟩=>?_) hs
 subst ex
 obtain rfl:u=Value.ref a:=rx
 exact zOI hu I3 g ry rv fun s4 I4=>⟨σ,H4,I4,q3⟩
end
theorem zJv {P:Program}{w:World}{H:Hp} (h:Heap) (hb:sysModules < h.objs.size):qS P w H (h.push { cls:=.type "dict",data:=.dict #[] }) h.objs.size (.dK []) :=
 ⟨Nat.zero_le _,beq_eq_false_iff_ne.mpr (Ne.symm (Nat.ne_of_lt hb)),[],.nil,Heap.DictOf.new h⟩
noncomputable def zSs:TE:=fun _ H Q=>∀ p,H p=none->Q (.ref p) (upd H p (.dK []))
section
variable {X:Cx}{pos:Pos}
theorem zOK:PE X (.Dict [] [] pos) zSs:=fun pins s σ H Q I h =>
 wpAny_Dict_empty ⟨.ref s.heap.objs.size,_,I.laid (a:=s.heap.objs.size) (o:=.dK []) (t':=s.toks) (fun _ _ q=>Heap.get?_push_of_some _ q) (Nat.le_refl _) (zJv s.heap I.big),rfl,h _ (I.hok.fresh (Nat.le_refl _))⟩
end
noncomputable def zHE:List (TE×TE)->St->Hp->(List (V×V)->Hp->Prop)->Prop
 | [],_,H,Q=>Q [] H
 | (tk,tv)::r,σ,H,Q=>tk σ H fun x H1=>tv σ H1 fun y H2=>zHE r σ H2 fun ps H3=>Q ((x,y)::ps) H3
noncomputable abbrev VV:List (V×V)->List (Value×Value)->Prop:=Paired fun p q=>zv p.1 q.1/\zv p.2 q.2
noncomputable def PPs (X:Cx) (pos:Pos) (keys:List (Option Expr)) (values:List Expr) (trs:List (TE×TE)):Prop :=
 ∀ (pins:List (Addr×Obj)) (s:Shared) (σ:St) (H:Hp) (Q:List (V×V)->Hp->Prop),Inv X pins σ H s->zHE trs σ H Q ->
  wpAny (model X.prog X.w) X.A (evalPairs (pairTrees keys values X.env pos)) (fun vs s'=>∃ ps H',Inv X pins σ H' s'/\VV ps vs/\Q ps H') X.xe s
theorem zRC {X:Cx}{pos:Pos}:PPs X pos [] [] []:=fun pins s σ H Q I h=>pairTrees_nil_walk ⟨[],H,I,.nil,h⟩
theorem zPU {X:Cx}{pos:Pos}{k v:Expr}{ks:List (Option Expr)}{vs:List Expr}{tk tv:TE}{trs:List (TE×TE)} (hk:PE X k tk) (hv:PE X v tv) (hr:PPs X pos ks vs trs) :
  PPs X pos (some k::ks) (v::vs) ((tk,tv)::trs):=fun pins s σ H Q I h =>
 pairTrees_cons_walk (thn (hk pins s σ H _ I h) fun u s1 ⟨x,H1,I1,rx,q1⟩=>thn (hv pins s1 σ H1 _ I1 q1) fun w2 s2 ⟨y,H2,I2,ry,q2⟩ =>
  thn (hr pins s2 σ H2 _ I2 q2) fun ws s3 ⟨ps,H3,I3,rel,q3⟩=>⟨(x,y)::ps,H3,I3,.cons ⟨rx,ry⟩ rel,q3⟩)
noncomputable def zCa (kvs more:List (Key×V)):List (Key×V):=more.foldl (fun acc kv=>JG acc kv.1 kv.2) kvs
theorem KV.merge:∀ {more:List (Key×V)}{rs:List (Key×Value)}{kvs:List (Key×V)}{vs:List (Key×Value)},KV more rs->KV kvs vs->KV (zCa kvs more) (merged vs rs):=by
 intro more rs kvs vs r
 unfold KV at r
 induction r generalizing kvs vs with
 | nil=>intro q;exact q
 | @cons p q ps qs h t ih =>
  intro r0
  have e:KV (JG kvs p.1 p.2) (stored vs q.1 q.2):=by
   have:=r0.put p.1 h.2
   rw[<- h.1];exact this
  exact ih e
theorem zEY:∀ (more kvs:List (Key×V)),(zCa kvs more).length <= kvs.length+more.length
 | [],kvs=>by show kvs.length <= kvs.length+0;omega
 | p::r,kvs=>by
  have h1:=zEY r (JG kvs p.1 p.2)
  have h2:=zDO kvs p.1 p.2
  show (zCa (JG kvs p.1 p.2) r).length <= _
  rw[List.length_cons];omega
theorem zHn {P:Program}{w:World}:∀ {kvs:List (Key×V)}{ws:List (Value×Value)},VV (kvs.map fun kv=>(kV kv.1,kv.2)) ws->∃ rs,Carries (yR P w) ws rs/\KV kvs rs
 | [],_,r=>by rw[List.map_nil] at r;cases r;exact⟨[],True.intro,.nil⟩
 | p::kvs,_,r=>by
  rw[List.map_cons] at r
  cases r with
  | @cons a b as bs h t =>
   obtain⟨rs,c,q⟩:=zHn (P:=P) (w:=w) t
   obtain⟨b1,b2⟩:=b
   exact⟨(p.1,b2)::rs,⟨zFY h.1,rfl,c⟩,.cons ⟨rfl,h.2⟩ q⟩
noncomputable def zTl (trs:List (TE×TE)):TE:=fun σ H Q=>∀ p,H p=none->zHE trs σ (upd H p (.dK [])) fun ps H2=>H2 p=some (.dK [])/\∃ kvs:List (Key×V),ps=kvs.map (fun kv=>(kV kv.1,kv.2))/\kvs.length <= 15/\Q (.ref p) (upd H2 p (.dK (zCa [] kvs)))
theorem zQv {X:Cx}{pos:Pos}{keys:List (Option Expr)}{values:List Expr}{trs:List (TE×TE)} (h:PPs X pos keys values trs) (hall:keys.all (·.isSome)=true) (hl:keys.length=values.length) (h0:keys≠[])
  (h15:keys.length <= 15):PE X (.Dict keys values pos) (zTl trs):=by
 intro pins s σ H Q I q
 have hn:=I.hok.fresh (Nat.le_refl s.heap.objs.size)
 have I1:=I.laid (a:=s.heap.objs.size) (o:=.dK []) (h':=s.heap.push { cls:=.type "dict",data:=.dict #[] }) (t':=s.toks) (fun _ _ q=>Heap.get?_push_of_some _ q) (Nat.le_refl _) (zJv s.heap I.big)
 refine wpAny_Dict_walk (knd:=yR X.prog X.w) hall hl h0 h15 (thn (h pins _ σ _ _ I1 (q _ hn)) fun ws s2 ⟨ps,H2,I2,rel,e,kvs,ep,lk,q2⟩=>?_)
 subst ep
 obtain⟨rs,c,rk⟩:=zHn (P:=X.prog) (w:=X.w) rel
 obtain⟨z,hd,vs0,r0,dd⟩:=zDA I2.hok e
 cases r0
 refine⟨rs,c,dd,fun h' dd' hs=>⟨.ref s.heap.objs.size,_,?_,rfl,q2⟩⟩
 have hz:(zCa [] kvs).length <= sizeLine:=by
  have h1:=zEY kvs []
  rw[List.length_nil] at h1
  rw[sizeLine_eq];omega
 have he:∃ q,h'.get? s.heap.objs.size=some q:=let ⟨q,_,_,hq,_⟩:=dd';⟨q,hq⟩
 exact zIC I2 (by rw[e];exact True.intro) hs he (zKW hz hd (rk.merge .nil) dd') (by have z:=I2.tk;(try dsimp only at z);(try dsimp only);omega)
structure M1 (X:Cx) (o:Expr) (m:Str) (apos:Pos) (e:Expr) (cpos:Pos):Prop where
 base:attributeBase o m X.env (eval o X.env)=eval o X.env
 few:((backTo cpos (starEach [e] X.env)).all (fun x=>!x.1) && (backToKw cpos (keywordEach [] X.env)).all (fun x=>x.1.isSome)
  && decide (([e]:List Expr).length+([]:List Keyword).length+(if ([]:List Keyword).isEmpty then 0 else 1) < 30))=true
 line:(apos.endLine == cpos.line)=true
 trees:backTo cpos (starEach [e] X.env)=[(false,eval e X.env)]
structure M2 (X:Cx) (o:Expr) (m:Str) (apos:Pos) (e f:Expr) (cpos:Pos):Prop where
 base:attributeBase o m X.env (eval o X.env)=eval o X.env
 few:((backTo cpos (starEach [e,f] X.env)).all (fun x=>!x.1) && (backToKw cpos (keywordEach [] X.env)).all (fun x=>x.1.isSome)
  && decide (([e,f]:List Expr).length+([]:List Keyword).length+(if ([]:List Keyword).isEmpty then 0 else 1) < 30))=true
 line:(apos.endLine == cpos.line)=true
 trees:backTo cpos (starEach [e,f] X.env)=[(false,eval e X.env),(false,eval f X.env)]
end L2
namespace Att
open PySem PySem.W PySem.Calls PyProof.Rows
theorem zG2 {P:Params}{h:Heap}:∀ (ns:List Int) (vs:List Value),WellAll P h vs (ns.map WData.int)->IntsAre vs ns:=by
 intro ns
 induction ns with
 | nil =>
  intro vs w
  rw[List.map_nil] at w
  cases w
  exact .nil
 | cons n ns ih =>
  intro vs w
  rw[List.map_cons] at w
  cases w with
  | cons a b =>
   cases a
   exact .cons _ _ (ih _ b)
theorem zNj {l:OpenLaw}{n:Nat} (hn:l.most=some n) {P:Params}{h:Heap}{args:List WData}{vals:List Value}
  (hpre:l.row.toRowW.claim.pre args=true) (hwl:WellAll P h vals args) :
  ∃ a vs ns,vals=[Value.ref a]/\args=[WData.list (ns.map WData.int)]/\h.get? a=some { cls:=.type "list",data:=.seq vs.toArray }/\IntsAre vs ns/\ns.length <= n:=by
 have hsh:WShape.hasAll [] args [.list .int]=true:=(pre_splitW hpre).1
 have hc:l.pre.holds [] { args:=args }=true:=(pre_splitW hpre).2
 obtain⟨d,r,rfl,h1,h2⟩:=hasAllW_cons hsh
 obtain rfl:=hasAllW_nil h2
 obtain⟨xs,rfl,h3⟩:=hasW_list h1
 obtain⟨ns,rfl⟩:=items_int h3
 have hlen:ns.length <= n:=by
  unfold OpenLaw.pre at hc
  have h4:(WTm.not (.lt (.lit (.int (n:Int))) (.len (.arg 0)))).holds [] { args:=[.list (ns.map .int)] }=true:=by
   have h4:=(holds_andW hc).1
   rw[hn] at h4
   exact h4
  have h5:=condW_of h4 (w_not (w_lt w_lit (w_len_list (w_arg rfl))))
  rw[List.length_map] at h5
  refine Nat.le_of_not_lt fun q=>?_
  have q':(n:Int) < ((ns.length:Nat):Int):=by omega
  first
   | (rw[decide_eq_true q'] at h5;exact absurd h5 (by decide))
   | (simp at h5;omega)
 cases hwl with
 | cons w1 w2 =>
  cases w2
  cases w1 with
  | list ho hall=>exact⟨_,_,ns,rfl,rfl,ho,zG2 ns _ hall,hlen⟩
theorem zNz (l:OpenLaw) (args:List WData):l.row.toRowW.claim.post args (.bool true) args=true :=
 postW_of (r:=l.row.toRowW) (X:=(true == true))
  (show WShape.has [] (.bool true) .bool=true by first | rfl | decide | simp[WShape.has,WShape.arms,WShape.armsAll])
  (show (WTm.eq .res (.lit (.bool true))).value [] { args:=args,res:=some (.bool true),after:=args }=some (.bool (true == true)) from w_eq_bool (w_res rfl) w_lit) rfl
theorem zLF {l:OpenLaw}{n:Nat}{q:Program}{loose:List Str}{XP:(Str->Option Value)->Heap->Prop}{YP:World->Heap->Prop}{d:DefRec}
  (hn:l.most=some n) (hdf:d.params.defaults=[])
  (call:∀ (w:World) (s₀ s₁:Shared) (mg mb:Str->Option Value) (fa:Addr) (o:Obj) (pm cd doc:Value) (a:Addr) (vs:List Value) (ns:List Int),
   Ground q loose [] XP w s₀ mg mb s₁.heap->YP w s₁.heap ->
   s₁.heap.get? fa=some o->o.data=.func (docDef d.name d.params d.body d.scope pm cd doc)->s₁.heap.CodeRec cd d.name->mg d.name=some (.ref fa) ->
   s₁.heap.get? a=some { cls:=.type "list",data:=.seq vs.toArray }->IntsAre vs ns->ns.length <= n->s₁.gens = #[] ->
   codeAny (model l.prog w) callerA (.call (.ref fa) ⟨[.ref a],[]⟩) (fun r s'=>r=.ok (.ret (.bool true))/\OldK s₁.heap s'.heap/\s'.os=s₁.os/\AllBare s'.gens) s₁) :
  WalkO q loose XP YP l.row.toRowW d [] (fun f vs=>PySem.call f vs):=by
 intro w s₀ s₁ mg mb G Y fa o pm cd doc dV kV ho hd hcd hD hmg hg args vals as hpre hlay hrd hwl hlo
 obtain rfl:dV=.none:=Dflts.none hD hdf
 obtain rfl:kV=.none:=Dflts.noKw hD
 obtain⟨a,vs,ns,rfl,rfl,hobj,hints,hlen⟩:=zNj hn hpre hwl
 refine enter_call (codeAny_mono (call w s₀ s₁ mg mb fa o pm cd doc a vs ns G Y ho (fd_plain hd) hcd hmg hobj hints hlen hg) fun r s' hq=>?_)
 obtain⟨rfl,h2,h3,h4⟩:=hq
 exact⟨.inl ⟨.bool true,.bool true,[],rfl,fun _=>rfl,.bool true,zNz l _,fun _=>⟨List.Pairwise.nil,fun _ hm=>(nomatch hm)⟩⟩,h2,h3,h4⟩
end Att
namespace L2
open PySem PySem.Spec PyProof.Rows
theorem zIt:∀ {vs:List Value}{ns:List Int},IntsAre vs ns->ze (ns.map V.int) vs
 | _,_,.nil=>.nil
 | _,_,.cons n t h=>.cons ⟨t,rfl⟩ (zIt h)
noncomputable def zKd (H:Hp):Prop:=∀ b,H b=none\/∃ o xs,H b=some (.frz o (.lst xs))
theorem zO4 {P:Program}{w:World}{K:PySem.W.Frag}{mg mb:Str->Option Value}{CX:CXT}{k:Nat}{fa a:Addr}{fd:FuncData}{x:Str}{sp:Sp}{s₁:Shared}{vs:List Value}{ns:List Int}
  (KX:K.In s₁.heap) (hns:s₁.heap.Ns mainGlobals mg) (hb:s₁.heap.Ns builtinsNs mb) (hbb:∀ x:Str,x ≠ "__name__" -> mb x=bootBuiltins x) (hlim:s₁.heap.NoLimit) (hg:s₁.gens = #[])
  (ha:s₁.heap.get? a=some { cls:=.type "list",data:=.seq vs.toArray }) (hi:IntsAre vs ns) (hl:ns.length <= sizeLine) (hr:jY k callerA)
  (F:∀ base:Heap,K.In base->base.Ns mainGlobals mg->jX P w K mg base CX k fa fd [x] sp) (hT:fd.scope.names.lookup x=some .local) (hbind:∀ (s:Shared) (u:Value),BindsTo s fd ⟨[u],[]⟩ [(x,u)])
  (hsp:∀ H:Hp,zKd H->SqL K H a (ns.map V.int)->sp [.ref a] H (fun v _=>v=.bl true) fun _ _ _=>False)
  (hCX:∀ H e s',CX [] H s₁ (fun _ _ _=>False) e s'->False) :
  codeAny (model P w) callerA (.call (.ref fa) ⟨[.ref a],[]⟩) (fun r s'=>r=.ok (.ret (.bool true))/\OldK s₁.heap s'.heap/\s'.os=s₁.os/\AllBare s'.gens) s₁:=by
 have rv:=zIt hi
 have lenV:=hi.length
 have core:∀ H:Hp,zKd H->SqL K H a (ns.map V.int)->HOk P w H s₁.heap->(∀ b,H b≠none->b=a)->(H a≠none->K.lookup a=none) ->
   codeAny (model P w) callerA (.call (.ref fa) ⟨[.ref a],[]⟩) (fun r s'=>r=.ok (.ret (.bool true))/\OldK s₁.heap s'.heap/\s'.os=s₁.os/\AllBare s'.gens) s₁:=by
  intro H hO hS hok hA hK
  have base_of:∀ {b:Addr}{o:Obj},s₁.heap.get? b=some o->H b=none->(zEG s₁.heap H).get? b=some o:=fun e n=>zOt e n
  have noA:∀ {b:Addr}{o:Obj}{es:Array DictEntry}{ep:Nat},s₁.heap.get? b=some o->o.data=.dict es ep->H b=none:=fun {b o es ep} e d=>by
   cases q:H b with
   | none=>rfl
   | some u =>
    have e':b=a:=hA b (by rw[q];simp)
    subst e'
    rw[ha] at e;cases e
    have d':Data.seq vs.toArray _=Data.dict es ep:=d
    cases d'
  have nsK:∀ {b:Addr}{m:Str->Option Value},s₁.heap.Ns b m->(zEG s₁.heap H).Ns b m:=fun {b m} ⟨o,es,ep,e,d,r⟩=>⟨o,es,ep,base_of e (noA e d),d,r⟩
  have hKb:K.In (zEG s₁.heap H):=fun b o e=>base_of (KX b o e) (by
   cases q:H b with
   | none=>rfl
   | some u =>
    have e':b=a:=hA b (by rw[q];simp)
    subst e'
    rw[hK (by rw[q];simp)] at e;cases e)
  have hM:Mod K mg (zEG s₁.heap H):=⟨hKb,nsK hns,⟨mb,nsK hb,hbb⟩,let ⟨mc,h1,h2⟩:=hlim;⟨mc,nsK h1,h2⟩⟩
  have e0:zGb P w K mg (zEG s₁.heap H) callerA [] s₁ H:=⟨rfl,hM,fun b o e=>zQN e,Nat.le_of_eq (zNQ _ _),trivial,fun b hb=>absurd (show b∈([]:List Addr) from hb) (by simp),hok,.of_eq hg⟩
  refine codeAny_mono ((F _ hKb (nsK hns)).run callerA [] s₁ H ⟨[.ref a],[]⟩ [.ref a] [.ref a] _ _ hr e0 (.inr ⟨x,List.mem_singleton.mpr rfl,hT⟩) (hbind s₁ (.ref a)) (.cons rfl .nil) (hsp H hO hS)) fun r s' h=>?_
  cases r with
  | error e=>exact (hCX H e s' h).elim
  | ok fl =>
   cases fl with
   | next=>exact False.elim h
   | brk=>exact False.elim h
   | cont=>exact False.elim h
   | ret u =>
    obtain⟨v,H',os,bare,un,hok',r',q⟩:=h
    have q':v=.bl true:=q
    subst q'
    obtain rfl:u=Value.bool true:=r'
    refine⟨rfl,OldK.of_keep fun b o e=>?_,os,bare⟩
    cases q:H b with
    | none=>exact un.keep b o e q (by intro z;exact absurd (show b∈([]:List Addr) from z) (by simp)) (by simp)
    | some u =>
     rcases hO b with z | ⟨ob,xs,z⟩
     ·rw[q] at z;cases z
     ·have z2:=un.frzs b ob _ z
      obtain⟨e1,_⟩:=hok b _ z
      obtain⟨e2,_⟩:=hok' b _ z2
      rw[e] at e1;cases e1
      exact e2
 cases hk:K.lookup a with
 | some o =>
  have e:=KX a o hk
  rw[ha] at e
  cases e
  refine core (fun _=>none) (fun _=>.inl rfl) (.inr ⟨_,vs.toArray,_,hk,rfl,rfl,rfl,by rw[List.size_toArray,lenV];exact hl,by simpa using rv⟩) (fun b u z=>by have z':(none:Option HO)=some u:=z;cases z') (fun b z=>absurd rfl z) fun z=>absurd rfl z
 | none =>
  refine core (fun b=>if b=a then some (.frz { cls:=.type "list",data:=.seq vs.toArray } (.lst (ns.map V.int))) else none) (fun b=>?_) (.inl (.inr ⟨{ cls:=.type "list",data:=.seq vs.toArray },if_pos rfl⟩)) (fun b u z=>?_) (fun b z=>?_) fun _=>hk
  ·by_cases hb:b=a
   ·exact .inr ⟨_,_,if_pos hb⟩
   ·exact .inl (if_neg hb)
  ·by_cases hb:b=a
   ·have z':=(if_pos hb).symm.trans z
    cases z'
    subst hb
    exact⟨ha,by rw[List.length_map];exact hl,vs,_,rv,ha⟩
   ·have z':=(if_neg hb).symm.trans z
    cases z'
  ·by_cases hb:b=a
   ·exact hb
   ·exact absurd (if_neg hb) z
end L2
namespace L2
open PySem PySem.Spec PyProof.Rows
theorem zQ6 {l:PySem.W.OpenLaw}{n k:Nat}{q:Program}{loose:List Str}{XP:(Str->Option Value)->Heap->Prop}{YP:World->Heap->Prop}{d:DefRec}{K:Params->PySem.W.Frag}{CX:World->CXT}{sp:World->Sp}{x:Str}
  (hn:l.most=some n) (hn2:n <= sizeLine) (hdf:d.params.defaults=[]) (hr:jY k callerA)
  (hY:∀ (w:World) (h:Heap),YP w h->(K w.params).In h)
  (F:∀ (w:World) (mg:Str->Option Value) (fa:Addr) (h:Heap),(K w.params).In h->h.Ns mainGlobals mg->mg d.name=some (.ref fa) ->
   ∃ fd:FuncData,(∀ (s:Shared) (u:Value),BindsTo s fd ⟨[u],[]⟩ [(x,u)])/\fd.scope.names.lookup x=some .local /\
    ∀ base:Heap,(K w.params).In base->base.Ns mainGlobals mg->jX l.prog w (K w.params) mg base (CX w) k fa fd [x] (sp w))
  (hsp:∀ (w:World) (H:Hp) (a:Addr) (ns:List Int),ns.length <= n->zKd H->SqL (K w.params) H a (ns.map V.int)->sp w [.ref a] H (fun v _=>v=.bl true) fun _ _ _=>False)
  (hCX:∀ (w:World) (H:Hp) (s:Shared) (e:Value) (s':Shared),CX w [] H s (fun _ _ _=>False) e s'->False) :
  PySem.W.WalkO q loose XP YP l.row.toRowW d [] (fun f vs=>PySem.call f vs):=by
 refine Att.zLF hn hdf fun w s₀ s₁ mg mb fa o pm cd doc a vs ns G Y ho hd hcd hmg hobj hints hlen hg=>?_
 have KX:=hY w _ Y
 obtain⟨fd,hb,hT,hF⟩:=F w mg fa _ KX G.T.g hmg
 exact zO4 KX G.T.g G.T.b G.T.builtins G.T.nolimit hg hobj hints (Nat.le_trans hlen hn2) hr hF hT hb (fun H hO hS=>hsp w H a ns hlen hO hS) fun H e s'=>hCX w H s₁ e s'
end L2
namespace L2
open PySem PySem.Spec PyProof.Rows
noncomputable def JQ (s:Stmt) (j:Nat):Stmt:=match s with
 | .ClassDef _ _ _ body _ _ _ _ _ _ _=>body.getD j (.Pass ⟨0,0,0,0⟩)
 | _=>.Pass ⟨0,0,0,0⟩
noncomputable def jK (s:Stmt):Arguments:=match s with
 | .FunctionDef _ a _ _ _ _ _ _ _ _=>a
 | _=>{ posonlyargs:=[],args:=[],vararg:=none,kwonlyargs:=[],kw_defaults:=[],kwarg:=none,defaults:=[] }
noncomputable def zq (s:Stmt):List Stmt:=match s with
 | .FunctionDef _ _ b _ _ _ _ _ _ _=>b
 | _=>[]
noncomputable def zM (s:Stmt):Scope:=match s with
 | .FunctionDef _ _ _ _ _ _ sc _ _ _=>sc
 | _=>{ kind:=.function,names:=[],isGenerator:=false,isCoroutine:=false }
noncomputable abbrev CX0:CXT:=fun _ _ _ _ _ _=>False
noncomputable abbrev E0:XK:=fun _ _ _=>False
theorem zB1 {X:Cx}:Zd CX0 X E0:=fun _ _ _ _ _ _ _ h=>h.elim
structure Fun (K:PySem.W.Frag) (x qual:Str) (st:Stmt) (f:Addr) (fd:FuncData):Prop where
 ex:∃ (oc:Value) (od:Option Addr) (kV doc pm:Value) (an:Option Addr) (cdv ct:Value) (osl:Array (Option Value)),
  fd=PySem.W.fnOf x qual (jK st) (zq st) (zM st) .none kV doc pm an cdv ct/\K.lookup f=some ⟨oc,od,.func fd,osl⟩/\PySem.W.codeIn K cdv qual=true
 kp:PySem.W.keepIn K (.ref f)=true
section
variable {P:Program}{w:World}{K:PySem.W.Frag}{mg:Str->Option Value}{base:Heap}
theorem Fun.ok {x qual:Str}{st:Stmt}{f:Addr}{fd:FuncData}{N ps:List Str}{k:Nat}{sp:Sp} (F:Fun K x qual st f fd) (S:jE N ps (zM st)) (len:∀ vs H Q E,sp vs H Q E->vs.length=ps.length)
  (hbody:∀ (cdv:Value) (A:Around) (outer:List Env) (s:Shared) (H:Hp) (vs:List V) (Q:VK) (E:XK),jY k (A.deeper (envOfC qual (zM st) s.heap.objs.size f cdv))->sp vs H Q E ->
   ∃ t,PSs (zCR CX0 P w K mg base N qual (zM st) f cdv A outer s H E).nox (zq st) t/\t { nx:=fun _ H'=>Q .non H',rt:=Q } (Zm N vs) H):jX P w K mg base CX0 (k+1) f fd ps sp:=by
 obtain⟨oc,od,kV,doc,pm,an,cdv,ct,osl,rfl,lk,hcd⟩:=F.ex
 refine zTt lk hcd S len fun A outer s H vs Q E hr hsp=>?_
 obtain⟨t,h,q⟩:=hbody cdv A outer s H vs Q E hr hsp
 exact⟨t,h.nox,q⟩
theorem Fun.binds {x qual:Str}{st:Stmt}{f:Addr}{fd:FuncData}{ps:List Str} (F:Fun K x qual st f fd)
  (h:∀ (kV doc pm:Value) (an:Option Addr) (cdv ct:Value) (us:List Value),us.length=ps.length->bindArgs (PySem.W.fnOf x qual (jK st) (zq st) (zM st) .none kV doc pm an cdv ct) ⟨us,[]⟩=pure (ps.zip us)):zAQ K fd ps []:=by
 obtain⟨oc,od,kV,doc,pm,an,cdv,ct,osl,rfl,lk,hcd⟩:=F.ex
 exact .all (h kV doc pm an cdv ct)
theorem jd {x qual:Str}{st:Stmt}{f:Addr}{oc:Value}{od an:Option Addr}{osl:Array (Option Value)}{kV doc pm cdv ct:Value} (l:K.lookup f=some ⟨oc,od,.func (PySem.W.fnOf x qual (jK st) (zq st) (zM st) .none kV doc pm an cdv ct),osl⟩)
  (c:PySem.W.codeIn K cdv qual=true) (k:PySem.W.keepIn K (.ref f)=true):Fun K x qual st f (PySem.W.fnOf x qual (jK st) (zq st) (zM st) .none kV doc pm an cdv ct):=⟨⟨oc,od,kV,doc,pm,an,cdv,ct,osl,rfl,l,c⟩,k⟩
end
theorem zMV {A:Around}{k:Nat} (hr:jY k A):A.units+1 < cLine:=Nat.lt_of_le_of_lt (Nat.add_le_add_left (by decide:1 <= 64) _) hr.units
theorem zE9 {A B:Prop} (h:B):if false=true then A else B:=by
 rw[if_neg Bool.false_ne_true]
 exact h
theorem zEr {A B:Prop} (h:A):if true=true then A else B:=by
 rw[if_pos rfl]
 exact h
end L2
namespace L2
open PySem PySem.Spec PyProof.Rows
section
variable {X:Cx}
theorem zNq:qj X (.builtin "len") (fun xs H Q=>∃ a kvs,xs=[V.ref a]/\H a=some (.dK kvs)/\Q (.int kvs.length) H):=by
 intro pins s σ H xs us Q I r h
 obtain⟨a,kvs,rfl,ha,q⟩:=h
 obtain⟨u,rfl,ru⟩:=Jw r
 cases ru
 exact zTS I (.inl ha) fun t s' I'=>⟨.int kvs.length,H,I',⟨t,rfl⟩,q⟩
end
end L2
set_option maxHeartbeats 4000000
namespace L2
open PySem PySem.Spec PyProof.Rows
noncomputable abbrev jV (X:Cx) (vars:List Str) (scope:Scope) (cl:List (Str×Addr)) (C:Addr) (fp:List Addr) (s₂:Shared) (H₂:Hp):Cx where
 prog:=X.prog
 w:=X.w
 K:=X.K
 mg:=X.mg
 base:=X.base
 A:=X.A
 N:=X.N++vars
 s₀:=s₂
 H₀:=H₂
 env:=compEnvC scope cl C X.env
 outer:=X.stack
 stack:=X.stack
 ex:=fp
 fn:=fun _=>false
 calm:=X.calm
 pn:=[]
 xe:=fun _ _=>False
noncomputable def zDh (cells:List (Str×Addr)):List (Str×Addr)->Prop
 | []=>True
 | p::r=>cells.lookup p.1=some p.2/\zDh cells r
theorem zDh.get {cells:List (Str×Addr)}:∀ {cl:List (Str×Addr)}{x:Str}{c:Addr},zDh cells cl->cl.lookup x=some c->cells.lookup x=some c
 | [],_,_,_,e=>by simp at e
 | (y,d)::r,x,c,h,e=>by
  cases hx:x == y with
  | true =>
   simp only[List.lookup_cons,hx] at e
   have e1:x=y:=eq_of_beq hx
   subst e1
   rw[<- e]
   exact h.1
  | false =>
   simp only[List.lookup_cons,hx] at e
   exact zDh.get h.2 e
noncomputable def okK (on:List (Str×NameKind)) (vars:List Str) (cl:List (Str×Addr)) (x:Str):NameKind->Bool
 | .local=>x == (".0" : Str) || vars.contains x
 | .cell=>false
 | .free=>(cl.lookup x).isSome && (on.lookup x == some .cell || on.lookup x == some .free)
 | _=>true
structure qM (X:Cx) (vars:List Str) (scope:Scope) (cl:List (Str×Addr)):Prop where
 kind:scope.kind=.function
 clos:closureFor scope X.env=pure cl
 dis:(vars.all fun x=>!X.N.contains x)=true
 zero:X.N.contains (".0" : Str)=false
 names:∀ y∈scope.names,y.2=.local->scope.names.lookup y.1=some .local
 cells:zDh X.env.cells cl
 ok:(scope.names.all fun p=>okK X.env.scope.names vars cl p.1 p.2)=true
theorem zA5 {env:Env}{x:Str}:∀ {names:List (Str×NameKind)},
  (names.map fun (n,k)=>if (k == NameKind.free && env.scope.kind == .function && env.kindOf n == some .cell) then (n,NameKind.cell) else (n,k)).lookup x =
   (names.lookup x).map fun k=>if (k == NameKind.free && env.scope.kind == .function && env.kindOf x == some .cell) then NameKind.cell else k
 | []=>rfl
 | (n,k)::r=>by
  have ih:=@zA5 env x r
  show List.lookup x ((if (k == NameKind.free && env.scope.kind == .function && env.kindOf n == some .cell)=true then (n,NameKind.cell) else (n,k))::_)=_
  cases hx:x == n with
  | true =>
   have e:x=n:=eq_of_beq hx
   subst e
   by_cases hc:(k == NameKind.free && env.scope.kind == .function && env.kindOf x == some .cell)=true
   ·rw[if_pos hc];simp only[List.lookup_cons,hx,Option.map_some,if_pos hc]
   ·rw[if_neg hc];simp only[List.lookup_cons,hx,Option.map_some,if_neg hc]
  | false =>
   by_cases hc:(k == NameKind.free && env.scope.kind == .function && env.kindOf n == some .cell)=true
   ·rw[if_pos hc];simp only[List.lookup_cons,hx];exact ih
   ·rw[if_neg hc];simp only[List.lookup_cons,hx];exact ih
section
variable {X:Cx}{vars:List Str}{scope:Scope}{cl:List (Str×Addr)}{C D:Addr}{fp:List Addr}{s₂:Shared}{H:Hp}{pins:List (Addr×Obj)}{σ:St}
theorem qM.okAt (S:qM X vars scope cl) {x:Str}{k:NameKind} (h:scope.names.lookup x=some k):okK X.env.scope.names vars cl x k=true:=by
 have:=List.all_eq_true.mp S.ok (x,k) (PySem.mem_of_lookup h)
 exact this
theorem qM.noCell (S:qM X vars scope cl):∀ y∈scope.names,y.2≠.cell:=fun y hy e=>by
 have h:=List.all_eq_true.mp S.ok y hy
 rw[e] at h
 exact absurd (show false=true from h) Bool.false_ne_true
theorem qM.freeOf (S:qM X vars scope cl) {x:Str} (h:(compEnvC scope cl C X.env).kindOf x=some .cell\/(compEnvC scope cl C X.env).kindOf x=some .free):scope.names.lookup x=some .free:=by
 have e:(compEnvC scope cl C X.env).kindOf x=(scope.names.lookup x).map fun k=>if (k == NameKind.free && X.env.scope.kind == .function && X.env.kindOf x == some .cell) then NameKind.cell else k:=zA5
 rw[e] at h
 cases q:scope.names.lookup x with
 | none=>rw[q] at h;simp at h
 | some k =>
  rw[q] at h
  by_cases hk:k=.free
  ·rw[hk]
  ·have hb:(k == NameKind.free)=false:=by simpa using hk
   simp only[Option.map_some,hb,Bool.false_and,Bool.false_eq_true,if_false,Option.some.injEq] at h
   rcases h with h | h
   ·subst h
    exact absurd rfl (S.noCell (x,.cell) (PySem.mem_of_lookup q))
   ·exact absurd h hk
theorem qM.localOf (S:qM X vars scope cl) {x:Str} (h:(compEnvC scope cl C X.env).kindOf x=some .local):scope.names.lookup x=some .local:=by
 have e:(compEnvC scope cl C X.env).kindOf x=(scope.names.lookup x).map fun k=>if (k == NameKind.free && X.env.scope.kind == .function && X.env.kindOf x == some .cell) then NameKind.cell else k:=zA5
 rw[e] at h
 cases q:scope.names.lookup x with
 | none=>rw[q] at h;simp at h
 | some k =>
  rw[q] at h
  simp only[Option.map_some,Option.some.injEq] at h
  split at h
  ·cases h
  ·rw[h]
theorem zMF (I:Inv X pins σ H s₂) (S:qM X vars scope cl) (hf:∀ b∈fp,zDw X pins H b) (hob:∀ b∈fp,∃ o,s₂.heap.get? b=some o)
  {h₁:Heap}{tk:Nat} (hD:s₂.heap.objs.size <= D) (hC:s₂.heap.objs.size <= C) (hDC:D≠C) {oD:Obj} (eD:h₁.get? D=some oD) (cD:∀ v,oD.data≠.cell v) {m:Str->Option Value} (hn:h₁.Ns C m)
  (old:∀ b o,s₂.heap.get? b=some o->h₁.get? b=some o) (ht:0 < tk:=by first | exact Nat.succ_pos _ | assumption | exact Inv.tk (by assumption) | omega) :
  Inv (jV X vars scope cl C fp s₂ H) [(D,oD)] (σ++List.replicate vars.length none) H { s₂ with heap:=h₁,toks:=tk }:=by
 have fpst:∀ b∈fp,b∉frs X.stack:=fun b hb z=>by
  rcases List.mem_cons.mp (I.stkSub b z) with e | e
  ·exact (hf b hb).2.1 e
  ·exact (hf b hb).2.2.1 e
 have cget:∀ x c,cl.lookup x=some c->X.env.cells.lookup x=some c:=fun x c e=>S.cells.get e
 have fpl:∀ b∈fp,b < s₂.heap.objs.size:=fun b hb=>by
  obtain⟨o,e⟩:=hob b hb
  exact Heap.lt_size e
 have ok:(jV X vars scope cl C fp s₂ H).Ok:=by
  refine⟨I.ok.mod,S.kind,I.ok.glob,I.ok.blt,hC,fun x y c h1 h2=>I.ok.inj x y c (cget x c h1) (cget y c h2),fun x hx=>?_,fun x c h _=>absurd (show false=true from h) Bool.false_ne_true,I.ok.hd,I.ok.frames,.inl rfl,
   fun b hb=>⟨Nat.ne_of_lt (Nat.lt_of_lt_of_le (fpl b hb) hC),fun x c e z=>(hf b hb).2.2.2.2.1 x c (cget x c e) z⟩,I.bs,Nat.le_trans I.ok.bsz I.sz,fun b o e hb=>?_,fpst,I.stack,I.stkFree⟩
  ·have q:=S.okAt (S.freeOf (C:=C) hx)
   have q1:((cl.lookup x).isSome && (X.env.scope.names.lookup x == some .cell || X.env.scope.names.lookup x == some .free))=true:=q
   rw[Bool.and_eq_true] at q1
   exact Option.isSome_iff_exists.mp q1.1
  ·rcases (hf b hb).2.2.2.1 with z | z
   ·exact I.ok.noex b o e z
   ·exact absurd (Nat.lt_of_lt_of_le (Heap.lt_size e) (Nat.le_trans I.ok.bsz z)) (Nat.lt_irrefl _)
 have nst:D∉frs X.stack:=fun z=>by
  rcases List.mem_cons.mp (I.stkSub D z) with e | e
  ·exact absurd (Nat.lt_of_lt_of_le (e ▸ I.lt) hD) (Nat.lt_irrefl _)
  ·exact I.nofs hD e
 refine⟨ok,rfl,I.bare,Un.kept old,⟨m,hn,fun i x v h1 h2 h3=>?_⟩,fun x c e=>?_,I.hok.fresh hC,fun x c e=>I.freeC x c (cget x c e),fun p hp=>?_,I.hok.kept old,?_,ht⟩
 ·have hlen:=I.len
  have h1':(X.N++vars)[i]? = some x:=h1
  by_cases hi:i < σ.length
  ·rw[List.getElem?_append_left (by omega)] at h1'
   rw[List.getElem?_append_left hi] at h2
   have inN:X.N.contains x=true:=by
    rw[List.contains_iff_exists_mem_beq]
    exact⟨x,List.mem_of_getElem? h1',by simp⟩
   have hk:(compEnvC scope cl C X.env).kindOf x=some .cell\/(compEnvC scope cl C X.env).kindOf x=some .free:=by
    rcases h3 with h3 | h3
    ·have q:=S.okAt (S.localOf (C:=C) h3)
     have q1:(x == (".0" : Str) || vars.contains x)=true:=q
     rw[Bool.or_eq_true] at q1
     rcases q1 with q1 | q1
     ·have e0:x=(".0" : Str):=eq_of_beq q1
      rw[e0,S.zero] at inN
      cases inN
     ·have q2:=List.all_eq_true.mp S.dis x (by simpa using q1)
      rw[inN] at q2
      cases q2
    ·exact h3
   have q:=S.okAt (S.freeOf (C:=C) hk)
   have q1:((cl.lookup x).isSome && (X.env.scope.names.lookup x == some .cell || X.env.scope.names.lookup x == some .free))=true:=q
   rw[Bool.and_eq_true,Bool.or_eq_true] at q1
   obtain⟨c,hc⟩:=Option.isSome_iff_exists.mp q1.1
   have ho:X.env.scope.names.lookup x=some .cell\/X.env.scope.names.lookup x=some .free:=by
    rcases q1.2 with z | z
    ·exact .inl (eq_of_beq z)
    ·exact .inr (eq_of_beq z)
   obtain⟨m0,_,hl⟩:=I.loc
   obtain⟨u,r,l⟩:=hl i x v h1' h2 (.inr ho)
   refine⟨u,r,.inr ⟨hk,c,hc,?_⟩⟩
   rcases l with ⟨l1,_⟩ | ⟨_,c',e',o,eo,ed⟩
   ·have l2:X.env.scope.names.lookup x=some .local:=l1
    rcases ho with z | z
    ·rw[l2] at z;cases z
    ·rw[l2] at z;cases z
   ·rw[cget x c hc] at e'
    cases e'
    exact⟨o,old _ _ eo,ed⟩
  ·rw[List.getElem?_append_right (by omega),List.getElem?_replicate] at h2
   split at h2<;>cases h2
 ·obtain⟨v,o,eo,ed⟩:=I.cell x c (cget x c e)
  exact⟨v,o,old _ _ eo,ed⟩
 ·have e:p=(D,oD):=by simpa using hp
  subst e
  exact⟨eD,I.hok.fresh hD,hDC,nst,cD⟩
 ·show (σ++List.replicate vars.length none).length=(X.N++vars).length
  rw[List.length_append,List.length_append,List.length_replicate,I.len]
end
noncomputable def zBE (X:Cx) (ifs:List Expr) (t:TT):Prop :=
 ∀ (pins:List (Addr×Obj)) (s:Shared) (σ:St) (H:Hp) (Q:Bool->Hp->Prop),Inv X pins σ H s->t σ H Q ->
  wpAny (model X.prog X.w) X.A (forIn ifs true fun c r=>if r=true then do let ok <- isTrue c X.env (eval c X.env);pure (ForInStep.yield ok) else pure (ForInStep.yield r)) (TP X pins σ Q) X.xe s
noncomputable def Qp:TT:=fun _ H Q=>Q true H
theorem zOL {X:Cx}:zBE X [] Qp:=fun _ _ _ H _ I h=>wpAny_tests_nil ⟨H,I,h⟩
theorem zOT {X:Cx}{c:Expr}{t:TT} (h:PT X c t):zBE X [c] t:=fun pins s σ H Q I hw=>wpAny_tests_one (h pins s σ H Q I hw)
noncomputable def Wk (σ σ':St):Prop:=σ.length=σ'.length/\∀ (i:Nat) v,σ[i]? = some (some v)->σ'[i]? = some (some v)
noncomputable def zMX (n:Nat) (wi:TI) (g:TG) (ti:TT) (te:TE):TE:=fun σ H Q=>wi σ H fun J H1=>∃ W:Nat->Nat->List V->Hp->Prop,(∃ m,W 0 m [] H1)/\∀ i m ys H2,W i m ys H2->ys.length <= sizeLine /\
 ((J.stop i H2/\∀ D,H2 D=none->Q (.ref D) (upd H2 D (.lst ys))) \/
  (J.go i H2/\∀ x H3,J.yld i H2 x H3->g x (σ++List.replicate n none) H3 fun σ2 H4=>Wk (σ++List.replicate n none) σ2/\ti σ2 H4 fun b H5 =>
   if b=true then te σ2 H5 fun y H6=>∃ m',m' < m/\W (i+1) m' (ys++[y]) H6 else ∃ m',m' < m/\W (i+1) m' ys H5))
theorem Inv.track {X:Cx}{pins:List (Addr×Obj)}{σ:St}{H:Hp}{s:Shared}{D:Addr}{o:HO} (I:Inv X pins σ H s) (hD:X.s₀.heap.objs.size <= D) (hn:H D=none) (hL:D≠X.env.locals)
  (hcl:∀ x c,X.env.cells.lookup x=some c->c≠D) (hp:∀ p∈X.pn++pins,p.1≠D) (new:qS X.prog X.w (upd H D o) s.heap D o):Inv X pins σ (upd H D o) s:=by
 have ne:∀ {b u},H b=some u->b≠D:=fun e z=>by rw[z,hn] at e;cases e
 refine⟨I.ok,I.os,I.bare,⟨I.base.keep,I.base.slot,fun b ob e n hx=>?_,I.base.there,fun b xs e=>?_,fun b ob u e=>?_,fun b ps e=>?_⟩,I.loc,I.cell,?_,fun x c e=>?_,fun p hp'=>?_,fun b u e=>?_,I.len,I.tk⟩
 ·rw[jZ (Nat.ne_of_lt (Nat.lt_of_lt_of_le (Heap.lt_size e) hD))]
  exact I.base.free b ob e n hx
 ·have q:=I.base.tups b xs e
  rw[jZ (ne q)];exact q
 ·have q:=I.base.frzs b ob u e
  rw[jZ (ne q)];exact q
 ·obtain⟨mo,q⟩:=I.base.tbls b ps e
  exact⟨mo,by rw[jZ (ne q)];exact q⟩
 ·rw[jZ (Ne.symm hL)];exact I.free
 ·rw[jZ (hcl x c e)];exact I.freeC x c e
 ·obtain⟨e1,e2,e3,e4,e5⟩:=I.pin p hp'
  exact⟨e1,by rw[jZ (hp p hp')];exact e2,e3,e4,e5⟩
 ·by_cases hb:b=D
  ·subst hb;rw[qA] at e;cases e;exact new
  ·rw[jZ hb] at e
   exact (I.hok b u e).stay (fun _ _ _ q=>q) (fun c q=>by rw[jZ (ne q)];exact q) fun c xs q=>by rw[jZ (ne q)];exact q
noncomputable abbrev zDv (us:List Value) (n:Nat):Obj:={ cls:=.type "list",data:=.seq us.toArray n }
section
variable {X:Cx}{vars:List Str}{scope:Scope}{cl:List (Str×Addr)}{C D it:Addr}{fp:List Addr}{s₂:Shared}{H₂:Hp}{tg elt iter:Expr}{ifs:List Expr}{pos:Pos}{J:It}{tn:Nat->Heap->Prop}
 {g:TG}{ti:TT}{te:TE}{R:Result->Shared->Prop}
theorem zM9 (hc:X.calm=true) (T:zE3 X.prog X.w X.K tg J fp it tn) (hg:PG (jV X vars scope cl C fp s₂ H₂) tg g) (hi:zBE (jV X vars scope cl C fp s₂ H₂) ifs ti) (he:PE (jV X vars scope cl C fp s₂ H₂) elt te)
  {σ0:St} (W:Nat->Nat->List V->Hp->Prop) {F:List V->Hp->Prop} (hD0:s₂.heap.objs.size <= D) (hDC:D≠C) (hDs:D∉frs X.stack) (hDc:∀ x c,cl.lookup x=some c->c≠D)
  (hS:∀ b∈fp,b≠C/\b∉frs X.stack/\(∀ x c,cl.lookup x=some c->c≠b)/\D≠b)
  (turn:∀ i m ys H2,W i m ys H2->ys.length <= sizeLine/\((J.stop i H2/\F ys H2) \/
   (J.go i H2/\∀ x H3,J.yld i H2 x H3->g x σ0 H3 fun σ2 H4=>Wk σ0 σ2/\ti σ2 H4 fun b H5 =>
    if b=true then te σ2 H5 fun y H6=>∃ m',m' < m/\W (i+1) m' (ys++[y]) H6 else ∃ m',m' < m/\W (i+1) m' ys H5)))
  (hR:∀ s' ys us n H2,Inv (jV X vars scope cl C fp s₂ H₂) [(D,zDv us n)] σ0 H2 s'->ze ys us->ys.length <= sizeLine->F ys H2->R (.ok .next) s')
  {s:Shared}{m0:Nat}{n0:Nat}{H0:Hp} (I0:Inv (jV X vars scope cl C fp s₂ H₂) [(D,zDv [] n0)] σ0 H0 s) (st0:tn 0 s.heap) (f0:∀ b∈fp,H0 b=none) (w0:W 0 m0 [] H0) :
  codeAny (model X.prog X.w) X.A (.compLoop (.ListComp elt [⟨tg,iter,ifs,0⟩] scope pos) 0 (.ref it) (.ref D) (compEnvC scope cl C X.env)) R s:=by
 have stat:∀ {H':Hp}{o:Obj},(∀ b∈fp,H' b=none)->∀ b∈fp,zDw (jV X vars scope cl C fp s₂ H₂) [(D,o)] H' b:=fun {H' o} hn b hb =>
  ⟨hn b hb,(hS b hb).1,(hS b hb).2.1,.inl hb,(hS b hb).2.2.1,fun p hp=>by
   have e:p=(D,o):=by simpa using hp
   subst e
   exact (hS b hb).2.2.2⟩
 refine codeAny_loop rfl (fun n s=>∃ i ys us nn H',Inv (jV X vars scope cl C fp s₂ H₂) [(D,zDv us nn)] σ0 H' s/\ze ys us/\tn i s.heap/\(∀ b∈fp,H' b=none)/\W i n ys H') (fun n s hI=>?_) m0 ⟨0,[],[],n0,H0,I0,.nil,st0,f0,w0⟩
 show wpAny _ X.A ((compTurn (.ListComp elt [⟨tg,iter,ifs,0⟩] scope pos) 0 (.ref it) (.ref D) (compEnvC scope cl C X.env)).onRaise (fun x=>do noteFrame x (compEnvC scope cl C X.env);theTreesLotGoes x)) _ _ s
 refine wpAny_noted ?_
 rw[compTurn_list]
 obtain⟨i,ys,us,nn,H',I,rv,st,fr,w⟩:=hI
 obtain⟨hz,tt⟩:=turn i n ys H' w
 refine wpAny_bind (wpAny_standAt (wpAny_bind ?_))
 rcases tt with ⟨stop,q⟩ | ⟨go,q⟩
 ·refine wpAny_mono (T.done (jV X vars scope cl C fp s₂ H₂) rfl rfl rfl hc i _ s σ0 H' _ I (stat fr) st stop) (fun r s1 ⟨hr,I1⟩=>?_) (fun _ _ e=>e)
  subst hr
  exact wpAny_pure (hR s1 ys us nn H' I1 rv hz q)
 ·refine wpAny_mono (T.item (jV X vars scope cl C fp s₂ H₂) rfl rfl rfl hc i _ s σ0 H' _ I (stat fr) st go) (fun r s1 ⟨u,hr,h1⟩=>?_) (fun _ _ e=>e)
  subst hr
  refine wpAny_bind (wpAny_mono h1 (fun _ s2 ⟨x,H3,I3,r3,y3,st3,fr3⟩=>?_) (fun _ _ e=>e))
  have I3':=I3.pinned (stat fr3) (T.obj _ _ st3)
  refine wpAny_bind (wpAny_mono (hg _ s2 σ0 H3 x u _ I3' r3 (q x H3 y3)) (fun _ s3 ⟨σ4,H4,I4,wk,q4⟩=>?_) (fun _ _ f=>False.elim f))
  refine wpAny_bind (wpAny_mono (hi _ s3 σ4 H4 _ I4 q4) (fun b s4 ⟨H5,I5,q5⟩=>?_) (fun _ _ f=>False.elim f))
  have back:∀ {s7:Shared}{H7:Hp}{o:Obj},Inv (jV X vars scope cl C fp s₂ H₂) ((D,o)::zAF fp s2.heap) σ4 H7 s7->tn (i+1) s7.heap/\∀ b∈fp,H7 b=none:=fun {s7 H7 o} I7=>by
   refine⟨T.keep _ _ _ st3 fun b hb ob e=>(I7.pin (b,ob) (List.mem_append_right _ (List.mem_cons_of_mem _ (zB0 hb e)))).1,fun b hb=>?_⟩
   obtain⟨ob,e,d⟩:=T.obj _ _ st3 b hb
   exact (I7.pin (b,ob) (List.mem_append_right _ (List.mem_cons_of_mem _ (zB0 hb e)))).2.1
  have one:∀ {s7:Shared}{H7:Hp}{o:Obj},Inv (jV X vars scope cl C fp s₂ H₂) ((D,o)::zAF fp s2.heap) σ4 H7 s7->Inv (jV X vars scope cl C fp s₂ H₂) [(D,o)] σ0 H7 s7:=fun {s7 H7 o} I7 =>
   (I7.pins_of (pins':=[(D,o)]) fun p hp=>by
    have e:p=(D,o):=by simpa using hp
    subst e
    exact I7.pin (D,o) (List.mem_append_right _ List.mem_cons_self)).weak wk.1 wk.2
  cases b with
  | false =>
   obtain⟨m',hm,w'⟩:=q5
   obtain⟨b1,b2⟩:=back I5
   exact wpAny_pure ⟨rfl,m',hm,i+1,ys,us,nn,H5,one I5,rv,b1,b2,w'⟩
  | true =>
   refine wpAny_bind (wpAny_bind (wpAny_mono (he _ s4 σ4 H5 _ I5 q5) (fun v s5 ⟨y,H6,I6,r6,q6⟩=>?_) (fun _ _ f=>False.elim f)))
   obtain⟨m',hm,w'⟩:=q6
   obtain⟨eD,nD,_,_,_⟩:=I6.pin (D,zDv us nn) (List.mem_append_right _ List.mem_cons_self)
   have hul:us.toArray.size <= sizeLine:=by rw[List.size_toArray,<- rv.length];exact hz
   refine wpAny_bind (wpAny_list_append_plain (hsz:=hul) ⟨nn,eD⟩ fun h' hp hs=>wpAny_pure (wpAny_pure ⟨rfl,?_⟩))
   obtain⟨n',hp⟩:=hp
   have hp':h'.get? D=some (zDv (us++[v]) n'):=by rw[hp];simp
   have I7:Inv (jV X vars scope cl C fp s₂ H₂) (zAF fp s2.heap) σ4 H6 { s5 with heap:=h',toks:=s5.toks }:=by
    refine Inv.turned (it:=D) (I6.pins_of (pins':=zAF fp s2.heap) fun p hp=>I6.pin p (List.mem_append_right _ (List.mem_cons_of_mem _ hp))) (fun b o hb e=>(hs.2 b hb).trans e) nD hDC (.inr hD0) (fun x c e=>hDc x c e) fun p hp=>?_
    have hp2:p∈zAF fp s2.heap:=by simpa using hp
    exact Ne.symm (hS p.1 (zIs hp2).1).2.2.2
   have I8:Inv (jV X vars scope cl C fp s₂ H₂) ((D,zDv (us++[v]) n')::zAF fp s2.heap) σ4 H6 { s5 with heap:=h',toks:=s5.toks }:=I7.pins_of fun p hp=>by
    rcases List.mem_cons.mp hp with rfl | hp
    ·exact⟨hp',nD,hDC,hDs,fun v z=>by cases z⟩
    ·exact I7.pin p (List.mem_append_right _ hp)
   obtain⟨b1,b2⟩:=back I8
   exact⟨m',hm,i+1,ys++[y],us++[v],n',H6,one I8,rv.append (.cons r6 .nil),b1,b2,w'⟩
end
section
variable {X:Cx}{vars:List Str}{scope:Scope}{cl:List (Str×Addr)}{tg elt iter:Expr}{ifs:List Expr}{pos:Pos}{wi:TI}{g:TG}{ti:TT}{te:TE}
theorem zL4 (hc:X.calm=true) (S:qM X vars scope cl) (hg:∀ C fp s₂ H₂,PG (jV X vars scope cl C fp s₂ H₂) tg g) (ht:∀ C fp s₂ H₂,zBE (jV X vars scope cl C fp s₂ H₂) ifs ti)
  (he:∀ C fp s₂ H₂,PE (jV X vars scope cl C fp s₂ H₂) elt te) {pins:List (Addr×Obj)}{σ:St}{s2:Shared}{E:Value->Shared->Prop}{F:Addr->Hp->Prop}{RR:Value->Addr->Result->Shared->Prop}{itv:Value}
  (h2:PIE X pins σ tg (fun J H1=>∃ W:Nat->Nat->List V->Hp->Prop,(∃ m,W 0 m [] H1)/\∀ i m ys H2,W i m ys H2->ys.length <= sizeLine /\
   ((J.stop i H2/\∀ D,H2 D=none->F D (upd H2 D (.lst ys))) \/
    (J.go i H2/\∀ x H3,J.yld i H2 x H3->g x (σ++List.replicate vars.length none) H3 fun σ2 H4=>Wk (σ++List.replicate vars.length none) σ2/\ti σ2 H4 fun b H5 =>
     if b=true then te σ2 H5 fun y H6=>∃ m',m' < m/\W (i+1) m' (ys++[y]) H6 else ∃ m',m' < m/\W (i+1) m' ys H5))) itv s2)
  (hRR:∀ D C s' H',(∃ m,s'.heap.Ns C m)->C≠X.env.locals->(∀ x c,X.env.cells.lookup x=some c->c≠C)->Inv X pins σ H' s'->(∀ (h':Heap),Heap.SameBut C s'.heap h'->∀ (s'':Shared),s''={ s' with heap:=h' }->Inv X pins σ H' s'') ->
   (∀ (σ':St) (s3:Shared),Inv X pins σ' H' s3->(∃ a,Heap.SameBut a s'.heap s3.heap/\(a=X.env.locals\/∃ x,X.env.cells.lookup x=some a))->∀ (h':Heap),Heap.SameBut C s3.heap h'->Inv X pins σ' H' { s3 with heap:=h' }) ->
   F D H'->RR (.ref D) C (.ok .next) s') :
  wpAny (model X.prog X.w) X.A (newList []) (fun acc s₃=>wpAny (model X.prog X.w) X.A (newFunctionEnv scope X.env.globals cl [] X.env.qual none .none (some X.env)) (fun cenv s₄ =>
   codeAny (model X.prog X.w) X.A (.compStart (.ListComp elt [⟨tg,iter,ifs,0⟩] scope pos) 0 itv acc { cenv with scope:=relabel scope X.env }) (RR acc cenv.locals) s₄) E s₃) E s2:=by
 obtain⟨it,fp,tn,J,H2,e,I2,T,st2,f2,W,⟨m0,w0⟩,turn⟩:=h2
 subst e
 refine wpAny_newObj_type (wpAny_newFunctionEnv S.noCell (by intro y hy;simp at hy) (fun h₁ hns₁ hsb₁=>?_) S.kind)
 dsimp only at hns₁ hsb₁ ⊢
 generalize hH2:s2.heap.push { cls:=.type "list",dict:=none,data:=.seq ([]:List Value).toArray }=P2 at hns₁ hsb₁ ⊢
 have hC:P2.objs.size=s2.heap.objs.size+1:=by rw[<- hH2,Heap.size_push]
 have hDC:s2.heap.objs.size≠P2.objs.size:=by rw[hC];exact Nat.ne_of_lt (Nat.lt_succ_self _)
 have hCle:s2.heap.objs.size <= P2.objs.size:=by rw[hC];exact Nat.le_succ _
 have below:∀ b,b < s2.heap.objs.size->b≠P2.objs.size/\b≠s2.heap.objs.size:=fun b hb=>⟨by rw[hC];exact Nat.ne_of_lt (Nat.lt_succ_of_lt hb),Nat.ne_of_lt hb⟩
 have old:∀ b o,s2.heap.get? b=some o->h₁.get? b=some o:=fun b o e=>hsb₁.extBut b o (below b (Heap.lt_size e)).1 (Heap.get?_push_of_some _ (hH2 ▸ Heap.get?_push_of_some _ e))
 have hacc:h₁.get? s2.heap.objs.size=some (zDv [] 0):=hsb₁.extBut _ _ hDC (Heap.get?_push_of_some _ (hH2 ▸ Heap.get?_push_size _ rfl))
 have hst₁:tn 0 h₁:=T.keep _ _ _ st2 fun b _ o e=>old b o e
 have hob:∀ b∈fp,∃ o,s2.heap.get? b=some o:=fun b hb=>by
  obtain⟨o,e,_⟩:=T.obj _ _ st2 b hb
  exact⟨o,e⟩
 have fpl:∀ b∈fp,b < s2.heap.objs.size:=fun b hb=>by
  obtain⟨o,e⟩:=hob b hb
  exact Heap.lt_size e
 have cget:∀ x c,cl.lookup x=some c->X.env.cells.lookup x=some c:=fun x c e=>S.cells.get e
 have celt:∀ x c,X.env.cells.lookup x=some c->c < s2.heap.objs.size:=fun x c e=>by
  obtain⟨v,q⟩:=I2.cell x c e
  exact q.lt
 have pint:∀ p∈X.pn++pins,p.1 < s2.heap.objs.size:=fun p hp=>Heap.lt_size (I2.pin p hp).1
 have fpst:∀ b∈fp,b∉frs X.stack:=fun b hb z=>by
  rcases List.mem_cons.mp (I2.stkSub b z) with e | e
  ·exact (f2 b hb).2.1 e
  ·exact (f2 b hb).2.2.1 e
 have nst:s2.heap.objs.size∉frs X.stack:=fun z=>by
  rcases List.mem_cons.mp (I2.stkSub _ z) with e | e
  ·exact absurd (e ▸ I2.lt) (Nat.lt_irrefl _)
  ·exact I2.nofs (Nat.le_refl _) e
 have CL:P2.objs.size≠X.env.locals:=fun z=>absurd (Nat.lt_of_lt_of_le (z ▸ I2.lt) hCle) (Nat.lt_irrefl _)
 have CC:∀ x c,X.env.cells.lookup x=some c->c≠P2.objs.size:=fun x c e=>Nat.ne_of_lt (Nat.lt_of_lt_of_le (celt x c e) hCle)
 have CP:∀ p∈X.pn++pins,p.1≠P2.objs.size:=fun p hp=>Nat.ne_of_lt (Nat.lt_of_lt_of_le (pint p hp) hCle)
 have loop:∀ s₃:Shared,s₃={ s2 with heap:=h₁,toks:=s2.toks+([]:List (Str×Value)).length } ->
   codeAny (model X.prog X.w) X.A (.compLoop (.ListComp elt [⟨tg,iter,ifs,0⟩] scope pos) 0 (.ref it) (.ref s2.heap.objs.size) (compEnvC scope cl P2.objs.size X.env)) (RR (.ref s2.heap.objs.size) P2.objs.size) s₃:=by
  rintro s₃ rfl
  have I0:Inv (jV X vars scope cl P2.objs.size fp s2 H2) [(s2.heap.objs.size,zDv [] 0)] (σ++List.replicate vars.length none) H2 { s2 with heap:=h₁,toks:=s2.toks+([]:List (Str×Value)).length } :=
   zMF I2 S f2 hob (Nat.le_refl _) hCle hDC hacc (fun v z=>by cases z) hns₁ old
  refine zM9 hc T (hg _ _ _ _) (ht _ _ _ _) (he _ _ _ _) (D:=s2.heap.objs.size) W (F:=fun ys H'=>∀ D,H' D=none->F D (upd H' D (.lst ys))) (Nat.le_refl _) hDC nst (fun x c e=>Nat.ne_of_lt (celt x c (cget x c e)))
   (fun b hb=>⟨(below b (fpl b hb)).1,fpst b hb,fun x c e z=>(f2 b hb).2.2.2.2.1 x c (cget x c e) z,Nat.ne_of_gt (fpl b hb)⟩) turn ?_ I0 hst₁ (fun b hb=>(f2 b hb).1) w0
  intro s' ys us n H' I' rv hz q
  obtain⟨eD,nD,_,_,_⟩:=I'.pin (s2.heap.objs.size,zDv us n) (List.mem_append_right _ List.mem_cons_self)
  have J1:Inv X pins σ H' s':=I2.call' I'.os I'.base I'.hok I'.bare (fun b hb=>⟨(f2 b hb).2.2.2.1,(f2 b hb).2.1,(f2 b hb).2.2.2.2.1,(f2 b hb).2.2.2.2.2⟩) I'.tk
  have J2:Inv X pins σ (upd H' s2.heap.objs.size (.lst ys)) s':=J1.track I2.sz nD (fun z=>absurd (z ▸ I2.lt) (Nat.lt_irrefl _)) (fun x c e=>Nat.ne_of_lt (celt x c e)) (fun p hp=>Nat.ne_of_lt (pint p hp)) ⟨hz,us,n,rv,eD⟩
  have nC:upd H' s2.heap.objs.size (.lst ys) P2.objs.size=none:=by
   rw[jZ (Ne.symm hDC)]
   exact I'.free
  refine hRR _ _ s' _ ?_ CL CC J2 (fun h' hs s'' e=>?_) (fun σ' s3 I3 _ h' hs=>?_) (q _ nD)
  ·obtain⟨m,hn,_⟩:=I'.loc
   exact⟨m,hn⟩
  ·subst e
   exact J2.turned (t':=s'.toks) (it:=P2.objs.size) (fun b o hb e=>(hs.2 b hb).trans e) nC CL (.inr (Nat.le_trans I2.sz hCle)) CC CP
  ·exact I3.turned (t':=s3.toks) (it:=P2.objs.size) (fun b o hb e=>(hs.2 b hb).trans e) nC CL (.inr (Nat.le_trans I2.sz hCle)) CC CP
 exact codeAny_compStart_list (loop _ rfl) (T.self _ 0 _ _ _ hst₁ (loop _ rfl))
theorem zH7 (hc:X.calm=true) (S:qM X vars scope cl) (hi:PI X tg iter wi) (hg:∀ C fp s₂ H₂,PG (jV X vars scope cl C fp s₂ H₂) tg g) (ht:∀ C fp s₂ H₂,zBE (jV X vars scope cl C fp s₂ H₂) ifs ti)
  (he:∀ C fp s₂ H₂,PE (jV X vars scope cl C fp s₂ H₂) elt te) (hs:∀ x,foldedSetIterable iter X.env x=pure x:=by intro _;rfl):PE X (.ListComp elt [⟨tg,iter,ifs,0⟩] scope pos) (zMX vars.length wi g ti te):=by
 intro pins s σ H Q I h
 rw[eval_ListComp]
 refine wpAny_comprehension_free (use:=none) rfl hs S.clos S.kind S.names (thn (hi pins s σ H _ I h) fun v s1 h1=>thn h1 fun itv s2 h2=>?_)
 refine zL4 hc S hg ht he (F:=fun D H'=>Q (.ref D) H') h2 fun D C s' H' hn hCL hCC J2 J3 _ q=>?_
 obtain⟨m,hn⟩:=hn
 exact⟨m,hn,fun h' hs'=>⟨.ref D,H',J3 h' hs' _ rfl,rfl,q⟩⟩
end
end L2
namespace L2
open PySem PySem.Spec PyProof.Rows
noncomputable def Its (z:Str):It:=⟨fun i _=>i < z.length,fun i H x H'=>H'=H/\∃ c,z.cps[i]? = some c/\x=.str ⟨#[c]⟩,fun i _=>z.length <= i⟩
theorem zNr {P:Program}{w:World}{K:PySem.W.Frag}{tg:Expr} (it:Addr) (z:Str) (t:Tok):zE3 P w K tg (Its z) [it] it (fun i h=>h.IsStrIter it "str_ascii_iterator" z t i) where
 mem:=by simp
 obj:=fun i h st b hb=>by
  have e:b=it:=by simpa using hb
  subst e
  obtain⟨o,e,c,d⟩:=st
  exact⟨o,e,fun v z=>by rw[d] at z;cases z⟩
 keep:=fun i h h' st k=>let ⟨o,ho,r⟩:=st;⟨o,k it (by simp) o ho,r⟩
 item:=by
  intro X hP hw hK hc i pins s σ H E I hf st hg
  subst hP hw hK
  obtain⟨f0,f1,f2,f3,f4,f5⟩:=hf it (by simp)
  have hlt:i < z.cps.size:=hg
  refine wpAny_pyNext_ascii_item st (c:=z.cps[i]) (by simp[hlt]) fun h' st' sb=>?_
  have I1:Inv X pins σ H { s with heap:=h',toks:=s.toks+1 }:=I.turned (fun b o hb e=>(sb.2 b hb).trans e) f0 f1 f3 f4 f5
  obtain⟨o,e,c,d⟩:=id st'
  exact⟨_,rfl,zFl (s:={ s with heap:=h',toks:=s.toks+1 }) e c d (by decide) ⟨.str ⟨#[z.cps[i]]⟩,H,I1,⟨_,rfl⟩,⟨rfl,z.cps[i],by simp[hlt],rfl⟩,st',fun b hb=>(hf b hb).1⟩⟩
 done:=by
  intro X hP hw hK hc i pins s σ H E I hf st hg
  subst hP hw hK
  obtain⟨f0,f1,f2,f3,f4,f5⟩:=hf it (by simp)
  have hle:z.cps.size <= i:=hg
  exact wpAny_pyNext_ascii_end (I.ok.hd hc) st (by simp[hle]) fun h' eb=>⟨rfl,I.turned (t':=s.toks) (fun b o hb e=>eb b o hb e) f0 f1 f3 f4 f5⟩
 self:=fun _ _ _ _ _ st h=>wpAny_pyIter_striter_ascii st h
theorem zNt {P:Program}{w:World}{K:PySem.W.Frag}{tg:Expr} (it:Addr) (z:Str) (t:Tok):zE3 P w K tg (Its z) [it] it (fun i h=>h.IsStrIter it "str_iterator" z t i) where
 mem:=by simp
 obj:=fun i h st b hb=>by
  have e:b=it:=by simpa using hb
  subst e
  obtain⟨o,e,c,d⟩:=st
  exact⟨o,e,fun v z=>by rw[d] at z;cases z⟩
 keep:=fun i h h' st k=>let ⟨o,ho,r⟩:=st;⟨o,k it (by simp) o ho,r⟩
 item:=by
  intro X hP hw hK hc i pins s σ H E I hf st hg
  subst hP hw hK
  obtain⟨f0,f1,f2,f3,f4,f5⟩:=hf it (by simp)
  have hlt:i < z.cps.size:=hg
  refine wpAny_pyNext_wide_item st (c:=z.cps[i]) (by simp[hlt]) fun h' st' sb=>?_
  have I1:Inv X pins σ H { s with heap:=h',toks:=s.toks+1 }:=I.turned (fun b o hb e=>(sb.2 b hb).trans e) f0 f1 f3 f4 f5
  obtain⟨o,e,c,d⟩:=id st'
  exact⟨_,rfl,zFl (s:={ s with heap:=h',toks:=s.toks+1 }) e c d (by decide) ⟨.str ⟨#[z.cps[i]]⟩,H,I1,⟨_,rfl⟩,⟨rfl,z.cps[i],by simp[hlt],rfl⟩,st',fun b hb=>(hf b hb).1⟩⟩
 done:=by
  intro X hP hw hK hc i pins s σ H E I hf st hg
  subst hP hw hK
  obtain⟨f0,f1,f2,f3,f4,f5⟩:=hf it (by simp)
  have hle:z.cps.size <= i:=hg
  exact wpAny_pyNext_wide_end (I.ok.hd hc) st (by simp[hle]) fun h' eb=>⟨rfl,I.turned (t':=s.toks) (fun b o hb e=>eb b o hb e) f0 f1 f3 f4 f5⟩
 self:=fun _ _ _ _ _ st h=>wpAny_pyIter_striter_wide st h
noncomputable def zUB (tl:TE):TI:=fun σ H R=>tl σ H fun x H1=>∃ z,x=.str z/\R (Its z) H1
theorem zSd {X:Cx}{tg l:Expr}{tl:TE} (hl:PE X l tl):PI X tg l (zUB tl):=by
 intro pins s σ H R I h
 refine thn (hl pins s σ H _ I h) fun v s1 ⟨x,H1,I1,r1,q1⟩=>?_
 obtain⟨z,e,q⟩:=q1
 subst e
 obtain⟨t,rfl⟩:=r1
 have fin:∀ b∈[s1.heap.objs.size],zDw X pins H1 b:=fun b hb=>by
  have e:b=s1.heap.objs.size:=by simpa using hb
  subst e
  exact I1.fpOk (Nat.le_refl _) (I1.hok.fresh (Nat.le_refl _))
 cases ha:z.cps.all (· < 128)
 ·refine wpAny_pyIter_wide ha ?_
  exact⟨s1.heap.objs.size,[s1.heap.objs.size],_,Its z,H1,rfl,I1.kept (t':=s1.toks) fun b o e=>Heap.get?_push_of_some _ e,zNt _ z t,⟨_,Heap.get?_push_size _ rfl,rfl,rfl⟩,fin,q⟩
 ·refine wpAny_pyIter_ascii ha ?_
  exact⟨s1.heap.objs.size,[s1.heap.objs.size],_,Its z,H1,rfl,I1.kept (t':=s1.toks) fun b o e=>Heap.get?_push_of_some _ e,zNr _ z t,⟨_,Heap.get?_push_size _ rfl,rfl,rfl⟩,fin,q⟩
section
variable {X:Cx}
theorem zM5:OpR X (compareOp .LtE) (fun x y H Q=>∃ i j,x=.str i/\y=.str j/\Q (.bl (!decide (j.cps.toList < i.cps.toList))) H):=by
 intro pins s σ H x y v u Q I rx ry h
 obtain⟨i,j,rfl,rfl,q⟩:=h
 obtain⟨t,rfl⟩:=rx
 obtain⟨t',rfl⟩:=ry
 exact PySem.P.le_str (jg I q rfl)
noncomputable def zHv (z:Str) (lo hi:Option Int):Str:=⟨((z.cps.toList.drop (HT.sIx z.length 0 lo)).take (HT.sIx z.length z.length hi - HT.sIx z.length 0 lo)).toArray⟩
theorem zKt (lo hi:Option Int) (n:Nat):Builtin.Str.strSliceIndices lo hi 1 n=(List.range (HT.sIx n n hi - HT.sIx n 0 lo)).map fun k=>HT.sIx n 0 lo+k:=by
 have clip:∀ v:Int,max 0 (min (if v < 0 then v+(n:Int) else v) (n:Int))=((HT.sIx n 0 (some v):Nat):Int)/\max 0 (min (if v < 0 then v+(n:Int) else v) (n:Int))=((HT.sIx n n (some v):Nat):Int):=fun v=>by
  unfold HT.sIx
  by_cases hv:v < 0
  ·simp only[if_pos hv];omega
  ·simp only[if_neg hv];omega
 have key:∀ a b:Nat,sliceRange (a:Int) (b:Int) 1=(List.range (b - a)).map fun k=>a+k:=fun a b=>by
  unfold sliceRange
  have hc:(if (1:Int) > 0 then (if (a:Int) < (b:Int) then ((b:Int) - a+1 - 1) / 1 else 0) else (if (a:Int) > (b:Int) then ((a:Int) - b - 1 - 1) / (-1) else 0)).toNat=b - a:=by
   rw[if_pos (by decide)]
   by_cases h:(a:Int) < (b:Int)
   ·rw[if_pos h,Int.ediv_one];omega
   ·rw[if_neg h];omega
  dsimp only
  rw[hc]
  refine List.map_congr_left fun k _=>?_
  omega
 unfold Builtin.Str.strSliceIndices
 cases lo with
 | none =>
  cases hi with
  | none=>exact key 0 n
  | some v =>
   simp only[show (1:Int) > 0 by decide,if_true]
   rw[(clip v).2]
   exact key 0 _
 | some u =>
  cases hi with
  | none =>
   simp only[show (1:Int) > 0 by decide,if_true]
   rw[(clip u).1]
   exact key _ n
  | some v =>
   simp only[show (1:Int) > 0 by decide,if_true]
   rw[(clip u).1,(clip v).2]
   exact key _ _
theorem zQV {α:Type} (xs:Array α) (a m:Nat):((List.range m).map fun k=>a+k).filterMap (xs[·]?)=(xs.toList.drop a).take m:=by
 rw[List.filterMap_map]
 induction m generalizing a with
 | zero=>simp
 | succ m ih =>
  rw[List.range_succ,List.filterMap_append,ih,List.take_succ]
  congr 1
  simp only[List.filterMap_cons,List.filterMap_nil,Function.comp]
  rw[List.getElem?_drop,Array.getElem?_toList]
  cases xs[a+m]?<;>rfl
theorem zNO (z:Str) (lo hi:Option Int):Txt.slice z lo hi=zHv z lo hi:=by
 have h1:=HT.zKm z.length 0 (Nat.zero_le _) lo
 have h2:=HT.zKm z.length z.length (Nat.le_refl _) hi
 unfold Txt.slice zHv
 rw[zKt,zQV]
 split
 ·rename_i h
  rw[List.length_map,List.length_range] at h
  have h3:HT.sIx z.length z.length hi - HT.sIx z.length 0 lo=z.length:=by
   have h':=(Bool.and_eq_true_iff.mp h).2
   exact eq_of_beq h'
  have e1:HT.sIx z.length 0 lo=0:=by omega
  rw[h3,e1,List.drop_zero]
  have hl:z.cps.toList.length=z.length:=by simp[Str.length]
  rw[List.take_of_length_le (by omega)]
 ·rfl
noncomputable def zUI:V->Option Int->Option Int->Hp->VK->Prop:=fun x lo hi H Q=>∃ z,x=.str z/\z.length <= sizeLine/\Q (.str (zHv z lo hi)) H
theorem zSX:SlR X zUI:=by
 intro pins s σ H x v vl vu lo hi sl Q I rx hs pl pu h
 obtain⟨z,rfl,hz,q⟩:=h
 obtain⟨t,rfl⟩:=rx
 refine⟨"str",_,F.slot_str_getitem.lookup,typeIs_str _ _ _,wpAny_with_toks (n:=1) I.tk ?_⟩
 obtain⟨o,ho,hc,hd⟩:=hs
 have fin:(Txt.slice z lo hi).length <= sizeLine/\∀ t' k,1 <= ({ s with toks:=k }:Shared).toks->EP X pins σ Q (.str (Txt.slice z lo hi) t') { s with toks:=k } :=
  ⟨Nat.le_trans (Txt.slice_le z lo hi) hz,fun t' k hk=>⟨.str (Txt.slice z lo hi),H,I.tok k hk,⟨_,rfl⟩,by rw[zNO];exact q⟩⟩
 cases pl with
 | none =>
  cases pu with
  | none=>exact wpAny_getItem_str_slice (l:=none) (u:=none) (st:=none) ⟨o,ho,hc,hd⟩ rfl (post_val_or_str fin)
  | int j uj=>exact wpAny_getItem_str_slice (l:=none) (u:=some (j,uj)) (st:=none) ⟨o,ho,hc,hd⟩ rfl (post_val_or_str fin)
 | int i ui =>
  cases pu with
  | none=>exact wpAny_getItem_str_slice (l:=some (i,ui)) (u:=none) (st:=none) ⟨o,ho,hc,hd⟩ rfl (post_val_or_str fin)
  | int j uj=>exact wpAny_getItem_str_slice (l:=some (i,ui)) (u:=some (j,uj)) (st:=none) ⟨o,ho,hc,hd⟩ rfl (post_val_or_str fin)
theorem zED {ys:List Str}:∀ {us:List Value},ze (ys.map V.str) us->StrsAre us ys:=by
 induction ys with
 | nil=>intro us r;rw[List.map_nil] at r;cases r;exact .nil
 | cons y ys ih =>
  intro us r
  rw[List.map_cons] at r
  cases r with
  | cons r1 r2 =>
   obtain⟨t,e⟩:=r1
   subst e
   exact .cons y t (ih r2)
noncomputable def zHN (K:PySem.W.Frag):V->List V->Hp->VK->Prop:=fun x vs H Q=>∃ z p ys,x=.str z/\vs=[.ref p]/\(SqL K H p (ys.map V.str)\/SqT K H p (ys.map V.str))/\(ys.map (·.length)).sum+ys.length * z.length <= 16777216/\Q (.str (Txt.join z ys)) H
theorem zBF:MtR X "str.join" (zHN X.K):=by
 intro pins s σ H x vs v us Q I rx rv h
 obtain⟨z,p,ys,rfl,rfl,hq,hz,q⟩:=h
 obtain⟨t,rfl⟩:=rx
 obtain⟨u,rfl,ru⟩:=Jw rv
 cases ru
 rcases hq with hq | hq
 ·obtain⟨its,r,pl,_⟩:=I.list hq
  exact wpAny_with_toks (n:=1) I.tk (join_list pl.isList (by simpa using zED r) hz fun t' k hk=>⟨.str (Txt.join z ys),H,I.tok k hk,⟨_,rfl⟩,q⟩)
 ·obtain⟨its,r,pl,_⟩:=I.tuple hq
  exact wpAny_with_toks (n:=1) I.tk (join_tuple pl (by simpa using zED r) hz fun t' k hk=>⟨.str (Txt.join z ys),H,I.tok k hk,⟨_,rfl⟩,q⟩)
theorem zIg:∀ (l:List (Str×Tok)),ze ((l.map (·.1)).map V.str) (strValues l)
 | []=>.nil
 | (x,t)::r=>.cons ⟨t,rfl⟩ (zIg r)
noncomputable def zN1:V->List V->Hp->VK->Prop:=fun x vs H Q=>∃ z y,x=.str z/\vs=[.str y]/\(y.length == 0)=false/\z.length+2 <= sizeLine/\∀ p,H p=none->Q (.ref p) (upd H p (.lst ((Txt.split z y).map V.str)))
end
end L2
namespace L2
open PySem PySem.Spec PyProof.Rows PySem.Builtin.Str
section
variable {X:Cx}
theorem zGT:MtR X "str.split" zN1:=by
 intro pins s σ H x vs v us Q I rx rv h
 obtain⟨z,y,rfl,rfl,hy,hz,q⟩:=h
 obtain⟨t,rfl⟩:=rx
 obtain⟨u,rfl,tu,rfl⟩:=Jw rv
 have hn:(partsBetween z (occurrences z y 0 z.length (z.length+1)) y.length).length <= sizeLine:=by
  have e1:=StrLaws.occ_length_le z y 0 z.length (z.length+1)
  rw[length_partsBetween];omega
 have fin:∀ (l:List (Str×Tok)) (k:Nat),l.map (·.1)=Txt.split z y->l.length <= sizeLine->1 <= k->EP X pins σ Q (.ref s.heap.objs.size) { s with heap:=s.heap.push { cls:=.type "list",data:=.seq (strValues l).toArray },toks:=k }:=fun l k e hl hk=>by
  have e2:=zIg l
  rw[e] at e2
  have hz2:((Txt.split z y).map V.str).length <= sizeLine:=by rw[List.length_map,<- e,List.length_map];exact hl
  exact⟨.ref s.heap.objs.size,_,I.lnew e2 hz2 hk,rfl,q _ I.fresh⟩
 refine wpAny_with_toks (n:=1) I.tk ?_
 cases h1:(decide (z.length < y.length) || decide (strKind z < strKind y))
 ·cases hf:(occurrences z y 0 z.length (z.length+1)).isEmpty
  ·refine call_meets F.slot_str_split (typeIs_str _ _ _) F.entry_str_split (F.args_str_split_2 _ _) (meets_str_split_sep z y t tu h1 hy hf (by omega) hn) ?_
   show wants _ _ _ { s with toks:=_,heap:=s.heap.push { cls:=.type "list",data:=.seq (strsFrom s.toks (partsBetween z (occurrences z y 0 z.length (z.length+1)) y.length)).toArray } }
   rw[strsFrom_eq]
   have e3:=(numbered_texts s.toks (partsBetween z (occurrences z y 0 z.length (z.length+1)) y.length))
   refine fin (numbered s.toks _) _ (e3.trans ((if_neg (ne_true_of_eq_false h1)).trans (if_neg (ne_true_of_eq_false hf))).symm) ?_
   have e4:=congrArg List.length e3
   rw[List.length_map] at e4
   rw[e4];exact hn
  ·exact call_meets F.slot_str_split (typeIs_str _ _ _) F.entry_str_split (F.args_str_split_2 _ _) (meets_str_split_not_found z y t tu h1 hy hf)
    (fin [(z,t)] s.toks ((if_neg (ne_true_of_eq_false h1)).trans (if_pos hf)).symm (by show 1 <= sizeLine;decide))
 ·exact call_meets F.slot_str_split (typeIs_str _ _ _) F.entry_str_split (F.args_str_split_2 _ _) (meets_str_split_cannot_occur z y t tu h1)
   (fin [(z,t)] s.toks (if_pos h1).symm (by show 1 <= sizeLine;decide))
theorem zMi:OpR X (binaryOp .Mult) (fun x y H Q=>∃ z n,x=.str z/\y=.int n/\MulOk z n/\Q (.str (Txt.mul z n)) H):=by
 intro pins s σ H x y v u Q I rx ry h
 obtain⟨z,n,rfl,rfl,hm,q⟩:=h
 obtain⟨t,rfl⟩:=rx
 obtain⟨t',rfl⟩:=ry
 exact wpAny_with_toks (n:=1) I.tk (SB.mul hm fun t' k hk=>⟨.str _,H,I.tok k hk,⟨_,rfl⟩,q⟩)
theorem zOp {bs:List Bool}:∀ {us:List Value},ze (bs.map V.bl) us->us=bs.map Value.bool:=by
 induction bs with
 | nil=>intro us r;rw[List.map_nil] at r;cases r;rfl
 | cons b bs ih =>
  intro us r
  rw[List.map_cons] at r
  cases r with
  | cons r1 r2=>rw[ih r2];cases r1;rfl
theorem zIJ (bs:List Bool):((List.range bs.length).all fun i=>bs.getD i false)=bs.all id:=by
 induction bs with
 | nil=>rfl
 | cons b bs ih =>
  rw[List.length_cons,List.range_succ_eq_map,List.all_cons,List.all_map,List.all_cons,<- ih]
  rfl
noncomputable def zRp (K:PySem.W.Frag):List V->Hp->VK->Prop:=fun xs H Q=>∃ (p:Addr) (bs:List Bool),xs=[.ref p]/\SqL K H p (bs.map V.bl)/\Q (.bl (bs.all id)) H
theorem zGp (hc:X.calm=true):qj X (.builtin "all") (zRp X.K):=by
 intro pins s σ H xs us Q I r h
 obtain⟨p,bs,rfl,hq,q⟩:=h
 obtain⟨u,rfl,ru⟩:=Jw r
 cases ru
 obtain⟨its,rv,pl,hz⟩:=I.list hq
 have e:=zOp rv
 subst e
 obtain⟨o,ho,ho2⟩:=pl.isList
 have hlt:p < s.heap.objs.size:=Heap.lt_size ho
 refine wpAny_with_toks (n:=1) I.tk (call_all_walk (wpAny_pyIter_list pl.isList ?_))
 refine⟨s.heap.objs.size,_,_,_,_,_,fun i=>bs.getD i false,rfl,Walks.list (show X.A.in1.handled=none from I.ok.hd hc) s.heap.objs.size p (Nat.ne_of_lt hlt) (bs.map Value.bool).toArray,⟨⟨_,Heap.get?_push_size _ rfl,rfl,rfl⟩,pl.isList.push _⟩,?_,fun h' tk hk htk=>?_⟩
 ·intro i v s' Q' E' hP hQ
  have hP':(bs.map Value.bool)[i]? = some v:=by simpa using hP
  rw[List.getElem?_map] at hP'
  cases hb:bs[i]? with
  | none=>rw[hb] at hP';cases hP'
  | some b =>
   rw[hb] at hP'
   cases hP'
   have e:bs.getD i false=b:=by simp[List.getD,hb]
   dsimp only at hQ
   rw[e] at hQ
   exact wpAny_truthy_bool hQ
 ·have hk':∀ b o,s.heap.get? b=some o->h'.get? b=some o:=fun b o e=>hk b o (by simpa using Nat.ne_of_lt (Heap.lt_size e)) (Heap.get?_push_of_some _ e)
  refine⟨.bl (bs.all id),H,I.kept hk' htk,?_,q⟩
  show Value.bool _=Value.bool _
  rw[<- zIJ]
  simp
end
mutual
inductive yT (K:PySem.W.Frag) (H:Hp):V->PyData->Prop
 | non:yT K H .non .none
 | bl (b:Bool):yT K H (.bl b) (.bool b)
 | int (i:Int):yT K H (.int i) (.int i)
 | str (x:Str):yT K H (.str x) (.str x)
 | lst {p:Addr}{xs:List V}{ds:List PyData}:SqL K H p xs->Jg K H xs ds->yT K H (.ref p) (.list ds)
 | tup {p:Addr}{xs:List V}{ds:List PyData}:SqT K H p xs->Jg K H xs ds->yT K H (.ref p) (.tuple ds)
inductive Jg (K:PySem.W.Frag) (H:Hp):List V->List PyData->Prop
 | nil:Jg K H [] []
 | cons {v:V}{d:PyData}{vs:List V}{ds:List PyData}:yT K H v d->Jg K H vs ds->Jg K H (v::vs) (d::ds)
end
section
variable {X:Cx}{pins:List (Addr×Obj)}{σ:St}{H:Hp}{s:Shared}
mutual
theorem yT.reads (I:Inv X pins σ H s):∀ {v:V}{d:PyData}{u:Value},yT X.K H v d->zv v u->∃ as,Reads s.heap u d as
 | _,_,_,.non,r=>by cases r;exact⟨_,.none⟩
 | _,_,_,.bl b,r=>by cases r;exact⟨_,.bool b⟩
 | _,_,_,.int i,r=>by obtain⟨t,rfl⟩:=r;exact⟨_,.int i t⟩
 | _,_,_,.str x,r=>by obtain⟨t,rfl⟩:=r;exact⟨_,.str x t⟩
 | _,_,_,.lst hq ha,r=>by
  cases r
  obtain⟨its,rv,⟨o,n,e,hc,hd,hs⟩,_⟩:=I.list hq
  obtain⟨as,ra⟩:=Jg.reads I ha rv
  exact⟨_,.list e hc hs (by simpa using ra)⟩
 | _,_,_,.tup hq ha,r=>by
  cases r
  obtain⟨its,rv,⟨o,e,hc,n,hs⟩,_⟩:=I.tuple hq
  obtain⟨as,ra⟩:=Jg.reads I ha rv
  exact⟨_,.tuple e hc hs (by simpa using ra)⟩
theorem Jg.reads (I:Inv X pins σ H s):∀ {vs:List V}{ds:List PyData}{us:List Value},Jg X.K H vs ds->ze vs us->∃ as,ReadsAll s.heap us ds as
 | _,_,_,.nil,r=>by cases r;exact⟨_,.nil⟩
 | _,_,_,.cons h t,r=>by
  cases r with
  | cons r1 r2 =>
   obtain⟨as,ra⟩:=yT.reads I h r1
   obtain⟨bs,rb⟩:=Jg.reads I t r2
   exact⟨_,.cons ra rb⟩
end
end
section
variable {X:Cx}
noncomputable def zOW (K:PySem.W.Frag) (neg:Bool):R2:=fun x y H Q=>∃ d e,yT K H x d/\yT K H y e/\SeqAt.shaped d=true/\SeqAt.shaped e=true/\Q (.bl (if neg then !PyData.eqv d e else PyData.eqv d e)) H
theorem zSO {k:Nat} (hr:jY k X.A):OpR X (compareOp .Eq) (zOW X.K false):=by
 intro pins s σ H x y v u Q I rx ry h
 obtain⟨d,e,hd,he,sd,se,q⟩:=h
 obtain⟨as,ra⟩:=hd.reads I rx
 obtain⟨bs,rb⟩:=he.reads I ry
 exact eq_dataH ra rb sd se hr.units ⟨.bl _,H,I,rfl,q⟩
theorem zS4 {k:Nat} (hr:jY k X.A):OpR X (compareOp .NotEq) (zOW X.K true):=by
 intro pins s σ H x y v u Q I rx ry h
 obtain⟨d,e,hd,he,sd,se,q⟩:=h
 obtain⟨as,ra⟩:=hd.reads I rx
 obtain⟨bs,rb⟩:=he.reads I ry
 exact ne_dataH ra rb sd se hr.units ⟨.bl _,H,I,rfl,q⟩
where RelC:V->Value->Prop:=fun c cv=>(∃ n,c=.ty n/\cv=.type n)\/∃ a,c=.ref a/\cv=.ref a
end
end L2
namespace L2
open PySem PySem.Spec PyProof.Rows
section
variable {X:Cx}
noncomputable def zRv:R2:=fun x y H Q=>match x,y with
 | .int i,.int j=>Q (.int (i+j)) H
 | .str a,.str b=>a.length+b.length <= sizeLine/\Q (.str (a++b)) H
 | .ref l,.ref b=>∃ xs zs,H l=some (.lst xs)/\H b=some (.lst zs)/\xs.length+zs.length <= sizeLine/\∀ p,H p=none->Q (.ref p) (upd H p (.lst (xs++zs)))
 | _,_=>False
theorem jf:OpR X (binaryOp .Add) zRv:=by
 intro pins s σ H x y v u Q I rx ry h
 cases x with
 | int i =>
  cases y with
  | int j=>exact zSp pins s σ H _ _ v u Q I rx ry ⟨i,j,rfl,rfl,h⟩
  | _=>exact False.elim h
 | str a =>
  cases y with
  | str b=>exact zMh pins s σ H _ _ v u Q I rx ry ⟨a,b,rfl,rfl,h⟩
  | _=>exact False.elim h
 | ref l =>
  cases y with
  | ref b =>
   obtain⟨xs,zs,h1,h2,h3,h4⟩:=h
   exact zRx pins s σ H _ _ v u Q I rx ry ⟨l,b,xs,zs,rfl,rfl,h1,h2,h3,h4⟩
  | _=>exact False.elim h
 | _=>exact False.elim h
noncomputable def zSa:R2:=fun x y H Q=>match x,y with
 | .int i,.int j=>Q (.int (i - j)) H
 | _,_=>False
theorem zPp:OpR X (binaryOp .Sub) zSa:=by
 intro pins s σ H x y v u Q I rx ry h
 cases x with
 | int i =>
  cases y with
  | int j=>exact zSP pins s σ H _ _ v u Q I rx ry ⟨i,j,rfl,rfl,h⟩
  | _=>exact False.elim h
 | _=>exact False.elim h
noncomputable def zS6:R2:=fun x y H Q=>match x,y with
 | .int i,.int j=>zMe i j/\Q (.int (i * j)) H
 | .str z,.int n=>MulOk z n/\Q (.str (Txt.mul z n)) H
 | _,_=>False
theorem zTI:OpR X (binaryOp .Mult) zS6:=by
 intro pins s σ H x y v u Q I rx ry h
 cases x with
 | int i =>
  cases y with
  | int j=>exact zRu pins s σ H _ _ v u Q I rx ry ⟨i,j,rfl,rfl,h⟩
  | _=>exact False.elim h
 | str z =>
  cases y with
  | int n=>exact zMi pins s σ H _ _ v u Q I rx ry ⟨z,n,rfl,rfl,h⟩
  | _=>exact False.elim h
 | _=>exact False.elim h
noncomputable def zR6:R2:=fun x y H Q=>match x,y with
 | .int i,.int j=>0 < j/\Q (.int (i % j)) H
 | _,_=>False
theorem yU:OpR X (binaryOp .Mod) zR6:=by
 intro pins s σ H x y v u Q I rx ry h
 cases x with
 | int i =>
  cases y with
  | int j=>exact zSL pins s σ H _ _ v u Q I rx ry ⟨i,j,rfl,rfl,h⟩
  | _=>exact False.elim h
 | _=>exact False.elim h
noncomputable def zRY:R2:=fun x y H Q=>match x,y with
 | .int i,.int j=>(0 < j/\j < 1073741824)/\Q (.int (i / j)) H
 | _,_=>False
theorem Qd:OpR X (binaryOp .FloorDiv) zRY:=by
 intro pins s σ H x y v u Q I rx ry h
 cases x with
 | int i =>
  cases y with
  | int j=>exact zQf pins s σ H _ _ v u Q I rx ry ⟨i,j,rfl,rfl,h⟩
  | _=>exact False.elim h
 | _=>exact False.elim h
noncomputable def uLt:R2:=fun x y H Q=>match x,y with
 | .int i,.int j=>Q (.bl (decide (i < j))) H
 | .str i,.str j=>Q (.bl (decide (i.cps.toList < j.cps.toList))) H
 | _,_=>False
theorem zSE:OpR X (compareOp .Lt) uLt:=by
 intro pins s σ H x y v u Q I rx ry h
 cases x with
 | int i =>
  cases y with
  | int j=>exact zTZ pins s σ H _ _ v u Q I rx ry ⟨i,j,rfl,rfl,h⟩
  | _=>exact False.elim h
 | str i =>
  cases y with
  | str j=>exact zNI pins s σ H _ _ v u Q I rx ry ⟨i,j,rfl,rfl,h⟩
  | _=>exact False.elim h
 | _=>exact False.elim h
noncomputable def uLe:R2:=fun x y H Q=>match x,y with
 | .int i,.int j=>Q (.bl (decide (i <= j))) H
 | .str i,.str j=>Q (.bl (!decide (j.cps.toList < i.cps.toList))) H
 | _,_=>False
theorem zGA:OpR X (compareOp .LtE) uLe:=by
 intro pins s σ H x y v u Q I rx ry h
 cases x with
 | int i =>
  cases y with
  | int j=>exact zTn pins s σ H _ _ v u Q I rx ry ⟨i,j,rfl,rfl,h⟩
  | _=>exact False.elim h
 | str i =>
  cases y with
  | str j=>exact zM5 pins s σ H _ _ v u Q I rx ry ⟨i,j,rfl,rfl,h⟩
  | _=>exact False.elim h
 | _=>exact False.elim h
noncomputable def uGt:R2:=fun x y H Q=>match x,y with
 | .int i,.int j=>Q (.bl (decide (j < i))) H
 | _,_=>False
theorem zMT:OpR X (compareOp .Gt) uGt:=by
 intro pins s σ H x y v u Q I rx ry h
 cases x with
 | int i =>
  cases y with
  | int j=>exact zTU pins s σ H _ _ v u Q I rx ry ⟨i,j,rfl,rfl,h⟩
  | _=>exact False.elim h
 | _=>exact False.elim h
noncomputable def uIn (K:PySem.W.Frag) (neg:Bool):R2:=fun x y H Q=>match x,y with
 | .str i,.str j=>Q (.bl (xor neg (!(Builtin.Str.occurrences j i 0 j.length 1).isEmpty))) H
 | x,.ref p=>∃ xs,(SqL K H p xs\/SqT K H p xs)/\QB x=true/\xs.all QB=true/\Q (.bl (xor neg (inV x xs))) H
 | _,_=>False
theorem zUS:OpR X (compareOp .In) (uIn X.K false):=by
 intro pins s σ H x y v u Q I rx ry h
 cases y with
 | str j =>
  cases x with
  | str i =>
   have h':Q (.bl (xor false (!(Builtin.Str.occurrences j i 0 j.length 1).isEmpty))) H:=h
   rw[Bool.false_xor] at h'
   exact zNs pins s σ H _ _ v u Q I rx ry ⟨i,j,rfl,rfl,h'⟩
  | _=>exact False.elim h
 | ref p =>
  have h':∃ xs,(SqL X.K H p xs\/SqT X.K H p xs)/\QB x=true/\xs.all QB=true/\Q (.bl (xor false (inV x xs))) H:=by cases x<;>exact h
  obtain⟨xs,h1,h2,h3,h4⟩:=h'
  rw[Bool.false_xor] at h4
  exact zM8 pins s σ H _ _ v u Q I rx ry ⟨p,xs,rfl,h1,h2,h3,h4⟩
 | _=>cases x<;>exact False.elim h
theorem zQm:OpR X (compareOp .NotIn) (uIn X.K true):=by
 intro pins s σ H x y v u Q I rx ry h
 cases y with
 | str j =>
  cases x with
  | str i =>
   have h':Q (.bl (xor true (!(Builtin.Str.occurrences j i 0 j.length 1).isEmpty))) H:=h
   rw[Bool.true_xor] at h'
   exact zKN pins s σ H _ _ v u Q I rx ry ⟨i,j,rfl,rfl,h'⟩
  | _=>exact False.elim h
 | ref p =>
  have h':∃ xs,(SqL X.K H p xs\/SqT X.K H p xs)/\QB x=true/\xs.all QB=true/\Q (.bl (xor true (inV x xs))) H:=by cases x<;>exact h
  obtain⟨xs,h1,h2,h3,h4⟩:=h'
  rw[Bool.true_xor] at h4
  exact zK7 pins s σ H _ _ v u Q I rx ry ⟨p,xs,rfl,h1,h2,h3,h4⟩
 | _=>cases x<;>exact False.elim h
noncomputable def uIx (K:PySem.W.Frag):R2:=fun x y H Q=>match x,y with
 | .str z,.int i=>∃ c,z.length <= sizeLine/\atI z.cps.toList i=some c/\Q (.str ⟨#[c]⟩) H
 | .ref p,.int i=>∃ xs v,(SqL K H p xs\/SqT K H p xs)/\atI xs i=some v/\Q v H
 | _,_=>False
theorem zTz:IxR X (uIx X.K):=by
 intro value slice pins s σ H x y v u Q I rx ry h hs
 cases x with
 | str z =>
  cases y with
  | int i =>
   obtain⟨c,h1,h2,h3⟩:=h
   exact zSC value slice pins s σ H _ _ v u Q I rx ry ⟨z,i,c,rfl,rfl,h1,h2,h3⟩ hs
  | _=>exact False.elim h
 | ref p =>
  cases y with
  | int i =>
   obtain⟨xs,c,h1 | h1,h2,h3⟩:=h
   ·exact zQl value slice pins s σ H _ _ v u Q I rx ry ⟨p,xs,i,c,rfl,rfl,h1,h2,h3⟩ hs
   ·exact zSf value slice pins s σ H _ _ v u Q I rx ry ⟨p,xs,i,c,rfl,rfl,h1,h2,h3⟩ hs
  | _=>exact False.elim h
 | _=>exact False.elim h
noncomputable def uSl (K:PySem.W.Frag):V->Option Int->Option Int->Hp->VK->Prop:=fun x lo hi H Q=>match x with
 | .str z=>z.length <= sizeLine/\Q (.str (zHv z lo hi)) H
 | .ref a=>(∃ xs,SqL K H a xs/\∀ p,H p=none->Q (.ref p) (upd H p (.lst (zDQ xs lo hi)))) \/
   (∃ xs,SqT K H a xs /\ ¬ (HT.sIx xs.length 0 lo=0/\HT.sIx xs.length xs.length hi=xs.length)/\∀ p,H p=none->Q (.ref p) (upd H p (.tup (zDQ xs lo hi))))
 | _=>False
theorem zAT:SlR X (uSl X.K):=by
 intro pins s σ H x v vl vu lo hi sl Q I rx hs pl pu h
 cases x with
 | str z=>exact zSX pins s σ H _ v vl vu lo hi sl Q I rx hs pl pu ⟨z,rfl,h⟩
 | ref a =>
  rcases h with ⟨xs,h1,h2⟩ | ⟨xs,h1,h2,h3⟩
  ·exact zQG pins s σ H _ v vl vu lo hi sl Q I rx hs pl pu ⟨a,xs,rfl,h1,h2⟩
  ·exact zS0 pins s σ H _ v vl vu lo hi sl Q I rx hs pl pu ⟨a,xs,rfl,h1,h2,h3⟩
 | _=>exact False.elim h
noncomputable def zSM (K:PySem.W.Frag):List V->Hp->VK->Prop:=fun xs H Q=>match xs with
 | [.str z]=>z.length <= sizeLine/\Q (.int z.length) H
 | [.ref p]=>∃ ys,(SqL K H p ys\/SqT K H p ys)/\Q (.int ys.length) H
 | _=>False
theorem zTK:qj X (.builtin "len") (zSM X.K):=by
 intro pins s σ H xs us Q I r h
 match xs,h with
 | [.str z],h=>exact zKp pins s σ H _ us Q I r ⟨z,rfl,h⟩
 | [.ref p],h =>
  obtain⟨ys,h1,h2⟩:=h
  exact zKy pins s σ H _ us Q I r ⟨p,ys,rfl,h1,h2⟩
theorem zRD:PIp X .Add (fun x y H Q=>match x,y with | .int i,.int j=>Q (.int (i+j)) H | .str a,.str b=>a.length+b.length <= sizeLine/\Q (.str (a++b)) H | _,_=>False):=by
 intro pins s σ H x y v u Q I rx ry h
 cases x with
 | int i =>
  cases y with
  | int j=>exact zSQ pins s σ H _ _ v u Q I rx ry ⟨i,j,rfl,rfl,h⟩
  | _=>exact False.elim h
 | str a =>
  cases y with
  | str b=>exact zLV pins s σ H _ _ v u Q I rx ry ⟨a,b,rfl,rfl,h⟩
  | _=>exact False.elim h
 | _=>exact False.elim h
end
theorem JJ:bootBuiltins "len" = some (.builtin "len"):=by decide +kernel
theorem zKZ:bootBuiltins "all" = some (.builtin "all"):=by decide +kernel
theorem yu:bootBuiltins "isinstance" = some (.builtin "isinstance"):=by decide +kernel
theorem zDc:bootBuiltins "str" = some (.type "str"):=by decide +kernel
theorem zH3:bootBuiltins "list" = some (.type "list"):=by decide +kernel
theorem zCb:bootBuiltins "tuple" = some (.type "tuple"):=by decide +kernel
theorem zQ3:bootBuiltins "dict" = some (.type "dict"):=by decide +kernel
structure Has (P:Program) (w:World) (K:PySem.W.Frag) (mg:Str->Option Value) (base:Heap) (x:Str) (k:Nat) (ps:List Str) (sp:Sp):Prop where
 ex:∃ f fd,jX P w K mg base CX0 k f fd ps sp/\zAQ K fd ps []/\PySem.W.keepIn K (.ref f)=true/\mg x=some (.ref f)
section
variable {X:Cx}{k kk:Nat}{x:Str}{ps:List Str}{sp:Sp}{e:Expr}{es:List Expr}{t:TA}{p pos:Pos}
theorem zOY (h:Has X.prog X.w X.K X.mg X.base x k ps sp) (hr:jY kk X.A) (hk:k <= kk) (hg:Gl X x) (ha:PA X (e::es) t) (hx:Zd CX0 X E0:=by exact zB1) (hdb:(x == ("__debug__" : Str))=false:=by decide)
  (he:starEach (e::es) X.env=(false,eval e X.env)::starEach es X.env:=by rfl) (hpl:(backTo pos (starEach es X.env)).any (·.1)=false:=by rfl) :
  PE X (.Call (.Name x p) (e::es) [] pos) (zPq sp [] E0 t):=by
 obtain⟨f,fd,F,b,kp,m⟩:=h.ex
 exact zQo F (hr.mono hk) hg m kp b .nil hx ha hdb he hpl
structure zBQ (mg:Str->Option Value) (x:Str) (v:V):Prop where
 ex:∃ u,mg x=some u/\zv v u
theorem zKC {v:V} (h:zBQ X.mg x v) (hg:Gl X x) (hd:(x == ("__debug__" : Str))=false:=by decide):PE X (.Name x pos) (tC v):=by
 obtain⟨u,m,r⟩:=h.ex
 exact zQC hg m r hd
end
noncomputable def zHw:V->Value->Bool
 | .non,.none=>true
 | .bl a,.bool b=>a == b
 | .int i,.int j _=>i == j
 | .str x,.str y _=>x == y
 | _,_=>false
theorem zFg:∀ {v:V}{u:Value},zHw v u=true->zv v u
 | .non,.none,_=>rfl
 | .bl a,.bool b,h=>by
  have e:a=b:=eq_of_beq h
  rw[e];rfl
 | .int i,.int j t,h=>by
  have e:i=j:=eq_of_beq h
  rw[e];exact⟨t,rfl⟩
 | .str x,.str y t,h=>by
  have e:x=y:=eq_of_beq h
  rw[e];exact⟨t,rfl⟩
noncomputable def zHa:List V->List Value->Bool
 | [],[]=>true
 | v::vs,u::us=>zHw v u && zHa vs us
 | _,_=>false
theorem zGG:∀ {vs:List V}{us:List Value},zHa vs us=true->ze vs us
 | [],[],_=>.nil
 | v::vs,u::us,h=>by
  have h':(zHw v u && zHa vs us)=true:=h
  rw[Bool.and_eq_true] at h'
  exact .cons (zFg h'.1) (zGG h'.2)
theorem zP8 {K:PySem.W.Frag}{H:Hp}{a:Addr}{d:Option Addr}{its:Array Value}{n:Nat}{sl:Array (Option Value)}{xs:List V} (h:K.lookup a=some ⟨.type "tuple",d,.seq its n,sl⟩) (r:zHa xs its.toList=true) (hz:xs.length <= sizeLine:=by decide):SqT K H a xs:=by
 have e:=(zGG r).length
 have e2:its.toList.length=its.size:=by simp
 exact .inr ⟨_,its,n,h,rfl,rfl,by omega,zGG r⟩
theorem zCY {K:PySem.W.Frag}{A B:String}{b:Bool} (h:(if (Value.type A == Value.type B)=true then some true else if PySem.W.kitMeta B=true then (PySem.fastBuiltinMro A).map (·.contains (Value.type B)) else none)=some b):PySem.W.kitOne K (.type A) (.type B)=some b:=h
end L2
namespace TX
open PySem
noncomputable def qm (c:Nat):List Nat->List (List Nat)
 | []=>[[]]
 | d::r=>if d=c then []::qm c r else match qm c r with
  | []=>[[d]]
  | p::ps=>(d::p)::ps
noncomputable def zB2 (c:Nat):List (List Nat)->List Nat
 | []=>[]
 | [p]=>p
 | p::q::r=>p++c::zB2 c (q::r)
theorem zNH (c:Nat) (l:List Nat):qm c l≠[]:=by
 cases l with
 | nil=>simp[qm]
 | cons d r =>
  unfold qm
  split
  ·simp
  ·split<;>simp
theorem zF4 (c:Nat):∀ p:List Nat,c∉p->qm c p=[p]
 | [],_=>rfl
 | d::r,h=>by
  have hd:d≠c:=fun e=>h (by simp[e])
  have hr:c∉r:=fun e=>h (List.mem_cons_of_mem _ e)
  unfold qm
  rw[if_neg hd,zF4 c r hr]
theorem zHi (c:Nat):∀ (p r:List Nat),c∉p->qm c (p++c::r)=p::qm c r
 | [],r,_=>by
  show qm c (c::r)=_
  unfold qm
  rw[if_pos rfl]
  cases r<;>rfl
 | d::q,r,h=>by
  have hd:d≠c:=fun e=>h (by simp[e])
  have hq:c∉q:=fun e=>h (List.mem_cons_of_mem _ e)
  show qm c (d::(q++c::r))=_
  conv=>lhs;unfold qm
  rw[if_neg hd,zHi c q r hq]
theorem zF0 (c:Nat):∀ ps:List (List Nat),ps≠[]->(∀ p∈ps,c∉p)->qm c (zB2 c ps)=ps
 | [],h,_=>absurd rfl h
 | [p],_,h=>zF4 c p (h p (by simp))
 | p::q::r,_,h=>by
  show qm c (p++c::zB2 c (q::r))=_
  rw[zHi c p _ (h p (by simp)),zF0 c (q::r) (by simp) fun x hx=>h x (List.mem_cons_of_mem _ hx)]
theorem zB4 (c:Nat):∀ ps:List Str,(Str.join ⟨#[c]⟩ ps).cps.toList=zB2 c (ps.map fun p=>p.cps.toList)
 | []=>rfl
 | [p]=>rfl
 | p::q::r=>by
  have ih:=zB4 c (q::r)
  show (p++(⟨#[c]⟩:Str)++Str.join ⟨#[c]⟩ (q::r)).cps.toList=p.cps.toList++c::zB2 c ((q::r).map fun p=>p.cps.toList)
  rw[<- ih]
  show (p.cps ++ #[c]++(Str.join ⟨#[c]⟩ (q::r)).cps).toList=_
  simp
theorem zO6 (x:Str) (c:Nat):Txt.split x ⟨#[c]⟩≠[]:=by
 unfold Txt.split
 split
 ·simp
 ·split
  ·simp
  ·rw[StrLaws.partsBetween_eq]
   obtain⟨p,r,e⟩:=StrLaws.partsFrom_ne x (⟨#[c]⟩:Str).length 0 (Builtin.Str.occurrences x ⟨#[c]⟩ 0 x.length (x.length+1))
   rw[e];simp
theorem zLQ (x:Str) (c:Nat):(Txt.split x ⟨#[c]⟩).map (fun p=>p.cps.toList)=qm c x.cps.toList:=by
 have h1:=StrLaws.join_split x ⟨#[c]⟩
 have h2:=zB4 c (Txt.split x ⟨#[c]⟩)
 rw[h1] at h2
 rw[h2,zF0]
 ·intro e
  exact zO6 x c (List.map_eq_nil_iff.mp e)
 ·intro p hp
  obtain⟨q,hq,rfl⟩:=List.mem_map.mp hp
  exact StrLaws.split_free x c q hq
noncomputable def ofL (l:List Nat):Str:=⟨l.toArray⟩
theorem zL0 (x:Str):ofL x.cps.toList=x:=by
 cases x;simp[ofL]
theorem zPT (x:Str) (c:Nat):Txt.split x ⟨#[c]⟩=(qm c x.cps.toList).map ofL:=by
 rw[<- zLQ,List.map_map]
 have:(ofL ∘ fun p:Str=>p.cps.toList)=id:=by
  funext p;exact zL0 p
 rw[this,List.map_id]
theorem zJC (c d:Nat):∀ ps:List (List Nat),(∀ p∈ps,c∉p)->zB2 d ps=(zB2 c ps).map fun x=>if x=c then d else x
 | [],_=>rfl
 | [p],h=>by
  show p=p.map _
  have hp:=h p (by simp)
  conv=>lhs;rw[<- List.map_id p]
  refine List.map_congr_left fun x hx=>?_
  have:x≠c:=fun e=>hp (e ▸ hx)
  simp[this]
 | p::q::r,h=>by
  show p++d::zB2 d (q::r)=(p++c::zB2 c (q::r)).map _
  rw[List.map_append,List.map_cons,zJC c d (q::r) fun x hx=>h x (List.mem_cons_of_mem _ hx)]
  have hp:=h p (by simp)
  have e:p.map (fun x=>if x=c then d else x)=p:=by
   conv=>rhs;rw[<- List.map_id p]
   refine List.map_congr_left fun x hx=>?_
   have:x≠c:=fun e=>hp (e ▸ hx)
   simp[this]
  rw[e];simp
theorem zJQ (x:Str) (c d:Nat):(Txt.replace x ⟨#[c]⟩ ⟨#[d]⟩).cps.toList=x.cps.toList.map fun y=>if y=c then d else y:=by
 rw[StrLaws.replace_one,zB4,zJC c d]
 ·rw[<- zB4,StrLaws.join_split]
 ·intro p hp
  obtain⟨q,hq,rfl⟩:=List.mem_map.mp hp
  exact StrLaws.split_free x c q hq
end TX
namespace TX
open PySem
noncomputable def sp (y:Nat):Nat:=if y=10 then 32 else y
end TX
namespace M
noncomputable abbrev T:=List Nat
inductive Kd where
 | str | int | bool | list | tuple | dict
 deriving DecidableEq
inductive D where
 | non | bl (b:Bool) | int (i:Int) | str (x:T) | tup (ds:List D) | ro (ds:List D) | ref (i:Nat) | ty (n:Kd)
mutual
noncomputable def D.decEq:(a b:D)->Decidable (a=b)
 | .non,.non=>isTrue rfl
 | .bl a,.bl b=>if h:a=b then isTrue (by rw[h]) else isFalse (fun e=>h (D.bl.inj e))
 | .int a,.int b=>if h:a=b then isTrue (by rw[h]) else isFalse (fun e=>h (D.int.inj e))
 | .str a,.str b=>if h:a=b then isTrue (by rw[h]) else isFalse (fun e=>h (D.str.inj e))
 | .ref a,.ref b=>if h:a=b then isTrue (by rw[h]) else isFalse (fun e=>h (D.ref.inj e))
 | .ty a,.ty b=>if h:a=b then isTrue (by rw[h]) else isFalse (fun e=>h (D.ty.inj e))
 | .tup a,.tup b=>match D.decEqs a b with
  | isTrue h=>isTrue (by rw[h])
  | isFalse h=>isFalse (fun e=>h (D.tup.inj e))
 | .ro a,.ro b=>match D.decEqs a b with
  | isTrue h=>isTrue (by rw[h])
  | isFalse h=>isFalse (fun e=>h (D.ro.inj e))
 | .non,.bl _ | .non,.int _ | .non,.str _ | .non,.tup _ | .non,.ro _ | .non,.ref _ | .non,.ty _=>isFalse (fun e=>nomatch e)
 | .bl _,.non | .bl _,.int _ | .bl _,.str _ | .bl _,.tup _ | .bl _,.ro _ | .bl _,.ref _ | .bl _,.ty _=>isFalse (fun e=>nomatch e)
 | .int _,.non | .int _,.bl _ | .int _,.str _ | .int _,.tup _ | .int _,.ro _ | .int _,.ref _ | .int _,.ty _=>isFalse (fun e=>nomatch e)
 | .str _,.non | .str _,.bl _ | .str _,.int _ | .str _,.tup _ | .str _,.ro _ | .str _,.ref _ | .str _,.ty _=>isFalse (fun e=>nomatch e)
 | .tup _,.non | .tup _,.bl _ | .tup _,.int _ | .tup _,.str _ | .tup _,.ro _ | .tup _,.ref _ | .tup _,.ty _=>isFalse (fun e=>nomatch e)
 | .ro _,.non | .ro _,.bl _ | .ro _,.int _ | .ro _,.str _ | .ro _,.tup _ | .ro _,.ref _ | .ro _,.ty _=>isFalse (fun e=>nomatch e)
 | .ref _,.non | .ref _,.bl _ | .ref _,.int _ | .ref _,.str _ | .ref _,.tup _ | .ref _,.ro _ | .ref _,.ty _=>isFalse (fun e=>nomatch e)
 | .ty _,.non | .ty _,.bl _ | .ty _,.int _ | .ty _,.str _ | .ty _,.tup _ | .ty _,.ro _ | .ty _,.ref _=>isFalse (fun e=>nomatch e)
noncomputable def D.decEqs:(a b:List D)->Decidable (a=b)
 | [],[]=>isTrue rfl
 | [],_::_=>isFalse (fun e=>nomatch e)
 | _::_,[]=>isFalse (fun e=>nomatch e)
 | a::r,b::t=>match D.decEq a b,D.decEqs r t with
  | isTrue h,isTrue k=>isTrue (by rw[h,k])
  | isFalse h,_=>isFalse (fun e=>h (List.cons.inj e).1)
  | _,isFalse k=>isFalse (fun e=>k (List.cons.inj e).2)
end
instance:DecidableEq D:=D.decEq
inductive O where
 | lst (xs:List D) | dct (kvs:List (D×D)) | fdc (kvs:List (D×D)) | ins (c:Nat) (fs:List (Option D))
 deriving DecidableEq
noncomputable abbrev S:=List O
noncomputable abbrev St:=List (Option D)
inductive R (α:Type) where
 | ok (a:α) (s:S) | exc (e:D) (s:S) | no
noncomputable def R.bind {α β:Type}:R α->(α->S->R β)->R β
 | .ok a s,f=>f a s
 | .exc e s,_=>.exc e s
 | .no,_=>.no
@[simp] theorem R.bind_ok {α β:Type} (a:α) (s:S) (f:α->S->R β):(R.ok a s).bind f=f a s:=rfl
@[simp] theorem R.bind_no {α β:Type} (f:α->S->R β):(R.no:R α).bind f=.no:=rfl
@[simp] theorem R.bind_exc {α β:Type} (e:D) (s:S) (f:α->S->R β):(R.exc e s:R α).bind f=.exc e s:=rfl
section
variable {α β:Type}{c:Prop} [Decidable c]
@[simp] theorem R.bind_ite (a b:R α) (f:α->S->R β):(if c then a else b).bind f=if c then a.bind f else b.bind f:=by split<;>rfl
@[simp] theorem R.ite_ok (a b:α) (s:S):(if c then R.ok a s else R.ok b s)=R.ok (if c then a else b) s:=by split<;>rfl
@[simp] theorem D.ite_bl (a b:Bool):(if c then D.bl a else D.bl b)=D.bl (if c then a else b):=by split<;>rfl
@[simp] theorem D.ite_int (a b:Int):(if c then D.int a else D.int b)=D.int (if c then a else b):=by split<;>rfl
@[simp] theorem D.ite_str (a b:T):(if c then D.str a else D.str b)=D.str (if c then a else b):=by split<;>rfl
@[simp] theorem D.ite_tup (a b:List D):(if c then D.tup a else D.tup b)=D.tup (if c then a else b):=by split<;>rfl
@[simp] theorem St.ite_some (a b:D):(if c then some a else some b)=some (if c then a else b):=by split<;>rfl
@[simp] theorem St.ite_cons (a b:Option D) (r t:St):(if c then a::r else b::t)=(if c then a else b)::(if c then r else t):=by split<;>rfl
end
noncomputable abbrev EM:=St->S->R D
noncomputable abbrev TM:=St->S->R Bool
noncomputable abbrev AM:=St->S->R (List D)
noncomputable def SZ:Nat:=16777216
@[simp] noncomputable def zD (i:Nat):EM:=fun σ s=>match σ[i]? with
 | some (some d)=>.ok d s
 | _=>.no
@[simp] noncomputable def eC (d:D):EM:=fun _ s=>.ok d s
@[simp] noncomputable def eOp (f:D->D->S->R D) (a b:EM):EM:=fun σ s=>(a σ s).bind fun x s=>(b σ s).bind fun y s=>f x y s
@[simp] noncomputable def eUn (f:D->S->R D) (a:EM):EM:=fun σ s=>(a σ s).bind fun x s=>f x s
@[simp] noncomputable def zH:AM:=fun _ s=>.ok [] s
@[simp] noncomputable def zC (a:EM) (r:AM):AM:=fun σ s=>(a σ s).bind fun x s=>(r σ s).bind fun xs s=>.ok (x::xs) s
@[simp] noncomputable def jx (a:AM):EM:=fun σ s=>(a σ s).bind fun xs s=>if xs.length <= SZ then .ok (.tup xs) s else .no
@[simp] noncomputable def alloc (o:O) (s:S):R D:=.ok (.ref s.length) (s++[o])
@[simp] noncomputable def qJ (a:AM):EM:=fun σ s=>(a σ s).bind fun xs s=>if xs.length <= SZ then alloc (.lst xs) s else .no
@[simp] noncomputable def jW (s:S) (i:Nat):Option (List D):=match s[i]? with
 | some (.lst xs)=>some xs
 | _=>none
@[simp] noncomputable def jJ:D->D->S->R D
 | .int i,.int j,s=>.ok (.int (i+j)) s
 | .str a,.str b,s=>if a.length+b.length <= SZ then .ok (.str (a++b)) s else .no
 | .tup a,.tup b,s=>if a≠[]/\a.length+b.length <= SZ then .ok (.tup (a++b)) s else .no
 | .ref i,.ref j,s=>match s[i]?,s[j]? with
  | some (.lst xs),some (.lst ys)=>if xs.length+ys.length <= SZ then alloc (.lst (xs++ys)) s else .no
  | _,_=>.no
 | _,_,_=>.no
@[simp] noncomputable def zFc:D->D->S->R D
 | .int i,.int j,s=>.ok (.int (i - j)) s
 | _,_,_=>.no
noncomputable def yS (i:Int):Bool:=decide (i.natAbs < 18446744073709551616)
@[simp] noncomputable def QA:D->D->S->R D
 | .int i,.int j,s=>if yS i || yS j then .ok (.int (i * j)) s else .no
 | .str a,.int n,s=>if 0 <= n/\n.natAbs <= 1000000/\a.length * n.natAbs <= 1000000 then .ok (.str (List.replicate n.toNat a).flatten) s else .no
 | .ref p,.int n,s=>match jW s p with
  | some xs=>if n.natAbs <= 1000/\xs.length * n.natAbs <= 1000000 then alloc (.lst (List.replicate n.toNat xs).flatten) s else .no
  | none=>.no
 | _,_,_=>.no
@[simp] noncomputable def yF:D->D->S->R D
 | .int i,.int j,s=>if 0 < j/\j.natAbs < 1073741824 then .ok (.int (i / j)) s else .no
 | _,_,_=>.no
@[simp] noncomputable def jr:D->D->S->R D
 | .int i,.int j,s=>if 0 < j then .ok (.int (i % j)) s else .no
 | _,_,_=>.no
noncomputable abbrev CM:=D->D->S->R Bool
@[simp] noncomputable def cLt:CM
 | .int i,.int j,s=>.ok (decide (i < j)) s
 | .str a,.str b,s=>.ok (decide (a < b)) s
 | _,_,_=>.no
@[simp] noncomputable def cLe:CM
 | .int i,.int j,s=>.ok (decide (i <= j)) s
 | .str a,.str b,s=>.ok (!decide (b < a)) s
 | _,_,_=>.no
@[simp] noncomputable def cGt:CM
 | .int i,.int j,s=>.ok (decide (j < i)) s
 | _,_,_=>.no
inductive P where
 | non | bl (b:Bool) | int (i:Int) | str (x:T) | tup (ps:List P) | lst (ps:List P)
mutual
noncomputable def P.eqv:P->P->Bool
 | .non,.non=>true
 | .bl a,.bl b=>a == b
 | .int a,.int b=>a == b
 | .bl a,.int b=>(if a then 1 else 0) == b
 | .int a,.bl b=>a == (if b then 1 else 0)
 | .str a,.str b=>a == b
 | .tup a,.tup b=>P.eqvs a b
 | .lst a,.lst b=>P.eqvs a b
 | _,_=>false
noncomputable def P.eqvs:List P->List P->Bool
 | [],[]=>true
 | a::r,b::t=>P.eqv a b && P.eqvs r t
 | _,_=>false
end
mutual
noncomputable def P.dep:P->Nat
 | .tup ps=>P.deps ps+1
 | .lst ps=>P.deps ps+1
 | _=>0
noncomputable def P.deps:List P->Nat
 | []=>0
 | p::ps=>max (P.dep p) (P.deps ps)
end
noncomputable def yV (g:Nat->Option P):D->Option P
 | .non=>some .non
 | .bl b=>some (.bl b)
 | .int i=>some (.int i)
 | .str x=>some (.str x)
 | .tup ds=>(all ds).map .tup
 | .ro ds=>(all ds).map .lst
 | .ref i=>g i
 | .ty _=>none
where all:List D->Option (List P)
 | []=>some []
 | d::ds=>match yV g d,all ds with
  | some p,some ps=>some (p::ps)
  | _,_=>none
noncomputable def toP:Nat->S->D->Option P
 | 0,_=>yV fun _=>none
 | n+1,s=>yV fun i=>match jW s i with
  | some xs=>(yV.all (fun j=>toP n s (.ref j)) xs).map .lst
  | none=>none
noncomputable def zCe:Nat:=9
noncomputable def QE (k:D) (kvs:List (D×D)):Option D:=kvs.lookup k
noncomputable def dEq (s:S) (ws:List (D×D)):List (D×D)->Option Bool
 | []=>some true
 | (k,v)::r=>match QE k ws with
  | none=>some false
  | some w=>match toP 8 s v,toP 8 s w,dEq s ws r with
   | some p,some q,some b=>if P.dep p <= 64/\P.dep q <= 64 then some (P.eqv p q && b) else none
   | _,_,_=>none
noncomputable def zHc (x y:D) (s:S):R Bool:=match x,y with
 | .ref i,.ref j=>match s[i]?,s[j]? with
  | some (.dct ks),some (.dct ws)=>if ks.length=ws.length then (match dEq s ws ks with | some b=>.ok b s | none=>.no) else .ok false s
  | _,_=>.no
 | _,_=>.no
@[simp] noncomputable def eqD (x y:D) (s:S):R Bool:=match x,y with
 | .str a,.str b=>.ok (decide (a=b)) s
 | .int a,.int b=>.ok (decide (a=b)) s
 | .bl a,.bl b=>.ok (decide (a=b)) s
 | .non,.non=>.ok true s
 | x,y=>match toP zCe s x,toP zCe s y with
  | some p,some q=>if P.dep p <= 64/\P.dep q <= 64 then .ok (P.eqv p q) s else .no
  | _,_=>zHc x y s
@[simp] noncomputable def cEq:CM:=fun x y s=>eqD x y s
@[simp] noncomputable def cNe:CM:=fun x y s=>(eqD x y s).bind fun b s=>.ok (!b) s
noncomputable def zDF (a:T):T->Bool
 | []=>a.isEmpty
 | c::r=>a.isPrefixOf (c::r) || zDF a r
noncomputable def flat:D->Bool
 | .non=>true
 | .bl _=>true
 | .int _=>true
 | .str _=>true
 | _=>false
noncomputable def eqF:D->D->Bool
 | .non,.non=>true
 | .bl a,.bl b=>a == b
 | .int a,.int b=>a == b
 | .bl a,.int b=>(if a then 1 else 0) == b
 | .int a,.bl b=>a == (if b then 1 else 0)
 | .str a,.str b=>a == b
 | _,_=>false
noncomputable def JX (x:D) (xs:List D):Bool:=xs.any fun y=>eqF y x
noncomputable def ye:D->Bool
 | .int _=>true
 | .str _=>true
 | _=>false
@[simp] noncomputable def inD (x y:D) (s:S):R Bool:=match y with
 | .str b=>match x with
  | .str a=>.ok (zDF a b) s
  | _=>.no
 | .tup ys=>if flat x && ys.all flat then .ok (JX x ys) s else .no
 | .ro ys=>if flat x && ys.all flat then .ok (JX x ys) s else .no
 | .ref i=>match s[i]? with
  | some (.lst ys)=>if flat x && ys.all flat then .ok (JX x ys) s else .no
  | some (.dct kvs)=>if ye x then .ok (QE x kvs).isSome s else .no
  | some (.fdc kvs)=>if ye x then .ok (QE x kvs).isSome s else .no
  | _=>.no
 | _=>.no
@[simp] noncomputable def cIn:CM:=fun x y s=>inD x y s
@[simp] noncomputable def zFO:CM:=fun x y s=>(inD x y s).bind fun b s=>.ok (!b) s
@[simp] noncomputable def zGd (c:CM) (a b:EM):EM:=fun σ s=>(a σ s).bind fun x s=>(b σ s).bind fun y s=>(c x y s).bind fun k s=>.ok (.bl k) s
@[simp] noncomputable def zw (c:CM) (a b:EM):TM:=fun σ s=>(a σ s).bind fun x s=>(b σ s).bind fun y s=>c x y s
@[simp] noncomputable def zKu (c d:CM) (a b e:EM):EM:=fun σ s=>(a σ s).bind fun x s=>(b σ s).bind fun y s=>(c x y s).bind fun k s =>
 if k then (e σ s).bind fun z s=>(d y z s).bind fun k s=>.ok (.bl k) s else .ok (.bl false) s
@[simp] noncomputable def zBh (c d:CM) (a b e:EM):TM:=fun σ s=>(a σ s).bind fun x s=>(b σ s).bind fun y s=>(c x y s).bind fun k s =>
 if k then (e σ s).bind fun z s=>d y z s else .ok false s
@[simp] noncomputable def zMS:D->Bool
 | .non=>true
 | _=>false
@[simp] noncomputable def zFR (a:EM):TM:=fun σ s=>(a σ s).bind fun x s=>.ok (zMS x) s
@[simp] noncomputable def zDB (a:EM):TM:=fun σ s=>(a σ s).bind fun x s=>.ok (!zMS x) s
@[simp] noncomputable def zC4:D->S->R Bool
 | .non,s=>.ok false s
 | .bl b,s=>.ok b s
 | .int i,s=>.ok (decide (i≠0)) s
 | .str x,s=>if x.length <= SZ then .ok (!x.isEmpty) s else .no
 | .tup ds,s=>.ok (!ds.isEmpty) s
 | .ro ds,s=>.ok (!ds.isEmpty) s
 | .ref i,s=>match s[i]? with
  | some (.lst xs)=>.ok (!xs.isEmpty) s
  | some (.dct kvs)=>.ok (!kvs.isEmpty) s
  | _=>.no
 | .ty _,_=>.no
@[simp] noncomputable def ZH (a:EM):TM:=fun σ s=>(a σ s).bind zC4
@[simp] noncomputable def ZX (a:TM):TM:=fun σ s=>(a σ s).bind fun b s=>.ok (!b) s
@[simp] noncomputable def zEx (a b:TM):TM:=fun σ s=>(a σ s).bind fun k s=>if k then b σ s else .ok false s
@[simp] noncomputable def tOr (a b:TM):TM:=fun σ s=>(a σ s).bind fun k s=>if k then .ok true s else b σ s
@[simp] noncomputable def asB:D->S->R Bool
 | .bl b,s=>.ok b s
 | _,_=>.no
@[simp] noncomputable def zKw (a b:EM):EM:=fun σ s=>(a σ s).bind fun x s=>(asB x s).bind fun k s=>if k then b σ s else .ok (.bl false) s
noncomputable def ixN (n:Nat) (i:Int):Option Nat:=if 0 <= i then (if i < n then some i.toNat else none) else if -(n:Int) <= i then some (i+n).toNat else none
noncomputable def atI {α:Type} (xs:List α) (i:Int):Option α:=(ixN xs.length i).bind fun j=>xs[j]?
@[simp] noncomputable def zN:D->D->S->R D
 | .str x,.int i,s=>if x.length <= SZ then (match atI x i with | some c=>.ok (.str [c]) s | none=>.no) else .no
 | .tup xs,.int i,s=>match atI xs i with | some d=>.ok d s | none=>.no
 | .ro xs,.int i,s=>match atI xs i with | some d=>.ok d s | none=>.no
 | .ref p,k,s=>match s[p]? with
  | some (.lst xs)=>(match k with | .int i=>(match atI xs i with | some d=>.ok d s | none=>.no) | _=>.no)
  | some (.dct kvs)=>if ye k then (match QE k kvs with | some d=>.ok d s | none=>.no) else .no
  | some (.fdc kvs)=>if ye k then (match QE k kvs with | some d=>.ok d s | none=>.no) else .no
  | _=>.no
 | _,_,_=>.no
noncomputable def sIx (n d:Nat):Option Int->Nat
 | none=>d
 | some v=>(if v < 0 then max (v+(n:Int)) 0 else min v (n:Int)).toNat
noncomputable def cut {α:Type} (xs:List α) (lo hi:Option Int):List α:=(xs.drop (sIx xs.length 0 lo)).take (sIx xs.length xs.length hi - sIx xs.length 0 lo)
noncomputable abbrev OM:=St->S->R (Option Int)
@[simp] noncomputable def JZ:OM:=fun _ s=>.ok none s
@[simp] noncomputable def yz (a:EM):OM:=fun σ s=>(a σ s).bind fun x s=>match x with | .int i=>.ok (some i) s | _=>.no
@[simp] noncomputable def slD (x:D) (lo hi:Option Int) (s:S):R D:=match x with
 | .str z=>if z.length <= SZ then .ok (.str (cut z lo hi)) s else .no
 | .tup xs=>if sIx xs.length 0 lo=0/\sIx xs.length xs.length hi=xs.length then .no else .ok (.tup (cut xs lo hi)) s
 | .ro xs=>alloc (.lst (cut xs lo hi)) s
 | .ref p=>match jW s p with
  | some xs=>alloc (.lst (cut xs lo hi)) s
  | none=>.no
 | _=>.no
@[simp] noncomputable def eSl (a:EM) (lo hi:OM):EM:=fun σ s=>(a σ s).bind fun x s=>(lo σ s).bind fun l s=>(hi σ s).bind fun h s=>slD x l h s
@[simp] noncomputable def zKa (x:D) (s:S):R D:=match x with
 | .str z=>if z.length <= SZ then .ok (.str z.reverse) s else .no
 | .ref p=>match jW s p with
  | some xs=>alloc (.lst xs.reverse) s
  | none=>.no
 | _=>.no
noncomputable abbrev F:=List D->S->R D
@[simp] noncomputable def zR (f:F) (a:AM):EM:=fun σ s=>(a σ s).bind fun xs s=>f xs s
@[simp] noncomputable def zBM (k:Kd) (x:D) (s:S):Bool:=match x with
 | .str _=>(match k with | .str=>true | _=>false)
 | .ro _=>(match k with | .list=>true | _=>false)
 | .ref p=>match s[p]? with
  | some (.lst _)=>(match k with | .list=>true | _=>false)
  | some (.dct _)=>(match k with | .dict=>true | _=>false)
  | _=>false
 | _=>false
@[simp] noncomputable def eM (k:Kd) (f:D->F) (o:EM) (a:AM):EM:=fun σ s=>(o σ s).bind fun x s=>if zBM k x s then (a σ s).bind fun xs s=>f x xs s else .no
@[simp] noncomputable def q8 (c:Nat) (f:F) (o:EM) (a:AM):EM:=fun σ s=>(o σ s).bind fun x s=>match x with
 | .ref p=>(match s[p]? with
  | some (.ins c' _)=>if c'=c then (a σ s).bind fun xs s=>f (x::xs) s else .no
  | _=>.no)
 | _=>.no
@[simp] noncomputable def zGt (c:Nat) (n:Nat) (f:F) (a:AM):EM:=fun σ s=>(a σ s).bind fun xs s=>(f (.ref s.length::xs) (s++[.ins c (List.replicate n none)])).bind fun d s'=>if d=.non then .ok (.ref s.length) s' else .no
@[simp] noncomputable def ya (c:Nat) (i:Nat) (o:EM):EM:=fun σ s=>(o σ s).bind fun x s=>match x with
 | .ref p=>(match s[p]? with
  | some (.ins c' fs)=>if c'=c then (match fs[i]? with | some (some d)=>.ok d s | _=>.no) else .no
  | _=>.no)
 | _=>.no
@[simp] noncomputable def Zg:F
 | [.str x],s=>if x.length <= SZ then .ok (.int x.length) s else .no
 | [.tup xs],s=>.ok (.int xs.length) s
 | [.ro xs],s=>.ok (.int xs.length) s
 | [.ref p],s=>match s[p]? with
  | some (.lst xs)=>.ok (.int xs.length) s
  | some (.dct kvs)=>.ok (.int kvs.length) s
  | _=>.no
 | _,_=>.no
@[simp] noncomputable def QK (n:Kd) (x:D) (s:S):R Bool:=match x with
 | .non=>.ok false s
 | .bl _=>.ok (match n with | .bool=>true | .int=>true | _=>false) s
 | .int _=>.ok (match n with | .int=>true | _=>false) s
 | .str _=>.ok (match n with | .str=>true | _=>false) s
 | .tup _=>.ok (match n with | .tuple=>true | _=>false) s
 | .ro _=>.ok (match n with | .list=>true | _=>false) s
 | .ty _=>.no
 | .ref p=>match s[p]? with
  | some (.lst _)=>.ok (match n with | .list=>true | _=>false) s
  | some (.dct _)=>.ok (match n with | .dict=>true | _=>false) s
  | _=>.no
@[simp] noncomputable def Qi:F
 | [x,.ty n],s=>(QK n x s).bind fun b s=>.ok (.bl b) s
 | _,_=>.no
noncomputable def zC3:List D->Option (List Bool)
 | []=>some []
 | .bl b::r=>(zC3 r).map (b :: ·)
 | _::_=>none
noncomputable def zBY:List D->Option (List T)
 | []=>some []
 | .str x::r=>(zBY r).map (x :: ·)
 | _::_=>none
noncomputable def zEi (xs:List D) (s:S):R D:=match zC3 xs with
 | some bs=>.ok (.bl (bs.all id)) s
 | none=>.no
@[simp] noncomputable def zII (k:List D->S->R D):F
 | [.tup xs],s=>k xs s
 | [.ro xs],s=>k xs s
 | [.ref p],s=>match jW s p with
  | some xs=>k xs s
  | none=>.no
 | _,_=>.no
noncomputable def qD (x:T):List T->T
 | []=>[]
 | [y]=>y
 | y::r=>y++x++qD x r
noncomputable def JB (x:T) (xs:List D) (s:S):R D:=match zBY xs with
 | some ys=>if (ys.map List.length).sum+ys.length * x.length <= SZ then .ok (.str (qD x ys)) s else .no
 | none=>.no
@[simp] noncomputable def zAM:D->F
 | .str x,xs,s=>zII (JB x) xs s
 | _,_,_=>.no
noncomputable def jH (c:Nat):T->List T
 | []=>[[]]
 | d::r=>if d=c then []::jH c r else match jH c r with
  | []=>[[d]]
  | p::ps=>(d::p)::ps
@[simp] noncomputable def zCI:D->F
 | .str x,[.str [c]],s=>if x.length+2 <= SZ then alloc (.lst ((jH c x).map .str)) s else .no
 | _,_,_=>.no
@[simp] noncomputable def zA9:D->F
 | .str x,[.str [a],.str [b]],s=>if 2 * x.length+1 <= SZ then .ok (.str (x.map fun c=>if c=a then b else c)) s else .no
 | _,_,_=>.no
noncomputable def zD9 (c:Nat) (x:T) (i:Nat):Int:=match (x.drop i).findIdx? (· == c) with
 | some j=>((i+j:Nat):Int)
 | none=>-1
@[simp] noncomputable def zL6:D->F
 | .str x,[.str [c]],s=>if x.length <= SZ then .ok (.int (zD9 c x 0)) s else .no
 | _,_,_=>.no
noncomputable def zAg (i:Int):T:=(toString i).toList.map Char.toNat
@[simp] noncomputable def zMQ:F
 | [.int i],s=>if yS i then .ok (.str (zAg i)) s else .no
 | _,_=>.no
@[simp] noncomputable def zL1:F
 | [.tup xs],s=>alloc (.lst xs) s
 | [.ro xs],s=>alloc (.lst xs) s
 | [.ref p],s=>match s[p]? with
  | some (.lst xs)=>alloc (.lst xs) s
  | some (.dct kvs)=>alloc (.lst (kvs.map (·.1))) s
  | _=>.no
 | _,_=>.no
@[simp] noncomputable def zMr:F
 | [.ref p],s=>match s[p]? with
  | some (.dct kvs)=>alloc (.dct kvs) s
  | _=>.no
 | _,_=>.no
@[simp] noncomputable def Qk:F
 | [.tup xs],s=>.ok (.tup xs) s
 | [.ref p],s=>match jW s p with
  | some xs=>.ok (.tup xs) s
  | none=>.no
 | _,_=>.no
@[simp] noncomputable def JU:D->F
 | .ref p,[y],s=>match s[p]? with
  | some (.lst xs)=>if xs.length < SZ then .ok .non (s.set p (.lst (xs++[y]))) else .no
  | _=>.no
 | _,_,_=>.no
@[simp] noncomputable def zDL:D->F
 | .ref p,[],s=>match s[p]? with
  | some (.lst xs)=>(match xs.getLast? with | some y=>.ok y (s.set p (.lst xs.dropLast)) | none=>.no)
  | _=>.no
 | _,_,_=>.no
noncomputable def Qh (k v:D) (kvs:List (D×D)):List (D×D):=if (kvs.any fun p=>decide (p.1=k))=true then kvs.map fun p=>if p.1=k then (p.1,v) else p else kvs++[(k,v)]
noncomputable def zNV:List D->Option (List (D×D))
 | []=>some []
 | .tup [k,v]::r=>if ye k then (zNV r).map ((k,v) :: ·) else none
 | _::_=>none
noncomputable def zTr (ps:List (D×D)):List (D×D):=ps.foldl (fun a p=>Qh p.1 p.2 a) []
@[simp] noncomputable def zUU:F
 | [.ref p],s=>match s[p]? with
  | some (.lst xs)=>(match zNV xs with | some ps=>if ps.length <= 1000 then alloc (.dct (zTr ps)) s else .no | none=>.no)
  | _=>.no
 | _,_=>.no
@[simp] noncomputable def zHD:EM:=fun _ s=>alloc (.dct []) s
noncomputable def zCF:List D->List (D×D)->Option (List (D×D))
 | [],acc=>some acc
 | k::v::r,acc=>if ye k then zCF r (Qh k v acc) else none
 | _,_=>none
@[simp] noncomputable def zMC (a:AM):EM:=fun σ s=>(a σ (s++[.dct []])).bind fun xs s'=>match s'[s.length]? with
 | some (.dct [])=>(match zCF xs [] with
  | some kvs=>if kvs.length <= 15/\xs.length <= 30 then .ok (.ref s.length) (s'.set s.length (.dct kvs)) else .no
  | none=>.no)
 | _=>.no
noncomputable def j6:List T->List T
 | []=>[]
 | x::r=>insT' x (j6 r)
where insT' (x:T):List T->List T
 | []=>[x]
 | y::r=>if y < x then y::insT' x r else x::y::r
noncomputable def zFn (xs:List D) (s:S):R D:=match zBY xs with
 | some ys=>if ys.length < 64 then alloc (.lst ((j6 ys).map .str)) s else .no
 | none=>.no
@[simp] noncomputable def zA3:F
 | [.ref p],s=>match jW s p with
  | some xs=>zFn xs s
  | none=>.no
 | _,_=>.no
noncomputable abbrev Gd:=List (Nat×O)
noncomputable def jT (g:Gd) (s:S):Bool:=g.all fun p=>decide (s[p.1]? = some p.2)
noncomputable abbrev IM:=St->S->R (List D×Gd)
@[simp] noncomputable def itD:D->S->R (List D×Gd)
 | .str x,s=>if x.length <= SZ then .ok (x.map fun c=>.str [c],[]) s else .no
 | .tup ds,s=>.ok (ds,[]) s
 | .ro ds,s=>.ok (ds,[]) s
 | .ref i,s=>match s[i]? with
  | some (.lst xs)=>.ok (xs,[(i,.lst xs)]) s
  | _=>.no
 | _,_=>.no
@[simp] noncomputable def iE (a:EM):IM:=fun σ s=>(a σ s).bind itD
noncomputable def y0 (lo hi:Int):List D:=(List.range (hi - lo).toNat).map fun (k:Nat)=>.int (lo+k)
@[simp] noncomputable def qe (a:EM):IM:=fun σ s=>(a σ s).bind fun x s=>match x with
 | .int j=>if j.natAbs < 4611686018427387904 then .ok (y0 0 j,[]) s else .no
 | _=>.no
noncomputable def zDt:List D->List D->List D
 | a::r,b::t=>.tup [a,b]::zDt r t
 | _,_=>[]
@[simp] noncomputable def zAR:F
 | [.tup xs,.tup ys],s=>if 0 < xs.length/\xs.length=ys.length then alloc (.lst (zDt xs ys)) s else if xs.length=0/\ys.length=0 then alloc (.lst []) s else .no
 | _,_=>.no
@[simp] noncomputable def zOO (a:EM):IM:=fun σ s=>(a σ s).bind fun x s=>match x with
 | .tup ds=>.ok (ds.reverse,[]) s
 | _=>.no
noncomputable abbrev GM:=D->St->Option St
@[simp] noncomputable def jl (i:Nat):GM:=fun d σ=>some (σ.set i (some d))
noncomputable abbrev GMs:=List D->St->Option St
@[simp] noncomputable def zUW (g:GM) (r:GMs):GMs:=fun ds σ=>match ds with
 | []=>none
 | d::ds=>match g d σ with
  | some σ'=>r ds σ'
  | none=>none
noncomputable def Qe (g:Gd) (f:D->S->R (Option D)):List D->S->R (List D)
 | [],s=>.ok [] s
 | x::xs,s=>(f x s).bind fun o s=>if jT g s then (Qe g f xs s).bind fun ys s=>.ok (match o with | some y=>y::ys | none=>ys) s else .no
@[simp] noncomputable def Qp:TM:=fun _ s=>.ok true s
@[simp] noncomputable def Zh (n:Nat) (tg:GM) (c:TM) (e:EM) (σ:St):D->S->R (Option D):=fun x s=>match tg x (σ++List.replicate n none) with
 | none=>.no
 | some σ'=>(c σ' s).bind fun b s=>if b then (e σ' s).bind fun d s=>.ok (some d) s else .ok none s
noncomputable def Zp (n:Nat) (it:IM) (tg:GM) (c:TM) (e:EM):AM:=fun σ s=>(it σ s).bind fun p s=>if p.1.length <= SZ/\jT p.2 s=true then Qe p.2 (Zh n tg c e σ) p.1 s else .no
@[simp] noncomputable def zHd (n:Nat) (it:IM) (tg:GM) (c:TM) (e:EM):EM:=fun σ s=>(Zp n it tg c e σ s).bind fun ys s=>alloc (.lst ys) s
@[simp] noncomputable def zAn (k:List D->S->R D) (n:Nat) (it:IM) (tg:GM) (c:TM) (e:EM):EM:=fun σ s=>(Zp n it tg c e σ s).bind k
inductive RS where
 | nx (σ:St) (s:S) | rt (d:D) (s:S) | bk (σ:St) (s:S) | ct (σ:St) (s:S) | exc (e:D) (σ:St) (s:S) | no
noncomputable abbrev SM:=St->S->RS
noncomputable def R.stm {α:Type} (r:R α) (σ:St) (f:α->S->RS):RS:=match r with
 | .ok a s=>f a s
 | .exc e s=>.exc e σ s
 | .no=>.no
@[simp] theorem R.stm_ok {α:Type} (a:α) (s:S) (σ:St) (f:α->S->RS):(R.ok a s).stm σ f=f a s:=rfl
@[simp] theorem R.stm_no {α:Type} (σ:St) (f:α->S->RS):(R.no:R α).stm σ f=.no:=rfl
noncomputable def RS.then (r:RS) (f:SM):RS:=match r with
 | .nx σ s=>f σ s
 | r=>r
@[simp] theorem RS.then_nx (σ:St) (s:S) (f:SM):(RS.nx σ s).then f=f σ s:=rfl
@[simp] theorem RS.then_rt (d:D) (s:S) (f:SM):(RS.rt d s).then f=.rt d s:=rfl
@[simp] theorem RS.then_no (f:SM):RS.no.then f=.no:=rfl
@[simp] theorem RS.then_bk (σ:St) (s:S) (f:SM):(RS.bk σ s).then f=.bk σ s:=rfl
section
variable {α:Type}{c:Prop} [Decidable c]
@[simp] theorem R.stm_ite (a b:R α) (σ:St) (f:α->S->RS):(if c then a else b).stm σ f=if c then a.stm σ f else b.stm σ f:=by split<;>rfl
@[simp] theorem RS.ite_nx (a b:St) (s:S):(if c then RS.nx a s else RS.nx b s)=RS.nx (if c then a else b) s:=by split<;>rfl
@[simp] theorem RS.ite_rt (a b:D) (s:S):(if c then RS.rt a s else RS.rt b s)=RS.rt (if c then a else b) s:=by split<;>rfl
@[simp] theorem RS.then_ite (a b:RS) (f:SM):(if c then a else b).then f=if c then a.then f else b.then f:=by split<;>rfl
end
@[simp] theorem RS.then_exc (e:D) (σ:St) (s:S) (f:SM):(RS.exc e σ s).then f=.exc e σ s:=rfl
@[simp] theorem R.stm_exc {α:Type} (e:D) (s:S) (σ:St) (f:α->S->RS):(R.exc e s:R α).stm σ f=.exc e σ s:=rfl
@[simp] theorem RS.then_ct (σ:St) (s:S) (f:SM):(RS.ct σ s).then f=.ct σ s:=rfl
@[simp] noncomputable def jq:SM:=fun σ s=>.nx σ s
@[simp] noncomputable def zAJ:SM:=fun _ _=>.no
@[simp] noncomputable def zK (a b:SM):SM:=fun σ s=>(a σ s).then b
@[simp] noncomputable def qc (e:EM):SM:=fun σ s=>(e σ s).stm σ fun _ s=>.nx σ s
@[simp] noncomputable def jN (e:EM):SM:=fun σ s=>(e σ s).stm σ fun d s=>.rt d s
@[simp] noncomputable def jD (i:Nat) (e:EM):SM:=fun σ s=>(e σ s).stm σ fun d s=>.nx (σ.set i (some d)) s
@[simp] noncomputable def zJn:D->D->S->R D
 | .int i,.int j,s=>.ok (.int (i+j)) s
 | .str a,.str b,s=>if a.length+b.length <= SZ then .ok (.str (a++b)) s else .no
 | _,_,_=>.no
@[simp] noncomputable def zCL (c:Nat) (i:Nat) (x y:D) (s:S):R Unit:=match x with
 | .ref p=>(match s[p]? with
  | some (.ins c' fs)=>if c'=c then .ok () (s.set p (.ins c (fs.set i (some y)))) else .no
  | _=>.no)
 | _=>.no
@[simp] noncomputable def zBN (c:Nat) (i:Nat) (o e:EM):SM:=fun σ s=>(e σ s).stm σ fun y s=>(o σ s).stm σ fun x s=>(zCL c i x y s).stm σ fun _ s=>.nx σ s
@[simp] noncomputable def zFA (c:Nat) (i:Nat) (x:D) (s:S):R D:=match x with
 | .ref p=>(match s[p]? with
  | some (.ins c' fs)=>if c'=c then (match fs[i]? with | some (some d)=>.ok d s | _=>.no) else .no
  | _=>.no)
 | _=>.no
@[simp] noncomputable def zBD (f:D->D->S->R D) (c:Nat) (i:Nat) (o e:EM):SM:=fun σ s=>(o σ s).stm σ fun x s=>(zFA c i x s).stm σ fun v s=>(e σ s).stm σ fun y s=>(f v y s).stm σ fun z s=>(zCL c i x z s).stm σ fun _ s=>.nx σ s
@[simp] noncomputable def zAq (x k y:D) (s:S):R Unit:=match x with
 | .ref p=>(match s[p]? with
  | some (.lst xs)=>(match k with
   | .int i=>(match ixN xs.length i with | some j=>.ok () (s.set p (.lst (xs.set j y))) | none=>.no)
   | _=>.no)
  | some (.dct kvs)=>if ye k && decide (kvs.length < SZ) then .ok () (s.set p (.dct (Qh k y kvs))) else .no
  | _=>.no)
 | _=>.no
@[simp] noncomputable def zEE (o k e:EM):SM:=fun σ s=>(e σ s).stm σ fun y s=>(o σ s).stm σ fun x s=>(k σ s).stm σ fun k s=>(zAq x k y s).stm σ fun _ s=>.nx σ s
@[simp] noncomputable def sIf (c:TM) (a b:SM):SM:=fun σ s=>(c σ s).stm σ fun k s=>if k then a σ s else b σ s
noncomputable def Qv (g:Gd) (f:D->SM):List D->SM
 | [],σ,s=>.nx σ s
 | x::xs,σ,s=>match f x σ s with
  | .nx σ s=>if jT g s then Qv g f xs σ s else .no
  | .ct σ s=>if jT g s then Qv g f xs σ s else .no
  | .bk σ s=>.nx σ s
  | r=>r
@[simp] noncomputable def zAB (tg:GM) (b:SM):D->SM:=fun x σ s=>match tg x σ with
 | some σ'=>b σ' s
 | none=>.no
@[simp] noncomputable def zAE (it:IM) (tg:GM) (b:SM):SM:=fun σ s=>(it σ s).stm σ fun p s=>if jT p.2 s=true then Qv p.2 (zAB tg b) p.1 σ s else .no
noncomputable def qQ:Nat->TM->SM->SM
 | 0,_,_,_,_=>.no
 | n+1,c,b,σ,s=>(c σ s).stm σ fun k s=>if k then (match b σ s with
  | .nx σ s=>qQ n c b σ s
  | .ct σ s=>qQ n c b σ s
  | .bk σ s=>.nx σ s
  | r=>r) else .nx σ s
noncomputable def zEv:Nat:=1000000000000
@[simp] noncomputable def zDg (c:TM) (b:SM):SM:=fun σ s=>qQ zEv c b σ s
noncomputable def RS.out (r:RS):R D:=match r with
 | .rt d s=>.ok d s
 | .nx _ s=>.ok .non s
 | .exc e _ s=>.exc e s
 | _=>.no
@[simp] theorem RS.out_rt (d:D) (s:S):(RS.rt d s).out=.ok d s:=rfl
@[simp] theorem RS.out_nx (σ:St) (s:S):(RS.nx σ s).out=.ok .non s:=rfl
@[simp] theorem RS.out_no:RS.no.out=.no:=rfl
@[simp] theorem RS.out_exc (e:D) (σ:St) (s:S):(RS.exc e σ s).out=.exc e s:=rfl
@[simp] theorem RS.out_ite {c:Prop} [Decidable c] (a b:RS):(if c then a else b).out=if c then a.out else b.out:=by split<;>rfl
@[simp] noncomputable def fn (n:Nat) (b:SM):F:=fun xs s=>(b (xs.map some++List.replicate (n - xs.length) none) s).out
noncomputable def D.cl (n:Nat):D->Bool
 | .ref i=>decide (i < n)
 | .tup ds=>all ds
 | .ro ds=>all ds
 | _=>true
where all:List D->Bool
 | []=>true
 | d::ds=>D.cl n d && all ds
noncomputable def O.cl (n:Nat):O->Bool
 | .lst xs=>D.cl.all n xs
 | .dct kvs=>kvs.all fun p=>D.cl n p.1 && D.cl n p.2
 | .fdc kvs=>kvs.all fun p=>D.cl n p.1 && D.cl n p.2
 | .ins _ fs=>fs.all fun o=>match o with | some d=>D.cl n d | none=>true
noncomputable def clS (n:Nat) (s:S):Bool:=s.all (O.cl n)
noncomputable def D.ren (e:List Nat):D->D
 | .ref i=>.ref (e.getD i i)
 | .tup ds=>.tup (all ds)
 | .ro ds=>.ro (all ds)
 | d=>d
where all:List D->List D
 | []=>[]
 | d::ds=>D.ren e d::all ds
noncomputable def O.ren (e:List Nat):O->O
 | .lst xs=>.lst (D.ren.all e xs)
 | .dct kvs=>.dct (kvs.map fun p=>(D.ren e p.1,D.ren e p.2))
 | .fdc kvs=>.fdc (kvs.map fun p=>(D.ren e p.1,D.ren e p.2))
 | .ins c fs=>.ins c (fs.map (Option.map (D.ren e)))
end M
namespace M
structure Emb (n:Nat) (e:List Nat) (S' S1:S):Prop where
 len:e.length=S'.length
 nd:e.Nodup
 le:n <= S'.length
 old:∀ i,i < n->e[i]? = some i
 obj:∀ (i:Nat) o,S'[i]? = some o->∃ j,e[i]? = some j/\S1[j]? = some (O.ren e o)/\O.cl S'.length o=true
noncomputable def jL (n:Nat) (f q:F):Prop:=∀ ds S,ds.length=n->clS S.length S=true->D.cl.all S.length ds=true ->
 q ds S=.no\/∃ d S' S1 e,q ds S=.ok d S'/\f ds S=.ok (D.ren e d) S1/\Emb S.length e S' S1/\D.cl S'.length d=true
section
variable {e:List Nat}
mutual
theorem D.ren_id (h:∀ i,e.getD i i=i):∀ d:D,D.ren e d=d
 | .non=>rfl
 | .bl _=>rfl
 | .int _=>rfl
 | .str _=>rfl
 | .ty _=>rfl
 | .ref i=>by show D.ref (e.getD i i)=_;rw[h]
 | .tup ds=>by show D.tup (D.ren.all e ds)=_;rw[D.rens_id h]
 | .ro ds=>by show D.ro (D.ren.all e ds)=_;rw[D.rens_id h]
theorem D.rens_id (h:∀ i,e.getD i i=i):∀ ds:List D,D.ren.all e ds=ds
 | []=>rfl
 | d::ds=>by show D.ren e d::D.ren.all e ds=_;rw[D.ren_id h,D.rens_id h]
end
theorem O.ren_id (h:∀ i,e.getD i i=i) (o:O):O.ren e o=o:=by
 cases o with
 | lst xs=>show O.lst _=_;rw[D.rens_id h]
 | dct kvs =>
  show O.dct (kvs.map fun p=>(D.ren e p.1,D.ren e p.2))=_
  have:(fun p:D×D=>(D.ren e p.1,D.ren e p.2))=id:=by funext p;rw[D.ren_id h,D.ren_id h];rfl
  rw[this,List.map_id]
 | fdc kvs =>
  show O.fdc (kvs.map fun p=>(D.ren e p.1,D.ren e p.2))=_
  have:(fun p:D×D=>(D.ren e p.1,D.ren e p.2))=id:=by funext p;rw[D.ren_id h,D.ren_id h];rfl
  rw[this,List.map_id]
 | ins c fs =>
  show O.ins c (fs.map (Option.map (D.ren e)))=_
  have:Option.map (D.ren e)=id:=by funext o;cases o with | none=>rfl | some d=>show some _=_;rw[D.ren_id h];rfl
  rw[this,List.map_id]
theorem zGs (n i:Nat):(List.range n).getD i i=i:=by
 rw[List.getD_eq_getElem?_getD]
 by_cases h:i < n
 ·rw[List.getElem?_range h];rfl
 ·rw[List.getElem?_eq_none (by simp;omega)];rfl
end
section
variable {e:List Nat}{n:Nat}
mutual
theorem D.ren_old (h:∀ i,i < n->e[i]? = some i):∀ d:D,D.cl n d=true->D.ren e d=d
 | .non,_=>rfl
 | .bl _,_=>rfl
 | .int _,_=>rfl
 | .str _,_=>rfl
 | .ty _,_=>rfl
 | .ref i,c=>by
  have hi:i < n:=of_decide_eq_true c
  show D.ref (e.getD i i)=_
  rw[List.getD_eq_getElem?_getD,h i hi];rfl
 | .tup ds,c=>by show D.tup (D.ren.all e ds)=_;rw[D.rens_old h ds c]
 | .ro ds,c=>by show D.ro (D.ren.all e ds)=_;rw[D.rens_old h ds c]
theorem D.rens_old (h:∀ i,i < n->e[i]? = some i):∀ ds:List D,D.cl.all n ds=true->D.ren.all e ds=ds
 | [],_=>rfl
 | d::ds,c=>by
  have c':(D.cl n d && D.cl.all n ds)=true:=c
  rw[Bool.and_eq_true] at c'
  show D.ren e d::D.ren.all e ds=_
  rw[D.ren_old h d c'.1,D.rens_old h ds c'.2]
end
theorem O.ren_old (h:∀ i,i < n->e[i]? = some i) (o:O) (c:O.cl n o=true):O.ren e o=o:=by
 cases o with
 | lst xs=>show O.lst _=_;rw[D.rens_old h xs c]
 | dct kvs =>
  show O.dct (kvs.map fun p=>(D.ren e p.1,D.ren e p.2))=_
  congr 1
  conv=>rhs;rw[<- List.map_id kvs]
  refine List.map_congr_left fun p hp=>?_
  have c1:=List.all_eq_true.mp c p hp
  rw[Bool.and_eq_true] at c1
  rw[D.ren_old h _ c1.1,D.ren_old h _ c1.2];rfl
 | fdc kvs =>
  show O.fdc (kvs.map fun p=>(D.ren e p.1,D.ren e p.2))=_
  congr 1
  conv=>rhs;rw[<- List.map_id kvs]
  refine List.map_congr_left fun p hp=>?_
  have c1:=List.all_eq_true.mp c p hp
  rw[Bool.and_eq_true] at c1
  rw[D.ren_old h _ c1.1,D.ren_old h _ c1.2];rfl
 | ins cc fs =>
  show O.ins cc (fs.map (Option.map (D.ren e)))=_
  congr 1
  conv=>rhs;rw[<- List.map_id fs]
  refine List.map_congr_left fun p hp=>?_
  cases p with
  | none=>rfl
  | some d =>
   have c1:=List.all_eq_true.mp c (some d) hp
   show some _=some _
   rw[D.ren_old h d c1]
mutual
theorem D.cl_mono {m:Nat} (h:n <= m):∀ d:D,D.cl n d=true->D.cl m d=true
 | .non,_=>rfl
 | .bl _,_=>rfl
 | .int _,_=>rfl
 | .str _,_=>rfl
 | .ty _,_=>rfl
 | .ref i,c=>decide_eq_true (Nat.lt_of_lt_of_le (of_decide_eq_true c) h)
 | .tup ds,c=>D.cls_mono h ds c
 | .ro ds,c=>D.cls_mono h ds c
theorem D.cls_mono {m:Nat} (h:n <= m):∀ ds:List D,D.cl.all n ds=true->D.cl.all m ds=true
 | [],_=>rfl
 | d::ds,c=>by
  have c':(D.cl n d && D.cl.all n ds)=true:=c
  rw[Bool.and_eq_true] at c'
  show (D.cl m d && D.cl.all m ds)=true
  rw[D.cl_mono h d c'.1,D.cls_mono h ds c'.2];rfl
end
theorem O.cl_mono {m:Nat} (h:n <= m) (o:O) (c:O.cl n o=true):O.cl m o=true:=by
 cases o with
 | lst xs=>exact D.cls_mono h xs c
 | dct kvs =>
  refine List.all_eq_true.mpr fun p hp=>?_
  have c1:=List.all_eq_true.mp c p hp
  rw[Bool.and_eq_true] at c1 ⊢
  exact⟨D.cl_mono h _ c1.1,D.cl_mono h _ c1.2⟩
 | fdc kvs =>
  refine List.all_eq_true.mpr fun p hp=>?_
  have c1:=List.all_eq_true.mp c p hp
  rw[Bool.and_eq_true] at c1 ⊢
  exact⟨D.cl_mono h _ c1.1,D.cl_mono h _ c1.2⟩
 | ins cc fs =>
  refine List.all_eq_true.mpr fun p hp=>?_
  have c1:=List.all_eq_true.mp c p hp
  cases p with
  | none=>rfl
  | some d=>exact D.cl_mono h d c1
theorem zLX {S:M.S} (h:clS n S=true) {i:Nat}{o:O} (e:S[i]? = some o):O.cl n o=true:=List.all_eq_true.mp h o (List.mem_of_getElem? e)
end
theorem zOy {S S' g:M.S} (hn:S.length <= S'.length) (c:clS S'.length S'=true):Emb S.length (List.range S'.length) S' (S'++g) :=
 ⟨by simp,List.nodup_range,hn,fun i hi=>by rw[List.getElem?_range (by omega)],fun i o q=>by
  have hi:i < S'.length:=(List.getElem?_eq_some_iff.mp q).1
  exact⟨i,by rw[List.getElem?_range hi],by rw[List.getElem?_append_left hi,O.ren_id (zGs _),q],zLX c q⟩⟩
theorem zQZ {S g:M.S}{o:O}{j:Nat} (c:clS S.length S=true) (co:O.cl S.length o=true) (hj:(S++g)[j]? = some o) (hle:S.length <= j):Emb S.length (List.range S.length++[j]) (S++[o]) (S++g):=by
 have old:∀ i,i < S.length->(List.range S.length++[j])[i]? = some i:=fun i hi=>by
  rw[List.getElem?_append_left (by simpa using hi),List.getElem?_range hi]
 refine⟨by simp,?_,by simp,old,fun i ob q=>?_⟩
 ·rw[List.nodup_append]
  refine⟨List.nodup_range,by simp,fun a ha b hb=>?_⟩
  have h1:=List.mem_range.mp ha
  have h2:b=j:=by simpa using hb
  omega
 ·by_cases hi:i < S.length
  ·rw[List.getElem?_append_left hi] at q
   have cq:=zLX c q
   exact⟨i,old i hi,by rw[List.getElem?_append_left hi,O.ren_old old ob cq,q],O.cl_mono (by simp) ob cq⟩
  ·rw[List.getElem?_append_right (by omega)] at q
   have hz:i - S.length=0:=by
    cases hz:i - S.length with
    | zero=>rfl
    | succ k=>rw[hz] at q;simp at q
   rw[hz] at q
   simp at q
   subst q
   refine⟨j,?_,by rw[O.ren_old old o co,hj],O.cl_mono (by simp) o co⟩
   rw[List.getElem?_append_right (by simp;omega)]
   simp[hz]
theorem jL.pure {n:Nat}{f q:F} (h:∀ ds S,ds.length=n->clS S.length S=true->D.cl.all S.length ds=true->q ds S=.no\/∃ d g,q ds S=.ok d S/\f ds S=.ok d (S++g)/\D.cl S.length d=true):jL n f q:=fun ds S hl c ca=>by
 rcases h ds S hl c ca with e | ⟨d,g,e1,e2,e3⟩
 ·exact .inl e
 ·exact .inr ⟨d,S,S++g,List.range S.length,e1,by rw[D.ren_id (zGs _)];exact e2,zOy (Nat.le_refl _) c,e3⟩
theorem jL.new {n:Nat}{f q:F} (h:∀ ds S,ds.length=n->clS S.length S=true->D.cl.all S.length ds=true->q ds S=.no\/∃ o j g,q ds S=alloc o S/\f ds S=.ok (.ref j) (S++g)/\(S++g)[j]? = some o/\S.length <= j/\O.cl S.length o=true):jL n f q:=fun ds S hl c ca=>by
 rcases h ds S hl c ca with e | ⟨o,j,g,e1,e2,e3,e4,e5⟩
 ·exact .inl e
 ·refine .inr ⟨.ref S.length,S++[o],S++g,List.range S.length++[j],e1,?_,zQZ c e5 e3 e4,?_⟩
  ·rw[e2]
   show R.ok (D.ref j) _=R.ok (D.ref ((List.range S.length++[j]).getD S.length S.length)) _
   rw[List.getD_eq_getElem?_getD,List.getElem?_append_right (by simp)]
   simp
  ·show decide (S.length < (S++[o]).length)=true
   simp
noncomputable def chS (m:F):F:=fun ds s=>@dite (R D) (∃ d g,m ds s=.ok d (s++g)/\D.cl s.length d=true) (Classical.propDecidable _) (fun h=>.ok h.choose s) (fun _=>.no)
theorem Jc {n:Nat} (m:F):jL n m (chS m):=jL.pure fun ds S hl c ca=>by
 unfold chS
 by_cases h:∃ d g,m ds S=.ok d (S++g)/\D.cl S.length d=true
 ·obtain⟨g,e,k⟩:=h.choose_spec
  exact .inr ⟨h.choose,g,by rw[dif_pos h],e,k⟩
 ·exact .inl (by rw[dif_neg h])
theorem Jn {m:F}{ds:List D}{s g:S}{d:D} (e:m ds s=.ok d (s++g)) (k:D.cl s.length d=true):chS m ds s=.ok d s:=by
 have h:∃ d g,m ds s=.ok d (s++g)/\D.cl s.length d=true:=⟨d,g,e,k⟩
 obtain⟨g',e',_⟩:=h.choose_spec
 have e2:d=h.choose:=by
  have e3:=e.symm.trans e'
  injection e3
 unfold chS
 rw[dif_pos h,<- e2]
end M
namespace M
theorem zI1 {g:Gd}{f:D->S->R (Option D)}{s:S}{h:D->D} (hg:jT g s=true):∀ {xs:List D},(∀ x∈xs,f x s=.ok (some (h x)) s)->Qe g f xs s=.ok (xs.map h) s
 | [],_=>rfl
 | x::xs,e=>by
  show (f x s).bind _=_
  rw[e x List.mem_cons_self,R.bind_ok,if_pos hg,zI1 hg fun y hy=>e y (List.mem_cons_of_mem _ hy)]
  rfl
theorem zEo {g:Gd}{f:D->S->R (Option D)}{s:S}{p:D->Bool}{h:D->D} (hg:jT g s=true):∀ {xs:List D},(∀ x∈xs,f x s=.ok (if p x then some (h x) else none) s)->Qe g f xs s=.ok ((xs.filter p).map h) s
 | [],_=>rfl
 | x::xs,e=>by
  show (f x s).bind _=_
  rw[e x List.mem_cons_self,R.bind_ok,if_pos hg,zEo hg fun y hy=>e y (List.mem_cons_of_mem _ hy),R.bind_ok]
  cases hp:p x<;>simp[hp]
theorem zGO {n:Nat}{it:IM}{tg:GM}{e:EM}{σ:St}{s:S}{xs:List D}{g:Gd} (h:D->D) (hi:it σ s=.ok (xs,g) s) (hl:xs.length <= SZ) (hg:jT g s=true) (he:∀ x∈xs,Zh n tg Qp e σ x s=.ok (some (h x)) s):Zp n it tg Qp e σ s=.ok (xs.map h) s:=by
 unfold Zp
 rw[hi,R.bind_ok,if_pos ⟨hl,hg⟩]
 exact zI1 hg he
theorem zG7 {n:Nat}{it:IM}{tg:GM}{e:EM}{σ:St}{s:S}{lo hi:Int} (h:Nat->D) (hit:it σ s=.ok (y0 lo hi,[]) s) (hl:(hi - lo).toNat <= SZ) (he:∀ k:Nat,k < (hi - lo).toNat->Zh n tg Qp e σ (.int (lo+k)) s=.ok (some (h k)) s) :
  Zp n it tg Qp e σ s=.ok ((List.range (hi - lo).toNat).map h) s:=by
 have:=zGO (n:=n) (tg:=tg) (e:=e) (fun d=>match d with | .int i=>h (i - lo).toNat | d=>d) hit (by simpa [y0] using hl) rfl fun x hx=>by
  obtain⟨k,hk,rfl⟩:=List.mem_map.mp hx
  have e:(lo+(k:Int) - lo).toNat=k:=by omega
  rw[he k (List.mem_range.mp hk)]
  show R.ok (some (h k)) s=R.ok (some (h (lo+(k:Int) - lo).toNat)) s
  rw[e]
 rw[this]
 unfold y0
 rw[List.map_map]
 have e2:∀ k:Nat,(lo+(k:Int) - lo).toNat=k:=fun k=>by omega
 have e3:((fun d=>match d with | .int i=>h (i - lo).toNat | d=>d) ∘ fun (k:Nat)=>D.int (lo+k))=h:=by
  funext k
  show h (lo+(k:Int) - lo).toNat=h k
  rw[e2]
 rw[e3]
theorem zHY {n:Nat}{it:IM}{tg:GM}{e:EM}{σ:St}{s:S}{x:T} (h:Nat->D) (hit:it σ s=.ok (x.map fun c=>.str [c],[]) s) (hl:x.length <= SZ) (he:∀ c∈x,Zh n tg Qp e σ (.str [c]) s=.ok (some (h c)) s) :
  Zp n it tg Qp e σ s=.ok (x.map h) s:=by
 have:=zGO (n:=n) (tg:=tg) (e:=e) (fun d=>match d with | .str [c]=>h c | d=>d) hit (by simpa using hl) rfl fun y hy=>by
  obtain⟨c,hc,rfl⟩:=List.mem_map.mp hy
  exact he c hc
 rw[this,List.map_map]
 rfl
theorem zNg {α:Type} (f:α->Bool) (xs:List α):zC3 (xs.map fun x=>.bl (f x))=some (xs.map f):=by
 induction xs with
 | nil=>rfl
 | cons x xs ih=>show (zC3 (xs.map fun x=>D.bl (f x))).map _=_;rw[ih];rfl
theorem all_map {α:Type} (f:α->Bool) (xs:List α) (s:S):zEi (xs.map fun x=>.bl (f x)) s=.ok (.bl (xs.all f)) s:=by
 unfold zEi
 rw[zNg]
 simp[List.all_map]
theorem zN9 {α:Type} (xs:List α) (lo hi:Option Int):(cut xs lo hi).length <= xs.length:=by
 unfold cut
 rw[List.length_take,List.length_drop];omega
theorem zFJ {α:Type} (xs:List α) {k:Int} (h:0 <= k):cut xs none (some k)=xs.take k.toNat:=by
 unfold cut sIx
 have:¬ k < 0:=by omega
 simp only[List.drop_zero,if_neg this,Nat.sub_zero]
 by_cases hk:k <= xs.length
 ·rw[show (min k (xs.length:Int)).toNat=k.toNat by omega]
 ·rw[List.take_of_length_le (by omega),List.take_of_length_le (by omega)]
theorem zHq {α:Type} (xs:List α) {k:Int} (h:0 <= k):cut xs (some k) none=xs.drop k.toNat:=by
 unfold cut sIx
 have:¬ k < 0:=by omega
 simp only[if_neg this]
 by_cases hk:k <= xs.length
 ·rw[show (min k (xs.length:Int)).toNat=k.toNat by omega,List.take_of_length_le (by rw[List.length_drop];omega)]
 ·rw[List.drop_of_length_le (by omega),List.drop_of_length_le (by omega)];simp
theorem zIq {α:Type} (f:α->T) (xs:List α):zBY (xs.map fun x=>.str (f x))=some (xs.map f):=by
 induction xs with
 | nil=>rfl
 | cons x xs ih=>show (zBY (xs.map fun x=>D.str (f x))).map _=_;rw[ih];rfl
theorem zFP (xs:List T):zBY (xs.map .str)=some xs:=by
 have:=zIq (fun x:T=>x) xs
 rwa [List.map_id'] at this
theorem zJK (xs:List T):qD [] xs=xs.flatten:=by
 induction xs with
 | nil=>rfl
 | cons x xs ih =>
  cases xs with
  | nil=>simp[qD]
  | cons y ys=>show x++[]++qD [] (y::ys)=_;rw[ih];simp
theorem zKk {α β:Type} (f:α->β) (xs:List α):(xs.map fun x=>[f x]).flatten=xs.map f:=by
 induction xs with
 | nil=>rfl
 | cons x xs ih=>rw[List.map_cons,List.flatten_cons,ih];rfl
theorem zPD {α:Type} (f:α->Nat) (xs:List α):((xs.map fun x=>[f x]).map List.length).sum=xs.length:=by
 induction xs with
 | nil=>rfl
 | cons x xs ih=>rw[List.map_cons,List.map_cons,List.sum_cons,ih,List.length_cons];show 1+xs.length=xs.length+1;omega
theorem zIj {α:Type} (f:α->Nat) (xs:List α) (s:S) (h:xs.length <= SZ):JB [] (xs.map fun x=>.str [f x]) s=.ok (.str (xs.map f)) s:=by
 unfold JB
 rw[zIq]
 dsimp only
 rw[if_pos,zJK,zKk]
 rw[zPD]
 simpa using h
noncomputable def zAN (s:S):D->Bool
 | .str _=>false
 | .ty _=>false
 | .ref p=>(match s[p]? with | some (.lst _)=>true | some (.dct _)=>true | _=>false)
 | _=>true
theorem zFi (n:Nat):∀ ts:List T,D.cl.all n (ts.map .str)=true
 | []=>rfl
 | _::ts=>by
  show (D.cl n (.str _) && D.cl.all n (ts.map .str))=true
  rw[zFi n ts];rfl
theorem zCk (x:T):∀ ts:List T,JX (.str x) (ts.map .str)=ts.contains x
 | []=>rfl
 | t::ts=>by
  have:=zCk x ts
  unfold JX at this ⊢
  rw[List.map_cons,List.any_cons,this,List.contains_cons]
  simp[eqF,BEq.comm (a:=t)]
theorem zEk (ts:List T):(ts.map D.str).all flat=true:=by
 rw[List.all_map];exact List.all_eq_true.mpr fun _ _=>rfl
theorem zDp {α:Type}{xs:List α}{k:Int} (h0:0 <= k) (h:k < xs.length) (d:α):atI xs k=some (xs.getD k.toNat d):=by
 unfold atI ixN
 rw[if_pos h0,if_pos h]
 have hk:k.toNat < xs.length:=by omega
 simp[List.getD_eq_getElem?_getD,hk]
theorem jQ {S:M.S}{p:Nat}{o:O} (e:S[p]? = some o) (g:M.S):(S++g)[p]? = some o:=by
 rw[List.getElem?_append_left (List.getElem?_eq_some_iff.mp e).1]
 exact e
noncomputable def jU:List T:=[[111,102],[105,102],[105,115],[116,104,101,110],[101,108,115,101],[101,97,99,104],[100,111],[105,116],[98,97,99,107],[102,105,114,115,116],[114,101,115,116],[99,111,117,110,116],[115,111,114,116,101,100],[102,97,105,108],[108,105,110,101],[109,111,114,101]]
noncomputable def QG (x:T):Bool:=!decide (x < [97]) && !decide ([122] < x)
noncomputable def qb (x:T):Bool:=decide (1 <= x.length) && decide (x.length <= 8) && !(jU.contains x) && x.all fun c=>QG [c]
theorem zTL:([(.str [111,102]),(.str [105,102]),(.str [105,115]),(.str [116,104,101,110]),(.str [101,108,115,101]),(.str [101,97,99,104]),(.str [100,111]),(.str [105,116]),(.str [98,97,99,107]),(.str [102,105,114,115,116]),(.str [114,101,115,116]),(.str [99,111,117,110,116]),(.str [115,111,114,116,101,100]),(.str [102,97,105,108]),(.str [108,105,110,101]),(.str [109,111,114,101])]:List D)=jU.map .str:=rfl
theorem zKD {n:Nat}{it:IM}{tg:GM}{c:TM}{e:EM}{σ:St}{s s1:S}{xs:List D}{g:Gd} (p:D->Bool) (h:D->D) (hi:it σ s=.ok (xs,g) s1) (hl:xs.length <= SZ) (hg:jT g s1=true) (he:∀ x∈xs,Zh n tg c e σ x s1=.ok (if p x then some (h x) else none) s1):Zp n it tg c e σ s=.ok ((xs.filter p).map h) s1:=by
 unfold Zp
 rw[hi,R.bind_ok,if_pos ⟨hl,hg⟩]
 exact zEo hg he
theorem zD6 {n:Nat}{it:IM}{tg:GM}{c:TM}{e:EM}{σ:St}{s s1:S}{ts:List T}{g:Gd} (p:T->Bool) (hi:it σ s=.ok (ts.map .str,g) s1) (hl:ts.length <= SZ) (hg:jT g s1=true) (he:∀ x∈ts,Zh n tg c e σ (.str x) s1=.ok (if p x then some (.str x) else none) s1):Zp n it tg c e σ s=.ok ((ts.filter p).map .str) s1:=by
 rw[zKD (fun d=>match d with | .str y=>p y | _=>false) id hi (by simpa using hl) hg fun d hd=>by
  obtain⟨y,hy,rfl⟩:=List.mem_map.mp hd
  exact he y hy]
 rw[List.map_id,List.filter_map]
 rfl
theorem zBT (c:Nat):∀ x:T,(jH c x).length <= x.length+1
 | []=>by simp[jH]
 | d::r=>by
  have ih:=zBT c r
  unfold jH
  split
  ·simp;omega
  ·split<;>simp_all<;>omega
theorem zE5 {g:Gd}{f:D->SM} (I:Nat->St->S->Prop):∀ (xs:List D) (i:Nat) (σ:St) (s:S),I i σ s->(∀ (j:Nat) x,xs[j]? = some x->∀ σ s,I (i+j) σ s->∃ σ' s',f x σ s=.nx σ' s'/\jT g s'=true/\I (i+j+1) σ' s')->∃ σ' s',Qv g f xs σ s=.nx σ' s'/\I (i+xs.length) σ' s'
 | [],i,σ,s,h,_=>⟨σ,s,rfl,h⟩
 | x::xs,i,σ,s,h,e=>by
  obtain⟨σ1,s1,e1,hg,h1⟩:=e 0 x rfl σ s h
  obtain⟨σ2,s2,e2,h2⟩:=zE5 I xs (i+1) σ1 s1 h1 fun j y hy σ s hI=>by
   have:=e (j+1) y (by simpa using hy) σ s (by rw[show i+(j+1)=i+1+j by omega];exact hI)
   rwa [show i+(j+1)+1=i+1+j+1 by omega] at this
  refine⟨σ2,s2,?_,by rw[List.length_cons,show i+(xs.length+1)=i+1+xs.length by omega];exact h2⟩
  show (match f x σ s with | .nx σ s=>if jT g s then Qv g f xs σ s else .no | .ct σ s=>if jT g s then Qv g f xs σ s else .no | .bk σ s=>.nx σ s | r=>r)=_
  rw[e1]
  dsimp only
  rw[if_pos hg,e2]
noncomputable def yg (x:T):T:=x.map fun c=>if c=10 then 32 else c
noncomputable def zP (x:T):List T:=(jH 32 (yg x)).filter fun w=>decide (w≠[])
end M
namespace L2
open PySem PySem.Spec PyProof.Rows
noncomputable def ofT (x:M.T):Str:=⟨x.toArray⟩
theorem qC (x:M.T):(ofT x).length=x.length:=by simp[ofT,Str.length]
theorem Z5 (x:M.T):(ofT x).cps.toList=x:=by simp[ofT]
theorem zFf {x y:M.T} (h:ofT x=ofT y):x=y:=by rw[<- Z5 x,h,Z5]
theorem zLq (x y:M.T):ofT x++ofT y=ofT (x++y):=by
 show (⟨x.toArray++y.toArray⟩:Str)=_
 simp[ofT]
noncomputable abbrev okT (x:M.T):Prop:=x.all (fun c=>decide (c < 1114112))=true
theorem zFd {x y:M.T} (h:okT x) (k:okT y):okT (x++y):=by show (x++y).all _=true;rw[List.all_append,h,k];rfl
theorem zB7 {x y:M.T} (h:okT x) (k:∀ c∈y,c∈x):okT y:=List.all_eq_true.mpr fun c hc=>List.all_eq_true.mp h c (k c hc)
theorem JC:M.SZ=sizeLine:=by rw[sizeLine_eq];rfl
noncomputable def zIW (K:PySem.W.Frag) (H:Hp) (a:Addr) (xs:List V):Prop :=
 (∃ o,H a=some (.frz o (.lst xs))) \/
  ∃ (o:Obj) (its:Array Value) (n:Nat),K.lookup a=some o/\o.cls=.type "list" /\ o.dict=none/\o.data=.seq its n/\its.size <= sizeLine/\ze xs its.toList
theorem zIW.sq {K:PySem.W.Frag}{H:Hp}{a:Addr}{xs:List V} (h:zIW K H a xs):SqL K H a xs:=by
 rcases h with ⟨o,h⟩ | h
 ·exact .inl (.inr ⟨o,h⟩)
 ·exact .inr h
structure Le (H H':Hp):Prop where
 tups:∀ b xs,H b=some (.tup xs)->H' b=some (.tup xs)
 frzs:∀ b o u,H b=some (.frz o u)->H' b=some (.frz o u)
theorem Le.refl (H:Hp):Le H H:=⟨fun _ _ h=>h,fun _ _ _ h=>h⟩
theorem Le.trans {H H1 H2:Hp} (a:Le H H1) (b:Le H1 H2):Le H H2:=⟨fun c xs h=>b.tups c xs (a.tups c xs h),fun c o u h=>b.frzs c o u (a.frzs c o u h)⟩
theorem Le.new {H:Hp}{p:Addr} (h:H p=none) (o:HO):Le H (upd H p o) :=
 ⟨fun b xs q=>by rw[jZ (JD q h)];exact q,fun b o u q=>by rw[jZ (JD q h)];exact q⟩
theorem Le.put {H:Hp}{p:Addr} (h:Mut (H p)) (o:HO):Le H (upd H p o) :=
 ⟨fun b xs q=>by rw[jZ (fun z=>by subst z;rw[q] at h;exact h)];exact q,fun b o u q=>by rw[jZ (fun z=>by subst z;rw[q] at h;exact h)];exact q⟩
theorem Le.rol {K:PySem.W.Frag}{H H':Hp}{a:Addr}{xs:List V} (e:Le H H') (h:zIW K H a xs):zIW K H' a xs:=by
 rcases h with ⟨o,h⟩ | h
 ·exact .inl ⟨o,e.frzs _ _ _ h⟩
 ·exact .inr h
theorem Le.sqT {K:PySem.W.Frag}{H H':Hp}{a:Addr}{xs:List V} (e:Le H H') (h:SqT K H a xs):SqT K H' a xs:=by
 rcases h with (h | ⟨o,h⟩) | h
 ·exact .inl (.inl (e.tups _ _ h))
 ·exact .inl (.inr ⟨o,e.frzs _ _ _ h⟩)
 ·exact .inr h
noncomputable def yX:M.Kd->String
 | .str => "str" | .int => "int" | .bool => "bool" | .list => "list" | .tuple => "tuple" | .dict => "dict"
noncomputable def zS (K:PySem.W.Frag) (ρ:List Addr) (H:Hp):M.D->V->Prop
 | .non,v=>v=.non
 | .bl b,v=>v=.bl b
 | .int i,v=>v=.int i
 | .str x,v=>v=.str (ofT x)/\okT x
 | .ty n,v=>v=.ty (yX n)
 | .ref i,v=>∃ a,v=.ref a/\ρ[i]? = some a
 | .tup ds,v=>∃ a xs,v=.ref a/\SqT K H a xs/\all ds xs
 | .ro ds,v=>∃ a xs,v=.ref a/\zIW K H a xs/\all ds xs
where all:List M.D->List V->Prop
 | [],xs=>xs=[]
 | d::ds,xs=>∃ y ys,xs=y::ys/\zS K ρ H d y/\all ds ys
noncomputable abbrev zT (K:PySem.W.Frag) (ρ:List Addr) (H:Hp):List M.D->List V->Prop:=zS.all K ρ H
theorem zCC {ρ ρ':List Addr} (h:ρ <+: ρ') {i:Nat}{a:Addr} (e:ρ[i]? = some a):ρ'[i]? = some a:=by
 obtain⟨t,rfl⟩:=h
 rw[List.getElem?_append_left (List.getElem?_eq_some_iff.mp e).1]
 exact e
section
variable {K:PySem.W.Frag}{ρ ρ':List Addr}{H H':Hp}
mutual
theorem zS.mono (hρ:ρ <+: ρ') (le:Le H H'):∀ {d:M.D}{v:V},zS K ρ H d v->zS K ρ' H' d v
 | .non,_,h=>h
 | .bl _,_,h=>h
 | .int _,_,h=>h
 | .str _,_,h=>h
 | .ty _,_,h=>h
 | .ref _,_,⟨a,e,h⟩=>⟨a,e,zCC hρ h⟩
 | .tup _,_,⟨a,xs,e,h,r⟩=>⟨a,xs,e,le.sqT h,zT.mono hρ le r⟩
 | .ro _,_,⟨a,xs,e,h,r⟩=>⟨a,xs,e,le.rol h,zT.mono hρ le r⟩
theorem zT.mono (hρ:ρ <+: ρ') (le:Le H H'):∀ {ds:List M.D}{xs:List V},zT K ρ H ds xs->zT K ρ' H' ds xs
 | [],_,h=>h
 | _::_,_,⟨y,ys,e,h,r⟩=>⟨y,ys,e,zS.mono hρ le h,zT.mono hρ le r⟩
end
theorem zT.length:∀ {ds:List M.D}{xs:List V},zT K ρ H ds xs->ds.length=xs.length
 | [],_,h=>by cases h;rfl
 | _::_,_,⟨_,_,e,_,r⟩=>by subst e;rw[List.length_cons,List.length_cons,zT.length r]
theorem zT.get:∀ {ds:List M.D}{xs:List V}{i:Nat}{d:M.D},zT K ρ H ds xs->ds[i]? = some d->∃ v,xs[i]? = some v/\zS K ρ H d v
 | [],_,_,_,_,e=>by simp at e
 | _::_,_,0,_,⟨y,_,e1,h,_⟩,e=>by subst e1;simp at e;subst e;exact⟨y,rfl,h⟩
 | _::_,_,i+1,d,⟨_,ys,e1,_,r⟩,e=>by
  subst e1
  obtain⟨v,h1,h2⟩:=zT.get (i:=i) (d:=d) r (by simpa using e)
  exact⟨v,by simpa using h1,h2⟩
theorem zT.app:∀ {ds es:List M.D}{xs ys:List V},zT K ρ H ds xs->zT K ρ H es ys->zT K ρ H (ds++es) (xs++ys)
 | [],_,_,_,h,k=>by cases h;exact k
 | _::_,_,_,_,⟨y,ys,e,h,r⟩,k=>by subst e;exact⟨y,_,rfl,h,zT.app r k⟩
theorem zT.take:∀ {ds:List M.D}{xs:List V} (n:Nat),zT K ρ H ds xs->zT K ρ H (ds.take n) (xs.take n)
 | _,_,0,_=>rfl
 | [],_,_+1,h=>by cases h;rfl
 | _::_,_,n+1,⟨y,ys,e,h,r⟩=>by subst e;exact⟨y,_,rfl,h,zT.take n r⟩
theorem zT.drop:∀ {ds:List M.D}{xs:List V} (n:Nat),zT K ρ H ds xs->zT K ρ H (ds.drop n) (xs.drop n)
 | _,_,0,h=>h
 | [],_,_+1,h=>by cases h;rfl
 | _::_,_,n+1,⟨y,ys,e,h,r⟩=>by subst e;exact zT.drop n r
theorem zT.set {d:M.D}{v:V} (hd:zS K ρ H d v):∀ {ds:List M.D}{xs:List V} (n:Nat),zT K ρ H ds xs->zT K ρ H (ds.set n d) (xs.set n v)
 | [],_,_,h=>by cases h;rfl
 | _::_,_,0,⟨y,ys,e,h,r⟩=>by subst e;exact⟨v,ys,rfl,hd,r⟩
 | _::_,_,n+1,⟨y,ys,e,h,r⟩=>by subst e;exact⟨y,_,rfl,h,zT.set hd n r⟩
theorem zT.rev {ds:List M.D}{xs:List V} (h:zT K ρ H ds xs):zT K ρ H ds.reverse xs.reverse:=by
 induction ds generalizing xs with
 | nil=>cases h;rfl
 | cons d ds ih =>
  obtain⟨y,ys,e,h1,r⟩:=h
  subst e
  rw[List.reverse_cons,List.reverse_cons]
  exact (ih r).app ⟨y,[],rfl,h1,rfl⟩
theorem zT.dropLast {ds:List M.D}{xs:List V} (h:zT K ρ H ds xs):zT K ρ H ds.dropLast xs.dropLast:=by
 rw[List.dropLast_eq_take,List.dropLast_eq_take,h.length]
 exact h.take _
end
section
variable {K:PySem.W.Frag}{ρ ρ':List Addr}{H H':Hp}{ds es:List M.D}{xs ys:List V}
theorem zS.all.mono (h:zS.all K ρ H ds xs) (hρ:ρ <+: ρ') (le:Le H H'):zS.all K ρ' H' ds xs:=zT.mono hρ le h
theorem zS.all.length (h:zS.all K ρ H ds xs):ds.length=xs.length:=zT.length h
theorem zS.all.app (h:zS.all K ρ H ds xs) (k:zS.all K ρ H es ys):zS.all K ρ H (ds++es) (xs++ys):=zT.app h k
end
noncomputable def zBo:M.D->Key->Prop
 | .int i,k=>k=.inl i
 | .str x,k=>k=.inr (ofT x)/\okT x
 | _,_=>False
noncomputable abbrev Tab:=Nat->Option (Addr×List Str)
structure zEz (K:PySem.W.Frag) (ρ:List Addr) (H:Hp) (N:List Str) (fs:List (Option M.D)) (gs:List (Str×V)):Prop where
 len:fs.length=N.length
 nd:(gs.map (·.1)).Nodup
 within:∀ f∈gs.map (·.1),f∈N
 get:∀ (i:Nat) (f:Str) (d:M.D),N[i]? = some f->fs[i]? = some (some d)->∃ v,gs.lookup f=some v/\zS K ρ H d v
noncomputable def ObR (K:PySem.W.Frag) (Θ:Tab) (ρ:List Addr) (H:Hp) (a:Addr):M.O->Prop
 | .lst ds=>∃ xs,H a=some (.lst xs)/\zT K ρ H ds xs
 | .dct kvs=>∃ ks,H a=some (.dK ks)/\Paired (fun (p:M.D×M.D) (q:Key×V)=>zBo p.1 q.1/\zS K ρ H p.2 q.2) kvs ks
 | .fdc kvs=>∃ o ks,H a=some (.frz o (.dK ks))/\Paired (fun (p:M.D×M.D) (q:Key×V)=>zBo p.1 q.1/\zS K ρ H p.2 q.2) kvs ks
 | .ins c fs=>∃ C dx gs N,H a=some (.ins C dx gs)/\Θ c=some (C,N)/\zEz K ρ H N fs gs
structure zf (K:PySem.W.Frag) (Θ:Tab) (ρ:List Addr) (S:M.S) (H:Hp):Prop where
 len:ρ.length=S.length
 nd:ρ.Nodup
 obj:∀ (i:Nat) (o:M.O),S[i]? = some o->∃ a,ρ[i]? = some a/\ObR K Θ ρ H a o
structure j4 (K:PySem.W.Frag) (ρ:List Addr) (H:Hp) (σ':M.St) (σ:St):Prop where
 len:σ'.length=σ.length
 get:∀ (i:Nat) (d:M.D),σ'[i]? = some (some d)->∃ v,σ[i]? = some (some v)/\zS K ρ H d v
section
variable {K:PySem.W.Frag}{Θ:Tab}{ρ ρ':List Addr}{H H':Hp}{S:M.S}
theorem j4.mono {σ':M.St}{σ:St} (h:j4 K ρ H σ' σ) (hρ:ρ <+: ρ') (le:Le H H'):j4 K ρ' H' σ' σ :=
 ⟨h.len,fun i d e=>let ⟨v,h1,h2⟩:=h.get i d e;⟨v,h1,h2.mono hρ le⟩⟩
theorem j4.set {σ':M.St}{σ:St}{d:M.D}{v:V} (h:j4 K ρ H σ' σ) (hd:zS K ρ H d v) (i:Nat):j4 K ρ H (σ'.set i (some d)) (σ.set i (some v)):=by
 refine⟨by rw[List.length_set,List.length_set,h.len],fun j e q=>?_⟩
 by_cases hj:i=j
 ·subst hj
  by_cases hl:i < σ'.length
  ·rw[List.getElem?_set_self hl] at q
   cases q
   exact⟨v,by rw[List.getElem?_set_self (h.len ▸ hl)],hd⟩
  ·rw[List.getElem?_eq_none (by rw[List.length_set];omega)] at q
   cases q
 ·rw[List.getElem?_set_ne hj] at q
  rw[List.getElem?_set_ne hj]
  exact h.get j e q
theorem j4.more {σ':M.St}{σ:St} (h:j4 K ρ H σ' σ) (n:Nat):j4 K ρ H (σ'++List.replicate n none) (σ++List.replicate n none):=by
 refine⟨by simp[h.len],fun i d q=>?_⟩
 by_cases hl:i < σ'.length
 ·rw[List.getElem?_append_left hl] at q
  rw[List.getElem?_append_left (h.len ▸ hl)]
  exact h.get i d q
 ·rw[List.getElem?_append_right (by omega),List.getElem?_replicate] at q
  split at q<;>cases q
theorem zf.tracked (h:zf K Θ ρ S H) {a:Addr} (m:a∈ρ):∃ o,H a=some o:=by
 obtain⟨i,hi,e⟩:=List.mem_iff_getElem.mp m
 have hl:i < S.length:=h.len ▸ hi
 obtain⟨a',e1,r⟩:=h.obj i S[i] (by simp[hl])
 rw[List.getElem?_eq_getElem hi,e] at e1
 cases e1
 cases q:S[i] with
 | lst ds=>rw[q] at r;obtain⟨xs,e2,_⟩:=r;exact⟨_,e2⟩
 | dct kvs=>rw[q] at r;obtain⟨xs,e2,_⟩:=r;exact⟨_,e2⟩
 | fdc kvs=>rw[q] at r;obtain⟨o,xs,e2,_⟩:=r;exact⟨_,e2⟩
 | ins c fs=>rw[q] at r;obtain⟨_,_,_,_,e2,_⟩:=r;exact⟨_,e2⟩
theorem zf.fresh (h:zf K Θ ρ S H) {p:Addr} (hp:H p=none):p∉ρ:=fun m=>by
 obtain⟨o,e⟩:=h.tracked m
 rw[hp] at e;cases e
theorem ObR.stay {a:Addr}{o:M.O} (h:ObR K Θ ρ H a o) (hρ:ρ <+: ρ') (le:Le H H') (e:H' a=H a):ObR K Θ ρ' H' a o:=by
 cases o with
 | lst ds=>obtain⟨xs,e1,r⟩:=h;exact⟨xs,e.trans e1,r.mono hρ le⟩
 | dct kvs=>obtain⟨ks,e1,r⟩:=h;exact⟨ks,e.trans e1,Paired.mapP r fun p q z=>⟨z.1,z.2.mono hρ le⟩⟩
 | fdc kvs=>obtain⟨o,ks,e1,r⟩:=h;exact⟨o,ks,e.trans e1,Paired.mapP r fun p q z=>⟨z.1,z.2.mono hρ le⟩⟩
 | ins c fs =>
  obtain⟨C,dx,gs,N,e1,e2,r⟩:=h
  exact⟨C,dx,gs,N,e.trans e1,e2,r.len,r.nd,r.within,fun i f d h1 h2=>let ⟨v,k1,k2⟩:=r.get i f d h1 h2;⟨v,k1,k2.mono hρ le⟩⟩
theorem zf.stay (h:zf K Θ ρ S H) (le:Le H H') (e:∀ a∈ρ,H' a=H a):zf K Θ ρ S H' :=
 ⟨h.len,h.nd,fun i o q=>let ⟨a,h1,h2⟩:=h.obj i o q;⟨a,h1,h2.stay (List.prefix_refl _) le (e a (List.mem_of_getElem? h1))⟩⟩
theorem zf.aside (h:zf K Θ ρ S H) {p:Addr} (hp:H p=none) (o:HO):zf K Θ ρ S (upd H p o) :=
 h.stay (Le.new hp o) fun a m=>jZ (fun z=>h.fresh hp (z ▸ m))
theorem zf.alloc (h:zf K Θ ρ S H) {p:Addr} (hp:H p=none) {o:M.O}{u:HO} (r:ObR K Θ (ρ++[p]) (upd H p u) p o):zf K Θ (ρ++[p]) (S++[o]) (upd H p u):=by
 refine⟨by simp[h.len],?_,fun i ob q=>?_⟩
 ·rw[List.nodup_append]
  refine⟨h.nd,by simp,fun a ha b hb=>?_⟩
  have hb':b=p:=by simpa using hb
  rw[hb']
  exact fun z=>h.fresh hp (z ▸ ha)
 ·by_cases hl:i < S.length
  ·rw[List.getElem?_append_left hl] at q
   obtain⟨a,h1,h2⟩:=h.obj i ob q
   refine⟨a,zCC (List.prefix_append _ _) h1,h2.stay (List.prefix_append _ _) (Le.new hp u) (jZ fun z=>h.fresh hp (z ▸ List.mem_of_getElem? h1))⟩
  ·rw[List.getElem?_append_right (by omega)] at q
   have hi:i - S.length=0:=by
    cases hz:i - S.length with
    | zero=>rfl
    | succ k=>rw[hz] at q;simp at q
   rw[hi] at q
   simp at q
   subst q
   refine⟨p,?_,r⟩
   rw[List.getElem?_append_right (by rw[h.len];omega),h.len,hi]
   rfl
theorem zDs {α:Type}{ρ:List α} (hN:ρ.Nodup) {i j:Nat}{x:α} (a:ρ[i]? = some x) (b:ρ[j]? = some x):i=j:=by
 induction ρ generalizing i j with
 | nil=>simp at a
 | cons y r ih =>
  rw[List.nodup_cons] at hN
  cases i with
  | zero =>
   cases j with
   | zero=>rfl
   | succ j =>
    simp at a b
    subst a
    exact absurd (List.mem_of_getElem? b) hN.1
  | succ i =>
   cases j with
   | zero =>
    simp at a b
    subst b
    exact absurd (List.mem_of_getElem? a) hN.1
   | succ j =>
    simp at a b
    rw[ih hN.2 a b]
theorem zOQ {α:Type}{l:List α} (h:∀ (i j:Nat) x,l[i]? = some x->l[j]? = some x->i=j):l.Nodup:=by
 induction l with
 | nil=>exact List.nodup_nil
 | cons y r ih =>
  refine List.nodup_cons.mpr ⟨fun m=>?_,ih fun i j x a b=>?_⟩
  ·obtain⟨j,hj,e⟩:=List.mem_iff_getElem.mp m
   have:=h 0 (j+1) y (by simp) (by simp[e,hj])
   omega
  ·have:=h (i+1) (j+1) x (by simpa using a) (by simpa using b)
   omega
theorem zOF {α:Type}{l:List α} (hN:l.Nodup) {i j:Nat} (hi:i < l.length) (hj:j < l.length) (e:l[i]=l[j]):i=j :=
 zDs hN (x:=l[i]) (by simp[hi]) (by rw[e];simp[hj])
theorem zf.put (h:zf K Θ ρ S H) {i:Nat}{a:Addr} (ha:ρ[i]? = some a) {o:M.O}{u:HO} (mu:Mut (H a)) (r:ObR K Θ ρ (upd H a u) a o):zf K Θ ρ (S.set i o) (upd H a u):=by
 refine⟨by simp[h.len],h.nd,fun j ob q=>?_⟩
 by_cases hj:i=j
 ·subst hj
  by_cases hl:i < S.length
  ·rw[List.getElem?_set_self hl] at q
   cases q
   exact⟨a,ha,r⟩
  ·rw[List.getElem?_eq_none (by rw[List.length_set];omega)] at q
   cases q
 ·rw[List.getElem?_set_ne hj] at q
  obtain⟨b,h1,h2⟩:=h.obj j ob q
  refine⟨b,h1,h2.stay (List.prefix_refl _) (Le.put mu u) (jZ fun z=>?_)⟩
  subst z
  exact hj (zDs h.nd ha h1)
end
noncomputable def zI {α β:Type} (K:PySem.W.Frag) (Θ:Tab) (Rl:List Addr->Hp->α->β->Prop) (ρ:List Addr) (H:Hp):M.R α->(β->Hp->Prop)->Prop
 | .ok a S',Q=>∀ ρ' H' b,ρ <+: ρ'->Le H H'->zf K Θ ρ' S' H'->Rl ρ' H' a b->Q b H'
 | .exc _ _,_=>False
 | .no,_=>False
noncomputable abbrev rB:List Addr->Hp->Bool->Bool->Prop:=fun _ _ a b=>a=b
noncomputable abbrev rO:List Addr->Hp->Option Int->Option Int->Prop:=fun _ _ a b=>a=b
section
variable {K:PySem.W.Frag}{Θ:Tab}{ρ ρ':List Addr}{H H':Hp}{S:M.S}{α β γ δ:Type}{Rl:List Addr->Hp->α->β->Prop}{Rk:List Addr->Hp->γ->δ->Prop}{Q:β->Hp->Prop}{Q':δ->Hp->Prop}
theorem zI.weak {r:M.R α} (h:zI K Θ Rl ρ H r Q) (hρ:ρ <+: ρ') (le:Le H H'):zI K Θ Rl ρ' H' r Q:=by
 cases r with
 | ok a s=>exact fun ρ2 H2 b p l=>h ρ2 H2 b (hρ.trans p) (le.trans l)
 | exc e s=>exact h
 | no=>exact h
theorem zI.bind {r:M.R α}{f:α->M.S->M.R γ} (h:zI K Θ Rk ρ H (r.bind f) Q')
  (k:∀ ρ' H' a b S',ρ <+: ρ'->Le H H'->zf K Θ ρ' S' H'->Rl ρ' H' a b->zI K Θ Rk ρ' H' (f a S') Q'->Q b H'):zI K Θ Rl ρ H r Q:=by
 cases r with
 | ok a s=>exact fun ρ2 H2 b p l rp rl=>k ρ2 H2 a b s p l rp rl (zI.weak h p l)
 | exc e s=>exact h
 | no=>exact h
theorem zI.here {a:α}{b:β} (h:zI K Θ Rl ρ H (.ok a S) Q) (rp:zf K Θ ρ S H) (rl:Rl ρ H a b):Q b H:=h ρ H b (List.prefix_refl _) (Le.refl _) rp rl
end
noncomputable def RdE (K:PySem.W.Frag) (Θ:Tab) (m:M.EM):TE:=fun σ H Q=>∃ ρ σ' S,j4 K ρ H σ' σ/\zf K Θ ρ S H/\zI K Θ (zS K) ρ H (m σ' S) Q
noncomputable def RdT (K:PySem.W.Frag) (Θ:Tab) (m:M.TM):TT:=fun σ H Q=>∃ ρ σ' S,j4 K ρ H σ' σ/\zf K Θ ρ S H/\zI K Θ rB ρ H (m σ' S) Q
noncomputable def RdA (K:PySem.W.Frag) (Θ:Tab) (m:M.AM):TA:=fun σ H Q=>∃ ρ σ' S,j4 K ρ H σ' σ/\zf K Θ ρ S H/\zI K Θ (zT K) ρ H (m σ' S) Q
noncomputable def RdO (K:PySem.W.Frag) (Θ:Tab) (m:M.OM):TO:=fun σ H Q=>∃ ρ σ' S,j4 K ρ H σ' σ/\zf K Θ ρ S H/\zI K Θ rO ρ H (m σ' S) Q
noncomputable abbrev ME (X:Cx) (Θ:Tab) (e:Expr) (m:M.EM):Prop:=PE X e (RdE X.K Θ m)
@[irreducible] noncomputable def WE (X:Cx) (Θ:Tab) (e:Expr) (m:M.EM):Prop:=ME X Θ e m
noncomputable abbrev MT (X:Cx) (Θ:Tab) (e:Expr) (m:M.TM):Prop:=PT X e (RdT X.K Θ m)
@[irreducible] noncomputable def WT (X:Cx) (Θ:Tab) (e:Expr) (m:M.TM):Prop:=MT X Θ e m
noncomputable abbrev MW (X:Cx) (Θ:Tab) (e:Expr) (m:M.TM):Prop:=PW X e (RdT X.K Θ m)
@[irreducible] noncomputable def WW (X:Cx) (Θ:Tab) (e:Expr) (m:M.TM):Prop:=MW X Θ e m
noncomputable abbrev MA (X:Cx) (Θ:Tab) (es:List Expr) (m:M.AM):Prop:=PA X es (RdA X.K Θ m)
@[irreducible] noncomputable def WA (X:Cx) (Θ:Tab) (es:List Expr) (m:M.AM):Prop:=MA X Θ es m
noncomputable abbrev MO (X:Cx) (Θ:Tab) (e:Option Expr) (m:M.OM):Prop:=PO X e (RdO X.K Θ m)
@[irreducible] noncomputable def WO (X:Cx) (Θ:Tab) (e:Option Expr) (m:M.OM):Prop:=MO X Θ e m
theorem PE.imp {X:Cx}{e:Expr}{t t':TE} (h:PE X e t) (i:∀ σ H Q,t' σ H Q->t σ H Q):PE X e t':=fun pins s σ H Q I q=>h pins s σ H Q I (i σ H Q q)
theorem PT.imp {X:Cx}{e:Expr}{t t':TT} (h:PT X e t) (i:∀ σ H Q,t' σ H Q->t σ H Q):PT X e t':=fun pins s σ H Q I q=>h pins s σ H Q I (i σ H Q q)
theorem PW.imp {X:Cx}{e:Expr}{t t':TT} (h:PW X e t) (i:∀ σ H Q,t' σ H Q->t σ H Q):PW X e t':=fun wh pins s σ H Q I q=>h wh pins s σ H Q I (i σ H Q q)
theorem PA.imp {X:Cx}{es:List Expr}{t t':TA} (h:PA X es t) (i:∀ σ H Q,t' σ H Q->t σ H Q):PA X es t':=fun pos pins s σ H Q I q=>h pos pins s σ H Q I (i σ H Q q)
theorem PO.imp {X:Cx}{e:Option Expr}{t t':TO} (h:PO X e t) (i:∀ σ H Q,t' σ H Q->t σ H Q):PO X e t':=fun pins s σ H Q I q=>h pins s σ H Q I (i σ H Q q)
noncomputable def jG:Expr->Bool
 | .Starred _ _=>false
 | _=>true
theorem jp {e:Expr}{es:List Expr}{env:Env} (h:jG e=true):starEach (e::es) env=(false,eval e env)::starEach es env:=by
 cases e<;>first | rfl | cases h
theorem QZ {env:Env}{pos:Pos}:∀ {es:List Expr},es.all jG=true->(backTo pos (starEach es env)).any (·.1)=false
 | [],_=>rfl
 | e::es,h=>by
  rw[List.all_cons,Bool.and_eq_true] at h
  rw[jp h.1]
  show (false || (backTo pos (starEach es env)).any (·.1))=false
  rw[QZ h.2];rfl
theorem zJ2 {env:Env}{pos:Pos}:∀ {es:List Expr},es.all jG=true->(backTo pos (starEach es env)).all (fun x=>!x.1)=true
 | [],_=>rfl
 | e::es,h=>by
  rw[List.all_cons,Bool.and_eq_true] at h
  rw[jp h.1]
  show (true && (backTo pos (starEach es env)).all (fun x=>!x.1))=true
  rw[zJ2 h.2];rfl
theorem zKg {env:Env}{pos:Pos}{es:List Expr} (h:es.all jG=true) (hl:es.length < 30):((backTo pos (starEach es env)).all (fun x=>!x.1) && (backToKw pos (keywordEach [] env)).all (fun x=>x.1.isSome)
  && decide (es.length+([]:List Keyword).length+(if ([]:List Keyword).isEmpty then 0 else 1) < 30))=true:=by
 rw[zJ2 h,Bool.true_and,Bool.and_eq_true]
 exact⟨rfl,decide_eq_true (by simpa using hl)⟩
section
variable {X:Cx}{Θ:Tab}{a b c:Expr}{pos:Pos}{ma mb mc:M.EM}{ta tb:M.TM}{qu:List Expr}
theorem zRZ (i:Nat) {x:Str} (hN:X.N[i]? = some x:=by rfl) (hv:Vis X.env.scope x:=by first | exact Or.inl rfl | exact Or.inr (Or.inl rfl) | exact Or.inr (Or.inr rfl)) (hd:(x == ("__debug__" : Str))=false:=by decide)
  (hcd:(x == ("__classdict__" : Str))=false:=by decide):ME X Θ (.Name x pos) (M.zD i):=(zR0 hN hv hd hcd).imp fun σ H Q ⟨ρ,σ',S,st,rp,h⟩=>by
 unfold M.zD at h
 split at h
 ·rename_i d e
  obtain⟨v,e1,r⟩:=st.get i d e
  exact⟨v,e1,h.here rp r⟩
 ·exact h.elim
theorem zKT (i:Nat) {x:Str} (hN:X.N[i]? = some x:=by rfl) (hv:Vis X.env.scope x:=by first | exact Or.inl rfl | exact Or.inr (Or.inl rfl) | exact Or.inr (Or.inr rfl)) (hd:(x == ("__debug__" : Str))=false:=by decide)
  (hcd:(x == ("__classdict__" : Str))=false:=by decide):WE X Θ (.Name x pos) (M.zD i):=by with_unfolding_all exact zRZ i (x:=x) hN hv hd hcd
theorem zEF {e:Expr}{v:V}{d:M.D} (h:PE X e (tC v)) (r:∀ ρ H,zS X.K ρ H d v):ME X Θ e (M.eC d):=h.imp fun σ H Q ⟨ρ,σ',S,st,rp,h⟩=>h.here rp (r ρ H)
theorem zSl {i:Int}{j:Nat}:ME X Θ (.Constant (.int i) j pos) (M.eC (.int i)):=zEF zKY fun _ _=>rfl
theorem zF {i:Int}{j:Nat}:WE X Θ (.Constant (.int i) j pos) (M.eC (.int i)):=by with_unfolding_all exact zSl (i:=i) (j:=j)
theorem zTd {k:Bool}{j:Nat}:ME X Θ (.Constant (.bool k) j pos) (M.eC (.bl k)):=zEF zTP fun _ _=>rfl
theorem Ql {k:Bool}{j:Nat}:WE X Θ (.Constant (.bool k) j pos) (M.eC (.bl k)):=by with_unfolding_all exact zTd (k:=k) (j:=j)
theorem zRe {j:Nat}:ME X Θ (.Constant .none j pos) (M.eC .non):=zEF zR3 fun _ _=>rfl
theorem zKL {j:Nat}:WE X Θ (.Constant .none j pos) (M.eC .non):=by with_unfolding_all exact zRe (j:=j)
theorem zSG {y:M.T}{x:Str}{j:Nat} (h:x=ofT y) (ok:okT y):ME X Θ (.Constant (.str x) j pos) (M.eC (.str y)):=zEF zOB fun _ _=>by rw[h];exact⟨rfl,ok⟩
theorem zPb {y:M.T}{x:Str}{j:Nat} (h:x=ofT y) (ok:okT y):WE X Θ (.Constant (.str x) j pos) (M.eC (.str y)):=by with_unfolding_all exact zSG (y:=y) (x:=x) (j:=j) h ok
theorem zPS {x:Str}{v:V}{d:M.D} (h:zBQ X.mg x v) (hg:Gl X x) (r:∀ ρ H,zS X.K ρ H d v) (hd:(x == ("__debug__" : Str))=false:=by decide):ME X Θ (.Name x pos) (M.eC d):=zEF (zKC h hg hd) r
theorem zD4 {x:Str}{v:V}{d:M.D} (h:zBQ X.mg x v) (hg:Gl X x) (r:∀ ρ H,zS X.K ρ H d v) (hd:(x == ("__debug__" : Str))=false:=by decide):WE X Θ (.Name x pos) (M.eC d):=by with_unfolding_all exact zPS (x:=x) (v:=v) (d:=d) h hg r hd
theorem zTQ (n:M.Kd) {x:Str} (hg:Gl X x) (hm:X.mg x=none) (hv:bootBuiltins x=some (.type (yX n))) (hn:x ≠ "__name__" := by decide) (hd:(x == ("__debug__" : Str))=false:=by decide):ME X Θ (.Name x pos) (M.eC (.ty n)) :=
 zEF (zQX (v:=.ty (yX n)) hg hm hv rfl hn hd) fun _ _=>rfl
theorem zAY (n:M.Kd) {x:Str} (hg:Gl X x) (hm:X.mg x=none) (hv:bootBuiltins x=some (.type (yX n))) (hn:x ≠ "__name__" := by decide) (hd:(x == ("__debug__" : Str))=false:=by decide):WE X Θ (.Name x pos) (M.eC (.ty n)):=by with_unfolding_all exact zTQ n (x:=x) hg hm hv hn hd
noncomputable def Ad2 (K:PySem.W.Frag) (Θ:Tab) (f:M.D->M.D->M.S->M.R M.D) (r:R2):Prop:=∀ ρ H S x y X Y Q,zf K Θ ρ S H->zS K ρ H x X->zS K ρ H y Y->zI K Θ (zS K) ρ H (f x y S) Q->r X Y H Q
noncomputable def AdC (K:PySem.W.Frag) (Θ:Tab) (f:M.CM) (r:R2):Prop:=∀ ρ H S x y X Y (Q:VK),zf K Θ ρ S H->zS K ρ H x X->zS K ρ H y Y->zI K Θ rB ρ H (f x y S) (fun b H'=>Q (.bl b) H')->r X Y H Q
noncomputable def AdN (K:PySem.W.Frag) (Θ:Tab) (f:M.F) (r:List V->Hp->VK->Prop):Prop:=∀ ρ H S xs Xs Q,zf K Θ ρ S H->zT K ρ H xs Xs->zI K Θ (zS K) ρ H (f xs S) Q->r Xs H Q
noncomputable def AdM (K:PySem.W.Frag) (Θ:Tab) (f:M.D->M.F) (r:V->List V->Hp->VK->Prop):Prop :=
 ∀ ρ H S x xs X Xs Q,zf K Θ ρ S H->zS K ρ H x X->zT K ρ H xs Xs->zI K Θ (zS K) ρ H (f x xs S) Q->r X Xs H Q
theorem zTC {op:Operator}{f:M.D->M.D->M.S->M.R M.D}{r:R2} (ho:OpR X (binaryOp op) r) (ad:Ad2 X.K Θ f r) (ha:ME X Θ a ma) (hb:ME X Θ b mb):ME X Θ (.BinOp a op b pos) (M.eOp f ma mb) :=
 (zTY ho ha hb).imp fun σ H Q ⟨ρ,σ',S,st,rp,h⟩=>⟨ρ,σ',S,st,rp,zI.bind h fun ρ1 H1 x X1 S1 p1 l1 rp1 rx h1=>⟨ρ1,σ',S1,st.mono p1 l1,rp1,
  zI.bind h1 fun ρ2 H2 y Y S2 p2 l2 rp2 ry h2=>ad ρ2 H2 S2 x y X1 Y Q rp2 (rx.mono p2 l2) ry h2⟩⟩
theorem zO {op:Operator}{f:M.D->M.D->M.S->M.R M.D}{r:R2} (ho:OpR X (binaryOp op) r) (ad:Ad2 X.K Θ f r) (ha:WE X Θ a ma) (hb:WE X Θ b mb):WE X Θ (.BinOp a op b pos) (M.eOp f ma mb):=by with_unfolding_all exact zTC (op:=op) (f:=f) (r:=r) ho ad ha hb
noncomputable def zKJ:Expr->Bool
 | .Slice _ _ _ _=>false
 | .Tuple _ _ _=>false
 | _=>true
theorem zGV {b:Expr} (h:zKJ b=true):zLw b:=fun o i=>by
 cases b<;>first | rfl | cases h
theorem zTe {f:M.D->M.D->M.S->M.R M.D}{r:R2} (ho:IxR X r) (ad:Ad2 X.K Θ f r) (ha:ME X Θ a ma) (hb:ME X Θ b mb) (hs:zKJ b=true:=by rfl):ME X Θ (.Subscript a b pos) (M.eOp f ma mb) :=
 (zTV ho ha hb (zGV hs)).imp fun σ H Q ⟨ρ,σ',S,st,rp,h⟩=>⟨ρ,σ',S,st,rp,zI.bind h fun ρ1 H1 x X1 S1 p1 l1 rp1 rx h1=>⟨ρ1,σ',S1,st.mono p1 l1,rp1,
  zI.bind h1 fun ρ2 H2 y Y S2 p2 l2 rp2 ry h2=>ad ρ2 H2 S2 x y X1 Y Q rp2 (rx.mono p2 l2) ry h2⟩⟩
theorem zU {f:M.D->M.D->M.S->M.R M.D}{r:R2} (ho:IxR X r) (ad:Ad2 X.K Θ f r) (ha:WE X Θ a ma) (hb:WE X Θ b mb) (hs:zKJ b=true:=by rfl):WE X Θ (.Subscript a b pos) (M.eOp f ma mb):=by with_unfolding_all exact zTe (f:=f) (r:=r) ho ad ha hb hs
theorem zRd {op:CmpOp}{f:M.CM}{r:R2} (ho:OpR X (compareOp op) r) (ad:AdC X.K Θ f r) (ha:ME X Θ a ma) (hb:ME X Θ b mb) (hm:behindInMarks op b=false):ME X Θ (.Compare a [op] [b] pos) (M.zGd f ma mb) :=
 (zQj ho ha hb hm).imp fun σ H Q ⟨ρ,σ',S,st,rp,h⟩=>⟨ρ,σ',S,st,rp,zI.bind h fun ρ1 H1 x X1 S1 p1 l1 rp1 rx h1=>⟨ρ1,σ',S1,st.mono p1 l1,rp1,
  zI.bind h1 fun ρ2 H2 y Y S2 p2 l2 rp2 ry h2=>ad ρ2 H2 S2 x y X1 Y Q rp2 (rx.mono p2 l2) ry (zI.bind h2 fun ρ3 H3 k k' S3 p3 l3 rp3 e h3=>by cases e;exact h3.here rp3 rfl)⟩⟩
theorem zGB {op:CmpOp}{f:M.CM}{r:R2} (ho:OpR X (compareOp op) r) (ad:AdC X.K Θ f r) (ha:WE X Θ a ma) (hb:WE X Θ b mb) (hm:behindInMarks op b=false):WE X Θ (.Compare a [op] [b] pos) (M.zGd f ma mb):=by with_unfolding_all exact zRd (op:=op) (f:=f) (r:=r) ho ad ha hb hm
theorem zST {op:CmpOp}{f:M.CM}{r:R2} (ho:OpR X (compareOp op) r) (ad:AdC X.K Θ f r) (ha:ME X Θ a ma) (hb:ME X Θ b mb) (hm:behindInMarks op b=false):MT X Θ (.Compare a [op] [b] pos) (M.zw f ma mb) :=
 (zQ2 ho ha hb hm).imp fun σ H Q ⟨ρ,σ',S,st,rp,h⟩=>⟨ρ,σ',S,st,rp,zI.bind h fun ρ1 H1 x X1 S1 p1 l1 rp1 rx h1=>⟨ρ1,σ',S1,st.mono p1 l1,rp1,
  zI.bind h1 fun ρ2 H2 y Y S2 p2 l2 rp2 ry h2=>ad ρ2 H2 S2 x y X1 Y _ rp2 (rx.mono p2 l2) ry (by
   revert h2
   cases f x y S2 with
   | ok k s=>exact fun h2 ρ3 H3 k' p3 l3 rp3 e=>⟨k',rfl,h2 ρ3 H3 k' p3 l3 rp3 e⟩
   | exc e s=>exact fun h2=>h2
   | no=>exact fun h2=>h2)⟩⟩
theorem zY {op:CmpOp}{f:M.CM}{r:R2} (ho:OpR X (compareOp op) r) (ad:AdC X.K Θ f r) (ha:WE X Θ a ma) (hb:WE X Θ b mb) (hm:behindInMarks op b=false):WT X Θ (.Compare a [op] [b] pos) (M.zw f ma mb):=by with_unfolding_all exact zST (op:=op) (f:=f) (r:=r) ho ad ha hb hm
theorem zM3 {K:PySem.W.Frag}{ρ:List Addr}{H:Hp}{x:M.D}{v:V} (r:zS K ρ H x v):decide (v=.non)=M.zMS x:=by
 cases x with
 | non=>cases r;rfl
 | bl b=>cases r;rfl
 | int b=>cases r;rfl
 | str b=>obtain⟨rfl,_⟩:=r;rfl
 | ty b=>cases r;rfl
 | ref i=>obtain⟨_,rfl,_⟩:=r;rfl
 | tup i=>obtain⟨_,_,rfl,_⟩:=r;rfl
 | ro i=>obtain⟨_,_,rfl,_⟩:=r;rfl
theorem zS9 {j pos'} (ha:ME X Θ a ma):MT X Θ (.Compare a [.Is] [.Constant .none j pos'] pos) (M.zFR ma):=(zNA (zSn ha)).imp fun σ H Q ⟨ρ,σ',S,st,rp,h⟩=>⟨ρ,σ',S,st,rp,zI.bind h fun ρ1 H1 x X1 S1 p1 l1 rp1 rx h1=>⟨_,rfl,by
 rw[zM3 rx];exact h1.here rp1 rfl⟩⟩
theorem zJs {j pos'} (ha:WE X Θ a ma):WT X Θ (.Compare a [.Is] [.Constant .none j pos'] pos) (M.zFR ma):=by with_unfolding_all exact zS9 (j:=j) (pos':=pos') ha
theorem zQx {j pos'} (ha:ME X Θ a ma):MT X Θ (.Compare a [.IsNot] [.Constant .none j pos'] pos) (M.zDB ma):=(zNA (zQw ha)).imp fun σ H Q ⟨ρ,σ',S,st,rp,h⟩=>⟨ρ,σ',S,st,rp,zI.bind h fun ρ1 H1 x X1 S1 p1 l1 rp1 rx h1=>⟨_,rfl,by
 rw[zM3 rx];exact h1.here rp1 rfl⟩⟩
theorem zIk {j pos'} (ha:WE X Θ a ma):WT X Θ (.Compare a [.IsNot] [.Constant .none j pos'] pos) (M.zDB ma):=by with_unfolding_all exact zQx (j:=j) (pos':=pos') ha
theorem AdC.to {K:PySem.W.Frag}{f:M.CM}{r:R2} (ad:AdC K Θ f r) {ρ:List Addr}{H:Hp}{S:M.S}{x y:M.D}{X1 Y:V}{Q:VK}{Q':Bool->Hp->Prop} (rp:zf K Θ ρ S H) (rx:zS K ρ H x X1) (ry:zS K ρ H y Y) (h:zI K Θ rB ρ H (f x y S) Q') (e:∀ k H',Q' k H'->Q (.bl k) H'):r X1 Y H Q :=
 ad ρ H S x y X1 Y Q rp rx ry (by
  revert h
  cases f x y S with
  | ok k s=>exact fun h2 ρ3 H3 k' p3 l3 rp3 q=>e _ _ (h2 ρ3 H3 k' p3 l3 rp3 q)
  | exc e s=>exact fun h2=>h2
  | no=>exact fun h2=>h2)
theorem zPh {op op':CmpOp}{f g:M.CM}{r r':R2} (ho:OpR X (compareOp op) r) (ho':OpR X (compareOp op') r') (ad:AdC X.K Θ f r) (ad':AdC X.K Θ g r') (ha:ME X Θ a ma) (hb:ME X Θ b mb) (hc:ME X Θ c mc)
  (hm:lastMarks [op,op'] [b,c]=false:=by with_unfolding_all rfl):ME X Θ (.Compare a [op,op'] [b,c] pos) (M.zKu f g ma mb mc) :=
 (zOP ho ho' ha hb hc hm).imp fun σ H Q ⟨ρ,σ',S,st,rp,h⟩=>⟨ρ,σ',S,st,rp,zI.bind h fun ρ1 H1 x X1 S1 p1 l1 rp1 rx h1=>⟨ρ1,σ',S1,st.mono p1 l1,rp1,
  zI.bind h1 fun ρ2 H2 y Y S2 p2 l2 rp2 ry h2=>ad.to rp2 (rx.mono p2 l2) ry (zI.bind (Rl:=rB) (Q:=fun k H'=>∃ ρ3 S3,ρ2 <+: ρ3/\Le H2 H'/\zf X.K Θ ρ3 S3 H'/\zI X.K Θ (zS X.K) ρ3 H' (if k=true then (mc σ' S3).bind fun z s=>(g y z s).bind fun k s=>.ok (.bl k) s else .ok (.bl false) S3) Q) h2
   fun ρ3 H3 k k' S3 p3 l3 rp3 e h3=>by cases e;exact⟨ρ3,S3,p3,l3,rp3,h3⟩) fun k H3 ⟨ρ3,S3,p3,l3,rp3,h3⟩=>⟨k,rfl,by
    cases k with
    | false=>exact zE9 (zI.here (b:=V.bl false) h3 rp3 rfl)
    | true =>
     refine zEr ⟨ρ3,σ',S3,st.mono (p1.trans (p2.trans p3)) (l1.trans (l2.trans l3)),rp3,zI.bind h3 fun ρ4 H4 z Z S4 p4 l4 rp4 rz h4=>ad'.to rp4 (ry.mono (p3.trans p4) (l3.trans l4)) rz (zI.bind (Rl:=rB) (Q:=fun k H'=>Q (.bl k) H') h4 fun ρ5 H5 k k' S5 p5 l5 rp5 e h5=>by cases e;exact h5.here rp5 rfl) fun _ _ q=>q⟩⟩⟩⟩
theorem zL5 {op op':CmpOp}{f g:M.CM}{r r':R2} (ho:OpR X (compareOp op) r) (ho':OpR X (compareOp op') r') (ad:AdC X.K Θ f r) (ad':AdC X.K Θ g r') (ha:WE X Θ a ma) (hb:WE X Θ b mb) (hc:WE X Θ c mc)
  (hm:lastMarks [op,op'] [b,c]=false:=by with_unfolding_all rfl):WE X Θ (.Compare a [op,op'] [b,c] pos) (M.zKu f g ma mb mc):=by with_unfolding_all exact zPh (op:=op) (op':=op') (f:=f) (g:=g) (r:=r) (r':=r') ho ho' ad ad' ha hb hc hm
theorem zOk {op op':CmpOp}{f g:M.CM}{r r':R2} (ho:OpR X (compareOp op) r) (ho':OpR X (compareOp op') r') (ad:AdC X.K Θ f r) (ad':AdC X.K Θ g r') (ha:ME X Θ a ma) (hb:ME X Θ b mb) (hc:ME X Θ c mc)
  (hm:lastMarks [op,op'] [b,c]=false:=by with_unfolding_all rfl):MT X Θ (.Compare a [op,op'] [b,c] pos) (M.zBh f g ma mb mc) :=
 (zPL ho ho' ha hb hc hm).imp fun σ H Q ⟨ρ,σ',S,st,rp,h⟩=>⟨ρ,σ',S,st,rp,zI.bind h fun ρ1 H1 x X1 S1 p1 l1 rp1 rx h1=>⟨ρ1,σ',S1,st.mono p1 l1,rp1,
  zI.bind h1 fun ρ2 H2 y Y S2 p2 l2 rp2 ry h2=>ad.to rp2 (rx.mono p2 l2) ry (zI.bind (Rl:=rB) (Q:=fun k H'=>∃ ρ3 S3,ρ2 <+: ρ3/\Le H2 H'/\zf X.K Θ ρ3 S3 H'/\zI X.K Θ rB ρ3 H' (if k=true then (mc σ' S3).bind fun z s=>g y z s else .ok false S3) Q) h2
   fun ρ3 H3 k k' S3 p3 l3 rp3 e h3=>by cases e;exact⟨ρ3,S3,p3,l3,rp3,h3⟩) fun k H3 ⟨ρ3,S3,p3,l3,rp3,h3⟩=>⟨k,rfl,by
    cases k with
    | false=>exact zE9 ⟨false,rfl,zI.here (b:=false) h3 rp3 rfl⟩
    | true =>
     refine zEr ⟨ρ3,σ',S3,st.mono (p1.trans (p2.trans p3)) (l1.trans (l2.trans l3)),rp3,zI.bind h3 fun ρ4 H4 z Z S4 p4 l4 rp4 rz h4=>ad'.to rp4 (ry.mono (p3.trans p4) (l3.trans l4)) rz h4 fun k H' q=>⟨k,rfl,q⟩⟩⟩⟩⟩
theorem zHr {op op':CmpOp}{f g:M.CM}{r r':R2} (ho:OpR X (compareOp op) r) (ho':OpR X (compareOp op') r') (ad:AdC X.K Θ f r) (ad':AdC X.K Θ g r') (ha:WE X Θ a ma) (hb:WE X Θ b mb) (hc:WE X Θ c mc)
  (hm:lastMarks [op,op'] [b,c]=false:=by with_unfolding_all rfl):WT X Θ (.Compare a [op,op'] [b,c] pos) (M.zBh f g ma mb mc):=by with_unfolding_all exact zOk (op:=op) (op':=op') (f:=f) (g:=g) (r:=r) (r':=r') ho ho' ad ad' ha hb hc hm
theorem zMO (ha:MT X Θ a ta):MW X Θ (.BoolOp .And [a] pos) ta:=zQc ha
theorem zCX (ha:WT X Θ a ta):WW X Θ (.BoolOp .And [a] pos) ta:=by with_unfolding_all exact zMO ha
theorem zNL (ha:MT X Θ a ta):MW X Θ (.BoolOp .Or [a] pos) ta:=zSv ha
theorem Zs (ha:WT X Θ a ta):WW X Θ (.BoolOp .Or [a] pos) ta:=by with_unfolding_all exact zNL ha
theorem zSR (ha:MT X Θ a ta) (hb:MW X Θ (.BoolOp .And (b::qu) pos) tb):MW X Θ (.BoolOp .And (a::b::qu) pos) (M.zEx ta tb) :=
 (zSN ha hb).imp fun σ H Q ⟨ρ,σ',S,st,rp,h⟩=>⟨ρ,σ',S,st,rp,zI.bind h fun ρ1 H1 k k' S1 p1 l1 rp1 e h1=>by
  cases e
  cases k with
  | true=>exact zEr ⟨ρ1,σ',S1,st.mono p1 l1,rp1,h1⟩
  | false=>exact zE9 (zI.here (b:=false) h1 rp1 rfl)⟩
theorem zGr (ha:WT X Θ a ta) (hb:WW X Θ (.BoolOp .And (b::qu) pos) tb):WW X Θ (.BoolOp .And (a::b::qu) pos) (M.zEx ta tb):=by with_unfolding_all exact zSR ha hb
theorem zTj (ha:MT X Θ a ta) (hb:MW X Θ (.BoolOp .Or (b::qu) pos) tb):MW X Θ (.BoolOp .Or (a::b::qu) pos) (M.tOr ta tb) :=
 (zTq ha hb).imp fun σ H Q ⟨ρ,σ',S,st,rp,h⟩=>⟨ρ,σ',S,st,rp,zI.bind h fun ρ1 H1 k k' S1 p1 l1 rp1 e h1=>by
  cases e
  cases k with
  | true=>exact zEr (zI.here (b:=true) h1 rp1 rfl)
  | false=>exact zE9 ⟨ρ1,σ',S1,st.mono p1 l1,rp1,h1⟩⟩
theorem JV (ha:WT X Θ a ta) (hb:WW X Θ (.BoolOp .Or (b::qu) pos) tb):WW X Θ (.BoolOp .Or (a::b::qu) pos) (M.tOr ta tb):=by with_unfolding_all exact zTj ha hb
theorem zRj (ha:MT X Θ a ta):MT X Θ (.UnaryOp .Not a pos) (M.ZX ta):=(zSk ha).imp fun σ H Q ⟨ρ,σ',S,st,rp,h⟩=>⟨ρ,σ',S,st,rp,zI.bind h fun ρ1 H1 k k' S1 p1 l1 rp1 e h1=>by
 cases e;exact zI.here (b:=!k) h1 rp1 rfl⟩
theorem QW (ha:WT X Θ a ta):WT X Θ (.UnaryOp .Not a pos) (M.ZX ta):=by with_unfolding_all exact zRj ha
theorem zRn {op} (ha:ME X Θ a ma):ME X Θ (.BoolOp op [a] pos) ma:=zSc ha
theorem zGj {op} (ha:WE X Θ a ma):WE X Θ (.BoolOp op [a] pos) ma:=by with_unfolding_all exact zRn (op:=op) ha
theorem zR5 {K:PySem.W.Frag}{γ δ:Type}{Rk:List Addr->Hp->γ->δ->Prop}{ρ:List Addr}{H:Hp}{x:M.D}{v:V}{S:M.S}{f:Bool->M.S->M.R γ}{Q:δ->Hp->Prop} (r:zS K ρ H x v) (h:zI K Θ Rk ρ H ((M.asB x S).bind f) Q):∃ k,v=.bl k/\zI K Θ Rk ρ H (f k S) Q:=by
 cases x with
 | bl b=>cases r;exact⟨b,rfl,h⟩
 | _=>exact h.elim
theorem zR8 (ha:ME X Θ a ma) (hb:ME X Θ (.BoolOp .And (b::qu) pos) mb):ME X Θ (.BoolOp .And (a::b::qu) pos) (M.zKw ma mb) :=
 (zRU ha hb).imp fun σ H Q ⟨ρ,σ',S,st,rp,h⟩=>⟨ρ,σ',S,st,rp,zI.bind h fun ρ1 H1 x X1 S1 p1 l1 rp1 rx h1=>by
  obtain⟨k,e,h2⟩:=zR5 rx h1
  refine⟨k,e,?_⟩
  cases k with
  | true=>exact zEr ⟨ρ1,σ',S1,st.mono p1 l1,rp1,h2⟩
  | false=>exact zE9 (zI.here (b:=V.bl false) h2 rp1 rfl)⟩
theorem zGZ (ha:WE X Θ a ma) (hb:WE X Θ (.BoolOp .And (b::qu) pos) mb):WE X Θ (.BoolOp .And (a::b::qu) pos) (M.zKw ma mb):=by with_unfolding_all exact zR8 ha hb
theorem zK0:MA X Θ [] M.zH:=zKR.imp fun σ H Q ⟨ρ,σ',S,st,rp,h⟩=>zI.here (b:=[]) h rp rfl
theorem zE:WA X Θ [] M.zH:=by with_unfolding_all exact zK0
theorem zIF {e:Expr}{es:List Expr}{r:M.AM} (ha:ME X Θ e ma) (hr:MA X Θ es r) (hs:jG e=true:=by rfl):MA X Θ (e::es) (M.zC ma r) :=
 (zIa ha hr (jp hs)).imp fun σ H Q ⟨ρ,σ',S,st,rp,h⟩=>⟨ρ,σ',S,st,rp,zI.bind h fun ρ1 H1 x X1 S1 p1 l1 rp1 rx h1=>⟨ρ1,σ',S1,st.mono p1 l1,rp1,
  zI.bind h1 fun ρ2 H2 ys Ys S2 p2 l2 rp2 ry h2=>h2.here rp2 ⟨X1,Ys,rfl,rx.mono p2 l2,ry⟩⟩⟩
theorem zB {e:Expr}{es:List Expr}{r:M.AM} (ha:WE X Θ e ma) (hr:WA X Θ es r) (hs:jG e=true:=by rfl):WA X Θ (e::es) (M.zC ma r):=by with_unfolding_all exact zIF (e:=e) (es:=es) (r:=r) ha hr hs
theorem zSI {es:List Expr}{r:M.AM}{x1} (hr:MA X Θ es r):ME X Θ (.Tuple es x1 pos) (M.jx r):=(zSx hr).imp fun σ H Q ⟨ρ,σ',S,st,rp,h⟩=>⟨ρ,σ',S,st,rp,zI.bind h fun ρ1 H1 xs Xs S1 p1 l1 rp1 rx h1=>by
 by_cases hl:xs.length <= M.SZ
 ·rw[if_pos hl] at h1
  rw[JC,rx.length] at hl
  exact⟨hl,fun p hp=>h1 ρ1 _ _ (List.prefix_refl _) (Le.new hp _) (rp1.aside hp _) ⟨p,Xs,rfl,SqT.of qA,rx.mono (List.prefix_refl _) (Le.new hp _)⟩⟩
 ·rw[if_neg hl] at h1
  exact h1.elim⟩
theorem zu {es:List Expr}{r:M.AM}{x1} (hr:WA X Θ es r):WE X Θ (.Tuple es x1 pos) (M.jx r):=by with_unfolding_all exact zSI (es:=es) (r:=r) (x1:=x1) hr
theorem zI.alloc {K:PySem.W.Frag}{ρ:List Addr}{H:Hp}{S:M.S}{ds:List M.D}{xs:List V}{Q:VK} (h:zI K Θ (zS K) ρ H (M.alloc (.lst ds) S) Q) (rp:zf K Θ ρ S H) (r:zT K ρ H ds xs) {p:Addr} (hp:H p=none):Q (.ref p) (upd H p (.lst xs)) :=
 h (ρ++[p]) _ _ (List.prefix_append _ _) (Le.new hp _) (rp.alloc hp ⟨xs,qA,r.mono (List.prefix_append _ _) (Le.new hp _)⟩) ⟨p,rfl,by rw[<- rp.len];simp⟩
theorem zRz {es:List Expr}{r:M.AM} (hr:MA X Θ es r):ME X Θ (.List es pos) (M.qJ r):=(zS8 hr).imp fun σ H Q ⟨ρ,σ',S,st,rp,h⟩=>⟨ρ,σ',S,st,rp,zI.bind h fun ρ1 H1 xs Xs S1 p1 l1 rp1 rx h1=>by
 by_cases hl:xs.length <= M.SZ
 ·rw[if_pos hl] at h1
  rw[JC,rx.length] at hl
  exact⟨hl,fun p hp=>h1.alloc rp1 rx hp⟩
 ·rw[if_neg hl] at h1
  exact h1.elim⟩
theorem jm {es:List Expr}{r:M.AM} (hr:WA X Θ es r):WE X Θ (.List es pos) (M.qJ r):=by with_unfolding_all exact zRz (es:=es) (r:=r) hr
theorem zQB:MO X Θ none M.JZ:=zQM.imp fun σ H Q ⟨ρ,σ',S,st,rp,h⟩=>zI.here (b:=none) h rp rfl
theorem ZC:WO X Θ none M.JZ:=by with_unfolding_all exact zQB
theorem zQn (ha:ME X Θ a ma):MO X Θ (some a) (M.yz ma):=(zRK ha).imp fun σ H Q ⟨ρ,σ',S,st,rp,h⟩=>⟨ρ,σ',S,st,rp,zI.bind h fun ρ1 H1 x X1 S1 p1 l1 rp1 rx h1=>by
 cases x with
 | int i=>cases rx;exact⟨i,rfl,zI.here (b:=some i) h1 rp1 rfl⟩
 | _=>exact h1.elim⟩
theorem j5 (ha:WE X Θ a ma):WO X Θ (some a) (M.yz ma):=by with_unfolding_all exact zQn ha
theorem zTm {lo hi:Option Expr}{p2:Pos}{ml mh:M.OM}{r:V->Option Int->Option Int->Hp->VK->Prop} (hr:SlR X r) (ad:∀ ρ H S x X1 l u Q,zf X.K Θ ρ S H->zS X.K ρ H x X1->zI X.K Θ (zS X.K) ρ H (M.slD x l u S) Q->r X1 l u H Q) (ha:ME X Θ a ma) (hl:MO X Θ lo ml) (hh:MO X Θ hi mh) :
  ME X Θ (.Subscript a (.Slice lo hi none p2) pos) (M.eSl ma ml mh):=(zOz hr ha hl hh).imp fun σ H Q ⟨ρ,σ',S,st,rp,h⟩=>⟨ρ,σ',S,st,rp,zI.bind h fun ρ1 H1 x X1 S1 p1 l1 rp1 rx h1=>⟨ρ1,σ',S1,st.mono p1 l1,rp1,
  zI.bind h1 fun ρ2 H2 l l' S2 p2 l2 rp2 e2 h2=>by
   cases e2
   exact⟨ρ2,σ',S2,st.mono (p1.trans p2) (l1.trans l2),rp2,zI.bind h2 fun ρ3 H3 u u' S3 p3 l3 rp3 e3 h3=>by
    cases e3
    exact ad ρ3 H3 S3 x X1 l u Q rp3 (rx.mono (p2.trans p3) (l2.trans l3)) h3⟩⟩⟩
theorem y8 {lo hi:Option Expr}{p2:Pos}{ml mh:M.OM}{r:V->Option Int->Option Int->Hp->VK->Prop} (hr:SlR X r) (ad:∀ ρ H S x X1 l u Q,zf X.K Θ ρ S H->zS X.K ρ H x X1->zI X.K Θ (zS X.K) ρ H (M.slD x l u S) Q->r X1 l u H Q) (ha:WE X Θ a ma) (hl:WO X Θ lo ml) (hh:WO X Θ hi mh) :
  WE X Θ (.Subscript a (.Slice lo hi none p2) pos) (M.eSl ma ml mh):=by with_unfolding_all exact zTm (lo:=lo) (hi:=hi) (p2:=p2) (ml:=ml) (mh:=mh) (r:=r) hr ad ha hl hh
theorem zOg {x:Str}{p:Pos}{id:String}{e:Expr}{es:List Expr}{f:M.F}{r:List V->Hp->VK->Prop}{m:M.AM} (hc:qj X (.builtin id) r) (ad:AdN X.K Θ f r) (hg:Gl X x) (hm:X.mg x=none) (hv:bootBuiltins x=some (.builtin id)) (ha:MA X Θ (e::es) m)
  (hn:x ≠ "__name__" := by decide) (hdb:(x == ("__debug__" : Str))=false:=by decide) (he:jG e=true:=by rfl) (hpl:es.all jG=true:=by rfl) :
  ME X Θ (.Call (.Name x p) (e::es) [] pos) (M.zR f m):=(zKG hc hg hm hv ha hn hdb (jp he) (QZ hpl)).imp fun σ H Q ⟨ρ,σ',S,st,rp,h⟩=>⟨ρ,σ',S,st,rp,zI.bind h fun ρ1 H1 xs Xs S1 p1 l1 rp1 rx h1=>ad ρ1 H1 S1 xs Xs Q rp1 rx h1⟩
theorem ja {x:Str}{p:Pos}{id:String}{e:Expr}{es:List Expr}{f:M.F}{r:List V->Hp->VK->Prop}{m:M.AM} (hc:qj X (.builtin id) r) (ad:AdN X.K Θ f r) (hg:Gl X x) (hm:X.mg x=none) (hv:bootBuiltins x=some (.builtin id)) (ha:WA X Θ (e::es) m)
  (hn:x ≠ "__name__" := by decide) (hdb:(x == ("__debug__" : Str))=false:=by decide) (he:jG e=true:=by rfl) (hpl:es.all jG=true:=by rfl) :
  WE X Θ (.Call (.Name x p) (e::es) [] pos) (M.zR f m):=by with_unfolding_all exact zOg (x:=x) (p:=p) (id:=id) (e:=e) (es:=es) (f:=f) (r:=r) (m:=m) hc ad hg hm hv ha hn hdb he hpl
theorem zNW {x:Str}{p:Pos}{T:String}{e:Expr}{es:List Expr}{f:M.F}{r:List V->Hp->VK->Prop}{m:M.AM} (hc:qj X (.type T) r) (ad:AdN X.K Θ f r) (hg:Gl X x) (hm:X.mg x=none) (hv:bootBuiltins x=some (.type T)) (ha:MA X Θ (e::es) m)
  (hn:x ≠ "__name__" := by decide) (hdb:(x == ("__debug__" : Str))=false:=by decide) (he:jG e=true:=by rfl) (hpl:es.all jG=true:=by rfl) :
  ME X Θ (.Call (.Name x p) (e::es) [] pos) (M.zR f m):=(zM7 hc hg hm hv ha hn hdb (jp he) (QZ hpl)).imp fun σ H Q ⟨ρ,σ',S,st,rp,h⟩=>⟨ρ,σ',S,st,rp,zI.bind h fun ρ1 H1 xs Xs S1 p1 l1 rp1 rx h1=>ad ρ1 H1 S1 xs Xs Q rp1 rx h1⟩
theorem JT {x:Str}{p:Pos}{T:String}{e:Expr}{es:List Expr}{f:M.F}{r:List V->Hp->VK->Prop}{m:M.AM} (hc:qj X (.type T) r) (ad:AdN X.K Θ f r) (hg:Gl X x) (hm:X.mg x=none) (hv:bootBuiltins x=some (.type T)) (ha:WA X Θ (e::es) m)
  (hn:x ≠ "__name__" := by decide) (hdb:(x == ("__debug__" : Str))=false:=by decide) (he:jG e=true:=by rfl) (hpl:es.all jG=true:=by rfl) :
  WE X Θ (.Call (.Name x p) (e::es) [] pos) (M.zR f m):=by with_unfolding_all exact zNW (x:=x) (p:=p) (T:=T) (e:=e) (es:=es) (f:=f) (r:=r) (m:=m) hc ad hg hm hv ha hn hdb he hpl
theorem zLb {K:PySem.W.Frag}{ρ:List Addr}{H:Hp}{S:M.S}{k:M.Kd}{x:M.D}{v:V} (rp:zf K Θ ρ S H) (r:zS K ρ H x v) (h:M.zBM k x S=true):tyV K (yX k) v H:=by
 cases x with
 | str z=>obtain⟨rfl,_⟩:=r;cases k<;>first | rfl | cases h
 | ro ds =>
  obtain⟨a,xs,rfl,q,_⟩:=r
  cases k<;>first | exact .inl ⟨rfl,xs,q.sq⟩ | cases h
 | ref i =>
  obtain⟨a,rfl,e⟩:=r
  cases q:S[i]? with
  | none=>simp[M.zBM,q] at h
  | some o =>
   cases o with
   | lst xs =>
    obtain⟨b,e1,zs,e2,_⟩:=rp.obj _ _ q
    rw[e] at e1;cases e1
    cases k<;>first | exact .inl ⟨rfl,zs,SqL.of e2⟩ | simp[M.zBM,q] at h
   | dct xs =>
    obtain⟨b,e1,zs,e2,_⟩:=rp.obj _ _ q
    rw[e] at e1;cases e1
    cases k<;>first | exact .inr (.inr (.inl ⟨rfl,.inl ⟨zs,e2⟩⟩)) | simp[M.zBM,q] at h
   | fdc _=>simp[M.zBM,q] at h
   | ins c fs=>simp[M.zBM,q] at h
 | _=>cases h
theorem zUT {k:M.Kd}{T:String}{f:M.D->M.F}{r:V->List V->Hp->VK->Prop}{o e:Expr}{es:List Expr}{mo:M.EM}{m:M.AM}{name:Str}{apos cpos:Pos}{id:String} (pa:PlainAttrs T) (slot:Slot T name id) (hty:typeOf (.builtin id)=pure (.type "method_descriptor")) (hm:MtR X id r) (ad:AdM X.K Θ f r) (hT:T=yX k) (ho:ME X Θ o mo) (ha:MA X Θ (e::es) m)
  (hbase:attributeBase o name X.env (eval o X.env)=eval o X.env:=by rfl)
  (hfew:(e::es).length < 30:=by exact Nat.le_of_ble_eq_true rfl) (hline:(apos.endLine == cpos.line)=true:=by rfl) (hs:jG e=true:=by rfl) (hplain:es.all jG=true:=by rfl) :
  ME X Θ (.Call (.Attribute o name apos) (e::es) [] cpos) (M.eM k f mo m):=(zPz pa slot hty hm ho ha hbase (zKg (by rw[List.all_cons,hs,hplain];rfl) hfew) hline (jp hs) (QZ hplain)).imp fun σ H Q ⟨ρ,σ',S,st,rp,h⟩=>⟨ρ,σ',S,st,rp,zI.bind h fun ρ1 H1 x X1 S1 p1 l1 rp1 rx h1=>by
 cases ht:M.zBM k x S1 with
 | false=>rw[ht] at h1;exact h1.elim
 | true =>
  rw[ht] at h1
  exact⟨hT ▸ zLb rp1 rx ht,ρ1,σ',S1,st.mono p1 l1,rp1,zI.bind h1 fun ρ2 H2 xs Xs S2 p2 l2 rp2 rxs h2=>ad ρ2 H2 S2 x xs X1 Xs Q rp2 (rx.mono p2 l2) rxs h2⟩⟩
theorem ZD {k:M.Kd}{T:String}{f:M.D->M.F}{r:V->List V->Hp->VK->Prop}{o e:Expr}{es:List Expr}{mo:M.EM}{m:M.AM}{name:Str}{apos cpos:Pos}{id:String} (pa:PlainAttrs T) (slot:Slot T name id) (hty:typeOf (.builtin id)=pure (.type "method_descriptor")) (hm:MtR X id r) (ad:AdM X.K Θ f r) (hT:T=yX k) (ho:WE X Θ o mo) (ha:WA X Θ (e::es) m)
  (hbase:attributeBase o name X.env (eval o X.env)=eval o X.env:=by rfl)
  (hfew:(e::es).length < 30:=by exact Nat.le_of_ble_eq_true rfl) (hline:(apos.endLine == cpos.line)=true:=by rfl) (hs:jG e=true:=by rfl) (hplain:es.all jG=true:=by rfl) :
  WE X Θ (.Call (.Attribute o name apos) (e::es) [] cpos) (M.eM k f mo m):=by with_unfolding_all exact zUT (k:=k) (T:=T) (f:=f) (r:=r) (o:=o) (e:=e) (es:=es) (mo:=mo) (m:=m) (name:=name) (apos:=apos) (cpos:=cpos) (id:=id) pa slot hty hm ad hT ho ha hbase hfew hline hs hplain
theorem zTp {k:M.Kd}{T:String}{f:M.D->M.F}{r:V->List V->Hp->VK->Prop}{o:Expr}{mo:M.EM}{name:Str}{apos cpos:Pos}{id:String} (pa:PlainAttrs T) (slot:Slot T name id) (hty:typeOf (.builtin id)=pure (.type "method_descriptor")) (hm:MtR X id r) (ad:AdM X.K Θ f r) (hT:T=yX k) (ho:ME X Θ o mo)
  (hbase:attributeBase o name X.env (eval o X.env)=eval o X.env:=by rfl) (hline:(apos.endLine == cpos.line)=true:=by rfl) :
  ME X Θ (.Call (.Attribute o name apos) [] [] cpos) (M.eM k f mo M.zH):=(zSY pa slot hty hm ho hbase hline).imp fun σ H Q ⟨ρ,σ',S,st,rp,h⟩=>⟨ρ,σ',S,st,rp,zI.bind h fun ρ1 H1 x X1 S1 p1 l1 rp1 rx h1=>by
 cases ht:M.zBM k x S1 with
 | false=>rw[ht] at h1;exact h1.elim
 | true =>
  rw[ht] at h1
  exact⟨hT ▸ zLb rp1 rx ht,ad ρ1 H1 S1 x [] X1 [] Q rp1 rx rfl h1⟩⟩
theorem zIU {k:M.Kd}{T:String}{f:M.D->M.F}{r:V->List V->Hp->VK->Prop}{o:Expr}{mo:M.EM}{name:Str}{apos cpos:Pos}{id:String} (pa:PlainAttrs T) (slot:Slot T name id) (hty:typeOf (.builtin id)=pure (.type "method_descriptor")) (hm:MtR X id r) (ad:AdM X.K Θ f r) (hT:T=yX k) (ho:WE X Θ o mo)
  (hbase:attributeBase o name X.env (eval o X.env)=eval o X.env:=by rfl) (hline:(apos.endLine == cpos.line)=true:=by rfl) :
  WE X Θ (.Call (.Attribute o name apos) [] [] cpos) (M.eM k f mo M.zH):=by with_unfolding_all exact zTp (k:=k) (T:=T) (f:=f) (r:=r) (o:=o) (mo:=mo) (name:=name) (apos:=apos) (cpos:=cpos) (id:=id) pa slot hty hm ad hT ho hbase hline
end
end L2
namespace L2
open PySem PySem.Spec PyProof.Rows
noncomputable def jR (K:PySem.W.Frag) (Θ:Tab) (ρ:List Addr) (H:Hp):M.RS->zEH->Prop
 | .nx σ1 S1,D=>∀ ρ' H' σ,ρ <+: ρ'->Le H H'->zf K Θ ρ' S1 H'->j4 K ρ' H' σ1 σ->D.nx σ H'
 | .rt d S1,D=>∀ ρ' H' v,ρ <+: ρ'->Le H H'->zf K Θ ρ' S1 H'->zS K ρ' H' d v->D.rt v H'
 | .bk σ1 S1,D=>∀ ρ' H' σ,ρ <+: ρ'->Le H H'->zf K Θ ρ' S1 H'->j4 K ρ' H' σ1 σ->D.bk σ H'
 | .ct σ1 S1,D=>∀ ρ' H' σ,ρ <+: ρ'->Le H H'->zf K Θ ρ' S1 H'->j4 K ρ' H' σ1 σ->D.ct σ H'
 | .exc _ _ _,_=>False
 | .no,_=>False
noncomputable def RdS (K:PySem.W.Frag) (Θ:Tab) (m:M.SM):TS:=fun D σ H=>∃ ρ σ' S,j4 K ρ H σ' σ/\zf K Θ ρ S H/\jR K Θ ρ H (m σ' S) D
noncomputable abbrev MS (X:Cx) (Θ:Tab) (st:Stmt) (m:M.SM):Prop:=PS X st (RdS X.K Θ m)
@[irreducible] noncomputable def WS (X:Cx) (Θ:Tab) (st:Stmt) (m:M.SM):Prop:=MS X Θ st m
noncomputable abbrev MSs (X:Cx) (Θ:Tab) (st:List Stmt) (m:M.SM):Prop:=PSs X st (RdS X.K Θ m)
@[irreducible] noncomputable def WSs (X:Cx) (Θ:Tab) (st:List Stmt) (m:M.SM):Prop:=MSs X Θ st m
theorem PS.imp {X:Cx}{e:Stmt}{t t':TS} (h:PS X e t) (i:∀ D σ H,t' D σ H->t D σ H):PS X e t':=fun pins s σ H D I q=>h pins s σ H D I (i D σ H q)
theorem PSs.imp {X:Cx}{e:List Stmt}{t t':TS} (h:PSs X e t) (i:∀ D σ H,t' D σ H->t D σ H):PSs X e t':=fun pins s σ H D I q=>h pins s σ H D I (i D σ H q)
section
variable {K:PySem.W.Frag}{Θ:Tab}{ρ ρ':List Addr}{H H':Hp}{S:M.S}{α β:Type}{Rl:List Addr->Hp->α->β->Prop}{Q:β->Hp->Prop}{D D':zEH}
theorem jR.weak {r:M.RS} (h:jR K Θ ρ H r D) (hρ:ρ <+: ρ') (le:Le H H'):jR K Θ ρ' H' r D:=by
 cases r with
 | nx a s=>exact fun ρ2 H2 b p l=>h ρ2 H2 b (hρ.trans p) (le.trans l)
 | rt a s=>exact fun ρ2 H2 b p l=>h ρ2 H2 b (hρ.trans p) (le.trans l)
 | bk a s=>exact fun ρ2 H2 b p l=>h ρ2 H2 b (hρ.trans p) (le.trans l)
 | ct a s=>exact fun ρ2 H2 b p l=>h ρ2 H2 b (hρ.trans p) (le.trans l)
 | exc e a s=>exact h
 | no=>exact h
theorem jR.stm {r:M.R α}{σ:M.St}{f:α->M.S->M.RS} (h:jR K Θ ρ H (r.stm σ f) D)
  (k:∀ ρ' H' a b S',ρ <+: ρ'->Le H H'->zf K Θ ρ' S' H'->Rl ρ' H' a b->jR K Θ ρ' H' (f a S') D->Q b H'):zI K Θ Rl ρ H r Q:=by
 cases r with
 | ok a s=>exact fun ρ2 H2 b p l rp rl=>k ρ2 H2 a b s p l rp rl (jR.weak h p l)
 | exc e s=>exact h
 | no=>exact h
theorem jR.nx {σ1:M.St}{σ:St} (h:jR K Θ ρ H (.nx σ1 S) D) (rp:zf K Θ ρ S H) (st:j4 K ρ H σ1 σ):D.nx σ H:=h ρ H σ (List.prefix_refl _) (Le.refl _) rp st
theorem jR.rt {d:M.D}{v:V} (h:jR K Θ ρ H (.rt d S) D) (rp:zf K Θ ρ S H) (r:zS K ρ H d v):D.rt v H:=h ρ H v (List.prefix_refl _) (Le.refl _) rp r
end
section
variable {X:Cx}{Θ:Tab}{e:Expr}{pos:Pos}{m:M.EM}{st:Stmt}{qu:List Stmt}{ms mr:M.SM}
theorem zQE:MSs X Θ [] M.jq:=zP5.imp fun D σ H ⟨ρ,σ',S,st,rp,h⟩=>h.nx rp st
theorem z9:WSs X Θ [] M.jq:=by with_unfolding_all exact zQE
theorem zP4 (h:MS X Θ st ms):MSs X Θ [st] ms:=zQK h
theorem zG (h:WS X Θ st ms):WSs X Θ [st] ms:=by with_unfolding_all exact zP4 h
theorem zON (h1:MS X Θ st ms) (h2:MSs X Θ qu mr):MSs X Θ (st::qu) (M.zK ms mr):=(zOs h1 h2).imp fun D σ H ⟨ρ,σ',S,st,rp,h⟩=>⟨ρ,σ',S,st,rp,by
 have h':jR X.K Θ ρ H ((ms σ' S).then mr) D:=h
 revert h'
 cases ms σ' S with
 | nx a s=>exact fun h' ρ2 H2 σ2 p l rp2 st2=>⟨ρ2,a,s,st2,rp2,jR.weak h' p l⟩
 | rt a s=>exact fun h'=>h'
 | bk a s=>exact fun h'=>h'
 | ct a s=>exact fun h'=>h'
 | exc e a s=>exact fun h'=>h'
 | no=>exact fun h'=>h'⟩
theorem zJ (h1:WS X Θ st ms) (h2:WSs X Θ qu mr):WSs X Θ (st::qu) (M.zK ms mr):=by with_unfolding_all exact zON h1 h2
theorem zQr (he:ME X Θ e m) (hs:swapsWith e none pos.line X.env=pure false:=by rfl):MS X Θ (.Expr e pos) (M.qc m):=(zQS he hs).imp fun D σ H ⟨ρ,σ',S,st,rp,h⟩=>⟨ρ,σ',S,st,rp,jR.stm h fun ρ1 H1 x X1 S1 p1 l1 rp1 rx h1=>h1.nx rp1 (st.mono p1 l1)⟩
theorem jc (he:WE X Θ e m) (hs:swapsWith e none pos.line X.env=pure false:=by rfl):WS X Θ (.Expr e pos) (M.qc m):=by with_unfolding_all exact zQr he hs
theorem zS5 (he:ME X Θ e m):MS X Θ (.Return (some e) pos) (M.jN m):=(zSV he).imp fun D σ H ⟨ρ,σ',S,st,rp,h⟩=>⟨ρ,σ',S,st,rp,jR.stm h fun ρ1 H1 x X1 S1 p1 l1 rp1 rx h1=>h1.rt rp1 rx⟩
theorem zX (he:WE X Θ e m):WS X Θ (.Return (some e) pos) (M.jN m):=by with_unfolding_all exact zS5 he
theorem zRc {i:Nat}{x:Str}{pos':Pos} (hN:X.N.Nodup) (hi:X.N[i]? = some x) (hx:Loc X.env.scope x) (he:ME X Θ e m) (hs:swapsWith e (some (.Name x pos')) pos.line X.env=pure false:=by kernel_rfl) (hf:X.fn x=true\/X.env.scope.names.lookup x=some .local:=by first | exact .inl rfl | exact .inr rfl | assumption) :
  MS X Θ (.Assign [.Name x pos'] e pos) (M.jD i m):=(zTA hN hi hx he hs hf).imp fun D σ H ⟨ρ,σ',S,st,rp,h⟩=>⟨ρ,σ',S,st,rp,jR.stm h fun ρ1 H1 x X1 S1 p1 l1 rp1 rx h1=>h1.nx rp1 ((st.mono p1 l1).set rx i)⟩
theorem zg {i:Nat}{x:Str}{pos':Pos} (hN:X.N.Nodup) (hi:X.N[i]? = some x) (hx:Loc X.env.scope x) (he:WE X Θ e m) (hs:swapsWith e (some (.Name x pos')) pos.line X.env=pure false:=by kernel_rfl) (hf:X.fn x=true\/X.env.scope.names.lookup x=some .local:=by first | exact .inl rfl | exact .inr rfl | assumption) :
  WS X Θ (.Assign [.Name x pos'] e pos) (M.jD i m):=by with_unfolding_all exact zRc (i:=i) (x:=x) (pos':=pos') hN hi hx he hs hf
theorem zTi {c:Expr}{a b:List Stmt}{tc:M.TM}{ma mb:M.SM} (hc:MT X Θ c tc) (ha:MSs X Θ a ma) (hb:MSs X Θ b mb):MS X Θ (.If c a b pos) (M.sIf tc ma mb):=(zTH hc ha hb).imp fun D σ H ⟨ρ,σ',S,st,rp,h⟩=>⟨ρ,σ',S,st,rp,jR.stm h fun ρ1 H1 k k' S1 p1 l1 rp1 ek h1=>by
 cases ek
 cases k with
 | true=>exact zEr ⟨ρ1,σ',S1,st.mono p1 l1,rp1,h1⟩
 | false=>exact zE9 ⟨ρ1,σ',S1,st.mono p1 l1,rp1,h1⟩⟩
theorem zc {c:Expr}{a b:List Stmt}{tc:M.TM}{ma mb:M.SM} (hc:WT X Θ c tc) (ha:WSs X Θ a ma) (hb:WSs X Θ b mb):WS X Θ (.If c a b pos) (M.sIf tc ma mb):=by with_unfolding_all exact zTi (c:=c) (a:=a) (b:=b) (tc:=tc) (ma:=ma) (mb:=mb) hc ha hb
theorem zOZ:MS X Θ st (fun _ _=>.no):=zO3.imp fun D σ H ⟨ρ,σ',S,st,rp,h⟩=>h.elim
end
noncomputable def RdG (K:PySem.W.Frag) (Θ:Tab) (js:List Nat) (g:M.GM):TG:=fun v σ H Q=>∃ ρ σ' S d,j4 K ρ H σ' σ/\zf K Θ ρ S H/\zS K ρ H d v/\∃ σ1,g d σ'=some σ1 /\
 ∀ H' σ2,Le H H'->zf K Θ ρ S H'->j4 K ρ H' σ1 σ2->σ2.length=σ.length->(∀ j,j∉js->σ2[j]? = σ[j]?)->Q σ2 H'
noncomputable abbrev MG (X:Cx) (Θ:Tab) (js:List Nat) (tg:Expr) (g:M.GM):Prop:=PG X tg (RdG X.K Θ js g)
@[irreducible] noncomputable def WG (X:Cx) (Θ:Tab) (js:List Nat) (tg:Expr) (g:M.GM):Prop:=MG X Θ js tg g
theorem PG.imp {X:Cx}{e:Expr}{t t':TG} (h:PG X e t) (i:∀ v σ H Q,t' v σ H Q->t v σ H Q):PG X e t':=fun pins s σ H v u Q I r q=>h pins s σ H v u Q I r (i v σ H Q q)
theorem zQi {X:Cx}{Θ:Tab}{pos:Pos}{i:Nat}{x:Str} (hN:X.N.Nodup) (hi:X.N[i]? = some x) (hx:Loc X.env.scope x) (hf:X.fn x=true\/X.env.scope.names.lookup x=some .local:=by first | exact .inl rfl | exact .inr rfl | assumption) :
  MG X Θ [i] (.Name x pos) (M.jl i):=(zQ5 hN hi hx hf).imp fun v σ H Q ⟨ρ,σ',S,d,st,rp,rv,σ1,e,h⟩=>by
 cases e
 exact h H _ (Le.refl _) rp (st.set rv i) (by rw[List.length_set]) fun j hj=>List.getElem?_set_ne (fun z=>hj (by rw[z];simp))
theorem yO {X:Cx}{Θ:Tab}{pos:Pos}{i:Nat}{x:Str} (hN:X.N.Nodup) (hi:X.N[i]? = some x) (hx:Loc X.env.scope x) (hf:X.fn x=true\/X.env.scope.names.lookup x=some .local:=by first | exact .inl rfl | exact .inr rfl | assumption) :
  WG X Θ [i] (.Name x pos) (M.jl i):=by with_unfolding_all exact zQi (X:=X) (Θ:=Θ) (pos:=pos) (i:=i) (x:=x) hN hi hx hf
structure ItR (K:PySem.W.Frag) (Θ:Tab) (ρ:List Addr) (H:Hp) (J:It) (xs:List M.D) (g:M.Gd):Prop where
 go:∀ (i:Nat) ρ' S' H',ρ <+: ρ'->Le H H'->zf K Θ ρ' S' H'->M.jT g S'=true->i < xs.length->J.go i H'
 yld:∀ (i:Nat) ρ' S' H' v H2,ρ <+: ρ'->Le H H'->zf K Θ ρ' S' H'->M.jT g S'=true->i < xs.length->J.yld i H' v H2->∃ d,xs[i]? = some d/\zS K ρ' H2 d v/\Le H' H2/\zf K Θ ρ' S' H2
 stop:∀ ρ' S' H',ρ <+: ρ'->Le H H'->zf K Θ ρ' S' H'->M.jT g S'=true->J.stop xs.length H'
noncomputable def RdI (K:PySem.W.Frag) (Θ:Tab) (m:M.IM):TI:=fun σ H R=>∃ ρ σ' S,j4 K ρ H σ' σ/\zf K Θ ρ S H /\
 zI K Θ (fun ρ' H' (p:List M.D×M.Gd) (J:It)=>ItR K Θ ρ' H' J p.1 p.2) ρ H ((m σ' S).bind fun p s=>if M.jT p.2 s then .ok p s else .no) R
noncomputable abbrev MI (X:Cx) (Θ:Tab) (tg iter:Expr) (m:M.IM):Prop:=PI X tg iter (RdI X.K Θ m)
@[irreducible] noncomputable def WI (X:Cx) (Θ:Tab) (tg iter:Expr) (m:M.IM):Prop:=MI X Θ tg iter m
theorem PI.imp {X:Cx}{tg e:Expr}{t t':TI} (h:PI X tg e t) (i:∀ σ H R,t' σ H R->t σ H R):PI X tg e t':=fun pins s σ H R I q=>h pins s σ H R I (i σ H R q)
theorem PI.or {X:Cx}{tg e:Expr}{t t':TI} (h:PI X tg e t) (h':PI X tg e t'):PI X tg e (fun σ H R=>t σ H R\/t' σ H R):=fun pins s σ H R I q=>by
 rcases q with q | q
 ·exact h pins s σ H R I q
 ·exact h' pins s σ H R I q
section
variable {X:Cx}{Θ:Tab}{tg e:Expr}{m:M.EM}
theorem zOr {K:PySem.W.Frag}{ρ:List Addr}{H:Hp}{i:Nat}{a:Addr}{ds:List M.D} (ha:ρ[i]? = some a):ItR K Θ ρ H (Itl K a) ds [(i,.lst ds)]:=by
 have key:∀ {ρ':List Addr}{S':M.S}{H':Hp},ρ <+: ρ'->zf K Θ ρ' S' H'->M.jT [(i,.lst ds)] S'=true->∃ zs,H' a=some (.lst zs)/\zT K ρ' H' ds zs:=fun {ρ' S' H'} p rp g=>by
  have g':S'[i]? = some (M.O.lst ds):=by simpa [M.jT] using g
  obtain⟨b,e1,zs,e2,r⟩:=rp.obj i _ g'
  rw[zCC p ha] at e1;cases e1
  exact⟨zs,e2,r⟩
 refine⟨fun j ρ' S' H' p l rp g hj=>?_,fun j ρ' S' H' v H2 p l rp g hj y=>?_,fun ρ' S' H' p l rp g=>?_⟩
 ·obtain⟨zs,e,r⟩:=key p rp g
  obtain⟨v,e1,_⟩:=r.get (i:=j) (d:=ds[j]) (by simp[hj])
  exact⟨zs,v,SqL.of e,e1⟩
 ·obtain⟨zs,e,r⟩:=key p rp g
  obtain⟨v',e1,rv⟩:=r.get (i:=j) (d:=ds[j]) (by simp[hj])
  obtain⟨rfl,y2⟩:=y
  have y3:=y2 zs (SqL.of e)
  rw[e1] at y3;cases y3
  exact⟨ds[j],by simp[hj],rv,Le.refl _,rp⟩
 ·obtain⟨zs,e,r⟩:=key p rp g
  exact⟨zs,SqL.of e,Nat.le_of_eq r.length.symm⟩
theorem zSb {K:PySem.W.Frag}{ρ:List Addr}{H:Hp}{a:Addr}{ds:List M.D}{xs:List V} (hq:zIW K H a xs) (r:zT K ρ H ds xs):ItR K Θ ρ H (Itl K a) ds []:=by
 refine⟨fun j ρ' S' H' p l rp g hj=>?_,fun j ρ' S' H' v H2 p l rp g hj y=>?_,fun ρ' S' H' p l rp g=>?_⟩
 ·obtain⟨v,e1,_⟩:=r.get (i:=j) (d:=ds[j]) (by simp[hj])
  exact⟨xs,v,(l.rol hq).sq,e1⟩
 ·obtain⟨v',e1,rv⟩:=(r.mono p l).get (i:=j) (d:=ds[j]) (by simp[hj])
  obtain⟨rfl,y2⟩:=y
  have y3:=y2 xs (l.rol hq).sq
  rw[e1] at y3;cases y3
  exact⟨ds[j],by simp[hj],rv,Le.refl _,rp⟩
 ·exact⟨xs,(l.rol hq).sq,Nat.le_of_eq r.length.symm⟩
theorem zQQ {K:PySem.W.Frag}{ρ:List Addr}{H:Hp}{a:Addr}{ds:List M.D}{xs:List V} (hq:SqT K H a xs) (r:zT K ρ H ds xs):ItR K Θ ρ H (Itt K a) ds []:=by
 refine⟨fun j ρ' S' H' p l rp g hj=>?_,fun j ρ' S' H' v H2 p l rp g hj y=>?_,fun ρ' S' H' p l rp g=>?_⟩
 ·obtain⟨v,e1,_⟩:=r.get (i:=j) (d:=ds[j]) (by simp[hj])
  exact⟨xs,v,l.sqT hq,e1⟩
 ·obtain⟨v',e1,rv⟩:=(r.mono p l).get (i:=j) (d:=ds[j]) (by simp[hj])
  obtain⟨rfl,y2⟩:=y
  have y3:=y2 xs (l.sqT hq)
  rw[e1] at y3;cases y3
  exact⟨ds[j],by simp[hj],rv,Le.refl _,rp⟩
 ·exact⟨xs,l.sqT hq,Nat.le_of_eq r.length.symm⟩
theorem zP3 {K:PySem.W.Frag}{ρ:List Addr}{H:Hp}{x:M.T} (ok:okT x):ItR K Θ ρ H (Its (ofT x)) (x.map fun c=>.str [c]) []:=by
 refine⟨fun j ρ' S' H' p l rp g hj=>?_,fun j ρ' S' H' v H2 p l rp g hj y=>?_,fun ρ' S' H' p l rp g=>?_⟩
 ·rw[List.length_map] at hj
  show j < (ofT x).length
  rw[qC];exact hj
 ·obtain⟨rfl,c,hc,rfl⟩:=y
  have hc':x[j]? = some c:=by simpa [ofT] using hc
  exact⟨.str [c],by rw[List.getElem?_map,hc'];rfl,⟨rfl,zB7 ok fun d hd=>by rw[List.mem_singleton.mp hd];exact List.mem_of_getElem? hc'⟩,Le.refl _,rp⟩
 ·show (ofT x).length <= _
  rw[qC,List.length_map];exact Nat.le_refl _
theorem zNT {K:PySem.W.Frag}{ρ:List Addr}{H:Hp}{lo hi:Int}:ItR K Θ ρ H (Itr lo (hi - lo).toNat) (M.y0 lo hi) []:=by
 refine⟨fun j ρ' S' H' p l rp g hj=>?_,fun j ρ' S' H' v H2 p l rp g hj y=>?_,fun ρ' S' H' p l rp g=>?_⟩
 ·show j < _
  simpa [M.y0] using hj
 ·obtain⟨rfl,rfl⟩:=y
  have hj':j < (hi - lo).toNat:=by simpa [M.y0] using hj
  exact⟨.int (lo+j),by unfold M.y0;rw[List.getElem?_map,List.getElem?_range hj'];rfl,rfl,Le.refl _,rp⟩
 ·show _ <= _
  simp[M.y0]
theorem zUF (he:ME X Θ e m):MI X Θ tg e (M.iE m):=(PI.or (zP2 he) (PI.or (zRm he) (zSd he))).imp fun σ H R ⟨ρ,σ',S,st,rp,h⟩=>by
 have h':zI X.K Θ _ ρ H (((m σ' S).bind M.itD).bind fun p s=>if M.jT p.2 s then .ok p s else .no) R:=h
 clear h
 cases hm:m σ' S with
 | no=>rw[hm] at h';exact h'.elim
 | exc a s=>rw[hm] at h';exact h'.elim
 | ok d S1 =>
  rw[hm] at h'
  have go:∀ {Q:VK},(∀ ρ1 H1 v,ρ <+: ρ1->Le H H1->zf X.K Θ ρ1 S1 H1->zS X.K ρ1 H1 d v->Q v H1)->RdE X.K Θ m σ H Q:=fun q=>⟨ρ,σ',S,st,rp,by rw[hm];exact q⟩
  cases d with
  | str x =>
   refine .inr (.inr (go fun ρ1 H1 v p l rp1 rv=>?_))
   have h2:zI X.K Θ _ ρ H ((if x.length <= M.SZ then .ok (x.map fun c=>M.D.str [c],[]) S1 else M.R.no).bind fun p s=>if M.jT p.2 s then .ok p s else .no) R:=h'
   by_cases hl:x.length <= M.SZ
   ·rw[if_pos hl] at h2
    exact⟨ofT x,rv.1,h2 ρ1 H1 _ p l rp1 (zP3 rv.2)⟩
   ·rw[if_neg hl] at h2
    exact h2.elim
  | tup ds =>
   refine .inr (.inl (go fun ρ1 H1 v p l rp1 rv=>?_))
   obtain⟨a,xs,rfl,hq,r⟩:=rv
   exact⟨a,rfl,⟨xs,hq⟩,h' ρ1 H1 _ p l rp1 (zQQ hq r)⟩
  | ro ds =>
   refine .inl (go fun ρ1 H1 v p l rp1 rv=>?_)
   obtain⟨a,xs,rfl,hq,r⟩:=rv
   exact⟨a,rfl,⟨xs,hq.sq⟩,h' ρ1 H1 _ p l rp1 (zSb hq r)⟩
  | ref i =>
   have h2:zI X.K Θ _ ρ H ((match S1[i]? with
    | some (.lst xs)=>M.R.ok (xs,[(i,M.O.lst xs)]) S1
    | _=>.no).bind fun p s=>if M.jT p.2 s then .ok p s else .no) R:=h'
   cases q:S1[i]? with
   | none=>rw[q] at h2;exact h2.elim
   | some o =>
    rw[q] at h2
    cases o with
    | lst xs =>
     refine .inl (go fun ρ1 H1 v p l rp1 rv=>?_)
     obtain⟨a,rfl,e1⟩:=rv
     obtain⟨b,e2,zs,e3,r⟩:=rp1.obj i _ q
     rw[e1] at e2;cases e2
     have hg:M.jT [(i,M.O.lst xs)] S1=true:=by simp[M.jT,q]
     have h3:zI X.K Θ _ ρ H (if M.jT [(i,M.O.lst xs)] S1 then M.R.ok (xs,[(i,M.O.lst xs)]) S1 else .no) R:=h2
     rw[if_pos hg] at h3
     exact⟨a,rfl,⟨zs,SqL.of e3⟩,h3 ρ1 H1 _ p l rp1 (zOr e1)⟩
    | dct kvs=>exact h2.elim
    | fdc _=>exact h2.elim
    | ins c fs=>exact h2.elim
  | non=>exact h'.elim
  | bl b=>exact h'.elim
  | int b=>exact h'.elim
  | ty b=>exact h'.elim
theorem zDk (he:WE X Θ e m):WI X Θ tg e (M.iE m):=by with_unfolding_all exact zUF he
theorem zNP {p pos:Pos} (hg:Gl X "range") (hm:X.mg "range" = none) (he:ME X Θ e m) (hs:jG e=true:=by rfl):MI X Θ tg (.Call (.Name "range" p) [e] [] pos) (M.qe m) :=
 (zM6 hg hm (zIF he zK0 hs) (jp hs)).imp fun σ H R ⟨ρ,σ',S,st,rp,h⟩=>⟨ρ,σ',S,st,rp,by
  have h':zI X.K Θ _ ρ H (((m σ' S).bind fun x s=>match x with
   | .int j=>if j.natAbs < 4611686018427387904 then M.R.ok (M.y0 0 j,([]:M.Gd)) s else .no
   | _=>.no).bind fun p s=>if M.jT p.2 s then .ok p s else .no) R:=h
  show zI X.K Θ _ ρ H ((m σ' S).bind fun x s=>(M.R.ok [] s).bind fun xs s=>.ok (x::xs) s) _
  cases hm:m σ' S with
  | no=>rw[hm] at h';exact h'.elim
  | exc a s=>rw[hm] at h';exact h'.elim
  | ok d S1 =>
   rw[hm] at h'
   intro ρ1 H1 vs p l rp1 rv
   obtain⟨v,ys,rfl,rv,hy⟩:=rv
   cases hy
   cases d with
   | int j =>
    cases rv
    have h2:zI X.K Θ _ ρ H ((if j.natAbs < 4611686018427387904 then M.R.ok (M.y0 0 j,([]:M.Gd)) S1 else .no).bind fun p s=>if M.jT p.2 s then .ok p s else .no) R:=h'
    by_cases hj:j.natAbs < 4611686018427387904
    ·rw[if_pos hj] at h2
     refine⟨j,rfl,by omega,by omega,?_⟩
     have:=h2 ρ1 H1 _ p l rp1 (zNT (lo:=0) (hi:=j))
     rw[Int.sub_zero] at this
     exact this
    ·rw[if_neg hj] at h2
     exact h2.elim
   | _=>exact h'.elim⟩
theorem JR {p pos:Pos} (hg:Gl X "range") (hm:X.mg "range" = none) (he:WE X Θ e m) (hs:jG e=true:=by rfl):WI X Θ tg (.Call (.Name "range" p) [e] [] pos) (M.qe m):=by with_unfolding_all exact zNP (p:=p) (pos:=pos) hg hm he hs
end
section
variable {X:Cx}{Θ:Tab}{pos:Pos}
theorem zOe {c:Expr}{body:List Stmt}{tc:M.TM}{mb:M.SM} (hp:PassesOwn (model X.prog X.w) X.A X.env X.xe) (hc:MT X Θ c tc) (hb:MSs X Θ body mb):MS X Θ (.While c body [] pos) (M.zDg tc mb) :=
 (zOw hp hc hb).imp fun D σ H ⟨ρ,σ',S,st,rp,h⟩=>by
  refine⟨fun k σ2 H2=>∃ ρ2 σ2' S2,j4 X.K ρ2 H2 σ2' σ2/\zf X.K Θ ρ2 S2 H2/\jR X.K Θ ρ2 H2 (M.qQ k tc mb σ2' S2) D,⟨M.zEv,ρ,σ',S,st,rp,h⟩,?_⟩
  rintro k σ2 H2 ⟨ρ2,σ2',S2,st2,rp2,h2⟩
  cases k with
  | zero=>exact h2.elim
  | succ k =>
   refine⟨ρ2,σ2',S2,st2,rp2,jR.stm h2 fun ρ3 H3 b b' S3 p3 l3 rp3 eb h3=>?_⟩
   cases eb
   cases b with
   | false=>exact zE9 (jR.nx (σ:=σ2) h3 rp3 (st2.mono p3 l3))
   | true =>
    refine zEr ⟨fun σ4 H4=>∃ ρ4 σ4' S4,j4 X.K ρ4 H4 σ4' σ4/\zf X.K Θ ρ4 S4 H4/\jR X.K Θ ρ4 H4 (M.qQ k tc mb σ4' S4) D,fun σ4 H4 q=>⟨k,Nat.lt_succ_self k,q⟩,ρ3,σ2',S3,st2.mono p3 l3,rp3,?_⟩
    have h4:jR X.K Θ ρ3 H3 (match mb σ2' S3 with
     | .nx σ s=>M.qQ k tc mb σ s
     | .ct σ s=>M.qQ k tc mb σ s
     | .bk σ s=>.nx σ s
     | r=>r) D:=h3
    revert h4
    cases mb σ2' S3 with
    | nx a s=>exact fun h4 ρ4 H4 σ4 p4 l4 rp4 st4=>⟨ρ4,a,s,st4,rp4,jR.weak h4 p4 l4⟩
    | ct a s=>exact fun h4 ρ4 H4 σ4 p4 l4 rp4 st4=>⟨ρ4,a,s,st4,rp4,jR.weak h4 p4 l4⟩
    | bk a s=>exact fun h4=>h4
    | rt a s=>exact fun h4=>h4
    | exc e a s=>exact fun h4=>h4
    | no=>exact fun h4=>h4
theorem zHO {c:Expr}{body:List Stmt}{tc:M.TM}{mb:M.SM} (hp:PassesOwn (model X.prog X.w) X.A X.env X.xe) (hc:WT X Θ c tc) (hb:WSs X Θ body mb):WS X Θ (.While c body [] pos) (M.zDg tc mb):=by with_unfolding_all exact zOe (c:=c) (body:=body) (tc:=tc) (mb:=mb) hp hc hb
theorem zTg {K:PySem.W.Frag}{g:M.GM}{js:List Nat}{mb:M.SM}{xs:List M.D}{gd:M.Gd}{J:It}{ρ1:List Addr}{H1:Hp}{σ:St}{σ':M.St}{S1:M.S}{D:zEH} (itr:ItR K Θ ρ1 H1 J xs gd) (st:j4 K ρ1 H1 σ' σ) (rp1:zf K Θ ρ1 S1 H1) (hgd:M.jT gd S1=true) (h2:jR K Θ ρ1 H1 (M.Qv gd (M.zAB g mb) xs σ' S1) D) :
  ∃ W:Nat->Nat->St->Hp->Prop,(∃ m,W 0 m σ H1)/\∀ i m σ H,W i m σ H ->
   (J.stop i H/\D.nx σ H)\/(J.go i H/\∃ N:St->Hp->Prop,(∀ σ' H',N σ' H'->∃ m',m' < m/\W (i+1) m' σ' H')/\∀ x H',J.yld i H x H'->RdG K Θ js g x σ H' fun σ2 H2=>RdS K Θ mb { D with nx:=N,ct:=N,bk:=D.nx } σ2 H2):=by
 refine⟨fun i k σ2 H2=>∃ ρ2 σ2' S2,ρ1 <+: ρ2/\Le H1 H2/\j4 K ρ2 H2 σ2' σ2/\zf K Θ ρ2 S2 H2/\M.jT gd S2=true/\k=xs.length - i/\i <= xs.length/\jR K Θ ρ2 H2 (M.Qv gd (M.zAB g mb) (xs.drop i) σ2' S2) D,
  ⟨xs.length,ρ1,σ',S1,List.prefix_refl _,Le.refl _,st,rp1,hgd,rfl,Nat.zero_le _,h2⟩,?_⟩
 rintro i k σ2 H2 ⟨ρ2,σ2',S2,p2,l2,st2,rp2,g2,rfl,hi2,h3⟩
 by_cases hlt:i < xs.length
 ·refine .inr ⟨itr.go i ρ2 S2 H2 p2 l2 rp2 g2 hlt,fun σ3 H3=>∃ ρ3 σ3' S3,ρ1 <+: ρ3/\Le H1 H3/\j4 K ρ3 H3 σ3' σ3/\zf K Θ ρ3 S3 H3/\M.jT gd S3=true/\jR K Θ ρ3 H3 (M.Qv gd (M.zAB g mb) (xs.drop (i+1)) σ3' S3) D,
   fun σ3 H3 ⟨ρ3,σ3',S3,a1,a2,a3,a4,a5,a6⟩=>⟨xs.length - (i+1),by omega,ρ3,σ3',S3,a1,a2,a3,a4,a5,rfl,hlt,a6⟩,fun x H' y=>?_⟩
  obtain⟨d,ed,rd,ld,rpd⟩:=itr.yld i ρ2 S2 H2 x H' p2 l2 rp2 g2 hlt y
  have edr:xs.drop i=d::xs.drop (i+1):=by
   obtain⟨_,e⟩:=List.getElem?_eq_some_iff.mp ed
   rw[List.drop_eq_getElem_cons hlt,e]
  rw[edr] at h3
  have h4:jR K Θ ρ2 H2 (match (match g d σ2' with | some σ'=>mb σ' S2 | none=>M.RS.no) with
   | .nx σ s=>if M.jT gd s then M.Qv gd (M.zAB g mb) (xs.drop (i+1)) σ s else .no
   | .ct σ s=>if M.jT gd s then M.Qv gd (M.zAB g mb) (xs.drop (i+1)) σ s else .no
   | .bk σ s=>.nx σ s
   | r=>r) D:=h3
  cases hgq:g d σ2' with
  | none=>rw[hgq] at h4;exact h4.elim
  | some σ1 =>
   rw[hgq] at h4
   refine⟨ρ2,σ2',S2,d,st2.mono (List.prefix_refl _) ld,rpd,rd,σ1,hgq,fun H'' σ3 le3 rp3 st3 _ _=>⟨ρ2,σ1,S2,st3,rp3,?_⟩⟩
   have h5:=jR.weak h4 (List.prefix_refl _) (ld.trans le3)
   have h6:jR K Θ ρ2 H'' (match mb σ1 S2 with
    | .nx σ s=>if M.jT gd s then M.Qv gd (M.zAB g mb) (xs.drop (i+1)) σ s else .no
    | .ct σ s=>if M.jT gd s then M.Qv gd (M.zAB g mb) (xs.drop (i+1)) σ s else .no
    | .bk σ s=>.nx σ s
    | r=>r) D:=h5
   have more:∀ (a:M.St) (s:M.S),jR K Θ ρ2 H'' (if M.jT gd s then M.Qv gd (M.zAB g mb) (xs.drop (i+1)) a s else .no) D->∀ ρ4 H4 σ4,ρ2 <+: ρ4->Le H'' H4->zf K Θ ρ4 s H4->j4 K ρ4 H4 a σ4 ->
     ∃ ρ3 σ3' S3,ρ1 <+: ρ3/\Le H1 H4/\j4 K ρ3 H4 σ3' σ4/\zf K Θ ρ3 S3 H4/\M.jT gd S3=true/\jR K Θ ρ3 H4 (M.Qv gd (M.zAB g mb) (xs.drop (i+1)) σ3' S3) D:=fun a s h7 ρ4 H4 σ4 p4 l4 rp4 st4=>by
    by_cases hs:M.jT gd s=true
    ·rw[if_pos hs] at h7
     exact⟨ρ4,a,s,p2.trans p4,l2.trans (ld.trans (le3.trans l4)),st4,rp4,hs,jR.weak h7 p4 l4⟩
    ·rw[if_neg hs] at h7;exact h7.elim
   revert h6
   cases mb σ1 S2 with
   | nx a s=>exact fun h6=>more a s h6
   | ct a s=>exact fun h6=>more a s h6
   | bk a s=>exact fun h6=>h6
   | rt a s=>exact fun h6=>h6
   | exc e a s=>exact fun h6=>h6
   | no=>exact fun h6=>h6
 ·have e:i=xs.length:=by omega
  subst e
  rw[List.drop_length] at h3
  exact .inl ⟨itr.stop ρ2 S2 H2 p2 l2 rp2 g2,jR.nx (σ:=σ2) h3 rp2 st2⟩
theorem zS1 {tg iter:Expr}{body:List Stmt}{it:M.IM}{g:M.GM}{js:List Nat}{mb:M.SM} (hp:PassesOwn (model X.prog X.w) X.A X.env X.xe) (hc:X.calm=true) (hi:MI X Θ tg iter it) (hg:MG X Θ js tg g) (hb:MSs X Θ body mb)
  (hs:∀ x,foldedSetIterable iter X.env x=pure x:=by intro _;rfl):MS X Θ (.For tg iter body [] pos) (M.zAE it g mb) :=
 (zSu hp hc hi hg hb hs).imp fun D σ H ⟨ρ,σ',S,st,rp,h⟩=>⟨ρ,σ',S,st,rp,by
  have h':jR X.K Θ ρ H ((it σ' S).stm σ' fun p s=>if M.jT p.2 s=true then M.Qv p.2 (M.zAB g mb) p.1 σ' s else .no) D:=h
  cases hit:it σ' S with
  | no=>rw[hit] at h';exact h'.elim
  | exc a s=>rw[hit] at h';exact h'.elim
  | ok p S1 =>
   rw[hit] at h'
   obtain⟨xs,gd⟩:=p
   show zI X.K Θ _ ρ H (if M.jT gd S1 then M.R.ok (xs,gd) S1 else .no) _
   have h2:jR X.K Θ ρ H (if M.jT gd S1=true then M.Qv gd (M.zAB g mb) xs σ' S1 else .no) D:=h'
   by_cases hgd:M.jT gd S1=true
   case neg=>rw[if_neg hgd] at h2;exact h2.elim
   rw[if_pos hgd] at h2
   rw[if_pos hgd]
   intro ρ1 H1 J p1 l1 rp1 (itr:ItR X.K Θ ρ1 H1 J xs gd)
   exact zTg itr (st.mono p1 l1) rp1 hgd (jR.weak h2 p1 l1)⟩
theorem zCW {tg iter:Expr}{body:List Stmt}{it:M.IM}{g:M.GM}{js:List Nat}{mb:M.SM} (hp:PassesOwn (model X.prog X.w) X.A X.env X.xe) (hc:X.calm=true) (hi:WI X Θ tg iter it) (hg:WG X Θ js tg g) (hb:WSs X Θ body mb)
  (hs:∀ x,foldedSetIterable iter X.env x=pure x:=by intro _;rfl):WS X Θ (.For tg iter body [] pos) (M.zAE it g mb):=by with_unfolding_all exact zS1 (tg:=tg) (iter:=iter) (body:=body) (it:=it) (g:=g) (js:=js) (mb:=mb) hp hc hi hg hb hs
theorem zRi {K:PySem.W.Frag}{n:Nat}{it:M.IM}{g:M.GM}{js:List Nat}{tc:M.TM}{me:M.EM}{σ:St}{σ':M.St}{S:M.S}{ρ:List Addr}{H:Hp}{R:List V->Hp->Prop} (st:j4 K ρ H σ' σ) (rp:zf K Θ ρ S H) (hj:∀ j∈js,σ.length <= j)
  (h:zI K Θ (zT K) ρ H (M.Zp n it g tc me σ' S) R) :
  RdI K Θ it σ H fun J H1=>∃ W:Nat->Nat->List V->Hp->Prop,(∃ m,W 0 m [] H1)/\∀ i m ys H2,W i m ys H2->ys.length <= sizeLine /\
   ((J.stop i H2/\R ys H2) \/
    (J.go i H2/\∀ x H3,J.yld i H2 x H3->RdG K Θ js g x (σ++List.replicate n none) H3 fun σ2 H4=>Wk (σ++List.replicate n none) σ2/\RdT K Θ tc σ2 H4 fun b H5 =>
     if b=true then RdE K Θ me σ2 H5 fun y H6=>∃ m',m' < m/\W (i+1) m' (ys++[y]) H6 else ∃ m',m' < m/\W (i+1) m' ys H5)):=by
 refine⟨ρ,σ',S,st,rp,?_⟩
 have h':zI K Θ (zT K) ρ H ((it σ' S).bind fun p s=>if p.1.length <= M.SZ/\M.jT p.2 s=true then M.Qe p.2 (M.Zh n g tc me σ') p.1 s else .no) R:=h
 cases hit:it σ' S with
 | no=>rw[hit] at h';exact h'.elim
 | exc a s=>rw[hit] at h';exact h'.elim
 | ok p S1 =>
  rw[hit] at h'
  obtain⟨xs,gd⟩:=p
  show zI K Θ _ ρ H (if M.jT gd S1 then M.R.ok (xs,gd) S1 else .no) _
  have h2:zI K Θ (zT K) ρ H (if xs.length <= M.SZ/\M.jT gd S1=true then M.Qe gd (M.Zh n g tc me σ') xs S1 else .no) R:=h'
  by_cases hgd:xs.length <= M.SZ/\M.jT gd S1=true
  case neg=>rw[if_neg hgd] at h2;exact h2.elim
  rw[if_pos hgd] at h2
  rw[if_pos hgd.2]
  intro ρ1 H1 J p1 l1 rp1 (itr:ItR K Θ ρ1 H1 J xs gd)
  refine⟨fun i k ys H2=>∃ ρ2 S2 ds,ρ1 <+: ρ2/\Le H1 H2/\zf K Θ ρ2 S2 H2/\M.jT gd S2=true/\zT K ρ2 H2 ds ys/\ds.length <= i/\k=xs.length - i/\i <= xs.length/\zI K Θ (zT K) ρ2 H2 ((M.Qe gd (M.Zh n g tc me σ') (xs.drop i) S2).bind fun es s=>.ok (ds++es) s) R,
   ⟨xs.length,ρ1,S1,[],List.prefix_refl _,Le.refl _,rp1,hgd.2,rfl,Nat.le_refl _,rfl,Nat.zero_le _,?_⟩,?_⟩
  ·have h3:=zI.weak h2 p1 l1
   revert h3
   show zI K Θ (zT K) ρ1 H1 (M.Qe gd (M.Zh n g tc me σ') xs S1) R->_
   rw[List.drop_zero]
   cases M.Qe gd (M.Zh n g tc me σ') xs S1 with
   | ok a s=>exact fun h3=>h3
   | exc e s=>exact fun h3=>h3
   | no=>exact fun h3=>h3
  rintro i k ys H2 ⟨ρ2,S2,ds,p2,l2,rp2,g2,rds,hdl,rfl,hi2,h3⟩
  refine⟨by rw[<- rds.length,<- JC];omega,?_⟩
  by_cases hlt:i < xs.length
  ·refine .inr ⟨itr.go i ρ2 S2 H2 p2 l2 rp2 g2 hlt,fun x H3 y=>?_⟩
   obtain⟨d,ed,rd,ld,rpd⟩:=itr.yld i ρ2 S2 H2 x H3 p2 l2 rp2 g2 hlt y
   have edr:xs.drop i=d::xs.drop (i+1):=by
    obtain⟨_,e⟩:=List.getElem?_eq_some_iff.mp ed
    rw[List.drop_eq_getElem_cons hlt,e]
   rw[edr] at h3
   have h4:zI K Θ (zT K) ρ2 H2 (((match g d (σ'++List.replicate n none) with
     | none=>M.R.no
     | some σ1=>(tc σ1 S2).bind fun b s=>if b then (me σ1 s).bind fun d s=>.ok (some d) s else .ok none s).bind fun o s =>
      if M.jT gd s then (M.Qe gd (M.Zh n g tc me σ') (xs.drop (i+1)) s).bind fun ys s=>.ok (match o with | some y=>y::ys | none=>ys) s else .no).bind fun es s=>.ok (ds++es) s) R:=h3
   cases hgq:g d (σ'++List.replicate n none) with
   | none=>rw[hgq] at h4;exact h4.elim
   | some σ1 =>
    rw[hgq] at h4
    refine⟨ρ2,σ'++List.replicate n none,S2,d,((st.mono (p1.trans p2) (l1.trans (l2.trans ld))).more n),rpd,rd,σ1,hgq,fun H4 σ2 le4 rp4 st4 hl4 hj4=>⟨⟨hl4.symm,fun j v e=>?_⟩,ρ2,σ1,S2,st4,rp4,?_⟩⟩
    ·by_cases hjj:j∈js
     ·rw[List.getElem?_append_right (hj j hjj),List.getElem?_replicate] at e
      split at e<;>cases e
     ·rw[hj4 j hjj];exact e
    ·have h5:=zI.weak h4 (List.prefix_refl _) (ld.trans le4)
     dsimp only at h5
     cases htc:tc σ1 S2 with
     | no=>rw[htc] at h5;exact h5.elim
     | exc a s=>rw[htc] at h5;exact h5.elim
     | ok b S3 =>
      rw[htc] at h5
      intro ρ5 H5 b' p5 l5 rp5 eb
      cases eb
      have next:∀ (o:Option M.D) (s:M.S) (ρ6:List Addr) (H6:Hp) (zs:List V),ρ2 <+: ρ6->Le H4 H6->zf K Θ ρ6 s H6->zT K ρ6 H6 (match o with | some y=>ds++[y] | none=>ds) zs ->
        zI K Θ (zT K) ρ6 H6 ((if M.jT gd s then (M.Qe gd (M.Zh n g tc me σ') (xs.drop (i+1)) s).bind fun ys s=>.ok (match o with | some y=>y::ys | none=>ys) s else .no).bind fun es s=>.ok (ds++es) s) R ->
        ∃ m',m' < xs.length - i/\∃ ρ2 S2 es,ρ1 <+: ρ2/\Le H1 H6/\zf K Θ ρ2 S2 H6/\M.jT gd S2=true/\zT K ρ2 H6 es zs/\es.length <= i+1/\m'=xs.length - (i+1)/\i+1 <= xs.length /\
         zI K Θ (zT K) ρ2 H6 ((M.Qe gd (M.Zh n g tc me σ') (xs.drop (i+1)) S2).bind fun fs s=>.ok (es++fs) s) R:=fun o s ρ6 H6 zs p6 l6 rp6 rz h6=>by
       by_cases hs:M.jT gd s=true
       case neg=>rw[if_neg hs] at h6;exact h6.elim
       rw[if_pos hs] at h6
       refine⟨xs.length - (i+1),by omega,ρ6,s,_,p2.trans p6,l2.trans (ld.trans (le4.trans l6)),rp6,hs,rz,?_,rfl,hlt,?_⟩
       ·cases o<;>simp<;>omega
       ·revert h6
        cases M.Qe gd (M.Zh n g tc me σ') (xs.drop (i+1)) s with
        | ok a s2 =>
         intro h6
         cases o with
         | none=>exact h6
         | some y =>
          show zI K Θ (zT K) ρ6 H6 (.ok (ds++[y]++a) s2) R
          rw[List.append_assoc]
          exact h6
        | exc e s=>exact fun h6=>h6
        | no=>exact fun h6=>h6
      cases b with
      | false=>exact zE9 (next none S3 ρ5 H5 ys p5 l5 rp5 (rds.mono p5 (ld.trans (le4.trans l5))) (zI.weak h5 p5 l5))
      | true =>
       refine zEr ⟨ρ5,σ1,S3,st4.mono p5 l5,rp5,?_⟩
       have h6:=zI.weak h5 p5 l5
       cases hme:me σ1 S3 with
       | no =>
        have h7:zI K Θ (zT K) ρ5 H5 ((((me σ1 S3).bind fun d s=>M.R.ok (some d) s).bind fun o s=>if M.jT gd s then (M.Qe gd (M.Zh n g tc me σ') (xs.drop (i+1)) s).bind fun ys s=>.ok (match o with | some y=>y::ys | none=>ys) s else .no).bind fun es s=>.ok (ds++es) s) R:=h6
        rw[hme] at h7;exact h7.elim
       | exc a s =>
        have h7:zI K Θ (zT K) ρ5 H5 ((((me σ1 S3).bind fun d s=>M.R.ok (some d) s).bind fun o s=>if M.jT gd s then (M.Qe gd (M.Zh n g tc me σ') (xs.drop (i+1)) s).bind fun ys s=>.ok (match o with | some y=>y::ys | none=>ys) s else .no).bind fun es s=>.ok (ds++es) s) R:=h6
        rw[hme] at h7;exact h7.elim
       | ok y S6 =>
        have h7:zI K Θ (zT K) ρ5 H5 ((((me σ1 S3).bind fun d s=>M.R.ok (some d) s).bind fun o s=>if M.jT gd s then (M.Qe gd (M.Zh n g tc me σ') (xs.drop (i+1)) s).bind fun ys s=>.ok (match o with | some y=>y::ys | none=>ys) s else .no).bind fun es s=>.ok (ds++es) s) R:=h6
        rw[hme] at h7
        intro ρ6 H6 v p6 l6 rp6 rv
        exact next (some y) S6 ρ6 H6 (ys++[v]) (p5.trans p6) (l5.trans l6) rp6 ((rds.mono (p5.trans p6) (ld.trans (le4.trans (l5.trans l6)))).app ⟨v,[],rfl,rv,rfl⟩) (zI.weak h7 p6 l6)
  ·have e:i=xs.length:=by omega
   subst e
   rw[List.drop_length] at h3
   refine .inl ⟨itr.stop ρ2 S2 H2 p2 l2 rp2 g2,?_⟩
   have h4:zI K Θ (zT K) ρ2 H2 (.ok (ds++[]) S2) R:=h3
   rw[List.append_nil] at h4
   exact h4.here rp2 rds
end
end L2
namespace L2
open PySem PySem.Spec PyProof.Rows
section
variable {X:Cx}{Θ:Tab}{pos:Pos}{vars:List Str}{scope:Scope}{cl:List (Str×Addr)}{tg elt iter:Expr}{ifs:List Expr}{it:M.IM}{g:M.GM}{js:List Nat}{tc:M.TM}{me:M.EM}
theorem zH1 {pins:List (Addr×Obj)}{s:Shared}{σ:St}{H:Hp} (I:Inv X pins σ H s) (hj:∀ j∈js,X.N.length <= j) {ρ:List Addr}{σ':M.St}{S:M.S} (st:j4 X.K ρ H σ' σ) (rp:zf X.K Θ ρ S H) {Q:VK}{n:Nat}
  (h:zI X.K Θ (zT X.K) ρ H (M.Zp n it g tc me σ' S) fun ys H2=>∀ D,H2 D=none->Q (.ref D) (upd H2 D (.lst ys))) :
  zMX n (RdI X.K Θ it) (RdG X.K Θ js g) (RdT X.K Θ tc) (RdE X.K Θ me) σ H Q:=zRi st rp (fun j hjj=>by rw[I.len];exact hj j hjj) h
theorem zP1 (hc:X.calm=true) (C:qM X vars scope cl) (hi:MI X Θ tg iter it) (hg:∀ C fp s₂ H₂,MG (jV X vars scope cl C fp s₂ H₂) Θ js tg g) (ht:∀ C fp s₂ H₂,zBE (jV X vars scope cl C fp s₂ H₂) ifs (RdT X.K Θ tc))
  (he:∀ C fp s₂ H₂,ME (jV X vars scope cl C fp s₂ H₂) Θ elt me) (hj':(js.all fun j=>decide (X.N.length <= j))=true) (hs:∀ x,foldedSetIterable iter X.env x=pure x:=by intro _;rfl):ME X Θ (.ListComp elt [⟨tg,iter,ifs,0⟩] scope pos) (M.zHd vars.length it g tc me):=by
 intro pins s σ H Q I ⟨ρ,σ',S,st,rp,h⟩
 have hj:∀ j∈js,X.N.length <= j:=fun j hjj=>of_decide_eq_true (List.all_eq_true.mp hj' j hjj)
 exact zH7 hc C hi hg ht he hs pins s σ H Q I (zH1 I hj st rp (zI.bind h fun ρ1 H1 ds ys S1 p1 l1 rp1 r1 h1 D hD=>h1.alloc rp1 r1 hD))
theorem zFM (hc:X.calm=true) (C:qM X vars scope cl) (hi:WI X Θ tg iter it) (hg:∀ C fp s₂ H₂,WG (jV X vars scope cl C fp s₂ H₂) Θ js tg g) (ht:∀ C fp s₂ H₂,zBE (jV X vars scope cl C fp s₂ H₂) ifs (RdT X.K Θ tc))
  (he:∀ C fp s₂ H₂,WE (jV X vars scope cl C fp s₂ H₂) Θ elt me) (hj':(js.all fun j=>decide (X.N.length <= j))=true) (hs:∀ x,foldedSetIterable iter X.env x=pure x:=by intro _;rfl):WE X Θ (.ListComp elt [⟨tg,iter,ifs,0⟩] scope pos) (M.zHd vars.length it g tc me):=by with_unfolding_all exact zP1 hc C hi hg ht he hj' hs
noncomputable def AdK (K:PySem.W.Frag) (Θ:Tab) (k:List M.D->M.S->M.R M.D) (r:List V->Hp->VK->Prop):Prop:=∀ ρ H S ds ys p Q,zf K Θ ρ S H->zT K ρ H ds ys->SqL K H p ys->zI K Θ (zS K) ρ H (k ds S) Q->r [.ref p] H Q
theorem zOu {x:Str}{p:Pos}{id:String}{pos2:Pos}{k:List M.D->M.S->M.R M.D}{r:List V->Hp->VK->Prop} (hcr:qj X (.builtin id) r) (ad:AdK X.K Θ k r) (hgl:Gl X x) (hm:X.mg x=none) (hv:bootBuiltins x=some (.builtin id))
  (hc:X.calm=true) (C:qM X vars scope cl) (hi:MI X Θ tg iter it) (hg:∀ C fp s₂ H₂,MG (jV X vars scope cl C fp s₂ H₂) Θ js tg g) (ht:∀ C fp s₂ H₂,zBE (jV X vars scope cl C fp s₂ H₂) ifs (RdT X.K Θ tc))
  (he:∀ C fp s₂ H₂,ME (jV X vars scope cl C fp s₂ H₂) Θ elt me) (hj':(js.all fun j=>decide (X.N.length <= j))=true) (hs:∀ x,foldedSetIterable iter X.env x=pure x:=by intro _;rfl)
  (hn:x ≠ "__name__" := by decide) (hdb:(x == ("__debug__" : Str))=false:=by decide)
  :
  ME X Θ (.Call (.Name x p) [.ListComp elt [⟨tg,iter,ifs,0⟩] scope pos] [] pos2) (M.zAn k vars.length it g tc me):=by
 intro pins s σ H Q I ⟨ρ,σ',S,st,rp,h⟩
 have hj:∀ j∈js,X.N.length <= j:=fun j hjj=>of_decide_eq_true (List.all_eq_true.mp hj' j hjj)
 refine zKG hcr hgl hm hv (zIa (zH7 (g:=RdG X.K Θ js g) (ti:=RdT X.K Θ tc) (te:=RdE X.K Θ me) hc C hi hg ht he hs) zKR (jp rfl)) hn hdb (jp rfl) rfl pins s σ H Q I ?_
 show zMX vars.length _ _ _ _ σ H (fun x H1=>r [x] H1 Q)
 refine zH1 I hj st rp (zI.bind h fun ρ1 H1 ds ys S1 p1 l1 rp1 r1 h1 D hD=>?_)
 exact ad ρ1 _ S1 ds ys D Q (rp1.aside hD _) (r1.mono (List.prefix_refl _) (Le.new hD _)) (SqL.of qA) (zI.weak h1 (List.prefix_refl _) (Le.new hD _))
theorem zDy {x:Str}{p:Pos}{id:String}{pos2:Pos}{k:List M.D->M.S->M.R M.D}{r:List V->Hp->VK->Prop} (hcr:qj X (.builtin id) r) (ad:AdK X.K Θ k r) (hgl:Gl X x) (hm:X.mg x=none) (hv:bootBuiltins x=some (.builtin id))
  (hc:X.calm=true) (C:qM X vars scope cl) (hi:WI X Θ tg iter it) (hg:∀ C fp s₂ H₂,WG (jV X vars scope cl C fp s₂ H₂) Θ js tg g) (ht:∀ C fp s₂ H₂,zBE (jV X vars scope cl C fp s₂ H₂) ifs (RdT X.K Θ tc))
  (he:∀ C fp s₂ H₂,WE (jV X vars scope cl C fp s₂ H₂) Θ elt me) (hj':(js.all fun j=>decide (X.N.length <= j))=true) (hs:∀ x,foldedSetIterable iter X.env x=pure x:=by intro _;rfl)
  (hn:x ≠ "__name__" := by decide) (hdb:(x == ("__debug__" : Str))=false:=by decide)
  :
  WE X Θ (.Call (.Name x p) [.ListComp elt [⟨tg,iter,ifs,0⟩] scope pos] [] pos2) (M.zAn k vars.length it g tc me):=by with_unfolding_all exact zOu (x:=x) (p:=p) (id:=id) (pos2:=pos2) (k:=k) (r:=r) hcr ad hgl hm hv hc C hi hg ht he hj' hs hn hdb
theorem zPI {y:M.T}{z:Str}{j:Nat}{p apos cpos:Pos} (hz:z=ofT y) (hc:X.calm=true) (C:qM X vars scope cl) (hi:MI X Θ tg iter it) (hg:∀ C fp s₂ H₂,MG (jV X vars scope cl C fp s₂ H₂) Θ js tg g) (ht:∀ C fp s₂ H₂,zBE (jV X vars scope cl C fp s₂ H₂) ifs (RdT X.K Θ tc))
  (he:∀ C fp s₂ H₂,ME (jV X vars scope cl C fp s₂ H₂) Θ elt me) (hj':(js.all fun j=>decide (X.N.length <= j))=true) (ad:∀ ρ H S ds ys p Q,zf X.K Θ ρ S H->zT X.K ρ H ds ys->SqL X.K H p ys->zI X.K Θ (zS X.K) ρ H (M.JB y ds S) Q->zHN X.K (.str (ofT y)) [.ref p] H Q) (hs:∀ x,foldedSetIterable iter X.env x=pure x:=by intro _;rfl)
  (hline:(apos.endLine == cpos.line)=true:=by rfl)
  :
  ME X Θ (.Call (.Attribute (.Constant (.str z) j p) "join" apos) [.ListComp elt [⟨tg,iter,ifs,0⟩] scope pos] [] cpos) (M.zAn (M.JB y) vars.length it g tc me):=by
 intro pins s σ H Q I ⟨ρ,σ',S,st,rp,h⟩
 have hj:∀ j∈js,X.N.length <= j:=fun j hjj=>of_decide_eq_true (List.all_eq_true.mp hj' j hjj)
 subst hz
 refine zPz PySem.F.plainAttrs_str PySem.F.slot_str_join PySem.F.type_str_join zBF zOB (zIa (zH7 (g:=RdG X.K Θ js g) (ti:=RdT X.K Θ tc) (te:=RdE X.K Θ me) hc C hi hg ht he hs) zKR (jp rfl)) rfl (zKg rfl (show 1 < 30 by decide)) hline (jp rfl) rfl pins s σ H Q I ?_
 refine⟨rfl,zH1 I hj st rp (zI.bind h fun ρ1 H1 ds ys S1 p1 l1 rp1 r1 h1 D hD=>?_)⟩
 exact ad ρ1 _ S1 ds ys D Q (rp1.aside hD _) (r1.mono (List.prefix_refl _) (Le.new hD _)) (SqL.of qA) (zI.weak h1 (List.prefix_refl _) (Le.new hD _))
theorem zG4 {y:M.T}{z:Str}{j:Nat}{p apos cpos:Pos} (hz:z=ofT y) (hc:X.calm=true) (C:qM X vars scope cl) (hi:WI X Θ tg iter it) (hg:∀ C fp s₂ H₂,WG (jV X vars scope cl C fp s₂ H₂) Θ js tg g) (ht:∀ C fp s₂ H₂,zBE (jV X vars scope cl C fp s₂ H₂) ifs (RdT X.K Θ tc))
  (he:∀ C fp s₂ H₂,WE (jV X vars scope cl C fp s₂ H₂) Θ elt me) (hj':(js.all fun j=>decide (X.N.length <= j))=true) (ad:∀ ρ H S ds ys p Q,zf X.K Θ ρ S H->zT X.K ρ H ds ys->SqL X.K H p ys->zI X.K Θ (zS X.K) ρ H (M.JB y ds S) Q->zHN X.K (.str (ofT y)) [.ref p] H Q) (hs:∀ x,foldedSetIterable iter X.env x=pure x:=by intro _;rfl)
  (hline:(apos.endLine == cpos.line)=true:=by rfl)
  :
  WE X Θ (.Call (.Attribute (.Constant (.str z) j p) "join" apos) [.ListComp elt [⟨tg,iter,ifs,0⟩] scope pos] [] cpos) (M.zAn (M.JB y) vars.length it g tc me):=by with_unfolding_all exact zPI (y:=y) (z:=z) (j:=j) (p:=p) (apos:=apos) (cpos:=cpos) hz hc C hi hg ht he hj' ad hs hline
end
noncomputable def SpM (K:PySem.W.Frag) (Θ:Tab) (n:Nat) (f:M.F):Sp:=fun vs H Q _=>∃ ρ ds S,ds.length=n/\zT K ρ H ds vs/\zf K Θ ρ S H/\zI K Θ (zS K) ρ H (f ds S) Q
noncomputable def zBw (m:M.AM) (n:Nat):Prop:=∀ σ s xs s',m σ s=.ok xs s'->xs.length=n
theorem zo:zBw M.zH 0:=fun σ s xs s' h=>by cases h;rfl
theorem zQ {a:M.EM}{r:M.AM}{n:Nat} (h:zBw r n):zBw (M.zC a r) (n+1):=fun σ s xs s' e=>by
 have e':((a σ s).bind fun x s=>(r σ s).bind fun xs s=>M.R.ok (x::xs) s)=.ok xs s':=e
 cases ha:a σ s with
 | no=>rw[ha] at e';cases e'
 | exc a s=>rw[ha] at e';cases e'
 | ok d S1 =>
  rw[ha] at e'
  have e2:((r σ S1).bind fun xs s=>M.R.ok (d::xs) s)=.ok xs s':=e'
  cases hr:r σ S1 with
  | no=>rw[hr] at e2;cases e2
  | exc a s=>rw[hr] at e2;cases e2
  | ok ds S2 =>
   rw[hr] at e2
   cases e2
   rw[List.length_cons,h _ _ _ _ hr]
section
variable {X:Cx}{Θ:Tab}{pos p:Pos}{x:Str}{ps:List Str}{e:Expr}{es:List Expr}{f:M.F}{m:M.AM}{k kk n:Nat}
theorem zQ1 (h:Has X.prog X.w X.K X.mg X.base x k ps (SpM X.K Θ n f)) (hr:jY kk X.A) (hk:k <= kk) (hg:Gl X x) (ha:MA X Θ (e::es) m) (ar:zBw m n) (hx:Zd CX0 X E0:=by exact zB1) (hdb:(x == ("__debug__" : Str))=false:=by decide)
  (he:jG e=true:=by rfl) (hpl:es.all jG=true:=by rfl):ME X Θ (.Call (.Name x p) (e::es) [] pos) (M.zR f m) :=
 (zOY h hr hk hg ha hx hdb (jp he) (QZ hpl)).imp fun σ H Q ⟨ρ,σ',S,st,rp,h⟩=>⟨ρ,σ',S,st,rp,by
  have h':zI X.K Θ (zS X.K) ρ H ((m σ' S).bind fun xs s=>f xs s) Q:=h
  cases hm:m σ' S with
  | no=>rw[hm] at h';exact h'.elim
  | exc a s=>rw[hm] at h';exact h'.elim
  | ok ds S1 =>
   rw[hm] at h'
   intro ρ1 H1 vs p1 l1 rp1 r1
   rw[List.append_nil]
   exact⟨ρ1,ds,S1,ar _ _ _ _ hm,r1,rp1,zI.weak h' p1 l1⟩⟩
theorem zm (h:Has X.prog X.w X.K X.mg X.base x k ps (SpM X.K Θ n f)) (hr:jY kk X.A) (hk:k <= kk) (hg:Gl X x) (ha:WA X Θ (e::es) m) (ar:zBw m n) (hx:Zd CX0 X E0:=by exact zB1) (hdb:(x == ("__debug__" : Str))=false:=by decide)
  (he:jG e=true:=by rfl) (hpl:es.all jG=true:=by rfl):WE X Θ (.Call (.Name x p) (e::es) [] pos) (M.zR f m):=by with_unfolding_all exact zQ1 h hr hk hg ha ar hx hdb he hpl
end
section
variable {K:PySem.W.Frag}{Θ:Tab}{ρ ρ':List Addr}{H:Hp}{e:List Nat}
mutual
theorem zS.unren (hρ:∀ (i j:Nat) a,e[i]? = some j->ρ[j]? = some a->ρ'[i]? = some a):∀ {d:M.D}{v:V},M.D.cl e.length d=true->zS K ρ H (M.D.ren e d) v->zS K ρ' H d v
 | .non,_,_,h=>h
 | .bl _,_,_,h=>h
 | .int _,_,_,h=>h
 | .str _,_,_,h=>h
 | .ty _,_,_,h=>h
 | .ref i,_,c,⟨a,h1,h2⟩=>by
  have hi:i < e.length:=of_decide_eq_true c
  refine⟨a,h1,hρ i (e.getD i i) a ?_ h2⟩
  rw[List.getD_eq_getElem?_getD,List.getElem?_eq_getElem hi];rfl
 | .tup _,_,c,⟨a,xs,h1,h2,h3⟩=>⟨a,xs,h1,h2,zT.unren hρ c h3⟩
 | .ro _,_,c,⟨a,xs,h1,h2,h3⟩=>⟨a,xs,h1,h2,zT.unren hρ c h3⟩
theorem zT.unren (hρ:∀ (i j:Nat) a,e[i]? = some j->ρ[j]? = some a->ρ'[i]? = some a):∀ {ds:List M.D}{xs:List V},M.D.cl.all e.length ds=true->zT K ρ H (M.D.ren.all e ds) xs->zT K ρ' H ds xs
 | [],_,_,h=>h
 | d::ds,_,c,⟨y,ys,h1,h2,h3⟩=>by
  have c':(M.D.cl e.length d && M.D.cl.all e.length ds)=true:=c
  rw[Bool.and_eq_true] at c'
  exact⟨y,ys,h1,zS.unren hρ c'.1 h2,zT.unren hρ c'.2 h3⟩
end
theorem ObR.unren (hρ:∀ (i j:Nat) a,e[i]? = some j->ρ[j]? = some a->ρ'[i]? = some a) {a:Addr}{o:M.O} (c:M.O.cl e.length o=true) (h:ObR K Θ ρ H a (M.O.ren e o)):ObR K Θ ρ' H a o:=by
 cases o with
 | lst ds=>obtain⟨xs,h1,h2⟩:=h;exact⟨xs,h1,zT.unren hρ c h2⟩
 | dct kvs =>
  obtain⟨ks,h1,h2⟩:=h
  refine⟨ks,h1,?_⟩
  have c':∀ p∈kvs,(M.D.cl e.length p.1 && M.D.cl e.length p.2)=true:=List.all_eq_true.mp c
  clear h1
  revert h2 c'
  clear c
  induction kvs generalizing ks with
  | nil=>intro h2 c';cases h2;exact .nil
  | cons p kvs ih =>
   intro h2 c'
   rw[List.map_cons] at h2
   cases h2 with
   | cons r1 r2 =>
    have c1:=c' p List.mem_cons_self
    rw[Bool.and_eq_true] at c1
    refine .cons ⟨?_,zS.unren hρ c1.2 r1.2⟩ (ih _ r2 (fun q hq=>c' q (List.mem_cons_of_mem _ hq)))
    have hk:=r1.1
    revert hk
    cases p.1<;>exact fun hk=>hk
 | fdc kvs =>
  obtain⟨o,ks,h1,h2⟩:=h
  refine⟨o,ks,h1,?_⟩
  have c':∀ p∈kvs,(M.D.cl e.length p.1 && M.D.cl e.length p.2)=true:=List.all_eq_true.mp c
  clear h1
  revert h2 c'
  clear c
  induction kvs generalizing ks with
  | nil=>intro h2 c';cases h2;exact .nil
  | cons p kvs ih =>
   intro h2 c'
   rw[List.map_cons] at h2
   cases h2 with
   | cons r1 r2 =>
    have c1:=c' p List.mem_cons_self
    rw[Bool.and_eq_true] at c1
    refine .cons ⟨?_,zS.unren hρ c1.2 r1.2⟩ (ih _ r2 (fun q hq=>c' q (List.mem_cons_of_mem _ hq)))
    have hk:=r1.1
    revert hk
    cases p.1<;>exact fun hk=>hk
 | ins cc fs =>
  obtain⟨C,dx,gs,N,h1,h2,h3⟩:=h
  refine⟨C,dx,gs,N,h1,h2,by rw[<- h3.len];simp,h3.nd,h3.within,fun i f d q1 q2=>?_⟩
  obtain⟨v,k1,k2⟩:=h3.get i f (M.D.ren e d) q1 (by rw[List.getElem?_map,q2];rfl)
  refine⟨v,k1,zS.unren hρ ?_ k2⟩
  have:=List.all_eq_true.mp c (some d) (List.mem_of_getElem? q2)
  exact this
theorem zI.gc {S S' S1:M.S}{d:M.D}{Q:VK} (em:M.Emb S.length e S' S1) (cd:M.D.cl S'.length d=true) (rp:zf K Θ ρ S H) (h:zI K Θ (zS K) ρ H (.ok d S') Q):zI K Θ (zS K) ρ H (.ok (M.D.ren e d) S1) Q:=by
 intro ρ1 H1 v p1 l1 rp1 r1
 have hlt:∀ {i j:Nat},e[i]? = some j->j < ρ1.length:=fun {i j} q=>by
  have hi:i < S'.length:=by rw[<- em.len];exact (List.getElem?_eq_some_iff.mp q).1
  obtain⟨j',q1,q2,_⟩:=em.obj i S'[i] (by simp[hi])
  rw[q] at q1;cases q1
  rw[rp1.len];exact (List.getElem?_eq_some_iff.mp q2).1
 have hρ:∀ (i j:Nat) a,e[i]? = some j->ρ1[j]? = some a->(e.map fun j=>ρ1.getD j 0)[i]? = some a:=fun i j a q1 q2=>by
  rw[List.getElem?_map,q1,Option.map_some,List.getD_eq_getElem?_getD,q2];rfl
 refine h (e.map fun j=>ρ1.getD j 0) H1 v ?_ l1 ⟨by rw[List.length_map,em.len],?_,fun i o q=>?_⟩ (zS.unren hρ (by rw[em.len];exact cd) r1)
 ·refine List.prefix_iff_getElem?.mpr fun i hi=>?_
  have hi':i < S.length:=rp.len ▸ hi
  exact hρ i i _ (em.old i hi') (zCC p1 (List.getElem?_eq_getElem hi))
 ·refine zOQ fun i j x a b=>?_
  rw[List.getElem?_map] at a b
  cases ei:e[i]? with
  | none=>rw[ei] at a;cases a
  | some k =>
   cases ej:e[j]? with
   | none=>rw[ej] at b;cases b
   | some l =>
    rw[ei,Option.map_some,List.getD_eq_getElem?_getD,List.getElem?_eq_getElem (hlt ei)] at a
    rw[ej,Option.map_some,List.getD_eq_getElem?_getD,List.getElem?_eq_getElem (hlt ej)] at b
    have e1:ρ1[k]'(hlt ei)=x:=by simpa using a
    have e2:ρ1[l]'(hlt ej)=x:=by simpa using b
    have e3:=zOF rp1.nd (hlt ei) (hlt ej) (e1.trans e2.symm)
    subst e3
    exact zDs em.nd ei ej
 ·obtain⟨j,q1,q2,q3⟩:=em.obj i o q
  obtain⟨a,q4,q5⟩:=rp1.obj j _ q2
  exact⟨a,hρ i j a q1 q4,ObR.unren hρ (by rw[em.len];exact q3) q5⟩
end
section
variable {K:PySem.W.Frag}{Θ:Tab}{ρ:List Addr}{H:Hp}
mutual
theorem zS.cl:∀ {d:M.D}{v:V},zS K ρ H d v->M.D.cl ρ.length d=true
 | .non,_,_=>rfl
 | .bl _,_,_=>rfl
 | .int _,_,_=>rfl
 | .str _,_,_=>rfl
 | .ty _,_,_=>rfl
 | .ref _,_,⟨a,_,h2⟩=>decide_eq_true (List.getElem?_eq_some_iff.mp h2).1
 | .tup _,_,⟨_,_,_,_,h⟩=>zT.cl h
 | .ro _,_,⟨_,_,_,_,h⟩=>zT.cl h
theorem zT.cl:∀ {ds:List M.D}{xs:List V},zT K ρ H ds xs->M.D.cl.all ρ.length ds=true
 | [],_,_=>rfl
 | d::ds,_,⟨_,_,_,h1,h2⟩=>by
  show (M.D.cl ρ.length d && M.D.cl.all ρ.length ds)=true
  rw[zS.cl h1,zT.cl h2];rfl
end
theorem zf.cl {S:M.S} (rp:zf K Θ ρ S H):M.clS S.length S=true:=by
 refine List.all_eq_true.mpr fun o ho=>?_
 obtain⟨i,hi,rfl⟩:=List.mem_iff_getElem.mp ho
 obtain⟨a,h1,h2⟩:=rp.obj i S[i] (by simp[hi])
 rw[<- rp.len]
 revert h2
 cases S[i] with
 | lst ds=>exact fun ⟨xs,_,r⟩=>r.cl
 | dct kvs =>
  intro ⟨ks,_,r⟩
  refine List.all_eq_true.mpr fun p hp=>?_
  have:∀ {kvs:List (M.D×M.D)}{ks:List (Key×V)},Paired (fun (p:M.D×M.D) (q:Key×V)=>zBo p.1 q.1/\zS K ρ H p.2 q.2) kvs ks->p∈kvs->(M.D.cl ρ.length p.1 && M.D.cl ρ.length p.2)=true:=by
   intro kvs ks r hp
   induction r with
   | nil=>cases hp
   | cons r1 r2 ih =>
    rcases List.mem_cons.mp hp with rfl | hp
    ·rw[r1.2.cl,Bool.and_true]
     have hk:=r1.1
     revert hk
     cases p.1<;>first | exact fun _=>rfl | exact fun hk=>hk.elim
    ·exact ih hp
  exact this r hp
 | fdc kvs =>
  intro ⟨_,ks,_,r⟩
  refine List.all_eq_true.mpr fun p hp=>?_
  have:∀ {kvs:List (M.D×M.D)}{ks:List (Key×V)},Paired (fun (p:M.D×M.D) (q:Key×V)=>zBo p.1 q.1/\zS K ρ H p.2 q.2) kvs ks->p∈kvs->(M.D.cl ρ.length p.1 && M.D.cl ρ.length p.2)=true:=by
   intro kvs ks r hp
   induction r with
   | nil=>cases hp
   | cons r1 r2 ih =>
    rcases List.mem_cons.mp hp with rfl | hp
    ·rw[r1.2.cl,Bool.and_true]
     have hk:=r1.1
     revert hk
     cases p.1<;>first | exact fun _=>rfl | exact fun hk=>hk.elim
    ·exact ih hp
  exact this r hp
 | ins c fs =>
  intro ⟨C,dx,gs,N,_,_,r⟩
  refine List.all_eq_true.mpr fun od hod=>?_
  cases od with
  | none=>rfl
  | some d =>
   obtain⟨j,hj,ej⟩:=List.mem_iff_getElem.mp hod
   have hN:j < N.length:=r.len ▸ hj
   obtain⟨v,_,rv⟩:=r.get j N[j] d (by simp[hN]) (by rw[List.getElem?_eq_getElem hj,ej])
   exact rv.cl
end
section
variable {P:Program}{w:World}{K:PySem.W.Frag}{mg:Str->Option Value}{base:Heap}{Θ:Tab}
theorem zIx {ρ:List Addr}{H:Hp}{ds:List M.D}{vs:List V} (r:zT K ρ H ds vs) (N:List Str):j4 K ρ H (ds.map some++List.replicate (N.length - ds.length) none) (Zm N vs):=by
 have hl:=r.length
 refine⟨by simp[Zm,hl],fun i d q=>?_⟩
 unfold Zm
 by_cases hi:i < ds.length
 ·rw[List.getElem?_append_left (by simpa using hi),List.getElem?_map] at q
  cases e:ds[i]? with
  | none=>rw[e] at q;cases q
  | some d' =>
   rw[e] at q
   cases q
   obtain⟨v,e1,rv⟩:=r.get e
   refine⟨v,?_,rv⟩
   rw[List.getElem?_append_left (by simp;omega),List.getElem?_map,e1];rfl
 ·rw[List.getElem?_append_right (by simp;omega),List.getElem?_replicate] at q
  split at q<;>cases q
theorem zTk {x qual:Str}{st:Stmt}{f:Addr}{fd:FuncData}{N ps:List Str}{k:Nat}{b:M.SM}{q:M.F} (F:Fun K x qual st f fd) (Sc:jE N ps (zM st)) (rf:M.jL ps.length (M.fn N.length b) q)
  (hbody:∀ (cdv:Value) (A:Around) (outer:List Env) (s:Shared) (H:Hp) (E:XK),jY k (A.deeper (envOfC qual (zM st) s.heap.objs.size f cdv)) ->
   MSs (zCR CX0 P w K mg base N qual (zM st) f cdv A outer s H E).nox Θ (zq st) b):jX P w K mg base CX0 (k+1) f fd ps (SpM K Θ ps.length q):=by
 refine F.ok (k:=k) Sc (fun vs H Q E h=>?_) (fun cdv A outer s H vs Q E hr h=>?_)
 ·obtain⟨ρ,ds,S,hl,r,_⟩:=h
  rw[<- r.length,hl]
 ·obtain⟨ρ,ds,S,hl,r,rp,h⟩:=h
  refine⟨_,hbody cdv A outer s H E hr,ρ,_,S,zIx r N,rp,?_⟩
  rcases rf ds S hl rp.cl (rp.len ▸ r.cl) with e | ⟨d,S',S1,em,e1,e2,emb,cd⟩
  ·rw[e] at h;exact h.elim
  ·rw[e1] at h
   have h2:=zI.gc emb cd rp h
   have e3:(b (ds.map some++List.replicate (N.length - ds.length) none) S).out=.ok (M.D.ren em d) S1:=e2
   show jR K Θ ρ H (b (ds.map some++List.replicate (N.length - ds.length) none) S) _
   revert e3
   cases b (ds.map some++List.replicate (N.length - ds.length) none) S with
   | rt a s=>intro e3;cases e3;exact h2
   | nx a s =>
    intro e3
    have e4:M.R.ok M.D.non s=.ok (M.D.ren em d) S1:=e3
    injection e4 with e5 e6
    subst e6
    rw[<- e5] at h2
    exact fun ρ1 H1 σ1 p1 l1 rp1 _=>h2 ρ1 H1 .non p1 l1 rp1 rfl
   | bk a s=>intro e3;cases e3
   | ct a s=>intro e3;cases e3
   | exc e a s=>intro e3;cases e3
   | no=>intro e3;cases e3
theorem qN {x qual:Str}{st:Stmt}{f:Addr}{fd:FuncData}{N ps:List Str}{k:Nat}{b:M.SM}{q:M.F} (F:Fun K x qual st f fd) (Sc:jE N ps (zM st)) (rf:M.jL ps.length (M.fn N.length b) q)
  (hbody:∀ (cdv:Value) (A:Around) (outer:List Env) (s:Shared) (H:Hp) (E:XK),jY k (A.deeper (envOfC qual (zM st) s.heap.objs.size f cdv)) ->
   WSs (zCR CX0 P w K mg base N qual (zM st) f cdv A outer s H E).nox Θ (zq st) b):jX P w K mg base CX0 (k+1) f fd ps (SpM K Θ ps.length q):=by with_unfolding_all exact zTk (x:=x) (qual:=qual) (st:=st) (f:=f) (fd:=fd) (N:=N) (ps:=ps) (k:=k) (b:=b) (q:=q) F Sc rf hbody
end
end L2
namespace L2
open PySem PySem.Spec PyProof.Rows
section
variable {K:PySem.W.Frag}{Θ:Tab}
theorem zNe:Ad2 K Θ M.zFc zSa:=by
 intro ρ H S x y X Y Q rp rx ry h
 cases x with
 | int i =>
  cases y with
  | int j=>cases rx;cases ry;exact zI.here (b:=V.int (i - j)) h rp rfl
  | _=>exact h.elim
 | _=>exact h.elim
theorem zKh {i:Int} (h:M.yS i=true):-(2 ^ 64) < i/\i < 2 ^ 64:=by
 have h':i.natAbs < 18446744073709551616:=of_decide_eq_true h
 exact⟨by omega,by omega⟩
theorem Zc:Ad2 K Θ M.yF zRY:=by
 intro ρ H S x y X Y Q rp rx ry h
 cases x with
 | int i =>
  cases y with
  | int j =>
   cases rx;cases ry
   have h':zI K Θ (zS K) ρ H (if 0 < j/\j.natAbs < 1073741824 then M.R.ok (M.D.int (i / j)) S else .no) Q:=h
   by_cases hc:0 < j/\j.natAbs < 1073741824
   ·rw[if_pos hc] at h';exact⟨⟨hc.1,by omega⟩,zI.here (b:=V.int (i / j)) h' rp rfl⟩
   ·rw[if_neg hc] at h';exact h'.elim
  | _=>exact h.elim
 | _=>exact h.elim
theorem qa:Ad2 K Θ M.jr zR6:=by
 intro ρ H S x y X Y Q rp rx ry h
 cases x with
 | int i =>
  cases y with
  | int j =>
   cases rx;cases ry
   have h':zI K Θ (zS K) ρ H (if 0 < j then M.R.ok (M.D.int (i % j)) S else .no) Q:=h
   by_cases hc:0 < j
   ·rw[if_pos hc] at h';exact⟨hc,zI.here (b:=V.int (i % j)) h' rp rfl⟩
   ·rw[if_neg hc] at h';exact h'.elim
  | _=>exact h.elim
 | _=>exact h.elim
theorem Ji {ρ:List Addr}{S:M.S}{H:Hp} (rp:zf K Θ ρ S H) {i:Nat}{a:Addr} (ha:ρ[i]? = some a) {xs:List M.D} (q:S[i]? = some (.lst xs)):∃ zs,H a=some (.lst zs)/\zT K ρ H xs zs:=by
 obtain⟨b,e1,zs,e2,r⟩:=rp.obj i _ q
 rw[ha] at e1;cases e1
 exact⟨zs,e2,r⟩
theorem jS:Ad2 K Θ M.jJ (fun x y H Q=>zRv x y H Q\/zPo K x y H Q):=by
 intro ρ H S x y X Y Q rp rx ry h
 cases x with
 | int i =>
  cases y with
  | int j=>cases rx;cases ry;exact .inl (zI.here (b:=V.int (i+j)) h rp rfl)
  | _=>exact h.elim
 | str a =>
  cases y with
  | str b =>
   obtain⟨rfl,oka⟩:=rx
   obtain⟨rfl,okb⟩:=ry
   have h':zI K Θ (zS K) ρ H (if a.length+b.length <= M.SZ then M.R.ok (M.D.str (a++b)) S else .no) Q:=h
   by_cases hc:a.length+b.length <= M.SZ
   ·rw[if_pos hc] at h'
    refine .inl ⟨by rw[qC,qC,<- JC];exact hc,?_⟩
    rw[zLq]
    exact zI.here (b:=V.str (ofT (a++b))) h' rp ⟨rfl,zFd oka okb⟩
   ·rw[if_neg hc] at h';exact h'.elim
  | _=>exact h.elim
 | tup a =>
  cases y with
  | tup b =>
   obtain⟨l,xs,rfl,hq,r⟩:=rx
   obtain⟨l',ys,rfl,hq',r'⟩:=ry
   have h':zI K Θ (zS K) ρ H (if a≠[]/\a.length+b.length <= M.SZ then M.R.ok (M.D.tup (a++b)) S else .no) Q:=h
   by_cases hc:a≠[]/\a.length+b.length <= M.SZ
   ·rw[if_pos hc] at h'
    refine .inr ⟨l,l',xs,ys,rfl,rfl,hq,hq',fun z=>hc.1 ?_,by rw[<- r.length,<- r'.length,<- JC];exact hc.2,fun hy=>?_,fun hy p hp=>?_⟩
    ·subst z
     have:=r.length
     exact List.length_eq_zero_iff.mp this
    ·subst hy
     have hb:b=[]:=List.length_eq_zero_iff.mp r'.length
     subst hb
     rw[List.append_nil] at h'
     exact zI.here h' rp ⟨l,xs,rfl,hq,r⟩
    ·exact h' ρ _ _ (List.prefix_refl _) (Le.new hp _) (rp.aside hp _) ⟨p,_,rfl,SqT.of qA,(r.app r').mono (List.prefix_refl _) (Le.new hp _)⟩
   ·rw[if_neg hc] at h';exact h'.elim
  | _=>exact h.elim
 | ref i =>
  cases y with
  | ref j =>
   obtain⟨a,rfl,ea⟩:=rx
   obtain⟨b,rfl,eb⟩:=ry
   have h':zI K Θ (zS K) ρ H (match S[i]?,S[j]? with
    | some (.lst xs),some (.lst ys)=>if xs.length+ys.length <= M.SZ then M.alloc (.lst (xs++ys)) S else .no
    | _,_=>.no) Q:=h
   split at h'
   ·rename_i xs ys q1 q2
    obtain⟨zs,e1,r1⟩:=Ji rp ea q1
    obtain⟨ws,e2,r2⟩:=Ji rp eb q2
    by_cases hc:xs.length+ys.length <= M.SZ
    ·rw[if_pos hc] at h'
     exact .inl ⟨zs,ws,e1,e2,by rw[<- r1.length,<- r2.length,<- JC];exact hc,fun p hp=>h'.alloc rp (r1.app r2) hp⟩
    ·rw[if_neg hc] at h';exact h'.elim
   ·exact h'.elim
  | _=>exact h.elim
 | _=>exact h.elim
theorem zP0:AdC K Θ M.cLt uLt:=by
 intro ρ H S x y X Y Q rp rx ry h
 cases x with
 | int i =>
  cases y with
  | int j=>cases rx;cases ry;exact zI.here (b:=decide (i < j)) h rp rfl
  | _=>exact h.elim
 | str a =>
  cases y with
  | str b =>
   obtain⟨rfl,_⟩:=rx
   obtain⟨rfl,_⟩:=ry
   show Q (.bl (decide ((ofT a).cps.toList < (ofT b).cps.toList))) H
   rw[Z5,Z5]
   exact zI.here (b:=decide (a < b)) h rp rfl
  | _=>exact h.elim
 | _=>exact h.elim
theorem zD8:AdC K Θ M.cLe uLe:=by
 intro ρ H S x y X Y Q rp rx ry h
 cases x with
 | int i =>
  cases y with
  | int j=>cases rx;cases ry;exact zI.here (b:=decide (i <= j)) h rp rfl
  | _=>exact h.elim
 | str a =>
  cases y with
  | str b =>
   obtain⟨rfl,_⟩:=rx
   obtain⟨rfl,_⟩:=ry
   show Q (.bl (!decide ((ofT b).cps.toList < (ofT a).cps.toList))) H
   rw[Z5,Z5]
   exact zI.here (b:=!decide (b < a)) h rp rfl
  | _=>exact h.elim
 | _=>exact h.elim
theorem zJj:AdC K Θ M.cGt uGt:=by
 intro ρ H S x y X Y Q rp rx ry h
 cases x with
 | int i =>
  cases y with
  | int j=>cases rx;cases ry;exact zI.here (b:=decide (j < i)) h rp rfl
  | _=>exact h.elim
 | _=>exact h.elim
theorem zIA {ρ:List Addr}{H:Hp}{ds:List M.D}{xs:List V}{i:Int}{d:M.D} (r:zT K ρ H ds xs) (e:M.atI ds i=some d):∃ v,atI xs i=some v/\zS K ρ H d v:=by
 unfold M.atI at e
 cases q:M.ixN ds.length i with
 | none=>rw[q] at e;cases e
 | some j =>
  rw[q] at e
  obtain⟨v,e1,rv⟩:=r.get (i:=j) e
  have q':ixN xs.length i=some j:=by rw[<- r.length];exact q
  exact⟨v,by unfold atI;rw[q'];exact e1,rv⟩
end
end L2
namespace L2
open PySem PySem.Spec PyProof.Rows
section
variable {K:PySem.W.Frag}{Θ:Tab}
theorem zR7 {X:Cx}{a:Expr}{ma:M.EM} (ha:ME X Θ a ma) (he:∀ whole,isTrue a X.env whole=(do let v <- whole;standAt a.pos;holding [v] (truthy v)):=by intro _;rfl):MT X Θ a (M.ZH ma) :=
 (zOd ha he).imp fun σ H Q ⟨ρ,σ',S,st,rp,h⟩=>⟨ρ,σ',S,st,rp,zI.bind h fun ρ1 H1 x X1 S1 p1 l1 rp1 rx h1=>by
  cases x with
  | non=>cases rx;exact⟨false,rfl,zI.here (b:=false) h1 rp1 rfl⟩
  | bl b=>cases rx;exact⟨b,rfl,zI.here (b:=b) h1 rp1 rfl⟩
  | int i=>cases rx;exact⟨_,rfl,zI.here (b:=(i != 0)) h1 rp1 (by show decide (i≠0)=(i != 0);by_cases hi:i=0<;>simp[hi])⟩
  | str z =>
   obtain⟨rfl,_⟩:=rx
   by_cases hz:z.length <= M.SZ
   ·simp only[M.zC4,if_pos hz] at h1
    refine⟨_,⟨by rw[qC,<- JC];exact hz,rfl⟩,zI.here (b:=(((ofT z).length:Int) != 0)) h1 rp1 ?_⟩
    show (!z.isEmpty)=_
    rw[qC]
    cases z<;>simp<;>omega
   ·simp only[M.zC4,if_neg hz] at h1;exact h1.elim
  | tup ds =>
   obtain⟨l,xs,rfl,hq,r⟩:=rx
   refine⟨_,.inr (.inl ⟨xs,hq,rfl⟩),zI.here (b:=!xs.isEmpty) h1 rp1 ?_⟩
   show (!ds.isEmpty)=_
   have:=r.length
   cases ds<;>cases xs<;>first | rfl | cases this
  | ro ds =>
   obtain⟨l,xs,rfl,hq,r⟩:=rx
   refine⟨_,.inl ⟨xs,hq.sq,rfl⟩,zI.here (b:=!xs.isEmpty) h1 rp1 ?_⟩
   show (!ds.isEmpty)=_
   have:=r.length
   cases ds<;>cases xs<;>first | rfl | cases this
  | ref p =>
   obtain⟨a,rfl,ea⟩:=rx
   cases q:S1[p]? with
   | none=>simp[M.zC4,q] at h1;exact h1.elim
   | some o =>
    cases o with
    | lst xs =>
     simp only[M.zC4,q] at h1
     obtain⟨zs,e1,r⟩:=Ji rp1 ea q
     refine⟨_,.inl ⟨zs,SqL.of e1,rfl⟩,zI.here (b:=!zs.isEmpty) h1 rp1 ?_⟩
     show (!xs.isEmpty)=_
     have:=r.length
     cases xs<;>cases zs<;>first | rfl | cases this
    | dct kvs =>
     simp only[M.zC4,q] at h1
     obtain⟨b,e1,zs,e2,r⟩:=rp1.obj _ _ q
     rw[ea] at e1;cases e1
     refine⟨_,.inr (.inr ⟨zs,e2,rfl⟩),zI.here (b:=!zs.isEmpty) h1 rp1 ?_⟩
     cases r<;>rfl
    | fdc _=>simp[M.zC4,q] at h1;exact h1.elim
    | ins c fs=>simp[M.zC4,q] at h1;exact h1.elim
  | ty n=>exact h1.elim⟩
theorem ZV {X:Cx}{a:Expr}{ma:M.EM} (ha:WE X Θ a ma) (he:∀ whole,isTrue a X.env whole=(do let v <- whole;standAt a.pos;holding [v] (truthy v)):=by intro _;rfl):WT X Θ a (M.ZH ma):=by with_unfolding_all exact zR7 (X:=X) (a:=a) (ma:=ma) ha he
inductive TyM (K:PySem.W.Frag) (H:Hp):V->String->Prop where
 | of {x:V}{A:String} (h:zA6 K H x (.type A)):TyM K H x A
 | sqT {a:Addr}{xs:List V} (h:SqT K H a xs):TyM K H (.ref a) "tuple"
 | sqL {a:Addr}{xs:List V} (h:SqL K H a xs):TyM K H (.ref a) "list"
noncomputable def zOo (K:PySem.W.Frag):List V->Hp->VK->Prop:=fun xs H Q=>∃ x n A b,xs=[x,.ty n]/\TyM K H x A/\PySem.W.kitOne K (.type A) (.type n)=some b/\Q (.bl b) H
theorem Jk {X:Cx}:qj X (.builtin "isinstance") (zOo X.K):=by
 intro pins s σ H xs us Q I r h
 obtain⟨x,n,A,b,rfl,ty,e,q⟩:=h
 obtain⟨u,w',rfl,ru,rc⟩:=zTR r
 cases rc
 cases ty with
 | of h=>exact wpAny_with_toks (n:=1) I.tk (zN0 I ru h e fun tk hk=>⟨.bl b,H,I.tok tk hk,rfl,q⟩)
 | sqT h =>
  cases ru
  obtain⟨its,_,⟨o,h1,h2,_⟩,_⟩:=I.tuple h
  exact wpAny_with_toks (n:=1) I.tk (PySem.W.kia_one PySem.W.kitx_tuple I.kIn ⟨o,h1,h2⟩ e (fun z=>nomatch z) fun tk hk=>⟨.bl b,H,I.tok tk hk,rfl,q⟩)
 | sqL h =>
  cases ru
  obtain⟨its,_,⟨o,n,h1,h2,_⟩,_⟩:=I.list h
  exact wpAny_with_toks (n:=1) I.tk (PySem.W.kia_one PySem.W.kitx_list I.kIn ⟨o,h1,h2⟩ e (fun z=>nomatch z) fun tk hk=>⟨.bl b,H,I.tok tk hk,rfl,q⟩)
theorem zQI (n:M.Kd):PySem.W.kitOne K (.type "NoneType") (.type (yX n))=some false/\PySem.W.kitOne K (.type "bool") (.type (yX n))=some (match n with | .bool=>true | .int=>true | _=>false) /\
  PySem.W.kitOne K (.type "int") (.type (yX n))=some (match n with | .int=>true | _=>false)/\PySem.W.kitOne K (.type "str") (.type (yX n))=some (match n with | .str=>true | _=>false) /\
  PySem.W.kitOne K (.type "tuple") (.type (yX n))=some (match n with | .tuple=>true | _=>false)/\PySem.W.kitOne K (.type "list") (.type (yX n))=some (match n with | .list=>true | _=>false) /\
  PySem.W.kitOne K (.type "dict") (.type (yX n))=some (match n with | .dict=>true | _=>false):=by
 cases n<;>exact⟨zCY (by decide +kernel),zCY (by decide +kernel),zCY (by decide +kernel),zCY (by decide +kernel),zCY (by decide +kernel),zCY (by decide +kernel),zCY (by decide +kernel)⟩
theorem zBe:AdN K Θ M.Qi (zOo K):=by
 intro ρ H S xs Xs Q rp rx h
 match xs,rx,h with
 | [x,.ty n],rx,h =>
  obtain⟨v,_,rfl,rv,_,_,rfl,rfl,rfl⟩:=rx
  obtain⟨k1,k2,k3,k4,k5,k6,k7⟩:=zQI (K:=K) n
  have fin:∀ {A:String}{b:Bool},M.QK n x S=.ok b S->TyM K H v A->PySem.W.kitOne K (.type A) (.type (yX n))=some b->zOo K [v,.ty (yX n)] H Q:=fun {A b} e ty k=>by
   have h':zI K Θ (zS K) ρ H ((M.QK n x S).bind fun b s=>.ok (.bl b) s) Q:=h
   rw[e] at h'
   exact⟨v,yX n,A,b,rfl,ty,k,zI.here (b:=V.bl b) h' rp rfl⟩
  cases x with
  | non=>cases rv;exact fin rfl (.of .non) k1
  | bl b=>cases rv;exact fin rfl (.of (.bl b)) k2
  | int i=>cases rv;exact fin rfl (.of (.int i)) k3
  | str z=>obtain⟨rfl,_⟩:=rv;exact fin rfl (.of (.str _)) k4
  | tup ds=>obtain⟨l,ys,rfl,hq,r⟩:=rv;exact fin rfl (.sqT hq) k5
  | ro ds=>obtain⟨l,ys,rfl,hq,r⟩:=rv;exact fin rfl (.sqL hq.sq) k6
  | ty m=>exact h.elim
  | ref p =>
   obtain⟨a,rfl,ea⟩:=rv
   cases q:S[p]? with
   | none=>simp[M.Qi,M.QK,q] at h;exact h.elim
   | some o =>
    cases o with
    | lst xs =>
     obtain⟨zs,e1,r⟩:=Ji rp ea q
     refine fin ?_ (.sqL (SqL.of e1)) k6
     simp only[M.QK,q]<;>(cases n<;>rfl)
    | dct kvs =>
     obtain⟨b,e1,zs,e2,r⟩:=rp.obj _ _ q
     rw[ea] at e1;cases e1
     refine fin ?_ (.of (.dK e2)) k7
     simp only[M.QK,q]<;>(cases n<;>rfl)
    | fdc _=>simp[M.Qi,M.QK,q] at h;exact h.elim
    | ins c fs=>simp[M.Qi,M.QK,q] at h;exact h.elim
 | [_,.non],_,h=>exact h.elim
 | [_,.bl _],_,h=>exact h.elim
 | [_,.int _],_,h=>exact h.elim
 | [_,.str _],_,h=>exact h.elim
 | [_,.tup _],_,h=>exact h.elim
 | [_,.ro _],_,h=>exact h.elim
 | [_,.ref _],_,h=>exact h.elim
 | [],_,h=>exact h.elim
 | [_],_,h=>exact h.elim
 | _::b::_::_,_,h=>cases b<;>exact h.elim
noncomputable def ofP:M.P->PyData
 | .non=>.none
 | .bl b=>.bool b
 | .int i=>.int i
 | .str x=>.str (ofT x)
 | .tup ps=>.tuple (all ps)
 | .lst ps=>.list (all ps)
where all:List M.P->List PyData
 | []=>[]
 | p::ps=>ofP p::all ps
theorem zLt (x y:M.T):(ofT x == ofT y)=(x == y):=by
 by_cases h:x=y
 ·subst h;simp
 ·rw[beq_eq_false_iff_ne.mpr h,beq_eq_false_iff_ne.mpr fun e=>h (zFf e)]
mutual
theorem zIB:∀ p q:M.P,PyData.eqv (ofP p) (ofP q)=M.P.eqv p q
 | .non,.non=>rfl
 | .non,.bl _=>rfl
 | .non,.int _=>rfl
 | .non,.str _=>rfl
 | .non,.tup _=>rfl
 | .non,.lst _=>rfl
 | .bl _,.non=>rfl
 | .bl _,.bl _=>rfl
 | .bl _,.int _=>rfl
 | .bl _,.str _=>rfl
 | .bl _,.tup _=>rfl
 | .bl _,.lst _=>rfl
 | .int _,.non=>rfl
 | .int _,.bl _=>rfl
 | .int _,.int _=>rfl
 | .int _,.str _=>rfl
 | .int _,.tup _=>rfl
 | .int _,.lst _=>rfl
 | .str _,.non=>rfl
 | .str _,.bl _=>rfl
 | .str _,.int _=>rfl
 | .str x,.str y=>zLt x y
 | .str _,.tup _=>rfl
 | .str _,.lst _=>rfl
 | .tup _,.non=>rfl
 | .tup _,.bl _=>rfl
 | .tup _,.int _=>rfl
 | .tup _,.str _=>rfl
 | .tup ps,.tup qs=>zGW ps qs
 | .tup _,.lst _=>rfl
 | .lst _,.non=>rfl
 | .lst _,.bl _=>rfl
 | .lst _,.int _=>rfl
 | .lst _,.str _=>rfl
 | .lst _,.tup _=>rfl
 | .lst ps,.lst qs=>zGW ps qs
theorem zGW:∀ ps qs:List M.P,PyData.eqvAll (ofP.all ps) (ofP.all qs)=M.P.eqvs ps qs
 | [],[]=>rfl
 | [],_::_=>rfl
 | _::_,[]=>rfl
 | p::ps,q::qs=>by
  show (PyData.eqv (ofP p) (ofP q) && PyData.eqvAll (ofP.all ps) (ofP.all qs))=(M.P.eqv p q && M.P.eqvs ps qs)
  rw[zIB p q,zGW ps qs]
end
mutual
theorem zDn:∀ p:M.P,PyData.depth (ofP p)=M.P.dep p
 | .non=>rfl
 | .bl _=>rfl
 | .int _=>rfl
 | .str _=>rfl
 | .tup ps=>by show PyData.depthAll (ofP.all ps)+1=M.P.deps ps+1;rw[zGN ps]
 | .lst ps=>by show PyData.depthAll (ofP.all ps)+1=M.P.deps ps+1;rw[zGN ps]
theorem zGN:∀ ps:List M.P,PyData.depthAll (ofP.all ps)=M.P.deps ps
 | []=>rfl
 | p::ps=>by show max (PyData.depth (ofP p)) (PyData.depthAll (ofP.all ps))=max (M.P.dep p) (M.P.deps ps);rw[zDn p,zGN ps]
end
section
variable {ρ:List Addr}{H:Hp}
mutual
theorem zLy {g:Nat->Option M.P} (hg:∀ i p v,g i=some p->zS K ρ H (.ref i) v->yT K H v (ofP p)/\(ofP p).canLay0=true):∀ {d:M.D}{p:M.P}{v:V},M.yV g d=some p->zS K ρ H d v->yT K H v (ofP p)/\(ofP p).canLay0=true
 | .non,_,_,e,r=>by cases e;cases r;exact⟨.non,rfl⟩
 | .bl _,_,_,e,r=>by cases e;cases r;exact⟨.bl _,rfl⟩
 | .int _,_,_,e,r=>by cases e;cases r;exact⟨.int _,rfl⟩
 | .str x,_,_,e,r=>by
  cases e
  obtain⟨rfl,ok⟩:=r
  refine⟨.str _,?_⟩
  show PyData.strOk (ofT x)=true
  unfold PyData.strOk ofT
  have ok':x.all (fun c=>decide (c < 1114112))=true:=ok
  simpa using ok'
 | .tup ds,_,_,e,r=>by
  obtain⟨l,xs,rfl,hq,rr⟩:=r
  have e':(M.yV.all g ds).map M.P.tup=some _:=e
  cases q:M.yV.all g ds with
  | none=>rw[q] at e';cases e'
  | some ps =>
   rw[q] at e'
   cases e'
   obtain⟨h1,h2⟩:=zHF hg q rr
   exact⟨.tup hq h1,h2⟩
 | .ro ds,_,_,e,r=>by
  obtain⟨l,xs,rfl,hq,rr⟩:=r
  have e':(M.yV.all g ds).map M.P.lst=some _:=e
  cases q:M.yV.all g ds with
  | none=>rw[q] at e';cases e'
  | some ps =>
   rw[q] at e'
   cases e'
   obtain⟨h1,h2⟩:=zHF hg q rr
   exact⟨.lst hq.sq h1,h2⟩
 | .ref i,_,_,e,r=>hg i _ _ e r
 | .ty _,_,_,e,_=>by cases e
theorem zHF {g:Nat->Option M.P} (hg:∀ i p v,g i=some p->zS K ρ H (.ref i) v->yT K H v (ofP p)/\(ofP p).canLay0=true):∀ {ds:List M.D}{ps:List M.P}{xs:List V},M.yV.all g ds=some ps->zT K ρ H ds xs->Jg K H xs (ofP.all ps)/\PyData.canLayAll0 (ofP.all ps)=true
 | [],_,_,e,r=>by cases e;cases r;exact⟨.nil,rfl⟩
 | d::ds,_,_,e,r=>by
  obtain⟨y,ys,rfl,r1,r2⟩:=r
  have e':(match M.yV g d,M.yV.all g ds with | some p,some ps=>some (p::ps) | _,_=>none)=some _:=e
  cases q1:M.yV g d with
  | none=>rw[q1] at e';cases e'
  | some p =>
   cases q2:M.yV.all g ds with
   | none=>rw[q1,q2] at e';cases e'
   | some ps =>
    rw[q1,q2] at e'
    cases e'
    obtain⟨h1,h2⟩:=zLy hg q1 r1
    obtain⟨h3,h4⟩:=zHF hg q2 r2
    refine⟨.cons h1 h3,?_⟩
    show (PyData.canLay0 (ofP p) && PyData.canLayAll0 (ofP.all ps))=true
    rw[h2,h4];rfl
end
theorem zEn {S:M.S} (rp:zf K Θ ρ S H):∀ (n:Nat) {d:M.D}{p:M.P}{v:V},M.toP n S d=some p->zS K ρ H d v->yT K H v (ofP p)/\(ofP p).canLay0=true
 | 0,_,_,_,e,r=>zLy (fun i p v e _=>by cases e) e r
 | n+1,_,_,_,e,r=>zLy (fun i p v e r=>by
   obtain⟨a,rfl,ea⟩:=r
   have e':(match M.jW S i with | some xs=>(M.yV.all (fun j=>M.toP n S (.ref j)) xs).map M.P.lst | none=>none)=some p:=e
   cases q:S[i]? with
   | none=>simp[M.jW,q] at e'
   | some o =>
    cases o with
    | lst xs =>
     simp only[M.jW,q] at e'
     obtain⟨zs,e1,rr⟩:=Ji rp ea q
     cases q2:M.yV.all (fun j=>M.toP n S (.ref j)) xs with
     | none=>rw[q2] at e';cases e'
     | some ps =>
      rw[q2] at e'
      cases e'
      obtain⟨h1,h2⟩:=zHF (fun j p v e r=>zEn rp n e r) q2 rr
      exact⟨.lst (SqL.of e1) h1,h2⟩
    | dct kvs=>simp[M.jW,q] at e'
    | fdc _=>simp[M.jW,q] at e'
    | ins c fs=>simp[M.jW,q] at e') e r
end
noncomputable abbrev DR (K:PySem.W.Frag) (ρ:List Addr) (H:Hp):List (M.D×M.D)->List (Key×V)->Prop:=Paired fun p q=>zBo p.1 q.1/\zS K ρ H p.2 q.2
theorem zGf {d e:M.D}{a b:Key} (ha:zBo d a) (hb:zBo e b):(a=b)=(d=e):=by
 cases d with
 | int i =>
  cases ha
  cases e with
  | int j=>cases hb;exact propext ⟨fun z=>by cases z;rfl,fun z=>by cases z;rfl⟩
  | str y=>obtain⟨rfl,_⟩:=hb;exact propext ⟨fun z=>(nomatch z),fun z=>(nomatch z)⟩
  | _=>exact hb.elim
 | str x =>
  obtain⟨rfl,_⟩:=ha
  cases e with
  | int j=>cases hb;exact propext ⟨fun z=>(nomatch z),fun z=>(nomatch z)⟩
  | str y=>obtain⟨rfl,_⟩:=hb;exact propext ⟨fun z=>by rw[zFf (Sum.inr.inj z)],fun z=>by cases z;rfl⟩
  | _=>exact hb.elim
 | _=>exact ha.elim
theorem zCG {ρ:List Addr}{H:Hp}{d:M.D}{v:V} (h:M.ye d=true) (r:zS K ρ H d v):∃ k,zBo d k/\v=kV k:=by
 cases d with
 | int i=>cases r;exact⟨.inl i,rfl,rfl⟩
 | str x=>obtain⟨rfl,ok⟩:=r;exact⟨.inr (ofT x),⟨rfl,ok⟩,rfl⟩
 | _=>cases h
section
variable {ρ:List Addr}{H:Hp}{kvs:List (M.D×M.D)}{ks:List (Key×V)}{d:M.D}{k:Key}
theorem DR.val (r:DR K ρ H kvs ks) (hk:zBo d k):match M.QE d kvs with | some e=>∃ v,Q9 ks k=some v/\zS K ρ H e v | none=>Q9 ks k=none:=by
 induction r with
 | nil=>exact rfl
 | @cons p q ps qs h t ih =>
  have e:=zGf h.1 hk
  by_cases hd:p.1=d
  ·have hq:q.1=k:=e.mpr hd
   rw[zD2 hq,M.QE,List.lookup_cons,beq_iff_eq.mpr hd.symm]
   exact⟨_,rfl,h.2⟩
  ·have hq:¬ q.1=k:=fun z=>hd (e.mp z)
   rw[zD3 hq,M.QE,List.lookup_cons,beq_eq_false_iff_ne.mpr (Ne.symm hd)]
   exact ih
theorem DR.any (r:DR K ρ H kvs ks) (hk:zBo d k):(ks.any fun kv=>decide (kv.1=k))=kvs.any fun kv=>decide (kv.1=d):=by
 induction r with
 | nil=>rfl
 | @cons p q ps qs h t ih =>
  rw[List.any_cons,List.any_cons,ih]
  congr 1
  exact decide_eq_decide.mpr (zGf h.1 hk ▸ Iff.rfl)
theorem DR.put (r:DR K ρ H kvs ks) (hk:zBo d k) {e:M.D}{v:V} (rv:zS K ρ H e v):DR K ρ H (M.Qh d e kvs) (JG ks k v):=by
 unfold M.Qh JG
 rw[r.any hk]
 by_cases ha:(kvs.any fun kv=>decide (kv.1=d))=true
 ·rw[if_pos ha,if_pos ha]
  clear ha
  induction r with
  | nil=>exact .nil
  | @cons p q ps qs h t ih =>
   rw[List.map_cons,List.map_cons]
   refine .cons ?_ ih
   have eq:=zGf h.1 hk
   by_cases hd:p.1=d
   ·rw[if_pos hd,if_pos (eq.mpr hd)];exact⟨h.1,rv⟩
   ·rw[if_neg hd,if_neg fun z=>hd (eq.mp z)];exact h
 ·rw[if_neg ha,if_neg ha]
  exact Paired.snoc r ⟨hk,rv⟩
end
theorem zBk {ρ:List Addr}{S:M.S}{H:Hp} (rp:zf K Θ ρ S H) {i:Nat}{a:Addr} (ha:ρ[i]? = some a) {kvs:List (M.D×M.D)} (q:S[i]? = some (.dct kvs)):∃ ks,H a=some (.dK ks)/\DR K ρ H kvs ks:=by
 obtain⟨b,e1,zs,e2,r⟩:=rp.obj i _ q
 rw[ha] at e1;cases e1
 exact⟨zs,e2,r⟩
theorem zMy {ρ:List Addr}{S:M.S}{H:Hp} (rp:zf K Θ ρ S H) {i:Nat}{a:Addr} (ha:ρ[i]? = some a) {kvs:List (M.D×M.D)} (q:S[i]? = some (.fdc kvs)):∃ o ks,H a=some (.frz o (.dK ks))/\DR K ρ H kvs ks:=by
 obtain⟨b,e1,o,zs,e2,r⟩:=rp.obj i _ q
 rw[ha] at e1;cases e1
 exact⟨o,zs,e2,r⟩
inductive zBZ (K:PySem.W.Frag) (H:Hp) (kb:List (Key×V)):List (Key×V)->Bool->Prop where
 | nil:zBZ K H kb [] true
 | miss {k:Key}{v:V}{r:List (Key×V)} (h:Q9 kb k=none):zBZ K H kb ((k,v)::r) false
 | hit {k:Key}{v y:V}{r:List (Key×V)}{d e:PyData}{b:Bool} (h:Q9 kb k=some y) (hd:yT K H v d) (he:yT K H y e) (sd:SeqAt.shaped d=true) (se:SeqAt.shaped e=true) (t:zBZ K H kb r b):zBZ K H kb ((k,v)::r) (PyData.eqv d e && b)
noncomputable def zPQ (neg:Bool) (K:PySem.W.Frag):R2:=fun x y H Q=>∃ a b ka kb r,x=.ref a/\y=.ref b/\H a=some (.dK ka)/\H b=some (.dK kb)/\(ka.length=kb.length->zBZ K H kb ka r)/\Q (.bl (if neg then !(ka.length == kb.length && r) else (ka.length == kb.length && r))) H
theorem zIc {X:Cx}{pins:List (Addr×Obj)}{σ:St}{H:Hp}{s:Shared}{A:Around} (I:Inv X pins σ H s) (hu:A.units+64 < cLine) {kb:List (Key×V)}{vb:List (Key×Value)} (rb:KV kb vb):∀ {ka:List (Key×V)}{va:List (Key×Value)}{r:Bool},KV ka va->zBZ X.K H kb ka r->PySem.W.KeqHits A s vb va r
 | _,_,_,ra,.nil=>by cases ra;exact .nil
 | _,_,_,ra,.miss h=>by
  cases ra with
  | @cons p q ps qs h1 t =>
   obtain⟨k,v⟩:=q
   have hk:_=k:=h1.1
   have hv:=rb.val k
   rw[<- hk,h] at hv
   refine .miss ?_
   rw[<- hk]
   cases q2:valueAt vb _ with
   | none=>rfl
   | some w=>rw[q2] at hv;exact hv.elim
 | _,_,_,ra,.hit h hd he sd se t=>by
  cases ra with
  | @cons p q ps qs h1 t1 =>
   obtain⟨k,v⟩:=q
   have hk:_=k:=h1.1
   have hv:=rb.val k
   rw[<- hk,h] at hv
   cases q2:valueAt vb k with
   | none=>rw[hk,q2] at hv;exact hv.elim
   | some w =>
    rw[hk,q2] at hv
    obtain⟨as,r1⟩:=hd.reads I h1.2
    obtain⟨bs,r2⟩:=he.reads I hv
    exact .hit q2 (SeqAt.eqAt_reads _ _ A s _ _ as bs r1 r2 (SeqAt.canLay_of_shaped sd) (SeqAt.canLay_of_shaped se) (SeqAt.room_of_shaped sd hu)) (zIc I hu rb t1 t)
theorem zS7 {X:Cx}{k:Nat} (hr:jY k X.A):OpR X (compareOp .Eq) (zPQ false X.K):=by
 intro pins s σ H x y v u Q I rx ry h
 obtain⟨a,b,ka,kb,r,rfl,rfl,ha,hb,hh,q⟩:=h
 cases rx;cases ry
 obtain⟨za,la,va,ra,da⟩:=zDA I.hok ha
 obtain⟨zb,lb,vb,rb,db⟩:=zDA I.hok hb
 refine PySem.W.keq_eq la lb da db hr.units0 (fun e=>zIc I (by show X.A.units+1+64 < _;have:=hr.un;omega) rb ra (hh (by rw[ra.length,rb.length];exact e))) ⟨.bl _,H,I,rfl,?_⟩
 rw[<- ra.length,<- rb.length]
 exact q
theorem zR2 {X:Cx}{k:Nat} (hr:jY k X.A):OpR X (compareOp .NotEq) (zPQ true X.K):=by
 intro pins s σ H x y v u Q I rx ry h
 obtain⟨a,b,ka,kb,r,rfl,rfl,ha,hb,hh,q⟩:=h
 cases rx;cases ry
 obtain⟨za,la,va,ra,da⟩:=zDA I.hok ha
 obtain⟨zb,lb,vb,rb,db⟩:=zDA I.hok hb
 refine PySem.W.keq_ne la lb da db hr.units0 (fun e=>zIc I (by show X.A.units+1+64 < _;have:=hr.un;omega) rb ra (hh (by rw[ra.length,rb.length];exact e))) ⟨.bl _,H,I,rfl,?_⟩
 rw[<- ra.length,<- rb.length]
 exact q
theorem zJ5 {ρ:List Addr}{H:Hp}{S:M.S} (rp:zf K Θ ρ S H) {ws:List (M.D×M.D)}{kb:List (Key×V)} (rb:DR K ρ H ws kb):∀ {ks:List (M.D×M.D)}{ka:List (Key×V)}{b:Bool},DR K ρ H ks ka->M.dEq S ws ks=some b->zBZ K H kb ka b
 | _,_,_,.nil,e=>by cases e;exact .nil
 | (k,v)::ks,(kk,vv)::ka,b,.cons h t,e=>by
  have hv:=DR.val rb h.1
  unfold M.dEq at e
  cases q:M.QE k ws with
  | none =>
   rw[q] at e hv
   cases e
   exact .miss hv
  | some w =>
   rw[q] at e hv
   obtain⟨y,hy,ry⟩:=hv
   dsimp only at e
   cases q1:M.toP 8 S v with
   | none=>rw[q1] at e;cases e
   | some p1 =>
    cases q2:M.toP 8 S w with
    | none=>rw[q1,q2] at e;cases e
    | some p2 =>
     cases q3:M.dEq S ws ks with
     | none=>rw[q1,q2,q3] at e;cases e
     | some b' =>
      rw[q1,q2,q3] at e
      dsimp only at e
      by_cases hc:M.P.dep p1 <= 64/\M.P.dep p2 <= 64
      ·rw[if_pos hc] at e
       cases e
       obtain⟨d1,c1⟩:=zEn rp _ q1 h.2
       obtain⟨d2,c2⟩:=zEn rp _ q2 ry
       rw[<- zIB]
       refine .hit hy d1 d2 ?_ ?_ (zJ5 rp rb t q3)
       ·unfold SeqAt.shaped;rw[c1,Bool.true_and,zDn];exact decide_eq_true hc.1
       ·unfold SeqAt.shaped;rw[c2,Bool.true_and,zDn];exact decide_eq_true hc.2
      ·rw[if_neg hc] at e;cases e
theorem zKc {ρ:List Addr}{H:Hp}{S:M.S}{x y:M.D}{X1 Y:V}{Q':Bool->Hp->Prop} (rp:zf K Θ ρ S H) (rx:zS K ρ H x X1) (ry:zS K ρ H y Y) (h:zI K Θ rB ρ H (M.zHc x y S) Q') :
  ∃ a b ka kb r,X1=.ref a/\Y=.ref b/\H a=some (.dK ka)/\H b=some (.dK kb)/\(ka.length=kb.length->zBZ K H kb ka r)/\Q' (ka.length == kb.length && r) H:=by
 unfold M.zHc at h
 split at h
 ·rename_i i j
  split at h
  ·rename_i ks ws e1 e2
   obtain⟨a,rfl,ha⟩:=rx
   obtain⟨b,rfl,hb⟩:=ry
   obtain⟨ka,h1,r1⟩:=zBk rp ha e1
   obtain⟨kb,h2,r2⟩:=zBk rp hb e2
   have l1:=Paired.length r1
   have l2:=Paired.length r2
   split at h
   ·rename_i hl
    split at h
    ·rename_i bb q
     refine⟨a,b,ka,kb,bb,rfl,rfl,h1,h2,fun _=>zJ5 rp r2 r1 q,?_⟩
     rw[show (ka.length == kb.length)=true by rw[beq_iff_eq];omega,Bool.true_and]
     exact zI.here (b:=bb) h rp rfl
    ·exact h.elim
   ·rename_i hl
    refine⟨a,b,ka,kb,false,rfl,rfl,h1,h2,fun e=>absurd (by omega) hl,?_⟩
    rw[Bool.and_false]
    exact zI.here (b:=false) h rp rfl
  ·exact h.elim
 ·exact h.elim
noncomputable def zMA (K:PySem.W.Frag) (neg:Bool):R2:=fun x y H Q=>(zIO x y=true/\Q (.bl (if neg then !decide (x=y) else decide (x=y))) H)\/zOW K neg x y H Q\/zPQ neg K x y H Q
theorem jz {X:Cx}{k:Nat} (hr:jY k X.A):OpR X (compareOp .Eq) (zMA X.K false):=by
 intro pins s σ H x y v u Q I rx ry h
 rcases h with h | h | h
 ·exact zTa pins s σ H x y v u Q I rx ry h
 ·exact zSO hr pins s σ H x y v u Q I rx ry h
 ·exact zS7 hr pins s σ H x y v u Q I rx ry h
theorem zAG {X:Cx}{k:Nat} (hr:jY k X.A):OpR X (compareOp .NotEq) (zMA X.K true):=by
 intro pins s σ H x y v u Q I rx ry h
 rcases h with h | h | h
 ·exact zTb pins s σ H x y v u Q I rx ry h
 ·exact zS4 hr pins s σ H x y v u Q I rx ry h
 ·exact zR2 hr pins s σ H x y v u Q I rx ry h
theorem zLZ {ρ:List Addr}{H:Hp}{S:M.S}{x y:M.D}{X1 Y:V}{Q':Bool->Hp->Prop} (rp:zf K Θ ρ S H) (rx:zS K ρ H x X1) (ry:zS K ρ H y Y) (h:zI K Θ rB ρ H (M.eqD x y S) Q') :
  (zIO X1 Y=true/\Q' (decide (X1=Y)) H)\/(∃ d e,yT K H X1 d/\yT K H Y e/\SeqAt.shaped d=true/\SeqAt.shaped e=true/\Q' (PyData.eqv d e) H)\/∃ a b ka kb r,X1=.ref a/\Y=.ref b/\H a=some (.dK ka)/\H b=some (.dK kb)/\(ka.length=kb.length->zBZ K H kb ka r)/\Q' (ka.length == kb.length && r) H:=by
 have gen:∀ {p q:M.P},M.toP M.zCe S x=some p->M.toP M.zCe S y=some q->M.P.dep p <= 64/\M.P.dep q <= 64->Q' (M.P.eqv p q) H->∃ d e,yT K H X1 d/\yT K H Y e/\SeqAt.shaped d=true/\SeqAt.shaped e=true/\Q' (PyData.eqv d e) H:=fun {p q} e1 e2 hd hq=>by
  obtain⟨d1,c1⟩:=zEn rp _ e1 rx
  obtain⟨d2,c2⟩:=zEn rp _ e2 ry
  refine⟨_,_,d1,d2,?_,?_,by rw[zIB];exact hq⟩
  ·unfold SeqAt.shaped;rw[c1,Bool.true_and,zDn];exact decide_eq_true hd.1
  ·unfold SeqAt.shaped;rw[c2,Bool.true_and,zDn];exact decide_eq_true hd.2
 have qu:zI K Θ rB ρ H (match M.toP M.zCe S x,M.toP M.zCe S y with
   | some p,some q=>if M.P.dep p <= 64/\M.P.dep q <= 64 then M.R.ok (M.P.eqv p q) S else .no
   | _,_=>M.zHc x y S) Q'->(∃ d e,yT K H X1 d/\yT K H Y e/\SeqAt.shaped d=true/\SeqAt.shaped e=true/\Q' (PyData.eqv d e) H)\/∃ a b ka kb r,X1=.ref a/\Y=.ref b/\H a=some (.dK ka)/\H b=some (.dK kb)/\(ka.length=kb.length->zBZ K H kb ka r)/\Q' (ka.length == kb.length && r) H:=fun h'=>by
  cases e1:M.toP M.zCe S x with
  | none=>rw[e1] at h';exact .inr (zKc rp rx ry h')
  | some p =>
   cases e2:M.toP M.zCe S y with
   | none=>rw[e1,e2] at h';exact .inr (zKc rp rx ry h')
   | some q =>
    rw[e1,e2] at h'
    dsimp only at h'
    by_cases hc:M.P.dep p <= 64/\M.P.dep q <= 64
    ·rw[if_pos hc] at h';exact .inl <| gen e1 e2 hc (zI.here (b:=M.P.eqv p q) h' rp rfl)
    ·rw[if_neg hc] at h';exact h'.elim
 have sc:∀ {b:Bool},zIO X1 Y=true->decide (X1=Y)=b->M.eqD x y S=.ok b S->(zIO X1 Y=true/\Q' (decide (X1=Y)) H):=fun {b} h1 h2 h3=>by
  rw[h3] at h
  rw[h2]
  exact⟨h1,zI.here (b:=b) h rp rfl⟩
 cases x with
 | str a =>
  cases y with
  | str b =>
   obtain⟨rfl,_⟩:=rx
   obtain⟨rfl,_⟩:=ry
   refine .inl (sc rfl ?_ rfl)
   by_cases hab:a=b
   ·subst hab;simp
   ·rw[decide_eq_false hab,decide_eq_false fun e=>hab (zFf (V.str.inj e))]
  | _=>exact .inr (qu h)
 | int a =>
  cases y with
  | int b =>
   cases rx;cases ry
   refine .inl (sc rfl ?_ rfl)
   by_cases hab:a=b
   ·subst hab;simp
   ·rw[decide_eq_false hab,decide_eq_false fun e=>hab (V.int.inj e)]
  | _=>exact .inr (qu h)
 | bl a =>
  cases y with
  | bl b =>
   cases rx;cases ry
   refine .inl (sc rfl ?_ rfl)
   by_cases hab:a=b
   ·subst hab;simp
   ·rw[decide_eq_false hab,decide_eq_false fun e=>hab (V.bl.inj e)]
  | _=>exact .inr (qu h)
 | non =>
  cases y with
  | non=>cases rx;cases ry;exact .inl (sc rfl rfl rfl)
  | _=>exact .inr (qu h)
 | _=>exact .inr (qu h)
theorem qR:AdC K Θ M.cEq (zMA K false):=by
 intro ρ H S x y X1 Y Q rp rx ry h
 rcases zLZ rp rx ry h with h | ⟨d,e,h1,h2,h3,h4,h5⟩ | ⟨a,b,ka,kb,r,h⟩
 ·exact .inl h
 ·exact .inr (.inl ⟨d,e,h1,h2,h3,h4,h5⟩)
 ·exact .inr (.inr ⟨a,b,ka,kb,r,h⟩)
theorem zBa:AdC K Θ M.cNe (zMA K true):=by
 intro ρ H S x y X1 Y Q rp rx ry h
 have h':zI K Θ rB ρ H (M.eqD x y S) (fun b H'=>Q (.bl (!b)) H'):=zI.bind h fun ρ1 H1 b b' S1 p1 l1 rp1 e h1=>by cases e;exact zI.here (b:=!b) h1 rp1 rfl
 rcases zLZ rp rx ry h' with h | ⟨d,e,h1,h2,h3,h4,h5⟩ | ⟨a,b,ka,kb,r,h⟩
 ·exact .inl h
 ·exact .inr (.inl ⟨d,e,h1,h2,h3,h4,h5⟩)
 ·exact .inr (.inr ⟨a,b,ka,kb,r,h⟩)
end
end L2
namespace L2
open PySem PySem.Spec PyProof.Rows
section
variable {K:PySem.W.Frag}{Θ:Tab}
theorem zDX (n d:Nat) (o:Option Int):M.sIx n d o=HT.sIx n d o:=by
 cases o with
 | none=>rfl
 | some v =>
  have:=HT.zIN v n d
  show (if v < 0 then max (v+(n:Int)) 0 else min v (n:Int)).toNat=_
  rw[this];simp
theorem zIG {x:M.T}{lo hi:Option Int}:∀ c∈M.cut x lo hi,c∈x:=fun c hc=>List.mem_of_mem_drop (List.mem_of_mem_take hc)
theorem zH5 {ρ:List Addr}{H:Hp}{ds:List M.D}{xs:List V} (r:zT K ρ H ds xs) (lo hi:Option Int):zT K ρ H (M.cut ds lo hi) (zDQ xs lo hi):=by
 unfold M.cut zDQ
 rw[zDX,zDX,r.length]
 exact (r.drop _).take _
theorem JF:∀ ρ H S x X1 l u Q,zf K Θ ρ S H->zS K ρ H x X1->zI K Θ (zS K) ρ H (M.slD x l u S) Q->uSl K X1 l u H Q:=by
 intro ρ H S x X1 l u Q rp rx h
 cases x with
 | str z =>
  obtain⟨rfl,ok⟩:=rx
  by_cases hz:z.length <= M.SZ
  ·simp only[M.slD,if_pos hz] at h
   refine⟨by rw[qC,<- JC];exact hz,zI.here h rp ⟨?_,zB7 ok zIG⟩⟩
   show V.str (zHv (ofT z) l u)=V.str (ofT (M.cut z l u))
   unfold zHv M.cut ofT
   have e:(⟨z.toArray⟩:Str).length=z.length:=by simp[Str.length]
   rw[e,zDX,zDX]
  ·simp only[M.slD,if_neg hz] at h;exact h.elim
 | tup ds =>
  obtain⟨a,xs,rfl,hq,r⟩:=rx
  by_cases hc:M.sIx ds.length 0 l=0/\M.sIx ds.length ds.length u=ds.length
  ·simp only[M.slD,if_pos hc] at h;exact h.elim
  ·simp only[M.slD,if_neg hc] at h
   refine .inr ⟨xs,hq,?_,fun p hp=>h ρ _ _ (List.prefix_refl _) (Le.new hp _) (rp.aside hp _) ⟨p,_,rfl,SqT.of qA,(zH5 r l u).mono (List.prefix_refl _) (Le.new hp _)⟩⟩
   rw[zDX,zDX,r.length] at hc
   exact hc
 | ro ds =>
  obtain⟨a,xs,rfl,hq,r⟩:=rx
  exact .inl ⟨xs,hq.sq,fun p hp=>zI.alloc h rp (zH5 r l u) hp⟩
 | ref p =>
  obtain⟨a,rfl,ea⟩:=rx
  cases q:S[p]? with
  | none=>simp[M.slD,M.jW,q] at h;exact h.elim
  | some o =>
   cases o with
   | lst xs =>
    simp only[M.slD,M.jW,q] at h
    obtain⟨zs,e1,r⟩:=Ji rp ea q
    exact .inl ⟨zs,SqL.of e1,fun p hp=>zI.alloc h rp (zH5 r l u) hp⟩
   | dct kvs=>simp[M.slD,M.jW,q] at h;exact h.elim
   | fdc _=>simp[M.slD,M.jW,q] at h;exact h.elim
   | ins c fs=>simp[M.slD,M.jW,q] at h;exact h.elim
 | _=>exact h.elim
theorem zJA {ρ:List Addr}{H:Hp}:∀ {ds:List M.D}{ys:List V}{bs:List Bool},M.zC3 ds=some bs->zT K ρ H ds ys->ys=bs.map V.bl
 | [],_,_,e,r=>by cases e;cases r;rfl
 | .bl b::ds,_,_,e,r=>by
  obtain⟨y,ys,rfl,r1,r2⟩:=r
  cases r1
  have e':(M.zC3 ds).map (b :: ·)=some _:=e
  cases q:M.zC3 ds with
  | none=>rw[q] at e';cases e'
  | some cs=>rw[q] at e';cases e';rw[zJA q r2];rfl
 | .non::_,_,_,e,_=>by cases e
 | .int _::_,_,_,e,_=>by cases e
 | .str _::_,_,_,e,_=>by cases e
 | .tup _::_,_,_,e,_=>by cases e
 | .ro _::_,_,_,e,_=>by cases e
 | .ref _::_,_,_,e,_=>by cases e
 | .ty _::_,_,_,e,_=>by cases e
theorem zIV:AdK K Θ M.zEi (zRp K):=by
 intro ρ H S ds ys p Q rp r hq h
 cases e:M.zC3 ds with
 | none=>simp only[M.zEi,e] at h;exact h.elim
 | some bs =>
  simp only[M.zEi,e] at h
  have:=zJA e r
  subst this
  exact⟨p,bs,rfl,hq,zI.here (b:=V.bl (bs.all id)) h rp rfl⟩
theorem zE7 {ρ:List Addr}{H:Hp}:∀ {ds:List M.D}{ys:List V}{ts:List M.T},M.zBY ds=some ts->zT K ρ H ds ys->ys=(ts.map ofT).map V.str/\∀ t∈ts,okT t
 | [],_,_,e,r=>by cases e;cases r;exact⟨rfl,fun t h=>by cases h⟩
 | .str x::ds,_,_,e,r=>by
  obtain⟨y,ys,rfl,r1,r2⟩:=r
  obtain⟨rfl,ok⟩:=r1
  have e':(M.zBY ds).map (x :: ·)=some _:=e
  cases q:M.zBY ds with
  | none=>rw[q] at e';cases e'
  | some cs =>
   rw[q] at e'
   cases e'
   obtain⟨h1,h2⟩:=zE7 q r2
   refine⟨by rw[h1];rfl,fun t ht=>?_⟩
   rcases List.mem_cons.mp ht with rfl | ht
   ·exact ok
   ·exact h2 t ht
 | .non::_,_,_,e,_=>by cases e
 | .int _::_,_,_,e,_=>by cases e
 | .bl _::_,_,_,e,_=>by cases e
 | .tup _::_,_,_,e,_=>by cases e
 | .ro _::_,_,_,e,_=>by cases e
 | .ref _::_,_,_,e,_=>by cases e
 | .ty _::_,_,_,e,_=>by cases e
theorem zJH (x:M.T):∀ (ys:List M.T) (acc:M.T),((ys.map ofT).foldl (fun acc p=>acc++(ofT x).cps++p.cps) acc.toArray)=(acc++(ys.map (x ++ ·)).flatten).toArray
 | [],acc=>by simp
 | y::ys,acc=>by
  rw[List.map_cons,List.foldl_cons]
  have e:acc.toArray++(ofT x).cps++(ofT y).cps=(acc++x++y).toArray:=by simp[ofT]
  rw[e,zJH x ys]
  simp
theorem zHV (x y:M.T):∀ ys:List M.T,M.qD x (y::ys)=y++(ys.map (x ++ ·)).flatten
 | []=>by simp[M.qD]
 | z::ys=>by
  show y++x++M.qD x (z::ys)=_
  rw[zHV x z ys];simp
theorem zRL (x:M.T) (ys:List M.T):Txt.join (ofT x) (ys.map ofT)=ofT (M.qD x ys):=by
 cases ys with
 | nil=>rfl
 | cons y ys =>
  show (⟨(((y::ys).map ofT).drop 1).foldl (fun acc p=>acc++(ofT x).cps++p.cps) (((y::ys).map ofT).headD Str.empty).cps⟩:Str)=_
  rw[zHV,List.map_cons,List.drop_one,List.tail_cons]
  have:=zJH x ys y
  show (⟨(ys.map ofT).foldl _ y.toArray⟩:Str)=_
  rw[this];rfl
theorem zKP {x:M.T} (hx:okT x):∀ {ys:List M.T},(∀ t∈ys,okT t)->okT (M.qD x ys)
 | [],_=>rfl
 | [y],h=>h y (by simp)
 | y::z::ys,h=>zFd (zFd (h y (by simp)) hx) (zKP hx fun t ht=>h t (List.mem_cons_of_mem _ ht))
theorem zRE (ts:List M.T):((ts.map ofT).map (·.length)).sum=(ts.map List.length).sum:=by
 rw[List.map_map]
 exact congrArg List.sum (List.map_congr_left fun t _=>qC t)
theorem zCd {y:M.T} (hy:okT y):∀ ρ H S ds ys p Q,zf K Θ ρ S H->zT K ρ H ds ys->(SqL K H p ys\/SqT K H p ys)->zI K Θ (zS K) ρ H (M.JB y ds S) Q->zHN K (.str (ofT y)) [.ref p] H Q:=by
 intro ρ H S ds ys p Q rp r hq h
 cases e:M.zBY ds with
 | none=>simp only[M.JB,e] at h;exact h.elim
 | some ts =>
  obtain⟨rfl,ok⟩:=zE7 e r
  by_cases hz:(ts.map List.length).sum+ts.length * y.length <= M.SZ
  ·simp only[M.JB,e,if_pos hz] at h
   refine⟨ofT y,p,ts.map ofT,rfl,rfl,hq,?_,?_⟩
   ·rw[zRE,List.length_map,qC];exact hz
   ·rw[zRL];exact zI.here h rp ⟨rfl,zKP hy ok⟩
  ·simp only[M.JB,e,if_neg hz] at h;exact h.elim
theorem zCB:AdM K Θ M.zAM (zHN K):=by
 intro ρ H S x xs X1 Xs Q rp rx rxs h
 cases x with
 | str y =>
  obtain⟨rfl,ok⟩:=rx
  match xs,rxs,h with
  | [.tup ds],rxs,h =>
   obtain⟨_,_,rfl,⟨l,ys,rfl,hq,r⟩,rfl⟩:=rxs
   exact zCd ok ρ H S ds ys l Q rp r (.inr hq) h
  | [.ro ds],rxs,h =>
   obtain⟨_,_,rfl,⟨l,ys,rfl,hq,r⟩,rfl⟩:=rxs
   exact zCd ok ρ H S ds ys l Q rp r (.inl hq.sq) h
  | [.ref p],rxs,h =>
   obtain⟨_,_,rfl,⟨a,rfl,ea⟩,rfl⟩:=rxs
   cases q:S[p]? with
   | none=>simp[M.zAM,M.zII,M.jW,q] at h;exact h.elim
   | some o =>
    cases o with
    | lst xs =>
     simp only[M.zAM,M.zII,M.jW,q] at h
     obtain⟨zs,e1,r⟩:=Ji rp ea q
     exact zCd ok ρ H S xs zs a Q rp r (.inl (SqL.of e1)) h
    | dct kvs=>simp[M.zAM,M.zII,M.jW,q] at h;exact h.elim
    | fdc _=>simp[M.zAM,M.zII,M.jW,q] at h;exact h.elim
    | ins c fs=>simp[M.zAM,M.zII,M.jW,q] at h;exact h.elim
  | [.non],_,h=>exact h.elim
  | [.bl _],_,h=>exact h.elim
  | [.int _],_,h=>exact h.elim
  | [.str _],_,h=>exact h.elim
  | [.ty _],_,h=>exact h.elim
  | [],_,h=>exact h.elim
  | a::_::_,_,h=>cases a<;>exact h.elim
 | _=>exact h.elim
noncomputable def zHP:List (V×V)->List V
 | []=>[]
 | (a,b)::r=>a::b::zHP r
noncomputable def MP (X:Cx) (Θ:Tab) (pos:Pos) (keys:List (Option Expr)) (values:List Expr) (m:M.AM):Prop:=∃ trs,PPs X pos keys values trs /\
 ∀ {σ:St}{H:Hp}{Q:List (V×V)->Hp->Prop}{ρ:List Addr}{σ':M.St}{S:M.S},j4 X.K ρ H σ' σ->zf X.K Θ ρ S H->zI X.K Θ (zT X.K) ρ H (m σ' S) (fun xs H'=>∀ ps,xs=zHP ps->Q ps H')->zHE trs σ H Q
@[irreducible] noncomputable def WP (X:Cx) (Θ:Tab) (pos:Pos) (keys:List (Option Expr)) (values:List Expr) (m:M.AM):Prop:=MP X Θ pos keys values m
theorem zRW {X:Cx}{pos:Pos}:MP X Θ pos [] [] M.zH:=⟨[],zRC,fun st rp h=>zI.here (b:=[]) h rp rfl [] rfl⟩
theorem zPN {X:Cx}{pos:Pos}:WP X Θ pos [] [] M.zH:=by with_unfolding_all exact zRW (X:=X) (pos:=pos)
theorem zQp {X:Cx}{pos:Pos}{k v:Expr}{ks:List (Option Expr)}{vs:List Expr}{mk mv:M.EM}{r:M.AM} (hk:ME X Θ k mk) (hv:ME X Θ v mv) (hr:MP X Θ pos ks vs r):MP X Θ pos (some k::ks) (v::vs) (M.zC mk (M.zC mv r)):=by
 obtain⟨trs,h1,h2⟩:=hr
 refine⟨_,zPU hk hv h1,fun {σ H Q ρ σ' S} st rp h=>⟨ρ,σ',S,st,rp,?_⟩⟩
 have h':zI X.K Θ (zT X.K) ρ H ((mk σ' S).bind fun x s=>(((mv σ' s).bind fun y s=>(r σ' s).bind fun ys s=>.ok (y::ys) s)).bind fun xs s=>.ok (x::xs) s) _:=h
 cases e1:mk σ' S with
 | no=>rw[e1] at h';exact h'.elim
 | exc a s=>rw[e1] at h';exact h'.elim
 | ok d S1 =>
  rw[e1,M.R.bind_ok] at h'
  intro ρ1 H1 x p1 l1 rp1 rx
  refine⟨ρ1,σ',S1,st.mono p1 l1,rp1,?_⟩
  have h'':=zI.weak h' p1 l1
  cases e2:mv σ' S1 with
  | no=>rw[e2] at h'';exact h''.elim
  | exc a s=>rw[e2] at h'';exact h''.elim
  | ok d2 S2 =>
   rw[e2,M.R.bind_ok] at h''
   intro ρ2 H2 y p2 l2 rp2 ry
   refine h2 (st.mono (p1.trans p2) (l1.trans l2)) rp2 ?_
   have h3:=zI.weak h'' p2 l2
   cases e3:r σ' S2 with
   | no=>rw[e3] at h3;exact h3.elim
   | exc a s=>rw[e3] at h3;exact h3.elim
   | ok ds S3 =>
    rw[e3] at h3
    intro ρ3 H3 xs p3 l3 rp3 rxs ps eps
    exact h3 ρ3 H3 (x::y::xs) p3 l3 rp3 ⟨x,_,rfl,rx.mono (p2.trans p3) (l2.trans l3),y,_,rfl,ry.mono p3 l3,rxs⟩ ((x,y)::ps) (by rw[eps];rfl)
theorem zFE {X:Cx}{pos:Pos}{k v:Expr}{ks:List (Option Expr)}{vs:List Expr}{mk mv:M.EM}{r:M.AM} (hk:WE X Θ k mk) (hv:WE X Θ v mv) (hr:WP X Θ pos ks vs r):WP X Θ pos (some k::ks) (v::vs) (M.zC mk (M.zC mv r)):=by with_unfolding_all exact zQp (X:=X) (pos:=pos) (k:=k) (v:=v) (ks:=ks) (vs:=vs) (mk:=mk) (mv:=mv) (r:=r) hk hv hr
theorem zHh {ρ:List Addr}{H:Hp}:∀ {xs:List M.D}{ps:List (V×V)}{acc kvs:List (M.D×M.D)}{ks:List (Key×V)},M.zCF xs acc=some kvs->zT K ρ H xs (zHP ps)->DR K ρ H acc ks ->
  ∃ ks':List (Key×V),ps=ks'.map (fun kv=>(kV kv.1,kv.2))/\DR K ρ H kvs (zCa ks ks')/\2 * ks'.length=xs.length
 | [],ps,acc,kvs,ks,e,r,ra=>by
  cases e
  cases ps with
  | nil=>exact⟨[],rfl,ra,rfl⟩
  | cons p ps=>cases r
 | [_],_,_,_,_,e,_,_=>by cases e
 | k::v::xs,ps,acc,kvs,ks,e,r,ra=>by
  cases ps with
  | nil=>obtain⟨_,_,z,_⟩:=r;cases z
  | cons p ps =>
   obtain⟨y,ys,e1,r1,y2,ys2,e2,r2,r3⟩:=r
   have e1':p.1::p.2::zHP ps=y::ys:=e1
   cases e1'
   cases e2
   have e':(if M.ye k=true then M.zCF xs (M.Qh k v acc) else none)=some kvs:=e
   by_cases hk:M.ye k=true
   case neg=>rw[if_neg hk] at e';cases e'
   rw[if_pos hk] at e'
   obtain⟨kk,h1,h2⟩:=zCG hk r1
   obtain⟨ks',g1,g2,g3⟩:=zHh e' r3 (ra.put h1 r2)
   refine⟨(kk,p.2)::ks',?_,g2,by simp only[List.length_cons];omega⟩
   rw[List.map_cons,<- g1,<- h2]
theorem zQW {X:Cx}{pos:Pos}{keys:List (Option Expr)}{values:List Expr}{m:M.AM} (h:MP X Θ pos keys values m) (hall:keys.all (·.isSome)=true:=by rfl) (hl:keys.length=values.length:=by rfl) (h0:keys≠[]:=by exact List.cons_ne_nil _ _)
  (h15:keys.length <= 15:=by decide):ME X Θ (.Dict keys values pos) (M.zMC m):=by
 obtain⟨trs,h1,h2⟩:=h
 refine (zQv h1 hall hl h0 h15).imp fun σ H Q ⟨ρ,σ',S,st,rp,h⟩ p hp=>?_
 have rp1:zf X.K Θ (ρ++[p]) (S++[.dct []]) (upd H p (.dK [])):=rp.alloc hp ⟨[],qA,.nil⟩
 refine h2 (st.mono (List.prefix_append _ _) (Le.new hp _)) rp1 ?_
 have h':zI X.K Θ (zS X.K) ρ H ((m σ' (S++[.dct []])).bind fun xs s'=>match s'[S.length]? with
  | some (.dct [])=>(match M.zCF xs [] with
   | some kvs=>if kvs.length <= 15/\xs.length <= 30 then .ok (.ref S.length) (s'.set S.length (.dct kvs)) else .no
   | none=>.no)
  | _=>.no) Q:=h
 cases e1:m σ' (S++[.dct []]) with
 | no=>rw[e1] at h';exact h'.elim
 | exc a s=>rw[e1] at h';exact h'.elim
 | ok xs S1 =>
  rw[e1,M.R.bind_ok] at h'
  intro ρ2 H2 ys p2 l2 rp2 rys ps eps
  subst eps
  have hpp:ρ2[S.length]? = some p:=zCC p2 (by rw[<- rp.len];simp)
  split at h'
  ·rename_i hS
   split at h'
   ·rename_i kvs hk
    by_cases hc:kvs.length <= 15/\xs.length <= 30
    case neg=>rw[if_neg hc] at h';exact h'.elim
    rw[if_pos hc] at h'
    obtain⟨ks0,e3,r0⟩:=zBk rp2 hpp hS
    cases r0
    obtain⟨ks',g1,g2,g3⟩:=zHh hk rys .nil
    refine⟨e3,ks',g1,by omega,?_⟩
    have mu:Mut (H2 p):=by rw[e3];trivial
    have le:Le H (upd H2 p (.dK (zCa [] ks'))):=((Le.new hp _).trans l2).trans (Le.put mu _)
    exact h' ρ2 _ _ ((List.prefix_append _ _).trans p2) le (rp2.put hpp mu ⟨_,qA,Paired.mapP g2 fun a b z=>⟨z.1,z.2.mono (List.prefix_refl _) (Le.put mu _)⟩⟩) ⟨p,rfl,hpp⟩
   ·exact h'.elim
  ·exact h'.elim
theorem zOH {X:Cx}{pos:Pos}{keys:List (Option Expr)}{values:List Expr}{m:M.AM} (h:WP X Θ pos keys values m) (hall:keys.all (·.isSome)=true:=by rfl) (hl:keys.length=values.length:=by rfl) (h0:keys≠[]:=by exact List.cons_ne_nil _ _)
  (h15:keys.length <= 15:=by decide):WE X Θ (.Dict keys values pos) (M.zMC m):=by with_unfolding_all exact zQW (X:=X) (pos:=pos) (keys:=keys) (values:=values) (m:=m) h hall hl h0 h15
end
end L2
namespace L2
open PySem PySem.Spec PyProof.Rows
section
variable {K:PySem.W.Frag}{Θ:Tab}
theorem zEX (a:M.T):∀ (n:Nat) (acc:Array Nat),(List.replicate n a.toArray).foldl (· ++ ·) acc=acc++((List.replicate n a).flatten).toArray
 | 0,acc=>by simp
 | n+1,acc=>by
  rw[List.replicate_succ,List.foldl_cons,zEX a n,List.replicate_succ,List.flatten_cons]
  simp
theorem zQd (a:M.T) (n:Int) (h0:0 <= n):Txt.mul (ofT a) n=ofT (List.replicate n.toNat a).flatten:=by
 unfold Txt.mul
 by_cases h1:n < 1
 ·have e:n.toNat=0:=by omega
  rw[if_pos h1,e];rfl
 ·rw[if_neg h1]
  by_cases h2:(n == 1 || (ofT a).length == 0)=true
  ·rw[if_pos h2]
   rw[Bool.or_eq_true] at h2
   rcases h2 with h2 | h2
   ·have e:n=1:=eq_of_beq h2
    subst e
    simp
   ·have e:a.length=0:=by rw[<- qC];exact eq_of_beq h2
    have e2:a=[]:=List.length_eq_zero_iff.mp e
    subst e2
    simp[ofT]
  ·rw[if_neg h2]
   have:=zEX a n.toNat #[]
   show (⟨(List.replicate n.toNat a.toArray).foldl (· ++ ·) #[]⟩:Str)=_
   rw[this];simp[ofT]
theorem zRr (a:M.T) (n:Int) (h0:0 <= n) (h1:n <= 1000000) (h2:a.length * n.toNat <= 1000000):MulOk (ofT a) n:=by
 refine⟨?_,fun h3 _=>?_,fun h3 _=>?_⟩
 ·rw[Bool.or_eq_false_iff]
  exact⟨decide_eq_false (by omega),decide_eq_false (by omega)⟩
 ·rw[qC]
  have hn:1 <= n.toNat:=by omega
  have ha:a.length <= 1000000:=Nat.le_trans (Nat.le_mul_of_pos_right _ (by omega)) h2
  have hd:(1000000:Int) <= (2 ^ 63 - 1) / n:=Int.le_ediv_of_mul_le (by omega) (by omega)
  omega
 ·rw[qC]
  unfold Builtin.Str.tooLong
  exact decide_eq_false (by rw[sizeLine_eq];omega)
noncomputable def zPy:R2:=fun x y H Q=>zS6 x y H Q\/zSw x y H Q
theorem zCH {X:Cx}:OpR X (binaryOp .Mult) zPy:=OpR.or zTI zR4
theorem zT.flat {ρ:List Addr}{H:Hp}{ds:List M.D}{xs:List V} (h:zT K ρ H ds xs):∀ n:Nat,zT K ρ H (List.replicate n ds).flatten (List.replicate n xs).flatten
 | 0=>rfl
 | n+1=>by
  rw[List.replicate_succ,List.replicate_succ,List.flatten_cons,List.flatten_cons]
  exact zT.app h (zT.flat h n)
theorem zCJ:Ad2 K Θ M.QA zPy:=by
 intro ρ H S x y X Y Q rp rx ry h
 cases x with
 | int i =>
  cases y with
  | int j =>
   cases rx;cases ry
   have h':zI K Θ (zS K) ρ H (if (M.yS i || M.yS j)=true then M.R.ok (M.D.int (i * j)) S else .no) Q:=h
   by_cases hc:(M.yS i || M.yS j)=true
   ·rw[if_pos hc] at h'
    refine .inl ⟨?_,zI.here (b:=V.int (i * j)) h' rp rfl⟩
    rw[Bool.or_eq_true] at hc
    rcases hc with hc | hc
    ·exact .inl (zKh hc)
    ·exact .inr (zKh hc)
   ·rw[if_neg hc] at h';exact h'.elim
  | _=>exact h.elim
 | str a =>
  cases y with
  | int n =>
   obtain⟨rfl,oka⟩:=rx
   cases ry
   have h':zI K Θ (zS K) ρ H (if 0 <= n/\n.natAbs <= 1000000/\a.length * n.natAbs <= 1000000 then M.R.ok (M.D.str (List.replicate n.toNat a).flatten) S else .no) Q:=h
   by_cases hc:0 <= n/\n.natAbs <= 1000000/\a.length * n.natAbs <= 1000000
   ·rw[if_pos hc] at h'
    have hn:n.natAbs=n.toNat:=by omega
    refine .inl ⟨zRr a n hc.1 (by omega) (by rw[<- hn];exact hc.2.2),?_⟩
    show Q (.str (Txt.mul (ofT a) n)) H
    rw[zQd a n hc.1]
    refine zI.here h' rp ⟨rfl,zB7 oka fun c hc=>?_⟩
    obtain⟨l,hl,hcl⟩:=List.mem_flatten.mp hc
    rw[(List.mem_replicate.mp hl).2] at hcl
    exact hcl
   ·rw[if_neg hc] at h';exact h'.elim
  | _=>exact h.elim
 | ref p =>
  cases y with
  | int n =>
   cases ry
   have h':zI K Θ (zS K) ρ H (match M.jW S p with | some xs=>if n.natAbs <= 1000/\xs.length * n.natAbs <= 1000000 then M.alloc (.lst (List.replicate n.toNat xs).flatten) S else .no | none=>.no) Q:=h
   cases q:S[p]? with
   | none=>simp only[M.jW,q] at h';exact h'.elim
   | some o =>
    cases o with
    | lst ds =>
     simp only[M.jW,q] at h'
     obtain⟨a,rfl,ea⟩:=rx
     obtain⟨zs,e1,r⟩:=Ji rp ea q
     by_cases hc:n.natAbs <= 1000/\ds.length * n.natAbs <= 1000000
     ·rw[if_pos hc] at h'
      have hn:n.toNat <= n.natAbs:=by omega
      refine .inr ⟨a,n,zs,rfl,rfl,e1,by omega,by omega,?_,fun p hp=>zI.alloc h' rp (zT.flat r n.toNat) hp⟩
      have hm:=Nat.mul_le_mul_left ds.length hn
      rw[<- r.length,sizeLine_eq]
      omega
     ·rw[if_neg hc] at h';exact h'.elim
    | dct _=>simp only[M.jW,q] at h';exact h'.elim
    | fdc _=>simp only[M.jW,q] at h';exact h'.elim
    | ins _ _=>simp only[M.jW,q] at h';exact h'.elim
  | _=>exact h.elim
 | _=>exact h.elim
noncomputable def zSB (K:PySem.W.Frag):R2:=fun x y H Q=>uIx K x y H Q\/∃ a v,x=.ref a/\zDN H a y (some v)/\Q v H
theorem jC {X:Cx}{k:Nat} (hr:jY k X.A):IxR X (zSB X.K):=by
 refine IxR.or zTz ?_
 intro value slice pins s σ H x y v u Q I rx ry h hs
 obtain⟨a,w',rfl,g,q⟩:=h
 cases rx
 exact tail_any (zLP I g) PySem.F.slot_dict_getitem.lookup (zNk (zMV hr) I g ry fun w2 s3 I3 rw'=>⟨w',H,I3,rw',q⟩) hs
noncomputable def zPl (K:PySem.W.Frag):List V->Hp->VK->Prop:=fun xs H Q=>zSM K xs H Q\/∃ a kvs,xs=[V.ref a]/\H a=some (.dK kvs)/\Q (.int kvs.length) H
theorem yw {X:Cx}:qj X (.builtin "len") (zPl X.K):=qj.or zTK zNq
theorem zZ:Ad2 K Θ M.zN (zSB K):=by
 intro ρ H S x y X Y Q rp rx ry h
 cases x with
 | str a =>
  cases y with
  | int i =>
   obtain⟨rfl,oka⟩:=rx
   cases ry
   have h':zI K Θ (zS K) ρ H (if a.length <= M.SZ then (match M.atI a i with | some c=>M.R.ok (M.D.str [c]) S | none=>.no) else .no) Q:=h
   by_cases hc:a.length <= M.SZ
   ·rw[if_pos hc] at h'
    cases q:M.atI a i with
    | none=>rw[q] at h';exact h'.elim
    | some c =>
     rw[q] at h'
     refine .inl ⟨c,by rw[qC,<- JC];exact hc,?_,zI.here (b:=V.str (ofT [c])) h' rp ⟨rfl,zB7 oka fun d hd=>by
      have e:d=c:=by simpa using hd
      rw[e]
      unfold M.atI at q
      cases qi:M.ixN a.length i with
      | none=>rw[qi] at q;cases q
      | some j=>rw[qi] at q;exact List.mem_of_getElem? q⟩⟩
     rw[Z5];exact q
   ·rw[if_neg hc] at h';exact h'.elim
  | _=>exact h.elim
 | tup ds =>
  cases y with
  | int i =>
   obtain⟨l,xs,rfl,hq,r⟩:=rx
   cases ry
   have h':zI K Θ (zS K) ρ H (match M.atI ds i with | some d=>M.R.ok d S | none=>.no) Q:=h
   cases q:M.atI ds i with
   | none=>rw[q] at h';exact h'.elim
   | some d =>
    rw[q] at h'
    obtain⟨v,e1,rv⟩:=zIA r q
    exact .inl ⟨xs,v,.inr hq,e1,zI.here h' rp rv⟩
  | _=>exact h.elim
 | ro ds =>
  cases y with
  | int i =>
   obtain⟨l,xs,rfl,hq,r⟩:=rx
   cases ry
   have h':zI K Θ (zS K) ρ H (match M.atI ds i with | some d=>M.R.ok d S | none=>.no) Q:=h
   cases q:M.atI ds i with
   | none=>rw[q] at h';exact h'.elim
   | some d =>
    rw[q] at h'
    obtain⟨v,e1,rv⟩:=zIA r q
    exact .inl ⟨xs,v,.inl hq.sq,e1,zI.here h' rp rv⟩
  | _=>exact h.elim
 | ref p =>
  obtain⟨a,rfl,ea⟩:=rx
  cases q:S[p]? with
  | none=>simp[M.zN,q] at h;exact h.elim
  | some o =>
   cases o with
   | lst xs =>
    cases y with
    | int i =>
     cases ry
     obtain⟨zs,e1,r⟩:=Ji rp ea q
     cases q2:M.atI xs i with
     | none=>simp[M.zN,q,q2] at h;exact h.elim
     | some d =>
      simp[M.zN,q,q2] at h
      obtain⟨v,e2,rv⟩:=zIA r q2
      exact .inl ⟨zs,v,.inl (SqL.of e1),e2,zI.here h rp rv⟩
    | _=>simp[M.zN,q] at h;exact h.elim
   | dct kvs =>
    by_cases hk:M.ye y=true
    case neg=>simp[M.zN,q,hk] at h;exact h.elim
    obtain⟨ks,e1,r⟩:=zBk rp ea q
    obtain⟨k,h1,rfl⟩:=zCG hk ry
    have hv:=r.val h1
    cases q2:M.QE y kvs with
    | none=>simp[M.zN,q,hk,q2] at h;exact h.elim
    | some d =>
     simp[M.zN,q,hk,q2] at h
     rw[q2] at hv
     obtain⟨v,e2,rv⟩:=hv
     refine .inr ⟨a,v,rfl,?_,zI.here h rp rv⟩
     rw[<- e2]
     exact zDN.k e1
   | fdc kvs =>
    by_cases hk:M.ye y=true
    case neg=>simp[M.zN,q,hk] at h;exact h.elim
    obtain⟨fo,ks,e1,r⟩:=zMy rp ea q
    obtain⟨k,h1,rfl⟩:=zCG hk ry
    have hv:=r.val h1
    cases q2:M.QE y kvs with
    | none=>simp[M.zN,q,hk,q2] at h;exact h.elim
    | some d =>
     simp[M.zN,q,hk,q2] at h
     rw[q2] at hv
     obtain⟨v,e2,rv⟩:=hv
     refine .inr ⟨a,v,rfl,?_,zI.here h rp rv⟩
     rw[<- e2]
     exact (.inl ⟨ks,k,.inr ⟨fo,e1⟩,rfl,rfl⟩)
   | ins c fs=>simp[M.zN,q] at h;exact h.elim
 | _=>exact h.elim
theorem JL:AdN K Θ M.Zg (zPl K):=by
 intro ρ H S xs Xs Q rp rx h
 match xs,rx,h with
 | [.str a],rx,h =>
  obtain⟨_,_,rfl,⟨rfl,_⟩,rfl⟩:=rx
  have h':zI K Θ (zS K) ρ H (if a.length <= M.SZ then M.R.ok (M.D.int a.length) S else .no) Q:=h
  by_cases hc:a.length <= M.SZ
  ·rw[if_pos hc] at h'
   refine .inl ⟨by rw[qC,<- JC];exact hc,?_⟩
   rw[qC]
   exact zI.here (b:=V.int a.length) h' rp rfl
  ·rw[if_neg hc] at h';exact h'.elim
 | [.tup ds],rx,h =>
  obtain⟨_,_,rfl,⟨l,ys,rfl,hq,r⟩,rfl⟩:=rx
  exact .inl ⟨ys,.inr hq,by rw[<- r.length];exact zI.here (b:=V.int ds.length) h rp rfl⟩
 | [.ro ds],rx,h =>
  obtain⟨_,_,rfl,⟨l,ys,rfl,hq,r⟩,rfl⟩:=rx
  exact .inl ⟨ys,.inl hq.sq,by rw[<- r.length];exact zI.here (b:=V.int ds.length) h rp rfl⟩
 | [.ref p],rx,h =>
  obtain⟨_,_,rfl,⟨a,rfl,ea⟩,rfl⟩:=rx
  cases q:S[p]? with
  | none=>simp[M.Zg,q] at h;exact h.elim
  | some o =>
   cases o with
   | lst xs =>
    simp[M.Zg,q] at h
    obtain⟨zs,e1,r⟩:=Ji rp ea q
    exact .inl ⟨zs,.inl (SqL.of e1),by rw[<- r.length];exact zI.here (b:=V.int xs.length) h rp rfl⟩
   | dct kvs =>
    simp[M.Zg,q] at h
    obtain⟨ks,e1,r⟩:=zBk rp ea q
    exact .inr ⟨a,ks,rfl,e1,by rw[<- Paired.length r];exact zI.here (b:=V.int kvs.length) h rp rfl⟩
   | fdc _=>simp[M.Zg,q] at h;exact h.elim
   | ins c fs=>simp[M.Zg,q] at h;exact h.elim
 | [.non],_,h=>exact h.elim
 | [.bl _],_,h=>exact h.elim
 | [.int _],_,h=>exact h.elim
 | [.ty _],_,h=>exact h.elim
 | [],_,h=>exact h.elim
 | a::_::_,_,h=>cases a<;>exact h.elim
noncomputable def zKO (K:PySem.W.Frag) (neg:Bool):R2:=fun x y H Q=>uIn K neg x y H Q\/∃ a o,y=.ref a/\zDN H a x o/\Q (.bl (xor neg o.isSome)) H
theorem zBc {X:Cx}{k:Nat} (hr:jY k X.A):OpR X (compareOp .In) (zKO X.K false):=by
 refine OpR.or zUS ?_
 intro pins s σ H x y v u Q I rx ry h
 obtain⟨a,o,rfl,g,q⟩:=h
 cases ry
 exact zUQ (zMV hr) I g rx fun s' I'=>⟨.bl o.isSome,H,I',rfl,by rw[Bool.false_xor] at q;exact q⟩
theorem zIm {X:Cx}{k:Nat} (hr:jY k X.A):OpR X (compareOp .NotIn) (zKO X.K true):=by
 refine OpR.or zQm ?_
 intro pins s σ H x y v u Q I rx ry h
 obtain⟨a,o,rfl,g,q⟩:=h
 cases ry
 exact zQg (zMV hr) I g rx fun s' I'=>⟨.bl (!o.isSome),H,I',rfl,by rw[Bool.true_xor] at q;exact q⟩
theorem zKI {ρ:List Addr}{H:Hp}{d:M.D}{v:V} (r:zS K ρ H d v):QB v=M.flat d:=by
 cases d with
 | non=>cases r;rfl
 | bl _=>cases r;rfl
 | int _=>cases r;rfl
 | str _=>obtain⟨rfl,_⟩:=r;rfl
 | ty _=>cases r;rfl
 | ref _=>obtain⟨_,rfl,_⟩:=r;rfl
 | tup _=>obtain⟨_,_,rfl,_⟩:=r;rfl
 | ro _=>obtain⟨_,_,rfl,_⟩:=r;rfl
theorem zRT {ρ:List Addr}{H:Hp}{d e:M.D}{v u:V} (r:zS K ρ H d v) (q:zS K ρ H e u):eqV v u=M.eqF d e:=by
 cases d with
 | non =>
  cases r
  cases e with
  | str _=>obtain⟨rfl,_⟩:=q;rfl
  | ref _=>obtain⟨_,rfl,_⟩:=q;rfl
  | tup _=>obtain⟨_,_,rfl,_⟩:=q;rfl
  | ro _=>obtain⟨_,_,rfl,_⟩:=q;rfl
  | _=>cases q;rfl
 | bl _ =>
  cases r
  cases e with
  | str _=>obtain⟨rfl,_⟩:=q;rfl
  | ref _=>obtain⟨_,rfl,_⟩:=q;rfl
  | tup _=>obtain⟨_,_,rfl,_⟩:=q;rfl
  | ro _=>obtain⟨_,_,rfl,_⟩:=q;rfl
  | _=>cases q;rfl
 | int _ =>
  cases r
  cases e with
  | str _=>obtain⟨rfl,_⟩:=q;rfl
  | ref _=>obtain⟨_,rfl,_⟩:=q;rfl
  | tup _=>obtain⟨_,_,rfl,_⟩:=q;rfl
  | ro _=>obtain⟨_,_,rfl,_⟩:=q;rfl
  | _=>cases q;rfl
 | str x =>
  obtain⟨rfl,_⟩:=r
  cases e with
  | str y=>obtain⟨rfl,_⟩:=q;exact zLt x y
  | ref _=>obtain⟨_,rfl,_⟩:=q;rfl
  | tup _=>obtain⟨_,_,rfl,_⟩:=q;rfl
  | ro _=>obtain⟨_,_,rfl,_⟩:=q;rfl
  | _=>cases q;rfl
 | ty _=>cases r;rfl
 | ref _=>obtain⟨_,rfl,_⟩:=r;rfl
 | tup _=>obtain⟨_,_,rfl,_⟩:=r;rfl
 | ro _=>obtain⟨_,_,rfl,_⟩:=r;rfl
theorem zI6 {ρ:List Addr}{H:Hp}:∀ {ds:List M.D}{xs:List V},zT K ρ H ds xs->xs.all QB=ds.all M.flat
 | [],_,r=>by cases r;rfl
 | _::_,_,⟨y,ys,e,r1,r2⟩=>by subst e;rw[List.all_cons,List.all_cons,zKI r1,zI6 r2]
theorem zKK {ρ:List Addr}{H:Hp}{x:M.D}{v:V} (rx:zS K ρ H x v):∀ {ds:List M.D}{xs:List V},zT K ρ H ds xs->inV v xs=M.JX x ds
 | [],_,r=>by cases r;rfl
 | _::_,_,⟨y,ys,e,r1,r2⟩=>by
  subst e
  unfold inV M.JX
  rw[List.any_cons,List.any_cons,zRT r1 rx]
  have:=zKK rx r2
  unfold inV M.JX at this
  rw[this]
theorem zGa (a:M.T):∀ b:M.T,M.zDF a b=true ↔ ∃ i,i+a.length <= b.length/\(b.drop i).take a.length=a
 | []=>by
  simp only[M.zDF,List.isEmpty_iff]
  constructor
  ·rintro rfl;exact⟨0,by simp,by simp⟩
  ·rintro ⟨i,h,e⟩
   simp at h
   exact h.2
 | c::r=>by
  simp only[M.zDF,Bool.or_eq_true,zGa a r]
  constructor
  ·rintro (h | ⟨i,h,e⟩)
   ·have:=List.isPrefixOf_iff_prefix.mp h
    exact⟨0,by simpa using this.length_le,by simpa using (List.prefix_iff_eq_take.mp this).symm⟩
   ·exact⟨i+1,by simp;omega,by simpa using e⟩
  ·rintro ⟨i,h,e⟩
   cases i with
   | zero=>left;exact List.isPrefixOf_iff_prefix.mpr (List.prefix_iff_eq_take.mpr (by simpa using e.symm))
   | succ i=>right;exact⟨i,by simp at h;omega,by simpa using e⟩
theorem zKi (a b:M.T) (i:Nat):StrLaws.At (ofT b) (ofT a) (ofT b).length i↔(i+a.length <= b.length/\(b.drop i).take a.length=a):=by
 unfold StrLaws.At Builtin.Str.subAt
 rw[qC,qC]
 refine and_congr_right fun _=>?_
 rw[beq_iff_eq]
 constructor
 ·intro h
  have:=congrArg Array.toList h
  simpa [ofT,List.extract_eq_take_drop] using this
 ·intro h
  apply Array.ext'
  simpa [ofT,List.extract_eq_take_drop] using h
theorem zRF (a b:M.T):(!(Builtin.Str.occurrences (ofT b) (ofT a) 0 (ofT b).length 1).isEmpty)=M.zDF a b:=by
 rcases StrLaws.occ_head (ofT b) (ofT a) 1 (by decide) with ⟨e,h⟩ | ⟨i,r,e,h,_⟩
 ·rw[e]
  have:¬ M.zDF a b=true:=fun q=>by
   obtain⟨i,q⟩:=(zGa a b).mp q
   exact h i ((zKi a b i).mpr q)
  simpa using this
 ·rw[e]
  have:=(zGa a b).mpr ⟨i,(zKi a b i).mp h⟩
  simp[this]
theorem zLY {neg:Bool}{ρ:List Addr}{H:Hp}{S:M.S}{x y:M.D}{X1 Y:V}{Q:VK} (rp:zf K Θ ρ S H) (rx:zS K ρ H x X1) (ry:zS K ρ H y Y) (h:zI K Θ rB ρ H (M.inD x y S) (fun b H'=>Q (.bl (xor neg b)) H')):zKO K neg X1 Y H Q:=by
 have seq:∀ {ds:List M.D}{xs:List V}{a:Addr},(SqL K H a xs\/SqT K H a xs)->zT K ρ H ds xs->zI K Θ rB ρ H (if (M.flat x && ds.all M.flat)=true then M.R.ok (M.JX x ds) S else .no) (fun b H'=>Q (.bl (xor neg b)) H')->uIn K neg X1 (.ref a) H Q:=fun {ds xs a} hq r h'=>by
  by_cases hc:(M.flat x && ds.all M.flat)=true
  ·rw[if_pos hc] at h'
   rw[Bool.and_eq_true,<- zKI rx,<- zI6 r] at hc
   have:=zI.here (b:=M.JX x ds) h' rp rfl
   rw[<- zKK rx r] at this
   have g:∃ xs,(SqL K H a xs\/SqT K H a xs)/\QB X1=true/\xs.all QB=true/\Q (.bl (xor neg (inV X1 xs))) H:=⟨xs,hq,hc.1,hc.2,this⟩
   cases X1<;>exact g
  ·rw[if_neg hc] at h';exact h'.elim
 cases y with
 | str b =>
  cases x with
  | str a =>
   obtain⟨rfl,_⟩:=rx
   obtain⟨rfl,_⟩:=ry
   refine .inl ?_
   show Q (.bl (xor neg (!(Builtin.Str.occurrences (ofT b) (ofT a) 0 (ofT b).length 1).isEmpty))) H
   rw[zRF]
   exact zI.here (b:=M.zDF a b) h rp rfl
  | _=>exact h.elim
 | tup ds =>
  obtain⟨l,xs,rfl,hq,r⟩:=ry
  exact .inl (seq (.inr hq) r h)
 | ro ds =>
  obtain⟨l,xs,rfl,hq,r⟩:=ry
  exact .inl (seq (.inl hq.sq) r h)
 | ref p =>
  obtain⟨a,rfl,ea⟩:=ry
  cases q:S[p]? with
  | none=>simp[M.inD,q] at h;exact h.elim
  | some o =>
   cases o with
   | lst ds =>
    obtain⟨zs,e1,r⟩:=Ji rp ea q
    refine .inl (seq (.inl (SqL.of e1)) r ?_)
    simp only[M.inD,q] at h
    exact h
   | dct kvs =>
    by_cases hk:M.ye x=true
    case neg=>simp[M.inD,q,hk] at h;exact h.elim
    simp only[M.inD,q,if_pos hk] at h
    obtain⟨ks,e1,r⟩:=zBk rp ea q
    obtain⟨k,h1,rfl⟩:=zCG hk rx
    have hv:=r.val h1
    refine .inr ⟨a,Q9 ks k,rfl,zDN.k e1,?_⟩
    have e2:(Q9 ks k).isSome=(M.QE x kvs).isSome:=by
     cases q2:M.QE x kvs with
     | none=>rw[q2] at hv;rw[hv];rfl
     | some d=>rw[q2] at hv;obtain⟨v,e2,_⟩:=hv;rw[e2];rfl
    rw[e2]
    exact zI.here (b:=(M.QE x kvs).isSome) h rp rfl
   | fdc kvs =>
    by_cases hk:M.ye x=true
    case neg=>simp[M.inD,q,hk] at h;exact h.elim
    simp only[M.inD,q,if_pos hk] at h
    obtain⟨fo,ks,e1,r⟩:=zMy rp ea q
    obtain⟨k,h1,rfl⟩:=zCG hk rx
    have hv:=r.val h1
    refine .inr ⟨a,Q9 ks k,rfl,(.inl ⟨ks,k,.inr ⟨fo,e1⟩,rfl,rfl⟩),?_⟩
    have e2:(Q9 ks k).isSome=(M.QE x kvs).isSome:=by
     cases q2:M.QE x kvs with
     | none=>rw[q2] at hv;rw[hv];rfl
     | some d=>rw[q2] at hv;obtain⟨v,e2,_⟩:=hv;rw[e2];rfl
    rw[e2]
    exact zI.here (b:=(M.QE x kvs).isSome) h rp rfl
   | ins c fs=>simp[M.inD,q] at h;exact h.elim
 | _=>exact h.elim
theorem zC6:AdC K Θ M.cIn (zKO K false):=by
 intro ρ H S x y X1 Y Q rp rx ry h
 refine zLY rp rx ry ?_
 have h':zI K Θ rB ρ H (M.inD x y S) (fun b H'=>Q (.bl b) H'):=h
 revert h'
 cases M.inD x y S with
 | ok b s=>exact fun h' ρ1 H1 b' p l rp1 e=>by cases e;rw[Bool.false_xor];exact h' ρ1 H1 b p l rp1 rfl
 | exc e s=>exact fun h'=>h'
 | no=>exact fun h'=>h'
theorem zJ0:AdC K Θ M.zFO (zKO K true):=by
 intro ρ H S x y X1 Y Q rp rx ry h
 exact zLY rp rx ry (zI.bind h fun ρ1 H1 b b' S1 p1 l1 rp1 e h1=>by cases e;rw[Bool.true_xor];exact zI.here (b:=!b) h1 rp1 rfl)
theorem zOx {X:Cx}{pos:Pos}{x:Str}{a:Addr}{d:M.D} (h:zBQ X.mg x (.ref a)) (hg:Gl X x) (r:∀ ρ H,zS X.K ρ H d (.ref a)) (hd:(x == ("__debug__" : Str))=false:=by decide):ME X Θ (.Name x pos) (M.eC d):=zEF (zKC h hg hd) r
theorem zMn {X:Cx}{pos:Pos}{x:Str}{a:Addr}{d:M.D} (h:zBQ X.mg x (.ref a)) (hg:Gl X x) (r:∀ ρ H,zS X.K ρ H d (.ref a)) (hd:(x == ("__debug__" : Str))=false:=by decide):WE X Θ (.Name x pos) (M.eC d):=by with_unfolding_all exact zOx (X:=X) (pos:=pos) (x:=x) (a:=a) (d:=d) h hg r hd
theorem zRo {X:Cx}{e:Expr}{m:M.TM} (h:MW X Θ e m):MT X Θ e m:=PW.pt h
theorem Z7 {X:Cx}{e:Expr}{m:M.TM} (h:WW X Θ e m):WT X Θ e m:=by with_unfolding_all exact zRo (X:=X) (e:=e) (m:=m) h
theorem zCf {X:Cx}:zBE X [] (RdT X.K Θ M.Qp):=fun pins s σ H Q I ⟨ρ,σ',S,st,rp,h⟩=>zOL pins s σ H Q I (zI.here (b:=true) h rp rfl)
theorem zJz {X:Cx}{c:Expr}{t:M.TM} (h:WT X Θ c t):zBE X [c] (RdT X.K Θ t):=zOT (by with_unfolding_all exact h)
theorem zK4 {ρ:List Addr}{H:Hp}:∀ ns:List Int,zT K ρ H (ns.map .int) (ns.map V.int)
 | []=>rfl
 | n::ns=>⟨_,_,rfl,rfl,zK4 ns⟩
theorem zR1 {f:M.F} (ht:∀ ns:List Int,ns.length <= 63->∃ s,f [.ro (ns.map .int)] []=.ok (.bl true) s) {H:Hp}{a:Addr}{ns:List Int}{E:XK} (hl:ns.length <= 63) (hO:zKd H) (hS:SqL K H a (ns.map V.int)):SpM K Θ 1 f [.ref a] H (fun v _=>v=.bl true) E:=by
 obtain⟨s,e⟩:=ht ns hl
 refine⟨[],[.ro (ns.map .int)],[],rfl,⟨_,_,rfl,⟨a,ns.map V.int,rfl,?_,zK4 ns⟩,rfl⟩,⟨rfl,List.nodup_nil,fun i o q=>by simp at q⟩,?_⟩
 ·rcases hS with (h | h) | h
  ·rcases hO a with z | ⟨o,xs,z⟩
   ·rw[h] at z;cases z
   ·rw[h] at z;cases z
  ·exact .inl h
  ·exact .inr h
 ·rw[e]
  exact fun ρ' H' b _ _ _ r=>r
end
section
variable {P:Program}{w:World}{K:PySem.W.Frag}{mg:Str->Option Value}{base:Heap}{Θ:Tab}
theorem zRk {x qual:Str}{st:Stmt}{f:Addr}{fd:FuncData}{N ps:List Str}{k:Nat}{b:M.SM} (F:Fun K x qual st f fd) (Sc:jE N ps (zM st))
  (hbody:∀ (cdv:Value) (A:Around) (outer:List Env) (s:Shared) (H:Hp) (E:XK),jY k (A.deeper (envOfC qual (zM st) s.heap.objs.size f cdv)) ->
   MSs (zCR CX0 P w K mg base N qual (zM st) f cdv A outer s H E).nox Θ (zq st) b):jX P w K mg base CX0 (k+1) f fd ps (SpM K Θ ps.length (M.fn N.length b)):=by
 refine F.ok (k:=k) Sc (fun vs H Q E h=>?_) (fun cdv A outer s H vs Q E hr h=>?_)
 ·obtain⟨ρ,ds,S,hl,r,_⟩:=h
  rw[<- r.length,hl]
 ·obtain⟨ρ,ds,S,hl,r,rp,h⟩:=h
  refine⟨_,hbody cdv A outer s H E hr,ρ,_,S,zIx r N,rp,?_⟩
  have h':zI K Θ (zS K) ρ H (b (ds.map some++List.replicate (N.length - ds.length) none) S).out Q:=h
  show jR K Θ ρ H (b (ds.map some++List.replicate (N.length - ds.length) none) S) _
  revert h'
  cases b (ds.map some++List.replicate (N.length - ds.length) none) S with
  | rt a s=>exact fun h'=>h'
  | nx a s=>exact fun h' ρ1 H1 σ1 p1 l1 rp1 _=>h' ρ1 H1 .non p1 l1 rp1 rfl
  | bk a s=>exact fun h'=>h'.elim
  | ct a s=>exact fun h'=>h'.elim
  | exc e a s=>exact fun h'=>h'
  | no=>exact fun h'=>h'
theorem yi {x qual:Str}{st:Stmt}{f:Addr}{fd:FuncData}{N ps:List Str}{k:Nat}{b:M.SM} (F:Fun K x qual st f fd) (Sc:jE N ps (zM st))
  (hbody:∀ (cdv:Value) (A:Around) (outer:List Env) (s:Shared) (H:Hp) (E:XK),jY k (A.deeper (envOfC qual (zM st) s.heap.objs.size f cdv)) ->
   WSs (zCR CX0 P w K mg base N qual (zM st) f cdv A outer s H E).nox Θ (zq st) b):jX P w K mg base CX0 (k+1) f fd ps (SpM K Θ ps.length (M.fn N.length b)):=by with_unfolding_all exact zRk (x:=x) (qual:=qual) (st:=st) (f:=f) (fd:=fd) (N:=N) (ps:=ps) (k:=k) (b:=b) F Sc hbody
end
theorem zJD:bootBuiltins "sorted" = some (.builtin "sorted"):=by decide +kernel
end L2
namespace L2
open PySem PySem.Spec PyProof.Rows PySem.Builtin.Str
section
variable {K:PySem.W.Frag}{Θ:Tab}
theorem zEh (c:Nat):∀ l:M.T,M.jH c l=TX.qm c l
 | []=>rfl
 | d::r=>by
  unfold M.jH TX.qm
  rw[zEh c r]
  rfl
theorem zGw (c:Nat):∀ (l p:List Nat),p∈TX.qm c l->∀ x∈p,x∈l
 | [],p,hp,x,hx=>by
  simp only[TX.qm,List.mem_cons,List.not_mem_nil,or_false] at hp
  subst hp
  exact absurd hx (by simp)
 | d::r,p,hp,x,hx=>by
  have ih:=zGw c r
  unfold TX.qm at hp
  split at hp
  ·rcases List.mem_cons.mp hp with rfl | hp
   ·cases hx
   ·exact List.mem_cons_of_mem _ (ih p hp x hx)
  ·cases q:TX.qm c r with
   | nil=>exact absurd q (TX.zNH c r)
   | cons a as =>
    rw[q] at hp ih
    rcases List.mem_cons.mp hp with rfl | hp
    ·rcases List.mem_cons.mp hx with rfl | hx
     ·exact List.mem_cons_self
     ·exact List.mem_cons_of_mem _ (ih a List.mem_cons_self x hx)
    ·exact List.mem_cons_of_mem _ (ih p (List.mem_cons_of_mem _ hp) x hx)
theorem zGY {ρ:List Addr}{H:Hp}:∀ (ts:List M.T),(∀ t∈ts,okT t)->zT K ρ H (ts.map .str) ((ts.map ofT).map V.str)
 | [],_=>rfl
 | t::ts,h=>⟨_,_,rfl,⟨rfl,h t List.mem_cons_self⟩,zGY ts fun x hx=>h x (List.mem_cons_of_mem _ hx)⟩
theorem zGU:AdM K Θ M.zCI zN1:=by
 intro ρ H S x xs X Xs Q rp rx rxs h
 unfold M.zCI at h
 split at h
 ·rename_i z c
  obtain⟨rfl,okz⟩:=rx
  obtain⟨Y,r,rfl,⟨rfl,okc⟩,rfl⟩:=rxs
  split at h
  ·rename_i hl
   refine⟨ofT z,ofT [c],rfl,rfl,rfl,by rw[qC,<- JC];exact hl,fun p hp=>?_⟩
   rw[show ofT [c]=⟨#[c]⟩ from rfl,TX.zPT,Z5,<- zEh]
   refine h.alloc rp (zGY (M.jH c z) fun t ht=>zB7 okz fun d hd=>?_) hp
   rw[zEh] at ht
   exact zGw c z t ht d hd
  ·exact h.elim
 ·exact h.elim
theorem zJ4 (c:Nat) (b:M.T) (i:Nat):StrLaws.At (ofT b) (ofT [c]) (ofT b).length i↔b[i]? = some c:=by
 rw[zKi]
 constructor
 ·rintro ⟨h,e⟩
  have:((b.drop i).take [c].length)[0]? = some c:=by rw[e];rfl
  simpa using this
 ·intro h
  obtain⟨hl,e⟩:=List.getElem?_eq_some_iff.mp h
  refine⟨by simp only[List.length_cons,List.length_nil];omega,?_⟩
  rw[List.drop_eq_getElem_cons hl,e]
  rfl
theorem zBJ {ρ:List Addr}{H:Hp}{S:M.S}{p:Nat}{X:V}{ds:List M.D} (rp:zf K Θ ρ S H) (rx:zS K ρ H (.ref p) X) (e:S[p]? = some (.lst ds)):∃ a xs,X=.ref a/\ρ[p]? = some a/\H a=some (.lst xs)/\zT K ρ H ds xs:=by
 obtain⟨a,rfl,ha⟩:=rx
 obtain⟨b,hb,xs,hx,r⟩:=rp.obj p _ e
 rw[ha] at hb;cases hb
 exact⟨a,xs,rfl,ha,hx,r⟩
theorem zCD {H:Hp}{a:Addr}{xs:List V} (h:H a=some (.lst xs)):Mut (H a):=by rw[h];trivial
theorem Jl:AdM K Θ M.JU zLu:=by
 intro ρ H S x xs X Xs Q rp rx rxs h
 unfold M.JU at h
 split at h
 ·rename_i p y
  obtain⟨Y,r,rfl,ry,rfl⟩:=rxs
  split at h
  ·rename_i ds e
   obtain⟨a,zs,rfl,ha,hx,rz⟩:=zBJ rp rx e
   split at h
   ·rename_i hl
    have le:=Le.put (zCD hx) (.lst (zs++[Y]))
    refine⟨a,zs,Y,rfl,rfl,hx,by rw[<- JC,<- rz.length];exact hl,?_⟩
    exact h ρ _ _ (List.prefix_refl _) le (rp.put ha (zCD hx) ⟨_,qA,(rz.mono (List.prefix_refl _) le).app ⟨_,_,rfl,ry.mono (List.prefix_refl _) le,rfl⟩⟩) rfl
   ·exact h.elim
  ·exact h.elim
 ·exact h.elim
theorem zK3:AdM K Θ M.zDL zSz:=by
 intro ρ H S x xs X Xs Q rp rx rxs h
 unfold M.zDL at h
 split at h
 ·rename_i p
  cases rxs
  split at h
  ·rename_i ds e
   obtain⟨a,zs,rfl,ha,hx,rz⟩:=zBJ rp rx e
   split at h
   ·rename_i y hy
    rw[List.getLast?_eq_getElem?] at hy
    obtain⟨Y,hY,ry⟩:=rz.get hy
    have le:=Le.put (zCD hx) (.lst zs.dropLast)
    exact⟨a,zs,Y,rfl,rfl,hx,by rw[<- rz.length];exact hY,h ρ _ _ (List.prefix_refl _) le (rp.put ha (zCD hx) ⟨_,qA,rz.dropLast.mono (List.prefix_refl _) le⟩) (ry.mono (List.prefix_refl _) le)⟩
   ·exact h.elim
  ·exact h.elim
 ·exact h.elim
end
end L2
namespace L2
open PySem PySem.Spec PyProof.Rows PySem.Builtin.Str
section
variable {K:PySem.W.Frag}{Θ:Tab}
theorem zLW (x:M.T) (a b:Nat):Txt.replace (ofT x) (ofT [a]) (ofT [b])=ofT (x.map fun c=>if c=a then b else c):=by
 have h:=TX.zJQ (ofT x) a b
 have e:∀ s:Str,s=ofT s.cps.toList:=fun s=>by cases s;simp[ofT]
 rw[e (Txt.replace (ofT x) (ofT [a]) (ofT [b]))]
 show ofT (Txt.replace (ofT x) ⟨#[a]⟩ ⟨#[b]⟩).cps.toList=_
 rw[h,Z5]
theorem zRM {X:Cx}{o:Expr}{to:TE}{y z:Str}{j k:Nat}{p1 p2 apos cpos:Pos} (ho:PE X o to) (hyz:(y == z)=false) (hbase:attributeBase o "replace" X.env (eval o X.env)=eval o X.env:=by rfl) (hline:(apos.endLine == cpos.line)=true:=by rfl) :
  PE X (.Call (.Attribute o "replace" apos) [.Constant (.str y) j p1,.Constant (.str z) k p2] [] cpos) (fun σ H Q=>to σ H fun x H1=>∃ a,x=.str a/\a.length+(a.length+1) * z.length <= 16777216/\Q (.str (Txt.replace a y z)) H1):=by
 intro pins s σ H Q I h
 refine wpAny_Call_method_late hbase rfl hline rfl (thn (ho pins s σ H _ I h) fun v s1 ⟨x,H1,I1,r1,a,ex,hb,q⟩=>?_)
 subst ex
 obtain⟨h1,h2⟩:=zKM (T := "str") I1 r1 rfl
 obtain⟨t,rfl⟩:=r1
 refine⟨"str","str.replace",PySem.F.plainAttrs_str,PySem.F.slot_str_replace,PySem.F.type_str_replace,h1,h2,?_⟩
 refine Calls.callWith_builtin rfl (Calls.evalArgs_plain ?_)
 show wpAny _ _ (spliced [(false,eval (.Constant (.str y) j p1) X.env),(false,eval (.Constant (.str z) k p2) X.env)]) _ _ s1
 refine Calls.spliced_cons (Calls.Constant_str (Calls.spliced_cons (Calls.Constant_str (Calls.spliced_nil ?_))))
 have hp:=I1.tk
 exact wpAny_with_toks (n:=1) (show 1 <= s1.toks+1+1 by omega) (SC.replace (u:=s1.toks) (v:=s1.toks+1) (Nat.ne_of_gt hp) (Nat.succ_ne_zero _) (Nat.ne_of_lt (Nat.lt_succ_self _)) hyz hb fun t' k hk=>⟨.str _,H1,I1.tok k hk,⟨_,rfl⟩,q⟩)
theorem zQ9 {X:Cx}{o:Expr}{mo:M.EM}{y z:Str}{a b:Nat}{j k:Nat}{p1 p2 apos cpos:Pos} (ho:ME X Θ o mo) (hy:y=ofT [a]) (hz:z=ofT [b]) (hab:(a == b)=false) (hok:okT [b]) (hbase:attributeBase o "replace" X.env (eval o X.env)=eval o X.env:=by rfl) (hline:(apos.endLine == cpos.line)=true:=by rfl) :
  ME X Θ (.Call (.Attribute o "replace" apos) [.Constant (.str y) j p1,.Constant (.str z) k p2] [] cpos) (M.eM .str M.zA9 mo (M.zC (M.eC (.str [a])) (M.zC (M.eC (.str [b])) M.zH))):=by
 have hyz:(y == z)=false:=by
  cases q:y == z with
  | false=>rfl
  | true =>
   have e:=eq_of_beq q
   rw[hy,hz] at e
   have e2:=zFf e
   cases e2
   simp at hab
 refine (zRM ho hyz hbase hline).imp fun σ H Q ⟨ρ,σ',S,st,rp,h⟩=>⟨ρ,σ',S,st,rp,zI.bind h fun ρ1 H1 x X1 S1 p1 l1 rp1 rx h1=>?_⟩
 cases x with
 | str w =>
  obtain⟨rfl,okw⟩:=rx
  have h2:zI X.K Θ (zS X.K) ρ1 H1 (if 2 * w.length+1 <= M.SZ then .ok (.str (w.map fun c=>if c=a then b else c)) S1 else .no) Q:=h1
  by_cases hl:2 * w.length+1 <= M.SZ
  ·rw[if_pos hl] at h2
   refine⟨ofT w,rfl,?_,?_⟩
   ·rw[hz,qC,qC]
    have:M.SZ=16777216:=rfl
    simp only[List.length_cons,List.length_nil]
    omega
   ·rw[hy,hz,zLW]
    refine zI.here h2 rp1 ⟨rfl,List.all_eq_true.mpr fun c hc=>?_⟩
    obtain⟨d,hd,rfl⟩:=List.mem_map.mp hc
    split
    ·exact List.all_eq_true.mp hok b (by simp)
    ·exact List.all_eq_true.mp okw d hd
  ·rw[if_neg hl] at h2;exact h2.elim
 | non=>exact h1.elim
 | bl _=>exact h1.elim
 | int _=>exact h1.elim
 | ty _=>exact h1.elim
 | tup _=>exact h1.elim
 | ro _=>exact h1.elim
 | ref p =>
  have h2:zI X.K Θ (zS X.K) ρ1 H1 (if M.zBM .str (.ref p) S1 then _ else .no) Q:=h1
  have e:M.zBM .str (.ref p) S1=false:=by
   simp only[M.zBM]
   cases S1[p]? with
   | none=>rfl
   | some o=>cases o<;>rfl
  rw[e] at h2
  exact h2.elim
theorem zJG {X:Cx}{o:Expr}{mo:M.EM}{y z:Str}{a b:Nat}{j k:Nat}{p1 p2 apos cpos:Pos} (ho:WE X Θ o mo) (hy:y=ofT [a]) (hz:z=ofT [b]) (hab:(a == b)=false) (hok:okT [b]) (hbase:attributeBase o "replace" X.env (eval o X.env)=eval o X.env:=by rfl) (hline:(apos.endLine == cpos.line)=true:=by rfl) :
  WE X Θ (.Call (.Attribute o "replace" apos) [.Constant (.str y) j p1,.Constant (.str z) k p2] [] cpos) (M.eM .str M.zA9 mo (M.zC (M.eC (.str [a])) (M.zC (M.eC (.str [b])) M.zH))):=by with_unfolding_all exact zQ9 (X:=X) (o:=o) (mo:=mo) (y:=y) (z:=z) (a:=a) (b:=b) (j:=j) (k:=k) (p1:=p1) (p2:=p2) (apos:=apos) (cpos:=cpos) ho hy hz hab hok hbase hline
end
end L2
namespace L2
open PySem PySem.Spec PyProof.Rows
section
variable {Θ:Tab}
theorem PS.or {X:Cx}{st:Stmt}{t t':TS} (h:PS X st t) (h':PS X st t'):PS X st (fun D σ H=>t D σ H\/t' D σ H):=fun pins s σ H D I q=>by
 rcases q with q | q
 ·exact h pins s σ H D I q
 ·exact h' pins s σ H D I q
theorem zN8 {H:Hp}{a:Addr}{ks:List (Key×V)} (h:H a=some (.dK ks)):Mut (H a):=by rw[h];trivial
theorem zSA {X:Cx}{o i e:Expr}{mo mi me:M.EM}{pos pos':Pos}{n:Nat} (hr:jY n X.A) (ho:ME X Θ o mo) (hi:ME X Θ i mi) (he:ME X Θ e me)
  (ha:∀ v,assign (.Subscript o i pos') X.env v=(do
   let ov <- holding [v] (eval o X.env)
   let iv <- holding [v,ov] (eval i X.env)
   standAt pos'
   holding [v,ov,iv] (setItem ov iv v)
   release [v,ov,iv] []):=by intro _;rfl)
  (hs:swapsWithSole [.Subscript o i pos'] e pos.line X.env=pure false:=by rfl) (hw:swappedStores [.Subscript o i pos'] e X.env=pure none:=by rfl) (h1:(assignEach [.Subscript o i pos'] X.env).map (·.2)=[assign (.Subscript o i pos') X.env]:=by rfl)
  (hs2:swapsWith e (some (.Subscript o i pos')) pos.line X.env=pure false:=by rfl):MS X Θ (.Assign [.Subscript o i pos'] e pos) (M.zEE mo mi me) :=
 (PS.or (zSg he (zRl ho hi zPe ha) hs hw h1) (zQ8 (by have:=hr.units;omega) ho hi he hs2)).imp fun D σ H ⟨ρ,σ',S,st,rp,h⟩=>by
  have h0:jR X.K Θ ρ H ((me σ' S).stm σ' fun y s=>(mo σ' s).stm σ' fun x s=>(mi σ' s).stm σ' fun k s=>(M.zAq x k y s).stm σ' fun _ s=>.nx σ' s) D:=h
  clear h
  cases hE:me σ' S with
  | no=>rw[hE] at h0;exact h0.elim
  | exc a s=>rw[hE] at h0;exact h0.elim
  | ok y S1 =>
   rw[hE,M.R.stm_ok] at h0
   cases hO:mo σ' S1 with
   | no=>rw[hO] at h0;exact h0.elim
   | exc a s=>rw[hO] at h0;exact h0.elim
   | ok x S2 =>
    rw[hO,M.R.stm_ok] at h0
    cases hI:mi σ' S2 with
    | no=>rw[hI] at h0;exact h0.elim
    | exc a s=>rw[hI] at h0;exact h0.elim
    | ok k S3 =>
     rw[hI,M.R.stm_ok] at h0
     cases x with
     | ref p =>
      cases q:S3[p]? with
      | none=>simp only[M.zAq,q] at h0;exact h0.elim
      | some ob =>
       cases ob with
       | lst xs =>
        cases k with
        | int j =>
         cases hj:M.ixN xs.length j with
         | none=>simp only[M.zAq,q,hj] at h0;exact h0.elim
         | some j' =>
          simp only[M.zAq,q,hj,M.R.stm_ok] at h0
          refine .inl ⟨ρ,σ',S,st,rp,?_⟩
          rw[hE]
          intro ρ1 H1 Y p1 l1 rp1 ry
          refine⟨ρ1,σ',S1,st.mono p1 l1,rp1,?_⟩
          rw[hO]
          intro ρ2 H2 Xv p2 l2 rp2 rx
          refine⟨ρ2,σ',S2,st.mono (p1.trans p2) (l1.trans l2),rp2,?_⟩
          rw[hI]
          intro ρ3 H3 Kv p3 l3 rp3 rk
          obtain⟨a,zs,rfl,ha,hx,rz⟩:=zBJ rp3 (rx.mono p3 l3) q
          cases rk
          have le:=Le.put (zCD hx) (.lst (zs.set j' Y))
          refine⟨a,zs,j,j',rfl,rfl,hx,by rw[<- rz.length];exact hj,?_⟩
          exact h0 ρ3 _ σ (p1.trans (p2.trans p3)) (l1.trans (l2.trans (l3.trans le))) (rp3.put ha (zCD hx) ⟨_,qA,zT.set (ry.mono (p2.trans p3) (l2.trans (l3.trans le))) j' (rz.mono (List.prefix_refl _) le)⟩) (st.mono (p1.trans (p2.trans p3)) (l1.trans (l2.trans (l3.trans le))))
        | _=>simp only[M.zAq,q] at h0;exact h0.elim
       | dct kvs =>
        cases hk:(M.ye k && decide (kvs.length < M.SZ)) with
        | false=>simp only[M.zAq,q,hk] at h0;exact h0.elim
        | true =>
         have hk2:(if (M.ye k && decide (kvs.length < M.SZ))=true then M.R.ok () (S3.set p (.dct (M.Qh k y kvs))) else .no)=M.R.ok () (S3.set p (.dct (M.Qh k y kvs))):=if_pos hk
         simp only[M.zAq,q,hk2,M.R.stm_ok] at h0
         rw[Bool.and_eq_true] at hk
         refine .inr ⟨ρ,σ',S,st,rp,?_⟩
         rw[hE]
         intro ρ1 H1 Y p1 l1 rp1 ry
         refine⟨ρ1,σ',S1,st.mono p1 l1,rp1,?_⟩
         rw[hO]
         intro ρ2 H2 Xv p2 l2 rp2 rx
         refine⟨ρ2,σ',S2,st.mono (p1.trans p2) (l1.trans l2),rp2,?_⟩
         rw[hI]
         intro ρ3 H3 Kv p3 l3 rp3 rk
         obtain⟨a,rfl,ea⟩:=rx.mono p3 l3
         obtain⟨b,e1,ks,e2,r⟩:=rp3.obj _ _ q
         rw[ea] at e1;cases e1
         obtain⟨kk,hkk,rfl⟩:=zCG hk.1 rk
         have le:=Le.put (zN8 e2) (.dK (JG ks kk Y))
         refine⟨a,_,rfl,zJ3.k e2 (by rw[<- Paired.length r,<- JC];exact of_decide_eq_true hk.2),?_⟩
         have r':DR X.K ρ3 (upd H3 a (.dK (JG ks kk Y))) kvs ks:=Paired.mapP r fun a b z=>⟨z.1,z.2.mono (List.prefix_refl _) le⟩
         exact h0 ρ3 _ σ (p1.trans (p2.trans p3)) (l1.trans (l2.trans (l3.trans le))) (rp3.put ea (zN8 e2) ⟨_,qA,DR.put r' hkk (ry.mono (p2.trans p3) (l2.trans (l3.trans le)))⟩) (st.mono (p1.trans (p2.trans p3)) (l1.trans (l2.trans (l3.trans le))))
       | fdc _=>simp only[M.zAq,q] at h0;exact h0.elim
       | ins c fs=>simp only[M.zAq,q] at h0;exact h0.elim
     | _=>exact h0.elim
theorem zEB {X:Cx}{o i e:Expr}{mo mi me:M.EM}{pos pos':Pos}{n:Nat} (hr:jY n X.A) (ho:WE X Θ o mo) (hi:WE X Θ i mi) (he:WE X Θ e me)
  (ha:∀ v,assign (.Subscript o i pos') X.env v=(do
   let ov <- holding [v] (eval o X.env)
   let iv <- holding [v,ov] (eval i X.env)
   standAt pos'
   holding [v,ov,iv] (setItem ov iv v)
   release [v,ov,iv] []):=by intro _;rfl)
  (hs:swapsWithSole [.Subscript o i pos'] e pos.line X.env=pure false:=by rfl) (hw:swappedStores [.Subscript o i pos'] e X.env=pure none:=by rfl) (h1:(assignEach [.Subscript o i pos'] X.env).map (·.2)=[assign (.Subscript o i pos') X.env]:=by rfl)
  (hs2:swapsWith e (some (.Subscript o i pos')) pos.line X.env=pure false:=by rfl):WS X Θ (.Assign [.Subscript o i pos'] e pos) (M.zEE mo mi me):=by with_unfolding_all exact zSA (X:=X) (o:=o) (i:=i) (e:=e) (mo:=mo) (mi:=mi) (me:=me) (pos:=pos) (pos':=pos') (n:=n) hr ho hi he ha hs hw h1 hs2
end
end L2
namespace L2
open PySem PySem.Spec PyProof.Rows
section
variable {K:PySem.W.Frag}{Θ:Tab}
theorem zKb:∀ {xs:List V}{us:List Value},xs.length=us.length->(∀ (j:Nat) u,us[j]? = some u->∃ x,xs[j]? = some x/\zv x u)->ze xs us
 | [],[],_,_=>.nil
 | [],_::_,h,_=>by simp at h
 | _::_,[],h,_=>by simp at h
 | x::xs,u::us,h,k=>by
  obtain⟨y,e,r⟩:=k 0 u rfl
  cases e
  exact .cons r (zKb (by simpa using h) fun j u hu=>by
   obtain⟨y,e,r⟩:=k (j+1) u (by simpa using hu)
   exact⟨y,by simpa using e,r⟩)
theorem zRt {P:Program}{w:World}{k:Key}{v:Value} (h:(yR P w).is k v=true):zv (kV k) v:=by
 rcases yW (k:=k) (v:=v) h with ⟨i,t,rfl,rfl⟩ | ⟨x,t,rfl,rfl⟩
 ·exact⟨t,rfl⟩
 ·exact⟨t,rfl⟩
noncomputable def zNd (K:PySem.W.Frag):List V->Hp->VK->Prop:=fun xs H Q=>(∃ p ys,xs=[.ref p]/\(SqL K H p ys\/SqT K H p ys)/\∀ l,H l=none->Q (.ref l) (upd H l (.lst ys))) \/
 ∃ p ks,xs=[.ref p]/\H p=some (.dK ks)/\∀ l,H l=none->Q (.ref l) (upd H l (.lst (ks.map fun kv=>kV kv.1)))
theorem zMm {X:Cx}{k:Nat} (hr:jY k X.A):qj X (.type "list") (zNd X.K):=by
 intro pins s σ H xs us Q I r h
 rcases h with h | ⟨p,ks,rfl,hp,q⟩
 ·exact zJ8 pins s σ H xs us Q I r h
 ·obtain⟨u,rfl,ru⟩:=Jw r
  cases ru
  obtain⟨z,lo,vs,rv,dd⟩:=zDA I.hok hp
  obtain⟨ep,da⟩:=dd.dictAt
  have hl:=rv.length
  refine wpAny_with_toks (n:=1) I.tk (PySem.W.kdl_call (PySem.W.kdl_dict lo) hr.hd da (by omega) fun h' tk acc c' keep hS it htk=>?_)
  obtain⟨hsz,hit⟩:=it
  refine⟨.ref s.heap.objs.size,_,I.laid (t':=tk) (o:=.lst (ks.map fun kv=>kV kv.1)) keep (Nat.le_refl _) ⟨by rw[List.length_map];exact z,acc.toList,c',zKb (by simp;omega) fun j u hu=>?_,by simpa using hS⟩ htk,rfl,q _ (I.hok.fresh (Nat.le_refl _))⟩
  obtain⟨k,x,e,hk⟩:=hit j u (by simpa using hu)
  have hj:j < ks.length:=by have:=(List.getElem?_eq_some_iff.mp e).1;omega
  have ek:(ks.map (·.1))[j]? = some k:=by rw[rv.keys,List.getElem?_map,e];rfl
  refine⟨kV k,?_,zRt hk⟩
  rw[List.getElem?_map] at ek ⊢
  cases q2:ks[j]? with
  | none=>rw[q2] at ek;cases ek
  | some kv=>rw[q2] at ek;cases ek;rfl
theorem zJ9 {ρ:List Addr}{H:Hp}:∀ {kvs:List (M.D×M.D)}{ks:List (Key×V)},DR K ρ H kvs ks->zT K ρ H (kvs.map (·.1)) (ks.map fun kv=>kV kv.1)
 | _,_,.nil=>rfl
 | (d,_)::_,(k,_)::_,.cons h t=>by
  refine⟨_,_,rfl,?_,zJ9 t⟩
  have h1:zBo d k:=h.1
  cases d with
  | int i=>cases h1;rfl
  | str x=>obtain⟨rfl,ok⟩:=h1;exact⟨rfl,ok⟩
  | _=>exact h1.elim
theorem zQu:AdN K Θ M.zL1 (zNd K):=by
 intro ρ H S xs Xs Q rp rxs h
 unfold M.zL1 at h
 split at h
 ·obtain⟨Y,r,rfl,⟨a,zs,rfl,hq,rz⟩,rfl⟩:=rxs
  exact .inl ⟨a,zs,rfl,.inr hq,fun p hp=>zI.alloc h rp rz hp⟩
 ·obtain⟨Y,r,rfl,⟨a,zs,rfl,hq,rz⟩,rfl⟩:=rxs
  exact .inl ⟨a,zs,rfl,.inl hq.sq,fun p hp=>zI.alloc h rp rz hp⟩
 ·rename_i p
  obtain⟨Y,r,rfl,ry,rfl⟩:=rxs
  split at h
  ·rename_i ds e
   obtain⟨a,zs,rfl,ha,hx,rz⟩:=zBJ rp ry e
   exact .inl ⟨a,zs,rfl,.inl (SqL.of hx),fun p hp=>zI.alloc h rp rz hp⟩
  ·rename_i kvs e
   obtain⟨a,rfl,ha⟩:=ry
   obtain⟨ks,e2,r⟩:=zBk rp ha e
   exact .inr ⟨a,ks,rfl,e2,fun p hp=>zI.alloc h rp (zJ9 r) hp⟩
  ·exact h.elim
 ·exact h.elim
noncomputable def zNh:List V->Hp->VK->Prop:=fun xs H Q=>∃ p ks,xs=[.ref p]/\H p=some (.dK ks)/\∀ l,H l=none->Q (.ref l) (upd H l (.dK ks))
theorem zMI {X:Cx}:qj X (.type "dict") zNh:=by
 intro pins s σ H xs us Q I r h
 obtain⟨p,ks,rfl,hp,q⟩:=h
 obtain⟨u,rfl,ru⟩:=Jw r
 cases ru
 obtain⟨z,lo,vs,rv,dd⟩:=zDA I.hok hp
 refine PySem.kt_call_dict lo dd (by rw[<- rv.length];exact z) fun h' dd' sb=>?_
 have lo2:(s.heap.objs.size == sysModules)=false:=by have:=I.big;exact beq_eq_false_iff_ne.mpr (Nat.ne_of_gt this)
 exact⟨.ref s.heap.objs.size,_,I.laid (t':=s.toks) (o:=.dK ks) (fun b o e=>(sb.2 b (Nat.ne_of_lt (Heap.lt_size e))).trans (Heap.get?_push_of_some _ e)) (Nat.le_refl _) (zKW z lo2 rv dd'),rfl,q _ (I.hok.fresh (Nat.le_refl _))⟩
theorem zI8 {ρ:List Addr}{H:Hp}{S:M.S}{kvs:List (M.D×M.D)}{ks:List (Key×V)}{Q:VK} (h:zI K Θ (zS K) ρ H (M.alloc (.dct kvs) S) Q) (rp:zf K Θ ρ S H) (r:DR K ρ H kvs ks) {p:Addr} (hp:H p=none):Q (.ref p) (upd H p (.dK ks)) :=
 h (ρ++[p]) _ _ (List.prefix_append _ _) (Le.new hp _) (rp.alloc hp ⟨ks,qA,Paired.mapP r fun _ _ z=>⟨z.1,z.2.mono (List.prefix_append _ _) (Le.new hp _)⟩⟩) ⟨p,rfl,by rw[<- rp.len];simp⟩
theorem zQT:AdN K Θ M.zMr zNh:=by
 intro ρ H S xs Xs Q rp rxs h
 unfold M.zMr at h
 split at h
 ·rename_i p
  obtain⟨Y,r,rfl,ry,rfl⟩:=rxs
  split at h
  ·rename_i kvs e
   obtain⟨a,rfl,ha⟩:=ry
   obtain⟨ks,e2,r⟩:=zBk rp ha e
   exact⟨a,ks,rfl,e2,fun p hp=>zI8 h rp r hp⟩
  ·exact h.elim
 ·exact h.elim
theorem zRA {X:Cx}{pos:Pos}:ME X Θ (.Dict [] [] pos) M.zHD:=zOK.imp fun σ H Q ⟨ρ,σ',S,st,rp,h⟩=>fun p hp=>zI8 (kvs:=[]) h rp .nil hp
theorem zIi {X:Cx}{pos:Pos}:WE X Θ (.Dict [] [] pos) M.zHD:=by with_unfolding_all exact zRA (X:=X) (pos:=pos)
theorem zM4 {α:Type} (xs:List α):(List.range xs.length).filterMap (xs[·]?)=xs:=by
 induction xs with
 | nil=>rfl
 | cons x xs ih =>
  rw[List.length_cons,List.range_succ_eq_map,List.filterMap_cons,List.filterMap_map]
  simp only[List.getElem?_cons_zero]
  congr 1
theorem zPC (its:List Value):slicePick its.toArray none none (some (-1))=its.reverse.toArray:=by
 unfold slicePick
 have hb:sliceBounds none none (some (-1)) its.toArray.size=((its.length:Int) - 1,-1,-1):=by
  simp[sliceBounds]
 rw[hb]
 have hr:sliceRange ((its.length:Int) - 1) (-1) (-1)=(List.range its.length).reverse:=by
  unfold sliceRange
  have e:(if (-1:Int) > 0 then (if (its.length:Int) - 1 < -1 then (-1 - ((its.length:Int) - 1) + -1 - 1) / -1 else 0) else (if (its.length:Int) - 1 > -1 then ((its.length:Int) - 1 - -1 - -1 - 1) / - -1 else 0)).toNat=its.length:=by
   rw[if_neg (by decide)]
   split
   ·rw[show (- -1:Int)=1 by decide,Int.ediv_one];omega
   ·omega
  dsimp only
  rw[e]
  apply List.ext_getElem
  ·simp
  ·intro i h1 h2
   simp at h1 ⊢
   omega
 dsimp only
 rw[hr,List.filterMap_reverse]
 congr 2
 have:=zM4 its
 simpa using this
theorem zSS {X:Cx}{e st:Expr}{te:TE}{p2 pos:Pos} (he:PE X e te) (hst:PE X st (tC (.int (-1)))):PE X (.Subscript e (.Slice none none (some st) p2) pos) (fun σ H Q=>te σ H fun x H1=>∃ a xs,x=.ref a/\SqL X.K H1 a xs/\∀ p,H1 p=none->Q (.ref p) (upd H1 p (.lst xs.reverse))):=by
 intro pins s σ H Q I h
 refine Subscript_ (thn (he pins s σ H _ I h) fun v s1 ⟨x,H1,I1,r1,q1⟩=>?_)
 obtain⟨a,xs,rfl,hq,q⟩:=q1
 cases r1
 refine wpAny_Slice ?_
 rw[evalPart_none]
 refine wpAny_pure (wpAny_pure ?_)
 rw[evalPart_some]
 refine thn (hst pins s1 σ H1 (fun v H'=>v=.int (-1)/\H'=H1) I1 ⟨rfl,rfl⟩) fun u s2 ⟨y,H2,I2,r2,ey,eh⟩=>?_
 subst ey
 subst eh
 obtain⟨t,rfl⟩:=r2
 have I4:Inv X pins σ H2 { s2 with heap:=s2.heap.push { cls:=.type "slice",data:=.fields #[.none,.none,.int (-1) t] } }:=I2.kept (t':=s2.toks) fun b ob q=>Heap.get?_push_of_some _ q
 obtain⟨its,r,ht,hz⟩:=I4.list hq
 have hlen:=r.length
 show wpAny (model X.prog X.w) X.A (subscriptTail e (.Slice none none (some st) p2) (.ref a) (.ref s2.heap.objs.size)) (EP X pins σ Q) X.xe { s2 with heap:=s2.heap.push { cls:=.type "slice",data:=.fields #[.none,.none,.int (-1) t] } }
 refine tail_any (ops:=[.ref a,.ref s2.heap.objs.size]) ht.isList.typeIs slot_list_getitem.lookup ?_ (by with_unfolding_all rfl)
 refine wpAny_getItem_list_slice ht.isList (Heap.IsSliceOf.new ..) .none .none (.int (-1) t) (by decide) ?_ (by rw[List.size_toArray]<;>omega)
 rw[zPC]
 refine⟨.ref _,_,I4.laid (t':=s2.toks) (o:=.lst xs.reverse) (fun b ob q=>Heap.get?_push_of_some _ q) (Nat.le_refl _) ?_,rfl,q _ (I4.hok.fresh (Nat.le_refl _))⟩
 exact⟨by rw[List.length_reverse];exact hz,_,0,r.reverse,Heap.get?_push_size _ rfl⟩
end
end L2
namespace L2
open PySem PySem.Spec PyProof.Rows
section
variable {P:Program}{w:World}{A:Around}{E:Value->Shared->Prop}{s:Shared}
theorem zAw {it t:Addr}{i:Nat}{xs:Array Value}{x:Value}{Q:Value->Shared->Prop} (hi:s.heap.IsTupleIter it t i) (ht:s.heap.IsTuple t xs) (hx:xs[i]? = some x)
  (q:∀ h',h'.IsTupleIter it t (i+1)->Heap.SameBut it s.heap h'->Q x { s with heap:=h' }):wpAny (model P w) A (Builtin.SmallTypes.nextOf (.ref it)) Q E s:=by
 obtain⟨oi,gi,ci,di⟩:=id hi
 obtain⟨ot,gt,_,nt,dt⟩:=ht
 unfold Builtin.SmallTypes.nextOf
 refine wpAny_bind (wpAny_callSpecial?_slot (name:=Str.ofString "__next__") hi.typeIs PySem.F.slot_tuple_iterator_next (wpAny_call_entry PySem.F.slot_tuple_iterator_next hi.typeIs PySem.F.entry_tuple_iterator_next ?_ (PySem.F.args_tuple_iterator_next_1 _)))
 show wpAny (model P w) _ (field (.ref it) 0 >>= _) _ _ s
 refine wpAny_bind (wpAny_field gi di (x:=.ref t) rfl ?_)
 rw[if_neg (show ¬ ((Value.ref t == Value.none)=true) from Bool.false_ne_true)]
 show wpAny (model P w) _ (field (.ref it) 1 >>= _) _ _ s
 refine wpAny_bind (wpAny_field gi di (x:=.int i 0) rfl ?_)
 refine wpAny_bind (wpAny_seqItems gt dt ?_)
 simp only[Int.toNat_natCast,hx]
 refine wpAny_bind (wpAny_setField gi di (by simp) (wpAny_pure ⟨x,rfl,wpAny_pure (q _ ?_ (Heap.SameBut.update ..))⟩))
 refine⟨_,Heap.get?_update_self _ gi (Obj.isFreed_of_fields (Obj.data_mapFields di _)),(Obj.cls_mapFields ..).trans ci,?_⟩
 rw[Obj.data_mapFields di];simp[rawInt]
theorem zIo {it t:Addr}{i:Nat}{xs:Array Value}{Q:Value->Shared->Prop} (hh:A.handled=none) (hi:s.heap.IsTupleIter it t i) (ht:s.heap.IsTuple t xs) (hx:xs[i]? = none)
  (q:∀ h' e,Heap.ExtBut it s.heap h'->(∃ o,h'.get? e=some o/\o.cls=.type "StopIteration")->E (.ref e) { s with heap:=h' }):wpAny (model P w) A (Builtin.SmallTypes.nextOf (.ref it)) Q E s:=by
 obtain⟨oi,gi,ci,di⟩:=id hi
 obtain⟨ot,gt,_,nt,dt⟩:=ht
 unfold Builtin.SmallTypes.nextOf
 refine wpAny_bind (wpAny_callSpecial?_slot (name:=Str.ofString "__next__") hi.typeIs PySem.F.slot_tuple_iterator_next (wpAny_call_entry PySem.F.slot_tuple_iterator_next hi.typeIs PySem.F.entry_tuple_iterator_next ?_ (PySem.F.args_tuple_iterator_next_1 _)))
 show wpAny (model P w) _ (field (.ref it) 0 >>= _) _ _ s
 refine wpAny_bind (wpAny_field gi di (x:=.ref t) rfl ?_)
 rw[if_neg (show ¬ ((Value.ref t == Value.none)=true) from Bool.false_ne_true)]
 show wpAny (model P w) _ (field (.ref it) 1 >>= _) _ _ s
 refine wpAny_bind (wpAny_field gi di (x:=.int i 0) rfl ?_)
 refine wpAny_bind (wpAny_seqItems gt dt ?_)
 simp only[Int.toNat_natCast,hx]
 refine wpAny_bind (wpAny_rule (wpAny_bind (wpAny_setField gi di (by simp) ?_)))
 show wpAny (model P w) _ (newExc (.type "StopIteration") [] >>= _) _ _ _
 refine wpAny_bind ?_
 simp only[newExc,newTuple]
 refine wpAny_bind (wpAny_newObj_type ?_ (by size_fits))
 refine wpAny_bind (m:=firstArgMember _ _) (wpAny_of_eq (a:=Value.none) (by first | rfl | (simp only[firstArgMember];rfl)) ?_)
 refine wpAny_newObj_type ?_ (by size_fits)
 simp only[raiseNew]
 refine wpAny_bind (wpAny_handled ?_)
 first | rw[show A.in1.handled=none from hh] | rw[hh]
 refine wpAny_bind (wpAny_pure (wpAny_throw ?_))
 exact q _ _ (((Heap.SameBut.update ..).extBut.push _).push _) ⟨_,Heap.get?_push_size _ rfl,rfl⟩
noncomputable def zAj (h:Heap) (z TI TO:Addr) (f0:Value) (b:Bool):Prop:=h.get? z=some { cls:=.type "zip",dict:=none,data:=.fields #[f0,.bool b,.bool false,.ref TI,.ref TO],slots:=#[] }
structure ZSt (z TI TO i1 i2 l1 l2:Addr) (xs ys:Array Value) (i:Nat) (h:Heap):Prop where
 zp:∃ f0 b,zAj h z TI TO f0 b/\((i=0/\f0=.none)\/∃ (T:Addr) (o:Obj),f0=rawInt T/\h.get? T=some o)
 ti:IsPair h TI (.ref i1) (.ref i2)
 to:∃ a b,IsPair h TO a b
 n1:h.IsTupleIter i1 l1 i
 n2:h.IsTupleIter i2 l2 i
 t1:h.IsTuple l1 xs
 t2:h.IsTuple l2 ys
theorem JM {h h':Heap}{a:Addr}{xs:Array Value} (x:h.IsTuple a xs) (e:∀ o,h.get? a=some o->h'.get? a=some o):h'.IsTuple a xs:=let ⟨o,g,r⟩:=x;⟨o,e o g,r⟩
theorem zGh {T:Addr}{a b x:Value}{k:Nat}{Q:Unit->Shared->Prop} (hT:IsPair s.heap T a b) (q:∀ h',h'.get? T=some { cls:=.type "tuple",data:=.seq ((#[a,b]:Array Value).setIfInBounds k x) }->Heap.SameBut T s.heap h'->Q () { s with heap:=h' }) :
  wpAny (model P w) A (updateSeq T (·.setIfInBounds k x)) Q E s:=wpAny_updateSeq_pair hT q
theorem zLT {z TI TO i1 i2 l1 l2:Addr}{i:Nat}{xs ys:Array Value}{x y:Value}{b:Bool}{Q:Value->Shared->Prop} (D:ZipApart z TI TO i1 i2 l1 l2) (st:ZSt z TI TO i1 i2 l1 l2 xs ys i s.heap) (hz:zAj s.heap z TI TO .none b) (hx:xs[i]? = some x) (hy:ys[i]? = some y)
  (q:∀ h',ZSt z TI TO i1 i2 l1 l2 xs ys (i+1) h'->IsPair h' s.heap.objs.size x y->(∀ c o,c≠z->c≠TO->c≠i1->c≠i2->s.heap.get? c=some o->h'.get? c=some o)->Q (.ref s.heap.objs.size) { s with heap:=h' }) :
  wpAny (model P w) A (Builtin.«zip.__next__» ⟨[.ref z],[]⟩) (fun fin s'=>∃ v,fin=.done (.ret v)/\Q v s') E s:=by
 obtain⟨_,hTI,⟨a0,b0,hTO⟩,h1,h2,hl1,hl2⟩:=st
 show wpAny (model P w) _ (field (.ref z) 2 >>= _) _ _ _
 refine wpAny_bind (wpAny_field hz rfl (x:=.bool false) rfl ?_)
 show wpAny (model P w) _ (field (.ref z) 3 >>= _) _ _ _
 refine wpAny_bind (wpAny_field hz rfl (x:=.ref TI) rfl ?_)
 refine wpAny_bind (wpAny_seqItems hTI rfl ?_)
 show wpAny (model P w) _ (Builtin.SmallTypes.ownedTupleIsFree (.ref z) >>= _) _ _ _
 refine wpAny_bind ?_
 unfold Builtin.SmallTypes.ownedTupleIsFree
 refine wpAny_bind (wpAny_field hz rfl (x:=.none) rfl (wpAny_pure ?_))
 simp only[if_true]
 refine wpAny_bind (wpAny_rule ?_)
 refine wpAny_bind (wpAny_field hz rfl (x:=.ref TO) rfl ?_)
 refine wpAny_bind (wpAny_setField_rec hz (by simp) fun g1 z1 e1=>?_)
 replace z1:zAj g1 z TI TO .ellipsis b:=z1
 refine wpAny_bind ?_
 simp only[List.zipIdx_cons,List.zipIdx_nil,List.forIn_cons,List.forIn_nil]
 refine wpAny_bind (wpAny_bind (wpAny_onRaise ?_))
 show wpAny (model P w) _ (Builtin.SmallTypes.nextOf (.ref i1) >>= _) _ _ _
 refine wpAny_bind (zAw (h1.extBut e1.extBut D.i1z) (hl1.extBut e1.extBut D.l1z) hx fun g2 n12 e2=>wpAny_pure ?_)
 have to2:IsPair g2 TO a0 b0:=e2.extBut _ _ D.TOi1 (e1.extBut _ _ D.TOz hTO)
 refine wpAny_bind (wpAny_seqItems to2 rfl ?_)
 refine wpAny_bind (zGh to2 fun g3 to3 e3=>?_)
 replace to3:IsPair g3 TO x b0:=to3
 refine wpAny_bind (wpAny_letGo (wpAny_pure ?_))
 refine wpAny_bind (wpAny_bind (wpAny_onRaise ?_))
 show wpAny (model P w) _ (Builtin.SmallTypes.nextOf (.ref i2) >>= _) _ _ _
 refine wpAny_bind (zAw (((h2.extBut e1.extBut D.i2z).extBut e2.extBut D.i12.symm).extBut e3.extBut D.TOi2.symm) (((hl2.extBut e1.extBut D.l2z).extBut e2.extBut D.l2i1).extBut e3.extBut D.l2TO) hy fun g4 n24 e4=>wpAny_pure ?_)
 have to4:IsPair g4 TO x b0:=e4.extBut _ _ D.TOi2 to3
 refine wpAny_bind (wpAny_seqItems to4 rfl ?_)
 refine wpAny_bind (zGh to4 fun g5 to5 e5=>?_)
 replace to5:IsPair g5 TO x y:=to5
 refine wpAny_bind (wpAny_letGo (wpAny_pure (wpAny_pure ?_)))
 refine wpAny_bind (wpAny_seqItems to5 rfl ?_)
 refine wpAny_bind (wpAny_newTuple ?_)
 have sz:g5.objs.size=s.heap.objs.size:=by rw[e5.1,e4.1,e3.1,e2.1,e1.1]
 have z5:zAj g5 z TI TO .ellipsis b:=e5.extBut _ _ D.TOz.symm (e4.extBut _ _ D.i2z.symm (e3.extBut _ _ D.TOz.symm (e2.extBut _ _ D.i1z.symm z1)))
 have k5:∀ c o,c≠z->c≠TO->c≠i1->c≠i2->s.heap.get? c=some o->g5.get? c=some o:=fun c o c1 c2 c3 c4 e=>e5.extBut _ _ c2 (e4.extBut _ _ c4 (e3.extBut _ _ c2 (e2.extBut _ _ c3 (e1.extBut _ _ c1 e))))
 have m1:g5.IsTupleIter i1 l1 (i+1):=((n12.extBut e3.extBut D.TOi1.symm).extBut e4.extBut D.i12).extBut e5.extBut D.TOi1.symm
 have m2:g5.IsTupleIter i2 l2 (i+1):=n24.extBut e5.extBut D.TOi2.symm
 have zl:z < g5.objs.size:=Heap.lt_size z5
 show wpAny (model P w) _ (Builtin.SmallTypes.ownedTupleHandOut (.ref z) (.ref g5.objs.size) >>= _) _ _ _
 refine wpAny_bind ?_
 unfold Builtin.SmallTypes.ownedTupleHandOut
 have z6:zAj (g5.push { cls:=.type "tuple",data:=.seq #[x,y] }) z TI TO .ellipsis b:=Heap.get?_push_of_some _ z5
 refine wpAny_bind (wpAny_setField_rec z6 (by simp) fun g7 z7 e7=>?_)
 replace z7:zAj g7 z TI TO (rawInt g5.objs.size) b:=z7
 refine wpAny_setField_rec z7 (by simp) fun g8 z8 e8=>?_
 replace z8:zAj g8 z TI TO (rawInt g5.objs.size) false:=z8
 have up:∀ c o,c≠z->g5.get? c=some o->g8.get? c=some o:=fun c o c1 e=>e8.extBut _ _ c1 (e7.extBut _ _ c1 (Heap.get?_push_of_some _ e))
 have T8:IsPair g8 g5.objs.size x y:=e8.extBut _ _ (Nat.ne_of_gt zl) (e7.extBut _ _ (Nat.ne_of_gt zl) (Heap.get?_push_size _ rfl))
 rw[sz] at z8 T8
 refine wpAny_pure ⟨_,rfl,?_⟩
 show Q (.ref g5.objs.size) _
 rw[sz]
 refine q g8 ⟨⟨_,false,z8,.inr ⟨_,_,rfl,T8⟩⟩,up _ _ D.TIz (k5 _ _ D.TIz D.TITO D.TIi1 D.TIi2 hTI),⟨_,_,up _ _ D.TOz to5⟩,m1.at fun o e=>up _ o D.i1z e,m2.at fun o e=>up _ o D.i2z e,
  JM hl1 fun o e=>up _ o D.l1z (k5 _ o D.l1z D.l1TO D.l1i1 D.l1i2 e),JM hl2 fun o e=>up _ o D.l2z (k5 _ o D.l2z D.l2TO D.l2i1 D.l2i2 e)⟩ T8 fun c o c1 c2 c3 c4 e=>up c o c1 (k5 c o c1 c2 c3 c4 e)
theorem zLM {a:Addr}{Q:Option Obj->Shared->Prop} (h:Q (s.heap.get? a) s):wpAny (model P w) A (loadIfAlive a) Q E s:=fun _ _ _=>h
theorem zPm {z TI TO:Addr}{T:Addr}{o:Obj}{b:Bool}{Q:Bool->Shared->Prop} (hz:zAj s.heap z TI TO (rawInt T) b) (hT:s.heap.get? T=some o) (q:∀ h',zAj h' z TI TO (rawInt T) true->Heap.SameBut z s.heap h'->Q false { s with heap:=h' }) :
  wpAny (model P w) A (Builtin.SmallTypes.ownedTupleIsFree (.ref z)) Q E s:=by
 unfold Builtin.SmallTypes.ownedTupleIsFree
 refine wpAny_bind (wpAny_field hz rfl (x:=rawInt T) rfl ?_)
 show wpAny (model P w) _ (loadIfAlive (T:Int).toNat >>= _) _ _ _
 rw[Int.toNat_natCast]
 refine wpAny_bind (zLM ?_)
 rw[hT]
 simp only[Option.isNone_some,Bool.false_eq_true,if_false]
 refine wpAny_bind (wpAny_field hz rfl (x:=.bool b) rfl ?_)
 cases b with
 | true =>
  rw[if_neg (by decide)]
  exact wpAny_pure (q _ hz (Heap.SameBut.refl ..))
 | false =>
  rw[if_pos (by decide)]
  refine wpAny_bind (wpAny_setField_rec hz (by simp) fun g1 z1 e1=>wpAny_pure ?_)
  exact q g1 z1 e1
theorem zDC {h h':Heap}{z T:Addr}{o u:Obj} (hT:h.get? T=some o) (hz:h'.get? z=some u) (e:∀ c p,c≠z->h.get? c=some p->h'.get? c=some p):∃ p,h'.get? T=some p:=by
 by_cases c:T=z
 ·exact⟨u,c ▸ hz⟩
 ·exact⟨o,e T o c hT⟩
theorem zMD {z TI TO i1 i2 l1 l2 T:Addr}{i:Nat}{xs ys:Array Value}{x y:Value}{b:Bool}{o:Obj}{Q:Value->Shared->Prop} (D:ZipApart z TI TO i1 i2 l1 l2) (st:ZSt z TI TO i1 i2 l1 l2 xs ys i s.heap) (hz:zAj s.heap z TI TO (rawInt T) b) (hT:s.heap.get? T=some o) (hx:xs[i]? = some x) (hy:ys[i]? = some y)
  (q:∀ h',ZSt z TI TO i1 i2 l1 l2 xs ys (i+1) h'->IsPair h' s.heap.objs.size x y->(∀ c o,c≠z->c≠TO->c≠i1->c≠i2->s.heap.get? c=some o->h'.get? c=some o)->Q (.ref s.heap.objs.size) { s with heap:=h' }) :
  wpAny (model P w) A (Builtin.«zip.__next__» ⟨[.ref z],[]⟩) (fun fin s'=>∃ v,fin=.done (.ret v)/\Q v s') E s:=by
 obtain⟨_,hTI,⟨a0,b0,hTO⟩,h1,h2,hl1,hl2⟩:=st
 show wpAny (model P w) _ (field (.ref z) 2 >>= _) _ _ _
 refine wpAny_bind (wpAny_field hz rfl (x:=.bool false) rfl ?_)
 show wpAny (model P w) _ (field (.ref z) 3 >>= _) _ _ _
 refine wpAny_bind (wpAny_field hz rfl (x:=.ref TI) rfl ?_)
 refine wpAny_bind (wpAny_seqItems hTI rfl ?_)
 show wpAny (model P w) _ (Builtin.SmallTypes.ownedTupleIsFree (.ref z) >>= _) _ _ _
 refine wpAny_bind (zPm hz hT fun g1 z1 e1=>?_)
 simp only[Bool.false_eq_true,if_false]
 refine wpAny_bind ?_
 simp only[<- Array.forIn_toList,List.forIn_cons,List.forIn_nil]
 refine wpAny_bind (wpAny_bind (wpAny_holding ?_))
 show wpAny (model P w) _ (Builtin.SmallTypes.nextOf (.ref i1) >>= _) _ _ _
 refine wpAny_bind (zAw (h1.extBut e1.extBut D.i1z) (hl1.extBut e1.extBut D.l1z) hx fun g2 n12 e2=>wpAny_pure (wpAny_pure ?_))
 refine wpAny_bind (wpAny_bind (wpAny_holding ?_))
 show wpAny (model P w) _ (Builtin.SmallTypes.nextOf (.ref i2) >>= _) _ _ _
 refine wpAny_bind (zAw ((h2.extBut e1.extBut D.i2z).extBut e2.extBut D.i12.symm) ((hl2.extBut e1.extBut D.l2z).extBut e2.extBut D.l2i1) hy fun g3 n23 e3=>wpAny_pure (wpAny_pure (wpAny_pure ?_)))
 refine wpAny_bind (wpAny_newTuple (hsz:=show 2 <= sizeLine by decide) (wpAny_pure ⟨_,rfl,?_⟩))
 have sz:g3.objs.size=s.heap.objs.size:=by rw[e3.1,e2.1,e1.1]
 have z3:zAj g3 z TI TO (rawInt T) true:=e3.extBut _ _ D.i2z.symm (e2.extBut _ _ D.i1z.symm z1)
 have k3:∀ c o,c≠z->c≠i1->c≠i2->s.heap.get? c=some o->g3.get? c=some o:=fun c o c1 c3 c4 e=>e3.extBut _ _ c4 (e2.extBut _ _ c3 (e1.extBut _ _ c1 e))
 obtain⟨o1,a1⟩:=zDC hT z1 fun c p n e=>e1.extBut c p n e
 obtain⟨u2,b2,_⟩:=id n12
 obtain⟨o2,a2⟩:=zDC a1 b2 fun c p n e=>e2.extBut c p n e
 obtain⟨u3,b3,_⟩:=id n23
 obtain⟨o3,a3⟩:=zDC a2 b3 fun c p n e=>e3.extBut c p n e
 have up:∀ c o,g3.get? c=some o->(g3.push { cls:=.type "tuple",data:=.seq #[x,y] }).get? c=some o:=fun c o e=>Heap.get?_push_of_some _ e
 have T8:IsPair (g3.push { cls:=.type "tuple",data:=.seq #[x,y] }) g3.objs.size x y:=Heap.get?_push_size _ rfl
 rw[sz] at T8
 show Q (.ref g3.objs.size) { s with heap:=g3.push { cls:=.type "tuple",data:=.seq #[x,y] } }
 rw[sz]
 refine q _ ⟨⟨_,true,up _ _ z3,.inr ⟨_,_,rfl,up _ _ a3⟩⟩,up _ _ (k3 _ _ D.TIz D.TIi1 D.TIi2 hTI),⟨_,_,up _ _ (k3 _ _ D.TOz D.TOi1 D.TOi2 hTO)⟩,n12.at fun o e=>up _ _ (e3.extBut _ _ D.i12 e),n23.at fun o e=>up _ _ e,
  JM hl1 fun o e=>up _ o (k3 _ o D.l1z D.l1i1 D.l1i2 e),JM hl2 fun o e=>up _ o (k3 _ o D.l2z D.l2i1 D.l2i2 e)⟩ T8 fun c o c1 c2 c3 c4 e=>up c o (k3 c o c1 c3 c4 e)
theorem zOA {z TI TO i1 i2 l1 l2 T:Addr}{i:Nat}{xs ys:Array Value}{b:Bool}{o:Obj}{Q:Fin->Shared->Prop} (hh:A.handled=none) (D:ZipApart z TI TO i1 i2 l1 l2) (st:ZSt z TI TO i1 i2 l1 l2 xs ys i s.heap) (hz:zAj s.heap z TI TO (rawInt T) b) (hT:s.heap.get? T=some o) (hx:xs[i]? = none)
  (q:∀ h' e,(∀ c o,c≠z->c≠TO->c≠i1->c≠i2->s.heap.get? c=some o->h'.get? c=some o)->(∃ o,h'.get? e=some o/\o.cls=.type "StopIteration")->E (.ref e) { s with heap:=h' }) :
  wpAny (model P w) A (Builtin.«zip.__next__» ⟨[.ref z],[]⟩) Q E s:=by
 obtain⟨_,hTI,⟨a0,b0,hTO⟩,h1,h2,hl1,hl2⟩:=st
 show wpAny (model P w) _ (field (.ref z) 2 >>= _) _ _ _
 refine wpAny_bind (wpAny_field hz rfl (x:=.bool false) rfl ?_)
 show wpAny (model P w) _ (field (.ref z) 3 >>= _) _ _ _
 refine wpAny_bind (wpAny_field hz rfl (x:=.ref TI) rfl ?_)
 refine wpAny_bind (wpAny_seqItems hTI rfl ?_)
 show wpAny (model P w) _ (Builtin.SmallTypes.ownedTupleIsFree (.ref z) >>= _) _ _ _
 refine wpAny_bind (zPm hz hT fun g1 z1 e1=>?_)
 simp only[Bool.false_eq_true,if_false]
 refine wpAny_bind ?_
 simp only[<- Array.forIn_toList,List.forIn_cons,List.forIn_nil]
 refine wpAny_bind (wpAny_bind (wpAny_holding ?_))
 show wpAny (model P w) _ (Builtin.SmallTypes.nextOf (.ref i1) >>= _) _ _ _
 refine wpAny_bind (zIo hh (h1.extBut e1.extBut D.i1z) (hl1.extBut e1.extBut D.l1z) hx fun g2 e e2 he=>?_)
 exact q g2 e (fun c o c1 _ c3 _ x=>e2 _ _ c3 (e1.extBut _ _ c1 x)) he
theorem zO2 {z TI TO i1 i2 l1 l2:Addr}{i:Nat}{xs ys:Array Value}{x y:Value}{Q:Option Value->Shared->Prop} (D:ZipApart z TI TO i1 i2 l1 l2) (st:ZSt z TI TO i1 i2 l1 l2 xs ys i s.heap) (hx:xs[i]? = some x) (hy:ys[i]? = some y)
  (q:∀ h',ZSt z TI TO i1 i2 l1 l2 xs ys (i+1) h'->IsPair h' s.heap.objs.size x y->(∀ c o,c≠z->c≠TO->c≠i1->c≠i2->s.heap.get? c=some o->h'.get? c=some o)->Q (some (.ref s.heap.objs.size)) { s with heap:=h' }) :
  wpAny (model P w) A (pyNext (.ref z)) Q E s:=by
 obtain⟨f0,b,hz,hf⟩:=id st.zp
 have hT:s.TypeIs (.ref z) "zip" := ⟨_,hz,rfl⟩
 unfold pyNext
 refine wpAny_bind (wpAny_attempt (wpAny_callSpecial?_slot (name:=Str.ofString "__next__") hT PySem.F.slot_zip_next (wpAny_call_entry PySem.F.slot_zip_next hT PySem.F.entry_zip_next ?_ (PySem.F.args_zip_next_1 _))))
 rcases hf with ⟨_,rfl⟩ | ⟨T,o,rfl,ho⟩
 ·exact zLT D st hz hx hy fun h' a1 a2 a3=>wpAny_pure (q h' a1 a2 a3)
 ·exact zMD D st hz ho hx hy fun h' a1 a2 a3=>wpAny_pure (q h' a1 a2 a3)
theorem zQU {z TI TO i1 i2 l1 l2 T:Addr}{i:Nat}{xs ys:Array Value}{b:Bool}{o:Obj}{Q:Option Value->Shared->Prop} (hh:A.handled=none) (D:ZipApart z TI TO i1 i2 l1 l2) (st:ZSt z TI TO i1 i2 l1 l2 xs ys i s.heap) (hz:zAj s.heap z TI TO (rawInt T) b) (ho:s.heap.get? T=some o) (hx:xs[i]? = none)
  (q:∀ h',(∀ c o,c≠z->c≠TO->c≠i1->c≠i2->s.heap.get? c=some o->h'.get? c=some o)->Q none { s with heap:=h' }):wpAny (model P w) A (pyNext (.ref z)) Q E s:=by
 have hT:s.TypeIs (.ref z) "zip" := ⟨_,hz,rfl⟩
 unfold pyNext
 refine wpAny_bind (wpAny_attempt (wpAny_callSpecial?_slot (name:=Str.ofString "__next__") hT PySem.F.slot_zip_next (wpAny_call_entry PySem.F.slot_zip_next hT PySem.F.entry_zip_next (zOA hh D st hz ho hx fun h' e hk he=>?_) (PySem.F.args_zip_next_1 _))))
 obtain⟨o,ho,hc⟩:=he
 exact wpAny_bind (wpAny_isInstance (T := "StopIteration") (b:=true) ⟨o,ho,hc⟩ isSubtype_stop (wpAny_pure (q _ hk)))
theorem ZSt.upd {z TI TO i1 i2 l1 l2 S:Addr}{xs ys:Array Value}{i:Nat}{h h':Heap}{u:Obj} (st:ZSt z TI TO i1 i2 l1 l2 xs ys i h) (hS:S≠z/\S≠TO/\S≠i1/\S≠i2/\S≠TI/\S≠l1/\S≠l2) (hu:h'.get? S=some u) (k:∀ c o,c≠S->h.get? c=some o->h'.get? c=some o):ZSt z TI TO i1 i2 l1 l2 xs ys i h':=by
 obtain⟨⟨f0,b,hz,hf⟩,hTI,⟨a0,b0,hTO⟩,h1,h2,hl1,hl2⟩:=st
 obtain⟨s1,s2,s3,s4,s5,s6,s7⟩:=hS
 refine⟨⟨f0,b,k _ _ s1.symm hz,hf.imp id fun ⟨T,o,e,g⟩=>?_⟩,k _ _ s5.symm hTI,⟨a0,b0,k _ _ s2.symm hTO⟩,h1.at fun o e=>k _ o s3.symm e,h2.at fun o e=>k _ o s4.symm e,JM hl1 fun o e=>k _ o s6.symm e,JM hl2 fun o e=>k _ o s7.symm e⟩
 obtain⟨p,g'⟩:=zDC g hu k
 exact⟨T,p,e,g'⟩
structure ZLp (lo z TO i1 i2 S:Addr) (xs ys:List Value) (h0 h:Heap) (ps:List Addr):Prop where
 its:∀ (j:Nat) p,ps[j]? = some p->lo <= p/\∃ x y,xs[j]? = some x/\ys[j]? = some y/\IsPair h p x y
 keep:∀ b o,b≠S->b≠z->b≠TO->b≠i1->b≠i2->h0.get? b=some o->h.get? b=some o
 nd:ps.Nodup
theorem zPP {z TI TO i1 i2 l1 l2 S lo:Addr}{xs ys:List Value}{R:Result->Shared->Prop} (hh:A.handled=none) (h0:0 < xs.length) (hl:xs.length=ys.length) (hn:xs.length <= sizeLine) (D:ZipApart z TI TO i1 i2 l1 l2) (hS:S≠z/\S≠TO/\S≠i1/\S≠i2/\S≠TI/\S≠l1/\S≠l2) (res:Value) (hp0:Heap) (hlo:z < lo/\TO < lo/\i1 < lo/\i2 < lo/\S < lo) :
  ∀ (k i:Nat) (s:Shared) (ps:List Addr) (c:Nat),xs.length - i=k->i <= xs.length->lo <= s.heap.objs.size->ZSt z TI TO i1 i2 l1 l2 xs.toArray ys.toArray i s.heap->s.heap.get? S=some { cls:=.type "list",dict:=none,data:=.seq (ps.map Value.ref).toArray c,slots:=#[] } ->
   ps.length=i->ZLp lo z TO i1 i2 S xs ys hp0 s.heap ps ->
   (∀ (h':Heap) (ps':List Addr) (c':Nat),h'.get? S=some { cls:=.type "list",dict:=none,data:=.seq (ps'.map Value.ref).toArray c',slots:=#[] }->ps'.length=xs.length->ZLp lo z TO i1 i2 S xs ys hp0 h' ps'->R (.ok (.ret res)) { s with heap:=h' }) ->
   codeAny (model P w) A (.builtin "list.extend.loop" ⟨[.ref S,.ref z,res],[]⟩) R s:=by
 obtain⟨lz,lt,li1,li2,lS⟩:=hlo
 have ns:=hS
 obtain⟨s1,s2,s3,s4,s5,s6,s7⟩:=ns
 intro k
 induction k with
 | zero =>
  intro i s ps c hk hi hs st gS hps L q
  have e:i=xs.length:=by omega
  subst e
  obtain⟨f0,b,hz,hf⟩:=id st.zp
  obtain⟨T,o,rfl,ho⟩:=hf.resolve_left fun z=>by omega
  refine codeAny_builtin PySem.F.entry_extend_loop ?_
  rw[Around.under_plainId PySem.F.plain_extend_loop _]
  show wpAny (model P w) A.in1 (pyNext (.ref z) >>= _) _ _ s
  refine wpAny_bind (zQU hh D st hz ho (by simp) fun h' hk'=>wpAny_pure ?_)
  have np:∀ {p},lo <= p->p≠z/\p≠TO/\p≠i1/\p≠i2:=fun hp=>⟨Nat.ne_of_gt (Nat.lt_of_lt_of_le lz hp),Nat.ne_of_gt (Nat.lt_of_lt_of_le lt hp),Nat.ne_of_gt (Nat.lt_of_lt_of_le li1 hp),Nat.ne_of_gt (Nat.lt_of_lt_of_le li2 hp)⟩
  exact q h' ps c (hk' _ _ s1 s2 s3 s4 gS) hps ⟨fun j p e=>by
   obtain⟨hp,x,y,ex,ey,g⟩:=L.its j p e
   obtain⟨n1,n2,n3,n4⟩:=np hp
   exact⟨hp,x,y,ex,ey,hk' _ _ n1 n2 n3 n4 g⟩,fun b o n0 n1 n2 n3 n4 g=>hk' _ _ n1 n2 n3 n4 (L.keep b o n0 n1 n2 n3 n4 g),L.nd⟩
 | succ k ih =>
  intro i s ps c hk hi hs st gS hps L q
  have hlt:i < xs.length:=by omega
  refine codeAny_builtin PySem.F.entry_extend_loop ?_
  rw[Around.under_plainId PySem.F.plain_extend_loop _]
  show wpAny (model P w) A.in1 (pyNext (.ref z) >>= _) _ _ s
  have ex:xs.toArray[i]? = some xs[i]:=by simp[hlt]
  have ey:ys.toArray[i]? = some (ys[i]'(hl ▸ hlt)):=by simp[hl ▸ hlt]
  refine wpAny_bind (zO2 D st ex ey fun h' st' gp hk'=>?_)
  have gS':=hk' _ _ s1 s2 s3 s4 gS
  show wpAny (model P w) A.in1 (updateSeq S (·.push (.ref s.heap.objs.size)) >>= _) _ _ _
  refine wpAny_bind (wpAny_updateSeq gS' rfl (wpAny_pure ⟨plainId_quiet PySem.F.plain_extend_loop _,?_⟩) (by simp[hps];omega) (by simp[hps];omega))
  have oth:∀ b o,b≠S->h'.get? b=some o->(h'.update S (Obj.mapSeq (·.push (.ref s.heap.objs.size)))).get? b=some o:=fun b o hb e=>(Heap.get?_update_other _ _ (Ne.symm hb)).trans e
  have gS2:=Heap.get?_update_self (Obj.mapSeq (·.push (Value.ref s.heap.objs.size))) gS' rfl
  have ea:((ps++[s.heap.objs.size]).map Value.ref).toArray=(ps.map Value.ref).toArray.push (.ref s.heap.objs.size):=by simp
  obtain⟨c3,gS3⟩:∃ c3,(h'.update S (Obj.mapSeq (·.push (.ref s.heap.objs.size)))).get? S=some { cls:=.type "list",dict:=none,data:=.seq ((ps++[s.heap.objs.size]).map Value.ref).toArray c3,slots:=#[] }:=by
   rw[ea];exact⟨_,gS2⟩
  have np:∀ {p},lo <= p->p≠z/\p≠TO/\p≠i1/\p≠i2/\p≠S:=fun hp=>⟨Nat.ne_of_gt (Nat.lt_of_lt_of_le lz hp),Nat.ne_of_gt (Nat.lt_of_lt_of_le lt hp),Nat.ne_of_gt (Nat.lt_of_lt_of_le li1 hp),Nat.ne_of_gt (Nat.lt_of_lt_of_le li2 hp),Nat.ne_of_gt (Nat.lt_of_lt_of_le lS hp)⟩
  have nd2:(ps++[s.heap.objs.size]).Nodup:=by
   rw[List.nodup_append]
   refine⟨L.nd,by simp,fun a ha b hb=>?_⟩
   obtain⟨j,hj,e⟩:=List.mem_iff_getElem.mp ha
   obtain⟨_,x,y,_,_,g⟩:=L.its j a (by rw[List.getElem?_eq_getElem hj,e])
   rw[List.mem_singleton.mp hb]
   exact Nat.ne_of_lt (Heap.lt_size g)
  have zs:lo <= h'.objs.size:=Nat.le_of_lt (Nat.lt_of_le_of_lt hs (Heap.lt_size gp))
  refine ih (i+1) _ (ps++[s.heap.objs.size]) c3 (by omega) hlt ?_ (st'.upd hS gS2 oth) gS3 (by simp[hps]) ⟨fun j p e=>?_,fun b o n0 n1 n2 n3 n4 g=>oth _ _ n0 (hk' _ _ n1 n2 n3 n4 (L.keep b o n0 n1 n2 n3 n4 g)),nd2⟩ fun h2 ps2 c2 a1 a2 a3=>q h2 ps2 c2 a1 a2 a3
  ·show lo <= (h'.update S _).objs.size
   rw[Heap.size_update];exact zs
  ·by_cases hj:j < ps.length
   ·rw[List.getElem?_append_left hj] at e
    obtain⟨hp,x,y,ex,ey,g⟩:=L.its j p e
    obtain⟨n1,n2,n3,n4,n5⟩:=np hp
    exact⟨hp,x,y,ex,ey,oth _ _ n5 (hk' _ _ n1 n2 n3 n4 g)⟩
   ·rw[List.getElem?_append_right (by omega)] at e
    have hj2:j=i:=by
     have:=(List.getElem?_eq_some_iff.mp e).1
     simp at this
     omega
    subst hj2
    rw[hps,Nat.sub_self] at e
    have e':s.heap.objs.size=p:=by simpa using e
    subst e'
    obtain⟨n1,n2,n3,n4,n5⟩:=np hs
    exact⟨hs,_,_,by simpa using ex,by simpa using ey,oth _ _ n5 gp⟩
noncomputable abbrev zt1 (h:Heap) (a:Addr):Heap:=h.push { cls:=.type "tuple_iterator",data:=.fields #[.ref a,.int 0 0] }
noncomputable abbrev zt2 (h:Heap) (a b:Addr):Heap:=(zt1 h a).push { cls:=.type "tuple_iterator",data:=.fields #[.ref b,.int 0 0] }
noncomputable abbrev zt3 (h:Heap) (a b:Addr):Heap:=(zt2 h a b).push { cls:=.type "tuple",data:=.seq #[.ref h.objs.size,.ref (zt1 h a).objs.size] }
noncomputable abbrev zt4 (h:Heap) (a b:Addr):Heap:=(zt3 h a b).push { cls:=.type "tuple",data:=.seq #[.none,.none] }
noncomputable abbrev zt5 (h:Heap) (a b:Addr):Heap:=(zt4 h a b).push { cls:=.type "zip",data:=.fields #[.none,.bool false,.bool false,.ref (zt2 h a b).objs.size,.ref (zt3 h a b).objs.size] }
theorem zG0 (l1 l2:Addr) (xs ys:Array Value) :
  Meets (Builtin.«zip.__new__» ⟨[.type "zip",.ref l1,.ref l2],[]⟩) (fun _ R s=>s.heap.IsTuple l1 xs/\s.heap.IsTuple l2 ys/\R (.ok (.ret (.ref (zt4 s.heap l1 l2).objs.size))) { s with heap:=zt5 s.heap l1 l2 }) :=
 .of_wp fun prog w A R s h=>by
  obtain⟨hp,g,d,tk,os⟩:=s;obtain⟨t1,t2,h⟩:=h
  have hsub:=sub_zip
  have T1:Heap.IsTuple (Shared.heap ⟨hp,g,d,tk,os⟩) l1 xs:=t1
  have T2:Heap.IsTuple (Shared.heap ⟨hp.push { cls:=.type "tuple_iterator",data:=.fields #[.ref l1,.int 0 0] },g,d,tk,os⟩) l2 ys:=Heap.IsTuple.push t2 _
  wp_walk using wpAny_pyIter_tuple T1,wpAny_pyIter_tuple T2
  exact⟨_,rfl,h⟩
theorem zNw {l1 l2:Addr}{xs ys:Array Value}{Q:Value->Shared->Prop} (h1:s.heap.IsTuple l1 xs) (h2:s.heap.IsTuple l2 ys)
  (q:∀ h',ZSt (s.heap.objs.size+4) (s.heap.objs.size+2) (s.heap.objs.size+3) s.heap.objs.size (s.heap.objs.size+1) l1 l2 xs ys 0 h'->h'.objs.size=s.heap.objs.size+5->(∀ b o,s.heap.get? b=some o->h'.get? b=some o)->Q (.ref (s.heap.objs.size+4)) { s with heap:=h' }) :
  wpAny (model P w) A (call (.type "zip") [.ref l1,.ref l2]) Q E s:=by
 refine callType_new PySem.F.called_zip (by decide) (PySem.F.typeCall_zip_2 _ _) (PySem.F.newCall_zip_2 _ _) (fun obj=>PySem.F.args_object_init_3 obj _ _) PySem.F.entry_zip_new (zG0 l1 l2 xs ys) ⟨h1,h2,?_⟩
 have n1:(zt1 s.heap l1).objs.size=s.heap.objs.size+1:=Heap.size_push ..
 have n2:(zt2 s.heap l1 l2).objs.size=s.heap.objs.size+2:=by rw[Heap.size_push,n1]
 have n3:(zt3 s.heap l1 l2).objs.size=s.heap.objs.size+3:=by rw[Heap.size_push,n2]
 have n4:(zt4 s.heap l1 l2).objs.size=s.heap.objs.size+4:=by rw[Heap.size_push,n3]
 have n5:(zt5 s.heap l1 l2).objs.size=s.heap.objs.size+5:=by rw[Heap.size_push,n4]
 have up:∀ {h:Heap}{o p b},h.get? b=some o->(h.push p).get? b=some o:=fun e=>Heap.get?_push_of_some _ e
 have g5:(zt5 s.heap l1 l2).get? (zt4 s.heap l1 l2).objs.size=some _:=Heap.get?_push_size _ rfl
 have g4:(zt5 s.heap l1 l2).get? (zt3 s.heap l1 l2).objs.size=some _:=up (Heap.get?_push_size _ rfl)
 have g3:(zt5 s.heap l1 l2).get? (zt2 s.heap l1 l2).objs.size=some _:=up (up (Heap.get?_push_size _ rfl))
 have g2:(zt5 s.heap l1 l2).get? (zt1 s.heap l1).objs.size=some _:=up (up (up (Heap.get?_push_size _ rfl)))
 have g1:(zt5 s.heap l1 l2).get? s.heap.objs.size=some _:=up (up (up (up (Heap.get?_push_size _ rfl))))
 show _/\_
 rw[n2,n3,n4] at g5
 rw[n1,n2] at g3
 rw[n3] at g4
 rw[n1] at g2
 rw[n4]
 exact⟨⟨_,g5,rfl⟩,q _ ⟨⟨.none,false,g5,.inl ⟨rfl,rfl⟩⟩,g3,⟨_,_,g4⟩,⟨_,g1,rfl,rfl⟩,⟨_,g2,rfl,rfl⟩,JM h1 fun o e=>up (up (up (up (up e)))),JM h2 fun o e=>up (up (up (up (up e))))⟩ n5 fun b o e=>up (up (up (up (up e))))⟩
theorem zRq:bootBuiltins "zip" = some (.type "zip"):=by decide +kernel
theorem zHM:typeLookup (.type "zip") "__len__" = pure none:=by rw[typeLookup_type,builtinLookup_eq_fast];kernel_rfl
theorem zF1:typeLookup (.type "zip") "__length_hint__" = pure none:=by rw[typeLookup_type,builtinLookup_eq_fast];kernel_rfl
theorem ZSt.mono {z TI TO i1 i2 l1 l2:Addr}{xs ys:Array Value}{h h':Heap}{i:Nat} (st:ZSt z TI TO i1 i2 l1 l2 xs ys i h) (k:∀ c o,h.get? c=some o->h'.get? c=some o):ZSt z TI TO i1 i2 l1 l2 xs ys i h':=by
 obtain⟨⟨f0,b,hz,hf⟩,hTI,⟨a0,b0,hTO⟩,h1,h2,hl1,hl2⟩:=st
 exact⟨⟨f0,b,k _ _ hz,hf.imp id fun ⟨T,o,e,g⟩=>⟨T,o,e,k _ _ g⟩⟩,k _ _ hTI,⟨a0,b0,k _ _ hTO⟩,h1.at fun o e=>k _ o e,h2.at fun o e=>k _ o e,JM hl1 fun o e=>k _ o e,JM hl2 fun o e=>k _ o e⟩
theorem zPV {z TI TO:Addr}{f0:Value}{b:Bool}{Q:Value->Shared->Prop} (hz:zAj s.heap z TI TO f0 b) (h:Q (.ref z) s):wpAny (model P w) A (pyIter (.ref z)) Q E s:=by
 have hT:s.TypeIs (.ref z) "zip" := ⟨_,hz,rfl⟩
 refine wpAny_pyIter_slot hT PySem.F.slot_zip_iter (wpAny_call_entry PySem.F.slot_zip_iter hT PySem.F.entry_zip_iter ?_ (PySem.F.args_zip_iter_1 _))
 show wpAny (model P w) _ (ret (.ref z)) _ _ s
 exact wpAny_pure ⟨_,rfl,"zip",_,hT,PySem.F.slot_zip_next.lookup,h⟩
theorem zMZ {z TI TO i1 i2 l1 l2:Addr}{xs ys:List Value}{Q:Value->Shared->Prop} (hh:A.handled=none) (h0:0 < xs.length) (hl:xs.length=ys.length) (hn:xs.length <= sizeLine) (D:ZipApart z TI TO i1 i2 l1 l2) (st:ZSt z TI TO i1 i2 l1 l2 xs.toArray ys.toArray 0 s.heap)
  (q:∀ h' (ps:List Addr) c,h'.get? s.heap.objs.size=some { cls:=.type "list",dict:=none,data:=.seq (ps.map Value.ref).toArray c,slots:=#[] }->ps.length=xs.length->ZLp (s.heap.objs.size+1) z TO i1 i2 s.heap.objs.size xs ys s.heap h' ps->Q (.ref s.heap.objs.size) { s with heap:=h' }) :
  wpAny (model P w) A (call (.type "list") [.ref z]) Q E s:=by
 obtain⟨f0,b,hz,_⟩:=id st.zp
 have lt:∀ {c o},s.heap.get? c=some o->c < s.heap.objs.size:=fun e=>Heap.lt_size e
 obtain⟨oT,bT,gTO⟩:=id st.to
 obtain⟨o1,gi1,_⟩:=id st.n1
 obtain⟨o2,gi2,_⟩:=id st.n2
 obtain⟨o3,gl1,_⟩:=id st.t1
 obtain⟨o4,gl2,_⟩:=id st.t2
 have hS:s.heap.objs.size≠z/\s.heap.objs.size≠TO/\s.heap.objs.size≠i1/\s.heap.objs.size≠i2/\s.heap.objs.size≠TI/\s.heap.objs.size≠l1/\s.heap.objs.size≠l2 :=
  ⟨Nat.ne_of_gt (lt hz),Nat.ne_of_gt (lt gTO),Nat.ne_of_gt (lt gi1),Nat.ne_of_gt (lt gi2),Nat.ne_of_gt (lt st.ti),Nat.ne_of_gt (lt gl1),Nat.ne_of_gt (lt gl2)⟩
 refine callType_codes (Q₁:=fun obj s₁=>obj=.ref s.heap.objs.size/\s₁={ s with heap:=s.heap.push { cls:=.type "list",data:=.seq #[] } }) PySem.F.called_list (PySem.F.typeCall_list_1 _) PySem.F.entry_list_init (code_list_new _ ⟨rfl,rfl⟩) fun obj s₁ h₁=>?_
 obtain⟨rfl,rfl⟩:=h₁
 have g0:(s.heap.push { cls:=.type "list",data:=.seq #[] }).get? s.heap.objs.size=some { cls:=.type "list",data:=.seq #[] }:=Heap.get?_push_size _ rfl
 refine⟨⟨_,g0,rfl⟩,PySem.F.args_list_init_2 _ _,?_⟩
 show wpAny (model P w) _ (do let old <- Builtin.List.listItems (.ref s.heap.objs.size);Builtin.List.listUpdate (.ref s.heap.objs.size) (fun _=>#[]);letGo old.toList.reverse;Builtin.List.listExtendWith (.ref s.heap.objs.size) (.ref z) .none) _ _ _
 refine wpAny_bind ?_
 unfold Builtin.List.listItems
 refine wpAny_bind (wpAny_seqItems g0 rfl (wpAny_pure ?_))
 show wpAny (model P w) _ (updateSeq s.heap.objs.size (fun _=>#[]) >>= fun _=>letGo (#[]:Array Value).toList.reverse >>= fun _=>Builtin.List.listExtendWith (.ref s.heap.objs.size) (.ref z) .none) _ _ _
 refine wpAny_bind (wpAny_updateSeq g0 rfl ?_)
 have g1:=Heap.get?_update_self (Obj.mapSeq (fun _=>(#[]:Array Value))) g0 rfl
 have k1:∀ c o,s.heap.get? c=some o->((s.heap.push { cls:=.type "list",data:=.seq #[] }).update s.heap.objs.size (Obj.mapSeq (fun _=>(#[]:Array Value)))).get? c=some o :=
  fun c o e=>(Heap.get?_update_other _ _ (Nat.ne_of_gt (lt e))).trans (Heap.get?_push_of_some _ e)
 have z1:((s.heap.push { cls:=.type "list",data:=.seq #[] }).update s.heap.objs.size (Obj.mapSeq (fun _=>(#[]:Array Value)))).objs.size=s.heap.objs.size+1:=by rw[Heap.size_update,Heap.size_push]
 generalize (s.heap.push { cls:=.type "list",data:=.seq #[] }).update s.heap.objs.size (Obj.mapSeq (fun _=>(#[]:Array Value)))=g at *
 refine wpAny_bind (wpAny_letGo ?_)
 have st1:=st.mono k1
 have hz1:=k1 _ _ hz
 have hT:Shared.TypeIs { s with heap:=g } (.ref z) "zip" := ⟨_,hz1,rfl⟩
 have fin:∀ (R:Result->Shared->Prop) (h:Heap) (c:Nat),h.objs.size=s.heap.objs.size+1->(∀ c o,s.heap.get? c=some o->h.get? c=some o)->h.get? s.heap.objs.size=some { cls:=.type "list",dict:=none,data:=.seq #[] c,slots:=#[] } ->
   (∀ h',Q (.ref s.heap.objs.size) { s with heap:=h' }->R (.ok (.ret .none)) { s with heap:=h' })->codeAny (model P w) A.in1 (.builtin "list.extend.loop" ⟨[.ref s.heap.objs.size,.ref z,.none],[]⟩) R { s with heap:=h }:=fun R h c hsz hk gS hR=>by
  refine zPP (A:=A.in1) (lo:=s.heap.objs.size+1) (P:=P) (w:=w) hh h0 hl hn D hS .none s.heap ⟨Nat.lt_succ_of_lt (lt hz),Nat.lt_succ_of_lt (lt gTO),Nat.lt_succ_of_lt (lt gi1),Nat.lt_succ_of_lt (lt gi2),Nat.lt_succ_self _⟩ xs.length 0 { s with heap:=h } [] c (by omega) (Nat.zero_le _) (Nat.le_of_eq hsz.symm) (st.mono hk) gS rfl ⟨fun j p e=>by simp at e,fun b o _ _ _ _ _ e=>hk b o e,List.nodup_nil⟩ fun h' ps' c' a1 a2 a3=>?_
  exact hR h' (q h' ps' c' a1 a2 a3)
 unfold Builtin.List.listExtendWith
 refine wpAny_bind (wpAny_typeOf hT ?_)
 have f1:Builtin.List.listSameRef (.ref s.heap.objs.size) (.ref z)=false:=by simp[Builtin.List.listSameRef,hS.1]
 have f2:(Value.type "zip" == Value.type "list")=false:=by decide
 have f3:(Value.type "zip" == Value.type "tuple")=false:=by decide
 simp only[f1,f2,f3,Bool.or_false,Bool.false_eq_true,if_false]
 refine wpAny_bind (zPV hz1 ?_)
 refine wpAny_bind (wpAny_holding ?_)
 unfold Builtin.List.listLengthHint
 refine wpAny_bind (wpAny_specialOf hT zHM ?_)
 show wpAny (model P w) _ (specialOf (Value.ref z) (Str.ofString "__length_hint__") >>= _) _ _ _
 refine wpAny_bind (wpAny_specialOf hT zF1 ?_)
 refine wpAny_pure ?_
 show wpAny (model P w) _ (rule "list.extend.makes-room" >>= fun _=>Builtin.List.listTouch (.ref s.heap.objs.size) >>= fun _=>again (.builtin "list.extend.loop" ⟨[.ref s.heap.objs.size,.ref z,.none],[]⟩)) _ _ _
 refine wpAny_bind (wpAny_rule ?_)
 refine wpAny_bind ?_
 show wpAny (model P w) _ (updateSeq s.heap.objs.size (·.push .none) >>= fun _=>updateSeq s.heap.objs.size (·.pop)) _ _ _
 refine wpAny_bind (wpAny_updateSeq g1 rfl ?_)
 have g2:=Heap.get?_update_self (Obj.mapSeq (·.push Value.none)) g1 rfl
 refine wpAny_updateSeq (hz:=by seq_fits) g2 rfl ?_
 have g3:=Heap.get?_update_self (Obj.mapSeq (·.pop)) g2 rfl
 refine wpAny_pure ⟨plainId_quiet PySem.F.plain_extend_loop _,fin _ _ _ ?_ (fun c o e=>?_) g3 fun h' hq=>⟨rfl,hq⟩⟩
 ·rw[Heap.size_update,Heap.size_update];exact z1
 ·have n:s.heap.objs.size≠c:=Nat.ne_of_gt (lt e)
  exact (Heap.get?_update_other _ _ n).trans ((Heap.get?_update_other _ _ n).trans (k1 c o e))
end
end L2
namespace L2
open PySem PySem.Spec PyProof.Rows
inductive zE8:Hp->List (V×V)->List V->Hp->Prop
 | nil (H:Hp):zE8 H [] [] H
 | cons {H H':Hp}{a:Addr}{x y:V}{r:List (V×V)}{zs:List V} (h:H a=none) (t:zE8 (upd H a (.tup [x,y])) r zs H'):zE8 H ((x,y)::r) (.ref a::zs) H'
theorem zE8.le {H H':Hp}{r:List (V×V)}{zs:List V} (h:zE8 H r zs H'):Le H H':=by
 induction h with
 | nil=>exact Le.refl _
 | cons h t ih=>exact (Le.new h _).trans ih
noncomputable def zTh (K:PySem.W.Frag):List V->Hp->VK->Prop:=fun vs H Q=>∃ p q xs ys,vs=[.ref p,.ref q]/\SqT K H p xs/\SqT K H q ys/\0 < xs.length/\xs.length=ys.length/\∀ H2 zs l,zE8 H (xs.zip ys) zs H2->H2 l=none->Q (.ref l) (upd H2 l (.lst zs))
theorem zQh {X:Cx}{pins:List (Addr×Obj)}{σ:St}{s:Shared}{lo:Nat} (hb:X.s₀.heap.objs.size <= lo) (hL:X.env.locals < lo) (hcl:∀ x c,X.env.cells.lookup x=some c->c < lo) (hpn:∀ p∈X.pn++pins,p.1 < lo) :
  ∀ (r:List (V×V)) (us:List (Value×Value)) (ps:List Addr) (H:Hp),Inv X pins σ H s->Paired (fun (a:V×V) (b:Value×Value)=>zv a.1 b.1/\zv a.2 b.2) r us->ps.length=us.length->(∀ (j:Nat) p,ps[j]? = some p->lo <= p/\∃ u v,us[j]? = some (u,v)/\IsPair s.heap p u v)->ps.Nodup->(∀ p∈ps,H p=none) ->
   ∃ H',Inv X pins σ H' s/\zE8 H r (ps.map V.ref) H'/\∀ a,a∉ps->H' a=H a:=by
 intro r us ps H I pr
 induction pr generalizing ps H with
 | nil =>
  intro hl _ _ _
  have:ps=[]:=List.length_eq_zero_iff.mp hl
  subst this
  exact⟨H,I,.nil H,fun _ _=>rfl⟩
 | @cons a b r us hr t ih =>
  intro hl hp nd hn
  cases ps with
  | nil=>simp at hl
  | cons p ps =>
   obtain⟨x,y⟩:=a
   obtain⟨u,v⟩:=b
   rw[List.nodup_cons] at nd
   obtain⟨lp,u',v',e,g⟩:=hp 0 p rfl
   cases e
   have o2:qS X.prog X.w (upd H p (.tup [x,y])) s.heap p (.tup [x,y]):=⟨show 2 <= sizeLine by decide,[u,v],.cons hr.1 (.cons hr.2 .nil),⟨_,g,rfl,_,rfl⟩⟩
   have I2:Inv X pins σ (upd H p (.tup [x,y])) s:=I.track (Nat.le_trans hb lp) (hn p List.mem_cons_self) (Nat.ne_of_gt (Nat.lt_of_lt_of_le hL lp)) (fun x c e=>Nat.ne_of_lt (Nat.lt_of_lt_of_le (hcl x c e) lp)) (fun q hq=>Nat.ne_of_lt (Nat.lt_of_lt_of_le (hpn q hq) lp)) o2
   obtain⟨H',I3,L,k⟩:=ih ps _ I2 (by simpa using hl) (fun j q e=>hp (j+1) q (by simpa using e)) nd.2 fun q hq=>by
    have hne:q≠p:=fun z=>nd.1 (z ▸ hq)
    rw[jZ hne]
    exact hn q (List.mem_cons_of_mem _ hq)
   refine⟨H',I3,.cons (hn p List.mem_cons_self) L,fun a ha=>?_⟩
   rw[List.mem_cons,not_or] at ha
   rw[k a ha.2,jZ ha.1]
theorem zKr:∀ {xs ys:List V}{us vs:List Value},ze xs us->ze ys vs->Paired (fun (a:V×V) (b:Value×Value)=>zv a.1 b.1/\zv a.2 b.2) (xs.zip ys) (us.zip vs)
 | _,_,_,_,.nil,_=>.nil
 | _::_,_,_::_,_,.cons _ _,.nil=>.nil
 | _::_,_::_,_::_,_::_,.cons h t,.cons h' t'=>.cons ⟨h,h'⟩ (zKr t t')
section
variable {X:Cx}{Θ:Tab}{xl xz:Str}{pl pz pos pos2:Pos}{a b:Expr}{t:TA}{k:Nat}
theorem zMM (hr:jY k X.A) (hgl:Gl X xl) (hml:X.mg xl=none) (hvl:bootBuiltins xl=some (.type "list")) (hgz:Gl X xz) (hmz:X.mg xz=none) (hvz:bootBuiltins xz=some (.type "zip")) (ha:PA X [a,b] t)
  (hnl:xl ≠ "__name__" := by decide) (hdl:(xl == ("__debug__" : Str))=false:=by decide) (hnz:xz ≠ "__name__" := by decide) (hdz:(xz == ("__debug__" : Str))=false:=by decide) (hsa:jG a=true:=by rfl) (hsb:jG b=true:=by rfl) :
  PE X (.Call (.Name xl pl) [.Call (.Name xz pz) [a,b] [] pos2] [] pos) (tCB (zTh X.K) t):=by
 intro pins s σ H Q I h
 refine wpAny_Call_Name_kw (zAs I hgl hml hvl ?_ hnl hdl)
 refine PyProof.Rows.callWith_type1 ?_ (jp rfl) rfl
 rw[jp (e:=.Call (.Name xz pz) [a,b] [] pos2) (es:=[]) rfl]
 refine Calls.spliced_cons ?_
 refine wpAny_Call_Name_kw (zAs I hgz hmz hvz ?_ hnz hdz)
 refine PyProof.Rows.callWith_type1 (thn (ha pos2 pins s σ H _ I h) fun us s1 ⟨vs,H1,I1,r1,q1⟩=>?_) (jp hsa) (QZ (by simp[hsb]))
 obtain⟨p,q,xs,ys,rfl,hp,hq,h0,hl,qf⟩:=q1
 obtain⟨u1,u2,rfl,e1,e2⟩:∃ u1 u2,us=[u1,u2]/\u1=.ref p/\u2=.ref q:=by
  cases r1 with
  | cons c1 t1 =>
   cases t1 with
   | cons c2 t2=>cases t2;exact⟨_,_,rfl,c1,c2⟩
 subst e1 e2
 obtain⟨itx,rx,⟨ox,gx,cx,nx,dx⟩,zx⟩:=I1.tuple hp
 obtain⟨ity,ry,⟨oy,gy,cy,ny,dy⟩,zy⟩:=I1.tuple hq
 have lp:p < s1.heap.objs.size:=Heap.lt_size gx
 have lq:q < s1.heap.objs.size:=Heap.lt_size gy
 refine zNw (xs:=itx.toArray) (ys:=ity.toArray) ⟨ox,gx,cx,nx,dx⟩ ⟨oy,gy,cy,ny,dy⟩ fun h1 st sz kk=>?_
 refine Calls.spliced_nil ?_
 have ex:=rx.length
 have ey:=ry.length
 refine zMZ (A:=X.A) hr.hd (by omega) (by omega) (by omega) (PySem.W.ktu_apart _ _ _ lp lq) st fun h2 ps c gS hps L=>?_
 have sz':Shared.heap { s1 with heap:=h1 }=h1:=rfl
 rw[sz'] at gS L
 have keep:∀ b o,s1.heap.get? b=some o->h2.get? b=some o:=fun b o e=>by
  have hb:=Heap.lt_size e
  have ne:∀ {n:Nat},s1.heap.objs.size <= n->b≠n:=fun h=>Nat.ne_of_lt (Nat.lt_of_lt_of_le hb h)
  exact L.keep b o (ne (by omega)) (ne (by omega)) (ne (by omega)) (ne (Nat.le_refl _)) (ne (by omega)) (kk b o e)
 have I2:Inv X pins σ H1 { s1 with heap:=h2 }:=I1.kept (t':=s1.toks) keep
 have hpt:∀ (j:Nat) p,ps[j]? = some p->s1.heap.objs.size <= p/\∃ u v,(itx.zip ity)[j]? = some (u,v)/\IsPair h2 p u v:=fun j p e=>by
  obtain⟨l,u,v,e1,e2,g⟩:=L.its j p e
  exact⟨Nat.le_trans (show s1.heap.objs.size <= h1.objs.size+1 by omega) l,u,v,by rw[List.getElem?_zip_eq_some];exact⟨e1,e2⟩,g⟩
 obtain⟨H2,I3,Ly,nk⟩:=zQh (s:={ s1 with heap:=h2 }) (lo:=s1.heap.objs.size) I1.sz I1.lt (fun x c e=>by obtain⟨v,hv⟩:=I1.cell x c e;exact hv.lt) (fun p hp=>Heap.lt_size (I1.pin p hp).1) _ _ ps H1 I2 (zKr rx ry) (by rw[List.length_zip];omega) hpt L.nd fun p hp=>by
  obtain⟨j,hj,e⟩:=List.mem_iff_getElem.mp hp
  exact I1.hok.fresh (hpt j p (by rw[List.getElem?_eq_getElem hj,e])).1
 have le1:s1.heap.objs.size <= h1.objs.size:=by omega
 have hnp:h1.objs.size∉ps:=fun hm=>by
  obtain⟨j,hj,e⟩:=List.mem_iff_getElem.mp hm
  exact absurd (L.its j _ (by rw[List.getElem?_eq_getElem hj,e])).1 (Nat.not_succ_le_self _)
 have hn2:H2 h1.objs.size=none:=by rw[nk _ hnp];exact I1.hok.fresh (by omega)
 have vr:∀ ps:List Addr,ze (ps.map V.ref) (ps.map Value.ref):=fun ps=>by
  induction ps with
  | nil=>exact .nil
  | cons p ps ih=>exact .cons rfl ih
 have o2:qS X.prog X.w (upd H2 h1.objs.size (.lst (ps.map V.ref))) h2 h1.objs.size (.lst (ps.map V.ref)):=⟨by rw[List.length_map];omega,ps.map Value.ref,c,vr ps,gS⟩
 have I4:Inv X pins σ (upd H2 h1.objs.size (.lst (ps.map V.ref))) { s1 with heap:=h2 }:=I3.track (Nat.le_trans I1.sz le1) hn2 (Nat.ne_of_gt (Nat.lt_of_lt_of_le I1.lt le1)) (fun x c e=>by obtain⟨v,hv⟩:=I1.cell x c e;exact Nat.ne_of_lt (Nat.lt_of_lt_of_le hv.lt le1)) (fun p hp=>Nat.ne_of_lt (Nat.lt_of_lt_of_le (Heap.lt_size (I1.pin p hp).1) le1)) o2
 exact⟨.ref h1.objs.size,_,I4,rfl,qf H2 _ _ Ly hn2⟩
theorem zO0 {K:PySem.W.Frag}{ρ:List Addr}{S:M.S}:∀ {ds es:List M.D}{xs ys:List V}{H H2:Hp}{zs:List V},zE8 H (xs.zip ys) zs H2->zf K Θ ρ S H->zT K ρ H ds xs->zT K ρ H es ys->zf K Θ ρ S H2/\zT K ρ H2 (M.zDt ds es) zs:=by
 intro ds
 induction ds with
 | nil =>
  intro es xs ys H H2 zs L rp r1 r2
  cases r1
  cases L
  exact⟨rp,rfl⟩
 | cons d ds ih =>
  intro es xs ys H H2 zs L rp r1 r2
  obtain⟨x,xs',rfl,rx,r1⟩:=r1
  cases es with
  | nil=>cases r2;cases L;exact⟨rp,rfl⟩
  | cons e es =>
   obtain⟨y,ys',rfl,ry,r2⟩:=r2
   cases L with
   | @cons H H' a x y r zs h t =>
    have le:=Le.new h (.tup [x,y])
    obtain⟨rp2,r3⟩:=ih t (rp.aside h _) (r1.mono (List.prefix_refl _) le) (r2.mono (List.prefix_refl _) le)
    have rd:zS K ρ (upd H a (.tup [x,y])) (.tup [d,e]) (.ref a):=⟨a,[x,y],rfl,SqT.of qA,⟨x,[y],rfl,rx.mono (List.prefix_refl _) le,⟨y,[],rfl,ry.mono (List.prefix_refl _) le,rfl⟩⟩⟩
    exact⟨rp2,⟨_,_,rfl,rd.mono (List.prefix_refl _) t.le,r3⟩⟩
end
noncomputable def zPs:List V->Hp->VK->Prop:=fun xs H Q=>∃ i,xs=[.int i]/\i.natAbs.log2 < 1920/\Q (.str (toString i)) H
theorem zJE {X:Cx}:qj X (.type "str") zPs:=zKf
theorem zMR (i:Int):(Str.ofString (toString i))=ofT (M.zAg i):=by
 rw[Str.ofString_eq_toList];rfl
theorem zMY (i:Int):okT (M.zAg i):=List.all_eq_true.mpr fun c hc=>by
 obtain⟨d,_,rfl⟩:=List.mem_map.mp hc
 have:=d.valid
 rw[decide_eq_true_iff]
 rcases this with h | h
 ·exact Nat.lt_trans h (by decide)
 ·exact h.2
theorem zNb {K:PySem.W.Frag}{Θ:Tab}:AdN K Θ M.zMQ zPs:=by
 intro ρ H S xs Xs Q rp rxs h
 unfold M.zMQ at h
 split at h
 ·rename_i i
  obtain⟨Y,r,rfl,ry,rfl⟩:=rxs
  cases ry
  by_cases hc:M.yS i=true
  ·rw[if_pos hc] at h
   unfold M.yS at hc
   rw[decide_eq_true_iff] at hc
   refine⟨i,rfl,?_,?_⟩
   ·by_cases hz:i.natAbs=0
    ·rw[hz];decide
    ·exact Nat.lt_trans ((Nat.log2_lt hz).mpr (show i.natAbs < 2 ^ 64 from hc)) (by decide)
   ·show Q (.str (Str.ofString (toString i))) H
    rw[zMR]
    exact zI.here h rp ⟨rfl,zMY i⟩
  ·rw[if_neg hc] at h
   exact h.elim
 ·exact h.elim
end L2
namespace L2
open PySem PySem.Spec PyProof.Rows
section
variable {K:PySem.W.Frag}{Θ:Tab}
theorem zOh:Ad2 K Θ M.zJn (fun x y H Q=>match x,y with | .int i,.int j=>Q (.int (i+j)) H | .str a,.str b=>a.length+b.length <= sizeLine/\Q (.str (a++b)) H | _,_=>False):=by
 intro ρ H S x y X Y Q rp rx ry h
 cases x with
 | int i =>
  cases y with
  | int j=>cases rx;cases ry;exact zI.here (b:=V.int (i+j)) h rp rfl
  | _=>exact h.elim
 | str a =>
  cases y with
  | str b =>
   obtain⟨rfl,oa⟩:=rx
   obtain⟨rfl,ob⟩:=ry
   have h':zI K Θ (zS K) ρ H (if a.length+b.length <= M.SZ then M.R.ok (M.D.str (a++b)) S else .no) Q:=h
   by_cases hc:a.length+b.length <= M.SZ
   ·rw[if_pos hc] at h'
    refine⟨by rw[qC,qC,<- JC];exact hc,?_⟩
    rw[zLq]
    exact zI.here h' rp ⟨rfl,zFd oa ob⟩
   ·rw[if_neg hc] at h';exact h'.elim
  | _=>exact h.elim
 | _=>exact h.elim
noncomputable def zPr (K:PySem.W.Frag):List V->Hp->VK->Prop:=fun xs H Q=>∃ p ys,xs=[.ref p]/\((SqL K H p ys/\∀ l,H l=none->Q (.ref l) (upd H l (.tup ys)))\/(SqT K H p ys/\Q (.ref p) H))
theorem zFw {X:Cx}:qj X (.type "tuple") (zPr X.K):=zJM
theorem zKv:AdN K Θ M.Qk (zPr K):=by
 intro ρ H S xs Xs Q rp rxs h
 unfold M.Qk at h
 split at h
 ·rename_i ds
  obtain⟨Y,r,rfl,ry,rfl⟩:=rxs
  obtain⟨a,zs,rfl,hq,rz⟩:=id ry
  exact⟨a,zs,rfl,.inr ⟨hq,zI.here h rp ry⟩⟩
 ·rename_i p
  obtain⟨Y,r,rfl,ry,rfl⟩:=rxs
  split at h
  ·rename_i ds e
   have e':S[p]? = some (.lst ds):=by
    unfold M.jW at e
    split at e
    ·rename_i ds' e1;cases e;exact e1
    ·cases e
   obtain⟨a,zs,rfl,ha,hx,rz⟩:=zBJ rp ry e'
   exact⟨a,zs,rfl,.inl ⟨SqL.of hx,fun l hl=>h ρ _ _ (List.prefix_refl _) (Le.new hl _) (rp.aside hl _) ⟨l,zs,rfl,.inl (.inl qA),rz.mono (List.prefix_refl _) (Le.new hl _)⟩⟩⟩
  ·exact h.elim
 ·exact h.elim
end
end L2
namespace L2
open PySem PySem.Spec PyProof.Rows
structure zAC (K:PySem.W.Frag) (Θ:Tab) (c:Nat) (C:Addr) (N:List Str):Prop where
 tab:Θ c=some (C,N)
 cl:Cls K C
 no:∀ f∈N,zBd K C f
 few:N.length < 999
 nd:N.Nodup
theorem zA7 {α:Type}{Pr:α->Prop}{a:α}{l:List α} (h:Pr a) (k:∀ x∈l,Pr x):∀ x∈a::l,Pr x:=fun x hx=>(List.mem_cons.mp hx).elim (fun e=>by rw[e];exact h) (k x)
theorem zM1 {X:Cx}{Θ:Tab}{st:Stmt}:MS X Θ st M.zAJ:=zOZ
theorem zBb {X:Cx}{Θ:Tab}{st:Stmt}:WS X Θ st M.zAJ:=by with_unfolding_all exact zM1 (X:=X) (Θ:=Θ) (st:=st)
structure zBK (P:Program) (w:World) (K:PySem.W.Frag) (mg:Str->Option Value) (base:Heap) (C:Addr) (m:Str) (k:Nat) (ps:List Str) (sp:Sp):Prop where
 ex:∃ f fd,jX P w K mg base CX0 k f fd ps sp/\zAQ K fd ps []/\zMt K C m f
structure zPa (P:Program) (w:World) (K:PySem.W.Frag) (mg:Str->Option Value) (base:Heap) (C:Addr) (x:Str) (k:Nat) (ps:List Str) (sp:Sp):Prop where
 ex:∃ f fd,jX P w K mg base CX0 k f fd ps sp/\zAQ K fd ps []/\Mk K C f/\mg x=some (.ref C)
theorem zI4 {α:Type} [DecidableEq α]:∀ {l N:List α},l.Nodup->(∀ x∈l,x∈N)->l.length <= N.length
 | [],_,_,_=>Nat.zero_le _
 | a::l,N,h,k=>by
  have ha:=k a List.mem_cons_self
  have hn:=List.nodup_cons.mp h
  have h1:l.length <= (N.erase a).length:=zI4 hn.2 fun x hx=>(List.mem_erase_of_ne (show x≠a from fun e=>hn.1 (by rw[<- e];exact hx))).mpr (k x (List.mem_cons_of_mem _ hx))
  rw[List.length_erase_of_mem ha] at h1
  have h2:=List.length_pos_of_mem ha
  rw[List.length_cons]
  omega
theorem zGm (f:Str) (v:V):∀ fs:List (Str×V),∀ g,g∈(ZG f v fs).map (·.1)->g=f\/g∈fs.map (·.1)
 | [],g,h=>by
  have h':g∈[f]:=h
  exact .inl (by simpa using h')
 | (k,x)::r,g,h=>by
  rw[show ZG f v ((k,x)::r)=(if k=f then (k,v)::r else (k,x)::ZG f v r) from rfl] at h
  by_cases hk:k=f
  ·rw[if_pos hk] at h
   exact .inr h
  ·rw[if_neg hk,List.map_cons] at h
   rcases List.mem_cons.mp h with e | h
   ·exact .inr (by rw[e];simp)
   ·rcases zGm f v r g h with e | e
    ·exact .inl e
    ·exact .inr (List.mem_cons_of_mem _ e)
theorem zNm (f:Str) (v:V):∀ fs:List (Str×V),(fs.map (·.1)).Nodup->((ZG f v fs).map (·.1)).Nodup
 | [],_=>by show [f].Nodup;simp
 | (k,x)::r,h=>by
  rw[List.map_cons,List.nodup_cons] at h
  rw[show ZG f v ((k,x)::r)=(if k=f then (k,v)::r else (k,x)::ZG f v r) from rfl]
  by_cases hk:k=f
  ·rw[if_pos hk,List.map_cons,List.nodup_cons];exact h
  ·rw[if_neg hk,List.map_cons,List.nodup_cons]
   refine⟨fun m=>?_,zNm f v r h.2⟩
   rcases zGm f v r k m with e | e
   ·exact hk e
   ·exact h.1 e
theorem zGu {f:Str}:∀ {gs:List (Str×V)},f∉gs.map (·.1)->gs.lookup f=none
 | [],_=>rfl
 | (g,x)::r,h=>by
  rw[List.map_cons,List.mem_cons,not_or] at h
  have hb:(f == g)=false:=beq_eq_false_iff_ne.mpr h.1
  rw[List.lookup_cons,hb]
  exact zGu h.2
section
variable {K:PySem.W.Frag}{Θ:Tab}{ρ:List Addr}{H:Hp}
theorem zEz.few {N:List Str}{fs:List (Option M.D)}{gs:List (Str×V)} (r:zEz K ρ H N fs gs):gs.length <= N.length:=by
 have:=zI4 r.nd r.within
 rwa [List.length_map] at this
theorem zEz.put {H':Hp}{N:List Str}{fs:List (Option M.D)}{gs:List (Str×V)}{i:Nat}{f:Str}{d:M.D}{v:V} (r:zEz K ρ H N fs gs) (hN:N.Nodup) (hi:N[i]? = some f) (le:Le H H') (rv:zS K ρ H' d v):zEz K ρ H' N (fs.set i (some d)) (ZG f v gs):=by
 refine⟨by rw[List.length_set];exact r.len,zNm f v gs r.nd,fun g hg=>?_,fun j g e hj he=>?_⟩
 ·rcases zGm f v gs g hg with z | z
  ·rw[z];exact List.mem_of_getElem? hi
  ·exact r.within g z
 ·rw[zDP]
  by_cases hij:i=j
  ·subst hij
   rw[hi] at hj;cases hj
   rw[if_pos rfl]
   have hl:i < fs.length:=by rw[r.len];exact (List.getElem?_eq_some_iff.mp hi).1
   rw[List.getElem?_set_self hl] at he
   cases he
   exact⟨v,rfl,rv⟩
  ·rw[List.getElem?_set_ne hij] at he
   have hne:¬ g=f:=fun z=>hij (zDs hN (by rw[hi]) (by rw[hj,z]))
   rw[if_neg hne]
   obtain⟨u,e1,e2⟩:=r.get j g e hj he
   exact⟨u,e1,e2.mono (List.prefix_refl _) le⟩
theorem zG6 {S:M.S}{p c:Nat}{a C:Addr}{N:List Str}{fs:List (Option M.D)} (cm:zAC K Θ c C N) (rp:zf K Θ ρ S H) (ha:ρ[p]? = some a) (e:S[p]? = some (.ins c fs)):∃ dx gs,H a=some (.ins C dx gs)/\zEz K ρ H N fs gs:=by
 obtain⟨b,hb,C',dx,gs,N',h1,h2,h3⟩:=rp.obj p _ e
 rw[ha] at hb;cases hb
 rw[cm.tab] at h2;cases h2
 exact⟨dx,gs,h1,h3⟩
theorem zLx {a C dx:Addr}{gs:List (Str×V)} (h:H a=some (.ins C dx gs)):Mut (H a):=by rw[h];trivial
theorem zKA {S:M.S}{c i:Nat}{C:Addr}{N:List Str}{f:Str}{x:M.D}{X1:V}{Q:VK} (cm:zAC K Θ c C N) (hi:N[i]? = some f) (rp:zf K Θ ρ S H) (rx:zS K ρ H x X1) (h:zI K Θ (zS K) ρ H (M.zFA c i x S) Q) :
  ∃ a dx fs v,X1=.ref a/\H a=some (.ins C dx fs)/\fs.lookup f=some v/\Q v H:=by
 unfold M.zFA at h
 split at h
 ·rename_i p
  split at h
  ·rename_i c' fs e
   split at h
   ·rename_i hc
    subst hc
    split at h
    ·rename_i d ed
     obtain⟨a,rfl,ha⟩:=rx
     obtain⟨dx,gs,h1,h3⟩:=zG6 cm rp ha e
     obtain⟨v,e1,rv⟩:=h3.get i f d hi ed
     exact⟨a,dx,gs,v,rfl,h1,e1,zI.here h rp rv⟩
    ·exact h.elim
   ·exact h.elim
  ·exact h.elim
 ·exact h.elim
theorem zSD {X:Cx}{c i:Nat}{C:Addr}{N:List Str}{f:Str}{e:Expr}{m:M.EM}{pos:Pos} (cm:zAC X.K Θ c C N) (hi:N[i]? = some f) (he:ME X Θ e m) (hb:attributeBase e f X.env (eval e X.env)=eval e X.env:=by rfl):ME X Θ (.Attribute e f pos) (M.ya c i m) :=
 (zSm he hb).imp fun σ H Q ⟨ρ,σ',S,st,rp,h⟩=>⟨ρ,σ',S,st,rp,zI.bind h fun ρ1 H1 x X1 S1 p1 l1 rp1 rx h1=>by
  obtain⟨a,dx,fs,v,e1,e2,e3,q⟩:=zKA cm hi rp1 rx h1
  exact⟨a,C,dx,fs,v,e1,e2,cm.cl,cm.no f (List.mem_of_getElem? hi),e3,q⟩⟩
theorem qK {X:Cx}{c i:Nat}{C:Addr}{N:List Str}{f:Str}{e:Expr}{m:M.EM}{pos:Pos} (cm:zAC X.K Θ c C N) (hi:N[i]? = some f) (he:WE X Θ e m) (hb:attributeBase e f X.env (eval e X.env)=eval e X.env:=by rfl):WE X Θ (.Attribute e f pos) (M.ya c i m):=by with_unfolding_all exact zSD (X:=X) (c:=c) (i:=i) (C:=C) (N:=N) (f:=f) (e:=e) (m:=m) (pos:=pos) cm hi he hb
theorem zKF {S:M.S}{c i:Nat}{C:Addr}{N:List Str}{f:Str}{x y:M.D}{X1 Y:V}{σ1:M.St}{σ:St}{D:zEH} (cm:zAC K Θ c C N) (hi:N[i]? = some f) (rp:zf K Θ ρ S H) (st:j4 K ρ H σ1 σ) (rx:zS K ρ H x X1) (ry:zS K ρ H y Y) (h:jR K Θ ρ H ((M.zCL c i x y S).stm σ1 fun _ s=>.nx σ1 s) D) :
  ∃ a dx fs,X1=.ref a/\H a=some (.ins C dx fs)/\fs.length < 1000/\D.nx σ (upd H a (.ins C dx (ZG f Y fs))):=by
 unfold M.zCL at h
 split at h
 ·rename_i p
  split at h
  ·rename_i c' fs e
   split at h
   ·rename_i hc
    subst hc
    obtain⟨a,rfl,ha⟩:=rx
    obtain⟨dx,gs,h1,h3⟩:=zG6 cm rp ha e
    have le:=Le.put (zLx h1) (.ins C dx (ZG f Y gs))
    refine⟨a,dx,gs,rfl,h1,by have:=h3.few;have:=cm.few;omega,?_⟩
    exact h ρ _ σ (List.prefix_refl _) le (rp.put ha (zLx h1) ⟨C,dx,_,N,qA,cm.tab,h3.put cm.nd hi le (ry.mono (List.prefix_refl _) le)⟩) (st.mono (List.prefix_refl _) le)
   ·exact h.elim
  ·exact h.elim
 ·exact h.elim
theorem zRw {X:Cx}{c i:Nat}{C:Addr}{N:List Str}{f:Str}{o e:Expr}{mo m:M.EM}{pos pos':Pos} (cm:zAC X.K Θ c C N) (hi:N[i]? = some f) (ho:ME X Θ o mo) (he:ME X Θ e m) (hs:swapsWith e (some (.Attribute o f pos')) pos.line X.env=pure false:=by kernel_rfl):MS X Θ (.Assign [.Attribute o f pos'] e pos) (M.zBN c i mo m) :=
 (zRa ho he hs).imp fun D σ H ⟨ρ,σ',S,st,rp,h⟩=>⟨ρ,σ',S,st,rp,jR.stm h fun ρ1 H1 y Y S1 p1 l1 rp1 ry h1=>⟨ρ1,σ',S1,st.mono p1 l1,rp1,jR.stm h1 fun ρ2 H2 x X1 S2 p2 l2 rp2 rx h2=>by
  obtain⟨a,dx,fs,e1,e2,e3,q⟩:=zKF cm hi rp2 (st.mono (p1.trans p2) (l1.trans l2)) rx (ry.mono p2 l2) h2
  exact⟨a,C,dx,fs,e1,e2,cm.cl,cm.no f (List.mem_of_getElem? hi),e3,q⟩⟩⟩
theorem JA {X:Cx}{c i:Nat}{C:Addr}{N:List Str}{f:Str}{o e:Expr}{mo m:M.EM}{pos pos':Pos} (cm:zAC X.K Θ c C N) (hi:N[i]? = some f) (ho:WE X Θ o mo) (he:WE X Θ e m) (hs:swapsWith e (some (.Attribute o f pos')) pos.line X.env=pure false:=by kernel_rfl):WS X Θ (.Assign [.Attribute o f pos'] e pos) (M.zBN c i mo m):=by with_unfolding_all exact zRw (X:=X) (c:=c) (i:=i) (C:=C) (N:=N) (f:=f) (o:=o) (e:=e) (mo:=mo) (m:=m) (pos:=pos) (pos':=pos') cm hi ho he hs
theorem zN2 {X:Cx}{c i:Nat}{C:Addr}{N:List Str}{f:Str}{o e:Expr}{mo m:M.EM}{op:Operator}{g:M.D->M.D->M.S->M.R M.D}{r:R2}{pos pos':Pos} (cm:zAC X.K Θ c C N) (hi:N[i]? = some f) (ho:ME X Θ o mo) (he:ME X Θ e m) (hop:PIp X op r) (ad:Ad2 X.K Θ g r):MS X Θ (.AugAssign (.Attribute o f pos') op e pos) (M.zBD g c i mo m) :=
 (zOE ho he hop).imp fun D σ H ⟨ρ,σ',S,st,rp,h⟩=>⟨ρ,σ',S,st,rp,jR.stm h fun ρ1 H1 x X1 S1 p1 l1 rp1 rx h1=>by
  have h1':jR X.K Θ ρ1 H1 ((M.zFA c i x S1).stm σ' fun v s=>(m σ' s).stm σ' fun y s=>(g v y s).stm σ' fun z s=>(M.zCL c i x z s).stm σ' fun _ s=>.nx σ' s) D:=h1
  have hp:∃ a dx fs v,X1=.ref a/\H1 a=some (.ins C dx fs)/\fs.lookup f=some v/\∃ ρ2 σ2 S2 d,j4 X.K ρ2 H1 σ2 σ/\zf X.K Θ ρ2 S2 H1/\zS X.K ρ2 H1 d v/\zS X.K ρ2 H1 x X1/\jR X.K Θ ρ2 H1 ((m σ2 S2).stm σ2 fun y s=>(g d y s).stm σ2 fun z s=>(M.zCL c i x z s).stm σ2 fun _ s=>.nx σ2 s) D:=by
   have h2:zI X.K Θ (zS X.K) ρ1 H1 (M.zFA c i x S1) (fun v H2=>H2=H1->∃ ρ2 σ2 S2 d,j4 X.K ρ2 H1 σ2 σ/\zf X.K Θ ρ2 S2 H1/\zS X.K ρ2 H1 d v/\zS X.K ρ2 H1 x X1/\jR X.K Θ ρ2 H1 ((m σ2 S2).stm σ2 fun y s=>(g d y s).stm σ2 fun z s=>(M.zCL c i x z s).stm σ2 fun _ s=>.nx σ2 s) D) :=
    jR.stm h1' fun ρ2 H2 d v S2 p2 l2 rp2 rv h3 e=>by
     subst e
     exact⟨ρ2,σ',S2,d,st.mono (p1.trans p2) (l1.trans l2),rp2,rv,rx.mono p2 l2,h3⟩
   obtain⟨a,dx,fs,v,e1,e2,e3,q⟩:=zKA cm hi rp1 rx h2
   exact⟨a,dx,fs,v,e1,e2,e3,q rfl⟩
  obtain⟨a,dx,fs,v,e1,e2,e3,ρ2,σ2,S2,d,st2,rp2,rv,rx2,h4⟩:=hp
  refine⟨a,C,dx,fs,v,e1,e2,cm.cl,cm.no f (List.mem_of_getElem? hi),e3,ρ2,σ2,S2,st2,rp2,jR.stm h4 fun ρ3 H3 y Y S3 p3 l3 rp3 ry h5=>ad ρ3 H3 S3 d y v Y _ rp3 (rv.mono p3 l3) ry (jR.stm h5 fun ρ4 H4 z Z S4 p4 l4 rp4 rz h6=>?_)⟩
  obtain⟨a',dx',fs',f1,f2,f3,q⟩:=zKF cm hi rp4 (st2.mono (p3.trans p4) (l3.trans l4)) (rx2.mono (p3.trans p4) (l3.trans l4)) rz h6
  rw[e1] at f1
  cases f1
  exact⟨dx',fs',f2,f3,q⟩⟩
theorem zLK {X:Cx}{c i:Nat}{C:Addr}{N:List Str}{f:Str}{o e:Expr}{mo m:M.EM}{op:Operator}{g:M.D->M.D->M.S->M.R M.D}{r:R2}{pos pos':Pos} (cm:zAC X.K Θ c C N) (hi:N[i]? = some f) (ho:WE X Θ o mo) (he:WE X Θ e m) (hop:PIp X op r) (ad:Ad2 X.K Θ g r):WS X Θ (.AugAssign (.Attribute o f pos') op e pos) (M.zBD g c i mo m):=by with_unfolding_all exact zN2 (X:=X) (c:=c) (i:=i) (C:=C) (N:=N) (f:=f) (o:=o) (e:=e) (mo:=mo) (m:=m) (op:=op) (g:=g) (r:=r) (pos:=pos) (pos':=pos') cm hi ho he hop ad
theorem zF3 {N:List Str}{fs:List (Option M.D)}{gs:List (Str×V)}{m:Str} (r:zEz K ρ H N fs gs) (hm:m∉N):gs.lookup m=none:=zGu fun z=>hm (r.within m z)
theorem zRS {X:Cx}{c k kk n:Nat}{C:Addr}{N ps:List Str}{name:Str}{o e:Expr}{es:List Expr}{mo:M.EM}{m:M.AM}{f:M.F}{pos apos:Pos}{pl:Sem Bool} (cm:zAC X.K Θ c C N) (h:zBK X.prog X.w X.K X.mg X.base C name k ps (SpM X.K Θ (n+1) f)) (hr:jY kk X.A) (hk:k <= kk) (hm:name∉N) (ho:ME X Θ o mo) (ha:MA X Θ (e::es) m) (ar:zBw m n) (hx:Zd CX0 X E0:=by exact zB1)
  (he:jG e=true:=by rfl) (hpl:es.all jG=true:=by rfl)
  (ht:eval (.Call (.Attribute o name apos) (e::es) [] pos) X.env=(do
   let ov <- eval o X.env
   standAt apos.atName
   let (f,first) <- holding [ov] (getMethod ov name pl)
   callWith pos f first (backTo pos (starEach (e::es) X.env)) (backToKw pos (keywordEach [] X.env))):=by rfl):ME X Θ (.Call (.Attribute o name apos) (e::es) [] pos) (M.q8 c f mo m):=by
 obtain⟨g,fd,F,b,mt⟩:=h.ex
 refine (zP9 ho cm.cl mt F (hr.mono hk) b .nil hx ha (jp he) (QZ hpl) ht).imp fun σ H Q ⟨ρ,σ',S,st,rp,h⟩=>⟨ρ,σ',S,st,rp,zI.bind h fun ρ1 H1 x X1 S1 p1 l1 rp1 rx h1=>?_⟩
 cases x with
 | ref p =>
  have h1':zI X.K Θ (zS X.K) ρ1 H1 (match S1[p]? with | some (.ins c' _)=>if c'=c then (m σ' S1).bind fun xs s=>f (.ref p::xs) s else .no | _=>.no) Q:=h1
  cases q:S1[p]? with
  | none=>rw[q] at h1';exact h1'.elim
  | some ob =>
   rw[q] at h1'
   cases ob with
   | ins c' fs =>
    by_cases hc:c'=c
    ·subst hc
     have h2:zI X.K Θ (zS X.K) ρ1 H1 (if c'=c' then (m σ' S1).bind fun xs s=>f (.ref p::xs) s else .no) Q:=h1'
     rw[if_pos rfl] at h2
     obtain⟨a,rfl,ha'⟩:=id rx
     obtain⟨dx,gs,e1,e2⟩:=zG6 cm rp1 ha' q
     refine⟨a,dx,gs,rfl,e1,zF3 e2 hm,ρ1,σ',S1,st.mono p1 l1,rp1,?_⟩
     cases hM:m σ' S1 with
     | no=>rw[hM] at h2;exact h2.elim
     | exc a s=>rw[hM] at h2;exact h2.elim
     | ok ds S2 =>
      rw[hM] at h2
      intro ρ2 H2 vs p2 l2 rp2 r2
      rw[List.append_nil]
      exact⟨ρ2,.ref p::ds,S2,by rw[List.length_cons,ar _ _ _ _ hM],⟨_,_,rfl,rx.mono p2 l2,r2⟩,rp2,zI.weak h2 p2 l2⟩
    ·have h2:zI X.K Θ (zS X.K) ρ1 H1 (if c'=c then (m σ' S1).bind fun xs s=>f (.ref p::xs) s else .no) Q:=h1'
     rw[if_neg hc] at h2
     exact h2.elim
   | lst _=>exact h1'.elim
   | dct _=>exact h1'.elim
   | fdc _=>exact h1'.elim
 | _=>exact h1.elim
theorem qE {X:Cx}{c k kk n:Nat}{C:Addr}{N ps:List Str}{name:Str}{o e:Expr}{es:List Expr}{mo:M.EM}{m:M.AM}{f:M.F}{pos apos:Pos}{pl:Sem Bool} (cm:zAC X.K Θ c C N) (h:zBK X.prog X.w X.K X.mg X.base C name k ps (SpM X.K Θ (n+1) f)) (hr:jY kk X.A) (hk:k <= kk) (hm:name∉N) (ho:WE X Θ o mo) (ha:WA X Θ (e::es) m) (ar:zBw m n) (hx:Zd CX0 X E0:=by exact zB1)
  (he:jG e=true:=by rfl) (hpl:es.all jG=true:=by rfl)
  (ht:eval (.Call (.Attribute o name apos) (e::es) [] pos) X.env=(do
   let ov <- eval o X.env
   standAt apos.atName
   let (f,first) <- holding [ov] (getMethod ov name pl)
   callWith pos f first (backTo pos (starEach (e::es) X.env)) (backToKw pos (keywordEach [] X.env))):=by rfl):WE X Θ (.Call (.Attribute o name apos) (e::es) [] pos) (M.q8 c f mo m):=by with_unfolding_all exact zRS (X:=X) (c:=c) (k:=k) (kk:=kk) (n:=n) (C:=C) (N:=N) (ps:=ps) (name:=name) (o:=o) (e:=e) (es:=es) (mo:=mo) (m:=m) (f:=f) (pos:=pos) (apos:=apos) (pl:=pl) cm h hr hk hm ho ha ar hx he hpl ht
theorem zPH {X:Cx}{c k kk:Nat}{C:Addr}{N ps:List Str}{name:Str}{o:Expr}{mo:M.EM}{f:M.F}{pos apos:Pos}{pl:Sem Bool} (cm:zAC X.K Θ c C N) (h:zBK X.prog X.w X.K X.mg X.base C name k ps (SpM X.K Θ 1 f)) (hr:jY kk X.A) (hk:k <= kk) (hm:name∉N) (ho:ME X Θ o mo) (hx:Zd CX0 X E0:=by exact zB1)
  (ht:eval (.Call (.Attribute o name apos) [] [] pos) X.env=(do
   let ov <- eval o X.env
   standAt apos.atName
   let (f,first) <- holding [ov] (getMethod ov name pl)
   callWith pos f first (backTo pos (starEach [] X.env)) (backToKw pos (keywordEach [] X.env))):=by rfl):ME X Θ (.Call (.Attribute o name apos) [] [] pos) (M.q8 c f mo M.zH):=by
 obtain⟨g,fd,F,b,mt⟩:=h.ex
 refine (zOf ho cm.cl mt F (hr.mono hk) b .nil hx ht).imp fun σ H Q ⟨ρ,σ',S,st,rp,h⟩=>⟨ρ,σ',S,st,rp,zI.bind h fun ρ1 H1 x X1 S1 p1 l1 rp1 rx h1=>?_⟩
 cases x with
 | ref p =>
  have h1':zI X.K Θ (zS X.K) ρ1 H1 (match S1[p]? with | some (.ins c' _)=>if c'=c then f [.ref p] S1 else .no | _=>.no) Q:=h1
  cases q:S1[p]? with
  | none=>rw[q] at h1';exact h1'.elim
  | some ob =>
   rw[q] at h1'
   cases ob with
   | ins c' fs =>
    by_cases hc:c'=c
    ·subst hc
     have h2:zI X.K Θ (zS X.K) ρ1 H1 (if c'=c' then f [.ref p] S1 else .no) Q:=h1'
     rw[if_pos rfl] at h2
     obtain⟨a,rfl,ha'⟩:=id rx
     obtain⟨dx,gs,e1,e2⟩:=zG6 cm rp1 ha' q
     exact⟨a,dx,gs,rfl,e1,zF3 e2 hm,ρ1,[.ref p],S1,rfl,⟨_,_,rfl,rx,rfl⟩,rp1,h2⟩
    ·have h2:zI X.K Θ (zS X.K) ρ1 H1 (if c'=c then f [.ref p] S1 else .no) Q:=h1'
     rw[if_neg hc] at h2
     exact h2.elim
   | lst _=>exact h1'.elim
   | dct _=>exact h1'.elim
   | fdc _=>exact h1'.elim
 | _=>exact h1.elim
theorem zMv {X:Cx}{c k kk:Nat}{C:Addr}{N ps:List Str}{name:Str}{o:Expr}{mo:M.EM}{f:M.F}{pos apos:Pos}{pl:Sem Bool} (cm:zAC X.K Θ c C N) (h:zBK X.prog X.w X.K X.mg X.base C name k ps (SpM X.K Θ 1 f)) (hr:jY kk X.A) (hk:k <= kk) (hm:name∉N) (ho:WE X Θ o mo) (hx:Zd CX0 X E0:=by exact zB1)
  (ht:eval (.Call (.Attribute o name apos) [] [] pos) X.env=(do
   let ov <- eval o X.env
   standAt apos.atName
   let (f,first) <- holding [ov] (getMethod ov name pl)
   callWith pos f first (backTo pos (starEach [] X.env)) (backToKw pos (keywordEach [] X.env))):=by rfl):WE X Θ (.Call (.Attribute o name apos) [] [] pos) (M.q8 c f mo M.zH):=by with_unfolding_all exact zPH (X:=X) (c:=c) (k:=k) (kk:=kk) (C:=C) (N:=N) (ps:=ps) (name:=name) (o:=o) (mo:=mo) (f:=f) (pos:=pos) (apos:=apos) (pl:=pl) cm h hr hk hm ho hx ht
theorem zQF {X:Cx}{c k kk n nf:Nat}{C:Addr}{N ps:List Str}{x:Str}{e:Expr}{es:List Expr}{m:M.AM}{f:M.F}{pos p:Pos} (cm:zAC X.K Θ c C N) (h:zPa X.prog X.w X.K X.mg X.base C x k ps (SpM X.K Θ (n+1) f)) (hr:jY kk X.A) (hk:k+1 <= kk) (hn:N.length=nf) (hg:Gl X x) (ha:MA X Θ (e::es) m) (ar:zBw m n) (hx:Zd CX0 X E0:=by exact zB1) (hdb:(x == ("__debug__" : Str))=false:=by decide)
  (he:jG e=true:=by rfl) (hpl:es.all jG=true:=by rfl):ME X Θ (.Call (.Name x p) (e::es) [] pos) (M.zGt c nf f m):=by
 obtain⟨g,fd,F,b,mk,hmg⟩:=h.ex
 refine (zRG mk F (hr.mono hk) hg hmg b .nil hx ha hdb (jp he) (QZ hpl)).imp fun σ H Q ⟨ρ,σ',S,st,rp,h⟩=>⟨ρ,σ',S,st,rp,?_⟩
 have h':zI X.K Θ (zS X.K) ρ H ((m σ' S).bind fun xs s=>(f (.ref s.length::xs) (s++[.ins c (List.replicate nf none)])).bind fun d s'=>if d=.non then .ok (.ref s.length) s' else .no) Q:=h
 cases hM:m σ' S with
 | no=>rw[hM] at h';exact h'.elim
 | exc a s=>rw[hM] at h';exact h'.elim
 | ok ds S1 =>
  rw[hM,M.R.bind_ok] at h'
  intro ρ1 H1 vs p1 l1 rp1 r1 y dx hy hdx hne
  rw[List.append_nil]
  have l2:Le H1 (upd H1 dx (.own y)):=Le.new hdx _
  have rp2:=rp1.aside hdx (.own y)
  have hy2:upd H1 dx (.own y) y=none:=by rw[jZ (Ne.symm hne)];exact hy
  have l3:Le (upd H1 dx (.own y)) (upd (upd H1 dx (.own y)) y (.ins C dx [])):=Le.new hy2 _
  have pre:ρ1 <+: ρ1++[y]:=List.prefix_append _ _
  have rp3:zf X.K Θ (ρ1++[y]) (S1++[.ins c (List.replicate nf none)]) (upd (upd H1 dx (.own y)) y (.ins C dx [])):=by
   refine rp2.alloc hy2 ⟨C,dx,[],N,qA,cm.tab,by rw[List.length_replicate];exact hn.symm,List.nodup_nil,(fun f hf=>nomatch hf),fun i f d _ q=>?_⟩
   rw[List.getElem?_replicate] at q
   split at q<;>cases q
  have hlast:(ρ1++[y])[S1.length]? = some y:=by rw[<- rp1.len];simp
  refine⟨ρ1++[y],.ref S1.length::ds,_,by rw[List.length_cons,ar _ _ _ _ hM],⟨_,_,rfl,⟨y,rfl,hlast⟩,r1.mono pre (l2.trans l3)⟩,rp3,?_⟩
  refine zI.bind (zI.weak h' (p1.trans pre) (l1.trans (l2.trans l3))) fun ρ4 H4 d v S4 p4 l4 rp4 rv h4=>?_
  by_cases hd:d=.non
  ·subst hd
   rw[if_pos rfl] at h4
   cases rv
   exact⟨rfl,zI.here h4 rp4 ⟨y,rfl,zCC p4 hlast⟩⟩
  ·rw[if_neg hd] at h4
   exact h4.elim
theorem zNE {X:Cx}{c k kk n nf:Nat}{C:Addr}{N ps:List Str}{x:Str}{e:Expr}{es:List Expr}{m:M.AM}{f:M.F}{pos p:Pos} (cm:zAC X.K Θ c C N) (h:zPa X.prog X.w X.K X.mg X.base C x k ps (SpM X.K Θ (n+1) f)) (hr:jY kk X.A) (hk:k+1 <= kk) (hn:N.length=nf) (hg:Gl X x) (ha:WA X Θ (e::es) m) (ar:zBw m n) (hx:Zd CX0 X E0:=by exact zB1) (hdb:(x == ("__debug__" : Str))=false:=by decide)
  (he:jG e=true:=by rfl) (hpl:es.all jG=true:=by rfl):WE X Θ (.Call (.Name x p) (e::es) [] pos) (M.zGt c nf f m):=by with_unfolding_all exact zQF (X:=X) (c:=c) (k:=k) (kk:=kk) (n:=n) (nf:=nf) (C:=C) (N:=N) (ps:=ps) (x:=x) (e:=e) (es:=es) (m:=m) (f:=f) (pos:=pos) (p:=p) cm h hr hk hn hg ha ar hx hdb he hpl
end
end L2
namespace L2
open PySem PySem.Spec PyProof.Rows
section
variable {P:Program}{w:World}{A:Around}{E:Value->Shared->Prop}{s:Shared}
theorem zIY {I:Addr}{fp wr:List Addr}{n:Nat}{Pv:Nat->Value->Prop}{St:Nat->Heap->Prop}{T:String}{Q:Value->Shared->Prop} (W:Walks P w A.in1.in1 I fp wr n Pv St) (hn:n <= sizeLine) (hI:I∈fp) (hfp:∀ b∈fp,b < s.heap.objs.size) (st:St 0 s.heap)
  (hT:∀ h,St 0 h->∃ o,h.get? I=some o/\o.cls=.type T) (t1:(Value.type T == Value.type "list")=false) (t2:(Value.type T == Value.type "tuple")=false)
  (hint:∀ (s':Shared) (R:Bool->Shared->Prop) (E':Value->Shared->Prop),St 0 s'.heap->(∀ b tk,s'.toks <= tk->R b { s' with toks:=tk })->wpAny (model P w) A.in1.in1 (Builtin.List.listLengthHint (.ref I)) R E' s')
  (q:∀ h' tk acc c,s.toks <= tk->(∀ b o,b∉wr->s.heap.get? b=some o->h'.get? b=some o)->h'.get? s.heap.objs.size=some { cls:=.type "list",dict:=none,data:=.seq acc c,slots:=#[] }->ItemsOf Pv acc n->Q (.ref s.heap.objs.size) { s with heap:=h',toks:=tk }) :
  wpAny (model P w) A (call (.type "list") [.ref I]) Q E s:=by
 have hS:s.heap.objs.size∉fp:=fun hm=>Nat.lt_irrefl _ (hfp _ hm)
 have hSI:s.heap.objs.size≠I:=fun e=>hS (e ▸ hI)
 have lt:∀ {c o},s.heap.get? c=some o->c < s.heap.objs.size:=fun e=>Heap.lt_size e
 refine callType_codes (Q₁:=fun obj s₁=>obj=.ref s.heap.objs.size/\s₁={ s with heap:=s.heap.push { cls:=.type "list",data:=.seq #[] } }) PySem.F.called_list (PySem.F.typeCall_list_1 _) PySem.F.entry_list_init (code_list_new _ ⟨rfl,rfl⟩) fun obj s₁ h₁=>?_
 obtain⟨rfl,rfl⟩:=h₁
 have g0:(s.heap.push { cls:=.type "list",data:=.seq #[] }).get? s.heap.objs.size=some { cls:=.type "list",data:=.seq #[] }:=Heap.get?_push_size _ rfl
 refine⟨⟨_,g0,rfl⟩,PySem.F.args_list_init_2 _ _,?_⟩
 show wpAny (model P w) _ (do let old <- Builtin.List.listItems (.ref s.heap.objs.size);Builtin.List.listUpdate (.ref s.heap.objs.size) (fun _=>#[]);letGo old.toList.reverse;Builtin.List.listExtendWith (.ref s.heap.objs.size) (.ref I) .none) _ _ _
 refine wpAny_bind ?_
 unfold Builtin.List.listItems
 refine wpAny_bind (wpAny_seqItems g0 rfl (wpAny_pure ?_))
 show wpAny (model P w) _ (updateSeq s.heap.objs.size (fun _=>#[]) >>= fun _=>letGo (#[]:Array Value).toList.reverse >>= fun _=>Builtin.List.listExtendWith (.ref s.heap.objs.size) (.ref I) .none) _ _ _
 refine wpAny_bind (wpAny_updateSeq g0 rfl ?_)
 have g1:=Heap.get?_update_self (Obj.mapSeq (fun _=>(#[]:Array Value))) g0 rfl
 have k1:∀ c o,s.heap.get? c=some o->((s.heap.push { cls:=.type "list",data:=.seq #[] }).update s.heap.objs.size (Obj.mapSeq (fun _=>(#[]:Array Value)))).get? c=some o :=
  fun c o e=>(Heap.get?_update_other _ _ (Nat.ne_of_gt (lt e))).trans (Heap.get?_push_of_some _ e)
 generalize (s.heap.push { cls:=.type "list",data:=.seq #[] }).update s.heap.objs.size (Obj.mapSeq (fun _=>(#[]:Array Value)))=g at *
 refine wpAny_bind (wpAny_letGo ?_)
 have st1:St 0 g:=W.frame 0 _ _ st fun b _ o e=>k1 b o e
 have fin:∀ (R:Result->Shared->Prop) (h:Heap) (c tk:Nat),s.toks <= tk->(∀ c o,s.heap.get? c=some o->h.get? c=some o)->h.get? s.heap.objs.size=some { cls:=.type "list",dict:=none,data:=.seq #[] c,slots:=#[] } ->
   (∀ h' tk,Q (.ref s.heap.objs.size) { s with heap:=h',toks:=tk }->R (.ok (.ret .none)) { s with heap:=h',toks:=tk })->codeAny (model P w) A.in1 (.builtin "list.extend.loop" ⟨[.ref s.heap.objs.size,.ref I,.none],[]⟩) R { s with heap:=h,toks:=tk }:=fun R h c tk htk hk gS hR=>by
  refine codeAny_extend_loopS W.toS hn s.heap.objs.size hS .none n 0 _ #[] c rfl (Nat.zero_le _) (W.frame 0 _ _ st fun b _ o e=>hk b o e) gS (ItemsOf.nil _) fun s' acc' c' hm hS' hacc=>?_
  rw[Moved.eq_with hm]
  refine hR s'.heap s'.toks (q s'.heap s'.toks acc' c' (Nat.le_trans htk hm.toks) (fun b o hb e=>hm.heap b o (fun hmem=>?_) (hk b o e)) hS' hacc)
  rcases List.mem_cons.mp hmem with e' | hmem
  ·exact Nat.ne_of_lt (lt e) e'
  ·exact hb hmem
 unfold Builtin.List.listExtendWith
 refine wpAny_bind (wpAny_typeOf (hT _ st1) ?_)
 have f1:Builtin.List.listSameRef (.ref s.heap.objs.size) (.ref I)=false:=by simp[Builtin.List.listSameRef,hSI]
 simp only[f1,t1,t2,Bool.or_false,Bool.false_eq_true,if_false]
 refine wpAny_bind (W.self 0 _ _ _ st1 ?_)
 refine wpAny_bind (wpAny_holding (hint _ _ _ st1 fun b tk htk=>?_))
 refine wpAny_ite_split (fun _=>?_) (fun _=>wpAny_pure ⟨plainId_quiet PySem.F.plain_extend_loop _,fin _ _ _ _ htk (fun c o e=>k1 c o e) g1 fun h' tk hq=>⟨rfl,hq⟩⟩)
 refine wpAny_bind (wpAny_rule ?_)
 refine wpAny_bind ?_
 show wpAny (model P w) _ (updateSeq s.heap.objs.size (·.push .none) >>= fun _=>updateSeq s.heap.objs.size (·.pop)) _ _ _
 refine wpAny_bind (wpAny_updateSeq g1 rfl ?_)
 have g2:=Heap.get?_update_self (Obj.mapSeq (·.push Value.none)) g1 rfl
 refine wpAny_updateSeq (hz:=by seq_fits) g2 rfl ?_
 have g3:=Heap.get?_update_self (Obj.mapSeq (·.pop)) g2 rfl
 refine wpAny_pure ⟨plainId_quiet PySem.F.plain_extend_loop _,fin _ _ _ _ htk (fun c o e=>?_) g3 fun h' tk hq=>⟨rfl,hq⟩⟩
 have n:s.heap.objs.size≠c:=Nat.ne_of_gt (lt e)
 exact (Heap.get?_update_other _ _ n).trans ((Heap.get?_update_other _ _ n).trans (k1 c o e))
end
theorem zJe:PySem.Slot "reversed" "__init__" "object.__init__" :=
 .of (owner := "object") (n := "__init__") (by rw[typeLookup_type,builtinLookup_eq_fast];kernel_rfl) (by decide +kernel) (by decide +kernel) (by decide +kernel)
  (by first | exact .inl (by decide +kernel) | exact .inr (by decide +kernel)) (by rw[isSubtype_type];kernel_rfl)
theorem zMB:TypeCalled "reversed" "reversed.__new__" "object.__init__" :=
 ⟨by decide +kernel,by decide +kernel,⟨_,_,PySem.F.mro_reversed⟩,PySem.F.made_reversed,by decide +kernel,PySem.F.sub_reversed_self,zJe⟩
theorem JI:PySem.Slot "reversed" "__next__" "reversed.__next__" :=
 .of (owner := "reversed") (n := "__next__") (by rw[typeLookup_type,builtinLookup_eq_fast];kernel_rfl) (by decide +kernel) (by decide +kernel) (by decide +kernel)
  (by first | exact .inl (by decide +kernel) | exact .inr (by decide +kernel)) (by rw[isSubtype_type];kernel_rfl)
theorem zES:PySem.Slot "reversed" "__iter__" "reversed.__iter__" :=
 .of (owner := "reversed") (n := "__iter__") (by rw[typeLookup_type,builtinLookup_eq_fast];kernel_rfl) (by decide +kernel) (by decide +kernel) (by decide +kernel)
  (by first | exact .inl (by decide +kernel) | exact .inr (by decide +kernel)) (by rw[isSubtype_type];kernel_rfl)
theorem zIp:Manifest.owners.lookup (String.ofList ['d','e','s','r','e','v','e','r'].reverse)=some Manifest.sig_reversed:=by kernel_rfl
theorem zEW (a:Value):argsOk "reversed.__next__" ⟨[a],[]⟩:=by
 unfold argsOk;rw[signature?_of (id := "reversed.__next__") (n:=['_','_','t','x','e','n','_','_']) (o:=['d','e','s','r','e','v','e','r']) (by kernel_rfl) zIp];kernel_rfl
theorem zJU (a:Value):argsOk "reversed.__iter__" ⟨[a],[]⟩:=by
 unfold argsOk;rw[signature?_of (id := "reversed.__iter__") (n:=['_','_','r','e','t','i','_','_']) (o:=['d','e','s','r','e','v','e','r']) (by kernel_rfl) zIp];kernel_rfl
theorem zDb:entryFor table "reversed.__next__" = some Builtin.«reversed.__next__» := entryFor_of_tree (by kernel_rfl)
theorem zIQ:entryFor table "reversed.__iter__" = some Builtin.«dict_keyiterator.__iter__» :=
 entryFor_alias (id' := "dict_keyiterator.__iter__") (by kernel_rfl) (by first | rfl | decide +kernel | (unfold String.splitOn;simp +decide [String.splitOnAux])) (by decide +kernel) (by kernel_rfl)
theorem zMP:typeLookup (.type "tuple") "__reversed__" = pure none:=by rw[typeLookup_type,builtinLookup_eq_fast];kernel_rfl
noncomputable def zC8 (h:Heap) (a t:Addr) (i:Int):Prop:=h.get? a=some { cls:=.type "reversed",dict:=none,data:=.fields #[.ref t,rawInt i],slots:=#[] }
section
variable {P:Program}{w:World}{A:Around}{E:Value->Shared->Prop}{s:Shared}
theorem zC8.typeIs {a t:Addr}{i:Int} (x:zC8 s.heap a t i):s.TypeIs (.ref a) "reversed" := ⟨_,x,rfl⟩
theorem zOC (t:Addr) (xs:Array Value):Meets (Builtin.«reversed.__new__» ⟨[.type "reversed",.ref t],[]⟩) (fun _ R s=>IsTup s.heap t xs/\(xs.size:Int) < 2 ^ 63/\R (.ok (.ret (.ref s.heap.objs.size))) { s with heap:=s.heap.push { cls:=.type "reversed",data:=.fields #[.ref t,rawInt ((xs.size:Int) - 1)] },toks:=s.toks+1+1 }) :=
 .of_wp fun prog w A R s h=>by
  obtain⟨ht,hz,h⟩:=h
  unfold Builtin.«reversed.__new__»
  refine wpAny_bind (wpAny_of_eq (newClass_reversed _) ?_)
  try dsimp only
  refine wpAny_bind (wpAny_of_eq (a:=()) (by first | rfl | kernel_rfl) ?_)
  refine wpAny_bind (wpAny_of_eq (a:=()) (by first | rfl | kernel_rfl) ?_)
  try dsimp only
  refine wpAny_bind (wpAny_specialOf ht.typeIs zMP ?_)
  try dsimp only
  refine wpAny_bind (wpAny_bind (wpAny_isInstance (T := "tuple") (b:=false) ht.typeIs (by rw[isSubtype_type];kernel_rfl) ?_))
  refine wpAny_ite_split (fun hab=>absurd hab (by decide)) (fun _=>?_)
  refine wpAny_bind (wpAny_specialOf ht.typeIs PySem.F.slot_tuple_getitem.lookup ?_)
  refine wpAny_ite_split (fun _=>?_) (fun hab=>absurd (by decide +kernel) hab)
  refine wpAny_pure ?_
  refine wpAny_ite_split (fun hab=>absurd hab (by decide)) (fun _=>?_)
  refine wpAny_bind (len_tuple ht hz ?_)
  refine wpAny_bind (m:=asInt? _) (wpAny_pure ?_)
  refine wpAny_bind (m:=Builtin.SmallTypes.newRecord _ _) ?_
  show wpAny (model prog w) _ (newObj (.type "reversed") (.fields #[.ref t,rawInt ((xs.size:Int) - 1)])) _ _ _
  exact wpAny_newObj_type (wpAny_pure ⟨_,rfl,h⟩)
theorem zEf {t:Addr}{xs:Array Value}{Q:Value->Shared->Prop} (ht:IsTup s.heap t xs) (hz:(xs.size:Int) < 2 ^ 63)
  (q:Q (.ref s.heap.objs.size) { s with heap:=s.heap.push { cls:=.type "reversed",data:=.fields #[.ref t,rawInt ((xs.size:Int) - 1)] },toks:=s.toks+1+1 }):wpAny (model P w) A (call (.type "reversed") [.ref t]) Q E s:=by
 refine callType_new zMB (by decide) (PySem.F.typeCall_reversed_1 _) (PySem.F.newCall_reversed_1 _) (fun obj=>PySem.F.args_object_init_2 obj _) PySem.F.entry_reversed_new (zOC t xs) ⟨ht,hz,?_⟩
 exact⟨⟨_,Heap.get?_push_size _ rfl,rfl⟩,q⟩
theorem zPF {it t:Addr}{i:Nat}{xs:Array Value}{x:Value}{Q:Option Value->Shared->Prop} (hit:zC8 s.heap it t (i:Int)) (ht:IsTup s.heap t xs) (hi:i < 2 ^ 62) (hx:xs[i]? = some x)
  (q:∀ h',zC8 h' it t ((i:Int) - 1)->Heap.SameBut it s.heap h'->Q (some x) { s with heap:=h',toks:=s.toks+1 }):wpAny (model P w) A (pyNext (.ref it)) Q E s:=by
 unfold pyNext
 refine wpAny_bind (wpAny_attempt (wpAny_callSpecial?_slot (name:=Str.ofString "__next__") hit.typeIs JI
  (wpAny_call_entry JI hit.typeIs zDb ?_ (zEW _))))
 unfold Builtin.«reversed.__next__»
 refine wpAny_bind (wpAny_of_eq (a:=(Value.ref it,[])) rfl ?_)
 try dsimp only
 refine wpAny_bind (wpAny_field hit rfl (x:=.ref t) rfl ?_)
 refine wpAny_bind (wpAny_field hit rfl (x:=rawInt (i:Int)) rfl ?_)
 show wpAny (model P w) _ (if (i:Int) < 0 then _ else _) _ _ s
 rw[if_neg (by omega)]
 refine wpAny_bind (wpAny_specialOf ht.typeIs PySem.F.slot_tuple_getitem.lookup ?_)
 refine wpAny_ite_split (fun hab=>absurd hab (by decide)) (fun _=>?_)
 refine wpAny_bind (wpAny_mkInt ?_)
 have lt:i < xs.size:=by
  rcases Nat.lt_or_ge i xs.size with h | h
  ·exact h
  ·rw[Array.getElem?_eq_none h] at hx;cases hx
 refine wpAny_bind (wpAny_attempt (PyProof.Rows.getItem_tuple (s:={ s with toks:=s.toks+1 }) ht (by omega) (by omega) (j:=i) (by unfold seqIndex?;simp;omega) hx ?_))
 refine wpAny_bind (wpAny_field (s:={ s with toks:=s.toks+1 }) hit rfl (x:=rawInt (i:Int)) rfl ?_)
 refine wpAny_bind (wpAny_setField_rec (s:={ s with toks:=s.toks+1 }) hit (by simp) fun h' hz' hs'=>?_)
 exact wpAny_pure ⟨x,rfl,wpAny_pure (q h' hz' hs')⟩
theorem zQb {it t:Addr}{Q:Option Value->Shared->Prop} (hh:A.handled=none) (hit:zC8 s.heap it t (-1))
  (q:∀ h',Heap.ExtBut it s.heap h'->Q none { s with heap:=h' }):wpAny (model P w) A (pyNext (.ref it)) Q E s:=by
 unfold pyNext
 refine wpAny_bind (wpAny_attempt (wpAny_callSpecial?_slot (name:=Str.ofString "__next__") hit.typeIs JI
  (wpAny_call_entry JI hit.typeIs zDb ?_ (zEW _))))
 unfold Builtin.«reversed.__next__»
 refine wpAny_bind (wpAny_of_eq (a:=(Value.ref it,[])) rfl ?_)
 try dsimp only
 refine wpAny_bind (wpAny_field hit rfl (x:=.ref t) rfl ?_)
 refine wpAny_bind (wpAny_field hit rfl (x:=rawInt (-1)) rfl ?_)
 show wpAny (model P w) _ (if (-1:Int) < 0 then _ else _) _ _ s
 rw[if_pos (by decide)]
 refine wpAny_bind (wpAny_rule ?_)
 refine wpAny_bind ?_
 show wpAny (model P w) _ (setField (.ref it) 1 (rawInt (-1)) >>= fun _=>setField (.ref it) 0 .none) _ _ s
 refine wpAny_bind (wpAny_setField_rec hit (by simp) fun h1 z1 s1=>?_)
 refine wpAny_setField_rec (s:={ s with heap:=h1 }) z1 (by simp) fun h2 z2 s2=>?_
 first
 | show wpAny (model P w) _ (newExc (.type "StopIteration") [] >>= _) _ _ _
 | (refine wpAny_bind ?_;show wpAny (model P w) _ (newExc (.type "StopIteration") [] >>= _) _ _ _)
 refine wpAny_bind ?_
 simp only[newExc,newTuple]
 refine wpAny_bind (wpAny_newObj_type ?_ (by size_fits))
 refine wpAny_bind (m:=firstArgMember _ _) (wpAny_of_eq (a:=Value.none) (by first | rfl | (simp only[firstArgMember];rfl)) ?_)
 refine wpAny_newObj_type ?_ (by size_fits)
 simp only[raiseNew]
 refine wpAny_bind (wpAny_handled ?_)
 first | rw[show A.in1.handled=none from hh] | rw[hh]
 refine wpAny_bind (wpAny_pure (wpAny_throw ?_))
 refine wpAny_bind (wpAny_isInstance (T := "StopIteration") (b:=true) ⟨_,Heap.get?_push_size _ rfl,rfl⟩ isSubtype_stop ?_)
 exact wpAny_pure (q _ (((s1.extBut.trans s2.extBut).push _).push _))
theorem zKl {it t:Addr}{i:Int}{Q:Value->Shared->Prop} (hit:zC8 s.heap it t i) (h:Q (.ref it) s):wpAny (model P w) A (pyIter (.ref it)) Q E s:=by
 refine wpAny_pyIter_slot hit.typeIs zES (wpAny_call_entry zES hit.typeIs zIQ ?_ (zJU _))
 show wpAny (model P w) _ (ret (.ref it)) _ _ s
 exact wpAny_pure ⟨_,rfl,"reversed",_,hit.typeIs,JI.lookup,h⟩
end
section
variable {Θ:Tab}
theorem zLI:bootBuiltins "reversed" = some (.type "reversed"):=by decide +kernel
end
end L2
namespace L2
open PySem PySem.Spec PyProof.Rows
noncomputable def SIt (b:Bool) (h:Heap) (it a:Addr) (i:Nat):Prop:=match b with | true=>h.IsListIter it a i | false=>h.IsTupleIter it a i
noncomputable def SSq (b:Bool) (h:Heap) (a:Addr) (xs:Array Value):Prop:=match b with | true=>h.IsList a xs | false=>h.IsTuple a xs
theorem SIt.at {b:Bool}{h h':Heap}{it a:Addr}{i:Nat} (x:SIt b h it a i) (e:∀ o,h.get? it=some o->h'.get? it=some o):SIt b h' it a i:=match b,x with | true,x=>Heap.IsListIter.at x e | false,x=>Heap.IsTupleIter.at x e
theorem SIt.ex {b:Bool}{h h':Heap}{it a c:Addr}{i:Nat} (x:SIt b h it a i) (e:Heap.SameBut c h h') (n:it≠c):SIt b h' it a i:=x.at fun o g=>e.extBut _ _ n g
theorem SSq.at {b:Bool}{h h':Heap}{a:Addr}{xs:Array Value} (x:SSq b h a xs) (e:∀ o,h.get? a=some o->h'.get? a=some o):SSq b h' a xs:=match b,x with | true,⟨o,g,r⟩=>⟨o,e o g,r⟩ | false,⟨o,g,r⟩=>⟨o,e o g,r⟩
theorem SSq.ex {b:Bool}{h h':Heap}{a c:Addr}{xs:Array Value} (x:SSq b h a xs) (e:Heap.SameBut c h h') (n:a≠c):SSq b h' a xs:=x.at fun o g=>e.extBut _ _ n g
section
variable {P:Program}{w:World}{A:Around}{E:Value->Shared->Prop}{s:Shared}
theorem zLz {b:Bool}{it t:Addr}{i:Nat}{xs:Array Value}{x:Value}{Q:Value->Shared->Prop} (hi:SIt b s.heap it t i) (ht:SSq b s.heap t xs) (hx:xs[i]? = some x)
  (q:∀ h',SIt b h' it t (i+1)->Heap.SameBut it s.heap h'->Q x { s with heap:=h' }):wpAny (model P w) A (Builtin.SmallTypes.nextOf (.ref it)) Q E s :=
 match b,hi,ht,q with
 | true,hi,ht,q=>wpAny_nextOf_list_item hi ht hx q
 | false,hi,ht,q=>zAw hi ht hx q
theorem zI2 {b:Bool}{it t:Addr}{i:Nat}{xs:Array Value}{Q:Value->Shared->Prop} (hh:A.handled=none) (hi:SIt b s.heap it t i) (ht:SSq b s.heap t xs) (hx:xs[i]? = none)
  (q:∀ h' e,Heap.ExtBut it s.heap h'->(∃ o,h'.get? e=some o/\o.cls=.type "StopIteration")->E (.ref e) { s with heap:=h' }):wpAny (model P w) A (Builtin.SmallTypes.nextOf (.ref it)) Q E s :=
 match b,hi,ht with
 | true,hi,ht=>wpAny_nextOf_list_end hh hi ht hx q
 | false,hi,ht=>zIo hh hi ht hx q
structure ZAt (b1 b2:Bool) (z TI TO i1 i2 l1 l2:Addr) (i:Nat) (h:Heap):Prop where
 zp:IsZip h z TI TO .none
 ti:IsPair h TI (.ref i1) (.ref i2)
 to:∃ a b,IsPair h TO a b
 n1:SIt b1 h i1 l1 i
 n2:SIt b2 h i2 l2 i
theorem zSj {b1 b2:Bool}{z TI TO i1 i2 l1 l2:Addr}{i:Nat}{xs ys:Array Value}{Q:Option Value->Shared->Prop} (hh:A.handled=none) (D:ZipApart z TI TO i1 i2 l1 l2) (st:ZAt b1 b2 z TI TO i1 i2 l1 l2 i s.heap) (t1:SSq b1 s.heap l1 xs) (t2:SSq b2 s.heap l2 ys) (hend:xs[i]? = none\/ys[i]? = none)
  (q:∀ h',(∀ c o,c≠z->c≠TO->c≠i1->c≠i2->s.heap.get? c=some o->h'.get? c=some o)->Q none { s with heap:=h' }):wpAny (model P w) A (pyNext (.ref z)) Q E s:=by
 obtain⟨hz,hTI,⟨a0,b0,hTO⟩,h1,h2⟩:=st
 have hT:s.TypeIs (.ref z) "zip" := ⟨_,hz,rfl⟩
 unfold pyNext
 have fin:∀ h' e,(∀ c o,c≠z->c≠TO->c≠i1->c≠i2->s.heap.get? c=some o->h'.get? c=some o)->(∃ o,h'.get? e=some o/\o.cls=.type "StopIteration")->wpAny (model P w) A (do if <- isInstance (.ref e) (.type "StopIteration") then return none else throw (.ref e)) Q E { s with heap:=h' }:=fun h' e hk ⟨o,ho,hc⟩=>by
  refine wpAny_bind (wpAny_isInstance (T := "StopIteration") (b:=true) ⟨o,ho,hc⟩ isSubtype_stop ?_)
  exact wpAny_pure (q _ hk)
 refine wpAny_bind (wpAny_attempt (wpAny_callSpecial?_slot (name:=Str.ofString "__next__") hT PySem.F.slot_zip_next (wpAny_call_entry PySem.F.slot_zip_next hT PySem.F.entry_zip_next ?_ (PySem.F.args_zip_next_1 _))))
 show wpAny (model P w) _ (field (.ref z) 2 >>= _) _ _ _
 refine wpAny_bind (wpAny_field hz rfl (x:=.bool false) rfl ?_)
 show wpAny (model P w) _ (field (.ref z) 3 >>= _) _ _ _
 refine wpAny_bind (wpAny_field hz rfl (x:=.ref TI) rfl ?_)
 refine wpAny_bind (wpAny_seqItems hTI rfl ?_)
 show wpAny (model P w) _ (Builtin.SmallTypes.ownedTupleIsFree (.ref z) >>= _) _ _ _
 refine wpAny_bind ?_
 unfold Builtin.SmallTypes.ownedTupleIsFree
 refine wpAny_bind (wpAny_field hz rfl (x:=.none) rfl (wpAny_pure ?_))
 simp only[if_true]
 refine wpAny_bind (wpAny_rule ?_)
 refine wpAny_bind (wpAny_field hz rfl (x:=.ref TO) rfl ?_)
 refine wpAny_bind (wpAny_setField_rec hz (by simp) fun g1 z1 e1=>?_)
 replace z1:IsZip g1 z TI TO .ellipsis:=z1
 refine wpAny_bind ?_
 simp only[List.zipIdx_cons,List.zipIdx_nil,List.forIn_cons,List.forIn_nil]
 refine wpAny_bind (wpAny_bind (wpAny_onRaise ?_))
 show wpAny (model P w) _ (Builtin.SmallTypes.nextOf (.ref i1) >>= _) _ _ _
 cases hx:xs[i]? with
 | none =>
  refine wpAny_bind (zI2 hh (h1.ex e1 D.i1z) (t1.ex e1 D.l1z) hx fun g2 e e2 he=>?_)
  obtain⟨oe,hoe,hce⟩:=he
  have z2:IsZip g2 z TI TO .ellipsis:=e2 _ _ D.i1z.symm z1
  have hez:e≠z:=fun x=>by subst x;rw[z2] at hoe;cases hoe;simp at hce
  refine wpAny_setField_rec z2 (by simp) fun g3 _ e3=>fin g3 e (fun c o c1 _ c3 _ x=>e3.extBut _ _ c1 (e2 _ _ c3 (e1.extBut _ _ c1 x))) ⟨oe,e3.extBut _ _ hez hoe,hce⟩
 | some x =>
  have hy:ys[i]? = none:=by rcases hend with h | h;rw[hx] at h;cases h;exact h
  refine wpAny_bind (zLz (h1.ex e1 D.i1z) (t1.ex e1 D.l1z) hx fun g2 n12 e2=>wpAny_pure ?_)
  have to2:IsPair g2 TO a0 b0:=e2.extBut _ _ D.TOi1 (e1.extBut _ _ D.TOz hTO)
  refine wpAny_bind (wpAny_seqItems to2 rfl ?_)
  refine wpAny_bind (zGh to2 fun g3 to3 e3=>?_)
  refine wpAny_bind (wpAny_letGo (wpAny_pure ?_))
  refine wpAny_bind (wpAny_bind (wpAny_onRaise ?_))
  show wpAny (model P w) _ (Builtin.SmallTypes.nextOf (.ref i2) >>= _) _ _ _
  refine wpAny_bind (zI2 hh (((h2.ex e1 D.i2z).ex e2 D.i12.symm).ex e3 D.TOi2.symm) (((t2.ex e1 D.l2z).ex e2 D.l2i1).ex e3 D.l2TO) hy fun g4 e e4 he=>?_)
  obtain⟨oe,hoe,hce⟩:=he
  have z4:IsZip g4 z TI TO .ellipsis:=e4 _ _ D.i2z.symm (e3.extBut _ _ D.TOz.symm (e2.extBut _ _ D.i1z.symm z1))
  have hez:e≠z:=fun x=>by subst x;rw[z4] at hoe;cases hoe;simp at hce
  refine wpAny_setField_rec z4 (by simp) fun g5 _ e5=>fin g5 e (fun c o c1 c2 c3 c4 x=>e5.extBut _ _ c1 (e4 _ _ c4 (e3.extBut _ _ c2 (e2.extBut _ _ c3 (e1.extBut _ _ c1 x))))) ⟨oe,e5.extBut _ _ hez hoe,hce⟩
end
section
variable {Θ:Tab}
theorem zIr {S:M.S}{p:Nat}{ds:List M.D} (e:M.jW S p=some ds):S[p]? = some (.lst ds):=by
 unfold M.jW at e
 split at e
 ·rename_i ds' e1;cases e;exact e1
 ·cases e
end
end L2
namespace L2
open PySem PySem.Spec PyProof.Rows
section
variable {P:Program}{w:World}{A:Around}{E:Value->Shared->Prop}{s:Shared}
set_option maxHeartbeats 4000000 in
end
end L2
namespace L2
open PySem PySem.Spec PyProof.Rows
section
variable {K:PySem.W.Frag}{Θ:Tab}{ρ:List Addr}{H H':Hp}
section
variable {a:Addr}{o:Obj}{ks:List (Key×V)} (ha:H a=some (.frz o (.dK ks)))
include ha
end
end
end L2
namespace L2
open PySem PySem.Spec PyProof.Rows
noncomputable def Itv (K:PySem.W.Frag) (a:Addr) (xs:List V):It :=
 ⟨fun i H=>SqT K H a xs/\∃ x,xs.reverse[i]? = some x,fun i H x H'=>H'=H/\xs.reverse[i]? = some x,fun i H=>SqT K H a xs/\xs.length <= i⟩
theorem zPg {P:Program}{w:World}{K:PySem.W.Frag}{tg:Expr} (a it:Addr) (xs:List V) (hz:xs.length < 2 ^ 62):zE3 P w K tg (Itv K a xs) [it] it (fun i h=>i <= xs.length/\zC8 h it a ((xs.length:Int) - 1 - (i:Int))) where
 mem:=by simp
 obj:=fun i h st b hb=>by
  have e:b=it:=by simpa using hb
  subst e
  exact⟨_,st.2,fun v z=>nomatch z⟩
 keep:=fun i h h' st k=>⟨st.1,k it (by simp) _ st.2⟩
 item:=by
  intro X hP hw hK hc i pins s σ H E I hf st hg
  subst hP hw hK
  obtain⟨hq,x,hx⟩:=hg
  obtain⟨its,rv,p,_⟩:=I.tuple hq
  have hl:=rv.length
  have hi:i < xs.length:=by have:=(List.getElem?_eq_some_iff.mp hx).1;rwa [List.length_reverse] at this
  have hx2:xs[xs.length - 1 - i]? = some x:=by rw[List.getElem?_reverse hi] at hx;exact hx
  obtain⟨u,hu,ru⟩:=rv.get hx2
  obtain⟨f0,f1,f2,f3,f4,f5⟩:=hf it (by simp)
  have e:(xs.length:Int) - 1 - (i:Int)=((xs.length - 1 - i:Nat):Int):=by omega
  have hit:=st.2
  rw[e] at hit
  refine zPF hit p (by omega) (x:=u) (by simpa using hu) fun h' hit' sb=>?_
  have e2:((xs.length - 1 - i:Nat):Int) - 1=(xs.length:Int) - 1 - ((i+1:Nat):Int):=by omega
  rw[e2] at hit'
  have I1:Inv X pins σ H { s with heap:=h',toks:=s.toks+1 }:=I.turned (t':=s.toks+1) (fun b o hb e=>sb.extBut b o hb e) f0 f1 f3 f4 f5
  exact⟨u,rfl,zFl (s:={ s with heap:=h',toks:=s.toks+1 }) hit' rfl rfl (by decide) ⟨x,H,I1,ru,⟨rfl,hx⟩,⟨hi,hit'⟩,fun b hb=>(hf b hb).1⟩⟩
 done:=by
  intro X hP hw hK hc i pins s σ H E I hf st hg
  subst hP hw hK
  obtain⟨hq,hx⟩:=hg
  obtain⟨f0,f1,f2,f3,f4,f5⟩:=hf it (by simp)
  have e:(xs.length:Int) - 1 - (i:Int) = -1:=by have:=st.1;omega
  have hit:=st.2
  rw[e] at hit
  exact zQb (I.ok.hd hc) hit fun h' eb=>⟨rfl,I.turned (t':=s.toks) (fun b o hb e=>eb b o hb e) f0 f1 f3 f4 f5⟩
 self:=fun _ _ _ _ _ st h=>zKl st.2 h
noncomputable def zT9 (K:PySem.W.Frag) (ta:TA):TI:=fun σ H R=>ta σ H fun vs H1=>∃ a xs,vs=[.ref a]/\SqT K H1 a xs/\R (Itv K a xs) H1
theorem zSF {X:Cx}{a:Expr}{ta:TA}{p pos:Pos}{tg:Expr} (hg:Gl X "reversed") (hm:X.mg "reversed" = none) (ha:PA X [a] ta) (hsa:jG a=true):PI X tg (.Call (.Name "reversed" p) [a] [] pos) (zT9 X.K ta):=by
 intro pins s σ H R I h
 refine Call_ (zAs I hg hm zLI (PyProof.Rows.callWith_type1 (thn (ha pos pins s σ H _ I h) fun us s1 ⟨vs,H1,I1,r1,q1⟩=>?_) (jp hsa) (QZ (by simp))))
 obtain⟨a',xs,rfl,hq,q⟩:=q1
 obtain⟨u1,rfl,e1⟩:∃ u1,us=[u1]/\u1=.ref a':=by
  cases r1 with
  | cons c1 t1=>cases t1;exact⟨_,rfl,c1⟩
 subst e1
 obtain⟨its,rv,p,hz⟩:=I1.tuple hq
 have hl:=rv.length
 rw[sizeLine_eq] at hz
 refine zEf p (by simp;omega) ?_
 have g:zC8 (s1.heap.push { cls:=.type "reversed",data:=.fields #[.ref a',rawInt ((its.toArray.size:Int) - 1)] }) s1.heap.objs.size a' ((its.toArray.size:Int) - 1):=Heap.get?_push_size _ rfl
 refine zKl g ⟨s1.heap.objs.size,[s1.heap.objs.size],_,_,H1,rfl,I1.kept (t':=s1.toks+1+1) fun b o e=>Heap.get?_push_of_some _ e,zPg a' _ xs (by rw[hl];omega),⟨Nat.zero_le _,?_⟩,fun b hb=>?_,q⟩
 ·have e:((its.toArray.size:Int) - 1)=(xs.length:Int) - 1 - ((0:Nat):Int):=by rw[List.size_toArray,hl];omega
  rw[<- e]
  exact g
 ·have e:b=s1.heap.objs.size:=by simpa using hb
  subst e
  exact I1.fpOk (Nat.le_refl _) (I1.hok.fresh (Nat.le_refl _))
section
variable {Θ:Tab}
theorem zQR {K:PySem.W.Frag}{ρ:List Addr}{H:Hp}{a:Addr}{ds:List M.D}{xs:List V} (hq:SqT K H a xs) (r:zT K ρ H ds xs):ItR K Θ ρ H (Itv K a xs) ds.reverse []:=by
 have rr:=r.rev
 refine⟨fun j ρ' S' H' p l rp g hj=>?_,fun j ρ' S' H' v H2 p l rp g hj y=>?_,fun ρ' S' H' p l rp g=>?_⟩
 ·obtain⟨v,e1,_⟩:=rr.get (i:=j) (d:=ds.reverse[j]) (List.getElem?_eq_getElem hj)
  exact⟨l.sqT hq,v,e1⟩
 ·obtain⟨v',e1,rv⟩:=(rr.mono p l).get (i:=j) (d:=ds.reverse[j]) (List.getElem?_eq_getElem hj)
  obtain⟨rfl,y2⟩:=y
  rw[e1] at y2;cases y2
  exact⟨ds.reverse[j],List.getElem?_eq_getElem hj,rv,Le.refl _,rp⟩
 ·exact⟨l.sqT hq,by rw[List.length_reverse,r.length];exact Nat.le_refl _⟩
theorem zLR {X:Cx}{tg e:Expr}{m:M.EM}{p pos:Pos} (hg:Gl X "reversed") (hm:X.mg "reversed" = none) (he:ME X Θ e m) (hs:jG e=true:=by rfl):MI X Θ tg (.Call (.Name "reversed" p) [e] [] pos) (M.zOO m) :=
 (zSF hg hm (zIF he zK0 hs) hs).imp fun σ H R ⟨ρ,σ',S,st,rp,h⟩=>⟨ρ,σ',S,st,rp,by
  have h':zI X.K Θ _ ρ H (((m σ' S).bind fun x s=>match x with
   | .tup ds=>M.R.ok (ds.reverse,([]:M.Gd)) s
   | _=>.no).bind fun p s=>if M.jT p.2 s then .ok p s else .no) R:=h
  show zI X.K Θ _ ρ H ((m σ' S).bind fun x s=>(M.R.ok [] s).bind fun xs s=>.ok (x::xs) s) _
  cases hm:m σ' S with
  | no=>rw[hm] at h';exact h'.elim
  | exc a s=>rw[hm] at h';exact h'.elim
  | ok d S1 =>
   rw[hm] at h'
   intro ρ1 H1 vs p l rp1 rv
   obtain⟨v,ys,rfl,rv,hy⟩:=rv
   cases hy
   cases d with
   | tup ds =>
    obtain⟨a,xs,rfl,hq,r⟩:=rv
    exact⟨a,xs,rfl,hq,h' ρ1 H1 _ p l rp1 (zQR hq r)⟩
   | _=>exact h'.elim⟩
theorem zJg {X:Cx}{tg e:Expr}{m:M.EM}{p pos:Pos} (hg:Gl X "reversed") (hm:X.mg "reversed" = none) (he:WE X Θ e m) (hs:jG e=true:=by rfl):WI X Θ tg (.Call (.Name "reversed" p) [e] [] pos) (M.zOO m):=by with_unfolding_all exact zLR (X:=X) (tg:=tg) (e:=e) (m:=m) (p:=p) (pos:=pos) hg hm he hs
end
theorem zHf:∀ {us:List Value}{ys:List Str},StrsAre us ys->ze (ys.map V.str) us
 | _,_,.nil=>.nil
 | _,_,.cons x t r=>.cons ⟨t,rfl⟩ (zHf r)
noncomputable def zPw (K:PySem.W.Frag):List V->Hp->VK->Prop:=fun xs H Q=>∃ p ys,xs=[.ref p]/\SqL K H p (ys.map V.str)/\ys.length < 64/\∀ q ys',H q=none->ys'.Perm ys->sortedS ys'=true->Q (.ref q) (upd H q (.lst (ys'.map V.str)))
theorem zE2 {X:Cx}{k:Nat} (hr:jY k X.A):qj X (.builtin "sorted") (zPw X.K):=by
 intro pins s σ H xs us Q I r h
 obtain⟨p,ys,rfl,hq,h64,q⟩:=h
 obtain⟨u,rfl,ru⟩:=Jw r
 cases ru
 obtain⟨its,rv,pl,hz⟩:=I.list hq
 have hlen:its.length=ys.length:=by have:=rv.length;simp at this;omega
 refine sorted_strs pl.isList (zED rv) (by omega) fun out ys' a1 a2 a3=>?_
 obtain⟨e,he⟩:=sortedAll_at s.heap its out
 have hl':=a2.length_eq
 refine⟨.ref (s.heap.objs.size+1),_,I.laid (t':=s.toks) (o:=.lst (ys'.map V.str)) (fun b ob q=>sortedAll_old q) (Nat.le_succ _) ⟨by rw[List.length_map,sizeLine_eq];omega,out.toList,e,zHf a1,?_⟩,rfl,q _ _ (I.hok.fresh (Nat.le_succ _)) a2 a3⟩
 simpa [seqObj] using he
theorem zRf (a:M.T):¬ a < a:=fun h=>List.lt_irrefl a h
theorem zI5 {a b c:M.T} (h1:¬ b < a) (h2:¬ c < b):¬ c < a:=by
 rw[List.not_lt] at h1 h2 ⊢
 exact List.le_trans h1 h2
theorem zOV {a b:M.T} (h1:¬ b < a) (h2:¬ a < b):a=b:=by
 rw[List.not_lt] at h1 h2
 exact List.le_antisymm h1 h2
theorem zGM (x:M.T):∀ ts:List M.T,(M.j6.insT' x ts).Perm (x::ts)
 | []=>.refl _
 | y::r=>by
  unfold M.j6.insT'
  split
  ·exact ((zGM x r).cons y).trans (.swap x y r)
  ·exact .refl _
theorem zEm:∀ ts:List M.T,(M.j6 ts).Perm ts
 | []=>.refl _
 | x::r=>(zGM x _).trans ((zEm r).cons x)
theorem zJ1 (x:M.T):∀ ts:List M.T,ts.Pairwise (fun a b=>¬ b < a)->(M.j6.insT' x ts).Pairwise (fun a b=>¬ b < a)
 | [],_=>by unfold M.j6.insT';simp
 | y::r,h=>by
  rw[List.pairwise_cons] at h
  unfold M.j6.insT'
  split
  ·rename_i hy
   rw[List.pairwise_cons]
   refine⟨fun b hb=>?_,zJ1 x r h.2⟩
   rcases List.mem_cons.mp ((zGM x r).mem_iff.mp hb) with rfl | hb
   ·exact fun z=>zRf _ (List.lt_trans z hy)
   ·exact h.1 b hb
  ·rename_i hy
   rw[List.pairwise_cons]
   refine⟨fun b hb=>?_,List.pairwise_cons.mpr h⟩
   rcases List.mem_cons.mp hb with rfl | hb
   ·exact hy
   ·exact zI5 hy (h.1 b hb)
theorem zJF:∀ ts:List M.T,(M.j6 ts).Pairwise (fun a b=>¬ b < a)
 | []=>.nil
 | x::r=>zJ1 x _ (zJF r)
theorem zFx:∀ (p:Str) (l:List Str),risingS p l=true->(p::l).Pairwise (fun a b=>¬ b.cps.toList < a.cps.toList)
 | p,[],_=>by simp
 | p,x::r,h=>by
  unfold risingS at h
  rw[Bool.and_eq_true,Bool.not_eq_true',ltCps_eq,decide_eq_false_iff_not] at h
  have ih:=zFx x r h.2
  rw[List.pairwise_cons]
  refine⟨fun b hb=>?_,ih⟩
  rcases List.mem_cons.mp hb with rfl | hb
  ·exact h.1
  ·exact zI5 h.1 ((List.pairwise_cons.mp ih).1 b hb)
theorem zMl {l:List Str} (h:sortedS l=true):l.Pairwise (fun a b=>¬ b.cps.toList < a.cps.toList):=by
 cases l with
 | nil=>exact .nil
 | cons x r=>exact zFx x r h
theorem zMW {ts:List M.T}{ys:List Str} (hp:ys.Perm (ts.map ofT)) (hs:sortedS ys=true):ys=(M.j6 ts).map ofT:=by
 refine List.Perm.eq_of_pairwise (le:=fun a b=>¬ b.cps.toList < a.cps.toList) (fun a b _ hb h1 h2=>?_) (zMl hs) ?_ (hp.trans ((zEm ts).map ofT).symm)
 ·have e:=zOV h1 h2
  cases a with
  | mk ca=>cases b with
   | mk cb=>exact congrArg Str.mk (Array.toList_inj.mp e)
 ·rw[List.pairwise_map]
  refine (zJF ts).imp fun {a b} h=>?_
  rw[Z5,Z5]
  exact h
section
variable {K:PySem.W.Frag}{Θ:Tab}
theorem zJB:AdN K Θ M.zA3 (zPw K):=by
 intro ρ H S xs Xs Q rp rxs h
 unfold M.zA3 at h
 split at h
 ·rename_i p
  obtain⟨Y,r,rfl,ry,rfl⟩:=rxs
  split at h
  ·rename_i ds e
   obtain⟨a,zs,rfl,ha,hx,rz⟩:=zBJ rp ry (zIr e)
   unfold M.zFn at h
   split at h
   ·rename_i ts et
    obtain⟨rfl,hok⟩:=zE7 et rz
    split at h
    ·rename_i h64
     refine⟨a,ts.map ofT,rfl,SqL.of hx,by rw[List.length_map];exact h64,fun q ys' hq hp hs=>?_⟩
     rw[zMW hp hs]
     exact h.alloc rp (zGY (M.j6 ts) fun t ht=>hok t ((zEm ts).mem_iff.mp ht)) hq
    ·exact h.elim
   ·exact h.elim
  ·exact h.elim
 ·exact h.elim
end
theorem zO8 {X:Cx}:MtR X "str.find" (fun x vs H Q=>∃ z y,x=.str z/\vs=[.str y]/\Q (.int (Txt.find z y)) H):=by
 intro pins s σ H x vs v us Q I rx rv h
 obtain⟨z,y,rfl,rfl,q⟩:=h
 obtain⟨t,rfl⟩:=rx
 obtain⟨u,rfl,tu,rfl⟩:=Jw rv
 exact SC.find ⟨.int _,H,I.tok _,⟨_,rfl⟩,q⟩
theorem zQz (x:M.T) (c:Nat):Txt.find (ofT x) (ofT [c])=M.zD9 c x 0:=by
 unfold Txt.find M.zD9
 rw[List.drop_zero]
 rcases StrLaws.occ_head (ofT x) (ofT [c]) 1 (by decide) with ⟨e,h⟩ | ⟨i,r,e,h,hk⟩
 ·have hn:x.findIdx? (· == c)=none:=by
   rw[List.findIdx?_eq_none_iff]
   intro d hd
   obtain⟨i,hi,q⟩:=List.mem_iff_getElem.mp hd
   cases hb:d == c with
   | false=>rfl
   | true =>
    exact absurd ((zJ4 c x i).mpr (by rw[List.getElem?_eq_getElem hi,q,eq_of_beq hb])) (h i)
  rw[e,hn]
 ·have hi:=(zJ4 c x i).mp h
  have hs:x.findIdx? (· == c)=some i:=by
   rw[List.findIdx?_eq_some_iff_getElem]
   obtain⟨hl,e1⟩:=List.getElem?_eq_some_iff.mp hi
   refine⟨hl,by simp[e1],fun j hj q=>hk j hj ((zJ4 c x j).mpr ?_)⟩
   rw[List.getElem?_eq_getElem (by omega)]
   exact congrArg some (eq_of_beq q)
  rw[e,hs]
  simp
section
variable {K:PySem.W.Frag}{Θ:Tab}
theorem zQk:AdM K Θ M.zL6 (fun x vs H Q=>∃ z y,x=.str z/\vs=[.str y]/\Q (.int (Txt.find z y)) H):=by
 intro ρ H S x xs X Xs Q rp rx rxs h
 unfold M.zL6 at h
 split at h
 ·rename_i z c
  obtain⟨rfl,okz⟩:=rx
  obtain⟨Y,r,rfl,⟨rfl,okc⟩,rfl⟩:=rxs
  split at h
  ·refine⟨ofT z,ofT [c],rfl,rfl,?_⟩
   rw[zQz]
   exact zI.here h rp rfl
  ·exact h.elim
 ·exact h.elim
end
theorem zRX (x:M.T) (u:Tok):Txt.sliceBy (ofT x) none none (-1,u)=ofT x.reverse:=by
 have h:=step_rev_list (ofT x) u
 have hl:(ofT x).length=x.length:=qC x
 have e:(Txt.sliceBy (ofT x) none none (-1,u)).cps.toList=x.reverse:=by
  rw[h,hl]
  refine List.ext_getElem (by simp) fun i h1 h2=>?_
  rw[List.getElem_map,List.getElem_range,List.getElem_reverse]
  have hi:i < x.length:=by simpa using h2
  simp[ofT,Array.getD,show x.length - 1 - i < x.length by omega]
 cases hq:Txt.sliceBy (ofT x) none none (-1,u) with
 | mk c =>
  rw[hq] at e
  exact congrArg Str.mk (Array.toList_inj.mp e)
theorem zRJ {X:Cx}{e st:Expr}{te:TE}{p2 pos:Pos} (he:PE X e te) (hst:PE X st (tC (.int (-1)))):PE X (.Subscript e (.Slice none none (some st) p2) pos) (fun σ H Q=>te σ H fun x H1=>∃ z:M.T,x=.str (ofT z)/\(ofT z).length <= sizeLine/\Q (.str (ofT z.reverse)) H1):=by
 intro pins s σ H Q I h
 refine Subscript_ (thn (he pins s σ H _ I h) fun v s1 ⟨x,H1,I1,r1,q1⟩=>?_)
 obtain⟨z,rfl,hz,q⟩:=q1
 obtain⟨tx,rfl⟩:=r1
 refine wpAny_Slice ?_
 rw[evalPart_none]
 refine wpAny_pure (wpAny_pure ?_)
 rw[evalPart_some]
 refine thn (hst pins s1 σ H1 (fun v H'=>v=.int (-1)/\H'=H1) I1 ⟨rfl,rfl⟩) fun u s2 ⟨y,H2,I2,r2,ey,eh⟩=>?_
 subst ey
 subst eh
 obtain⟨t,rfl⟩:=r2
 have I4:Inv X pins σ H2 { s2 with heap:=s2.heap.push { cls:=.type "slice",data:=.fields #[.none,.none,.int (-1) t] } }:=I2.kept (t':=s2.toks) fun b ob q=>Heap.get?_push_of_some _ q
 show wpAny (model X.prog X.w) X.A (subscriptTail e (.Slice none none (some st) p2) (.str (ofT z) tx) (.ref s2.heap.objs.size)) (EP X pins σ Q) X.xe { s2 with heap:=s2.heap.push { cls:=.type "slice",data:=.fields #[.none,.none,.int (-1) t] } }
 refine wpAny_with_toks (n:=1) I4.tk ?_
 refine tail_any (ops:=[.ref s2.heap.objs.size,.str (ofT z) tx]) (typeIs_str _ _ _) F.slot_str_getitem.lookup ?_ (by with_unfolding_all rfl)
 refine wpAny_getItem_str_slice (l:=none) (u:=none) (st:=some (-1,t)) ⟨_,Heap.get?_push_size _ rfl,rfl,rfl⟩ rfl (post_val_or_str ⟨Nat.le_trans (Txt.sliceBy_le (ofT z) none none (-1,t) (show (-1:Int)≠0 by decide)) hz,fun t' c hc=>⟨.str (ofT z.reverse),H2,I4.tok c hc,⟨t',?_⟩,q⟩⟩)
 exact congrArg (fun y=>Value.str y t') (zRX z t)
section
variable {X:Cx}{Θ:Tab}
theorem PE.or {e:Expr}{t t':TE} (h:PE X e t) (h':PE X e t'):PE X e (fun σ H Q=>t σ H Q\/t' σ H Q):=fun pins s σ H Q I q=>by
 rcases q with q | q
 ·exact h pins s σ H Q I q
 ·exact h' pins s σ H Q I q
theorem zSU {e:Expr}{m:M.EM}{j:Nat}{p1 p2 p3 pos:Pos} (he:ME X Θ e m):ME X Θ (.Subscript e (.Slice none none (some (.UnaryOp .USub (.Constant (.int 1) j p1) p2)) p3) pos) (M.eUn M.zKa m) :=
 (PE.or (zSS he ((zPv zNR zKY).imp fun σ H Q h=>⟨1,rfl,h⟩)) (zRJ he ((zPv zNR zKY).imp fun σ H Q h=>⟨1,rfl,h⟩))).imp fun σ H Q ⟨ρ,σ',S,st,rp,h⟩=>by
  have h':zI X.K Θ (zS X.K) ρ H ((m σ' S).bind M.zKa) Q:=h
  cases hm:m σ' S with
  | no=>rw[hm] at h';exact h'.elim
  | exc a s=>rw[hm] at h';exact h'.elim
  | ok d S1 =>
   rw[hm] at h'
   have go:∀ {Q':VK},(∀ ρ1 H1 v,ρ <+: ρ1->Le H H1->zf X.K Θ ρ1 S1 H1->zS X.K ρ1 H1 d v->Q' v H1)->RdE X.K Θ m σ H Q':=fun q=>⟨ρ,σ',S,st,rp,by rw[hm];exact q⟩
   cases d with
   | ref p =>
    refine .inl (go fun ρ1 H1 v p1 l1 rp1 rx=>?_)
    have h2:zI X.K Θ (zS X.K) ρ H (match M.jW S1 p with | some xs=>M.alloc (.lst xs.reverse) S1 | none=>.no) Q:=h'
    cases e:M.jW S1 p with
    | none=>rw[e] at h2;exact h2.elim
    | some ds =>
     rw[e] at h2
     obtain⟨a,zs,rfl,ha,hx,rz⟩:=zBJ rp1 rx (zIr e)
     exact⟨a,zs,rfl,SqL.of hx,fun p hp=>zI.alloc (zI.weak h2 p1 l1) rp1 rz.rev hp⟩
   | str z =>
    refine .inr (go fun ρ1 H1 v p1 l1 rp1 rx=>?_)
    obtain⟨rfl,ok⟩:=rx
    have h2:zI X.K Θ (zS X.K) ρ H (if z.length <= M.SZ then M.R.ok (.str z.reverse) S1 else .no) Q:=h'
    by_cases hz:z.length <= M.SZ
    ·rw[if_pos hz] at h2
     exact⟨z,rfl,by rw[qC,<- JC];exact hz,h2 ρ1 H1 _ p1 l1 rp1 ⟨rfl,zB7 ok fun c hc=>List.mem_reverse.mp hc⟩⟩
    ·rw[if_neg hz] at h2
     exact h2.elim
   | _=>exact h'.elim
theorem zKn {e:Expr}{m:M.EM}{j:Nat}{p1 p2 p3 pos:Pos} (he:WE X Θ e m):WE X Θ (.Subscript e (.Slice none none (some (.UnaryOp .USub (.Constant (.int 1) j p1) p2)) p3) pos) (M.eUn M.zKa m):=by with_unfolding_all exact zSU (e:=e) (m:=m) (j:=j) (p1:=p1) (p2:=p2) (p3:=p3) (pos:=pos) he
end
theorem zNf {P:Program}{w:World}{A:Around}{z TI TO i1 i2 l1 l2:Addr} (hh:A.handled=none) (D:ZipApart z TI TO i1 i2 l1 l2) :
  Walks P w A z [z,TI,TO,i1,i2,l1,l2] [z,TO,i1,i2] 0 (fun _ _=>False) (fun i h=>ZAt false false z TI TO i1 i2 l1 l2 0 h/\SSq false h l1 #[]/\SSq false h l2 #[]) where
 sub:=fun b hb=>by simp at hb;rcases hb with rfl | rfl | rfl | rfl<;>simp
 frame:=fun _ h h' ⟨st,t1,t2⟩ hk=>⟨⟨hk z (by simp) _ st.zp,hk TI (by simp) _ st.ti,let ⟨a,b,q⟩:=st.to;⟨a,b,hk TO (by simp) _ q⟩,st.n1.at fun o e=>hk i1 (by simp) o e,st.n2.at fun o e=>hk i2 (by simp) o e⟩,t1.at fun o e=>hk l1 (by simp) o e,t2.at fun o e=>hk l2 (by simp) o e⟩
 item:=fun i s Q E hi x hQ=>absurd hi (Nat.not_lt_zero _)
 done:=fun s Q E ⟨st,t1,t2⟩ hQ=>zSj hh D st t1 t2 (.inl rfl) fun h' hk=>hQ h' s.toks fun b o hb eo=>by
  simp at hb
  exact hk b o hb.1 hb.2.1 hb.2.2.1 hb.2.2.2 eo
 self:=fun _ _ _ _ ⟨st,_,_⟩ hQ=>wpAny_pyIter_zip st.zp hQ
theorem zNF {P:Program}{w:World}{A:Around}{E:Value->Shared->Prop}{s:Shared}{l1 l2:Addr}{xs ys:Array Value}{Q:Value->Shared->Prop} (h1:s.heap.IsTuple l1 xs) (h2:s.heap.IsTuple l2 ys)
  (q:∀ h',ZAt false false (s.heap.objs.size+4) (s.heap.objs.size+2) (s.heap.objs.size+3) s.heap.objs.size (s.heap.objs.size+1) l1 l2 0 h'->h'.objs.size=s.heap.objs.size+5->(∀ b o,s.heap.get? b=some o->h'.get? b=some o)->Q (.ref (s.heap.objs.size+4)) { s with heap:=h' }) :
  wpAny (model P w) A (call (.type "zip") [.ref l1,.ref l2]) Q E s:=by
 refine callType_new PySem.F.called_zip (by decide) (PySem.F.typeCall_zip_2 _ _) (PySem.F.newCall_zip_2 _ _) (fun obj=>PySem.F.args_object_init_3 obj _ _) PySem.F.entry_zip_new (zG0 l1 l2 xs ys) ⟨h1,h2,?_⟩
 have n1:(zt1 s.heap l1).objs.size=s.heap.objs.size+1:=Heap.size_push ..
 have n2:(zt2 s.heap l1 l2).objs.size=s.heap.objs.size+2:=by rw[Heap.size_push,n1]
 have n3:(zt3 s.heap l1 l2).objs.size=s.heap.objs.size+3:=by rw[Heap.size_push,n2]
 have n4:(zt4 s.heap l1 l2).objs.size=s.heap.objs.size+4:=by rw[Heap.size_push,n3]
 have n5:(zt5 s.heap l1 l2).objs.size=s.heap.objs.size+5:=by rw[Heap.size_push,n4]
 have up:∀ {h:Heap}{o p b},h.get? b=some o->(h.push p).get? b=some o:=fun e=>Heap.get?_push_of_some _ e
 have g5:(zt5 s.heap l1 l2).get? (zt4 s.heap l1 l2).objs.size=some _:=Heap.get?_push_size _ rfl
 have g4:(zt5 s.heap l1 l2).get? (zt3 s.heap l1 l2).objs.size=some _:=up (Heap.get?_push_size _ rfl)
 have g3:(zt5 s.heap l1 l2).get? (zt2 s.heap l1 l2).objs.size=some _:=up (up (Heap.get?_push_size _ rfl))
 have g2:(zt5 s.heap l1 l2).get? (zt1 s.heap l1).objs.size=some _:=up (up (up (Heap.get?_push_size _ rfl)))
 have g1:(zt5 s.heap l1 l2).get? s.heap.objs.size=some _:=up (up (up (up (Heap.get?_push_size _ rfl))))
 show _/\_
 rw[n2,n3,n4] at g5
 rw[n1,n2] at g3
 rw[n3] at g4
 rw[n1] at g2
 rw[n4]
 exact⟨⟨_,g5,rfl⟩,q _ ⟨g5,g3,⟨_,_,g4⟩,⟨_,g1,rfl,rfl⟩,⟨_,g2,rfl,rfl⟩⟩ n5 fun b o e=>up (up (up (up (up e))))⟩
noncomputable def zTM (K:PySem.W.Frag):List V->Hp->VK->Prop:=fun vs H Q=>∃ p q,vs=[.ref p,.ref q]/\SqT K H p []/\SqT K H q []/\∀ l,H l=none->Q (.ref l) (upd H l (.lst []))
section
variable {X:Cx}{Θ:Tab}{xl xz:Str}{pl pz pos pos2:Pos}{a b:Expr}{t:TA}{k:Nat}
theorem zLU (hr:jY k X.A) (hgl:Gl X xl) (hml:X.mg xl=none) (hvl:bootBuiltins xl=some (.type "list")) (hgz:Gl X xz) (hmz:X.mg xz=none) (hvz:bootBuiltins xz=some (.type "zip")) (ha:PA X [a,b] t)
  (hnl:xl ≠ "__name__" := by decide) (hdl:(xl == ("__debug__" : Str))=false:=by decide) (hnz:xz ≠ "__name__" := by decide) (hdz:(xz == ("__debug__" : Str))=false:=by decide) (hsa:jG a=true:=by rfl) (hsb:jG b=true:=by rfl) :
  PE X (.Call (.Name xl pl) [.Call (.Name xz pz) [a,b] [] pos2] [] pos) (tCB (zTM X.K) t):=by
 intro pins s σ H Q I h
 refine wpAny_Call_Name_kw (zAs I hgl hml hvl ?_ hnl hdl)
 refine PyProof.Rows.callWith_type1 ?_ (jp rfl) rfl
 rw[jp (e:=.Call (.Name xz pz) [a,b] [] pos2) (es:=[]) rfl]
 refine Calls.spliced_cons ?_
 refine wpAny_Call_Name_kw (zAs I hgz hmz hvz ?_ hnz hdz)
 refine PyProof.Rows.callWith_type1 (thn (ha pos2 pins s σ H _ I h) fun us s1 ⟨vs,H1,I1,r1,q1⟩=>?_) (jp hsa) (QZ (by simp[hsb]))
 obtain⟨p,q,rfl,hp,hq,qf⟩:=q1
 obtain⟨u1,u2,rfl,e1,e2⟩:∃ u1 u2,us=[u1,u2]/\u1=.ref p/\u2=.ref q:=by
  cases r1 with
  | cons c1 t1 =>
   cases t1 with
   | cons c2 t2=>cases t2;exact⟨_,_,rfl,c1,c2⟩
 subst e1 e2
 obtain⟨itx,rx,px,zx⟩:=I1.tuple hp
 obtain⟨ity,ry,py,zy⟩:=I1.tuple hq
 cases rx
 cases ry
 have lp:p < s1.heap.objs.size:=by obtain⟨o,g,_⟩:=id px;exact Heap.lt_size g
 have lq:q < s1.heap.objs.size:=by obtain⟨o,g,_⟩:=id py;exact Heap.lt_size g
 have px':=px
 have py':=py
 obtain⟨ox,gx,cx,nx,dx⟩:=px'
 obtain⟨oy,gy,cy,ny,dy⟩:=py'
 refine zNF (xs:=([]:List Value).toArray) (ys:=([]:List Value).toArray) ⟨ox,gx,cx,nx,dx⟩ ⟨oy,gy,cy,ny,dy⟩ fun h1 st sz kk=>?_
 refine Calls.spliced_nil ?_
 have D:=PySem.W.ktu_apart s1.heap.objs.size p q lp lq
 refine zIY (A:=X.A) (T := "zip") (zNf (A:=X.A.in1.in1) hr.hd D) (Nat.zero_le _) (by simp) (fun b hb=>?_) ⟨st,JM (show s1.heap.IsTuple p #[] from ⟨ox,gx,cx,nx,dx⟩) (fun o e=>kk _ o e),JM (show s1.heap.IsTuple q #[] from ⟨oy,gy,cy,ny,dy⟩) (fun o e=>kk _ o e)⟩ (fun h x=>⟨_,x.1.zp,rfl⟩) (by decide) (by decide) (fun s' R E' x q=>?_) fun h' tk' acc c ht hk gS hi=>?_
 ·show b < h1.objs.size
  rw[sz]
  have up:∀ n,n < 5->s1.heap.objs.size+n < s1.heap.objs.size+5:=fun n h=>Nat.add_lt_add_left h _
  simp only[List.mem_cons,List.not_mem_nil,or_false] at hb
  rcases hb with e | e | e | e | e | e | e
  ·rw[e];exact up 4 (by decide)
  ·rw[e];exact up 2 (by decide)
  ·rw[e];exact up 3 (by decide)
  ·rw[e];exact up 0 (by decide)
  ·rw[e];exact up 1 (by decide)
  ·rw[e];exact Nat.lt_of_lt_of_le lp (Nat.le_add_right _ _)
  ·rw[e];exact Nat.lt_of_lt_of_le lq (Nat.le_add_right _ _)
 ·have hT:s'.TypeIs (.ref (s1.heap.objs.size+4)) "zip" := ⟨_,x.1.zp,rfl⟩
  unfold Builtin.List.listLengthHint
  refine wpAny_bind (wpAny_specialOf hT zHM ?_)
  show wpAny (model X.prog X.w) _ (specialOf (Value.ref (s1.heap.objs.size+4)) (Str.ofString "__length_hint__") >>= _) _ _ _
  refine wpAny_bind (wpAny_specialOf hT zF1 ?_)
  exact wpAny_pure (q _ s'.toks (Nat.le_refl _))
 ·have ea:acc = #[]:=by
   have:=hi.1
   simpa using this
  subst ea
  have le1:s1.heap.objs.size <= h1.objs.size:=by rw[sz];exact Nat.le_add_right _ _
  have gS':h'.get? h1.objs.size=some { cls:=.type "list",dict:=none,data:=.seq #[] c,slots:=#[] }:=gS
  have keep:∀ b o,s1.heap.get? b=some o->h'.get? b=some o:=fun b o e=>by
   have hb:=Heap.lt_size e
   exact hk b o (fun hm=>by
    simp only[List.mem_cons,List.not_mem_nil,or_false] at hm
    have nb:∀ n,b≠s1.heap.objs.size+n:=fun n=>Nat.ne_of_lt (Nat.lt_of_lt_of_le hb (Nat.le_add_right _ _))
    rcases hm with e | e | e | e
    ·exact nb 4 e
    ·exact nb 3 e
    ·exact nb 0 e
    ·exact nb 1 e) (kk b o e)
  have hfr:=I1.hok.fresh le1
  exact⟨.ref h1.objs.size,_,I1.laid (t':=tk') (o:=.lst []) keep le1 ⟨Nat.zero_le _,[],c,.nil,gS'⟩ (Nat.lt_of_lt_of_le I1.tk ht),rfl,qf _ hfr⟩
theorem zMg {m:M.AM} (hr:jY k X.A) (hgl:Gl X xl) (hml:X.mg xl=none) (hvl:bootBuiltins xl=some (.type "list")) (hgz:Gl X xz) (hmz:X.mg xz=none) (hvz:bootBuiltins xz=some (.type "zip")) (ha:MA X Θ [a,b] m)
  (hnl:xl ≠ "__name__" := by decide) (hdl:(xl == ("__debug__" : Str))=false:=by decide) (hnz:xz ≠ "__name__" := by decide) (hdz:(xz == ("__debug__" : Str))=false:=by decide) (hsa:jG a=true:=by rfl) (hsb:jG b=true:=by rfl) :
  ME X Θ (.Call (.Name xl pl) [.Call (.Name xz pz) [a,b] [] pos2] [] pos) (M.zR M.zAR m) :=
 (PE.or (zMM hr hgl hml hvl hgz hmz hvz ha hnl hdl hnz hdz hsa hsb) (zLU hr hgl hml hvl hgz hmz hvz ha hnl hdl hnz hdz hsa hsb)).imp fun σ H Q ⟨ρ,σ',S,st,rp,h⟩=>by
  have h':zI X.K Θ (zS X.K) ρ H ((m σ' S).bind fun xs s=>M.zAR xs s) Q:=h
  cases hm:m σ' S with
  | no=>rw[hm] at h';exact h'.elim
  | exc a s=>rw[hm] at h';exact h'.elim
  | ok ds S1 =>
   rw[hm] at h'
   have go:∀ {Q':List V->Hp->Prop},(∀ ρ1 H1 v,ρ <+: ρ1->Le H H1->zf X.K Θ ρ1 S1 H1->zT X.K ρ1 H1 ds v->Q' v H1)->RdA X.K Θ m σ H Q':=fun q=>⟨ρ,σ',S,st,rp,by rw[hm];exact q⟩
   have h2:zI X.K Θ (zS X.K) ρ H (M.zAR ds S1) Q:=h'
   clear h' h
   unfold M.zAR at h2
   split at h2
   ·rename_i xs ys
    by_cases hc:0 < xs.length/\xs.length=ys.length
    ·rw[if_pos hc] at h2
     refine .inl (go fun ρ1 H1 vs p1 l1 rp1 rv=>?_)
     obtain⟨Y,r,rfl,⟨a,zs,rfl,hq,rz⟩,⟨Y',r',rfl,⟨a',zs',rfl,hq',rz'⟩,rfl⟩⟩:=rv
     refine⟨a,a',zs,zs',rfl,hq,hq',by rw[<- rz.length];exact hc.1,by rw[<- rz.length,<- rz'.length];exact hc.2,fun H2 ws l L hl=>?_⟩
     obtain⟨rp2,r2⟩:=zO0 L rp1 rz rz'
     exact zI.alloc (zI.weak h2 p1 (l1.trans L.le)) rp2 r2 hl
    ·rw[if_neg hc] at h2
     by_cases hc2:xs.length=0/\ys.length=0
     ·rw[if_pos hc2] at h2
      refine .inr (go fun ρ1 H1 vs p1 l1 rp1 rv=>?_)
      obtain⟨Y,r,rfl,⟨a,zs,rfl,hq,rz⟩,⟨Y',r',rfl,⟨a',zs',rfl,hq',rz'⟩,rfl⟩⟩:=rv
      obtain rfl:xs=[]:=List.length_eq_zero_iff.mp hc2.1
      obtain rfl:ys=[]:=List.length_eq_zero_iff.mp hc2.2
      cases rz
      cases rz'
      exact⟨a,a',rfl,hq,hq',fun l hl=>zI.alloc (zI.weak h2 p1 l1) rp1 rfl hl⟩
     ·rw[if_neg hc2] at h2
      exact h2.elim
   ·exact h2.elim
theorem zJx {m:M.AM} (hr:jY k X.A) (hgl:Gl X xl) (hml:X.mg xl=none) (hvl:bootBuiltins xl=some (.type "list")) (hgz:Gl X xz) (hmz:X.mg xz=none) (hvz:bootBuiltins xz=some (.type "zip")) (ha:WA X Θ [a,b] m)
  (hnl:xl ≠ "__name__" := by decide) (hdl:(xl == ("__debug__" : Str))=false:=by decide) (hnz:xz ≠ "__name__" := by decide) (hdz:(xz == ("__debug__" : Str))=false:=by decide) (hsa:jG a=true:=by rfl) (hsb:jG b=true:=by rfl) :
  WE X Θ (.Call (.Name xl pl) [.Call (.Name xz pz) [a,b] [] pos2] [] pos) (M.zR M.zAR m):=by with_unfolding_all exact zMg (m:=m) hr hgl hml hvl hgz hmz hvz ha hnl hdl hnz hdz hsa hsb
end
end L2
set_option maxHeartbeats 4000000
namespace M
noncomputable section
noncomputable def zAL:SM :=
  (jN (eOp zN (eC (.str [97,98,99,100,101,102,103,104,105,106,107,108,109,110,111,112,113,114,115,116,117,118,119,120,121,122])) (eOp jr (zD 0) (eC (.int 26)))))
noncomputable def zEU:F:=fn 1 zAL
noncomputable def Qm (c:Int):Nat:=97+(c % 26).toNat
noncomputable def abc:T:=[97,98,99,100,101,102,103,104,105,106,107,108,109,110,111,112,113,114,115,116,117,118,119,120,121,122]
theorem zSe (c:Int):atI abc (c % 26)=some (Qm c):=by
 have a:=Int.emod_nonneg c (show (26:Int)≠0 by decide)
 have b:=Int.emod_lt_of_pos c (show (0:Int) < 26 by decide)
 rw[zDp a (by show _ < ((26:Nat):Int);exact b) 0]
 unfold Qm
 have:∀ n:Nat,n < 26->abc.getD n 0=97+n:=by decide
 rw[this _ (by omega)]
theorem zLd (c:Int):97 <= Qm c/\Qm c <= 122:=by
 have a:=Int.emod_nonneg c (show (26:Int)≠0 by decide)
 have b:=Int.emod_lt_of_pos c (show (0:Int) < 26 by decide)
 unfold Qm
 omega
noncomputable def jj:F
 | [.int c],s=>.ok (.str [Qm c]) s
 | _,_=>.no
theorem zIH:jL 1 zEU jj:=jL.pure fun ds S hl c ca=>by
 match ds,hl with
 | [a],_ =>
  cases a with
  | int c =>
   have e:=zSe c
   unfold abc at e
   have z:(26:Nat) <= SZ:=by decide
   exact .inr ⟨.str [Qm c],[],rfl,by simp[zEU,zAL,e,z],rfl⟩
  | _=>exact .inl rfl
noncomputable def yk:SM :=
  (jD 2 (zAn (JB []) 1 (qe (eC (.int 8))) (jl 5) Qp (zR jj (zC (eOp jr (eOp QA (eOp jJ (eOp yF (zD 0) (eC (.int 468))) (eOp QA (zD 5) (eC (.int 977)))) (eC (.int 48271))) (eC (.int 7919))) zH))))
noncomputable def qy:SM :=
  (jD 3 (eOp zN (qJ (zC (eC (.int 1)) (zC (eC (.int 2)) (zC (eC (.int 3)) (zC (eC (.int 4)) (zC (eC (.int 6)) (zC (eC (.int 8)) zH))))))) (eOp jr (eOp yF (zD 0) (eC (.int 26))) (eC (.int 6)))))
noncomputable def qx:SM :=
  (sIf (zw cEq (eOp jr (eOp yF (zD 0) (eC (.int 156))) (eC (.int 3))) (eC (.int 0)))
  (jN (eSl (zD 2) JZ (yz (eOp jJ (zD 1) (eC (.int 1))))))
  jq)
noncomputable def yn:SM :=
  (jD 4 (eOp jr (eOp yF (zD 0) (eC (.int 468))) (zD 3)))
noncomputable def ym:SM :=
  (sIf (zw cEq (eOp jr (eOp yF (zD 0) (eC (.int 156))) (eC (.int 3))) (eC (.int 1)))
  (jN (eOp jJ (eOp jJ (eSl (zD 2) JZ (yz (zD 4))) (zR jj (zC (eOp jJ (zD 0) (zD 1)) zH))) (eSl (zD 2) (yz (eOp jJ (zD 4) (eC (.int 1)))) (yz (zD 3)))))
  jq)
noncomputable def Za:SM :=
  (jN (eOp jJ (zR jj (zC (eOp jJ (zD 0) (zD 1)) zH)) (eSl (zD 2) (yz (zD 1)) (yz (eOp jJ (zD 1) (eOp jr (eOp jJ (zD 3) (zD 1)) (eC (.int 8))))))))
noncomputable def zAv:SM:=(zK yk (zK qy (zK qx (zK yn (zK ym Za)))))
noncomputable def zHR:F:=fn 5 zAv
noncomputable def QQ (c:Int):T:=(List.range 8).map fun (j:Nat)=>Qm ((c / 468+j * 977) * 48271 % 7919)
noncomputable def qk (c:Int):Int:=([1,2,3,4,6,8]:List Int).getD (c / 26 % 6).toNat 1
noncomputable def plT (c k:Int):T:=if c / 156 % 3=0 then cut (QQ c) none (some (k+1)) else if c / 156 % 3=1 then cut (QQ c) none (some (c / 468 % qk c))++[Qm (c+k)]++cut (QQ c) (some (c / 468 % qk c+1)) (some (qk c)) else [Qm (c+k)]++cut (QQ c) (some k) (some (k+(qk c+k) % 8))
noncomputable def zCK (x:T):Prop:=∀ ch∈x,97 <= ch/\ch <= 122
theorem zD1 {x y:T} (h:zCK x) (k:zCK y):zCK (x++y):=fun ch hc=>(List.mem_append.mp hc).elim (h ch) (k ch)
theorem zGk (c:Int):zCK [Qm c]:=fun ch hc=>by rw[List.mem_singleton.mp hc];exact zLd c
theorem zCz (c:Int):zCK (QQ c):=fun ch hc=>by
 obtain⟨j,_,rfl⟩:=List.mem_map.mp hc
 exact zLd _
theorem zIG {x:T}{lo hi:Option Int}{ch:Nat} (h:ch∈cut x lo hi):ch∈x:=by
 unfold cut at h
 exact List.mem_of_mem_drop (List.mem_of_mem_take h)
theorem zD0 {x:T} (h:zCK x) (lo hi:Option Int):zCK (cut x lo hi):=fun ch hc=>h ch (zIG hc)
theorem zEw (c:Int):(QQ c).length=8:=by simp[QQ]
theorem zQA (c k:Int):zCK (plT c k):=by
 unfold plT
 split
 ·exact zD0 (zCz c) _ _
 ·split
  ·exact zD1 (zD1 (zD0 (zCz c) _ _) (zGk _)) (zD0 (zCz c) _ _)
  ·exact zD1 (zGk _) (zD0 (zCz c) _ _)
theorem zRh (c k:Int):(plT c k).length <= 17:=by
 unfold plT
 have h:=fun lo hi=>zN9 (QQ c) lo hi
 have b:=zEw c
 split
 ·have:=h none (some (k+1));omega
 ·split
  ·have h1:=h none (some (c / 468 % qk c))
   have h2:=h (some (c / 468 % qk c+1)) (some (qk c))
   simp only[List.length_append,List.length_singleton];omega
  ·have h1:=h (some k) (some (k+(qk c+k) % 8))
   simp only[List.length_append,List.length_singleton];omega
theorem zLh (c:Int):atI ([.int 1,.int 2,.int 3,.int 4,.int 6,.int 8]:List D) (c / 26 % 6)=some (.int (qk c))/\0 < qk c/\qk c <= 8:=by
 have a:=Int.emod_nonneg (c / 26) (show (6:Int)≠0 by decide)
 have b:=Int.emod_lt_of_pos (c / 26) (show (0:Int) < 6 by decide)
 unfold qk
 rw[zDp a (by show _ < ((6:Nat):Int);exact b) (.int 1)]
 generalize hn:(c / 26 % 6).toNat=n
 have hn6:n < 6:=by omega
 have:∀ n:Nat,n < 6->([.int 1,.int 2,.int 3,.int 4,.int 6,.int 8]:List D).getD n (.int 1)=.int (([1,2,3,4,6,8]:List Int).getD n 1)/\0 < ([1,2,3,4,6,8]:List Int).getD n 1/\([1,2,3,4,6,8]:List Int).getD n 1 <= 8:=by decide
 have:=this n hn6
 exact⟨by rw[this.1],this.2⟩
noncomputable def ZR:F
 | [.int c,.int k],s=>.ok (.str (plT c k)) s
 | _,_=>.no
theorem zUG (c k:Int) (S:M.S) (r:SM):(yk [some (.int c),some (.int k),none,none,none] S).then r=r [some (.int c),some (.int k),some (.str (QQ c)),none,none] S:=by
 have s1:yS 977=true:=by decide
 have s2:yS 48271=true:=by decide
 have hc:Zp 1 (qe (eC (.int 8))) (jl 5) Qp (zR jj (zC (eOp jr (eOp QA (eOp jJ (eOp yF (zD 0) (eC (.int 468))) (eOp QA (zD 5) (eC (.int 977)))) (eC (.int 48271))) (eC (.int 7919))) zH)) [some (.int c),some (.int k),none,none,none] S=.ok ((List.range 8).map fun (j:Nat)=>.str [Qm ((c / 468+j * 977) * 48271 % 7919)]) S:=by
  have:=zG7 (n:=1) (it:=qe (eC (.int 8))) (tg:=jl 5) (e:=zR jj (zC (eOp jr (eOp QA (eOp jJ (eOp yF (zD 0) (eC (.int 468))) (eOp QA (zD 5) (eC (.int 977)))) (eC (.int 48271))) (eC (.int 7919))) zH)) (σ:=[some (.int c),some (.int k),none,none,none]) (s:=S) (lo:=0) (hi:=8) (fun (j:Nat)=>.str [Qm ((c / 468+j * 977) * 48271 % 7919)]) (by simp) (by decide) fun j hj=>by
   simp[jj,s1,s2]
  exact this
 have hj:=zIj (fun (j:Nat)=>Qm ((c / 468+j * 977) * 48271 % 7919)) (List.range 8) S (by decide)
 simp[yk,hc,hj,QQ]
theorem zGl:jL 2 zHR ZR:=jL.pure fun ds S hl c ca=>by
 match ds,hl with
 | [a,b],_ =>
  cases a with
  | int c =>
   cases b with
   | int k =>
    obtain⟨h1,h2,h3⟩:=zLh c
    refine .inr ⟨.str (plT c k),[.lst [.int 1,.int 2,.int 3,.int 4,.int 6,.int 8]],rfl,?_,rfl⟩
    show ((yk [some (.int c),some (.int k),none,none,none] S).then (zK qy (zK qx (zK yn (zK ym Za))))).out=_
    rw[zUG]
    have z6:(6:Nat) <= SZ:=by decide
    have z8:(8:Nat) <= SZ:=by decide
    have b8:=zEw c
    have h:=fun lo hi=>zN9 (QQ c) lo hi
    have hn:(qk c).natAbs < 1073741824:=by omega
    unfold plT
    by_cases e0:c / 156 % 3=0
    ·simp[qy,qx,z6,z8,h1,e0,b8]
    ·by_cases e1:c / 156 % 3=1
     ·have l1:=h none (some (c / 468 % qk c))
      have l2:=h (some (c / 468 % qk c+1)) (some (qk c))
      have z1:(cut (QQ c) none (some (c / 468 % qk c))).length+1 <= SZ:=by unfold SZ;omega
      have z2:(cut (QQ c) none (some (c / 468 % qk c))).length+1+(cut (QQ c) (some (c / 468 % qk c+1)) (some (qk c))).length <= SZ:=by unfold SZ;omega
      simp[qy,qx,yn,ym,z6,z8,h1,e1,b8,h2,jj,z1]
      exact z2
     ·have l1:=h (some k) (some (k+(qk c+k) % 8))
      have z1:1+(cut (QQ c) (some k) (some (k+(qk c+k) % 8))).length <= SZ:=by unfold SZ;omega
      simp[qy,qx,yn,ym,Za,z6,z8,h1,e0,e1,b8,h2,jj,z1]
   | _=>exact .inl rfl
  | _=>exact .inl rfl
noncomputable def yq:SM :=
  (jD 1 (qJ (zC (eC (.str [111,102])) (zC (eC (.str [105,102])) (zC (eC (.str [105,115])) (zC (eC (.str [116,104,101,110])) (zC (eC (.str [101,108,115,101])) (zC (eC (.str [101,97,99,104])) (zC (eC (.str [100,111])) (zC (eC (.str [105,116])) (zC (eC (.str [98,97,99,107])) (zC (eC (.str [102,105,114,115,116])) (zC (eC (.str [114,101,115,116])) (zC (eC (.str [99,111,117,110,116])) (zC (eC (.str [115,111,114,116,101,100])) zH)))))))))))))))
noncomputable def yp:SM :=
  (jD 1 (eOp jJ (zD 1) (qJ (zC (eC (.str [102,97,105,108])) (zC (eC (.str [108,105,110,101])) (zC (eC (.str [109,111,114,101])) zH))))))
noncomputable def yj:SM :=
  (jD 2 (qJ zH))
noncomputable def qw:SM :=
  (zAE (qe (eC (.int 8))) (jl 3)
  (zK (jD 4 (zR ZR (zC (zD 0) (zC (zD 3) zH))))
  (zK (zAE (qe (eC (.int 26))) (jl 5)
  (sIf (tOr (zw cIn (zD 4) (zD 1)) (zw cIn (zD 4) (zD 2)))
  (jD 4 (eOp jJ (zR jj (zC (eOp jJ (zD 0) (zD 5)) zH)) (eSl (zD 4) (yz (eC (.int 1))) JZ)))
  jq))
  (qc (eM .list JU (zD 2) (zC (zD 4) zH))))))
noncomputable def Zb:SM :=
  (jN (zD 2))
noncomputable def zAi:SM:=(zK yq (zK yp (zK yj (zK qw Zb))))
noncomputable def zHZ:F:=fn 6 zAi
noncomputable def zDz (c:Int) (N:List T) (w:T) (j:Nat):T:=if jU.contains w=true\/N.contains w=true then Qm (c+j)::w.drop 1 else w
noncomputable def yI (c:Int) (k:Nat) (N:List T) (j:Nat):T:=(List.range j).foldl (zDz c N) (plT c k)
noncomputable def qd (c:Int):Nat->List T
 | 0=>[]
 | k+1=>qd c k++[yI c k (qd c k) 26]
theorem zBi (c:Int) (k:Nat) (N:List T) (j:Nat):yI c k N (j+1)=zDz c N (yI c k N j) j:=by
 unfold yI
 rw[List.range_succ,List.foldl_append]
 rfl
theorem zFk (c:Int) (k:Nat) (N:List T):∀ j,zCK (yI c k N j)/\(yI c k N j).length <= 17
 | 0=>⟨zQA c k,zRh c k⟩
 | j+1=>by
  obtain⟨h1,h2⟩:=zFk c k N j
  rw[zBi]
  unfold zDz
  split
  ·refine⟨zD1 (x:=[Qm (c+j)]) (zGk _) fun ch hc=>h1 ch (List.mem_of_mem_drop hc),?_⟩
   simp only[List.length_cons,List.length_drop]
   omega
  ·exact⟨h1,h2⟩
theorem zId (c:Int):∀ k,∀ t∈qd c k,zCK t/\t.length <= 17
 | 0,t,h=>by cases h
 | k+1,t,h=>by
  unfold qd at h
  rcases List.mem_append.mp h with h | h
  ·exact zId c k t h
  ·rw[List.mem_singleton.mp h];exact zFk c k _ 26
theorem zBz (c:Int):∀ k,(qd c k).length=k
 | 0=>rfl
 | k+1=>by rw[qd,List.length_append,zBz c k];rfl
noncomputable def QP:F
 | [.int c],s=>alloc (.lst ((qd c 8).map .str)) s
 | _,_=>.no
noncomputable abbrev zRb:SM:=sIf (tOr (zw cIn (zD 4) (zD 1)) (zw cIn (zD 4) (zD 2)))
  (jD 4 (eOp jJ (zR jj (zC (eOp jJ (zD 0) (zD 5)) zH)) (eSl (zD 4) (yz (eC (.int 1))) JZ)))
  jq
noncomputable abbrev nb1:SM:=jD 4 (zR ZR (zC (zD 0) (zC (zD 3) zH)))
noncomputable abbrev nb2:SM:=zAE (qe (eC (.int 26))) (jl 5) zRb
noncomputable abbrev nb3:SM:=qc (eM .list JU (zD 2) (zC (zD 4) zH))
noncomputable abbrev zM2:SM:=zK nb1 (zK nb2 nb3)
theorem zTE:qw=zAE (qe (eC (.int 8))) (jl 3) zM2:=rfl
theorem zNB {s:M.S}{p:Nat}{ts:List T} (e:s[p]? = some (.lst (ts.map .str))) (x:T):inD (.str x) (.ref p) s=.ok (ts.contains x) s:=by
 simp only[inD,e]
 rw[if_pos (by rw[zEk];rfl),zCk]
theorem zTJ {c:Int}{k:Nat}{K N:List T}{s:M.S}{p q:Nat} (hp:s[p]? = some (.lst (jU.map .str))) (hq:s[q]? = some (.lst (N.map .str))) (v5:Option D) :
  ∃ v5',∀ r,zK nb2 r [some (.int c),some (.ref p),some (.ref q),some (.int (k:Nat)),some (.str (plT c k)),v5] s=r [some (.int c),some (.ref p),some (.ref q),some (.int (k:Nat)),some (.str (yI c k N 26)),v5'] s:=by
 obtain⟨σ',s',e,h1,v5',h2⟩:=zE5 (g:=[]) (f:=zAB (jl 5) zRb) (fun j σ s'=>s'=s/\∃ v5:Option D,σ=[some (.int c),some (.ref p),some (.ref q),some (.int (k:Nat)),some (.str (yI c k N j)),v5]) (y0 0 26) 0 [some (.int c),some (.ref p),some (.ref q),some (.int (k:Nat)),some (.str (plT c k)),v5] s ⟨rfl,v5,rfl⟩ fun j d hd σ s' ⟨es,v5,eσ⟩=>by
  subst es eσ
  have hd':d=.int (j:Int):=by
   unfold y0 at hd
   rw[List.getElem?_map] at hd
   cases q2:(List.range ((26:Int) - 0).toNat)[j]? with
   | none=>rw[q2] at hd;cases hd
   | some m =>
    rw[q2] at hd
    have:=(List.getElem?_eq_some_iff.mp q2).2
    rw[List.getElem_range] at this
    subst this
    simp at hd
    exact hd.symm
  subst hd'
  rw[Nat.zero_add,zBi]
  have hl:=(zFk c k N j).2
  have i1:=zNB hp (yI c k N j)
  have i2:=zNB hq (yI c k N j)
  generalize yI c k N j=w at *
  refine⟨_,s',?_,rfl,rfl,some (.int (j:Int)),rfl⟩
  have z1:w.length <= SZ:=by unfold SZ;omega
  have z2:1+(w.drop 1).length <= SZ:=by rw[List.length_drop];unfold SZ;omega
  have c1:cut w (some 1) none=w.drop 1:=by rw[zHq _ (by decide)];rfl
  unfold zDz
  by_cases a1:jU.contains w=true
  ·simp[-inD,-List.contains_eq_mem,i1,a1,jj,z1,c1]
   simpa using z2
  ·by_cases a2:N.contains w=true
   ·simp[-inD,-List.contains_eq_mem,i1,i2,a1,a2,jj,z1,c1]
    simpa using z2
   ·simp[-inD,-List.contains_eq_mem,i1,i2,a1,a2]
 subst h1 h2
 refine⟨v5',fun r=>?_⟩
 have hg:∀ s,jT [] s=true:=fun _=>rfl
 have q1:(26:Int).natAbs < 4611686018427387904:=by decide
 show ((zAE _ _ _ _ _).then r)=_
 simp only[zAE,qe,eC,R.bind_ok,q1,if_true,R.stm_ok,hg,e,RS.then_nx]
 rfl
theorem zGP:jL 1 zHZ QP:=jL.new fun ds S hl c ca=>by
 match ds,hl with
 | [a],_ =>
  cases a with
  | int c =>
   have z13:(13:Nat) <= SZ:=by decide
   have z3:(3:Nat) <= SZ:=by decide
   have z16:(16:Nat) <= SZ:=by decide
   have z0:(0:Nat) <= SZ:=by decide
   have e3:∀ r,(yq [some (.int c),none,none,none,none,none] S).then (zK yp (zK yj r))=r [some (.int c),some (.ref (S.length+2)),some (.ref (S.length+3)),none,none,none] (S++[.lst ((jU.take 13).map .str),.lst ((jU.drop 13).map .str),.lst (jU.map .str),.lst []]):=fun r=>by
    simp[yq,yp,yj,z13,z3,z16,z0,jU]
   generalize hA:O.lst ((jU.take 13).map .str)=A at *
   generalize hB:O.lst ((jU.drop 13).map .str)=B at *
   obtain⟨σ',s',e,h1,v3,v4,v5,h2⟩:=zE5 (g:=[]) (f:=zAB (jl 3) zM2) (fun k σ s'=>s'=S++[A,B,.lst (jU.map .str),.lst ((qd c k).map .str)]/\∃ v3 v4 v5:Option D,σ=[some (.int c),some (.ref (S.length+2)),some (.ref (S.length+3)),v3,v4,v5]) (y0 0 8) 0 [some (.int c),some (.ref (S.length+2)),some (.ref (S.length+3)),none,none,none] (S++[A,B,.lst (jU.map .str),.lst []]) ⟨rfl,_,_,_,rfl⟩ fun k d hd σ s' ⟨es,v3,v4,v5,eσ⟩=>by
    subst es eσ
    have hk8:k < 8:=by have:=(List.getElem?_eq_some_iff.mp hd).1;simpa [y0] using this
    have hd':d=.int (k:Int):=by
     have:∀ k:Nat,k < 8->(y0 0 8)[k]? = some (.int (k:Int)):=by decide
     rw[this k hk8] at hd
     cases hd;rfl
    subst hd'
    rw[Nat.zero_add]
    obtain⟨v5',ei⟩:=zTJ (c:=c) (k:=k) (K:=jU) (N:=qd c k) (s:=S++[A,B,.lst (jU.map .str),.lst ((qd c k).map .str)]) (p:=S.length+2) (q:=S.length+3) (by simp) (by simp) v5
    refine⟨[some (.int c),some (.ref (S.length+2)),some (.ref (S.length+3)),some (.int (k:Int)),some (.str (yI c k (qd c k) 26)),v5'],S++[A,B,.lst (jU.map .str),.lst ((qd c (k+1)).map .str)],?_,rfl,rfl,_,_,_,rfl⟩
    show zK nb1 (zK nb2 nb3) [some (.int c),some (.ref (S.length+2)),some (.ref (S.length+3)),some (.int (k:Int)),v4,v5] _=_
    have b1:∀ (r:SM) (s:M.S),zK nb1 r [some (.int c),some (.ref (S.length+2)),some (.ref (S.length+3)),some (.int (k:Int)),v4,v5] s=r [some (.int c),some (.ref (S.length+2)),some (.ref (S.length+3)),some (.int (k:Int)),some (.str (plT c k)),v5] s:=fun r s=>by
     simp[ZR]
    rw[b1,ei]
    have zn:(qd c k).length < SZ:=by rw[zBz];unfold SZ;omega
    simp[zn,qd]
   refine .inr ⟨.lst ((qd c 8).map .str),S.length+3,[A,B,.lst (jU.map .str),.lst ((qd c 8).map .str)],rfl,?_,by simp,by omega,zFi _ _⟩
   show ((yq [some (.int c),none,none,none,none,none] S).then (zK yp (zK yj (zK qw Zb)))).out=_
   rw[e3]
   subst h1 h2
   have e4:∀ r,(qw [some (.int c),some (.ref (S.length+2)),some (.ref (S.length+3)),none,none,none] (S++[A,B,.lst (jU.map .str),.lst []])).then r=r [some (.int c),some (.ref (S.length+2)),some (.ref (S.length+3)),v3,v4,v5] (S++[A,B,.lst (jU.map .str),.lst ((qd c 8).map .str)]):=fun r=>by
    rw[zTE]
    have hg:∀ s,jT [] s=true:=fun _=>rfl
    have q1:(8:Int).natAbs < 4611686018427387904:=by decide
    simp only[zAE,qe,eC,R.bind_ok,q1,if_true,R.stm_ok,hg,e,RS.then_nx]
    rfl
   show ((qw _ _).then _).out=_
   rw[e4]
   simp[Zb]
  | _=>exact .inl rfl
noncomputable def zAo:SM :=
  (jN (eOp jr (eOp QA (eOp jJ (zD 0) (eOp QA (eC (.int 7919)) (zD 1))) (eC (.int 48271))) (eC (.int 2147483647))))
noncomputable def zE0:F:=fn 2 zAo
noncomputable def mix (c k:Int):Int:=(c+7919 * k) * 48271 % 2147483647
noncomputable def Jo:F
 | [.int c,.int k],s=>.ok (.int (mix c k)) s
 | _,_=>.no
theorem zJO:jL 2 zE0 Jo:=jL.pure fun ds S hl c ca=>by
 match ds,hl with
 | [a,b],_ =>
  cases a with
  | int c =>
   cases b with
   | int k =>
    have h1:yS 7919=true:=by decide
    have h2:yS 48271=true:=by decide
    exact .inr ⟨_,[],rfl,by simp[zE0,zAo,h1,h2,mix],rfl⟩
   | _=>exact .inl rfl
  | _=>exact .inl rfl
noncomputable def Qw:SM :=
  (zK (sIf (zw cLt (zD 1) (zR Zg (zC (zD 0) zH)))
  (jN (zR Jo (zC (eOp zN (zD 0) (zD 1)) (zC (zD 1) zH))))
  jq)
  (jN (eC (.int 0))))
noncomputable def zBC:F:=fn 2 Qw
noncomputable def zFo (xs:List D) (k:Int):Option Int:=if k < xs.length then (match xs.getD k.toNat .non with | .int i=>some (mix i k) | _=>none) else some 0
noncomputable def jP:F
 | [.ro xs,.int k],s=>if 0 <= k then (match zFo xs k with | some i=>.ok (.int i) s | none=>.no) else .no
 | _,_=>.no
theorem zHl:jL 2 zBC jP:=jL.pure fun ds S hl c ca=>by
 match ds,hl with
 | [a,b],_ =>
  cases a with
  | ro xs =>
   cases b with
   | int k =>
    by_cases h0:0 <= k
    ·have s1:yS 48271=true:=by decide
     have s2:yS 7919=true:=by decide
     by_cases h:k < (xs.length:Int)
     ·have ea:=zDp h0 h (D.non)
      cases hd:xs.getD k.toNat .non with
      | int i =>
       have hc:zFo xs k=some (mix i k):=by unfold zFo;rw[if_pos h,hd]
       exact .inr ⟨_,[],by simp[jP,h0,hc];rfl,by simp[zBC,Qw,h,ea,-List.getD_eq_getElem?_getD,hd,Jo],rfl⟩
      | _=>exact .inl (by simp[jP,h0,zFo,h,-List.getD_eq_getElem?_getD,hd])
     ·exact .inr ⟨.int 0,[],by simp[jP,h0,zFo,h],by simp[zBC,Qw,h],rfl⟩
    ·exact .inl (by simp[jP,h0])
   | _=>exact .inl rfl
  | _=>exact .inl rfl
theorem zSo (c k:Int):0 <= mix c k/\mix c k < 2147483647:=⟨Int.emod_nonneg _ (by decide),Int.emod_lt_of_pos _ (by decide)⟩
noncomputable def qB (ns:List Int) (k:Nat):Int:=if k < ns.length then mix (ns.getD k 0) k else 0
theorem zKU (ns:List Int) (k:Nat):0 <= qB ns k/\qB ns k < 2147483647:=by
 unfold qB
 split
 ·exact zSo _ _
 ·decide
theorem zFm (ns:List Int) (k:Nat) (s:M.S):jP [.ro (ns.map .int),.int (k:Int)] s=.ok (.int (qB ns k)) s:=by
 have h0:(0:Int) <= (k:Int):=by omega
 simp only[jP,h0,if_true]
 unfold zFo qB
 by_cases h:k < ns.length
 ·have h':(k:Int) < ((ns.map D.int).length:Int):=by rw[List.length_map];omega
  rw[if_pos h',if_pos h]
  have:(ns.map D.int).getD (k:Int).toNat .non=.int (ns.getD k 0):=by
   rw[Int.toNat_natCast,List.getD_eq_getElem?_getD,List.getElem?_map,List.getD_eq_getElem?_getD,List.getElem?_eq_getElem h]
   rfl
  rw[this]
 ·have h':¬ (k:Int) < ((ns.map D.int).length:Int):=by rw[List.length_map];omega
  rw[if_neg h',if_neg h]
noncomputable def qH:SM :=
  (sIf (zw cEq (eOp zN (zD 0) (eC (.int 0))) (eC (.str [116,101,120,116])))
  (jN (jx (zC (jx (zC (eC (.str [116,101,120,116])) (zC (eOp zN (zD 0) (eC (.int 1))) zH))) (zC (qJ zH) zH))))
  jq)
noncomputable def qP:SM :=
  (sIf (zw cEq (eOp zN (zD 0) (eC (.int 0))) (eC (.str [108,105,110,101])))
  (jN (jx (zC (jx (zC (eC (.str [116,101,120,116])) (zC (eC (.str [10])) zH))) (zC (qJ zH) zH))))
  jq)
noncomputable def qt:SM :=
  (sIf (zw cEq (eOp zN (zD 0) (eC (.int 0))) (eC (.str [115,116,101,109])))
  (jN (jx (zC (jx (zC (eC (.str [116,101,120,116])) (zC (zD 1) zH))) (zC (qJ zH) zH))))
  jq)
noncomputable def yJ:SM :=
  (jD 3 (eOp zN (zD 0) (eC (.int 1))))
noncomputable def yH:SM :=
  (sIf (zw cEq (eOp zN (zD 0) (eC (.int 0))) (eC (.str [107,105,110])))
  (jD 3 (eOp jJ (eOp jJ (eOp zN (zD 0) (eC (.int 1))) (eC (.str [46]))) (zD 1)))
  jq)
noncomputable def yx:SM :=
  (sIf (zw cIn (zD 3) (zD 2))
  (jN (jx (zC (jx (zC (eC (.str [116,101,120,116])) (zC (eOp zN (zD 2) (zD 3)) zH))) (zC (qJ (zC (zD 3) zH)) zH))))
  jq)
noncomputable def yy:SM :=
  (jN (jx (zC (jx (zC (eC (.str [97,115,107,115])) (zC (zD 3) zH))) (zC (qJ zH) zH))))
noncomputable def Zq:SM:=(zK qH (zK qP (zK qt (zK yJ (zK yH (zK yx yy))))))
noncomputable def zBW:F:=fn 4 Zq
noncomputable abbrev zBX:F:=zBW
noncomputable def Qq (kvs:List (T×T)) (x:T):Option T:=kvs.lookup x
noncomputable def pd (p:T×T):D×D:=(.str p.1,.str p.2)
theorem zFh (x:T):∀ kvs:List (T×T),QE (.str x) (kvs.map pd)=(Qq kvs x).map .str
 | []=>rfl
 | (k,v)::kvs=>by
  have ih:=zFh x kvs
  unfold QE Qq at *
  rw[List.map_cons,List.lookup_cons,List.lookup_cons]
  show (match D.str x == D.str k with | true=>_ | false=>_)=_
  by_cases e:x=k
  ·subst e;simp[pd]
  ·have h1:(D.str x == D.str k)=false:=by simpa using e
   have h2:(x == k)=false:=by simpa using e
   rw[h1,h2]
   exact ih
inductive Bud where
 | txt (t:T) | line | stem | kin (n:T) | thing (n:T)
noncomputable def Bud.d:Bud->D
 | .txt t=>.tup [.str [116,101,120,116],.str t]
 | .line=>.tup [.str [108,105,110,101]]
 | .stem=>.tup [.str [115,116,101,109]]
 | .kin n=>.tup [.str [107,105,110],.str n]
 | .thing n=>.tup [.str [116,104,105,110,103],.str n]
noncomputable def Bud.ok:Bud->Prop
 | .txt t=>t.length <= 100
 | .kin n=>n.length <= 100
 | .thing n=>n.length <= 100
 | _=>True
noncomputable def Qy (ans:List (T×T)) (x:T):(T×T)×List T:=match Qq ans x with
 | some v=>(([116,101,120,116],v),[x])
 | none=>(([97,115,107,115],x),[])
noncomputable def jA (ans:List (T×T)) (st:T):Bud->(T×T)×List T
 | .txt t=>(([116,101,120,116],t),[])
 | .line=>(([116,101,120,116],[10]),[])
 | .stem=>(([116,101,120,116],st),[])
 | .kin n=>Qy ans (n++[46]++st)
 | .thing n=>Qy ans n
noncomputable def jB (r:T×T):D:=.tup [.str r.1,.str r.2]
theorem zHW {S:M.S}{a:Nat}{ans:List (T×T)} (ha:S[a]? = some (.dct (ans.map pd))) (x:T):inD (.str x) (.ref a) S=.ok (Qq ans x).isSome S:=by
 simp only[inD,ha]
 rw[if_pos (show ye (.str x)=true from rfl),zFh,Option.isSome_map]
theorem zG3 {S:M.S}{a:Nat}{ans:List (T×T)} (ha:S[a]? = some (.dct (ans.map pd))) {x v:T} (h:Qq ans x=some v):zN (.ref a) (.str x) S=.ok (.str v) S:=by
 have hd:QE (.str x) (ans.map pd)=some (.str v):=by rw[zFh,h];rfl
 simp only[zN,ha,hd]
 rfl
theorem at0 (x:D) (r:List D):atI (x::r) 0=some x:=by simp[atI,ixN]
theorem at1 (x y:D) (r:List D):atI (x::y::r) 1=some y:=by
 unfold atI ixN
 rw[if_pos (by decide),if_pos (by simp only[List.length_cons];omega)]
 rfl
theorem zNp {S:M.S}{a:Nat}{ans:List (T×T)} (ha:S[a]? = some (.dct (ans.map pd))) (x:T) (v0 v1:Option D):(zK yx yy [v0,v1,some (.ref a),some (.str x)] S).out=.ok (.tup [jB (Qy ans x).1,.ref S.length]) (S++[.lst ((Qy ans x).2.map .str)]):=by
 have z2:(2:Nat) <= SZ:=by decide
 have z1:(1:Nat) <= SZ:=by decide
 have z0:(0:Nat) <= SZ:=by decide
 have hi:=zHW ha x
 unfold Qy
 cases q:Qq ans x with
 | none =>
  rw[q] at hi
  simp[yx,yy,-inD,hi,z0,z1,z2,jB]
 | some v =>
  rw[q] at hi
  have hx:=zG3 ha q
  simp[yx,yy,-inD,hi,-zN,hx,z0,z1,z2,jB]
theorem zP6 {S:M.S}{a:Nat}{ans:List (T×T)} (ha:S[a]? = some (.dct (ans.map pd))) {st:T} (hs:st.length <= 100) (b:Bud) (hb:b.ok):zBX [b.d,.str st,.ref a] S=.ok (.tup [jB (jA ans st b).1,.ref S.length]) (S++[.lst ((jA ans st b).2.map .str)]):=by
 have z2:(2:Nat) <= SZ:=by decide
 have z1:(1:Nat) <= SZ:=by decide
 have z0:(0:Nat) <= SZ:=by decide
 cases b with
 | txt t=>simp[zBW,Zq,qH,Bud.d,at0,at1,jA,jB,z0,z1,z2]
 | line=>simp[zBW,Zq,qH,qP,Bud.d,at0,jA,jB,z0,z1,z2]
 | stem=>simp[zBW,Zq,qH,qP,qt,Bud.d,at0,jA,jB,z0,z1,z2]
 | kin n =>
  have hn:n.length <= 100:=hb
  have z3:n.length+1 <= SZ:=by unfold SZ;omega
  have z4:n.length+1+st.length <= SZ:=by unfold SZ;omega
  have:=zNp ha (n++[46]++st) (some (Bud.kin n).d) (some (.str st))
  show (Zq [some (Bud.kin n).d,some (.str st),some (.ref a),none] S).out=_
  have e:∀ r,(qH [some (Bud.kin n).d,some (.str st),some (.ref a),none] S).then (zK qP (zK qt (zK yJ (zK yH r))))=r [some (Bud.kin n).d,some (.str st),some (.ref a),some (.str (n++[46]++st))] S:=fun r=>by
   simp[qH,qP,qt,yJ,yH,Bud.d,at0,at1,z3,z4]
  show ((qH [some (Bud.kin n).d,some (.str st),some (.ref a),none] S).then (zK qP (zK qt (zK yJ (zK yH (zK yx yy)))))).out=_
  rw[e]
  exact this
 | thing n =>
  have:=zNp ha n (some (Bud.thing n).d) (some (.str st))
  show (Zq [some (Bud.thing n).d,some (.str st),some (.ref a),none] S).out=_
  have e:∀ r,(qH [some (Bud.thing n).d,some (.str st),some (.ref a),none] S).then (zK qP (zK qt (zK yJ (zK yH r))))=r [some (Bud.thing n).d,some (.str st),some (.ref a),some (.str n)] S:=fun r=>by
   simp[qH,qP,qt,yJ,yH,Bud.d,at0,at1]
  show ((qH [some (Bud.thing n).d,some (.str st),some (.ref a),none] S).then (zK qP (zK qt (zK yJ (zK yH (zK yx yy)))))).out=_
  rw[e]
  exact this
noncomputable def zAf:SM :=
  (jN (zHd 1 (iE (eM .str zCI (eM .str zA9 (zD 0) (zC (eC (.str [10])) (zC (eC (.str [32])) zH))) (zC (eC (.str [32])) zH))) (jl 1) (zw cNe (zD 1) (eC (.str []))) (zD 1)))
noncomputable def zE6:F:=fn 1 zAf
noncomputable def ZB:F
 | [.str x],s=>if x.length <= 100000 then alloc (.lst ((zP x).map .str)) s else .no
 | _,_=>.no
theorem zJX:jL 1 zE6 ZB:=jL.new fun ds S hl c ca=>by
 match ds,hl with
 | [.str x],_ =>
  by_cases hz:x.length <= 100000
  ·have h1:2 * x.length+1 <= SZ:=by unfold SZ;omega
   have h2:x.length+2 <= SZ:=by unfold SZ;omega
   have hs:=zBT 32 (yg x)
   have hll:(yg x).length=x.length:=by simp[yg]
   have e:Zp 1 (iE (eM .str zCI (eM .str zA9 (zD 0) (zC (eC (.str [10])) (zC (eC (.str [32])) zH))) (zC (eC (.str [32])) zH))) (jl 1) (zw cNe (zD 1) (eC (.str []))) (zD 1) [some (.str x)] S=.ok ((zP x).map .str) (S++[.lst ((jH 32 (yg x)).map .str)]) :=
    zD6 (ts:=jH 32 (yg x)) (g:=[(S.length,.lst ((jH 32 (yg x)).map .str))]) (fun w=>decide (w≠[])) (by simp[h1,h2];rfl) (by unfold SZ;omega) (by simp[jT]) fun w _=>by by_cases h:w=[]<;>simp[h]
   refine .inr ⟨.lst ((zP x).map .str),S.length+1,[.lst ((jH 32 (yg x)).map .str),.lst ((zP x).map .str)],by simp[ZB,hz],by simp[zE6,zAf,e],by simp,by omega,zFi _ _⟩
  ·exact .inl (by simp[ZB,hz])
 | [.non],_=>exact .inl rfl
 | [.bl _],_=>exact .inl rfl
 | [.int _],_=>exact .inl rfl
 | [.ty _],_=>exact .inl rfl
 | [.ref _],_=>exact .inl rfl
 | [.tup _],_=>exact .inl rfl
 | [.ro _],_=>exact .inl rfl
noncomputable def QN:SM :=
  (zK (jD 1 (qJ (zC (eC (.str [111,102])) (zC (eC (.str [105,102])) (zC (eC (.str [105,115])) (zC (eC (.str [116,104,101,110])) (zC (eC (.str [101,108,115,101])) (zC (eC (.str [101,97,99,104])) (zC (eC (.str [100,111])) (zC (eC (.str [105,116])) (zC (eC (.str [98,97,99,107])) (zC (eC (.str [102,105,114,115,116])) (zC (eC (.str [114,101,115,116])) (zC (eC (.str [99,111,117,110,116])) (zC (eC (.str [115,111,114,116,101,100])) zH)))))))))))))))
  (zK (sIf (tOr (zw cIn (zD 0) (eOp jJ (zD 1) (qJ (zC (eC (.str [102,97,105,108])) (zC (eC (.str [108,105,110,101])) (zC (eC (.str [109,111,114,101])) zH)))))) (ZX (zBh cLe cLe (eC (.int 1)) (zR Zg (zC (zD 0) zH)) (eC (.int 8)))))
  (jN (eC (.bl false)))
  jq)
  (jN (zAn zEi 1 (iE (zD 0)) (jl 2) Qp (zGd cIn (zD 2) (eC (.str [97,98,99,100,101,102,103,104,105,106,107,108,109,110,111,112,113,114,115,116,117,118,119,120,121,122])))))))
noncomputable def zCy:F:=fn 2 QN
noncomputable def yZ:F:=chS zCy
theorem zGo:jL 1 zCy yZ:=Jc _
theorem zLk (c:Nat):∀ x:T,zDF [c] x=x.contains c
 | []=>rfl
 | d::r=>by
  unfold zDF
  rw[zLk c r,List.contains_cons]
  simp[List.isPrefixOf]
theorem zDl (a b:Nat):(([a]:List Nat) < [b])↔a < b:=by
 rw[List.cons_lt_cons_iff];simp
theorem zRB (c:Nat):abc.contains c=QG [c]:=by
 unfold QG
 by_cases h1:97 <= c
 ·by_cases h2:c <= 122
  ·have:∀ n,n < 26->abc.contains (97+n)=true:=by decide
   have e:=this (c - 97) (by omega)
   rw[show 97+(c - 97)=c by omega] at e
   rw[e]
   have a1:¬ ([c]:T) < [97]:=by intro h;have:=(zDl _ _).mp h;omega
   have a2:¬ ([122]:T) < [c]:=by intro h;have:=(zDl _ _).mp h;omega
   simp[a1,a2]
  ·have e:abc.contains c=false:=by
    cases q:abc.contains c with
    | false=>rfl
    | true =>
     have:∀ d∈abc,d <= 122:=by decide
     have:=this c (by simpa using q)
     omega
   have a2:([122]:T) < [c]:=(zDl _ _).mpr (by omega)
   rw[e];simp[a2]
 ·have e:abc.contains c=false:=by
   cases q:abc.contains c with
   | false=>rfl
   | true =>
    have:∀ d∈abc,97 <= d:=by decide
    have:=this c (by simpa using q)
    omega
  have a1:([c]:T) < [97]:=(zDl _ _).mpr (by omega)
  rw[e];simp[a1]
theorem zFD (x:T) (hx:x.length <= 1000) (S:M.S):yZ [.str x] S=.ok (.bl (qb x)) S:=by
 have z13:(13:Nat) <= SZ:=by decide
 have z3:(3:Nat) <= SZ:=by decide
 have z16:(16:Nat) <= SZ:=by decide
 have hz:x.length <= SZ:=by unfold SZ;omega
 have hc:∀ (s:M.S) (v:Option D),Zp 1 (iE (zD 0)) (jl 2) Qp (zGd cIn (zD 2) (eC (.str abc))) [some (.str x),v] s=.ok (x.map fun c=>.bl (QG [c])) s:=fun s v =>
  zHY _ (by simp[hz]) hz fun c _=>by
   have:=zRB c
   simp only[Zh,jl,Qp,zGd,zD,eC,cIn,inD]
   simp
   rw[zLk,this]
 have hall:=fun s=>all_map (fun c=>QG [c]) x s
 have hin:∀ s:M.S,inD (.str x) (.ref s.length) (s++[.lst (jU.map .str)])=.ok (jU.contains x) (s++[.lst (jU.map .str)]):=fun s=>by
  simp only[inD,List.getElem?_concat_length]
  rw[if_pos (by rw[zEk];rfl),zCk]
 have e1:∀ r,(zK (jD 1 (qJ (zC (eC (.str [111,102])) (zC (eC (.str [105,102])) (zC (eC (.str [105,115])) (zC (eC (.str [116,104,101,110])) (zC (eC (.str [101,108,115,101])) (zC (eC (.str [101,97,99,104])) (zC (eC (.str [100,111])) (zC (eC (.str [105,116])) (zC (eC (.str [98,97,99,107])) (zC (eC (.str [102,105,114,115,116])) (zC (eC (.str [114,101,115,116])) (zC (eC (.str [99,111,117,110,116])) (zC (eC (.str [115,111,114,116,101,100])) zH))))))))))))))) r) [some (.str x),none] S=r [some (.str x),some (.ref S.length)] (S++[.lst ((jU.take 13).map .str)]):=fun r=>by
  simp[z13,jU]
 have e2:eOp jJ (zD 1) (qJ (zC (eC (.str [102,97,105,108])) (zC (eC (.str [108,105,110,101])) (zC (eC (.str [109,111,114,101])) zH)))) [some (.str x),some (.ref S.length)] (S++[.lst ((jU.take 13).map .str)])=.ok (.ref (S.length+2)) (S++[.lst ((jU.take 13).map .str),.lst ((jU.drop 13).map .str)]++[.lst (jU.map .str)]):=by
  simp[z3,z16,jU]
 generalize hg:S++[O.lst ((jU.take 13).map .str),.lst ((jU.drop 13).map .str)]=S2 at *
 have hl2:S2.length=S.length+2:=by rw[<- hg];simp
 rw[<- hl2] at e2
 have hin2:=hin S2
 refine Jn (g:=[.lst ((jU.take 13).map .str),.lst ((jU.drop 13).map .str),.lst (jU.map .str)]) ?_ rfl
 have eS:S++[O.lst ((jU.take 13).map .str),.lst ((jU.drop 13).map .str),.lst (jU.map .str)]=S2++[.lst (jU.map .str)]:=by rw[<- hg];simp
 rw[eS]
 show (QN [some (.str x),none] S).out=_
 unfold QN
 rw[e1]
 unfold qb
 simp only[zK,sIf,tOr,zw,zD,List.getElem?_cons_zero,R.bind_ok,e2,cIn,hin2,ZX,zBh,eC,zR,zC,zH,Zg,hz,if_true,cLe]
 by_cases a:jU.contains x=true
 ·rw[a];simp
 ·have a':jU.contains x=false:=(Bool.not_eq_true _).mp a
  rw[a']
  by_cases h1:1 <= x.length
  ·by_cases h2:x.length <= 8
   ·have g1:(1:Int) <= (x.length:Int):=by omega
    have g2:(x.length:Int) <= 8:=by omega
    have:=hc (S2++[.lst (jU.map .str)]) (some (.ref S.length))
    unfold abc at this
    simp[g1,g2,h1,h2,this,hall]
   ·have g1:(1:Int) <= (x.length:Int):=by omega
    have g2:¬ (x.length:Int) <= 8:=by omega
    simp[g1,g2,h1,h2]
  ·have g1:¬ (1:Int) <= (x.length:Int):=by omega
   simp[g1,h1]
noncomputable def Z1:SM :=
  (zK (jD 1 (eM .str zL6 (zD 0) (zC (eC (.str [46])) zH)))
  (zK (sIf (zw cLt (zD 1) (eC (.int 0)))
  (jN (zR yZ (zC (zD 0) zH)))
  jq)
  (jN (zKw (zR yZ (zC (eSl (zD 0) JZ (yz (zD 1))) zH)) (zR yZ (zC (eSl (zD 0) (yz (eOp jJ (zD 1) (eC (.int 1)))) JZ) zH))))))
noncomputable def Qs:F:=fn 2 Z1
noncomputable def Qj:F:=chS Qs
theorem zHH:jL 1 Qs Qj:=Jc _
noncomputable def J6 (x:T):Bool:=match x.findIdx? (· == 46) with
 | none=>qb x
 | some i=>qb (x.take i) && qb (x.drop (i+1))
theorem zOq (x:T) (hx:x.length <= 900) (S:M.S):Qj [.str x] S=.ok (.bl (J6 x)) S:=by
 have hz:x.length <= SZ:=by unfold SZ;omega
 refine Jn (g:=[]) ?_ rfl
 rw[List.append_nil]
 unfold J6
 cases q:x.findIdx? (· == 46) with
 | none =>
  have hf:zD9 46 x 0 = -1:=by unfold zD9;rw[List.drop_zero,q]
  have:=zFD x (by omega) S
  simp[Qs,Z1,hz,hf,this]
 | some i =>
  have hf:zD9 46 x 0=(i:Int):=by unfold zD9;rw[List.drop_zero,q];simp
  have c1:cut x none (some (i:Int))=x.take i:=by rw[zFJ _ (by omega)];simp
  have c2:cut x (some ((i:Int)+1)) none=x.drop (i+1):=by rw[zHq _ (by omega)];congr 1
  have p1:=zFD (x.take i) (by rw[List.length_take];omega) S
  have p2:=zFD (x.drop (i+1)) (by rw[List.length_drop];omega) S
  have hn:¬ ((i:Int) < 0):=by omega
  cases hp:qb (x.take i) with
  | true =>
   rw[hp] at p1
   simp[Qs,Z1,hz,hf,c1,c2,p1,p2,hn,hp]
  | false =>
   rw[hp] at p1
   simp[Qs,Z1,hz,hf,c1,c2,p1,p2,hn,hp]
noncomputable def yd:SM :=
  (sIf (zw cNe (eOp zN (zD 1) (eC (.int 0))) (eC (.str [116,101,120,116])))
  (jN (jx (zC (zD 1) (zC (zD 2) zH))))
  jq)
noncomputable def ZL:SM :=
  (jD 4 (eOp zN (zD 1) (eC (.int 1))))
noncomputable def ZO:SM :=
  (jD 5 (zR ZB (zC (zD 4) zH)))
noncomputable def j7:SM :=
  (sIf (zw cEq (zD 0) (eC (.str [102,97,105,108])))
  (jN (jx (zC (jx (zC (eC (.str [102,97,105,108,115])) (zC (zD 4) zH))) (zC (zD 2) zH))))
  jq)
noncomputable def qL:SM :=
  (sIf (zEx (zw cEq (zD 0) (eC (.str [111,102]))) (zw cIn (zD 4) (zD 3)))
  (jN (jx (zC (jx (zC (eC (.str [116,101,120,116])) (zC (eOp zN (zD 3) (zD 4)) zH))) (zC (eOp jJ (zD 2) (zHd 1 (iE (qJ (zC (zD 4) zH))) (jl 7) (zw zFO (zD 7) (zD 2)) (zD 7))) zH))))
  jq)
noncomputable def qZ:SM :=
  (sIf (zEx (zw cEq (zD 0) (eC (.str [111,102]))) (ZH (zR Qj (zC (zD 4) zH))))
  (jN (jx (zC (jx (zC (eC (.str [97,115,107,115])) (zC (zD 4) zH))) (zC (zD 2) zH))))
  jq)
noncomputable def qz:SM :=
  (sIf (zw cEq (zD 0) (eC (.str [111,102])))
  (jN (jx (zC (jx (zC (eC (.str [102,97,105,108,115])) (zC (eC (.str [110,111,32,110,97,109,101])) zH))) (zC (zD 2) zH))))
  jq)
noncomputable def q0:SM :=
  (jD 6 (zMC (zC (eC (.str [98,97,99,107])) (zC (eUn zKa (zD 4)) (zC (eC (.str [102,105,114,115,116])) (zC (eM .str zAM (eC (.str [])) (zC (eSl (zD 5) JZ (yz (eC (.int 1)))) zH)) (zC (eC (.str [114,101,115,116])) (zC (eM .str zAM (eC (.str [32])) (zC (eSl (zD 5) (yz (eC (.int 1))) JZ) zH)) zH))))))))
noncomputable def q9:SM :=
  (zEE (zD 6) (eC (.str [99,111,117,110,116])) (zR zMQ (zC (zR Zg (zC (zD 5) zH)) zH)))
noncomputable def qp:SM :=
  (zEE (zD 6) (eC (.str [115,111,114,116,101,100])) (eM .str zAM (eC (.str [32])) (zC (zR zA3 (zC (zD 5) zH)) zH)))
noncomputable def Z6:SM :=
  (jN (jx (zC (jx (zC (eC (.str [116,101,120,116])) (zC (eOp zN (zD 6) (zD 0)) zH))) (zC (zD 2) zH))))
noncomputable def zAO:SM:=(zK yd (zK ZL (zK ZO (zK j7 (zK qL (zK qZ (zK qz (zK q0 (zK q9 (zK qp Z6))))))))))
noncomputable def zEV:F:=fn 7 zAO
noncomputable abbrev JK:F:=zEV
noncomputable abbrev j8:T:=[116,101,120,116]
noncomputable abbrev tOf:T:=[111,102]
noncomputable abbrev zBy:T:=[98,97,99,107]
noncomputable abbrev zAy:T:=[102,105,114,115,116]
noncomputable abbrev zBr:T:=[114,101,115,116]
noncomputable abbrev zCO:T:=[99,111,117,110,116]
noncomputable abbrev zJp:T:=[115,111,114,116,101,100]
noncomputable abbrev zBx:T:=[102,97,105,108]
noncomputable abbrev zFQ:T:=[102,97,105,108,115]
noncomputable abbrev zJm:T:=[97,115,107,115]
noncomputable abbrev tNo:T:=[110,111,32,110,97,109,101]
noncomputable def zBu (w t:T):T:=if w=zBy then t.reverse else if w=zAy then qD [32] ((zP t).take 1) else if w=zBr then qD [32] ((zP t).drop 1) else if w=zCO then zAg (zP t).length else qD [32] (j6 (zP t))
noncomputable def yQ (ans:List (T×T)) (w:T) (r:T×T) (used:List T):(T×T)×List T :=
 if r.1≠j8 then (r,used) else if w=zBx then ((zFQ,r.2),used) else if w=tOf then (match Qq ans r.2 with
  | some v=>((j8,v),used++(if r.2∈used then [] else [r.2]))
  | none=>if J6 r.2 then ((zJm,r.2),used) else ((zFQ,tNo),used)) else ((j8,zBu w r.2),used)
noncomputable def W5 (w:T):Prop:=w=zBy\/w=zAy\/w=zBr\/w=zCO\/w=zJp
noncomputable def W7 (w:T):Prop:=w=tOf\/w=zBx\/W5 w
theorem zF7 (c:Nat):∀ (x:T),∀ p∈jH c x,p.length <= x.length
 | [],p,h=>by simp[jH] at h;subst h;simp
 | d::r,p,h=>by
  have ih:=zF7 c r
  unfold jH at h
  split at h
  ·rcases List.mem_cons.mp h with rfl | h
   ·simp
   ·have:=ih p h;simp;omega
  ·split at h
   ·simp at h;subst h;simp
   ·rename_i q qs e
    rw[e] at ih
    rcases List.mem_cons.mp h with rfl | h
    ·have:=ih q (by simp);simp;omega
    ·have:=ih p (by simp[h]);simp;omega
theorem QY {t:T} (h:t.length <= 60):(zP t).length <= 61/\∀ p∈zP t,p.length <= 60:=by
 have hl:(yg t).length=t.length:=by simp[yg]
 have h1:=zBT 32 (yg t)
 have h2:=zF7 32 (yg t)
 unfold zP
 refine⟨Nat.le_trans (List.length_filter_le _ _) (by omega),fun p hp=>?_⟩
 have:=h2 p (List.mem_filter.mp hp).1
 omega
theorem zJI {m:Nat}:∀ ys:List T,(∀ p∈ys,p.length <= m)->(ys.map List.length).sum <= m * ys.length
 | [],_=>by simp
 | y::ys,h=>by
  have:=zJI ys fun p hp=>h p (List.mem_cons_of_mem _ hp)
  have:=h y List.mem_cons_self
  simp only[List.map_cons,List.sum_cons,List.length_cons,Nat.mul_add,Nat.mul_one]
  omega
theorem zCE (x:T) (hx:x.length <= 1) (ys:List T) (hl:ys.length <= 100) (h:∀ p∈ys,p.length <= 100) (s:M.S):JB x (ys.map .str) s=.ok (.str (qD x ys)) s:=by
 unfold JB
 rw[zFP]
 have:=zJI ys h
 have h2:ys.length * x.length <= ys.length * 1:=Nat.mul_le_mul_left _ hx
 dsimp only
 rw[if_pos (by unfold SZ;omega)]
theorem zI0 (ts:List T):(j6 ts).length=ts.length/\∀ p∈j6 ts,p∈ts:=by
 have ins:∀ (x:T) (l:List T),(j6.insT' x l).length=l.length+1/\∀ p∈j6.insT' x l,p=x\/p∈l:=by
  intro x l
  induction l with
  | nil=>simp[j6.insT']
  | cons y l ih =>
   unfold j6.insT'
   split
   ·refine⟨by simp[ih.1],fun p hp=>?_⟩
    rcases List.mem_cons.mp hp with rfl | hp
    ·exact .inr List.mem_cons_self
    ·rcases ih.2 p hp with h | h
     ·exact .inl h
     ·exact .inr (List.mem_cons_of_mem _ h)
   ·refine⟨by simp,fun p hp=>?_⟩
    rcases List.mem_cons.mp hp with rfl | hp
    ·exact .inl rfl
    ·exact .inr hp
 induction ts with
 | nil=>simp[j6]
 | cons t ts ih =>
  unfold j6
  refine⟨by rw[(ins t _).1,ih.1];rfl,fun p hp=>?_⟩
  rcases (ins t _).2 p hp with h | h
  ·rw[h];exact List.mem_cons_self
  ·exact List.mem_cons_of_mem _ (ih.2 p h)
theorem zPR (x y:T) (ts:List T):qD x (ts.take 1)=qD y (ts.take 1):=by
 cases ts with
 | nil=>rfl
 | cons t ts=>rfl
theorem zNN {S:M.S}{a l:Nat}{ans:List (T×T)}{used:List T} (ha:S[a]? = some (.dct (ans.map pd))) (hl:S[l]? = some (.lst (used.map .str))) (hu:used.length <= 10) {w:T} (hw:W7 w) (r:T×T) (hr:r.2.length <= 60) :
  ∃ l' g,JK [.str w,jB r,.ref l,.ref a] S=.ok (.tup [jB (yQ ans w r used).1,.ref l']) (S++g)/\(S++g)[l']? = some (.lst ((yQ ans w r used).2.map .str)):=by
 have z2:(2:Nat) <= SZ:=by decide
 have z1:(1:Nat) <= SZ:=by decide
 obtain⟨tag,t⟩:=r
 dsimp only at hr
 have at0':∀ (x y:D),atI [x,y] 0=some x:=fun x y=>at0 x [y]
 have at1':∀ (x y:D),atI [x,y] 1=some y:=fun x y=>at1 x y []
 unfold yQ
 dsimp only
 by_cases ht:tag=j8
 case neg =>
  refine⟨l,[],?_,?_⟩
  ·rw[if_pos ht]
   simp[zEV,zAO,yd,jB,at0',ht,z2]
  ·rw[if_pos ht,List.append_nil];exact hl
 subst ht
 rw[if_neg (by simp)]
 have hwb:=QY hr
 have hwq:∀ s,ZB [.str t] s=.ok (.ref s.length) (s++[.lst ((zP t).map .str)]):=fun s=>by
  simp only[ZB]
  rw[if_pos (by omega)]
  rfl
 have e3:∀ k,(yd [some (.str w),some (jB (j8,t)),some (.ref l),some (.ref a),none,none,none] S).then (zK ZL (zK ZO k))=k [some (.str w),some (jB (j8,t)),some (.ref l),some (.ref a),some (.str t),some (.ref S.length),none] (S++[.lst ((zP t).map .str)]):=fun k=>by
  simp[yd,ZL,ZO,jB,at0',at1',hwq]
 have hl1:=jQ hl [.lst ((zP t).map .str)]
 have ha1:=jQ ha [.lst ((zP t).map .str)]
 have Zm:∀ d s,(zK j7 (zK qL (zK qZ (zK qz (zK q0 (zK q9 (zK qp Z6)))))) [some (.str w),some (jB (j8,t)),some (.ref l),some (.ref a),some (.str t),some (.ref S.length),none] (S++[.lst ((zP t).map .str)])).out=.ok d s->JK [.str w,jB (j8,t),.ref l,.ref a] S=.ok d s:=fun d s e=>by
  show ((yd [some (.str w),some (jB (j8,t)),some (.ref l),some (.ref a),none,none,none] S).then (zK ZL (zK ZO _))).out=_
  rw[e3]
  exact e
 rcases hw with rfl | rfl | hw
 ·
  rw[if_neg (by decide),if_pos rfl]
  have hi:=zHW ha1 t
  cases q:Qq ans t with
  | none =>
   rw[q] at hi
   have hn:=fun s=>zOq t (by omega) s
   dsimp only
   cases hnm:J6 t with
   | true =>
    rw[hnm] at hn
    refine⟨l,[.lst ((zP t).map .str)],Zm _ _ ?_,by simpa using hl1⟩
    simp[j7,qL,qZ,-inD,hi,hn,z2,jB]
   | false =>
    rw[hnm] at hn
    refine⟨l,[.lst ((zP t).map .str)],Zm _ _ ?_,by simpa using hl1⟩
    simp[j7,qL,qZ,qz,-inD,hi,hn,z2,jB]
  | some v =>
   rw[q] at hi
   dsimp only
   have hx:=zG3 ha1 q
   have hx2:∀ g,zN (.ref a) (.str t) (S++.lst ((zP t).map .str)::g)=.ok (.str v) (S++.lst ((zP t).map .str)::g):=fun g=>zG3 (jQ ha _) q
   have hl2:=jQ hl [.lst ((zP t).map .str),.lst [.str t]]
   have hin:inD (.str t) (.ref l) (S++[.lst ((zP t).map .str),.lst [.str t]])=.ok (used.contains t) (S++[.lst ((zP t).map .str),.lst [.str t]]):=by
    simp only[inD,hl2]
    rw[if_pos (by rw[zEk];rfl),zCk]
   have hc:Zp 1 (iE (qJ (zC (zD 4) zH))) (jl 7) (zw zFO (zD 7) (zD 2)) (zD 7) [some (.str tOf),some (jB (j8,t)),some (.ref l),some (.ref a),some (.str t),some (.ref S.length),none] (S++[.lst ((zP t).map .str)])=.ok ((if t∈used then [] else [t]).map .str) (S++[.lst ((zP t).map .str),.lst [.str t]]):=by
    have:=zD6 (n:=1) (it:=iE (qJ (zC (zD 4) zH))) (tg:=jl 7) (c:=zw zFO (zD 7) (zD 2)) (e:=zD 7) (σ:=[some (.str tOf),some (jB (j8,t)),some (.ref l),some (.ref a),some (.str t),some (.ref S.length),none]) (s:=S++[.lst ((zP t).map .str)]) (s1:=S++[.lst ((zP t).map .str),.lst [.str t]]) (ts:=[t]) (g:=[(S.length+1,.lst ([t].map .str))]) (fun u=>!used.contains u) (by simp[z1]) (show 1 <= SZ by decide) (by simp[jT]) fun u hu'=>by
     have eu:u=t:=by simpa using hu'
     subst eu
     cases hq:used.contains u with
     | true=>rw[hq] at hin;simp[-inD,hin]
     | false=>rw[hq] at hin;simp[-inD,hin]
    rw[this]
    by_cases hm:t∈used
    ·simp[hm]
    ·simp[hm]
   generalize hU:(if t∈used then [] else [t])=U at *
   have hUl:U.length <= 1:=by rw[<- hU];split<;>simp
   have zz:used.length+U.length <= SZ:=by unfold SZ;omega
   refine⟨S.length+3,[.lst ((zP t).map .str),.lst [.str t],.lst (U.map .str),.lst (used.map .str++U.map .str)],Zm _ _ ?_,by simp⟩
   have gl:∀ g,(S++g)[l]? = some (.lst (used.map .str)):=fun g=>jQ hl g
   simp only[jB] at hc ⊢
   simp[j7,qL,-inD,hi,-zN,hx,hx2,hc,z2,gl,zz]
 ·
  rw[if_pos rfl]
  refine⟨l,[.lst ((zP t).map .str)],Zm _ _ ?_,by simpa using hl1⟩
  simp[j7,jB,z2]
 ·have w1:¬ w=zBx:=by rcases hw with rfl | rfl | rfl | rfl | rfl<;>decide
  have w2:¬ w=tOf:=by rcases hw with rfl | rfl | rfl | rfl | rfl<;>decide
  rw[if_neg w1,if_neg w2]
  have zt:t.length <= SZ:=by unfold SZ;omega
  have c1:cut ((zP t).map D.str) none (some 1)=((zP t).take 1).map D.str:=by rw[zFJ _ (by decide)];simp
  have c2:cut ((zP t).map D.str) (some 1) none=((zP t).drop 1).map D.str:=by rw[zHq _ (by decide)];simp
  have j1:=fun s=>zCE [] (by simp) ((zP t).take 1) (by rw[List.length_take];omega) (fun p hp=>Nat.le_trans (hwb.2 p (List.mem_of_mem_take hp)) (by omega)) s
  have j2:=fun s=>zCE [32] (by simp) ((zP t).drop 1) (by rw[List.length_drop];omega) (fun p hp=>Nat.le_trans (hwb.2 p (List.mem_of_mem_drop hp)) (by omega)) s
  have sm:=zI0 (zP t)
  have j3:=fun s=>zCE [32] (by simp) (j6 (zP t)) (by rw[sm.1];omega) (fun p hp=>Nat.le_trans (hwb.2 p (sm.2 p hp)) (by omega)) s
  have z64:(zP t).length < 64:=by omega
  have zs:yS ((zP t).length:Int)=true:=by unfold yS;rw[decide_eq_true_iff];omega
  generalize hA:((zP t).take 1).map D.str=A at *
  generalize hB:((zP t).drop 1).map D.str=Bq at *
  have hfs:∀ s p,s[p]? = some (.lst ((zP t).map .str))->zA3 [.ref p] s=.ok (.ref s.length) (s++[.lst ((j6 (zP t)).map .str)]):=fun s p e=>by
   have:jW s p=some ((zP t).map .str):=by simp[jW,e]
   simp only[zA3,this,zFn,zFP]
   rw[if_pos z64]
   rfl
  generalize hkv:([(.str zBy,.str t.reverse),(.str zAy,.str (qD [] ((zP t).take 1))),(.str zBr,.str (qD [32] ((zP t).drop 1))),(.str zCO,.str (zAg (zP t).length)),(.str zJp,.str (qD [32] (j6 (zP t))))]:List (D×D))=kv5
  have hget:QE (.str w) kv5=some (.str (zBu w t)):=by
   rw[<- hkv]
   rcases hw with rfl | rfl | rfl | rfl | rfl
   ·rfl
   ·rw[zBu,if_neg (by decide),if_pos rfl,zPR [32] []];rfl
   ·rfl
   ·rfl
   ·rfl
  have e8:∀ k,(zK j7 (zK qL (zK qZ (zK qz (zK q0 (zK q9 (zK qp k)))))) [some (.str w),some (jB (j8,t)),some (.ref l),some (.ref a),some (.str t),some (.ref S.length),none] (S++[.lst ((zP t).map .str)]))=k [some (.str w),some (jB (j8,t)),some (.ref l),some (.ref a),some (.str t),some (.ref S.length),some (.ref (S.length+1))] (S++[.lst ((zP t).map .str),.dct kv5,.lst A,.lst Bq,.lst ((j6 (zP t)).map .str)]):=fun k=>by
   have f4:∀ k,(zK j7 (zK qL (zK qZ (zK qz k))) [some (.str w),some (jB (j8,t)),some (.ref l),some (.ref a),some (.str t),some (.ref S.length),none] (S++[.lst ((zP t).map .str)]))=k [some (.str w),some (jB (j8,t)),some (.ref l),some (.ref a),some (.str t),some (.ref S.length),none] (S++[.lst ((zP t).map .str)]):=fun k=>by
    simp[j7,qL,qZ,qz,w1,w2]
   rw[f4]
   have f8:q0 [some (.str w),some (jB (j8,t)),some (.ref l),some (.ref a),some (.str t),some (.ref S.length),none] (S++[.lst ((zP t).map .str)])=.nx [some (.str w),some (jB (j8,t)),some (.ref l),some (.ref a),some (.str t),some (.ref S.length),some (.ref (S.length+1))] (S++[.lst ((zP t).map .str),.dct [(.str zBy,.str t.reverse),(.str zAy,.str (qD [] ((zP t).take 1))),(.str zBr,.str (qD [32] ((zP t).drop 1)))],.lst A,.lst Bq]):=by
    simp[q0,zt,c1,c2,j1,j2,zCF,ye,Qh]
   have f9:q9 [some (.str w),some (jB (j8,t)),some (.ref l),some (.ref a),some (.str t),some (.ref S.length),some (.ref (S.length+1))] (S++[.lst ((zP t).map .str),.dct [(.str zBy,.str t.reverse),(.str zAy,.str (qD [] ((zP t).take 1))),(.str zBr,.str (qD [32] ((zP t).drop 1)))],.lst A,.lst Bq])=.nx [some (.str w),some (jB (j8,t)),some (.ref l),some (.ref a),some (.str t),some (.ref S.length),some (.ref (S.length+1))] (S++[.lst ((zP t).map .str),.dct [(.str zBy,.str t.reverse),(.str zAy,.str (qD [] ((zP t).take 1))),(.str zBr,.str (qD [32] ((zP t).drop 1))),(.str zCO,.str (zAg (zP t).length))],.lst A,.lst Bq]):=by
    have z3:(3:Nat) < SZ:=by decide
    simp[q9,zs,ye,Qh,z3]
   have f10:qp [some (.str w),some (jB (j8,t)),some (.ref l),some (.ref a),some (.str t),some (.ref S.length),some (.ref (S.length+1))] (S++[.lst ((zP t).map .str),.dct [(.str zBy,.str t.reverse),(.str zAy,.str (qD [] ((zP t).take 1))),(.str zBr,.str (qD [32] ((zP t).drop 1))),(.str zCO,.str (zAg (zP t).length))],.lst A,.lst Bq])=.nx [some (.str w),some (jB (j8,t)),some (.ref l),some (.ref a),some (.str t),some (.ref S.length),some (.ref (S.length+1))] (S++[.lst ((zP t).map .str),.dct kv5,.lst A,.lst Bq,.lst ((j6 (zP t)).map .str)]):=by
    have z4:(4:Nat) < SZ:=by decide
    rw[<- hkv]
    simp[qp,-zA3,hfs,j3,ye,Qh,z4]
   show ((q0 _ _).then _)=_
   rw[f8,RS.then_nx]
   show ((q9 _ _).then _)=_
   rw[f9,RS.then_nx]
   show ((qp _ _).then _)=_
   rw[f10,RS.then_nx]
  refine⟨l,[.lst ((zP t).map .str),.dct kv5,.lst A,.lst Bq,.lst ((j6 (zP t)).map .str)],Zm _ _ ?_,jQ hl _⟩
  rw[e8]
  simp[Z6,ye,hget,z2,jB]
noncomputable def Zf:SM :=
  (zBN 4 0 (zD 0) (zD 2))
noncomputable def Zj:SM :=
  (zBN 4 1 (zD 0) (zD 3))
noncomputable def Zk:SM :=
  (zBN 4 2 (zD 0) zHD)
noncomputable def Zo:SM :=
  (zBN 4 3 (zD 0) (eC (.int 0)))
noncomputable def Zi:SM :=
  (zBN 4 4 (zD 0) (qJ zH))
noncomputable def Zl:SM :=
  (zBN 4 5 (zD 0) (qJ (zC (jx (zC (eC (.str [112,97,114,116])) (zC (zD 1) (zC (eC .non) zH)))) zH)))
noncomputable def Zn:SM :=
  (zBN 4 6 (zD 0) (eC .non))
noncomputable def QL:SM:=(zK Zf (zK Zj (zK Zk (zK Zo (zK Zi (zK Zl Zn))))))
noncomputable def zBg:F:=fn 4 QL
noncomputable abbrev ZE:F:=zBg
noncomputable def Wk (S:M.S) (st:T) (a:Nat) (us:List (D×D)) (k:Int) (tx td:List D) (en:D) (g:M.S):M.S :=
 S++(.ins 4 [some (.str st),some (.ref a),some (.ref (S.length+1)),some (.int k),some (.ref (S.length+2)),some (.ref (S.length+3)),some en]::.dct us::.lst tx::.lst td::g)
section
variable {S:M.S}{st:T}{a:Nat}{us us':List (D×D)}{k k':Int}{tx tx' td td':List D}{en en':D}{g:M.S}
theorem wk0:(Wk S st a us k tx td en g)[S.length]? = some (.ins 4 [some (.str st),some (.ref a),some (.ref (S.length+1)),some (.int k),some (.ref (S.length+2)),some (.ref (S.length+3)),some en]):=by simp[Wk]
theorem wk1:(Wk S st a us k tx td en g)[S.length+1]? = some (.dct us):=by simp[Wk]
theorem wk2:(Wk S st a us k tx td en g)[S.length+2]? = some (.lst tx):=by simp[Wk]
theorem wk3:(Wk S st a us k tx td en g)[S.length+3]? = some (.lst td):=by simp[Wk]
theorem wkO {p:Nat}{o:O} (h:S[p]? = some o):(Wk S st a us k tx td en g)[p]? = some o:=jQ h _
theorem ws0:(Wk S st a us k tx td en g).set S.length (.ins 4 [some (.str st),some (.ref a),some (.ref (S.length+1)),some (.int k'),some (.ref (S.length+2)),some (.ref (S.length+3)),some en'])=Wk S st a us k' tx td en' g:=by
 unfold Wk;rw[List.set_append_right _ _ (Nat.le_refl _),Nat.sub_self];rfl
theorem ws1:(Wk S st a us k tx td en g).set (S.length+1) (.dct us')=Wk S st a us' k tx td en g:=by
 unfold Wk;rw[List.set_append_right _ _ (by omega),show S.length+1 - S.length=1 by omega];rfl
theorem ws2:(Wk S st a us k tx td en g).set (S.length+2) (.lst tx')=Wk S st a us k tx' td en g:=by
 unfold Wk;rw[List.set_append_right _ _ (by omega),show S.length+2 - S.length=2 by omega];rfl
theorem ws3:(Wk S st a us k tx td en g).set (S.length+3) (.lst td')=Wk S st a us k tx td' en g:=by
 unfold Wk;rw[List.set_append_right _ _ (by omega),show S.length+3 - S.length=3 by omega];rfl
end
theorem zQ0 (S:M.S) (tree:D) (st:T) (a:Nat):ZE [.ref S.length,tree,.str st,.ref a] (S++[.ins 4 (List.replicate 7 none)])=.ok .non (Wk S st a [] 0 [] [.tup [.str [112,97,114,116],tree,.non]] .non []):=by
 have z3:(3:Nat) <= SZ:=by decide
 have z1:(1:Nat) <= SZ:=by decide
 have z0:(0:Nat) <= SZ:=by decide
 simp[zBg,QL,Zf,Zj,Zk,Zo,Zi,Zl,Zn,z3,z1,z0,Wk,RS.out]
noncomputable def J9:SM :=
  (zBN 4 6 (zD 0) (jx (zC (eC (.str [102,97,105,108,115])) (zC (zD 1) zH))))
noncomputable def zDd:F:=fn 2 J9
noncomputable abbrev y4:F:=zDd
section
variable {S:M.S}{st:T}{a:Nat}{us:List (D×D)}{k:Int}{tx td:List D}{en:D}{g:M.S}
theorem zLn (w:T):y4 [.ref S.length,.str w] (Wk S st a us k tx td en g)=.ok .non (Wk S st a us k tx td (jB (zFQ,w)) g):=by
 have z2:(2:Nat) <= SZ:=by decide
 simp[zDd,J9,wk0,z2,ws0,jB,RS.out]
end
noncomputable def Qb:SM :=
  (sIf (zw cGt (zR Zg (zC (zD 1) zH)) (eC (.int 900)))
  (qc (q8 4 y4 (zD 0) (zC (eC (.str [116,111,111,32,108,111,110,103])) zH)))
  (qc (eM .list JU (ya 4 4 (zD 0)) (zC (zD 1) zH))))
noncomputable def yr:F:=fn 2 Qb
noncomputable abbrev yl:F:=yr
section
variable {S:M.S}{st:T}{a:Nat}{us:List (D×D)}{k:Int}{tx td:List D}{en:D}{g:M.S}
theorem zDm (t:T) (ht:t.length <= 900) (hx:tx.length <= 100):yl [.ref S.length,.str t] (Wk S st a us k tx td en g)=.ok .non (Wk S st a us k (tx++[.str t]) td en g):=by
 have z1:t.length <= SZ:=by unfold SZ;omega
 have z2:tx.length < SZ:=by unfold SZ;omega
 have h:¬ (900:Int) < (t.length:Int):=by omega
 simp[yr,Qb,z1,h,ht,wk0,wk2,z2,ws2,RS.out]
end
noncomputable def qg:SM :=
  (sIf (zw cEq (eOp zN (zD 1) (eC (.int 0))) (eC (.str [116,101,120,116])))
  (jN (eOp zN (zD 1) (eC (.int 1))))
  jq)
noncomputable def yM:SM :=
  (sIf (zw cEq (eOp zN (zD 1) (eC (.int 0))) (eC (.str [108,105,110,101])))
  (jN (eC (.str [10])))
  jq)
noncomputable def ZQ:SM :=
  (sIf (zw cEq (eOp zN (zD 1) (eC (.int 0))) (eC (.str [105,116])))
  (jN (zD 2))
  jq)
noncomputable def ZT:SM :=
  (jN (ya 4 0 (zD 0)))
noncomputable def yB:SM:=(zK qg (zK yM (zK ZQ ZT)))
noncomputable def qV:F:=fn 3 yB
noncomputable abbrev yD:F:=qV
section
variable {S:M.S}{st:T}{a:Nat}{us:List (D×D)}{k:Int}{tx td:List D}{en:D}{g:M.S}
theorem zQ7 (t:T):yD [.ref S.length,(Bud.txt t).d,.non] (Wk S st a us k tx td en g)=.ok (.str t) (Wk S st a us k tx td en g):=by
 simp[qV,yB,qg,Bud.d,at0,at1,RS.out]
theorem zOn:yD [.ref S.length,Bud.line.d,.non] (Wk S st a us k tx td en g)=.ok (.str [10]) (Wk S st a us k tx td en g):=by
 simp[qV,yB,qg,yM,Bud.d,at0,RS.out]
theorem zOv:yD [.ref S.length,Bud.stem.d,.non] (Wk S st a us k tx td en g)=.ok (.str st) (Wk S st a us k tx td en g):=by
 simp[qV,yB,qg,yM,ZQ,ZT,Bud.d,at0,wk0,RS.out]
end
noncomputable def ql:SM :=
  (sIf (zw cIn (zD 1) (ya 4 1 (zD 0)))
  (zK (zEE (ya 4 2 (zD 0)) (zD 1) (eC (.bl true)))
  (qc (q8 4 yl (zD 0) (zC (eOp zN (ya 4 1 (zD 0)) (zD 1)) zH))))
  (zBN 4 6 (zD 0) (jx (zC (eC (.str [97,115,107,115])) (zC (zD 1) zH)))))
noncomputable def ju:F:=fn 2 ql
noncomputable abbrev jv:F:=ju
section
variable {S:M.S}{st:T}{a:Nat}{us:List (D×D)}{k:Int}{tx td:List D}{en:D}{g:M.S}{ans:List (T×T)}
theorem zGQ (ha:S[a]? = some (.dct (ans.map pd))) {x v:T} (h:Qq ans x=some v) (hv:v.length <= 900) (hx:tx.length <= 100) (hu:us.length <= 100):jv [.ref S.length,.str x] (Wk S st a us k tx td en g)=.ok .non (Wk S st a (Qh (.str x) (.bl true) us) k (tx++[.str v]) td en g):=by
 have hi:=zHW (wkO (st:=st) (a:=a) (us:=us) (k:=k) (tx:=tx) (td:=td) (en:=en) (g:=g) ha) x
 rw[h] at hi
 have hg:=fun us=>zG3 (wkO (st:=st) (a:=a) (us:=us) (k:=k) (tx:=tx) (td:=td) (en:=en) (g:=g) ha) h
 have z:us.length < SZ:=by unfold SZ;omega
 have hc:=zDm (S:=S) (st:=st) (a:=a) (us:=Qh (.str x) (.bl true) us) (k:=k) (tx:=tx) (td:=td) (en:=en) (g:=g) v hv hx
 simp[ju,ql,wk0,wk1,-inD,hi,-zN,hg,ye,z,ws1,-yr,hc,RS.out]
theorem zGi (ha:S[a]? = some (.dct (ans.map pd))) {x:T} (h:Qq ans x=none):jv [.ref S.length,.str x] (Wk S st a us k tx td en g)=.ok .non (Wk S st a us k tx td (jB (zJm,x)) g):=by
 have hi:=zHW (wkO (st:=st) (a:=a) (us:=us) (k:=k) (tx:=tx) (td:=td) (en:=en) (g:=g) ha) x
 rw[h] at hi
 have z2:(2:Nat) <= SZ:=by decide
 simp[ju,ql,wk0,-inD,hi,z2,ws0,jB,RS.out]
end
noncomputable def QC:SM :=
  (zAE (zOO (zD 1)) (jl 3)
  (qc (eM .list JU (ya 4 5 (zD 0)) (zC (jx (zC (eC (.str [112,97,114,116])) (zC (zD 3) (zC (zD 2) zH)))) zH))))
noncomputable def JW:F:=fn 4 QC
noncomputable abbrev qW:F:=JW
section
variable {S:M.S}{st:T}{a:Nat}{us:List (D×D)}{k:Int}{tx td:List D}{en:D}{g:M.S}
theorem zRR (p:D) (h:td.length <= 100):qW [.ref S.length,.tup [p],.non] (Wk S st a us k tx td en g)=.ok .non (Wk S st a us k tx (td++[.tup [.str [112,97,114,116],p,.non]]) en g):=by
 have z:td.length < SZ:=by unfold SZ;omega
 have z3:(3:Nat) <= SZ:=by decide
 have hg:∀ s,jT [] s=true:=fun _=>rfl
 simp[JW,QC,Qv,hg,wk0,wk3,z,z3,ws3,RS.out]
end
noncomputable def ZM:SM :=
  (zK (jD 3 (eOp zN (zD 1) (eC (.int 0))))
  (sIf (zw cEq (zD 3) (eC (.str [106,111,105,110])))
  (zK (qc (eM .list JU (ya 4 5 (zD 0)) (zC (jx (zC (eC (.str [106,111,105,110])) (zC (eOp zFc (zR Zg (zC (zD 1) zH)) (eC (.int 1))) zH))) zH)))
  (qc (q8 4 qW (zD 0) (zC (eSl (zD 1) (yz (eC (.int 1))) JZ) (zC (zD 2) zH)))))
  (sIf (zw cEq (zD 3) (eC (.str [105,102])))
  (zK (qc (eM .list JU (ya 4 5 (zD 0)) (zC (jx (zC (eC (.str [105,102])) (zC (zD 1) (zC (zD 2) zH)))) zH)))
  (qc (q8 4 qW (zD 0) (zC (eSl (zD 1) (yz (eC (.int 1))) (yz (eC (.int 3)))) (zC (zD 2) zH)))))
  (sIf (zw cEq (zD 3) (eC (.str [101,97,99,104])))
  (zK (qc (eM .list JU (ya 4 5 (zD 0)) (zC (jx (zC (eC (.str [101,97,99,104])) (zC (eOp zN (zD 1) (eC (.int 2))) zH))) zH)))
  (qc (q8 4 qW (zD 0) (zC (eSl (zD 1) (yz (eC (.int 1))) (yz (eC (.int 2)))) (zC (zD 2) zH)))))
  (zK (qc (eM .list JU (ya 4 5 (zD 0)) (zC (jx (zC (zD 3) zH)) zH)))
  (qc (q8 4 qW (zD 0) (zC (eSl (zD 1) (yz (eC (.int 1))) JZ) (zC (zD 2) zH)))))))))
noncomputable def Qu:F:=fn 4 ZM
noncomputable abbrev ZN:F:=Qu
section
variable {S:M.S}{st:T}{a:Nat}{us:List (D×D)}{k:Int}{tx td:List D}{en:D}{g:M.S}
theorem zO5 {w:T} (hw:W7 w) (p:D) (h:td.length <= 50):ZN [.ref S.length,.tup [.str w,p],.non] (Wk S st a us k tx td en g)=.ok .non (Wk S st a us k tx (td++[.tup [.str w],.tup [.str [112,97,114,116],p,.non]]) en g):=by
 have z:td.length < SZ:=by unfold SZ;omega
 have z1:(1:Nat) <= SZ:=by decide
 have n1:¬ w=[106,111,105,110]:=by rcases hw with rfl | rfl | rfl | rfl | rfl | rfl | rfl<;>decide
 have n2:¬ w=[105,102]:=by rcases hw with rfl | rfl | rfl | rfl | rfl | rfl | rfl<;>decide
 have n3:¬ w=[101,97,99,104]:=by rcases hw with rfl | rfl | rfl | rfl | rfl | rfl | rfl<;>decide
 have hp:=zRR (S:=S) (st:=st) (a:=a) (us:=us) (k:=k) (tx:=tx) (td:=td++[.tup [.str w]]) (en:=en) (g:=g) p (by simp;omega)
 have c1:cut [D.str w,p] (some 1) none=[p]:=rfl
 have c2:sIx 2 0 (some 1)=1:=rfl
 simp[Qu,ZM,at0,n1,n2,n3,wk0,wk3,z,z1,ws3,c1,c2,-JW,hp,RS.out]
end
noncomputable def ZK:SM :=
  (zK (zBD zJn 4 3 (zD 0) (eC (.int 1)))
  (sIf (zw cGt (ya 4 3 (zD 0)) (eC (.int 500)))
  (qc (q8 4 y4 (zD 0) (zC (eC (.str [116,111,111,32,109,117,99,104])) zH)))
  (sIf (zw cIn (eOp zN (zD 1) (eC (.int 0))) (jx (zC (eC (.str [116,101,120,116])) (zC (eC (.str [108,105,110,101])) (zC (eC (.str [105,116])) (zC (eC (.str [115,116,101,109])) zH))))))
  (qc (q8 4 yl (zD 0) (zC (q8 4 yD (zD 0) (zC (zD 1) (zC (zD 2) zH))) zH)))
  (sIf (zw cEq (eOp zN (zD 1) (eC (.int 0))) (eC (.str [116,104,105,110,103])))
  (qc (q8 4 jv (zD 0) (zC (eOp zN (zD 1) (eC (.int 1))) zH)))
  (sIf (zw cEq (eOp zN (zD 1) (eC (.int 0))) (eC (.str [107,105,110])))
  (qc (q8 4 jv (zD 0) (zC (eOp jJ (eOp jJ (eOp zN (zD 1) (eC (.int 1))) (eC (.str [46]))) (ya 4 0 (zD 0))) zH)))
  (qc (q8 4 ZN (zD 0) (zC (zD 1) (zC (zD 2) zH)))))))))
noncomputable def zC5:F:=fn 3 ZK
noncomputable abbrev yY:F:=zC5
section
variable {S:M.S}{st:T}{a:Nat}{us:List (D×D)}{k:Int}{tx td:List D}{en:D}{g:M.S}{ans:List (T×T)}
noncomputable def zAx (S:M.S) (st:T) (a:Nat) (ans:List (T×T)) (k:Int) (td:List D) (g:M.S) (b:Bud):M.S :=
 let r:=jA ans st b
 if r.1.1=j8 then Wk S st a (r.2.map fun x=>(.str x,.bl true)) k [.str r.1.2] td .non g else Wk S st a [] k [] td (jB r.1) g
theorem zIu (ha:S[a]? = some (.dct (ans.map pd))) (hv:∀ p∈ans,p.2.length <= 60) (hs:st.length <= 60) (b:Bud) (hb:b.ok) (hk:k <= 400):yY [.ref S.length,b.d,.non] (Wk S st a [] k [] td .non g)=.ok .non (zAx S st a ans (k+1) td g b):=by
 have z4:(4:Nat) <= SZ:=by decide
 have h5:¬ 500 < k+1:=by omega
 have fl:∀ x:T,(flat (D.str x) && ([D.str [116,101,120,116],D.str [108,105,110,101],D.str [105,116],D.str [115,116,101,109]].all flat))=true:=fun _=>rfl
 have Zm:∀ r,(zBD zJn 4 3 (zD 0) (eC (.int 1)) [some (.ref S.length),some b.d,some .non] (Wk S st a [] k [] td .non g)).then r=r [some (.ref S.length),some b.d,some .non] (Wk S st a [] (k+1) [] td .non g):=fun r=>by
  simp[wk0,ws0]
 have vlen:∀ {x v:T},Qq ans x=some v->v.length <= 900:=fun {x v} h=>by
  obtain⟨l1,l2,e,_⟩:=List.lookup_eq_some_iff.mp h
  have:=hv (x,v) (by rw[e];simp)
  dsimp only at this
  omega
 show (ZK [some (.ref S.length),some b.d,some .non] (Wk S st a [] k [] td .non g)).out=_
 unfold ZK
 show (((zBD zJn 4 3 (zD 0) (eC (.int 1)) [some (.ref S.length),some b.d,some .non] (Wk S st a [] k [] td .non g)).then _).out)=_
 rw[Zm]
 cases b with
 | txt t =>
  have hb':t.length <= 100:=hb
  have h1:=zQ7 (S:=S) (st:=st) (a:=a) (us:=[]) (k:=k+1) (tx:=[]) (td:=td) (en:=.non) (g:=g) t
  have h2:=zDm (S:=S) (st:=st) (a:=a) (us:=[]) (k:=k+1) (tx:=[]) (td:=td) (en:=.non) (g:=g) t (by omega) (by simp)
  simp only[Bud.d] at h1 ⊢
  simp[wk0,h5,at0,flat,JX,eqF,z4,-qV,-yr,h1,h2,zAx,jA,RS.out]
 | line =>
  have h1:=zOn (S:=S) (st:=st) (a:=a) (us:=[]) (k:=k+1) (tx:=[]) (td:=td) (en:=.non) (g:=g)
  have h2:=zDm (S:=S) (st:=st) (a:=a) (us:=[]) (k:=k+1) (tx:=[]) (td:=td) (en:=.non) (g:=g) [10] (by simp) (by simp)
  simp only[Bud.d] at h1 ⊢
  simp[wk0,h5,at0,flat,JX,eqF,z4,-qV,-yr,h1,h2,zAx,jA,RS.out]
 | stem =>
  have h1:=zOv (S:=S) (st:=st) (a:=a) (us:=[]) (k:=k+1) (tx:=[]) (td:=td) (en:=.non) (g:=g)
  have h2:=zDm (S:=S) (st:=st) (a:=a) (us:=[]) (k:=k+1) (tx:=[]) (td:=td) (en:=.non) (g:=g) st (by omega) (by simp)
  simp only[Bud.d] at h1 ⊢
  simp[wk0,h5,at0,flat,JX,eqF,z4,-qV,-yr,h1,h2,zAx,jA,RS.out]
 | thing n =>
  unfold zAx
  dsimp only[jA]
  unfold Qy
  cases q:Qq ans n with
  | none =>
   have h1:=zGi (S:=S) (st:=st) (a:=a) (us:=[]) (k:=k+1) (tx:=[]) (td:=td) (en:=.non) (g:=g) ha q
   simp only[Bud.d]
   simp[wk0,h5,at0,at1,flat,JX,eqF,z4,-ju,h1,RS.out]
  | some v =>
   have h1:=zGQ (S:=S) (st:=st) (a:=a) (us:=[]) (k:=k+1) (tx:=[]) (td:=td) (en:=.non) (g:=g) ha q (vlen q) (by simp) (by simp)
   simp only[Bud.d]
   simp[wk0,h5,at0,at1,flat,JX,eqF,z4,-ju,h1,RS.out,Qh]
 | kin n =>
  have hb':n.length <= 100:=hb
  have z5:n.length+1 <= SZ:=by unfold SZ;omega
  have z6:n.length+1+st.length <= SZ:=by unfold SZ;omega
  unfold zAx
  dsimp only[jA]
  unfold Qy
  cases q:Qq ans (n++[46]++st) with
  | none =>
   have h1:=zGi (S:=S) (st:=st) (a:=a) (us:=[]) (k:=k+1) (tx:=[]) (td:=td) (en:=.non) (g:=g) ha q
   simp only[List.append_assoc,List.cons_append,List.nil_append] at h1
   simp only[Bud.d]
   simp[wk0,h5,at0,at1,flat,JX,eqF,z4,z5,z6,-ju,h1,RS.out]
  | some v =>
   have h1:=zGQ (S:=S) (st:=st) (a:=a) (us:=[]) (k:=k+1) (tx:=[]) (td:=td) (en:=.non) (g:=g) ha q (vlen q) (by simp) (by simp)
   simp only[List.append_assoc,List.cons_append,List.nil_append] at h1
   simp only[Bud.d]
   simp[wk0,h5,at0,at1,flat,JX,eqF,z4,z5,z6,-ju,h1,RS.out,Qh]
theorem zMq {w:T} (hw:W7 w) (p:D) (hk:k <= 400):yY [.ref S.length,.tup [.str w,p],.non] (Wk S st a [] k [] [] .non g)=.ok .non (Wk S st a [] (k+1) [] [.tup [.str w],.tup [.str [112,97,114,116],p,.non]] .non g):=by
 have z4:(4:Nat) <= SZ:=by decide
 have h5:¬ 500 < k+1:=by omega
 have hi:=zO5 (S:=S) (st:=st) (a:=a) (us:=[]) (k:=k+1) (tx:=[]) (td:=[]) (en:=.non) (g:=g) hw p (by simp)
 have hm:JX (.str w) [D.str [116,101,120,116],D.str [108,105,110,101],D.str [105,116],D.str [115,116,101,109]]=false:=by rcases hw with rfl | rfl | rfl | rfl | rfl | rfl | rfl<;>decide
 have n1:¬ w=[116,104,105,110,103]:=by rcases hw with rfl | rfl | rfl | rfl | rfl | rfl | rfl<;>decide
 have n2:¬ w=[107,105,110]:=by rcases hw with rfl | rfl | rfl | rfl | rfl | rfl | rfl<;>decide
 simp[zC5,ZK,wk0,ws0,h5,at0,flat,hm,n1,n2,z4,-Qu,hi,RS.out]
end
noncomputable def zBU:SM :=
  (jN (zKu cLe cLe (eC (.str [97])) (zD 0) (eC (.str [122]))))
noncomputable def zFy:F:=fn 1 zBU
noncomputable def JS:F
 | [.str x],s=>.ok (.bl (QG x)) s
 | _,_=>.no
theorem zKB:jL 1 zFy JS:=jL.pure fun ds S hl c ca=>by
 match ds,hl with
 | [a],_ =>
  cases a with
  | str x=>exact .inr ⟨_,[],rfl,by by_cases h:x < [97]<;>simp[zFy,zBU,QG,h],rfl⟩
  | _=>exact .inl rfl
noncomputable def qX:SM :=
  (zK (sIf (tOr (ZX (ZH (zR Qi (zC (zD 0) (zC (eC (.ty .str)) zH))))) (ZX (zBh cLe cLe (eC (.int 1)) (zR Zg (zC (zD 0) zH)) (eC (.int 8)))))
  (jN (eC (.bl false)))
  jq)
  (jN (zKw (zAn zEi 1 (iE (zD 0)) (jl 1) Qp (zR JS (zC (zD 1) zH))) (zGd zFO (zD 0) (eC (.tup [(.str [111,102]),(.str [105,102]),(.str [105,115]),(.str [116,104,101,110]),(.str [101,108,115,101]),(.str [101,97,99,104]),(.str [100,111]),(.str [105,116]),(.str [98,97,99,107]),(.str [102,105,114,115,116]),(.str [114,101,115,116]),(.str [99,111,117,110,116]),(.str [115,111,114,116,101,100]),(.str [102,97,105,108]),(.str [108,105,110,101]),(.str [109,111,114,101])]))))))
noncomputable def yG:F:=fn 1 qX
noncomputable def qY:F
 | [.str x],s=>if x.length <= SZ then .ok (.bl (qb x)) s else .no
 | [d],s=>if zAN s d then .ok (.bl false) s else .no
 | _,_=>.no
theorem zLJ:jL 1 yG qY:=jL.pure fun ds S hl c ca=>by
 match ds,hl with
 | [a],_ =>
  cases a with
  | str x =>
   by_cases hz:x.length <= SZ
   ·refine .inr ⟨_,[],by simp[qY,hz];rfl,?_,rfl⟩
    have e:Zp 1 (iE (zD 0)) (jl 1) Qp (zR JS (zC (zD 1) zH)) [some (.str x)] S=.ok (x.map fun c=>.bl (QG [c])) S :=
     zHY _ (by simp[hz]) hz fun c _=>by simp[JS]
    by_cases h1:1 <= x.length
    ·by_cases h8:x.length <= 8
     ·have h1':¬ (x.length:Int) < 1:=by omega
      have h8':¬ (8:Int) < (x.length:Int):=by omega
      cases hA:(x.all fun c=>QG [c]) with
      | true =>
       by_cases hk:x∈jU<;>simp[yG,qX,hz,h1',h8',h1,h8,e,all_map,hA,qb,zTL,zCk,flat,hk]
      | false=>simp[yG,qX,hz,h1',h8',h1,h8,e,all_map,hA,qb]
     ·have h8':(8:Int) < (x.length:Int):=by omega
      simp[yG,qX,hz,h8',qb,h8]
    ·have h1':(x.length:Int) < 1:=by omega
     simp[yG,qX,hz,h1',qb,h1]
   ·exact .inl (by simp[qY,hz])
  | non=>exact .inr ⟨_,[],rfl,by simp[yG,qX],rfl⟩
  | bl b=>exact .inr ⟨_,[],rfl,by simp[yG,qX],rfl⟩
  | int b=>exact .inr ⟨_,[],rfl,by simp[yG,qX],rfl⟩
  | tup b=>exact .inr ⟨_,[],rfl,by simp[yG,qX],rfl⟩
  | ro b=>exact .inr ⟨_,[],rfl,by simp[yG,qX],rfl⟩
  | ty b=>exact .inl rfl
  | ref p =>
   cases h:S[p]? with
   | none=>exact .inl (by simp[qY,zAN,h])
   | some o =>
    cases o with
    | lst xs=>exact .inr ⟨_,[],by simp[qY,zAN,h];rfl,by simp[yG,qX,h],rfl⟩
    | dct xs=>exact .inr ⟨_,[],by simp[qY,zAN,h];rfl,by simp[yG,qX,h],rfl⟩
    | ins c fs=>exact .inl (by simp[qY,zAN,h])
    | fdc _=>exact .inl (by simp[qY,zAN,h])
noncomputable def yv:SM :=
  (zK (sIf (ZX (ZH (zR Qi (zC (zD 0) (zC (eC (.ty .str)) zH)))))
  (jN (eC (.bl false)))
  jq)
  (zK (jD 1 (eM .str zCI (zD 0) (zC (eC (.str [46])) zH)))
  (jN (zKw (zGd cLe (zR Zg (zC (zD 1) zH)) (eC (.int 2))) (zAn zEi 1 (iE (zD 1)) (jl 2) Qp (zR qY (zC (zD 2) zH)))))))
noncomputable def Zt:F:=fn 2 yv
noncomputable def ZS (x:T):Bool:=decide ((jH 46 x).length <= 2) && (jH 46 x).all qb
noncomputable def yP:F
 | [.str x],s=>if x.length+2 <= 10000 then .ok (.bl (ZS x)) s else .no
 | [d],s=>if zAN s d then .ok (.bl false) s else .no
 | _,_=>.no
theorem zGz (c:Nat):∀ x:T,(jH c x).length <= x.length+1
 | []=>by simp[jH]
 | d::r=>by
  have ih:=zGz c r
  unfold jH
  split
  ·simp;omega
  ·split<;>simp_all<;>omega
theorem zFz (c:Nat):∀ (x:T),∀ p∈jH c x,p.length <= x.length
 | [],p,h=>by simp[jH] at h;subst h;simp
 | d::r,p,h=>by
  have ih:=zFz c r
  unfold jH at h
  split at h
  ·rcases List.mem_cons.mp h with rfl | h
   ·simp
   ·have:=ih p h;simp;omega
  ·split at h
   ·simp at h;subst h;simp
   ·rename_i q qs e
    rw[e] at ih
    rcases List.mem_cons.mp h with rfl | h
    ·have:=ih q (by simp);simp;omega
    ·have:=ih p (by simp[h]);simp;omega
theorem zMU:jL 1 Zt yP:=jL.pure fun ds S hl c ca=>by
 match ds,hl with
 | [a],_ =>
  cases a with
  | str x =>
   by_cases hz:x.length+2 <= 10000
   ·refine .inr ⟨.bl (ZS x),[.lst ((jH 46 x).map .str)],by simp[yP,hz],?_,rfl⟩
    have hs:=zGz 46 x
    have z1:x.length+2 <= SZ:=Nat.le_trans hz (by decide)
    have z2:(jH 46 x).length <= SZ:=Nat.le_trans (by omega:_ <= 10000) (by decide)
    have e:Zp 1 (iE (zD 1)) (jl 2) Qp (zR qY (zC (zD 2) zH)) [some (.str x),some (.ref S.length)] (S++[.lst ((jH 46 x).map .str)])=.ok ((jH 46 x).map fun t=>.bl (qb t)) (S++[.lst ((jH 46 x).map .str)]):=by
     have:=zGO (n:=1) (it:=iE (zD 1)) (tg:=jl 2) (e:=zR qY (zC (zD 2) zH)) (σ:=[some (.str x),some (.ref S.length)]) (s:=S++[.lst ((jH 46 x).map .str)]) (xs:=(jH 46 x).map .str) (g:=[(S.length,.lst ((jH 46 x).map .str))]) (fun d=>match d with | .str y=>.bl (qb y) | _=>.non) (by simp) (by simpa using z2) (by simp[jT]) (fun d hd=>by
      obtain⟨t,ht,rfl⟩:=List.mem_map.mp hd
      have:=zFz 46 x t ht
      have zt:t.length <= SZ:=Nat.le_trans (by omega:_ <= 10000) (by decide)
      simp[qY,zt])
     rw[this,List.map_map]
     rfl
    by_cases h2:(jH 46 x).length <= 2
    ·have h2':((jH 46 x).length:Int) <= 2:=by omega
     simp[Zt,yv,z1,e,all_map,h2',ZS,h2]
    ·have h2':¬ ((jH 46 x).length:Int) <= 2:=by omega
     simp[Zt,yv,z1,h2',ZS,h2]
   ·exact .inl (by simp[yP];omega)
  | non=>exact .inr ⟨_,[],rfl,by simp[Zt,yv],rfl⟩
  | bl b=>exact .inr ⟨_,[],rfl,by simp[Zt,yv],rfl⟩
  | int b=>exact .inr ⟨_,[],rfl,by simp[Zt,yv],rfl⟩
  | tup b=>exact .inr ⟨_,[],rfl,by simp[Zt,yv],rfl⟩
  | ro b=>exact .inr ⟨_,[],rfl,by simp[Zt,yv],rfl⟩
  | ty b=>exact .inl rfl
  | ref p =>
   cases h:S[p]? with
   | none=>exact .inl (by simp[yP,zAN,h])
   | some o =>
    cases o with
    | lst xs=>exact .inr ⟨_,[],by simp[yP,zAN,h];rfl,by simp[Zt,yv,h],rfl⟩
    | dct xs=>exact .inr ⟨_,[],by simp[yP,zAN,h];rfl,by simp[Zt,yv,h],rfl⟩
    | ins c fs=>exact .inl (by simp[yP,zAN,h])
    | fdc _=>exact .inl (by simp[yP,zAN,h])
noncomputable def zBt:SM :=
  (jN (zHd 1 (iE (eM .str zCI (eM .str zA9 (zD 0) (zC (eC (.str [10])) (zC (eC (.str [32])) zH))) (zC (eC (.str [32])) zH))) (jl 1) (zw cNe (zD 1) (eC (.str []))) (zD 1)))
noncomputable def zHj:F:=fn 1 zBt
noncomputable def yf:F
 | [.str x],s=>if x.length <= 100000 then alloc (.lst ((zP x).map .str)) s else .no
 | _,_=>.no
theorem zLH:jL 1 zHj yf:=jL.new fun ds S hl c ca=>by
 match ds,hl with
 | [.str x],_ =>
  by_cases hz:x.length <= 100000
  ·have h1:2 * x.length+1 <= SZ:=by unfold SZ;omega
   have h2:x.length+2 <= SZ:=by unfold SZ;omega
   have hs:=zBT 32 (yg x)
   have hll:(yg x).length=x.length:=by simp[yg]
   have e:Zp 1 (iE (eM .str zCI (eM .str zA9 (zD 0) (zC (eC (.str [10])) (zC (eC (.str [32])) zH))) (zC (eC (.str [32])) zH))) (jl 1) (zw cNe (zD 1) (eC (.str []))) (zD 1) [some (.str x)] S=.ok ((zP x).map .str) (S++[.lst ((jH 32 (yg x)).map .str)]) :=
    zD6 (ts:=jH 32 (yg x)) (g:=[(S.length,.lst ((jH 32 (yg x)).map .str))]) (fun w=>decide (w≠[])) (by simp[h1,h2];rfl) (by unfold SZ;omega) (by simp[jT]) fun w _=>by by_cases h:w=[]<;>simp[h]
   refine .inr ⟨.lst ((zP x).map .str),S.length+1,[.lst ((jH 32 (yg x)).map .str),.lst ((zP x).map .str)],by simp[yf,hz],by simp[zHj,zBt,e],by simp,by omega,zFi _ _⟩
  ·exact .inl (by simp[yf,hz])
 | [.non],_=>exact .inl rfl
 | [.bl _],_=>exact .inl rfl
 | [.int _],_=>exact .inl rfl
 | [.ty _],_=>exact .inl rfl
 | [.ref _],_=>exact .inl rfl
 | [.tup _],_=>exact .inl rfl
 | [.ro _],_=>exact .inl rfl
noncomputable def J5:SM :=
  (jN (eM .str zAM (eC (.str [32])) (zC (zR zA3 (zC (zR yf (zC (zD 0) zH)) zH)) zH)))
noncomputable def zBG:F:=fn 1 J5
noncomputable def Qg:F:=chS zBG
theorem zG9:jL 1 zBG Qg:=Jc _
theorem zJo {t:T} (h:t.length <= 60) (s:M.S):yf [.str t] s=.ok (.ref s.length) (s++[.lst ((zP t).map .str)]):=by
 simp only[yf]
 rw[if_pos (by omega)]
 rfl
theorem zMf {t:T} (h:t.length <= 60) (hw:(zP t).length < 64) (S:M.S):Qg [.str t] S=.ok (.str (qD [32] (j6 (zP t)))) S:=by
 have hwb:=QY h
 have sm:=zI0 (zP t)
 have j3:=fun s=>zCE [32] (by simp) (j6 (zP t)) (by rw[sm.1];omega) (fun p hp=>Nat.le_trans (hwb.2 p (sm.2 p hp)) (by omega)) s
 refine Jn (g:=[.lst ((zP t).map .str),.lst ((j6 (zP t)).map .str)]) ?_ rfl
 simp[zBG,J5,zJo h,zFn,zFP,show (zP t).length < 64 by omega,j3]
noncomputable def zAA:SM :=
  (jN (eUn zKa (zD 0)))
noncomputable def zBI:F:=fn 1 zAA
noncomputable def Qn:F:=chS zBI
theorem zHm:jL 1 zBI Qn:=Jc _
theorem zPf {t:T} (h:t.length <= 60) (S:M.S):Qn [.str t] S=.ok (.str t.reverse) S:=by
 have z:t.length <= SZ:=by unfold SZ;omega
 refine Jn (g:=[]) ?_ rfl
 simp[zBI,zAA,z]
noncomputable def zAe:SM :=
  (jN (eM .str zAM (eC (.str [32])) (zC (eSl (zR yf (zC (zD 0) zH)) JZ (yz (eC (.int 1)))) zH)))
noncomputable def zCZ:F:=fn 1 zAe
noncomputable def Ja:F:=chS zCZ
theorem zJR:jL 1 zCZ Ja:=Jc _
theorem zPY {t:T} (h:t.length <= 60) (S:M.S):Ja [.str t] S=.ok (.str (qD [32] ((zP t).take 1))) S:=by
 have hwb:=QY h
 have c1:cut ((zP t).map D.str) none (some 1)=((zP t).take 1).map D.str:=by rw[zFJ _ (by decide)];simp
 have j1:=fun s=>zCE [32] (by simp) ((zP t).take 1) (by rw[List.length_take];omega) (fun p hp=>Nat.le_trans (hwb.2 p (List.mem_of_mem_take hp)) (by omega)) s
 refine Jn (g:=[.lst ((zP t).map .str),.lst (((zP t).take 1).map .str)]) ?_ rfl
 simp[zCZ,zAe,zJo h,-List.map_take,c1,j1]
noncomputable def zAk:SM :=
  (jN (eM .str zAM (eC (.str [32])) (zC (eSl (zR yf (zC (zD 0) zH)) (yz (eC (.int 1))) JZ) zH)))
noncomputable def zCU:F:=fn 1 zAk
noncomputable def Jb:F:=chS zCU
theorem zJY:jL 1 zCU Jb:=Jc _
theorem zQ4 {t:T} (h:t.length <= 60) (S:M.S):Jb [.str t] S=.ok (.str (qD [32] ((zP t).drop 1))) S:=by
 have hwb:=QY h
 have c1:cut ((zP t).map D.str) (some 1) none=((zP t).drop 1).map D.str:=by rw[zHq _ (by decide)];simp
 have j1:=fun s=>zCE [32] (by simp) ((zP t).drop 1) (by rw[List.length_drop];omega) (fun p hp=>Nat.le_trans (hwb.2 p (List.mem_of_mem_drop hp)) (by omega)) s
 refine Jn (g:=[.lst ((zP t).map .str),.lst (((zP t).drop 1).map .str)]) ?_ rfl
 simp[zCU,zAk,zJo h,-List.map_drop,-List.drop_one,c1,j1]
noncomputable def zC1:SM :=
  (jN (zR zMQ (zC (zR Zg (zC (zR yf (zC (zD 0) zH)) zH)) zH)))
noncomputable def zEt:F:=fn 1 zC1
noncomputable def zBj:F:=chS zEt
theorem zL8:jL 1 zEt zBj:=Jc _
theorem zMH {t:T} (h:t.length <= 60) (S:M.S):zBj [.str t] S=.ok (.str (zAg (zP t).length)) S:=by
 have hwb:=QY h
 have zs:yS ((zP t).length:Int)=true:=by unfold yS;rw[decide_eq_true_iff];omega
 refine Jn (g:=[.lst ((zP t).map .str)]) ?_ rfl
 simp[zEt,zC1,zJo h,zs]
noncomputable def Zr:SM :=
  (sIf (zw cEq (zD 0) (eC (.str [98,97,99,107])))
  (jN (zR Qn (zC (zD 1) zH)))
  jq)
noncomputable def QX:SM :=
  (sIf (zw cEq (zD 0) (eC (.str [102,105,114,115,116])))
  (jN (zR Ja (zC (zD 1) zH)))
  jq)
noncomputable def JO:SM :=
  (sIf (zw cEq (zD 0) (eC (.str [114,101,115,116])))
  (jN (zR Jb (zC (zD 1) zH)))
  jq)
noncomputable def zAH:SM :=
  (sIf (zw cEq (zD 0) (eC (.str [99,111,117,110,116])))
  (jN (zR zBj (zC (zD 1) zH)))
  jq)
noncomputable def zBV:SM :=
  (jN (zR Qg (zC (zD 1) zH)))
noncomputable def Q8:SM:=(zK Zr (zK QX (zK JO (zK zAH zBV))))
noncomputable def Jf:F:=fn 2 Q8
noncomputable def zBf:F:=chS Jf
theorem zL3:jL 2 Jf zBf:=Jc _
theorem zQH {w t:T} (hw:W5 w) (h:t.length <= 60) (S:M.S):zBf [.str w,.str t] S=.ok (.str (zBu w t)) S:=by
 have hwb:=QY h
 have h1:=zPf h S
 have h2:=zPY h S
 have h3:=zQ4 h S
 have h4:=zMH h S
 have h5:=zMf h (by omega) S
 refine Jn (g:=[]) ?_ rfl
 unfold zBu
 rcases hw with rfl | rfl | rfl | rfl | rfl
 ·simp[Jf,Q8,Zr,h1]
 ·simp[Jf,Q8,Zr,QX,h2]
 ·simp[Jf,Q8,Zr,QX,JO,h3]
 ·simp[Jf,Q8,Zr,QX,JO,zAH,h4]
 ·simp[Jf,Q8,Zr,QX,JO,zAH,zBV,h5]
noncomputable def tot (ys:List T):Nat:=(ys.map List.length).sum+ys.length
theorem ZZ (y:T) (ys:List T):tot (y::ys)=y.length+1+tot ys:=by
 unfold tot
 simp only[List.map_cons,List.sum_cons,List.length_cons]
 omega
theorem zIl (c:Nat):∀ x:T,tot (jH c x)=x.length+1
 | []=>rfl
 | d::r=>by
  have ih:=zIl c r
  unfold jH
  split
  ·rw[ZZ,ih];simp only[List.length_cons,List.length_nil];omega
  ·split
   ·rename_i e;rw[e] at ih;simp[tot] at ih
   ·rename_i p ps e
    rw[e,ZZ] at ih
    rw[ZZ]
    simp only[List.length_cons]
    omega
theorem zH4 {ys zs:List T} (h:ys.Sublist zs):tot ys <= tot zs:=by
 induction h with
 | slnil=>exact Nat.le_refl _
 | cons a _ ih=>rw[ZZ];omega
 | cons_cons a _ ih=>rw[ZZ,ZZ];omega
theorem zOi (ts:List T):tot (j6 ts)=tot ts:=by
 have ins:∀ (x:T) (l:List T),tot (j6.insT' x l)=x.length+1+tot l:=by
  intro x l
  induction l with
  | nil=>simp[j6.insT',ZZ]
  | cons y l ih =>
   unfold j6.insT'
   split
   ·rw[ZZ,ih,ZZ];omega
   ·rw[ZZ]
 induction ts with
 | nil=>rfl
 | cons t ts ih=>unfold j6;rw[ins,ih,ZZ]
theorem zDu:∀ ys:List T,(qD [32] ys).length <= tot ys
 | []=>by simp[qD,tot]
 | [y]=>by simp[qD,tot]
 | y::z::ys=>by
  have:=zDu (z::ys)
  rw[ZZ]
  show (y++[32]++qD [32] (z::ys)).length <= _
  simp only[List.length_append,List.length_cons,List.length_nil]
  omega
theorem zNu {t:T} (h:t.length <= 60):tot (zP t) <= 61:=by
 have h1:=zIl 32 (yg t)
 have hl:(yg t).length=t.length:=by simp[yg]
 have h2:tot (zP t) <= tot (jH 32 (yg t)):=zH4 List.filter_sublist
 omega
theorem zPZ {w t:T} (hw:W5 w) (h:t.length <= 60):(zBu w t).length <= 900:=by
 have hwb:=QY h
 have ht:=zNu h
 have dg:∀ n:Nat,n < 62->(zAg (n:Int)).length <= 900:=by decide +kernel
 unfold zBu
 rcases hw with rfl | rfl | rfl | rfl | rfl
 ·rw[if_pos rfl,List.length_reverse];omega
 ·rw[if_neg (by decide),if_pos rfl]
  have:=zDu ((zP t).take 1)
  have:=zH4 (List.take_sublist 1 (zP t))
  omega
 ·rw[if_neg (by decide),if_neg (by decide),if_pos rfl]
  have:=zDu ((zP t).drop 1)
  have:=zH4 (List.drop_sublist 1 (zP t))
  omega
 ·rw[if_neg (by decide),if_neg (by decide),if_neg (by decide),if_pos rfl]
  exact dg _ (by omega)
 ·rw[if_neg (by decide),if_neg (by decide),if_neg (by decide),if_neg (by decide)]
  have:=zDu (j6 (zP t))
  rw[zOi] at this
  omega
noncomputable def jk:SM :=
  (zK (jD 2 (eM .list zDL (ya 4 4 (zD 0)) zH))
  (sIf (zw cEq (zD 1) (eC (.str [102,97,105,108])))
  (qc (q8 4 y4 (zD 0) (zC (zD 2) zH)))
  (sIf (zw cNe (zD 1) (eC (.str [111,102])))
  (qc (q8 4 yl (zD 0) (zC (zR zBf (zC (zD 1) (zC (zD 2) zH))) zH)))
  (sIf (ZH (zR yP (zC (zD 2) zH)))
  (qc (q8 4 jv (zD 0) (zC (zD 2) zH)))
  (qc (q8 4 y4 (zD 0) (zC (eC (.str [110,111,32,110,97,109,101])) zH)))))))
noncomputable def zD5:F:=fn 3 jk
noncomputable abbrev jn:F:=zD5
theorem zB3 (c:Nat):∀ x:T,jH c x=match x.findIdx? (· == c) with | none=>[x] | some i=>x.take i::jH c (x.drop (i+1))
 | []=>rfl
 | d::r=>by
  have ih:=zB3 c r
  have e:jH c (d::r)=(if d=c then []::jH c r else match jH c r with | []=>[[d]] | p::ps=>(d::p)::ps):=rfl
  rw[e,List.findIdx?_cons]
  by_cases h:d=c
  ·subst h;simp
  ·have hb:(d == c)=false:=by simpa using h
   rw[if_neg h,hb]
   cases q:r.findIdx? (· == c) with
   | none =>
    rw[q] at ih
    dsimp only at ih
    rw[ih]
    simp
   | some i =>
    rw[q] at ih
    dsimp only at ih
    rw[ih]
    simp
theorem zLv {x:T} (h:46∈x):qb x=false:=by
 unfold qb
 have:(x.all fun c=>QG [c])=false:=by
  rw[List.all_eq_false]
  exact⟨46,h,by decide⟩
 rw[this];simp
theorem zEC (x:T):J6 x=ZS x:=by
 unfold J6 ZS
 have hs:=zB3 46 x
 cases q:x.findIdx? (· == 46) with
 | none =>
  rw[q] at hs
  dsimp only at hs ⊢
  rw[hs]
  simp
 | some i =>
  rw[q] at hs
  dsimp only at hs ⊢
  have hs2:=zB3 46 (x.drop (i+1))
  cases q2:(x.drop (i+1)).findIdx? (· == 46) with
  | none =>
   rw[q2] at hs2
   dsimp only at hs2
   rw[hs2] at hs
   rw[hs]
   simp
  | some j =>
   rw[q2] at hs2
   dsimp only at hs2
   have hm:46∈x.drop (i+1):=by
    obtain⟨hl,he,_⟩:=List.findIdx?_eq_some_iff_getElem.mp q2
    have:=eq_of_beq he
    rw[<- this]
    exact List.getElem_mem _
   rw[zLv hm]
   have hl:∀ y:T,1 <= (jH 46 y).length:=fun y=>by
    rw[zB3]
    split<;>simp
   have:=hl ((x.drop (i+1)).drop (j+1))
   have hlen:¬ (jH 46 x).length <= 2:=by
    rw[hs,hs2]
    simp only[List.length_cons]
    omega
   rw[decide_eq_false hlen]
   simp
section
variable {S:M.S}{st:T}{a:Nat}{us:List (D×D)}{k:Int}{tx td:List D}{en:D}{g:M.S}{ans:List (T×T)}
theorem zKj (t:T):∀ (v0 v1 v2:Option D) r,zK (jD 2 (eM .list zDL (ya 4 4 (zD 0)) zH)) r [some (.ref S.length),v1,v2] (Wk S st a us k [.str t] td en g)=r [some (.ref S.length),v1,some (.str t)] (Wk S st a us k [] td en g):=fun v0 v1 v2 r=>by
 simp[wk0,wk2,ws2]
theorem zLA {w t:T} (hw:W5 w) (ht:t.length <= 60):jn [.ref S.length,.str w] (Wk S st a us k [.str t] td en g)=.ok .non (Wk S st a us k [.str (zBu w t)] td en g):=by
 have h1:=zQH hw ht (Wk S st a us k [] td en g)
 have h2:=zDm (S:=S) (st:=st) (a:=a) (us:=us) (k:=k) (tx:=[]) (td:=td) (en:=en) (g:=g) (zBu w t) (zPZ hw ht) (by simp)
 have n1:¬ w=zBx:=by rcases hw with rfl | rfl | rfl | rfl | rfl<;>decide
 have n2:¬ w=tOf:=by rcases hw with rfl | rfl | rfl | rfl | rfl<;>decide
 show (jk [some (.ref S.length),some (.str w),none] (Wk S st a us k [.str t] td en g)).out=_
 unfold jk
 rw[zKj t none]
 simp[n1,n2,wk0,h1,h2,RS.out]
theorem zLE (t:T):jn [.ref S.length,.str zBx] (Wk S st a us k [.str t] td en g)=.ok .non (Wk S st a us k [] td (jB (zFQ,t)) g):=by
 have h2:=zLn (S:=S) (st:=st) (a:=a) (us:=us) (k:=k) (tx:=[]) (td:=td) (en:=en) (g:=g) t
 show (jk [some (.ref S.length),some (.str zBx),none] (Wk S st a us k [.str t] td en g)).out=_
 unfold jk
 rw[zKj t none]
 simp[wk0,h2,RS.out]
theorem zN7 (ha:S[a]? = some (.dct (ans.map pd))) (hv:∀ p∈ans,p.2.length <= 60/\ZS p.1=true) (hu:us.length <= 100) {t:T} (ht:t.length <= 60):jn [.ref S.length,.str tOf] (Wk S st a us k [.str t] td en g)=.ok .non (match Qq ans t with
  | some v=>Wk S st a (Qh (.str t) (.bl true) us) k [.str v] td en g
  | none=>if J6 t=true then Wk S st a us k [] td (jB (zJm,t)) g else Wk S st a us k [] td (jB (zFQ,tNo)) g):=by
 have hn:∀ s,yP [.str t] s=.ok (.bl (J6 t)) s:=fun s=>by
  simp only[yP]
  rw[if_pos (by omega),zEC]
 show (jk [some (.ref S.length),some (.str tOf),none] (Wk S st a us k [.str t] td en g)).out=_
 unfold jk
 rw[zKj t none]
 cases q:Qq ans t with
 | some v =>
  obtain⟨l1,l2,e,_⟩:=List.lookup_eq_some_iff.mp q
  have hp:=hv (t,v) (by rw[e];simp)
  dsimp only at hp
  have hnl:J6 t=true:=by rw[zEC];exact hp.2
  have h1:=zGQ (S:=S) (st:=st) (a:=a) (us:=us) (k:=k) (tx:=[]) (td:=td) (en:=en) (g:=g) ha q (by omega) (by simp) hu
  simp[wk0,hn,hnl,h1,RS.out]
 | none =>
  have h1:=zGi (S:=S) (st:=st) (a:=a) (us:=us) (k:=k) (tx:=[]) (td:=td) (en:=en) (g:=g) ha q
  have h2:=zLn (S:=S) (st:=st) (a:=a) (us:=us) (k:=k) (tx:=[]) (td:=td) (en:=en) (g:=g) tNo
  cases hnl:J6 t with
  | true=>simp[wk0,hn,hnl,h1,RS.out]
  | false=>simp[wk0,hn,hnl,h2,RS.out]
end
noncomputable def QJ:SM :=
  (zK (zDg (zEx (zFR (ya 4 6 (zD 0))) (zw cGt (zR Zg (zC (ya 4 5 (zD 0)) zH)) (eC (.int 0))))
  (zK (jD 1 (eM .list zDL (ya 4 5 (zD 0)) zH))
  (sIf (zw cEq (eOp zN (zD 1) (eC (.int 0))) (eC (.str [112,97,114,116])))
  (qc (q8 4 yY (zD 0) (zC (eOp zN (zD 1) (eC (.int 1))) (zC (eOp zN (zD 1) (eC (.int 2))) zH))))
  (sIf (zw cEq (eOp zN (zD 1) (eC (.int 0))) (eC (.str [106,111,105,110])))
  zAJ
  (sIf (zw cEq (eOp zN (zD 1) (eC (.int 0))) (eC (.str [105,102])))
  zAJ
  (sIf (zw cEq (eOp zN (zD 1) (eC (.int 0))) (eC (.str [101,97,99,104])))
  zAJ
  (sIf (zw cEq (eOp zN (zD 1) (eC (.int 0))) (eC (.str [114,111,117,110,100])))
  zAJ
  (qc (q8 4 jn (zD 0) (zC (eOp zN (zD 1) (eC (.int 0))) zH))))))))))
  (zK (sIf (zFR (ya 4 6 (zD 0)))
  (jN (jx (zC (eC (.str [116,101,120,116])) (zC (eOp zN (ya 4 4 (zD 0)) (eC (.int 0))) zH))))
  jq)
  (jN (ya 4 6 (zD 0)))))
noncomputable def zJh:F:=fn 2 QJ
noncomputable abbrev yt:F:=zJh
noncomputable abbrev QM:T:=[112,97,114,116]
noncomputable abbrev y6:TM:=zEx (zFR (ya 4 6 (zD 0))) (zw cGt (zR Zg (zC (ya 4 5 (zD 0)) zH)) (eC (.int 0)))
noncomputable abbrev zJ6:SM:=jD 1 (eM .list zDL (ya 4 5 (zD 0)) zH)
noncomputable abbrev zG1:SM :=
  (sIf (zw cEq (eOp zN (zD 1) (eC (.int 0))) (eC (.str [112,97,114,116])))
  (qc (q8 4 yY (zD 0) (zC (eOp zN (zD 1) (eC (.int 1))) (zC (eOp zN (zD 1) (eC (.int 2))) zH))))
  (sIf (zw cEq (eOp zN (zD 1) (eC (.int 0))) (eC (.str [106,111,105,110])))
  zAJ
  (sIf (zw cEq (eOp zN (zD 1) (eC (.int 0))) (eC (.str [105,102])))
  zAJ
  (sIf (zw cEq (eOp zN (zD 1) (eC (.int 0))) (eC (.str [101,97,99,104])))
  zAJ
  (sIf (zw cEq (eOp zN (zD 1) (eC (.int 0))) (eC (.str [114,111,117,110,100])))
  zAJ
  (qc (q8 4 jn (zD 0) (zC (eOp zN (zD 1) (eC (.int 0))) zH))))))))
noncomputable abbrev QH:SM:=zK zJ6 zG1
noncomputable abbrev zDV:SM:=(zK (sIf (zFR (ya 4 6 (zD 0)))
  (jN (jx (zC (eC (.str [116,101,120,116])) (zC (eOp zN (ya 4 4 (zD 0)) (eC (.int 0))) zH))))
  jq)
  (jN (ya 4 6 (zD 0))))
theorem zNU:QJ=zK (zDg y6 QH) zDV:=rfl
section
variable {S:M.S}{st:T}{a:Nat}{us:List (D×D)}{k:Int}{tx td:List D}{en:D}{g:M.S}{ans:List (T×T)}
theorem zQa (n:Nat) (v:Option D):qQ (n+1) y6 QH [some (.ref S.length),v] (Wk S st a us k tx [] .non g)=.nx [some (.ref S.length),v] (Wk S st a us k tx [] .non g):=by
 have ht:y6 [some (.ref S.length),v] (Wk S st a us k tx [] .non g)=.ok false (Wk S st a us k tx [] .non g):=by
  simp[wk0,wk3]
 rw[qQ,ht]
 simp
theorem zOU (n:Nat) (v:Option D) (r:T×T):qQ (n+1) y6 QH [some (.ref S.length),v] (Wk S st a us k tx td (jB r) g)=.nx [some (.ref S.length),v] (Wk S st a us k tx td (jB r) g):=by
 have ht:y6 [some (.ref S.length),v] (Wk S st a us k tx td (jB r) g)=.ok false (Wk S st a us k tx td (jB r) g):=by
  simp[wk0,jB]
 rw[qQ,ht]
 simp
theorem zFa {x:D}{s':M.S} (n:Nat) (v:Option D) (hd:zG1 [some (.ref S.length),some x] (Wk S st a us k tx td .non g)=.nx [some (.ref S.length),some x] s'):qQ (n+1) y6 QH [some (.ref S.length),v] (Wk S st a us k tx (td++[x]) .non g)=qQ n y6 QH [some (.ref S.length),some x] s':=by
 have ht:y6 [some (.ref S.length),v] (Wk S st a us k tx (td++[x]) .non g)=.ok true (Wk S st a us k tx (td++[x]) .non g):=by
  have:(0:Int) < (td.length:Int)+1:=by omega
  simp[wk0,wk3,this]
 have hp:zJ6 [some (.ref S.length),v] (Wk S st a us k tx (td++[x]) .non g)=.nx [some (.ref S.length),some x] (Wk S st a us k tx td .non g):=by
  simp[wk0,wk3,ws3]
 rw[qQ,ht,R.stm_ok,if_pos rfl]
 show (match ((zJ6 [some (.ref S.length),v] (Wk S st a us k tx (td++[x]) .non g)).then zG1) with | .nx σ s=>qQ n y6 QH σ s | .ct σ s=>qQ n y6 QH σ s | .bk σ s=>.nx σ s | r=>r)=_
 rw[hp,RS.then_nx,hd]
theorem at2 (x y z:D):atI [x,y,z] 2=some z:=rfl
theorem zIS {p:D}{s':M.S} (hb:yY [.ref S.length,p,.non] (Wk S st a us k tx td .non g)=.ok .non s'):zG1 [some (.ref S.length),some (.tup [.str QM,p,.non])] (Wk S st a us k tx td .non g)=.nx [some (.ref S.length),some (.tup [.str QM,p,.non])] s':=by
 have a1:=at1 (.str QM) p [.non]
 simp[at0,a1,at2,wk0,hb]
theorem zQt {w:T} (hw:W7 w) {s':M.S} (hb:jn [.ref S.length,.str w] (Wk S st a us k tx td .non g)=.ok .non s'):zG1 [some (.ref S.length),some (.tup [.str w])] (Wk S st a us k tx td .non g)=.nx [some (.ref S.length),some (.tup [.str w])] s':=by
 have n0:¬ w=[112,97,114,116]:=by rcases hw with rfl | rfl | rfl | rfl | rfl | rfl | rfl<;>decide
 have n1:¬ w=[106,111,105,110]:=by rcases hw with rfl | rfl | rfl | rfl | rfl | rfl | rfl<;>decide
 have n2:¬ w=[105,102]:=by rcases hw with rfl | rfl | rfl | rfl | rfl | rfl | rfl<;>decide
 have n3:¬ w=[101,97,99,104]:=by rcases hw with rfl | rfl | rfl | rfl | rfl | rfl | rfl<;>decide
 have n4:¬ w=[114,111,117,110,100]:=by rcases hw with rfl | rfl | rfl | rfl | rfl | rfl | rfl<;>decide
 simp[at0,n0,n1,n2,n3,n4,wk0,hb]
noncomputable def Fin (S:M.S) (st:T) (a:Nat) (r:(T×T)×List T) (s:M.S):Prop :=
 ∃ us k tx td g,us.map (fun p:D×D=>p.1)=r.2.map D.str/\((s=Wk S st a us k [.str r.1.2] [] .non g/\r.1.1=j8)\/s=Wk S st a us k tx td (jB r.1) g)
theorem zIR {r:(T×T)×List T}{s:M.S} (h:Fin S st a r s) (n:Nat) (v:Option D):((qQ (n+1) y6 QH [some (.ref S.length),v] s).then zDV).out=.ok (jB r.1) s:=by
 have z2:(2:Nat) <= SZ:=by decide
 obtain⟨us,k,tx,td,g,_,⟨rfl,e⟩ | rfl⟩:=h
 ·rw[zQa]
  obtain⟨⟨tag,t⟩,used⟩:=r
  dsimp only at e
  subst e
  simp[wk0,wk2,at0,z2,jB,RS.out]
 ·rw[zOU]
  simp[wk0,jB,RS.out]
theorem zLl (k:Int) (g:M.S) (b:Bud):Fin S st a (jA ans st b) (zAx S st a ans k [] g b)/\∀ td,(jA ans st b).1.1≠j8->Fin S st a (jA ans st b) (zAx S st a ans k td g b):=by
 have key:∀ td,(jA ans st b).1.1≠j8->Fin S st a (jA ans st b) (zAx S st a ans k td g b):=fun td h=>by
  unfold zAx
  dsimp only
  rw[if_neg h]
  have hu:(jA ans st b).2=[]:=by
   cases b with
   | txt t=>exact absurd rfl h
   | line=>exact absurd rfl h
   | stem=>exact absurd rfl h
   | kin n =>
    revert h
    show (Qy ans (n++[46]++st)).1.1≠j8->(Qy ans (n++[46]++st)).2=[]
    unfold Qy
    split
    ·exact fun h=>absurd rfl h
    ·exact fun _=>rfl
   | thing n =>
    revert h
    show (Qy ans n).1.1≠j8->(Qy ans n).2=[]
    unfold Qy
    split
    ·exact fun h=>absurd rfl h
    ·exact fun _=>rfl
  exact⟨[],k,[],td,g,by rw[hu];rfl,.inr rfl⟩
 refine⟨?_,key⟩
 by_cases h:(jA ans st b).1.1=j8
 ·unfold zAx
  dsimp only
  rw[if_pos h]
  exact⟨_,k,[],[],g,by rw[List.map_map];rfl,.inl ⟨rfl,h⟩⟩
 ·exact key [] h
theorem zLs:∃ n,zEv=n+1+1+1+1:=⟨999999999996,rfl⟩
theorem zQD (ha:S[a]? = some (.dct (ans.map pd))) (hv:∀ p∈ans,p.2.length <= 60) (hs:st.length <= 60) (b:Bud) (hb:b.ok) :
  ∃ s',yt [.ref S.length] (Wk S st a [] 0 [] [.tup [.str QM,b.d,.non]] .non [])=.ok (jB (jA ans st b).1) s'/\Fin S st a (jA ans st b) s':=by
 obtain⟨n,hn⟩:=zLs
 have h1:=zIu (S:=S) (st:=st) (a:=a) (k:=0) (td:=[]) (g:=[]) ha hv hs b hb (by decide)
 have h2:=(zLl (S:=S) (st:=st) (a:=a) (ans:=ans) (0+1) [] b).1
 refine⟨_,?_,h2⟩
 show (QJ [some (.ref S.length),none] _).out=_
 rw[zNU]
 show ((qQ zEv y6 QH [some (.ref S.length),none] (Wk S st a [] 0 [] ([]++[.tup [.str QM,b.d,.non]]) .non [])).then zDV).out=_
 rw[hn,zFa _ _ (zIS h1)]
 exact zIR h2 _ _
theorem zPA (t:T) (used:List T):(Qh (.str t) (.bl true) (used.map fun x=>(D.str x,D.bl true))).map (fun p=>p.1)=(used++(if t∈used then [] else [t])).map D.str:=by
 have ha:((used.map fun x=>(D.str x,D.bl true)).any fun p=>decide (p.1=.str t))=decide (t∈used):=by
  induction used with
  | nil=>simp
  | cons u us ih =>
   rw[List.map_cons,List.any_cons,ih]
   by_cases h:u=t
   ·subst h;simp
   ·have h':¬ t=u:=fun z=>h z.symm
    simp[h,h']
 unfold Qh
 rw[ha]
 by_cases h:t∈used
 ·rw[if_pos (decide_eq_true h),if_pos h,List.append_nil,List.map_map,List.map_map]
  refine List.map_congr_left fun x hx=>?_
  simp only[Function.comp]
  split<;>rfl
 ·rw[if_neg (by simpa using h),if_neg h]
  simp
theorem zIn (b:Bud):(jA ans st b).2.length <= 1:=by
 have:∀ x,(Qy ans x).2.length <= 1:=fun x=>by unfold Qy;split<;>simp
 cases b with
 | kin n=>exact this _
 | thing n=>exact this _
 | _=>simp[jA]
theorem zOR (hv:∀ p∈ans,p.2.length <= 60) (hs:st.length <= 60) (b:Bud) (hb:b.ok) (hb2:∀ t,b=.txt t->t.length <= 60) (h:(jA ans st b).1.1=j8):(jA ans st b).1.2.length <= 60:=by
 have:∀ x,(Qy ans x).1.1=j8->(Qy ans x).1.2.length <= 60:=fun x=>by
  unfold Qy
  cases q:Qq ans x with
  | none=>intro h;exact absurd (show zJm=j8 from h) (by decide)
  | some v =>
   intro _
   obtain⟨l1,l2,e,_⟩:=List.lookup_eq_some_iff.mp q
   exact hv (x,v) (by rw[e];simp)
 cases b with
 | kin n=>exact this _ h
 | thing n=>exact this _ h
 | txt t=>exact hb2 t rfl
 | line=>simp[jA]
 | stem=>exact hs
theorem zOb (ha:S[a]? = some (.dct (ans.map pd))) (hv:∀ p∈ans,p.2.length <= 60/\ZS p.1=true) (hs:st.length <= 60) (b:Bud) (hb:b.ok) (hb2:∀ t,b=.txt t->t.length <= 60) {w:T} (hw:W7 w) :
  ∃ s',yt [.ref S.length] (Wk S st a [] 0 [] [.tup [.str QM,.tup [.str w,b.d],.non]] .non [])=.ok (jB (yQ ans w (jA ans st b).1 (jA ans st b).2).1) s'/\Fin S st a (yQ ans w (jA ans st b).1 (jA ans st b).2) s':=by
 obtain⟨n,hn⟩:=zLs
 have hv1:∀ p∈ans,p.2.length <= 60:=fun p hp=>(hv p hp).1
 have h0:=zMq (S:=S) (st:=st) (a:=a) (k:=0) (g:=[]) hw b.d (by decide)
 have h1:=zIu (S:=S) (st:=st) (a:=a) (k:=0+1) (td:=[.tup [.str w]]) (g:=[]) ha hv1 hs b hb (by decide)
 have go:∀ r,(QJ [some (.ref S.length),none] (Wk S st a [] 0 [] [.tup [.str QM,.tup [.str w,b.d],.non]] .non [])).out=r↔((qQ (n+1+1) y6 QH [some (.ref S.length),some (.tup [.str QM,b.d,.non])] (zAx S st a ans (0+1+1) [.tup [.str w]] [] b)).then zDV).out=r:=fun r=>by
  rw[zNU]
  show ((qQ zEv y6 QH [some (.ref S.length),none] (Wk S st a [] 0 [] ([]++[.tup [.str QM,.tup [.str w,b.d],.non]]) .non [])).then zDV).out=r↔_
  rw[hn,zFa _ _ (zIS h0)]
  show ((qQ (n+1+1+1) y6 QH _ (Wk S st a [] (0+1) [] ([.tup [.str w]]++[.tup [.str QM,b.d,.non]]) .non [])).then zDV).out=r↔_
  rw[zFa _ _ (zIS h1)]
 by_cases ht:(jA ans st b).1.1=j8
 case neg =>
  have e:yQ ans w (jA ans st b).1 (jA ans st b).2=jA ans st b:=by
   unfold yQ
   rw[if_pos ht]
  rw[e]
  have h2:=(zLl (S:=S) (st:=st) (a:=a) (ans:=ans) (0+1+1) [] b).2 [.tup [.str w]] ht
  exact⟨_,(go _).mpr (zIR h2 _ _),h2⟩
 have hl:=zOR hv1 hs b hb hb2 ht
 have hu:=zIn (ans:=ans) (st:=st) b
 have eb:zAx S st a ans (0+1+1) [.tup [.str w]] [] b=Wk S st a ((jA ans st b).2.map fun x=>(.str x,.bl true)) (0+1+1) [.str (jA ans st b).1.2] ([]++[.tup [.str w]]) .non []:=by
  unfold zAx
  dsimp only
  rw[if_pos ht]
  rfl
 rw[eb] at go
 generalize jA ans st b=r at *
 obtain⟨⟨tag,t⟩,used⟩:=r
 dsimp only at ht hl hu go ⊢
 subst ht
 have fin:∀ s',jn [.ref S.length,.str w] (Wk S st a (used.map fun x=>(.str x,.bl true)) (0+1+1) [.str t] [] .non [])=.ok .non s'->Fin S st a (yQ ans w (j8,t) used) s'->∃ s',yt [.ref S.length] (Wk S st a [] 0 [] [.tup [.str QM,.tup [.str w,b.d],.non]] .non [])=.ok (jB (yQ ans w (j8,t) used).1) s'/\Fin S st a (yQ ans w (j8,t) used) s':=fun s' h1 h2=>by
  refine⟨s',(go _).mpr ?_,h2⟩
  rw[zFa _ _ (zQt hw h1)]
  exact zIR h2 _ _
 have hus:(used.map fun x=>(D.str x,D.bl true)).map (fun p:D×D=>p.1)=used.map D.str:=by rw[List.map_map];rfl
 rcases hw with rfl | rfl | hw
 ·refine fin _ (zN7 ha hv (by simp;omega) hl) ?_
  unfold yQ
  rw[if_neg (by simp),if_neg (by decide),if_pos rfl]
  dsimp only
  cases q:Qq ans t with
  | some v=>exact⟨_,_,[],[],[],zPA t used,.inl ⟨rfl,rfl⟩⟩
  | none =>
   dsimp only
   cases hnm:J6 t with
   | true=>exact⟨_,_,_,_,_,hus,.inr rfl⟩
   | false=>exact⟨_,_,_,_,_,hus,.inr rfl⟩
 ·refine fin _ (zLE t) ?_
  unfold yQ
  rw[if_neg (by simp),if_pos rfl]
  exact⟨_,_,_,_,_,hus,.inr rfl⟩
 ·refine fin _ (zLA hw hl) ?_
  have n1:¬ w=zBx:=by rcases hw with rfl | rfl | rfl | rfl | rfl<;>decide
  have n2:¬ w=tOf:=by rcases hw with rfl | rfl | rfl | rfl | rfl<;>decide
  unfold yQ
  rw[if_neg (by simp),if_neg n1,if_neg n2]
  exact⟨_,_,[],[],[],hus,.inl ⟨rfl,rfl⟩⟩
end
noncomputable def zCh:SM :=
  (zK (jD 3 (zGt 4 7 ZE (zC (zD 0) (zC (zD 1) (zC (zD 2) zH)))))
  (zK (jD 4 (q8 4 yt (zD 3) zH))
  (jN (jx (zC (zD 4) (zC (zR zL1 (zC (ya 4 2 (zD 3)) zH)) zH))))))
noncomputable def zOJ:F:=fn 5 zCh
noncomputable abbrev Je:F:=zOJ
theorem zIy {S:M.S}{st:T}{a:Nat}{tree:D}{r:(T×T)×List T}{s':M.S} (h:yt [.ref S.length] (Wk S st a [] 0 [] [.tup [.str QM,tree,.non]] .non [])=.ok (jB r.1) s') (f:Fin S st a r s') :
  ∃ l g,Je [tree,.str st,.ref a] S=.ok (.tup [jB r.1,.ref l]) (S++g)/\(S++g)[l]? = some (.lst (r.2.map D.str)):=by
 have z2:(2:Nat) <= SZ:=by decide
 have hi:=zQ0 S tree st a
 obtain⟨us,k,tx,td,g,hk,hs⟩:=f
 obtain⟨tx',td',en,rfl⟩:∃ tx td en,s'=Wk S st a us k tx td en g:=by
  rcases hs with ⟨e,_⟩ | e
  ·exact⟨_,_,_,e⟩
  ·exact⟨_,_,_,e⟩
 refine⟨S.length+4+g.length,.ins 4 [some (.str st),some (.ref a),some (.ref (S.length+1)),some (.int k),some (.ref (S.length+2)),some (.ref (S.length+3)),some en]::.dct us::.lst tx'::.lst td'::(g++[.lst (r.2.map D.str)]),?_,?_⟩
 ·have hl:(Wk S st a us k tx' td' en g).length=S.length+4+g.length:=by simp[Wk];omega
  have e1:(jD 3 (zGt 4 7 ZE (zC (zD 0) (zC (zD 1) (zC (zD 2) zH))))) [some tree,some (.str st),some (.ref a),none,none] S=.nx [some tree,some (.str st),some (.ref a),some (.ref S.length),none] (Wk S st a [] 0 [] [.tup [.str QM,tree,.non]] .non []):=by
   simp only[jD,zGt,zC,zH,zD,List.getElem?_cons_zero,List.getElem?_cons_succ,R.bind_ok,hi,if_true,R.stm_ok,List.set_cons_zero,List.set_cons_succ]
  have e2:(jD 4 (q8 4 yt (zD 3) zH)) [some tree,some (.str st),some (.ref a),some (.ref S.length),none] (Wk S st a [] 0 [] [.tup [.str QM,tree,.non]] .non [])=.nx [some tree,some (.str st),some (.ref a),some (.ref S.length),some (jB r.1)] (Wk S st a us k tx' td' en g):=by
   simp[wk0,h]
  show (zCh [some tree,some (.str st),some (.ref a),none,none] S).out=_
  unfold zCh
  show ((((jD 3 _) [some tree,some (.str st),some (.ref a),none,none] S).then _).out)=_
  rw[e1,RS.then_nx]
  show ((((jD 4 _) [some tree,some (.str st),some (.ref a),some (.ref S.length),none] (Wk S st a [] 0 [] [.tup [.str QM,tree,.non]] .non [])).then _).out)=_
  rw[e2,RS.then_nx]
  have e3:Wk S st a us k tx' td' en g++[.lst (r.2.map D.str)]=S++(.ins 4 [some (.str st),some (.ref a),some (.ref (S.length+1)),some (.int k),some (.ref (S.length+2)),some (.ref (S.length+3)),some en]::.dct us::.lst tx'::.lst td'::(g++[.lst (r.2.map D.str)])):=by simp[Wk]
  rw[<- e3]
  simp[wk0,wk1,hk,hl,z2,RS.out]
 ·rw[List.getElem?_append_right (by omega),show S.length+4+g.length - S.length=g.length+1+1+1+1 by omega]
  simp
noncomputable def Jz:SM :=
  (zK (jD 1 (eC (.str [32,33,35,36,38,39,40,41,42,43,44,45,46,47,48,49,50,51,52,53,54,55,56,57,58,59,60,61,62,63,64,65,66,67,68,69,70,71,72,73,74,75,76,77,78,79,80,81,82,83,84,85,86,87,88,89,90,91,92,93,94,95,96])))
  (zK (jD 1 (eOp jJ (zD 1) (eC (.str [97,98,99,100,101,102,103,104,105,106,107,108,109,110,111,112,113,114,115,116,117,118,119,120,121,122,123,124,125,126]))))
  (jN (eOp zN (zD 1) (eOp jr (zD 0) (eC (.int 93)))))))
noncomputable def zBH:F:=fn 2 Jz
noncomputable def y7:F:=chS zBH
theorem zHo:jL 1 zBH y7:=Jc _
noncomputable def zJk:T:=[32,33,35,36,38,39,40,41,42,43,44,45,46,47,48,49,50,51,52,53,54,55,56,57,58,59,60,61,62,63,64,65,66,67,68,69,70,71,72,73,74,75,76,77,78,79,80,81,82,83,84,85,86,87,88,89,90,91,92,93,94,95,96]++[97,98,99,100,101,102,103,104,105,106,107,108,109,110,111,112,113,114,115,116,117,118,119,120,121,122,123,124,125,126]
noncomputable def sgN (c:Int):Nat:=zJk.getD (c % 93).toNat 0
theorem zRI (c:Int) (S:M.S):y7 [.int c] S=.ok (.str [sgN c]) S:=by
 have a:=Int.emod_nonneg c (show (93:Int)≠0 by decide)
 have b:=Int.emod_lt_of_pos c (show (0:Int) < 93 by decide)
 have e:atI zJk (c % 93)=some (sgN c):=zDp (xs:=zJk) a (show c % 93 < ((93:Nat):Int) from b) 0
 have z1:(93:Nat) <= SZ:=by decide
 refine Jn (g:=[]) ?_ rfl
 rw[List.append_nil]
 unfold zJk at e
 have z2:(63:Nat)+30 <= SZ:=by decide
 simp only[zBH,Jz,fn,List.map_cons,List.map_nil,List.length_cons,List.length_nil,List.replicate,List.cons_append,List.nil_append,zK,jD,eC,R.stm_ok,List.set_cons_succ,List.set_cons_zero,RS.then_nx,eOp,zD,List.getElem?_cons_succ,List.getElem?_cons_zero,R.bind_ok,jJ,jN,jr]
 simp only[List.cons_append,List.nil_append] at e
 simp[e,z1,RS.out]
noncomputable def Jx:SM :=
  (jN (zAn (JB []) 1 (qe (zD 1)) (jl 2) Qp (zR y7 (zC (eOp jJ (eOp jr (eOp QA (eOp jJ (zD 0) (eOp QA (zD 2) (eC (.int 977)))) (eC (.int 48271))) (eC (.int 7919))) (eOp QA (eOp jr (eOp yF (zD 0) (eC (.int 93))) (eC (.int 2))) (zD 2))) zH))))
noncomputable def zBO:F:=fn 2 Jx
noncomputable def Zx:F:=chS zBO
theorem zHC:jL 2 zBO Zx:=Jc _
noncomputable def zDD (c:Int) (n:Nat):T:=(List.range n).map fun (k:Nat)=>sgN ((c+k * 977) * 48271 % 7919+c / 93 % 2 * k)
theorem zLc (c:Int) (n:Nat) (hn:n <= 60) (S:M.S):Zx [.int c,.int (n:Int)] S=.ok (.str (zDD c n)) S/\(zDD c n).length <= 60:=by
 have s1:yS 977=true:=by decide
 have s2:yS 48271=true:=by decide
 have a:=Int.emod_nonneg (c / 93) (show (2:Int)≠0 by decide)
 have b:=Int.emod_lt_of_pos (c / 93) (show (0:Int) < 2 by decide)
 have s3:yS (c / 93 % 2)=true:=by unfold yS;rw[decide_eq_true_iff];omega
 have q1:n < 4611686018427387904:=by omega
 have hc:Zp 1 (qe (zD 1)) (jl 2) Qp (zR y7 (zC (eOp jJ (eOp jr (eOp QA (eOp jJ (zD 0) (eOp QA (zD 2) (eC (.int 977)))) (eC (.int 48271))) (eC (.int 7919))) (eOp QA (eOp jr (eOp yF (zD 0) (eC (.int 93))) (eC (.int 2))) (zD 2))) zH)) [some (.int c),some (.int (n:Int))] S=.ok ((List.range n).map fun (k:Nat)=>.str [sgN ((c+k * 977) * 48271 % 7919+c / 93 % 2 * k)]) S:=by
  have:=zG7 (n:=1) (it:=qe (zD 1)) (tg:=jl 2) (e:=zR y7 (zC (eOp jJ (eOp jr (eOp QA (eOp jJ (zD 0) (eOp QA (zD 2) (eC (.int 977)))) (eC (.int 48271))) (eC (.int 7919))) (eOp QA (eOp jr (eOp yF (zD 0) (eC (.int 93))) (eC (.int 2))) (zD 2))) zH)) (σ:=[some (.int c),some (.int (n:Int))]) (s:=S) (lo:=0) (hi:=(n:Int)) (fun (k:Nat)=>.str [sgN ((c+k * 977) * 48271 % 7919+c / 93 % 2 * k)]) (by simp[q1]) (by unfold SZ;omega) fun k hk=>by
   simp[zRI,s1,s2,s3]
  simpa using this
 have hj:=zIj (fun (k:Nat)=>sgN ((c+k * 977) * 48271 % 7919+c / 93 % 2 * k)) (List.range n) S (by rw[List.length_range];unfold SZ;omega)
 refine⟨?_,by unfold zDD;simp;omega⟩
 refine Jn (g:=[]) ?_ rfl
 rw[List.append_nil]
 unfold zDD
 simp[zBO,Jx,hc,hj]
noncomputable def Jj:SM :=
  (zK (jD 2 (qJ (zC (jx (zC (zD 0) (zC (zD 1) zH))) zH)))
  (zK (zDg (zw cNe (zD 2) (qJ zH))
  (zK (jD 3 (eM .list zDL (zD 2) zH))
  (sIf (ZH (zR Qi (zC (eOp zN (zD 3) (eC (.int 1))) (zC (eC (.ty .str)) zH))))
  (sIf (tOr (ZX (ZH (zR Qi (zC (eOp zN (zD 3) (eC (.int 0))) (zC (eC (.ty .str)) zH))))) (zw cNe (eOp zN (zD 3) (eC (.int 0))) (eOp zN (zD 3) (eC (.int 1)))))
  (jN (eC (.bl false)))
  jq)
  (sIf (ZH (zR Qi (zC (eOp zN (zD 3) (eC (.int 1))) (zC (eC (.ty .tuple)) zH))))
  (zK (sIf (tOr (ZX (ZH (zR Qi (zC (eOp zN (zD 3) (eC (.int 0))) (zC (eC (.ty .tuple)) zH))))) (zw cNe (zR Zg (zC (eOp zN (zD 3) (eC (.int 0))) zH)) (zR Zg (zC (eOp zN (zD 3) (eC (.int 1))) zH))))
  (jN (eC (.bl false)))
  jq)
  (jD 2 (eOp jJ (zD 2) (zR zAR (zC (eOp zN (zD 3) (eC (.int 0))) (zC (eOp zN (zD 3) (eC (.int 1))) zH))))))
  (sIf (tOr (zDB (eOp zN (zD 3) (eC (.int 0)))) (zDB (eOp zN (zD 3) (eC (.int 1)))))
  (jN (eC (.bl false)))
  jq)))))
  (jN (eC (.bl true)))))
noncomputable def zKS:F:=fn 4 Jj
noncomputable abbrev zCQ:SM:=zK (jD 3 (eM .list zDL (zD 2) zH))
  (sIf (ZH (zR Qi (zC (eOp zN (zD 3) (eC (.int 1))) (zC (eC (.ty .str)) zH))))
  (sIf (tOr (ZX (ZH (zR Qi (zC (eOp zN (zD 3) (eC (.int 0))) (zC (eC (.ty .str)) zH))))) (zw cNe (eOp zN (zD 3) (eC (.int 0))) (eOp zN (zD 3) (eC (.int 1)))))
  (jN (eC (.bl false)))
  jq)
  (sIf (ZH (zR Qi (zC (eOp zN (zD 3) (eC (.int 1))) (zC (eC (.ty .tuple)) zH))))
  (zK (sIf (tOr (ZX (ZH (zR Qi (zC (eOp zN (zD 3) (eC (.int 0))) (zC (eC (.ty .tuple)) zH))))) (zw cNe (zR Zg (zC (eOp zN (zD 3) (eC (.int 0))) zH)) (zR Zg (zC (eOp zN (zD 3) (eC (.int 1))) zH))))
  (jN (eC (.bl false)))
  jq)
  (jD 2 (eOp jJ (zD 2) (zR zAR (zC (eOp zN (zD 3) (eC (.int 0))) (zC (eOp zN (zD 3) (eC (.int 1))) zH))))))
  (sIf (tOr (zDB (eOp zN (zD 3) (eC (.int 0)))) (zDB (eOp zN (zD 3) (eC (.int 1)))))
  (jN (eC (.bl false)))
  jq)))
noncomputable abbrev zHT:TM:=zw cNe (zD 2) (qJ zH)
theorem zTT:Jj=zK (jD 2 (qJ (zC (jx (zC (zD 0) (zC (zD 1) zH))) zH))) (zK (zDg zHT zCQ) (jN (eC (.bl true)))):=rfl
noncomputable def okA:D->Bool
 | .non=>true
 | .str _=>true
 | .tup ds=>decide (ds.length <= 1000) && all ds
 | _=>false
where all:List D->Bool
 | []=>true
 | d::ds=>okA d && all ds
noncomputable def siz:D->Nat
 | .tup ds=>1+all ds
 | _=>1
where all:List D->Nat
 | []=>0
 | d::ds=>siz d+all ds
noncomputable def qF (d:D):D:=.tup [d,d]
theorem zLr (a b:List D):okA.all (a++b)=(okA.all a && okA.all b):=by
 induction a with
 | nil=>rfl
 | cons d a ih=>simp[okA.all,ih,Bool.and_assoc]
theorem zDe (a b:List D):siz.all (a++b)=siz.all a+siz.all b:=by
 induction a with
 | nil=>simp[siz.all]
 | cons d a ih=>simp[siz.all,ih,Nat.add_assoc]
theorem zQq (ds:List D):ds.length <= siz.all ds:=by
 induction ds with
 | nil=>exact Nat.zero_le _
 | cons d ds ih =>
  have:1 <= siz d:=by cases d<;>simp[siz]
  simp only[siz.all,List.length_cons];omega
theorem zGE:∀ ds:List D,zDt ds ds=ds.map qF
 | []=>rfl
 | d::ds=>by
  show .tup [d,d]::zDt ds ds=_
  rw[zGE ds];rfl
mutual
theorem zPu (g:Nat->Option P):∀ d:D,okA d=true->∃ p,yV g d=some p/\p.dep <= siz d
 | .non,_=>⟨.non,rfl,by simp[P.dep]⟩
 | .str x,_=>⟨.str x,rfl,by simp[P.dep]⟩
 | .tup ds,h=>by
  have h2:okA.all ds=true:=by
   have:(decide (ds.length <= 1000) && okA.all ds)=true:=h
   rw[Bool.and_eq_true] at this
   exact this.2
  obtain⟨ps,e,hd,_⟩:=zNv g ds h2
  refine⟨.tup ps,?_,?_⟩
  ·show (yV.all g ds).map P.tup=_
   rw[e];rfl
  ·simp only[P.dep,siz];omega
 | .bl _,h=>by cases h
 | .int _,h=>by cases h
 | .ro _,h=>by cases h
 | .ref _,h=>by cases h
 | .ty _,h=>by cases h
theorem zNv (g:Nat->Option P):∀ ds:List D,okA.all ds=true->∃ ps,yV.all g ds=some ps/\P.deps ps <= siz.all ds/\ps.length=ds.length
 | [],_=>⟨[],rfl,by simp[P.deps],rfl⟩
 | d::ds,h=>by
  have h2:(okA d && okA.all ds)=true:=h
  rw[Bool.and_eq_true] at h2
  obtain⟨p,e1,d1⟩:=zPu g d h2.1
  obtain⟨ps,e2,d2,l⟩:=zNv g ds h2.2
  refine⟨p::ps,?_,?_,by simp[l]⟩
  ·show (match yV g d,yV.all g ds with | some p,some ps=>some (p::ps) | _,_=>none)=_
   rw[e1,e2]
  ·simp only[P.deps,siz.all];omega
end
theorem zLp (g:Nat->Option P):∀ ds:List D,okA.all ds=true->∃ ps,yV.all g (ds.map qF)=some ps/\P.deps ps <= siz.all ds+1/\ps.length=ds.length
 | [],_=>⟨[],rfl,by simp[P.deps],rfl⟩
 | d::ds,h=>by
  have h2:(okA d && okA.all ds)=true:=h
  rw[Bool.and_eq_true] at h2
  obtain⟨p,e1,d1⟩:=zPu g d h2.1
  obtain⟨ps,e2,d2,l⟩:=zLp g ds h2.2
  have e3:yV g (qF d)=some (.tup [p,p]):=by
   show (yV.all g [d,d]).map P.tup=_
   simp only[yV.all,e1]
   rfl
  refine⟨.tup [p,p]::ps,?_,?_,by simp[l]⟩
  ·show (match yV g (qF d),yV.all g (ds.map qF) with | some p,some ps=>some (p::ps) | _,_=>none)=_
   rw[e3,e2]
  ·simp only[P.deps,P.dep,siz.all];omega
theorem zLj {s:M.S}{p:Nat}{ds:List D} (e:s[p]? = some (.lst (ds.map qF))) (hk:okA.all ds=true) (hz:siz.all ds <= 50) {v0 v1 v3:Option D}:zHT [v0,v1,some (.ref p),v3] s=.ok (!ds.isEmpty) (s++[O.lst []]):=by
 obtain⟨ps,e2,d2,l⟩:=zLp (fun j=>toP 8 (s++[O.lst []]) (.ref j)) ds hk
 have e':=jQ e [O.lst []]
 have t1:toP zCe (s++[O.lst []]) (.ref p)=some (.lst ps):=by
  show (match jW (s++[O.lst []]) p with | some xs=>(yV.all (fun j=>toP 8 (s++[O.lst []]) (.ref j)) xs).map P.lst | none=>none)=_
  have:jW (s++[O.lst []]) p=some (ds.map qF):=by simp only[jW,e']
  rw[this]
  dsimp only
  rw[e2];rfl
 have t2:toP zCe (s++[O.lst []]) (.ref s.length)=some (.lst []):=by
  show (match jW (s++[O.lst []]) s.length with | some xs=>(yV.all (fun j=>toP 8 (s++[O.lst []]) (.ref j)) xs).map P.lst | none=>none)=_
  have:jW (s++[O.lst []]) s.length=some []:=by simp[jW]
  rw[this]
  rfl
 have eq:eqD (.ref p) (.ref s.length) (s++[O.lst []])=.ok ds.isEmpty (s++[O.lst []]):=by
  simp only[eqD,t1,t2]
  rw[if_pos ⟨by simp only[P.dep];omega,by simp[P.dep,P.deps]⟩]
  congr 1
  cases ps with
  | nil=>cases ds with
   | nil=>rfl
   | cons _ _=>simp at l
  | cons _ _=>cases ds with
   | nil=>simp at l
   | cons _ _=>rfl
 have z0:(0:Nat) <= SZ:=by decide
 simp[-eqD,eq,z0]
noncomputable def jw:F
 | [a,b],s=>if a=b/\okA a=true/\siz a <= 50 then .ok (.bl true) s else .no
 | _,_=>.no
theorem zRN {S t:M.S}{p:Nat}{ds:List D}{d:D} (hle:S.length <= p) (e:(S++t)[p]? = some (.lst ((ds++[d]).map qF))) (hk:okA d=true) (hz:siz.all (ds++[d]) <= 50) {v0 v1 v3:Option D} :
  ∃ t' p' ds',zCQ [v0,v1,some (.ref p),v3] (S++t)=.nx [v0,v1,some (.ref p'),some (qF d)] (S++t')/\S.length <= p'/\(S++t')[p']? = some (.lst (ds'.map qF))/\(okA.all ds=true->okA.all ds'=true)/\siz.all ds'+1=siz.all (ds++[d]):=by
 have hlt:=(List.getElem?_eq_some_iff.mp e).1
 rw[List.length_append] at hlt
 have es:(S++t).set p (.lst (ds.map qF))=S++t.set (p - S.length) (.lst (ds.map qF)):=by
  rw[List.set_append,if_neg (by omega)]
 have e1:(S++t.set (p - S.length) (.lst (ds.map qF)))[p]? = some (.lst (ds.map qF)):=by
  rw[<- es,List.getElem?_set_self (by rw[List.length_append];omega)]
 generalize ht1:t.set (p - S.length) (.lst (ds.map qF))=t1 at *
 have gl:((ds++[d]).map qF).getLast? = some (qF d):=by simp
 have dl:((ds++[d]).map qF).dropLast=ds.map qF:=by simp
 generalize hL:(ds++[d]).map qF=L at *
 have b1:∀ r,zK (jD 3 (eM .list zDL (zD 2) zH)) r [v0,v1,some (.ref p),v3] (S++t)=r [v0,v1,some (.ref p),some (qF d)] (S++t1):=fun r=>by
  simp only[zK,jD,eM,zD,List.getElem?_cons_succ,List.getElem?_cons_zero,R.bind_ok,zBM,e,if_true,zH,zDL,gl,dl,es,R.stm_ok,RS.then_nx,List.set_cons_succ,List.set_cons_zero]
 have a0:∀ a b:D,atI [a,b] 0=some a:=fun _ _=>rfl
 have a1:∀ a b:D,atI [a,b] 1=some b:=fun _ _=>rfl
 cases d with
 | non =>
  refine⟨t1,p,ds,?_,hle,e1,id,by rw[zDe];rfl⟩
  rw[zCQ,b1]
  simp[qF,a0,a1,QK]
 | str x =>
  refine⟨t1,p,ds,?_,hle,e1,id,by rw[zDe];rfl⟩
  rw[zCQ,b1]
  simp[qF,a0,a1,QK]
 | tup cs =>
  have hk2:True/\cs.length <= 1000/\okA.all cs=true:=by
   have:(decide (cs.length <= 1000) && okA.all cs)=true:=hk
   rw[Bool.and_eq_true,decide_eq_true_iff] at this
   exact⟨trivial,this.1,this.2⟩
  have hds:=zQq ds
  rw[zDe] at hz
  have hz2:siz.all ds <= 50:=by omega
  have zz:ds.length+cs.length <= SZ:=by unfold SZ;omega
  have zl:(zDt cs cs).length=cs.length:=by rw[zGE,List.length_map]
  have g1:∀ g:M.S,(S++(t1++g))[p]? = some (.lst (ds.map qF)):=fun g=>by rw[<- List.append_assoc];exact jQ e1 g
  have g2:∀ a:O,(S++(t1++[a]))[S.length+t1.length]? = some a:=fun a=>by
   rw[<- List.append_assoc,List.getElem?_append_right (by rw[List.length_append];omega),List.length_append,Nat.sub_self];rfl
  refine⟨t1++[.lst (zDt cs cs),.lst (ds.map qF++zDt cs cs)],S.length+t1.length+1,ds++cs,?_,by omega,?_,fun h=>by rw[zLr,h,hk2.2.2];rfl,?_⟩
  ·rw[zCQ,b1]
   by_cases hc:0 < cs.length
   ·simp[qF,a0,a1,QK,hc,g1,g2,zl,zz]
   ·have hc0:cs=[]:=List.length_eq_zero_iff.mp (by omega)
    subst hc0
    have zd:ds.length <= SZ:=by unfold SZ;omega
    simp[qF,a0,a1,QK,g1,g2,zDt,zd]
  ·rw[<- List.append_assoc,List.getElem?_append_right (by rw[List.length_append];omega),List.length_append,zGE,List.map_append]
   simp[show S.length+t1.length+1 - (S.length+t1.length)=1 by omega]
  ·rw[zDe,zDe]
   simp only[siz.all,siz]
   omega
 | bl _=>cases hk
 | int _=>cases hk
 | ro _=>cases hk
 | ref _=>cases hk
 | ty _=>cases hk
theorem zQJ {S:M.S}{v0 v1:Option D}:∀ (k:Nat) (ds:List D) (t:M.S) (p N:Nat) (v3:Option D),siz.all ds=k->k < N->k <= 50->okA.all ds=true->S.length <= p->(S++t)[p]? = some (.lst (ds.map qF))->∃ t' p' v3',qQ N zHT zCQ [v0,v1,some (.ref p),v3] (S++t)=.nx [v0,v1,some (.ref p'),v3'] (S++t'):=by
 intro k
 induction k with
 | zero =>
  intro ds t p N v3 hs hN hk ho hle e
  obtain⟨N',rfl⟩:∃ N',N=N'+1:=⟨N - 1,by omega⟩
  have hd:ds=[]:=by
   cases ds with
   | nil=>rfl
   | cons d ds =>
    have:1 <= siz d:=by cases d<;>simp[siz]
    simp only[siz.all] at hs
    omega
  subst hd
  have et:=zLj e ho (by omega) (v0:=v0) (v1:=v1) (v3:=v3)
  refine⟨t++[.lst []],p,v3,?_⟩
  rw[qQ,et]
  simp
 | succ k ih =>
  intro ds t p N v3 hs hN hk ho hle e
  obtain⟨N',rfl⟩:∃ N',N=N'+1:=⟨N - 1,by omega⟩
  have hd:ds≠[]:=fun z=>by rw[z] at hs;simp[siz.all] at hs
  have eL:=List.dropLast_concat_getLast hd
  generalize ds.dropLast=es at eL
  generalize ds.getLast hd=d at eL
  subst eL
  have et:=zLj e ho (by omega) (v0:=v0) (v1:=v1) (v3:=v3)
  have ho2:=ho
  rw[zLr,Bool.and_eq_true] at ho2
  have hd2:okA d=true:=by
   have:(okA d && okA.all [])=true:=ho2.2
   rw[Bool.and_eq_true] at this
   exact this.1
  have e':(S++(t++[O.lst []]))[p]? = some (.lst ((es++[d]).map qF)):=by rw[<- List.append_assoc];exact jQ e _
  obtain⟨t',p',ds',h1,h2,h3,h4,h5⟩:=zRN hle e' hd2 (by omega) (v0:=v0) (v1:=v1) (v3:=v3)
  obtain⟨t2,p2,v32,h6⟩:=ih ds' t' p' N' (some (qF d)) (by omega) (by omega) (by omega) (h4 ho2.1) h2 h3
  refine⟨t2,p2,v32,?_⟩
  have hne:(!(es++[d]).isEmpty)=true:=by cases es<;>rfl
  rw[qQ,et,hne,R.stm_ok,if_pos rfl,List.append_assoc,h1]
  exact h6
theorem zJL:jL 2 zKS jw:=jL.pure fun ds S hl c ca=>by
 match ds,hl with
 | [a,b],_ =>
  by_cases h:a=b/\okA a=true/\siz a <= 50
  ·obtain⟨rfl,h2,h3⟩:=h
   have hs:siz.all [a]=siz a:=by simp[siz.all]
   obtain⟨t',p',v3',e⟩:=zQJ (S:=S) (v0:=some a) (v1:=some a) (siz a) [a] [.lst [qF a]] S.length zEv none hs (by unfold zEv;omega) h3 (by simp[okA.all,h2]) (Nat.le_refl _) (by simp)
   refine .inr ⟨.bl true,t',by simp[jw,h2,h3],?_,rfl⟩
   have z2:(2:Nat) <= SZ:=by decide
   have z1:(1:Nat) <= SZ:=by decide
   have b1:∀ r,zK (jD 2 (qJ (zC (jx (zC (zD 0) (zC (zD 1) zH))) zH))) r [some a,some a,none,none] S=r [some a,some a,some (.ref S.length),none] (S++[.lst [qF a]]):=fun r=>by
    simp[z1,z2,qF]
   show (Jj [some a,some a,none,none] S).out=_
   rw[zTT,b1]
   show ((qQ zEv zHT zCQ _ _).then _).out=_
   rw[e]
   rfl
  ·exact .inl (by simp only[jw];rw[if_neg h])
noncomputable def yN:SM :=
  (jD 2 (eOp zN (zD 1) (eOp jr (eOp yF (zD 0) (eC (.int 6))) (eC (.int 8)))))
noncomputable def yL:SM :=
  (jD 3 (eOp zN (zD 1) (eOp jr (eOp yF (zD 0) (eC (.int 48))) (eC (.int 8)))))
noncomputable def qq:SM :=
  (jD 4 (qJ (zC (zD 2) (zC (eOp jJ (eOp jJ (zD 2) (eC (.str [46]))) (zD 3)) (zC (eC (.str [])) (zC (eOp jJ (eOp jJ (eOp jJ (eOp jJ (eC (.str [32,32])) (zD 3)) (eC (.str [10]))) (zD 2)) (eC (.str [32]))) (zC (eOp jJ (eOp jJ (eOp jJ (eOp jJ (zD 2) (eC (.str [32]))) (zD 3)) (eC (.str [32]))) (zD 2)) zH)))))))
noncomputable def ZF:SM :=
  (jD 4 (eOp jJ (zD 4) (qJ (zC (zR Zx (zC (eOp yF (zD 0) (eC (.int 384))) (zC (eOp jr (eOp yF (zD 0) (eC (.int 6))) (eC (.int 31))) zH))) zH))))
noncomputable def ZI:SM :=
  (jN (eOp zN (zD 4) (eOp jr (zD 0) (eC (.int 6)))))
noncomputable def zAS:SM:=(zK yN (zK yL (zK qq (zK ZF ZI))))
noncomputable def zCP:F:=fn 5 zAS
noncomputable def qr:F:=chS zCP
theorem zFs:jL 2 zCP qr:=Jc _
theorem zDq {ts:List T}{k:Int} (h0:0 <= k) (h:k < ts.length):atI (ts.map D.str) k=some (.str (ts.getD k.toNat [])):=by
 rw[zDp (d:=.str []) h0 (by simpa using h),List.getD_eq_getElem?_getD,List.getD_eq_getElem?_getD,List.getElem?_map]
 cases ts[k.toNat]?<;>rfl
theorem yb {N:List T} (h:∀ t∈N,t.length <= 17) (i:Nat):(N.getD i []).length <= 17:=by
 rw[List.getD_eq_getElem?_getD]
 cases q:N[i]? with
 | none=>simp
 | some t=>exact h t (List.mem_of_getElem? q)
theorem zNi {N:List T} (hN:N.length=8) (h:∀ t∈N,t.length <= 17) {S:M.S}{p:Nat} (hp:S[p]? = some (.lst (N.map .str))) (c:Int):∃ t,qr [.int c,.ref p] S=.ok (.str t) S/\t.length <= 60:=by
 have a0:=Int.emod_nonneg (c / 6) (show (8:Int)≠0 by decide)
 have a1:=Int.emod_lt_of_pos (c / 6) (show (0:Int) < 8 by decide)
 have b0:=Int.emod_nonneg (c / 48) (show (8:Int)≠0 by decide)
 have b1:=Int.emod_lt_of_pos (c / 48) (show (0:Int) < 8 by decide)
 have x1:=zDq (ts:=N) a0 (by omega)
 have x2:=zDq (ts:=N) b0 (by omega)
 have l1:=yb h (c / 6 % 8).toNat
 have l2:=yb h (c / 48 % 8).toNat
 generalize N.getD (c / 6 % 8).toNat []=f at *
 generalize N.getD (c / 48 % 8).toNat []=g at *
 have c0:=Int.emod_nonneg (c / 6) (show (31:Int)≠0 by decide)
 have c1:=Int.emod_lt_of_pos (c / 6) (show (0:Int) < 31 by decide)
 have tx:=fun s=>zLc (c / 384) (c / 6 % 31).toNat (by omega) s
 rw[show (((c / 6 % 31).toNat:Nat):Int)=c / 6 % 31 by omega] at tx
 generalize hu:zDD (c / 384) (c / 6 % 31).toNat=u at *
 have lu:=(tx S).2
 have tx':=fun s=>(tx s).1
 have k0:=Int.emod_nonneg c (show (6:Int)≠0 by decide)
 have k1:=Int.emod_lt_of_pos c (show (0:Int) < 6 by decide)
 have z5:(5:Nat) <= SZ:=by decide
 have z1:(1:Nat) <= SZ:=by decide
 have z6:(6:Nat) <= SZ:=by decide
 have e1:∀ r,(yN [some (.int c),some (.ref p),none,none,none] S).then (zK yL r)=r [some (.int c),some (.ref p),some (.str f),some (.str g),none] S:=fun r=>by
  simp[yN,yL,hp,x1,x2]
 have m1:f.length+1 <= SZ:=by unfold SZ;omega
 have m2:f.length+1+g.length <= SZ:=by unfold SZ;omega
 have m3:g.length+1+1 <= SZ:=by unfold SZ;omega
 have m4:g.length+1+1+1 <= SZ:=by unfold SZ;omega
 have m5:g.length+f.length+1+1+1 <= SZ:=by unfold SZ;omega
 have zz:∀ n,n <= 200->n <= SZ:=fun n h=>by unfold SZ;omega
 have e3:qq [some (.int c),some (.ref p),some (.str f),some (.str g),none] S=.nx [some (.int c),some (.ref p),some (.str f),some (.str g),some (.ref S.length)] (S++[.lst [.str f,.str (f++[46]++g),.str [],.str ([32,32]++g++[10]++f++[32]),.str (f++[32]++g++[32]++f)]]):=by
  have w1:=zz (f.length+1) (by omega)
  simp only[qq,jD,qJ,zC,zH,zD,eOp,eC,List.getElem?_cons_zero,List.getElem?_cons_succ,R.bind_ok,jJ,List.length_append,List.length_cons,List.length_nil]
  rw[if_pos (zz _ (by omega))]
  simp only[R.bind_ok,List.length_append,List.length_cons,List.length_nil]
  rw[if_pos (zz _ (by omega))]
  simp only[R.bind_ok,List.length_append,List.length_cons,List.length_nil]
  rw[if_pos (zz _ (by omega))]
  simp only[R.bind_ok,List.length_append,List.length_cons,List.length_nil]
  rw[if_pos (zz _ (by omega))]
  simp only[R.bind_ok,List.length_append,List.length_cons,List.length_nil]
  rw[if_pos (zz _ (by omega))]
  simp only[R.bind_ok,List.length_append,List.length_cons,List.length_nil]
  rw[if_pos (zz _ (by omega))]
  simp only[R.bind_ok,List.length_append,List.length_cons,List.length_nil]
  rw[if_pos (zz _ (by omega))]
  simp only[R.bind_ok,List.length_append,List.length_cons,List.length_nil]
  rw[if_pos (zz _ (by omega))]
  simp only[R.bind_ok,List.length_append,List.length_cons,List.length_nil]
  rw[if_pos (zz _ (by omega))]
  simp only[R.bind_ok,List.length_append,List.length_cons,List.length_nil]
  rw[if_pos (zz _ (by omega))]
  simp only[R.bind_ok,List.length_append,List.length_cons,List.length_nil]
  rw[if_pos (zz _ (by omega))]
  rfl
 generalize hL:[D.str f,.str (f++[46]++g),.str [],.str ([32,32]++g++[10]++f++[32]),.str (f++[32]++g++[32]++f)]=L at *
 have hLl:L.length=5:=by rw[<- hL];rfl
 have pick:∀ t,atI (L++[.str u]) (c % 6)=some (.str t)->qr [.int c,.ref p] S=.ok (.str t) S:=fun t e=>by
  refine Jn (g:=[.lst L,.lst [.str u],.lst (L++[.str u])]) ?_ rfl
  show ((yN [some (.int c),some (.ref p),none,none,none] S).then (zK yL (zK qq (zK ZF ZI)))).out=_
  rw[e1]
  show ((qq _ _).then _).out=_
  rw[e3]
  simp[ZF,ZI,tx',z1,z6,hLl,e,RS.out]
 rw[<- hL] at pick
 have:c % 6=0\/c % 6=1\/c % 6=2\/c % 6=3\/c % 6=4\/c % 6=5:=by omega
 rcases this with e | e | e | e | e | e<;>rw[e] at pick
 ·exact⟨_,pick _ rfl,by omega⟩
 ·exact⟨_,pick _ rfl,by simp;omega⟩
 ·exact⟨_,pick _ rfl,by simp⟩
 ·exact⟨_,pick _ rfl,by simp;omega⟩
 ·exact⟨_,pick _ rfl,by simp;omega⟩
 ·exact⟨_,pick _ rfl,lu⟩
noncomputable def zB8:SM :=
  (jD 1 (zR QP (zC (zR jP (zC (zD 0) (zC (eC (.int 0)) zH))) zH)))
noncomputable def zB9:SM :=
  (jD 2 (zR jP (zC (zD 0) (zC (eC (.int 1)) zH))))
noncomputable def zCA:SM :=
  (jD 3 (eOp jJ (eOp jJ (eOp zN (zD 1) (eC (.int 1))) (eC (.str [46]))) (eOp zN (zD 1) (eC (.int 0)))))
noncomputable def Jv:SM :=
  (jD 4 (eOp zN (qJ (zC (jx (zC (eC (.str [116,101,120,116])) (zC (zR Zx (zC (eOp yF (zD 2) (eC (.int 8))) (zC (eOp jr (eOp yF (zD 2) (eC (.int 744))) (eC (.int 31))) zH))) zH))) (zC (jx (zC (eC (.str [108,105,110,101])) zH)) (zC (jx (zC (eC (.str [115,116,101,109])) zH)) (zC (jx (zC (eC (.str [107,105,110])) (zC (eOp zN (zD 1) (eC (.int 1))) zH))) zH))))) (eOp jr (zD 2) (eC (.int 4)))))
noncomputable def Qo:SM :=
  (sIf (zw cEq (eOp jr (eOp yF (zD 2) (eC (.int 4))) (eC (.int 2))) (eC (.int 1)))
  (jD 4 (jx (zC (eC (.str [116,104,105,110,103])) (zC (eOp zN (qJ (zC (eOp zN (zD 1) (eC (.int 2))) (zC (zD 3) zH))) (eOp jr (zD 2) (eC (.int 2)))) zH))))
  jq)
noncomputable def Qz:SM :=
  (sIf (zw cEq (eOp jr (eOp yF (zD 2) (eC (.int 8))) (eC (.int 7))) (eC (.int 1)))
  (jD 4 (jx (zC (eC (.str [116,101,120,116])) (zC (eOp zN (qJ (zC (eOp zN (zD 1) (eC (.int 3))) (zC (eOp jJ (eOp jJ (eOp zN (zD 1) (eC (.int 4))) (eC (.str [46]))) (eOp zN (zD 1) (eC (.int 0)))) (zC (zD 3) (zC (eC (.str [105,102])) (zC (eOp jJ (eOp zN (zD 1) (eC (.int 3))) (eC (.str [32]))) zH)))))) (eOp jr (eOp yF (zD 2) (eC (.int 56))) (eC (.int 5)))) zH))))
  jq)
noncomputable def zAa:SM :=
  (jD 5 zHD)
noncomputable def J8:SM :=
  (zAE (qe (eC (.int 2))) (jl 6)
  (zK (jD 7 (eOp zN (qJ (zC (eOp zN (zD 1) (eC (.int 2))) (zC (zD 3) zH))) (zD 6)))
  (zK (jD 8 (zR jP (zC (zD 0) (zC (eOp jJ (eC (.int 2)) (zD 6)) zH))))
  (sIf (zw cGt (eOp jr (zD 8) (eC (.int 4))) (eC (.int 0)))
  (zEE (zD 5) (zD 7) (eOp zN (qJ (zC (zD 3) (zC (eOp zN (zD 1) (eC (.int 2))) (zC (zR qr (zC (eOp yF (zD 8) (eC (.int 4))) (zC (zD 1) zH))) zH)))) (eOp zFc (eOp jr (zD 8) (eC (.int 4))) (eC (.int 1)))))
  jq))))
noncomputable def zAX:SM :=
  (jD 9 (zR zBX (zC (zD 4) (zC (eOp zN (zD 1) (eC (.int 0))) (zC (zD 5) zH)))))
noncomputable def zA4:SM :=
  (jD 10 (zD 4))
noncomputable def zBA:SM :=
  (jD 11 (eOp zN (qJ (zC (eC (.str [])) (zC (eC (.str [111,102])) (zC (eC (.str [98,97,99,107])) (zC (eC (.str [102,105,114,115,116])) (zC (eC (.str [114,101,115,116])) (zC (eC (.str [99,111,117,110,116])) (zC (eC (.str [115,111,114,116,101,100])) (zC (eC (.str [102,97,105,108])) zH))))))))) (eOp jr (zR jP (zC (zD 0) (zC (eC (.int 4)) zH))) (eC (.int 8)))))
noncomputable def ZY:SM :=
  (sIf (zw cNe (zD 11) (eC (.str [])))
  (zK (jD 10 (jx (zC (zD 11) (zC (zD 4) zH))))
  (jD 9 (zR JK (zC (zD 11) (zC (eOp zN (zD 9) (eC (.int 0))) (zC (eOp zN (zD 9) (eC (.int 1))) (zC (zD 5) zH)))))))
  jq)
noncomputable def QV:SM :=
  (jD 12 (zR zMr (zC (zD 5) zH)))
noncomputable def QU:SM :=
  (zAE (qe (eC (.int 2))) (jl 13)
  (zK (jD 14 (zR Je (zC (zD 10) (zC (eOp zN (zD 1) (eC (.int 0))) (zC (zD 12) zH)))))
  (zK (sIf (tOr (ZX (ZH (zR Qi (zC (zD 14) (zC (eC (.ty .tuple)) zH))))) (tOr (zw cNe (zR Zg (zC (zD 14) zH)) (eC (.int 2))) (tOr (ZX (ZH (zR Qi (zC (eOp zN (zD 14) (eC (.int 1))) (zC (eC (.ty .list)) zH))))) (zw cNe (zD 12) (zD 5)))))
  (jN (eC (.bl false)))
  jq)
  (sIf (tOr (ZX (ZH (zR jw (zC (eOp zN (zD 14) (eC (.int 0))) (zC (eOp zN (zD 9) (eC (.int 0))) zH))))) (ZX (ZH (zR jw (zC (zR Qk (zC (eOp zN (zD 14) (eC (.int 1))) zH)) (zC (zR Qk (zC (eOp zN (zD 9) (eC (.int 1))) zH)) zH))))))
  (jN (eC (.bl false)))
  jq))))
noncomputable def Jh:SM :=
  (jN (eC (.bl true)))
noncomputable def zMG:SM:=(zK zB8 (zK zB9 (zK zCA (zK Jv (zK Qo (zK Qz (zK zAa (zK J8 (zK zAX (zK zA4 (zK zBA (zK ZY (zK QV (zK QU Jh))))))))))))))
noncomputable def zMK:F:=fn 15 zMG
theorem zJq {α:Type} (xs:List α) {lo hi:Int} (h0:0 <= lo) (h1:0 <= hi):(cut xs (some lo) (some hi)).length <= (hi - lo).toNat:=by
 unfold cut sIx
 simp only[if_neg (show ¬ lo < 0 by omega),if_neg (show ¬ hi < 0 by omega)]
 rw[List.length_take]
 omega
theorem zLg (c:Int) {k:Nat} (hk:k < 8):1 <= (plT c k).length/\(plT c k).length <= 8:=by
 have b:=zEw c
 have sz:=(zLh c).2
 unfold plT
 split
 ·rw[zFJ _ (by omega),List.length_take,b]
  omega
 ·split
  ·have i0:=Int.emod_nonneg (c / 468) (show qk c≠0 by omega)
   have i1:=Int.emod_lt_of_pos (c / 468) sz.1
   have h2:=zJq (QQ c) (lo:=c / 468 % qk c+1) (hi:=qk c) (by omega) (by omega)
   rw[zFJ _ i0,List.length_append,List.length_append,List.length_take,b]
   simp only[List.length_singleton]
   omega
  ·have m0:=Int.emod_nonneg (qk c+k) (show (8:Int)≠0 by decide)
   have m1:=Int.emod_lt_of_pos (qk c+k) (show (0:Int) < 8 by decide)
   have h2:=zJq (QQ c) (lo:=(k:Int)) (hi:=(k:Int)+(qk c+k) % 8) (by omega) (by omega)
   rw[List.length_append]
   simp only[List.length_singleton]
   omega
theorem zFU (c:Int) {k:Nat} (hk:k < 8) (N:List T):∀ j,(yI c k N j).drop 1=(plT c k).drop 1/\(yI c k N j).length=(plT c k).length
 | 0=>⟨rfl,rfl⟩
 | j+1=>by
  obtain⟨h1,h2⟩:=zFU c hk N j
  have h8:=zLg c hk
  rw[zBi]
  unfold zDz
  split
  ·refine⟨by rw[List.drop_succ_cons,List.drop_zero];exact h1,?_⟩
   rw[List.length_cons,List.length_drop]
   omega
  ·exact⟨h1,h2⟩
theorem zJJ:∀ {P Q:List T},P.Nodup->(∀ t∈P,t∈Q)->P.length <= Q.length
 | [],_,_,_=>by simp
 | t::P,Q,h,k=>by
  rw[List.nodup_cons] at h
  have ht:=k t (by simp)
  have:=zJJ (P:=P) (Q:=Q.erase t) h.2 fun u hu=>by
   have hne:u≠t:=fun e=>h.1 (e ▸ hu)
   exact (List.mem_erase_of_ne hne).mpr (k u (by simp[hu]))
  have hl:=List.length_erase_of_mem ht
  have:0 < Q.length:=List.length_pos_of_mem ht
  rw[List.length_cons]
  omega
theorem zNc (c:Int) {k:Nat} (hk:k < 8) (N:List T) (hN:N.length <= 7):¬ (jU.contains (yI c k N 26)=true\/N.contains (yI c k N 26)=true):=by
 intro hbad
 have back:∀ j,(jU.contains (yI c k N (j+1))=true\/N.contains (yI c k N (j+1))=true)->(jU.contains (yI c k N j)=true\/N.contains (yI c k N j)=true):=fun j h=>by
  by_cases hj:jU.contains (yI c k N j)=true\/N.contains (yI c k N j)=true
  ·exact hj
  ·rw[zBi] at h
   unfold zDz at h
   rw[if_neg hj] at h
   exact h
 have all:∀ i,i <= 26->(jU.contains (yI c k N (26 - i))=true\/N.contains (yI c k N (26 - i))=true):=by
  intro i
  induction i with
  | zero=>intro _;exact hbad
  | succ i ih =>
   intro hi
   have:=ih (by omega)
   rw[show 26 - i=(26 - (i+1))+1 by omega] at this
   exact back _ this
 have form:∀ j,j < 26->yI c k N (j+1)=Qm (c+j)::(plT c k).drop 1:=fun j hj=>by
  have h:=all (26 - j) (by omega)
  rw[show 26 - (26 - j)=j by omega] at h
  rw[zBi]
  unfold zDz
  rw[if_pos h,(zFU c hk N j).1]
 have sub:∀ t∈(List.range 26).map (fun (j:Nat)=>Qm (c+j)::(plT c k).drop 1),t∈jU++N:=fun t ht=>by
  obtain⟨j,hj,e⟩:=List.mem_map.mp ht
  have hj:=List.mem_range.mp hj
  have h:=all (26 - (j+1)) (by omega)
  rw[show 26 - (26 - (j+1))=j+1 by omega,form j hj] at h
  rw[<- e,List.mem_append]
  simpa using h
 have nd:((List.range 26).map (fun (j:Nat)=>Qm (c+j)::(plT c k).drop 1)).Nodup:=by
  refine List.Pairwise.map _ (R:=fun (a b:Nat)=>a < 26/\b < 26/\a≠b) (fun a b ⟨ha,hb,hab⟩ e=>?_) ?_
  ·have e1:=(List.cons.inj e).1
   unfold Qm at e1
   have a0:=Int.emod_nonneg (c+a) (show (26:Int)≠0 by decide)
   have b0:=Int.emod_nonneg (c+b) (show (26:Int)≠0 by decide)
   omega
  ·have:=List.nodup_range (n:=26)
   refine List.Pairwise.imp_of_mem (fun {a b} ha hb h=>⟨List.mem_range.mp ha,List.mem_range.mp hb,h⟩) this
 have:=zJJ nd sub
 rw[List.length_map,List.length_range,List.length_append] at this
 have hk16:jU.length=16:=rfl
 omega
theorem zGV {t:T} (h1:1 <= t.length) (h2:t.length <= 8) (h3:¬ jU.contains t=true) (h4:zCK t):qb t=true:=by
 unfold qb
 have e:(t.all fun c=>QG [c])=true:=by
  rw[List.all_eq_true]
  intro ch hc
  have:=h4 ch hc
  unfold QG
  have a1:¬ ([ch]:T) < [97]:=fun z=>by have:=(zDl _ _).mp z;omega
  have a2:¬ ([122]:T) < [ch]:=fun z=>by have:=(zDl _ _).mp z;omega
  simp[a1,a2]
 rw[e,(Bool.not_eq_true _).mp h3]
 simp[h1,h2]
theorem zF2 (c:Int):∀ k,k <= 8->∀ t∈qd c k,qb t=true
 | 0,_,t,h=>by cases h
 | k+1,hk,t,h=>by
  unfold qd at h
  rcases List.mem_append.mp h with h | h
  ·exact zF2 c k (by omega) t h
  ·rw[List.mem_singleton.mp h]
   have hw:=zFU c (k:=k) (by omega) (qd c k) 26
   have h8:=zLg c (k:=k) (by omega)
   have hg:=zNc c (k:=k) (by omega) (qd c k) (by rw[zBz];omega)
   exact zGV (by omega) (by omega) (fun z=>hg (.inl z)) (zFk c k _ 26).1
theorem zNa {t:T} (h:qb t=true):46∉t:=fun hm=>by rw[zLv hm] at h;cases h
theorem zLo {t:T} (h:46∉t):t.findIdx? (· == 46)=none:=by
 rw[List.findIdx?_eq_none_iff]
 intro d hd
 cases hb:d == 46 with
 | false=>rfl
 | true=>exact absurd (eq_of_beq hb ▸ hd) h
theorem zPk {t:T} (h:qb t=true):ZS t=true:=by
 rw[<- zEC]
 unfold J6
 rw[zLo (zNa h)]
 exact h
theorem zNC {t u:T} (h:qb t=true) (k:qb u=true):ZS (t++[46]++u)=true:=by
 rw[<- zEC]
 unfold J6
 have e:(t++[46]++u).findIdx? (· == 46)=some t.length:=by
  rw[List.append_assoc,List.findIdx?_append,zLo (zNa h)]
  simp[List.findIdx?_cons]
 rw[e]
 dsimp only
 have e1:(t++[46]++u).take t.length=t:=by simp
 have e2:(t++[46]++u).drop (t.length+1)=u:=by
  rw[show t.length+1=(t++[46]).length by simp,List.drop_left]
 rw[e1,e2,h,k]
 rfl
noncomputable def zCN (k v:T) (kvs:List (T×T)):List (T×T):=if (kvs.any fun p=>decide (p.1=k))=true then kvs.map fun p=>if p.1=k then (p.1,v) else p else kvs++[(k,v)]
theorem zQP (k v:T) (kvs:List (T×T)):Qh (.str k) (.str v) (kvs.map pd)=(zCN k v kvs).map pd:=by
 unfold Qh zCN
 have e:((kvs.map pd).any fun p=>decide (p.1=.str k))=kvs.any fun p=>decide (p.1=k):=by
  rw[List.any_map]
  congr 1
  funext p
  simp[pd]
 rw[e]
 split
 ·rw[List.map_map,List.map_map]
  apply List.map_congr_left
  intro p _
  simp only[Function.comp,pd]
  by_cases h:p.1=k<;>simp[h]
 ·rw[List.map_append];rfl
noncomputable def Qa (kvs:List (T×T)):List T:=kvs.map (·.1)
theorem zNo {k v:T}{kvs:List (T×T)} (h:(Qa kvs).Nodup):(Qa (zCN k v kvs)).Nodup:=by
 unfold zCN
 split
 ·have:Qa (kvs.map fun p=>if p.1=k then (p.1,v) else p)=Qa kvs:=by
   unfold Qa
   rw[List.map_map]
   apply List.map_congr_left
   intro p _
   simp only[Function.comp]
   split<;>rfl
  rw[this];exact h
 ·rename_i hn
  unfold Qa
  rw[List.map_append,List.nodup_append]
  refine⟨h,by simp,fun a ha b hb=>?_⟩
  simp at hb
  subst hb
  intro e
  subst e
  obtain⟨p,hp,e⟩:=List.mem_map.mp ha
  exact hn (List.any_eq_true.mpr ⟨p,hp,by simp[e]⟩)
theorem zP7 {k v:T}{kvs:List (T×T)}:(zCN k v kvs).length <= kvs.length+1:=by
 unfold zCN
 split
 ·rw[List.length_map];omega
 ·simp
theorem zSh {k v:T}{kvs:List (T×T)} (hk:ZS k=true) (hv:v.length <= 60) (h:∀ p∈kvs,p.2.length <= 60/\ZS p.1=true):∀ p∈zCN k v kvs,p.2.length <= 60/\ZS p.1=true:=by
 intro p hp
 unfold zCN at hp
 split at hp
 ·obtain⟨q,hq,e⟩:=List.mem_map.mp hp
  have:=h q hq
  rw[<- e]
  split
  ·exact⟨hv,this.2⟩
  ·exact this
 ·rcases List.mem_append.mp hp with hp | hp
  ·exact h p hp
  ·rw[List.mem_singleton.mp hp];exact⟨hv,hk⟩
theorem zMj {kvs:List (T×T)} (hn:(Qa kvs).Nodup) {p:T×T} (h:p∈kvs):Qq kvs p.1=some p.2:=by
 induction kvs with
 | nil=>cases h
 | cons q kvs ih =>
  obtain⟨k,v⟩:=q
  unfold Qa at hn ih
  rw[List.map_cons,List.nodup_cons] at hn
  unfold Qq at ih ⊢
  rw[List.lookup_cons]
  rcases List.mem_cons.mp h with h | h
  ·subst h;simp
  ·have hne:(p.1 == k)=false:=by
    simp only[beq_eq_false_iff_ne,ne_eq]
    exact fun e=>hn.1 (by have hm:p.1∈kvs.map (fun x=>x.1):=List.mem_map_of_mem h;rw[e] at hm;exact hm)
   rw[hne]
   exact ih hn.2 h
theorem zND {kvs:List (T×T)} (hn:(Qa kvs).Nodup) (s:M.S):∀ l:List (T×T),(∀ p∈l,p∈kvs)->dEq s (kvs.map pd) (l.map pd)=some true
 | [],_=>rfl
 | p::l,h=>by
  have ih:=zND hn s l fun q hq=>h q (List.mem_cons_of_mem _ hq)
  have hg:=zMj hn (h p List.mem_cons_self)
  have hd:QE (.str p.1) (kvs.map pd)=some (.str p.2):=by rw[zFh,hg];rfl
  show dEq s (kvs.map pd) ((.str p.1,.str p.2)::l.map pd)=_
  unfold dEq
  rw[hd,ih]
  have ht:toP 8 s (.str p.2)=some (.str p.2):=rfl
  simp[ht,P.dep,P.eqv]
theorem zM0 {kvs:List (T×T)} (hn:(Qa kvs).Nodup) {s:M.S}{i j:Nat} (hi:s[i]? = some (.dct (kvs.map pd))) (hj:s[j]? = some (.dct (kvs.map pd))):eqD (.ref i) (.ref j) s=.ok true s:=by
 have h:∀ k:Nat,s[k]? = some (.dct (kvs.map pd))->toP zCe s (.ref k)=none:=fun k e=>by
  show (match jW s k with | some xs=>(yV.all (fun j=>toP 8 s (.ref j)) xs).map P.lst | none=>none)=_
  have:jW s k=none:=by simp[jW,e]
  rw[this]
 simp only[eqD,h i hi,h j hj,zHc,hi,hj]
 rw[if_pos trivial,zND hn s kvs fun _ h=>h]
noncomputable def Bud.fit (b:Bud):Prop:=b.ok/\(∀ t,b=.txt t->t.length <= 60)/\(∀ n,b=.kin n->n.length <= 20)/\∀ n,b=.thing n->n.length <= 60
theorem zB6 {t:T} (h:t.length <= 60):(Bud.txt t).fit:=⟨show t.length <= 100 by omega,(fun u e=>by cases e;exact h),(fun u e=>nomatch e),fun u e=>nomatch e⟩
theorem zQy {t:T} (h:t.length <= 20):(Bud.kin t).fit:=⟨show t.length <= 100 by omega,(fun u e=>nomatch e),(fun u e=>by cases e;exact h),fun u e=>nomatch e⟩
theorem zIe {t:T} (h:t.length <= 60):(Bud.thing t).fit:=⟨show t.length <= 100 by omega,(fun u e=>nomatch e),(fun u e=>nomatch e),fun u e=>by cases e;exact h⟩
theorem zPG:Bud.line.fit:=⟨trivial,(fun u e=>nomatch e),(fun u e=>nomatch e),fun u e=>nomatch e⟩
theorem zPK:Bud.stem.fit:=⟨trivial,(fun u e=>nomatch e),(fun u e=>nomatch e),fun u e=>nomatch e⟩
theorem zQs {ans:List (T×T)}{st:T} (hv:∀ p∈ans,p.2.length <= 60) (hs:st.length <= 17) {b:Bud} (hb:b.fit):(jA ans st b).1.2.length <= 60:=by
 have ask:∀ x:T,x.length <= 60->(Qy ans x).1.2.length <= 60:=fun x hx=>by
  unfold Qy
  cases q:Qq ans x with
  | none=>exact hx
  | some v =>
   obtain⟨l1,l2,e,_⟩:=List.lookup_eq_some_iff.mp q
   exact hv (x,v) (by rw[e];simp)
 cases b with
 | kin n =>
  have:=hb.2.2.1 n rfl
  exact ask _ (by simp only[List.length_append,List.length_cons,List.length_nil];omega)
 | thing n=>exact ask _ (hb.2.2.2 n rfl)
 | txt t=>exact hb.2.1 t rfl
 | line=>exact (by decide:1 <= 60)
 | stem=>exact (by omega:st.length <= 60)
section
variable {N:List T}{ns:List Int}
noncomputable abbrev R0 (ns:List Int):D:=.ro (ns.map .int)
theorem zLm {S:M.S}{a gv l:Nat}{st:T}{ans:List (T×T)}{tree:D}{r:(T×T)×List T} (hS0:S[0]? = some (.lst (N.map .str))) (hst:atI (N.map D.str) 0=some (.str st)) (ha:S[a]? = some (.dct (ans.map pd))) (hg:S[gv]? = some (.dct (ans.map pd))) (hn:(Qa ans).Nodup) (hl:S[l]? = some (.lst (r.2.map D.str))) (hu:r.2.length <= 10)
  (hw:∀ S:M.S,S[gv]? = some (.dct (ans.map pd))->∃ l' g,Je [tree,.str st,.ref gv] S=.ok (.tup [jB r.1,.ref l']) (S++g)/\(S++g)[l']? = some (.lst (r.2.map D.str))) {v2 v3 v4 v6 v7 v8 v11 v13 v14:Option D} (j:Int) :
  ∃ v14' g,zAB (jl 13) (zK (jD 14 (zR Je (zC (zD 10) (zC (eOp zN (zD 1) (eC (.int 0))) (zC (zD 12) zH)))))
  (zK (sIf (tOr (ZX (ZH (zR Qi (zC (zD 14) (zC (eC (.ty .tuple)) zH))))) (tOr (zw cNe (zR Zg (zC (zD 14) zH)) (eC (.int 2))) (tOr (ZX (ZH (zR Qi (zC (eOp zN (zD 14) (eC (.int 1))) (zC (eC (.ty .list)) zH))))) (zw cNe (zD 12) (zD 5)))))
  (jN (eC (.bl false)))
  jq)
  (sIf (tOr (ZX (ZH (zR jw (zC (eOp zN (zD 14) (eC (.int 0))) (zC (eOp zN (zD 9) (eC (.int 0))) zH))))) (ZX (ZH (zR jw (zC (zR Qk (zC (eOp zN (zD 14) (eC (.int 1))) zH)) (zC (zR Qk (zC (eOp zN (zD 9) (eC (.int 1))) zH)) zH))))))
  (jN (eC (.bl false)))
  jq))) (.int j) [some (R0 ns),some (.ref 0),v2,v3,v4,some (.ref a),v6,v7,v8,some (.tup [jB r.1,.ref l]),some tree,v11,some (.ref gv),v13,v14] S=.nx [some (R0 ns),some (.ref 0),v2,v3,v4,some (.ref a),v6,v7,v8,some (.tup [jB r.1,.ref l]),some tree,v11,some (.ref gv),some (.int j),v14'] (S++g):=by
 obtain⟨l',g,e1,e2⟩:=hw S hg
 refine⟨some (.tup [jB r.1,.ref l']),g,?_⟩
 have ha':=jQ ha g
 have hg':=jQ hg g
 have hl':=jQ hl g
 have eq:=zM0 hn hg' ha'
 have at0':∀ (x y:D),atI [x,y] 0=some x:=fun x y=>at0 x [y]
 have at1':∀ (x y:D),atI [x,y] 1=some y:=fun x y=>at1 x y []
 have al1:jw [jB r.1,jB r.1] (S++g)=.ok (.bl true) (S++g):=by
  simp only[jw]
  rw[if_pos ⟨trivial,rfl,by simp[jB,siz,siz.all]⟩]
 have sl:∀ ts:List T,siz.all (ts.map D.str)=ts.length:=fun ts=>by
  induction ts with
  | nil=>rfl
  | cons t ts ih =>
   show 1+siz.all (ts.map D.str)=_
   rw[ih,List.length_cons];omega
 have ol:∀ ts:List T,okA.all (ts.map D.str)=true:=fun ts=>by
  induction ts with
  | nil=>rfl
  | cons t ts ih=>rw[List.map_cons,okA.all,ih];rfl
 have hok:okA (.tup (r.2.map D.str))=true:=by
  show (decide ((r.2.map D.str).length <= 1000) && okA.all (r.2.map D.str))=true
  rw[ol,List.length_map,decide_eq_true (show r.2.length <= 1000 by omega)]
  rfl
 have hsz:siz (.tup (r.2.map D.str)) <= 50:=by
  show 1+siz.all (r.2.map D.str) <= 50
  rw[sl];omega
 have al2:jw [.tup (r.2.map D.str),.tup (r.2.map D.str)] (S++g)=.ok (.bl true) (S++g):=by
  simp only[jw]
  rw[if_pos ⟨trivial,hok,hsz⟩]
 have q2:eqD (.int 2) (.int 2) (S++g)=.ok true (S++g):=by simp
 have la1:jW (S++g) l'=some (r.2.map D.str):=by simp[jW,e2]
 have la2:jW (S++g) l=some (r.2.map D.str):=by simp[jW,hl']
 have t1:Qk [.ref l'] (S++g)=.ok (.tup (r.2.map D.str)) (S++g):=by simp only[Qk,la1]
 have t2:Qk [.ref l] (S++g)=.ok (.tup (r.2.map D.str)) (S++g):=by simp only[Qk,la2]
 have k1:QK .list (.ref l') (S++g)=.ok true (S++g):=by simp[QK,e2]
 simp[hS0,hst,e1,at0',at1',-eqD,eq,q2,al1,-Qk,t1,t2,al2,e2]
noncomputable abbrev zOM:SM:=(zK (jD 14 (zR Je (zC (zD 10) (zC (eOp zN (zD 1) (eC (.int 0))) (zC (zD 12) zH)))))
  (zK (sIf (tOr (ZX (ZH (zR Qi (zC (zD 14) (zC (eC (.ty .tuple)) zH))))) (tOr (zw cNe (zR Zg (zC (zD 14) zH)) (eC (.int 2))) (tOr (ZX (ZH (zR Qi (zC (eOp zN (zD 14) (eC (.int 1))) (zC (eC (.ty .list)) zH))))) (zw cNe (zD 12) (zD 5)))))
  (jN (eC (.bl false)))
  jq)
  (sIf (tOr (ZX (ZH (zR jw (zC (eOp zN (zD 14) (eC (.int 0))) (zC (eOp zN (zD 9) (eC (.int 0))) zH))))) (ZX (ZH (zR jw (zC (zR Qk (zC (eOp zN (zD 14) (eC (.int 1))) zH)) (zC (zR Qk (zC (eOp zN (zD 9) (eC (.int 1))) zH)) zH))))))
  (jN (eC (.bl false)))
  jq)))
theorem zRy:QU=zAE (qe (eC (.int 2))) (jl 13) zOM:=rfl
theorem zNX {S:M.S}{a l:Nat}{st:T}{ans:List (T×T)}{tree:D}{r:(T×T)×List T} (hS0:S[0]? = some (.lst (N.map .str))) (hst:atI (N.map D.str) 0=some (.str st)) (ha:S[a]? = some (.dct (ans.map pd))) (hn:(Qa ans).Nodup) (hl:S[l]? = some (.lst (r.2.map D.str))) (hu:r.2.length <= 10)
  (hw:∀ (gv:Nat) (S:M.S),S[gv]? = some (.dct (ans.map pd))->∃ l' g,Je [tree,.str st,.ref gv] S=.ok (.tup [jB r.1,.ref l']) (S++g)/\(S++g)[l']? = some (.lst (r.2.map D.str))) {v2 v3 v4 v6 v7 v8 v11:Option D} :
  ∃ s',(zK QV (zK QU Jh) [some (R0 ns),some (.ref 0),v2,v3,v4,some (.ref a),v6,v7,v8,some (.tup [jB r.1,.ref l]),some tree,v11,none,none,none] S).out=.ok (.bl true) s':=by
 have e13:QV [some (R0 ns),some (.ref 0),v2,v3,v4,some (.ref a),v6,v7,v8,some (.tup [jB r.1,.ref l]),some tree,v11,none,none,none] S=.nx [some (R0 ns),some (.ref 0),v2,v3,v4,some (.ref a),v6,v7,v8,some (.tup [jB r.1,.ref l]),some tree,v11,some (.ref S.length),none,none] (S++[.dct (ans.map pd)]):=by
  simp[QV,ha]
 have hg1:(S++[.dct (ans.map pd)])[S.length]? = some (.dct (ans.map pd)):=by simp
 obtain⟨v14,g1,e1⟩:=zLm (N:=N) (ns:=ns) (S:=S++[.dct (ans.map pd)]) (a:=a) (gv:=S.length) (l:=l) (st:=st) (ans:=ans) (tree:=tree) (r:=r) (jQ hS0 _) hst (jQ ha _) hg1 hn (jQ hl _) hu (hw S.length) (v2:=v2) (v3:=v3) (v4:=v4) (v6:=v6) (v7:=v7) (v8:=v8) (v11:=v11) (v13:=none) (v14:=none) 0
 obtain⟨v14',g2,e2⟩:=zLm (N:=N) (ns:=ns) (S:=S++[.dct (ans.map pd)]++g1) (a:=a) (gv:=S.length) (l:=l) (st:=st) (ans:=ans) (tree:=tree) (r:=r) (jQ (jQ hS0 _) _) hst (jQ (jQ ha _) _) (jQ hg1 _) hn (jQ (jQ hl _) _) hu (hw S.length) (v2:=v2) (v3:=v3) (v4:=v4) (v6:=v6) (v7:=v7) (v8:=v8) (v11:=v11) (v13:=some (.int 0)) (v14:=v14) 1
 refine⟨S++[.dct (ans.map pd)]++g1++g2,?_⟩
 show ((QV _ _).then _).out=_
 rw[e13,RS.then_nx]
 have hg:∀ s,jT [] s=true:=fun _=>rfl
 have rg:y0 0 2=[.int 0,.int 1]:=rfl
 have q1:(2:Int).natAbs < 4611686018427387904:=by decide
 have e14:QU [some (R0 ns),some (.ref 0),v2,v3,v4,some (.ref a),v6,v7,v8,some (.tup [jB r.1,.ref l]),some tree,v11,some (.ref S.length),none,none] (S++[.dct (ans.map pd)])=.nx [some (R0 ns),some (.ref 0),v2,v3,v4,some (.ref a),v6,v7,v8,some (.tup [jB r.1,.ref l]),some tree,v11,some (.ref S.length),some (.int 1),v14'] (S++[.dct (ans.map pd)]++g1++g2):=by
  rw[zRy]
  simp only[zAE,qe,eC,R.bind_ok,q1,if_true,R.stm_ok,hg,rg]
  simp only[Qv,e1,hg,if_true,e2]
 show ((QU _ _).then _).out=_
 rw[e14,RS.then_nx]
 simp[Jh,RS.out]
theorem zHt (hN:N.length=8) {S:M.S} (hS0:S[0]? = some (.lst (N.map .str))) {i:Nat} (hi:i < 8) (g:M.S):zN (.ref 0) (.int (i:Int)) (S++g)=.ok (.str (N.getD i [])) (S++g):=by
 have:=jQ hS0 g
 have x:=zDq (ts:=N) (k:=(i:Int)) (by omega) (by omega)
 rw[Int.toNat_natCast] at x
 simp only[zN,this,x]
theorem zTo (hN:N.length=8) (h17:∀ t∈N,t.length <= 17) (c:Int) (v3:Option D) {S:M.S} (hS0:S[0]? = some (.lst (N.map .str))) :
  ∃ (b:Bud) (g:M.S),b.fit/\Jv [some (R0 ns),some (.ref 0),some (.int c),v3,none,none,none,none,none,none,none,none,none,none,none] S=.nx [some (R0 ns),some (.ref 0),some (.int c),v3,some b.d,none,none,none,none,none,none,none,none,none,none] (S++g):=by
 have z2:(2:Nat) <= SZ:=by decide
 have z1:(1:Nat) <= SZ:=by decide
 have z4:(4:Nat) <= SZ:=by decide
 have c0:=Int.emod_nonneg (c / 744) (show (31:Int)≠0 by decide)
 have c1:=Int.emod_lt_of_pos (c / 744) (show (0:Int) < 31 by decide)
 have tx:=zLc (c / 8) (c / 744 % 31).toNat (by omega) S
 rw[show (((c / 744 % 31).toNat:Nat):Int)=c / 744 % 31 by omega] at tx
 have n1:=zHt hN hS0 (i:=1) (by decide) []
 rw[List.append_nil] at n1
 have n1':zN (.ref 0) (.int 1) S=.ok (.str (N.getD 1 [])) S:=n1
 have k0:=Int.emod_nonneg c (show (4:Int)≠0 by decide)
 have k1:=Int.emod_lt_of_pos c (show (0:Int) < 4 by decide)
 have pick:∀ d,atI [(Bud.txt (zDD (c / 8) (c / 744 % 31).toNat)).d,Bud.line.d,Bud.stem.d,(Bud.kin (N.getD 1 [])).d] (c % 4)=some d->Jv [some (R0 ns),some (.ref 0),some (.int c),v3,none,none,none,none,none,none,none,none,none,none,none] S=.nx [some (R0 ns),some (.ref 0),some (.int c),v3,some d,none,none,none,none,none,none,none,none,none,none] (S++[.lst [(Bud.txt (zDD (c / 8) (c / 744 % 31).toNat)).d,Bud.line.d,Bud.stem.d,(Bud.kin (N.getD 1 [])).d]]):=fun d e=>by
  simp only[Jv,jD,eOp,qJ,jx,zC,zH,eC,zD,zR,List.getElem?_cons_zero,List.getElem?_cons_succ,R.bind_ok,yF,jr]
  rw[if_pos (by decide)]
  simp only[R.bind_ok]
  rw[if_pos (by decide)]
  simp only[R.bind_ok]
  rw[if_pos (by decide)]
  simp only[R.bind_ok,tx.1,List.length_cons,List.length_nil,z2,z1,z4,if_true,n1',alloc]
  rw[if_pos (by decide)]
  simp only[R.bind_ok,zN,List.getElem?_concat_length]
  have e':atI [D.tup [.str [116,101,120,116],.str (zDD (c / 8) (c / 744 % 31).toNat)],.tup [.str [108,105,110,101]],.tup [.str [115,116,101,109]],.tup [.str [107,105,110],.str (N.getD 1 [])]] (c % 4)=some d:=e
  rw[e']
  rfl
 have l1:=yb h17 1
 have:c % 4=0\/c % 4=1\/c % 4=2\/c % 4=3:=by omega
 rcases this with e | e | e | e<;>rw[e] at pick
 ·exact⟨_,_,zB6 tx.2,pick _ rfl⟩
 ·exact⟨_,_,zPG,pick _ rfl⟩
 ·exact⟨_,_,zPK,pick _ rfl⟩
 ·exact⟨_,_,zQy (by omega),pick _ rfl⟩
theorem zTO (hN:N.length=8) (h17:∀ t∈N,t.length <= 17) (c:Int) {u:T} (hu:u.length <= 60) {S:M.S} (hS0:S[0]? = some (.lst (N.map .str))) {b0:Bud} (hb:b0.fit) :
  ∃ (b:Bud) (g:M.S),b.fit/\Qo [some (R0 ns),some (.ref 0),some (.int c),some (.str u),some b0.d,none,none,none,none,none,none,none,none,none,none] S=.nx [some (R0 ns),some (.ref 0),some (.int c),some (.str u),some b.d,none,none,none,none,none,none,none,none,none,none] (S++g):=by
 have z2:(2:Nat) <= SZ:=by decide
 have n2:=zHt hN hS0 (i:=2) (by decide) []
 rw[List.append_nil] at n2
 have n2':zN (.ref 0) (.int 2) S=.ok (.str (N.getD 2 [])) S:=n2
 have l2:=yb h17 2
 by_cases h:c / 4 % 2=1
 case neg=>exact⟨b0,[],hb,by simp[Qo,h]⟩
 have k0:=Int.emod_nonneg c (show (2:Int)≠0 by decide)
 have k1:=Int.emod_lt_of_pos c (show (0:Int) < 2 by decide)
 have pick:∀ x,atI [D.str (N.getD 2 []),.str u] (c % 2)=some (.str x)->Qo [some (R0 ns),some (.ref 0),some (.int c),some (.str u),some b0.d,none,none,none,none,none,none,none,none,none,none] S=.nx [some (R0 ns),some (.ref 0),some (.int c),some (.str u),some (Bud.thing x).d,none,none,none,none,none,none,none,none,none,none] (S++[.lst [.str (N.getD 2 []),.str u]]):=fun x e=>by
  have ix:zN (.ref S.length) (.int (c % 2)) (S++[.lst [.str (N.getD 2 []),.str u]])=.ok (.str x) (S++[.lst [.str (N.getD 2 []),.str u]]):=by
   simp only[zN,List.getElem?_concat_length,e]
  generalize N.getD 2 []=t2 at *
  simp[Qo,h,-zN,n2',z2,ix,Bud.d]
 have:c % 2=0\/c % 2=1:=by omega
 rcases this with e | e<;>rw[e] at pick
 ·exact⟨_,_,zIe (by omega),pick _ rfl⟩
 ·exact⟨_,_,zIe hu,pick _ rfl⟩
theorem zTD (hN:N.length=8) (h17:∀ t∈N,t.length <= 17) (c:Int) {u:T} (hu:u.length <= 60) {S:M.S} (hS0:S[0]? = some (.lst (N.map .str))) {b0:Bud} (hb:b0.fit) :
  ∃ (b:Bud) (g:M.S),b.fit/\Qz [some (R0 ns),some (.ref 0),some (.int c),some (.str u),some b0.d,none,none,none,none,none,none,none,none,none,none] S=.nx [some (R0 ns),some (.ref 0),some (.int c),some (.str u),some b.d,none,none,none,none,none,none,none,none,none,none] (S++g):=by
 have z2:(2:Nat) <= SZ:=by decide
 have z5:(5:Nat) <= SZ:=by decide
 have n0:=zHt hN hS0 (i:=0) (by decide) []
 have n3:=zHt hN hS0 (i:=3) (by decide) []
 have n4:=zHt hN hS0 (i:=4) (by decide) []
 rw[List.append_nil] at n0 n3 n4
 have n0':zN (.ref 0) (.int 0) S=.ok (.str (N.getD 0 [])) S:=n0
 have n3':zN (.ref 0) (.int 3) S=.ok (.str (N.getD 3 [])) S:=n3
 have n4':zN (.ref 0) (.int 4) S=.ok (.str (N.getD 4 [])) S:=n4
 have l0:=yb h17 0
 have l3:=yb h17 3
 have l4:=yb h17 4
 generalize N.getD 0 []=t0 at *
 generalize N.getD 3 []=t3 at *
 generalize N.getD 4 []=t4 at *
 have y1:t4.length+1 <= SZ:=by unfold SZ;omega
 have y2:t4.length+1+t0.length <= SZ:=by unfold SZ;omega
 have y3:t3.length+1 <= SZ:=by unfold SZ;omega
 by_cases h:c / 8 % 7=1
 case neg=>exact⟨b0,[],hb,by simp[Qz,h]⟩
 have k0:=Int.emod_nonneg (c / 56) (show (5:Int)≠0 by decide)
 have k1:=Int.emod_lt_of_pos (c / 56) (show (0:Int) < 5 by decide)
 have pick:∀ x,atI [D.str t3,.str (t4++[46]++t0),.str u,.str [105,102],.str (t3++[32])] (c / 56 % 5)=some (.str x)->Qz [some (R0 ns),some (.ref 0),some (.int c),some (.str u),some b0.d,none,none,none,none,none,none,none,none,none,none] S=.nx [some (R0 ns),some (.ref 0),some (.int c),some (.str u),some (Bud.txt x).d,none,none,none,none,none,none,none,none,none,none] (S++[.lst [.str t3,.str (t4++[46]++t0),.str u,.str [105,102],.str (t3++[32])]]):=fun x e=>by
  have ix:zN (.ref S.length) (.int (c / 56 % 5)) (S++[.lst [.str t3,.str (t4++[46]++t0),.str u,.str [105,102],.str (t3++[32])]])=.ok (.str x) (S++[.lst [.str t3,.str (t4++[46]++t0),.str u,.str [105,102],.str (t3++[32])]]):=by
   simp only[zN,List.getElem?_concat_length,e]
  simp only[List.append_assoc,List.cons_append,List.nil_append] at ix ⊢
  simp[Qz,h,-zN,n0',n3',n4',y1,y2,y3,z2,z5,ix,Bud.d]
 have:c / 56 % 5=0\/c / 56 % 5=1\/c / 56 % 5=2\/c / 56 % 5=3\/c / 56 % 5=4:=by omega
 rcases this with e | e | e | e | e<;>rw[e] at pick
 ·exact⟨_,_,zB6 (by omega),pick _ rfl⟩
 ·exact⟨_,_,zB6 (by simp;omega),pick _ rfl⟩
 ·exact⟨_,_,zB6 hu,pick _ rfl⟩
 ·exact⟨_,_,zB6 (by decide),pick _ rfl⟩
 ·exact⟨_,_,zB6 (by simp;omega),pick _ rfl⟩
theorem zR9 (hN:N.length=8) (h17:∀ t∈N,t.length <= 17) (c:Int) (hc0:0 <= c) {S:M.S} (hS0:S[0]? = some (.lst (N.map .str))) :
  ∃ (b:Bud) (g:M.S),b.fit/\∀ r,(Jv [some (R0 ns),some (.ref 0),some (.int c),some (.str (N.getD 1 []++[46]++N.getD 0 [])),none,none,none,none,none,none,none,none,none,none,none] S).then (zK Qo (zK Qz r))=r [some (R0 ns),some (.ref 0),some (.int c),some (.str (N.getD 1 []++[46]++N.getD 0 [])),some b.d,none,none,none,none,none,none,none,none,none,none] (S++g):=by
 have l0:=yb h17 0
 have l1:=yb h17 1
 have hu:(N.getD 1 []++[46]++N.getD 0 []).length <= 60:=by simp only[List.length_append,List.length_cons,List.length_nil];omega
 generalize N.getD 1 []++[46]++N.getD 0 []=u at *
 obtain⟨b1,g1,f1,e1⟩:=zTo (ns:=ns) hN h17 c (some (.str u)) hS0
 obtain⟨b2,g2,f2,e2⟩:=zTO (ns:=ns) hN h17 c hu (jQ hS0 g1) f1
 obtain⟨b3,g3,f3,e3⟩:=zTD (ns:=ns) hN h17 c hu (jQ (jQ hS0 g1) g2) f2
 refine⟨b3,g1++g2++g3,f3,fun r=>?_⟩
 rw[e1,RS.then_nx]
 show (Qo _ _).then _=_
 rw[e2,RS.then_nx]
 show (Qz _ _).then _=_
 rw[e3,RS.then_nx]
 simp
noncomputable abbrev zFe:SM:=(zK (jD 7 (eOp zN (qJ (zC (eOp zN (zD 1) (eC (.int 2))) (zC (zD 3) zH))) (zD 6)))
  (zK (jD 8 (zR jP (zC (zD 0) (zC (eOp jJ (eC (.int 2)) (zD 6)) zH))))
  (sIf (zw cGt (eOp jr (zD 8) (eC (.int 4))) (eC (.int 0)))
  (zEE (zD 5) (zD 7) (eOp zN (qJ (zC (zD 3) (zC (eOp zN (zD 1) (eC (.int 2))) (zC (zR qr (zC (eOp yF (zD 8) (eC (.int 4))) (zC (zD 1) zH))) zH)))) (eOp zFc (eOp jr (zD 8) (eC (.int 4))) (eC (.int 1)))))
  jq)))
theorem zTN:J8=zAE (qe (eC (.int 2))) (jl 6) zFe:=rfl
theorem zKx (hN:N.length=8) (h17:∀ t∈N,t.length <= 17) {S g:M.S} (hS0:S[0]? = some (.lst (N.map .str))) {u:T} (hu:u.length <= 60) (hun:ZS u=true) (h2n:ZS (N.getD 2 [])=true) {ans:List (T×T)} (hn:(Qa ans).Nodup) (hv:∀ p∈ans,p.2.length <= 60/\ZS p.1=true) (hal:ans.length <= 10) {c:Int}{b:D}{v6 v7 v8:Option D}{j:Nat} (hj:j < 2) :
  ∃ (ans':List (T×T)) (g':M.S) (v7' v8':Option D),(Qa ans').Nodup/\(∀ p∈ans',p.2.length <= 60/\ZS p.1=true)/\ans'.length <= ans.length+1/\zAB (jl 6) zFe (.int (j:Int)) [some (R0 ns),some (.ref 0),some (.int c),some (.str u),some b,some (.ref S.length),v6,v7,v8,none,none,none,none,none,none] (S++.dct (ans.map pd)::g)=.nx [some (R0 ns),some (.ref 0),some (.int c),some (.str u),some b,some (.ref S.length),some (.int (j:Int)),v7',v8',none,none,none,none,none,none] (S++.dct (ans'.map pd)::g'):=by
 have z2:(2:Nat) <= SZ:=by decide
 have z3:(3:Nat) <= SZ:=by decide
 have n2:=fun g=>zHt hN hS0 (i:=2) (by decide) g
 have n2':∀ g,zN (.ref 0) (.int 2) (S++g)=.ok (.str (N.getD 2 [])) (S++g):=n2
 have l2:=yb h17 2
 obtain⟨tl,htl,hnm⟩:∃ tl,atI [D.str (N.getD 2 []),.str u] (j:Int)=some (.str tl)/\ZS tl=true:=by
  have:j=0\/j=1:=by omega
  rcases this with rfl | rfl
  ·exact⟨_,rfl,h2n⟩
  ·exact⟨_,rfl,hun⟩
 have hc:=fun s=>zFm ns (2+j) s
 have ej:((2+j:Nat):Int)=2+(j:Int):=by omega
 rw[ej] at hc
 have hw:=zKU ns (2+j)
 generalize qB ns (2+j)=w at *
 have w0:=Int.emod_nonneg w (show (4:Int)≠0 by decide)
 have w1:=Int.emod_lt_of_pos w (show (0:Int) < 4 by decide)
 generalize hN2:N.getD 2 []=t2 at *
 have b1:∀ r,zK (jD 7 (eOp zN (qJ (zC (eOp zN (zD 1) (eC (.int 2))) (zC (zD 3) zH))) (zD 6))) (zK (jD 8 (zR jP (zC (zD 0) (zC (eOp jJ (eC (.int 2)) (zD 6)) zH)))) r) [some (R0 ns),some (.ref 0),some (.int c),some (.str u),some b,some (.ref S.length),some (.int (j:Int)),v7,v8,none,none,none,none,none,none] (S++.dct (ans.map pd)::g)=r [some (R0 ns),some (.ref 0),some (.int c),some (.str u),some b,some (.ref S.length),some (.int (j:Int)),some (.str tl),some (.int w),none,none,none,none,none,none] (S++.dct (ans.map pd)::(g++[.lst [.str t2,.str u]])):=fun r=>by
  have ix:zN (.ref (S++.dct (ans.map pd)::g).length) (.int (j:Int)) (S++.dct (ans.map pd)::(g++[.lst [.str t2,.str u]]))=.ok (.str tl) (S++.dct (ans.map pd)::(g++[.lst [.str t2,.str u]])):=by
   have:(S++O.dct (ans.map pd)::(g++[.lst [.str t2,.str u]]))[(S++O.dct (ans.map pd)::g).length]? = some (.lst [.str t2,.str u]):=by
    have e:S++O.dct (ans.map pd)::(g++[.lst [.str t2,.str u]])=(S++O.dct (ans.map pd)::g)++[.lst [.str t2,.str u]]:=by simp
    rw[e,List.getElem?_concat_length]
   simp only[zN,this,htl]
  have ea:(S++O.dct (ans.map pd)::g)++[.lst [.str t2,.str u]]=S++O.dct (ans.map pd)::(g++[.lst [.str t2,.str u]]):=by simp
  simp only[zK,jD,eOp,qJ,zC,zH,zD,eC,zR,List.getElem?_cons_zero,List.getElem?_cons_succ,R.bind_ok,n2',List.length_cons,List.length_nil,z2,if_true,alloc,ea,ix,R.stm_ok,RS.then_nx,List.set_cons_zero,List.set_cons_succ,jJ,hc]
 show ∃ ans' g' v7' v8',_/\_/\_/\zFe [some (R0 ns),some (.ref 0),some (.int c),some (.str u),some b,some (.ref S.length),some (.int (j:Int)),v7,v8,none,none,none,none,none,none] (S++.dct (ans.map pd)::g)=_
 rw[zFe,b1]
 by_cases hw4:0 < w % 4
 case neg =>
  exact⟨ans,g++[.lst [.str t2,.str u]],some (.str tl),some (.int w),hn,hv,Nat.le_succ _,by simp[hw4]⟩
 have hS1:=jQ hS0 (.dct (ans.map pd)::(g++[.lst [.str t2,.str u]]))
 obtain⟨y,hy,hyl⟩:=zNi hN h17 hS1 (w / 4)
 generalize hg1:g++[O.lst [.str t2,.str u]]=g1 at *
 have pick:∀ v,v.length <= 60->atI [D.str u,.str t2,.str y] (w % 4 - 1)=some (.str v)->∃ (ans':List (T×T)) (g':M.S) (v7' v8':Option D),(Qa ans').Nodup/\(∀ p∈ans',p.2.length <= 60/\ZS p.1=true)/\ans'.length <= ans.length+1/\(sIf (zw cGt (eOp jr (zD 8) (eC (.int 4))) (eC (.int 0)))
  (zEE (zD 5) (zD 7) (eOp zN (qJ (zC (zD 3) (zC (eOp zN (zD 1) (eC (.int 2))) (zC (zR qr (zC (eOp yF (zD 8) (eC (.int 4))) (zC (zD 1) zH))) zH)))) (eOp zFc (eOp jr (zD 8) (eC (.int 4))) (eC (.int 1)))))
  jq) [some (R0 ns),some (.ref 0),some (.int c),some (.str u),some b,some (.ref S.length),some (.int (j:Int)),some (.str tl),some (.int w),none,none,none,none,none,none] (S++.dct (ans.map pd)::g1)=.nx [some (R0 ns),some (.ref 0),some (.int c),some (.str u),some b,some (.ref S.length),some (.int (j:Int)),v7',v8',none,none,none,none,none,none] (S++.dct (ans'.map pd)::g'):=fun v hvl hat=>by
  refine⟨zCN tl v ans,g1++[.lst [.str u,.str t2,.str y]],some (.str tl),some (.int w),zNo hn,zSh hnm hvl hv,zP7,?_⟩
  have zk:ans.length < SZ:=by unfold SZ;omega
  have ea:(S++O.dct (ans.map pd)::g1)++[.lst [.str u,.str t2,.str y]]=S++O.dct (ans.map pd)::(g1++[.lst [.str u,.str t2,.str y]]):=by simp
  have ix:zN (.ref (S++.dct (ans.map pd)::g1).length) (.int (w % 4 - 1)) (S++.dct (ans.map pd)::(g1++[.lst [.str u,.str t2,.str y]]))=.ok (.str v) (S++.dct (ans.map pd)::(g1++[.lst [.str u,.str t2,.str y]])):=by
   have:(S++O.dct (ans.map pd)::(g1++[.lst [.str u,.str t2,.str y]]))[(S++O.dct (ans.map pd)::g1).length]? = some (.lst [.str u,.str t2,.str y]):=by
    rw[<- ea,List.getElem?_concat_length]
   simp only[zN,this,hat]
  have gd:(S++O.dct (ans.map pd)::(g1++[.lst [.str u,.str t2,.str y]]))[S.length]? = some (.dct (ans.map pd)):=by simp
  have sd:(S++O.dct (ans.map pd)::(g1++[.lst [.str u,.str t2,.str y]])).set S.length (.dct ((zCN tl v ans).map pd))=S++O.dct ((zCN tl v ans).map pd)::(g1++[.lst [.str u,.str t2,.str y]]):=by
   rw[List.set_append_right _ _ (Nat.le_refl _),Nat.sub_self];rfl
  have zk':(ans.map pd).length < SZ:=by rw[List.length_map];exact zk
  have hd4:(0:Int) < 4/\(4:Int).natAbs < 1073741824:=by decide
  have p4:(0:Int) < 4:=by decide
  simp only[sIf,zw,eOp,zD,eC,List.getElem?_cons_zero,List.getElem?_cons_succ,R.bind_ok,jr,p4,if_true,cGt,hw4,decide_true,R.stm_ok,zEE,qJ,zC,zH,zR,n2',yF,hd4,and_self,hy,List.length_cons,List.length_nil,z3,alloc,ea,zFc,ix,zAq,gd,ye,Bool.true_and,zk',zQP,sd]
 have:w % 4=1\/w % 4=2\/w % 4=3:=by omega
 rcases this with e | e | e
 ·exact pick u hu (by rw[e];rfl)
 ·exact pick t2 (by omega) (by rw[e];rfl)
 ·exact pick y hyl (by rw[e];rfl)
theorem zMb (hN:N.length=8) (h17:∀ t∈N,t.length <= 17) (hp:∀ t∈N,qb t=true) {S:M.S} (hS0:S[0]? = some (.lst (N.map .str))) {c:Int}{b:D} :
  ∃ (ans:List (T×T)) (a:Nat) (g:M.S) (v6 v7 v8:Option D),(Qa ans).Nodup/\(∀ p∈ans,p.2.length <= 60/\ZS p.1=true)/\(S++g)[a]? = some (.dct (ans.map pd))/\∀ r,(zAa [some (R0 ns),some (.ref 0),some (.int c),some (.str (N.getD 1 []++[46]++N.getD 0 [])),some b,none,none,none,none,none,none,none,none,none,none] S).then (zK J8 r)=r [some (R0 ns),some (.ref 0),some (.int c),some (.str (N.getD 1 []++[46]++N.getD 0 [])),some b,some (.ref a),v6,v7,v8,none,none,none,none,none,none] (S++g):=by
 have l0:=yb h17 0
 have l1:=yb h17 1
 have mem:∀ i,i < 8->N.getD i []∈N:=fun i hi=>by
  rw[List.getD_eq_getElem?_getD,List.getElem?_eq_getElem (by omega)]
  exact List.getElem_mem _
 have hu:(N.getD 1 []++[46]++N.getD 0 []).length <= 60:=by simp only[List.length_append,List.length_cons,List.length_nil];omega
 have hun:=zNC (hp _ (mem 1 (by decide))) (hp _ (mem 0 (by decide)))
 have h2n:=zPk (hp _ (mem 2 (by decide)))
 generalize N.getD 1 []++[46]++N.getD 0 []=u at *
 obtain⟨a1,g1,v7,v8,m1,m2,m3,e1⟩:=zKx (ns:=ns) hN h17 (S:=S) (g:=[]) hS0 hu hun h2n (ans:=[]) (by exact List.nodup_nil) (fun p h=>nomatch h) (by simp) (c:=c) (b:=b) (v6:=none) (v7:=none) (v8:=none) (j:=0) (by decide)
 obtain⟨a2,g2,v7',v8',m4,m5,m6,e2⟩:=zKx (ns:=ns) hN h17 (S:=S) (g:=g1) hS0 hu hun h2n (ans:=a1) m1 m2 (by simp at m3;omega) (c:=c) (b:=b) (v6:=some (.int ((0:Nat):Int))) (v7:=v7) (v8:=v8) (j:=1) (by decide)
 refine⟨a2,S.length,.dct (a2.map pd)::g2,some (.int 1),v7',v8',m4,m5,by simp,fun r=>?_⟩
 have hg:∀ s,jT [] s=true:=fun _=>rfl
 have rg:y0 0 2=[.int ((0:Nat):Int),.int ((1:Nat):Int)]:=rfl
 have q1:(2:Int).natAbs < 4611686018427387904:=by decide
 have e7:zAa [some (R0 ns),some (.ref 0),some (.int c),some (.str u),some b,none,none,none,none,none,none,none,none,none,none] S=.nx [some (R0 ns),some (.ref 0),some (.int c),some (.str u),some b,some (.ref S.length),none,none,none,none,none,none,none,none,none] (S++[.dct (([]:List (T×T)).map pd)]):=by
  simp[zAa]
 rw[e7,RS.then_nx]
 show (J8 _ _).then r=_
 have e8:J8 [some (R0 ns),some (.ref 0),some (.int c),some (.str u),some b,some (.ref S.length),none,none,none,none,none,none,none,none,none] (S++[.dct (([]:List (T×T)).map pd)])=.nx [some (R0 ns),some (.ref 0),some (.int c),some (.str u),some b,some (.ref S.length),some (.int 1),v7',v8',none,none,none,none,none,none] (S++.dct (a2.map pd)::g2):=by
  rw[zTN]
  simp only[zAE,qe,eC,R.bind_ok,q1,if_true,R.stm_ok,hg,rg]
  simp only[Qv,e1,hg,if_true,e2]
  rfl
 rw[e8,RS.then_nx]
theorem zLS {ans:List (T×T)}{w:T}{r:T×T}{used:List T} (h:used.length <= 1):(yQ ans w r used).2.length <= 10:=by
 unfold yQ
 split
 ·exact Nat.le_trans h (by omega)
 ·split
  ·exact Nat.le_trans h (by omega)
  ·split
   ·split
    ·rw[List.length_append]
     split<;>simp<;>omega
    ·split<;>exact Nat.le_trans h (by omega)
   ·exact Nat.le_trans h (by omega)
theorem zOS (ns:List Int) (hl:ns.length <= 63):∃ s,zMK [.ro (ns.map .int)] []=.ok (.bl true) s:=by
 have hN:=zBz (qB ns 0) 8
 have h17:∀ t∈qd (qB ns 0) 8,t.length <= 17:=fun t ht=>(zId _ 8 t ht).2
 have hp:=zF2 (qB ns 0) 8 (Nat.le_refl _)
 have ca0:∀ s,jP [.ro (ns.map .int),.int 0] s=.ok (.int (qB ns 0)) s:=fun s=>zFm ns 0 s
 have ca1:∀ s,jP [.ro (ns.map .int),.int 1] s=.ok (.int (qB ns 1)) s:=fun s=>zFm ns 1 s
 have ca4:∀ s,jP [.ro (ns.map .int),.int 4] s=.ok (.int (qB ns 4)) s:=fun s=>zFm ns 4 s
 have hnb:∀ s,QP [.int (qB ns 0)] s=.ok (.ref s.length) (s++[.lst ((qd (qB ns 0) 8).map .str)]):=fun s=>rfl
 generalize qd (qB ns 0) 8=N at *
 have x0:=zDq (ts:=N) (k:=0) (by decide) (by omega)
 have x1:=zDq (ts:=N) (k:=1) (by decide) (by omega)
 have l0:=yb h17 0
 have l1:=yb h17 1
 have z1:(N.getD 1 []).length+1 <= SZ:=by unfold SZ;omega
 have z2:(N.getD 1 []).length+1+(N.getD 0 []).length <= SZ:=by unfold SZ;omega
 have e3:∀ r,(zB8 [some (R0 ns),none,none,none,none,none,none,none,none,none,none,none,none,none,none] []).then (zK zB9 (zK zCA r))=r [some (R0 ns),some (.ref 0),some (.int (qB ns 1)),some (.str (N.getD 1 []++[46]++N.getD 0 [])),none,none,none,none,none,none,none,none,none,none,none] [.lst (N.map .str)]:=fun r=>by
  have x0':atI (N.map D.str) 0=some (.str (N.getD 0 [])):=x0
  have x1':atI (N.map D.str) 1=some (.str (N.getD 1 [])):=x1
  simp only[zB8,zB9,zCA,zK,jD,zR,zC,zH,zD,eC,eOp,List.getElem?_cons_zero,List.getElem?_cons_succ,R.bind_ok,R0,ca0,ca1,hnb,R.stm_ok,RS.then_nx,List.set_cons_zero,List.set_cons_succ,List.length_nil,List.nil_append,zN,x0',x1',jJ,List.length_append,List.length_cons,List.length_nil,z1,z2,if_true]
 obtain⟨b,g1,hb,e6⟩:=zR9 (N:=N) (ns:=ns) hN h17 (qB ns 1) (zKU ns 1).1 (S:=[.lst (N.map .str)]) rfl
 have hS0:([O.lst (N.map .str)]++g1)[0]? = some (.lst (N.map .str)):=rfl
 obtain⟨ans,a,g2,v6,v7,v8,hn,hv,ha,e8⟩:=zMb (N:=N) (ns:=ns) hN h17 hp (S:=[.lst (N.map .str)]++g1) hS0 (c:=qB ns 1) (b:=b.d)
 have hS2:=jQ hS0 g2
 generalize hS:[O.lst (N.map .str)]++g1++g2=S at *
 have hst:(N.getD 0 []).length <= 60:=by omega
 have hbare:=zP6 ha (st:=N.getD 0 []) (by omega) b hb.1
 have hv1:∀ p∈ans,p.2.length <= 60:=fun p hp=>(hv p hp).1
 have hu:=zIn (ans:=ans) (st:=N.getD 0 []) b
 have x0S:∀ g,zN (.ref 0) (.int 0) (S++g)=.ok (.str (N.getD 0 [])) (S++g):=fun g=>by
  have:=jQ hS2 g
  simp only[zN,this]
  rw[show atI (N.map D.str) 0=some (.str (N.getD 0 [])) from x0]
 have x0S':zN (.ref 0) (.int 0) S=.ok (.str (N.getD 0 [])) S:=by have:=x0S [];simpa using this
 have i0:=Int.emod_nonneg (qB ns 4) (show (8:Int)≠0 by decide)
 have i1:=Int.emod_lt_of_pos (qB ns 4) (show (0:Int) < 8 by decide)
 obtain⟨w,hwk,hw⟩:∃ w,atI [D.str [],.str tOf,.str zBy,.str zAy,.str zBr,.str zCO,.str zJp,.str zBx] (qB ns 4 % 8)=some (.str w)/\(w=[]\/W7 w):=by
  generalize qB ns 4 % 8=k at *
  have:k=0\/k=1\/k=2\/k=3\/k=4\/k=5\/k=6\/k=7:=by omega
  rcases this with rfl | rfl | rfl | rfl | rfl | rfl | rfl | rfl
  ·exact⟨_,rfl,.inl rfl⟩
  ·exact⟨_,rfl,.inr (.inl rfl)⟩
  ·exact⟨_,rfl,.inr (.inr (.inr (.inl rfl)))⟩
  ·exact⟨_,rfl,.inr (.inr (.inr (.inr (.inl rfl))))⟩
  ·exact⟨_,rfl,.inr (.inr (.inr (.inr (.inr (.inl rfl)))))⟩
  ·exact⟨_,rfl,.inr (.inr (.inr (.inr (.inr (.inr (.inl rfl))))))⟩
  ·exact⟨_,rfl,.inr (.inr (.inr (.inr (.inr (.inr (.inr rfl))))))⟩
  ·exact⟨_,rfl,.inr (.inr (.inl rfl))⟩
 have zz8:(8:Nat) <= SZ:=by decide
 generalize hW8:O.lst [D.str [],.str tOf,.str zBy,.str zAy,.str zBr,.str zCO,.str zJp,.str zBx]=W8
 have e11:∀ r,zK zAX (zK zA4 (zK zBA r)) [some (R0 ns),some (.ref 0),some (.int (qB ns 1)),some (.str (N.getD 1 []++[46]++N.getD 0 [])),some b.d,some (.ref a),v6,v7,v8,none,none,none,none,none,none] S=r [some (R0 ns),some (.ref 0),some (.int (qB ns 1)),some (.str (N.getD 1 []++[46]++N.getD 0 [])),some b.d,some (.ref a),v6,v7,v8,some (.tup [jB (jA ans (N.getD 0 []) b).1,.ref S.length]),some b.d,some (.str w),none,none,none] (S++[.lst ((jA ans (N.getD 0 []) b).2.map .str),W8]):=fun r=>by
  have e9:zAX [some (R0 ns),some (.ref 0),some (.int (qB ns 1)),some (.str (N.getD 1 []++[46]++N.getD 0 [])),some b.d,some (.ref a),v6,v7,v8,none,none,none,none,none,none] S=.nx [some (R0 ns),some (.ref 0),some (.int (qB ns 1)),some (.str (N.getD 1 []++[46]++N.getD 0 [])),some b.d,some (.ref a),v6,v7,v8,some (.tup [jB (jA ans (N.getD 0 []) b).1,.ref S.length]),none,none,none,none,none] (S++[.lst ((jA ans (N.getD 0 []) b).2.map .str)]):=by
   simp only[zAX,jD,zR,zC,zH,zD,eC,eOp,List.getElem?_cons_zero,List.getElem?_cons_succ,R.bind_ok,x0S',hbare,R.stm_ok,List.set_cons_zero,List.set_cons_succ]
  show (zAX _ _).then _=_
  rw[e9,RS.then_nx]
  rw[<- hW8]
  simp[zA4,zBA,ca4,zz8,hwk]
 have hrun1:w=[]->∃ s',(zK ZY (zK QV (zK QU Jh)) [some (R0 ns),some (.ref 0),some (.int (qB ns 1)),some (.str (N.getD 1 []++[46]++N.getD 0 [])),some b.d,some (.ref a),v6,v7,v8,some (.tup [jB (jA ans (N.getD 0 []) b).1,.ref S.length]),some b.d,some (.str w),none,none,none] (S++[.lst ((jA ans (N.getD 0 []) b).2.map .str),W8])).out=.ok (.bl true) s':=fun hw0=>by
  subst hw0
  obtain⟨s',e⟩:=zNX (N:=N) (ns:=ns) (S:=S++[.lst ((jA ans (N.getD 0 []) b).2.map .str),W8]) (a:=a) (l:=S.length) (st:=N.getD 0 []) (ans:=ans) (tree:=b.d) (r:=jA ans (N.getD 0 []) b) (jQ hS2 _) x0 (jQ ha _) hn (by simp) (by omega) (fun gv S' hg'=>by
   obtain⟨s',h1,h2⟩:=zQD (S:=S') (a:=gv) hg' hv1 hst b hb.1
   exact zIy h1 h2) (v2:=some (.int (qB ns 1))) (v3:=some (.str (N.getD 1 []++[46]++N.getD 0 []))) (v4:=some b.d) (v6:=v6) (v7:=v7) (v8:=v8) (v11:=some (.str []))
  refine⟨s',?_⟩
  have e12:ZY [some (R0 ns),some (.ref 0),some (.int (qB ns 1)),some (.str (N.getD 1 []++[46]++N.getD 0 [])),some b.d,some (.ref a),v6,v7,v8,some (.tup [jB (jA ans (N.getD 0 []) b).1,.ref S.length]),some b.d,some (.str []),none,none,none] (S++[.lst ((jA ans (N.getD 0 []) b).2.map .str),W8])=.nx [some (R0 ns),some (.ref 0),some (.int (qB ns 1)),some (.str (N.getD 1 []++[46]++N.getD 0 [])),some b.d,some (.ref a),v6,v7,v8,some (.tup [jB (jA ans (N.getD 0 []) b).1,.ref S.length]),some b.d,some (.str []),none,none,none] (S++[.lst ((jA ans (N.getD 0 []) b).2.map .str),W8]):=by
   simp[ZY]
  show ((ZY _ _).then _).out=_
  rw[e12,RS.then_nx]
  exact e
 have hrun2:W7 w->∃ s',(zK ZY (zK QV (zK QU Jh)) [some (R0 ns),some (.ref 0),some (.int (qB ns 1)),some (.str (N.getD 1 []++[46]++N.getD 0 [])),some b.d,some (.ref a),v6,v7,v8,some (.tup [jB (jA ans (N.getD 0 []) b).1,.ref S.length]),some b.d,some (.str w),none,none,none] (S++[.lst ((jA ans (N.getD 0 []) b).2.map .str),W8])).out=.ok (.bl true) s':=fun hw7=>by
  have hwn:¬ w=[]:=by rcases hw7 with rfl | rfl | rfl | rfl | rfl | rfl | rfl<;>decide
  have hlen:=zQs (ans:=ans) hv1 l0 hb
  obtain⟨l',g,es,el⟩:=zNN (S:=S++[.lst ((jA ans (N.getD 0 []) b).2.map .str),W8]) (a:=a) (l:=S.length) (ans:=ans) (used:=(jA ans (N.getD 0 []) b).2) (jQ ha _) (by simp) (by omega) hw7 (jA ans (N.getD 0 []) b).1 hlen
  obtain⟨s',e⟩:=zNX (N:=N) (ns:=ns) (S:=S++[.lst ((jA ans (N.getD 0 []) b).2.map .str),W8]++g) (a:=a) (l:=l') (st:=N.getD 0 []) (ans:=ans) (tree:=.tup [.str w,b.d]) (r:=yQ ans w (jA ans (N.getD 0 []) b).1 (jA ans (N.getD 0 []) b).2) (jQ (jQ hS2 _) _) x0 (jQ (jQ ha _) _) hn el (zLS hu) (fun gv S' hg'=>by
   obtain⟨s',h1,h2⟩:=zOb (S:=S') (a:=gv) hg' hv hst b hb.1 hb.2.1 hw7
   exact zIy h1 h2) (v2:=some (.int (qB ns 1))) (v3:=some (.str (N.getD 1 []++[46]++N.getD 0 []))) (v4:=some b.d) (v6:=v6) (v7:=v7) (v8:=v8) (v11:=some (.str w))
  refine⟨s',?_⟩
  have z2':(2:Nat) <= SZ:=by decide
  have at0':∀ (x y:D),atI [x,y] 0=some x:=fun x y=>at0 x [y]
  have at1':∀ (x y:D),atI [x,y] 1=some y:=fun x y=>at1 x y []
  have e12:ZY [some (R0 ns),some (.ref 0),some (.int (qB ns 1)),some (.str (N.getD 1 []++[46]++N.getD 0 [])),some b.d,some (.ref a),v6,v7,v8,some (.tup [jB (jA ans (N.getD 0 []) b).1,.ref S.length]),some b.d,some (.str w),none,none,none] (S++[.lst ((jA ans (N.getD 0 []) b).2.map .str),W8])=.nx [some (R0 ns),some (.ref 0),some (.int (qB ns 1)),some (.str (N.getD 1 []++[46]++N.getD 0 [])),some b.d,some (.ref a),v6,v7,v8,some (.tup [jB (yQ ans w (jA ans (N.getD 0 []) b).1 (jA ans (N.getD 0 []) b).2).1,.ref l']),some (.tup [.str w,b.d]),some (.str w),none,none,none] (S++[.lst ((jA ans (N.getD 0 []) b).2.map .str),W8]++g):=by
   simp only[ZY,sIf,zw,zD,eC,List.getElem?_cons_zero,List.getElem?_cons_succ,R.bind_ok,cNe,eqD,hwn,decide_false,Bool.not_false,R.stm_ok,if_true,zK,jD,jx,zC,zH,List.length_cons,List.length_nil,z2',List.set_cons_zero,List.set_cons_succ,RS.then_nx,zR,eOp,zN,at0',at1',es]
  show ((ZY _ _).then _).out=_
  rw[e12,RS.then_nx]
  exact e
 obtain⟨s',e⟩:=hw.elim hrun1 hrun2
 refine⟨s',?_⟩
 show ((zB8 [some (R0 ns),none,none,none,none,none,none,none,none,none,none,none,none,none,none] []).then (zK zB9 (zK zCA (zK Jv (zK Qo (zK Qz (zK zAa (zK J8 (zK zAX (zK zA4 (zK zBA (zK ZY (zK QV (zK QU Jh)))))))))))))).out=_
 rw[e3]
 show ((Jv _ _).then (zK Qo (zK Qz _))).out=_
 rw[e6]
 show ((zAa _ _).then (zK J8 _)).out=_
 rw[e8,e11]
 exact e
end
end
end M
namespace My
open PySem L2 PyProof.Rows
noncomputable def top (i:Nat):Stmt:=PySem.Challenge.pw_thingyard_k42_parts_alone.main.body.getD i (.Pass ⟨0,0,0,0⟩)
theorem vv {X:Cx}{Θ:Tab}{pos:Pos}{x:Str} (i:Nat) (h1:X.N[i]? = some x:=by rfl) (h2:Vis X.env.scope x:=by exact Or.inl (by kernel_rfl)) (h3:(x == ("__debug__" : Str))=false:=by kernel_rfl) (h4:(x == ("__classdict__" : Str))=false:=by kernel_rfl):WE X Θ (.Name x pos) (M.zD i):=zKT i h1 h2 h3 h4
theorem vc {X:Cx}{Θ:Tab}{pos:Pos}{x:Str} (i:Nat) (h1:X.N[i]? = some x:=by rfl) (h2:Vis X.env.scope x:=by exact Or.inr (Or.inl (by kernel_rfl))) (h3:(x == ("__debug__" : Str))=false:=by kernel_rfl) (h4:(x == ("__classdict__" : Str))=false:=by kernel_rfl):WE X Θ (.Name x pos) (M.zD i):=zKT i h1 h2 h3 h4
theorem zz {X:Cx}{Θ:Tab}{pos:Pos}{y:M.T}{x:Str}{j:Nat} (h:x=ofT y:=by decide +kernel) (ok:okT y:=by decide +kernel):WE X Θ (.Constant (.str x) j pos) (M.eC (.str y)):=zPb h ok
theorem gk {X:Cx}{x:Str} (h:X.env.kindOf x=some .globalImplicit:=by kernel_rfl):Gl X x:=h
noncomputable abbrev cX (P:Program) (w:World) (K:PySem.W.Frag) (mg:Str->Option Value) (base:Heap) (N:List Str) (n:Str) (st:Stmt) (f:Addr) (cdv:Value) (A:Around) (outer:List Env) (s:Shared) (H:Hp) (E:XK):Cx:=(zCR CX0 P w K mg base N n (zM st) f cdv A outer s H E).nox
noncomputable abbrev RM (k:Nat) (n:Str) (st:Stmt) (A:Around) (s:Shared) (f:Addr) (cdv:Value):Prop:=jY k (A.deeper (envOfC n (zM st) s.heap.objs.size f cdv))
noncomputable abbrev bd (st:Stmt) (j:Nat):Stmt:=(zq st).getD j (.Pass ⟨0,0,0,0⟩)
noncomputable def zJl (K:PySem.W.Frag):Sp:=fun vs H Q E=>∀ Θ:Tab,SpM K Θ 1 M.zMK vs H Q E
theorem zPB {K:PySem.W.Frag}{H:Hp}{a:Addr}{ns:List Int}{E:XK} (hl:ns.length <= 63) (hO:zKd H) (hS:SqL K H a (ns.map V.int)):zJl K [.ref a] H (fun v _=>v=.bl true) E:=fun _=>zR1 M.zOS hl hO hS
noncomputable def Θ1 (zA:Addr):Tab:=fun c=>if c=4 then some (zA,["stem","answers","used","steps","texts","todo","ended"]) else none
section
variable (P:Program) (w:World) (K:PySem.W.Frag) (mg:Str->Option Value) (base:Heap) (zA:Addr)
noncomputable abbrev ZW:Prop:=Has P w K mg base "_law_letter" 1 ["_law_cell"] (SpM K (Θ1 zA) 1 M.jj)
noncomputable abbrev zAh:Prop:=Has P w K mg base "_law_plain_by" 2 ["_law_cell","_law_k"] (SpM K (Θ1 zA) 2 M.ZR)
noncomputable abbrev zAm:Prop:=Has P w K mg base "_law_names_by" 3 ["_law_cell"] (SpM K (Θ1 zA) 1 M.QP)
noncomputable abbrev zEy:Prop:=Has P w K mg base "_law_mixed" 1 ["_law_cell","_law_k"] (SpM K (Θ1 zA) 2 M.Jo)
noncomputable abbrev Z0:Prop:=Has P w K mg base "_law_cell_at" 2 ["_law_script","_law_k"] (SpM K (Θ1 zA) 2 M.jP)
noncomputable abbrev zDH:Prop:=Has P w K mg base "_law_bare" 1 ["_law_tree","_law_stem","_law_answers"] (SpM K (Θ1 zA) 3 M.zBX)
noncomputable abbrev zCc:Prop:=Has P w K mg base "_law_words" 1 ["_law_text"] (SpM K (Θ1 zA) 1 M.ZB)
noncomputable abbrev zC9:Prop:=Has P w K mg base "_law_is_plain" 1 ["_law_word"] (SpM K (Θ1 zA) 1 M.yZ)
noncomputable abbrev zA8:Prop:=Has P w K mg base "_law_is_name" 2 ["_law_text"] (SpM K (Θ1 zA) 1 M.Qj)
noncomputable abbrev zBn:Prop:=Has P w K mg base "_law_single" 3 ["_law_word","_law_end","_law_used","_law_answers"] (SpM K (Θ1 zA) 4 M.JK)
noncomputable abbrev zBl:Prop:=zPa P w K mg base zA "Working" 1 ["self","tree","stem","answers"] (SpM K (Θ1 zA) 4 M.ZE)
noncomputable abbrev Jy:Prop:=zBK P w K mg base zA "fail" 1 ["self","words"] (SpM K (Θ1 zA) 2 M.y4)
noncomputable abbrev Qc:Prop:=zBK P w K mg base zA "come_to" 2 ["self","text"] (SpM K (Θ1 zA) 2 M.yl)
noncomputable abbrev zA1:Prop:=zBK P w K mg base zA "bare_text" 1 ["self","part","it"] (SpM K (Θ1 zA) 3 M.yD)
noncomputable abbrev Z4:Prop:=zBK P w K mg base zA "come_to_answer" 3 ["self","name"] (SpM K (Θ1 zA) 2 M.jv)
noncomputable abbrev zA0:Prop:=zBK P w K mg base zA "put_parts" 1 ["self","parts","it"] (SpM K (Θ1 zA) 3 M.qW)
noncomputable abbrev zAZ:Prop:=zBK P w K mg base zA "begin_inner" 2 ["self","part","it"] (SpM K (Θ1 zA) 3 M.ZN)
noncomputable abbrev zC2:Prop:=zBK P w K mg base zA "begin" 4 ["self","part","it"] (SpM K (Θ1 zA) 3 M.yY)
noncomputable abbrev zF5:Prop:=Has P w K mg base "is_letter" 1 ["sign"] (SpM K (Θ1 zA) 1 M.JS)
noncomputable abbrev zHG:Prop:=Has P w K mg base "is_plain" 2 ["thing"] (SpM K (Θ1 zA) 1 M.qY)
noncomputable abbrev zI3:Prop:=Has P w K mg base "is_name" 3 ["thing"] (SpM K (Θ1 zA) 1 M.yP)
noncomputable abbrev zAr:Prop:=Has P w K mg base "words_of" 1 ["text"] (SpM K (Θ1 zA) 1 M.yf)
noncomputable abbrev zBP:Prop:=Has P w K mg base "sorted_words" 2 ["text"] (SpM K (Θ1 zA) 1 M.Qg)
noncomputable abbrev zBL:Prop:=Has P w K mg base "turned_about" 1 ["text"] (SpM K (Θ1 zA) 1 M.Qn)
noncomputable abbrev zCT:Prop:=Has P w K mg base "first_word" 2 ["text"] (SpM K (Θ1 zA) 1 M.Ja)
noncomputable abbrev zCg:Prop:=Has P w K mg base "rest_words" 2 ["text"] (SpM K (Θ1 zA) 1 M.Jb)
noncomputable abbrev zEj:Prop:=Has P w K mg base "counted" 2 ["text"] (SpM K (Θ1 zA) 1 M.zBj)
noncomputable abbrev zIz:Prop:=Has P w K mg base "made_of" 3 ["kind","text"] (SpM K (Θ1 zA) 2 M.zBf)
noncomputable abbrev zAt:Prop:=zBK P w K mg base zA "end_single" 4 ["self","kind"] (SpM K (Θ1 zA) 2 M.jn)
noncomputable abbrev zET:Prop:=zBK P w K mg base zA "run" 5 ["self"] (SpM K (Θ1 zA) 1 M.yt)
noncomputable abbrev zGe:Prop:=Has P w K mg base "worked" 6 ["tree","stem","answers"] (SpM K (Θ1 zA) 3 M.Je)
noncomputable abbrev zDU:Prop:=Has P w K mg base "_law_sign_by" 1 ["_law_cell"] (SpM K (Θ1 zA) 1 M.y7)
noncomputable abbrev Qf:Prop:=Has P w K mg base "_law_text_by" 2 ["_law_cell","_law_size"] (SpM K (Θ1 zA) 2 M.Zx)
noncomputable abbrev zCS:Prop:=Has P w K mg base "_law_alike" 1 ["_law_gave","_law_due"] (SpM K (Θ1 zA) 2 M.jw)
noncomputable abbrev zAU:Prop:=Has P w K mg base "_law_answer_by" 3 ["_law_cell","_law_names"] (SpM K (Θ1 zA) 2 M.qr)
end
variable {P:Program}{w:World}{K:PySem.W.Frag}{mg:Str->Option Value}{base:Heap}{f:Addr}{fd:FuncData}{cdv:Value}{A:Around}{outer:List Env}{s:Shared}{H:Hp}{E:XK}{zA:Addr}
noncomputable abbrev jh (K:PySem.W.Frag) (zA:Addr):Prop:=zAC K (Θ1 zA) 4 zA ["stem","answers","used","steps","texts","todo","ended"]
noncomputable abbrev QI:Stmt:=top 22
noncomputable abbrev zJi:List Str:=["_law_cell"]
theorem zIb:jE zJi ["_law_cell"] (zM QI):=⟨rfl,rfl,rfl,by decide +kernel,rfl,by decide +kernel,by decide +kernel⟩
theorem zID (F:Fun K "_law_letter" "_law_letter" QI f fd) :
  jX P w K mg base CX0 1 f fd ["_law_cell"] (SpM K (Θ1 zA) 1 M.jj):=by
 refine qN (b:=M.zAL) F zIb M.zIH fun cdv A outer s H E hr=>?_
 unfold M.zAL
 exact (zG (zX (zU (jC hr) zZ zz (zO yU qa (vv 0) zF))))
noncomputable abbrev zh:Stmt:=top 23
noncomputable abbrev yh:List Str:=["_law_cell","_law_k","_law_base","_law_size","_law_at"]
theorem JE:jE yh ["_law_cell","_law_k"] (zM zh):=⟨rfl,rfl,rfl,by decide +kernel,rfl,by decide +kernel,by decide +kernel⟩
theorem zFH:(["_law_cell","_law_k","_law_base","_law_size","_law_at","_law_j"]:List Str).Nodup:=by decide +kernel
theorem zE1 (je:ZW P w K mg base zA) (qO:mg "range" = none) (hr:RM 1 "_law_plain_by" zh A s f cdv):WS (cX P w K mg base yh "_law_plain_by" zh f cdv A outer s H E) (Θ1 zA) (bd zh 0) M.yk:=by
 unfold M.yk
 exact (zg (i:=2) JE.nd rfl (Or.inl (by kernel_rfl)) (zG4 (by decide +kernel) (vars:=["_law_j"]) rfl ⟨rfl,rfl,(by kernel_rfl),(by kernel_rfl),(by decide +kernel),⟨(by kernel_rfl),trivial⟩,(by kernel_rfl)⟩ (JR gk qO zF) (fun _ _ _ _=>(yO (i:=5) zFH rfl (Or.inl (by kernel_rfl)) (.inr (by kernel_rfl)))) (fun _ _ _ _=>zCf) (fun _ _ _ _=>(zm je hr (by decide) gk (zB (zO yU qa (zO zCH zCJ (zO (OpR.or jf jI) jS (zO Qd Zc (vc 0) zF) (zO zCH zCJ (vv 5) zF)) zF) zF) zE) (zQ zo))) (by kernel_rfl) (fun ρ H S ds ys p Q rp r hq h=>zCd (by decide +kernel) ρ H S ds ys p Q rp r (.inl hq) h)))
theorem zFB (hr:RM 1 "_law_plain_by" zh A s f cdv):WS (cX P w K mg base yh "_law_plain_by" zh f cdv A outer s H E) (Θ1 zA) (bd zh 1) M.qy:=by
 unfold M.qy
 exact (zg (i:=3) JE.nd rfl (Or.inl (by kernel_rfl)) (zU (jC hr) zZ (jm (zB zF (zB zF (zB zF (zB zF (zB zF (zB zF zE))))))) (zO yU qa (zO Qd Zc (vc 0) zF) zF)))
theorem zEq (hr:RM 1 "_law_plain_by" zh A s f cdv):WS (cX P w K mg base yh "_law_plain_by" zh f cdv A outer s H E) (Θ1 zA) (bd zh 2) M.qx:=by
 unfold M.qx
 exact (zc (zY (jz hr) qR (zO yU qa (zO Qd Zc (vc 0) zF) zF) zF (jM _))
  (zG (zX (y8 zAT JF (vv 2) ZC (j5 (zO (OpR.or jf jI) jS (vv 1) zF)))))
  z9)
theorem zEu (hr:RM 1 "_law_plain_by" zh A s f cdv):WS (cX P w K mg base yh "_law_plain_by" zh f cdv A outer s H E) (Θ1 zA) (bd zh 3) M.yn:=by
 unfold M.yn
 exact (zg (i:=4) JE.nd rfl (Or.inl (by kernel_rfl)) (zO yU qa (zO Qd Zc (vc 0) zF) (vv 3)))
theorem zFN (je:ZW P w K mg base zA) (hr:RM 1 "_law_plain_by" zh A s f cdv):WS (cX P w K mg base yh "_law_plain_by" zh f cdv A outer s H E) (Θ1 zA) (bd zh 4) M.ym:=by
 unfold M.ym
 exact (zc (zY (jz hr) qR (zO yU qa (zO Qd Zc (vc 0) zF) zF) zF (jM _))
  (zG (zX (zO (OpR.or jf jI) jS (zO (OpR.or jf jI) jS (y8 zAT JF (vv 2) ZC (j5 (vv 4))) (zm je hr (by decide) gk (zB (zO (OpR.or jf jI) jS (vc 0) (vv 1)) zE) (zQ zo))) (y8 zAT JF (vv 2) (j5 (zO (OpR.or jf jI) jS (vv 4) zF)) (j5 (vv 3))))))
  z9)
theorem zFL (je:ZW P w K mg base zA) (hr:RM 1 "_law_plain_by" zh A s f cdv):WS (cX P w K mg base yh "_law_plain_by" zh f cdv A outer s H E) (Θ1 zA) (bd zh 5) M.Za:=by
 unfold M.Za
 exact (zX (zO (OpR.or jf jI) jS (zm je hr (by decide) gk (zB (zO (OpR.or jf jI) jS (vc 0) (vv 1)) zE) (zQ zo)) (y8 zAT JF (vv 2) (j5 (vv 1)) (j5 (zO (OpR.or jf jI) jS (vv 1) (zO yU qa (zO (OpR.or jf jI) jS (vv 3) (vv 1)) zF))))))
theorem zGD (F:Fun K "_law_plain_by" "_law_plain_by" zh f fd) (je:ZW P w K mg base zA) (qO:mg "range" = none) :
  jX P w K mg base CX0 2 f fd ["_law_cell","_law_k"] (SpM K (Θ1 zA) 2 M.ZR):=by
 refine qN (b:=M.zAv) F JE M.zGl fun cdv A outer s H E hr=>?_
 unfold M.zAv
 exact (zJ (zE1 je qO hr) (zJ (zFB hr) (zJ (zEq hr) (zJ (zEu hr) (zJ (zFN je hr) (zG (zFL je hr)))))))
noncomputable abbrev zr:Stmt:=top 24
noncomputable abbrev ZU:List Str:=["_law_cell","_law_some","_law_names","_law_k","_law_word","_law_j"]
theorem qo:jE ZU ["_law_cell"] (zM zr):=⟨rfl,rfl,rfl,by decide +kernel,rfl,by decide +kernel,by decide +kernel⟩
theorem zFS (hr:RM 2 "_law_names_by" zr A s f cdv):WS (cX P w K mg base ZU "_law_names_by" zr f cdv A outer s H E) (Θ1 zA) (bd zr 0) M.yq:=by
 unfold M.yq
 exact (zg (i:=1) qo.nd rfl (Or.inl (by kernel_rfl)) (jm (zB zz (zB zz (zB zz (zB zz (zB zz (zB zz (zB zz (zB zz (zB zz (zB zz (zB zz (zB zz (zB zz zE)))))))))))))))
theorem zFC (hr:RM 2 "_law_names_by" zr A s f cdv):WS (cX P w K mg base ZU "_law_names_by" zr f cdv A outer s H E) (Θ1 zA) (bd zr 1) M.yp:=by
 unfold M.yp
 exact (zg (i:=1) qo.nd rfl (Or.inl (by kernel_rfl)) (zO (OpR.or jf jI) jS (vv 1) (jm (zB zz (zB zz (zB zz zE))))))
theorem zFI (hr:RM 2 "_law_names_by" zr A s f cdv):WS (cX P w K mg base ZU "_law_names_by" zr f cdv A outer s H E) (Θ1 zA) (bd zr 2) M.yj:=by
 unfold M.yj
 exact (zg (i:=2) qo.nd rfl (Or.inl (by kernel_rfl)) (jm zE))
theorem zFG (QR:zAh P w K mg base zA) (je:ZW P w K mg base zA) (qO:mg "range" = none) (hr:RM 2 "_law_names_by" zr A s f cdv):WS (cX P w K mg base ZU "_law_names_by" zr f cdv A outer s H E) (Θ1 zA) (bd zr 3) M.qw:=by
 unfold M.qw
 exact (zCW PassesOwn.never rfl (JR gk qO zF) (yO (i:=3) qo.nd rfl (Or.inl (by kernel_rfl)) (.inl rfl))
  (zJ (zg (i:=4) qo.nd rfl (Or.inl (by kernel_rfl)) (zm QR hr (by decide) gk (zB (vv 0) (zB (vv 3) zE)) (zQ (zQ zo))))
  (zJ (zCW PassesOwn.never rfl (JR gk qO zF) (yO (i:=5) qo.nd rfl (Or.inl (by kernel_rfl)) (.inl rfl))
  (zG (zc (Z7 (JV (zY (zBc hr) zC6 (vv 4) (vv 1) (by rfl)) (Zs (zY (zBc hr) zC6 (vv 4) (vv 2) (by rfl)))))
  (zG (zg (i:=4) qo.nd rfl (Or.inl (by kernel_rfl)) (zO (OpR.or jf jI) jS (zm je hr (by decide) gk (zB (zO (OpR.or jf jI) jS (vv 0) (vv 5)) zE) (zQ zo)) (y8 zAT JF (vv 4) (j5 zF) ZC))))
  z9)))
  (zG (jc (ZD PySem.F.plainAttrs_list PySem.F.slot_list_append PySem.F.type_list_append Jd Jl rfl (vv 2) (zB (vv 4) zE)))))))
theorem zFK (hr:RM 2 "_law_names_by" zr A s f cdv):WS (cX P w K mg base ZU "_law_names_by" zr f cdv A outer s H E) (Θ1 zA) (bd zr 4) M.Zb:=by
 unfold M.Zb
 exact (zX (vv 2))
theorem zGX (F:Fun K "_law_names_by" "_law_names_by" zr f fd) (QR:zAh P w K mg base zA) (je:ZW P w K mg base zA) (qO:mg "range" = none) :
  jX P w K mg base CX0 3 f fd ["_law_cell"] (SpM K (Θ1 zA) 1 M.QP):=by
 refine qN (b:=M.zAi) F qo M.zGP fun cdv A outer s H E hr=>?_
 unfold M.zAi
 exact (zJ (zFS hr) (zJ (zFC hr) (zJ (zFI hr) (zJ (zFG QR je qO hr) (zG (zFK hr))))))
noncomputable abbrev Q0:Stmt:=top 20
noncomputable abbrev zJt:List Str:=["_law_cell","_law_k"]
theorem zJP:jE zJt ["_law_cell","_law_k"] (zM Q0):=⟨rfl,rfl,rfl,by decide +kernel,rfl,by decide +kernel,by decide +kernel⟩
theorem zJN (F:Fun K "_law_mixed" "_law_mixed" Q0 f fd) :
  jX P w K mg base CX0 1 f fd ["_law_cell","_law_k"] (SpM K (Θ1 zA) 2 M.Jo):=by
 refine qN (b:=M.zAo) F zJP M.zJO fun cdv A outer s H E hr=>?_
 unfold M.zAo
 exact (zG (zX (zO yU qa (zO zCH zCJ (zO (OpR.or jf jI) jS (vv 0) (zO zCH zCJ zF (vv 1))) zF) zF)))
noncomputable abbrev Zw:Stmt:=top 21
noncomputable abbrev zHy:List Str:=["_law_script","_law_k"]
theorem zHI:jE zHy ["_law_script","_law_k"] (zM Zw):=⟨rfl,rfl,rfl,by decide +kernel,rfl,by decide +kernel,by decide +kernel⟩
theorem zHL (F:Fun K "_law_cell_at" "_law_cell_at" Zw f fd) (zCl:zEy P w K mg base zA) (jt:mg "len" = none) :
  jX P w K mg base CX0 2 f fd ["_law_script","_law_k"] (SpM K (Θ1 zA) 2 M.jP):=by
 refine qN (b:=M.Qw) F zHI M.zHl fun cdv A outer s H E hr=>?_
 unfold M.Qw
 exact (zJ (zc (zY zSE zP0 (vv 1) (ja yw JL gk jt JJ (zB (vv 0) zE)) (jM _))
  (zG (zX (zm zCl hr (by decide) gk (zB (zU (jC hr) zZ (vv 0) (vv 1)) (zB (vv 1) zE)) (zQ (zQ zo)))))
  z9)
  (zG (zX zF)))
noncomputable abbrev jF:Stmt:=top 32
noncomputable abbrev ZA:List Str:=["_law_tree","_law_stem","_law_answers","_law_name"]
theorem zCj:jE ZA ["_law_tree","_law_stem","_law_answers"] (zM jF):=⟨rfl,rfl,rfl,by decide +kernel,rfl,by decide +kernel,by decide +kernel⟩
theorem zHz (hr:RM 0 "_law_bare" jF A s f cdv):WS (cX P w K mg base ZA "_law_bare" jF f cdv A outer s H E) (Θ1 zA) (bd jF 0) M.qH:=by
 unfold M.qH
 exact (zc (zY (jz hr) qR (zU (jC hr) zZ (vv 0) zF) zz (jM _))
  (zG (zX (zu (zB (zu (zB zz (zB (zU (jC hr) zZ (vv 0) zF) zE))) (zB (jm zE) zE)))))
  z9)
theorem zH8 (hr:RM 0 "_law_bare" jF A s f cdv):WS (cX P w K mg base ZA "_law_bare" jF f cdv A outer s H E) (Θ1 zA) (bd jF 1) M.qP:=by
 unfold M.qP
 exact (zc (zY (jz hr) qR (zU (jC hr) zZ (vv 0) zF) zz (jM _))
  (zG (zX (zu (zB (zu (zB zz (zB zz zE))) (zB (jm zE) zE)))))
  z9)
theorem zHx (hr:RM 0 "_law_bare" jF A s f cdv):WS (cX P w K mg base ZA "_law_bare" jF f cdv A outer s H E) (Θ1 zA) (bd jF 2) M.qt:=by
 unfold M.qt
 exact (zc (zY (jz hr) qR (zU (jC hr) zZ (vv 0) zF) zz (jM _))
  (zG (zX (zu (zB (zu (zB zz (zB (vv 1) zE))) (zB (jm zE) zE)))))
  z9)
theorem zIK (hr:RM 0 "_law_bare" jF A s f cdv):WS (cX P w K mg base ZA "_law_bare" jF f cdv A outer s H E) (Θ1 zA) (bd jF 3) M.yJ:=by
 unfold M.yJ
 exact (zg (i:=3) zCj.nd rfl (Or.inl (by kernel_rfl)) (zU (jC hr) zZ (vv 0) zF))
theorem zIZ (hr:RM 0 "_law_bare" jF A s f cdv):WS (cX P w K mg base ZA "_law_bare" jF f cdv A outer s H E) (Θ1 zA) (bd jF 4) M.yH:=by
 unfold M.yH
 exact (zc (zY (jz hr) qR (zU (jC hr) zZ (vv 0) zF) zz (jM _))
  (zG (zg (i:=3) zCj.nd rfl (Or.inl (by kernel_rfl)) (zO (OpR.or jf jI) jS (zO (OpR.or jf jI) jS (zU (jC hr) zZ (vv 0) zF) zz) (vv 1))))
  z9)
theorem zIM (hr:RM 0 "_law_bare" jF A s f cdv):WS (cX P w K mg base ZA "_law_bare" jF f cdv A outer s H E) (Θ1 zA) (bd jF 5) M.yx:=by
 unfold M.yx
 exact (zc (zY (zBc hr) zC6 (vv 3) (vv 2) (by rfl))
  (zG (zX (zu (zB (zu (zB zz (zB (zU (jC hr) zZ (vv 2) (vv 3)) zE))) (zB (jm (zB (vv 3) zE)) zE)))))
  z9)
theorem zIX (hr:RM 0 "_law_bare" jF A s f cdv):WS (cX P w K mg base ZA "_law_bare" jF f cdv A outer s H E) (Θ1 zA) (bd jF 6) M.yy:=by
 unfold M.yy
 exact (zX (zu (zB (zu (zB zz (zB (vv 3) zE))) (zB (jm zE) zE))))
theorem zK2 (F:Fun K "_law_bare" "_law_bare" jF f fd) :
  jX P w K mg base CX0 1 f fd ["_law_tree","_law_stem","_law_answers"] (SpM K (Θ1 zA) 3 M.zBX):=by
 refine yi (N:=ZA) (b:=M.Zq) F zCj fun cdv A outer s H E hr=>?_
 unfold M.Zq
 exact (zJ (zHz hr) (zJ (zH8 hr) (zJ (zHx hr) (zJ (zIK hr) (zJ (zIZ hr) (zJ (zIM hr) (zG (zIX hr))))))))
noncomputable abbrev Qt:Stmt:=top 31
noncomputable abbrev zJu:List Str:=["_law_text"]
theorem zJc:jE zJu ["_law_text"] (zM Qt):=⟨rfl,rfl,rfl,by decide +kernel,rfl,by decide +kernel,by decide +kernel⟩
theorem zHK:(["_law_text","_law_word"]:List Str).Nodup:=by decide +kernel
theorem zJZ (F:Fun K "_law_words" "_law_words" Qt f fd) :
  jX P w K mg base CX0 1 f fd ["_law_text"] (SpM K (Θ1 zA) 1 M.ZB):=by
 refine qN (b:=M.zAf) F zJc M.zJX fun cdv A outer s H E hr=>?_
 unfold M.zAf
 exact (zG (zX (zFM (vars:=["_law_word"]) rfl ⟨rfl,rfl,(by kernel_rfl),(by kernel_rfl),(by decide +kernel),trivial,(by kernel_rfl)⟩ (zDk (ZD PySem.F.plainAttrs_str PySem.F.slot_str_split PySem.F.type_str_split zGT zGU rfl (zJG (vv 0) (by decide +kernel) (by decide +kernel) rfl (by decide +kernel)) (zB zz zE))) (fun _ _ _ _=>(yO (i:=1) zHK rfl (Or.inl (by kernel_rfl)) (.inr (by kernel_rfl)))) (fun _ _ _ _=>(zJz (zY (zAG hr) zBa (vv 1) zz (jM _)))) (fun _ _ _ _=>(vv 1)) (by kernel_rfl))))
noncomputable abbrev ZP:Stmt:=top 29
noncomputable abbrev zGy:List Str:=["_law_word","_law_some"]
theorem zCM:jE zGy ["_law_word"] (zM ZP):=⟨rfl,rfl,rfl,by decide +kernel,rfl,by decide +kernel,by decide +kernel⟩
theorem zE4:(["_law_word","_law_some","_law_sign"]:List Str).Nodup:=by decide +kernel
theorem zGK (F:Fun K "_law_is_plain" "_law_is_plain" ZP f fd) (zB5:mg "all" = none) (jt:mg "len" = none) :
  jX P w K mg base CX0 1 f fd ["_law_word"] (SpM K (Θ1 zA) 1 M.yZ):=by
 refine qN (b:=M.QN) F zCM M.zGo fun cdv A outer s H E hr=>?_
 unfold M.QN
 exact (zJ (zg (i:=1) zCM.nd rfl (Or.inl (by kernel_rfl)) (jm (zB zz (zB zz (zB zz (zB zz (zB zz (zB zz (zB zz (zB zz (zB zz (zB zz (zB zz (zB zz (zB zz zE)))))))))))))))
  (zJ (zc (Z7 (JV (zY (zBc hr) zC6 (vv 0) (zO (OpR.or jf jI) jS (vv 1) (jm (zB zz (zB zz (zB zz zE))))) (by rfl)) (Zs (QW (zHr zGA zGA zD8 zD8 zF (ja yw JL gk jt JJ (zB (vv 0) zE)) zF)))))
  (zG (zX Ql))
  z9)
  (zG (zX (zDy (zGp rfl) zIV gk zB5 zKZ (vars:=["_law_sign"]) rfl ⟨rfl,rfl,(by kernel_rfl),(by kernel_rfl),(by decide +kernel),trivial,(by kernel_rfl)⟩ (zDk (vv 0)) (fun _ _ _ _=>(yO (i:=2) zE4 rfl (Or.inl (by kernel_rfl)) (.inr (by kernel_rfl)))) (fun _ _ _ _=>zCf) (fun _ _ _ _=>(zGB (zBc hr) zC6 (vv 2) zz (by rfl))) (by kernel_rfl))))))
noncomputable abbrev Zu:Stmt:=top 30
noncomputable abbrev zH2:List Str:=["_law_text","_law_at"]
theorem zC7:jE zH2 ["_law_text"] (zM Zu):=⟨rfl,rfl,rfl,by decide +kernel,rfl,by decide +kernel,by decide +kernel⟩
theorem zHX (F:Fun K "_law_is_name" "_law_is_name" Zu f fd) (QS:zC9 P w K mg base zA) :
  jX P w K mg base CX0 2 f fd ["_law_text"] (SpM K (Θ1 zA) 1 M.Qj):=by
 refine qN (b:=M.Z1) F zC7 M.zHH fun cdv A outer s H E hr=>?_
 unfold M.Z1
 exact (zJ (zg (i:=1) zC7.nd rfl (Or.inl (by kernel_rfl)) (ZD PySem.F.plainAttrs_str PySem.F.slot_str_find PySem.F.type_str_find zO8 zQk rfl (vv 0) (zB zz zE)))
  (zJ (zc (zY zSE zP0 (vv 1) zF (jM _))
  (zG (zX (zm QS hr (by decide) gk (zB (vv 0) zE) (zQ zo))))
  z9)
  (zG (zX (zGZ (zm QS hr (by decide) gk (zB (y8 zAT JF (vv 0) ZC (j5 (vv 1))) zE) (zQ zo)) (zGj (zm QS hr (by decide) gk (zB (y8 zAT JF (vv 0) (j5 (zO (OpR.or jf jI) jS (vv 1) zF)) ZC) zE) (zQ zo))))))))
noncomputable abbrev zV:Stmt:=top 33
noncomputable abbrev j0:List Str:=["_law_word","_law_end","_law_used","_law_answers","_law_text","_law_words_here","_law_some"]
theorem J4:jE j0 ["_law_word","_law_end","_law_used","_law_answers"] (zM zV):=⟨rfl,rfl,rfl,by decide +kernel,rfl,by decide +kernel,by decide +kernel⟩
theorem zF8:(["_law_word","_law_end","_law_used","_law_answers","_law_text","_law_words_here","_law_some","_law_name"]:List Str).Nodup:=by decide +kernel
theorem zGq (hr:RM 2 "_law_single" zV A s f cdv):WS (cX P w K mg base j0 "_law_single" zV f cdv A outer s H E) (Θ1 zA) (bd zV 0) M.yd:=by
 unfold M.yd
 exact (zc (zY (zAG hr) zBa (zU (jC hr) zZ (vv 1) zF) zz (jM _))
  (zG (zX (zu (zB (vv 1) (zB (vc 2) zE)))))
  z9)
theorem zGg (hr:RM 2 "_law_single" zV A s f cdv):WS (cX P w K mg base j0 "_law_single" zV f cdv A outer s H E) (Θ1 zA) (bd zV 1) M.ZL:=by
 unfold M.ZL
 exact (zg (i:=4) J4.nd rfl (Or.inl (by kernel_rfl)) (zU (jC hr) zZ (vv 1) zF))
theorem zGJ (Jp:zCc P w K mg base zA) (hr:RM 2 "_law_single" zV A s f cdv):WS (cX P w K mg base j0 "_law_single" zV f cdv A outer s H E) (Θ1 zA) (bd zV 2) M.ZO:=by
 unfold M.ZO
 exact (zg (i:=5) J4.nd rfl (Or.inl (by kernel_rfl)) (zm Jp hr (by decide) gk (zB (vv 4) zE) (zQ zo)))
theorem zGR (hr:RM 2 "_law_single" zV A s f cdv):WS (cX P w K mg base j0 "_law_single" zV f cdv A outer s H E) (Θ1 zA) (bd zV 3) M.j7:=by
 unfold M.j7
 exact (zc (zY (jz hr) qR (vv 0) zz (jM _))
  (zG (zX (zu (zB (zu (zB zz (zB (vv 4) zE))) (zB (vc 2) zE)))))
  z9)
theorem zGc (hr:RM 2 "_law_single" zV A s f cdv):WS (cX P w K mg base j0 "_law_single" zV f cdv A outer s H E) (Θ1 zA) (bd zV 4) M.qL:=by
 unfold M.qL
 exact (zc (Z7 (zGr (zY (jz hr) qR (vv 0) zz (jM _)) (zCX (zY (zBc hr) zC6 (vv 4) (vv 3) (by rfl)))))
  (zG (zX (zu (zB (zu (zB zz (zB (zU (jC hr) zZ (vv 3) (vv 4)) zE))) (zB (zO (OpR.or jf jI) jS (vc 2) (zFM (vars:=["_law_name"]) rfl ⟨rfl,rfl,(by kernel_rfl),(by kernel_rfl),(by decide +kernel),⟨(by kernel_rfl),trivial⟩,(by kernel_rfl)⟩ (zDk (jm (zB (vv 4) zE))) (fun _ _ _ _=>(yO (i:=7) zF8 rfl (Or.inl (by kernel_rfl)) (.inr (by kernel_rfl)))) (fun _ _ _ _=>(zJz (zY (zIm hr) zJ0 (vv 7) (vc 2) (by rfl)))) (fun _ _ _ _=>(vv 7)) (by kernel_rfl))) zE)))))
  z9)
theorem zGn (Q2:zA8 P w K mg base zA) (hr:RM 2 "_law_single" zV A s f cdv):WS (cX P w K mg base j0 "_law_single" zV f cdv A outer s H E) (Θ1 zA) (bd zV 5) M.qZ:=by
 unfold M.qZ
 exact (zc (Z7 (zGr (zY (jz hr) qR (vv 0) zz (jM _)) (zCX (ZV (zm Q2 hr (by decide) gk (zB (vv 4) zE) (zQ zo))))))
  (zG (zX (zu (zB (zu (zB zz (zB (vv 4) zE))) (zB (vc 2) zE)))))
  z9)
theorem zGI (hr:RM 2 "_law_single" zV A s f cdv):WS (cX P w K mg base j0 "_law_single" zV f cdv A outer s H E) (Θ1 zA) (bd zV 6) M.qz:=by
 unfold M.qz
 exact (zc (zY (jz hr) qR (vv 0) zz (jM _))
  (zG (zX (zu (zB (zu (zB zz (zB zz zE))) (zB (vc 2) zE)))))
  z9)
theorem zGH (hr:RM 2 "_law_single" zV A s f cdv):WS (cX P w K mg base j0 "_law_single" zV f cdv A outer s H E) (Θ1 zA) (bd zV 7) M.q0:=by
 unfold M.q0
 exact (zg (i:=6) J4.nd rfl (Or.inl (by kernel_rfl)) (zOH (zFE zz (zKn (vv 4)) (zFE zz (ZD PySem.F.plainAttrs_str PySem.F.slot_str_join PySem.F.type_str_join zBF zCB rfl zz (zB (y8 zAT JF (vv 5) ZC (j5 zF)) zE)) (zFE zz (ZD PySem.F.plainAttrs_str PySem.F.slot_str_join PySem.F.type_str_join zBF zCB rfl zz (zB (y8 zAT JF (vv 5) (j5 zF) ZC) zE)) zPN)))))
theorem zGL (QD:mg "str" = none) (jt:mg "len" = none) (hr:RM 2 "_law_single" zV A s f cdv):WS (cX P w K mg base j0 "_law_single" zV f cdv A outer s H E) (Θ1 zA) (bd zV 8) M.q9:=by
 unfold M.q9
 exact (zEB hr (vv 6) zz (JT zJE zNb gk QD zDc (zB (ja yw JL gk jt JJ (zB (vv 5) zE)) zE)))
theorem zFu (Jq:mg "sorted" = none) (hr:RM 2 "_law_single" zV A s f cdv):WS (cX P w K mg base j0 "_law_single" zV f cdv A outer s H E) (Θ1 zA) (bd zV 9) M.qp:=by
 unfold M.qp
 exact (zEB hr (vv 6) zz (ZD PySem.F.plainAttrs_str PySem.F.slot_str_join PySem.F.type_str_join zBF zCB rfl zz (zB (ja (zE2 hr) zJB gk Jq zJD (zB (vv 5) zE)) zE)))
theorem zFp (hr:RM 2 "_law_single" zV A s f cdv):WS (cX P w K mg base j0 "_law_single" zV f cdv A outer s H E) (Θ1 zA) (bd zV 10) M.Z6:=by
 unfold M.Z6
 exact (zX (zu (zB (zu (zB zz (zB (zU (jC hr) zZ (vv 6) (vv 0)) zE))) (zB (vc 2) zE))))
theorem zHu (F:Fun K "_law_single" "_law_single" zV f fd) (Jp:zCc P w K mg base zA) (Q2:zA8 P w K mg base zA) (QD:mg "str" = none) (jt:mg "len" = none) (Jq:mg "sorted" = none) :
  jX P w K mg base CX0 3 f fd ["_law_word","_law_end","_law_used","_law_answers"] (SpM K (Θ1 zA) 4 M.JK):=by
 refine yi (N:=j0) (b:=M.zAO) F J4 fun cdv A outer s H E hr=>?_
 unfold M.zAO
 exact (zJ (zGq hr) (zJ (zGg hr) (zJ (zGJ Jp hr) (zJ (zGR hr) (zJ (zGc hr) (zJ (zGn Q2 hr) (zJ (zGI hr) (zJ (zGH hr) (zJ (zGL QD jt hr) (zJ (zFu Jq hr) (zG (zFp hr))))))))))))
noncomputable abbrev zW:Stmt:=JQ (top 17) 0
noncomputable abbrev j9:List Str:=["self","tree","stem","answers"]
theorem zEa:jE j9 ["self","tree","stem","answers"] (zM zW):=⟨rfl,rfl,rfl,by decide +kernel,rfl,by decide +kernel,by decide +kernel⟩
theorem zDo (zL:jh K zA) (hr:RM 0 "Working.__init__" zW A s f cdv):WS (cX P w K mg base j9 "Working.__init__" zW f cdv A outer s H E) (Θ1 zA) (bd zW 0) M.Zf:=by
 unfold M.Zf
 exact (JA (i:=0) zL rfl (vv 0) (vv 2))
theorem zDW (zL:jh K zA) (hr:RM 0 "Working.__init__" zW A s f cdv):WS (cX P w K mg base j9 "Working.__init__" zW f cdv A outer s H E) (Θ1 zA) (bd zW 1) M.Zj:=by
 unfold M.Zj
 exact (JA (i:=1) zL rfl (vv 0) (vv 3))
theorem zDS (zL:jh K zA) (hr:RM 0 "Working.__init__" zW A s f cdv):WS (cX P w K mg base j9 "Working.__init__" zW f cdv A outer s H E) (Θ1 zA) (bd zW 2) M.Zk:=by
 unfold M.Zk
 exact (JA (i:=2) zL rfl (vv 0) zIi)
theorem zDr (zL:jh K zA) (hr:RM 0 "Working.__init__" zW A s f cdv):WS (cX P w K mg base j9 "Working.__init__" zW f cdv A outer s H E) (Θ1 zA) (bd zW 3) M.Zo:=by
 unfold M.Zo
 exact (JA (i:=3) zL rfl (vv 0) zF)
theorem zDT (zL:jh K zA) (hr:RM 0 "Working.__init__" zW A s f cdv):WS (cX P w K mg base j9 "Working.__init__" zW f cdv A outer s H E) (Θ1 zA) (bd zW 4) M.Zi:=by
 unfold M.Zi
 exact (JA (i:=4) zL rfl (vv 0) (jm zE))
theorem zDa (zL:jh K zA) (hr:RM 0 "Working.__init__" zW A s f cdv):WS (cX P w K mg base j9 "Working.__init__" zW f cdv A outer s H E) (Θ1 zA) (bd zW 5) M.Zl:=by
 unfold M.Zl
 exact (JA (i:=5) zL rfl (vv 0) (jm (zB (zu (zB zz (zB (vv 1) (zB zKL zE)))) zE)))
theorem zDi (zL:jh K zA) (hr:RM 0 "Working.__init__" zW A s f cdv):WS (cX P w K mg base j9 "Working.__init__" zW f cdv A outer s H E) (Θ1 zA) (bd zW 6) M.Zn:=by
 unfold M.Zn
 exact (JA (i:=6) zL rfl (vv 0) zKL)
theorem zEd (F:Fun K "__init__" "Working.__init__" zW f fd) (zL:jh K zA) :
  jX P w K mg base CX0 1 f fd ["self","tree","stem","answers"] (SpM K (Θ1 zA) 4 M.ZE):=by
 refine yi (N:=j9) (b:=M.QL) F zEa fun cdv A outer s H E hr=>?_
 unfold M.QL
 exact (zJ (zDo zL hr) (zJ (zDW zL hr) (zJ (zDS zL hr) (zJ (zDr zL hr) (zJ (zDT zL hr) (zJ (zDa zL hr) (zG (zDi zL hr))))))))
noncomputable abbrev Z2:Stmt:=JQ (top 17) 2
noncomputable abbrev zDj:List Str:=["self","words"]
theorem zHe:jE zDj ["self","words"] (zM Z2):=⟨rfl,rfl,rfl,by decide +kernel,rfl,by decide +kernel,by decide +kernel⟩
theorem zHU (F:Fun K "fail" "Working.fail" Z2 f fd) (zL:jh K zA) :
  jX P w K mg base CX0 1 f fd ["self","words"] (SpM K (Θ1 zA) 2 M.y4):=by
 refine yi (N:=zDj) (b:=M.J9) F zHe fun cdv A outer s H E hr=>?_
 unfold M.J9
 exact (zG (JA (i:=6) zL rfl (vv 0) (zu (zB zz (zB (vv 1) zE)))))
noncomputable abbrev yo:Stmt:=JQ (top 17) 3
noncomputable abbrev zBq:List Str:=["self","text"]
theorem zEl:jE zBq ["self","text"] (zM yo):=⟨rfl,rfl,rfl,by decide +kernel,rfl,by decide +kernel,by decide +kernel⟩
theorem zFF (F:Fun K "come_to" "Working.come_to" yo f fd) (zL:jh K zA) (qT:Jy P w K mg base zA) (jt:mg "len" = none) (zCm:zBQ mg "MOST_SIGNS" (.int 900)) :
  jX P w K mg base CX0 2 f fd ["self","text"] (SpM K (Θ1 zA) 2 M.yl):=by
 refine yi (N:=zBq) (b:=M.Qb) F zEl fun cdv A outer s H E hr=>?_
 unfold M.Qb
 exact (zG (zc (zY zMT zJj (ja yw JL gk jt JJ (zB (vv 1) zE)) (zD4 zCm gk (fun _ _=>rfl)) (jM _))
  (zG (jc (qE zL qT hr (by decide) (by decide +kernel) (vv 0) (zB zz zE) (zQ zo))))
  (zG (jc (ZD PySem.F.plainAttrs_list PySem.F.slot_list_append PySem.F.type_list_append Jd Jl rfl (qK (i:=4) zL rfl (vv 0)) (zB (vv 1) zE))))))
noncomputable abbrev zi:Stmt:=JQ (top 17) 6
noncomputable abbrev yA:List Str:=["self","part","it"]
theorem zEA:jE yA ["self","part","it"] (zM zi):=⟨rfl,rfl,rfl,by decide +kernel,rfl,by decide +kernel,by decide +kernel⟩
theorem zDE (hr:RM 0 "Working.bare_text" zi A s f cdv):WS (cX P w K mg base yA "Working.bare_text" zi f cdv A outer s H E) (Θ1 zA) (bd zi 0) M.qg:=by
 unfold M.qg
 exact (zc (zY (jz hr) qR (zU (jC hr) zZ (vv 1) zF) zz (jM _))
  (zG (zX (zU (jC hr) zZ (vv 1) zF)))
  z9)
theorem zDG (hr:RM 0 "Working.bare_text" zi A s f cdv):WS (cX P w K mg base yA "Working.bare_text" zi f cdv A outer s H E) (Θ1 zA) (bd zi 1) M.yM:=by
 unfold M.yM
 exact (zc (zY (jz hr) qR (zU (jC hr) zZ (vv 1) zF) zz (jM _))
  (zG (zX zz))
  z9)
theorem zDI (hr:RM 0 "Working.bare_text" zi A s f cdv):WS (cX P w K mg base yA "Working.bare_text" zi f cdv A outer s H E) (Θ1 zA) (bd zi 2) M.ZQ:=by
 unfold M.ZQ
 exact (zc (zY (jz hr) qR (zU (jC hr) zZ (vv 1) zF) zz (jM _))
  (zG (zX (vv 2)))
  z9)
theorem zDK (zL:jh K zA) (hr:RM 0 "Working.bare_text" zi A s f cdv):WS (cX P w K mg base yA "Working.bare_text" zi f cdv A outer s H E) (Θ1 zA) (bd zi 3) M.ZT:=by
 unfold M.ZT
 exact (zX (qK (i:=0) zL rfl (vv 0)))
theorem zD7 (F:Fun K "bare_text" "Working.bare_text" zi f fd) (zL:jh K zA) :
  jX P w K mg base CX0 1 f fd ["self","part","it"] (SpM K (Θ1 zA) 3 M.yD):=by
 refine yi (N:=yA) (b:=M.yB) F zEA fun cdv A outer s H E hr=>?_
 unfold M.yB
 exact (zJ (zDE hr) (zJ (zDG hr) (zJ (zDI hr) (zG (zDK zL hr)))))
noncomputable abbrev qI:Stmt:=JQ (top 17) 4
noncomputable abbrev Jm:List Str:=["self","name"]
theorem zBv:jE Jm ["self","name"] (zM qI):=⟨rfl,rfl,rfl,by decide +kernel,rfl,by decide +kernel,by decide +kernel⟩
theorem zBs (F:Fun K "come_to_answer" "Working.come_to_answer" qI f fd) (zL:jh K zA) (qG:Qc P w K mg base zA) :
  jX P w K mg base CX0 3 f fd ["self","name"] (SpM K (Θ1 zA) 2 M.jv):=by
 refine yi (N:=Jm) (b:=M.ql) F zBv fun cdv A outer s H E hr=>?_
 unfold M.ql
 exact (zG (zc (zY (zBc hr) zC6 (vv 1) (qK (i:=1) zL rfl (vv 0)) (by rfl))
  (zJ (zEB hr (qK (i:=2) zL rfl (vv 0)) (vv 1) Ql)
  (zG (jc (qE zL qG hr (by decide) (by decide +kernel) (vv 0) (zB (zU (jC hr) zZ (qK (i:=1) zL rfl (vv 0)) (vv 1)) zE) (zQ zo)))))
  (zG (JA (i:=6) zL rfl (vv 0) (zu (zB zz (zB (vv 1) zE)))))))
noncomputable abbrev yC:Stmt:=JQ (top 17) 8
noncomputable abbrev zA2:List Str:=["self","parts","it","part"]
theorem zAp:jE zA2 ["self","parts","it"] (zM yC):=⟨rfl,rfl,rfl,by decide +kernel,rfl,by decide +kernel,by decide +kernel⟩
theorem zDx (F:Fun K "put_parts" "Working.put_parts" yC f fd) (zL:jh K zA) (zEI:mg "reversed" = none) :
  jX P w K mg base CX0 1 f fd ["self","parts","it"] (SpM K (Θ1 zA) 3 M.qW):=by
 refine yi (N:=zA2) (b:=M.QC) F zAp fun cdv A outer s H E hr=>?_
 unfold M.QC
 exact (zG (zCW PassesOwn.never rfl (zJg gk zEI (vv 1)) (yO (i:=3) zAp.nd rfl (Or.inl (by kernel_rfl)) (.inl rfl))
  (zG (jc (ZD PySem.F.plainAttrs_list PySem.F.slot_list_append PySem.F.type_list_append Jd Jl rfl (qK (i:=5) zL rfl (vv 0)) (zB (zu (zB zz (zB (vv 3) (zB (vv 2) zE)))) zE))))))
noncomputable abbrev qh:Stmt:=JQ (top 17) 7
noncomputable abbrev zAc:List Str:=["self","part","it","kind"]
theorem zAI:jE zAc ["self","part","it"] (zM qh):=⟨rfl,rfl,rfl,by decide +kernel,rfl,by decide +kernel,by decide +kernel⟩
theorem zDM (F:Fun K "begin_inner" "Working.begin_inner" qh f fd) (zL:jh K zA) (yE:zA0 P w K mg base zA) (jt:mg "len" = none) :
  jX P w K mg base CX0 2 f fd ["self","part","it"] (SpM K (Θ1 zA) 3 M.ZN):=by
 refine yi (N:=zAc) (b:=M.ZM) F zAI fun cdv A outer s H E hr=>?_
 unfold M.ZM
 exact (zJ (zg (i:=3) zAI.nd rfl (Or.inl (by kernel_rfl)) (zU (jC hr) zZ (vv 1) zF))
  (zG (zc (zY (jz hr) qR (vv 3) zz (jM _))
  (zJ (jc (ZD PySem.F.plainAttrs_list PySem.F.slot_list_append PySem.F.type_list_append Jd Jl rfl (qK (i:=5) zL rfl (vv 0)) (zB (zu (zB zz (zB (zO zPp zNe (ja yw JL gk jt JJ (zB (vv 1) zE)) zF) zE))) zE)))
  (zG (jc (qE zL yE hr (by decide) (by decide +kernel) (vv 0) (zB (y8 zAT JF (vv 1) (j5 zF) ZC) (zB (vv 2) zE)) (zQ (zQ zo))))))
  (zG (zc (zY (jz hr) qR (vv 3) zz (jM _))
  (zJ (jc (ZD PySem.F.plainAttrs_list PySem.F.slot_list_append PySem.F.type_list_append Jd Jl rfl (qK (i:=5) zL rfl (vv 0)) (zB (zu (zB zz (zB (vv 1) (zB (vv 2) zE)))) zE)))
  (zG (jc (qE zL yE hr (by decide) (by decide +kernel) (vv 0) (zB (y8 zAT JF (vv 1) (j5 zF) (j5 zF)) (zB (vv 2) zE)) (zQ (zQ zo))))))
  (zG (zc (zY (jz hr) qR (vv 3) zz (jM _))
  (zJ (jc (ZD PySem.F.plainAttrs_list PySem.F.slot_list_append PySem.F.type_list_append Jd Jl rfl (qK (i:=5) zL rfl (vv 0)) (zB (zu (zB zz (zB (zU (jC hr) zZ (vv 1) zF) zE))) zE)))
  (zG (jc (qE zL yE hr (by decide) (by decide +kernel) (vv 0) (zB (y8 zAT JF (vv 1) (j5 zF) (j5 zF)) (zB (vv 2) zE)) (zQ (zQ zo))))))
  (zJ (jc (ZD PySem.F.plainAttrs_list PySem.F.slot_list_append PySem.F.type_list_append Jd Jl rfl (qK (i:=5) zL rfl (vv 0)) (zB (zu (zB (vv 3) zE)) zE)))
  (zG (jc (qE zL yE hr (by decide) (by decide +kernel) (vv 0) (zB (y8 zAT JF (vv 1) (j5 zF) ZC) (zB (vv 2) zE)) (zQ (zQ zo)))))))))))))
noncomputable abbrev ZJ:Stmt:=JQ (top 17) 5
noncomputable abbrev zC0:List Str:=["self","part","it"]
theorem zGF:jE zC0 ["self","part","it"] (zM ZJ):=⟨rfl,rfl,rfl,by decide +kernel,rfl,by decide +kernel,by decide +kernel⟩
theorem zGS (F:Fun K "begin" "Working.begin" ZJ f fd) (zL:jh K zA) (qT:Jy P w K mg base zA) (qG:Qc P w K mg base zA) (JY:zA1 P w K mg base zA) (jy:Z4 P w K mg base zA) (Q3:zAZ P w K mg base zA) (zCn:zBQ mg "MOST_STEPS" (.int 500)) :
  jX P w K mg base CX0 4 f fd ["self","part","it"] (SpM K (Θ1 zA) 3 M.yY):=by
 refine yi (N:=zC0) (b:=M.ZK) F zGF fun cdv A outer s H E hr=>?_
 unfold M.ZK
 exact (zJ (zLK (i:=3) zL rfl (vv 0) zF zRD zOh)
  (zG (zc (zY zMT zJj (qK (i:=3) zL rfl (vv 0)) (zD4 zCn gk (fun _ _=>rfl)) (jM _))
  (zG (jc (qE zL qT hr (by decide) (by decide +kernel) (vv 0) (zB zz zE) (zQ zo))))
  (zG (zc (zY (zBc hr) zC6 (zU (jC hr) zZ (vv 1) zF) (zu (zB zz (zB zz (zB zz (zB zz zE))))) (by rfl))
  (zG (jc (qE zL qG hr (by decide) (by decide +kernel) (vv 0) (zB (qE zL JY hr (by decide) (by decide +kernel) (vv 0) (zB (vv 1) (zB (vv 2) zE)) (zQ (zQ zo))) zE) (zQ zo))))
  (zG (zc (zY (jz hr) qR (zU (jC hr) zZ (vv 1) zF) zz (jM _))
  (zG (jc (qE zL jy hr (by decide) (by decide +kernel) (vv 0) (zB (zU (jC hr) zZ (vv 1) zF) zE) (zQ zo))))
  (zG (zc (zY (jz hr) qR (zU (jC hr) zZ (vv 1) zF) zz (jM _))
  (zG (jc (qE zL jy hr (by decide) (by decide +kernel) (vv 0) (zB (zO (OpR.or jf jI) jS (zO (OpR.or jf jI) jS (zU (jC hr) zZ (vv 1) zF) zz) (qK (i:=0) zL rfl (vv 0))) zE) (zQ zo))))
  (zG (jc (qE zL Q3 hr (by decide) (by decide +kernel) (vv 0) (zB (vv 1) (zB (vv 2) zE)) (zQ (zQ zo))))))))))))))
noncomputable abbrev JP:Stmt:=top 4
noncomputable abbrev zLD:List Str:=["sign"]
theorem zK5:jE zLD ["sign"] (zM JP):=⟨rfl,rfl,rfl,by decide +kernel,rfl,by decide +kernel,by decide +kernel⟩
theorem zKH (F:Fun K "is_letter" "is_letter" JP f fd) :
  jX P w K mg base CX0 1 f fd ["sign"] (SpM K (Θ1 zA) 1 M.JS):=by
 refine qN (b:=M.zBU) F zK5 M.zKB fun cdv A outer s H E hr=>?_
 unfold M.zBU
 exact (zG (zX (zL5 zGA zGA zD8 zD8 zz (vv 0) zz)))
noncomputable abbrev J7:Stmt:=top 5
noncomputable abbrev zMu:List Str:=["thing"]
theorem zLO:jE zMu ["thing"] (zM J7):=⟨rfl,rfl,rfl,by decide +kernel,rfl,by decide +kernel,by decide +kernel⟩
theorem zJV:(["thing","sign"]:List Str).Nodup:=by decide +kernel
theorem zLB (F:Fun K "is_plain" "is_plain" J7 f fd) (zDR:zF5 P w K mg base zA) (zB5:mg "all" = none) (jb:mg "isinstance" = none) (QD:mg "str" = none) (jt:mg "len" = none) {Z8:Addr} (zCo:zBQ mg "KEPT_WORDS" (.ref Z8)) (zCp:∀ H,SqT K H Z8 [(.str "of"),(.str "if"),(.str "is"),(.str "then"),(.str "else"),(.str "each"),(.str "do"),(.str "it"),(.str "back"),(.str "first"),(.str "rest"),(.str "count"),(.str "sorted"),(.str "fail"),(.str "line"),(.str "more")]) (zBR:zBQ mg "MOST_LETTERS" (.int 8)) :
  jX P w K mg base CX0 2 f fd ["thing"] (SpM K (Θ1 zA) 1 M.qY):=by
 refine qN (b:=M.qX) F zLO M.zLJ fun cdv A outer s H E hr=>?_
 unfold M.qX
 exact (zJ (zc (Z7 (JV (QW (ZV (ja Jk zBe gk jb yu (zB (vv 0) (zB (zAY .str gk QD zDc) zE))))) (Zs (QW (zHr zGA zGA zD8 zD8 zF (ja yw JL gk jt JJ (zB (vv 0) zE)) (zD4 zBR gk (fun _ _=>rfl)))))))
  (zG (zX Ql))
  z9)
  (zG (zX (zGZ (zDy (zGp rfl) zIV gk zB5 zKZ (vars:=["sign"]) rfl ⟨rfl,rfl,(by kernel_rfl),(by kernel_rfl),(by decide +kernel),trivial,(by kernel_rfl)⟩ (zDk (vv 0)) (fun _ _ _ _=>(yO (i:=1) zJV rfl (Or.inl (by kernel_rfl)) (.inr (by kernel_rfl)))) (fun _ _ _ _=>zCf) (fun _ _ _ _=>(zm zDR hr (by decide) gk (zB (vv 1) zE) (zQ zo))) (by kernel_rfl)) (zGj (zGB (zIm hr) zJ0 (vv 0) (zMn zCo gk fun ρ H=>⟨_,_,rfl,zCp H,⟨_,_,rfl,⟨by decide +kernel,by decide +kernel⟩,⟨_,_,rfl,⟨by decide +kernel,by decide +kernel⟩,⟨_,_,rfl,⟨by decide +kernel,by decide +kernel⟩,⟨_,_,rfl,⟨by decide +kernel,by decide +kernel⟩,⟨_,_,rfl,⟨by decide +kernel,by decide +kernel⟩,⟨_,_,rfl,⟨by decide +kernel,by decide +kernel⟩,⟨_,_,rfl,⟨by decide +kernel,by decide +kernel⟩,⟨_,_,rfl,⟨by decide +kernel,by decide +kernel⟩,⟨_,_,rfl,⟨by decide +kernel,by decide +kernel⟩,⟨_,_,rfl,⟨by decide +kernel,by decide +kernel⟩,⟨_,_,rfl,⟨by decide +kernel,by decide +kernel⟩,⟨_,_,rfl,⟨by decide +kernel,by decide +kernel⟩,⟨_,_,rfl,⟨by decide +kernel,by decide +kernel⟩,⟨_,_,rfl,⟨by decide +kernel,by decide +kernel⟩,⟨_,_,rfl,⟨by decide +kernel,by decide +kernel⟩,⟨_,_,rfl,⟨by decide +kernel,by decide +kernel⟩,rfl⟩⟩⟩⟩⟩⟩⟩⟩⟩⟩⟩⟩⟩⟩⟩⟩⟩) (by rfl)))))))
noncomputable abbrev zAb:Stmt:=top 6
noncomputable abbrev zN6:List Str:=["thing","parts"]
theorem zGx:jE zN6 ["thing"] (zM zAb):=⟨rfl,rfl,rfl,by decide +kernel,rfl,by decide +kernel,by decide +kernel⟩
theorem zKo:(["thing","parts","part"]:List Str).Nodup:=by decide +kernel
theorem zMw (F:Fun K "is_name" "is_name" zAb f fd) (zEJ:zHG P w K mg base zA) (jb:mg "isinstance" = none) (QD:mg "str" = none) (zB5:mg "all" = none) (jt:mg "len" = none) :
  jX P w K mg base CX0 3 f fd ["thing"] (SpM K (Θ1 zA) 1 M.yP):=by
 refine qN (b:=M.yv) F zGx M.zMU fun cdv A outer s H E hr=>?_
 unfold M.yv
 exact (zJ (zc (QW (ZV (ja Jk zBe gk jb yu (zB (vv 0) (zB (zAY .str gk QD zDc) zE)))))
  (zG (zX Ql))
  z9)
  (zJ (zg (i:=1) zGx.nd rfl (Or.inl (by kernel_rfl)) (ZD PySem.F.plainAttrs_str PySem.F.slot_str_split PySem.F.type_str_split zGT zGU rfl (vv 0) (zB zz zE)))
  (zG (zX (zGZ (zGB zGA zD8 (ja yw JL gk jt JJ (zB (vv 1) zE)) zF (jM _)) (zGj (zDy (zGp rfl) zIV gk zB5 zKZ (vars:=["part"]) rfl ⟨rfl,rfl,(by kernel_rfl),(by kernel_rfl),(by decide +kernel),trivial,(by kernel_rfl)⟩ (zDk (vv 1)) (fun _ _ _ _=>(yO (i:=2) zKo rfl (Or.inl (by kernel_rfl)) (.inr (by kernel_rfl)))) (fun _ _ _ _=>zCf) (fun _ _ _ _=>(zm zEJ hr (by decide) gk (zB (vv 2) zE) (zQ zo))) (by kernel_rfl))))))))
noncomputable abbrev J0:Stmt:=top 7
noncomputable abbrev zMc:List Str:=["text"]
theorem zLC:jE zMc ["text"] (zM J0):=⟨rfl,rfl,rfl,by decide +kernel,rfl,by decide +kernel,by decide +kernel⟩
theorem zJf:(["text","word"]:List Str).Nodup:=by decide +kernel
theorem zLN (F:Fun K "words_of" "words_of" J0 f fd) :
  jX P w K mg base CX0 1 f fd ["text"] (SpM K (Θ1 zA) 1 M.yf):=by
 refine qN (b:=M.zBt) F zLC M.zLH fun cdv A outer s H E hr=>?_
 unfold M.zBt
 exact (zG (zX (zFM (vars:=["word"]) rfl ⟨rfl,rfl,(by kernel_rfl),(by kernel_rfl),(by decide +kernel),trivial,(by kernel_rfl)⟩ (zDk (ZD PySem.F.plainAttrs_str PySem.F.slot_str_split PySem.F.type_str_split zGT zGU rfl (zJG (vv 0) (by decide +kernel) (by decide +kernel) rfl (by decide +kernel)) (zB zz zE))) (fun _ _ _ _=>(yO (i:=1) zJf rfl (Or.inl (by kernel_rfl)) (.inr (by kernel_rfl)))) (fun _ _ _ _=>(zJz (zY (zAG hr) zBa (vv 1) zz (jM _)))) (fun _ _ _ _=>(vv 1)) (by kernel_rfl))))
noncomputable abbrev Zy:Stmt:=top 13
noncomputable abbrev zIL:List Str:=["text"]
theorem zG8:jE zIL ["text"] (zM Zy):=⟨rfl,rfl,rfl,by decide +kernel,rfl,by decide +kernel,by decide +kernel⟩
theorem zHg (F:Fun K "sorted_words" "sorted_words" Zy f fd) (yK:zAr P w K mg base zA) (Jq:mg "sorted" = none) :
  jX P w K mg base CX0 2 f fd ["text"] (SpM K (Θ1 zA) 1 M.Qg):=by
 refine qN (b:=M.J5) F zG8 M.zG9 fun cdv A outer s H E hr=>?_
 unfold M.J5
 exact (zG (zX (ZD PySem.F.plainAttrs_str PySem.F.slot_str_join PySem.F.type_str_join zBF zCB rfl zz (zB (ja (zE2 hr) zJB gk Jq zJD (zB (zm yK hr (by decide) gk (zB (vv 0) zE) (zQ zo)) zE)) zE))))
noncomputable abbrev Zv:Stmt:=top 9
noncomputable abbrev zIP:List Str:=["text"]
theorem zHA:jE zIP ["text"] (zM Zv):=⟨rfl,rfl,rfl,by decide +kernel,rfl,by decide +kernel,by decide +kernel⟩
theorem zHQ (F:Fun K "turned_about" "turned_about" Zv f fd) :
  jX P w K mg base CX0 1 f fd ["text"] (SpM K (Θ1 zA) 1 M.Qn):=by
 refine qN (b:=M.zAA) F zHA M.zHm fun cdv A outer s H E hr=>?_
 unfold M.zAA
 exact (zG (zX (zKn (vv 0))))
noncomputable abbrev Qx:Stmt:=top 10
noncomputable abbrev zKQ:List Str:=["text"]
theorem zJb:jE zKQ ["text"] (zM Qx):=⟨rfl,rfl,rfl,by decide +kernel,rfl,by decide +kernel,by decide +kernel⟩
theorem zJa (F:Fun K "first_word" "first_word" Qx f fd) (yK:zAr P w K mg base zA) :
  jX P w K mg base CX0 2 f fd ["text"] (SpM K (Θ1 zA) 1 M.Ja):=by
 refine qN (b:=M.zAe) F zJb M.zJR fun cdv A outer s H E hr=>?_
 unfold M.zAe
 exact (zG (zX (ZD PySem.F.plainAttrs_str PySem.F.slot_str_join PySem.F.type_str_join zBF zCB rfl zz (zB (y8 zAT JF (zm yK hr (by decide) gk (zB (vv 0) zE) (zQ zo)) ZC (j5 zF)) zE))))
noncomputable abbrev Qr:Stmt:=top 11
noncomputable abbrev zJ7:List Str:=["text"]
theorem zJd:jE zJ7 ["text"] (zM Qr):=⟨rfl,rfl,rfl,by decide +kernel,rfl,by decide +kernel,by decide +kernel⟩
theorem zJW (F:Fun K "rest_words" "rest_words" Qr f fd) (yK:zAr P w K mg base zA) :
  jX P w K mg base CX0 2 f fd ["text"] (SpM K (Θ1 zA) 1 M.Jb):=by
 refine qN (b:=M.zAk) F zJd M.zJY fun cdv A outer s H E hr=>?_
 unfold M.zAk
 exact (zG (zX (ZD PySem.F.plainAttrs_str PySem.F.slot_str_join PySem.F.type_str_join zBF zCB rfl zz (zB (y8 zAT JF (zm yK hr (by decide) gk (zB (vv 0) zE) (zQ zo)) (j5 zF) ZC) zE))))
noncomputable abbrev zAW:Stmt:=top 12
noncomputable abbrev zOG:List Str:=["text"]
theorem zME:jE zOG ["text"] (zM zAW):=⟨rfl,rfl,rfl,by decide +kernel,rfl,by decide +kernel,by decide +kernel⟩
theorem zMs (F:Fun K "counted" "counted" zAW f fd) (yK:zAr P w K mg base zA) (QD:mg "str" = none) (jt:mg "len" = none) :
  jX P w K mg base CX0 2 f fd ["text"] (SpM K (Θ1 zA) 1 M.zBj):=by
 refine qN (b:=M.zC1) F zME M.zL8 fun cdv A outer s H E hr=>?_
 unfold M.zC1
 exact (zG (zX (JT zJE zNb gk QD zDc (zB (ja yw JL gk jt JJ (zB (zm yK hr (by decide) gk (zB (vv 0) zE) (zQ zo)) zE)) zE))))
noncomputable abbrev jo:Stmt:=top 16
noncomputable abbrev zAV:List Str:=["kind","text"]
theorem zMN:jE zAV ["kind","text"] (zM jo):=⟨rfl,rfl,rfl,by decide +kernel,rfl,by decide +kernel,by decide +kernel⟩
theorem zK8 (Q4:zBL P w K mg base zA) (hr:RM 2 "made_of" jo A s f cdv):WS (cX P w K mg base zAV "made_of" jo f cdv A outer s H E) (Θ1 zA) (bd jo 0) M.Zr:=by
 unfold M.Zr
 exact (zc (zY (jz hr) qR (vv 0) zz (jM _))
  (zG (zX (zm Q4 hr (by decide) gk (zB (vv 1) zE) (zQ zo))))
  z9)
theorem zK1 (Jr:zCT P w K mg base zA) (hr:RM 2 "made_of" jo A s f cdv):WS (cX P w K mg base zAV "made_of" jo f cdv A outer s H E) (Θ1 zA) (bd jo 1) M.QX:=by
 unfold M.QX
 exact (zc (zY (jz hr) qR (vv 0) zz (jM _))
  (zG (zX (zm Jr hr (by decide) gk (zB (vv 1) zE) (zQ zo))))
  z9)
theorem zJy (Js:zCg P w K mg base zA) (hr:RM 2 "made_of" jo A s f cdv):WS (cX P w K mg base zAV "made_of" jo f cdv A outer s H E) (Θ1 zA) (bd jo 2) M.JO:=by
 unfold M.JO
 exact (zc (zY (jz hr) qR (vv 0) zz (jM _))
  (zG (zX (zm Js hr (by decide) gk (zB (vv 1) zE) (zQ zo))))
  z9)
theorem zKz (zBm:zEj P w K mg base zA) (hr:RM 2 "made_of" jo A s f cdv):WS (cX P w K mg base zAV "made_of" jo f cdv A outer s H E) (Θ1 zA) (bd jo 3) M.zAH:=by
 unfold M.zAH
 exact (zc (zY (jz hr) qR (vv 0) zz (jM _))
  (zG (zX (zm zBm hr (by decide) gk (zB (vv 1) zE) (zQ zo))))
  z9)
theorem zJr (Q5:zBP P w K mg base zA) (hr:RM 2 "made_of" jo A s f cdv):WS (cX P w K mg base zAV "made_of" jo f cdv A outer s H E) (Θ1 zA) (bd jo 4) M.zBV:=by
 unfold M.zBV
 exact (zX (zm Q5 hr (by decide) gk (zB (vv 1) zE) (zQ zo)))
theorem zML (F:Fun K "made_of" "made_of" jo f fd) (Q5:zBP P w K mg base zA) (Q4:zBL P w K mg base zA) (Jr:zCT P w K mg base zA) (Js:zCg P w K mg base zA) (zBm:zEj P w K mg base zA) :
  jX P w K mg base CX0 3 f fd ["kind","text"] (SpM K (Θ1 zA) 2 M.zBf):=by
 refine qN (b:=M.Q8) F zMN M.zL3 fun cdv A outer s H E hr=>?_
 unfold M.Q8
 exact (zJ (zK8 Q4 hr) (zJ (zK1 Jr hr) (zJ (zJy Js hr) (zJ (zKz zBm hr) (zG (zJr Q5 hr))))))
noncomputable abbrev qv:Stmt:=JQ (top 17) 14
noncomputable abbrev zAu:List Str:=["self","kind","text"]
theorem zAd:jE zAu ["self","kind"] (zM qv):=⟨rfl,rfl,rfl,by decide +kernel,rfl,by decide +kernel,by decide +kernel⟩
theorem zDf (F:Fun K "end_single" "Working.end_single" qv f fd) (zL:jh K zA) (qT:Jy P w K mg base zA) (qG:Qc P w K mg base zA) (zFV:zI3 P w K mg base zA) (zFW:zIz P w K mg base zA) (jy:Z4 P w K mg base zA) :
  jX P w K mg base CX0 4 f fd ["self","kind"] (SpM K (Θ1 zA) 2 M.jn):=by
 refine yi (N:=zAu) (b:=M.jk) F zAd fun cdv A outer s H E hr=>?_
 unfold M.jk
 exact (zJ (zg (i:=2) zAd.nd rfl (Or.inl (by kernel_rfl)) (zIU PySem.F.plainAttrs_list PySem.F.slot_list_pop PySem.F.type_list_pop zKq zK3 rfl (qK (i:=4) zL rfl (vv 0))))
  (zG (zc (zY (jz hr) qR (vv 1) zz (jM _))
  (zG (jc (qE zL qT hr (by decide) (by decide +kernel) (vv 0) (zB (vv 2) zE) (zQ zo))))
  (zG (zc (zY (zAG hr) zBa (vv 1) zz (jM _))
  (zG (jc (qE zL qG hr (by decide) (by decide +kernel) (vv 0) (zB (zm zFW hr (by decide) gk (zB (vv 1) (zB (vv 2) zE)) (zQ (zQ zo))) zE) (zQ zo))))
  (zG (zc (ZV (zm zFV hr (by decide) gk (zB (vv 2) zE) (zQ zo)))
  (zG (jc (qE zL jy hr (by decide) (by decide +kernel) (vv 0) (zB (vv 2) zE) (zQ zo))))
  (zG (jc (qE zL qT hr (by decide) (by decide +kernel) (vv 0) (zB zz zE) (zQ zo)))))))))))
noncomputable abbrev QF:Stmt:=JQ (top 17) 1
noncomputable abbrev zER:List Str:=["self","task"]
theorem zDY:jE zER ["self"] (zM QF):=⟨rfl,rfl,rfl,by decide +kernel,rfl,by decide +kernel,by decide +kernel⟩
theorem zH9 (F:Fun K "run" "Working.run" QF f fd) (zL:jh K zA) (zAz:zC2 P w K mg base zA) (JH:zAt P w K mg base zA) (jt:mg "len" = none) :
  jX P w K mg base CX0 5 f fd ["self"] (SpM K (Θ1 zA) 1 M.yt):=by
 refine yi (N:=zER) (b:=M.QJ) F zDY fun cdv A outer s H E hr=>?_
 unfold M.QJ
 exact (zJ (zHO PassesOwn.never (Z7 (zGr (zJs (qK (i:=6) zL rfl (vv 0))) (zCX (zY zMT zJj (ja yw JL gk jt JJ (zB (qK (i:=5) zL rfl (vv 0)) zE)) zF (jM _)))))
  (zJ (zg (i:=1) zDY.nd rfl (Or.inl (by kernel_rfl)) (zIU PySem.F.plainAttrs_list PySem.F.slot_list_pop PySem.F.type_list_pop zKq zK3 rfl (qK (i:=5) zL rfl (vv 0))))
  (zG (zc (zY (jz hr) qR (zU (jC hr) zZ (vv 1) zF) zz (jM _))
  (zG (jc (qE zL zAz hr (by decide) (by decide +kernel) (vv 0) (zB (zU (jC hr) zZ (vv 1) zF) (zB (zU (jC hr) zZ (vv 1) zF) zE)) (zQ (zQ zo)))))
  (zG (zc (zY (jz hr) qR (zU (jC hr) zZ (vv 1) zF) zz (jM _))
  (zG zBb)
  (zG (zc (zY (jz hr) qR (zU (jC hr) zZ (vv 1) zF) zz (jM _))
  (zG zBb)
  (zG (zc (zY (jz hr) qR (zU (jC hr) zZ (vv 1) zF) zz (jM _))
  (zG zBb)
  (zG (zc (zY (jz hr) qR (zU (jC hr) zZ (vv 1) zF) zz (jM _))
  (zG zBb)
  (zG (jc (qE zL JH hr (by decide) (by decide +kernel) (vv 0) (zB (zU (jC hr) zZ (vv 1) zF) zE) (zQ zo))))))))))))))))
  (zJ (zc (zJs (qK (i:=6) zL rfl (vv 0)))
  (zG (zX (zu (zB zz (zB (zU (jC hr) zZ (qK (i:=4) zL rfl (vv 0)) zF) zE)))))
  z9)
  (zG (zX (qK (i:=6) zL rfl (vv 0))))))
noncomputable abbrev zBB:Stmt:=top 18
noncomputable abbrev zJw:List Str:=["tree","stem","answers","working","came"]
theorem zEp:jE zJw ["tree","stem","answers"] (zM zBB):=⟨rfl,rfl,rfl,by decide +kernel,rfl,by decide +kernel,by decide +kernel⟩
theorem zNY (F:Fun K "worked" "worked" zBB f fd) (zL:jh K zA) (Jt:zBl P w K mg base zA) (zBp:zET P w K mg base zA) (Ju:mg "list" = none) :
  jX P w K mg base CX0 6 f fd ["tree","stem","answers"] (SpM K (Θ1 zA) 3 M.Je):=by
 refine yi (N:=zJw) (b:=M.zCh) F zEp fun cdv A outer s H E hr=>?_
 unfold M.zCh
 exact (zJ (zg (i:=3) zEp.nd rfl (Or.inl (by kernel_rfl)) (zNE zL Jt hr (by decide) rfl gk (zB (vv 0) (zB (vv 1) (zB (vv 2) zE))) (zQ (zQ (zQ zo)))))
  (zJ (zg (i:=4) zEp.nd rfl (Or.inl (by kernel_rfl)) (zMv zL zBp hr (by decide) (by decide +kernel) (vv 3)))
  (zG (zX (zu (zB (vv 4) (zB (JT (zMm hr) zQu gk Ju zH3 (zB (qK (i:=2) zL rfl (vv 3)) zE)) zE)))))))
noncomputable abbrev Zz:Stmt:=top 25
noncomputable abbrev zH0:List Str:=["_law_cell","_law_some"]
theorem zAl:jE zH0 ["_law_cell"] (zM Zz):=⟨rfl,rfl,rfl,by decide +kernel,rfl,by decide +kernel,by decide +kernel⟩
theorem zHs (F:Fun K "_law_sign_by" "_law_sign_by" Zz f fd) :
  jX P w K mg base CX0 1 f fd ["_law_cell"] (SpM K (Θ1 zA) 1 M.y7):=by
 refine qN (b:=M.Jz) F zAl M.zHo fun cdv A outer s H E hr=>?_
 unfold M.Jz
 exact (zJ (zg (i:=1) zAl.nd rfl (Or.inl (by kernel_rfl)) zz)
  (zJ (zg (i:=1) zAl.nd rfl (Or.inl (by kernel_rfl)) (zO (OpR.or jf jI) jS (vv 1) zz))
  (zG (zX (zU (jC hr) zZ (vv 1) (zO yU qa (vv 0) zF))))))
noncomputable abbrev Z3:Stmt:=top 26
noncomputable abbrev zIE:List Str:=["_law_cell","_law_size"]
theorem zHS:jE zIE ["_law_cell","_law_size"] (zM Z3):=⟨rfl,rfl,rfl,by decide +kernel,rfl,by decide +kernel,by decide +kernel⟩
theorem zFt:(["_law_cell","_law_size","_law_k"]:List Str).Nodup:=by decide +kernel
theorem zGv (F:Fun K "_law_text_by" "_law_text_by" Z3 f fd) (zBS:zDU P w K mg base zA) (qO:mg "range" = none) :
  jX P w K mg base CX0 2 f fd ["_law_cell","_law_size"] (SpM K (Θ1 zA) 2 M.Zx):=by
 refine qN (b:=M.Jx) F zHS M.zHC fun cdv A outer s H E hr=>?_
 unfold M.Jx
 exact (zG (zX (zG4 (by decide +kernel) (vars:=["_law_k"]) rfl ⟨rfl,rfl,(by kernel_rfl),(by kernel_rfl),(by decide +kernel),⟨(by kernel_rfl),trivial⟩,(by kernel_rfl)⟩ (JR gk qO (vv 1)) (fun _ _ _ _=>(yO (i:=2) zFt rfl (Or.inl (by kernel_rfl)) (.inr (by kernel_rfl)))) (fun _ _ _ _=>zCf) (fun _ _ _ _=>(zm zBS hr (by decide) gk (zB (zO (OpR.or jf jI) jS (zO yU qa (zO zCH zCJ (zO (OpR.or jf jI) jS (vc 0) (zO zCH zCJ (vv 2) zF)) zF) zF) (zO zCH zCJ (zO yU qa (zO Qd Zc (vc 0) zF) zF) (vv 2))) zE) (zQ zo))) (by kernel_rfl) (fun ρ H S ds ys p Q rp r hq h=>zCd (by decide +kernel) ρ H S ds ys p Q rp r (.inl hq) h))))
noncomputable abbrev Q1:Stmt:=top 28
noncomputable abbrev zKV:List Str:=["_law_gave","_law_due","_law_rest","_law_pair"]
theorem zAP:jE zKV ["_law_gave","_law_due"] (zM Q1):=⟨rfl,rfl,rfl,by decide +kernel,rfl,by decide +kernel,by decide +kernel⟩
theorem zJT (F:Fun K "_law_alike" "_law_alike" Q1 f fd) (jb:mg "isinstance" = none) (QD:mg "str" = none) (Q6:mg "tuple" = none) (Ju:mg "list" = none) (jt:mg "len" = none) (zMx:mg "zip" = none) :
  jX P w K mg base CX0 1 f fd ["_law_gave","_law_due"] (SpM K (Θ1 zA) 2 M.jw):=by
 refine qN (b:=M.Jj) F zAP M.zJL fun cdv A outer s H E hr=>?_
 unfold M.Jj
 exact (zJ (zg (i:=2) zAP.nd rfl (Or.inl (by kernel_rfl)) (jm (zB (zu (zB (vv 0) (zB (vv 1) zE))) zE)))
  (zJ (zHO PassesOwn.never (zY (zAG hr) zBa (vv 2) (jm zE) (jM _))
  (zJ (zg (i:=3) zAP.nd rfl (Or.inl (by kernel_rfl)) (zIU PySem.F.plainAttrs_list PySem.F.slot_list_pop PySem.F.type_list_pop zKq zK3 rfl (vv 2)))
  (zG (zc (ZV (ja Jk zBe gk jb yu (zB (zU (jC hr) zZ (vv 3) zF) (zB (zAY .str gk QD zDc) zE))))
  (zG (zc (Z7 (JV (QW (ZV (ja Jk zBe gk jb yu (zB (zU (jC hr) zZ (vv 3) zF) (zB (zAY .str gk QD zDc) zE))))) (Zs (zY (zAG hr) zBa (zU (jC hr) zZ (vv 3) zF) (zU (jC hr) zZ (vv 3) zF) (jM _)))))
  (zG (zX Ql))
  z9))
  (zG (zc (ZV (ja Jk zBe gk jb yu (zB (zU (jC hr) zZ (vv 3) zF) (zB (zAY .tuple gk Q6 zCb) zE))))
  (zJ (zc (Z7 (JV (QW (ZV (ja Jk zBe gk jb yu (zB (zU (jC hr) zZ (vv 3) zF) (zB (zAY .tuple gk Q6 zCb) zE))))) (Zs (zY (zAG hr) zBa (ja yw JL gk jt JJ (zB (zU (jC hr) zZ (vv 3) zF) zE)) (ja yw JL gk jt JJ (zB (zU (jC hr) zZ (vv 3) zF) zE)) (jM _)))))
  (zG (zX Ql))
  z9)
  (zG (zg (i:=2) zAP.nd rfl (Or.inl (by kernel_rfl)) (zO (OpR.or jf jI) jS (vv 2) (zJx hr gk Ju zH3 gk zMx zRq (zB (zU (jC hr) zZ (vv 3) zF) (zB (zU (jC hr) zZ (vv 3) zF) zE)))))))
  (zG (zc (Z7 (JV (zIk (zU (jC hr) zZ (vv 3) zF)) (Zs (zIk (zU (jC hr) zZ (vv 3) zF)))))
  (zG (zX Ql))
  z9))))))))
  (zG (zX Ql))))
noncomputable abbrev zj:Stmt:=top 27
noncomputable abbrev y9:List Str:=["_law_cell","_law_names","_law_first","_law_second","_law_some"]
theorem Ze:jE y9 ["_law_cell","_law_names"] (zM zj):=⟨rfl,rfl,rfl,by decide +kernel,rfl,by decide +kernel,by decide +kernel⟩
theorem zEg (hr:RM 2 "_law_answer_by" zj A s f cdv):WS (cX P w K mg base y9 "_law_answer_by" zj f cdv A outer s H E) (Θ1 zA) (bd zj 0) M.yN:=by
 unfold M.yN
 exact (zg (i:=2) Ze.nd rfl (Or.inl (by kernel_rfl)) (zU (jC hr) zZ (vv 1) (zO yU qa (zO Qd Zc (vv 0) zF) zF)))
theorem zEZ (hr:RM 2 "_law_answer_by" zj A s f cdv):WS (cX P w K mg base y9 "_law_answer_by" zj f cdv A outer s H E) (Θ1 zA) (bd zj 1) M.yL:=by
 unfold M.yL
 exact (zg (i:=3) Ze.nd rfl (Or.inl (by kernel_rfl)) (zU (jC hr) zZ (vv 1) (zO yU qa (zO Qd Zc (vv 0) zF) zF)))
theorem zEe (hr:RM 2 "_law_answer_by" zj A s f cdv):WS (cX P w K mg base y9 "_law_answer_by" zj f cdv A outer s H E) (Θ1 zA) (bd zj 2) M.qq:=by
 unfold M.qq
 exact (zg (i:=4) Ze.nd rfl (Or.inl (by kernel_rfl)) (jm (zB (vv 2) (zB (zO (OpR.or jf jI) jS (zO (OpR.or jf jI) jS (vv 2) zz) (vv 3)) (zB zz (zB (zO (OpR.or jf jI) jS (zO (OpR.or jf jI) jS (zO (OpR.or jf jI) jS (zO (OpR.or jf jI) jS zz (vv 3)) zz) (vv 2)) zz) (zB (zO (OpR.or jf jI) jS (zO (OpR.or jf jI) jS (zO (OpR.or jf jI) jS (zO (OpR.or jf jI) jS (vv 2) zz) (vv 3)) zz) (vv 2)) zE)))))))
theorem zEc (qU:Qf P w K mg base zA) (hr:RM 2 "_law_answer_by" zj A s f cdv):WS (cX P w K mg base y9 "_law_answer_by" zj f cdv A outer s H E) (Θ1 zA) (bd zj 3) M.ZF:=by
 unfold M.ZF
 exact (zg (i:=4) Ze.nd rfl (Or.inl (by kernel_rfl)) (zO (OpR.or jf jI) jS (vv 4) (jm (zB (zm qU hr (by decide) gk (zB (zO Qd Zc (vv 0) zF) (zB (zO yU qa (zO Qd Zc (vv 0) zF) zF) zE)) (zQ (zQ zo))) zE))))
theorem zEb (hr:RM 2 "_law_answer_by" zj A s f cdv):WS (cX P w K mg base y9 "_law_answer_by" zj f cdv A outer s H E) (Θ1 zA) (bd zj 4) M.ZI:=by
 unfold M.ZI
 exact (zX (zU (jC hr) zZ (vv 4) (zO yU qa (vv 0) zF)))
theorem zFq (F:Fun K "_law_answer_by" "_law_answer_by" zj f fd) (qU:Qf P w K mg base zA) :
  jX P w K mg base CX0 3 f fd ["_law_cell","_law_names"] (SpM K (Θ1 zA) 2 M.qr):=by
 refine qN (b:=M.zAS) F Ze M.zFs fun cdv A outer s H E hr=>?_
 unfold M.zAS
 exact (zJ (zEg hr) (zJ (zEZ hr) (zJ (zEe hr) (zJ (zEc qU hr) (zG (zEb hr))))))
noncomputable abbrev jO:Stmt:=top 34
noncomputable abbrev QO:List Str:=["_law_script","_law_names","_law_cell","_law_both","_law_bud","_law_answers","_law_k","_law_told","_law_way","_law_due","_law_tree","_law_word","_law_given","_law_turn","_law_gave"]
theorem yc:jE QO ["_law_script"] (zM jO):=⟨rfl,rfl,rfl,by decide +kernel,rfl,by decide +kernel,by decide +kernel⟩
theorem zOl (QT:zAm P w K mg base zA) (ji:Z0 P w K mg base zA) (hr:RM 6 "law" jO A s f cdv):WS (cX P w K mg base QO "law" jO f cdv A outer s H E) (Θ1 zA) (bd jO 0) M.zB8:=by
 unfold M.zB8
 exact (zg (i:=1) yc.nd rfl (Or.inl (by kernel_rfl)) (zm QT hr (by decide) gk (zB (zm ji hr (by decide) gk (zB (vv 0) (zB zF zE)) (zQ (zQ zo))) zE) (zQ zo)))
theorem zPd (ji:Z0 P w K mg base zA) (hr:RM 6 "law" jO A s f cdv):WS (cX P w K mg base QO "law" jO f cdv A outer s H E) (Θ1 zA) (bd jO 1) M.zB9:=by
 unfold M.zB9
 exact (zg (i:=2) yc.nd rfl (Or.inl (by kernel_rfl)) (zm ji hr (by decide) gk (zB (vv 0) (zB zF zE)) (zQ (zQ zo))))
theorem zPM (hr:RM 6 "law" jO A s f cdv):WS (cX P w K mg base QO "law" jO f cdv A outer s H E) (Θ1 zA) (bd jO 2) M.zCA:=by
 unfold M.zCA
 exact (zg (i:=3) yc.nd rfl (Or.inl (by kernel_rfl)) (zO (OpR.or jf jI) jS (zO (OpR.or jf jI) jS (zU (jC hr) zZ (vv 1) zF) zz) (zU (jC hr) zZ (vv 1) zF)))
theorem zPE (qU:Qf P w K mg base zA) (hr:RM 6 "law" jO A s f cdv):WS (cX P w K mg base QO "law" jO f cdv A outer s H E) (Θ1 zA) (bd jO 3) M.Jv:=by
 unfold M.Jv
 exact (zg (i:=4) yc.nd rfl (Or.inl (by kernel_rfl)) (zU (jC hr) zZ (jm (zB (zu (zB zz (zB (zm qU hr (by decide) gk (zB (zO Qd Zc (vv 2) zF) (zB (zO yU qa (zO Qd Zc (vv 2) zF) zF) zE)) (zQ (zQ zo))) zE))) (zB (zu (zB zz zE)) (zB (zu (zB zz zE)) (zB (zu (zB zz (zB (zU (jC hr) zZ (vv 1) zF) zE))) zE))))) (zO yU qa (vv 2) zF)))
theorem zO7 (hr:RM 6 "law" jO A s f cdv):WS (cX P w K mg base QO "law" jO f cdv A outer s H E) (Θ1 zA) (bd jO 4) M.Qo:=by
 unfold M.Qo
 exact (zc (zY (jz hr) qR (zO yU qa (zO Qd Zc (vv 2) zF) zF) zF (jM _))
  (zG (zg (i:=4) yc.nd rfl (Or.inl (by kernel_rfl)) (zu (zB zz (zB (zU (jC hr) zZ (jm (zB (zU (jC hr) zZ (vv 1) zF) (zB (vv 3) zE))) (zO yU qa (vv 2) zF)) zE)))))
  z9)
theorem zPX (hr:RM 6 "law" jO A s f cdv):WS (cX P w K mg base QO "law" jO f cdv A outer s H E) (Θ1 zA) (bd jO 5) M.Qz:=by
 unfold M.Qz
 exact (zc (zY (jz hr) qR (zO yU qa (zO Qd Zc (vv 2) zF) zF) zF (jM _))
  (zG (zg (i:=4) yc.nd rfl (Or.inl (by kernel_rfl)) (zu (zB zz (zB (zU (jC hr) zZ (jm (zB (zU (jC hr) zZ (vv 1) zF) (zB (zO (OpR.or jf jI) jS (zO (OpR.or jf jI) jS (zU (jC hr) zZ (vv 1) zF) zz) (zU (jC hr) zZ (vv 1) zF)) (zB (vv 3) (zB zz (zB (zO (OpR.or jf jI) jS (zU (jC hr) zZ (vv 1) zF) zz) zE)))))) (zO yU qa (zO Qd Zc (vv 2) zF) zF)) zE)))))
  z9)
theorem zPJ (hr:RM 6 "law" jO A s f cdv):WS (cX P w K mg base QO "law" jO f cdv A outer s H E) (Θ1 zA) (bd jO 6) M.zAa:=by
 unfold M.zAa
 exact (zg (i:=5) yc.nd rfl (Or.inl (by kernel_rfl)) zIi)
theorem zO1 (ji:Z0 P w K mg base zA) (Z9:zAU P w K mg base zA) (qO:mg "range" = none) (hr:RM 6 "law" jO A s f cdv):WS (cX P w K mg base QO "law" jO f cdv A outer s H E) (Θ1 zA) (bd jO 7) M.J8:=by
 unfold M.J8
 exact (zCW PassesOwn.never rfl (JR gk qO zF) (yO (i:=6) yc.nd rfl (Or.inl (by kernel_rfl)) (.inl rfl))
  (zJ (zg (i:=7) yc.nd rfl (Or.inl (by kernel_rfl)) (zU (jC hr) zZ (jm (zB (zU (jC hr) zZ (vv 1) zF) (zB (vv 3) zE))) (vv 6)))
  (zJ (zg (i:=8) yc.nd rfl (Or.inl (by kernel_rfl)) (zm ji hr (by decide) gk (zB (vv 0) (zB (zO (OpR.or jf jI) jS zF (vv 6)) zE)) (zQ (zQ zo))))
  (zG (zc (zY zMT zJj (zO yU qa (vv 8) zF) zF (jM _))
  (zG (zEB hr (vv 5) (vv 7) (zU (jC hr) zZ (jm (zB (vv 3) (zB (zU (jC hr) zZ (vv 1) zF) (zB (zm Z9 hr (by decide) gk (zB (zO Qd Zc (vv 8) zF) (zB (vv 1) zE)) (zQ (zQ zo))) zE)))) (zO zPp zNe (zO yU qa (vv 8) zF) zF))))
  z9)))))
theorem zPi (zAK:zDH P w K mg base zA) (hr:RM 6 "law" jO A s f cdv):WS (cX P w K mg base QO "law" jO f cdv A outer s H E) (Θ1 zA) (bd jO 8) M.zAX:=by
 unfold M.zAX
 exact (zg (i:=9) yc.nd rfl (Or.inl (by kernel_rfl)) (zm zAK hr (by decide) gk (zB (vv 4) (zB (zU (jC hr) zZ (vv 1) zF) (zB (vv 5) zE))) (zQ (zQ (zQ zo)))))
theorem zNM (hr:RM 6 "law" jO A s f cdv):WS (cX P w K mg base QO "law" jO f cdv A outer s H E) (Θ1 zA) (bd jO 9) M.zA4:=by
 unfold M.zA4
 exact (zg (i:=10) yc.nd rfl (Or.inl (by kernel_rfl)) (vv 4))
theorem zNx (ji:Z0 P w K mg base zA) (hr:RM 6 "law" jO A s f cdv):WS (cX P w K mg base QO "law" jO f cdv A outer s H E) (Θ1 zA) (bd jO 10) M.zBA:=by
 unfold M.zBA
 exact (zg (i:=11) yc.nd rfl (Or.inl (by kernel_rfl)) (zU (jC hr) zZ (jm (zB zz (zB zz (zB zz (zB zz (zB zz (zB zz (zB zz (zB zz zE))))))))) (zO yU qa (zm ji hr (by decide) gk (zB (vv 0) (zB zF zE)) (zQ (zQ zo))) zF)))
theorem zNn (JN:zBn P w K mg base zA) (hr:RM 6 "law" jO A s f cdv):WS (cX P w K mg base QO "law" jO f cdv A outer s H E) (Θ1 zA) (bd jO 11) M.ZY:=by
 unfold M.ZY
 exact (zc (zY (zAG hr) zBa (vv 11) zz (jM _))
  (zJ (zg (i:=10) yc.nd rfl (Or.inl (by kernel_rfl)) (zu (zB (vv 11) (zB (vv 4) zE))))
  (zG (zg (i:=9) yc.nd rfl (Or.inl (by kernel_rfl)) (zm JN hr (by decide) gk (zB (vv 11) (zB (zU (jC hr) zZ (vv 9) zF) (zB (zU (jC hr) zZ (vv 9) zF) (zB (vv 5) zE)))) (zQ (zQ (zQ (zQ zo))))))))
  z9)
theorem zNy (zFX:mg "dict" = none) (hr:RM 6 "law" jO A s f cdv):WS (cX P w K mg base QO "law" jO f cdv A outer s H E) (Θ1 zA) (bd jO 12) M.QV:=by
 unfold M.QV
 exact (zg (i:=12) yc.nd rfl (Or.inl (by kernel_rfl)) (JT zMI zQT gk zFX zQ3 (zB (vv 5) zE)))
theorem zNS (zCq:zGe P w K mg base zA) (Q7:zCS P w K mg base zA) (qO:mg "range" = none) (jb:mg "isinstance" = none) (Q6:mg "tuple" = none) (jt:mg "len" = none) (Ju:mg "list" = none) (hr:RM 6 "law" jO A s f cdv):WS (cX P w K mg base QO "law" jO f cdv A outer s H E) (Θ1 zA) (bd jO 13) M.QU:=by
 unfold M.QU
 exact (zCW PassesOwn.never rfl (JR gk qO zF) (yO (i:=13) yc.nd rfl (Or.inl (by kernel_rfl)) (.inl rfl))
  (zJ (zg (i:=14) yc.nd rfl (Or.inl (by kernel_rfl)) (zm zCq hr (by decide) gk (zB (vv 10) (zB (zU (jC hr) zZ (vv 1) zF) (zB (vv 12) zE))) (zQ (zQ (zQ zo)))))
  (zJ (zc (Z7 (JV (QW (ZV (ja Jk zBe gk jb yu (zB (vv 14) (zB (zAY .tuple gk Q6 zCb) zE))))) (JV (zY (zAG hr) zBa (ja yw JL gk jt JJ (zB (vv 14) zE)) zF (jM _)) (JV (QW (ZV (ja Jk zBe gk jb yu (zB (zU (jC hr) zZ (vv 14) zF) (zB (zAY .list gk Ju zH3) zE))))) (Zs (zY (zAG hr) zBa (vv 12) (vv 5) (jM _)))))))
  (zG (zX Ql))
  z9)
  (zG (zc (Z7 (JV (QW (ZV (zm Q7 hr (by decide) gk (zB (zU (jC hr) zZ (vv 14) zF) (zB (zU (jC hr) zZ (vv 9) zF) zE)) (zQ (zQ zo))))) (Zs (QW (ZV (zm Q7 hr (by decide) gk (zB (JT zFw zKv gk Q6 zCb (zB (zU (jC hr) zZ (vv 14) zF) zE)) (zB (JT zFw zKv gk Q6 zCb (zB (zU (jC hr) zZ (vv 9) zF) zE)) zE)) (zQ (zQ zo))))))))
  (zG (zX Ql))
  z9)))))
theorem zMz (hr:RM 6 "law" jO A s f cdv):WS (cX P w K mg base QO "law" jO f cdv A outer s H E) (Θ1 zA) (bd jO 14) M.Jh:=by
 unfold M.Jh
 exact (zX Ql)
theorem zRs (F:Fun K "law" "law" jO f fd) (QT:zAm P w K mg base zA) (ji:Z0 P w K mg base zA) (zAK:zDH P w K mg base zA) (JN:zBn P w K mg base zA) (zCq:zGe P w K mg base zA) (qU:Qf P w K mg base zA) (Q7:zCS P w K mg base zA) (Z9:zAU P w K mg base zA) (qO:mg "range" = none) (zFX:mg "dict" = none) (jb:mg "isinstance" = none) (Q6:mg "tuple" = none) (jt:mg "len" = none) (Ju:mg "list" = none) :
  jX P w K mg base CX0 7 f fd ["_law_script"] (SpM K (Θ1 zA) 1 M.zMK):=by
 refine yi (N:=QO) (b:=M.zMG) F yc fun cdv A outer s H E hr=>?_
 unfold M.zMG
 exact (zJ (zOl QT ji hr) (zJ (zPd ji hr) (zJ (zPM hr) (zJ (zPE qU hr) (zJ (zO7 hr) (zJ (zPX hr) (zJ (zPJ hr) (zJ (zO1 ji Z9 qO hr) (zJ (zPi zAK hr) (zJ (zNM hr) (zJ (zNx ji hr) (zJ (zNn JN hr) (zJ (zNy zFX hr) (zJ (zNS zCq Q7 qO jb Q6 jt Ju hr) (zG (zMz hr))))))))))))))))
theorem zSi {l:PySem.W.OpenLaw}{w:World}{K:PySem.W.Frag}{h:Heap}{mg:Str->Option Value}{fa f1 f2 f3 f4 f5 f6 f7 f8 f9 f10 f11 f12 f13 f14 f15 f16 f17 f18 f19 f20 f21 f22 f23 f24 f25 f26 f27 f28 f29 f30 f31 f32 f33 f34 f35 f36:Addr}{zA:Addr} (X:K.In h) (G:h.Ns mainGlobals mg) (hfa:mg "law" = some (.ref fa))
  {od1 an1 od2 an2 od3 an3 od4 an4 od5 an5 od6 an6 od7 an7 od8 an8 od9 an9 od10 an10 od11 an11 od12 an12 od13 an13 od14 an14 od15 an15 od16 an16 od17 an17 od18 an18 od19 an19 od20 an20 od21 an21 od22 an22 od23 an23 od24 an24 od25 an25 od26 an26 od27 an27 od28 an28 od29 an29 od30 an30 od31 an31 od32 an32 od33 an33 od34 an34 od35 an35 od36 an36:Option Addr}{sl1 sl2 sl3 sl4 sl5 sl6 sl7 sl8 sl9 sl10 sl11 sl12 sl13 sl14 sl15 sl16 sl17 sl18 sl19 sl20 sl21 sl22 sl23 sl24 sl25 sl26 sl27 sl28 sl29 sl30 sl31 sl32 sl33 sl34 sl35 sl36:Array (Option Value)}{oc1 kV1 dc1 pm1 cd1 ct1 oc2 kV2 dc2 pm2 cd2 ct2 oc3 kV3 dc3 pm3 cd3 ct3 oc4 kV4 dc4 pm4 cd4 ct4 oc5 kV5 dc5 pm5 cd5 ct5 oc6 kV6 dc6 pm6 cd6 ct6 oc7 kV7 dc7 pm7 cd7 ct7 oc8 kV8 dc8 pm8 cd8 ct8 oc9 kV9 dc9 pm9 cd9 ct9 oc10 kV10 dc10 pm10 cd10 ct10 oc11 kV11 dc11 pm11 cd11 ct11 oc12 kV12 dc12 pm12 cd12 ct12 oc13 kV13 dc13 pm13 cd13 ct13 oc14 kV14 dc14 pm14 cd14 ct14 oc15 kV15 dc15 pm15 cd15 ct15 oc16 kV16 dc16 pm16 cd16 ct16 oc17 kV17 dc17 pm17 cd17 ct17 oc18 kV18 dc18 pm18 cd18 ct18 oc19 kV19 dc19 pm19 cd19 ct19 oc20 kV20 dc20 pm20 cd20 ct20 oc21 kV21 dc21 pm21 cd21 ct21 oc22 kV22 dc22 pm22 cd22 ct22 oc23 kV23 dc23 pm23 cd23 ct23 oc24 kV24 dc24 pm24 cd24 ct24 oc25 kV25 dc25 pm25 cd25 ct25 oc26 kV26 dc26 pm26 cd26 ct26 oc27 kV27 dc27 pm27 cd27 ct27 oc28 kV28 dc28 pm28 cd28 ct28 oc29 kV29 dc29 pm29 cd29 ct29 oc30 kV30 dc30 pm30 cd30 ct30 oc31 kV31 dc31 pm31 cd31 ct31 oc32 kV32 dc32 pm32 cd32 ct32 oc33 kV33 dc33 pm33 cd33 ct33 oc34 kV34 dc34 pm34 cd34 ct34 oc35 kV35 dc35 pm35 cd35 ct35 oc36 kV36 dc36 pm36 cd36 ct36:Value}
  (zEK:PySem.W.nsIn K mainGlobals "Working" = some (some (.ref zA))) (zEL:PySem.W.plainGet K zA Str.empty=true) (zEM:PySem.W.hasDictIn K zA=true) (zEN:PySem.W.plainOver K zA=true) (zEO:PySem.W.findIn K (.ref zA) "__setattr__" = some (some (.builtin "object.__setattr__"))) (zEP:PySem.W.makesIn K zA=true) (zEQ:PySem.W.keepIn K (.ref zA)=true)
  (zCr:PySem.W.findIn K (.ref zA) "stem" = some none)
  (zCs:PySem.W.findIn K (.ref zA) "answers" = some none)
  (zCt:PySem.W.findIn K (.ref zA) "used" = some none)
  (zCu:PySem.W.findIn K (.ref zA) "steps" = some none)
  (zCv:PySem.W.findIn K (.ref zA) "texts" = some none)
  (zCw:PySem.W.findIn K (.ref zA) "todo" = some none)
  (zCx:PySem.W.findIn K (.ref zA) "ended" = some none)
  (a1:PySem.W.nsIn K mainGlobals "_law_letter" = some (some (.ref f1))) (l1:K.lookup f1=some ⟨oc1,od1,.func (PySem.W.fnOf "_law_letter" "_law_letter" (jK QI) (zq QI) (zM QI) .none kV1 dc1 pm1 an1 cd1 ct1),sl1⟩) (c1:PySem.W.codeIn K cd1 "_law_letter" = true) (k1:PySem.W.keepIn K (.ref f1)=true)
  (a2:PySem.W.nsIn K mainGlobals "_law_plain_by" = some (some (.ref f2))) (l2:K.lookup f2=some ⟨oc2,od2,.func (PySem.W.fnOf "_law_plain_by" "_law_plain_by" (jK zh) (zq zh) (zM zh) .none kV2 dc2 pm2 an2 cd2 ct2),sl2⟩) (c2:PySem.W.codeIn K cd2 "_law_plain_by" = true) (k2:PySem.W.keepIn K (.ref f2)=true)
  (a3:PySem.W.nsIn K mainGlobals "_law_names_by" = some (some (.ref f3))) (l3:K.lookup f3=some ⟨oc3,od3,.func (PySem.W.fnOf "_law_names_by" "_law_names_by" (jK zr) (zq zr) (zM zr) .none kV3 dc3 pm3 an3 cd3 ct3),sl3⟩) (c3:PySem.W.codeIn K cd3 "_law_names_by" = true) (k3:PySem.W.keepIn K (.ref f3)=true)
  (a4:PySem.W.nsIn K mainGlobals "_law_mixed" = some (some (.ref f4))) (l4:K.lookup f4=some ⟨oc4,od4,.func (PySem.W.fnOf "_law_mixed" "_law_mixed" (jK Q0) (zq Q0) (zM Q0) .none kV4 dc4 pm4 an4 cd4 ct4),sl4⟩) (c4:PySem.W.codeIn K cd4 "_law_mixed" = true) (k4:PySem.W.keepIn K (.ref f4)=true)
  (a5:PySem.W.nsIn K mainGlobals "_law_cell_at" = some (some (.ref f5))) (l5:K.lookup f5=some ⟨oc5,od5,.func (PySem.W.fnOf "_law_cell_at" "_law_cell_at" (jK Zw) (zq Zw) (zM Zw) .none kV5 dc5 pm5 an5 cd5 ct5),sl5⟩) (c5:PySem.W.codeIn K cd5 "_law_cell_at" = true) (k5:PySem.W.keepIn K (.ref f5)=true)
  (a6:PySem.W.nsIn K mainGlobals "_law_bare" = some (some (.ref f6))) (l6:K.lookup f6=some ⟨oc6,od6,.func (PySem.W.fnOf "_law_bare" "_law_bare" (jK jF) (zq jF) (zM jF) .none kV6 dc6 pm6 an6 cd6 ct6),sl6⟩) (c6:PySem.W.codeIn K cd6 "_law_bare" = true) (k6:PySem.W.keepIn K (.ref f6)=true)
  (a7:PySem.W.nsIn K mainGlobals "_law_words" = some (some (.ref f7))) (l7:K.lookup f7=some ⟨oc7,od7,.func (PySem.W.fnOf "_law_words" "_law_words" (jK Qt) (zq Qt) (zM Qt) .none kV7 dc7 pm7 an7 cd7 ct7),sl7⟩) (c7:PySem.W.codeIn K cd7 "_law_words" = true) (k7:PySem.W.keepIn K (.ref f7)=true)
  (a8:PySem.W.nsIn K mainGlobals "_law_is_plain" = some (some (.ref f8))) (l8:K.lookup f8=some ⟨oc8,od8,.func (PySem.W.fnOf "_law_is_plain" "_law_is_plain" (jK ZP) (zq ZP) (zM ZP) .none kV8 dc8 pm8 an8 cd8 ct8),sl8⟩) (c8:PySem.W.codeIn K cd8 "_law_is_plain" = true) (k8:PySem.W.keepIn K (.ref f8)=true)
  (a9:PySem.W.nsIn K mainGlobals "_law_is_name" = some (some (.ref f9))) (l9:K.lookup f9=some ⟨oc9,od9,.func (PySem.W.fnOf "_law_is_name" "_law_is_name" (jK Zu) (zq Zu) (zM Zu) .none kV9 dc9 pm9 an9 cd9 ct9),sl9⟩) (c9:PySem.W.codeIn K cd9 "_law_is_name" = true) (k9:PySem.W.keepIn K (.ref f9)=true)
  (a10:PySem.W.nsIn K mainGlobals "_law_single" = some (some (.ref f10))) (l10:K.lookup f10=some ⟨oc10,od10,.func (PySem.W.fnOf "_law_single" "_law_single" (jK zV) (zq zV) (zM zV) .none kV10 dc10 pm10 an10 cd10 ct10),sl10⟩) (c10:PySem.W.codeIn K cd10 "_law_single" = true) (k10:PySem.W.keepIn K (.ref f10)=true)
  (a11:PySem.W.findIn K (.ref zA) "__init__" = some (some (.ref f11))) (i11:PySem.W.isFn K (.ref f11)=true) (l11:K.lookup f11=some ⟨oc11,od11,.func (PySem.W.fnOf "__init__" "Working.__init__" (jK zW) (zq zW) (zM zW) .none kV11 dc11 pm11 an11 cd11 ct11),sl11⟩) (c11:PySem.W.codeIn K cd11 "Working.__init__" = true) (k11:PySem.W.keepIn K (.ref f11)=true)
  (a12:PySem.W.findIn K (.ref zA) "fail" = some (some (.ref f12))) (i12:PySem.W.isFn K (.ref f12)=true) (l12:K.lookup f12=some ⟨oc12,od12,.func (PySem.W.fnOf "fail" "Working.fail" (jK Z2) (zq Z2) (zM Z2) .none kV12 dc12 pm12 an12 cd12 ct12),sl12⟩) (c12:PySem.W.codeIn K cd12 "Working.fail" = true) (k12:PySem.W.keepIn K (.ref f12)=true)
  (a13:PySem.W.findIn K (.ref zA) "come_to" = some (some (.ref f13))) (i13:PySem.W.isFn K (.ref f13)=true) (l13:K.lookup f13=some ⟨oc13,od13,.func (PySem.W.fnOf "come_to" "Working.come_to" (jK yo) (zq yo) (zM yo) .none kV13 dc13 pm13 an13 cd13 ct13),sl13⟩) (c13:PySem.W.codeIn K cd13 "Working.come_to" = true) (k13:PySem.W.keepIn K (.ref f13)=true)
  (a14:PySem.W.findIn K (.ref zA) "bare_text" = some (some (.ref f14))) (i14:PySem.W.isFn K (.ref f14)=true) (l14:K.lookup f14=some ⟨oc14,od14,.func (PySem.W.fnOf "bare_text" "Working.bare_text" (jK zi) (zq zi) (zM zi) .none kV14 dc14 pm14 an14 cd14 ct14),sl14⟩) (c14:PySem.W.codeIn K cd14 "Working.bare_text" = true) (k14:PySem.W.keepIn K (.ref f14)=true)
  (a15:PySem.W.findIn K (.ref zA) "come_to_answer" = some (some (.ref f15))) (i15:PySem.W.isFn K (.ref f15)=true) (l15:K.lookup f15=some ⟨oc15,od15,.func (PySem.W.fnOf "come_to_answer" "Working.come_to_answer" (jK qI) (zq qI) (zM qI) .none kV15 dc15 pm15 an15 cd15 ct15),sl15⟩) (c15:PySem.W.codeIn K cd15 "Working.come_to_answer" = true) (k15:PySem.W.keepIn K (.ref f15)=true)
  (a16:PySem.W.findIn K (.ref zA) "put_parts" = some (some (.ref f16))) (i16:PySem.W.isFn K (.ref f16)=true) (l16:K.lookup f16=some ⟨oc16,od16,.func (PySem.W.fnOf "put_parts" "Working.put_parts" (jK yC) (zq yC) (zM yC) .none kV16 dc16 pm16 an16 cd16 ct16),sl16⟩) (c16:PySem.W.codeIn K cd16 "Working.put_parts" = true) (k16:PySem.W.keepIn K (.ref f16)=true)
  (a17:PySem.W.findIn K (.ref zA) "begin_inner" = some (some (.ref f17))) (i17:PySem.W.isFn K (.ref f17)=true) (l17:K.lookup f17=some ⟨oc17,od17,.func (PySem.W.fnOf "begin_inner" "Working.begin_inner" (jK qh) (zq qh) (zM qh) .none kV17 dc17 pm17 an17 cd17 ct17),sl17⟩) (c17:PySem.W.codeIn K cd17 "Working.begin_inner" = true) (k17:PySem.W.keepIn K (.ref f17)=true)
  (a18:PySem.W.findIn K (.ref zA) "begin" = some (some (.ref f18))) (i18:PySem.W.isFn K (.ref f18)=true) (l18:K.lookup f18=some ⟨oc18,od18,.func (PySem.W.fnOf "begin" "Working.begin" (jK ZJ) (zq ZJ) (zM ZJ) .none kV18 dc18 pm18 an18 cd18 ct18),sl18⟩) (c18:PySem.W.codeIn K cd18 "Working.begin" = true) (k18:PySem.W.keepIn K (.ref f18)=true)
  (a19:PySem.W.nsIn K mainGlobals "is_letter" = some (some (.ref f19))) (l19:K.lookup f19=some ⟨oc19,od19,.func (PySem.W.fnOf "is_letter" "is_letter" (jK JP) (zq JP) (zM JP) .none kV19 dc19 pm19 an19 cd19 ct19),sl19⟩) (c19:PySem.W.codeIn K cd19 "is_letter" = true) (k19:PySem.W.keepIn K (.ref f19)=true)
  (a20:PySem.W.nsIn K mainGlobals "is_plain" = some (some (.ref f20))) (l20:K.lookup f20=some ⟨oc20,od20,.func (PySem.W.fnOf "is_plain" "is_plain" (jK J7) (zq J7) (zM J7) .none kV20 dc20 pm20 an20 cd20 ct20),sl20⟩) (c20:PySem.W.codeIn K cd20 "is_plain" = true) (k20:PySem.W.keepIn K (.ref f20)=true)
  (a21:PySem.W.nsIn K mainGlobals "is_name" = some (some (.ref f21))) (l21:K.lookup f21=some ⟨oc21,od21,.func (PySem.W.fnOf "is_name" "is_name" (jK zAb) (zq zAb) (zM zAb) .none kV21 dc21 pm21 an21 cd21 ct21),sl21⟩) (c21:PySem.W.codeIn K cd21 "is_name" = true) (k21:PySem.W.keepIn K (.ref f21)=true)
  (a22:PySem.W.nsIn K mainGlobals "words_of" = some (some (.ref f22))) (l22:K.lookup f22=some ⟨oc22,od22,.func (PySem.W.fnOf "words_of" "words_of" (jK J0) (zq J0) (zM J0) .none kV22 dc22 pm22 an22 cd22 ct22),sl22⟩) (c22:PySem.W.codeIn K cd22 "words_of" = true) (k22:PySem.W.keepIn K (.ref f22)=true)
  (a23:PySem.W.nsIn K mainGlobals "sorted_words" = some (some (.ref f23))) (l23:K.lookup f23=some ⟨oc23,od23,.func (PySem.W.fnOf "sorted_words" "sorted_words" (jK Zy) (zq Zy) (zM Zy) .none kV23 dc23 pm23 an23 cd23 ct23),sl23⟩) (c23:PySem.W.codeIn K cd23 "sorted_words" = true) (k23:PySem.W.keepIn K (.ref f23)=true)
  (a24:PySem.W.nsIn K mainGlobals "turned_about" = some (some (.ref f24))) (l24:K.lookup f24=some ⟨oc24,od24,.func (PySem.W.fnOf "turned_about" "turned_about" (jK Zv) (zq Zv) (zM Zv) .none kV24 dc24 pm24 an24 cd24 ct24),sl24⟩) (c24:PySem.W.codeIn K cd24 "turned_about" = true) (k24:PySem.W.keepIn K (.ref f24)=true)
  (a25:PySem.W.nsIn K mainGlobals "first_word" = some (some (.ref f25))) (l25:K.lookup f25=some ⟨oc25,od25,.func (PySem.W.fnOf "first_word" "first_word" (jK Qx) (zq Qx) (zM Qx) .none kV25 dc25 pm25 an25 cd25 ct25),sl25⟩) (c25:PySem.W.codeIn K cd25 "first_word" = true) (k25:PySem.W.keepIn K (.ref f25)=true)
  (a26:PySem.W.nsIn K mainGlobals "rest_words" = some (some (.ref f26))) (l26:K.lookup f26=some ⟨oc26,od26,.func (PySem.W.fnOf "rest_words" "rest_words" (jK Qr) (zq Qr) (zM Qr) .none kV26 dc26 pm26 an26 cd26 ct26),sl26⟩) (c26:PySem.W.codeIn K cd26 "rest_words" = true) (k26:PySem.W.keepIn K (.ref f26)=true)
  (a27:PySem.W.nsIn K mainGlobals "counted" = some (some (.ref f27))) (l27:K.lookup f27=some ⟨oc27,od27,.func (PySem.W.fnOf "counted" "counted" (jK zAW) (zq zAW) (zM zAW) .none kV27 dc27 pm27 an27 cd27 ct27),sl27⟩) (c27:PySem.W.codeIn K cd27 "counted" = true) (k27:PySem.W.keepIn K (.ref f27)=true)
  (a28:PySem.W.nsIn K mainGlobals "made_of" = some (some (.ref f28))) (l28:K.lookup f28=some ⟨oc28,od28,.func (PySem.W.fnOf "made_of" "made_of" (jK jo) (zq jo) (zM jo) .none kV28 dc28 pm28 an28 cd28 ct28),sl28⟩) (c28:PySem.W.codeIn K cd28 "made_of" = true) (k28:PySem.W.keepIn K (.ref f28)=true)
  (a29:PySem.W.findIn K (.ref zA) "end_single" = some (some (.ref f29))) (i29:PySem.W.isFn K (.ref f29)=true) (l29:K.lookup f29=some ⟨oc29,od29,.func (PySem.W.fnOf "end_single" "Working.end_single" (jK qv) (zq qv) (zM qv) .none kV29 dc29 pm29 an29 cd29 ct29),sl29⟩) (c29:PySem.W.codeIn K cd29 "Working.end_single" = true) (k29:PySem.W.keepIn K (.ref f29)=true)
  (a30:PySem.W.findIn K (.ref zA) "run" = some (some (.ref f30))) (i30:PySem.W.isFn K (.ref f30)=true) (l30:K.lookup f30=some ⟨oc30,od30,.func (PySem.W.fnOf "run" "Working.run" (jK QF) (zq QF) (zM QF) .none kV30 dc30 pm30 an30 cd30 ct30),sl30⟩) (c30:PySem.W.codeIn K cd30 "Working.run" = true) (k30:PySem.W.keepIn K (.ref f30)=true)
  (a31:PySem.W.nsIn K mainGlobals "worked" = some (some (.ref f31))) (l31:K.lookup f31=some ⟨oc31,od31,.func (PySem.W.fnOf "worked" "worked" (jK zBB) (zq zBB) (zM zBB) .none kV31 dc31 pm31 an31 cd31 ct31),sl31⟩) (c31:PySem.W.codeIn K cd31 "worked" = true) (k31:PySem.W.keepIn K (.ref f31)=true)
  (a32:PySem.W.nsIn K mainGlobals "_law_sign_by" = some (some (.ref f32))) (l32:K.lookup f32=some ⟨oc32,od32,.func (PySem.W.fnOf "_law_sign_by" "_law_sign_by" (jK Zz) (zq Zz) (zM Zz) .none kV32 dc32 pm32 an32 cd32 ct32),sl32⟩) (c32:PySem.W.codeIn K cd32 "_law_sign_by" = true) (k32:PySem.W.keepIn K (.ref f32)=true)
  (a33:PySem.W.nsIn K mainGlobals "_law_text_by" = some (some (.ref f33))) (l33:K.lookup f33=some ⟨oc33,od33,.func (PySem.W.fnOf "_law_text_by" "_law_text_by" (jK Z3) (zq Z3) (zM Z3) .none kV33 dc33 pm33 an33 cd33 ct33),sl33⟩) (c33:PySem.W.codeIn K cd33 "_law_text_by" = true) (k33:PySem.W.keepIn K (.ref f33)=true)
  (a34:PySem.W.nsIn K mainGlobals "_law_alike" = some (some (.ref f34))) (l34:K.lookup f34=some ⟨oc34,od34,.func (PySem.W.fnOf "_law_alike" "_law_alike" (jK Q1) (zq Q1) (zM Q1) .none kV34 dc34 pm34 an34 cd34 ct34),sl34⟩) (c34:PySem.W.codeIn K cd34 "_law_alike" = true) (k34:PySem.W.keepIn K (.ref f34)=true)
  (a35:PySem.W.nsIn K mainGlobals "_law_answer_by" = some (some (.ref f35))) (l35:K.lookup f35=some ⟨oc35,od35,.func (PySem.W.fnOf "_law_answer_by" "_law_answer_by" (jK zj) (zq zj) (zM zj) .none kV35 dc35 pm35 an35 cd35 ct35),sl35⟩) (c35:PySem.W.codeIn K cd35 "_law_answer_by" = true) (k35:PySem.W.keepIn K (.ref f35)=true)
  (a36:PySem.W.nsIn K mainGlobals "law" = some (some (.ref f36))) (l36:K.lookup f36=some ⟨oc36,od36,.func (PySem.W.fnOf "law" "law" (jK jO) (zq jO) (zM jO) .none kV36 dc36 pm36 an36 cd36 ct36),sl36⟩) (c36:PySem.W.codeIn K cd36 "law" = true) (k36:PySem.W.keepIn K (.ref f36)=true)
  (z_range:PySem.W.nsIn K mainGlobals "range" = some none)
  (z_len:PySem.W.nsIn K mainGlobals "len" = some none)
  (z_all:PySem.W.nsIn K mainGlobals "all" = some none)
  (z_str:PySem.W.nsIn K mainGlobals "str" = some none)
  (z_sorted:PySem.W.nsIn K mainGlobals "sorted" = some none)
  (z_reversed:PySem.W.nsIn K mainGlobals "reversed" = some none)
  (z_isinstance:PySem.W.nsIn K mainGlobals "isinstance" = some none)
  (z_list:PySem.W.nsIn K mainGlobals "list" = some none)
  (z_tuple:PySem.W.nsIn K mainGlobals "tuple" = some none)
  (z_zip:PySem.W.nsIn K mainGlobals "zip" = some none)
  (z_dict:PySem.W.nsIn K mainGlobals "dict" = some none)
  {u_MOST_SIGNS:Value} (v_MOST_SIGNS:PySem.W.nsIn K mainGlobals "MOST_SIGNS" = some (some u_MOST_SIGNS)) (r_MOST_SIGNS:zHw (.int 900) u_MOST_SIGNS=true)
  {u_MOST_STEPS:Value} (v_MOST_STEPS:PySem.W.nsIn K mainGlobals "MOST_STEPS" = some (some u_MOST_STEPS)) (r_MOST_STEPS:zHw (.int 500) u_MOST_STEPS=true)
  {Z8:Addr}{its_KEPT_WORDS:Array Value}{n_KEPT_WORDS:Nat}{d_KEPT_WORDS:Option Addr}{s_KEPT_WORDS:Array (Option Value)} (v_KEPT_WORDS:PySem.W.nsIn K mainGlobals "KEPT_WORDS" = some (some (.ref Z8))) (w_KEPT_WORDS:K.lookup Z8=some ⟨.type "tuple",d_KEPT_WORDS,.seq its_KEPT_WORDS n_KEPT_WORDS,s_KEPT_WORDS⟩) (r_KEPT_WORDS:zHa [(.str "of"),(.str "if"),(.str "is"),(.str "then"),(.str "else"),(.str "each"),(.str "do"),(.str "it"),(.str "back"),(.str "first"),(.str "rest"),(.str "count"),(.str "sorted"),(.str "fail"),(.str "line"),(.str "more")] its_KEPT_WORDS.toList=true)
  {u_MOST_LETTERS:Value} (v_MOST_LETTERS:PySem.W.nsIn K mainGlobals "MOST_LETTERS" = some (some u_MOST_LETTERS)) (r_MOST_LETTERS:zHw (.int 8) u_MOST_LETTERS=true)
  : ∃ fd:FuncData,(∀ (s:Shared) (v:Value),BindsTo s fd ⟨[v],[]⟩ [("_law_script",v)])/\fd.scope.names.lookup ("_law_script" : Str)=some .local/\∀ base:Heap,K.In base->base.Ns mainGlobals mg->jX l.prog w K mg base CX0 7 fa fd ["_law_script"] (zJl K):=by
 have e:=hfa.symm.trans (PySem.W.mg_of X G a36)
 cases e
 have F1:=jd (x := "_law_letter") (qual := "_law_letter") (st:=QI) l1 c1 k1
 have B1:=F1.binds (ps:=["_law_cell"]) fun _ _ _ _ _ _ us hl=>match us,hl with | [_],_=>rfl
 have F2:=jd (x := "_law_plain_by") (qual := "_law_plain_by") (st:=zh) l2 c2 k2
 have B2:=F2.binds (ps:=["_law_cell","_law_k"]) fun _ _ _ _ _ _ us hl=>match us,hl with | [_,_],_=>rfl
 have F3:=jd (x := "_law_names_by") (qual := "_law_names_by") (st:=zr) l3 c3 k3
 have B3:=F3.binds (ps:=["_law_cell"]) fun _ _ _ _ _ _ us hl=>match us,hl with | [_],_=>rfl
 have F4:=jd (x := "_law_mixed") (qual := "_law_mixed") (st:=Q0) l4 c4 k4
 have B4:=F4.binds (ps:=["_law_cell","_law_k"]) fun _ _ _ _ _ _ us hl=>match us,hl with | [_,_],_=>rfl
 have F5:=jd (x := "_law_cell_at") (qual := "_law_cell_at") (st:=Zw) l5 c5 k5
 have B5:=F5.binds (ps:=["_law_script","_law_k"]) fun _ _ _ _ _ _ us hl=>match us,hl with | [_,_],_=>rfl
 have F6:=jd (x := "_law_bare") (qual := "_law_bare") (st:=jF) l6 c6 k6
 have B6:=F6.binds (ps:=["_law_tree","_law_stem","_law_answers"]) fun _ _ _ _ _ _ us hl=>match us,hl with | [_,_,_],_=>rfl
 have F7:=jd (x := "_law_words") (qual := "_law_words") (st:=Qt) l7 c7 k7
 have B7:=F7.binds (ps:=["_law_text"]) fun _ _ _ _ _ _ us hl=>match us,hl with | [_],_=>rfl
 have F8:=jd (x := "_law_is_plain") (qual := "_law_is_plain") (st:=ZP) l8 c8 k8
 have B8:=F8.binds (ps:=["_law_word"]) fun _ _ _ _ _ _ us hl=>match us,hl with | [_],_=>rfl
 have F9:=jd (x := "_law_is_name") (qual := "_law_is_name") (st:=Zu) l9 c9 k9
 have B9:=F9.binds (ps:=["_law_text"]) fun _ _ _ _ _ _ us hl=>match us,hl with | [_],_=>rfl
 have F10:=jd (x := "_law_single") (qual := "_law_single") (st:=zV) l10 c10 k10
 have B10:=F10.binds (ps:=["_law_word","_law_end","_law_used","_law_answers"]) fun _ _ _ _ _ _ us hl=>match us,hl with | [_,_,_,_],_=>rfl
 have F11:=jd (x := "__init__") (qual := "Working.__init__") (st:=zW) l11 c11 k11
 have B11:=F11.binds (ps:=["self","tree","stem","answers"]) fun _ _ _ _ _ _ us hl=>match us,hl with | [_,_,_,_],_=>rfl
 have F12:=jd (x := "fail") (qual := "Working.fail") (st:=Z2) l12 c12 k12
 have B12:=F12.binds (ps:=["self","words"]) fun _ _ _ _ _ _ us hl=>match us,hl with | [_,_],_=>rfl
 have F13:=jd (x := "come_to") (qual := "Working.come_to") (st:=yo) l13 c13 k13
 have B13:=F13.binds (ps:=["self","text"]) fun _ _ _ _ _ _ us hl=>match us,hl with | [_,_],_=>rfl
 have F14:=jd (x := "bare_text") (qual := "Working.bare_text") (st:=zi) l14 c14 k14
 have B14:=F14.binds (ps:=["self","part","it"]) fun _ _ _ _ _ _ us hl=>match us,hl with | [_,_,_],_=>rfl
 have F15:=jd (x := "come_to_answer") (qual := "Working.come_to_answer") (st:=qI) l15 c15 k15
 have B15:=F15.binds (ps:=["self","name"]) fun _ _ _ _ _ _ us hl=>match us,hl with | [_,_],_=>rfl
 have F16:=jd (x := "put_parts") (qual := "Working.put_parts") (st:=yC) l16 c16 k16
 have B16:=F16.binds (ps:=["self","parts","it"]) fun _ _ _ _ _ _ us hl=>match us,hl with | [_,_,_],_=>rfl
 have F17:=jd (x := "begin_inner") (qual := "Working.begin_inner") (st:=qh) l17 c17 k17
 have B17:=F17.binds (ps:=["self","part","it"]) fun _ _ _ _ _ _ us hl=>match us,hl with | [_,_,_],_=>rfl
 have F18:=jd (x := "begin") (qual := "Working.begin") (st:=ZJ) l18 c18 k18
 have B18:=F18.binds (ps:=["self","part","it"]) fun _ _ _ _ _ _ us hl=>match us,hl with | [_,_,_],_=>rfl
 have F19:=jd (x := "is_letter") (qual := "is_letter") (st:=JP) l19 c19 k19
 have B19:=F19.binds (ps:=["sign"]) fun _ _ _ _ _ _ us hl=>match us,hl with | [_],_=>rfl
 have F20:=jd (x := "is_plain") (qual := "is_plain") (st:=J7) l20 c20 k20
 have B20:=F20.binds (ps:=["thing"]) fun _ _ _ _ _ _ us hl=>match us,hl with | [_],_=>rfl
 have F21:=jd (x := "is_name") (qual := "is_name") (st:=zAb) l21 c21 k21
 have B21:=F21.binds (ps:=["thing"]) fun _ _ _ _ _ _ us hl=>match us,hl with | [_],_=>rfl
 have F22:=jd (x := "words_of") (qual := "words_of") (st:=J0) l22 c22 k22
 have B22:=F22.binds (ps:=["text"]) fun _ _ _ _ _ _ us hl=>match us,hl with | [_],_=>rfl
 have F23:=jd (x := "sorted_words") (qual := "sorted_words") (st:=Zy) l23 c23 k23
 have B23:=F23.binds (ps:=["text"]) fun _ _ _ _ _ _ us hl=>match us,hl with | [_],_=>rfl
 have F24:=jd (x := "turned_about") (qual := "turned_about") (st:=Zv) l24 c24 k24
 have B24:=F24.binds (ps:=["text"]) fun _ _ _ _ _ _ us hl=>match us,hl with | [_],_=>rfl
 have F25:=jd (x := "first_word") (qual := "first_word") (st:=Qx) l25 c25 k25
 have B25:=F25.binds (ps:=["text"]) fun _ _ _ _ _ _ us hl=>match us,hl with | [_],_=>rfl
 have F26:=jd (x := "rest_words") (qual := "rest_words") (st:=Qr) l26 c26 k26
 have B26:=F26.binds (ps:=["text"]) fun _ _ _ _ _ _ us hl=>match us,hl with | [_],_=>rfl
 have F27:=jd (x := "counted") (qual := "counted") (st:=zAW) l27 c27 k27
 have B27:=F27.binds (ps:=["text"]) fun _ _ _ _ _ _ us hl=>match us,hl with | [_],_=>rfl
 have F28:=jd (x := "made_of") (qual := "made_of") (st:=jo) l28 c28 k28
 have B28:=F28.binds (ps:=["kind","text"]) fun _ _ _ _ _ _ us hl=>match us,hl with | [_,_],_=>rfl
 have F29:=jd (x := "end_single") (qual := "Working.end_single") (st:=qv) l29 c29 k29
 have B29:=F29.binds (ps:=["self","kind"]) fun _ _ _ _ _ _ us hl=>match us,hl with | [_,_],_=>rfl
 have F30:=jd (x := "run") (qual := "Working.run") (st:=QF) l30 c30 k30
 have B30:=F30.binds (ps:=["self"]) fun _ _ _ _ _ _ us hl=>match us,hl with | [_],_=>rfl
 have F31:=jd (x := "worked") (qual := "worked") (st:=zBB) l31 c31 k31
 have B31:=F31.binds (ps:=["tree","stem","answers"]) fun _ _ _ _ _ _ us hl=>match us,hl with | [_,_,_],_=>rfl
 have F32:=jd (x := "_law_sign_by") (qual := "_law_sign_by") (st:=Zz) l32 c32 k32
 have B32:=F32.binds (ps:=["_law_cell"]) fun _ _ _ _ _ _ us hl=>match us,hl with | [_],_=>rfl
 have F33:=jd (x := "_law_text_by") (qual := "_law_text_by") (st:=Z3) l33 c33 k33
 have B33:=F33.binds (ps:=["_law_cell","_law_size"]) fun _ _ _ _ _ _ us hl=>match us,hl with | [_,_],_=>rfl
 have F34:=jd (x := "_law_alike") (qual := "_law_alike") (st:=Q1) l34 c34 k34
 have B34:=F34.binds (ps:=["_law_gave","_law_due"]) fun _ _ _ _ _ _ us hl=>match us,hl with | [_,_],_=>rfl
 have F35:=jd (x := "_law_answer_by") (qual := "_law_answer_by") (st:=zj) l35 c35 k35
 have B35:=F35.binds (ps:=["_law_cell","_law_names"]) fun _ _ _ _ _ _ us hl=>match us,hl with | [_,_],_=>rfl
 have F36:=jd (x := "law") (qual := "law") (st:=jO) l36 c36 k36
 have qO:=PySem.W.mg_none_of X G z_range
 have jt:=PySem.W.mg_none_of X G z_len
 have zB5:=PySem.W.mg_none_of X G z_all
 have QD:=PySem.W.mg_none_of X G z_str
 have Jq:=PySem.W.mg_none_of X G z_sorted
 have zEI:=PySem.W.mg_none_of X G z_reversed
 have jb:=PySem.W.mg_none_of X G z_isinstance
 have Ju:=PySem.W.mg_none_of X G z_list
 have Q6:=PySem.W.mg_none_of X G z_tuple
 have zMx:=PySem.W.mg_none_of X G z_zip
 have zFX:=PySem.W.mg_none_of X G z_dict
 have zCm:zBQ mg "MOST_SIGNS" (.int 900):=⟨_,PySem.W.mg_of X G v_MOST_SIGNS,zFg r_MOST_SIGNS⟩
 have zCn:zBQ mg "MOST_STEPS" (.int 500):=⟨_,PySem.W.mg_of X G v_MOST_STEPS,zFg r_MOST_STEPS⟩
 have zCo:zBQ mg "KEPT_WORDS" (.ref Z8):=⟨_,PySem.W.mg_of X G v_KEPT_WORDS,rfl⟩
 have zCp:∀ H,SqT K H Z8 [(.str "of"),(.str "if"),(.str "is"),(.str "then"),(.str "else"),(.str "each"),(.str "do"),(.str "it"),(.str "back"),(.str "first"),(.str "rest"),(.str "count"),(.str "sorted"),(.str "fail"),(.str "line"),(.str "more")]:=fun H=>zP8 w_KEPT_WORDS r_KEPT_WORDS
 have zBR:zBQ mg "MOST_LETTERS" (.int 8):=⟨_,PySem.W.mg_of X G v_MOST_LETTERS,zFg r_MOST_LETTERS⟩
 have zL:jh K zA:=⟨rfl,⟨zEL,zEM,zEN,zEO⟩,zA7 zCr (zA7 zCs (zA7 zCt (zA7 zCu (zA7 zCv (zA7 zCw (zA7 zCx (fun f hf=>nomatch hf))))))),by decide +kernel,by decide +kernel⟩
 refine⟨PySem.W.fnOf "law" "law" (jK jO) (zq jO) (zM jO) .none kV36 dc36 pm36 an36 cd36 ct36,fun s v=>.of_eq rfl,by kernel_rfl,fun base _ _=>?_⟩
 have je:ZW l.prog w K mg base zA:=⟨⟨_,_,zID F1,B1,k1,PySem.W.mg_of X G a1⟩⟩
 have QR:zAh l.prog w K mg base zA:=⟨⟨_,_,zGD F2 je qO,B2,k2,PySem.W.mg_of X G a2⟩⟩
 have QT:zAm l.prog w K mg base zA:=⟨⟨_,_,zGX F3 QR je qO,B3,k3,PySem.W.mg_of X G a3⟩⟩
 have zCl:zEy l.prog w K mg base zA:=⟨⟨_,_,zJN F4,B4,k4,PySem.W.mg_of X G a4⟩⟩
 have ji:Z0 l.prog w K mg base zA:=⟨⟨_,_,zHL F5 zCl jt,B5,k5,PySem.W.mg_of X G a5⟩⟩
 have zAK:zDH l.prog w K mg base zA:=⟨⟨_,_,zK2 F6,B6,k6,PySem.W.mg_of X G a6⟩⟩
 have Jp:zCc l.prog w K mg base zA:=⟨⟨_,_,zJZ F7,B7,k7,PySem.W.mg_of X G a7⟩⟩
 have QS:zC9 l.prog w K mg base zA:=⟨⟨_,_,zGK F8 zB5 jt,B8,k8,PySem.W.mg_of X G a8⟩⟩
 have Q2:zA8 l.prog w K mg base zA:=⟨⟨_,_,zHX F9 QS,B9,k9,PySem.W.mg_of X G a9⟩⟩
 have JN:zBn l.prog w K mg base zA:=⟨⟨_,_,zHu F10 Jp Q2 QD jt Jq,B10,k10,PySem.W.mg_of X G a10⟩⟩
 have Jt:zBl l.prog w K mg base zA:=⟨⟨_,_,zEd F11 zL,B11,⟨zEP,a11,i11,zEQ⟩,PySem.W.mg_of X G zEK⟩⟩
 have qT:Jy l.prog w K mg base zA:=⟨⟨_,_,zHU F12 zL,B12,⟨a12,i12,k12⟩⟩⟩
 have qG:Qc l.prog w K mg base zA:=⟨⟨_,_,zFF F13 zL qT jt zCm,B13,⟨a13,i13,k13⟩⟩⟩
 have JY:zA1 l.prog w K mg base zA:=⟨⟨_,_,zD7 F14 zL,B14,⟨a14,i14,k14⟩⟩⟩
 have jy:Z4 l.prog w K mg base zA:=⟨⟨_,_,zBs F15 zL qG,B15,⟨a15,i15,k15⟩⟩⟩
 have yE:zA0 l.prog w K mg base zA:=⟨⟨_,_,zDx F16 zL zEI,B16,⟨a16,i16,k16⟩⟩⟩
 have Q3:zAZ l.prog w K mg base zA:=⟨⟨_,_,zDM F17 zL yE jt,B17,⟨a17,i17,k17⟩⟩⟩
 have zAz:zC2 l.prog w K mg base zA:=⟨⟨_,_,zGS F18 zL qT qG JY jy Q3 zCn,B18,⟨a18,i18,k18⟩⟩⟩
 have zDR:zF5 l.prog w K mg base zA:=⟨⟨_,_,zKH F19,B19,k19,PySem.W.mg_of X G a19⟩⟩
 have zEJ:zHG l.prog w K mg base zA:=⟨⟨_,_,zLB F20 zDR zB5 jb QD jt zCo zCp zBR,B20,k20,PySem.W.mg_of X G a20⟩⟩
 have zFV:zI3 l.prog w K mg base zA:=⟨⟨_,_,zMw F21 zEJ jb QD zB5 jt,B21,k21,PySem.W.mg_of X G a21⟩⟩
 have yK:zAr l.prog w K mg base zA:=⟨⟨_,_,zLN F22,B22,k22,PySem.W.mg_of X G a22⟩⟩
 have Q5:zBP l.prog w K mg base zA:=⟨⟨_,_,zHg F23 yK Jq,B23,k23,PySem.W.mg_of X G a23⟩⟩
 have Q4:zBL l.prog w K mg base zA:=⟨⟨_,_,zHQ F24,B24,k24,PySem.W.mg_of X G a24⟩⟩
 have Jr:zCT l.prog w K mg base zA:=⟨⟨_,_,zJa F25 yK,B25,k25,PySem.W.mg_of X G a25⟩⟩
 have Js:zCg l.prog w K mg base zA:=⟨⟨_,_,zJW F26 yK,B26,k26,PySem.W.mg_of X G a26⟩⟩
 have zBm:zEj l.prog w K mg base zA:=⟨⟨_,_,zMs F27 yK QD jt,B27,k27,PySem.W.mg_of X G a27⟩⟩
 have zFW:zIz l.prog w K mg base zA:=⟨⟨_,_,zML F28 Q5 Q4 Jr Js zBm,B28,k28,PySem.W.mg_of X G a28⟩⟩
 have JH:zAt l.prog w K mg base zA:=⟨⟨_,_,zDf F29 zL qT qG zFV zFW jy,B29,⟨a29,i29,k29⟩⟩⟩
 have zBp:zET l.prog w K mg base zA:=⟨⟨_,_,zH9 F30 zL zAz JH jt,B30,⟨a30,i30,k30⟩⟩⟩
 have zCq:zGe l.prog w K mg base zA:=⟨⟨_,_,zNY F31 zL Jt zBp Ju,B31,k31,PySem.W.mg_of X G a31⟩⟩
 have zBS:zDU l.prog w K mg base zA:=⟨⟨_,_,zHs F32,B32,k32,PySem.W.mg_of X G a32⟩⟩
 have qU:Qf l.prog w K mg base zA:=⟨⟨_,_,zGv F33 zBS qO,B33,k33,PySem.W.mg_of X G a33⟩⟩
 have Q7:zCS l.prog w K mg base zA:=⟨⟨_,_,zJT F34 jb QD Q6 Ju jt zMx,B34,k34,PySem.W.mg_of X G a34⟩⟩
 have Z9:zAU l.prog w K mg base zA:=⟨⟨_,_,zFq F35 qU,B35,k35,PySem.W.mg_of X G a35⟩⟩
 exact (zRs F36 QT ji zAK JN zCq qU Q7 Z9 qO zFX jb Q6 jt Ju).imp fun _ _ _ _ h=>h _
theorem zUE {l:PySem.W.OpenLaw}{q:Program}{loose:List Str}{XP:(Str->Option Value)->Heap->Prop}{YP:World->Heap->Prop}{d:DefRec}{K:Params->PySem.W.Frag} (hn:l.most=some 63) (hdf:d.params.defaults=[])
  (hY:∀ (w:World) (h:Heap),YP w h->(K w.params).In h)
  (F:∀ (w:World) (mg:Str->Option Value) (fa:Addr) (h:Heap),(K w.params).In h->h.Ns mainGlobals mg->mg d.name=some (.ref fa) ->
   ∃ fd:FuncData,(∀ (s:Shared) (u:Value),BindsTo s fd ⟨[u],[]⟩ [("_law_script",u)])/\fd.scope.names.lookup ("_law_script" : Str)=some .local/\∀ base:Heap,(K w.params).In base->base.Ns mainGlobals mg->jX l.prog w (K w.params) mg base CX0 7 fa fd ["_law_script"] (zJl (K w.params))) :
  PySem.W.WalkO q loose XP YP l.row.toRowW d [] (fun f vs=>PySem.call f vs) :=
 L2.zQ6 (n:=63) (k:=7) (x := "_law_script") (CX:=fun _=>CX0) (sp:=fun w=>zJl (K w.params)) hn (by decide) hdf ⟨rfl,by decide,by decide⟩ hY F (fun _ _ _ _ hl hO hS=>zPB hl hO hS) fun _ _ _ _ _ z=>z
end My
theorem PySem.W.Fast.tw8158926758756709575:True:=trivial
theorem PySem.W.Fast.tw2515528739498145622:True:=trivial
theorem PySem.W.Fast.tw18385692203829037051:True:=trivial
theorem PySem.W.Fast.tw6108704824144898945:True:=trivial
theorem PySem.W.Fast.tw5114932681942715818:True:=trivial
theorem PySem.W.Fast.tw4765118020003984350:True:=trivial
theorem PySem.W.Fast.tw627381713174915639:True:=trivial
theorem PySem.W.Fast.tw11475361062179130198:True:=trivial
theorem PySem.W.Fast.tw16160621192620780501:True:=trivial
theorem PySem.W.Fast.tw5809250836036987071:True:=trivial
theorem PySem.W.Fast.tw1702792192036672172:True:=trivial
theorem PySem.W.Fast.tw13356456566513617815:True:=trivial
theorem PySem.W.Fast.tw4932295434510998656:True:=trivial
theorem PySem.W.Fast.tw14345745661186715867:True:=trivial
theorem PySem.W.Fast.tw12955366185446093791:True:=trivial
theorem PySem.W.Fast.tw11912626816746202807:True:=trivial
theorem PySem.W.Fast.tw770843510907769658:True:=trivial
theorem PySem.W.Fast.tw15301563202571342722:True:=trivial
theorem PySem.W.Fast.tw4428482520911264883:True:=trivial
theorem PySem.W.Fast.tw16051714924351206453:True:=trivial
theorem PySem.W.Fast.tw12601245392784562866:True:=trivial
theorem PySem.W.Fast.tw12688734840344505620:True:=trivial
theorem PySem.W.Fast.tw14337846298465547644:True:=trivial
theorem PySem.W.Fast.tw5787771687587418638:True:=trivial
theorem PySem.W.Fast.tw11625621437800039998:True:=trivial
theorem PySem.W.Fast.tw6865025715150246459:True:=trivial
theorem PySem.W.Fast.tw13180813418740275927:True:=trivial
theorem PySem.W.Fast.tw12441952866873374057:True:=trivial
theorem PySem.W.Fast.tw1962472070082509618:True:=trivial
theorem PySem.W.Fast.tw15362578025014678764:True:=trivial
theorem PySem.W.Fast.tw10447128659053305685:True:=trivial
theorem PySem.W.Fast.tw10903281918071927107:True:=trivial
theorem PySem.W.Fast.tw17373945262448268369:True:=trivial
theorem PySem.W.Fast.tw3587260928881996909:True:=trivial
theorem PySem.W.Fast.tw11182510712178458310:True:=trivial
theorem PySem.W.Fast.tw7980652430469461991:True:=trivial
theorem PySem.W.Fast.tw10874484141598453937:True:=trivial
theorem PySem.W.Fast.tw1707676656157433242:True:=trivial
theorem PySem.W.Fast.tw11300105179296185843:True:=trivial
theorem PySem.W.Fast.tw11558732501601974284:True:=trivial
theorem PySem.W.Fast.tw2941190230204770027:True:=trivial
theorem PySem.W.Fast.tw1392069207027360897:True:=trivial
theorem PySem.W.Fast.tw2682573230205092817:True:=trivial
theorem PySem.W.Fast.tw4696070550303999920:True:=trivial
theorem PySem.W.Fast.tw14262942514920305546:True:=trivial
theorem PySem.W.Fast.tw8067631429340544540:True:=trivial
theorem PySem.W.Fast.tw13063132445362873793:True:=trivial
theorem PySem.W.Fast.tw12934459316570544027:True:=trivial
theorem PySem.W.Fast.tw4639853677386787302:True:=trivial
theorem PySem.W.Fast.tw13419629595604937609:True:=trivial
theorem PySem.W.Fast.tw14469197759589007417:True:=trivial
theorem PySem.W.Fast.tw16533951105286182294:True:=trivial
theorem PySem.W.Fast.tw11550528453832252566:True:=trivial
theorem PySem.W.Fast.tw8572445958787585899:True:=trivial
theorem PySem.W.Fast.tw12010352973665984386:True:=trivial
theorem PySem.W.Fast.tw4958180441237501698:True:=trivial
theorem PySem.W.Fast.tw3216761855192619385:True:=trivial
theorem PySem.W.Fast.tw3258895937986144874:True:=trivial
theorem PySem.W.Fast.tw13335162600901912788:True:=trivial
theorem PySem.W.Fast.tw11891373595965714591:True:=trivial
theorem PySem.W.Fast.tw16139096830869748539:True:=trivial
theorem PySem.W.Fast.tw8936682232841169078:True:=trivial
theorem PySem.W.Fast.tw950569113910184304:True:=trivial
theorem PySem.W.Fast.tw588709511913845262:True:=trivial
theorem PySem.W.Fast.tw17863818513055743840:True:=trivial
theorem PySem.W.Fast.tw1270774443910876996:True:=trivial
theorem PySem.W.Fast.tw5450772613572920109:True:=trivial
theorem PySem.W.Fast.tw13920923747280096746:True:=trivial
theorem PySem.W.Fast.tw2944947444337793305:True:=trivial
theorem PySem.W.Fast.tw17108278782964992414:True:=trivial
theorem PySem.W.Fast.tw863226298534506131:True:=trivial
theorem PySem.W.Fast.tw15254232309091877524:True:=trivial
theorem PySem.W.Fast.tw3402617620119055603:True:=trivial
theorem PySem.W.Fast.tw4457451677591423467:True:=trivial
theorem PySem.W.Fast.tw7207942062917650120:True:=trivial
theorem PySem.W.Fast.tw14217745223852630313:True:=trivial
theorem PySem.W.Fast.tw16178608604610960863:True:=trivial
theorem PySem.W.Fast.tw16721504146450970379:True:=trivial
theorem PySem.W.Fast.tw11901727361955546608:True:=trivial
theorem PySem.W.Fast.tw4883267266993268026:True:=trivial
theorem PySem.W.Fast.tw748706230350755318:True:=trivial
theorem PySem.W.Fast.tw16957596658634279958:True:=trivial
theorem PySem.W.Fast.tw10879532269743277295:True:=trivial
theorem PySem.W.Fast.tw3127061810728026827:True:=trivial
theorem PySem.W.Fast.tw2871626501626640652:True:=trivial
theorem PySem.W.Fast.tw13711232680080516680:True:=trivial
theorem PySem.W.Fast.tw10454123782124046151:True:=trivial
open PySem PySem.W PyProof.Rows
set_option maxRecDepth 100000 in
set_option maxHeartbeats 0 in
theorem PySem.Challenge.cw_thingyard_k42_parts_alone_holds : PySem.Challenge.rw_thingyard_k42_parts_alone.Holds := by
 w_on;o_law;k_head;(case hw=>w_witness2)
 k_fill
 refine My.zUE (l:=PySem.Challenge.rw_thingyard_k42_parts_alone) rfl rfl (fun w h Y=>PySem.W.kIn_of Y) ?F
 case F =>
  intro w mg fa h KX G hmg
  refine' My.zSi KX G hmg ?zEK ?zEL ?zEM ?zEN ?zEO ?zEP ?zEQ ?zCr ?zCs ?zCt ?zCu ?zCv ?zCw ?zCx ?a1 ?l1 ?c1 ?k1 ?a2 ?l2 ?c2 ?k2 ?a3 ?l3 ?c3 ?k3 ?a4 ?l4 ?c4 ?k4 ?a5 ?l5 ?c5 ?k5 ?a6 ?l6 ?c6 ?k6 ?a7 ?l7 ?c7 ?k7 ?a8 ?l8 ?c8 ?k8 ?a9 ?l9 ?c9 ?k9 ?a10 ?l10 ?c10 ?k10 ?a11 ?i11 ?l11 ?c11 ?k11 ?a12 ?i12 ?l12 ?c12 ?k12 ?a13 ?i13 ?l13 ?c13 ?k13 ?a14 ?i14 ?l14 ?c14 ?k14 ?a15 ?i15 ?l15 ?c15 ?k15 ?a16 ?i16 ?l16 ?c16 ?k16 ?a17 ?i17 ?l17 ?c17 ?k17 ?a18 ?i18 ?l18 ?c18 ?k18 ?a19 ?l19 ?c19 ?k19 ?a20 ?l20 ?c20 ?k20 ?a21 ?l21 ?c21 ?k21 ?a22 ?l22 ?c22 ?k22 ?a23 ?l23 ?c23 ?k23 ?a24 ?l24 ?c24 ?k24 ?a25 ?l25 ?c25 ?k25 ?a26 ?l26 ?c26 ?k26 ?a27 ?l27 ?c27 ?k27 ?a28 ?l28 ?c28 ?k28 ?a29 ?i29 ?l29 ?c29 ?k29 ?a30 ?i30 ?l30 ?c30 ?k30 ?a31 ?l31 ?c31 ?k31 ?a32 ?l32 ?c32 ?k32 ?a33 ?l33 ?c33 ?k33 ?a34 ?l34 ?c34 ?k34 ?a35 ?l35 ?c35 ?k35 ?a36 ?l36 ?c36 ?k36 ?z_range ?z_len ?z_all ?z_str ?z_sorted ?z_reversed ?z_isinstance ?z_list ?z_tuple ?z_zip ?z_dict ?v_MOST_SIGNS ?r_MOST_SIGNS ?v_MOST_STEPS ?r_MOST_STEPS ?v_KEPT_WORDS ?w_KEPT_WORDS ?r_KEPT_WORDS ?v_MOST_LETTERS ?r_MOST_LETTERS
  (case zEK=>k_is)
  (case zEL=>k_is)
  (case zEM=>k_is)
  (case zEN=>k_is)
  (case zEO=>k_is)
  (case zEP=>k_is)
  (case zEQ=>k_is)
  (case zCr=>k_is)
  (case zCs=>k_is)
  (case zCt=>k_is)
  (case zCu=>k_is)
  (case zCv=>k_is)
  (case zCw=>k_is)
  (case zCx=>k_is)
  (case a1=>k_is)
  (case l1=>k_is)
  (case c1=>k_is)
  (case k1=>k_is)
  (case a2=>k_is)
  (case l2=>k_is)
  (case c2=>k_is)
  (case k2=>k_is)
  (case a3=>k_is)
  (case l3=>k_is)
  (case c3=>k_is)
  (case k3=>k_is)
  (case a4=>k_is)
  (case l4=>k_is)
  (case c4=>k_is)
  (case k4=>k_is)
  (case a5=>k_is)
  (case l5=>k_is)
  (case c5=>k_is)
  (case k5=>k_is)
  (case a6=>k_is)
  (case l6=>k_is)
  (case c6=>k_is)
  (case k6=>k_is)
  (case a7=>k_is)
  (case l7=>k_is)
  (case c7=>k_is)
  (case k7=>k_is)
  (case a8=>k_is)
  (case l8=>k_is)
  (case c8=>k_is)
  (case k8=>k_is)
  (case a9=>k_is)
  (case l9=>k_is)
  (case c9=>k_is)
  (case k9=>k_is)
  (case a10=>k_is)
  (case l10=>k_is)
  (case c10=>k_is)
  (case k10=>k_is)
  (case a11=>k_is)
  (case i11=>k_is)
  (case l11=>k_is)
  (case c11=>k_is)
  (case k11=>k_is)
  (case a12=>k_is)
  (case i12=>k_is)
  (case l12=>k_is)
  (case c12=>k_is)
  (case k12=>k_is)
  (case a13=>k_is)
  (case i13=>k_is)
  (case l13=>k_is)
  (case c13=>k_is)
  (case k13=>k_is)
  (case a14=>k_is)
  (case i14=>k_is)
  (case l14=>k_is)
  (case c14=>k_is)
  (case k14=>k_is)
  (case a15=>k_is)
  (case i15=>k_is)
  (case l15=>k_is)
  (case c15=>k_is)
  (case k15=>k_is)
  (case a16=>k_is)
  (case i16=>k_is)
  (case l16=>k_is)
  (case c16=>k_is)
  (case k16=>k_is)
  (case a17=>k_is)
  (case i17=>k_is)
  (case l17=>k_is)
  (case c17=>k_is)
  (case k17=>k_is)
  (case a18=>k_is)
  (case i18=>k_is)
  (case l18=>k_is)
  (case c18=>k_is)
  (case k18=>k_is)
  (case a19=>k_is)
  (case l19=>k_is)
  (case c19=>k_is)
  (case k19=>k_is)
  (case a20=>k_is)
  (case l20=>k_is)
  (case c20=>k_is)
  (case k20=>k_is)
  (case a21=>k_is)
  (case l21=>k_is)
  (case c21=>k_is)
  (case k21=>k_is)
  (case a22=>k_is)
  (case l22=>k_is)
  (case c22=>k_is)
  (case k22=>k_is)
  (case a23=>k_is)
  (case l23=>k_is)
  (case c23=>k_is)
  (case k23=>k_is)
  (case a24=>k_is)
  (case l24=>k_is)
  (case c24=>k_is)
  (case k24=>k_is)
  (case a25=>k_is)
  (case l25=>k_is)
  (case c25=>k_is)
  (case k25=>k_is)
  (case a26=>k_is)
  (case l26=>k_is)
  (case c26=>k_is)
  (case k26=>k_is)
  (case a27=>k_is)
  (case l27=>k_is)
  (case c27=>k_is)
  (case k27=>k_is)
  (case a28=>k_is)
  (case l28=>k_is)
  (case c28=>k_is)
  (case k28=>k_is)
  (case a29=>k_is)
  (case i29=>k_is)
  (case l29=>k_is)
  (case c29=>k_is)
  (case k29=>k_is)
  (case a30=>k_is)
  (case i30=>k_is)
  (case l30=>k_is)
  (case c30=>k_is)
  (case k30=>k_is)
  (case a31=>k_is)
  (case l31=>k_is)
  (case c31=>k_is)
  (case k31=>k_is)
  (case a32=>k_is)
  (case l32=>k_is)
  (case c32=>k_is)
  (case k32=>k_is)
  (case a33=>k_is)
  (case l33=>k_is)
  (case c33=>k_is)
  (case k33=>k_is)
  (case a34=>k_is)
  (case l34=>k_is)
  (case c34=>k_is)
  (case k34=>k_is)
  (case a35=>k_is)
  (case l35=>k_is)
  (case c35=>k_is)
  (case k35=>k_is)
  (case a36=>k_is)
  (case l36=>k_is)
  (case c36=>k_is)
  (case k36=>k_is)
  (case z_range=>k_is)
  (case z_len=>k_is)
  (case z_all=>k_is)
  (case z_str=>k_is)
  (case z_sorted=>k_is)
  (case z_reversed=>k_is)
  (case z_isinstance=>k_is)
  (case z_list=>k_is)
  (case z_tuple=>k_is)
  (case z_zip=>k_is)
  (case z_dict=>k_is)
  (case v_MOST_SIGNS=>k_is)
  (case r_MOST_SIGNS=>rfl)
  (case v_MOST_STEPS=>k_is)
  (case r_MOST_STEPS=>rfl)
  (case v_KEPT_WORDS=>k_is)
  (case w_KEPT_WORDS=>k_is)
  (case r_KEPT_WORDS=>rfl)
  (case v_MOST_LETTERS=>k_is)
  (case r_MOST_LETTERS=>rfl)
