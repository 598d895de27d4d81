import PyProof.Rows.All
import Wide.All
import OpenK.AllK
import Wide.FinOn
import Lean
import PyProof.EqAt
import PyProof.EqKinds
import PyProof.TupleCall
import PySem.Challenge.RW_thingyard_k65_waves
set_option Elab.async false
set_option linter.all false
set_option maxRecDepth 100000
namespace L2
open PySem PySem.Spec PyProof.Rows
abbrev Key := Sum Int Str
def zBN : Key -> Value -> Bool
 | .inl k, v => Value.isInt k v
 | .inr x, v => Value.isStrOf x v
def zOU (w : World) : Key -> Int
 | .inl k => hashInt k
 | .inr x => hashStr w x
theorem j4 : ∀ {k : Key} {v : Value}, zBN k v = true -> (∃ i t, k = Sum.inl i /\ v = Value.int i t) \/ (∃ x t, k = Sum.inr x /\ v = Value.str x t)
 | .inl i, v, h => by
  obtain ⟨t, e⟩ := Value.isInt_shape (k := i) (v := v) h
  exact .inl ⟨i, t, rfl, e⟩
 | .inr x, v, h => by
  obtain ⟨t, e⟩ := Value.isStrOf_shape (x := x) (v := v) h
  exact .inr ⟨x, t, rfl, e⟩
theorem zIl (i : Int) (t : Tok) : zBN (.inl i) (.int i t) = true := by simp [zBN, Value.isInt]
theorem zHq (x : Str) (t : Tok) : zBN (.inr x) (.str x t) = true := by simp [zBN, Value.isStrOf]
theorem zMC (a b : Int) : decide ((Sum.inl a : Key) = Sum.inl b) = (a == b) := by
 by_cases e : a = b
 ·subst e; simp
 ·have h : ¬ (Sum.inl a : Key) = Sum.inl b := fun q => e (Sum.inl.inj q)
  rw [decide_eq_false h]
  exact (beq_eq_false_iff_ne.mpr e).symm
theorem zMy (a b : Str) : decide ((Sum.inr a : Key) = Sum.inr b) = decide (a = b) := by
 by_cases e : a = b
 ·subst e; simp
 ·have h : ¬ (Sum.inr a : Key) = Sum.inr b := fun q => e (Sum.inr.inj q)
  rw [decide_eq_false h, decide_eq_false e]
theorem zMA (a : Int) (b : Str) : decide ((Sum.inl a : Key) = Sum.inr b) = false := decide_eq_false (fun q => nomatch q)
theorem zL8 (a : Str) (b : Int) : decide ((Sum.inr a : Key) = Sum.inl b) = false := decide_eq_false (fun q => nomatch q)
def zq (prog : Program) (w : World) : PySem.KeyKind prog w Key where
 is := zBN
 hash := zOU w
 inj := fun v a b ha hb => by
  rcases j4 ha with ⟨i, t, rfl, rfl⟩ | ⟨x, t, rfl, rfl⟩
  ·rcases j4 hb with ⟨j, u, rfl, e⟩ | ⟨y, u, rfl, e⟩
   ·injection e with e1 _; rw [e1]
   ·exact nomatch e
  ·rcases j4 hb with ⟨j, u, rfl, e⟩ | ⟨y, u, rfl, e⟩
   ·exact nomatch e
   ·injection e with e1 _; rw [e1]
 byValue := fun k v h => by
  rcases j4 h with ⟨i, t, rfl, rfl⟩ | ⟨x, t, rfl, rfl⟩ <;> rfl
 pyHash := fun hv h => by
  rcases j4 hv with ⟨i, t, rfl, rfl⟩ | ⟨x, t, rfl, rfl⟩
  ·exact wpAny_pyHash_int h
  ·exact wpAny_pyHash_str h
 eqBool := fun hu hv h => by
  rcases j4 hu with ⟨i, t, rfl, rfl⟩ | ⟨x, t, rfl, rfl⟩
  ·rcases j4 hv with ⟨j, u, rfl, rfl⟩ | ⟨y, u, rfl, rfl⟩
   ·rw [zMC] at h; exact wpAny_eqBool_int h
   ·rw [zMA] at h; exact SeqAt.EqAt.int_str i t y u _ _ _ _ h
  ·rcases j4 hv with ⟨j, u, rfl, rfl⟩ | ⟨y, u, rfl, rfl⟩
   ·rw [zL8] at h; exact SeqAt.EqAt.str_int x t j u _ _ _ _ h
   ·rw [zMy] at h; exact wpAny_eqBool_str h
 «strs» := fun k x t v h => by
  rcases j4 h with ⟨i, u, rfl, e⟩ | ⟨y, u, rfl, e⟩
  ·exact nomatch e
  ·injection e with e1 _
   subst e1
   cases v <;> rfl
theorem zFt (prog : Program) (w : World) (i : Int) (t : Tok) : (zq prog w).is (.inl i) (.int i t) = true := zIl i t
theorem zF2 (prog : Program) (w : World) (x : Str) (t : Tok) : (zq prog w).is (.inr x) (.str x t) = true := zHq x t
end L2
namespace L2
open PySem PySem.Spec PyProof.Rows
inductive V where
 | non | bl (b : Bool) | int (i : Int) | str (x : Str) | byt (b : Array UInt8) | flt (b : UInt64) | ref (a : Addr) | ty (n : String)
 deriving DecidableEq
def zZ : V -> Value -> Prop
 | .non, u => u = Value.none
 | .bl b, u => u = Value.bool b
 | .int i, u => ∃ t, u = Value.int i t
 | .str x, u => ∃ t, u = Value.str x t
 | .byt b, u => ∃ t, u = Value.bytes b t
 | .flt b, u => ∃ t, u = Value.float b t
 | .ref a, u => u = Value.ref a
 | .ty n, u => u = Value.type n
abbrev zf : List V -> List Value -> Prop := Paired zZ
theorem zf.length {xs : List V} {us : List Value} (r : zf xs us) : xs.length = us.length := Paired.length r
theorem zf.get : ∀ {xs : List V} {us : List Value} {i : Nat} {x : V}, zf xs us -> xs[i]? = some x -> ∃ u, us[i]? = some u /\ zZ x u
 | _, _, _, _, .nil, e => by simp at e
 | _, _, 0, _, .cons r _, e => by simp at e; subst e; exact ⟨_, rfl, r⟩
 | _, _, i + 1, x, .cons _ t, e => by
  obtain ⟨u, h1, h2⟩ := zf.get (i := i) (x := x) t (by simpa using e)
  exact ⟨u, by simpa using h1, h2⟩
theorem zf.set {x : V} {u : Value} (r : zZ x u) : ∀ {xs : List V} {us : List Value} (i : Nat), zf xs us -> zf (xs.set i x) (us.set i u)
 | _, _, _, .nil => .nil
 | _, _, 0, .cons _ t => .cons r t
 | _, _, i + 1, .cons q t => .cons q (zf.set r i t)
theorem zf.append : ∀ {xs ys : List V} {us ws : List Value}, zf xs us -> zf ys ws -> zf (xs ++ ys) (us ++ ws)
 | _, _, _, _, .nil, s => s
 | _, _, _, _, .cons r t, s => .cons r (zf.append t s)
theorem zf.take : ∀ {xs : List V} {us : List Value} (n : Nat), zf xs us -> zf (xs.take n) (us.take n)
 | _, _, 0, _ => .nil
 | _, _, _ + 1, .nil => .nil
 | _, _, n + 1, .cons r t => .cons r (zf.take n t)
theorem zf.drop : ∀ {xs : List V} {us : List Value} (n : Nat), zf xs us -> zf (xs.drop n) (us.drop n)
 | _, _, 0, r => r
 | _, _, _ + 1, .nil => .nil
 | _, _, n + 1, .cons _ t => zf.drop n t
def Qd : Option V -> Option Value -> Prop
 | some v, some u => zZ v u
 | none, none => True
 | _, _ => False
def KV {κ : Type} : List (κ × V) -> List (κ × Value) -> Prop := Paired fun (p : κ × V) (q : κ × Value) => p.1 = q.1 /\ zZ p.2 q.2
def kV : Key -> V
 | .inl i => .int i
 | .inr x => .str x
inductive HO where
 | lst (xs : List V)
 | tup (xs : List V)
 | dK (kvs : List (Key × V)) | dT (kvs : List (List Key × V))
 | set (S : Int -> Bool) (n : Nat)
 | ins (C dx : Addr) (fs : List (Str × V))
 | own (x : Addr)
 | xd (fs : List (Str × V))
 | met (f x : Addr)
 | rng (lo hi : Int)
 | frz (o : Obj) (u : HO)
 | tbl (ps : Array Value)
 | ext (φ : Heap -> Prop)
abbrev Hp := Addr -> Option HO
def upd (H : Hp) (a : Addr) (o : HO) : Hp := fun b => if b = a then some o else H b
theorem z6 {H : Hp} {a : Addr} {o : HO} : upd H a o a = some o := by unfold upd; rw [if_pos rfl]
theorem zT {H : Hp} {a b : Addr} {o : HO} (h : b ≠ a) : upd H a o b = H b := by unfold upd; rw [if_neg h]
theorem zNs {H : Hp} {a b : Addr} {o u : HO} (h : H a = some o) (h' : H b = some u) (d : o ≠ u) : a ≠ b := by
 intro e; subst e; rw [h] at h'; exact d (Option.some.inj h')
theorem j8 {H : Hp} {a b : Addr} {o : HO} (h : H a = some o) (h' : H b = none) : a ≠ b := by
 intro e; subst e; rw [h] at h'; cases h'
section
variable (P : Program) (w : World)
def jV (H : Hp) (h : Heap) (a : Addr) : HO -> Prop
 | .lst xs => xs.length <= sizeLine /\ ∃ (its : List Value) (n : Nat), zf xs its /\ h.get? a = some { cls := .type "list", data := .seq its.toArray n }
 | .tup xs => xs.length <= sizeLine /\ ∃ its : List Value, zf xs its /\ IsTup h a its.toArray
 | .dK kvs => kvs.length <= sizeLine /\ (a == sysModules) = false /\ ∃ vs, KV kvs vs /\ h.DictOf (zq P w) a vs
 | .dT kvs => kvs.length <= sizeLine /\ (a == sysModules) = false /\ ∃ xs : List (List Key × Addr × Value),
   Paired (fun (p : List Key × V) (q : List Key × Addr × Value) => p.1 = q.1 /\ H q.2.1 = some (.tup (p.1.map kV)) /\ zZ p.2 q.2.2) kvs xs /\
   ∃ o es ep, h.get? a = some o /\ o.ExactDict /\ o.data = .dict es ep /\ es.toList = xs.map (entryOfKey (tupleKind (zq P w))) /\ (xs.map (·.1)).Nodup
 | .set S n => h.SetOf (intKind P w) a S n
 | .ins C dx fs => H dx = some (.own a) /\ fs.length <= 1000 /\ dx ≠ a /\ h.get? a = some (PySem.W.instObj C dx) /\
   ∃ mA, h.Ns1 dx mA /\ (∀ f, Qd (fs.lookup f) (mA f)) /\ PySem.Within mA (fs.map (·.1))
 | .own _ => ∃ o, h.get? a = some o
 | .xd fs => ∃ mA, h.Ns1 a mA /\ ∀ f, Qd (fs.lookup f) (mA f)
 | .rng lo hi => ∃ t u v, h.get? a = some { cls := .type "range", data := .fields #[.int lo t, .int hi u, .int 1 v] }
 | .frz o u => h.get? a = some o /\ jV H h a u
 | .tbl ps => h.get? a = some { cls := .none, data := .fields ps }
 | .met f x => h.get? a = some (PySem.W.methodObj (.ref f) (.ref x))
 | .ext φ => φ h /\ (∃ o, h.get? a = some o) /\ ∀ h1 h2 : Heap, φ h1 -> (∀ o, h1.get? a = some o -> h2.get? a = some o) -> φ h2
def HOk (H : Hp) (h : Heap) : Prop := ∀ a o, H a = some o -> jV P w H h a o
end
section
variable {P : Program} {w : World} {H H' : Hp} {h h' : Heap} {a : Addr} {o : HO}
theorem jV.lt (x : jV P w H h a o) : a < h.objs.size := by
 cases o with
 | lst xs => obtain ⟨_, _, _, _, e⟩ := x; exact Heap.lt_size e
 | tup xs => obtain ⟨_, _, _, p⟩ := x; exact p.lt
 | dK kvs => obtain ⟨_, _, _, _, o, _, _, e, _⟩ := x; exact Heap.lt_size e
 | dT kvs => obtain ⟨_, _, _, _, o, _, _, e, _⟩ := x; exact Heap.lt_size e
 | set S n => obtain ⟨o, _, _, _, e, _⟩ := x; exact Heap.lt_size e
 | ins C dx fs => obtain ⟨_, _, _, e, _⟩ := x; exact Heap.lt_size e
 | own y => obtain ⟨_, e⟩ := x; exact Heap.lt_size e
 | xd fs => obtain ⟨_, ⟨_, _, _, e, _⟩, _⟩ := x; exact Heap.lt_size e
 | rng lo hi => obtain ⟨_, _, _, e⟩ := x; exact Heap.lt_size e
 | frz ob u => obtain ⟨e, _⟩ := x; exact Heap.lt_size e
 | tbl ps => exact Heap.lt_size (show h.get? a = some _ from x)
 | met f y => exact Heap.lt_size (show h.get? a = some _ from x)
 | ext φ => obtain ⟨_, ⟨_, e⟩, _⟩ := x; exact Heap.lt_size e
theorem Paired.mapP {α β : Type} {F G : α -> β -> Prop} : ∀ {l₁ : List α} {l₂ : List β}, Paired F l₁ l₂ -> (∀ a b, F a b -> G a b) -> Paired G l₁ l₂
 | _, _, .nil, _ => .nil
 | _, _, .cons r t, f => .cons (f _ _ r) (Paired.mapP t f)
theorem jV.stay (x : jV P w H h a o) (k : ∀ b u, (b = a \/ H b = some (.own a)) -> h.get? b = some u -> h'.get? b = some u)
  (ho : ∀ b, H b = some (.own a) -> H' b = some (.own a)) (ht : ∀ b xs, H b = some (.tup xs) -> H' b = some (.tup xs)) : jV P w H' h' a o := by
 induction o with
 | lst xs => obtain ⟨z, its, n, r, e⟩ := x; exact ⟨z, its, n, r, k _ _ (.inl rfl) e⟩
 | tup xs => obtain ⟨z, its, r, ob, e, c⟩ := x; exact ⟨z, its, r, ob, k _ _ (.inl rfl) e, c⟩
 | dK kvs => obtain ⟨z, y, vs, r, ob, es, ep, e, c⟩ := x; exact ⟨z, y, vs, r, ob, es, ep, k _ _ (.inl rfl) e, c⟩
 | dT kvs =>
  obtain ⟨z, y, xs, r, ob, es, ep, e, c⟩ := x
  exact ⟨z, y, xs, Paired.mapP r fun p q z => ⟨z.1, ht _ _ z.2.1, z.2.2⟩, ob, es, ep, k _ _ (.inl rfl) e, c⟩
 | set S n => obtain ⟨ob, es, ep, t, e, c⟩ := x; exact ⟨ob, es, ep, t, k _ _ (.inl rfl) e, c⟩
 | ins C dx fs =>
  obtain ⟨d, z, ne, e, mA, ⟨od, es, ep, e2, c⟩, r⟩ := x
  exact ⟨ho _ d, z, ne, k _ _ (.inl rfl) e, mA, ⟨od, es, ep, k _ _ (.inr d) e2, c⟩, r⟩
 | own y => obtain ⟨ob, e⟩ := x; exact ⟨ob, k _ _ (.inl rfl) e⟩
 | xd fs => obtain ⟨mA, ⟨od, es, ep, e, c⟩, r⟩ := x; exact ⟨mA, ⟨od, es, ep, k _ _ (.inl rfl) e, c⟩, r⟩
 | rng lo hi => obtain ⟨t, u, v, e⟩ := x; exact ⟨t, u, v, k _ _ (.inl rfl) e⟩
 | frz ob u ih => obtain ⟨e, q⟩ := x; exact ⟨k _ _ (.inl rfl) e, ih q⟩
 | tbl ps =>
  have e : h.get? a = some { cls := .none, data := .fields ps } := x
  show h'.get? a = some { cls := .none, data := .fields ps }
  exact k a _ (.inl rfl) e
 | met f y =>
  have e : h.get? a = some (PySem.W.methodObj (.ref f) (.ref y)) := x
  show h'.get? a = some (PySem.W.methodObj (.ref f) (.ref y))
  exact k a _ (.inl rfl) e
 | ext φ => obtain ⟨p, ⟨o, e⟩, st⟩ := x; exact ⟨st _ _ p fun o q => k _ _ (.inl rfl) q, ⟨o, k _ _ (.inl rfl) e⟩, st⟩
theorem HOk.lt (x : HOk P w H h) (e : H a = some o) : a < h.objs.size := (x a o e).lt
theorem HOk.fresh (x : HOk P w H h) (e : h.objs.size <= a) : H a = none := by
 cases q : H a with
 | none => rfl
 | some u => exact absurd (Nat.lt_of_lt_of_le (x.lt q) e) (Nat.lt_irrefl _)
theorem HOk.kept (x : HOk P w H h) (k : ∀ b u, h.get? b = some u -> h'.get? b = some u) : HOk P w H h' := fun a o e =>
 (x a o e).stay (fun b u _ q => k b u q) (fun _ q => q) fun _ _ q => q
theorem HOk.laid (x : HOk P w H h) (k : ∀ b u, h.get? b = some u -> h'.get? b = some u) (hp : h.objs.size <= a) (new : jV P w (upd H a o) h' a o) : HOk P w (upd H a o) h' := fun b u e => by
 have hn := x.fresh hp
 by_cases hb : b = a
 ·subst hb; rw [z6] at e; cases e; exact new
 ·rw [zT hb] at e
  exact (x b u e).stay (fun c v _ q => k c v q) (fun c q => by rw [zT (j8 q hn)]; exact q) fun c xs q => by rw [zT (j8 q hn)]; exact q
end
def Rd (H : Hp) (a : Addr) (u : HO) : Prop := H a = some u \/ ∃ o, H a = some (.frz o u)
theorem Rd.ok {P : Program} {w : World} {H : Hp} {h : Heap} {a : Addr} {u : HO} (r : Rd H a u) (x : HOk P w H h) : jV P w H h a u := by
 rcases r with r | ⟨o, r⟩
 ·exact x a u r
 ·obtain ⟨_, q⟩ := x a _ r
  exact q
def Mut : Option HO -> Prop
 | some (.lst _) => True
 | some (.dK _) => True
 | some (.dT _) => True
 | some (.set _ _) => True
 | some (.ins _ _ _) => True
 | some (.ext _) => True
 | _ => False
section
variable {P : Program} {w : World} {H : Hp} {h h' : Heap} {x e : Addr} {o' : HO}
theorem HOk.write (ok : HOk P w H h) (mu : Mut (H x)) (he : e = x \/ H e = some (.own x)) (k : ∀ b u, b ≠ e -> h.get? b = some u -> h'.get? b = some u) (heo : ∃ u, h'.get? e = some u)
  (new : jV P w (upd H x o') h' x o') : HOk P w (upd H x o') h' := fun b u q => by
 have nown : ∀ c y, H c = some (.own y) -> c ≠ x := fun c y r z => by subst z; rw [r] at mu; exact mu
 have ntup : ∀ c xs, H c = some (.tup xs) -> c ≠ x := fun c xs r z => by subst z; rw [r] at mu; exact mu
 by_cases hb : b = x
 ·subst hb; rw [z6] at q; cases q; exact new
 ·rw [zT hb] at q
  by_cases hbe : b = e
  ·have q' : H b = some (.own x) := by
    rcases he with z | z
    ·exact absurd (hbe.trans z) hb
    ·rw [hbe]; exact z
   rw [q] at q'; cases q'
   obtain ⟨v, hv⟩ := heo
   exact ⟨v, by rw [hbe]; exact hv⟩
  ·refine (ok b u q).stay (fun c v hc r => k c v ?_ r) (fun c r => by rw [zT (nown c b r)]; exact r) fun c xs r => by rw [zT (ntup c xs r)]; exact r
   rcases hc with rfl | hc
   ·exact hbe
   ·rintro rfl
    rcases he with z | z
    ·exact nown c b hc z
    ·rw [hc] at z; cases z; exact hb rfl
end
structure Un (fs ex : List Addr) (H H' : Hp) (h h' : Heap) : Prop where
 keep : ∀ b o, h.get? b = some o -> H b = none -> b ∉ fs -> b ∉ ex -> h'.get? b = some o
 slot : ∀ b o, h.get? b = some o -> H b = none -> b ∈ fs -> b ∉ ex -> ∃ sl, h'.get? b = some { o with slots := sl }
 free : ∀ b o, h.get? b = some o -> H b = none -> b ∉ ex -> H' b = none
 there : ∀ b o, h.get? b = some o -> b ∉ ex -> ∃ o', h'.get? b = some o'
 tups : ∀ b xs, H b = some (.tup xs) -> H' b = some (.tup xs)
 frzs : ∀ b o u, H b = some (.frz o u) -> H' b = some (.frz o u)
 tbls : ∀ b ps, H b = some (.tbl ps) -> ∃ more, H' b = some (.tbl (ps ++ more))
section
variable {fs fs' ex ex' : List Addr} {H H1 H2 : Hp} {h h1 h2 h' : Heap} {a x e : Addr} {o : HO}
theorem Un.any (u : Un fs ex H H1 h h1) {b : Addr} {ob : Obj} (q : h.get? b = some ob) (n : H b = none) (hx : b ∉ ex) : ∃ sl, h1.get? b = some { ob with slots := sl } := by
 by_cases hb : b ∈ fs
 ·exact u.slot b ob q n hb hx
 ·exact ⟨ob.slots, u.keep b ob q n hb hx⟩
theorem Un.kept (k : ∀ b u, h.get? b = some u -> h'.get? b = some u) : Un fs ex H H h h' :=
 ⟨fun b ob q _ _ _ => k b ob q, fun b ob q _ _ _ => ⟨ob.slots, k b ob q⟩, fun _ _ _ n _ => n, fun b ob q _ => ⟨ob, k b ob q⟩, fun _ _ q => q, fun _ _ _ q => q, fun _ ps q => ⟨#[], by rw [q]; simp⟩⟩
theorem Un.refl : Un fs ex H H h h := Un.kept fun _ _ q => q
theorem Un.laid (k : ∀ b u, h.get? b = some u -> h'.get? b = some u) (hp : h.objs.size <= a) (hn : H a = none) : Un fs ex H (upd H a o) h h' where
 keep := fun b u q _ _ _ => k b u q
 slot := fun b u q _ _ _ => ⟨u.slots, k b u q⟩
 free := fun b u q n _ => by rw [zT (Nat.ne_of_lt (Nat.lt_of_lt_of_le (Heap.lt_size q) hp))]; exact n
 there := fun b u q _ => ⟨u, k b u q⟩
 tups := fun b xs q => by rw [zT (j8 q hn)]; exact q
 frzs := fun b u xs q => by rw [zT (j8 q hn)]; exact q
 tbls := fun b ps q => ⟨#[], by rw [zT (j8 q hn), q]; simp⟩
theorem Un.write (mu : Mut (H x)) (he : e = x \/ H e = some (.own x)) (k : ∀ b u, b ≠ e -> h.get? b = some u -> h'.get? b = some u) (heo : ∃ u, h'.get? e = some u) : Un fs ex H (upd H x o) h h' := by
 have hx : ∀ b, H b = none -> b ≠ x := fun b n z => by subst z; rw [n] at mu; exact mu
 have hb : ∀ b, H b = none -> b ≠ e := fun b n z => by
  subst z
  rcases he with r | r
  ·exact hx b n r
  ·rw [n] at r; cases r
 have hm : ∀ b u, H b = some u -> ¬ Mut (some u) -> b ≠ x := fun b u q nm z => by subst z; rw [q] at mu; exact nm mu
 refine ⟨fun b u q n _ _ => k b u (hb b n) q, fun b u q n _ _ => ⟨u.slots, k b u (hb b n) q⟩, fun b u q n _ => by rw [zT (hx b n)]; exact n, fun b u q _ => ?_,
  fun b xs q => by rw [zT (hm b _ q fun z => z)]; exact q, fun b u xs q => by rw [zT (hm b _ q fun z => z)]; exact q, fun b ps q => ⟨#[], by rw [zT (hm b _ q fun z => z), q]; simp⟩⟩
 by_cases hbe : b = e
 ·subst hbe; exact heo
 ·exact ⟨u, k b u hbe q⟩
end
def trk (h : Heap) (H : Hp) : List Addr := (List.range h.objs.size).filter fun a => (H a).isSome
def zAh (h : Heap) (H : Hp) : Heap := PySem.W.hideAll h (trk h H)
theorem zHr (h : Heap) (H : Hp) : (zAh h H).objs.size = h.objs.size := PySem.W.hideAll_size _ _
theorem zIx {h : Heap} {H : Hp} {b : Addr} {o : Obj} (e : h.get? b = some o) (n : H b = none) : (zAh h H).get? b = some o :=
 PySem.W.hideAll_get _ e fun hm => by
  have q : (H b).isSome = true := (List.mem_filter.mp hm).2
  rw [n] at q; simp at q
theorem zLf {h : Heap} {H : Hp} {b : Addr} {o : Obj} (e : (zAh h H).get? b = some o) : h.get? b = some o /\ H b = none := by
 have e' : h.get? b = some o := PySem.W.of_hideAll (trk h H) e
 refine ⟨e', ?_⟩
 cases q : H b with
 | none => rfl
 | some x =>
  have hm : b ∈ trk h H := List.mem_filter.mpr ⟨List.mem_range.mpr (Heap.lt_size e'), by simp [q]⟩
  have z : (zAh h H).get? b = none := PySem.W.hideAll_none (trk h H) hm
  rw [z] at e; cases e
def zLH (g h : Heap) (L : Addr) : List (Addr × Obj) := (List.range h.objs.size).filterMap fun a => if a = L \/ (g.get? a).isSome = true then none else (h.get? a).map fun o => (a, o)
def jW (g h : Heap) (L d : Addr) : List (Addr × Obj) := (zLH g h L).filter fun p => decide (p.1 ≠ d)
end L2
namespace L2
open PySem PySem.Spec PyProof.Rows
structure Mod (K : PySem.W.Frag) (mg : Str -> Option Value) (base : Heap) : Prop where
 kin : K.In base
 glob : base.Ns mainGlobals mg
 blt : ∃ mb, base.Ns builtinsNs mb /\ ∀ x : Str, x ≠ "__name__" -> mb x = bootBuiltins x
 nolimit : base.NoLimit
structure Cx where
 prog : Program
 w : World
 K : PySem.W.Frag
 mg : Str -> Option Value
 base : Heap
 A : Around
 N : List Str
 s₀ : Shared
 H₀ : Hp
 env : Env
 outer : List Env
 stack : List Env
 ex : List Addr
 fn : Str -> Bool
 calm : Bool
 pn : List (Addr × Obj)
 xe : Value -> Shared -> Prop
def frs (l : List Env) : List Addr := l.filterMap (·.frame)
abbrev Cx.fs (X : Cx) : List Addr := frs X.outer
def Vis (sc : Scope) (x : Str) : Prop := sc.names.lookup x = some .local \/ sc.names.lookup x = some .cell \/ sc.names.lookup x = some .free
def Loc (sc : Scope) (x : Str) : Prop := sc.names.lookup x = some .local \/ sc.names.lookup x = some .cell
def zOX (env : Env) (h : Heap) (m : Str -> Option Value) (x : Str) (u : Value) : Prop :=
 (env.kindOf x = some .local /\ m x = some u) \/ ((env.kindOf x = some .cell \/ env.kindOf x = some .free) /\ ∃ c, env.cells.lookup x = some c /\ h.IsCell c (some u))
structure Cx.Ok (X : Cx) : Prop where
 mod : Mod X.K X.mg X.base
 kind : X.env.scope.kind = .function
 glob : X.env.globals = mainGlobals
 blt : X.env.builtins = builtinsNs
 above : X.s₀.heap.objs.size <= X.env.locals
 inj : ∀ x y c, X.env.cells.lookup x = some c -> X.env.cells.lookup y = some c -> x = y
 has : ∀ x, (X.env.kindOf x = some .cell \/ X.env.kindOf x = some .free) -> ∃ c, X.env.cells.lookup x = some c
 cab : ∀ x c, X.fn x = true -> X.env.cells.lookup x = some c -> X.s₀.heap.objs.size <= c
 hd : X.calm = true -> X.A.handled = none
 frames : X.A.frames = some X.stack
 stk : X.stack = X.outer \/ (X.stack = X.env :: X.outer /\ X.env.frame = some X.env.locals)
 exf : ∀ b ∈ X.ex, b ≠ X.env.locals /\ ∀ x c, X.env.cells.lookup x = some c -> c ≠ b
 bs : ∀ b o, X.base.get? b = some o -> X.s₀.heap.get? b = some o /\ X.H₀ b = none
 bsz : X.base.objs.size <= X.s₀.heap.objs.size
 noex : ∀ b o, X.base.get? b = some o -> b ∉ X.ex
 exfs : ∀ b ∈ X.ex, b ∉ X.fs
 funs : X.s₀.heap.FunFrames X.base X.outer
 frf : ∀ b ∈ X.fs, X.H₀ b = none
structure Inv (X : Cx) (pins : List (Addr × Obj)) (σ : List (Option V)) (H : Hp) (s : Shared) : Prop where
 ok : X.Ok
 os : s.os = X.s₀.os
 bare : AllBare s.gens
 base : Un X.fs X.ex X.H₀ H X.s₀.heap s.heap
 loc : ∃ m, s.heap.Ns X.env.locals m /\ ∀ (i : Nat) (x : Str) (v : V), X.N[i]? = some x -> σ[i]? = some (some v) -> Vis X.env.scope x -> ∃ u, zZ v u /\ zOX X.env s.heap m x u
 cell : ∀ x c, X.env.cells.lookup x = some c -> ∃ v, s.heap.IsCell c v
 free : H X.env.locals = none
 freeC : ∀ x c, X.env.cells.lookup x = some c -> H c = none
 pin : ∀ p ∈ X.pn ++ pins, s.heap.get? p.1 = some p.2 /\ H p.1 = none /\ p.1 ≠ X.env.locals /\ p.1 ∉ X.fs /\ ∀ v, p.2.data ≠ .cell v
 hok : HOk X.prog X.w H s.heap
 len : σ.length = X.N.length
 tk : 0 < s.toks
section
variable {X : Cx} {pins : List (Addr × Obj)} {σ : List (Option V)} {H H' : Hp} {s : Shared} {h' : Heap}
theorem Cx.Ok.nofr (ok : X.Ok) {b : Addr} {o : Obj} (e : X.base.get? b = some o) : b ∉ X.fs := fun hb => by
 have := (ok.funs.mem hb).1
 rw [e] at this; cases this
theorem Inv.bs (I : Inv X pins σ H s) : ∀ b o, X.base.get? b = some o -> s.heap.get? b = some o /\ H b = none := fun b o e =>
 ⟨I.base.keep b o (I.ok.bs b o e).1 (I.ok.bs b o e).2 (I.ok.nofr e) (I.ok.noex b o e), I.base.free b o (I.ok.bs b o e).1 (I.ok.bs b o e).2 (I.ok.noex b o e)⟩
theorem Inv.bk (I : Inv X pins σ H s) : ∀ b o, X.base.get? b = some o -> s.heap.get? b = some o := fun b o e => (I.bs b o e).1
theorem Inv.mod (I : Inv X pins σ H s) : Mod X.K X.mg X.base := I.ok.mod
theorem Inv.kIn (I : Inv X pins σ H s) : X.K.In s.heap := I.ok.mod.kin.keeps I.bk
theorem Inv.fr (I : Inv X pins σ H s) : ∃ m, Fr X.base X.env.locals s.heap m :=
 let ⟨m, hn, _⟩ := I.loc
 ⟨m, hn, I.bk, Nat.le_trans I.ok.bsz I.ok.above⟩
theorem Inv.lt (I : Inv X pins σ H s) : X.env.locals < s.heap.objs.size := let ⟨_, hn, _⟩ := I.loc; hn.lt
theorem Inv.sz (I : Inv X pins σ H s) : X.s₀.heap.objs.size <= s.heap.objs.size := Nat.le_trans I.ok.above (Nat.le_of_lt I.lt)
theorem Inv.nofs (I : Inv X pins σ H s) {a : Addr} (h : s.heap.objs.size <= a) : a ∉ X.fs := fun hb => by
 obtain ⟨_, o, ho, _⟩ := I.ok.funs.mem hb
 exact absurd (Nat.lt_of_lt_of_le (Heap.lt_size ho) (Nat.le_trans I.sz h)) (Nat.lt_irrefl _)
theorem Inv.cne (I : Inv X pins σ H s) : ∀ x c, X.env.cells.lookup x = some c -> c ≠ X.env.locals := fun x c e z => by
 obtain ⟨v, o, ho, hd⟩ := I.cell x c e
 obtain ⟨m, ⟨o', es, ep, ho', hd', _⟩, _⟩ := I.loc
 rw [z, ho'] at ho; cases ho; rw [hd'] at hd; cases hd
theorem Inv.funs (I : Inv X pins σ H s) : s.heap.FunFrames X.base X.outer := by
 have all : ∀ (l : List Env), (∀ b ∈ frs l, b ∈ X.fs) -> X.s₀.heap.FunFrames X.base l -> s.heap.FunFrames X.base l := by
  intro l
  induction l with
  | nil => intro _ _; trivial
  | cons env r ih =>
   intro hs hl
   obtain ⟨hk, ⟨L, o, hf, hn, ho, hd⟩, hr⟩ := hl
   have hL : L ∈ X.fs := hs L (by unfold frs; rw [List.filterMap_cons, hf]; exact List.mem_cons_self)
   obtain ⟨sl, e⟩ := I.base.slot L o ho (I.ok.frf L hL) hL fun z => I.ok.exfs L z hL
   exact ⟨hk, ⟨L, _, hf, hn, e, hd⟩, ih (fun b hb => hs b (by unfold frs; rw [List.filterMap_cons, hf]; exact List.mem_cons_of_mem _ hb)) hr⟩
 exact all X.outer (fun _ hb => hb) I.ok.funs
theorem Inv.stack (I : Inv X pins σ H s) : s.heap.FunFrames X.base X.stack := by
 rcases I.ok.stk with e | ⟨e, hf⟩
 ·rw [e]; exact I.funs
 ·rw [e]
  obtain ⟨m, hn, _⟩ := I.loc
  refine .cons (by rw [I.ok.kind]; decide) hf hn ?_ I.funs
  exact Heap.get?_none_of_le (Nat.le_trans I.ok.bsz I.ok.above)
theorem Inv.stkSub (I : Inv X pins σ H s) : ∀ b ∈ frs X.stack, b ∈ X.env.locals :: X.fs := fun b hb => by
 rcases I.ok.stk with e | ⟨e, hf⟩
 ·rw [e] at hb; exact List.mem_cons_of_mem _ hb
 ·rw [e] at hb
  unfold frs at hb
  rw [List.filterMap_cons, hf] at hb
  exact hb
theorem Inv.stkFree (I : Inv X pins σ H s) : ∀ b ∈ frs X.stack, H b = none := fun b hb => by
 rcases List.mem_cons.mp (I.stkSub b hb) with e | hb
 ·rw [e]; exact I.free
 ·obtain ⟨_, o, ho, _⟩ := I.ok.funs.mem hb
  exact I.base.free b o ho (I.ok.frf b hb) fun z => I.ok.exfs b z hb
theorem Inv.step {g' : Array GenState} {t' : Nat} {d' : Drawn} {ch : List Addr} (I : Inv X pins σ H s)
  (hch : ∀ b ∈ ch, (b ∈ X.ex \/ X.s₀.heap.objs.size <= b) /\ b ≠ X.env.locals /\ (∀ x c, X.env.cells.lookup x = some c -> c ≠ b) /\ ∀ p ∈ X.pn ++ pins, p.1 ≠ b)
  (keep : ∀ b o, b ≠ X.env.locals -> b ∉ X.fs -> b ∉ ch -> s.heap.get? b = some o -> H b = none -> h'.get? b = some o)
  (slot : ∀ b o, b ≠ X.env.locals -> b ∈ X.fs -> b ∉ ch -> s.heap.get? b = some o -> H b = none -> ∃ sl, h'.get? b = some { o with slots := sl }) (free : ∀ b o, b ∉ ch -> s.heap.get? b = some o -> H b = none -> H' b = none)
  (there : ∀ b o, b ∉ ch -> s.heap.get? b = some o -> ∃ o', h'.get? b = some o')
  (tups : ∀ b xs, H b = some (.tup xs) -> H' b = some (.tup xs)) (frzs : ∀ b o u, H b = some (.frz o u) -> H' b = some (.frz o u)) (tbls : ∀ b ps, H b = some (.tbl ps) -> ∃ more, H' b = some (.tbl (ps ++ more)))
  (ns : ∀ m, s.heap.Ns X.env.locals m -> h'.Ns X.env.locals m) (hok : HOk X.prog X.w H' h') (hg : AllBare g') (ht : 0 < t' := by first | exact Nat.succ_pos _ | assumption | exact Inv.tk (by assumption) | omega) :
  Inv X pins σ H' { s with heap := h', gens := g', drawn := d', toks := t' } := by
 have neL : ∀ b o, X.s₀.heap.get? b = some o -> b ≠ X.env.locals := fun b o e => Nat.ne_of_lt (Nat.lt_of_lt_of_le (Heap.lt_size e) I.ok.above)
 have neC : ∀ b o, X.s₀.heap.get? b = some o -> b ∉ X.ex -> b ∉ ch := fun b o e hx hb => by
  rcases (hch b hb).1 with z | z
  ·exact hx z
  ·exact absurd (Nat.lt_of_lt_of_le (Heap.lt_size e) z) (Nat.lt_irrefl _)
 have cellK : ∀ x c, X.env.cells.lookup x = some c -> ∀ v, s.heap.IsCell c v -> h'.IsCell c v := fun x c e v ⟨o, ho, hd⟩ => by
  have nch : c ∉ ch := fun z => (hch c z).2.2.1 x c e rfl
  by_cases hc : c ∈ X.fs
  ·obtain ⟨sl, q⟩ := slot c o (I.cne x c e) hc nch ho (I.freeC x c e)
   exact ⟨_, q, hd⟩
  ·exact ⟨o, keep c o (I.cne x c e) hc nch ho (I.freeC x c e), hd⟩
 refine ⟨I.ok, I.os, hg, ⟨fun b o e n hb hx => ?_, fun b o e n hb hx => ?_, fun b o e n hx => ?_, fun b o e hx => ?_, fun b xs e => tups b xs (I.base.tups b xs e), fun b o xs e => frzs b o xs (I.base.frzs b o xs e), fun b ps e => ?_⟩, ?_, fun x c e => ?_, ?_, fun x c e => ?_, fun p hp => ?_, hok, I.len, ht⟩
 ·exact keep b o (neL b o e) hb (neC b o e hx) (I.base.keep b o e n hb hx) (I.base.free b o e n hx)
 ·obtain ⟨sl, e1⟩ := I.base.slot b o e n hb hx
  obtain ⟨sl', e2⟩ := slot b _ (neL b o e) hb (neC b o e hx) e1 (I.base.free b o e n hx)
  exact ⟨sl', e2⟩
 ·obtain ⟨o', e1⟩ := I.base.there b o e hx
  exact free b o' (neC b o e hx) e1 (I.base.free b o e n hx)
 ·obtain ⟨o', e1⟩ := I.base.there b o e hx
  exact there b o' (neC b o e hx) e1
 ·obtain ⟨m1, e1⟩ := I.base.tbls b ps e
  obtain ⟨m2, e2⟩ := tbls b _ e1
  exact ⟨m1 ++ m2, by rw [e2, Array.append_assoc]⟩
 ·obtain ⟨m, hn, hl⟩ := I.loc
  refine ⟨m, ns m hn, fun i x v e1 e2 e3 => ?_⟩
  obtain ⟨u, r, l⟩ := hl i x v e1 e2 e3
  refine ⟨u, r, ?_⟩
  rcases l with l | ⟨k, c, e, z⟩
  ·exact .inl l
  ·exact .inr ⟨k, c, e, cellK x c e _ z⟩
 ·obtain ⟨v, z⟩ := I.cell x c e
  exact ⟨v, cellK x c e v z⟩
 ·obtain ⟨m, ⟨o, _, _, ho, _⟩, _⟩ := I.loc
  exact free _ o (fun z => (hch _ z).2.1 rfl) ho I.free
 ·obtain ⟨v, o, ho, hd⟩ := I.cell x c e
  exact free c o (fun z => (hch c z).2.2.1 x c e rfl) ho (I.freeC x c e)
 ·obtain ⟨e, n, ne, nf, d⟩ := I.pin p hp
  have nch : p.1 ∉ ch := fun z => (hch p.1 z).2.2.2 p hp rfl
  exact ⟨keep p.1 p.2 ne nf nch e n, free p.1 p.2 nch e n, ne, nf, d⟩
theorem Inv.un {t' : Nat} (I : Inv X pins σ H s) (u : Un X.fs [] H H' s.heap h') (hok : HOk X.prog X.w H' h') (ht : 0 < t' := by first | exact Nat.succ_pos _ | assumption | exact Inv.tk (by assumption) | omega) : Inv X pins σ H' { s with heap := h', toks := t' } := by
 obtain ⟨m, ⟨o, es, ep, ho, r⟩, _⟩ := id I.loc
 obtain ⟨sl, hL⟩ := u.any ho I.free (by simp)
 exact I.step (g' := s.gens) (d' := s.drawn) (ch := []) (fun _ z => nomatch z) (fun b o _ hb _ e n => u.keep b o e n hb (by simp)) (fun b o _ hb _ e n => u.slot b o e n hb (by simp)) (fun b o _ e n => u.free b o e n (by simp)) (fun b o _ e => u.there b o e (by simp)) u.tups u.frzs u.tbls (fun m' hm => by
  obtain ⟨o', es', ep', ho', r'⟩ := hm
  rw [ho] at ho'; cases ho'
  exact ⟨_, es', ep', hL, r'⟩) hok I.bare ht
theorem Inv.call {g' : Array GenState} {t' : Nat} {d' : Drawn} {ch : List Addr} (I : Inv X pins σ H s) (u : Un (frs X.stack) ch H H' s.heap h') (hok : HOk X.prog X.w H' h') (hg : AllBare g')
  (hch : ∀ b ∈ ch, (b ∈ X.ex \/ X.s₀.heap.objs.size <= b) /\ b ≠ X.env.locals /\ (∀ x c, X.env.cells.lookup x = some c -> c ≠ b) /\ ∀ p ∈ X.pn ++ pins, p.1 ≠ b) (ht : 0 < t' := by first | exact Nat.succ_pos _ | assumption | exact Inv.tk (by assumption) | omega) :
  Inv X pins σ H' { s with heap := h', gens := g', drawn := d', toks := t' } := by
 obtain ⟨m, ⟨o, es, ep, ho, r⟩, _⟩ := id I.loc
 obtain ⟨sl, hL⟩ := u.any ho I.free fun z => (hch _ z).2.1 rfl
 exact I.step (ch := ch) hch (fun b o hL hb hc e n => u.keep b o e n (fun z => (List.mem_cons.mp (I.stkSub b z)).elim hL hb) hc) (fun b o _ _ hc e n => u.any e n hc) (fun b o hc e n => u.free b o e n hc) (fun b o hc e => u.there b o e hc) u.tups u.frzs u.tbls (fun m' hm => by
  obtain ⟨o', es', ep', ho', r'⟩ := hm
  rw [ho] at ho'; cases ho'
  exact ⟨_, es', ep', hL, r'⟩) hok hg ht
theorem Inv.turned {t' : Nat} {it : Addr} (I : Inv X pins σ H s) (k : ∀ b o, b ≠ it -> s.heap.get? b = some o -> h'.get? b = some o) (hn : H it = none) (hL : it ≠ X.env.locals)
  (h1 : it ∈ X.ex \/ X.s₀.heap.objs.size <= it) (h2 : ∀ x c, X.env.cells.lookup x = some c -> c ≠ it) (h3 : ∀ p ∈ X.pn ++ pins, p.1 ≠ it) (ht : 0 < t' := by first | exact Nat.succ_pos _ | assumption | exact Inv.tk (by assumption) | omega) : Inv X pins σ H { s with heap := h', toks := t' } := by
 have nit : ∀ b u, H b = some u -> b ≠ it := fun b u e z => by rw [z, hn] at e; cases e
 refine I.step (g' := s.gens) (d' := s.drawn) (ch := [it]) (fun b hb => ?_) (fun b o _ _ hc e _ => k b o (fun z => hc (by simp [z])) e) (fun b o _ _ hc e _ => ⟨o.slots, k b o (fun z => hc (by simp [z])) e⟩) (fun _ _ _ _ n => n)
  (fun b o hc e => ⟨o, k b o (fun z => hc (by simp [z])) e⟩) (fun _ _ e => e) (fun _ _ _ e => e) (fun b ps e => ⟨#[], by rw [e]; simp⟩) (fun m hm => ?_) (fun b u e => ?_) I.bare ht
 ·have e : b = it := by simpa using hb
  subst e
  exact ⟨h1, hL, h2, h3⟩
 ·obtain ⟨o, es, ep, ho, r⟩ := hm
  exact ⟨o, es, ep, k _ o (Ne.symm hL) ho, r⟩
 ·refine (I.hok b u e).stay (fun c v hc q => k c v ?_ q) (fun _ q => q) fun _ _ q => q
  rcases hc with z | z
  ·rw [z]; exact nit b u e
  ·exact nit c _ z
theorem Inv.tok (I : Inv X pins σ H s) (t : Nat) (ht : 0 < t := by first | exact Nat.succ_pos _ | assumption | exact Inv.tk (by assumption) | omega) : Inv X pins σ H { s with toks := t } := I.un (h' := s.heap) (t' := t) Un.refl I.hok ht
theorem Inv.kept {t' : Nat} (I : Inv X pins σ H s) (k : ∀ b u, s.heap.get? b = some u -> h'.get? b = some u) (ht : 0 < t' := by first | exact Nat.succ_pos _ | assumption | exact Inv.tk (by assumption) | omega) : Inv X pins σ H { s with heap := h', toks := t' } := I.un (Un.kept k) (I.hok.kept k) ht
theorem Inv.laid {a : Addr} {o : HO} {t' : Nat} (I : Inv X pins σ H s) (k : ∀ b u, s.heap.get? b = some u -> h'.get? b = some u) (hp : s.heap.objs.size <= a) (new : jV X.prog X.w (upd H a o) h' a o) (ht : 0 < t' := by first | exact Nat.succ_pos _ | assumption | exact Inv.tk (by assumption) | omega) :
  Inv X pins σ (upd H a o) { s with heap := h', toks := t' } := I.un (Un.laid k hp (I.hok.fresh hp)) (I.hok.laid k hp new) ht
theorem Inv.write {x e : Addr} {o : HO} {t' : Nat} (I : Inv X pins σ H s) (mu : Mut (H x)) (he : e = x \/ H e = some (.own x)) (k : ∀ b u, b ≠ e -> s.heap.get? b = some u -> h'.get? b = some u) (heo : ∃ u, h'.get? e = some u)
  (new : jV X.prog X.w (upd H x o) h' x o) (ht : 0 < t' := by first | exact Nat.succ_pos _ | assumption | exact Inv.tk (by assumption) | omega) : Inv X pins σ (upd H x o) { s with heap := h', toks := t' } := I.un (Un.write mu he k heo) (I.hok.write mu he k heo new) ht
theorem Inv.weak {σ' : List (Option V)} (I : Inv X pins σ H s) (hl : σ'.length = σ.length) (w : ∀ (i : Nat) v, σ'[i]? = some (some v) -> σ[i]? = some (some v)) : Inv X pins σ' H s :=
 ⟨I.ok, I.os, I.bare, I.base, let ⟨m, hn, hl'⟩ := I.loc; ⟨m, hn, fun i x v e1 e2 e3 => hl' i x v e1 (w i v e2) e3⟩, I.cell, I.free, I.freeC, I.pin, I.hok, hl.trans I.len, I.tk⟩
theorem Inv.pins_of {pins' : List (Addr × Obj)} (I : Inv X pins σ H s) (h : ∀ p ∈ pins', s.heap.get? p.1 = some p.2 /\ H p.1 = none /\ p.1 ≠ X.env.locals /\ p.1 ∉ X.fs /\ ∀ v, p.2.data ≠ .cell v) : Inv X pins' σ H s :=
 ⟨I.ok, I.os, I.bare, I.base, I.loc, I.cell, I.free, I.freeC, fun p hp => (List.mem_append.mp hp).elim (fun z => I.pin p (List.mem_append_left _ z)) (h p), I.hok, I.len, I.tk⟩
theorem zFZ {N : List Str} (hN : N.Nodup) {i j : Nat} {x : Str} (a : N[i]? = some x) (b : N[j]? = some x) : i = j := by
 obtain ⟨h1, e1⟩ := List.getElem?_eq_some_iff.mp a
 obtain ⟨h2, e2⟩ := List.getElem?_eq_some_iff.mp b
 exact (List.getElem_inj hN).mp (e1.trans e2.symm)
theorem zDa {M : Model} {A : Around} {E : Value -> Shared -> Prop} {i : Nat} {x : Str} {v : V} {u : Value} {Q : Unit -> Shared -> Prop} (I : Inv X pins σ H s) (hN : X.N.Nodup) (hi : X.N[i]? = some x) (hx : Loc X.env.scope x) (r : zZ v u)
  (h : ∀ s', Inv X pins (σ.set i (some v)) H s' -> (∃ a, Heap.SameBut a s.heap s'.heap /\ (a = X.env.locals \/ X.env.cells.lookup x = some a)) -> Q () s') (hf : X.fn x = true \/ X.env.scope.names.lookup x = some .local := by first | exact .inl rfl | exact .inr rfl | assumption) : wpAny M A (storeName X.env x u) Q E s := by
 obtain ⟨m, hn, hl⟩ := id I.loc
 have hcls : (X.env.scope.kind == .class || (X.env.scope.kind == .module && X.env.locals != X.env.globals)) = false := by rw [I.ok.kind]; rfl
 have hiσ : i < σ.length := by rw [I.len]; exact (List.getElem?_eq_some_iff.mp hi).1
 have cne := I.cne
 have tracked : ∀ {a : Addr} {h' : Heap}, (∃ o, s.heap.get? a = some o /\ H a = none) -> Heap.SameBut a s.heap h' -> HOk X.prog X.w H h' := fun {a h'} ha hs b ob e => by
  obtain ⟨_, _, hfree⟩ := ha
  refine (I.hok b ob e).stay (fun c w' hc q => (hs.2 c ?_).trans q) (fun _ q => q) fun _ _ q => q
  rintro rfl
  rcases hc with rfl | hc
  ·rw [hfree] at e; cases e
  ·rw [hfree] at hc; cases hc
 rcases hx with hk | hk
 ·refine wpAny_storeName_local hk hn (fun h' hn' hs => ?_) hcls
  obtain ⟨oL, _, _, hoL, _⟩ := id hn
  refine h _ ⟨I.ok, I.os, I.bare, ⟨fun b o e n hb hx => ?_, fun b o e n hb hx => ?_, I.base.free, fun b o e hx => ?_, I.base.tups, I.base.frzs, I.base.tbls⟩, ⟨_, hn', fun j y v' e1 e2 e3 => ?_⟩, fun y c e => ?_, I.free, I.freeC, fun p hp => ?_, tracked ⟨oL, hoL, I.free⟩ hs, by simpa using I.len, Nat.succ_pos _⟩ ⟨_, hs, .inl rfl⟩
  ·exact (hs.2 b (Nat.ne_of_lt (Nat.lt_of_lt_of_le (Heap.lt_size e) I.ok.above))).trans (I.base.keep b o e n hb hx)
  ·obtain ⟨sl, e1⟩ := I.base.slot b o e n hb hx
   exact ⟨sl, (hs.2 b (Nat.ne_of_lt (Nat.lt_of_lt_of_le (Heap.lt_size e) I.ok.above))).trans e1⟩
  ·obtain ⟨o', e1⟩ := I.base.there b o e hx
   exact ⟨o', (hs.2 b (Nat.ne_of_lt (Nat.lt_of_lt_of_le (Heap.lt_size e) I.ok.above))).trans e1⟩
  ·by_cases hj : j = i
   ·subst hj
    rw [hi] at e1; cases e1
    rw [List.getElem?_set_self hiσ] at e2
    cases e2
    exact ⟨u, r, .inl ⟨hk, by simp⟩⟩
   ·rw [List.getElem?_set_ne (Ne.symm hj)] at e2
    obtain ⟨u', r', q⟩ := hl j y v' e1 e2 e3
    refine ⟨u', r', ?_⟩
    rcases q with ⟨k, e⟩ | ⟨k, c, e, z⟩
    ·refine .inl ⟨k, ?_⟩
     have : y ≠ x := fun e => hj (zFZ hN e1 (e ▸ hi))
     simp [this, e]
    ·exact .inr ⟨k, c, e, z.sameBut hs (cne y c e)⟩
  ·obtain ⟨w', z⟩ := I.cell y c e
   exact ⟨w', z.sameBut hs (cne y c e)⟩
  ·obtain ⟨e, n, ne, nf, d⟩ := I.pin p hp
   exact ⟨(hs.2 p.1 ne).trans e, n, ne, nf, d⟩
 ·have hfn : X.fn x = true := by
   rcases hf with z | z
   ·exact z
   ·rw [z] at hk; cases hk
  obtain ⟨c, hc⟩ := I.ok.has x (.inl hk)
  obtain ⟨w', z⟩ := I.cell x c hc
  refine wpAny_storeName_cell I.ok.kind hk hc z (fun h' hc' hs => ?_)
  obtain ⟨oc, hoc, hocd⟩ := id z
  refine h { s with heap := h' } ⟨I.ok, I.os, I.bare, ⟨fun b o e n hb hx => ?_, fun b o e n hb hx => ?_, I.base.free, fun b o e hx => ?_, I.base.tups, I.base.frzs, I.base.tbls⟩, ⟨m, hn.sameBut hs (Ne.symm (cne x c hc)), fun j y v' e1 e2 e3 => ?_⟩, fun y c' e => ?_, I.free, I.freeC, fun p hp => ?_, tracked ⟨oc, hoc, I.freeC x c hc⟩ hs, by simpa using I.len, I.tk⟩ ⟨c, hs, .inr hc⟩
  ·exact (hs.2 b (Nat.ne_of_lt (Nat.lt_of_lt_of_le (Heap.lt_size e) (I.ok.cab x c hfn hc)))).trans (I.base.keep b o e n hb hx)
  ·obtain ⟨sl, e1⟩ := I.base.slot b o e n hb hx
   exact ⟨sl, (hs.2 b (Nat.ne_of_lt (Nat.lt_of_lt_of_le (Heap.lt_size e) (I.ok.cab x c hfn hc)))).trans e1⟩
  ·obtain ⟨o', e1⟩ := I.base.there b o e hx
   exact ⟨o', (hs.2 b (Nat.ne_of_lt (Nat.lt_of_lt_of_le (Heap.lt_size e) (I.ok.cab x c hfn hc)))).trans e1⟩
  ·by_cases hj : j = i
   ·subst hj
    rw [hi] at e1; cases e1
    rw [List.getElem?_set_self hiσ] at e2
    cases e2
    exact ⟨u, r, .inr ⟨.inl hk, c, hc, hc'⟩⟩
   ·rw [List.getElem?_set_ne (Ne.symm hj)] at e2
    obtain ⟨u', r', q⟩ := hl j y v' e1 e2 e3
    refine ⟨u', r', ?_⟩
    rcases q with q | ⟨k, c', e, z'⟩
    ·exact .inl q
    ·refine .inr ⟨k, c', e, z'.sameBut hs ?_⟩
     rintro rfl
     exact hj (zFZ hN e1 (I.ok.inj _ _ _ e hc ▸ hi))
  ·by_cases hcc : c' = c
   ·subst hcc; exact ⟨_, hc'⟩
   ·obtain ⟨w2, z2⟩ := I.cell y c' e
    exact ⟨w2, z2.sameBut hs hcc⟩
  ·obtain ⟨e, n, ne, nf, d⟩ := I.pin p hp
   refine ⟨(hs.2 p.1 ?_).trans e, n, ne, nf, d⟩
   intro q
   rw [q, hoc] at e
   have q' : oc = p.2 := Option.some.inj e
   exact d w' (by rw [<- q']; exact hocd)
theorem zBz {M : Model} {A : Around} {E : Value -> Shared -> Prop} {i : Nat} {x : Str} {v : V} {u : Value} {Q : Unit -> Shared -> Prop} (I : Inv X pins σ H s) (hN : X.N.Nodup) (hi : X.N[i]? = some x) (hx : Loc X.env.scope x) (r : zZ v u)
  (h : ∀ s', Inv X pins (σ.set i (some v)) H s' -> Q () s') (hf : X.fn x = true \/ X.env.scope.names.lookup x = some .local := by first | exact .inl rfl | exact .inr rfl | assumption) : wpAny M A (storeName X.env x u) Q E s :=
 zDa I hN hi hx r (fun s' I' _ => h s' I') hf
theorem Inv.call' {s' : Shared} {ch : List Addr} (I : Inv X pins σ H s) (ho : s'.os = s.os) (u : Un (frs X.stack) ch H H' s.heap s'.heap) (hok : HOk X.prog X.w H' s'.heap) (hg : AllBare s'.gens)
  (hch : ∀ b ∈ ch, (b ∈ X.ex \/ X.s₀.heap.objs.size <= b) /\ b ≠ X.env.locals /\ (∀ x c, X.env.cells.lookup x = some c -> c ≠ b) /\ ∀ p ∈ X.pn ++ pins, p.1 ≠ b) (ht : 0 < s'.toks) : Inv X pins σ H' s' := by
 obtain ⟨h', g', d', t', o'⟩ := s'
 have e : o' = s.os := ho
 subst e
 exact I.call (g' := g') (t' := t') (d' := d') u hok hg hch ht
end
abbrev XK := Value -> Option Addr -> Hp -> Prop
abbrev St := List (Option V)
abbrev VK := V -> Hp -> Prop
abbrev TE := St -> Hp -> VK -> Prop
abbrev TT := St -> Hp -> (Bool -> Hp -> Prop) -> Prop
abbrev TA := St -> Hp -> (List V -> Hp -> Prop) -> Prop
structure Qk where
 nx : St -> Hp -> Prop
 rt : VK
 bk : St -> Hp -> Prop := fun _ _ => False
 ct : St -> Hp -> Prop := fun _ _ => False
abbrev TS := Qk -> St -> Hp -> Prop
def EP (X : Cx) (pins : List (Addr × Obj)) (σ : St) (Q : VK) (u : Value) (s' : Shared) : Prop := ∃ v H', Inv X pins σ H' s' /\ zZ v u /\ Q v H'
def TP (X : Cx) (pins : List (Addr × Obj)) (σ : St) (Q : Bool -> Hp -> Prop) (b : Bool) (s' : Shared) : Prop := ∃ H', Inv X pins σ H' s' /\ Q b H'
def AP (X : Cx) (pins : List (Addr × Obj)) (σ : St) (Q : List V -> Hp -> Prop) (us : List Value) (s' : Shared) : Prop := ∃ vs H', Inv X pins σ H' s' /\ zf vs us /\ Q vs H'
def SP (X : Cx) (pins : List (Addr × Obj)) (D : Qk) (f : Flow) (s' : Shared) : Prop :=
 match f with
 | .next => ∃ σ' H', Inv X pins σ' H' s' /\ D.nx σ' H'
 | .brk => ∃ σ' H', Inv X pins σ' H' s' /\ D.bk σ' H'
 | .cont => ∃ σ' H', Inv X pins σ' H' s' /\ D.ct σ' H'
 | .ret u => ∃ v σ' H', Inv X pins σ' H' s' /\ zZ v u /\ D.rt v H'
def PE (X : Cx) (e : Expr) (t : TE) : Prop :=
 ∀ (pins : List (Addr × Obj)) (s : Shared) (σ : St) (H : Hp) (Q : VK), Inv X pins σ H s -> t σ H Q -> wpAny (model X.prog X.w) X.A (eval e X.env) (EP X pins σ Q) X.xe s
def PT (X : Cx) (e : Expr) (t : TT) : Prop :=
 ∀ (pins : List (Addr × Obj)) (s : Shared) (σ : St) (H : Hp) (Q : Bool -> Hp -> Prop), Inv X pins σ H s -> t σ H Q -> wpAny (model X.prog X.w) X.A (isTrue e X.env (eval e X.env)) (TP X pins σ Q) X.xe s
def PW (X : Cx) (e : Expr) (t : TT) : Prop :=
 ∀ (whole : Sem Value) (pins : List (Addr × Obj)) (s : Shared) (σ : St) (H : Hp) (Q : Bool -> Hp -> Prop), Inv X pins σ H s -> t σ H Q -> wpAny (model X.prog X.w) X.A (isTrue e X.env whole) (TP X pins σ Q) X.xe s
theorem PW.pt {X : Cx} {e : Expr} {t : TT} (h : PW X e t) : PT X e t := h _
def PA (X : Cx) (es : List Expr) (t : TA) : Prop :=
 ∀ (pos : Pos) (pins : List (Addr × Obj)) (s : Shared) (σ : St) (H : Hp) (Q : List V -> Hp -> Prop), Inv X pins σ H s -> t σ H Q -> wpAny (model X.prog X.w) X.A (spliced (backTo pos (starEach es X.env))) (AP X pins σ Q) X.xe s
def PS (X : Cx) (st : Stmt) (t : TS) : Prop :=
 ∀ (pins : List (Addr × Obj)) (s : Shared) (σ : St) (H : Hp) (D : Qk), Inv X pins σ H s -> t D σ H -> wpAny (model X.prog X.w) X.A (exec st X.env) (SP X pins D) X.xe s
def PSs (X : Cx) (st : List Stmt) (t : TS) : Prop :=
 ∀ (pins : List (Addr × Obj)) (s : Shared) (σ : St) (H : Hp) (D : Qk), Inv X pins σ H s -> t D σ H -> wpAny (model X.prog X.w) X.A (execs st X.env) (SP X pins D) X.xe s
theorem thn {α : Type} {t : Sem α} {Q Q' : α -> Shared -> Prop} {M : Model} {A : Around} {E : Value -> Shared -> Prop} {s : Shared} (h : wpAny M A t Q E s) (hQ : ∀ a s, Q a s -> Q' a s) : wpAny M A t Q' E s := wpAny_mono h hQ fun _ _ x => x
end L2
namespace L2
open PySem PySem.Spec PyProof.Rows
section
variable {X : Cx}
def zOa (i : Nat) : TE := fun σ H Q => ∃ v, σ[i]? = some (some v) /\ Q v H
def tC (v : V) : TE := fun _ H Q => Q v H
theorem zMB {i : Nat} {x : Str} {pos : Pos} (hN : X.N[i]? = some x) (hv : Vis X.env.scope x) (hd : (x == ("__debug__" : Str)) = false := by decide) (hcd : (x == ("__classdict__" : Str)) = false := by decide) : PE X (.Name x pos) (zOa i) := by
 intro pins s σ H Q I h
 obtain ⟨v, e, h⟩ := h
 obtain ⟨m, hn, hl⟩ := I.loc
 obtain ⟨u, r, l⟩ := hl i x v hN e hv
 have fin : EP X pins σ Q u s := ⟨v, H, I, r, h⟩
 rcases l with ⟨hk, hm⟩ | ⟨hk, c, hc, hcell⟩
 ·exact wpAny_Name (wpAny_loadName_local I.ok.kind hk hn hm fin) hd
 ·rcases hk with hk | hk
  ·exact wpAny_Name (wpAny_loadName_cell I.ok.kind hk hc hcell fin) hd
  ·exact wpAny_Name (wpAny_loadName_free I.ok.kind hk hc hcell fin hcd) hd
theorem zMg {i j pos} : PE X (.Constant (.int i) j pos) (tC (.int i)) := fun _ _ _ H _ I h => wpAny_Constant_int ⟨.int i, H, I.tok _, ⟨_, rfl⟩, h⟩
theorem zNx {b j pos} : PE X (.Constant (.bool b) j pos) (tC (.bl b)) := fun _ _ _ H _ I h => Constant_bool ⟨.bl b, H, I, rfl, h⟩
theorem zMH {j pos} : PE X (.Constant .none j pos) (tC .non) := fun _ _ _ H _ I h => Constant_none ⟨.non, H, I, rfl, h⟩
theorem zIo {x j pos} : PE X (.Constant (.str x) j pos) (tC (.str x)) := fun _ _ _ H _ I h => Calls.Constant_str ⟨.str x, H, I.tok _, ⟨_, rfl⟩, h⟩
def Gl (X : Cx) (x : Str) : Prop := X.env.kindOf x = some .globalImplicit
theorem zK6 {E : Value -> Shared -> Prop} {pins : List (Addr × Obj)} {s : Shared} {σ : St} {H : Hp} {x : Str} {u : Value} {pos : Pos} {Q : Value -> Shared -> Prop} (I : Inv X pins σ H s) (hg : Gl X x) (hm : X.mg x = some u) (h : Q u s)
  (hd : (x == ("__debug__" : Str)) = false := by decide) : wpAny (model X.prog X.w) X.A (eval (.Name x pos) X.env) Q E s :=
 Calls.Name_function_global I.ok.kind hg (Calls.loadGlobal_global (by rw [I.ok.glob]; exact I.mod.glob.keeps I.bk) hm h) hd
theorem JZ {E : Value -> Shared -> Prop} {pins : List (Addr × Obj)} {s : Shared} {σ : St} {H : Hp} {x : Str} {u : Value} {pos : Pos} {Q : Value -> Shared -> Prop} (I : Inv X pins σ H s) (hg : Gl X x) (hm : X.mg x = none) (hv : bootBuiltins x = some u) (h : Q u s)
  (hn : x ≠ "__name__" := by decide) (hd : (x == ("__debug__" : Str)) = false := by decide) : wpAny (model X.prog X.w) X.A (eval (.Name x pos) X.env) Q E s := by
 obtain ⟨mb, h1, h2⟩ := I.mod.blt
 exact Calls.Name_function_global I.ok.kind hg (Calls.loadGlobal_builtin (by rw [I.ok.glob]; exact I.mod.glob.keeps I.bk) hm (by rw [I.ok.blt]; exact h1.keeps I.bk) ((h2 x hn).trans hv) h) hd
theorem zK5 {x : Str} {v : V} {u : Value} {pos : Pos} (hg : Gl X x) (hm : X.mg x = none) (hv : bootBuiltins x = some u) (r : zZ v u) (hn : x ≠ "__name__" := by decide) (hd : (x == ("__debug__" : Str)) = false := by decide) : PE X (.Name x pos) (tC v) :=
 fun _ _ _ H _ I h => JZ I hg hm hv ⟨v, H, I, r, h⟩ hn hd
variable {a b : Expr} {ta tb : TE} {pos : Pos}
def PC (X : Cx) (op : CmpOp) (a b : Expr) (t : TE) : Prop :=
 ∀ (pins : List (Addr × Obj)) (s : Shared) (σ : St) (H : Hp) (Q : VK), Inv X pins σ H s -> t σ H Q ->
  wpAny (model X.prog X.w) X.A (eval a X.env) (fun v s₁ => wpAny (model X.prog X.w) X.A (eval b X.env) (fun u s₂ => wpAny (model X.prog X.w) X.A (compareOp op v u) (EP X pins σ Q) X.xe s₂) X.xe s₁) X.xe s
theorem zJR (b : Expr) {op : CmpOp} (h : op ≠ .In) (h2 : op ≠ .NotIn) : behindInMarks op b = false := by
 have e1 : (op == CmpOp.In) = false := by cases op <;> first | rfl | exact absurd rfl h
 have e2 : (op == CmpOp.NotIn) = false := by cases op <;> first | rfl | exact absurd rfl h2
 cases b <;> simp [behindInMarks, e1, e2]
def zBe (ta : TE) : TE := fun σ H Q => ta σ H fun x H1 => Q (.bl (decide (x = .non))) H1
def Jy (ta : TE) : TE := fun σ H Q => ta σ H fun x H1 => Q (.bl (!decide (x = .non))) H1
theorem zZ.none_iff {x : V} {v : Value} (r : zZ x v) : (v == Value.none) = decide (x = .non) := by
 cases x with
 | non => cases r; rfl
 | bl _ => cases r; rfl
 | int _ => obtain ⟨t, rfl⟩ := r; rfl
 | str _ => obtain ⟨t, rfl⟩ := r; rfl
 | byt _ => obtain ⟨t, rfl⟩ := r; rfl
 | flt _ => obtain ⟨t, rfl⟩ := r; rfl
 | ref _ => cases r; rfl
 | ty _ => cases r; rfl
theorem zMj {j pos'} (ha : PE X a ta) : PC X .Is a (.Constant .none j pos') (zBe ta) := by
 intro pins s σ H Q I h
 refine thn (ha pins s σ H _ I h) fun v s1 ⟨x, H1, I1, r1, q1⟩ => ?_
 exact Constant_none (is_none_gen ⟨.bl _, H1, I1, by rw [r1.none_iff]; rfl, q1⟩)
theorem zKV {j pos'} (ha : PE X a ta) : PC X .IsNot a (.Constant .none j pos') (Jy ta) := by
 intro pins s σ H Q I h
 refine thn (ha pins s σ H _ I h) fun v s1 ⟨x, H1, I1, r1, q1⟩ => ?_
 exact Constant_none (isnot_none_gen ⟨.bl _, H1, I1, by rw [r1.none_iff]; rfl, q1⟩)
def tB (t : TE) : TT := fun σ H Q => t σ H fun x H1 => ∃ c, x = .bl c /\ Q c H1
theorem zHs {op : CmpOp} {t : TE} (h : PC X op a b t) (h1 : behindInMarks op b = false := by first | exact zJR _ (by decide) (by decide) | rfl) : PT X (.Compare a [op] [b] pos) (tB t) := by
 intro pins s σ H Q I hw
 refine wpAny_isTrue_Compare1 (thn (h pins s σ H _ I hw) fun v s1 h1 => thn h1 fun u s2 h2 => thn h2 fun c s3 ⟨x, H1, I1, r1, q1⟩ => ?_) h1
 obtain ⟨d, rfl, q⟩ := q1
 cases r1
 exact wpAny_truthy_bool ⟨H1, I1, q⟩
variable {tA tB' : TT} {jW : List Expr}
def zFg (t u : TT) : TT := fun σ H Q => t σ H fun c H1 => if c = true then u σ H1 Q else Q false H1
def tOr (t u : TT) : TT := fun σ H Q => t σ H fun c H1 => if c = true then Q true H1 else u σ H1 Q
def y6 (t : TT) : TT := fun σ H Q => t σ H fun c H1 => Q (!c) H1
theorem zLF (ha : PT X a tA) : PW X (.BoolOp .And [a] pos) tA := by
 intro wh pins s σ H Q I h
 refine isTrue_and (thn (ha pins s σ H Q I h) fun c s1 e => ?_)
 cases c with
 | true => exact isTrue_and_nil e
 | false => exact e
theorem zL6 (ha : PT X a tA) : PW X (.BoolOp .Or [a] pos) tA := by
 intro wh pins s σ H Q I h
 refine isTrue_or (thn (ha pins s σ H Q I h) fun c s1 e => ?_)
 cases c with
 | false => exact isTrue_or_nil e
 | true => exact e
theorem zLl (ha : PT X a tA) (hb : PW X (.BoolOp .And (b :: jW) pos) tB') : PW X (.BoolOp .And (a :: b :: jW) pos) (zFg tA tB') := by
 intro wh pins s σ H Q I h
 refine isTrue_and (thn (ha pins s σ H _ I h) fun c s1 ⟨H1, I1, q1⟩ => ?_)
 cases c with
 | true => exact hb wh pins s1 σ H1 Q I1 q1
 | false => exact ⟨H1, I1, q1⟩
theorem zN9 (ha : PT X a tA) (hb : PW X (.BoolOp .Or (b :: jW) pos) tB') : PW X (.BoolOp .Or (a :: b :: jW) pos) (tOr tA tB') := by
 intro wh pins s σ H Q I h
 refine isTrue_or (thn (ha pins s σ H _ I h) fun c s1 ⟨H1, I1, q1⟩ => ?_)
 cases c with
 | true => exact ⟨H1, I1, q1⟩
 | false => exact hb wh pins s1 σ H1 Q I1 q1
theorem zNV (ha : PT X a tA) : PT X (.UnaryOp .Not a pos) (y6 tA) := by
 intro pins s σ H Q I h
 exact isTrue_not (ha pins s σ H (fun c H1 => Q (!c) H1) I h)
def zN5 (ta tb : TE) : TE := fun σ H Q => ta σ H fun x H1 => ∃ c, x = .bl c /\ if c = true then tb σ H1 Q else Q (.bl false) H1
def zOT (ta tb : TE) : TE := fun σ H Q => ta σ H fun x H1 => ∃ c, x = .bl c /\ if c = true then Q (.bl true) H1 else tb σ H1 Q
theorem zNG {op} {t : TE} (h : PE X a t) : PE X (.BoolOp op [a] pos) t := fun pins s σ H Q I hw => BoolOp_one (h pins s σ H Q I hw)
theorem zME (ha : PE X a ta) (hb : PE X (.BoolOp .And (b :: jW) pos) tb) : PE X (.BoolOp .And (a :: b :: jW) pos) (zN5 ta tb) := by
 intro pins s σ H Q I h
 refine BoolOp_and (thn (ha pins s σ H _ I h) fun v s1 ⟨x, H1, I1, r1, q1⟩ => ?_)
 obtain ⟨c, rfl, q1⟩ := q1
 cases r1
 refine wpAny_truthy_bool ?_
 cases c with
 | true => exact hb pins s1 σ H1 Q I1 q1
 | false => exact ⟨.bl false, H1, I1, rfl, q1⟩
theorem zNi (ha : PE X a ta) (hb : PE X (.BoolOp .Or (b :: jW) pos) tb) : PE X (.BoolOp .Or (a :: b :: jW) pos) (zOT ta tb) := by
 intro pins s σ H Q I h
 refine BoolOp_or (thn (ha pins s σ H _ I h) fun v s1 ⟨x, H1, I1, r1, q1⟩ => ?_)
 obtain ⟨c, rfl, q1⟩ := q1
 cases r1
 refine wpAny_truthy_bool ?_
 cases c with
 | false => exact hb pins s1 σ H1 Q I1 q1
 | true => exact ⟨.bl true, H1, I1, rfl, q1⟩
end
end L2
namespace L2
open PySem PySem.Spec PyProof.Rows
def SqL (K : PySem.W.Frag) (H : Hp) (a : Addr) (xs : List V) : Prop :=
 Rd H a (.lst xs) \/
  ∃ (o : Obj) (its : Array Value) (n : Nat), K.lookup a = some o /\ o.cls = .type "list" /\ o.dict = none /\ o.data = .seq its n /\ its.size <= sizeLine /\ zf xs its.toList
def SqT (K : PySem.W.Frag) (H : Hp) (a : Addr) (xs : List V) : Prop :=
 Rd H a (.tup xs) \/
  ∃ (o : Obj) (its : Array Value) (n : Nat), K.lookup a = some o /\ o.cls = .type "tuple" /\ o.data = .seq its n /\ its.size <= sizeLine /\ zf xs its.toList
def zOw : Value -> Option V
 | .none => some .non
 | .bool b => some (.bl b)
 | .int i _ => some (.int i)
 | .str x _ => some (.str x)
 | .bytes b _ => some (.byt b)
 | .float b _ => some (.flt b)
 | .ref a => some (.ref a)
 | .type n => some (.ty n)
 | _ => none
theorem zZ.abs {x : V} {u : Value} (r : zZ x u) : zOw u = some x := by
 cases x with
 | non => cases r; rfl
 | bl _ => cases r; rfl
 | int _ => obtain ⟨t, rfl⟩ := r; rfl
 | str _ => obtain ⟨t, rfl⟩ := r; rfl
 | byt _ => obtain ⟨t, rfl⟩ := r; rfl
 | flt _ => obtain ⟨t, rfl⟩ := r; rfl
 | ref _ => cases r; rfl
 | ty _ => cases r; rfl
theorem zZ.inj {x y : V} {u : Value} (r : zZ x u) (q : zZ y u) : x = y := Option.some.inj (r.abs.symm.trans q.abs)
theorem zf.inj : ∀ {xs ys : List V} {us : List Value}, zf xs us -> zf ys us -> xs = ys
 | _, _, _, .nil, .nil => rfl
 | _, _, _, .cons r t, .cons r' t' => by rw [r.inj r', zf.inj t t']
section
variable {X : Cx} {pins : List (Addr × Obj)} {σ : St} {H : Hp} {s : Shared} {a : Addr} {xs ys : List V}
theorem SqL.of {K : PySem.W.Frag} (h : H a = some (.lst xs)) : SqL K H a xs := .inl (.inl h)
theorem SqT.of {K : PySem.W.Frag} (h : H a = some (.tup xs)) : SqT K H a xs := .inl (.inl h)
theorem Inv.list (I : Inv X pins σ H s) (h : SqL X.K H a xs) : ∃ its : List Value, zf xs its /\ PlainL s.heap a its.toArray /\ xs.length <= sizeLine := by
 rcases h with h | ⟨o, its, n, hk, hc, hd, hs, hz, r⟩
 ·obtain ⟨z, its, n, r, e⟩ := h.ok I.hok
  exact ⟨its, r, ⟨_, n, e, rfl, rfl, rfl⟩, z⟩
 ·refine ⟨its.toList, r, ⟨o, n, I.kIn a o hk, hc, hd, by simpa using hs⟩, ?_⟩
  have e := r.length
  simp only [Array.length_toList] at e
  omega
theorem Inv.tuple (I : Inv X pins σ H s) (h : SqT X.K H a xs) : ∃ its : List Value, zf xs its /\ IsTup s.heap a its.toArray /\ xs.length <= sizeLine := by
 rcases h with h | ⟨o, its, n, hk, hc, hs, hz, r⟩
 ·obtain ⟨z, its, r, p⟩ := h.ok I.hok
  exact ⟨its, r, p, z⟩
 ·refine ⟨its.toList, r, ⟨o, I.kIn a o hk, hc, n, by simpa using hs⟩, ?_⟩
  have e := r.length
  simp only [Array.length_toList] at e
  omega
theorem Inv.list_inj (I : Inv X pins σ H s) (h : SqL X.K H a xs) (h' : SqL X.K H a ys) : xs = ys := by
 obtain ⟨its, r, ⟨o, n, e, _, _, d⟩, _⟩ := I.list h
 obtain ⟨its', r', ⟨o', n', e', _, _, d'⟩, _⟩ := I.list h'
 rw [e] at e'; cases e'
 rw [d] at d'
 injection d' with d1 _
 have : its = its' := by simpa using congrArg Array.toList d1
 subst this
 exact r.inj r'
theorem Inv.tuple_inj (I : Inv X pins σ H s) (h : SqT X.K H a xs) (h' : SqT X.K H a ys) : xs = ys := by
 obtain ⟨its, r, ⟨o, e, _, n, d⟩, _⟩ := I.tuple h
 obtain ⟨its', r', ⟨o', e', _, n', d'⟩, _⟩ := I.tuple h'
 rw [e] at e'; cases e'
 rw [d] at d'
 injection d' with d1 _
 have : its = its' := by simpa using congrArg Array.toList d1
 subst this
 exact r.inj r'
end
abbrev Cx.wish (X : Cx) (E : Value -> Shared -> Prop) : Cx := { X with xe := E }
abbrev Cx.nox (X : Cx) : Cx := X.wish fun _ _ => False
theorem Cx.Ok.wish {X : Cx} (ok : X.Ok) (E : Value -> Shared -> Prop) : (X.wish E).Ok :=
 ⟨ok.mod, ok.kind, ok.glob, ok.blt, ok.above, ok.inj, ok.has, ok.cab, ok.hd, ok.frames, ok.stk, ok.exf, ok.bs, ok.bsz, ok.noex, ok.exfs, ok.funs, ok.frf⟩
theorem Cx.Ok.unwish {X : Cx} {E : Value -> Shared -> Prop} (ok : (X.wish E).Ok) : X.Ok :=
 ⟨ok.mod, ok.kind, ok.glob, ok.blt, ok.above, ok.inj, ok.has, ok.cab, ok.hd, ok.frames, ok.stk, ok.exf, ok.bs, ok.bsz, ok.noex, ok.exfs, ok.funs, ok.frf⟩
section
variable {X : Cx} {pins : List (Addr × Obj)} {σ : St} {H : Hp} {s : Shared} {E : Value -> Shared -> Prop}
theorem Inv.wish (I : Inv X pins σ H s) (E : Value -> Shared -> Prop) : Inv (X.wish E) pins σ H s := ⟨I.ok.wish E, I.os, I.bare, I.base, I.loc, I.cell, I.free, I.freeC, I.pin, I.hok, I.len, I.tk⟩
theorem Inv.unwish (I : Inv (X.wish E) pins σ H s) : Inv X pins σ H s := ⟨I.ok.unwish, I.os, I.bare, I.base, I.loc, I.cell, I.free, I.freeC, I.pin, I.hok, I.len, I.tk⟩
theorem SP.unwish {D : Qk} {f : Flow} {s' : Shared} (h : SP (X.wish E) pins D f s') : SP X pins D f s' := by
 cases f with
 | next => obtain ⟨σ', H', I, q⟩ := h; exact ⟨σ', H', I.unwish, q⟩
 | brk => obtain ⟨σ', H', I, q⟩ := h; exact ⟨σ', H', I.unwish, q⟩
 | cont => obtain ⟨σ', H', I, q⟩ := h; exact ⟨σ', H', I.unwish, q⟩
 | ret u => obtain ⟨v, σ', H', I, r, q⟩ := h; exact ⟨v, σ', H', I.unwish, r, q⟩
theorem PSs.nox {st : List Stmt} {t : TS} (h : PSs X.nox st t) : PSs X st t := fun pins s σ H D I hw =>
 wpAny_mono (h pins s σ H D (I.wish _) hw) (fun _ _ q => q.unwish) fun _ _ z => False.elim z
end
section
variable {X : Cx} {st : Stmt} {jW : List Stmt} {t u : TS} {e : Expr} {te : TE} {pos : Pos}
def zN8 : TS := fun D σ H => D.nx σ H
def zOR (t u : TS) : TS := fun D σ H => t { D with nx := u D } σ H
theorem zLU : PSs X [] zN8 := fun _ _ σ H _ I h => wpAny_execs_nil ⟨σ, H, I, h⟩
theorem zI8 (h1 : PS X st t) (h2 : PSs X jW u) : PSs X (st :: jW) (zOR t u) := by
 intro pins s σ H D I h
 refine wpAny_execs_cons (thn (h1 pins s σ H { D with nx := u D } I h) fun f s1 q => ?_)
 cases f with
 | next =>
  obtain ⟨σ', H', I', q⟩ := q
  exact h2 pins s1 σ' H' D I' q
 | ret v => exact q
 | brk => exact q
 | cont => exact q
theorem zLN (h1 : PS X st t) : PSs X [st] t := by
 intro pins s σ H D I h
 refine wpAny_execs_cons (thn (h1 pins s σ H D I h) fun f s1 q => ?_)
 cases f with
 | next => exact wpAny_execs_nil q
 | ret v => exact q
 | brk => exact q
 | cont => exact q
theorem Inv.quiet {pins : List (Addr × Obj)} {σ : St} {H : Hp} {s : Shared} (I : Inv X pins σ H s) : interactive X.env = false := by simp [interactive, I.ok.kind]
def zOD (te : TE) : TS := fun D σ H => te σ H fun _ H1 => D.nx σ H1
theorem zLL (he : PE X e te) (hs : swapsWith e none pos.line X.env = pure false := by rfl) : PS X (.Expr e pos) (zOD te) := by
 intro pins s σ H D I h
 exact wpAny_Expr_any (thn (he pins s σ H _ I h) fun v s1 ⟨x, H1, I1, r1, q1⟩ => ⟨σ, H1, I1, q1⟩) I.quiet hs
def zOg (te : TE) : TS := fun D σ H => te σ H D.rt
theorem zMs (he : PE X e te) : PS X (.Return (some e) pos) (zOg te) := by
 intro pins s σ H D I h
 exact wpAny_Return_some (thn (he pins s σ H _ I h) fun v s1 ⟨x, H1, I1, r1, q1⟩ => ⟨x, σ, H1, I1, r1, q1⟩)
def zOm (c : TT) (t u : TS) : TS := fun D σ H => c σ H fun b H1 => if b = true then t D σ H1 else u D σ H1
theorem zNu {c : Expr} {a b : List Stmt} {tc : TT} (hc : PT X c tc) (ha : PSs X a t) (hb : PSs X b u) : PS X (.If c a b pos) (zOm tc t u) := by
 intro pins s σ H D I h
 refine wpAny_If (thn (hc pins s σ H _ I h) fun d s1 ⟨H1, I1, q1⟩ => ?_)
 cases d with
 | true => exact ha pins s1 σ H1 D I1 q1
 | false => exact hb pins s1 σ H1 D I1 q1
end
abbrev TG := V -> St -> Hp -> (St -> Hp -> Prop) -> Prop
abbrev TGs := List V -> St -> Hp -> (St -> Hp -> Prop) -> Prop
def PG (X : Cx) (target : Expr) (t : TG) : Prop :=
 ∀ (pins : List (Addr × Obj)) (s : Shared) (σ : St) (H : Hp) (v : V) (u : Value) (Q : St -> Hp -> Prop), Inv X pins σ H s -> zZ v u -> t v σ H Q ->
  wpAny (model X.prog X.w) X.A (assign target X.env u) (fun _ s' => ∃ σ' H', Inv X pins σ' H' s' /\ Q σ' H') X.xe s
def PGs (X : Cx) (ts : List Expr) (t : TGs) : Prop :=
 ∀ (pins : List (Addr × Obj)) (s : Shared) (σ : St) (H : Hp) (vs : List V) (us : List Value) (Q : St -> Hp -> Prop), Inv X pins σ H s -> zf vs us -> t vs σ H Q ->
  wpAny (model X.prog X.w) X.A (assignInOrder ((assignEach ts X.env).map (·.2)) us) (fun _ s' => ∃ σ' H', Inv X pins σ' H' s' /\ Q σ' H') X.xe s
abbrev zJq := V -> V -> V -> Hp -> (Hp -> Prop) -> Prop
def zMp (X : Cx) (t : zJq) : Prop :=
 ∀ (pins : List (Addr × Obj)) (s : Shared) (σ : St) (H : Hp) (o i v : V) (ov iv u : Value) (Q : Hp -> Prop), Inv X pins σ H s -> zZ o ov -> zZ i iv -> zZ v u -> t o i v H Q ->
  wpAny (model X.prog X.w) X.A (setItem ov iv u) (fun _ s' => ∃ H', Inv X pins σ H' s' /\ Q H') X.xe s
abbrev TIp := V -> V -> Hp -> VK -> Prop
def PIp (X : Cx) (op : Operator) (t : TIp) : Prop :=
 ∀ (pins : List (Addr × Obj)) (s : Shared) (σ : St) (H : Hp) (x y : V) (v u : Value) (Q : VK), Inv X pins σ H s -> zZ x v -> zZ y u -> t x y H Q ->
  wpAny (model X.prog X.w) X.A (inplaceOp op v u) (EP X pins σ Q) X.xe s
section
variable {X : Cx} {pos : Pos}
def zK (i : Nat) : TG := fun v σ H Q => Q (σ.set i (some v)) H
theorem zLK {i : Nat} {x : Str} (hN : X.N.Nodup) (hi : X.N[i]? = some x) (hx : Loc X.env.scope x) (hf : X.fn x = true \/ X.env.scope.names.lookup x = some .local := by first | exact .inl rfl | exact .inr rfl | assumption) : PG X (.Name x pos) (zK i) := by
 intro pins s σ H v u Q I r h
 exact wpAny_assign_Name (zBz I hN hi hx r (fun s' I' => ⟨_, H, I', h⟩) hf)
def QZ : TGs := fun vs σ H Q => vs = [] /\ Q σ H
def qE (t : TG) (u : TGs) : TGs := fun vs σ H Q => ∃ v r, vs = v :: r /\ t v σ H fun σ' H' => u r σ' H' Q
theorem zKq : PGs X [] QZ := by
 intro pins s σ H vs us Q I r h
 obtain ⟨e, h⟩ := h
 subst e
 cases r
 exact assignInOrder_nil ⟨σ, H, I, h⟩
theorem Qa {e : Expr} {es : List Expr} {t : TG} {u : TGs} (h1 : PG X e t) (h2 : PGs X es u)
  (hs : (assignEach (e :: es) X.env).map (·.2) = assign e X.env :: (assignEach es X.env).map (·.2) := by rfl) : PGs X (e :: es) (qE t u) := by
 intro pins s σ H vs us Q I r h
 obtain ⟨v, vr, e1, h⟩ := h
 subst e1
 cases r with
 | cons r rr =>
  rw [hs]
  refine assignInOrder_cons (thn (h1 pins s σ H _ _ _ I r h) fun _ s1 ⟨σ1, H1, I1, q1⟩ => ?_)
  exact h2 pins s1 σ1 H1 _ _ Q I1 rr q1
def Qi (K : PySem.W.Frag) (n : Nat) (t : TGs) : TG := fun v σ H Q => ∃ a xs, v = .ref a /\ SqT K H a xs /\ xs.length = n /\ t xs σ H Q
theorem zM9 {es : List Expr} {k : Nat} {t : TGs} {n : Nat} (hc : X.calm = true) (h : PGs X es t)
  (hn : (assignEach es X.env).length = n := by rfl) (hst : (assignEach es X.env).findIdx? (·.1) = none := by rfl) : PG X (.Tuple es k pos) (Qi X.K n t) := by
 intro pins s σ H v u Q I r hw
 obtain ⟨a, xs, e1, hq, hl, hw⟩ := hw
 subst e1
 cases r
 obtain ⟨its, rv, ht, hz⟩ := I.tuple hq
 refine assign_Tuple_tuple (I.ok.hd hc) ht (by simp [hn, <- hl, rv.length]) hst fun h' hx => ?_
 have I1 : Inv X pins σ H { s with heap := h' } := I.kept (t' := s.toks) fun b o e => hx b o (Nat.ne_of_lt (Heap.lt_size e)) e
 exact h pins _ σ H xs _ Q I1 (by simpa using rv) hw
def zOJ (to ti : TE) (t : zJq) : TG := fun v σ H Q => to σ H fun o H1 => ti σ H1 fun i H2 => t o i v H2 fun H3 => Q σ H3
theorem zL7 {o i : Expr} {to ti : TE} {t : zJq} (ho : PE X o to) (hi : PE X i ti) (hs : zMp X t)
  (ha : ∀ v, assign (.Subscript o i pos) X.env v = (do
   let ov <- holding [v] (eval o X.env)
   let iv <- holding [v, ov] (eval i X.env)
   standAt pos
   holding [v, ov, iv] (setItem ov iv v)
   release [v, ov, iv] []) := by intro _; rfl) : PG X (.Subscript o i pos) (zOJ to ti t) := by
 intro pins s σ H v u Q I r h
 rw [ha]
 refine wpAny_bind (wpAny_holding (thn (ho pins s σ H _ I h) fun ov s1 ⟨x, H1, I1, r1, q1⟩ => ?_))
 refine wpAny_bind (wpAny_holding (thn (hi pins s1 σ H1 _ I1 q1) fun iv s2 ⟨y, H2, I2, r2, q2⟩ => ?_))
 refine wpAny_bind (wpAny_standAt (wpAny_bind (wpAny_holding (thn (hs pins s2 σ H2 x y v ov iv u _ I2 r1 r2 r q2) fun _ s3 ⟨H3, I3, q3⟩ => ?_))))
 exact wpAny_release ⟨σ, H3, I3, q3⟩
def zKA (te : TE) (g : TG) : TS := fun D σ H => te σ H fun x H1 => g x σ H1 D.nx
theorem zLq {tg e : Expr} {te : TE} {g : TG} (he : PE X e te) (hg : PG X tg g) (hs : swapsWithSole [tg] e pos.line X.env = pure false := by rfl) (hw : swappedStores [tg] e X.env = pure none := by rfl)
  (h1 : (assignEach [tg] X.env).map (·.2) = [assign tg X.env] := by rfl) : PS X (.Assign [tg] e pos) (zKA te g) := by
 intro pins s σ H D I h
 refine wpAny_Assign_stores (thn (he pins s σ H _ I h) fun v s1 ⟨x, H1, I1, r1, q1⟩ => ?_) hs hw
 rw [h1]
 exact thn (hg pins s1 σ H1 x v _ I1 r1 q1) fun _ s2 q => q
theorem zMI {i : Nat} {x : Str} {e : Expr} {te : TE} {pos' : Pos} (hN : X.N.Nodup) (hi : X.N[i]? = some x) (hx : Loc X.env.scope x) (he : PE X e te) (hs : swapsWith e (some (.Name x pos')) pos.line X.env = pure false := by rfl) (hf : X.fn x = true \/ X.env.scope.names.lookup x = some .local := by first | exact .inl rfl | exact .inr rfl | assumption) :
  PS X (.Assign [.Name x pos'] e pos) (zKA te (zK i)) := by
 intro pins s σ H D I h
 refine wpAny_Assign_Name (thn (he pins s σ H _ I h) fun v s1 ⟨y, H1, I1, r1, q1⟩ => ?_) hs
 exact zBz I1 hN hi hx r1 (fun s2 I2 => ⟨_, H1, I2, q1⟩) hf
def zOn (i : Nat) (te : TE) (ti : TIp) : TS := fun D σ H => ∃ x, σ[i]? = some (some x) /\ te σ H fun y H1 => ti x y H1 fun z H2 => D.nx (σ.set i (some z)) H2
theorem zNM {i : Nat} {x : Str} {e : Expr} {te : TE} {op : Operator} {ti : TIp} {pos' : Pos} (hN : X.N.Nodup) (hi : X.N[i]? = some x) (hx : Loc X.env.scope x) (he : PE X e te) (ho : PIp X op ti) (hf : X.fn x = true \/ X.env.scope.names.lookup x = some .local := by first | exact .inl rfl | exact .inr rfl | assumption) :
  PS X (.AugAssign (.Name x pos') op e pos) (zOn i te ti) := by
 intro pins s σ H D I h
 obtain ⟨v, e1, h⟩ := h
 obtain ⟨m, hn, hl⟩ := I.loc
 have vis : Vis X.env.scope x := by rcases hx with k | k; exact .inl k; exact .inr (.inl k)
 obtain ⟨u, r, l⟩ := hl i x v hi e1 vis
 refine wpAny_AugAssign_Name ?_
 have go : wpAny (model X.prog X.w) X.A (eval e X.env) (fun w s₂ => wpAny (model X.prog X.w) X.A (inplaceOp op u w) (fun r s₃ => wpAny (model X.prog X.w) X.A (storeName X.env x r) (fun _ => SP X pins D .next) X.xe s₃) X.xe s₂) X.xe s := by
  refine thn (he pins s σ H _ I h) fun w s1 ⟨y, H1, I1, r1, q1⟩ => ?_
  refine thn (ho pins s1 σ H1 v y u w _ I1 r r1 q1) fun z s2 ⟨zv, H2, I2, r2, q2⟩ => ?_
  exact zBz I2 hN hi hx r2 (fun s3 I3 => ⟨_, H2, I3, q2⟩) hf
 rcases l with ⟨hk, hm⟩ | ⟨hk, c, hc, hcell⟩
 ·exact wpAny_loadName_local I.ok.kind hk hn hm go
 ·rcases hk with hk | hk
  ·exact wpAny_loadName_cell I.ok.kind hk hc hcell go
  ·rcases hx with k | k
   ·have : X.env.scope.names.lookup x = some .free := hk
    rw [k] at this; cases this
   ·have : X.env.scope.names.lookup x = some .free := hk
    rw [k] at this; cases this
def ipI (f : Int -> Int -> Int) : TIp := fun x y H Q => ∃ i j, x = .int i /\ y = .int j /\ Q (.int (f i j)) H
theorem zMe : PIp X .Add (ipI fun i j => i + j) := by
 intro pins s σ H x y v u Q I r1 r2 h
 obtain ⟨i, j, e1, e2, q⟩ := h
 subst e1; subst e2
 obtain ⟨t, rfl⟩ := r1
 obtain ⟨t', rfl⟩ := r2
 exact iadd_int ⟨.int _, H, I.tok _, ⟨_, rfl⟩, q⟩
theorem zMZ : PIp X .Sub (ipI fun i j => i - j) := by
 intro pins s σ H x y v u Q I r1 r2 h
 obtain ⟨i, j, e1, e2, q⟩ := h
 subst e1; subst e2
 obtain ⟨t, rfl⟩ := r1
 obtain ⟨t', rfl⟩ := r2
 exact isub_int ⟨.int _, H, I.tok _, ⟨_, rfl⟩, q⟩
end
section
variable {X : Cx} {pos : Pos}
def zNL (c : TT) (tb : TS) : TS := fun D σ H => ∃ W : Nat -> St -> Hp -> Prop, (∃ m, W m σ H) /\ ∀ m σ H, W m σ H ->
 c σ H fun b H1 => if b = true then ∃ N : St -> Hp -> Prop, (∀ σ' H', N σ' H' -> ∃ m', m' < m /\ W m' σ' H') /\ tb { D with nx := N, ct := N, bk := D.nx } σ H1 else D.nx σ H1
theorem zI1 {c : Expr} {body : List Stmt} {tc : TT} {tb : TS} (hp : PassesOwn (model X.prog X.w) X.A X.env X.xe) (hc : PT X c tc) (hb : PSs X body tb) : PS X (.While c body [] pos) (zNL tc tb) := by
 intro pins s σ H D I h
 obtain ⟨W, ⟨m0, w0⟩, turn⟩ := h
 refine wpAny_While (codeAny_whileLoop (fun n s' => ∃ σ' H', Inv X pins σ' H' s' /\ W n σ' H') ?_ m0 ⟨σ, H, I, w0⟩)
 rintro n s1 ⟨σ1, H1, I1, w1⟩
 refine wpAny_passesOwn hp (thn (hc pins s1 σ1 H1 _ I1 (turn n σ1 H1 w1)) fun b s2 ⟨H2, I2, q2⟩ => ?_)
 cases b with
 | true =>
  obtain ⟨N, hN, q2⟩ := q2
  rw [if_pos rfl]
  refine wpAny_passesOwn hp (thn (hb pins s2 σ1 H2 _ I2 q2) fun f s3 q3 => ?_)
  cases f with
  | next =>
   obtain ⟨σ3, H3, I3, n3⟩ := q3
   obtain ⟨m', hm, w3⟩ := hN σ3 H3 n3
   exact ⟨m', hm, σ3, H3, I3, w3⟩
  | cont =>
   obtain ⟨σ3, H3, I3, n3⟩ := q3
   obtain ⟨m', hm, w3⟩ := hN σ3 H3 n3
   exact ⟨m', hm, σ3, H3, I3, w3⟩
  | brk => exact q3
  | ret v => exact q3
 | false =>
  rw [if_neg Bool.false_ne_true]
  exact wpAny_execs_nil ⟨σ1, H2, I2, q2⟩
end
structure It where
 go : Nat -> Hp -> Prop
 yld : Nat -> Hp -> V -> Hp -> Prop
 stop : Nat -> Hp -> Prop
def JA (X : Cx) (pins : List (Addr × Obj)) (H : Hp) (b : Addr) : Prop :=
 H b = none /\ b ≠ X.env.locals /\ b ∉ X.fs /\ (b ∈ X.ex \/ X.s₀.heap.objs.size <= b) /\ (∀ x c, X.env.cells.lookup x = some c -> c ≠ b) /\ ∀ p ∈ X.pn ++ pins, p.1 ≠ b
theorem Inv.fpOk {X : Cx} {pins : List (Addr × Obj)} {σ : St} {H H' : Hp} {s : Shared} {b : Addr} (I : Inv X pins σ H s) (hb : s.heap.objs.size <= b) (hn : H' b = none) : JA X pins H' b := by
 refine ⟨hn, Nat.ne_of_gt (Nat.lt_of_lt_of_le I.lt hb), I.nofs hb, .inr (Nat.le_trans I.sz hb), fun x c e z => ?_, fun p hp z => ?_⟩
 ·obtain ⟨v, q⟩ := I.cell x c e
  exact absurd (Nat.lt_of_lt_of_le q.lt (by rw [z]; exact hb)) (Nat.lt_irrefl _)
 ·exact absurd (Nat.lt_of_lt_of_le (Heap.lt_size (I.pin p hp).1) (by rw [z]; exact hb)) (Nat.lt_irrefl _)
structure zAG (P : Program) (w : World) (K : PySem.W.Frag) (tg : Expr) (J : It) (fp : List Addr) (it : Addr) (tn : Nat -> Heap -> Prop) : Prop where
 mem : it ∈ fp
 obj : ∀ i h, tn i h -> ∀ b ∈ fp, ∃ o, h.get? b = some o /\ ∀ v, o.data ≠ .cell v
 keep : ∀ i h h', tn i h -> (∀ b ∈ fp, ∀ o, h.get? b = some o -> h'.get? b = some o) -> tn i h'
 item : ∀ (X : Cx), X.prog = P -> X.w = w -> X.K = K -> X.calm = true -> ∀ (i : Nat) (pins : List (Addr × Obj)) (s : Shared) (σ : St) (H : Hp) (E : Value -> Shared -> Prop), Inv X pins σ H s -> (∀ b ∈ fp, JA X pins H b) -> tn i s.heap -> J.go i H ->
  wpAny (model P w) X.A (pyNext (.ref it)) (fun r s1 => ∃ u, r = some u /\
   wpAny (model P w) X.A (letOwnedTupleGo tg (.ref it) u) (fun _ s2 => ∃ x H', Inv X pins σ H' s2 /\ zZ x u /\ J.yld i H x H' /\ tn (i + 1) s2.heap /\ ∀ b ∈ fp, H' b = none) E s1) E s
 done : ∀ (X : Cx), X.prog = P -> X.w = w -> X.K = K -> X.calm = true -> ∀ (i : Nat) (pins : List (Addr × Obj)) (s : Shared) (σ : St) (H : Hp) (E : Value -> Shared -> Prop), Inv X pins σ H s -> (∀ b ∈ fp, JA X pins H b) -> tn i s.heap -> J.stop i H ->
  wpAny (model P w) X.A (pyNext (.ref it)) (fun r s1 => r = none /\ Inv X pins σ H s1) E s
 self : ∀ (A : Around) (i : Nat) (s : Shared) (Q : Value -> Shared -> Prop) (E : Value -> Shared -> Prop), tn i s.heap -> Q (.ref it) s -> wpAny (model P w) A (pyIter (.ref it)) Q E s
abbrev TI := St -> Hp -> (It -> Hp -> Prop) -> Prop
def PIE (X : Cx) (pins : List (Addr × Obj)) (σ : St) (tg : Expr) (R : It -> Hp -> Prop) (itv : Value) (s2 : Shared) : Prop :=
 ∃ (it : Addr) (fp : List Addr) (tn : Nat -> Heap -> Prop) (J : It) (H' : Hp), itv = .ref it /\ Inv X pins σ H' s2 /\ zAG X.prog X.w X.K tg J fp it tn /\ tn 0 s2.heap /\ (∀ b ∈ fp, JA X pins H' b) /\ R J H'
def PI (X : Cx) (tg iter : Expr) (wi : TI) : Prop :=
 ∀ (pins : List (Addr × Obj)) (s : Shared) (σ : St) (H : Hp) (R : It -> Hp -> Prop), Inv X pins σ H s -> wi σ H R ->
  wpAny (model X.prog X.w) X.A (eval iter X.env) (fun v s1 => wpAny (model X.prog X.w) X.A (pyIter v) (PIE X pins σ tg R) X.xe s1) X.xe s
theorem zBa {M : Model} {A : Around} {E : Value -> Shared -> Prop} {s : Shared} {tg : Expr} {it : Addr} {u : Value} {o : Obj} {n : String} {vs : Array Value} {Q : Unit -> Shared -> Prop} (ho : s.heap.get? it = some o) (hc : o.cls = .type n) (hd : o.data = .fields vs)
  (hn : ["enumerate", "zip", "dict_itemiterator", "dict_reverseitemiterator", "odict_iterator", "itertools.zip_longest", "itertools.pairwise"].contains n = false) (hQ : Q () s) : wpAny M A (letOwnedTupleGo tg (.ref it) u) Q E s := by
 unfold letOwnedTupleGo
 cases tg <;> first
  | exact wpAny_pure hQ
  | (cases u <;> first
      | exact wpAny_pure hQ
      | (refine wpAny_bind (wpAny_load ho ?_)
         rw [hc, hd]
         show wpAny M A (if (["enumerate", "zip", "dict_itemiterator", "dict_reverseitemiterator", "odict_iterator", "itertools.zip_longest", "itertools.pairwise"].contains n && vs[0]? == some (rawInt _)) = true then _ else _) Q E s
         rw [if_neg (by intro h; rw [hn, Bool.false_and] at h; cases h)]
         exact wpAny_pure hQ))
def Itl (K : PySem.W.Frag) (a : Addr) : It :=
 ⟨fun i H => ∃ xs x, SqL K H a xs /\ xs[i]? = some x, fun i H x H' => H' = H /\ ∀ xs, SqL K H a xs -> xs[i]? = some x, fun i H => ∃ xs, SqL K H a xs /\ xs.length <= i⟩
def Itt (K : PySem.W.Frag) (a : Addr) : It :=
 ⟨fun i H => ∃ xs x, SqT K H a xs /\ xs[i]? = some x, fun i H x H' => H' = H /\ ∀ xs, SqT K H a xs -> xs[i]? = some x, fun i H => ∃ xs, SqT K H a xs /\ xs.length <= i⟩
def Itr (lo : Int) (n : Nat) : It := ⟨fun i _ => i < n, fun i H x H' => H' = H /\ x = .int (lo + i), fun i _ => n <= i⟩
theorem zHp {P : Program} {w : World} {K : PySem.W.Frag} {tg : Expr} (a it : Addr) : zAG P w K tg (Itl K a) [it] it (fun i h => h.IsListIter it a i) where
 mem := by simp
 obj := fun i h st b hb => by
  have e : b = it := by simpa using hb
  subst e
  obtain ⟨o, e, c, d⟩ := st
  exact ⟨o, e, fun v z => by rw [d] at z; cases z⟩
 keep := fun i h h' st k => st.at fun o e => k it (by simp) o e
 item := by
  intro X hP hw hK hc i pins s σ H E I hf st hg
  subst hP hw hK
  obtain ⟨xs, x, hq, hx⟩ := hg
  obtain ⟨its, rv, p, hz⟩ := I.list hq
  obtain ⟨u, hu, ru⟩ := rv.get hx
  obtain ⟨f0, f1, f2, f3, f4, f5⟩ := hf it (by simp)
  refine wpAny_pyNext_list_item st p.isList (x := u) (by simpa using hu) fun h' st' sb => ?_
  have I1 : Inv X pins σ H { s with heap := h' } := I.turned (t' := s.toks) (fun b o hb e => (sb.2 b hb).trans e) f0 f1 f3 f4 f5
  obtain ⟨o, e, c, d⟩ := id st'
  exact ⟨u, rfl, zBa (s := { s with heap := h' }) e c d (by decide) ⟨x, H, I1, ru, ⟨rfl, fun ys hy => by rw [I.list_inj hy hq]; exact hx⟩, st', fun b hb => (hf b hb).1⟩⟩
 done := by
  intro X hP hw hK hc i pins s σ H E I hf st hg
  subst hP hw hK
  obtain ⟨xs, hq, hx⟩ := hg
  obtain ⟨its, rv, p, hz⟩ := I.list hq
  obtain ⟨f0, f1, f2, f3, f4, f5⟩ := hf it (by simp)
  have hl := rv.length
  exact wpAny_pyNext_list_end (I.ok.hd hc) st p.isList (by simp; omega) fun h' eb => ⟨rfl, I.turned (t' := s.toks) (fun b o hb e => eb b o hb e) f0 f1 f3 f4 f5⟩
 self := fun _ _ _ _ _ st h => wpAny_pyIter_listiter st h
theorem zGs {P : Program} {w : World} {K : PySem.W.Frag} {tg : Expr} (a it : Addr) : zAG P w K tg (Itt K a) [it] it (fun i h => h.IsTupleIter it a i) where
 mem := by simp
 obj := fun i h st b hb => by
  have e : b = it := by simpa using hb
  subst e
  obtain ⟨o, e, c, d⟩ := st
  exact ⟨o, e, fun v z => by rw [d] at z; cases z⟩
 keep := fun i h h' st k => st.at fun o e => k it (by simp) o e
 item := by
  intro X hP hw hK hc i pins s σ H E I hf st hg
  subst hP hw hK
  obtain ⟨xs, x, hq, hx⟩ := hg
  obtain ⟨its, rv, p, hz⟩ := I.tuple hq
  obtain ⟨u, hu, ru⟩ := rv.get hx
  obtain ⟨f0, f1, f2, f3, f4, f5⟩ := hf it (by simp)
  refine wpAny_pyNext_tuple_item st (show s.heap.IsTuple a its.toArray from p) (x := u) (by simpa using hu) fun h' st' sb => ?_
  have I1 : Inv X pins σ H { s with heap := h' } := I.turned (t' := s.toks) (fun b o hb e => (sb.2 b hb).trans e) f0 f1 f3 f4 f5
  obtain ⟨o, e, c, d⟩ := id st'
  exact ⟨u, rfl, zBa (s := { s with heap := h' }) e c d (by decide) ⟨x, H, I1, ru, ⟨rfl, fun ys hy => by rw [I.tuple_inj hy hq]; exact hx⟩, st', fun b hb => (hf b hb).1⟩⟩
 done := by
  intro X hP hw hK hc i pins s σ H E I hf st hg
  subst hP hw hK
  obtain ⟨xs, hq, hx⟩ := hg
  obtain ⟨its, rv, p, hz⟩ := I.tuple hq
  obtain ⟨f0, f1, f2, f3, f4, f5⟩ := hf it (by simp)
  have hl := rv.length
  exact wpAny_pyNext_tuple_end (I.ok.hd hc) st (show s.heap.IsTuple a its.toArray from p) (by simp; omega) fun h' eb => ⟨rfl, I.turned (t' := s.toks) (fun b o hb e => eb b o hb e) f0 f1 f3 f4 f5⟩
 self := fun _ _ _ _ _ st h => wpAny_pyIter_tupleiter st h
theorem zHF {P : Program} {w : World} {K : PySem.W.Frag} {tg : Expr} (it : Addr) (lo : Int) (n : Nat) : zAG P w K tg (Itr lo n) [it] it (fun i h => IsRangeIter h it (lo + (i : Nat) * 1) ((n : Int) - (i : Nat)) 1) where
 mem := by simp
 obj := fun i h st b hb => by
  have e : b = it := by simpa using hb
  subst e
  exact ⟨_, st, fun v z => by
   have z' : Data.fields _ = Data.cell v := z
   cases z'⟩
 keep := fun i h h' st k => k it (by simp) _ st
 item := by
  intro X hP hw hK hc i pins s σ H E I hf st hg
  subst hP hw hK
  obtain ⟨f0, f1, f2, f3, f4, f5⟩ := hf it (by simp)
  have W := Walks.range (prog := X.prog) (w := X.w) (I.ok.hd hc) it lo 1 n
  refine wpAny_with_toks (n := 1) I.tk (W.item i s _ _ hg st fun v h' tk hv st' kk htk => ?_)
  obtain ⟨t, rfl⟩ := hv
  have I1 : Inv X pins σ H { s with heap := h', toks := tk } := I.turned (fun b o hb e => kk b o (by simpa using hb) e) f0 f1 f3 f4 f5
  refine ⟨_, rfl, zBa (s := { s with heap := h', toks := tk }) (n := "range_iterator") st' rfl rfl (by decide) ⟨.int (lo + i), H, I1, ⟨t, ?_⟩, ⟨rfl, rfl⟩, st', fun b hb => (hf b hb).1⟩⟩
  rw [Int.mul_one]
 done := by
  intro X hP hw hK hc i pins s σ H E I hf st hg
  subst hP hw hK
  obtain ⟨f0, f1, f2, f3, f4, f5⟩ := hf it (by simp)
  exact wpAny_pyNext_range_end (I.ok.hd hc) st (by have : n <= i := hg; omega) fun h' eb => ⟨rfl, I.turned (t' := s.toks) (fun b o hb e => eb b o hb e) f0 f1 f3 f4 f5⟩
 self := fun _ _ _ _ _ st h => wpAny_pyIter_rangeiter st h
end L2
namespace L2
open PySem PySem.Spec PyProof.Rows
section
variable {X : Cx} {tg : Expr}
def zNf (K : PySem.W.Frag) (tl : TE) : TI := fun σ H R => tl σ H fun x H1 => ∃ a, x = .ref a /\ (∃ xs, SqL K H1 a xs) /\ R (Itl K a) H1
def zOl (K : PySem.W.Frag) (tl : TE) : TI := fun σ H R => tl σ H fun x H1 => ∃ a, x = .ref a /\ (∃ xs, SqT K H1 a xs) /\ R (Itt K a) H1
theorem zK7 {l : Expr} {tl : TE} (hl : PE X l tl) : PI X tg l (zNf X.K tl) := by
 intro pins s σ H R I h
 refine thn (hl pins s σ H _ I h) fun v s1 ⟨x, H1, I1, r1, q1⟩ => ?_
 obtain ⟨a, e, ⟨xs, hq⟩, q⟩ := q1
 subst e
 cases r1
 obtain ⟨its, rv, p, hz⟩ := I1.list hq
 refine wpAny_pyIter_list p.isList ?_
 refine ⟨s1.heap.objs.size, [s1.heap.objs.size], _, _, H1, rfl, I1.kept (t' := s1.toks) fun b o e => Heap.get?_push_of_some _ e, zHp a _, ⟨_, Heap.get?_push_size _ rfl, rfl, rfl⟩, fun b hb => ?_, q⟩
 have e : b = s1.heap.objs.size := by simpa using hb
 subst e
 exact I1.fpOk (Nat.le_refl _) (I1.hok.fresh (Nat.le_refl _))
theorem zNQ {l : Expr} {tl : TE} (hl : PE X l tl) : PI X tg l (zOl X.K tl) := by
 intro pins s σ H R I h
 refine thn (hl pins s σ H _ I h) fun v s1 ⟨x, H1, I1, r1, q1⟩ => ?_
 obtain ⟨a, e, ⟨xs, hq⟩, q⟩ := q1
 subst e
 cases r1
 obtain ⟨its, rv, p, hz⟩ := I1.tuple hq
 refine wpAny_pyIter_tuple (show s1.heap.IsTuple a its.toArray from p) ?_
 refine ⟨s1.heap.objs.size, [s1.heap.objs.size], _, _, H1, rfl, I1.kept (t' := s1.toks) fun b o e => Heap.get?_push_of_some _ e, zGs a _, ⟨_, Heap.get?_push_size _ rfl, rfl, rfl⟩, fun b hb => ?_, q⟩
 have e : b = s1.heap.objs.size := by simpa using hb
 subst e
 exact I1.fpOk (Nat.le_refl _) (I1.hok.fresh (Nat.le_refl _))
theorem zJB {pins : List (Addr × Obj)} {σ : St} {H : Hp} {s : Shared} {R : It -> Hp -> Prop} {E : Value -> Shared -> Prop} {lo hi : Int} {t u v : Tok} {tk : Nat} (I : Inv X pins σ H s) (h1 : -(2 ^ 62) <= lo) (h2 : lo < 2 ^ 62) (h3 : -(2 ^ 62) <= hi) (h4 : hi < 2 ^ 62)
  (q : R (Itr lo (hi - lo).toNat) H) (htk : 0 < tk := by first | exact Nat.succ_pos _ | assumption | exact Inv.tk (by assumption) | omega) : wpAny (model X.prog X.w) X.A (pyIter (.ref s.heap.objs.size)) (PIE X pins σ tg R) E { s with heap := s.heap.push { cls := .type "range", data := .fields #[.int lo t, .int hi u, .int 1 v] }, toks := tk } := by
 refine wpAny_pyIter_range (IsRange.new ..) (small_one h1 h2 h3 h4) ?_
 have I1 : Inv X pins σ H { s with heap := s.heap.push { cls := .type "range", data := .fields #[.int lo t, .int hi u, .int 1 v] }, toks := tk } := I.kept fun b o e => Heap.get?_push_of_some _ e
 refine ⟨(s.heap.push { cls := .type "range", data := .fields #[.int lo t, .int hi u, .int 1 v] }).objs.size, [(s.heap.push { cls := .type "range", data := .fields #[.int lo t, .int hi u, .int 1 v] }).objs.size], _, _, H, rfl,
  I1.kept (t' := tk) fun b o e => Heap.get?_push_of_some _ e, zHF _ lo (hi - lo).toNat, ?_, fun b hb => ?_, q⟩
 ·have e1 : lo + ((0 : Nat) : Int) * 1 = lo := by simp
  have e2 : (((hi - lo).toNat : Nat) : Int) - ((0 : Nat) : Int) = Builtin.Range.rangeSize lo hi 1 := by rw [rangeSize_one]; split <;> omega
  show IsRangeIter _ _ (lo + ((0 : Nat) : Int) * 1) ((((hi - lo).toNat : Nat) : Int) - ((0 : Nat) : Int)) 1
  rw [e1, e2]
  exact Heap.get?_push_size _ rfl
 ·have e : b = (s.heap.push { cls := .type "range", data := .fields #[.int lo t, .int hi u, .int 1 v] }).objs.size := by simpa using hb
  subst e
  exact I1.fpOk (Nat.le_refl _) (I1.hok.fresh (Nat.le_refl _))
def zNX (ta : TA) : TI := fun σ H R => ta σ H fun vs H1 => ∃ j : Int, vs = [.int j] /\ -(2 ^ 62) <= j /\ j < 2 ^ 62 /\ R (Itr 0 j.toNat) H1
theorem zIa {a : Expr} {ta : TA} {p pos : Pos} (hg : Gl X "range") (hm : X.mg "range" = none) (ha : PA X [a] ta) (hs : starEach [a] X.env = [(false, eval a X.env)] := by rfl) : PI X tg (.Call (.Name "range" p) [a] [] pos) (zNX ta) := by
 intro pins s σ H R I h
 refine Call_ (JZ I hg hm boot_range (PyProof.Rows.callWith_type1 (thn (ha pos pins s σ H _ I h) fun us s1 ⟨vs, H1, I1, r1, q1⟩ => ?_) hs rfl))
 obtain ⟨j, e, q1, q2, q⟩ := q1
 subst e
 cases r1 with
 | cons r rr =>
  cases rr
  obtain ⟨t, rfl⟩ := r
  exact call_range_1 (zJB I1 (by omega) (by omega) q1 q2 (by simpa using q))
def zOO (wi : TI) (g : TG) (tb : TS) : TS := fun D σ H => wi σ H fun J H1 => ∃ W : Nat -> Nat -> St -> Hp -> Prop, (∃ m, W 0 m σ H1) /\ ∀ i m σ H, W i m σ H ->
 (J.stop i H /\ D.nx σ H) \/ (J.go i H /\ ∃ N : St -> Hp -> Prop, (∀ σ' H', N σ' H' -> ∃ m', m' < m /\ W (i + 1) m' σ' H') /\ ∀ x H', J.yld i H x H' -> g x σ H' fun σ2 H2 => tb { D with nx := N, ct := N, bk := D.nx } σ2 H2)
def Zs (fp : List Addr) (h : Heap) : List (Addr × Obj) := fp.filterMap fun b => (h.get? b).map fun o => (b, o)
theorem JE {fp : List Addr} {h : Heap} {b : Addr} {o : Obj} (hb : b ∈ fp) (e : h.get? b = some o) : (b, o) ∈ Zs fp h := List.mem_filterMap.mpr ⟨b, hb, by rw [e]; rfl⟩
theorem zDk {fp : List Addr} {h : Heap} {p : Addr × Obj} (hp : p ∈ Zs fp h) : p.1 ∈ fp /\ h.get? p.1 = some p.2 := by
 obtain ⟨b, hb, e⟩ := List.mem_filterMap.mp hp
 cases q : h.get? b with
 | none => rw [q] at e; cases e
 | some o =>
  rw [q] at e
  have e' : (b, o) = p := Option.some.inj e
  subst e'
  exact ⟨hb, q⟩
theorem Inv.pinned {pins : List (Addr × Obj)} {σ : St} {H : Hp} {s : Shared} {fp : List Addr} (I : Inv X pins σ H s) (hf : ∀ b ∈ fp, JA X pins H b) (ho : ∀ b ∈ fp, ∃ o, s.heap.get? b = some o /\ ∀ v, o.data ≠ .cell v) : Inv X (pins ++ Zs fp s.heap) σ H s :=
 I.pins_of fun p hp => (List.mem_append.mp hp).elim (fun z => I.pin p (List.mem_append_right _ z)) fun z => by
  obtain ⟨hb, e⟩ := zDk z
  obtain ⟨f0, f1, f2, _⟩ := hf p.1 hb
  obtain ⟨o, e', d⟩ := ho p.1 hb
  rw [e] at e'; cases e'
  exact ⟨e, f0, f1, f2, d⟩
theorem Inv.unpinned {pins pl : List (Addr × Obj)} {σ : St} {H : Hp} {s : Shared} (I : Inv X (pins ++ pl) σ H s) : Inv X pins σ H s := I.pins_of fun p hp => I.pin p (List.mem_append_right _ (List.mem_append_left _ hp))
theorem zFJ {iter : Expr} {body : List Stmt} {wi : TI} {g : TG} {tb : TS} {pos : Pos} (hp : PassesOwn (model X.prog X.w) X.A X.env X.xe) (hc : X.calm = true) (hi : PI X tg iter wi) (hg : PG X tg g) (hb : PSs X body tb)
  (hs : ∀ x, foldedSetIterable iter X.env x = pure x := by intro _; rfl) : PS X (.For tg iter body [] pos) (zOO wi g tb) := by
 intro pins s σ H D I h
 refine wpAny_For (thn (hi pins s σ H _ I h) fun v s1 h1 => thn h1 fun itv s2 h2 => ?_) hs
 obtain ⟨it, fp, tn, J, H2, e, I2, T, st2, f2, W, ⟨m0, w0⟩, turn⟩ := h2
 subst e
 have stat : ∀ {H' : Hp}, (∀ b ∈ fp, H' b = none) -> ∀ b ∈ fp, JA X pins H' b := fun hn b hb => ⟨hn b hb, (f2 b hb).2⟩
 refine codeAny_forLoop_any (fun n s' => ∃ i σ' H', Inv X pins σ' H' s' /\ tn i s'.heap /\ (∀ b ∈ fp, H' b = none) /\ W i n σ' H') ?_ m0 ⟨0, σ, H2, I2, st2, fun b hb => (f2 b hb).1, w0⟩
 rintro n s3 ⟨i, σ3, H3, I3, st3, fr3, w3⟩
 rcases turn i n σ3 H3 w3 with ⟨stop, qn⟩ | ⟨go, N, hN, step⟩
 ·refine wpAny_passesOwn hp (thn (T.done X rfl rfl rfl hc i pins s3 σ3 H3 X.xe I3 (stat fr3) st3 stop) fun r s4 ⟨hr, I4⟩ => ?_)
  subst hr
  exact wpAny_execs_nil ⟨σ3, H3, I4, qn⟩
 ·refine wpAny_passesOwn hp (thn (T.item X rfl rfl rfl hc i pins s3 σ3 H3 X.xe I3 (stat fr3) st3 go) fun r s4 ⟨u, hr, h4⟩ => ?_)
  subst hr
  refine wpAny_passesOwn hp (thn h4 fun _ s5 ⟨x, H5, I5, r5, y5, st5, fr5⟩ => ?_)
  have I5' := I5.pinned (stat fr5) (T.obj _ _ st5)
  refine wpAny_passesOwn hp (thn (hg _ s5 σ3 H5 x u _ I5' r5 (step x H5 y5)) fun _ s6 ⟨σ6, H6, I6, q6⟩ => ?_)
  refine wpAny_passesOwn hp (thn (hb _ s6 σ6 H6 _ I6 q6) fun f s7 q7 => ?_)
  have again : ∀ {σ7 : St} {H7 : Hp}, Inv X (pins ++ Zs fp s5.heap) σ7 H7 s7 -> N σ7 H7 -> ∃ m, m < n /\ ∃ i σ' H', Inv X pins σ' H' s7 /\ tn i s7.heap /\ (∀ b ∈ fp, H' b = none) /\ W i m σ' H' := fun {σ7 H7} I7 n7 => by
   obtain ⟨m', hm, w7⟩ := hN σ7 H7 n7
   refine ⟨m', hm, i + 1, σ7, H7, I7.unpinned, T.keep _ _ _ st5 fun b hb o e => (I7.pin (b, o) (List.mem_append_right _ (List.mem_append_right _ (JE hb e)))).1, fun b hb => ?_, w7⟩
   obtain ⟨o, e, d⟩ := T.obj _ _ st5 b hb
   exact (I7.pin (b, o) (List.mem_append_right _ (List.mem_append_right _ (JE hb e)))).2.1
  cases f with
  | next => obtain ⟨σ7, H7, I7, n7⟩ := q7; exact again I7 n7
  | cont => obtain ⟨σ7, H7, I7, n7⟩ := q7; exact again I7 n7
  | brk => obtain ⟨σ7, H7, I7, q7⟩ := q7; exact ⟨σ7, H7, I7.unpinned, q7⟩
  | ret v => obtain ⟨x7, σ7, H7, I7, r7, q7⟩ := q7; exact ⟨x7, σ7, H7, I7.unpinned, r7, q7⟩
end
end L2
namespace L2
open PySem PySem.Spec PyProof.Rows
abbrev R2 := V -> V -> Hp -> VK -> Prop
def OpR (X : Cx) (f : Value -> Value -> Sem Value) (r : R2) : Prop :=
 ∀ (pins : List (Addr × Obj)) (s : Shared) (σ : St) (H : Hp) (x y : V) (v u : Value) (Q : VK), Inv X pins σ H s -> zZ x v -> zZ y u -> r x y H Q ->
  wpAny (model X.prog X.w) X.A (f v u) (EP X pins σ Q) X.xe s
def UnR (X : Cx) (f : Value -> Sem Value) (r : V -> Hp -> VK -> Prop) : Prop :=
 ∀ (pins : List (Addr × Obj)) (s : Shared) (σ : St) (H : Hp) (x : V) (v : Value) (Q : VK), Inv X pins σ H s -> zZ x v -> r x H Q ->
  wpAny (model X.prog X.w) X.A (f v) (EP X pins σ Q) X.xe s
def qF (X : Cx) (f : Value) (r : List V -> Hp -> VK -> Prop) : Prop :=
 ∀ (pins : List (Addr × Obj)) (s : Shared) (σ : St) (H : Hp) (xs : List V) (us : List Value) (Q : VK), Inv X pins σ H s -> zf xs us -> r xs H Q ->
  wpAny (model X.prog X.w) X.A (call f us) (EP X pins σ Q) X.xe s
def zOp (X : Cx) (r : V -> Hp -> (Bool -> Hp -> Prop) -> Prop) : Prop :=
 ∀ (pins : List (Addr × Obj)) (s : Shared) (σ : St) (H : Hp) (x : V) (v : Value) (Q : Bool -> Hp -> Prop), Inv X pins σ H s -> zZ x v -> r x H Q ->
  wpAny (model X.prog X.w) X.A (truthy v) (TP X pins σ Q) X.xe s
def tOp (r : R2) (ta tb : TE) : TE := fun σ H Q => ta σ H fun x H1 => tb σ H1 fun y H2 => r x y H2 Q
def tUn (r : V -> Hp -> VK -> Prop) (ta : TE) : TE := fun σ H Q => ta σ H fun x H1 => r x H1 Q
def rI (C : Int -> Int -> Prop) (g : Int -> Int -> V) : R2 := fun x y H Q => ∃ i j, x = .int i /\ y = .int j /\ C i j /\ Q (g i j) H
def rI0 (g : Int -> Int -> V) : R2 := fun x y H Q => ∃ i j, x = .int i /\ y = .int j /\ Q (g i j) H
def rU (g : Int -> V) : V -> Hp -> VK -> Prop := fun x H Q => ∃ i, x = .int i /\ Q (g i) H
section
variable {X : Cx} {a b c : Expr} {ta tb tc : TE} {pos : Pos}
theorem zJZ (ha : PE X a ta) (hb : PE X b tb) {pins : List (Addr × Obj)} {s : Shared} {σ : St} {H : Hp} {R : V -> V -> Hp -> Prop} (I : Inv X pins σ H s)
  (h : ta σ H fun x H1 => tb σ H1 fun y H2 => R x y H2) {Q : Value -> Shared -> Prop} {f : Value -> Value -> Sem Value}
  (hf : ∀ v u s2 x y H2, Inv X pins σ H2 s2 -> zZ x v -> zZ y u -> R x y H2 -> wpAny (model X.prog X.w) X.A (f v u) Q X.xe s2) :
  wpAny (model X.prog X.w) X.A (eval a X.env) (fun v s₁ => wpAny (model X.prog X.w) X.A (eval b X.env) (fun u s₂ => wpAny (model X.prog X.w) X.A (f v u) Q X.xe s₂) X.xe s₁) X.xe s := by
 refine thn (ha pins s σ H _ I h) fun v s1 ⟨x, H1, I1, r1, q1⟩ => ?_
 refine thn (hb pins s1 σ H1 _ I1 q1) fun u s2 ⟨y, H2, I2, r2, q2⟩ => ?_
 exact hf v u s2 x y H2 I2 r1 r2 q2
theorem zNv {op : Operator} {r : R2} (ho : OpR X (binaryOp op) r) (ha : PE X a ta) (hb : PE X b tb) : PE X (.BinOp a op b pos) (tOp r ta tb) := by
 intro pins s σ H Q I h
 exact wpAny_BinOp (zJZ ha hb I h fun v u s2 x y H2 I2 rx ry q => ho pins s2 σ H2 x y v u Q I2 rx ry q)
theorem zN6 {op : UnaryOp} {r : V -> Hp -> VK -> Prop} (ho : UnR X (unaryOp op) r) (ha : PE X a ta) : PE X (.UnaryOp op a pos) (tUn r ta) := by
 intro pins s σ H Q I h
 exact UnaryOp_ (thn (ha pins s σ H _ I h) fun v s1 ⟨x, H1, I1, r1, q1⟩ => ho pins s1 σ H1 x v Q I1 r1 q1)
theorem opI {f : Value -> Value -> Sem Value} {C : Int -> Int -> Prop} {g : Int -> Int -> Int}
  (rule : ∀ (i j : Int) (t u : Tok) (s : Shared) (Q : Value -> Shared -> Prop) (E : Value -> Shared -> Prop), C i j -> Q (.int (g i j) s.toks) { s with toks := s.toks + 1 } -> wpAny (model X.prog X.w) X.A (f (.int i t) (.int j u)) Q E s) :
  OpR X f (rI C fun i j => .int (g i j)) := by
 intro pins s σ H x y v u Q I rx ry h
 obtain ⟨i, j, rfl, rfl, hc, q⟩ := h
 obtain ⟨t, rfl⟩ := rx
 obtain ⟨t', rfl⟩ := ry
 exact rule i j t t' s _ _ hc ⟨.int (g i j), H, I.tok _, ⟨_, rfl⟩, q⟩
theorem zMh {f : Value -> Value -> Sem Value} {g : Int -> Int -> Int}
  (rule : ∀ (i j : Int) (t u : Tok) (s : Shared) (Q : Value -> Shared -> Prop) (E : Value -> Shared -> Prop), Q (.int (g i j) s.toks) { s with toks := s.toks + 1 } -> wpAny (model X.prog X.w) X.A (f (.int i t) (.int j u)) Q E s) :
  OpR X f (rI0 fun i j => .int (g i j)) := by
 intro pins s σ H x y v u Q I rx ry h
 obtain ⟨i, j, rfl, rfl, q⟩ := h
 obtain ⟨t, rfl⟩ := rx
 obtain ⟨t', rfl⟩ := ry
 exact rule i j t t' s _ _ ⟨.int (g i j), H, I.tok _, ⟨_, rfl⟩, q⟩
theorem zJQ {f : Value -> Value -> Sem Value} {g : Int -> Int -> Bool}
  (rule : ∀ (i j : Int) (t u : Tok) (s : Shared) (Q : Value -> Shared -> Prop) (E : Value -> Shared -> Prop), Q (.bool (g i j)) s -> wpAny (model X.prog X.w) X.A (f (.int i t) (.int j u)) Q E s) :
  OpR X f (rI0 fun i j => .bl (g i j)) := by
 intro pins s σ H x y v u Q I rx ry h
 obtain ⟨i, j, rfl, rfl, q⟩ := h
 obtain ⟨t, rfl⟩ := rx
 obtain ⟨t', rfl⟩ := ry
 exact rule i j t t' s _ _ ⟨.bl (g i j), H, I, rfl, q⟩
def zOY (i j : Int) : Prop := 0 < j /\ j < 1073741824
def zHG (i j : Int) : Prop := (-(2 ^ 64) < i /\ i < 2 ^ 64) \/ (-(2 ^ 64) < j /\ j < 2 ^ 64)
theorem zHG.ok {i j : Int} (h : zHG i j) : IntMulOk i j := by
 rcases h with ⟨h1, h2⟩ | ⟨h1, h2⟩
 ·exact .of_left (intBits_le_64 h1 h2)
 ·exact .of_right (intBits_le_64 h1 h2)
theorem zMY : OpR X (binaryOp .Add) (rI0 fun i j => .int (i + j)) := zMh fun _ _ _ _ _ _ _ q => add_int q
theorem zM4 : OpR X (binaryOp .Sub) (rI0 fun i j => .int (i - j)) := zMh fun _ _ _ _ _ _ _ q => sub_int q
theorem zMq : OpR X (binaryOp .Mult) (rI zHG fun i j => .int (i * j)) := opI fun _ _ _ _ _ _ _ hc q => mul_int q hc.ok
theorem zK1 : OpR X (binaryOp .FloorDiv) (rI zOY fun i j => .int (i / j)) := opI fun i j _ _ _ _ _ hc q => by
 have h1 : (0 : Int) < j := hc.1
 have h2 : j < 1073741824 := hc.2
 exact floordiv_int (by omega) (by rw [Int.fdiv_eq_ediv_of_nonneg i (by omega)]; exact q) (.inl (PyProof.noPylong_small (by omega)))
theorem zMS : OpR X (binaryOp .Mod) (rI (fun _ j => 0 < j) fun i j => .int (i % j)) := opI fun i j _ _ _ _ _ hc q => by
 have h1 : (0 : Int) < j := hc
 exact mod_int' (by omega) (by rw [Int.fmod_eq_emod_of_nonneg i (by omega)]; exact q)
theorem unI {f : Value -> Sem Value} {g : Int -> Int}
  (rule : ∀ (i : Int) (t : Tok) (s : Shared) (Q : Value -> Shared -> Prop) (E : Value -> Shared -> Prop), Q (.int (g i) s.toks) { s with toks := s.toks + 1 } -> wpAny (model X.prog X.w) X.A (f (.int i t)) Q E s) :
  UnR X f (rU fun i => .int (g i)) := by
 intro pins s σ H x v Q I rx h
 obtain ⟨i, rfl, q⟩ := h
 obtain ⟨t, rfl⟩ := rx
 exact rule i t s _ _ ⟨.int (g i), H, I.tok _, ⟨_, rfl⟩, q⟩
theorem zMf : UnR X (unaryOp .USub) (rU fun i => .int (-i)) := unI fun _ _ _ _ _ q => neg_int q
end
def zDP : V -> V -> Bool
 | .non, .non => true | .non, .int _ => true | .int _, .non => true | .non, .bl _ => true | .bl _, .non => true | .non, .str _ => true | .str _, .non => true
 | .int _, .int _ => true | .bl _, .bl _ => true | .str _, .str _ => true | .byt _, .byt _ => true
 | .int _, .str _ => true | .str _, .int _ => true | .bl _, .str _ => true | .str _, .bl _ => true
 | _, _ => false
def rEq : R2 := fun x y H Q => zDP x y = true /\ Q (.bl (decide (x = y))) H
def rNe : R2 := fun x y H Q => zDP x y = true /\ Q (.bl (!decide (x = y))) H
theorem zGS {i j : Int} : decide (V.int i = V.int j) = (i == j) := by
 rw [Bool.eq_iff_iff]
 simp
theorem zIJ {i j : Bool} : decide (V.bl i = V.bl j) = (i == j) := by
 rw [Bool.eq_iff_iff]
 simp
theorem zF7 {i j : Str} : decide (V.str i = V.str j) = (i == j) := by
 rw [Bool.eq_iff_iff]
 simp
theorem zF3 {i j : Array UInt8} : decide (V.byt i = V.byt j) = (i.toList == j.toList) := by
 rw [Bool.eq_iff_iff]
 cases i
 cases j
 simp
section
variable {X : Cx} {a b c : Expr} {ta tb tc : TE} {pos : Pos}
theorem jF {pins : List (Addr × Obj)} {σ : St} {H : Hp} {s : Shared} {Q : VK} {k k' : Bool} (I : Inv X pins σ H s) (q : Q (.bl k) H) (e : k = k') : EP X pins σ Q (.bool k') s := by
 subst e
 exact ⟨.bl k, H, I, rfl, q⟩
theorem zN3 : OpR X (compareOp .Eq) rEq := by
 intro pins s σ H x y v u Q I rx ry h
 obtain ⟨hs, q⟩ := h
 cases x with
 | non =>
  cases rx
  cases y with
  | non => cases ry; exact PySem.EqNone.eq_none_none (jF I q (by simp))
  | bl j => cases ry; exact PySem.EqNone.eq_none_bool (jF I q (by simp))
  | int j => obtain ⟨t', rfl⟩ := ry; exact PySem.EqNone.eq_none_int (jF I q (by simp))
  | str j => obtain ⟨t', rfl⟩ := ry; exact PySem.EqNone.eq_none_str (jF I q (by simp))
  | _ => exact absurd (show false = true from hs) Bool.false_ne_true
 | bl i =>
  cases rx
  cases y with
  | non => cases ry; exact PySem.EqNone.eq_bool_none (jF I q (by simp))
  | bl j => cases ry; exact eq_bool (jF I q zIJ)
  | str j => obtain ⟨t', rfl⟩ := ry; exact PySem.EqMixed.eq_bool_str (jF I q (by simp))
  | _ => exact absurd (show false = true from hs) Bool.false_ne_true
 | int i =>
  obtain ⟨t, rfl⟩ := rx
  cases y with
  | non => cases ry; exact PySem.EqNone.eq_int_none (jF I q (by simp))
  | int j => obtain ⟨t', rfl⟩ := ry; exact eq_int (jF I q zGS)
  | str j => obtain ⟨t', rfl⟩ := ry; exact PySem.EqMixed.eq_int_str (jF I q (by simp))
  | _ => exact absurd (show false = true from hs) Bool.false_ne_true
 | str i =>
  obtain ⟨t, rfl⟩ := rx
  cases y with
  | non => cases ry; exact PySem.EqNone.eq_str_none (jF I q (by simp))
  | bl j => cases ry; exact PySem.EqMixed.eq_str_bool (jF I q (by simp))
  | int j => obtain ⟨t', rfl⟩ := ry; exact PySem.EqMixed.eq_str_int (jF I q (by simp))
  | str j => obtain ⟨t', rfl⟩ := ry; exact eq_str (jF I q zF7)
  | _ => exact absurd (show false = true from hs) Bool.false_ne_true
 | byt i =>
  obtain ⟨t, rfl⟩ := rx
  cases y with
  | byt j => obtain ⟨t', rfl⟩ := ry; exact PySem.W.eq_bytes (jF I q zF3)
  | _ => exact absurd (show false = true from hs) Bool.false_ne_true
 | _ => cases y <;> exact absurd (show false = true from hs) Bool.false_ne_true
theorem zNg : OpR X (compareOp .NotEq) rNe := by
 intro pins s σ H x y v u Q I rx ry h
 obtain ⟨hs, q⟩ := h
 cases x with
 | non =>
  cases rx
  cases y with
  | non => cases ry; exact PySem.EqNone.ne_none_none (jF I q (by simp))
  | bl j => cases ry; exact PySem.EqNone.ne_none_bool (jF I q (by simp))
  | int j => obtain ⟨t', rfl⟩ := ry; exact PySem.EqNone.ne_none_int (jF I q (by simp))
  | str j => obtain ⟨t', rfl⟩ := ry; exact PySem.EqNone.ne_none_str (jF I q (by simp))
  | _ => exact absurd (show false = true from hs) Bool.false_ne_true
 | bl i =>
  cases rx
  cases y with
  | non => cases ry; exact PySem.EqNone.ne_bool_none (jF I q (by simp))
  | bl j => cases ry; exact ne_bool (jF I q (congrArg not zIJ))
  | str j => obtain ⟨t', rfl⟩ := ry; exact PySem.EqMixed.ne_bool_str (jF I q (by simp))
  | _ => exact absurd (show false = true from hs) Bool.false_ne_true
 | int i =>
  obtain ⟨t, rfl⟩ := rx
  cases y with
  | non => cases ry; exact PySem.EqNone.ne_int_none (jF I q (by simp))
  | int j => obtain ⟨t', rfl⟩ := ry; exact ne_int (jF I q (congrArg not zGS))
  | str j => obtain ⟨t', rfl⟩ := ry; exact PySem.EqMixed.ne_int_str (jF I q (by simp))
  | _ => exact absurd (show false = true from hs) Bool.false_ne_true
 | str i =>
  obtain ⟨t, rfl⟩ := rx
  cases y with
  | non => cases ry; exact PySem.EqNone.ne_str_none (jF I q (by simp))
  | bl j => cases ry; exact PySem.EqMixed.ne_str_bool (jF I q (by simp))
  | int j => obtain ⟨t', rfl⟩ := ry; exact PySem.EqMixed.ne_str_int (jF I q (by simp))
  | str j => obtain ⟨t', rfl⟩ := ry; exact ne_str (jF I q (congrArg not zF7))
  | _ => exact absurd (show false = true from hs) Bool.false_ne_true
 | byt i =>
  obtain ⟨t, rfl⟩ := rx
  cases y with
  | byt j => obtain ⟨t', rfl⟩ := ry; exact PySem.W.ne_bytes (jF I q (congrArg not zF3))
  | _ => exact absurd (show false = true from hs) Bool.false_ne_true
 | _ => cases y <;> exact absurd (show false = true from hs) Bool.false_ne_true
theorem zNl : OpR X (compareOp .Lt) (rI0 fun i j => .bl (decide (i < j))) := zJQ fun _ _ _ _ _ _ _ q => lt_int q
theorem zOI : OpR X (compareOp .Gt) (rI0 fun i j => .bl (decide (j < i))) := zJQ fun _ _ _ _ _ _ _ q => gt_int q
theorem zNr : OpR X (compareOp .GtE) (rI0 fun i j => .bl (decide (j <= i))) := zJQ fun _ _ _ _ _ _ _ q => ge_int q
theorem zHa : OpR X (compareOp .Lt) (fun x y H Q => ∃ i j, x = .str i /\ y = .str j /\ Q (.bl (decide (i.cps.toList < j.cps.toList))) H) := by
 intro pins s σ H x y v u Q I rx ry h
 obtain ⟨i, j, rfl, rfl, q⟩ := h
 obtain ⟨t, rfl⟩ := rx
 obtain ⟨t', rfl⟩ := ry
 exact lt_str (jF I q rfl)
theorem zIU : OpR X (compareOp .In) (fun x y H Q => ∃ i j, x = .str i /\ y = .str j /\ Q (.bl (!(Builtin.Str.occurrences j i 0 j.length 1).isEmpty)) H) := by
 intro pins s σ H x y v u Q I rx ry h
 obtain ⟨i, j, rfl, rfl, q⟩ := h
 obtain ⟨t, rfl⟩ := rx
 obtain ⟨t', rfl⟩ := ry
 exact in_str (jF I q rfl)
theorem zE5 : OpR X (compareOp .NotIn) (fun x y H Q => ∃ i j, x = .str i /\ y = .str j /\ Q (.bl (!(!(Builtin.Str.occurrences j i 0 j.length 1).isEmpty))) H) := by
 intro pins s σ H x y v u Q I rx ry h
 obtain ⟨i, j, rfl, rfl, q⟩ := h
 obtain ⟨t, rfl⟩ := rx
 obtain ⟨t', rfl⟩ := ry
 exact notIn_str (jF I q rfl)
theorem OpR.or {f : Value -> Value -> Sem Value} {r r' : R2} (h : OpR X f r) (h' : OpR X f r') : OpR X f (fun x y H Q => r x y H Q \/ r' x y H Q) := by
 intro pins s σ H x y v u Q I rx ry q
 rcases q with q | q
 ·exact h pins s σ H x y v u Q I rx ry q
 ·exact h' pins s σ H x y v u Q I rx ry q
theorem jq (b : Expr) {op : CmpOp} (h : op ≠ .In := by decide) (h2 : op ≠ .NotIn := by decide) : behindInMarks op b = false := by
 have e1 : (op == CmpOp.In) = false := by cases op <;> first | rfl | exact absurd rfl h
 have e2 : (op == CmpOp.NotIn) = false := by cases op <;> first | rfl | exact absurd rfl h2
 cases b <;> simp [behindInMarks, e1, e2]
theorem zKr {op : CmpOp} {r : R2} (ho : OpR X (compareOp op) r) (ha : PE X a ta) (hb : PE X b tb) (hm : behindInMarks op b = false) : PE X (.Compare a [op] [b] pos) (tOp r ta tb) := by
 intro pins s σ H Q I h
 exact wpAny_Compare1 (zJZ ha hb I h fun v u s2 x y H2 I2 rx ry q => ho pins s2 σ H2 x y v u Q I2 rx ry q) hm
def zN1 (t : TE) : TT := fun σ H Q => t σ H fun x H' => ∃ k, x = .bl k /\ Q k H'
theorem zLc {op : CmpOp} {r : R2} (ho : OpR X (compareOp op) r) (ha : PE X a ta) (hb : PE X b tb) (hm : behindInMarks op b = false) : PT X (.Compare a [op] [b] pos) (zN1 (tOp r ta tb)) := by
 intro pins s σ H Q I h
 refine wpAny_isTrue_Compare1 (thn (ha pins s σ H _ I h) fun v s1 ⟨x, H1, I1, r1, q1⟩ => thn (hb pins s1 σ H1 _ I1 q1) fun u s2 ⟨y, H2, I2, r2, q2⟩ =>
  thn (ho pins s2 σ H2 x y v u _ I2 r1 r2 q2) fun c s3 ⟨z, H3, I3, r3, k, e, q3⟩ => ?_) hm
 subst e
 cases r3
 exact wpAny_truthy_bool ⟨H3, I3, q3⟩
def zNW (K : PySem.W.Frag) (x : V) (H : Hp) (k : Bool) : Prop :=
 match x with
 | .non => k = false
 | .bl b => k = b
 | .int i => k = (i != 0)
 | .str y => y.length <= sizeLine /\ k = ((y.length : Int) != 0)
 | .byt y => y.size <= sizeLine /\ k = ((y.size : Int) != 0)
 | .ref p => (∃ xs, SqL K H p xs /\ k = !xs.isEmpty) \/ (∃ xs, SqT K H p xs /\ k = !xs.isEmpty) \/ ∃ kvs, H p = some (.dK kvs) /\ k = !kvs.isEmpty
 | _ => False
theorem zHH {κ : Type} {kvs : List (κ × V)} {vs : List (κ × Value)} (r : KV kvs vs) : (!vs.isEmpty) = !kvs.isEmpty := by
 cases r <;> rfl
theorem zB8 {xs : List V} {its : List Value} (r : zf xs its) : (!its.toArray.isEmpty) = !xs.isEmpty := by
 cases r <;> simp
theorem Jc : (sizeLine : Nat) < 2 ^ 63 := by rw [sizeLine_eq]; decide
theorem zMV : zOp X (fun x H Q => ∃ k, zNW X.K x H k /\ Q k H) := by
 intro pins s σ H x v Q I rx h
 obtain ⟨k, e, q⟩ := h
 have hl := Jc
 have hs : sizeLine = 16777216 := sizeLine_eq
 cases x with
 | non =>
  cases rx
  have e' : k = false := e
  subst e'
  exact truthy_none ⟨H, I, q⟩
 | bl b =>
  cases rx
  have e' : k = b := e
  subst e'
  exact wpAny_truthy_bool ⟨H, I, q⟩
 | int i =>
  obtain ⟨t, rfl⟩ := rx
  have e' : k = (i != 0) := e
  subst e'
  exact PySem.P.truthy_int ⟨H, I, q⟩
 | str y =>
  obtain ⟨t, rfl⟩ := rx
  obtain ⟨hy, e'⟩ : y.length <= sizeLine /\ k = ((y.length : Int) != 0) := e
  subst e'
  exact PySem.P.truthy_str (by omega) ⟨H, I.tok _, q⟩
 | byt y =>
  obtain ⟨t, rfl⟩ := rx
  obtain ⟨hy, e'⟩ : y.size <= sizeLine /\ k = ((y.size : Int) != 0) := e
  subst e'
  exact PySem.W.truthy_bytes (by omega) ⟨H, I.tok _, q⟩
 | ref p =>
  cases rx
  have e' : (∃ xs, SqL X.K H p xs /\ k = !xs.isEmpty) \/ (∃ xs, SqT X.K H p xs /\ k = !xs.isEmpty) \/ ∃ kvs, H p = some (.dK kvs) /\ k = !kvs.isEmpty := e
  rcases e' with ⟨xs, hx, e'⟩ | ⟨xs, hx, e'⟩ | ⟨kvs, hx, e'⟩
  ·subst e'
   obtain ⟨its, r, pl, hz⟩ := I.list hx
   have hlen := r.length
   exact wpAny_truthy_list pl.isList (by simp only [List.size_toArray]; omega) ⟨H, I.tok _, by rw [zB8 r]; exact q⟩
  ·subst e'
   obtain ⟨its, r, pl, hz⟩ := I.tuple hx
   have hlen := r.length
   exact truthy_tuple pl (by simp only [List.size_toArray]; omega) ⟨H, I.tok _, by rw [zB8 r]; exact q⟩
  ·subst e'
   obtain ⟨hz, hS, vs, r, m⟩ : kvs.length <= sizeLine /\ (p == sysModules) = false /\ ∃ vs, KV kvs vs /\ s.heap.DictOf (zq X.prog X.w) p vs := I.hok p _ hx
   have hlen : kvs.length = vs.length := Paired.length r
   exact wpAny_truthy_dict hS m (by omega) ⟨H, I.tok _, by rw [zHH r]; exact q⟩
 | _ => exact (show False from e).elim
theorem zJy (ha : PE X a ta) (he : ∀ whole, isTrue a X.env whole = (do let v <- whole; standAt a.pos; holding [v] (truthy v))) :
  PT X a (fun σ H Q => ta σ H fun x H' => ∃ k, zNW X.K x H' k /\ Q k H') := by
 intro pins s σ H Q I h
 exact isTrue_plain (thn (ha pins s σ H _ I h) fun v s1 ⟨x, H1, I1, r1, q1⟩ => zMV pins s1 σ H1 x v Q I1 r1 q1) (he _)
theorem zGm : OpR X (binaryOp .Add) (fun x y H Q => ∃ i j, x = .str i /\ y = .str j /\ i.length + j.length <= sizeLine /\ Q (.str (i ++ j)) H) := by
 intro pins s σ H x y v u Q I rx ry h
 obtain ⟨i, j, rfl, rfl, hz, q⟩ := h
 obtain ⟨t, rfl⟩ := rx
 obtain ⟨t', rfl⟩ := ry
 exact wpAny_with_toks (n := 1) I.tk (add_str (fun t' tk htk => ⟨.str (i ++ j), H, I.tok _ htk, ⟨_, rfl⟩, q⟩) hz)
theorem zFp : OpR X (inplaceOp .Add) (fun x y H Q => ∃ i j, x = .str i /\ y = .str j /\ i.length + j.length <= sizeLine /\ Q (.str (i ++ j)) H) := by
 intro pins s σ H x y v u Q I rx ry h
 obtain ⟨i, j, rfl, rfl, hz, q⟩ := h
 obtain ⟨t, rfl⟩ := rx
 obtain ⟨t', rfl⟩ := ry
 exact wpAny_with_toks (n := 1) I.tk (iadd_str (fun t' tk htk => ⟨.str (i ++ j), H, I.tok _ htk, ⟨_, rfl⟩, q⟩) hz)
theorem Z6 {x : V} {us : List Value} (r : zf [x] us) : ∃ u, us = [u] /\ zZ x u := by
 cases r with
 | cons r1 r2 => cases r2; exact ⟨_, rfl, r1⟩
theorem zKQ {x y : V} {us : List Value} (r : zf [x, y] us) : ∃ u w', us = [u, w'] /\ zZ x u /\ zZ y w' := by
 cases r with
 | cons r1 r2 =>
  cases r2 with
  | cons r3 r4 => cases r4; exact ⟨_, _, rfl, r1, r3⟩
theorem zIS (hc : X.calm = true) : qF X (.builtin "max") (fun xs H Q => ∃ i j, xs = [.int i, .int j] /\ Q (.int (if j > i then j else i)) H) := by
 intro pins s σ H xs us Q I r h
 obtain ⟨i, j, rfl, q⟩ := h
 obtain ⟨u, w', rfl, ⟨t, rfl⟩, ⟨t', rfl⟩⟩ := zKQ r
 refine wpAny_with_toks (n := 1) I.tk (max_two_ints (I.ok.hd hc) fun h' tk k htk => ⟨_, H, I.kept k htk, ?_, q⟩)
 by_cases hj : j > i
 ·rw [if_pos hj, if_pos hj]; exact ⟨_, rfl⟩
 ·rw [if_neg hj, if_neg hj]; exact ⟨_, rfl⟩
theorem zHu : qF X (.type "int") (fun xs H Q => (∃ i, xs = [.int i] /\ Q (.int i) H) \/ ∃ k, xs = [.bl k] /\ Q (.int (if k then 1 else 0)) H) := by
 intro pins s σ H xs us Q I r h
 rcases h with ⟨i, rfl, q⟩ | ⟨k, rfl, q⟩
 ·obtain ⟨u, rfl, t, rfl⟩ := Z6 r
  exact call_int_int ⟨.int i, H, I, ⟨_, rfl⟩, q⟩
 ·obtain ⟨u, rfl, r1⟩ := Z6 r
  cases r1
  exact call_int_bool ⟨.int (if k then 1 else 0), H, I.tok _, ⟨_, rfl⟩, q⟩
end
end L2
namespace L2
open PySem PySem.Spec PyProof.Rows
structure zJ6 (h : Heap) (x dx C : Addr) (mA : Str -> Option Value) : Prop where
 obj : h.get? x = some (PySem.W.instObj C dx)
 ns : h.Ns1 dx mA
 ne : dx ≠ x
theorem zHl {h : Heap} {dx : Addr} {mA : Str -> Option Value} (n : h.Ns1 dx mA) : ∃ od, h.get? dx = some od /\ ∀ name, PySem.W.lookIn name od = some (mA name) := by
 obtain ⟨o, es, ep, ho, hd, hk, _, hm⟩ := n
 refine ⟨o, ho, fun name => ?_⟩
 have e := hm name
 unfold nsFind findBy at e
 rw [<- Array.find?_toList] at e
 unfold PySem.W.lookIn
 rw [hd]
 dsimp only
 split
 ·rename_i y q
  rw [q] at e
  exact congrArg some e
 ·rename_i q
  rw [q] at e
  have a : es.toList.any (·.refKey) = false := by
   rw [List.any_eq_false]
   intro y hy
   obtain ⟨z, t, hkey⟩ := hk y (Array.mem_toList_iff.mp hy)
   simp [DictEntry.refKey, hkey]
  have a' : ¬ es.toList.any (·.refKey) = true := by rw [a]; exact Bool.false_ne_true
  rw [if_neg a']
  exact congrArg some e
theorem zJ6.look {h : Heap} {x dx C : Addr} {mA : Str -> Option Value} (I : zJ6 h x dx C mA) : ∃ od, PySem.W.InstAt h x (PySem.W.instObj C dx) C (some od) /\ ∀ name, PySem.W.lookIn name od = some (mA name) :=
 let ⟨od, ho, hl⟩ := zHl I.ns
 ⟨od, ⟨I.obj, rfl, rfl, ho⟩, hl⟩
theorem Qd.some_of {v : V} {o : Option Value} (r : Qd (some v) o) : ∃ u, o = some u /\ zZ v u := by
 cases o with
 | none => exact (show False from r).elim
 | some u => exact ⟨u, rfl, r⟩
section
variable {P : Program} {w : World} {H H' : Hp} {h h' : Heap} {a C dx : Addr} {fs fs' : List (Str × V)}
theorem zKz (hok : HOk P w H h) (e : H a = some (.ins C dx fs)) : ∃ mA, zJ6 h a dx C mA /\ (∀ f, Qd (fs.lookup f) (mA f)) /\ PySem.Within mA (fs.map (·.1)) /\ fs.length <= 1000 /\ H dx = some (.own a) := by
 obtain ⟨d, z, ne, ob, mA, n, r, q⟩ := (show jV P w H h a (.ins C dx fs) from hok a _ e)
 exact ⟨mA, ⟨ob, n, ne⟩, r, q, z, d⟩
end
structure Cls (K : PySem.W.Frag) (C : Addr) : Prop where
 pg : PySem.W.plainGet K C Str.empty = true
 hd : PySem.W.hasDictIn K C = true
 po : PySem.W.plainOver K C = true
 sa : PySem.W.findIn K (.ref C) "__setattr__" = some (some (.builtin "object.__setattr__"))
theorem Cls.get {K : PySem.W.Frag} {C : Addr} (c : Cls K C) (f : Str) : PySem.W.plainGet K C f = true := c.pg
def zML (K : PySem.W.Frag) (C : Addr) (f : Str) : Prop := PySem.W.findIn K (.ref C) f = some none
structure Con (K : PySem.W.Frag) (C : Addr) (f : Str) (v : V) (u : Value) : Prop where
 at_ : PySem.W.findIn K (.ref C) f = some (some u)
 rel : zZ v u
 get : PySem.W.specialIn K u "__get__" = some none
 cp : PySem.W.copiedNames.contains f = false
structure zOc (K : PySem.W.Frag) (C : Addr) (m : Str) (f : Addr) : Prop where
 at_ : PySem.W.findIn K (.ref C) m = some (some (.ref f))
 fn : PySem.W.isFn K (.ref f) = true
 kp : PySem.W.keepIn K (.ref f) = true
def zOd (X : Cx) (op : Operator) (rd : V -> V -> Hp -> VK -> Prop) : Prop :=
 ∀ (pins : List (Addr × Obj)) (s : Shared) (σ : St) (H : Hp) (x y : V) (u v : Value) (Q : VK), Inv X pins σ H s -> zZ x u -> zZ y v -> rd x y H Q -> wpAny (model X.prog X.w) X.A (inplaceOp op u v) (EP X pins σ Q) X.xe s
section
variable {X : Cx} {pins : List (Addr × Obj)} {σ : St} {H : Hp} {s : Shared} {A : Around} {E : Value -> Shared -> Prop} {Q : Value -> Shared -> Prop} {c : Value} {b : Bool}
inductive Qr (K : PySem.W.Frag) (H : Hp) : V -> Value -> Prop where
 | non : Qr K H .non (.type "NoneType")
 | bl (x : Bool) : Qr K H (.bl x) (.type "bool")
 | int (i : Int) : Qr K H (.int i) (.type "int")
 | str (x : Str) : Qr K H (.str x) (.type "str")
 | flt (x : UInt64) : Qr K H (.flt x) (.type "float")
 | lst {a : Addr} {xs : List V} (e : H a = some (.lst xs)) : Qr K H (.ref a) (.type "list")
 | frz {a : Addr} {o : Obj} {xs : List V} (e : H a = some (.frz o (.lst xs))) : Qr K H (.ref a) (.type "list")
 | tup {a : Addr} {xs : List V} (e : H a = some (.tup xs)) : Qr K H (.ref a) (.type "tuple")
 | dK {a : Addr} {kvs : List (Key × V)} (e : H a = some (.dK kvs)) : Qr K H (.ref a) (.type "dict")
 | dT {a : Addr} {kvs : List (List Key × V)} (e : H a = some (.dT kvs)) : Qr K H (.ref a) (.type "dict")
 | ins {a C dx : Addr} {fs : List (Str × V)} (e : H a = some (.ins C dx fs)) (cl : Cls K C) (ha : PySem.W.findIn K (.ref C) "__class__" = some (some (.builtin "object.__class__")))
   (hn : PySem.W.specialIn K (.builtin "object.__class__") "__get__" = some (some (.builtin "getset_descriptor.__get__"))) (htk : PySem.W.takesIn K (.builtin "object.__class__") = some true)
   (hm : PySem.W.mroIn K C (.type "object") = some true) : Qr K H (.ref a) (.ref C)
theorem zHd {x : V} {u t : Value} (I : Inv X pins σ H s) (rx : zZ x u) (ty : Qr X.K H x t) (e : PySem.W.kitOne X.K t c = some b) (h : ∀ tk, Q (.bool b) { s with toks := tk }) :
  wpAny (model X.prog X.w) A (call (.builtin "isinstance") [u, c]) Q E s := by
 cases ty with
 | non => cases (show u = Value.none from rx); exact PySem.W.kia_one PySem.W.kitx_none I.kIn True.intro e (fun z => nomatch z) h
 | bl y => cases (show u = Value.bool y from rx); exact PySem.W.kia_one PySem.W.kitx_bool I.kIn True.intro e (fun z => nomatch z) h
 | int i => obtain ⟨t, q⟩ := (show ∃ t, u = Value.int i t from rx); cases q; exact PySem.W.kia_one PySem.W.kitx_int I.kIn True.intro e (fun z => nomatch z) h
 | str y => obtain ⟨t, q⟩ := (show ∃ t, u = Value.str y t from rx); cases q; exact PySem.W.kia_one PySem.W.kitx_str I.kIn True.intro e (fun z => nomatch z) h
 | flt y => obtain ⟨t, q⟩ := (show ∃ t, u = Value.float y t from rx); cases q; exact PySem.W.kia_one PySem.W.kitx_float I.kIn True.intro e (fun z => nomatch z) h
 | @lst a xs ea =>
  cases (show u = Value.ref a from rx)
  obtain ⟨_, _, n, _, h1⟩ := (show jV X.prog X.w H s.heap a (.lst xs) from I.hok a _ ea)
  exact PySem.W.kia_one PySem.W.kitx_list I.kIn ⟨_, h1, rfl⟩ e (fun z => nomatch z) h
 | @frz a ob xs ea =>
  cases (show u = Value.ref a from rx)
  obtain ⟨_, _, _, n, _, h1⟩ := (show jV X.prog X.w H s.heap a (.frz ob (.lst xs)) from I.hok a _ ea)
  exact PySem.W.kia_one PySem.W.kitx_list I.kIn ⟨_, h1, rfl⟩ e (fun z => nomatch z) h
 | @tup a xs ea =>
  cases (show u = Value.ref a from rx)
  obtain ⟨_, _, _, p⟩ := (show jV X.prog X.w H s.heap a (.tup xs) from I.hok a _ ea)
  obtain ⟨o, h1, h2, _⟩ := p
  exact PySem.W.kia_one PySem.W.kitx_tuple I.kIn ⟨o, h1, h2⟩ e (fun z => nomatch z) h
 | @dK a kvs ea =>
  cases (show u = Value.ref a from rx)
  obtain ⟨_, _, vs, _, p⟩ := (show jV X.prog X.w H s.heap a (.dK kvs) from I.hok a _ ea)
  obtain ⟨o, es, ep, h1, h2, _⟩ := p
  exact PySem.W.kia_one PySem.W.kitx_dict I.kIn ⟨o, h1, h2.1⟩ e (fun z => nomatch z) h
 | @dT a kvs ea =>
  cases (show u = Value.ref a from rx)
  obtain ⟨_, _, xs, _, o, es, ep, h1, h2, _⟩ := (show jV X.prog X.w H s.heap a (.dT kvs) from I.hok a _ ea)
  exact PySem.W.kia_one PySem.W.kitx_dict I.kIn ⟨o, h1, h2.1⟩ e (fun z => nomatch z) h
 | @ins a C dx fs ea cl ha hn htk hm =>
  cases (show u = Value.ref a from rx)
  obtain ⟨mA, O, _⟩ := zKz I.hok ea
  obtain ⟨od, J, _⟩ := O.look
  exact PySem.W.kia_one (PySem.W.kitx_own (cl.get _) cl.hd ha hn htk hm) I.kIn J e (fun z => nomatch z) h
end
end L2
namespace L2
open PySem PySem.Spec PyProof.Rows
structure jH (k : Nat) (A : Around) : Prop where
 hd : A.handled = none
 dp : A.depth + 3 * k + 5 < recursionLimit
 un : A.units + 16 * k + 200 < cLine
theorem jH.mono {j k : Nat} {A : Around} (r : jH k A) (h : j <= k) : jH j A := ⟨r.hd, by have := r.dp; omega, by have := r.un; omega⟩
theorem jH.deeper {k : Nat} {A : Around} (r : jH (k + 1) A) (env : Env) : jH k (A.deeper env) :=
 ⟨r.hd, by have := r.dp; show A.depth + 1 + 3 * k + 5 < _; omega, by have := r.un; show A.units + 3 + 16 * k + 200 < _; omega⟩
theorem jH.depth {k : Nat} {A : Around} (r : jH k A) : A.depth < recursionLimit := by have := r.dp; omega
theorem jH.units {k : Nat} {A : Around} (r : jH k A) : A.units + 64 < cLine := by have := r.un; omega
theorem jH.units0 {k : Nat} {A : Around} (r : jH k A) : A.units < cLine := by have := r.un; omega
def zOi : TA := fun _ H Q => Q [] H
def zN7 (ta : TE) (tr : TA) : TA := fun σ H Q => ta σ H fun x H1 => tr σ H1 fun xs H2 => Q (x :: xs) H2
section
variable {X : Cx} {e : Expr} {es : List Expr} {te : TE} {t : TA} {pos : Pos}
theorem zHc : PA X [] zOi := fun _ _ _ _ H Q I h => Calls.spliced_nil ⟨[], H, I, .nil, h⟩
theorem zGN (ha : PE X e te) (hr : PA X es t) (hs : starEach (e :: es) X.env = (false, eval e X.env) :: starEach es X.env := by rfl) : PA X (e :: es) (zN7 te t) := by
 intro pos pins s σ H Q I h
 rw [hs]
 show wpAny _ _ (spliced ((false, eval e X.env) :: backTo pos (starEach es X.env))) _ _ s
 refine Calls.spliced_cons (thn (ha pins s σ H _ I h) fun u s1 ⟨x, H1, I1, r1, q1⟩ => ?_)
 exact thn (hr pos pins s1 σ H1 _ I1 q1) fun us s2 ⟨xs, H2, I2, r2, q2⟩ => ⟨x :: xs, H2, I2, .cons r1 r2, q2⟩
def zOq (t : TA) : TE := fun σ H Q => t σ H fun xs H1 => xs.length <= sizeLine /\ ∀ p, H1 p = none -> Q (.ref p) (upd H1 p (.tup xs))
def zOS (t : TA) : TE := fun σ H Q => t σ H fun xs H1 => xs.length <= sizeLine /\ ∀ p, H1 p = none -> Q (.ref p) (upd H1 p (.lst xs))
theorem zLp {x1} (h : PA X es t) : PE X (.Tuple es x1 pos) (zOq t) := by
 intro pins s σ H Q I hq
 refine wpAny_Tuple_spliced (thn (h pos pins s σ H _ I hq) fun us s1 ⟨xs, H1, I1, r, z, q⟩ => ⟨by rw [<- r.length]; exact z, ?_⟩)
 have hf : H1 s1.heap.objs.size = none := I1.hok.fresh (Nat.le_refl _)
 refine ⟨.ref s1.heap.objs.size, upd H1 s1.heap.objs.size (.tup xs), I1.laid (t' := s1.toks) (fun b u e => Heap.get?_push_of_some _ e) (Nat.le_refl _) ?_, rfl, q _ hf⟩
 exact ⟨z, us, r, ⟨_, Heap.get?_push_size _ rfl, rfl, _, rfl⟩⟩
theorem zMv (h : PA X es t) : PE X (.List es pos) (zOS t) := by
 intro pins s σ H Q I hq
 refine wpAny_List_spliced (thn (h pos pins s σ H _ I hq) fun us s1 ⟨xs, H1, I1, r, z, q⟩ => ⟨by rw [<- r.length]; exact z, ?_⟩)
 have hf : H1 s1.heap.objs.size = none := I1.hok.fresh (Nat.le_refl _)
 refine ⟨.ref s1.heap.objs.size, upd H1 s1.heap.objs.size (.lst xs), I1.laid (t' := s1.toks) (fun b u e => Heap.get?_push_of_some _ e) (Nat.le_refl _) ?_, rfl, q _ hf⟩
 exact ⟨z, us, 0, r, Heap.get?_push_size _ rfl⟩
end
abbrev Sp := List V -> Hp -> VK -> XK -> Prop
abbrev CXT := List Env -> Hp -> Shared -> XK -> Value -> Shared -> Prop
structure zGp (P : Program) (w : World) (K : PySem.W.Frag) (mg : Str -> Option Value) (base : Heap) (A : Around) (outer : List Env) (s : Shared) (H : Hp) : Prop where
 frames : A.frames = some outer
 mod : Mod K mg base
 bs : ∀ b o, base.get? b = some o -> s.heap.get? b = some o /\ H b = none
 bsz : base.objs.size <= s.heap.objs.size
 funs : s.heap.FunFrames base outer
 frf : ∀ b ∈ frs outer, H b = none
 hok : HOk P w H s.heap
 bare : AllBare s.gens
def CE (outer : List Env) (P : Program) (w : World) (H : Hp) (s : Shared) (Q : VK) (u : Value) (s' : Shared) : Prop :=
 ∃ v H', s'.os = s.os /\ AllBare s'.gens /\ Un (frs outer) [] H H' s.heap s'.heap /\ HOk P w H' s'.heap /\ zZ v u /\ Q v H'
def CR (CX : CXT) (outer : List Env) (P : Program) (w : World) (H : Hp) (s : Shared) (Q : VK) (E : XK) (r : Result) (s' : Shared) : Prop :=
 match r with
 | .ok (.ret u) => CE outer P w H s Q u s'
 | .ok _ => False
 | .error e => CX outer H s E e s'
structure qA (P : Program) (w : World) (K : PySem.W.Frag) (mg : Str -> Option Value) (base : Heap) (CX : CXT) (k : Nat) (f : Addr) (fd : FuncData) (ps : List Str) (sp : Sp) : Prop where
 len : ∀ vs H Q E, sp vs H Q E -> vs.length = ps.length
 run : ∀ (A : Around) (outer : List Env) (s : Shared) (H : Hp) (args : Args) (us : List Value) (vs : List V) (Q : VK) (E : XK), jH k A -> zGp P w K mg base A outer s H -> (0 < s.toks \/ ∃ p ∈ ps, fd.scope.names.lookup p = some .local) -> BindsTo s fd args (ps.zip us) -> zf vs us -> sp vs H Q E ->
  codeAny (model P w) A (.call (.ref f) args) (CR CX outer P w H s Q E) s
section
variable {X : Cx} {pins : List (Addr × Obj)} {σ : St} {H : Hp} {s s' : Shared}
theorem Inv.env0 (I : Inv X pins σ H s) : zGp X.prog X.w X.K X.mg X.base X.A X.stack s H :=
 ⟨I.ok.frames, I.ok.mod, I.bs, Nat.le_trans I.ok.bsz I.sz, I.stack, I.stkFree, I.hok, I.bare⟩
theorem Inv.after {Q : VK} {u : Value} (I : Inv X pins σ H s) (h : CE X.stack X.prog X.w H s Q u s') (ht : 0 < s'.toks) : EP X pins σ Q u s' := by
 obtain ⟨v, H', os, bare, un, hok, r, q⟩ := h
 obtain ⟨hh, g, d, t, os'⟩ := s'
 obtain rfl : os' = s.os := os
 exact ⟨v, H', I.call (h' := hh) (g' := g) (d' := d) (t' := t) (ch := []) un hok bare (fun b z => absurd z (by simp)) ht, r, q⟩
end
def zKU (sp : Sp) (dvs : List V) (E : XK) (t : TA) : TE := fun σ H Q => t σ H fun vs H1 => sp (vs ++ dvs) H1 Q E
def Js (K : PySem.W.Frag) (fd : FuncData) (ps : List Str) (ds : List Value) : Prop :=
 ∀ (s : Shared) (us : List Value), K.In s.heap -> (us ++ ds).length = ps.length -> BindsTo s fd ⟨us, []⟩ (ps.zip (us ++ ds))
theorem Js.all {K : PySem.W.Frag} {fd : FuncData} {ps : List Str} (h : ∀ us : List Value, us.length = ps.length -> bindArgs fd ⟨us, []⟩ = pure (ps.zip us)) : Js K fd ps [] := fun s us _ hl => by
 rw [List.append_nil] at hl ⊢
 exact .of_eq (h us hl)
def zAS (CX : CXT) (X : Cx) (E : XK) : Prop := ∀ (pins : List (Addr × Obj)) (σ : St) (H : Hp) (s : Shared) (e : Value) (s' : Shared), Inv X pins σ H s -> CX X.stack H s E e s' -> X.xe e s'
section
variable {X : Cx} {CX : CXT} {k : Nat} {f C : Addr} {fd : FuncData} {ps : List Str} {sp : Sp} {dvs : List V} {ds : List Value} {E : XK} {x m : Str} {p pos apos : Pos} {e o : Expr} {es : List Expr} {ta : TE} {t : TA}
theorem zMo {pins : List (Addr × Obj)} {σ : St} {H : Hp} {s : Shared} {Q : VK} {us : List Value} {vs : List V} (F : qA X.prog X.w X.K X.mg X.base CX k f fd ps sp) (hr : jH k X.A) (hb : Js X.K fd ps ds) (hd : zf dvs ds) (hx : zAS CX X E)
  (I : Inv X pins σ H s) (r : zf vs us) (h : sp (vs ++ dvs) H Q E) : wpAny (model X.prog X.w) X.A (call (.ref f) us) (EP X pins σ Q) X.xe s := by
 have r2 : zf (vs ++ dvs) (us ++ ds) := r.append hd
 have hl : (us ++ ds).length = ps.length := by rw [<- r2.length]; exact F.len _ _ _ _ h
 refine wpAny_call (codeAny_mono (codeAny_toks_of (n := 1) I.tk (F.run X.A X.stack s H ⟨us, []⟩ (us ++ ds) (vs ++ dvs) Q E hr I.env0 (.inl I.tk) (hb s us I.kIn hl) r2 h)) fun r s' ⟨htk, hq⟩ => ?_)
 cases r with
 | error e => exact hx pins σ H s e s' I hq
 | ok fl =>
  cases fl with
  | ret u => exact I.after hq htk
  | next => exact False.elim hq
  | brk => exact False.elim hq
  | cont => exact False.elim hq
theorem zK4 (F : qA X.prog X.w X.K X.mg X.base CX k f fd ps sp) (hr : jH k X.A) (hg : Gl X x) (hm : X.mg x = some (.ref f)) (hk : PySem.W.keepIn X.K (.ref f) = true) (hb : Js X.K fd ps ds) (hd : zf dvs ds) (hx : zAS CX X E)
  (ha : PA X (e :: es) t) (hdb : (x == ("__debug__" : Str)) = false := by decide) (he : starEach (e :: es) X.env = (false, eval e X.env) :: starEach es X.env := by rfl) (hpl : (backTo pos (starEach es X.env)).any (·.1) = false := by rfl) :
  PE X (.Call (.Name x p) (e :: es) [] pos) (zKU sp dvs E t) := by
 intro pins s σ H Q I h
 refine wpAny_Call_Name_kw (zK6 I hg hm ?_ hdb)
 refine PySem.W.callWith_K (h₀ := X.base) I.ok.mod.kin hk (thn (ha pos pins s σ H _ I h) fun us s1 ⟨vs, H1, I1, r, q⟩ => ⟨I1.kIn, ?_⟩) he hpl
 exact zMo F hr hb hd hx I1 r q
structure Mk (K : PySem.W.Frag) (C f : Addr) : Prop where
 makes : PySem.W.makesIn K C = true
 init : PySem.W.findIn K (.ref C) "__init__" = some (some (.ref f))
 fn : PySem.W.isFn K (.ref f) = true
 kp : PySem.W.keepIn K (.ref C) = true
end
section
variable {X : Cx} {CX : CXT} {k : Nat} {f C : Addr} {fd : FuncData} {ps ks : List Str} {sp : Sp} {E : XK} {x m : Str} {p pos apos kpos : Pos} {e o : Expr} {es : List Expr} {kws : List Keyword} {te ta : TE} {t tk : TA} {nm : Option Str}
structure zOx (K : PySem.W.Frag) (fd : FuncData) (ps ks : List Str) (g : List Value -> List Value -> List Value) (gV : List V -> List V -> List V) : Prop where
 to : ∀ (s : Shared) (us ws : List Value), K.In s.heap -> (g us ws).length = ps.length -> BindsTo s fd ⟨us, ks.zip ws⟩ (ps.zip (g us ws))
 rel : ∀ {vs : List V} {us : List Value} {zs : List V} {ws : List Value}, zf vs us -> zf zs ws -> zf (gV vs zs) (g us ws)
variable {g : List Value -> List Value -> List Value} {gV : List V -> List V -> List V}
end
structure jb (N P : List Str) (sc : Scope) : Prop where
 kind : sc.kind = .function
 co : sc.isCoroutine = false
 gen : sc.isGenerator = false
 nd : N.Nodup
 pre : N.take P.length = P
 par : ∀ x ∈ P, sc.names.lookup x = some .local \/ sc.names.lookup x = some .cell
 nofree : ∀ y ∈ sc.names, y.2 ≠ .free
theorem zDY {kindOf : Str -> Option NameKind} {x : Str} : ∀ {binds : List (Str × Value)} {m : Str -> Option Value}, (∀ v, (x, v) ∉ binds) -> bindL kindOf binds m x = m x
 | [], _, _ => rfl
 | (n, v) :: r, m, h => by
  unfold bindL
  rw [zDY fun w hw => h w (List.mem_cons_of_mem _ hw)]
  split
  ·have : x ≠ n := by rintro rfl; exact h v List.mem_cons_self
   simp [this]
  ·rfl
theorem zDu {kindOf : Str -> Option NameKind} {x : Str} : ∀ {binds : List (Str × Value)} {m : Str -> Option Value}, (∀ v, (x, v) ∉ binds) -> bindC kindOf binds m x = m x
 | [], _, _ => rfl
 | (n, v) :: r, m, h => by
  unfold bindC
  rw [zDu fun w hw => h w (List.mem_cons_of_mem _ hw)]
  split
  ·rfl
  ·have : x ≠ n := by rintro rfl; exact h v List.mem_cons_self
   simp [this]
theorem zDv {kindOf : Str -> Option NameKind} {x : Str} {v : Value} : ∀ {P : List Str} {vs : List Value} {i : Nat} {m : Str -> Option Value}, P.Nodup -> P[i]? = some x -> vs[i]? = some v -> kindOf x = some .local ->
  bindL kindOf (P.zip vs) m x = some v
 | [], _, _, _, _, h, _, _ => by simp at h
 | _ :: _, [], _, _, _, _, h, _ => by simp at h
 | p :: P, w :: vs, 0, m, nd, h1, h2, hk => by
  simp at h1 h2; subst h1; subst h2
  show bindL kindOf ((p, w) :: P.zip vs) m p = _
  unfold bindL
  rw [zDY fun v hv => (List.nodup_cons.mp nd).1 (List.of_mem_zip hv).1, if_pos hk]
  simp
 | p :: P, w :: vs, i + 1, m, nd, h1, h2, hk => by
  show bindL kindOf ((p, w) :: P.zip vs) m x = _
  unfold bindL
  exact zDv (i := i) (List.nodup_cons.mp nd).2 (by simpa using h1) (by simpa using h2) hk
theorem zD0 {kindOf : Str -> Option NameKind} {x : Str} {v : Value} : ∀ {P : List Str} {vs : List Value} {i : Nat} {m : Str -> Option Value}, P.Nodup -> P[i]? = some x -> vs[i]? = some v -> kindOf x ≠ some .local ->
  bindC kindOf (P.zip vs) m x = some v
 | [], _, _, _, _, h, _, _ => by simp at h
 | _ :: _, [], _, _, _, _, h, _ => by simp at h
 | p :: P, w :: vs, 0, m, nd, h1, h2, hk => by
  simp at h1 h2; subst h1; subst h2
  show bindC kindOf ((p, w) :: P.zip vs) m p = _
  unfold bindC
  rw [zDu fun v hv => (List.nodup_cons.mp nd).1 (List.of_mem_zip hv).1, if_neg hk]
  simp
 | p :: P, w :: vs, i + 1, m, nd, h1, h2, hk => by
  show bindC kindOf ((p, w) :: P.zip vs) m x = _
  unfold bindC
  exact zD0 (i := i) (List.nodup_cons.mp nd).2 (by simpa using h1) (by simpa using h2) hk
def start (N : List Str) (vs : List V) : St := vs.map some ++ List.replicate (N.length - vs.length) none
def JT (CX : CXT) (P : Program) (w : World) (K : PySem.W.Frag) (mg : Str -> Option Value) (base : Heap) (N : List Str) (qual : Str) (scope : Scope) (f : Addr) (cd : Value) (A : Around) (outer : List Env) (s : Shared) (H : Hp) (E : XK) : Cx where
 prog := P
 w := w
 K := K
 mg := mg
 base := base
 A := A.deeper (envOfC qual scope s.heap.objs.size f cd)
 N := N
 s₀ := s
 H₀ := H
 env := envOfC qual scope s.heap.objs.size f cd
 outer := outer
 stack := envOfC qual scope s.heap.objs.size f cd :: outer
 ex := []
 calm := true
 fn := fun _ => true
 pn := []
 xe := fun e s' => wpAny (model P w) (A.deeper (envOfC qual scope s.heap.objs.size f cd)) (leaving (envOfC qual scope s.heap.objs.size f cd) e) (fun _ s'' => CX outer H s E e s'') (fun e' s'' => CX outer H s E e' s'') s'
theorem zFk {sc : Scope} {n : Nat} {x : Str} (h : sc.names.lookup x = some .cell) : ∃ c, (cellsFrom n sc.names []).lookup x = some c := by
 have q := PySem.W.cellsFrom_some sc.names n [] (.inl h)
 exact Option.isSome_iff_exists.mp q
theorem zAB {M : Model} {A : Around} {E : Value -> Shared -> Prop} {s₀ : Shared} {env : Env} (f : Str × Value -> PUnit -> Sem (ForInStep PUnit)) (hf : ∀ n v u, f (n, v) u = (do storeName env n v; pure (.yield ⟨⟩))) (hk : env.scope.kind = .function) :
  ∀ (binds : List (Str × Value)) (m cm : Str -> Option Value) (s : Shared) (Q : PUnit -> Shared -> Prop), InCallC s₀ env.locals m env.cells cm s ->
   (∀ x ∈ binds, env.kindOf x.1 = some .local \/ (env.kindOf x.1 = some .cell /\ (env.cells.lookup x.1).isSome = true)) ->
   (∀ s', InCallC s₀ env.locals (bindL env.kindOf binds m) env.cells (bindC env.kindOf binds cm) s' -> ((0 < s.toks \/ ∃ b ∈ binds, env.kindOf b.1 = some .local) -> 0 < s'.toks) -> Q ⟨⟩ s') -> wpAny M A (forIn binds ⟨⟩ f) Q E s
 | [], m, cm, s, Q, x, _, h => by
  rw [List.forIn_nil]
  exact wpAny_pure (h s x fun z => z.elim id fun ⟨b, hb, _⟩ => absurd hb (by simp))
 | (n, v) :: r, m, cm, s, Q, x, hkind, h => by
  rw [List.forIn_cons, hf]
  have hr : ∀ y ∈ r, env.kindOf y.1 = some .local \/ (env.kindOf y.1 = some .cell /\ (env.cells.lookup y.1).isSome = true) := fun y hy => hkind y (List.mem_cons_of_mem _ hy)
  rcases hkind (n, v) List.mem_cons_self with hl | ⟨hl, hc⟩
  ·refine wpAny_bind (wpAny_bind (wpAny_storeName_local hl x.toInCall.ns (fun h' hn' hs' => wpAny_pure (zAB f hf hk r (fun y => if y = n then some v else m y) cm _ Q ⟨⟨?_, hn', fun b o e => ?_, x.toInCall.fresh⟩, fun k c hc => ?_, x.apart, x.above⟩ hr fun s'' x'' ht => h s'' ?_ fun _ => ht (.inl (Nat.succ_pos _)))) (by rw [hk]; rfl)))
   ·obtain ⟨h₁, tk, rfl⟩ := x.toInCall.same
    exact ⟨h', _, rfl⟩
   ·exact hs'.extBut b o (Nat.ne_of_lt (Nat.lt_of_lt_of_le (Heap.lt_size e) x.toInCall.fresh)) (x.toInCall.keep b o e)
   ·exact (x.cell k c hc).sameBut hs' (Nat.ne_of_gt (x.above k c (PySem.mem_of_lookup hc)))
   ·unfold bindL bindC; rw [if_pos hl, if_pos hl]; exact x''
  ·obtain ⟨c, hc⟩ := Option.isSome_iff_exists.mp hc
   have hnl : ¬ env.kindOf n = some .local := by rw [hl]; decide
   refine wpAny_bind (wpAny_bind (wpAny_with_toks (n := s.toks) (Nat.le_refl _) (stCC x hk hl hc fun s' x' hle => wpAny_pure (zAB f hf hk r m _ s' Q x' hr fun s'' x'' ht => h s'' ?_ fun z => ht ?_))))
   ·unfold bindL bindC; rw [if_neg hnl, if_neg hnl]; exact x''
   ·rcases z with z | ⟨b, hb, hbl⟩
    ·exact .inl (Nat.lt_of_lt_of_le z hle)
    ·rcases List.mem_cons.mp hb with rfl | hb
     ·exact absurd hbl hnl
     ·exact .inr ⟨b, hb, hbl⟩
theorem zKZ {M : Model} {A : Around} {E : Value -> Shared -> Prop} {s : Shared} {scope : Scope} {globals : Addr} {binds : List (Str × Value)} {qual : Str} {func : Option Addr} {code : Value} {builtins : Addr} {Q : Env -> Shared -> Prop}
  (hk : scope.kind = .function)
  (hkind : ∀ x ∈ binds, scope.names.lookup x.1 = some .local \/ (scope.names.lookup x.1 = some .cell /\ ((cellsFrom (s.heap.objs.size + 1) scope.names []).lookup x.1).isSome = true))
  (hQ : ∀ env, env = newEnv scope s.heap.objs.size globals (cellsFrom (s.heap.objs.size + 1) scope.names []) qual func code none builtins ->
   ∀ s', InCallC s env.locals (bindL env.kindOf binds fun _ => none) env.cells (bindC env.kindOf binds fun _ => none) s' -> ((0 < s.toks \/ ∃ b ∈ binds, scope.names.lookup b.1 = some .local) -> 0 < s'.toks) -> Q env s') :
  wpAny M A (newFunctionEnv scope globals [] binds qual func code none builtins) Q E s := by
 simp only [newFunctionEnv, Option.isSome_none, Bool.false_eq_true, if_false]
 refine wpAny_bind (wpAny_alloc ?_)
 refine wpAny_bind (wpAny_layCells _ (fun name kind cells => by cases hkc : kind == NameKind.cell <;> simp [hkc]) _ _ _ _ ?_)
 have ok := cellsFrom_ok scope.names (s.heap.push { cls := .type "frame", data := .dict #[] }) (s.heap.objs.size + 1) [] ⟨fun _ _ hm => (nomatch hm), List.Pairwise.nil⟩ (by rw [Heap.size_push]; exact Nat.le_refl _)
 rw [Heap.size_push] at ok
 rw [show ({ s with heap := s.heap.push { cls := .type "frame", data := .dict #[] } } : Shared).heap.objs.size = s.heap.objs.size + 1 from Heap.size_push ..]
 refine wpAny_bind (zAB (s₀ := s) (env := newEnv scope s.heap.objs.size globals (cellsFrom (s.heap.objs.size + 1) scope.names []) qual func code none builtins)
  _ (fun _ _ _ => rfl) hk binds (fun _ => none) (fun _ => none) _ _
  ⟨⟨⟨_, _, rfl⟩, (Heap.Ns.new s.heap (.type "frame")).keeps (pushCells_keeps _ _), fun b o e => pushCells_keeps _ _ b o (Heap.get?_push_of_some _ e), Nat.le_refl _⟩,
   fun n c hc => (ok.empty n c (PySem.mem_of_lookup hc)).1, ok.apart, fun n c hm => (ok.empty n c hm).2⟩
  hkind fun s' x ht => wpAny_pure (hQ _ rfl s' x ht))
theorem zH3 {CX : CXT} {P : Program} {w : World} {K : PySem.W.Frag} {mg : Str -> Option Value} {base : Heap} {N ps : List Str} {qual : Str} {scope : Scope} {f : Addr} {cd : Value} {A : Around} {outer : List Env} {s s1 : Shared} {H : Hp} {E : XK} {us : List Value} {vs : List V}
  (S : jb N ps scope) (hd : A.handled = none) (e0 : zGp P w K mg base A outer s H) (hl : vs.length = ps.length) (r : zf vs us)
  (x : InCallC s s.heap.objs.size (bindL (envOfC qual scope s.heap.objs.size f cd).kindOf (ps.zip us) fun _ => none) (cellsFrom (s.heap.objs.size + 1) scope.names []) (bindC (envOfC qual scope s.heap.objs.size f cd).kindOf (ps.zip us) fun _ => none) s1) (ht : 0 < s1.toks) :
  Inv (JT CX P w K mg base N qual scope f cd A outer s H E) [] (start N vs) H s1 := by
 have hpl : ps.length <= N.length := by have := congrArg List.length S.pre; rw [List.length_take] at this; omega
 obtain ⟨h1, tk, rfl, hk⟩ := x.done
 have noA : ∀ b : Addr, b ∉ (JT CX P w K mg base N qual scope f cd A outer s H E).ex := fun b z => absurd (show b ∈ ([] : List Addr) from z) (by simp)
 refine ⟨⟨e0.mod, S.kind, rfl, rfl, Nat.le_refl _, fun y z c h1 h2 => ?_, fun y hy => ?_, fun y c _ h => ?_, fun _ => hd, Around.frames_deeper e0.frames, .inr ⟨rfl, rfl⟩, fun b z => absurd z (noA b), e0.bs, e0.bsz, fun b _ _ => noA b, fun b z => absurd z (noA b), e0.funs, e0.frf⟩,
  rfl, e0.bare, Un.kept hk, ⟨_, x.toInCall.ns, fun i y v h1 h2 h3 => ?_⟩, fun y c h => ⟨_, x.cell y c h⟩, e0.hok.fresh (Nat.le_refl _), fun y c h => ?_, fun p hp => absurd (show p ∈ ([] : List (Addr × Obj)) from hp) (by simp), e0.hok.kept hk, ?_, ht⟩
 ·exact name_of_addr x.apart (PySem.mem_of_lookup h1) (PySem.mem_of_lookup h2)
 ·have hy : scope.names.lookup y = some .cell \/ scope.names.lookup y = some .free := hy
  rcases hy with hy | hy
  ·exact zFk hy
  ·exact absurd rfl (S.nofree _ (PySem.mem_of_lookup hy))
 ·exact Nat.le_of_lt (x.above y c (PySem.mem_of_lookup h))
 ·have hi : i < vs.length := by
   unfold start at h2
   by_cases hi : i < vs.length
   ·exact hi
   ·rw [List.getElem?_append_right (by simpa using hi)] at h2
    rw [List.getElem?_replicate] at h2
    split at h2 <;> cases h2
  have ha : vs[i]? = some v := by
   unfold start at h2
   rw [List.getElem?_append_left (by simpa using hi), List.getElem?_map] at h2
   cases e : vs[i]? with
   | none => rw [e] at h2; cases h2
   | some a => rw [e] at h2; cases h2; rfl
  obtain ⟨u, hu, rv⟩ := r.get ha
  have hp : ps[i]? = some y := by
   rw [<- S.pre, List.getElem?_take_of_lt (by omega)]; exact h1
  have ndP : ps.Nodup := by rw [<- S.pre]; exact S.nd.sublist (List.take_sublist _ _)
  refine ⟨u, rv, ?_⟩
  rcases S.par y (List.mem_of_getElem? hp) with k | k
  ·exact .inl ⟨k, zDv ndP hp hu k⟩
  ·obtain ⟨c, e⟩ := zFk (n := s.heap.objs.size + 1) k
   refine .inr ⟨.inl k, c, e, ?_⟩
   have q := x.cell y c e
   rw [zD0 ndP hp hu (by show scope.names.lookup y ≠ _; rw [k]; decide)] at q
   exact q
 ·exact e0.hok.fresh (Nat.le_of_lt (x.above y c (PySem.mem_of_lookup h)))
 ·unfold start
  show _ = N.length
  rw [List.length_append, List.length_map, List.length_replicate]
  omega
theorem zOC {CX : CXT} {P : Program} {w : World} {K : PySem.W.Frag} {mg : Str -> Option Value} {base : Heap} {k : Nat} {f : Addr} {name qual : Str} {params : Arguments} {body : List Stmt} {scope : Scope} {dV kV doc pm cdv ct oc : Value} {an od : Option Addr}
  {osl : Array (Option Value)} {N ps : List Str} {sp : Sp} (lk : K.lookup f = some ⟨oc, od, .func (PySem.W.fnOf name qual params body scope dV kV doc pm an cdv ct), osl⟩) (hcd : PySem.W.codeIn K cdv qual = true) (S : jb N ps scope)
  (len : ∀ vs H Q E, sp vs H Q E -> vs.length = ps.length)
  (hbody : ∀ (A : Around) (outer : List Env) (s : Shared) (H : Hp) (vs : List V) (Q : VK) (E : XK), jH k (A.deeper (envOfC qual scope s.heap.objs.size f cdv)) -> sp vs H Q E ->
   ∃ t, PSs (JT CX P w K mg base N qual scope f cdv A outer s H E) body t /\ t { nx := fun _ H' => Q .non H', rt := Q } (start N vs) H) :
  qA P w K mg base CX (k + 1) f (PySem.W.fnOf name qual params body scope dV kV doc pm an cdv ct) ps sp := by
 refine ⟨len, fun A outer s H args us vs Q E hr e0 htk hb r hsp => ?_⟩
 have hl := len _ _ _ _ hsp
 have KX : K.In s.heap := e0.mod.kin.keeps fun b o e => (e0.bs b o e).1
 have lim : s.heap.NoLimit := e0.mod.nolimit.keeps fun b o e => (e0.bs b o e).1
 have hkind : ∀ y ∈ ps.zip us, scope.names.lookup y.1 = some .local \/ (scope.names.lookup y.1 = some .cell /\ ((cellsFrom (s.heap.objs.size + 1) scope.names []).lookup y.1).isSome = true) := fun ⟨n, v⟩ hy => by
  rcases S.par n (List.of_mem_zip hy).1 with q | q
  ·exact .inl q
  ·exact .inr ⟨q, PySem.W.cellsFrom_some _ _ _ (.inl q)⟩
 refine codeAny_call_function hr.depth (KX _ _ lk) rfl S.co S.gen rfl (PySem.W.codeRec_of KX hcd) (hb _ _ _ _ ?_)
 refine zKZ S.kind hkind fun env he s1 x htk1 => ?_
 subst he
 refine ⟨lim.keeps x.toInCall.keep, codeAny_func ?_⟩
 obtain ⟨t, ht, hq⟩ := hbody A outer s H vs Q E (hr.deeper _) hsp
 have I : Inv (JT CX P w K mg base N qual scope f cdv A outer s H E) [] (start N vs) H s1 := zH3 S hr.hd e0 hl r x (htk1 (htk.imp id fun ⟨p, hp, hpl⟩ => by
  obtain ⟨i, hi, e⟩ := List.mem_iff_getElem.mp hp
  have hu : i < us.length := by rw [<- r.length, hl]; exact hi
  exact ⟨(p, us[i]), List.mem_iff_getElem.mpr ⟨i, by rw [List.length_zip]; omega, by rw [List.getElem_zip, e]⟩, hpl⟩))
 refine wpAny_mono (ht [] s1 (start N vs) H _ I hq) (fun fl s' hs => ?_) fun e s' hs => hs
 have fin : ∀ {σ' : St} {H' : Hp} {v : V} {u : Value}, Inv (JT CX P w K mg base N qual scope f cdv A outer s H E) [] σ' H' s' -> zZ v u -> Q v H' -> CE outer P w H s Q u s' :=
  fun {σ' H' v u} J rv q => ⟨v, H', J.os, J.bare, J.base, J.hok, rv, q⟩
 cases fl with
 | ret u =>
  obtain ⟨v, σ', H', J, rv, q⟩ := hs
  exact fin J rv q
 | next =>
  obtain ⟨σ', H', J, q⟩ := hs
  exact fin (v := V.non) (u := Value.none) J rfl q
 | brk =>
  obtain ⟨_, _, _, q⟩ := hs
  exact False.elim q
 | cont =>
  obtain ⟨_, _, _, q⟩ := hs
  exact False.elim q
end L2
namespace L2
open PySem PySem.Spec PyProof.Rows
section
variable {X : Cx} {x : Str} {p pos : Pos} {e : Expr} {es : List Expr} {t : TA} {id T : String} {r : List V -> Hp -> VK -> Prop}
def tCB (r : List V -> Hp -> VK -> Prop) (t : TA) : TE := fun σ H Q => t σ H fun vs H1 => r vs H1 Q
theorem zJc (hc : qF X (.builtin id) r) (hg : Gl X x) (hm : X.mg x = none) (hv : bootBuiltins x = some (.builtin id)) (ha : PA X (e :: es) t) (hn : x ≠ "__name__" := by decide) (hdb : (x == ("__debug__" : Str)) = false := by decide)
  (he : starEach (e :: es) X.env = (false, eval e X.env) :: starEach es X.env := by rfl) (hpl : (backTo pos (starEach es X.env)).any (·.1) = false := by rfl) : PE X (.Call (.Name x p) (e :: es) [] pos) (tCB r t) := by
 intro pins s σ H Q I h
 refine wpAny_Call_Name_kw (JZ I hg hm hv ?_ hn hdb)
 exact PyProof.Rows.callWith_builtin1 (thn (ha pos pins s σ H _ I h) fun us s1 ⟨vs, H1, I1, r1, q1⟩ => hc pins s1 σ H1 vs us Q I1 r1 q1) he hpl
theorem zHn (hc : qF X (.type T) r) (hg : Gl X x) (hm : X.mg x = none) (hv : bootBuiltins x = some (.type T)) (ha : PA X (e :: es) t) (hn : x ≠ "__name__" := by decide) (hdb : (x == ("__debug__" : Str)) = false := by decide)
  (he : starEach (e :: es) X.env = (false, eval e X.env) :: starEach es X.env := by rfl) (hpl : (backTo pos (starEach es X.env)).any (·.1) = false := by rfl) : PE X (.Call (.Name x p) (e :: es) [] pos) (tCB r t) := by
 intro pins s σ H Q I h
 refine wpAny_Call_Name_kw (JZ I hg hm hv ?_ hn hdb)
 exact PyProof.Rows.callWith_type1 (thn (ha pos pins s σ H _ I h) fun us s1 ⟨vs, H1, I1, r1, q1⟩ => hc pins s1 σ H1 vs us Q I1 r1 q1) he hpl
end
end L2
namespace HT
open PySem PyProof.Rows
section
variable {prog : Program} {w : World} {A : Around} {E : Value -> Shared -> Prop} {s : Shared}
theorem zLb {t b : Addr} {vs ws : List Value} {Q : Value -> Shared -> Prop} (ht : IsTup s.heap t vs.toArray) (hb : IsTup s.heap b ws.toArray) (hv : vs ≠ [])
  (h1 : ws = [] -> Q (.ref t) s) (h2 : ws ≠ [] -> Q (.ref s.heap.objs.size) { s with heap := s.heap.push { cls := .type "tuple", data := .seq (vs ++ ws).toArray } })
  (hsz : vs.length + ws.length <= sizeLine) : wpAny (model prog w) A (binaryOp .Add (.ref t) (.ref b)) Q E s := by
 obtain ⟨⟨cls, dd, data, sl⟩, ho, hc, n, hd⟩ := id ht
 obtain ⟨⟨cls2, dd2, data2, sl2⟩, ho2, hc2, n2, hd2⟩ := id hb
 simp only at hc hd hc2 hd2
 subst hc hd hc2 hd2
 have e : vs.toArray ++ ws.toArray = (vs ++ ws).toArray := by simp
 by_cases hw : ws = []
 ·exact concat_meets ⟨_, ho, rfl⟩ ⟨_, ho2, rfl⟩ noFill_tuple_add seq_tuple_add PySem.F.slot_tuple_add PySem.F.entry_tuple_add (PySem.F.args_tuple_add_2 _ _)
   (tuple_addW1 t b vs.toArray ws.toArray n n2 dd dd2 sl sl2 (by simpa using hv) (by simp [hw])) ⟨ho, ho2, h1 hw⟩
 ·refine concat_meets ⟨_, ho, rfl⟩ ⟨_, ho2, rfl⟩ noFill_tuple_add seq_tuple_add PySem.F.slot_tuple_add PySem.F.entry_tuple_add (PySem.F.args_tuple_add_2 _ _)
   (tuple_addW2 t b vs.toArray ws.toArray n n2 dd dd2 sl sl2 (by simpa using hv) (by simpa using hw) (by rw [List.size_toArray, List.size_toArray]; exact hsz)) ⟨ho, ho2, ?_⟩
  rw [e]
  exact h2 hw
def sIx (n d : Nat) : Option Int -> Nat
 | none => d
 | some v => if v < 0 then (v + (n : Int)).toNat else min v.toNat n
theorem zFU (n d : Nat) (hd : d <= n) (o : Option Int) : sIx n d o <= n := by
 cases o with
 | none => exact hd
 | some v =>
  show (if v < 0 then (v + (n : Int)).toNat else min v.toNat n) <= n
  by_cases hv : v < 0
  ·rw [if_pos hv]; omega
  ·rw [if_neg hv]; exact Nat.min_le_right _ _
theorem zDJ (v : Int) (n d : Nat) : (if v < 0 then max (v + (n : Int)) 0 else min v (n : Int)) = ((sIx n d (some v) : Nat) : Int) := by
 show (if v < 0 then max (v + (n : Int)) 0 else min v (n : Int)) = (((if v < 0 then (v + (n : Int)).toNat else min v.toNat n) : Nat) : Int)
 by_cases hv : v < 0
 ·simp only [if_pos hv]; omega
 ·simp only [if_neg hv]; omega
theorem zHI (lo hi : Option Int) (n : Nat) : Builtin.Slice.sliceAdjust lo hi 1 (n : Int) = (((sIx n 0 lo : Nat) : Int), ((sIx n n hi : Nat) : Int)) := by
 have h1 : ¬ ((1 : Int) < 0) := by omega
 unfold Builtin.Slice.sliceAdjust
 simp only [h1, if_false]
 refine Prod.ext ?_ ?_
 ·cases lo with
  | none => rfl
  | some v => exact zDJ v n 0
 ·cases hi with
  | none => rfl
  | some v => exact zDJ v n n
theorem zG5 (i j : Nat) : Builtin.Slice.slicePlaces (i : Int) (j : Int) 1 = j - i := by
 unfold Builtin.Slice.slicePlaces
 have h1 : (1 : Int) > 0 := by omega
 simp only [h1, if_true, Int.ediv_one]
 split <;> omega
theorem zCl {v : Value} {o : Option Int} {Q : Option Int -> Shared -> Prop} (p : IsPart v o) (h : Q o s) : wpAny (model prog w) A (Builtin.Slice.slicePartIndex v) Q E s := by
 cases p with
 | none => exact slicePart_none h
 | int i t => exact slicePart_int h
theorem zBk {sl : Addr} {vl vu : Value} {lo hi : Option Int} {n : Nat} {Q : Int × Int × Nat -> Shared -> Prop} (hs : s.heap.IsSliceOf sl vl vu .none) (pl : IsPart vl lo) (pu : IsPart vu hi)
  (h : Q (((sIx n 0 lo : Nat) : Int), 1, sIx n n hi - sIx n 0 lo) s) : wpAny (model prog w) A (Builtin.Slice.sliceApplied (.ref sl) (pure (n : Int))) Q E s := by
 obtain ⟨os, hos, hcs, hds⟩ := id hs
 unfold Builtin.Slice.sliceApplied Builtin.Slice.sliceFields
 refine wpAny_bind (wpAny_bind (wpAny_field hos hds (x := vl) rfl (wpAny_bind (wpAny_field hos hds (x := vu) rfl (wpAny_bind (wpAny_field hos hds (x := .none) rfl (wpAny_pure ?_)))))))
 refine wpAny_bind (slicePart_none ?_)
 show wpAny _ _ (if ((1 : Int) == 0) = true then _ else _) _ _ s
 rw [if_neg (by decide)]
 refine wpAny_bind (zCl pl (wpAny_bind (zCl pu (wpAny_bind (wpAny_pure ?_)))))
 show wpAny _ _ (match Builtin.Slice.sliceAdjust lo hi 1 (n : Int) with | (lo, hi) => pure (lo, (1 : Int), Builtin.Slice.slicePlaces lo hi 1)) _ _ s
 rw [zHI lo hi n]
 show wpAny _ _ (pure (((sIx n 0 lo : Nat) : Int), (1 : Int), Builtin.Slice.slicePlaces ((sIx n 0 lo : Nat) : Int) ((sIx n n hi : Nat) : Int) 1)) _ _ s
 rw [zG5]
 exact wpAny_pure h
theorem zI0 (xs : Array Value) (i k : Nat) : ((List.range k).filterMap fun (m : Nat) => xs[((i : Int) + (m : Int) * 1).toNat]?).toArray = ((xs.toList.drop i).take k).toArray := by
 have e : (fun (m : Nat) => xs[((i : Int) + (m : Int) * 1).toNat]?) = fun m => xs[i + m]? := by
  funext m
  have : ((i : Int) + (m : Int) * 1).toNat = i + m := by omega
  rw [this]
 rw [e]
 have := pick_run xs i k
 rw [List.filterMap_map] at this
 have e2 : ((fun x => xs[x]?) ∘ fun x => i + x) = fun m => xs[i + m]? := rfl
 rw [e2] at this
 rw [this]
theorem zBb {t sl : Addr} {items : Array Value} {vl vu : Value} {lo hi : Option Int} {Q : Value -> Shared -> Prop} (ht : IsTup s.heap t items) (hs : s.heap.IsSliceOf sl vl vu .none) (pl : IsPart vl lo) (pu : IsPart vu hi)
  (hw : ¬ (sIx items.size 0 lo = 0 /\ sIx items.size items.size hi = items.size))
  (h : Q (.ref s.heap.objs.size) { s with heap := s.heap.push { cls := .type "tuple", data := .seq ((items.toList.drop (sIx items.size 0 lo)).take (sIx items.size items.size hi - sIx items.size 0 lo)).toArray } })
  (hsz : items.size <= sizeLine) : wpAny (model prog w) A (getItem (.ref t) (.ref sl)) Q E s := by
 have htake : sizeOk (.seq ((items.toList.drop (sIx items.size 0 lo)).take (sIx items.size items.size hi - sIx items.size 0 lo)).toArray) := by
  show ((items.toList.drop (sIx items.size 0 lo)).take (sIx items.size items.size hi - sIx items.size 0 lo)).toArray.size <= sizeLine
  rw [List.size_toArray, List.length_take, List.length_drop, Array.length_toList]
  omega
 have hj : sIx items.size items.size hi <= items.size := zFU _ _ (Nat.le_refl _) hi
 obtain ⟨os, hos, hcs, hds⟩ := id hs
 have hTs : s.TypeIs (.ref sl) "slice" := ⟨os, hos, hcs⟩
 unfold getItem
 try with_reducible refine wpAny_holding ?_
 first | refine wpAny_bind (wpAny_pure ?_) | skip
 refine wpAny_bind (wpAny_sequenceKey ht.typeIs (by decide) ?_)
 refine wpAny_bind (wpAny_callSpecial?_slot (name := Str.ofString "__getitem__") ht.typeIs PyProof.Rows.slot_tuple_getitem
  (wpAny_call_entry PyProof.Rows.slot_tuple_getitem ht.typeIs entry_tuple_getitem ?_ (args_tuple_getitem _ _)))
 show wpAny _ _ (Builtin.Tuple.tupleItemsOf (.ref t) >>= _) _ _ s
 refine wpAny_bind (tupleItemsOf_ ht ?_)
 refine wpAny_bind (wpAny_typeOf hTs ?_)
 rw [if_pos (by decide)]
 refine wpAny_bind (zBk hs pl pu ?_)
 have hno : ¬ ((((sIx items.size 0 lo : Nat) : Int) == 0 && (1 : Int) == 1 && (sIx items.size items.size hi - sIx items.size 0 lo) == items.size) = true) := by
  intro q
  rw [Bool.and_eq_true, Bool.and_eq_true] at q
  have q1 : ((sIx items.size 0 lo : Nat) : Int) = 0 := eq_of_beq q.1.1
  have q2 : sIx items.size items.size hi - sIx items.size 0 lo = items.size := eq_of_beq q.2
  exact hw ⟨by omega, by omega⟩
 show wpAny _ _ (if (((sIx items.size 0 lo : Nat) : Int) == 0 && (1 : Int) == 1 && (sIx items.size items.size hi - sIx items.size 0 lo) == items.size) = true then _ else _) _ _ s
 rw [if_neg hno, zI0]
 first
  | exact wpAny_bind (m := Builtin.Tuple.tupleExact _) (wpAny_newObj_type (wpAny_pure ⟨_, rfl, wpAny_pure h⟩) htake)
  | exact wpAny_bind (m := Builtin.Tuple.tupleExact _) (wpAny_newObj_type (wpAny_bind (wpAny_pure (wpAny_pure ⟨_, rfl, wpAny_pure h⟩))) htake)
  | exact wpAny_bind (wpAny_bind (m := Builtin.Tuple.tupleExact _) (wpAny_newObj_type (wpAny_pure (wpAny_pure ⟨_, rfl, wpAny_pure h⟩)) htake))
  | exact wpAny_bind (wpAny_bind (m := Builtin.Tuple.tupleExact _) (wpAny_newObj_type (wpAny_pure ⟨_, rfl, wpAny_pure h⟩) htake))
end
end HT
namespace L2
open PySem PySem.Spec PyProof.Rows
abbrev TO := St -> Hp -> (Option Int -> Hp -> Prop) -> Prop
def PO (X : Cx) (e : Option Expr) (t : TO) : Prop :=
 ∀ (pins : List (Addr × Obj)) (s : Shared) (σ : St) (H : Hp) (Q : Option Int -> Hp -> Prop), Inv X pins σ H s -> t σ H Q ->
  wpAny (model X.prog X.w) X.A (evalPart e X.env) (fun u s' => ∃ o H', Inv X pins σ H' s' /\ IsPart u o /\ Q o H') X.xe s
def zLG : TO := fun _ H Q => Q none H
def zNc (t : TE) : TO := fun σ H Q => t σ H fun x H1 => ∃ i, x = .int i /\ Q (some i) H1
section
variable {X : Cx} {e : Expr} {te : TE} {lo hi : Option Expr} {tl th : TO} {pos p2 : Pos}
theorem zKf : PO X none zLG := by
 intro pins s σ H Q I h
 rw [evalPart_none]
 exact wpAny_pure ⟨none, H, I, .none, h⟩
theorem zKa (h : PE X e te) : PO X (some e) (zNc te) := by
 intro pins s σ H Q I hw
 rw [evalPart_some]
 refine thn (h pins s σ H _ I hw) fun u s1 ⟨x, H1, I1, r1, q1⟩ => ?_
 obtain ⟨i, rfl, q⟩ := q1
 obtain ⟨t, rfl⟩ := r1
 exact ⟨some i, H1, I1, .int i t, q⟩
def SlR (X : Cx) (r : V -> Option Int -> Option Int -> Hp -> VK -> Prop) : Prop :=
 ∀ (pins : List (Addr × Obj)) (s : Shared) (σ : St) (H : Hp) (x : V) (v vl vu : Value) (lo hi : Option Int) (sl : Addr) (Q : VK), Inv X pins σ H s -> zZ x v -> s.heap.IsSliceOf sl vl vu .none -> IsPart vl lo -> IsPart vu hi -> r x lo hi H Q ->
  ∃ T id, typeLookup (.type T) "__getitem__" = pure (some (.builtin id)) /\ s.TypeIs v T /\ wpAny (model X.prog X.w) X.A (getItem v (.ref sl)) (EP X pins σ Q) X.xe s
def tSl (r : V -> Option Int -> Option Int -> Hp -> VK -> Prop) (te : TE) (tl th : TO) : TE := fun σ H Q => te σ H fun x H1 => tl σ H1 fun l H2 => th σ H2 fun u H3 => r x l u H3 Q
theorem zJW {r : V -> Option Int -> Option Int -> Hp -> VK -> Prop} (hr : SlR X r) (he : PE X e te) (hl : PO X lo tl) (hu : PO X hi th) : PE X (.Subscript e (.Slice lo hi none p2) pos) (tSl r te tl th) := by
 intro pins s σ H Q I h
 refine Subscript_ (thn (he pins s σ H _ I h) fun v s1 ⟨x, H1, I1, r1, q1⟩ => ?_)
 refine wpAny_Slice (thn (hl pins s1 σ H1 _ I1 q1) fun vl s2 ⟨l, H2, I2, pl, q2⟩ => thn (hu pins s2 σ H2 _ I2 q2) fun vu s3 ⟨u, H3, I3, pu, q3⟩ => ?_)
 rw [evalPart_none]
 refine wpAny_pure ?_
 have I4 : Inv X pins σ H3 { s3 with heap := s3.heap.push { cls := .type "slice", data := .fields #[vl, vu, .none] } } := I3.kept (t' := s3.toks) fun b ob q => Heap.get?_push_of_some _ q
 obtain ⟨T, id, hT, ht, hg⟩ := hr pins { s3 with heap := s3.heap.push { cls := .type "slice", data := .fields #[vl, vu, .none] } } σ H3 x v vl vu l u s3.heap.objs.size Q I4 r1 (Heap.IsSliceOf.new ..) pl pu q3
 show wpAny (model X.prog X.w) X.A (subscriptTail e (.Slice lo hi none p2) v (.ref s3.heap.objs.size)) (EP X pins σ Q) X.xe { s3 with heap := s3.heap.push { cls := .type "slice", data := .fields #[vl, vu, .none] } }
 exact tail_any (ops := [.ref s3.heap.objs.size, v]) ht hT hg (by with_unfolding_all rfl)
def zAC (xs : List V) (lo hi : Option Int) : List V := (xs.drop (HT.sIx xs.length 0 lo)).take (HT.sIx xs.length xs.length hi - HT.sIx xs.length 0 lo)
theorem zBd (xs : List V) (lo hi : Option Int) : (zAC xs lo hi).length <= xs.length := by
 unfold zAC
 rw [List.length_take, List.length_drop]
 omega
def zOK (K : PySem.W.Frag) : V -> Option Int -> Option Int -> Hp -> VK -> Prop := fun x lo hi H Q => ∃ a xs, x = .ref a /\ SqT K H a xs /\
 ¬ (HT.sIx xs.length 0 lo = 0 /\ HT.sIx xs.length xs.length hi = xs.length) /\ ∀ p, H p = none -> Q (.ref p) (upd H p (.tup (zAC xs lo hi)))
theorem zNA : SlR X (zOK X.K) := by
 intro pins s σ H x v vl vu lo hi sl Q I rx hs pl pu h
 obtain ⟨a, xs, rfl, hx, hw, q⟩ := h
 cases rx
 obtain ⟨its, r, ht, hz⟩ := I.tuple hx
 have hlen : its.toArray.size = xs.length := by rw [List.size_toArray]; exact r.length.symm
 refine ⟨"tuple", _, PyProof.Rows.slot_tuple_getitem.lookup, ht.typeIs, ?_⟩
 refine HT.zBb ht hs pl pu (by rw [hlen]; exact hw) ?_ (by rw [hlen]; exact hz)
 rw [hlen]
 refine ⟨.ref s.heap.objs.size, _, I.laid (t' := s.toks) (o := .tup (zAC xs lo hi)) (fun b ob q => Heap.get?_push_of_some _ q) (Nat.le_refl _) ?_, rfl, q _ (I.hok.fresh (Nat.le_refl _))⟩
 exact ⟨Nat.le_trans (zBd xs lo hi) hz, _, (r.drop (HT.sIx xs.length 0 lo)).take (HT.sIx xs.length xs.length hi - HT.sIx xs.length 0 lo), IsTup.new _ _⟩
def zKE (K : PySem.W.Frag) : R2 := fun x y H Q => ∃ a b xs ys, x = .ref a /\ y = .ref b /\ SqT K H a xs /\ SqT K H b ys /\ xs ≠ [] /\ xs.length + ys.length <= sizeLine /\
 (ys = [] -> Q (.ref a) H) /\ (ys ≠ [] -> ∀ p, H p = none -> Q (.ref p) (upd H p (.tup (xs ++ ys))))
theorem zf.nil_iff {xs : List V} {us : List Value} (r : zf xs us) : us = [] ↔ xs = [] := by
 cases r with
 | nil => simp
 | cons _ _ => simp
theorem j2 : OpR X (binaryOp .Add) (zKE X.K) := by
 intro pins s σ H x y v u Q I rx ry h
 obtain ⟨a, b, xs, ys, rfl, rfl, ha, hb, hx, hz, q1, q2⟩ := h
 cases rx
 cases ry
 obtain ⟨its, r1, p1, _⟩ := I.tuple ha
 obtain ⟨its2, r2, p2, _⟩ := I.tuple hb
 refine HT.zLb p1 p2 (fun z => hx (r1.nil_iff.mp z)) (fun z => ⟨.ref a, H, I, rfl, q1 (r2.nil_iff.mp z)⟩) (fun z => ?_) (by rw [<- r1.length, <- r2.length]; exact hz)
 refine ⟨.ref s.heap.objs.size, _, I.laid (t' := s.toks) (o := .tup (xs ++ ys)) (fun b ob q => Heap.get?_push_of_some _ q) (Nat.le_refl _) ?_, rfl, q2 (fun w => z (r2.nil_iff.mpr w)) _ (I.hok.fresh (Nat.le_refl _))⟩
 exact ⟨by rw [List.length_append]; exact hz, _, r1.append r2, IsTup.new _ _⟩
end
end L2
namespace L2
open PySem PySem.Spec PyProof.Rows
def ixN (n : Nat) (i : Int) : Option Nat := if 0 <= i then (if i < n then some i.toNat else none) else if -(n : Int) <= i then some (i + n).toNat else none
def atI {α : Type} (xs : List α) (i : Int) : Option α := (ixN xs.length i).bind fun j => xs[j]?
theorem zGW {n : Nat} {i : Int} {j : Nat} (h : ixN n i = some j) : seqIndex? i n = some j /\ j < n /\ -(n : Int) <= i /\ i < n := by
 unfold ixN at h
 by_cases h0 : 0 <= i
 ·rw [if_pos h0] at h
  by_cases h1 : i < n
  ·rw [if_pos h1] at h
   have e : i.toNat = j := Option.some.inj h
   exact ⟨by rw [seqIndex_of h0 h1, e], by omega, by omega, h1⟩
  ·rw [if_neg h1] at h; cases h
 ·rw [if_neg h0] at h
  by_cases h1 : -(n : Int) <= i
  ·rw [if_pos h1] at h
   have e : (i + n).toNat = j := Option.some.inj h
   exact ⟨by rw [seqIndex_neg (by omega) h1, e], by omega, h1, by omega⟩
  ·rw [if_neg h1] at h; cases h
theorem zC6 {α : Type} {xs : List α} {i : Int} {v : α} (h : atI xs i = some v) : ∃ j, seqIndex? i xs.length = some j /\ xs[j]? = some v /\ j < xs.length /\ -(xs.length : Int) <= i /\ i < xs.length := by
 unfold atI at h
 cases e : ixN xs.length i with
 | none => rw [e] at h; cases h
 | some j =>
  rw [e] at h
  obtain ⟨h1, h2, h3, h4⟩ := zGW e
  exact ⟨j, h1, h, h2, h3, h4⟩
def zGM (b : Expr) : Prop := ∀ o i, subscripted b false o i = operate [o, i] (getItem o i)
def IxR (X : Cx) (r : R2) : Prop :=
 ∀ (value slice : Expr) (pins : List (Addr × Obj)) (s : Shared) (σ : St) (H : Hp) (x y : V) (v u : Value) (Q : VK), Inv X pins σ H s -> zZ x v -> zZ y u -> r x y H Q ->
  subscripted slice false v u = operate [v, u] (getItem v u) -> wpAny (model X.prog X.w) X.A (subscriptTail value slice v u) (EP X pins σ Q) X.xe s
def MtR (X : Cx) (id : String) (r : V -> List V -> Hp -> VK -> Prop) : Prop :=
 ∀ (pins : List (Addr × Obj)) (s : Shared) (σ : St) (H : Hp) (x : V) (xs : List V) (v : Value) (us : List Value) (Q : VK), Inv X pins σ H s -> zZ x v -> zf xs us -> r x xs H Q ->
  wpAny (model X.prog X.w) X.A (call (.builtin id) (v :: us)) (EP X pins σ Q) X.xe s
section
variable {X : Cx} {a b : Expr} {ta tb : TE} {pos : Pos}
theorem IxR.or {r r' : R2} (h : IxR X r) (h' : IxR X r') : IxR X (fun x y H Q => r x y H Q \/ r' x y H Q) := by
 intro value slice pins s σ H x y v u Q I rx ry q hs
 rcases q with q | q
 ·exact h value slice pins s σ H x y v u Q I rx ry q hs
 ·exact h' value slice pins s σ H x y v u Q I rx ry q hs
theorem zN4 {r : R2} (hr : IxR X r) (ha : PE X a ta) (hb : PE X b tb) (hs : zGM b) : PE X (.Subscript a b pos) (tOp r ta tb) := by
 intro pins s σ H Q I h
 exact Subscript_ (zJZ ha hb I h fun v u s2 x y H2 I2 rx ry q => hr a b pins s2 σ H2 x y v u Q I2 rx ry q (hs _ _))
def zOV (K : PySem.W.Frag) : R2 := fun x y H Q => ∃ p xs i v, x = .ref p /\ y = .int i /\ SqL K H p xs /\ atI xs i = some v /\ Q v H
def zOQ (K : PySem.W.Frag) : R2 := fun x y H Q => ∃ p xs i v, x = .ref p /\ y = .int i /\ SqT K H p xs /\ atI xs i = some v /\ Q v H
def zOv : R2 := fun x y H Q => ∃ z i c, x = .str z /\ y = .int i /\ z.length <= sizeLine /\ atI z.cps.toList i = some c /\ Q (.str ⟨#[c]⟩) H
theorem zLQ : IxR X (zOV X.K) := by
 intro value slice pins s σ H x y v u Q I rx ry h hs
 obtain ⟨p, xs, i, z, rfl, rfl, hq, he, q⟩ := h
 cases rx
 obtain ⟨t, rfl⟩ := ry
 obtain ⟨its, r, pl, hz⟩ := I.list hq
 obtain ⟨j, h1, h2, h3, h4, h5⟩ := zC6 he
 obtain ⟨w, ew, rw'⟩ := r.get h2
 have hl := r.length
 have hn := Jc
 have fin : EP X pins σ Q w s := ⟨z, H, I, rw', q⟩
 by_cases h0 : 0 <= i
 ·have hj : i.toNat = j := by
   rw [seqIndex_of h0 h5] at h1
   exact Option.some.inj h1
  exact item_listR pl.isList h0 (by omega) (by rw [hj]; simpa using ew) fin hs
 ·have hj : (i + (its.toArray.size : Int)).toNat = j := by
   rw [seqIndex_neg (by omega) h4] at h1
   rw [List.size_toArray, <- hl]
   exact Option.some.inj h1
  exact subscriptTail_builtinR (x := w) pl.isList.typeIs slot_list_getitem.lookup
   (wpAny_getItem_list_neg (Q := fun r s' => r = w /\ EP X pins σ Q r s') pl.isList (by omega) (by rw [List.size_toArray] <;> omega) (by omega) (by rw [hj]; simpa using ew) ⟨rfl, fin⟩) hs
theorem zM7 : IxR X (zOQ X.K) := by
 intro value slice pins s σ H x y v u Q I rx ry h hs
 obtain ⟨p, xs, i, z, rfl, rfl, hq, he, q⟩ := h
 cases rx
 obtain ⟨t, rfl⟩ := ry
 obtain ⟨its, r, pl, hz⟩ := I.tuple hq
 obtain ⟨j, h1, h2, h3, h4, h5⟩ := zC6 he
 obtain ⟨w, ew, rw'⟩ := r.get h2
 have hl := r.length
 have hn := Jc
 have fin : EP X pins σ Q w s := ⟨z, H, I, rw', q⟩
 exact subscriptTail_builtinR (x := w) pl.typeIs slot_tuple_getitem.lookup
  (getItem_tuple (j := j) (Q := fun r s' => r = w /\ EP X pins σ Q r s') pl (by omega) (by omega) (by rw [List.size_toArray, <- hl]; exact h1) (by simpa using ew) ⟨rfl, fin⟩) hs
theorem zNR : IxR X zOv := by
 intro value slice pins s σ H x y v u Q I rx ry h hs
 obtain ⟨z, i, c, rfl, rfl, hz, he, q⟩ := h
 obtain ⟨t, rfl⟩ := rx
 obtain ⟨t', rfl⟩ := ry
 obtain ⟨j, h1, h2, h3, h4, h5⟩ := zC6 he
 have hl : z.cps.toList.length = z.length := by simp [Str.length]
 rw [hl] at h1 h4 h5
 have hn := Jc
 exact tail_any (typeIs_str s z t) slot_str_getitem.lookup (getItem_str (c := c) (by
  have e1 : decide (i < -(2 ^ 63 : Int)) = false := decide_eq_false (by omega)
  have e2 : decide (i ≥ 2 ^ 63) = false := decide_eq_false (by omega)
  rw [e1, e2, Bool.or_false]) (by rw [h1]; simpa using h2) ⟨.str ⟨#[c]⟩, H, I.tok _, ⟨_, rfl⟩, q⟩) hs
theorem zHL (its : List Value) (n j : Nat) (u : Value) : Obj.mapSeq (·.setIfInBounds j u) { cls := .type "list", data := .seq its.toArray n } = { cls := .type "list", data := .seq (its.set j u).toArray n } := by
 simp [Obj.mapSeq]
theorem Inv.lst {pins : List (Addr × Obj)} {σ : St} {H : Hp} {s : Shared} {p : Addr} {xs : List V} (I : Inv X pins σ H s) (h : H p = some (.lst xs)) :
  ∃ (its : List Value) (n : Nat), zf xs its /\ s.heap.get? p = some { cls := .type "list", data := .seq its.toArray n } /\ xs.length <= sizeLine := by
 obtain ⟨z, its, n, r, e⟩ := I.hok p _ h
 exact ⟨its, n, r, e, z⟩
theorem Inv.lstUpd {pins : List (Addr × Obj)} {σ : St} {H : Hp} {s : Shared} {p : Addr} {xs ys : List V} {its its' : List Value} {n n' : Nat} {f : Obj -> Obj} (I : Inv X pins σ H s) (h : H p = some (.lst xs))
  (ho : s.heap.get? p = some { cls := .type "list", data := .seq its.toArray n }) (hf : f { cls := .type "list", data := .seq its.toArray n } = { cls := .type "list", data := .seq its'.toArray n' }) (r : zf ys its') (hz : ys.length <= sizeLine) (t : Nat) (ht : 0 < t := by first | exact Nat.succ_pos _ | assumption | exact Inv.tk (by assumption) | omega) :
  Inv X pins σ (upd H p (.lst ys)) { s with heap := s.heap.update p f, toks := t } := by
 have e : (s.heap.update p f).get? p = some { cls := .type "list", data := .seq its'.toArray n' } := by
  rw [Heap.get?_update_self f ho (by rw [hf] <;> rfl), hf]
 refine I.write (x := p) (e := p) (by rw [h]; trivial) (.inl rfl) (fun b u hb q => (Heap.get?_update_other _ _ (Ne.symm hb)).trans q) ⟨_, e⟩ ?_
 exact ⟨hz, its', n', r, e⟩
def zNk : V -> V -> V -> Hp -> (Hp -> Prop) -> Prop := fun o i v H Q => ∃ p xs k j, o = .ref p /\ i = .int k /\ H p = some (.lst xs) /\ ixN xs.length k = some j /\ Q (upd H p (.lst (xs.set j v)))
theorem zKC : zMp X zNk := by
 intro pins s σ H o i v ov iv u Q I ro ri rv h
 obtain ⟨p, xs, k, j, rfl, rfl, hp, hj, q⟩ := h
 cases ro
 obtain ⟨t, rfl⟩ := ri
 obtain ⟨its, n, r, ho, hz⟩ := I.lst hp
 obtain ⟨h1, h2, h3, h4⟩ := zGW hj
 have hl := r.length
 have hn := Jc
 have I' : Inv X pins σ (upd H p (.lst (xs.set j v))) { s with heap := s.heap.update p (Obj.mapSeq (·.setIfInBounds j u)) } :=
  I.lstUpd hp ho (zHL its n j u) (r.set rv j) (by rw [List.length_set]; exact hz) s.toks
 by_cases h0 : 0 <= k
 ·have hk : k.toNat = j := by
   rw [seqIndex_of h0 h4] at h1
   exact Option.some.inj h1
  exact PySem.W.ki_setAt ho h0 (by omega) (by rw [List.size_toArray, <- hl]; exact h4) (by rw [hk]; exact ⟨_, I', q⟩)
 ·have hk : (k + (its.toArray.size : Int)).toNat = j := by
   rw [seqIndex_neg (by omega) h3] at h1
   rw [List.size_toArray, <- hl]
   exact Option.some.inj h1
  exact PySem.W.ki_setBack ho (by omega) (by rw [List.size_toArray, <- hl]; exact h3) (by omega) (by rw [hk]; exact ⟨_, I', q⟩)
theorem zEz (lo hi : Option Int) (n : Nat) : (sliceBounds lo hi none n).1 = ((HT.sIx n 0 lo : Nat) : Int) /\ (sliceBounds lo hi none n).2.1 = ((HT.sIx n n hi : Nat) : Int) /\ (sliceBounds lo hi none n).2.2 = 1 := by
 refine ⟨?_, ?_, rfl⟩
 ·cases lo with
  | none => simp [sliceBounds, HT.sIx]
  | some i =>
   simp only [sliceBounds, HT.sIx, Option.getD_none, show (1 : Int) > 0 by decide, if_true]
   by_cases h : i < 0
   ·simp only [h, if_true] <;> omega
   ·simp only [h, if_false] <;> omega
 ·cases hi with
  | none => simp [sliceBounds, HT.sIx]
  | some i =>
   simp only [sliceBounds, HT.sIx, Option.getD_none, show (1 : Int) > 0 by decide, if_true]
   by_cases h : i < 0
   ·simp only [h, if_true] <;> omega
   ·simp only [h, if_false] <;> omega
theorem zEF (its : List Value) (lo hi : Option Int) : slicePick its.toArray lo hi none = ((its.drop (HT.sIx its.length 0 lo)).take (HT.sIx its.length its.length hi - HT.sIx its.length 0 lo)).toArray := by
 obtain ⟨h1, h2, h3⟩ := zEz lo hi its.toArray.size
 unfold slicePick
 rw [h1, h2, h3]
 simp only [sliceRange_one, pick_run, List.size_toArray] <;> rfl
def zOW (K : PySem.W.Frag) : V -> Option Int -> Option Int -> Hp -> VK -> Prop := fun x lo hi H Q => ∃ a xs, x = .ref a /\ SqL K H a xs /\ ∀ p, H p = none -> Q (.ref p) (upd H p (.lst (zAC xs lo hi)))
theorem zKm : SlR X (zOW X.K) := by
 intro pins s σ H x v vl vu lo hi sl Q I rx hs pl pu h
 obtain ⟨a, xs, rfl, hx, q⟩ := h
 cases rx
 obtain ⟨its, r, ht, hz⟩ := I.list hx
 have hlen := r.length
 refine ⟨"list", _, slot_list_getitem.lookup, ht.isList.typeIs, ?_⟩
 refine wpAny_getItem_list_slice ht.isList hs pl pu .none (by simp) ?_ (by rw [List.size_toArray] <;> omega)
 rw [zEF, <- hlen]
 refine ⟨.ref s.heap.objs.size, _, I.laid (t' := s.toks) (o := .lst (zAC xs lo hi)) (fun b ob q => Heap.get?_push_of_some _ q) (Nat.le_refl _) ?_, rfl, q _ (I.hok.fresh (Nat.le_refl _))⟩
 exact ⟨Nat.le_trans (zBd xs lo hi) hz, _, 0, (r.drop (HT.sIx xs.length 0 lo)).take (HT.sIx xs.length xs.length hi - HT.sIx xs.length 0 lo), Heap.get?_push_size _ rfl⟩
def yM : V -> Bool
 | .non => true
 | .bl _ => true
 | .int _ => true
 | .str _ => true
 | _ => false
def eqV : V -> V -> Bool
 | .non, .non => true
 | .bl a, .bl b => a == b
 | .bl a, .int b => (if a then 1 else 0) == b
 | .int a, .bl b => a == (if b then 1 else 0)
 | .int a, .int b => a == b
 | .str a, .str b => a == b
 | _, _ => false
theorem zNO {A : Around} {s : Shared} {y x : V} {u v : Value} (ry : zZ y u) (rx : zZ x v) (fy : yM y = true) (fx : yM x = true) : SeqAt.EqAt A s u v (eqV y x) := by
 cases y with
 | non =>
  cases ry
  cases x with
  | non => cases rx; exact SeqAt.EqAt.same _
  | bl b => cases rx; exact SeqAt.EqAt.none_bool b
  | int b => obtain ⟨t, rfl⟩ := rx; exact SeqAt.EqAt.none_int b t
  | str b => obtain ⟨t, rfl⟩ := rx; exact SeqAt.EqAt.none_str b t
  | _ => exact absurd (show false = true from fx) Bool.false_ne_true
 | bl a =>
  cases ry
  cases x with
  | non => cases rx; exact SeqAt.EqAt.bool_none a
  | bl b => cases rx; exact SeqAt.EqAt.bool_bool a b
  | int b => obtain ⟨t, rfl⟩ := rx; exact SeqAt.EqAt.bool_int a b t
  | str b => obtain ⟨t, rfl⟩ := rx; exact SeqAt.EqAt.bool_str a b t
  | _ => exact absurd (show false = true from fx) Bool.false_ne_true
 | int a =>
  obtain ⟨t', rfl⟩ := ry
  cases x with
  | non => cases rx; exact SeqAt.EqAt.int_none a t'
  | bl b => cases rx; exact SeqAt.EqAt.int_bool a t' b
  | int b => obtain ⟨t, rfl⟩ := rx; exact SeqAt.EqAt.int_int a t' b t
  | str b => obtain ⟨t, rfl⟩ := rx; exact SeqAt.EqAt.int_str a t' b t
  | _ => exact absurd (show false = true from fx) Bool.false_ne_true
 | str a =>
  obtain ⟨t', rfl⟩ := ry
  cases x with
  | non => cases rx; exact SeqAt.EqAt.str_none a t'
  | bl b => cases rx; exact SeqAt.EqAt.str_bool a t' b
  | int b => obtain ⟨t, rfl⟩ := rx; exact SeqAt.EqAt.str_int a t' b t
  | str b => obtain ⟨t, rfl⟩ := rx; exact SeqAt.EqAt.str_str a t' b t
  | _ => exact absurd (show false = true from fx) Bool.false_ne_true
 | _ => exact absurd (show false = true from fy) Bool.false_ne_true
def eqU (x : V) (u : Value) : Bool := match u with
 | .none => eqV .non x
 | .bool b => eqV (.bl b) x
 | .int i _ => eqV (.int i) x
 | .str z _ => eqV (.str z) x
 | _ => false
theorem zIg {x y : V} {u : Value} (r : zZ y u) (f : yM y = true) : eqU x u = eqV y x := by
 cases y with
 | non => cases r; rfl
 | bl b => cases r; rfl
 | int i => obtain ⟨t, rfl⟩ := r; rfl
 | str z => obtain ⟨t, rfl⟩ := r; rfl
 | _ => exact absurd (show false = true from f) Bool.false_ne_true
theorem zAV {x : V} : ∀ {xs : List V} {us : List Value}, zf xs us -> xs.all yM = true -> us.any (eqU x) = xs.any fun y => eqV y x
 | _, _, .nil, _ => rfl
 | y :: xs, u :: us, .cons r t, f => by
  rw [List.all_cons, Bool.and_eq_true] at f
  rw [List.any_cons, List.any_cons, zIg r f.1, zAV t f.2]
theorem JV {A : Around} {s : Shared} {x : V} {v : Value} (rx : zZ x v) (fx : yM x = true) : ∀ {xs : List V} {us : List Value}, zf xs us -> xs.all yM = true -> ∀ u ∈ us, SeqAt.EqAt A s u v (eqU x u)
 | _, _, .nil, _ => fun u hu => by cases hu
 | y :: xs, u :: us, .cons r t, f => fun u' hu => by
  rw [List.all_cons, Bool.and_eq_true] at f
  rcases List.mem_cons.mp hu with rfl | hu
  ·rw [zIg r f.1]; exact zNO r rx f.1 fx
  ·exact JV rx fx t f.2 u' hu
def inV (x : V) (xs : List V) : Bool := xs.any fun y => eqV y x
def rIn (K : PySem.W.Frag) (neg : Bool) : R2 := fun x y H Q => ∃ p xs, y = .ref p /\ (SqL K H p xs \/ SqT K H p xs) /\ yM x = true /\ xs.all yM = true /\ Q (.bl (if neg then !inV x xs else inV x xs)) H
theorem zII : OpR X (compareOp .In) (rIn X.K false) := by
 intro pins s σ H x y v u Q I rx ry h
 obtain ⟨p, xs, rfl, hq, fx, fs, q⟩ := h
 cases ry
 rcases hq with hq | hq
 ·obtain ⟨its, r, pl, hz⟩ := I.list hq
  refine SeqAt.in_listAt (eqU x) pl.isList (fun w hw => JV rx fx r fs w (by simpa using hw)) ⟨.bl _, H, I, rfl, ?_⟩
  rw [show its.toArray.any (eqU x) = its.any (eqU x) by simp, zAV r fs]
  exact q
 ·obtain ⟨its, r, pl, hz⟩ := I.tuple hq
  refine SeqAt.in_tupleAt (eqU x) pl (fun w hw => JV rx fx r fs w (by simpa using hw)) ⟨.bl _, H, I, rfl, ?_⟩
  rw [show its.toArray.any (eqU x) = its.any (eqU x) by simp, zAV r fs]
  exact q
theorem zFm : OpR X (compareOp .NotIn) (rIn X.K true) := by
 intro pins s σ H x y v u Q I rx ry h
 obtain ⟨p, xs, rfl, hq, fx, fs, q⟩ := h
 cases ry
 rcases hq with hq | hq
 ·obtain ⟨its, r, pl, hz⟩ := I.list hq
  refine SeqAt.notIn_listAt (eqU x) pl.isList (fun w hw => JV rx fx r fs w (by simpa using hw)) ⟨.bl _, H, I, rfl, ?_⟩
  rw [show its.toArray.any (eqU x) = its.any (eqU x) by simp, zAV r fs]
  exact q
 ·obtain ⟨its, r, pl, hz⟩ := I.tuple hq
  refine SeqAt.notIn_tupleAt (eqU x) pl (fun w hw => JV rx fx r fs w (by simpa using hw)) ⟨.bl _, H, I, rfl, ?_⟩
  rw [show its.toArray.any (eqU x) = its.any (eqU x) by simp, zAV r fs]
  exact q
theorem zEg : qF X (.builtin "len") (fun xs H Q => ∃ p ys, xs = [.ref p] /\ (SqL X.K H p ys \/ SqT X.K H p ys) /\ Q (.int ys.length) H) := by
 intro pins s σ H xs us Q I r h
 obtain ⟨p, ys, rfl, hq, q⟩ := h
 obtain ⟨u, rfl, rx⟩ := Z6 r
 cases rx
 have hn := Jc
 rcases hq with hq | hq
 ·obtain ⟨its, r', pl, hz⟩ := I.list hq
  have hlen := r'.length
  exact Calls.call_len_list pl.isList (by simp only [List.size_toArray] <;> omega) ⟨.int ys.length, H, I.tok _, ⟨s.toks + 1, by rw [List.size_toArray, hlen]⟩, q⟩
 ·obtain ⟨its, r', pl, hz⟩ := I.tuple hq
  have hlen := r'.length
  exact len_tuple pl (by simp only [List.size_toArray] <;> omega) ⟨.int ys.length, H, I.tok _, ⟨s.toks + 1, by rw [List.size_toArray, hlen]⟩, q⟩
theorem zE0 : qF X (.builtin "len") (fun xs H Q => ∃ z, xs = [.str z] /\ z.length <= sizeLine /\ Q (.int z.length) H) := by
 intro pins s σ H xs us Q I r h
 obtain ⟨z, rfl, hz, q⟩ := h
 obtain ⟨u, rfl, t, rfl⟩ := Z6 r
 have hn := Jc
 exact len_str (by omega) ⟨.int z.length, H, I.tok _, ⟨_, rfl⟩, q⟩
theorem qF.or {f : Value} {r r' : List V -> Hp -> VK -> Prop} (h : qF X f r) (h' : qF X f r') : qF X f (fun xs H Q => r xs H Q \/ r' xs H Q) := by
 intro pins s σ H xs us Q I rs q
 rcases q with q | q
 ·exact h pins s σ H xs us Q I rs q
 ·exact h' pins s σ H xs us Q I rs q
theorem zFb : qF X (.type "list") (fun xs H Q => ∃ p ys, xs = [.ref p] /\ (SqL X.K H p ys \/ SqT X.K H p ys) /\ ∀ l, H l = none -> Q (.ref l) (upd H l (.lst ys))) := by
 intro pins s σ H xs us Q I r h
 obtain ⟨p, ys, rfl, hq, q⟩ := h
 obtain ⟨u, rfl, rx⟩ := Z6 r
 cases rx
 have fin : ∀ (its : List Value), zf ys its -> ys.length <= sizeLine -> ∀ (h' : Heap) (c' : Nat), (∀ b o', s.heap.get? b = some o' -> h'.get? b = some o') ->
   h'.get? s.heap.objs.size = some { cls := .type "list", dict := none, data := .seq its.toArray c', slots := #[] } -> EP X pins σ Q (.ref s.heap.objs.size) { s with heap := h' } := fun its r' hz h' c' kp e =>
  ⟨.ref s.heap.objs.size, _, I.laid (t' := s.toks) kp (Nat.le_refl _) (show jV X.prog X.w _ h' _ (.lst ys) from ⟨hz, its, c', r', e⟩), rfl, q _ (I.hok.fresh (Nat.le_refl _))⟩
 rcases hq with hq | hq
 ·obtain ⟨its, r', pl, hz⟩ := I.list hq
  have hlen := r'.length
  obtain ⟨o, ho, hc, n, hd⟩ := pl.isList
  exact call_list_seq p (.inl rfl) ho hc hd (fun h' c' kp e => fin its r' hz h' c' kp e) (by simp only [List.size_toArray] <;> omega)
 ·obtain ⟨its, r', pl, hz⟩ := I.tuple hq
  have hlen := r'.length
  obtain ⟨o, ho, hc, n, hd⟩ := pl
  exact call_list_seq p (.inr rfl) ho hc hd (fun h' c' kp e => fin its r' hz h' c' kp e) (by simp only [List.size_toArray] <;> omega)
def tyV (K : PySem.W.Frag) (T : String) (x : V) (H : Hp) : Prop := match x with
 | .str _ => T = "str"
 | .int _ => T = "int"
 | .ref p => (T = "list" /\ ∃ xs, SqL K H p xs) \/ (T = "tuple" /\ ∃ o, K.lookup p = some o /\ o.cls = .type "tuple" /\ o.dict = none) \/
   (T = "dict" /\ ((∃ kvs, H p = some (.dK kvs)) \/ ∃ kvs, H p = some (.dT kvs))) \/ (T = "set" /\ ∃ S n, H p = some (.set S n))
 | _ => False
theorem zHj {pins : List (Addr × Obj)} {σ : St} {H : Hp} {s : Shared} {T : String} {x : V} {v : Value} (I : Inv X pins σ H s) (r : zZ x v) (ty : tyV X.K T x H) :
  s.TypeIs v T /\ ∀ a, v = .ref a -> ∃ ob, s.heap.get? a = some ob /\ ob.dict = none := by
 cases x with
 | str z =>
  obtain ⟨t, rfl⟩ := r
  cases (show T = "str" from ty)
  exact ⟨typeIs_str s z t, fun _ e => nomatch e⟩
 | int i =>
  obtain ⟨t, rfl⟩ := r
  cases (show T = "int" from ty)
  exact ⟨typeIs_int s i t, fun _ e => nomatch e⟩
 | ref p =>
  cases r
  rcases ty with ⟨rfl, xs, hq⟩ | ⟨rfl, o, hk, hc, hd⟩ | ⟨rfl, hk⟩ | ⟨rfl, S, n, hk⟩
  ·obtain ⟨its, _, pl, _⟩ := I.list hq
   refine ⟨pl.isList.typeIs, fun a e => ?_⟩
   cases e
   obtain ⟨o, n, e, c, hd, _⟩ := pl
   exact ⟨o, e, hd⟩
  ·refine ⟨⟨o, I.kIn p o hk, hc⟩, fun a e => ?_⟩
   cases e
   exact ⟨o, I.kIn _ o hk, hd⟩
  ·have z : ∃ o, s.heap.get? p = some o /\ o.ExactDict := by
    rcases hk with ⟨kvs, hk⟩ | ⟨kvs, hk⟩
    ·obtain ⟨_, _, _, _, o, _, _, e, ex, _⟩ := I.hok p _ hk
     exact ⟨o, e, ex⟩
    ·obtain ⟨_, _, _, _, o, _, _, e, ex, _⟩ := I.hok p _ hk
     exact ⟨o, e, ex⟩
   obtain ⟨o, e, ex⟩ := z
   refine ⟨⟨o, e, ex.1⟩, fun a e2 => ?_⟩
   cases e2
   exact ⟨o, e, ex.2.1⟩
  ·obtain ⟨o, _, _, _, e, ex, _⟩ := I.hok p _ hk
   refine ⟨⟨o, e, ex.1⟩, fun a e2 => ?_⟩
   cases e2
   exact ⟨o, e, ex.2.1⟩
 | _ => exact False.elim ty
def tBM (K : PySem.W.Frag) (T : String) (r : V -> List V -> Hp -> VK -> Prop) (to : TE) (t : TA) : TE := fun σ H Q => to σ H fun x H1 => tyV K T x H1 /\ t σ H1 fun xs H2 => r x xs H2 Q
variable {o e : Expr} {es : List Expr} {to : TE} {t : TA} {name : Str} {apos cpos : Pos} {T id : String} {r : V -> List V -> Hp -> VK -> Prop}
theorem zKN (pa : PlainAttrs T) (slot : Slot T name id) (hty : typeOf (.builtin id) = pure (.type "method_descriptor")) (hm : MtR X id r) (ho : PE X o to) (ha : PA X (e :: es) t)
  (hbase : attributeBase o name X.env (eval o X.env) = eval o X.env := by rfl)
  (hfew : ((backTo cpos (starEach (e :: es) X.env)).all (fun x => !x.1) && (backToKw cpos (keywordEach [] X.env)).all (fun x => x.1.isSome)
   && decide ((e :: es).length + ([] : List Keyword).length + (if ([] : List Keyword).isEmpty then 0 else 1) < 30)) = true := by rfl)
  (hline : (apos.endLine == cpos.line) = true := by rfl) (hs : starEach (e :: es) X.env = (false, eval e X.env) :: starEach es X.env := by rfl) (hplain : (backTo cpos (starEach es X.env)).any (·.1) = false := by rfl) :
  PE X (.Call (.Attribute o name apos) (e :: es) [] cpos) (tBM X.K T r to t) := by
 intro pins s σ H Q I h
 refine wpAny_Call_method_late hbase hfew hline rfl (thn (ho pins s σ H _ I h) fun v s1 ⟨x, H1, I1, r1, ty, q1⟩ => ?_)
 obtain ⟨h1, h2⟩ := zHj I1 r1 ty
 refine ⟨T, id, pa, slot, hty, h1, h2, ?_⟩
 have hA := ha cpos pins s1 σ H1 _ I1 q1
 rw [hs] at hA ⊢
 refine Calls.callWith_builtin (by show (false || (backTo cpos (starEach es X.env)).any (·.1)) = false; rw [hplain] <;> rfl) (Calls.evalArgs_plain ?_)
 exact thn hA fun us s2 ⟨vs, H2, I2, r2, q2⟩ => hm pins s2 σ H2 x vs v us Q I2 r1 r2 q2
end
end L2
namespace L2
open PySem PySem.Spec PyProof.Rows
def MtM (X : Cx) (id : String) (r : V -> List V -> Hp -> VK -> Prop) : Prop :=
 ∀ (pins : List (Addr × Obj)) (s : Shared) (σ : St) (H : Hp) (x : V) (xs : List V) (v : Value) (us : List Value) (Q : VK), Inv X pins σ H s -> zZ x v -> zf xs us -> r x xs H Q ->
  wpAny (model X.prog X.w) X.A (call (.builtin id) (v :: us)) (EP X pins σ Q) X.xe s
theorem zf.one : ∀ {x : V} {us : List Value}, zf [x] us -> ∃ u, us = [u] /\ zZ x u
 | _, _, .cons r .nil => ⟨_, rfl, r⟩
theorem zf.rep {xs : List V} {us : List Value} (h : zf xs us) : ∀ k : Nat, zf (List.replicate k xs).flatten (List.replicate k us).flatten
 | 0 => .nil
 | k + 1 => by
  rw [List.replicate_succ, List.replicate_succ, List.flatten_cons, List.flatten_cons]
  exact zf.append h (zf.rep h k)
theorem zDb (its : List Value) : ∀ (k : Nat) (acc : List Value),
  List.foldl (fun x1 x2 => x1 ++ x2) acc.toArray (List.replicate k its.toArray) = (acc ++ (List.replicate k its).flatten).toArray
 | 0, acc => by simp
 | k + 1, acc => by
  have e : acc.toArray ++ its.toArray = (acc ++ its).toArray := by simp
  have e2 : (acc ++ its) ++ (List.replicate k its).flatten = acc ++ (List.replicate (k + 1) its).flatten := by
   rw [List.replicate_succ, List.flatten_cons, List.append_assoc]
  rw [<- e2, <- zDb its k (acc ++ its), <- e, List.replicate_succ, List.foldl_cons]
section
variable {X : Cx} {pins : List (Addr × Obj)} {σ : St} {H : Hp} {s : Shared} {l b : Addr} {xs ys zs : List V}
theorem Inv.lset {its its' : List Value} {n : Nat} {f : Array Value -> Array Value} {t' : Nat} (I : Inv X pins σ H s) (hH : H l = some (.lst xs))
  (e : s.heap.get? l = some { cls := .type "list", data := .seq its.toArray n }) (hf : f its.toArray = its'.toArray) (hv : zf ys its') (hz : ys.length <= sizeLine) (ht : 0 < t' := by first | exact Nat.succ_pos _ | assumption | exact Inv.tk (by assumption) | omega) :
  Inv X pins σ (upd H l (.lst ys)) { s with heap := s.heap.update l (Obj.mapSeq f), toks := t' } := by
 have q := PySem.IsL.update e f
 rw [hf] at q
 refine I.write (x := l) (e := l) (by rw [hH]; exact trivial) (.inl rfl) (fun b' u hb hu => (Heap.get?_update_other s.heap (Obj.mapSeq f) (Ne.symm hb)).trans hu) ⟨_, q⟩ ?_
 exact ⟨hz, its', _, hv, q⟩
theorem Inv.lnew {its : List Value} {t' : Nat} (I : Inv X pins σ H s) (hv : zf ys its) (hz : ys.length <= sizeLine) (ht : 0 < t' := by first | exact Nat.succ_pos _ | assumption | exact Inv.tk (by assumption) | omega) :
  Inv X pins σ (upd H s.heap.objs.size (.lst ys)) { s with heap := s.heap.push { cls := .type "list", data := .seq its.toArray }, toks := t' } :=
 I.laid (fun _ _ q => Heap.get?_push_of_some _ q) (Nat.le_refl _) ⟨hz, its, 0, hv, Heap.get?_push_size _ rfl⟩
theorem Inv.fresh (I : Inv X pins σ H s) : H s.heap.objs.size = none := I.hok.fresh (Nat.le_refl _)
theorem Inv.lstM (I : Inv X pins σ H s) (hH : H l = some (.lst xs)) : xs.length <= sizeLine /\ ∃ (its : List Value) (n : Nat), zf xs its /\ xs.length = its.length /\ s.heap.get? l = some { cls := .type "list", data := .seq its.toArray n } := by
 obtain ⟨z, its, n, r, e⟩ := I.hok l _ hH
 exact ⟨z, its, n, r, r.length, e⟩
theorem zFh {n : Nat} (h : n <= sizeLine) : Builtin.List.listTooLong n = false := by
 unfold Builtin.List.listTooLong
 exact decide_eq_false (by omega)
end
section
variable {X : Cx}
def zGI : V -> List V -> Hp -> VK -> Prop := fun x vs H Q => ∃ l xs y, x = .ref l /\ vs = [y] /\ H l = some (.lst xs) /\ xs.length < sizeLine /\ Q .non (upd H l (.lst (xs ++ [y])))
theorem Q2 : MtM X "list.append" zGI := by
 intro pins s σ H x vs v us Q I rx rv h
 obtain ⟨l, xs, y, rfl, rfl, hH, hz, q⟩ := h
 cases rx
 obtain ⟨u, rfl, ru⟩ := rv.one
 obtain ⟨z, its, n, r, hl, e⟩ := I.lstM hH
 refine call_meets F.slot_list_append ⟨_, e, rfl⟩ F.entry_list_append (F.args_list_append_2 _ _) (PySem.list_append l its.toArray n u (by rw [List.size_toArray]; omega)) ⟨e, ?_⟩
 refine ⟨.non, _, I.lset (its' := its ++ [u]) hH e (by simp) (r.append (.cons ru .nil)) ?_, rfl, q⟩
 rw [List.length_append, List.length_singleton]
 omega
def zGY : V -> List V -> Hp -> VK -> Prop := fun x vs H Q => ∃ l b xs zs, x = .ref l /\ vs = [.ref b] /\ H l = some (.lst xs) /\ H b = some (.lst zs) /\ xs.length + zs.length <= sizeLine /\ Q .non (upd H l (.lst (xs ++ zs)))
theorem zHx : MtM X "list.extend" zGY := by
 intro pins s σ H x vs v us Q I rx rv h
 obtain ⟨l, b, xs, zs, rfl, rfl, hH, hB, hz, q⟩ := h
 cases rx
 obtain ⟨u, rfl, ru⟩ := rv.one
 cases ru
 obtain ⟨z, its, n, r, hl, e⟩ := I.lstM hH
 obtain ⟨z2, its2, n2, r2, hl2, e2⟩ := I.lstM hB
 have hsz : its.toArray.size + its2.toArray.size <= sizeLine := by rw [List.size_toArray, List.size_toArray]; omega
 have hlong : ¬ (!its.toArray.isEmpty && Builtin.List.listTooLong (its.toArray.size + its2.toArray.size)) = true := by
  rw [zFh hsz, Bool.and_false]
  exact Bool.false_ne_true
 refine call_meets F.slot_list_extend ⟨_, e, rfl⟩ F.entry_list_extend (F.args_list_extend_2 _ _)
  (AutoSeq1.list_extend_list_list_0 l its.toArray n b its2.toArray n2 hlong (by rw [List.size_toArray]; omega) (by omega)) ⟨e, e2, ?_⟩
 refine ⟨.non, _, I.lset (its' := its ++ its2) hH e (by simp) (r.append r2) ?_, rfl, q⟩
 rw [List.length_append]
 omega
def zOu : R2 := fun x y H Q => ∃ l b xs zs, x = .ref l /\ y = .ref b /\ H l = some (.lst xs) /\ H b = some (.lst zs) /\ xs.length + zs.length <= sizeLine /\ ∀ p, H p = none -> Q (.ref p) (upd H p (.lst (xs ++ zs)))
theorem zMt : OpR X (binaryOp .Add) zOu := by
 intro pins s σ H x y v u Q I rx ry h
 obtain ⟨l, b, xs, zs, rfl, rfl, hH, hB, hz, q⟩ := h
 cases rx
 cases ry
 obtain ⟨z, its, n, r, hl, e⟩ := I.lstM hH
 obtain ⟨z2, its2, n2, r2, hl2, e2⟩ := I.lstM hB
 refine PySem.P.add_list e e2 ?_ (by rw [List.size_toArray, List.size_toArray]; omega)
 have ea : its.toArray ++ its2.toArray = (its ++ its2).toArray := by simp
 rw [ea]
 exact ⟨.ref _, _, I.lnew (t' := s.toks) (r.append r2) (by rw [List.length_append]; omega), rfl, q _ I.fresh⟩
def zMG : R2 := fun x y H Q => ∃ l k xs, x = .ref l /\ y = .int k /\ H l = some (.lst xs) /\ -(2 ^ 63) <= k /\ k < 2 ^ 63 /\ xs.length * k.toNat <= sizeLine /\
 ∀ p, H p = none -> Q (.ref p) (upd H p (.lst (List.replicate k.toNat xs).flatten))
theorem zLe {α : Type} (xs : List α) (k : Nat) : (List.replicate k xs).flatten.length = k * xs.length := by
 induction k with
 | zero => simp
 | succ k ih => rw [List.replicate_succ, List.flatten_cons, List.length_append, ih, Nat.succ_mul, Nat.add_comm]
theorem zMW : OpR X (binaryOp .Mult) zMG := by
 intro pins s σ H x y v u Q I rx ry h
 obtain ⟨l, k, xs, rfl, rfl, hH, h1, h2, hz, q⟩ := h
 cases rx
 obtain ⟨t, rfl⟩ := ry
 obtain ⟨z, its, n, r, hl, e⟩ := I.lstM hH
 have hlen : its.toArray.size * k.toNat <= sizeLine := by rw [List.size_toArray, <- hl]; exact hz
 have hcap : ¬ its.toArray.size * k.toNat > (2 ^ 63 - 1) / 8 := by
  have : (sizeLine : Nat) <= (2 ^ 63 - 1) / 8 := by decide
  omega
 have hfit : ¬ (!Builtin.List.listFitsIndex k) = true := by
  rw [fitsIndex_both h1 h2]
  exact Bool.false_ne_true
 have hlong : ¬ Builtin.List.listTooLong (its.toArray.size * k.toNat) = true := by
  rw [zFh hlen]
  exact Bool.false_ne_true
 have hnew : List.foldl (fun x1 x2 => x1 ++ x2) #[] (List.replicate (if its.toArray.isEmpty = true then 0 else k.toNat) its.toArray) = (List.replicate k.toNat its).flatten.toArray := by
  have f0 : ∀ m : Nat, List.foldl (fun x1 x2 => x1 ++ x2) #[] (List.replicate m its.toArray) = (List.replicate m its).flatten.toArray := fun m => by
   have := zDb its m []
   rw [List.nil_append] at this
   exact this
  rw [f0]
  cases its with
  | nil => simp
  | cons a r' => rw [if_neg (by simp)]
 refine wpAny_binaryOp_repeat_ref (T := "list") (U := "int") (by decide) ⟨_, e, rfl⟩ (fun s' => typeIs_int s' k t) noFill_list_mul F.fills_int_mul F.slot_int_rmul repeat_list F.slot_int_index.lookup
  (call_meets F.slot_int_rmul (typeIs_int s k t) F.entry_int_rmul (F.args_int_rmul_2 _ _) (int___rmul___int_list k t l its.toArray n)
   ⟨e, rfl, ⟨_, e, rfl⟩, call_meets F.slot_list_mul ⟨_, e, rfl⟩ F.entry_list_mul (F.args_list_mul_2 _ _) (AutoListH.list___mul___list_int_3 l its.toArray n k t hfit hcap hlong) ⟨e, ?_⟩⟩)
 rw [hnew]
 exact ⟨.ref _, _, I.lnew (t' := s.toks) (r.rep k.toNat) (by rw [zLe, Nat.mul_comm]; exact hz), rfl, q _ I.fresh⟩
end
section
variable {prog : Program} {w : World} {A : Around} {E : Value -> Shared -> Prop} {s : Shared}
set_option maxRecDepth 100000 in
end
end L2
namespace L2
open PySem PySem.Spec PyProof.Rows
section
variable {κ : Type} [DecidableEq κ]
def yI (kvs : List (κ × V)) (k : κ) : Option V := (kvs.find? fun kv => decide (kv.1 = k)).map (·.2)
def qu (kvs : List (κ × V)) (k : κ) (v : V) : List (κ × V) :=
 if (kvs.any fun kv => decide (kv.1 = k)) = true then kvs.map (fun kv => if kv.1 = k then (kv.1, v) else kv) else kvs ++ [(k, v)]
theorem zAo {p : κ × V} {r : List (κ × V)} {k : κ} (e : p.1 = k) : yI (p :: r) k = some p.2 := by simp [yI, List.find?_cons, e]
theorem zAa {p : κ × V} {r : List (κ × V)} {k : κ} (e : ¬ p.1 = k) : yI (p :: r) k = yI r k := by simp [yI, List.find?_cons, e]
theorem zEw (k : κ) : ∀ kvs : List (κ × V), (kvs.any fun kv => decide (kv.1 = k)) = (yI kvs k).isSome
 | [] => rfl
 | p :: r => by
  rw [List.any_cons]
  by_cases e : p.1 = k
  ·simp only [zAo e, decide_eq_true e, Bool.true_or, Option.isSome_some]
  ·rw [zAa e, decide_eq_false e, Bool.false_or]; exact zEw k r
theorem zAJ (kvs : List (κ × V)) (k : κ) (v : V) : (qu kvs k v).length <= kvs.length + 1 := by
 unfold qu
 split
 ·rw [List.length_map]; omega
 ·rw [List.length_append, List.length_cons, List.length_nil]; omega
theorem Qd.isSome_eq {o : Option V} {u : Option Value} (r : Qd o u) : o.isSome = u.isSome := by
 cases o with
 | none => cases u with
  | none => rfl
  | some _ => exact (show False from r).elim
 | some _ => cases u with
  | none => exact (show False from r).elim
  | some _ => rfl
theorem Qd.getD {o : Option V} {u : Option Value} {d : V} {d' : Value} (r : Qd o u) (rd : zZ d d') : zZ (o.getD d) (u.getD d') := by
 cases o with
 | none => cases u with
  | none => exact rd
  | some _ => exact (show False from r).elim
 | some _ => cases u with
  | none => exact (show False from r).elim
  | some _ => exact r
theorem KV.val {kvs : List (κ × V)} {vs : List (κ × Value)} (r : KV kvs vs) (k : κ) : Qd (yI kvs k) (valueAt vs k) := by
 unfold KV at r
 induction r with
 | nil => exact True.intro
 | @cons p q ps qs h t ih =>
  obtain ⟨h1, h2⟩ := h
  by_cases e : p.1 = k
  ·have e' : q.1 = k := h1.symm.trans e
   have b : valueAt (q :: qs) k = some q.2 := by simp [valueAt, List.find?_cons, e']
   rw [zAo e, b]; exact h2
  ·have e' : ¬ q.1 = k := fun z => e (h1.trans z)
   have b : valueAt (q :: qs) k = valueAt qs k := by simp [valueAt, List.find?_cons, e']
   rw [zAa e, b]; exact ih
theorem KV.any {kvs : List (κ × V)} {vs : List (κ × Value)} (r : KV kvs vs) (k : κ) : (kvs.any fun kv => decide (kv.1 = k)) = vs.any fun kv => decide (kv.1 = k) := by
 unfold KV at r
 induction r with
 | nil => rfl
 | cons h t ih => rw [List.any_cons, List.any_cons, ih, h.1]
theorem KV.repl {kvs : List (κ × V)} {vs : List (κ × Value)} (r : KV kvs vs) (k : κ) {y : V} {u : Value} (ry : zZ y u) :
  KV (kvs.map fun kv => if kv.1 = k then (kv.1, y) else kv) (vs.map fun kv => if kv.1 = k then (kv.1, u) else kv) := by
 unfold KV at r ⊢
 induction r with
 | nil => exact .nil
 | @cons p q ps qs h t ih =>
  rw [List.map_cons, List.map_cons]
  refine .cons ?_ ih
  obtain ⟨h1, h2⟩ := h
  by_cases e : p.1 = k
  ·rw [if_pos e, if_pos (h1.symm.trans e)]; exact ⟨h1, ry⟩
  ·rw [if_neg e, if_neg (fun z => e (h1.trans z))]; exact ⟨h1, h2⟩
theorem KV.put {kvs : List (κ × V)} {vs : List (κ × Value)} (r : KV kvs vs) (k : κ) {y : V} {u : Value} (ry : zZ y u) : KV (qu kvs k y) (stored vs k u) := by
 unfold qu stored
 rw [r.any k]
 by_cases e : (vs.any fun kv => decide (kv.1 = k)) = true
 ·rw [if_pos e, if_pos e]; exact r.repl k ry
 ·rw [if_neg e, if_neg e]; exact Paired.snoc r ⟨rfl, ry⟩
theorem KV.keys {kvs : List (κ × V)} {vs : List (κ × Value)} (r : KV kvs vs) : kvs.map (·.1) = vs.map (·.1) := by
 unfold KV at r
 induction r with
 | nil => rfl
 | cons h t ih => rw [List.map_cons, List.map_cons, ih, h.1]
theorem KV.length {kvs : List (κ × V)} {vs : List (κ × Value)} (r : KV kvs vs) : kvs.length = vs.length := Paired.length r
end
theorem JJ {P : Program} {w : World} {k : Key} {u : Value} (r : zZ (kV k) u) : (zq P w).is k u = true := by
 cases k with
 | inl i => obtain ⟨t, e⟩ := (show ∃ t, u = Value.int i t from r); subst e; exact zFt P w i t
 | inr x => obtain ⟨t, e⟩ := (show ∃ t, u = Value.str x t from r); subst e; exact zF2 P w x t
theorem zDh {P : Program} {w : World} : ∀ {ks : List Key} {us : List Value}, zf (ks.map kV) us -> ItemsAre (zq P w) ks us
 | [], _, r => by rw [List.map_nil] at r; cases r; exact .nil
 | k :: ks, _, r => by
  rw [List.map_cons] at r
  cases r with
  | cons h t => exact .cons (JJ h) (zDh t)
abbrev KT (H : Hp) : List (List Key × V) -> List (List Key × Addr × Value) -> Prop := Paired fun p q => p.1 = q.1 /\ H q.2.1 = some (.tup (p.1.map kV)) /\ zZ p.2 q.2.2
theorem KT.val {H : Hp} {kvs : List (List Key × V)} {xs : List (List Key × Addr × Value)} (r : KT H kvs xs) (k : List Key) : Qd (yI kvs k) ((atKey xs k).map (·.2)) := by
 induction r with
 | nil => exact True.intro
 | @cons p q ps qs h t ih =>
  obtain ⟨h1, _, h2⟩ := h
  by_cases e : p.1 = k
  ·have e' : q.1 = k := h1.symm.trans e
   have b : atKey (q :: qs) k = some q.2 := by simp [atKey, List.find?_cons, e']
   rw [zAo e, b]; exact h2
  ·have e' : ¬ q.1 = k := fun z => e (h1.trans z)
   have b : atKey (q :: qs) k = atKey qs k := by simp [atKey, List.find?_cons, e']
   rw [zAa e, b]; exact ih
theorem KT.repl {H : Hp} {kvs : List (List Key × V)} {xs : List (List Key × Addr × Value)} (r : KT H kvs xs) (k : List Key) {y : V} {u : Value} (ry : zZ y u) :
  KT H (kvs.map fun kv => if kv.1 = k then (kv.1, y) else kv) (xs.map (putAt k u)) := by
 induction r with
 | nil => exact .nil
 | @cons p q ps qs h t ih =>
  rw [List.map_cons, List.map_cons]
  refine .cons ?_ ih
  obtain ⟨h1, h2, h3⟩ := h
  unfold putAt
  by_cases e : p.1 = k
  ·rw [if_pos e, if_pos (h1.symm.trans e)]; exact ⟨h1, h2, ry⟩
  ·rw [if_neg e, if_neg (fun z => e (h1.trans z))]; exact ⟨h1, h2, h3⟩
theorem KT.put {H : Hp} {kvs : List (List Key × V)} {xs : List (List Key × Addr × Value)} (r : KT H kvs xs) (k : List Key) {b : Addr} {y : V} {u : Value} (hb : H b = some (.tup (k.map kV))) (ry : zZ y u) :
  KT H (qu kvs k y) (storedH xs k b u) := by
 have e : (kvs.any fun kv => decide (kv.1 = k)) = (atKey xs k).isSome := by
  rw [zEw, (r.val k).isSome_eq, Option.isSome_map]
 unfold qu storedH
 rw [e]
 by_cases q : (atKey xs k).isSome = true
 ·rw [if_pos q, if_pos q]; exact r.repl k ry
 ·rw [if_neg q, if_neg q]; exact Paired.snoc r ⟨rfl, hb, ry⟩
theorem KT.keeps {H H' : Hp} {kvs : List (List Key × V)} {xs : List (List Key × Addr × Value)} (r : KT H kvs xs) (ht : ∀ b ys, H b = some (.tup ys) -> H' b = some (.tup ys)) : KT H' kvs xs :=
 Paired.mapP r fun _ _ z => ⟨z.1, ht _ _ z.2.1, z.2.2⟩
section
variable {P : Program} {w : World} {H : Hp} {h : Heap} {a : Addr}
theorem zKH {u : HO} (ok : HOk P w H h) (e : Rd H a u) : jV P w H h a u := e.ok ok
theorem Jq {kvs : List (Key × V)} (ok : HOk P w H h) (e : Rd H a (.dK kvs)) : kvs.length <= sizeLine /\ (a == sysModules) = false /\ ∃ vs, KV kvs vs /\ h.DictOf (zq P w) a vs :=
 show jV P w H h a (.dK kvs) from zKH ok e
theorem Jt {kvs : List (Key × V)} (ok : HOk P w H h) (e : H a = some (.dK kvs)) : kvs.length <= sizeLine /\ (a == sysModules) = false /\ ∃ vs, KV kvs vs /\ h.DictOf (zq P w) a vs := Jq ok (.inl e)
theorem Jm {ks : List Key} (ok : HOk P w H h) (e : H a = some (.tup (ks.map kV))) : (tupleKind (zq P w)).is h ks a := by
 obtain ⟨_, its, r, o, h1, h2, n, h3⟩ := (show jV P w H h a (.tup (ks.map kV)) from ok a _ e)
 exact ⟨o, its.toArray, n, h1, h2, h3, by simpa using zDh r⟩
theorem zAc {kvs : List (List Key × V)} (ok : HOk P w H h) (e : Rd H a (.dT kvs)) : kvs.length <= sizeLine /\ (a == sysModules) = false /\
  ∃ xs, KT H kvs xs /\ h.DictOfH (tupleKind (zq P w)) a xs := by
 obtain ⟨z, y, xs, r, o, es, ep, h1, h2, h3, h4, h5⟩ := (show jV P w H h a (.dT kvs) from zKH ok e)
 refine ⟨z, y, xs, r, o, es, ep, h1, h2, h3, h4, fun x hx => ?_, h5⟩
 have all : ∀ {l : List (List Key × V)} {m : List (List Key × Addr × Value)}, KT H l m -> ∀ x ∈ m, (tupleKind (zq P w)).is h x.1 x.2.1 := by
  intro l m q
  induction q with
  | nil => intro x hx; exact nomatch hx
  | @cons p q ps qs hq t ih =>
   intro x hx
   rcases List.mem_cons.mp hx with e | hx
   ·subst e
    exact Jm ok (by rw [<- hq.1]; exact hq.2.1)
   ·exact ih x hx
 exact all r x hx
theorem zNt {kvs : List (List Key × V)} (ok : HOk P w H h) (e : H a = some (.dT kvs)) : kvs.length <= sizeLine /\ (a == sysModules) = false /\
  ∃ xs, KT H kvs xs /\ h.DictOfH (tupleKind (zq P w)) a xs := zAc ok (.inl e)
end
def Zr (H : Hp) (a : Addr) (y : V) (r : Option V) : Prop :=
 (∃ kvs k, Rd H a (.dK kvs) /\ y = kV k /\ r = yI kvs k) \/ ∃ kvs k b, Rd H a (.dT kvs) /\ y = .ref b /\ H b = some (.tup (k.map kV)) /\ r = yI kvs k
def zB1 (H : Hp) (a : Addr) (y v : V) (H' : Hp) : Prop :=
 (∃ kvs k, H a = some (.dK kvs) /\ y = kV k /\ kvs.length < sizeLine /\ H' = upd H a (.dK (qu kvs k v))) \/
 ∃ kvs k b, H a = some (.dT kvs) /\ y = .ref b /\ H b = some (.tup (k.map kV)) /\ kvs.length < sizeLine /\ H' = upd H a (.dT (qu kvs k v))
theorem Zr.k {H : Hp} {a : Addr} {kvs : List (Key × V)} {k : Key} (e : H a = some (.dK kvs)) : Zr H a (kV k) (yI kvs k) := .inl ⟨kvs, k, .inl e, rfl, rfl⟩
theorem zB1.k {H : Hp} {a : Addr} {kvs : List (Key × V)} {k : Key} {v : V} (e : H a = some (.dK kvs)) (hl : kvs.length < sizeLine) : zB1 H a (kV k) v (upd H a (.dK (qu kvs k v))) := .inl ⟨kvs, k, e, rfl, hl, rfl⟩
section
variable {X : Cx} {pins : List (Addr × Obj)} {σ : St} {H : Hp} {s : Shared} {a : Addr} {y v : V} {u r : Value} {o : Option V} {A : Around} {E : Value -> Shared -> Prop}
theorem Inv.big (I : Inv X pins σ H s) : sysModules < s.heap.objs.size := by
 have h : mainGlobals < s.heap.objs.size := (I.mod.glob.keeps I.bk).lt
 exact Nat.lt_trans (by decide) h
theorem zDz {Q : Value -> Shared -> Prop} (hu : A.units + 1 < cLine) (I : Inv X pins σ H s) (g : Zr H a y (some v)) (ry : zZ y u) (h : ∀ w' s', Inv X pins σ H s' -> zZ v w' -> Q w' s') :
  wpAny (model X.prog X.w) A (getItem (.ref a) u) Q E s := by
 rcases g with ⟨kvs, k, e, ey, l⟩ | ⟨kvs, k, b, e, ey, eb, l⟩
 ·subst ey
  obtain ⟨z, hd, vs, rel, dd⟩ := Jq I.hok e
  obtain ⟨w', hw, rw'⟩ := Qd.some_of (v := v) (o := valueAt vs k) (by rw [l]; exact rel.val k)
  exact wpAny_getItem_of (JJ ry) dd.mapOf hw (h w' _ (I.tok _) rw')
 ·subst ey
  cases (show u = Value.ref b from ry)
  obtain ⟨z, hd, xs, rel, dd⟩ := zAc I.hok e
  obtain ⟨w', hw, rw'⟩ := Qd.some_of (v := v) (o := (atKey xs k).map (·.2)) (by rw [l]; exact rel.val k)
  obtain ⟨p, hp, hp2⟩ := Option.map_eq_some_iff.mp hw
  refine wpAny_getItem_heap (tupleKind_room_in1 hu) (Jm I.hok eb) dd hp ?_
  rw [hp2]
  exact h w' _ (I.tok _) rw'
theorem zOP {Q : Value -> Shared -> Prop} (hu : A.units + 1 < cLine) (I : Inv X pins σ H s) (g : Zr H a y o) (ry : zZ y u) (h : ∀ s', Inv X pins σ H s' -> Q (.bool o.isSome) s') :
  wpAny (model X.prog X.w) A (compareOp .In u (.ref a)) Q E s := by
 rcases g with ⟨kvs, k, e, ey, l⟩ | ⟨kvs, k, b, e, ey, eb, l⟩
 ·subst ey
  obtain ⟨z, hd, vs, rel, dd⟩ := Jq I.hok e
  refine wpAny_in_of (JJ ry) hd dd.mapOf ?_
  rw [<- (rel.val k).isSome_eq, <- l]
  exact h _ (I.tok _)
 ·subst ey
  cases (show u = Value.ref b from ry)
  obtain ⟨z, hd, xs, rel, dd⟩ := zAc I.hok e
  refine wpAny_in_heap (tupleKind_room_in1 hu) (Jm I.hok eb) hd dd ?_
  have q := (rel.val k).isSome_eq
  rw [Option.isSome_map] at q
  rw [<- q, <- l]
  exact h _ (I.tok _)
theorem zLg {Q : Value -> Shared -> Prop} (hu : A.units + 1 < cLine) (I : Inv X pins σ H s) (g : Zr H a y o) (ry : zZ y u) (h : ∀ s', Inv X pins σ H s' -> Q (.bool (!o.isSome)) s') :
  wpAny (model X.prog X.w) A (compareOp .NotIn u (.ref a)) Q E s := by
 rcases g with ⟨kvs, k, e, ey, l⟩ | ⟨kvs, k, b, e, ey, eb, l⟩
 ·subst ey
  obtain ⟨z, hd, vs, rel, dd⟩ := Jq I.hok e
  refine wpAny_notIn_of (JJ ry) hd dd.mapOf ?_
  rw [<- (rel.val k).isSome_eq, <- l]
  exact h _ (I.tok _)
 ·subst ey
  cases (show u = Value.ref b from ry)
  obtain ⟨z, hd, xs, rel, dd⟩ := zAc I.hok e
  refine wpAny_notIn_heap (tupleKind_room_in1 hu) (Jm I.hok eb) hd dd ?_
  have q := (rel.val k).isSome_eq
  rw [Option.isSome_map] at q
  rw [<- q, <- l]
  exact h _ (I.tok _)
theorem zC1 {h' : Heap} {t' : Nat} {ob : HO} (I : Inv X pins σ H s) (mu : Mut (H a)) (hs : Heap.SameBut a s.heap h') (he : ∃ q, h'.get? a = some q) (new : jV X.prog X.w (upd H a ob) h' a ob) (ht : 0 < t' := by first | exact Nat.succ_pos _ | assumption | exact Inv.tk (by assumption) | omega) :
  Inv X pins σ (upd H a ob) { s with heap := h', toks := t' } :=
 I.write (x := a) (e := a) mu (.inl rfl) (fun b q hb z => (hs.2 b hb).trans z) he new
theorem zE9 {P : Program} {w : World} {H' : Hp} {h' : Heap} {kvs : List (Key × V)} {vs : List (Key × Value)} (z : kvs.length <= sizeLine) (hd : (a == sysModules) = false) (rel : KV kvs vs) (dd : h'.DictOf (zq P w) a vs) :
  jV P w H' h' a (.dK kvs) := ⟨z, hd, vs, rel, dd⟩
theorem zDi {H' : Hp} {Q : Unit -> Shared -> Prop} (hu : A.units + 1 < cLine) (I : Inv X pins σ H s) (g : zB1 H a y v H') (ry : zZ y u) (rv : zZ v r) (h : ∀ s', Inv X pins σ H' s' -> Q () s') :
  wpAny (model X.prog X.w) A (setItem (.ref a) u r) Q E s := by
 rcases g with ⟨kvs, k, e, ey, l, eH⟩ | ⟨kvs, k, b, e, ey, eb, l, eH⟩
 ·subst ey eH
  obtain ⟨z, hd, vs, rel, dd⟩ := Jt I.hok e
  have hz : vs.length <= sizeLine := by rw [<- rel.length]; exact z
  have hl : (qu kvs k v).length <= sizeLine := by have := zAJ kvs k v; omega
  refine wpAny_setItem_pairs (hsz := hz) (JJ ry) dd fun h' dd' hs => h _ ?_
  have he : ∃ q, h'.get? a = some q := let ⟨q, _, _, hq, _⟩ := dd'; ⟨q, hq⟩
  exact zC1 I (by rw [e]; exact True.intro) hs he (zE9 hl hd (rel.put k rv) dd')
 ·subst ey eH
  cases (show u = Value.ref b from ry)
  obtain ⟨z, hd, xs, rel, dd⟩ := zNt I.hok e
  have hz : xs.length <= sizeLine := by rw [<- Paired.length rel]; exact z
  have hl : (qu kvs k v).length <= sizeLine := by have := zAJ kvs k v; omega
  refine wpAny_setItem_heap (hsz := hz) (tupleKind_room_in1 hu) (Jm I.hok eb) dd fun h' dd' hs => h _ ?_
  obtain ⟨q, es, ep, hq, h2, h3, h4, _, h5⟩ := dd'
  refine zC1 I (by rw [e]; exact True.intro) hs ⟨q, hq⟩ ⟨hl, hd, _, (rel.put k eb rv).keeps fun c ys ec => ?_, q, es, ep, hq, h2, h3, h4, h5⟩
  rw [zT (zNs ec e (fun z => nomatch z))]
  exact ec
end
section
variable {X : Cx} {pins : List (Addr × Obj)} {σ : St} {H : Hp} {s : Shared} {a : Addr} {kvs : List (Key × V)} {k : Key} {u : Value} {A : Around} {E : Value -> Shared -> Prop}
theorem zNd {Q : Value -> Shared -> Prop} (I : Inv X pins σ H s) (e : Rd H a (.dK kvs)) (h : ∀ t s', Inv X pins σ H s' -> Q (.int kvs.length t) s') : wpAny (model X.prog X.w) A (call (.builtin "len") [.ref a]) Q E s := by
 obtain ⟨z, hd, vs, rel, dd⟩ := Jq I.hok e
 refine call_len_dict hd dd (by rw [<- rel.length]; rw [sizeLine_eq] at z; omega) ?_
 rw [<- rel.length]
 exact h _ _ (I.tok _)
end
theorem zFw {X : Cx} {pins : List (Addr × Obj)} {σ : St} {H : Hp} {s : Shared} {a : Addr} {y : V} {o : Option V} (I : Inv X pins σ H s) (g : Zr H a y o) : s.TypeIs (.ref a) "dict" := by
 rcases g with ⟨kvs, k, e, _, _⟩ | ⟨kvs, k, b, e, _, _, _⟩
 ·obtain ⟨_, _, vs, _, dd⟩ := Jq I.hok e
  exact dd.typeIs
 ·obtain ⟨_, _, xs, _, dd⟩ := zAc I.hok e
  exact dd.typeIs
def zNz (td ty tv : TE) : TS := fun D σ H => tv σ H fun v H1 => td σ H1 fun x H2 => ty σ H2 fun y H3 => ∃ a H4, x = .ref a /\ zB1 H3 a y v H4 /\ D.nx σ H4
def JH (td ty tv : TE) (rd : V -> V -> Hp -> VK -> Prop) : TS := fun D σ H => td σ H fun x H1 => ty σ H1 fun y H2 => ∃ a v, x = .ref a /\ Zr H2 a y (some v) /\
 tv σ H2 fun y2 H3 => rd v y2 H3 fun z H4 => ∃ H5, zB1 H4 a y z H5 /\ D.nx σ H5
section
variable {X : Cx} {o i e value : Expr} {pos pos' tpos : Pos} {td ty tv : TE}
theorem zKW (hu : X.A.units + 1 < cLine) (ho : PE X o td) (hi : PE X i ty) (hv : PE X value tv) (hs : swapsWith value (some (.Subscript o i pos')) pos.line X.env = pure false) :
  PS X (.Assign [.Subscript o i pos'] value pos) (zNz td ty tv) := by
 intro pins s σ H D I h
 refine wpAny_Assign_Subscript (thn (hv pins s σ H _ I h) fun r s1 ⟨v, H1, I1, rv, q1⟩ => thn (ho pins s1 σ H1 _ I1 q1) fun u s2 ⟨x, H2, I2, rx, q2⟩ => thn (hi pins s2 σ H2 _ I2 q2) fun iv s3 ⟨y, H3, I3, ry, a, H4, ex, g, q3⟩ => ?_) hs
 subst ex
 obtain rfl : u = Value.ref a := rx
 exact zDi hu I3 g ry rv fun s4 I4 => ⟨σ, H4, I4, q3⟩
theorem zKi {op : Operator} {rd : V -> V -> Hp -> VK -> Prop} (hu : X.A.units + 1 < cLine) (ho : PE X o td) (hi : PE X i ty) (hv : PE X value tv) (hop : zOd X op rd)
  (ha : ∀ ov iv new, augStore i ov iv new = (do holding [new, ov, iv] (setItem ov iv new); release [new, ov, iv] []; pure .next)) : PS X (.AugAssign (.Subscript o i tpos) op value pos) (JH td ty tv rd) := by
 intro pins s σ H D I h
 refine wpAny_AugAssign_SubscriptAny (thn (ho pins s σ H _ I h) fun u s1 ⟨x, H1, I1, rx, q1⟩ => thn (hi pins s1 σ H1 _ I1 q1) fun iv s2 ⟨y, H2, I2, ry, a, v, ex, g, q2⟩ => ?_) ha
 subst ex
 obtain rfl : u = Value.ref a := rx
 refine zDz hu I2 g ry fun w' s3 I3 rw' => thn (hv pins s3 σ H2 _ I3 q2) fun w2 s4 ⟨y2, H3, I4, ry2, q3⟩ => thn (hop pins s4 σ H3 v y2 w' w2 _ I4 rw' ry2 q3) fun w3 s5 ⟨z, H4, I5, rz, H5, g5, q4⟩ => ?_
 exact zDi hu I5 g5 ry rz fun s6 I6 => ⟨σ, H5, I6, q4⟩
end
theorem zEZ {P : Program} {w : World} {H : Hp} (h : Heap) (hb : sysModules < h.objs.size) : jV P w H (h.push { cls := .type "dict", data := .dict #[] }) h.objs.size (.dK []) :=
 ⟨Nat.zero_le _, beq_eq_false_iff_ne.mpr (Ne.symm (Nat.ne_of_lt hb)), [], .nil, Heap.DictOf.new h⟩
def zNP : TE := fun _ H Q => ∀ p, H p = none -> Q (.ref p) (upd H p (.dK []))
section
variable {X : Cx} {pos : Pos}
theorem zJj : PE X (.Dict [] [] pos) zNP := fun pins s σ H Q I h =>
 wpAny_Dict_empty ⟨.ref s.heap.objs.size, _, I.laid (a := s.heap.objs.size) (o := .dK []) (t' := s.toks) (fun _ _ q => Heap.get?_push_of_some _ q) (Nat.le_refl _) (zEZ s.heap I.big), rfl, h _ (I.hok.fresh (Nat.le_refl _))⟩
end
def zCP : List (TE × TE) -> St -> Hp -> (List (V × V) -> Hp -> Prop) -> Prop
 | [], _, H, Q => Q [] H
 | (tk, tv) :: r, σ, H, Q => tk σ H fun x H1 => tv σ H1 fun y H2 => zCP r σ H2 fun ps H3 => Q ((x, y) :: ps) H3
abbrev VV : List (V × V) -> List (Value × Value) -> Prop := Paired fun p q => zZ p.1 q.1 /\ zZ p.2 q.2
def PPs (X : Cx) (pos : Pos) (keys : List (Option Expr)) (values : List Expr) (trs : List (TE × TE)) : Prop :=
 ∀ (pins : List (Addr × Obj)) (s : Shared) (σ : St) (H : Hp) (Q : List (V × V) -> Hp -> Prop), Inv X pins σ H s -> zCP trs σ H Q ->
  wpAny (model X.prog X.w) X.A (evalPairs (pairTrees keys values X.env pos)) (fun vs s' => ∃ ps H', Inv X pins σ H' s' /\ VV ps vs /\ Q ps H') X.xe s
theorem zLV {X : Cx} {pos : Pos} : PPs X pos [] [] [] := fun pins s σ H Q I h => pairTrees_nil_walk ⟨[], H, I, .nil, h⟩
theorem zIz {X : Cx} {pos : Pos} {k v : Expr} {ks : List (Option Expr)} {vs : List Expr} {tk tv : TE} {trs : List (TE × TE)} (hk : PE X k tk) (hv : PE X v tv) (hr : PPs X pos ks vs trs) :
  PPs X pos (some k :: ks) (v :: vs) ((tk, tv) :: trs) := fun pins s σ H Q I h =>
 pairTrees_cons_walk (thn (hk pins s σ H _ I h) fun u s1 ⟨x, H1, I1, rx, q1⟩ => thn (hv pins s1 σ H1 _ I1 q1) fun w2 s2 ⟨y, H2, I2, ry, q2⟩ =>
  thn (hr pins s2 σ H2 _ I2 q2) fun ws s3 ⟨ps, H3, I3, rel, q3⟩ => ⟨(x, y) :: ps, H3, I3, .cons ⟨rx, ry⟩ rel, q3⟩)
def Jb (kvs more : List (Key × V)) : List (Key × V) := more.foldl (fun acc kv => qu acc kv.1 kv.2) kvs
theorem KV.merge : ∀ {more : List (Key × V)} {rs : List (Key × Value)} {kvs : List (Key × V)} {vs : List (Key × Value)}, KV more rs -> KV kvs vs -> KV (Jb kvs more) (merged vs rs) := by
 intro more rs kvs vs r
 unfold KV at r
 induction r generalizing kvs vs with
 | nil => intro q; exact q
 | @cons p q ps qs h t ih =>
  intro r0
  have e : KV (qu kvs p.1 p.2) (stored vs q.1 q.2) := by
   have := r0.put p.1 h.2
   rw [<- h.1]; exact this
  exact ih e
theorem zAw : ∀ (more kvs : List (Key × V)), (Jb kvs more).length <= kvs.length + more.length
 | [], kvs => by show kvs.length <= kvs.length + 0; omega
 | p :: r, kvs => by
  have h1 := zAw r (qu kvs p.1 p.2)
  have h2 := zAJ kvs p.1 p.2
  show (Jb (qu kvs p.1 p.2) r).length <= _
  rw [List.length_cons]; omega
theorem zCk {P : Program} {w : World} : ∀ {kvs : List (Key × V)} {ws : List (Value × Value)}, VV (kvs.map fun kv => (kV kv.1, kv.2)) ws -> ∃ rs, Carries (zq P w) ws rs /\ KV kvs rs
 | [], _, r => by rw [List.map_nil] at r; cases r; exact ⟨[], True.intro, .nil⟩
 | p :: kvs, _, r => by
  rw [List.map_cons] at r
  cases r with
  | @cons a b as bs h t =>
   obtain ⟨rs, c, q⟩ := zCk (P := P) (w := w) t
   obtain ⟨b1, b2⟩ := b
   exact ⟨(p.1, b2) :: rs, ⟨JJ h.1, rfl, c⟩, .cons ⟨rfl, h.2⟩ q⟩
def zNa (trs : List (TE × TE)) : TE := fun σ H Q => ∀ p, H p = none -> zCP trs σ (upd H p (.dK [])) fun ps H2 => H2 p = some (.dK []) /\ ∃ kvs : List (Key × V), ps = kvs.map (fun kv => (kV kv.1, kv.2)) /\ kvs.length <= 15 /\ Q (.ref p) (upd H2 p (.dK (Jb [] kvs)))
theorem zLD {X : Cx} {pos : Pos} {keys : List (Option Expr)} {values : List Expr} {trs : List (TE × TE)} (h : PPs X pos keys values trs) (hall : keys.all (·.isSome) = true) (hl : keys.length = values.length) (h0 : keys ≠ [])
  (h15 : keys.length <= 15) : PE X (.Dict keys values pos) (zNa trs) := by
 intro pins s σ H Q I q
 have hn := I.hok.fresh (Nat.le_refl s.heap.objs.size)
 have I1 := I.laid (a := s.heap.objs.size) (o := .dK []) (h' := s.heap.push { cls := .type "dict", data := .dict #[] }) (t' := s.toks) (fun _ _ q => Heap.get?_push_of_some _ q) (Nat.le_refl _) (zEZ s.heap I.big)
 refine wpAny_Dict_walk (knd := zq X.prog X.w) hall hl h0 h15 (thn (h pins _ σ _ _ I1 (q _ hn)) fun ws s2 ⟨ps, H2, I2, rel, e, kvs, ep, lk, q2⟩ => ?_)
 subst ep
 obtain ⟨rs, c, rk⟩ := zCk (P := X.prog) (w := X.w) rel
 obtain ⟨z, hd, vs0, r0, dd⟩ := Jt I2.hok e
 cases r0
 refine ⟨rs, c, dd, fun h' dd' hs => ⟨.ref s.heap.objs.size, _, ?_, rfl, q2⟩⟩
 have hz : (Jb [] kvs).length <= sizeLine := by
  have h1 := zAw kvs []
  rw [List.length_nil] at h1
  rw [sizeLine_eq]; omega
 have he : ∃ q, h'.get? s.heap.objs.size = some q := let ⟨q, _, _, hq, _⟩ := dd'; ⟨q, hq⟩
 exact zC1 I2 (by rw [e]; exact True.intro) hs he (zE9 hz hd (rk.merge .nil) dd') (by have z := I2.tk; (try dsimp only at z); (try dsimp only); omega)
structure M1 (X : Cx) (o : Expr) (m : Str) (apos : Pos) (e : Expr) (cpos : Pos) : Prop where
 base : attributeBase o m X.env (eval o X.env) = eval o X.env
 few : ((backTo cpos (starEach [e] X.env)).all (fun x => !x.1) && (backToKw cpos (keywordEach [] X.env)).all (fun x => x.1.isSome)
  && decide (([e] : List Expr).length + ([] : List Keyword).length + (if ([] : List Keyword).isEmpty then 0 else 1) < 30)) = true
 line : (apos.endLine == cpos.line) = true
 trees : backTo cpos (starEach [e] X.env) = [(false, eval e X.env)]
structure M2 (X : Cx) (o : Expr) (m : Str) (apos : Pos) (e f : Expr) (cpos : Pos) : Prop where
 base : attributeBase o m X.env (eval o X.env) = eval o X.env
 few : ((backTo cpos (starEach [e, f] X.env)).all (fun x => !x.1) && (backToKw cpos (keywordEach [] X.env)).all (fun x => x.1.isSome)
  && decide (([e, f] : List Expr).length + ([] : List Keyword).length + (if ([] : List Keyword).isEmpty then 0 else 1) < 30)) = true
 line : (apos.endLine == cpos.line) = true
 trees : backTo cpos (starEach [e, f] X.env) = [(false, eval e X.env), (false, eval f X.env)]
section
variable {X : Cx} {pins : List (Addr × Obj)} {σ : St} {H : Hp} {s : Shared} {a : Addr} {y d : V} {u r : Value} {o : Option V} {A : Around} {E : Value -> Shared -> Prop}
theorem zL1 {Q : Value -> Shared -> Prop} (hu : A.units + 1 < cLine) (I : Inv X pins σ H s) (g : Zr H a y o) (ry : zZ y u) (h : ∀ w' s', Inv X pins σ H s' -> zZ (o.getD .non) w' -> Q w' s') :
  wpAny (model X.prog X.w) A (call (.builtin "dict.get") [.ref a, u]) Q E s := by
 rcases g with ⟨kvs, k, e, ey, l⟩ | ⟨kvs, k, b, e, ey, eb, l⟩
 ·subst ey
  obtain ⟨z, hd, vs, rel, dd⟩ := Jq I.hok e
  refine call_meetsIn PySem.F.slot_dict_get dd.typeIs PySem.F.entry_dict_get (PySem.F.args_dict_get_2 _ _) (meets_dict_get (zq X.prog X.w) a (JJ ry) hd) ⟨_, dd.mapOf, h _ _ (I.tok _) ?_⟩
  rw [l]
  exact (rel.val k).getD rfl
 ·subst ey
  cases (show u = Value.ref b from ry)
  obtain ⟨z, hd, xs, rel, dd⟩ := zAc I.hok e
  refine call_meetsIn PySem.F.slot_dict_get dd.typeIs PySem.F.entry_dict_get (PySem.F.args_dict_get_2 _ _) (meetsH_dict_get (tupleKind (zq X.prog X.w)) a b hd) ⟨tupleKind_room_in1 hu, k, xs, Jm I.hok eb, dd, h _ _ (I.tok _) ?_⟩
  rw [l]
  exact (rel.val k).getD rfl
theorem zL0 {Q : Value -> Shared -> Prop} (hu : A.units + 1 < cLine) (I : Inv X pins σ H s) (g : Zr H a y o) (ry : zZ y u) (rd : zZ d r) (h : ∀ w' s', Inv X pins σ H s' -> zZ (o.getD d) w' -> Q w' s') :
  wpAny (model X.prog X.w) A (call (.builtin "dict.get") [.ref a, u, r]) Q E s := by
 rcases g with ⟨kvs, k, e, ey, l⟩ | ⟨kvs, k, b, e, ey, eb, l⟩
 ·subst ey
  obtain ⟨z, hd, vs, rel, dd⟩ := Jq I.hok e
  refine call_meetsIn PySem.F.slot_dict_get dd.typeIs PySem.F.entry_dict_get (PySem.F.args_dict_get_3 _ _ _) (meets_dict_get_default (zq X.prog X.w) a (JJ ry) hd r) ⟨_, dd.mapOf, h _ _ (I.tok _) ?_⟩
  rw [l]
  exact (rel.val k).getD rd
 ·subst ey
  cases (show u = Value.ref b from ry)
  obtain ⟨z, hd, xs, rel, dd⟩ := zAc I.hok e
  refine call_meetsIn PySem.F.slot_dict_get dd.typeIs PySem.F.entry_dict_get (PySem.F.args_dict_get_3 _ _ _) (meetsH_dict_get_default (tupleKind (zq X.prog X.w)) a b hd r) ⟨tupleKind_room_in1 hu, k, xs, Jm I.hok eb, dd, h _ _ (I.tok _) ?_⟩
  rw [l]
  exact (rel.val k).getD rd
end
end L2
namespace Att
open PySem PySem.W PySem.Calls PyProof.Rows
theorem zCu {P : Params} {h : Heap} : ∀ (ns : List Int) (vs : List Value), WellAll P h vs (ns.map WData.int) -> IntsAre vs ns := by
 intro ns
 induction ns with
 | nil =>
  intro vs w
  rw [List.map_nil] at w
  cases w
  exact .nil
 | cons n ns ih =>
  intro vs w
  rw [List.map_cons] at w
  cases w with
  | cons a b =>
   cases a
   exact .cons _ _ (ih _ b)
theorem zIn {l : OpenLaw} {n : Nat} (hn : l.most = some n) {P : Params} {h : Heap} {args : List WData} {vals : List Value}
  (hpre : l.row.toRowW.claim.pre args = true) (hwl : WellAll P h vals args) :
  ∃ a vs ns, vals = [Value.ref a] /\ args = [WData.list (ns.map WData.int)] /\ h.get? a = some { cls := .type "list", data := .seq vs.toArray } /\ IntsAre vs ns /\ ns.length <= n := by
 have hsh : WShape.hasAll [] args [.list .int] = true := (pre_splitW hpre).1
 have hc : l.pre.holds [] { args := args } = true := (pre_splitW hpre).2
 obtain ⟨d, r, rfl, h1, h2⟩ := hasAllW_cons hsh
 obtain rfl := hasAllW_nil h2
 obtain ⟨xs, rfl, h3⟩ := hasW_list h1
 obtain ⟨ns, rfl⟩ := items_int h3
 have hlen : ns.length <= n := by
  unfold OpenLaw.pre at hc
  have h4 : (WTm.not (.lt (.lit (.int (n : Int))) (.len (.arg 0)))).holds [] { args := [.list (ns.map .int)] } = true := by
   have h4 := (holds_andW hc).1
   rw [hn] at h4
   exact h4
  have h5 := condW_of h4 (w_not (w_lt w_lit (w_len_list (w_arg rfl))))
  rw [List.length_map] at h5
  refine Nat.le_of_not_lt fun q => ?_
  have q' : (n : Int) < ((ns.length : Nat) : Int) := by omega
  first
   | (rw [decide_eq_true q'] at h5; exact absurd h5 (by decide))
   | (simp at h5; omega)
 cases hwl with
 | cons w1 w2 =>
  cases w2
  cases w1 with
  | list ho hall => exact ⟨_, _, ns, rfl, rfl, ho, zCu ns _ hall, hlen⟩
theorem zIj (l : OpenLaw) (args : List WData) : l.row.toRowW.claim.post args (.bool true) args = true :=
 postW_of (r := l.row.toRowW) (X := (true == true))
  (show WShape.has [] (.bool true) .bool = true by first | rfl | decide | simp [WShape.has, WShape.arms, WShape.armsAll])
  (show (WTm.eq .res (.lit (.bool true))).value [] { args := args, res := some (.bool true), after := args } = some (.bool (true == true)) from w_eq_bool (w_res rfl) w_lit) rfl
theorem zFr {l : OpenLaw} {n : Nat} {q : Program} {loose : List Str} {XP : (Str -> Option Value) -> Heap -> Prop} {YP : World -> Heap -> Prop} {d : DefRec}
  (hn : l.most = some n) (hdf : d.params.defaults = [])
  (call : ∀ (w : World) (s₀ s₁ : Shared) (mg mb : Str -> Option Value) (fa : Addr) (o : Obj) (pm cd doc : Value) (a : Addr) (vs : List Value) (ns : List Int),
   Ground q loose [] XP w s₀ mg mb s₁.heap -> YP w s₁.heap ->
   s₁.heap.get? fa = some o -> o.data = .func (docDef d.name d.params d.body d.scope pm cd doc) -> s₁.heap.CodeRec cd d.name -> mg d.name = some (.ref fa) ->
   s₁.heap.get? a = some { cls := .type "list", data := .seq vs.toArray } -> IntsAre vs ns -> ns.length <= n -> s₁.gens = #[] ->
   codeAny (model l.prog w) callerA (.call (.ref fa) ⟨[.ref a], []⟩) (fun r s' => r = .ok (.ret (.bool true)) /\ OldK s₁.heap s'.heap /\ s'.os = s₁.os /\ AllBare s'.gens) s₁) :
  WalkO q loose XP YP l.row.toRowW d [] (fun f vs => PySem.call f vs) := by
 intro w s₀ s₁ mg mb G Y fa o pm cd doc dV kV ho hd hcd hD hmg hg args vals as hpre hlay hrd hwl hlo
 obtain rfl : dV = .none := Dflts.none hD hdf
 obtain rfl : kV = .none := Dflts.noKw hD
 obtain ⟨a, vs, ns, rfl, rfl, hobj, hints, hlen⟩ := zIn hn hpre hwl
 refine enter_call (codeAny_mono (call w s₀ s₁ mg mb fa o pm cd doc a vs ns G Y ho (fd_plain hd) hcd hmg hobj hints hlen hg) fun r s' hq => ?_)
 obtain ⟨rfl, h2, h3, h4⟩ := hq
 exact ⟨.inl ⟨.bool true, .bool true, [], rfl, fun _ => rfl, .bool true, zIj l _, fun _ => ⟨List.Pairwise.nil, fun _ hm => (nomatch hm)⟩⟩, h2, h3, h4⟩
end Att
namespace L2
open PySem PySem.Spec PyProof.Rows
theorem zDx : ∀ {vs : List Value} {ns : List Int}, IntsAre vs ns -> zf (ns.map V.int) vs
 | _, _, .nil => .nil
 | _, _, .cons n t h => .cons ⟨t, rfl⟩ (zDx h)
def zGt (H : Hp) : Prop := ∀ b, H b = none \/ ∃ o xs, H b = some (.frz o (.lst xs))
theorem zJ7 {P : Program} {w : World} {K : PySem.W.Frag} {mg mb : Str -> Option Value} {CX : CXT} {k : Nat} {fa a : Addr} {fd : FuncData} {x : Str} {sp : Sp} {s₁ : Shared} {vs : List Value} {ns : List Int}
  (KX : K.In s₁.heap) (hns : s₁.heap.Ns mainGlobals mg) (hb : s₁.heap.Ns builtinsNs mb) (hbb : ∀ x : Str, x ≠ "__name__" -> mb x = bootBuiltins x) (hlim : s₁.heap.NoLimit) (hg : s₁.gens = #[])
  (ha : s₁.heap.get? a = some { cls := .type "list", data := .seq vs.toArray }) (hi : IntsAre vs ns) (hl : ns.length <= sizeLine) (hr : jH k callerA)
  (F : ∀ base : Heap, K.In base -> base.Ns mainGlobals mg -> qA P w K mg base CX k fa fd [x] sp) (hT : fd.scope.names.lookup x = some .local) (hbind : ∀ (s : Shared) (u : Value), BindsTo s fd ⟨[u], []⟩ [(x, u)])
  (hsp : ∀ H : Hp, zGt H -> SqL K H a (ns.map V.int) -> sp [.ref a] H (fun v _ => v = .bl true) fun _ _ _ => False)
  (hCX : ∀ H e s', CX [] H s₁ (fun _ _ _ => False) e s' -> False) :
  codeAny (model P w) callerA (.call (.ref fa) ⟨[.ref a], []⟩) (fun r s' => r = .ok (.ret (.bool true)) /\ OldK s₁.heap s'.heap /\ s'.os = s₁.os /\ AllBare s'.gens) s₁ := by
 have rv := zDx hi
 have lenV := hi.length
 have core : ∀ H : Hp, zGt H -> SqL K H a (ns.map V.int) -> HOk P w H s₁.heap -> (∀ b, H b ≠ none -> b = a) -> (H a ≠ none -> K.lookup a = none) ->
   codeAny (model P w) callerA (.call (.ref fa) ⟨[.ref a], []⟩) (fun r s' => r = .ok (.ret (.bool true)) /\ OldK s₁.heap s'.heap /\ s'.os = s₁.os /\ AllBare s'.gens) s₁ := by
  intro H hO hS hok hA hK
  have base_of : ∀ {b : Addr} {o : Obj}, s₁.heap.get? b = some o -> H b = none -> (zAh s₁.heap H).get? b = some o := fun e n => zIx e n
  have noA : ∀ {b : Addr} {o : Obj} {es : Array DictEntry} {ep : Nat}, s₁.heap.get? b = some o -> o.data = .dict es ep -> H b = none := fun {b o es ep} e d => by
   cases q : H b with
   | none => rfl
   | some u =>
    have e' : b = a := hA b (by rw [q]; simp)
    subst e'
    rw [ha] at e; cases e
    have d' : Data.seq vs.toArray _ = Data.dict es ep := d
    cases d'
  have nsK : ∀ {b : Addr} {m : Str -> Option Value}, s₁.heap.Ns b m -> (zAh s₁.heap H).Ns b m := fun {b m} ⟨o, es, ep, e, d, r⟩ => ⟨o, es, ep, base_of e (noA e d), d, r⟩
  have hKb : K.In (zAh s₁.heap H) := fun b o e => base_of (KX b o e) (by
   cases q : H b with
   | none => rfl
   | some u =>
    have e' : b = a := hA b (by rw [q]; simp)
    subst e'
    rw [hK (by rw [q]; simp)] at e; cases e)
  have hM : Mod K mg (zAh s₁.heap H) := ⟨hKb, nsK hns, ⟨mb, nsK hb, hbb⟩, let ⟨mc, h1, h2⟩ := hlim; ⟨mc, nsK h1, h2⟩⟩
  have e0 : zGp P w K mg (zAh s₁.heap H) callerA [] s₁ H := ⟨rfl, hM, fun b o e => zLf e, Nat.le_of_eq (zHr _ _), trivial, fun b hb => absurd (show b ∈ ([] : List Addr) from hb) (by simp), hok, .of_eq hg⟩
  refine codeAny_mono ((F _ hKb (nsK hns)).run callerA [] s₁ H ⟨[.ref a], []⟩ [.ref a] [.ref a] _ _ hr e0 (.inr ⟨x, List.mem_singleton.mpr rfl, hT⟩) (hbind s₁ (.ref a)) (.cons rfl .nil) (hsp H hO hS)) fun r s' h => ?_
  cases r with
  | error e => exact (hCX H e s' h).elim
  | ok fl =>
   cases fl with
   | next => exact False.elim h
   | brk => exact False.elim h
   | cont => exact False.elim h
   | ret u =>
    obtain ⟨v, H', os, bare, un, hok', r', q⟩ := h
    have q' : v = .bl true := q
    subst q'
    obtain rfl : u = Value.bool true := r'
    refine ⟨rfl, OldK.of_keep fun b o e => ?_, os, bare⟩
    cases q : H b with
    | none => exact un.keep b o e q (by intro z; exact absurd (show b ∈ ([] : List Addr) from z) (by simp)) (by simp)
    | some u =>
     rcases hO b with z | ⟨ob, xs, z⟩
     ·rw [q] at z; cases z
     ·have z2 := un.frzs b ob _ z
      obtain ⟨e1, _⟩ := hok b _ z
      obtain ⟨e2, _⟩ := hok' b _ z2
      rw [e] at e1; cases e1
      exact e2
 cases hk : K.lookup a with
 | some o =>
  have e := KX a o hk
  rw [ha] at e
  cases e
  refine core (fun _ => none) (fun _ => .inl rfl) (.inr ⟨_, vs.toArray, _, hk, rfl, rfl, rfl, by rw [List.size_toArray, lenV]; exact hl, by simpa using rv⟩) (fun b u z => by have z' : (none : Option HO) = some u := z; cases z') (fun b z => absurd rfl z) fun z => absurd rfl z
 | none =>
  refine core (fun b => if b = a then some (.frz { cls := .type "list", data := .seq vs.toArray } (.lst (ns.map V.int))) else none) (fun b => ?_) (.inl (.inr ⟨{ cls := .type "list", data := .seq vs.toArray }, if_pos rfl⟩)) (fun b u z => ?_) (fun b z => ?_) fun _ => hk
  ·by_cases hb : b = a
   ·exact .inr ⟨_, _, if_pos hb⟩
   ·exact .inl (if_neg hb)
  ·by_cases hb : b = a
   ·have z' := (if_pos hb).symm.trans z
    cases z'
    subst hb
    exact ⟨ha, by rw [List.length_map]; exact hl, vs, _, rv, ha⟩
   ·have z' := (if_neg hb).symm.trans z
    cases z'
  ·by_cases hb : b = a
   ·exact hb
   ·exact absurd (if_neg hb) z
end L2
namespace L2
open PySem PySem.Spec PyProof.Rows
theorem zLM {l : PySem.W.OpenLaw} {n k : Nat} {q : Program} {loose : List Str} {XP : (Str -> Option Value) -> Heap -> Prop} {YP : World -> Heap -> Prop} {d : DefRec} {K : Params -> PySem.W.Frag} {CX : World -> CXT} {sp : World -> Sp} {x : Str}
  (hn : l.most = some n) (hn2 : n <= sizeLine) (hdf : d.params.defaults = []) (hr : jH k callerA)
  (hY : ∀ (w : World) (h : Heap), YP w h -> (K w.params).In h)
  (F : ∀ (w : World) (mg : Str -> Option Value) (fa : Addr) (h : Heap), (K w.params).In h -> h.Ns mainGlobals mg -> mg d.name = some (.ref fa) ->
   ∃ fd : FuncData, (∀ (s : Shared) (u : Value), BindsTo s fd ⟨[u], []⟩ [(x, u)]) /\ fd.scope.names.lookup x = some .local /\
    ∀ base : Heap, (K w.params).In base -> base.Ns mainGlobals mg -> qA l.prog w (K w.params) mg base (CX w) k fa fd [x] (sp w))
  (hsp : ∀ (w : World) (H : Hp) (a : Addr) (ns : List Int), ns.length <= n -> zGt H -> SqL (K w.params) H a (ns.map V.int) -> sp w [.ref a] H (fun v _ => v = .bl true) fun _ _ _ => False)
  (hCX : ∀ (w : World) (H : Hp) (s : Shared) (e : Value) (s' : Shared), CX w [] H s (fun _ _ _ => False) e s' -> False) :
  PySem.W.WalkO q loose XP YP l.row.toRowW d [] (fun f vs => PySem.call f vs) := by
 refine Att.zFr hn hdf fun w s₀ s₁ mg mb fa o pm cd doc a vs ns G Y ho hd hcd hmg hobj hints hlen hg => ?_
 have KX := hY w _ Y
 obtain ⟨fd, hb, hT, hF⟩ := F w mg fa _ KX G.T.g hmg
 exact zJ7 KX G.T.g G.T.b G.T.builtins G.T.nolimit hg hobj hints (Nat.le_trans hlen hn2) hr hF hT hb (fun H hO hS => hsp w H a ns hlen hO hS) fun H e s' => hCX w H s₁ e s'
end L2
namespace L2
open PySem PySem.Spec PyProof.Rows
def jl (s : Stmt) : Arguments := match s with
 | .FunctionDef _ a _ _ _ _ _ _ _ _ => a
 | _ => { posonlyargs := [], args := [], vararg := none, kwonlyargs := [], kw_defaults := [], kwarg := none, defaults := [] }
def jK (s : Stmt) : List Stmt := match s with
 | .FunctionDef _ _ b _ _ _ _ _ _ _ => b
 | _ => []
def zP (s : Stmt) : Scope := match s with
 | .FunctionDef _ _ _ _ _ _ sc _ _ _ => sc
 | _ => { kind := .function, names := [], isGenerator := false, isCoroutine := false }
abbrev CX0 : CXT := fun _ _ _ _ _ _ => False
abbrev E0 : XK := fun _ _ _ => False
theorem zGZ {X : Cx} : zAS CX0 X E0 := fun _ _ _ _ _ _ _ h => h.elim
structure Fun (K : PySem.W.Frag) (x qual : Str) (st : Stmt) (f : Addr) (fd : FuncData) : Prop where
 ex : ∃ (oc : Value) (od : Option Addr) (kV doc pm : Value) (an : Option Addr) (cdv ct : Value) (osl : Array (Option Value)),
  fd = PySem.W.fnOf x qual (jl st) (jK st) (zP st) .none kV doc pm an cdv ct /\ K.lookup f = some ⟨oc, od, .func fd, osl⟩ /\ PySem.W.codeIn K cdv qual = true
 kp : PySem.W.keepIn K (.ref f) = true
section
variable {P : Program} {w : World} {K : PySem.W.Frag} {mg : Str -> Option Value} {base : Heap}
theorem Fun.ok {x qual : Str} {st : Stmt} {f : Addr} {fd : FuncData} {N ps : List Str} {k : Nat} {sp : Sp} (F : Fun K x qual st f fd) (S : jb N ps (zP st)) (len : ∀ vs H Q E, sp vs H Q E -> vs.length = ps.length)
  (hbody : ∀ (cdv : Value) (A : Around) (outer : List Env) (s : Shared) (H : Hp) (vs : List V) (Q : VK) (E : XK), jH k (A.deeper (envOfC qual (zP st) s.heap.objs.size f cdv)) -> sp vs H Q E ->
   ∃ t, PSs (JT CX0 P w K mg base N qual (zP st) f cdv A outer s H E).nox (jK st) t /\ t { nx := fun _ H' => Q .non H', rt := Q } (start N vs) H) : qA P w K mg base CX0 (k + 1) f fd ps sp := by
 obtain ⟨oc, od, kV, doc, pm, an, cdv, ct, osl, rfl, lk, hcd⟩ := F.ex
 refine zOC lk hcd S len fun A outer s H vs Q E hr hsp => ?_
 obtain ⟨t, h, q⟩ := hbody cdv A outer s H vs Q E hr hsp
 exact ⟨t, h.nox, q⟩
theorem Fun.binds {x qual : Str} {st : Stmt} {f : Addr} {fd : FuncData} {ps : List Str} (F : Fun K x qual st f fd)
  (h : ∀ (kV doc pm : Value) (an : Option Addr) (cdv ct : Value) (us : List Value), us.length = ps.length -> bindArgs (PySem.W.fnOf x qual (jl st) (jK st) (zP st) .none kV doc pm an cdv ct) ⟨us, []⟩ = pure (ps.zip us)) : Js K fd ps [] := by
 obtain ⟨oc, od, kV, doc, pm, an, cdv, ct, osl, rfl, lk, hcd⟩ := F.ex
 exact .all (h kV doc pm an cdv ct)
theorem qz {x qual : Str} {st : Stmt} {f : Addr} {oc : Value} {od an : Option Addr} {osl : Array (Option Value)} {kV doc pm cdv ct : Value} (l : K.lookup f = some ⟨oc, od, .func (PySem.W.fnOf x qual (jl st) (jK st) (zP st) .none kV doc pm an cdv ct), osl⟩)
  (c : PySem.W.codeIn K cdv qual = true) (k : PySem.W.keepIn K (.ref f) = true) : Fun K x qual st f (PySem.W.fnOf x qual (jl st) (jK st) (zP st) .none kV doc pm an cdv ct) := ⟨⟨oc, od, kV, doc, pm, an, cdv, ct, osl, rfl, l, c⟩, k⟩
end
theorem zCY {A : Around} {k : Nat} (hr : jH k A) : A.units + 1 < cLine := Nat.lt_of_le_of_lt (Nat.add_le_add_left (by decide : 1 <= 64) _) hr.units
theorem zBq {A B : Prop} (h : B) : if false = true then A else B := by
 rw [if_neg Bool.false_ne_true]
 exact h
theorem zBf {A B : Prop} (h : A) : if true = true then A else B := by
 rw [if_pos rfl]
 exact h
end L2
namespace L2
open PySem PySem.Spec PyProof.Rows
section
variable {X : Cx}
theorem zIA : qF X (.builtin "len") (fun xs H Q => ∃ a kvs, xs = [V.ref a] /\ H a = some (.dK kvs) /\ Q (.int kvs.length) H) := by
 intro pins s σ H xs us Q I r h
 obtain ⟨a, kvs, rfl, ha, q⟩ := h
 obtain ⟨u, rfl, ru⟩ := Z6 r
 cases ru
 exact zNd I (.inl ha) fun t s' I' => ⟨.int kvs.length, H, I', ⟨t, rfl⟩, q⟩
end
end L2
set_option maxHeartbeats 4000000
namespace L2
open PySem PySem.Spec PyProof.Rows
abbrev zr (X : Cx) (vars : List Str) (scope : Scope) (cl : List (Str × Addr)) (C : Addr) (fp : List Addr) (s₂ : Shared) (H₂ : Hp) : Cx where
 prog := X.prog
 w := X.w
 K := X.K
 mg := X.mg
 base := X.base
 A := X.A
 N := X.N ++ vars
 s₀ := s₂
 H₀ := H₂
 env := compEnvC scope cl C X.env
 outer := X.stack
 stack := X.stack
 ex := fp
 fn := fun _ => false
 calm := X.calm
 pn := []
 xe := fun _ _ => False
def zAQ (cells : List (Str × Addr)) : List (Str × Addr) -> Prop
 | [] => True
 | p :: r => cells.lookup p.1 = some p.2 /\ zAQ cells r
theorem zAQ.get {cells : List (Str × Addr)} : ∀ {cl : List (Str × Addr)} {x : Str} {c : Addr}, zAQ cells cl -> cl.lookup x = some c -> cells.lookup x = some c
 | [], _, _, _, e => by simp at e
 | (y, d) :: r, x, c, h, e => by
  cases hx : x == y with
  | true =>
   simp only [List.lookup_cons, hx] at e
   have e1 : x = y := eq_of_beq hx
   subst e1
   rw [<- e]
   exact h.1
  | false =>
   simp only [List.lookup_cons, hx] at e
   exact zAQ.get h.2 e
def okK (on : List (Str × NameKind)) (vars : List Str) (cl : List (Str × Addr)) (x : Str) : NameKind -> Bool
 | .local => x == (".0" : Str) || vars.contains x
 | .cell => false
 | .free => (cl.lookup x).isSome && (on.lookup x == some .cell || on.lookup x == some .free)
 | _ => true
structure jX (X : Cx) (vars : List Str) (scope : Scope) (cl : List (Str × Addr)) : Prop where
 kind : scope.kind = .function
 clos : closureFor scope X.env = pure cl
 dis : (vars.all fun x => !X.N.contains x) = true
 zero : X.N.contains (".0" : Str) = false
 names : ∀ y ∈ scope.names, y.2 = .local -> scope.names.lookup y.1 = some .local
 cells : zAQ X.env.cells cl
 ok : (scope.names.all fun p => okK X.env.scope.names vars cl p.1 p.2) = true
theorem Qm {env : Env} {x : Str} : ∀ {names : List (Str × NameKind)},
  (names.map fun (n, k) => if (k == NameKind.free && env.scope.kind == .function && env.kindOf n == some .cell) then (n, NameKind.cell) else (n, k)).lookup x =
   (names.lookup x).map fun k => if (k == NameKind.free && env.scope.kind == .function && env.kindOf x == some .cell) then NameKind.cell else k
 | [] => rfl
 | (n, k) :: r => by
  have ih := @Qm env x r
  show List.lookup x ((if (k == NameKind.free && env.scope.kind == .function && env.kindOf n == some .cell) = true then (n, NameKind.cell) else (n, k)) :: _) = _
  cases hx : x == n with
  | true =>
   have e : x = n := eq_of_beq hx
   subst e
   by_cases hc : (k == NameKind.free && env.scope.kind == .function && env.kindOf x == some .cell) = true
   ·rw [if_pos hc]; simp only [List.lookup_cons, hx, Option.map_some, if_pos hc]
   ·rw [if_neg hc]; simp only [List.lookup_cons, hx, Option.map_some, if_neg hc]
  | false =>
   by_cases hc : (k == NameKind.free && env.scope.kind == .function && env.kindOf n == some .cell) = true
   ·rw [if_pos hc]; simp only [List.lookup_cons, hx]; exact ih
   ·rw [if_neg hc]; simp only [List.lookup_cons, hx]; exact ih
section
variable {X : Cx} {vars : List Str} {scope : Scope} {cl : List (Str × Addr)} {C D : Addr} {fp : List Addr} {s₂ : Shared} {H : Hp} {pins : List (Addr × Obj)} {σ : St}
theorem jX.okAt (S : jX X vars scope cl) {x : Str} {k : NameKind} (h : scope.names.lookup x = some k) : okK X.env.scope.names vars cl x k = true := by
 have := List.all_eq_true.mp S.ok (x, k) (PySem.mem_of_lookup h)
 exact this
theorem jX.noCell (S : jX X vars scope cl) : ∀ y ∈ scope.names, y.2 ≠ .cell := fun y hy e => by
 have h := List.all_eq_true.mp S.ok y hy
 rw [e] at h
 exact absurd (show false = true from h) Bool.false_ne_true
theorem jX.freeOf (S : jX X vars scope cl) {x : Str} (h : (compEnvC scope cl C X.env).kindOf x = some .cell \/ (compEnvC scope cl C X.env).kindOf x = some .free) : scope.names.lookup x = some .free := by
 have e : (compEnvC scope cl C X.env).kindOf x = (scope.names.lookup x).map fun k => if (k == NameKind.free && X.env.scope.kind == .function && X.env.kindOf x == some .cell) then NameKind.cell else k := Qm
 rw [e] at h
 cases q : scope.names.lookup x with
 | none => rw [q] at h; simp at h
 | some k =>
  rw [q] at h
  by_cases hk : k = .free
  ·rw [hk]
  ·have hb : (k == NameKind.free) = false := by simpa using hk
   simp only [Option.map_some, hb, Bool.false_and, Bool.false_eq_true, if_false, Option.some.injEq] at h
   rcases h with h | h
   ·subst h
    exact absurd rfl (S.noCell (x, .cell) (PySem.mem_of_lookup q))
   ·exact absurd h hk
theorem jX.localOf (S : jX X vars scope cl) {x : Str} (h : (compEnvC scope cl C X.env).kindOf x = some .local) : scope.names.lookup x = some .local := by
 have e : (compEnvC scope cl C X.env).kindOf x = (scope.names.lookup x).map fun k => if (k == NameKind.free && X.env.scope.kind == .function && X.env.kindOf x == some .cell) then NameKind.cell else k := Qm
 rw [e] at h
 cases q : scope.names.lookup x with
 | none => rw [q] at h; simp at h
 | some k =>
  rw [q] at h
  simp only [Option.map_some, Option.some.injEq] at h
  split at h
  ·cases h
  ·rw [h]
theorem zG9 (I : Inv X pins σ H s₂) (S : jX X vars scope cl) (hf : ∀ b ∈ fp, JA X pins H b) (hob : ∀ b ∈ fp, ∃ o, s₂.heap.get? b = some o)
  {h₁ : Heap} {tk : Nat} (hD : s₂.heap.objs.size <= D) (hC : s₂.heap.objs.size <= C) (hDC : D ≠ C) {oD : Obj} (eD : h₁.get? D = some oD) (cD : ∀ v, oD.data ≠ .cell v) {m : Str -> Option Value} (hn : h₁.Ns C m)
  (old : ∀ b o, s₂.heap.get? b = some o -> h₁.get? b = some o) (ht : 0 < tk := by first | exact Nat.succ_pos _ | assumption | exact Inv.tk (by assumption) | omega) :
  Inv (zr X vars scope cl C fp s₂ H) [(D, oD)] (σ ++ List.replicate vars.length none) H { s₂ with heap := h₁, toks := tk } := by
 have fpst : ∀ b ∈ fp, b ∉ frs X.stack := fun b hb z => by
  rcases List.mem_cons.mp (I.stkSub b z) with e | e
  ·exact (hf b hb).2.1 e
  ·exact (hf b hb).2.2.1 e
 have cget : ∀ x c, cl.lookup x = some c -> X.env.cells.lookup x = some c := fun x c e => S.cells.get e
 have fpl : ∀ b ∈ fp, b < s₂.heap.objs.size := fun b hb => by
  obtain ⟨o, e⟩ := hob b hb
  exact Heap.lt_size e
 have ok : (zr X vars scope cl C fp s₂ H).Ok := by
  refine ⟨I.ok.mod, S.kind, I.ok.glob, I.ok.blt, hC, fun x y c h1 h2 => I.ok.inj x y c (cget x c h1) (cget y c h2), fun x hx => ?_, fun x c h _ => absurd (show false = true from h) Bool.false_ne_true, I.ok.hd, I.ok.frames, .inl rfl,
   fun b hb => ⟨Nat.ne_of_lt (Nat.lt_of_lt_of_le (fpl b hb) hC), fun x c e z => (hf b hb).2.2.2.2.1 x c (cget x c e) z⟩, I.bs, Nat.le_trans I.ok.bsz I.sz, fun b o e hb => ?_, fpst, I.stack, I.stkFree⟩
  ·have q := S.okAt (S.freeOf (C := C) hx)
   have q1 : ((cl.lookup x).isSome && (X.env.scope.names.lookup x == some .cell || X.env.scope.names.lookup x == some .free)) = true := q
   rw [Bool.and_eq_true] at q1
   exact Option.isSome_iff_exists.mp q1.1
  ·rcases (hf b hb).2.2.2.1 with z | z
   ·exact I.ok.noex b o e z
   ·exact absurd (Nat.lt_of_lt_of_le (Heap.lt_size e) (Nat.le_trans I.ok.bsz z)) (Nat.lt_irrefl _)
 have nst : D ∉ frs X.stack := fun z => by
  rcases List.mem_cons.mp (I.stkSub D z) with e | e
  ·exact absurd (Nat.lt_of_lt_of_le (e ▸ I.lt) hD) (Nat.lt_irrefl _)
  ·exact I.nofs hD e
 refine ⟨ok, rfl, I.bare, Un.kept old, ⟨m, hn, fun i x v h1 h2 h3 => ?_⟩, fun x c e => ?_, I.hok.fresh hC, fun x c e => I.freeC x c (cget x c e), fun p hp => ?_, I.hok.kept old, ?_, ht⟩
 ·have hlen := I.len
  have h1' : (X.N ++ vars)[i]? = some x := h1
  by_cases hi : i < σ.length
  ·rw [List.getElem?_append_left (by omega)] at h1'
   rw [List.getElem?_append_left hi] at h2
   have inN : X.N.contains x = true := by
    rw [List.contains_iff_exists_mem_beq]
    exact ⟨x, List.mem_of_getElem? h1', by simp⟩
   have hk : (compEnvC scope cl C X.env).kindOf x = some .cell \/ (compEnvC scope cl C X.env).kindOf x = some .free := by
    rcases h3 with h3 | h3
    ·have q := S.okAt (S.localOf (C := C) h3)
     have q1 : (x == (".0" : Str) || vars.contains x) = true := q
     rw [Bool.or_eq_true] at q1
     rcases q1 with q1 | q1
     ·have e0 : x = (".0" : Str) := eq_of_beq q1
      rw [e0, S.zero] at inN
      cases inN
     ·have q2 := List.all_eq_true.mp S.dis x (by simpa using q1)
      rw [inN] at q2
      cases q2
    ·exact h3
   have q := S.okAt (S.freeOf (C := C) hk)
   have q1 : ((cl.lookup x).isSome && (X.env.scope.names.lookup x == some .cell || X.env.scope.names.lookup x == some .free)) = true := q
   rw [Bool.and_eq_true, Bool.or_eq_true] at q1
   obtain ⟨c, hc⟩ := Option.isSome_iff_exists.mp q1.1
   have ho : X.env.scope.names.lookup x = some .cell \/ X.env.scope.names.lookup x = some .free := by
    rcases q1.2 with z | z
    ·exact .inl (eq_of_beq z)
    ·exact .inr (eq_of_beq z)
   obtain ⟨m0, _, hl⟩ := I.loc
   obtain ⟨u, r, l⟩ := hl i x v h1' h2 (.inr ho)
   refine ⟨u, r, .inr ⟨hk, c, hc, ?_⟩⟩
   rcases l with ⟨l1, _⟩ | ⟨_, c', e', o, eo, ed⟩
   ·have l2 : X.env.scope.names.lookup x = some .local := l1
    rcases ho with z | z
    ·rw [l2] at z; cases z
    ·rw [l2] at z; cases z
   ·rw [cget x c hc] at e'
    cases e'
    exact ⟨o, old _ _ eo, ed⟩
  ·rw [List.getElem?_append_right (by omega), List.getElem?_replicate] at h2
   split at h2 <;> cases h2
 ·obtain ⟨v, o, eo, ed⟩ := I.cell x c (cget x c e)
  exact ⟨v, o, old _ _ eo, ed⟩
 ·have e : p = (D, oD) := by simpa using hp
  subst e
  exact ⟨eD, I.hok.fresh hD, hDC, nst, cD⟩
 ·show (σ ++ List.replicate vars.length none).length = (X.N ++ vars).length
  rw [List.length_append, List.length_append, List.length_replicate, I.len]
end
def QW (X : Cx) (ifs : List Expr) (t : TT) : Prop :=
 ∀ (pins : List (Addr × Obj)) (s : Shared) (σ : St) (H : Hp) (Q : Bool -> Hp -> Prop), Inv X pins σ H s -> t σ H Q ->
  wpAny (model X.prog X.w) X.A (forIn ifs true fun c r => if r = true then do let ok <- isTrue c X.env (eval c X.env); pure (ForInStep.yield ok) else pure (ForInStep.yield r)) (TP X pins σ Q) X.xe s
def j9 : TT := fun _ H Q => Q true H
theorem zJ8 {X : Cx} : QW X [] j9 := fun _ _ _ H _ I h => wpAny_tests_nil ⟨H, I, h⟩
theorem zJ0 {X : Cx} {c : Expr} {t : TT} (h : PT X c t) : QW X [c] t := fun pins s σ H Q I hw => wpAny_tests_one (h pins s σ H Q I hw)
def Wk (σ σ' : St) : Prop := σ.length = σ'.length /\ ∀ (i : Nat) v, σ[i]? = some (some v) -> σ'[i]? = some (some v)
def zGd (n : Nat) (wi : TI) (g : TG) (ti : TT) (te : TE) : TE := fun σ H Q => wi σ H fun J H1 => ∃ W : Nat -> Nat -> List V -> Hp -> Prop, (∃ m, W 0 m [] H1) /\ ∀ i m ys H2, W i m ys H2 -> ys.length <= sizeLine /\
 ((J.stop i H2 /\ ∀ D, H2 D = none -> Q (.ref D) (upd H2 D (.lst ys))) \/
  (J.go i H2 /\ ∀ x H3, J.yld i H2 x H3 -> g x (σ ++ List.replicate n none) H3 fun σ2 H4 => Wk (σ ++ List.replicate n none) σ2 /\ ti σ2 H4 fun b H5 =>
   if b = true then te σ2 H5 fun y H6 => ∃ m', m' < m /\ W (i + 1) m' (ys ++ [y]) H6 else ∃ m', m' < m /\ W (i + 1) m' ys H5))
theorem Inv.track {X : Cx} {pins : List (Addr × Obj)} {σ : St} {H : Hp} {s : Shared} {D : Addr} {o : HO} (I : Inv X pins σ H s) (hD : X.s₀.heap.objs.size <= D) (hn : H D = none) (hL : D ≠ X.env.locals)
  (hcl : ∀ x c, X.env.cells.lookup x = some c -> c ≠ D) (hp : ∀ p ∈ X.pn ++ pins, p.1 ≠ D) (new : jV X.prog X.w (upd H D o) s.heap D o) : Inv X pins σ (upd H D o) s := by
 have ne : ∀ {b u}, H b = some u -> b ≠ D := fun e z => by rw [z, hn] at e; cases e
 refine ⟨I.ok, I.os, I.bare, ⟨I.base.keep, I.base.slot, fun b ob e n hx => ?_, I.base.there, fun b xs e => ?_, fun b ob u e => ?_, fun b ps e => ?_⟩, I.loc, I.cell, ?_, fun x c e => ?_, fun p hp' => ?_, fun b u e => ?_, I.len, I.tk⟩
 ·rw [zT (Nat.ne_of_lt (Nat.lt_of_lt_of_le (Heap.lt_size e) hD))]
  exact I.base.free b ob e n hx
 ·have q := I.base.tups b xs e
  rw [zT (ne q)]; exact q
 ·have q := I.base.frzs b ob u e
  rw [zT (ne q)]; exact q
 ·obtain ⟨mo, q⟩ := I.base.tbls b ps e
  exact ⟨mo, by rw [zT (ne q)]; exact q⟩
 ·rw [zT (Ne.symm hL)]; exact I.free
 ·rw [zT (hcl x c e)]; exact I.freeC x c e
 ·obtain ⟨e1, e2, e3, e4, e5⟩ := I.pin p hp'
  exact ⟨e1, by rw [zT (hp p hp')]; exact e2, e3, e4, e5⟩
 ·by_cases hb : b = D
  ·subst hb; rw [z6] at e; cases e; exact new
  ·rw [zT hb] at e
   exact (I.hok b u e).stay (fun _ _ _ q => q) (fun c q => by rw [zT (ne q)]; exact q) fun c xs q => by rw [zT (ne q)]; exact q
abbrev zAf (us : List Value) (n : Nat) : Obj := { cls := .type "list", data := .seq us.toArray n }
section
variable {X : Cx} {vars : List Str} {scope : Scope} {cl : List (Str × Addr)} {C D it : Addr} {fp : List Addr} {s₂ : Shared} {H₂ : Hp} {tg elt iter : Expr} {ifs : List Expr} {pos : Pos} {J : It} {tn : Nat -> Heap -> Prop}
 {g : TG} {ti : TT} {te : TE} {R : Result -> Shared -> Prop}
theorem zIu (hc : X.calm = true) (T : zAG X.prog X.w X.K tg J fp it tn) (hg : PG (zr X vars scope cl C fp s₂ H₂) tg g) (hi : QW (zr X vars scope cl C fp s₂ H₂) ifs ti) (he : PE (zr X vars scope cl C fp s₂ H₂) elt te)
  {σ0 : St} (W : Nat -> Nat -> List V -> Hp -> Prop) {F : List V -> Hp -> Prop} (hD0 : s₂.heap.objs.size <= D) (hDC : D ≠ C) (hDs : D ∉ frs X.stack) (hDc : ∀ x c, cl.lookup x = some c -> c ≠ D)
  (hS : ∀ b ∈ fp, b ≠ C /\ b ∉ frs X.stack /\ (∀ x c, cl.lookup x = some c -> c ≠ b) /\ D ≠ b)
  (turn : ∀ i m ys H2, W i m ys H2 -> ys.length <= sizeLine /\ ((J.stop i H2 /\ F ys H2) \/
   (J.go i H2 /\ ∀ x H3, J.yld i H2 x H3 -> g x σ0 H3 fun σ2 H4 => Wk σ0 σ2 /\ ti σ2 H4 fun b H5 =>
    if b = true then te σ2 H5 fun y H6 => ∃ m', m' < m /\ W (i + 1) m' (ys ++ [y]) H6 else ∃ m', m' < m /\ W (i + 1) m' ys H5)))
  (hR : ∀ s' ys us n H2, Inv (zr X vars scope cl C fp s₂ H₂) [(D, zAf us n)] σ0 H2 s' -> zf ys us -> ys.length <= sizeLine -> F ys H2 -> R (.ok .next) s')
  {s : Shared} {m0 : Nat} {n0 : Nat} {H0 : Hp} (I0 : Inv (zr X vars scope cl C fp s₂ H₂) [(D, zAf [] n0)] σ0 H0 s) (st0 : tn 0 s.heap) (f0 : ∀ b ∈ fp, H0 b = none) (w0 : W 0 m0 [] H0) :
  codeAny (model X.prog X.w) X.A (.compLoop (.ListComp elt [⟨tg, iter, ifs, 0⟩] scope pos) 0 (.ref it) (.ref D) (compEnvC scope cl C X.env)) R s := by
 have stat : ∀ {H' : Hp} {o : Obj}, (∀ b ∈ fp, H' b = none) -> ∀ b ∈ fp, JA (zr X vars scope cl C fp s₂ H₂) [(D, o)] H' b := fun {H' o} hn b hb =>
  ⟨hn b hb, (hS b hb).1, (hS b hb).2.1, .inl hb, (hS b hb).2.2.1, fun p hp => by
   have e : p = (D, o) := by simpa using hp
   subst e
   exact (hS b hb).2.2.2⟩
 refine codeAny_loop rfl (fun n s => ∃ i ys us nn H', Inv (zr X vars scope cl C fp s₂ H₂) [(D, zAf us nn)] σ0 H' s /\ zf ys us /\ tn i s.heap /\ (∀ b ∈ fp, H' b = none) /\ W i n ys H') (fun n s hI => ?_) m0 ⟨0, [], [], n0, H0, I0, .nil, st0, f0, w0⟩
 show wpAny _ X.A ((compTurn (.ListComp elt [⟨tg, iter, ifs, 0⟩] scope pos) 0 (.ref it) (.ref D) (compEnvC scope cl C X.env)).onRaise (fun x => do noteFrame x (compEnvC scope cl C X.env); theTreesLotGoes x)) _ _ s
 refine wpAny_noted ?_
 rw [compTurn_list]
 obtain ⟨i, ys, us, nn, H', I, rv, st, fr, w⟩ := hI
 obtain ⟨hz, tt⟩ := turn i n ys H' w
 refine wpAny_bind (wpAny_standAt (wpAny_bind ?_))
 rcases tt with ⟨stop, q⟩ | ⟨go, q⟩
 ·refine wpAny_mono (T.done (zr X vars scope cl C fp s₂ H₂) rfl rfl rfl hc i _ s σ0 H' _ I (stat fr) st stop) (fun r s1 ⟨hr, I1⟩ => ?_) (fun _ _ e => e)
  subst hr
  exact wpAny_pure (hR s1 ys us nn H' I1 rv hz q)
 ·refine wpAny_mono (T.item (zr X vars scope cl C fp s₂ H₂) rfl rfl rfl hc i _ s σ0 H' _ I (stat fr) st go) (fun r s1 ⟨u, hr, h1⟩ => ?_) (fun _ _ e => e)
  subst hr
  refine wpAny_bind (wpAny_mono h1 (fun _ s2 ⟨x, H3, I3, r3, y3, st3, fr3⟩ => ?_) (fun _ _ e => e))
  have I3' := I3.pinned (stat fr3) (T.obj _ _ st3)
  refine wpAny_bind (wpAny_mono (hg _ s2 σ0 H3 x u _ I3' r3 (q x H3 y3)) (fun _ s3 ⟨σ4, H4, I4, wk, q4⟩ => ?_) (fun _ _ f => False.elim f))
  refine wpAny_bind (wpAny_mono (hi _ s3 σ4 H4 _ I4 q4) (fun b s4 ⟨H5, I5, q5⟩ => ?_) (fun _ _ f => False.elim f))
  have back : ∀ {s7 : Shared} {H7 : Hp} {o : Obj}, Inv (zr X vars scope cl C fp s₂ H₂) ((D, o) :: Zs fp s2.heap) σ4 H7 s7 -> tn (i + 1) s7.heap /\ ∀ b ∈ fp, H7 b = none := fun {s7 H7 o} I7 => by
   refine ⟨T.keep _ _ _ st3 fun b hb ob e => (I7.pin (b, ob) (List.mem_append_right _ (List.mem_cons_of_mem _ (JE hb e)))).1, fun b hb => ?_⟩
   obtain ⟨ob, e, d⟩ := T.obj _ _ st3 b hb
   exact (I7.pin (b, ob) (List.mem_append_right _ (List.mem_cons_of_mem _ (JE hb e)))).2.1
  have one : ∀ {s7 : Shared} {H7 : Hp} {o : Obj}, Inv (zr X vars scope cl C fp s₂ H₂) ((D, o) :: Zs fp s2.heap) σ4 H7 s7 -> Inv (zr X vars scope cl C fp s₂ H₂) [(D, o)] σ0 H7 s7 := fun {s7 H7 o} I7 =>
   (I7.pins_of (pins' := [(D, o)]) fun p hp => by
    have e : p = (D, o) := by simpa using hp
    subst e
    exact I7.pin (D, o) (List.mem_append_right _ List.mem_cons_self)).weak wk.1 wk.2
  cases b with
  | false =>
   obtain ⟨m', hm, w'⟩ := q5
   obtain ⟨b1, b2⟩ := back I5
   exact wpAny_pure ⟨rfl, m', hm, i + 1, ys, us, nn, H5, one I5, rv, b1, b2, w'⟩
  | true =>
   refine wpAny_bind (wpAny_bind (wpAny_mono (he _ s4 σ4 H5 _ I5 q5) (fun v s5 ⟨y, H6, I6, r6, q6⟩ => ?_) (fun _ _ f => False.elim f)))
   obtain ⟨m', hm, w'⟩ := q6
   obtain ⟨eD, nD, _, _, _⟩ := I6.pin (D, zAf us nn) (List.mem_append_right _ List.mem_cons_self)
   have hul : us.toArray.size <= sizeLine := by rw [List.size_toArray, <- rv.length]; exact hz
   refine wpAny_bind (wpAny_list_append_plain (hsz := hul) ⟨nn, eD⟩ fun h' hp hs => wpAny_pure (wpAny_pure ⟨rfl, ?_⟩))
   obtain ⟨n', hp⟩ := hp
   have hp' : h'.get? D = some (zAf (us ++ [v]) n') := by rw [hp]; simp
   have I7 : Inv (zr X vars scope cl C fp s₂ H₂) (Zs fp s2.heap) σ4 H6 { s5 with heap := h', toks := s5.toks } := by
    refine Inv.turned (it := D) (I6.pins_of (pins' := Zs fp s2.heap) fun p hp => I6.pin p (List.mem_append_right _ (List.mem_cons_of_mem _ hp))) (fun b o hb e => (hs.2 b hb).trans e) nD hDC (.inr hD0) (fun x c e => hDc x c e) fun p hp => ?_
    have hp2 : p ∈ Zs fp s2.heap := by simpa using hp
    exact Ne.symm (hS p.1 (zDk hp2).1).2.2.2
   have I8 : Inv (zr X vars scope cl C fp s₂ H₂) ((D, zAf (us ++ [v]) n') :: Zs fp s2.heap) σ4 H6 { s5 with heap := h', toks := s5.toks } := I7.pins_of fun p hp => by
    rcases List.mem_cons.mp hp with rfl | hp
    ·exact ⟨hp', nD, hDC, hDs, fun v z => by cases z⟩
    ·exact I7.pin p (List.mem_append_right _ hp)
   obtain ⟨b1, b2⟩ := back I8
   exact ⟨m', hm, i + 1, ys ++ [y], us ++ [v], n', H6, one I8, rv.append (.cons r6 .nil), b1, b2, w'⟩
end
section
variable {X : Cx} {vars : List Str} {scope : Scope} {cl : List (Str × Addr)} {tg elt iter : Expr} {ifs : List Expr} {pos : Pos} {wi : TI} {g : TG} {ti : TT} {te : TE}
theorem zCN (hc : X.calm = true) (S : jX X vars scope cl) (hg : ∀ C fp s₂ H₂, PG (zr X vars scope cl C fp s₂ H₂) tg g) (ht : ∀ C fp s₂ H₂, QW (zr X vars scope cl C fp s₂ H₂) ifs ti)
  (he : ∀ C fp s₂ H₂, PE (zr X vars scope cl C fp s₂ H₂) elt te) {pins : List (Addr × Obj)} {σ : St} {s2 : Shared} {E : Value -> Shared -> Prop} {F : Addr -> Hp -> Prop} {RR : Value -> Addr -> Result -> Shared -> Prop} {itv : Value}
  (h2 : PIE X pins σ tg (fun J H1 => ∃ W : Nat -> Nat -> List V -> Hp -> Prop, (∃ m, W 0 m [] H1) /\ ∀ i m ys H2, W i m ys H2 -> ys.length <= sizeLine /\
   ((J.stop i H2 /\ ∀ D, H2 D = none -> F D (upd H2 D (.lst ys))) \/
    (J.go i H2 /\ ∀ x H3, J.yld i H2 x H3 -> g x (σ ++ List.replicate vars.length none) H3 fun σ2 H4 => Wk (σ ++ List.replicate vars.length none) σ2 /\ ti σ2 H4 fun b H5 =>
     if b = true then te σ2 H5 fun y H6 => ∃ m', m' < m /\ W (i + 1) m' (ys ++ [y]) H6 else ∃ m', m' < m /\ W (i + 1) m' ys H5))) itv s2)
  (hRR : ∀ D C s' H', (∃ m, s'.heap.Ns C m) -> C ≠ X.env.locals -> (∀ x c, X.env.cells.lookup x = some c -> c ≠ C) -> Inv X pins σ H' s' -> (∀ (h' : Heap), Heap.SameBut C s'.heap h' -> ∀ (s'' : Shared), s'' = { s' with heap := h' } -> Inv X pins σ H' s'') ->
   (∀ (σ' : St) (s3 : Shared), Inv X pins σ' H' s3 -> (∃ a, Heap.SameBut a s'.heap s3.heap /\ (a = X.env.locals \/ ∃ x, X.env.cells.lookup x = some a)) -> ∀ (h' : Heap), Heap.SameBut C s3.heap h' -> Inv X pins σ' H' { s3 with heap := h' }) ->
   F D H' -> RR (.ref D) C (.ok .next) s') :
  wpAny (model X.prog X.w) X.A (newList []) (fun acc s₃ => wpAny (model X.prog X.w) X.A (newFunctionEnv scope X.env.globals cl [] X.env.qual none .none (some X.env)) (fun cenv s₄ =>
   codeAny (model X.prog X.w) X.A (.compStart (.ListComp elt [⟨tg, iter, ifs, 0⟩] scope pos) 0 itv acc { cenv with scope := relabel scope X.env }) (RR acc cenv.locals) s₄) E s₃) E s2 := by
 obtain ⟨it, fp, tn, J, H2, e, I2, T, st2, f2, W, ⟨m0, w0⟩, turn⟩ := h2
 subst e
 refine wpAny_newObj_type (wpAny_newFunctionEnv S.noCell (by intro y hy; simp at hy) (fun h₁ hns₁ hsb₁ => ?_) S.kind)
 dsimp only at hns₁ hsb₁ ⊢
 generalize hH2 : s2.heap.push { cls := .type "list", dict := none, data := .seq ([] : List Value).toArray } = P2 at hns₁ hsb₁ ⊢
 have hC : P2.objs.size = s2.heap.objs.size + 1 := by rw [<- hH2, Heap.size_push]
 have hDC : s2.heap.objs.size ≠ P2.objs.size := by rw [hC]; exact Nat.ne_of_lt (Nat.lt_succ_self _)
 have hCle : s2.heap.objs.size <= P2.objs.size := by rw [hC]; exact Nat.le_succ _
 have below : ∀ b, b < s2.heap.objs.size -> b ≠ P2.objs.size /\ b ≠ s2.heap.objs.size := fun b hb => ⟨by rw [hC]; exact Nat.ne_of_lt (Nat.lt_succ_of_lt hb), Nat.ne_of_lt hb⟩
 have old : ∀ b o, s2.heap.get? b = some o -> h₁.get? b = some o := fun b o e => hsb₁.extBut b o (below b (Heap.lt_size e)).1 (Heap.get?_push_of_some _ (hH2 ▸ Heap.get?_push_of_some _ e))
 have hacc : h₁.get? s2.heap.objs.size = some (zAf [] 0) := hsb₁.extBut _ _ hDC (Heap.get?_push_of_some _ (hH2 ▸ Heap.get?_push_size _ rfl))
 have hst₁ : tn 0 h₁ := T.keep _ _ _ st2 fun b _ o e => old b o e
 have hob : ∀ b ∈ fp, ∃ o, s2.heap.get? b = some o := fun b hb => by
  obtain ⟨o, e, _⟩ := T.obj _ _ st2 b hb
  exact ⟨o, e⟩
 have fpl : ∀ b ∈ fp, b < s2.heap.objs.size := fun b hb => by
  obtain ⟨o, e⟩ := hob b hb
  exact Heap.lt_size e
 have cget : ∀ x c, cl.lookup x = some c -> X.env.cells.lookup x = some c := fun x c e => S.cells.get e
 have celt : ∀ x c, X.env.cells.lookup x = some c -> c < s2.heap.objs.size := fun x c e => by
  obtain ⟨v, q⟩ := I2.cell x c e
  exact q.lt
 have pint : ∀ p ∈ X.pn ++ pins, p.1 < s2.heap.objs.size := fun p hp => Heap.lt_size (I2.pin p hp).1
 have fpst : ∀ b ∈ fp, b ∉ frs X.stack := fun b hb z => by
  rcases List.mem_cons.mp (I2.stkSub b z) with e | e
  ·exact (f2 b hb).2.1 e
  ·exact (f2 b hb).2.2.1 e
 have nst : s2.heap.objs.size ∉ frs X.stack := fun z => by
  rcases List.mem_cons.mp (I2.stkSub _ z) with e | e
  ·exact absurd (e ▸ I2.lt) (Nat.lt_irrefl _)
  ·exact I2.nofs (Nat.le_refl _) e
 have CL : P2.objs.size ≠ X.env.locals := fun z => absurd (Nat.lt_of_lt_of_le (z ▸ I2.lt) hCle) (Nat.lt_irrefl _)
 have CC : ∀ x c, X.env.cells.lookup x = some c -> c ≠ P2.objs.size := fun x c e => Nat.ne_of_lt (Nat.lt_of_lt_of_le (celt x c e) hCle)
 have CP : ∀ p ∈ X.pn ++ pins, p.1 ≠ P2.objs.size := fun p hp => Nat.ne_of_lt (Nat.lt_of_lt_of_le (pint p hp) hCle)
 have loop : ∀ s₃ : Shared, s₃ = { s2 with heap := h₁, toks := s2.toks + ([] : List (Str × Value)).length } ->
   codeAny (model X.prog X.w) X.A (.compLoop (.ListComp elt [⟨tg, iter, ifs, 0⟩] scope pos) 0 (.ref it) (.ref s2.heap.objs.size) (compEnvC scope cl P2.objs.size X.env)) (RR (.ref s2.heap.objs.size) P2.objs.size) s₃ := by
  rintro s₃ rfl
  have I0 : Inv (zr X vars scope cl P2.objs.size fp s2 H2) [(s2.heap.objs.size, zAf [] 0)] (σ ++ List.replicate vars.length none) H2 { s2 with heap := h₁, toks := s2.toks + ([] : List (Str × Value)).length } :=
   zG9 I2 S f2 hob (Nat.le_refl _) hCle hDC hacc (fun v z => by cases z) hns₁ old
  refine zIu hc T (hg _ _ _ _) (ht _ _ _ _) (he _ _ _ _) (D := s2.heap.objs.size) W (F := fun ys H' => ∀ D, H' D = none -> F D (upd H' D (.lst ys))) (Nat.le_refl _) hDC nst (fun x c e => Nat.ne_of_lt (celt x c (cget x c e)))
   (fun b hb => ⟨(below b (fpl b hb)).1, fpst b hb, fun x c e z => (f2 b hb).2.2.2.2.1 x c (cget x c e) z, Nat.ne_of_gt (fpl b hb)⟩) turn ?_ I0 hst₁ (fun b hb => (f2 b hb).1) w0
  intro s' ys us n H' I' rv hz q
  obtain ⟨eD, nD, _, _, _⟩ := I'.pin (s2.heap.objs.size, zAf us n) (List.mem_append_right _ List.mem_cons_self)
  have J1 : Inv X pins σ H' s' := I2.call' I'.os I'.base I'.hok I'.bare (fun b hb => ⟨(f2 b hb).2.2.2.1, (f2 b hb).2.1, (f2 b hb).2.2.2.2.1, (f2 b hb).2.2.2.2.2⟩) I'.tk
  have J2 : Inv X pins σ (upd H' s2.heap.objs.size (.lst ys)) s' := J1.track I2.sz nD (fun z => absurd (z ▸ I2.lt) (Nat.lt_irrefl _)) (fun x c e => Nat.ne_of_lt (celt x c e)) (fun p hp => Nat.ne_of_lt (pint p hp)) ⟨hz, us, n, rv, eD⟩
  have nC : upd H' s2.heap.objs.size (.lst ys) P2.objs.size = none := by
   rw [zT (Ne.symm hDC)]
   exact I'.free
  refine hRR _ _ s' _ ?_ CL CC J2 (fun h' hs s'' e => ?_) (fun σ' s3 I3 _ h' hs => ?_) (q _ nD)
  ·obtain ⟨m, hn, _⟩ := I'.loc
   exact ⟨m, hn⟩
  ·subst e
   exact J2.turned (t' := s'.toks) (it := P2.objs.size) (fun b o hb e => (hs.2 b hb).trans e) nC CL (.inr (Nat.le_trans I2.sz hCle)) CC CP
  ·exact I3.turned (t' := s3.toks) (it := P2.objs.size) (fun b o hb e => (hs.2 b hb).trans e) nC CL (.inr (Nat.le_trans I2.sz hCle)) CC CP
 exact codeAny_compStart_list (loop _ rfl) (T.self _ 0 _ _ _ hst₁ (loop _ rfl))
theorem zGG (hc : X.calm = true) (S : jX X vars scope cl) (hi : PI X tg iter wi) (hg : ∀ C fp s₂ H₂, PG (zr X vars scope cl C fp s₂ H₂) tg g) (ht : ∀ C fp s₂ H₂, QW (zr X vars scope cl C fp s₂ H₂) ifs ti)
  (he : ∀ C fp s₂ H₂, PE (zr X vars scope cl C fp s₂ H₂) elt te) (hs : ∀ x, foldedSetIterable iter X.env x = pure x := by intro _; rfl) : PE X (.ListComp elt [⟨tg, iter, ifs, 0⟩] scope pos) (zGd vars.length wi g ti te) := by
 intro pins s σ H Q I h
 rw [eval_ListComp]
 refine wpAny_comprehension_free (use := none) rfl hs S.clos S.kind S.names (thn (hi pins s σ H _ I h) fun v s1 h1 => thn h1 fun itv s2 h2 => ?_)
 refine zCN hc S hg ht he (F := fun D H' => Q (.ref D) H') h2 fun D C s' H' hn hCL hCC J2 J3 _ q => ?_
 obtain ⟨m, hn⟩ := hn
 exact ⟨m, hn, fun h' hs' => ⟨.ref D, H', J3 h' hs' _ rfl, rfl, q⟩⟩
theorem zGe {i : Nat} {y : Str} {py spos : Pos} (hc : X.calm = true) (S : jX X vars scope cl) (hN : X.N.Nodup) (hiy : X.N[i]? = some y) (hy : Loc X.env.scope y) (hi : PI X tg iter wi)
  (hg : ∀ C fp s₂ H₂, PG (zr X vars scope cl C fp s₂ H₂) tg g) (ht : ∀ C fp s₂ H₂, QW (zr X vars scope cl C fp s₂ H₂) ifs ti)
  (he : ∀ C fp s₂ H₂, PE (zr X vars scope cl C fp s₂ H₂) elt te) (hs : ∀ x, foldedSetIterable iter X.env x = pure x := by intro _; rfl)
  (hsw : swapsWith (.ListComp elt [⟨tg, iter, ifs, 0⟩] scope pos) (some (.Name y py)) spos.line X.env = pure true := by rfl)
  (hf : X.fn y = true \/ X.env.scope.names.lookup y = some .local := by first | exact .inl rfl | exact .inr rfl | assumption) :
  PS X (.Assign [.Name y py] (.ListComp elt [⟨tg, iter, ifs, 0⟩] scope pos) spos) (zKA (zGd vars.length wi g ti te) (zK i)) := by
 intro pins s σ H D0 I h
 rw [exec_Assign_Name_used _ _ _ _ hsw]
 refine wpAny_bind (wpAny_standAt (wpAny_bind ?_))
 show wpAny _ X.A (do let _ <- comprehension (.ListComp elt [⟨tg, iter, ifs, 0⟩] scope pos) scope X.env _ (newList []) false (eval iter X.env) (some (assign (.Name y py) X.env))) _ _ s
 refine wpAny_bind (wpAny_mono (wpAny_comprehension_free (use := some (assign (.Name y py) X.env)) (Q := fun _ s' => SP X pins D0 .next s') rfl hs S.clos S.kind S.names
  (thn (hi pins s σ H _ I h) fun v s1 h1 => thn h1 fun itv s2 h2 => ?_)) (fun _ s' hq => wpAny_pure (wpAny_pure hq)) fun _ _ e => e)
 refine zCN hc S hg ht he (F := fun D H' => D0.nx (σ.set i (some (.ref D))) H') h2 fun D C s' H' hn hCL hCC J2 _ J4 q => ?_
 obtain ⟨m, hn⟩ := hn
 show wpAny _ X.A (assign (.Name y py) X.env (.ref D)) _ _ _
 refine wpAny_assign_Name (zDa J2 hN hiy hy (v := .ref D) rfl (fun s3 I3 ⟨a, hsb, ha⟩ => ?_) hf)
 have hCa : C ≠ a := by
  rcases ha with rfl | ha
  ·exact hCL
  ·exact Ne.symm (hCC y a ha)
 refine ⟨m, hn.sameBut hsb hCa, fun h' hs' => ⟨σ.set i (some (.ref D)), H', J4 _ s3 I3 ⟨a, hsb, ?_⟩ h' hs', q⟩⟩
 rcases ha with rfl | ha
 ·exact .inl rfl
 ·exact .inr ⟨y, ha⟩
end
end L2
namespace L2
open PySem PySem.Spec PyProof.Rows
def Its (z : Str) : It := ⟨fun i _ => i < z.length, fun i H x H' => H' = H /\ ∃ c, z.cps[i]? = some c /\ x = .str ⟨#[c]⟩, fun i _ => z.length <= i⟩
theorem zIp {P : Program} {w : World} {K : PySem.W.Frag} {tg : Expr} (it : Addr) (z : Str) (t : Tok) : zAG P w K tg (Its z) [it] it (fun i h => h.IsStrIter it "str_ascii_iterator" z t i) where
 mem := by simp
 obj := fun i h st b hb => by
  have e : b = it := by simpa using hb
  subst e
  obtain ⟨o, e, c, d⟩ := st
  exact ⟨o, e, fun v z => by rw [d] at z; cases z⟩
 keep := fun i h h' st k => let ⟨o, ho, r⟩ := st; ⟨o, k it (by simp) o ho, r⟩
 item := by
  intro X hP hw hK hc i pins s σ H E I hf st hg
  subst hP hw hK
  obtain ⟨f0, f1, f2, f3, f4, f5⟩ := hf it (by simp)
  have hlt : i < z.cps.size := hg
  refine wpAny_pyNext_ascii_item st (c := z.cps[i]) (by simp [hlt]) fun h' st' sb => ?_
  have I1 : Inv X pins σ H { s with heap := h', toks := s.toks + 1 } := I.turned (fun b o hb e => (sb.2 b hb).trans e) f0 f1 f3 f4 f5
  obtain ⟨o, e, c, d⟩ := id st'
  exact ⟨_, rfl, zBa (s := { s with heap := h', toks := s.toks + 1 }) e c d (by decide) ⟨.str ⟨#[z.cps[i]]⟩, H, I1, ⟨_, rfl⟩, ⟨rfl, z.cps[i], by simp [hlt], rfl⟩, st', fun b hb => (hf b hb).1⟩⟩
 done := by
  intro X hP hw hK hc i pins s σ H E I hf st hg
  subst hP hw hK
  obtain ⟨f0, f1, f2, f3, f4, f5⟩ := hf it (by simp)
  have hle : z.cps.size <= i := hg
  exact wpAny_pyNext_ascii_end (I.ok.hd hc) st (by simp [hle]) fun h' eb => ⟨rfl, I.turned (t' := s.toks) (fun b o hb e => eb b o hb e) f0 f1 f3 f4 f5⟩
 self := fun _ _ _ _ _ st h => wpAny_pyIter_striter_ascii st h
theorem zHi {P : Program} {w : World} {K : PySem.W.Frag} {tg : Expr} (it : Addr) (z : Str) (t : Tok) : zAG P w K tg (Its z) [it] it (fun i h => h.IsStrIter it "str_iterator" z t i) where
 mem := by simp
 obj := fun i h st b hb => by
  have e : b = it := by simpa using hb
  subst e
  obtain ⟨o, e, c, d⟩ := st
  exact ⟨o, e, fun v z => by rw [d] at z; cases z⟩
 keep := fun i h h' st k => let ⟨o, ho, r⟩ := st; ⟨o, k it (by simp) o ho, r⟩
 item := by
  intro X hP hw hK hc i pins s σ H E I hf st hg
  subst hP hw hK
  obtain ⟨f0, f1, f2, f3, f4, f5⟩ := hf it (by simp)
  have hlt : i < z.cps.size := hg
  refine wpAny_pyNext_wide_item st (c := z.cps[i]) (by simp [hlt]) fun h' st' sb => ?_
  have I1 : Inv X pins σ H { s with heap := h', toks := s.toks + 1 } := I.turned (fun b o hb e => (sb.2 b hb).trans e) f0 f1 f3 f4 f5
  obtain ⟨o, e, c, d⟩ := id st'
  exact ⟨_, rfl, zBa (s := { s with heap := h', toks := s.toks + 1 }) e c d (by decide) ⟨.str ⟨#[z.cps[i]]⟩, H, I1, ⟨_, rfl⟩, ⟨rfl, z.cps[i], by simp [hlt], rfl⟩, st', fun b hb => (hf b hb).1⟩⟩
 done := by
  intro X hP hw hK hc i pins s σ H E I hf st hg
  subst hP hw hK
  obtain ⟨f0, f1, f2, f3, f4, f5⟩ := hf it (by simp)
  have hle : z.cps.size <= i := hg
  exact wpAny_pyNext_wide_end (I.ok.hd hc) st (by simp [hle]) fun h' eb => ⟨rfl, I.turned (t' := s.toks) (fun b o hb e => eb b o hb e) f0 f1 f3 f4 f5⟩
 self := fun _ _ _ _ _ st h => wpAny_pyIter_striter_wide st h
def zOs (tl : TE) : TI := fun σ H R => tl σ H fun x H1 => ∃ z, x = .str z /\ R (Its z) H1
theorem zLw {X : Cx} {tg l : Expr} {tl : TE} (hl : PE X l tl) : PI X tg l (zOs tl) := by
 intro pins s σ H R I h
 refine thn (hl pins s σ H _ I h) fun v s1 ⟨x, H1, I1, r1, q1⟩ => ?_
 obtain ⟨z, e, q⟩ := q1
 subst e
 obtain ⟨t, rfl⟩ := r1
 have fin : ∀ b ∈ [s1.heap.objs.size], JA X pins H1 b := fun b hb => by
  have e : b = s1.heap.objs.size := by simpa using hb
  subst e
  exact I1.fpOk (Nat.le_refl _) (I1.hok.fresh (Nat.le_refl _))
 cases ha : z.cps.all (· < 128)
 ·refine wpAny_pyIter_wide ha ?_
  exact ⟨s1.heap.objs.size, [s1.heap.objs.size], _, Its z, H1, rfl, I1.kept (t' := s1.toks) fun b o e => Heap.get?_push_of_some _ e, zHi _ z t, ⟨_, Heap.get?_push_size _ rfl, rfl, rfl⟩, fin, q⟩
 ·refine wpAny_pyIter_ascii ha ?_
  exact ⟨s1.heap.objs.size, [s1.heap.objs.size], _, Its z, H1, rfl, I1.kept (t' := s1.toks) fun b o e => Heap.get?_push_of_some _ e, zIp _ z t, ⟨_, Heap.get?_push_size _ rfl, rfl, rfl⟩, fin, q⟩
section
variable {X : Cx}
def zDF (z : Str) (lo hi : Option Int) : Str := ⟨((z.cps.toList.drop (HT.sIx z.length 0 lo)).take (HT.sIx z.length z.length hi - HT.sIx z.length 0 lo)).toArray⟩
theorem zFY (lo hi : Option Int) (n : Nat) : Builtin.Str.strSliceIndices lo hi 1 n = (List.range (HT.sIx n n hi - HT.sIx n 0 lo)).map fun k => HT.sIx n 0 lo + k := by
 have clip : ∀ v : Int, max 0 (min (if v < 0 then v + (n : Int) else v) (n : Int)) = ((HT.sIx n 0 (some v) : Nat) : Int) /\ max 0 (min (if v < 0 then v + (n : Int) else v) (n : Int)) = ((HT.sIx n n (some v) : Nat) : Int) := fun v => by
  unfold HT.sIx
  by_cases hv : v < 0
  ·simp only [if_pos hv]; omega
  ·simp only [if_neg hv]; omega
 have key : ∀ a b : Nat, sliceRange (a : Int) (b : Int) 1 = (List.range (b - a)).map fun k => a + k := fun a b => by
  unfold sliceRange
  have hc : (if (1 : Int) > 0 then (if (a : Int) < (b : Int) then ((b : Int) - a + 1 - 1) / 1 else 0) else (if (a : Int) > (b : Int) then ((a : Int) - b - 1 - 1) / (-1) else 0)).toNat = b - a := by
   rw [if_pos (by decide)]
   by_cases h : (a : Int) < (b : Int)
   ·rw [if_pos h, Int.ediv_one]; omega
   ·rw [if_neg h]; omega
  dsimp only
  rw [hc]
  refine List.map_congr_left fun k _ => ?_
  omega
 unfold Builtin.Str.strSliceIndices
 cases lo with
 | none =>
  cases hi with
  | none => exact key 0 n
  | some v =>
   simp only [show (1 : Int) > 0 by decide, if_true]
   rw [(clip v).2]
   exact key 0 _
 | some u =>
  cases hi with
  | none =>
   simp only [show (1 : Int) > 0 by decide, if_true]
   rw [(clip u).1]
   exact key _ n
  | some v =>
   simp only [show (1 : Int) > 0 by decide, if_true]
   rw [(clip u).1, (clip v).2]
   exact key _ _
theorem zKb {α : Type} (xs : Array α) (a m : Nat) : ((List.range m).map fun k => a + k).filterMap (xs[·]?) = (xs.toList.drop a).take m := by
 rw [List.filterMap_map]
 induction m generalizing a with
 | zero => simp
 | succ m ih =>
  rw [List.range_succ, List.filterMap_append, ih, List.take_succ]
  congr 1
  simp only [List.filterMap_cons, List.filterMap_nil, Function.comp]
  rw [List.getElem?_drop, Array.getElem?_toList]
  cases xs[a + m]? <;> rfl
theorem zHk (z : Str) (lo hi : Option Int) : Txt.slice z lo hi = zDF z lo hi := by
 have h1 := HT.zFU z.length 0 (Nat.zero_le _) lo
 have h2 := HT.zFU z.length z.length (Nat.le_refl _) hi
 unfold Txt.slice zDF
 rw [zFY, zKb]
 split
 ·rename_i h
  rw [List.length_map, List.length_range] at h
  have h3 : HT.sIx z.length z.length hi - HT.sIx z.length 0 lo = z.length := by
   have h' := (Bool.and_eq_true_iff.mp h).2
   exact eq_of_beq h'
  have e1 : HT.sIx z.length 0 lo = 0 := by omega
  rw [h3, e1, List.drop_zero]
  have hl : z.cps.toList.length = z.length := by simp [Str.length]
  rw [List.take_of_length_le (by omega)]
 ·rfl
def zOb : V -> Option Int -> Option Int -> Hp -> VK -> Prop := fun x lo hi H Q => ∃ z, x = .str z /\ z.length <= sizeLine /\ Q (.str (zDF z lo hi)) H
theorem zNC : SlR X zOb := by
 intro pins s σ H x v vl vu lo hi sl Q I rx hs pl pu h
 obtain ⟨z, rfl, hz, q⟩ := h
 obtain ⟨t, rfl⟩ := rx
 refine ⟨"str", _, F.slot_str_getitem.lookup, typeIs_str _ _ _, wpAny_with_toks (n := 1) I.tk ?_⟩
 obtain ⟨o, ho, hc, hd⟩ := hs
 have fin : (Txt.slice z lo hi).length <= sizeLine /\ ∀ t' k, 1 <= ({ s with toks := k } : Shared).toks -> EP X pins σ Q (.str (Txt.slice z lo hi) t') { s with toks := k } :=
  ⟨Nat.le_trans (Txt.slice_le z lo hi) hz, fun t' k hk => ⟨.str (Txt.slice z lo hi), H, I.tok k hk, ⟨_, rfl⟩, by rw [zHk]; exact q⟩⟩
 cases pl with
 | none =>
  cases pu with
  | none => exact wpAny_getItem_str_slice (l := none) (u := none) (st := none) ⟨o, ho, hc, hd⟩ rfl (post_val_or_str fin)
  | int j uj => exact wpAny_getItem_str_slice (l := none) (u := some (j, uj)) (st := none) ⟨o, ho, hc, hd⟩ rfl (post_val_or_str fin)
 | int i ui =>
  cases pu with
  | none => exact wpAny_getItem_str_slice (l := some (i, ui)) (u := none) (st := none) ⟨o, ho, hc, hd⟩ rfl (post_val_or_str fin)
  | int j uj => exact wpAny_getItem_str_slice (l := some (i, ui)) (u := some (j, uj)) (st := none) ⟨o, ho, hc, hd⟩ rfl (post_val_or_str fin)
theorem zAk {ys : List Str} : ∀ {us : List Value}, zf (ys.map V.str) us -> StrsAre us ys := by
 induction ys with
 | nil => intro us r; rw [List.map_nil] at r; cases r; exact .nil
 | cons y ys ih =>
  intro us r
  rw [List.map_cons] at r
  cases r with
  | cons r1 r2 =>
   obtain ⟨t, e⟩ := r1
   subst e
   exact .cons y t (ih r2)
def zEM (K : PySem.W.Frag) : V -> List V -> Hp -> VK -> Prop := fun x vs H Q => ∃ z p ys, x = .str z /\ vs = [.ref p] /\ (SqL K H p (ys.map V.str) \/ SqT K H p (ys.map V.str)) /\ (ys.map (·.length)).sum + ys.length * z.length <= 16777216 /\ Q (.str (Txt.join z ys)) H
theorem zK0 : MtR X "str.join" (zEM X.K) := by
 intro pins s σ H x vs v us Q I rx rv h
 obtain ⟨z, p, ys, rfl, rfl, hq, hz, q⟩ := h
 obtain ⟨t, rfl⟩ := rx
 obtain ⟨u, rfl, ru⟩ := Z6 rv
 cases ru
 rcases hq with hq | hq
 ·obtain ⟨its, r, pl, _⟩ := I.list hq
  exact wpAny_with_toks (n := 1) I.tk (join_list pl.isList (by simpa using zAk r) hz fun t' k hk => ⟨.str (Txt.join z ys), H, I.tok k hk, ⟨_, rfl⟩, q⟩)
 ·obtain ⟨its, r, pl, _⟩ := I.tuple hq
  exact wpAny_with_toks (n := 1) I.tk (join_tuple pl (by simpa using zAk r) hz fun t' k hk => ⟨.str (Txt.join z ys), H, I.tok k hk, ⟨_, rfl⟩, q⟩)
end
end L2
namespace L2
open PySem PySem.Spec PyProof.Rows PySem.Builtin.Str
section
variable {X : Cx}
theorem zG8 : OpR X (binaryOp .Mult) (fun x y H Q => ∃ z n, x = .str z /\ y = .int n /\ MulOk z n /\ Q (.str (Txt.mul z n)) H) := by
 intro pins s σ H x y v u Q I rx ry h
 obtain ⟨z, n, rfl, rfl, hm, q⟩ := h
 obtain ⟨t, rfl⟩ := rx
 obtain ⟨t', rfl⟩ := ry
 exact wpAny_with_toks (n := 1) I.tk (SB.mul hm fun t' k hk => ⟨.str _, H, I.tok k hk, ⟨_, rfl⟩, q⟩)
end
mutual
inductive qH (K : PySem.W.Frag) (H : Hp) : V -> PyData -> Prop
 | non : qH K H .non .none
 | bl (b : Bool) : qH K H (.bl b) (.bool b)
 | int (i : Int) : qH K H (.int i) (.int i)
 | str (x : Str) : qH K H (.str x) (.str x)
 | lst {p : Addr} {xs : List V} {ds : List PyData} : SqL K H p xs -> ZN K H xs ds -> qH K H (.ref p) (.list ds)
 | tup {p : Addr} {xs : List V} {ds : List PyData} : SqT K H p xs -> ZN K H xs ds -> qH K H (.ref p) (.tuple ds)
inductive ZN (K : PySem.W.Frag) (H : Hp) : List V -> List PyData -> Prop
 | nil : ZN K H [] []
 | cons {v : V} {d : PyData} {vs : List V} {ds : List PyData} : qH K H v d -> ZN K H vs ds -> ZN K H (v :: vs) (d :: ds)
end
section
variable {X : Cx} {pins : List (Addr × Obj)} {σ : St} {H : Hp} {s : Shared}
mutual
theorem qH.reads (I : Inv X pins σ H s) : ∀ {v : V} {d : PyData} {u : Value}, qH X.K H v d -> zZ v u -> ∃ as, Reads s.heap u d as
 | _, _, _, .non, r => by cases r; exact ⟨_, .none⟩
 | _, _, _, .bl b, r => by cases r; exact ⟨_, .bool b⟩
 | _, _, _, .int i, r => by obtain ⟨t, rfl⟩ := r; exact ⟨_, .int i t⟩
 | _, _, _, .str x, r => by obtain ⟨t, rfl⟩ := r; exact ⟨_, .str x t⟩
 | _, _, _, .lst hq ha, r => by
  cases r
  obtain ⟨its, rv, ⟨o, n, e, hc, hd, hs⟩, _⟩ := I.list hq
  obtain ⟨as, ra⟩ := ZN.reads I ha rv
  exact ⟨_, .list e hc hs (by simpa using ra)⟩
 | _, _, _, .tup hq ha, r => by
  cases r
  obtain ⟨its, rv, ⟨o, e, hc, n, hs⟩, _⟩ := I.tuple hq
  obtain ⟨as, ra⟩ := ZN.reads I ha rv
  exact ⟨_, .tuple e hc hs (by simpa using ra)⟩
theorem ZN.reads (I : Inv X pins σ H s) : ∀ {vs : List V} {ds : List PyData} {us : List Value}, ZN X.K H vs ds -> zf vs us -> ∃ as, ReadsAll s.heap us ds as
 | _, _, _, .nil, r => by cases r; exact ⟨_, .nil⟩
 | _, _, _, .cons h t, r => by
  cases r with
  | cons r1 r2 =>
   obtain ⟨as, ra⟩ := qH.reads I h r1
   obtain ⟨bs, rb⟩ := ZN.reads I t r2
   exact ⟨_, .cons ra rb⟩
end
end
section
variable {X : Cx}
def zJs (K : PySem.W.Frag) (neg : Bool) : R2 := fun x y H Q => ∃ d e, qH K H x d /\ qH K H y e /\ SeqAt.shaped d = true /\ SeqAt.shaped e = true /\ Q (.bl (if neg then !PyData.eqv d e else PyData.eqv d e)) H
theorem zLn {k : Nat} (hr : jH k X.A) : OpR X (compareOp .Eq) (zJs X.K false) := by
 intro pins s σ H x y v u Q I rx ry h
 obtain ⟨d, e, hd, he, sd, se, q⟩ := h
 obtain ⟨as, ra⟩ := hd.reads I rx
 obtain ⟨bs, rb⟩ := he.reads I ry
 exact eq_dataH ra rb sd se hr.units ⟨.bl _, H, I, rfl, q⟩
theorem zNF {k : Nat} (hr : jH k X.A) : OpR X (compareOp .NotEq) (zJs X.K true) := by
 intro pins s σ H x y v u Q I rx ry h
 obtain ⟨d, e, hd, he, sd, se, q⟩ := h
 obtain ⟨as, ra⟩ := hd.reads I rx
 obtain ⟨bs, rb⟩ := he.reads I ry
 exact ne_dataH ra rb sd se hr.units ⟨.bl _, H, I, rfl, q⟩
where RelC : V -> Value -> Prop := fun c cv => (∃ n, c = .ty n /\ cv = .type n) \/ ∃ a, c = .ref a /\ cv = .ref a
end
end L2
namespace L2
open PySem PySem.Spec PyProof.Rows
section
variable {X : Cx}
def zLx : R2 := fun x y H Q => match x, y with
 | .int i, .int j => Q (.int (i + j)) H
 | .str a, .str b => a.length + b.length <= sizeLine /\ Q (.str (a ++ b)) H
 | .ref l, .ref b => ∃ xs zs, H l = some (.lst xs) /\ H b = some (.lst zs) /\ xs.length + zs.length <= sizeLine /\ ∀ p, H p = none -> Q (.ref p) (upd H p (.lst (xs ++ zs)))
 | _, _ => False
theorem yL : OpR X (binaryOp .Add) zLx := by
 intro pins s σ H x y v u Q I rx ry h
 cases x with
 | int i =>
  cases y with
  | int j => exact zMY pins s σ H _ _ v u Q I rx ry ⟨i, j, rfl, rfl, h⟩
  | _ => exact False.elim h
 | str a =>
  cases y with
  | str b => exact zGm pins s σ H _ _ v u Q I rx ry ⟨a, b, rfl, rfl, h⟩
  | _ => exact False.elim h
 | ref l =>
  cases y with
  | ref b =>
   obtain ⟨xs, zs, h1, h2, h3, h4⟩ := h
   exact zMt pins s σ H _ _ v u Q I rx ry ⟨l, b, xs, zs, rfl, rfl, h1, h2, h3, h4⟩
  | _ => exact False.elim h
 | _ => exact False.elim h
def zL5 : R2 := fun x y H Q => match x, y with
 | .int i, .int j => Q (.int (i - j)) H
 | _, _ => False
theorem zEK : OpR X (binaryOp .Sub) zL5 := by
 intro pins s σ H x y v u Q I rx ry h
 cases x with
 | int i =>
  cases y with
  | int j => exact zM4 pins s σ H _ _ v u Q I rx ry ⟨i, j, rfl, rfl, h⟩
  | _ => exact False.elim h
 | _ => exact False.elim h
def zMJ : R2 := fun x y H Q => match x, y with
 | .int i, .int j => zHG i j /\ Q (.int (i * j)) H
 | .str z, .int n => MulOk z n /\ Q (.str (Txt.mul z n)) H
 | _, _ => False
theorem zNq : OpR X (binaryOp .Mult) zMJ := by
 intro pins s σ H x y v u Q I rx ry h
 cases x with
 | int i =>
  cases y with
  | int j => exact zMq pins s σ H _ _ v u Q I rx ry ⟨i, j, rfl, rfl, h⟩
  | _ => exact False.elim h
 | str z =>
  cases y with
  | int n => exact zG8 pins s σ H _ _ v u Q I rx ry ⟨z, n, rfl, rfl, h⟩
  | _ => exact False.elim h
 | _ => exact False.elim h
def zMc : R2 := fun x y H Q => match x, y with
 | .int i, .int j => 0 < j /\ Q (.int (i % j)) H
 | _, _ => False
theorem qo : OpR X (binaryOp .Mod) zMc := by
 intro pins s σ H x y v u Q I rx ry h
 cases x with
 | int i =>
  cases y with
  | int j => exact zMS pins s σ H _ _ v u Q I rx ry ⟨i, j, rfl, rfl, h⟩
  | _ => exact False.elim h
 | _ => exact False.elim h
def zMx : R2 := fun x y H Q => match x, y with
 | .int i, .int j => (0 < j /\ j < 1073741824) /\ Q (.int (i / j)) H
 | _, _ => False
theorem zB4 : OpR X (binaryOp .FloorDiv) zMx := by
 intro pins s σ H x y v u Q I rx ry h
 cases x with
 | int i =>
  cases y with
  | int j => exact zK1 pins s σ H _ _ v u Q I rx ry ⟨i, j, rfl, rfl, h⟩
  | _ => exact False.elim h
 | _ => exact False.elim h
def uLt : R2 := fun x y H Q => match x, y with
 | .int i, .int j => Q (.bl (decide (i < j))) H
 | .str i, .str j => Q (.bl (decide (i.cps.toList < j.cps.toList))) H
 | _, _ => False
theorem zOf : OpR X (compareOp .Lt) uLt := by
 intro pins s σ H x y v u Q I rx ry h
 cases x with
 | int i =>
  cases y with
  | int j => exact zNl pins s σ H _ _ v u Q I rx ry ⟨i, j, rfl, rfl, h⟩
  | _ => exact False.elim h
 | str i =>
  cases y with
  | str j => exact zHa pins s σ H _ _ v u Q I rx ry ⟨i, j, rfl, rfl, h⟩
  | _ => exact False.elim h
 | _ => exact False.elim h
def uGt : R2 := fun x y H Q => match x, y with
 | .int i, .int j => Q (.bl (decide (j < i))) H
 | _, _ => False
theorem zFi : OpR X (compareOp .Gt) uGt := by
 intro pins s σ H x y v u Q I rx ry h
 cases x with
 | int i =>
  cases y with
  | int j => exact zOI pins s σ H _ _ v u Q I rx ry ⟨i, j, rfl, rfl, h⟩
  | _ => exact False.elim h
 | _ => exact False.elim h
def uGe : R2 := fun x y H Q => match x, y with
 | .int i, .int j => Q (.bl (decide (j <= i))) H
 | _, _ => False
theorem zOo : OpR X (compareOp .GtE) uGe := by
 intro pins s σ H x y v u Q I rx ry h
 cases x with
 | int i =>
  cases y with
  | int j => exact zNr pins s σ H _ _ v u Q I rx ry ⟨i, j, rfl, rfl, h⟩
  | _ => exact False.elim h
 | _ => exact False.elim h
def uIn (K : PySem.W.Frag) (neg : Bool) : R2 := fun x y H Q => match x, y with
 | .str i, .str j => Q (.bl (xor neg (!(Builtin.Str.occurrences j i 0 j.length 1).isEmpty))) H
 | x, .ref p => ∃ xs, (SqL K H p xs \/ SqT K H p xs) /\ yM x = true /\ xs.all yM = true /\ Q (.bl (xor neg (inV x xs))) H
 | _, _ => False
theorem zOZ : OpR X (compareOp .In) (uIn X.K false) := by
 intro pins s σ H x y v u Q I rx ry h
 cases y with
 | str j =>
  cases x with
  | str i =>
   have h' : Q (.bl (xor false (!(Builtin.Str.occurrences j i 0 j.length 1).isEmpty))) H := h
   rw [Bool.false_xor] at h'
   exact zIU pins s σ H _ _ v u Q I rx ry ⟨i, j, rfl, rfl, h'⟩
  | _ => exact False.elim h
 | ref p =>
  have h' : ∃ xs, (SqL X.K H p xs \/ SqT X.K H p xs) /\ yM x = true /\ xs.all yM = true /\ Q (.bl (xor false (inV x xs))) H := by cases x <;> exact h
  obtain ⟨xs, h1, h2, h3, h4⟩ := h'
  rw [Bool.false_xor] at h4
  exact zII pins s σ H _ _ v u Q I rx ry ⟨p, xs, rfl, h1, h2, h3, h4⟩
 | _ => cases x <;> exact False.elim h
theorem zLk : OpR X (compareOp .NotIn) (uIn X.K true) := by
 intro pins s σ H x y v u Q I rx ry h
 cases y with
 | str j =>
  cases x with
  | str i =>
   have h' : Q (.bl (xor true (!(Builtin.Str.occurrences j i 0 j.length 1).isEmpty))) H := h
   rw [Bool.true_xor] at h'
   exact zE5 pins s σ H _ _ v u Q I rx ry ⟨i, j, rfl, rfl, h'⟩
  | _ => exact False.elim h
 | ref p =>
  have h' : ∃ xs, (SqL X.K H p xs \/ SqT X.K H p xs) /\ yM x = true /\ xs.all yM = true /\ Q (.bl (xor true (inV x xs))) H := by cases x <;> exact h
  obtain ⟨xs, h1, h2, h3, h4⟩ := h'
  rw [Bool.true_xor] at h4
  exact zFm pins s σ H _ _ v u Q I rx ry ⟨p, xs, rfl, h1, h2, h3, h4⟩
 | _ => cases x <;> exact False.elim h
def uIx (K : PySem.W.Frag) : R2 := fun x y H Q => match x, y with
 | .str z, .int i => ∃ c, z.length <= sizeLine /\ atI z.cps.toList i = some c /\ Q (.str ⟨#[c]⟩) H
 | .ref p, .int i => ∃ xs v, (SqL K H p xs \/ SqT K H p xs) /\ atI xs i = some v /\ Q v H
 | _, _ => False
theorem zOk : IxR X (uIx X.K) := by
 intro value slice pins s σ H x y v u Q I rx ry h hs
 cases x with
 | str z =>
  cases y with
  | int i =>
   obtain ⟨c, h1, h2, h3⟩ := h
   exact zNR value slice pins s σ H _ _ v u Q I rx ry ⟨z, i, c, rfl, rfl, h1, h2, h3⟩ hs
  | _ => exact False.elim h
 | ref p =>
  cases y with
  | int i =>
   obtain ⟨xs, c, h1 | h1, h2, h3⟩ := h
   ·exact zLQ value slice pins s σ H _ _ v u Q I rx ry ⟨p, xs, i, c, rfl, rfl, h1, h2, h3⟩ hs
   ·exact zM7 value slice pins s σ H _ _ v u Q I rx ry ⟨p, xs, i, c, rfl, rfl, h1, h2, h3⟩ hs
  | _ => exact False.elim h
 | _ => exact False.elim h
def uSl (K : PySem.W.Frag) : V -> Option Int -> Option Int -> Hp -> VK -> Prop := fun x lo hi H Q => match x with
 | .str z => z.length <= sizeLine /\ Q (.str (zDF z lo hi)) H
 | .ref a => (∃ xs, SqL K H a xs /\ ∀ p, H p = none -> Q (.ref p) (upd H p (.lst (zAC xs lo hi)))) \/
   (∃ xs, SqT K H a xs /\ ¬ (HT.sIx xs.length 0 lo = 0 /\ HT.sIx xs.length xs.length hi = xs.length) /\ ∀ p, H p = none -> Q (.ref p) (upd H p (.tup (zAC xs lo hi))))
 | _ => False
theorem zFR : SlR X (uSl X.K) := by
 intro pins s σ H x v vl vu lo hi sl Q I rx hs pl pu h
 cases x with
 | str z => exact zNC pins s σ H _ v vl vu lo hi sl Q I rx hs pl pu ⟨z, rfl, h⟩
 | ref a =>
  rcases h with ⟨xs, h1, h2⟩ | ⟨xs, h1, h2, h3⟩
  ·exact zKm pins s σ H _ v vl vu lo hi sl Q I rx hs pl pu ⟨a, xs, rfl, h1, h2⟩
  ·exact zNA pins s σ H _ v vl vu lo hi sl Q I rx hs pl pu ⟨a, xs, rfl, h1, h2, h3⟩
 | _ => exact False.elim h
def zMw (K : PySem.W.Frag) : List V -> Hp -> VK -> Prop := fun xs H Q => match xs with
 | [.str z] => z.length <= sizeLine /\ Q (.int z.length) H
 | [.ref p] => ∃ ys, (SqL K H p ys \/ SqT K H p ys) /\ Q (.int ys.length) H
 | _ => False
theorem zNo : qF X (.builtin "len") (zMw X.K) := by
 intro pins s σ H xs us Q I r h
 match xs, h with
 | [.str z], h => exact zE0 pins s σ H _ us Q I r ⟨z, rfl, h⟩
 | [.ref p], h =>
  obtain ⟨ys, h1, h2⟩ := h
  exact zEg pins s σ H _ us Q I r ⟨p, ys, rfl, h1, h2⟩
theorem zLR : PIp X .Add (fun x y H Q => match x, y with | .int i, .int j => Q (.int (i + j)) H | .str a, .str b => a.length + b.length <= sizeLine /\ Q (.str (a ++ b)) H | _, _ => False) := by
 intro pins s σ H x y v u Q I rx ry h
 cases x with
 | int i =>
  cases y with
  | int j => exact zMe pins s σ H _ _ v u Q I rx ry ⟨i, j, rfl, rfl, h⟩
  | _ => exact False.elim h
 | str a =>
  cases y with
  | str b => exact zFp pins s σ H _ _ v u Q I rx ry ⟨a, b, rfl, rfl, h⟩
  | _ => exact False.elim h
 | _ => exact False.elim h
end
theorem yt : bootBuiltins "len" = some (.builtin "len") := by decide +kernel
theorem Q8 : bootBuiltins "isinstance" = some (.builtin "isinstance") := by decide +kernel
theorem zNS : bootBuiltins "str" = some (.type "str") := by decide +kernel
theorem zNT : bootBuiltins "int" = some (.type "int") := by decide +kernel
theorem JL : bootBuiltins "list" = some (.type "list") := by decide +kernel
theorem zDL : bootBuiltins "dict" = some (.type "dict") := by decide +kernel
structure Has (P : Program) (w : World) (K : PySem.W.Frag) (mg : Str -> Option Value) (base : Heap) (x : Str) (k : Nat) (ps : List Str) (sp : Sp) : Prop where
 ex : ∃ f fd, qA P w K mg base CX0 k f fd ps sp /\ Js K fd ps [] /\ PySem.W.keepIn K (.ref f) = true /\ mg x = some (.ref f)
section
variable {X : Cx} {k kk : Nat} {x : Str} {ps : List Str} {sp : Sp} {e : Expr} {es : List Expr} {t : TA} {p pos : Pos}
theorem zJh (h : Has X.prog X.w X.K X.mg X.base x k ps sp) (hr : jH kk X.A) (hk : k <= kk) (hg : Gl X x) (ha : PA X (e :: es) t) (hx : zAS CX0 X E0 := by exact zGZ) (hdb : (x == ("__debug__" : Str)) = false := by decide)
  (he : starEach (e :: es) X.env = (false, eval e X.env) :: starEach es X.env := by rfl) (hpl : (backTo pos (starEach es X.env)).any (·.1) = false := by rfl) :
  PE X (.Call (.Name x p) (e :: es) [] pos) (zKU sp [] E0 t) := by
 obtain ⟨f, fd, F, b, kp, m⟩ := h.ex
 exact zK4 F (hr.mono hk) hg m kp b .nil hx ha hdb he hpl
structure zO5 (mg : Str -> Option Value) (x : Str) (v : V) : Prop where
 ex : ∃ u, mg x = some u /\ zZ v u
end
theorem Jl {K : PySem.W.Frag} {A B : String} {b : Bool} (h : (if (Value.type A == Value.type B) = true then some true else if PySem.W.kitMeta B = true then (PySem.fastBuiltinMro A).map (·.contains (Value.type B)) else none) = some b) : PySem.W.kitOne K (.type A) (.type B) = some b := h
end L2
namespace TX
open PySem
def sp (y : Nat) : Nat := if y = 10 then 32 else y
end TX
namespace M
abbrev T := List Nat
inductive Kd where
 | str | int | bool | list | tuple | dict
 deriving DecidableEq
inductive D where
 | non | bl (b : Bool) | int (i : Int) | str (x : T) | tup (ds : List D) | ro (ds : List D) | ref (i : Nat) | ty (n : Kd)
mutual
def D.decEq : (a b : D) -> Decidable (a = b)
 | .non, .non => isTrue rfl
 | .bl a, .bl b => if h : a = b then isTrue (by rw [h]) else isFalse (fun e => h (D.bl.inj e))
 | .int a, .int b => if h : a = b then isTrue (by rw [h]) else isFalse (fun e => h (D.int.inj e))
 | .str a, .str b => if h : a = b then isTrue (by rw [h]) else isFalse (fun e => h (D.str.inj e))
 | .ref a, .ref b => if h : a = b then isTrue (by rw [h]) else isFalse (fun e => h (D.ref.inj e))
 | .ty a, .ty b => if h : a = b then isTrue (by rw [h]) else isFalse (fun e => h (D.ty.inj e))
 | .tup a, .tup b => match D.decEqs a b with
  | isTrue h => isTrue (by rw [h])
  | isFalse h => isFalse (fun e => h (D.tup.inj e))
 | .ro a, .ro b => match D.decEqs a b with
  | isTrue h => isTrue (by rw [h])
  | isFalse h => isFalse (fun e => h (D.ro.inj e))
 | .non, .bl _ | .non, .int _ | .non, .str _ | .non, .tup _ | .non, .ro _ | .non, .ref _ | .non, .ty _ => isFalse (fun e => nomatch e)
 | .bl _, .non | .bl _, .int _ | .bl _, .str _ | .bl _, .tup _ | .bl _, .ro _ | .bl _, .ref _ | .bl _, .ty _ => isFalse (fun e => nomatch e)
 | .int _, .non | .int _, .bl _ | .int _, .str _ | .int _, .tup _ | .int _, .ro _ | .int _, .ref _ | .int _, .ty _ => isFalse (fun e => nomatch e)
 | .str _, .non | .str _, .bl _ | .str _, .int _ | .str _, .tup _ | .str _, .ro _ | .str _, .ref _ | .str _, .ty _ => isFalse (fun e => nomatch e)
 | .tup _, .non | .tup _, .bl _ | .tup _, .int _ | .tup _, .str _ | .tup _, .ro _ | .tup _, .ref _ | .tup _, .ty _ => isFalse (fun e => nomatch e)
 | .ro _, .non | .ro _, .bl _ | .ro _, .int _ | .ro _, .str _ | .ro _, .tup _ | .ro _, .ref _ | .ro _, .ty _ => isFalse (fun e => nomatch e)
 | .ref _, .non | .ref _, .bl _ | .ref _, .int _ | .ref _, .str _ | .ref _, .tup _ | .ref _, .ro _ | .ref _, .ty _ => isFalse (fun e => nomatch e)
 | .ty _, .non | .ty _, .bl _ | .ty _, .int _ | .ty _, .str _ | .ty _, .tup _ | .ty _, .ro _ | .ty _, .ref _ => isFalse (fun e => nomatch e)
def D.decEqs : (a b : List D) -> Decidable (a = b)
 | [], [] => isTrue rfl
 | [], _ :: _ => isFalse (fun e => nomatch e)
 | _ :: _, [] => isFalse (fun e => nomatch e)
 | a :: r, b :: t => match D.decEq a b, D.decEqs r t with
  | isTrue h, isTrue k => isTrue (by rw [h, k])
  | isFalse h, _ => isFalse (fun e => h (List.cons.inj e).1)
  | _, isFalse k => isFalse (fun e => k (List.cons.inj e).2)
end
instance : DecidableEq D := D.decEq
inductive O where
 | lst (xs : List D) | dct (kvs : List (D × D)) | fdc (kvs : List (D × D)) | ins (c : Nat) (fs : List (Option D))
 deriving DecidableEq
abbrev S := List O
abbrev St := List (Option D)
inductive R (α : Type) where
 | ok (a : α) (s : S) | exc (e : D) (s : S) | no
def R.bind {α β : Type} : R α -> (α -> S -> R β) -> R β
 | .ok a s, f => f a s
 | .exc e s, _ => .exc e s
 | .no, _ => .no
@[simp] theorem R.bind_ok {α β : Type} (a : α) (s : S) (f : α -> S -> R β) : (R.ok a s).bind f = f a s := rfl
@[simp] theorem R.bind_no {α β : Type} (f : α -> S -> R β) : (R.no : R α).bind f = .no := rfl
@[simp] theorem R.bind_exc {α β : Type} (e : D) (s : S) (f : α -> S -> R β) : (R.exc e s : R α).bind f = .exc e s := rfl
section
variable {α β : Type} {c : Prop} [Decidable c]
@[simp] theorem R.bind_ite (a b : R α) (f : α -> S -> R β) : (if c then a else b).bind f = if c then a.bind f else b.bind f := by split <;> rfl
@[simp] theorem R.ite_ok (a b : α) (s : S) : (if c then R.ok a s else R.ok b s) = R.ok (if c then a else b) s := by split <;> rfl
@[simp] theorem D.ite_bl (a b : Bool) : (if c then D.bl a else D.bl b) = D.bl (if c then a else b) := by split <;> rfl
@[simp] theorem D.ite_int (a b : Int) : (if c then D.int a else D.int b) = D.int (if c then a else b) := by split <;> rfl
@[simp] theorem D.ite_str (a b : T) : (if c then D.str a else D.str b) = D.str (if c then a else b) := by split <;> rfl
@[simp] theorem D.ite_tup (a b : List D) : (if c then D.tup a else D.tup b) = D.tup (if c then a else b) := by split <;> rfl
@[simp] theorem St.ite_some (a b : D) : (if c then some a else some b) = some (if c then a else b) := by split <;> rfl
@[simp] theorem St.ite_cons (a b : Option D) (r t : St) : (if c then a :: r else b :: t) = (if c then a else b) :: (if c then r else t) := by split <;> rfl
end
abbrev EM := St -> S -> R D
abbrev TM := St -> S -> R Bool
abbrev AM := St -> S -> R (List D)
def SZ : Nat := 16777216
@[simp] def zA (i : Nat) : EM := fun σ s => match σ[i]? with
 | some (some d) => .ok d s
 | _ => .no
@[simp] def eC (d : D) : EM := fun _ s => .ok d s
@[simp] def eOp (f : D -> D -> S -> R D) (a b : EM) : EM := fun σ s => (a σ s).bind fun x s => (b σ s).bind fun y s => f x y s
@[simp] def eUn (f : D -> S -> R D) (a : EM) : EM := fun σ s => (a σ s).bind fun x s => f x s
@[simp] def zD : AM := fun _ s => .ok [] s
@[simp] def zB (a : EM) (r : AM) : AM := fun σ s => (a σ s).bind fun x s => (r σ s).bind fun xs s => .ok (x :: xs) s
@[simp] def Qs (a : AM) : EM := fun σ s => (a σ s).bind fun xs s => if xs.length <= SZ then .ok (.tup xs) s else .no
@[simp] def alloc (o : O) (s : S) : R D := .ok (.ref s.length) (s ++ [o])
@[simp] def ji (a : AM) : EM := fun σ s => (a σ s).bind fun xs s => if xs.length <= SZ then alloc (.lst xs) s else .no
@[simp] def jN (s : S) (i : Nat) : Option (List D) := match s[i]? with
 | some (.lst xs) => some xs
 | _ => none
@[simp] def jM : D -> D -> S -> R D
 | .int i, .int j, s => .ok (.int (i + j)) s
 | .str a, .str b, s => if a.length + b.length <= SZ then .ok (.str (a ++ b)) s else .no
 | .tup a, .tup b, s => if a ≠ [] /\ a.length + b.length <= SZ then .ok (.tup (a ++ b)) s else .no
 | .ref i, .ref j, s => match s[i]?, s[j]? with
  | some (.lst xs), some (.lst ys) => if xs.length + ys.length <= SZ then alloc (.lst (xs ++ ys)) s else .no
  | _, _ => .no
 | _, _, _ => .no
@[simp] def Z4 : D -> D -> S -> R D
 | .int i, .int j, s => .ok (.int (i - j)) s
 | _, _, _ => .no
def QU (i : Int) : Bool := decide (i.natAbs < 18446744073709551616)
@[simp] def zCp : D -> D -> S -> R D
 | .int i, .int j, s => if QU i || QU j then .ok (.int (i * j)) s else .no
 | .str a, .int n, s => if 0 <= n /\ n.natAbs <= 1000000 /\ a.length * n.natAbs <= 1000000 then .ok (.str (List.replicate n.toNat a).flatten) s else .no
 | .ref p, .int n, s => match jN s p with
  | some xs => if n.natAbs <= 1000 /\ xs.length * n.natAbs <= 1000000 then alloc (.lst (List.replicate n.toNat xs).flatten) s else .no
  | none => .no
 | _, _, _ => .no
@[simp] def zAb : D -> D -> S -> R D
 | .int i, .int j, s => if 0 < j /\ j.natAbs < 1073741824 then .ok (.int (i / j)) s else .no
 | _, _, _ => .no
@[simp] def jg : D -> D -> S -> R D
 | .int i, .int j, s => if 0 < j then .ok (.int (i % j)) s else .no
 | _, _, _ => .no
@[simp] def zEN : D -> S -> R D
 | .int i, s => .ok (.int (-i)) s
 | _, _ => .no
abbrev CM := D -> D -> S -> R Bool
@[simp] def cLt : CM
 | .int i, .int j, s => .ok (decide (i < j)) s
 | .str a, .str b, s => .ok (decide (a < b)) s
 | _, _, _ => .no
@[simp] def cGt : CM
 | .int i, .int j, s => .ok (decide (j < i)) s
 | _, _, _ => .no
@[simp] def cGe : CM
 | .int i, .int j, s => .ok (decide (j <= i)) s
 | _, _, _ => .no
inductive P where
 | non | bl (b : Bool) | int (i : Int) | str (x : T) | tup (ps : List P) | lst (ps : List P)
mutual
def P.eqv : P -> P -> Bool
 | .non, .non => true
 | .bl a, .bl b => a == b
 | .int a, .int b => a == b
 | .bl a, .int b => (if a then 1 else 0) == b
 | .int a, .bl b => a == (if b then 1 else 0)
 | .str a, .str b => a == b
 | .tup a, .tup b => P.eqvs a b
 | .lst a, .lst b => P.eqvs a b
 | _, _ => false
def P.eqvs : List P -> List P -> Bool
 | [], [] => true
 | a :: r, b :: t => P.eqv a b && P.eqvs r t
 | _, _ => false
end
mutual
def P.dep : P -> Nat
 | .tup ps => P.deps ps + 1
 | .lst ps => P.deps ps + 1
 | _ => 0
def P.deps : List P -> Nat
 | [] => 0
 | p :: ps => max (P.dep p) (P.deps ps)
end
def qJ (g : Nat -> Option P) : D -> Option P
 | .non => some .non
 | .bl b => some (.bl b)
 | .int i => some (.int i)
 | .str x => some (.str x)
 | .tup ds => (all ds).map .tup
 | .ro ds => (all ds).map .lst
 | .ref i => g i
 | .ty _ => none
where all : List D -> Option (List P)
 | [] => some []
 | d :: ds => match qJ g d, all ds with
  | some p, some ps => some (p :: ps)
  | _, _ => none
def toP : Nat -> S -> D -> Option P
 | 0, _ => qJ fun _ => none
 | n + 1, s => qJ fun i => match jN s i with
  | some xs => (qJ.all (fun j => toP n s (.ref j)) xs).map .lst
  | none => none
def Jk : Nat := 9
def jJ (k : D) (kvs : List (D × D)) : Option D := kvs.lookup k
def dEq (s : S) (ws : List (D × D)) : List (D × D) -> Option Bool
 | [] => some true
 | (k, v) :: r => match jJ k ws with
  | none => some false
  | some w => match toP 8 s v, toP 8 s w, dEq s ws r with
   | some p, some q, some b => if P.dep p <= 64 /\ P.dep q <= 64 then some (P.eqv p q && b) else none
   | _, _, _ => none
def zB2 (x y : D) (s : S) : R Bool := match x, y with
 | .ref i, .ref j => match s[i]?, s[j]? with
  | some (.dct ks), some (.dct ws) => if ks.length = ws.length then (match dEq s ws ks with | some b => .ok b s | none => .no) else .ok false s
  | _, _ => .no
 | _, _ => .no
@[simp] def eqD (x y : D) (s : S) : R Bool := match x, y with
 | .str a, .str b => .ok (decide (a = b)) s
 | .int a, .int b => .ok (decide (a = b)) s
 | .bl a, .bl b => .ok (decide (a = b)) s
 | .non, .non => .ok true s
 | x, y => match toP Jk s x, toP Jk s y with
  | some p, some q => if P.dep p <= 64 /\ P.dep q <= 64 then .ok (P.eqv p q) s else .no
  | _, _ => zB2 x y s
@[simp] def cEq : CM := fun x y s => eqD x y s
@[simp] def cNe : CM := fun x y s => (eqD x y s).bind fun b s => .ok (!b) s
def zBK (a : T) : T -> Bool
 | [] => a.isEmpty
 | c :: r => a.isPrefixOf (c :: r) || zBK a r
def flat : D -> Bool
 | .non => true
 | .bl _ => true
 | .int _ => true
 | .str _ => true
 | _ => false
def eqF : D -> D -> Bool
 | .non, .non => true
 | .bl a, .bl b => a == b
 | .int a, .int b => a == b
 | .bl a, .int b => (if a then 1 else 0) == b
 | .int a, .bl b => a == (if b then 1 else 0)
 | .str a, .str b => a == b
 | _, _ => false
def zAF (x : D) (xs : List D) : Bool := xs.any fun y => eqF y x
def zt : D -> Bool
 | .int _ => true
 | .str _ => true
 | _ => false
@[simp] def inD (x y : D) (s : S) : R Bool := match y with
 | .str b => match x with
  | .str a => .ok (zBK a b) s
  | _ => .no
 | .tup ys => if flat x && ys.all flat then .ok (zAF x ys) s else .no
 | .ro ys => if flat x && ys.all flat then .ok (zAF x ys) s else .no
 | .ref i => match s[i]? with
  | some (.lst ys) => if flat x && ys.all flat then .ok (zAF x ys) s else .no
  | some (.dct kvs) => if zt x then .ok (jJ x kvs).isSome s else .no
  | some (.fdc kvs) => if zt x then .ok (jJ x kvs).isSome s else .no
  | _ => .no
 | _ => .no
@[simp] def cIn : CM := fun x y s => inD x y s
@[simp] def jr : CM := fun x y s => (inD x y s).bind fun b s => .ok (!b) s
@[simp] def QL (c : CM) (a b : EM) : EM := fun σ s => (a σ s).bind fun x s => (b σ s).bind fun y s => (c x y s).bind fun k s => .ok (.bl k) s
@[simp] def zl (c : CM) (a b : EM) : TM := fun σ s => (a σ s).bind fun x s => (b σ s).bind fun y s => c x y s
@[simp] def zEO : D -> Bool
 | .non => true
 | _ => false
@[simp] def zBe (a : EM) : TM := fun σ s => (a σ s).bind fun x s => .ok (zEO x) s
@[simp] def Jy (a : EM) : TM := fun σ s => (a σ s).bind fun x s => .ok (!zEO x) s
@[simp] def Zm : D -> S -> R Bool
 | .non, s => .ok false s
 | .bl b, s => .ok b s
 | .int i, s => .ok (decide (i ≠ 0)) s
 | .str x, s => if x.length <= SZ then .ok (!x.isEmpty) s else .no
 | .tup ds, s => .ok (!ds.isEmpty) s
 | .ro ds, s => .ok (!ds.isEmpty) s
 | .ref i, s => match s[i]? with
  | some (.lst xs) => .ok (!xs.isEmpty) s
  | some (.dct kvs) => .ok (!kvs.isEmpty) s
  | _ => .no
 | .ty _, _ => .no
@[simp] def yg (a : EM) : TM := fun σ s => (a σ s).bind Zm
@[simp] def y6 (a : TM) : TM := fun σ s => (a σ s).bind fun b s => .ok (!b) s
@[simp] def zFg (a b : TM) : TM := fun σ s => (a σ s).bind fun k s => if k then b σ s else .ok false s
@[simp] def tOr (a b : TM) : TM := fun σ s => (a σ s).bind fun k s => if k then .ok true s else b σ s
@[simp] def asB : D -> S -> R Bool
 | .bl b, s => .ok b s
 | _, _ => .no
@[simp] def zHM (a b : EM) : EM := fun σ s => (a σ s).bind fun x s => (asB x s).bind fun k s => if k then b σ s else .ok (.bl false) s
@[simp] def eOr (a b : EM) : EM := fun σ s => (a σ s).bind fun x s => (asB x s).bind fun k s => if k then .ok (.bl true) s else b σ s
def ixN (n : Nat) (i : Int) : Option Nat := if 0 <= i then (if i < n then some i.toNat else none) else if -(n : Int) <= i then some (i + n).toNat else none
def atI {α : Type} (xs : List α) (i : Int) : Option α := (ixN xs.length i).bind fun j => xs[j]?
@[simp] def zY : D -> D -> S -> R D
 | .str x, .int i, s => if x.length <= SZ then (match atI x i with | some c => .ok (.str [c]) s | none => .no) else .no
 | .tup xs, .int i, s => match atI xs i with | some d => .ok d s | none => .no
 | .ro xs, .int i, s => match atI xs i with | some d => .ok d s | none => .no
 | .ref p, k, s => match s[p]? with
  | some (.lst xs) => (match k with | .int i => (match atI xs i with | some d => .ok d s | none => .no) | _ => .no)
  | some (.dct kvs) => if zt k then (match jJ k kvs with | some d => .ok d s | none => .no) else .no
  | some (.fdc kvs) => if zt k then (match jJ k kvs with | some d => .ok d s | none => .no) else .no
  | _ => .no
 | _, _, _ => .no
def sIx (n d : Nat) : Option Int -> Nat
 | none => d
 | some v => (if v < 0 then max (v + (n : Int)) 0 else min v (n : Int)).toNat
def cut {α : Type} (xs : List α) (lo hi : Option Int) : List α := (xs.drop (sIx xs.length 0 lo)).take (sIx xs.length xs.length hi - sIx xs.length 0 lo)
abbrev OM := St -> S -> R (Option Int)
@[simp] def J7 : OM := fun _ s => .ok none s
@[simp] def Qv (a : EM) : OM := fun σ s => (a σ s).bind fun x s => match x with | .int i => .ok (some i) s | _ => .no
@[simp] def slD (x : D) (lo hi : Option Int) (s : S) : R D := match x with
 | .str z => if z.length <= SZ then .ok (.str (cut z lo hi)) s else .no
 | .tup xs => if sIx xs.length 0 lo = 0 /\ sIx xs.length xs.length hi = xs.length then .no else .ok (.tup (cut xs lo hi)) s
 | .ro xs => alloc (.lst (cut xs lo hi)) s
 | .ref p => match jN s p with
  | some xs => alloc (.lst (cut xs lo hi)) s
  | none => .no
 | _ => .no
@[simp] def eSl (a : EM) (lo hi : OM) : EM := fun σ s => (a σ s).bind fun x s => (lo σ s).bind fun l s => (hi σ s).bind fun h s => slD x l h s
abbrev F := List D -> S -> R D
@[simp] def zH (f : F) (a : AM) : EM := fun σ s => (a σ s).bind fun xs s => f xs s
@[simp] def ZU (k : Kd) (x : D) (s : S) : Bool := match x with
 | .str _ => (match k with | .str => true | _ => false)
 | .ro _ => (match k with | .list => true | _ => false)
 | .ref p => match s[p]? with
  | some (.lst _) => (match k with | .list => true | _ => false)
  | some (.dct _) => (match k with | .dict => true | _ => false)
  | _ => false
 | _ => false
@[simp] def eM (k : Kd) (f : D -> F) (o : EM) (a : AM) : EM := fun σ s => (o σ s).bind fun x s => if ZU k x s then (a σ s).bind fun xs s => f x xs s else .no
@[simp] def zO0 (c : Nat) (f : F) (o : EM) (a : AM) : EM := fun σ s => (o σ s).bind fun x s => match x with
 | .ref p => (match s[p]? with
  | some (.ins c' _) => if c' = c then (a σ s).bind fun xs s => f (x :: xs) s else .no
  | _ => .no)
 | _ => .no
@[simp] def qK : F
 | [.str x], s => if x.length <= SZ then .ok (.int x.length) s else .no
 | [.tup xs], s => .ok (.int xs.length) s
 | [.ro xs], s => .ok (.int xs.length) s
 | [.ref p], s => match s[p]? with
  | some (.lst xs) => .ok (.int xs.length) s
  | some (.dct kvs) => .ok (.int kvs.length) s
  | _ => .no
 | _, _ => .no
@[simp] def Zv (n : Kd) (x : D) (s : S) : R Bool := match x with
 | .non => .ok false s
 | .bl _ => .ok (match n with | .bool => true | .int => true | _ => false) s
 | .int _ => .ok (match n with | .int => true | _ => false) s
 | .str _ => .ok (match n with | .str => true | _ => false) s
 | .tup _ => .ok (match n with | .tuple => true | _ => false) s
 | .ro _ => .ok (match n with | .list => true | _ => false) s
 | .ty _ => .no
 | .ref p => match s[p]? with
  | some (.lst _) => .ok (match n with | .list => true | _ => false) s
  | some (.dct _) => .ok (match n with | .dict => true | _ => false) s
  | _ => .no
@[simp] def Qc : F
 | [x, .ty n], s => (Zv n x s).bind fun b s => .ok (.bl b) s
 | _, _ => .no
def jx : List D -> Option (List T)
 | [] => some []
 | .str x :: r => (jx r).map (x :: ·)
 | _ :: _ => none
def yi : List D -> Option (List Int)
 | [] => some []
 | .int x :: r => (yi r).map (x :: ·)
 | _ :: _ => none
@[simp] def zO2 (k : List D -> S -> R D) : F
 | [.tup xs], s => k xs s
 | [.ro xs], s => k xs s
 | [.ref p], s => match jN s p with
  | some xs => k xs s
  | none => .no
 | _, _ => .no
def Qx (x : T) : List T -> T
 | [] => []
 | [y] => y
 | y :: r => y ++ x ++ Qx x r
def QQ (x : T) (xs : List D) (s : S) : R D := match jx xs with
 | some ys => if (ys.map List.length).sum + ys.length * x.length <= SZ then .ok (.str (Qx x ys)) s else .no
 | none => .no
def zHt (c : Nat) : T -> List T
 | [] => [[]]
 | d :: r => if d = c then [] :: zHt c r else match zHt c r with
  | [] => [[d]]
  | p :: ps => (d :: p) :: ps
@[simp] def zG0 : F
 | [.int i], s => .ok (.int i) s
 | [.bl b], s => .ok (.int (if b then 1 else 0)) s
 | _, _ => .no
@[simp] def ZJ : F
 | [.tup xs], s => alloc (.lst xs) s
 | [.ro xs], s => alloc (.lst xs) s
 | [.ref p], s => match s[p]? with
  | some (.lst xs) => alloc (.lst xs) s
  | some (.dct kvs) => alloc (.lst (kvs.map (·.1))) s
  | _ => .no
 | _, _ => .no
@[simp] def zOz : F
 | [.ref p], s => match s[p]? with
  | some (.dct kvs) => alloc (.dct kvs) s
  | _ => .no
 | _, _ => .no
@[simp] def jt : D -> F
 | .ref p, [y], s => match s[p]? with
  | some (.lst xs) => if xs.length < SZ then .ok .non (s.set p (.lst (xs ++ [y]))) else .no
  | _ => .no
 | _, _, _ => .no
@[simp] def JP : D -> F
 | .ref p, [.ref q], s => match s[p]?, s[q]? with
  | some (.lst xs), some (.lst ys) => if xs.length + ys.length <= SZ /\ p ≠ q then .ok .non (s.set p (.lst (xs ++ ys))) else .no
  | _, _ => .no
 | _, _, _ => .no
def ja (k v : D) (kvs : List (D × D)) : List (D × D) := if (kvs.any fun p => decide (p.1 = k)) = true then kvs.map fun p => if p.1 = k then (p.1, v) else p else kvs ++ [(k, v)]
def QO : List D -> Option (List (D × D))
 | [] => some []
 | .tup [k, v] :: r => if zt k then (QO r).map ((k, v) :: ·) else none
 | _ :: _ => none
def zEL (ps : List (D × D)) : List (D × D) := ps.foldl (fun a p => ja p.1 p.2 a) []
@[simp] def QI : F
 | [.ref p], s => match s[p]? with
  | some (.lst xs) => (match QO xs with | some ps => if ps.length <= 1000 then alloc (.dct (zEL ps)) s else .no | none => .no)
  | _ => .no
 | _, _ => .no
@[simp] def jh : EM := fun _ s => alloc (.dct []) s
def JQ : List D -> List (D × D) -> Option (List (D × D))
 | [], acc => some acc
 | k :: v :: r, acc => if zt k then JQ r (ja k v acc) else none
 | _, _ => none
@[simp] def JG (a : AM) : EM := fun σ s => (a σ (s ++ [.dct []])).bind fun xs s' => match s'[s.length]? with
 | some (.dct []) => (match JQ xs [] with
  | some kvs => if kvs.length <= 15 /\ xs.length <= 30 then .ok (.ref s.length) (s'.set s.length (.dct kvs)) else .no
  | none => .no)
 | _ => .no
@[simp] def QR : D -> F
 | .ref p, [k], s => match s[p]? with
  | some (.dct kvs) => if zt k then .ok ((jJ k kvs).getD .non) s else .no
  | _ => .no
 | .ref p, [k, d], s => match s[p]? with
  | some (.dct kvs) => if zt k then .ok ((jJ k kvs).getD d) s else .no
  | _ => .no
 | _, _, _ => .no
@[simp] def zOy : F
 | [.int i, .int j], s => .ok (.int (if j < i then j else i)) s
 | _, _ => .no
@[simp] def zHJ : F
 | [.int i, .int j], s => .ok (.int (if j > i then j else i)) s
 | _, _ => .no
def jd : List T -> List T
 | [] => []
 | x :: r => insT' x (jd r)
where insT' (x : T) : List T -> List T
 | [] => [x]
 | y :: r => if y < x then y :: insT' x r else x :: y :: r
def QG (xs : List D) (s : S) : R D := match jx xs with
 | some ys => if ys.length < 64 then alloc (.lst ((jd ys).map .str)) s else .no
 | none => .no
@[simp] def zAT : F
 | [.ref p], s => match jN s p with
  | some xs => QG xs s
  | none => .no
 | _, _ => .no
@[simp] def Qn : F
 | [.ref p], s => match s[p]? with
  | some (.dct kvs) => QG (kvs.map (·.1)) s
  | _ => .no
 | _, _ => .no
def yy : List T -> List T -> List T
 | acc, [] => acc
 | acc, x :: r => yy (if acc.contains x then acc else acc ++ [x]) r
@[simp] def QC : F
 | [.ref p], s => match jN s p with
  | some xs => (match jx xs with | some ys => if ys.length <= 1000 then .ok (.int (yy [] ys).length) s else .no | none => .no)
  | none => .no
 | _, _ => .no
abbrev Gd := List (Nat × O)
def zQ (g : Gd) (s : S) : Bool := g.all fun p => decide (s[p.1]? = some p.2)
abbrev IM := St -> S -> R (List D × Gd)
@[simp] def itD : D -> S -> R (List D × Gd)
 | .str x, s => if x.length <= SZ then .ok (x.map fun c => .str [c], []) s else .no
 | .tup ds, s => .ok (ds, []) s
 | .ro ds, s => .ok (ds, []) s
 | .ref i, s => match s[i]? with
  | some (.lst xs) => .ok (xs, [(i, .lst xs)]) s
  | _ => .no
 | _, _ => .no
@[simp] def iE (a : EM) : IM := fun σ s => (a σ s).bind itD
def jQ (lo hi : Int) : List D := (List.range (hi - lo).toNat).map fun (k : Nat) => .int (lo + k)
@[simp] def jo (a : EM) : IM := fun σ s => (a σ s).bind fun x s => match x with
 | .int j => if j.natAbs < 4611686018427387904 then .ok (jQ 0 j, []) s else .no
 | _ => .no
def qt : Int -> List D -> List D
 | _, [] => []
 | k, d :: ds => .tup [.int k, d] :: qt (k + 1) ds
@[simp] def zB6 (k : Int) (a : EM) : IM := fun σ s => (a σ s).bind fun x s => match x with
 | .ro ds => .ok (qt k ds, []) s
 | .ref i => (match s[i]? with | some (.lst xs) => .ok (qt k xs, [(i, .lst xs)]) s | _ => .no)
 | _ => .no
@[simp] def zO4 (a : EM) : IM := fun σ s => (a σ s).bind fun x s => match x with
 | .tup ds => .ok (ds.reverse, []) s
 | _ => .no
@[simp] def yA (a : EM) : IM := fun σ s => (a σ s).bind fun x s => match x with
 | .ref i => (match s[i]? with | some (.fdc kvs) => .ok (kvs.map (·.1), []) s | _ => .no)
 | _ => .no
abbrev GM := D -> St -> Option St
@[simp] def zK (i : Nat) : GM := fun d σ => some (σ.set i (some d))
abbrev GMs := List D -> St -> Option St
@[simp] def QZ : GMs := fun ds σ => match ds with | [] => some σ | _ => none
@[simp] def qE (g : GM) (r : GMs) : GMs := fun ds σ => match ds with
 | [] => none
 | d :: ds => match g d σ with
  | some σ' => r ds σ'
  | none => none
@[simp] def Qi (g : GMs) : GM := fun d σ => match d with
 | .tup ds => g ds σ
 | _ => none
def qg (g : Gd) (f : D -> S -> R (Option D)) : List D -> S -> R (List D)
 | [], s => .ok [] s
 | x :: xs, s => (f x s).bind fun o s => if zQ g s then (qg g f xs s).bind fun ys s => .ok (match o with | some y => y :: ys | none => ys) s else .no
@[simp] def j9 : TM := fun _ s => .ok true s
@[simp] def j5 (n : Nat) (tg : GM) (c : TM) (e : EM) (σ : St) : D -> S -> R (Option D) := fun x s => match tg x (σ ++ List.replicate n none) with
 | none => .no
 | some σ' => (c σ' s).bind fun b s => if b then (e σ' s).bind fun d s => .ok (some d) s else .ok none s
def jy (n : Nat) (it : IM) (tg : GM) (c : TM) (e : EM) : AM := fun σ s => (it σ s).bind fun p s => if p.1.length <= SZ /\ zQ p.2 s = true then qg p.2 (j5 n tg c e σ) p.1 s else .no
@[simp] def jn (n : Nat) (it : IM) (tg : GM) (c : TM) (e : EM) : EM := fun σ s => (jy n it tg c e σ s).bind fun ys s => alloc (.lst ys) s
@[simp] def zE2 (k : List D -> S -> R D) (n : Nat) (it : IM) (tg : GM) (c : TM) (e : EM) : EM := fun σ s => (jy n it tg c e σ s).bind k
inductive RS where
 | nx (σ : St) (s : S) | rt (d : D) (s : S) | bk (σ : St) (s : S) | ct (σ : St) (s : S) | exc (e : D) (σ : St) (s : S) | no
abbrev SM := St -> S -> RS
def R.stm {α : Type} (r : R α) (σ : St) (f : α -> S -> RS) : RS := match r with
 | .ok a s => f a s
 | .exc e s => .exc e σ s
 | .no => .no
@[simp] theorem R.stm_ok {α : Type} (a : α) (s : S) (σ : St) (f : α -> S -> RS) : (R.ok a s).stm σ f = f a s := rfl
@[simp] theorem R.stm_no {α : Type} (σ : St) (f : α -> S -> RS) : (R.no : R α).stm σ f = .no := rfl
def RS.then (r : RS) (f : SM) : RS := match r with
 | .nx σ s => f σ s
 | r => r
@[simp] theorem RS.then_nx (σ : St) (s : S) (f : SM) : (RS.nx σ s).then f = f σ s := rfl
@[simp] theorem RS.then_rt (d : D) (s : S) (f : SM) : (RS.rt d s).then f = .rt d s := rfl
@[simp] theorem RS.then_no (f : SM) : RS.no.then f = .no := rfl
@[simp] theorem RS.then_bk (σ : St) (s : S) (f : SM) : (RS.bk σ s).then f = .bk σ s := rfl
section
variable {α : Type} {c : Prop} [Decidable c]
@[simp] theorem R.stm_ite (a b : R α) (σ : St) (f : α -> S -> RS) : (if c then a else b).stm σ f = if c then a.stm σ f else b.stm σ f := by split <;> rfl
@[simp] theorem RS.ite_nx (a b : St) (s : S) : (if c then RS.nx a s else RS.nx b s) = RS.nx (if c then a else b) s := by split <;> rfl
@[simp] theorem RS.ite_rt (a b : D) (s : S) : (if c then RS.rt a s else RS.rt b s) = RS.rt (if c then a else b) s := by split <;> rfl
@[simp] theorem RS.then_ite (a b : RS) (f : SM) : (if c then a else b).then f = if c then a.then f else b.then f := by split <;> rfl
end
@[simp] theorem RS.then_exc (e : D) (σ : St) (s : S) (f : SM) : (RS.exc e σ s).then f = .exc e σ s := rfl
@[simp] theorem R.stm_exc {α : Type} (e : D) (s : S) (σ : St) (f : α -> S -> RS) : (R.exc e s : R α).stm σ f = .exc e σ s := rfl
@[simp] theorem RS.then_ct (σ : St) (s : S) (f : SM) : (RS.ct σ s).then f = .ct σ s := rfl
@[simp] def jB : SM := fun σ s => .nx σ s
@[simp] def zJ (a b : SM) : SM := fun σ s => (a σ s).then b
@[simp] def qG (e : EM) : SM := fun σ s => (e σ s).stm σ fun _ s => .nx σ s
@[simp] def jE (e : EM) : SM := fun σ s => (e σ s).stm σ fun d s => .rt d s
@[simp] def zR (i : Nat) (e : EM) : SM := fun σ s => (e σ s).stm σ fun d s => .nx (σ.set i (some d)) s
@[simp] def zE3 (f : D -> D -> S -> R D) (i : Nat) (e : EM) : SM := fun σ s => match σ[i]? with
 | some (some x) => (e σ s).stm σ fun y s => (f x y s).stm σ fun z s => .nx (σ.set i (some z)) s
 | _ => .no
@[simp] def zG3 : D -> D -> S -> R D
 | .int i, .int j, s => .ok (.int (i + j)) s
 | .str a, .str b, s => if a.length + b.length <= SZ then .ok (.str (a ++ b)) s else .no
 | _, _, _ => .no
@[simp] def zBM : D -> D -> S -> R D
 | .int i, .int j, s => .ok (.int (i - j)) s
 | _, _, _ => .no
@[simp] def yj (x k y : D) (s : S) : R Unit := match x with
 | .ref p => (match s[p]? with
  | some (.lst xs) => (match k with
   | .int i => (match ixN xs.length i with | some j => .ok () (s.set p (.lst (xs.set j y))) | none => .no)
   | _ => .no)
  | some (.dct kvs) => if zt k && decide (kvs.length < SZ) then .ok () (s.set p (.dct (ja k y kvs))) else .no
  | _ => .no)
 | _ => .no
@[simp] def jf (o k e : EM) : SM := fun σ s => (e σ s).stm σ fun y s => (o σ s).stm σ fun x s => (k σ s).stm σ fun k s => (yj x k y s).stm σ fun _ s => .nx σ s
@[simp] def Jp (x k : D) (s : S) : R D := match x with
 | .ref p => (match s[p]? with
  | some (.dct kvs) => if zt k then (match jJ k kvs with | some v => .ok v s | none => .no) else .no
  | _ => .no)
 | _ => .no
@[simp] def Q0 (x k y : D) (s : S) : R Unit := match x with
 | .ref p => (match s[p]? with
  | some (.dct kvs) => if zt k && decide (kvs.length < SZ) then .ok () (s.set p (.dct (ja k y kvs))) else .no
  | _ => .no)
 | _ => .no
@[simp] def JH (f : D -> D -> S -> R D) (o k e : EM) : SM := fun σ s => (o σ s).stm σ fun x s => (k σ s).stm σ fun k s => (Jp x k s).stm σ fun v s => (e σ s).stm σ fun y s => (f v y s).stm σ fun z s => (Q0 x k z s).stm σ fun _ s => .nx σ s
@[simp] def sIf (c : TM) (a b : SM) : SM := fun σ s => (c σ s).stm σ fun k s => if k then a σ s else b σ s
def jm (g : Gd) (f : D -> SM) : List D -> SM
 | [], σ, s => .nx σ s
 | x :: xs, σ, s => match f x σ s with
  | .nx σ s => if zQ g s then jm g f xs σ s else .no
  | .ct σ s => if zQ g s then jm g f xs σ s else .no
  | .bk σ s => .nx σ s
  | r => r
@[simp] def jU (tg : GM) (b : SM) : D -> SM := fun x σ s => match tg x σ with
 | some σ' => b σ' s
 | none => .no
@[simp] def jc (it : IM) (tg : GM) (b : SM) : SM := fun σ s => (it σ s).stm σ fun p s => if zQ p.2 s = true then jm p.2 (jU tg b) p.1 σ s else .no
@[simp] def thaw (i : Nat) (kvs : List (D × D)) : RS -> RS
 | .nx σ s => if s[i]? = some (.fdc kvs) then .nx σ (s.set i (.dct kvs)) else .no
 | .bk σ s => if s[i]? = some (.fdc kvs) then .bk σ (s.set i (.dct kvs)) else .no
 | .ct σ s => if s[i]? = some (.fdc kvs) then .ct σ (s.set i (.dct kvs)) else .no
 | .rt d s => if s[i]? = some (.fdc kvs) then .rt d (s.set i (.dct kvs)) else .no
 | _ => .no
@[simp] def yC (m : EM) (tg : GM) (b : SM) : SM := fun σ s => (m σ s).stm σ fun x s => match x with
 | .ref i => (match s[i]? with
  | some (.dct kvs) => thaw i kvs (jm [] (jU tg b) (kvs.map fun p => .tup [p.1, p.2]) σ (s.set i (.fdc kvs)))
  | _ => .no)
 | _ => .no
@[simp] def jw (m : EM) (tg : GM) (b : SM) : SM := fun σ s => (m σ s).stm σ fun x s => match x with
 | .ref i => (match s[i]? with
  | some (.dct kvs) => thaw i kvs (jm [] (jU tg b) (kvs.map (·.1)) σ (s.set i (.fdc kvs)))
  | _ => .no)
 | _ => .no
@[simp] def JB (i : Nat) (b : SM) : SM := fun σ s => match σ[i]? with
 | some (some (.ref p)) => (match s[p]? with
  | some (.dct kvs) => thaw p kvs (b σ (s.set p (.fdc kvs)))
  | _ => .no)
 | _ => .no
@[simp] def JI (i : Nat) : RS -> RS
 | .nx σ s => .nx (σ.set i none) s
 | .bk σ s => .bk (σ.set i none) s
 | .ct σ s => .ct (σ.set i none) s
 | .rt d s => .rt d s
 | _ => .no
@[simp] def qq (i : Nat) (b : SM) : SM := fun σ s => JI i (b (σ.set i none) s)
def qj : Nat -> TM -> SM -> SM
 | 0, _, _, _, _ => .no
 | n + 1, c, b, σ, s => (c σ s).stm σ fun k s => if k then (match b σ s with
  | .nx σ s => qj n c b σ s
  | .ct σ s => qj n c b σ s
  | .bk σ s => .nx σ s
  | r => r) else .nx σ s
def zBu : Nat := 1000000000000
@[simp] def zA8 (c : TM) (b : SM) : SM := fun σ s => qj zBu c b σ s
def RS.out (r : RS) : R D := match r with
 | .rt d s => .ok d s
 | .nx _ s => .ok .non s
 | .exc e _ s => .exc e s
 | _ => .no
@[simp] theorem RS.out_rt (d : D) (s : S) : (RS.rt d s).out = .ok d s := rfl
@[simp] theorem RS.out_nx (σ : St) (s : S) : (RS.nx σ s).out = .ok .non s := rfl
@[simp] theorem RS.out_no : RS.no.out = .no := rfl
@[simp] theorem RS.out_exc (e : D) (σ : St) (s : S) : (RS.exc e σ s).out = .exc e s := rfl
@[simp] theorem RS.out_ite {c : Prop} [Decidable c] (a b : RS) : (if c then a else b).out = if c then a.out else b.out := by split <;> rfl
@[simp] def fn (n : Nat) (b : SM) : F := fun xs s => (b (xs.map some ++ List.replicate (n - xs.length) none) s).out
def D.cl (n : Nat) : D -> Bool
 | .ref i => decide (i < n)
 | .tup ds => all ds
 | .ro ds => all ds
 | _ => true
where all : List D -> Bool
 | [] => true
 | d :: ds => D.cl n d && all ds
def O.cl (n : Nat) : O -> Bool
 | .lst xs => D.cl.all n xs
 | .dct kvs => kvs.all fun p => D.cl n p.1 && D.cl n p.2
 | .fdc kvs => kvs.all fun p => D.cl n p.1 && D.cl n p.2
 | .ins _ fs => fs.all fun o => match o with | some d => D.cl n d | none => true
def clS (n : Nat) (s : S) : Bool := s.all (O.cl n)
def D.ren (e : List Nat) : D -> D
 | .ref i => .ref (e.getD i i)
 | .tup ds => .tup (all ds)
 | .ro ds => .ro (all ds)
 | d => d
where all : List D -> List D
 | [] => []
 | d :: ds => D.ren e d :: all ds
def O.ren (e : List Nat) : O -> O
 | .lst xs => .lst (D.ren.all e xs)
 | .dct kvs => .dct (kvs.map fun p => (D.ren e p.1, D.ren e p.2))
 | .fdc kvs => .fdc (kvs.map fun p => (D.ren e p.1, D.ren e p.2))
 | .ins c fs => .ins c (fs.map (Option.map (D.ren e)))
end M
namespace M
structure Emb (n : Nat) (e : List Nat) (S' S1 : S) : Prop where
 len : e.length = S'.length
 nd : e.Nodup
 le : n <= S'.length
 old : ∀ i, i < n -> e[i]? = some i
 obj : ∀ (i : Nat) o, S'[i]? = some o -> ∃ j, e[i]? = some j /\ S1[j]? = some (O.ren e o) /\ O.cl S'.length o = true
def jS (n : Nat) (f q : F) : Prop := ∀ ds S, ds.length = n -> clS S.length S = true -> D.cl.all S.length ds = true ->
 q ds S = .no \/ ∃ d S' S1 e, q ds S = .ok d S' /\ f ds S = .ok (D.ren e d) S1 /\ Emb S.length e S' S1 /\ D.cl S'.length d = true
section
variable {e : List Nat}
mutual
theorem D.ren_id (h : ∀ i, e.getD i i = i) : ∀ d : D, D.ren e d = d
 | .non => rfl
 | .bl _ => rfl
 | .int _ => rfl
 | .str _ => rfl
 | .ty _ => rfl
 | .ref i => by show D.ref (e.getD i i) = _; rw [h]
 | .tup ds => by show D.tup (D.ren.all e ds) = _; rw [D.rens_id h]
 | .ro ds => by show D.ro (D.ren.all e ds) = _; rw [D.rens_id h]
theorem D.rens_id (h : ∀ i, e.getD i i = i) : ∀ ds : List D, D.ren.all e ds = ds
 | [] => rfl
 | d :: ds => by show D.ren e d :: D.ren.all e ds = _; rw [D.ren_id h, D.rens_id h]
end
theorem O.ren_id (h : ∀ i, e.getD i i = i) (o : O) : O.ren e o = o := by
 cases o with
 | lst xs => show O.lst _ = _; rw [D.rens_id h]
 | dct kvs =>
  show O.dct (kvs.map fun p => (D.ren e p.1, D.ren e p.2)) = _
  have : (fun p : D × D => (D.ren e p.1, D.ren e p.2)) = id := by funext p; rw [D.ren_id h, D.ren_id h]; rfl
  rw [this, List.map_id]
 | fdc kvs =>
  show O.fdc (kvs.map fun p => (D.ren e p.1, D.ren e p.2)) = _
  have : (fun p : D × D => (D.ren e p.1, D.ren e p.2)) = id := by funext p; rw [D.ren_id h, D.ren_id h]; rfl
  rw [this, List.map_id]
 | ins c fs =>
  show O.ins c (fs.map (Option.map (D.ren e))) = _
  have : Option.map (D.ren e) = id := by funext o; cases o with | none => rfl | some d => show some _ = _; rw [D.ren_id h]; rfl
  rw [this, List.map_id]
theorem zCV (n i : Nat) : (List.range n).getD i i = i := by
 rw [List.getD_eq_getElem?_getD]
 by_cases h : i < n
 ·rw [List.getElem?_range h]; rfl
 ·rw [List.getElem?_eq_none (by simp; omega)]; rfl
end
section
variable {e : List Nat} {n : Nat}
mutual
theorem D.ren_old (h : ∀ i, i < n -> e[i]? = some i) : ∀ d : D, D.cl n d = true -> D.ren e d = d
 | .non, _ => rfl
 | .bl _, _ => rfl
 | .int _, _ => rfl
 | .str _, _ => rfl
 | .ty _, _ => rfl
 | .ref i, c => by
  have hi : i < n := of_decide_eq_true c
  show D.ref (e.getD i i) = _
  rw [List.getD_eq_getElem?_getD, h i hi]; rfl
 | .tup ds, c => by show D.tup (D.ren.all e ds) = _; rw [D.rens_old h ds c]
 | .ro ds, c => by show D.ro (D.ren.all e ds) = _; rw [D.rens_old h ds c]
theorem D.rens_old (h : ∀ i, i < n -> e[i]? = some i) : ∀ ds : List D, D.cl.all n ds = true -> D.ren.all e ds = ds
 | [], _ => rfl
 | d :: ds, c => by
  have c' : (D.cl n d && D.cl.all n ds) = true := c
  rw [Bool.and_eq_true] at c'
  show D.ren e d :: D.ren.all e ds = _
  rw [D.ren_old h d c'.1, D.rens_old h ds c'.2]
end
theorem O.ren_old (h : ∀ i, i < n -> e[i]? = some i) (o : O) (c : O.cl n o = true) : O.ren e o = o := by
 cases o with
 | lst xs => show O.lst _ = _; rw [D.rens_old h xs c]
 | dct kvs =>
  show O.dct (kvs.map fun p => (D.ren e p.1, D.ren e p.2)) = _
  congr 1
  conv => rhs; rw [<- List.map_id kvs]
  refine List.map_congr_left fun p hp => ?_
  have c1 := List.all_eq_true.mp c p hp
  rw [Bool.and_eq_true] at c1
  rw [D.ren_old h _ c1.1, D.ren_old h _ c1.2]; rfl
 | fdc kvs =>
  show O.fdc (kvs.map fun p => (D.ren e p.1, D.ren e p.2)) = _
  congr 1
  conv => rhs; rw [<- List.map_id kvs]
  refine List.map_congr_left fun p hp => ?_
  have c1 := List.all_eq_true.mp c p hp
  rw [Bool.and_eq_true] at c1
  rw [D.ren_old h _ c1.1, D.ren_old h _ c1.2]; rfl
 | ins cc fs =>
  show O.ins cc (fs.map (Option.map (D.ren e))) = _
  congr 1
  conv => rhs; rw [<- List.map_id fs]
  refine List.map_congr_left fun p hp => ?_
  cases p with
  | none => rfl
  | some d =>
   have c1 := List.all_eq_true.mp c (some d) hp
   show some _ = some _
   rw [D.ren_old h d c1]
mutual
theorem D.cl_mono {m : Nat} (h : n <= m) : ∀ d : D, D.cl n d = true -> D.cl m d = true
 | .non, _ => rfl
 | .bl _, _ => rfl
 | .int _, _ => rfl
 | .str _, _ => rfl
 | .ty _, _ => rfl
 | .ref i, c => decide_eq_true (Nat.lt_of_lt_of_le (of_decide_eq_true c) h)
 | .tup ds, c => D.cls_mono h ds c
 | .ro ds, c => D.cls_mono h ds c
theorem D.cls_mono {m : Nat} (h : n <= m) : ∀ ds : List D, D.cl.all n ds = true -> D.cl.all m ds = true
 | [], _ => rfl
 | d :: ds, c => by
  have c' : (D.cl n d && D.cl.all n ds) = true := c
  rw [Bool.and_eq_true] at c'
  show (D.cl m d && D.cl.all m ds) = true
  rw [D.cl_mono h d c'.1, D.cls_mono h ds c'.2]; rfl
end
theorem O.cl_mono {m : Nat} (h : n <= m) (o : O) (c : O.cl n o = true) : O.cl m o = true := by
 cases o with
 | lst xs => exact D.cls_mono h xs c
 | dct kvs =>
  refine List.all_eq_true.mpr fun p hp => ?_
  have c1 := List.all_eq_true.mp c p hp
  rw [Bool.and_eq_true] at c1 ⊢
  exact ⟨D.cl_mono h _ c1.1, D.cl_mono h _ c1.2⟩
 | fdc kvs =>
  refine List.all_eq_true.mpr fun p hp => ?_
  have c1 := List.all_eq_true.mp c p hp
  rw [Bool.and_eq_true] at c1 ⊢
  exact ⟨D.cl_mono h _ c1.1, D.cl_mono h _ c1.2⟩
 | ins cc fs =>
  refine List.all_eq_true.mpr fun p hp => ?_
  have c1 := List.all_eq_true.mp c p hp
  cases p with
  | none => rfl
  | some d => exact D.cl_mono h d c1
theorem zGE {S : M.S} (h : clS n S = true) {i : Nat} {o : O} (e : S[i]? = some o) : O.cl n o = true := List.all_eq_true.mp h o (List.mem_of_getElem? e)
end
theorem zJI {S S' g : M.S} (hn : S.length <= S'.length) (c : clS S'.length S' = true) : Emb S.length (List.range S'.length) S' (S' ++ g) :=
 ⟨by simp, List.nodup_range, hn, fun i hi => by rw [List.getElem?_range (by omega)], fun i o q => by
  have hi : i < S'.length := (List.getElem?_eq_some_iff.mp q).1
  exact ⟨i, by rw [List.getElem?_range hi], by rw [List.getElem?_append_left hi, O.ren_id (zCV _), q], zGE c q⟩⟩
theorem zLP {S g : M.S} {o : O} {j : Nat} (c : clS S.length S = true) (co : O.cl S.length o = true) (hj : (S ++ g)[j]? = some o) (hle : S.length <= j) : Emb S.length (List.range S.length ++ [j]) (S ++ [o]) (S ++ g) := by
 have old : ∀ i, i < S.length -> (List.range S.length ++ [j])[i]? = some i := fun i hi => by
  rw [List.getElem?_append_left (by simpa using hi), List.getElem?_range hi]
 refine ⟨by simp, ?_, by simp, old, fun i ob q => ?_⟩
 ·rw [List.nodup_append]
  refine ⟨List.nodup_range, by simp, fun a ha b hb => ?_⟩
  have h1 := List.mem_range.mp ha
  have h2 : b = j := by simpa using hb
  omega
 ·by_cases hi : i < S.length
  ·rw [List.getElem?_append_left hi] at q
   have cq := zGE c q
   exact ⟨i, old i hi, by rw [List.getElem?_append_left hi, O.ren_old old ob cq, q], O.cl_mono (by simp) ob cq⟩
  ·rw [List.getElem?_append_right (by omega)] at q
   have hz : i - S.length = 0 := by
    cases hz : i - S.length with
    | zero => rfl
    | succ k => rw [hz] at q; simp at q
   rw [hz] at q
   simp at q
   subst q
   refine ⟨j, ?_, by rw [O.ren_old old o co, hj], O.cl_mono (by simp) o co⟩
   rw [List.getElem?_append_right (by simp; omega)]
   simp [hz]
theorem jS.pure {n : Nat} {f q : F} (h : ∀ ds S, ds.length = n -> clS S.length S = true -> D.cl.all S.length ds = true -> q ds S = .no \/ ∃ d g, q ds S = .ok d S /\ f ds S = .ok d (S ++ g) /\ D.cl S.length d = true) : jS n f q := fun ds S hl c ca => by
 rcases h ds S hl c ca with e | ⟨d, g, e1, e2, e3⟩
 ·exact .inl e
 ·exact .inr ⟨d, S, S ++ g, List.range S.length, e1, by rw [D.ren_id (zCV _)]; exact e2, zJI (Nat.le_refl _) c, e3⟩
theorem jS.new {n : Nat} {f q : F} (h : ∀ ds S, ds.length = n -> clS S.length S = true -> D.cl.all S.length ds = true -> q ds S = .no \/ ∃ o j g, q ds S = alloc o S /\ f ds S = .ok (.ref j) (S ++ g) /\ (S ++ g)[j]? = some o /\ S.length <= j /\ O.cl S.length o = true) : jS n f q := fun ds S hl c ca => by
 rcases h ds S hl c ca with e | ⟨o, j, g, e1, e2, e3, e4, e5⟩
 ·exact .inl e
 ·refine .inr ⟨.ref S.length, S ++ [o], S ++ g, List.range S.length ++ [j], e1, ?_, zLP c e5 e3 e4, ?_⟩
  ·rw [e2]
   show R.ok (D.ref j) _ = R.ok (D.ref ((List.range S.length ++ [j]).getD S.length S.length)) _
   rw [List.getD_eq_getElem?_getD, List.getElem?_append_right (by simp)]
   simp
  ·show decide (S.length < (S ++ [o]).length) = true
   simp
noncomputable def chS (m : F) : F := fun ds s => @dite (R D) (∃ d g, m ds s = .ok d (s ++ g) /\ D.cl s.length d = true) (Classical.propDecidable _) (fun h => .ok h.choose s) (fun _ => .no)
theorem zIk {n : Nat} (m : F) : jS n m (chS m) := jS.pure fun ds S hl c ca => by
 unfold chS
 by_cases h : ∃ d g, m ds S = .ok d (S ++ g) /\ D.cl S.length d = true
 ·obtain ⟨g, e, k⟩ := h.choose_spec
  exact .inr ⟨h.choose, g, by rw [dif_pos h], e, k⟩
 ·exact .inl (by rw [dif_neg h])
theorem zIQ {m : F} {ds : List D} {s g : S} {d : D} (e : m ds s = .ok d (s ++ g)) (k : D.cl s.length d = true) : chS m ds s = .ok d s := by
 have h : ∃ d g, m ds s = .ok d (s ++ g) /\ D.cl s.length d = true := ⟨d, g, e, k⟩
 obtain ⟨g', e', _⟩ := h.choose_spec
 have e2 : d = h.choose := by
  have e3 := e.symm.trans e'
  injection e3
 unfold chS
 rw [dif_pos h, <- e2]
noncomputable def chN (m : F) : F := fun ds s => @dite (R D) (∃ o j g, m ds s = .ok (.ref j) (s ++ g) /\ (s ++ g)[j]? = some o /\ s.length <= j /\ O.cl s.length o = true) (Classical.propDecidable _) (fun h => alloc h.choose s) (fun _ => .no)
theorem zBH {n : Nat} (m : F) : jS n m (chN m) := jS.new fun ds S hl c ca => by
 unfold chN
 by_cases h : ∃ o j g, m ds S = .ok (.ref j) (S ++ g) /\ (S ++ g)[j]? = some o /\ S.length <= j /\ O.cl S.length o = true
 ·obtain ⟨j, g, e, k⟩ := h.choose_spec
  exact .inr ⟨h.choose, j, g, by rw [dif_pos h], e, k⟩
 ·exact .inl (by rw [dif_neg h])
theorem zBE {m : F} {ds : List D} {s g : S} {j : Nat} {o : O} (e : m ds s = .ok (.ref j) (s ++ g)) (q : (s ++ g)[j]? = some o) (l : s.length <= j) (k : O.cl s.length o = true) : chN m ds s = alloc o s := by
 have h : ∃ o j g, m ds s = .ok (.ref j) (s ++ g) /\ (s ++ g)[j]? = some o /\ s.length <= j /\ O.cl s.length o = true := ⟨o, j, g, e, q, l, k⟩
 obtain ⟨j', g', e', q', _⟩ := h.choose_spec
 have e4 := e.symm.trans e'
 injection e4 with e1 e2
 injection e1 with e1
 have e3 : o = h.choose := by
  have q2 := q
  rw [e2, e1] at q2
  exact Option.some.inj (q2.symm.trans q')
 unfold chN
 rw [dif_pos h, <- e3]
end M
namespace M
theorem zBJ {g : Gd} {f : D -> S -> R (Option D)} {s : S} {h : D -> D} (hg : zQ g s = true) : ∀ {xs : List D}, (∀ x ∈ xs, f x s = .ok (some (h x)) s) -> qg g f xs s = .ok (xs.map h) s
 | [], _ => rfl
 | x :: xs, e => by
  show (f x s).bind _ = _
  rw [e x List.mem_cons_self, R.bind_ok, if_pos hg, zBJ hg fun y hy => e y (List.mem_cons_of_mem _ hy)]
  rfl
theorem zBB {g : Gd} {f : D -> S -> R (Option D)} {s : S} {p : D -> Bool} {h : D -> D} (hg : zQ g s = true) : ∀ {xs : List D}, (∀ x ∈ xs, f x s = .ok (if p x then some (h x) else none) s) -> qg g f xs s = .ok ((xs.filter p).map h) s
 | [], _ => rfl
 | x :: xs, e => by
  show (f x s).bind _ = _
  rw [e x List.mem_cons_self, R.bind_ok, if_pos hg, zBB hg fun y hy => e y (List.mem_cons_of_mem _ hy), R.bind_ok]
  cases hp : p x <;> simp [hp]
theorem zEh {n : Nat} {it : IM} {tg : GM} {e : EM} {σ : St} {s : S} {xs : List D} {g : Gd} (h : D -> D) (hi : it σ s = .ok (xs, g) s) (hl : xs.length <= SZ) (hg : zQ g s = true) (he : ∀ x ∈ xs, j5 n tg j9 e σ x s = .ok (some (h x)) s) : jy n it tg j9 e σ s = .ok (xs.map h) s := by
 unfold jy
 rw [hi, R.bind_ok, if_pos ⟨hl, hg⟩]
 exact zBJ hg he
theorem zAr {n : Nat} {it : IM} {tg : GM} {e : EM} {σ : St} {s : S} {lo hi : Int} (h : Nat -> D) (hit : it σ s = .ok (jQ lo hi, []) s) (hl : (hi - lo).toNat <= SZ) (he : ∀ k : Nat, k < (hi - lo).toNat -> j5 n tg j9 e σ (.int (lo + k)) s = .ok (some (h k)) s) :
  jy n it tg j9 e σ s = .ok ((List.range (hi - lo).toNat).map h) s := by
 have := zEh (n := n) (tg := tg) (e := e) (fun d => match d with | .int i => h (i - lo).toNat | d => d) hit (by simpa [jQ] using hl) rfl fun x hx => by
  obtain ⟨k, hk, rfl⟩ := List.mem_map.mp hx
  have e : (lo + (k : Int) - lo).toNat = k := by omega
  rw [he k (List.mem_range.mp hk)]
  show R.ok (some (h k)) s = R.ok (some (h (lo + (k : Int) - lo).toNat)) s
  rw [e]
 rw [this]
 unfold jQ
 rw [List.map_map]
 have e2 : ∀ k : Nat, (lo + (k : Int) - lo).toNat = k := fun k => by omega
 have e3 : ((fun d => match d with | .int i => h (i - lo).toNat | d => d) ∘ fun (k : Nat) => D.int (lo + k)) = h := by
  funext k
  show h (lo + (k : Int) - lo).toNat = h k
  rw [e2]
 rw [e3]
theorem zMX {α : Type} (xs : List α) {k : Int} (h : 0 <= k) : cut xs none (some k) = xs.take k.toNat := by
 unfold cut sIx
 have : ¬ k < 0 := by omega
 simp only [List.drop_zero, if_neg this, Nat.sub_zero]
 by_cases hk : k <= xs.length
 ·rw [show (min k (xs.length : Int)).toNat = k.toNat by omega]
 ·rw [List.take_of_length_le (by omega), List.take_of_length_le (by omega)]
theorem zIN {α : Type} (xs : List α) {k : Int} (h : 0 <= k) : cut xs (some k) none = xs.drop k.toNat := by
 unfold cut sIx
 have : ¬ k < 0 := by omega
 simp only [if_neg this]
 by_cases hk : k <= xs.length
 ·rw [show (min k (xs.length : Int)).toNat = k.toNat by omega, List.take_of_length_le (by rw [List.length_drop]; omega)]
 ·rw [List.drop_of_length_le (by omega), List.drop_of_length_le (by omega)]; simp
theorem zDj {α : Type} (f : α -> T) (xs : List α) : jx (xs.map fun x => .str (f x)) = some (xs.map f) := by
 induction xs with
 | nil => rfl
 | cons x xs ih => show (jx (xs.map fun x => D.str (f x))).map _ = _; rw [ih]; rfl
theorem J0 (xs : List T) : jx (xs.map .str) = some xs := by
 have := zDj (fun x : T => x) xs
 rwa [List.map_id'] at this
theorem zD6 (xs : List T) : Qx [] xs = xs.flatten := by
 induction xs with
 | nil => rfl
 | cons x xs ih =>
  cases xs with
  | nil => simp [Qx]
  | cons y ys => show x ++ [] ++ Qx [] (y :: ys) = _; rw [ih]; simp
theorem zFI {α β : Type} (f : α -> β) (xs : List α) : (xs.map fun x => [f x]).flatten = xs.map f := by
 induction xs with
 | nil => rfl
 | cons x xs ih => rw [List.map_cons, List.flatten_cons, ih]; rfl
theorem zI9 {α : Type} (f : α -> Nat) (xs : List α) : ((xs.map fun x => [f x]).map List.length).sum = xs.length := by
 induction xs with
 | nil => rfl
 | cons x xs ih => rw [List.map_cons, List.map_cons, List.sum_cons, ih, List.length_cons]; show 1 + xs.length = xs.length + 1; omega
theorem zH9 {α : Type} (f : α -> Nat) (xs : List α) (s : S) (h : xs.length <= SZ) : QQ [] (xs.map fun x => .str [f x]) s = .ok (.str (xs.map f)) s := by
 unfold QQ
 rw [zDj]
 dsimp only
 rw [if_pos, zD6, zFI]
 rw [zI9]
 simpa using h
theorem zAR (n : Nat) : ∀ ts : List T, D.cl.all n (ts.map .str) = true
 | [] => rfl
 | _ :: ts => by
  show (D.cl n (.str _) && D.cl.all n (ts.map .str)) = true
  rw [zAR n ts]; rfl
theorem zBy (x : T) : ∀ ts : List T, zAF (.str x) (ts.map .str) = ts.contains x
 | [] => rfl
 | t :: ts => by
  have := zBy x ts
  unfold zAF at this ⊢
  rw [List.map_cons, List.any_cons, this, List.contains_cons]
  simp [eqF, BEq.comm (a := t)]
theorem zDo (ts : List T) : (ts.map D.str).all flat = true := by
 rw [List.all_map]; exact List.all_eq_true.mpr fun _ _ => rfl
theorem zDR {α : Type} {xs : List α} {k : Int} (h0 : 0 <= k) (h : k < xs.length) (d : α) : atI xs k = some (xs.getD k.toNat d) := by
 unfold atI ixN
 rw [if_pos h0, if_pos h]
 have hk : k.toNat < xs.length := by omega
 simp [List.getD_eq_getElem?_getD, hk]
theorem zd {S : M.S} {p : Nat} {o : O} (e : S[p]? = some o) (g : M.S) : (S ++ g)[p]? = some o := by
 rw [List.getElem?_append_left (List.getElem?_eq_some_iff.mp e).1]
 exact e
theorem zH8 {n : Nat} {it : IM} {tg : GM} {e : EM} {σ : St} {s s1 : S} {xs : List D} {g : Gd} (h : D -> D) (hi : it σ s = .ok (xs, g) s1) (hl : xs.length <= SZ) (hg : zQ g s1 = true) (he : ∀ x ∈ xs, j5 n tg j9 e σ x s1 = .ok (some (h x)) s1) : jy n it tg j9 e σ s = .ok (xs.map h) s1 := by
 unfold jy
 rw [hi, R.bind_ok, if_pos ⟨hl, hg⟩]
 exact zBJ hg he
theorem zEo {n : Nat} {it : IM} {tg : GM} {c : TM} {e : EM} {σ : St} {s s1 : S} {xs : List D} {g : Gd} (p : D -> Bool) (h : D -> D) (hi : it σ s = .ok (xs, g) s1) (hl : xs.length <= SZ) (hg : zQ g s1 = true) (he : ∀ x ∈ xs, j5 n tg c e σ x s1 = .ok (if p x then some (h x) else none) s1) : jy n it tg c e σ s = .ok ((xs.filter p).map h) s1 := by
 unfold jy
 rw [hi, R.bind_ok, if_pos ⟨hl, hg⟩]
 exact zBB hg he
theorem zAZ {n : Nat} {it : IM} {tg : GM} {c : TM} {e : EM} {σ : St} {s s1 : S} {ts : List T} {g : Gd} (p : T -> Bool) (hi : it σ s = .ok (ts.map .str, g) s1) (hl : ts.length <= SZ) (hg : zQ g s1 = true) (he : ∀ x ∈ ts, j5 n tg c e σ (.str x) s1 = .ok (if p x then some (.str x) else none) s1) : jy n it tg c e σ s = .ok ((ts.filter p).map .str) s1 := by
 rw [zEo (fun d => match d with | .str y => p y | _ => false) id hi (by simpa using hl) hg fun d hd => by
  obtain ⟨y, hy, rfl⟩ := List.mem_map.mp hd
  exact he y hy]
 rw [List.map_id, List.filter_map]
 rfl
theorem zFO {g : Gd} {f : D -> SM} {s : S} (hg : zQ g s = true) (I : St -> Prop) : ∀ (xs : List D) (σ : St), I σ -> (∀ x ∈ xs, ∀ σ, I σ -> ∃ σ', f x σ s = .nx σ' s /\ I σ') -> ∃ σ', jm g f xs σ s = .nx σ' s /\ I σ'
 | [], σ, h, _ => ⟨σ, rfl, h⟩
 | x :: xs, σ, h, e => by
  obtain ⟨σ1, e1, h1⟩ := e x List.mem_cons_self σ h
  obtain ⟨σ2, e2, h2⟩ := zFO hg I xs σ1 h1 fun y hy => e y (List.mem_cons_of_mem _ hy)
  refine ⟨σ2, ?_, h2⟩
  show (match f x σ s with | .nx σ s => if zQ g s then jm g f xs σ s else .no | .ct σ s => if zQ g s then jm g f xs σ s else .no | .bk σ s => .nx σ s | r => r) = _
  rw [e1]
  dsimp only
  rw [if_pos hg, e2]
theorem ql {g : Gd} {f : D -> SM} (I : Nat -> St -> S -> Prop) : ∀ (xs : List D) (i : Nat) (σ : St) (s : S), I i σ s -> (∀ (j : Nat) x, xs[j]? = some x -> ∀ σ s, I (i + j) σ s -> ∃ σ' s', f x σ s = .nx σ' s' /\ zQ g s' = true /\ I (i + j + 1) σ' s') -> ∃ σ' s', jm g f xs σ s = .nx σ' s' /\ I (i + xs.length) σ' s'
 | [], i, σ, s, h, _ => ⟨σ, s, rfl, h⟩
 | x :: xs, i, σ, s, h, e => by
  obtain ⟨σ1, s1, e1, hg, h1⟩ := e 0 x rfl σ s h
  obtain ⟨σ2, s2, e2, h2⟩ := ql I xs (i + 1) σ1 s1 h1 fun j y hy σ s hI => by
   have := e (j + 1) y (by simpa using hy) σ s (by rw [show i + (j + 1) = i + 1 + j by omega]; exact hI)
   rwa [show i + (j + 1) + 1 = i + 1 + j + 1 by omega] at this
  refine ⟨σ2, s2, ?_, by rw [List.length_cons, show i + (xs.length + 1) = i + 1 + xs.length by omega]; exact h2⟩
  show (match f x σ s with | .nx σ s => if zQ g s then jm g f xs σ s else .no | .ct σ s => if zQ g s then jm g f xs σ s else .no | .bk σ s => .nx σ s | r => r) = _
  rw [e1]
  dsimp only
  rw [if_pos hg, e2]
theorem zJ3 {g : Gd} {s t : S} (h : zQ g s = true) : zQ g (s ++ t) = true := by
 unfold zQ at h ⊢
 rw [List.all_eq_true] at h ⊢
 intro p hp
 exact decide_eq_true (zd (of_decide_eq_true (h p hp)) t)
theorem zCQ {g : Gd} {f : D -> S -> R (Option D)} {s0 : S} {h : D -> D} (hg : zQ g s0 = true) : ∀ {xs : List D} (t : S), (∀ x ∈ xs, ∀ t, ∃ t', f x (s0 ++ t) = .ok (some (h x)) (s0 ++ t')) -> ∃ t', qg g f xs (s0 ++ t) = .ok (xs.map h) (s0 ++ t')
 | [], t, _ => ⟨t, rfl⟩
 | x :: xs, t, e => by
  obtain ⟨t1, e1⟩ := e x List.mem_cons_self t
  obtain ⟨t2, e2⟩ := zCQ hg (xs := xs) t1 fun y hy => e y (List.mem_cons_of_mem _ hy)
  refine ⟨t2, ?_⟩
  show (f x (s0 ++ t)).bind _ = _
  rw [e1, R.bind_ok, if_pos (zJ3 hg), e2]
  rfl
theorem zIi {n : Nat} {it : IM} {tg : GM} {e : EM} {σ : St} {s : S} {xs : List D} {g : Gd} (h : D -> D) (hi : it σ s = .ok (xs, g) s) (hl : xs.length <= SZ) (hg : zQ g s = true) (he : ∀ x ∈ xs, ∀ t, ∃ t', j5 n tg j9 e σ x (s ++ t) = .ok (some (h x)) (s ++ t')) : ∃ t', jy n it tg j9 e σ s = .ok (xs.map h) (s ++ t') := by
 unfold jy
 rw [hi, R.bind_ok, if_pos ⟨hl, hg⟩]
 have := zCQ (t := []) hg he
 rwa [List.append_nil] at this
theorem zCA (g : Nat -> Option P) : ∀ ts : List T, qJ.all g (ts.map .str) = some (ts.map P.str)
 | [] => rfl
 | t :: ts => by
  show (match qJ g (.str t), qJ.all g (ts.map .str) with | some p, some ps => some (p :: ps) | _, _ => none) = _
  rw [zCA g ts]
  rfl
theorem Ju : ∀ ts : List T, P.deps (ts.map P.str) = 0
 | [] => by simp [P.deps]
 | t :: ts => by simp [P.deps, P.dep, Ju ts]
theorem zA3 : ∀ ts us : List T, P.eqvs (ts.map P.str) (us.map P.str) = decide (ts = us)
 | [], [] => by simp [P.eqvs]
 | [], u :: us => by simp [P.eqvs]
 | t :: ts, [] => by simp [P.eqvs]
 | t :: ts, u :: us => by
  simp only [List.map_cons, P.eqvs, P.eqv, zA3 ts us]
  by_cases h : t = u <;> by_cases h2 : ts = us <;> simp [h, h2]
theorem J5 {s : S} {p q : Nat} {ts us : List T} (hp : s[p]? = some (.lst (ts.map .str))) (hq : s[q]? = some (.lst (us.map .str))) : eqD (.ref p) (.ref q) s = .ok (decide (ts = us)) s := by
 have h : ∀ (r : Nat) (vs : List T), s[r]? = some (.lst (vs.map .str)) -> toP Jk s (.ref r) = some (.lst (vs.map P.str)) := fun r vs e => by
  show (match jN s r with | some xs => (qJ.all (fun j => toP 8 s (.ref j)) xs).map P.lst | none => none) = _
  have : jN s r = some (vs.map .str) := by simp [jN, e]
  rw [this]
  show (qJ.all _ (vs.map .str)).map P.lst = _
  rw [zCA]; rfl
 simp only [eqD, h p ts hp, h q us hq]
 simp only [P.dep, Ju, P.eqv, zA3]
 rfl
end M
namespace L2
open PySem PySem.Spec PyProof.Rows
def ofT (x : M.T) : Str := ⟨x.toArray⟩
theorem ju (x : M.T) : (ofT x).length = x.length := by simp [ofT, Str.length]
theorem Z8 (x : M.T) : (ofT x).cps.toList = x := by simp [ofT]
theorem zBW {x y : M.T} (h : ofT x = ofT y) : x = y := by rw [<- Z8 x, h, Z8]
theorem zGR (x y : M.T) : ofT x ++ ofT y = ofT (x ++ y) := by
 show (⟨x.toArray ++ y.toArray⟩ : Str) = _
 simp [ofT]
abbrev okT (x : M.T) : Prop := x.all (fun c => decide (c < 1114112)) = true
theorem zBO {x y : M.T} (h : okT x) (k : okT y) : okT (x ++ y) := by show (x ++ y).all _ = true; rw [List.all_append, h, k]; rfl
theorem zBL {x y : M.T} (h : okT x) (k : ∀ c ∈ y, c ∈ x) : okT y := List.all_eq_true.mpr fun c hc => List.all_eq_true.mp h c (k c hc)
theorem y7 : M.SZ = sizeLine := by rw [sizeLine_eq]; rfl
def JC (K : PySem.W.Frag) (H : Hp) (a : Addr) (xs : List V) : Prop :=
 (∃ o, H a = some (.frz o (.lst xs))) \/
  ∃ (o : Obj) (its : Array Value) (n : Nat), K.lookup a = some o /\ o.cls = .type "list" /\ o.dict = none /\ o.data = .seq its n /\ its.size <= sizeLine /\ zf xs its.toList
theorem JC.sq {K : PySem.W.Frag} {H : Hp} {a : Addr} {xs : List V} (h : JC K H a xs) : SqL K H a xs := by
 rcases h with ⟨o, h⟩ | h
 ·exact .inl (.inr ⟨o, h⟩)
 ·exact .inr h
structure Le (H H' : Hp) : Prop where
 tups : ∀ b xs, H b = some (.tup xs) -> H' b = some (.tup xs)
 frzs : ∀ b o u, H b = some (.frz o u) -> H' b = some (.frz o u)
theorem Le.refl (H : Hp) : Le H H := ⟨fun _ _ h => h, fun _ _ _ h => h⟩
theorem Le.trans {H H1 H2 : Hp} (a : Le H H1) (b : Le H1 H2) : Le H H2 := ⟨fun c xs h => b.tups c xs (a.tups c xs h), fun c o u h => b.frzs c o u (a.frzs c o u h)⟩
theorem Le.new {H : Hp} {p : Addr} (h : H p = none) (o : HO) : Le H (upd H p o) :=
 ⟨fun b xs q => by rw [zT (j8 q h)]; exact q, fun b o u q => by rw [zT (j8 q h)]; exact q⟩
theorem Le.put {H : Hp} {p : Addr} (h : Mut (H p)) (o : HO) : Le H (upd H p o) :=
 ⟨fun b xs q => by rw [zT (fun z => by subst z; rw [q] at h; exact h)]; exact q, fun b o u q => by rw [zT (fun z => by subst z; rw [q] at h; exact h)]; exact q⟩
theorem Le.rol {K : PySem.W.Frag} {H H' : Hp} {a : Addr} {xs : List V} (e : Le H H') (h : JC K H a xs) : JC K H' a xs := by
 rcases h with ⟨o, h⟩ | h
 ·exact .inl ⟨o, e.frzs _ _ _ h⟩
 ·exact .inr h
theorem Le.sqT {K : PySem.W.Frag} {H H' : Hp} {a : Addr} {xs : List V} (e : Le H H') (h : SqT K H a xs) : SqT K H' a xs := by
 rcases h with (h | ⟨o, h⟩) | h
 ·exact .inl (.inl (e.tups _ _ h))
 ·exact .inl (.inr ⟨o, e.frzs _ _ _ h⟩)
 ·exact .inr h
def qm : M.Kd -> String
 | .str => "str" | .int => "int" | .bool => "bool" | .list => "list" | .tuple => "tuple" | .dict => "dict"
def zM (K : PySem.W.Frag) (ρ : List Addr) (H : Hp) : M.D -> V -> Prop
 | .non, v => v = .non
 | .bl b, v => v = .bl b
 | .int i, v => v = .int i
 | .str x, v => v = .str (ofT x) /\ okT x
 | .ty n, v => v = .ty (qm n)
 | .ref i, v => ∃ a, v = .ref a /\ ρ[i]? = some a
 | .tup ds, v => ∃ a xs, v = .ref a /\ SqT K H a xs /\ all ds xs
 | .ro ds, v => ∃ a xs, v = .ref a /\ JC K H a xs /\ all ds xs
where all : List M.D -> List V -> Prop
 | [], xs => xs = []
 | d :: ds, xs => ∃ y ys, xs = y :: ys /\ zM K ρ H d y /\ all ds ys
abbrev zL (K : PySem.W.Frag) (ρ : List Addr) (H : Hp) : List M.D -> List V -> Prop := zM.all K ρ H
theorem Qh {ρ ρ' : List Addr} (h : ρ <+: ρ') {i : Nat} {a : Addr} (e : ρ[i]? = some a) : ρ'[i]? = some a := by
 obtain ⟨t, rfl⟩ := h
 rw [List.getElem?_append_left (List.getElem?_eq_some_iff.mp e).1]
 exact e
section
variable {K : PySem.W.Frag} {ρ ρ' : List Addr} {H H' : Hp}
mutual
theorem zM.mono (hρ : ρ <+: ρ') (le : Le H H') : ∀ {d : M.D} {v : V}, zM K ρ H d v -> zM K ρ' H' d v
 | .non, _, h => h
 | .bl _, _, h => h
 | .int _, _, h => h
 | .str _, _, h => h
 | .ty _, _, h => h
 | .ref _, _, ⟨a, e, h⟩ => ⟨a, e, Qh hρ h⟩
 | .tup _, _, ⟨a, xs, e, h, r⟩ => ⟨a, xs, e, le.sqT h, zL.mono hρ le r⟩
 | .ro _, _, ⟨a, xs, e, h, r⟩ => ⟨a, xs, e, le.rol h, zL.mono hρ le r⟩
theorem zL.mono (hρ : ρ <+: ρ') (le : Le H H') : ∀ {ds : List M.D} {xs : List V}, zL K ρ H ds xs -> zL K ρ' H' ds xs
 | [], _, h => h
 | _ :: _, _, ⟨y, ys, e, h, r⟩ => ⟨y, ys, e, zM.mono hρ le h, zL.mono hρ le r⟩
end
theorem zL.length : ∀ {ds : List M.D} {xs : List V}, zL K ρ H ds xs -> ds.length = xs.length
 | [], _, h => by cases h; rfl
 | _ :: _, _, ⟨_, _, e, _, r⟩ => by subst e; rw [List.length_cons, List.length_cons, zL.length r]
theorem zL.get : ∀ {ds : List M.D} {xs : List V} {i : Nat} {d : M.D}, zL K ρ H ds xs -> ds[i]? = some d -> ∃ v, xs[i]? = some v /\ zM K ρ H d v
 | [], _, _, _, _, e => by simp at e
 | _ :: _, _, 0, _, ⟨y, _, e1, h, _⟩, e => by subst e1; simp at e; subst e; exact ⟨y, rfl, h⟩
 | _ :: _, _, i + 1, d, ⟨_, ys, e1, _, r⟩, e => by
  subst e1
  obtain ⟨v, h1, h2⟩ := zL.get (i := i) (d := d) r (by simpa using e)
  exact ⟨v, by simpa using h1, h2⟩
theorem zL.app : ∀ {ds es : List M.D} {xs ys : List V}, zL K ρ H ds xs -> zL K ρ H es ys -> zL K ρ H (ds ++ es) (xs ++ ys)
 | [], _, _, _, h, k => by cases h; exact k
 | _ :: _, _, _, _, ⟨y, ys, e, h, r⟩, k => by subst e; exact ⟨y, _, rfl, h, zL.app r k⟩
theorem zL.take : ∀ {ds : List M.D} {xs : List V} (n : Nat), zL K ρ H ds xs -> zL K ρ H (ds.take n) (xs.take n)
 | _, _, 0, _ => rfl
 | [], _, _ + 1, h => by cases h; rfl
 | _ :: _, _, n + 1, ⟨y, ys, e, h, r⟩ => by subst e; exact ⟨y, _, rfl, h, zL.take n r⟩
theorem zL.drop : ∀ {ds : List M.D} {xs : List V} (n : Nat), zL K ρ H ds xs -> zL K ρ H (ds.drop n) (xs.drop n)
 | _, _, 0, h => h
 | [], _, _ + 1, h => by cases h; rfl
 | _ :: _, _, n + 1, ⟨y, ys, e, h, r⟩ => by subst e; exact zL.drop n r
theorem zL.set {d : M.D} {v : V} (hd : zM K ρ H d v) : ∀ {ds : List M.D} {xs : List V} (n : Nat), zL K ρ H ds xs -> zL K ρ H (ds.set n d) (xs.set n v)
 | [], _, _, h => by cases h; rfl
 | _ :: _, _, 0, ⟨y, ys, e, h, r⟩ => by subst e; exact ⟨v, ys, rfl, hd, r⟩
 | _ :: _, _, n + 1, ⟨y, ys, e, h, r⟩ => by subst e; exact ⟨y, _, rfl, h, zL.set hd n r⟩
end
section
variable {K : PySem.W.Frag} {ρ ρ' : List Addr} {H H' : Hp} {ds es : List M.D} {xs ys : List V}
theorem zM.all.mono (h : zM.all K ρ H ds xs) (hρ : ρ <+: ρ') (le : Le H H') : zM.all K ρ' H' ds xs := zL.mono hρ le h
theorem zM.all.length (h : zM.all K ρ H ds xs) : ds.length = xs.length := zL.length h
theorem zM.all.app (h : zM.all K ρ H ds xs) (k : zM.all K ρ H es ys) : zM.all K ρ H (ds ++ es) (xs ++ ys) := zL.app h k
end
def yO : M.D -> Key -> Prop
 | .int i, k => k = .inl i
 | .str x, k => k = .inr (ofT x) /\ okT x
 | _, _ => False
abbrev Tab := Nat -> Option (Addr × List Str)
structure zOM (K : PySem.W.Frag) (ρ : List Addr) (H : Hp) (N : List Str) (fs : List (Option M.D)) (gs : List (Str × V)) : Prop where
 len : fs.length = N.length
 nd : (gs.map (·.1)).Nodup
 within : ∀ f ∈ gs.map (·.1), f ∈ N
 get : ∀ (i : Nat) (f : Str) (d : M.D), N[i]? = some f -> fs[i]? = some (some d) -> ∃ v, gs.lookup f = some v /\ zM K ρ H d v
def ObR (K : PySem.W.Frag) (Θ : Tab) (ρ : List Addr) (H : Hp) (a : Addr) : M.O -> Prop
 | .lst ds => ∃ xs, H a = some (.lst xs) /\ zL K ρ H ds xs
 | .dct kvs => ∃ ks, H a = some (.dK ks) /\ Paired (fun (p : M.D × M.D) (q : Key × V) => yO p.1 q.1 /\ zM K ρ H p.2 q.2) kvs ks
 | .fdc kvs => ∃ o ks, H a = some (.frz o (.dK ks)) /\ Paired (fun (p : M.D × M.D) (q : Key × V) => yO p.1 q.1 /\ zM K ρ H p.2 q.2) kvs ks
 | .ins c fs => ∃ C dx gs N, H a = some (.ins C dx gs) /\ Θ c = some (C, N) /\ zOM K ρ H N fs gs
structure zU (K : PySem.W.Frag) (Θ : Tab) (ρ : List Addr) (S : M.S) (H : Hp) : Prop where
 len : ρ.length = S.length
 nd : ρ.Nodup
 obj : ∀ (i : Nat) (o : M.O), S[i]? = some o -> ∃ a, ρ[i]? = some a /\ ObR K Θ ρ H a o
structure jA (K : PySem.W.Frag) (ρ : List Addr) (H : Hp) (σ' : M.St) (σ : St) : Prop where
 len : σ'.length = σ.length
 get : ∀ (i : Nat) (d : M.D), σ'[i]? = some (some d) -> ∃ v, σ[i]? = some (some v) /\ zM K ρ H d v
section
variable {K : PySem.W.Frag} {Θ : Tab} {ρ ρ' : List Addr} {H H' : Hp} {S : M.S}
theorem jA.mono {σ' : M.St} {σ : St} (h : jA K ρ H σ' σ) (hρ : ρ <+: ρ') (le : Le H H') : jA K ρ' H' σ' σ :=
 ⟨h.len, fun i d e => let ⟨v, h1, h2⟩ := h.get i d e; ⟨v, h1, h2.mono hρ le⟩⟩
theorem jA.set {σ' : M.St} {σ : St} {d : M.D} {v : V} (h : jA K ρ H σ' σ) (hd : zM K ρ H d v) (i : Nat) : jA K ρ H (σ'.set i (some d)) (σ.set i (some v)) := by
 refine ⟨by rw [List.length_set, List.length_set, h.len], fun j e q => ?_⟩
 by_cases hj : i = j
 ·subst hj
  by_cases hl : i < σ'.length
  ·rw [List.getElem?_set_self hl] at q
   cases q
   exact ⟨v, by rw [List.getElem?_set_self (h.len ▸ hl)], hd⟩
  ·rw [List.getElem?_eq_none (by rw [List.length_set]; omega)] at q
   cases q
 ·rw [List.getElem?_set_ne hj] at q
  rw [List.getElem?_set_ne hj]
  exact h.get j e q
theorem jA.more {σ' : M.St} {σ : St} (h : jA K ρ H σ' σ) (n : Nat) : jA K ρ H (σ' ++ List.replicate n none) (σ ++ List.replicate n none) := by
 refine ⟨by simp [h.len], fun i d q => ?_⟩
 by_cases hl : i < σ'.length
 ·rw [List.getElem?_append_left hl] at q
  rw [List.getElem?_append_left (h.len ▸ hl)]
  exact h.get i d q
 ·rw [List.getElem?_append_right (by omega), List.getElem?_replicate] at q
  split at q <;> cases q
theorem zU.tracked (h : zU K Θ ρ S H) {a : Addr} (m : a ∈ ρ) : ∃ o, H a = some o := by
 obtain ⟨i, hi, e⟩ := List.mem_iff_getElem.mp m
 have hl : i < S.length := h.len ▸ hi
 obtain ⟨a', e1, r⟩ := h.obj i S[i] (by simp [hl])
 rw [List.getElem?_eq_getElem hi, e] at e1
 cases e1
 cases q : S[i] with
 | lst ds => rw [q] at r; obtain ⟨xs, e2, _⟩ := r; exact ⟨_, e2⟩
 | dct kvs => rw [q] at r; obtain ⟨xs, e2, _⟩ := r; exact ⟨_, e2⟩
 | fdc kvs => rw [q] at r; obtain ⟨o, xs, e2, _⟩ := r; exact ⟨_, e2⟩
 | ins c fs => rw [q] at r; obtain ⟨_, _, _, _, e2, _⟩ := r; exact ⟨_, e2⟩
theorem zU.fresh (h : zU K Θ ρ S H) {p : Addr} (hp : H p = none) : p ∉ ρ := fun m => by
 obtain ⟨o, e⟩ := h.tracked m
 rw [hp] at e; cases e
theorem ObR.stay {a : Addr} {o : M.O} (h : ObR K Θ ρ H a o) (hρ : ρ <+: ρ') (le : Le H H') (e : H' a = H a) : ObR K Θ ρ' H' a o := by
 cases o with
 | lst ds => obtain ⟨xs, e1, r⟩ := h; exact ⟨xs, e.trans e1, r.mono hρ le⟩
 | dct kvs => obtain ⟨ks, e1, r⟩ := h; exact ⟨ks, e.trans e1, Paired.mapP r fun p q z => ⟨z.1, z.2.mono hρ le⟩⟩
 | fdc kvs => obtain ⟨o, ks, e1, r⟩ := h; exact ⟨o, ks, e.trans e1, Paired.mapP r fun p q z => ⟨z.1, z.2.mono hρ le⟩⟩
 | ins c fs =>
  obtain ⟨C, dx, gs, N, e1, e2, r⟩ := h
  exact ⟨C, dx, gs, N, e.trans e1, e2, r.len, r.nd, r.within, fun i f d h1 h2 => let ⟨v, k1, k2⟩ := r.get i f d h1 h2; ⟨v, k1, k2.mono hρ le⟩⟩
theorem zU.stay (h : zU K Θ ρ S H) (le : Le H H') (e : ∀ a ∈ ρ, H' a = H a) : zU K Θ ρ S H' :=
 ⟨h.len, h.nd, fun i o q => let ⟨a, h1, h2⟩ := h.obj i o q; ⟨a, h1, h2.stay (List.prefix_refl _) le (e a (List.mem_of_getElem? h1))⟩⟩
theorem zU.aside (h : zU K Θ ρ S H) {p : Addr} (hp : H p = none) (o : HO) : zU K Θ ρ S (upd H p o) :=
 h.stay (Le.new hp o) fun a m => zT (fun z => h.fresh hp (z ▸ m))
theorem zU.alloc (h : zU K Θ ρ S H) {p : Addr} (hp : H p = none) {o : M.O} {u : HO} (r : ObR K Θ (ρ ++ [p]) (upd H p u) p o) : zU K Θ (ρ ++ [p]) (S ++ [o]) (upd H p u) := by
 refine ⟨by simp [h.len], ?_, fun i ob q => ?_⟩
 ·rw [List.nodup_append]
  refine ⟨h.nd, by simp, fun a ha b hb => ?_⟩
  have hb' : b = p := by simpa using hb
  rw [hb']
  exact fun z => h.fresh hp (z ▸ ha)
 ·by_cases hl : i < S.length
  ·rw [List.getElem?_append_left hl] at q
   obtain ⟨a, h1, h2⟩ := h.obj i ob q
   refine ⟨a, Qh (List.prefix_append _ _) h1, h2.stay (List.prefix_append _ _) (Le.new hp u) (zT fun z => h.fresh hp (z ▸ List.mem_of_getElem? h1))⟩
  ·rw [List.getElem?_append_right (by omega)] at q
   have hi : i - S.length = 0 := by
    cases hz : i - S.length with
    | zero => rfl
    | succ k => rw [hz] at q; simp at q
   rw [hi] at q
   simp at q
   subst q
   refine ⟨p, ?_, r⟩
   rw [List.getElem?_append_right (by rw [h.len]; omega), h.len, hi]
   rfl
theorem zAi {α : Type} {ρ : List α} (hN : ρ.Nodup) {i j : Nat} {x : α} (a : ρ[i]? = some x) (b : ρ[j]? = some x) : i = j := by
 induction ρ generalizing i j with
 | nil => simp at a
 | cons y r ih =>
  rw [List.nodup_cons] at hN
  cases i with
  | zero =>
   cases j with
   | zero => rfl
   | succ j =>
    simp at a b
    subst a
    exact absurd (List.mem_of_getElem? b) hN.1
  | succ i =>
   cases j with
   | zero =>
    simp at a b
    subst b
    exact absurd (List.mem_of_getElem? a) hN.1
   | succ j =>
    simp at a b
    rw [ih hN.2 a b]
theorem zJt {α : Type} {l : List α} (h : ∀ (i j : Nat) x, l[i]? = some x -> l[j]? = some x -> i = j) : l.Nodup := by
 induction l with
 | nil => exact List.nodup_nil
 | cons y r ih =>
  refine List.nodup_cons.mpr ⟨fun m => ?_, ih fun i j x a b => ?_⟩
  ·obtain ⟨j, hj, e⟩ := List.mem_iff_getElem.mp m
   have := h 0 (j + 1) y (by simp) (by simp [e, hj])
   omega
  ·have := h (i + 1) (j + 1) x (by simpa using a) (by simpa using b)
   omega
theorem zHo {α : Type} {l : List α} (hN : l.Nodup) {i j : Nat} (hi : i < l.length) (hj : j < l.length) (e : l[i] = l[j]) : i = j :=
 zAi hN (x := l[i]) (by simp [hi]) (by rw [e]; simp [hj])
theorem zU.put (h : zU K Θ ρ S H) {i : Nat} {a : Addr} (ha : ρ[i]? = some a) {o : M.O} {u : HO} (mu : Mut (H a)) (r : ObR K Θ ρ (upd H a u) a o) : zU K Θ ρ (S.set i o) (upd H a u) := by
 refine ⟨by simp [h.len], h.nd, fun j ob q => ?_⟩
 by_cases hj : i = j
 ·subst hj
  by_cases hl : i < S.length
  ·rw [List.getElem?_set_self hl] at q
   cases q
   exact ⟨a, ha, r⟩
  ·rw [List.getElem?_eq_none (by rw [List.length_set]; omega)] at q
   cases q
 ·rw [List.getElem?_set_ne hj] at q
  obtain ⟨b, h1, h2⟩ := h.obj j ob q
  refine ⟨b, h1, h2.stay (List.prefix_refl _) (Le.put mu u) (zT fun z => ?_)⟩
  subst z
  exact hj (zAi h.nd ha h1)
end
def zF {α β : Type} (K : PySem.W.Frag) (Θ : Tab) (Rl : List Addr -> Hp -> α -> β -> Prop) (ρ : List Addr) (H : Hp) : M.R α -> (β -> Hp -> Prop) -> Prop
 | .ok a S', Q => ∀ ρ' H' b, ρ <+: ρ' -> Le H H' -> zU K Θ ρ' S' H' -> Rl ρ' H' a b -> Q b H'
 | .exc _ _, _ => False
 | .no, _ => False
abbrev rB : List Addr -> Hp -> Bool -> Bool -> Prop := fun _ _ a b => a = b
abbrev rO : List Addr -> Hp -> Option Int -> Option Int -> Prop := fun _ _ a b => a = b
section
variable {K : PySem.W.Frag} {Θ : Tab} {ρ ρ' : List Addr} {H H' : Hp} {S : M.S} {α β γ δ : Type} {Rl : List Addr -> Hp -> α -> β -> Prop} {Rk : List Addr -> Hp -> γ -> δ -> Prop} {Q : β -> Hp -> Prop} {Q' : δ -> Hp -> Prop}
theorem zF.weak {r : M.R α} (h : zF K Θ Rl ρ H r Q) (hρ : ρ <+: ρ') (le : Le H H') : zF K Θ Rl ρ' H' r Q := by
 cases r with
 | ok a s => exact fun ρ2 H2 b p l => h ρ2 H2 b (hρ.trans p) (le.trans l)
 | exc e s => exact h
 | no => exact h
theorem zF.bind {r : M.R α} {f : α -> M.S -> M.R γ} (h : zF K Θ Rk ρ H (r.bind f) Q')
  (k : ∀ ρ' H' a b S', ρ <+: ρ' -> Le H H' -> zU K Θ ρ' S' H' -> Rl ρ' H' a b -> zF K Θ Rk ρ' H' (f a S') Q' -> Q b H') : zF K Θ Rl ρ H r Q := by
 cases r with
 | ok a s => exact fun ρ2 H2 b p l rp rl => k ρ2 H2 a b s p l rp rl (zF.weak h p l)
 | exc e s => exact h
 | no => exact h
theorem zF.here {a : α} {b : β} (h : zF K Θ Rl ρ H (.ok a S) Q) (rp : zU K Θ ρ S H) (rl : Rl ρ H a b) : Q b H := h ρ H b (List.prefix_refl _) (Le.refl _) rp rl
end
def RdE (K : PySem.W.Frag) (Θ : Tab) (m : M.EM) : TE := fun σ H Q => ∃ ρ σ' S, jA K ρ H σ' σ /\ zU K Θ ρ S H /\ zF K Θ (zM K) ρ H (m σ' S) Q
def RdT (K : PySem.W.Frag) (Θ : Tab) (m : M.TM) : TT := fun σ H Q => ∃ ρ σ' S, jA K ρ H σ' σ /\ zU K Θ ρ S H /\ zF K Θ rB ρ H (m σ' S) Q
def RdA (K : PySem.W.Frag) (Θ : Tab) (m : M.AM) : TA := fun σ H Q => ∃ ρ σ' S, jA K ρ H σ' σ /\ zU K Θ ρ S H /\ zF K Θ (zL K) ρ H (m σ' S) Q
def RdO (K : PySem.W.Frag) (Θ : Tab) (m : M.OM) : TO := fun σ H Q => ∃ ρ σ' S, jA K ρ H σ' σ /\ zU K Θ ρ S H /\ zF K Θ rO ρ H (m σ' S) Q
abbrev ME (X : Cx) (Θ : Tab) (e : Expr) (m : M.EM) : Prop := PE X e (RdE X.K Θ m)
@[irreducible] def WE (X : Cx) (Θ : Tab) (e : Expr) (m : M.EM) : Prop := ME X Θ e m
abbrev MT (X : Cx) (Θ : Tab) (e : Expr) (m : M.TM) : Prop := PT X e (RdT X.K Θ m)
@[irreducible] def WT (X : Cx) (Θ : Tab) (e : Expr) (m : M.TM) : Prop := MT X Θ e m
abbrev MW (X : Cx) (Θ : Tab) (e : Expr) (m : M.TM) : Prop := PW X e (RdT X.K Θ m)
@[irreducible] def WW (X : Cx) (Θ : Tab) (e : Expr) (m : M.TM) : Prop := MW X Θ e m
abbrev MA (X : Cx) (Θ : Tab) (es : List Expr) (m : M.AM) : Prop := PA X es (RdA X.K Θ m)
@[irreducible] def WA (X : Cx) (Θ : Tab) (es : List Expr) (m : M.AM) : Prop := MA X Θ es m
abbrev MO (X : Cx) (Θ : Tab) (e : Option Expr) (m : M.OM) : Prop := PO X e (RdO X.K Θ m)
@[irreducible] def WO (X : Cx) (Θ : Tab) (e : Option Expr) (m : M.OM) : Prop := MO X Θ e m
theorem PE.imp {X : Cx} {e : Expr} {t t' : TE} (h : PE X e t) (i : ∀ σ H Q, t' σ H Q -> t σ H Q) : PE X e t' := fun pins s σ H Q I q => h pins s σ H Q I (i σ H Q q)
theorem PT.imp {X : Cx} {e : Expr} {t t' : TT} (h : PT X e t) (i : ∀ σ H Q, t' σ H Q -> t σ H Q) : PT X e t' := fun pins s σ H Q I q => h pins s σ H Q I (i σ H Q q)
theorem PW.imp {X : Cx} {e : Expr} {t t' : TT} (h : PW X e t) (i : ∀ σ H Q, t' σ H Q -> t σ H Q) : PW X e t' := fun wh pins s σ H Q I q => h wh pins s σ H Q I (i σ H Q q)
theorem PA.imp {X : Cx} {es : List Expr} {t t' : TA} (h : PA X es t) (i : ∀ σ H Q, t' σ H Q -> t σ H Q) : PA X es t' := fun pos pins s σ H Q I q => h pos pins s σ H Q I (i σ H Q q)
theorem PO.imp {X : Cx} {e : Option Expr} {t t' : TO} (h : PO X e t) (i : ∀ σ H Q, t' σ H Q -> t σ H Q) : PO X e t' := fun pins s σ H Q I q => h pins s σ H Q I (i σ H Q q)
def jC : Expr -> Bool
 | .Starred _ _ => false
 | _ => true
theorem j0 {e : Expr} {es : List Expr} {env : Env} (h : jC e = true) : starEach (e :: es) env = (false, eval e env) :: starEach es env := by
 cases e <;> first | rfl | cases h
theorem Qq {env : Env} {pos : Pos} : ∀ {es : List Expr}, es.all jC = true -> (backTo pos (starEach es env)).any (·.1) = false
 | [], _ => rfl
 | e :: es, h => by
  rw [List.all_cons, Bool.and_eq_true] at h
  rw [j0 h.1]
  show (false || (backTo pos (starEach es env)).any (·.1)) = false
  rw [Qq h.2]; rfl
theorem zEn {env : Env} {pos : Pos} : ∀ {es : List Expr}, es.all jC = true -> (backTo pos (starEach es env)).all (fun x => !x.1) = true
 | [], _ => rfl
 | e :: es, h => by
  rw [List.all_cons, Bool.and_eq_true] at h
  rw [j0 h.1]
  show (true && (backTo pos (starEach es env)).all (fun x => !x.1)) = true
  rw [zEn h.2]; rfl
theorem zEf {env : Env} {pos : Pos} {es : List Expr} (h : es.all jC = true) (hl : es.length < 30) : ((backTo pos (starEach es env)).all (fun x => !x.1) && (backToKw pos (keywordEach [] env)).all (fun x => x.1.isSome)
  && decide (es.length + ([] : List Keyword).length + (if ([] : List Keyword).isEmpty then 0 else 1) < 30)) = true := by
 rw [zEn h, Bool.true_and, Bool.and_eq_true]
 exact ⟨rfl, decide_eq_true (by simpa using hl)⟩
section
variable {X : Cx} {Θ : Tab} {a b c : Expr} {pos : Pos} {ma mb mc : M.EM} {ta tb : M.TM} {jW : List Expr}
theorem zL4 (i : Nat) {x : Str} (hN : X.N[i]? = some x := by rfl) (hv : Vis X.env.scope x := by first | exact Or.inl rfl | exact Or.inr (Or.inl rfl) | exact Or.inr (Or.inr rfl)) (hd : (x == ("__debug__" : Str)) = false := by decide)
  (hcd : (x == ("__classdict__" : Str)) = false := by decide) : ME X Θ (.Name x pos) (M.zA i) := (zMB hN hv hd hcd).imp fun σ H Q ⟨ρ, σ', S, st, rp, h⟩ => by
 unfold M.zA at h
 split at h
 ·rename_i d e
  obtain ⟨v, e1, r⟩ := st.get i d e
  exact ⟨v, e1, h.here rp r⟩
 ·exact h.elim
theorem zFK (i : Nat) {x : Str} (hN : X.N[i]? = some x := by rfl) (hv : Vis X.env.scope x := by first | exact Or.inl rfl | exact Or.inr (Or.inl rfl) | exact Or.inr (Or.inr rfl)) (hd : (x == ("__debug__" : Str)) = false := by decide)
  (hcd : (x == ("__classdict__" : Str)) = false := by decide) : WE X Θ (.Name x pos) (M.zA i) := by with_unfolding_all exact zL4 i (x := x) hN hv hd hcd
theorem zCb {e : Expr} {v : V} {d : M.D} (h : PE X e (tC v)) (r : ∀ ρ H, zM X.K ρ H d v) : ME X Θ e (M.eC d) := h.imp fun σ H Q ⟨ρ, σ', S, st, rp, h⟩ => h.here rp (r ρ H)
theorem zMk {i : Int} {j : Nat} : ME X Θ (.Constant (.int i) j pos) (M.eC (.int i)) := zCb zMg fun _ _ => rfl
theorem zO {i : Int} {j : Nat} : WE X Θ (.Constant (.int i) j pos) (M.eC (.int i)) := by with_unfolding_all exact zMk (i := i) (j := j)
theorem zNY {k : Bool} {j : Nat} : ME X Θ (.Constant (.bool k) j pos) (M.eC (.bl k)) := zCb zNx fun _ _ => rfl
theorem yT {k : Bool} {j : Nat} : WE X Θ (.Constant (.bool k) j pos) (M.eC (.bl k)) := by with_unfolding_all exact zNY (k := k) (j := j)
theorem zM2 {j : Nat} : ME X Θ (.Constant .none j pos) (M.eC .non) := zCb zMH fun _ _ => rfl
theorem zAs {j : Nat} : WE X Θ (.Constant .none j pos) (M.eC .non) := by with_unfolding_all exact zM2 (j := j)
theorem zMD {y : M.T} {x : Str} {j : Nat} (h : x = ofT y) (ok : okT y) : ME X Θ (.Constant (.str x) j pos) (M.eC (.str y)) := zCb zIo fun _ _ => by rw [h]; exact ⟨rfl, ok⟩
theorem zJF {y : M.T} {x : Str} {j : Nat} (h : x = ofT y) (ok : okT y) : WE X Θ (.Constant (.str x) j pos) (M.eC (.str y)) := by with_unfolding_all exact zMD (y := y) (x := x) (j := j) h ok
theorem zNZ (n : M.Kd) {x : Str} (hg : Gl X x) (hm : X.mg x = none) (hv : bootBuiltins x = some (.type (qm n))) (hn : x ≠ "__name__" := by decide) (hd : (x == ("__debug__" : Str)) = false := by decide) : ME X Θ (.Name x pos) (M.eC (.ty n)) :=
 zCb (zK5 (v := .ty (qm n)) hg hm hv rfl hn hd) fun _ _ => rfl
theorem zDO (n : M.Kd) {x : Str} (hg : Gl X x) (hm : X.mg x = none) (hv : bootBuiltins x = some (.type (qm n))) (hn : x ≠ "__name__" := by decide) (hd : (x == ("__debug__" : Str)) = false := by decide) : WE X Θ (.Name x pos) (M.eC (.ty n)) := by with_unfolding_all exact zNZ n (x := x) hg hm hv hn hd
def Ad2 (K : PySem.W.Frag) (Θ : Tab) (f : M.D -> M.D -> M.S -> M.R M.D) (r : R2) : Prop := ∀ ρ H S x y X Y Q, zU K Θ ρ S H -> zM K ρ H x X -> zM K ρ H y Y -> zF K Θ (zM K) ρ H (f x y S) Q -> r X Y H Q
def AdC (K : PySem.W.Frag) (Θ : Tab) (f : M.CM) (r : R2) : Prop := ∀ ρ H S x y X Y (Q : VK), zU K Θ ρ S H -> zM K ρ H x X -> zM K ρ H y Y -> zF K Θ rB ρ H (f x y S) (fun b H' => Q (.bl b) H') -> r X Y H Q
def Ad1 (K : PySem.W.Frag) (Θ : Tab) (f : M.D -> M.S -> M.R M.D) (r : V -> Hp -> VK -> Prop) : Prop := ∀ ρ H S x X Q, zU K Θ ρ S H -> zM K ρ H x X -> zF K Θ (zM K) ρ H (f x S) Q -> r X H Q
def AdN (K : PySem.W.Frag) (Θ : Tab) (f : M.F) (r : List V -> Hp -> VK -> Prop) : Prop := ∀ ρ H S xs Xs Q, zU K Θ ρ S H -> zL K ρ H xs Xs -> zF K Θ (zM K) ρ H (f xs S) Q -> r Xs H Q
def AdM (K : PySem.W.Frag) (Θ : Tab) (f : M.D -> M.F) (r : V -> List V -> Hp -> VK -> Prop) : Prop :=
 ∀ ρ H S x xs X Xs Q, zU K Θ ρ S H -> zM K ρ H x X -> zL K ρ H xs Xs -> zF K Θ (zM K) ρ H (f x xs S) Q -> r X Xs H Q
theorem zN0 {op : Operator} {f : M.D -> M.D -> M.S -> M.R M.D} {r : R2} (ho : OpR X (binaryOp op) r) (ad : Ad2 X.K Θ f r) (ha : ME X Θ a ma) (hb : ME X Θ b mb) : ME X Θ (.BinOp a op b pos) (M.eOp f ma mb) :=
 (zNv ho ha hb).imp fun σ H Q ⟨ρ, σ', S, st, rp, h⟩ => ⟨ρ, σ', S, st, rp, zF.bind h fun ρ1 H1 x X1 S1 p1 l1 rp1 rx h1 => ⟨ρ1, σ', S1, st.mono p1 l1, rp1,
  zF.bind h1 fun ρ2 H2 y Y S2 p2 l2 rp2 ry h2 => ad ρ2 H2 S2 x y X1 Y Q rp2 (rx.mono p2 l2) ry h2⟩⟩
theorem zW {op : Operator} {f : M.D -> M.D -> M.S -> M.R M.D} {r : R2} (ho : OpR X (binaryOp op) r) (ad : Ad2 X.K Θ f r) (ha : WE X Θ a ma) (hb : WE X Θ b mb) : WE X Θ (.BinOp a op b pos) (M.eOp f ma mb) := by with_unfolding_all exact zN0 (op := op) (f := f) (r := r) ho ad ha hb
def zFL : Expr -> Bool
 | .Slice _ _ _ _ => false
 | .Tuple _ _ _ => false
 | _ => true
theorem zJb {b : Expr} (h : zFL b = true) : zGM b := fun o i => by
 cases b <;> first | rfl | cases h
theorem zNp {f : M.D -> M.D -> M.S -> M.R M.D} {r : R2} (ho : IxR X r) (ad : Ad2 X.K Θ f r) (ha : ME X Θ a ma) (hb : ME X Θ b mb) (hs : zFL b = true := by rfl) : ME X Θ (.Subscript a b pos) (M.eOp f ma mb) :=
 (zN4 ho ha hb (zJb hs)).imp fun σ H Q ⟨ρ, σ', S, st, rp, h⟩ => ⟨ρ, σ', S, st, rp, zF.bind h fun ρ1 H1 x X1 S1 p1 l1 rp1 rx h1 => ⟨ρ1, σ', S1, st.mono p1 l1, rp1,
  zF.bind h1 fun ρ2 H2 y Y S2 p2 l2 rp2 ry h2 => ad ρ2 H2 S2 x y X1 Y Q rp2 (rx.mono p2 l2) ry h2⟩⟩
theorem jR {f : M.D -> M.D -> M.S -> M.R M.D} {r : R2} (ho : IxR X r) (ad : Ad2 X.K Θ f r) (ha : WE X Θ a ma) (hb : WE X Θ b mb) (hs : zFL b = true := by rfl) : WE X Θ (.Subscript a b pos) (M.eOp f ma mb) := by with_unfolding_all exact zNp (f := f) (r := r) ho ad ha hb hs
theorem zN2 {op : UnaryOp} {f : M.D -> M.S -> M.R M.D} {r : V -> Hp -> VK -> Prop} (ho : UnR X (unaryOp op) r) (ad : Ad1 X.K Θ f r) (ha : ME X Θ a ma) : ME X Θ (.UnaryOp op a pos) (M.eUn f ma) :=
 (zN6 ho ha).imp fun σ H Q ⟨ρ, σ', S, st, rp, h⟩ => ⟨ρ, σ', S, st, rp, zF.bind h fun ρ1 H1 x X1 S1 p1 l1 rp1 rx h1 => ad ρ1 H1 S1 x X1 Q rp1 rx h1⟩
theorem zK3 {op : UnaryOp} {f : M.D -> M.S -> M.R M.D} {r : V -> Hp -> VK -> Prop} (ho : UnR X (unaryOp op) r) (ad : Ad1 X.K Θ f r) (ha : WE X Θ a ma) : WE X Θ (.UnaryOp op a pos) (M.eUn f ma) := by with_unfolding_all exact zN2 (op := op) (f := f) (r := r) ho ad ha
theorem zLs {op : CmpOp} {f : M.CM} {r : R2} (ho : OpR X (compareOp op) r) (ad : AdC X.K Θ f r) (ha : ME X Θ a ma) (hb : ME X Θ b mb) (hm : behindInMarks op b = false) : ME X Θ (.Compare a [op] [b] pos) (M.QL f ma mb) :=
 (zKr ho ha hb hm).imp fun σ H Q ⟨ρ, σ', S, st, rp, h⟩ => ⟨ρ, σ', S, st, rp, zF.bind h fun ρ1 H1 x X1 S1 p1 l1 rp1 rx h1 => ⟨ρ1, σ', S1, st.mono p1 l1, rp1,
  zF.bind h1 fun ρ2 H2 y Y S2 p2 l2 rp2 ry h2 => ad ρ2 H2 S2 x y X1 Y Q rp2 (rx.mono p2 l2) ry (zF.bind h2 fun ρ3 H3 k k' S3 p3 l3 rp3 e h3 => by cases e; exact h3.here rp3 rfl)⟩⟩
theorem Qu {op : CmpOp} {f : M.CM} {r : R2} (ho : OpR X (compareOp op) r) (ad : AdC X.K Θ f r) (ha : WE X Θ a ma) (hb : WE X Θ b mb) (hm : behindInMarks op b = false) : WE X Θ (.Compare a [op] [b] pos) (M.QL f ma mb) := by with_unfolding_all exact zLs (op := op) (f := f) (r := r) ho ad ha hb hm
theorem zMP {op : CmpOp} {f : M.CM} {r : R2} (ho : OpR X (compareOp op) r) (ad : AdC X.K Θ f r) (ha : ME X Θ a ma) (hb : ME X Θ b mb) (hm : behindInMarks op b = false) : MT X Θ (.Compare a [op] [b] pos) (M.zl f ma mb) :=
 (zLc ho ha hb hm).imp fun σ H Q ⟨ρ, σ', S, st, rp, h⟩ => ⟨ρ, σ', S, st, rp, zF.bind h fun ρ1 H1 x X1 S1 p1 l1 rp1 rx h1 => ⟨ρ1, σ', S1, st.mono p1 l1, rp1,
  zF.bind h1 fun ρ2 H2 y Y S2 p2 l2 rp2 ry h2 => ad ρ2 H2 S2 x y X1 Y _ rp2 (rx.mono p2 l2) ry (by
   revert h2
   cases f x y S2 with
   | ok k s => exact fun h2 ρ3 H3 k' p3 l3 rp3 e => ⟨k', rfl, h2 ρ3 H3 k' p3 l3 rp3 e⟩
   | exc e s => exact fun h2 => h2
   | no => exact fun h2 => h2)⟩⟩
theorem jI {op : CmpOp} {f : M.CM} {r : R2} (ho : OpR X (compareOp op) r) (ad : AdC X.K Θ f r) (ha : WE X Θ a ma) (hb : WE X Θ b mb) (hm : behindInMarks op b = false) : WT X Θ (.Compare a [op] [b] pos) (M.zl f ma mb) := by with_unfolding_all exact zMP (op := op) (f := f) (r := r) ho ad ha hb hm
theorem zHg {K : PySem.W.Frag} {ρ : List Addr} {H : Hp} {x : M.D} {v : V} (r : zM K ρ H x v) : decide (v = .non) = M.zEO x := by
 cases x with
 | non => cases r; rfl
 | bl b => cases r; rfl
 | int b => cases r; rfl
 | str b => obtain ⟨rfl, _⟩ := r; rfl
 | ty b => cases r; rfl
 | ref i => obtain ⟨_, rfl, _⟩ := r; rfl
 | tup i => obtain ⟨_, _, rfl, _⟩ := r; rfl
 | ro i => obtain ⟨_, _, rfl, _⟩ := r; rfl
theorem zMN {j pos'} (ha : ME X Θ a ma) : MT X Θ (.Compare a [.Is] [.Constant .none j pos'] pos) (M.zBe ma) := (zHs (zMj ha)).imp fun σ H Q ⟨ρ, σ', S, st, rp, h⟩ => ⟨ρ, σ', S, st, rp, zF.bind h fun ρ1 H1 x X1 S1 p1 l1 rp1 rx h1 => ⟨_, rfl, by
 rw [zHg rx]; exact h1.here rp1 rfl⟩⟩
theorem zJP {j pos'} (ha : WE X Θ a ma) : WT X Θ (.Compare a [.Is] [.Constant .none j pos'] pos) (M.zBe ma) := by with_unfolding_all exact zMN (j := j) (pos' := pos') ha
theorem zKw {j pos'} (ha : ME X Θ a ma) : MT X Θ (.Compare a [.IsNot] [.Constant .none j pos'] pos) (M.Jy ma) := (zHs (zKV ha)).imp fun σ H Q ⟨ρ, σ', S, st, rp, h⟩ => ⟨ρ, σ', S, st, rp, zF.bind h fun ρ1 H1 x X1 S1 p1 l1 rp1 rx h1 => ⟨_, rfl, by
 rw [zHg rx]; exact h1.here rp1 rfl⟩⟩
theorem zIR {j pos'} (ha : WE X Θ a ma) : WT X Θ (.Compare a [.IsNot] [.Constant .none j pos'] pos) (M.Jy ma) := by with_unfolding_all exact zKw (j := j) (pos' := pos') ha
theorem zHS (ha : MT X Θ a ta) : MW X Θ (.BoolOp .And [a] pos) ta := zLF ha
theorem zEd (ha : WT X Θ a ta) : WW X Θ (.BoolOp .And [a] pos) ta := by with_unfolding_all exact zHS ha
theorem zH7 (ha : MT X Θ a ta) : MW X Θ (.BoolOp .Or [a] pos) ta := zL6 ha
theorem yh (ha : WT X Θ a ta) : WW X Θ (.BoolOp .Or [a] pos) ta := by with_unfolding_all exact zH7 ha
theorem zMO (ha : MT X Θ a ta) (hb : MW X Θ (.BoolOp .And (b :: jW) pos) tb) : MW X Θ (.BoolOp .And (a :: b :: jW) pos) (M.zFg ta tb) :=
 (zLl ha hb).imp fun σ H Q ⟨ρ, σ', S, st, rp, h⟩ => ⟨ρ, σ', S, st, rp, zF.bind h fun ρ1 H1 k k' S1 p1 l1 rp1 e h1 => by
  cases e
  cases k with
  | true => exact zBf ⟨ρ1, σ', S1, st.mono p1 l1, rp1, h1⟩
  | false => exact zBq (zF.here (b := false) h1 rp1 rfl)⟩
theorem zJ9 (ha : WT X Θ a ta) (hb : WW X Θ (.BoolOp .And (b :: jW) pos) tb) : WW X Θ (.BoolOp .And (a :: b :: jW) pos) (M.zFg ta tb) := by with_unfolding_all exact zMO ha hb
theorem zNn (ha : MT X Θ a ta) (hb : MW X Θ (.BoolOp .Or (b :: jW) pos) tb) : MW X Θ (.BoolOp .Or (a :: b :: jW) pos) (M.tOr ta tb) :=
 (zN9 ha hb).imp fun σ H Q ⟨ρ, σ', S, st, rp, h⟩ => ⟨ρ, σ', S, st, rp, zF.bind h fun ρ1 H1 k k' S1 p1 l1 rp1 e h1 => by
  cases e
  cases k with
  | true => exact zBf (zF.here (b := true) h1 rp1 rfl)
  | false => exact zBq ⟨ρ1, σ', S1, st.mono p1 l1, rp1, h1⟩⟩
theorem Qp (ha : WT X Θ a ta) (hb : WW X Θ (.BoolOp .Or (b :: jW) pos) tb) : WW X Θ (.BoolOp .Or (a :: b :: jW) pos) (M.tOr ta tb) := by with_unfolding_all exact zNn ha hb
theorem zMQ (ha : MT X Θ a ta) : MT X Θ (.UnaryOp .Not a pos) (M.y6 ta) := (zNV ha).imp fun σ H Q ⟨ρ, σ', S, st, rp, h⟩ => ⟨ρ, σ', S, st, rp, zF.bind h fun ρ1 H1 k k' S1 p1 l1 rp1 e h1 => by
 cases e; exact zF.here (b := !k) h1 rp1 rfl⟩
theorem JX (ha : WT X Θ a ta) : WT X Θ (.UnaryOp .Not a pos) (M.y6 ta) := by with_unfolding_all exact zMQ ha
theorem zLm {op} (ha : ME X Θ a ma) : ME X Θ (.BoolOp op [a] pos) ma := zNG ha
theorem zEs {op} (ha : WE X Θ a ma) : WE X Θ (.BoolOp op [a] pos) ma := by with_unfolding_all exact zLm (op := op) ha
theorem zIF {K : PySem.W.Frag} {γ δ : Type} {Rk : List Addr -> Hp -> γ -> δ -> Prop} {ρ : List Addr} {H : Hp} {x : M.D} {v : V} {S : M.S} {f : Bool -> M.S -> M.R γ} {Q : δ -> Hp -> Prop} (r : zM K ρ H x v) (h : zF K Θ Rk ρ H ((M.asB x S).bind f) Q) : ∃ k, v = .bl k /\ zF K Θ Rk ρ H (f k S) Q := by
 cases x with
 | bl b => cases r; exact ⟨b, rfl, h⟩
 | _ => exact h.elim
theorem zMK (ha : ME X Θ a ma) (hb : ME X Θ (.BoolOp .And (b :: jW) pos) mb) : ME X Θ (.BoolOp .And (a :: b :: jW) pos) (M.zHM ma mb) :=
 (zME ha hb).imp fun σ H Q ⟨ρ, σ', S, st, rp, h⟩ => ⟨ρ, σ', S, st, rp, zF.bind h fun ρ1 H1 x X1 S1 p1 l1 rp1 rx h1 => by
  obtain ⟨k, e, h2⟩ := zIF rx h1
  refine ⟨k, e, ?_⟩
  cases k with
  | true => exact zBf ⟨ρ1, σ', S1, st.mono p1 l1, rp1, h2⟩
  | false => exact zBq (zF.here (b := V.bl false) h2 rp1 rfl)⟩
theorem zJ5 (ha : WE X Θ a ma) (hb : WE X Θ (.BoolOp .And (b :: jW) pos) mb) : WE X Θ (.BoolOp .And (a :: b :: jW) pos) (M.zHM ma mb) := by with_unfolding_all exact zMK ha hb
theorem zOB (ha : ME X Θ a ma) (hb : ME X Θ (.BoolOp .Or (b :: jW) pos) mb) : ME X Θ (.BoolOp .Or (a :: b :: jW) pos) (M.eOr ma mb) :=
 (zNi ha hb).imp fun σ H Q ⟨ρ, σ', S, st, rp, h⟩ => ⟨ρ, σ', S, st, rp, zF.bind h fun ρ1 H1 x X1 S1 p1 l1 rp1 rx h1 => by
  obtain ⟨k, e, h2⟩ := zIF rx h1
  refine ⟨k, e, ?_⟩
  cases k with
  | true => exact zBf (zF.here (b := V.bl true) h2 rp1 rfl)
  | false => exact zBq ⟨ρ1, σ', S1, st.mono p1 l1, rp1, h2⟩⟩
theorem zKl (ha : WE X Θ a ma) (hb : WE X Θ (.BoolOp .Or (b :: jW) pos) mb) : WE X Θ (.BoolOp .Or (a :: b :: jW) pos) (M.eOr ma mb) := by with_unfolding_all exact zOB ha hb
theorem zFP : MA X Θ [] M.zD := zHc.imp fun σ H Q ⟨ρ, σ', S, st, rp, h⟩ => zF.here (b := []) h rp rfl
theorem zI : WA X Θ [] M.zD := by with_unfolding_all exact zFP
theorem zDI {e : Expr} {es : List Expr} {r : M.AM} (ha : ME X Θ e ma) (hr : MA X Θ es r) (hs : jC e = true := by rfl) : MA X Θ (e :: es) (M.zB ma r) :=
 (zGN ha hr (j0 hs)).imp fun σ H Q ⟨ρ, σ', S, st, rp, h⟩ => ⟨ρ, σ', S, st, rp, zF.bind h fun ρ1 H1 x X1 S1 p1 l1 rp1 rx h1 => ⟨ρ1, σ', S1, st.mono p1 l1, rp1,
  zF.bind h1 fun ρ2 H2 ys Ys S2 p2 l2 rp2 ry h2 => h2.here rp2 ⟨X1, Ys, rfl, rx.mono p2 l2, ry⟩⟩⟩
theorem zC {e : Expr} {es : List Expr} {r : M.AM} (ha : WE X Θ e ma) (hr : WA X Θ es r) (hs : jC e = true := by rfl) : WA X Θ (e :: es) (M.zB ma r) := by with_unfolding_all exact zDI (e := e) (es := es) (r := r) ha hr hs
theorem zMi {es : List Expr} {r : M.AM} {x1} (hr : MA X Θ es r) : ME X Θ (.Tuple es x1 pos) (M.Qs r) := (zLp hr).imp fun σ H Q ⟨ρ, σ', S, st, rp, h⟩ => ⟨ρ, σ', S, st, rp, zF.bind h fun ρ1 H1 xs Xs S1 p1 l1 rp1 rx h1 => by
 by_cases hl : xs.length <= M.SZ
 ·rw [if_pos hl] at h1
  rw [y7, rx.length] at hl
  exact ⟨hl, fun p hp => h1 ρ1 _ _ (List.prefix_refl _) (Le.new hp _) (rp1.aside hp _) ⟨p, Xs, rfl, SqT.of z6, rx.mono (List.prefix_refl _) (Le.new hp _)⟩⟩
 ·rw [if_neg hl] at h1
  exact h1.elim⟩
theorem zBg {es : List Expr} {r : M.AM} {x1} (hr : WA X Θ es r) : WE X Θ (.Tuple es x1 pos) (M.Qs r) := by with_unfolding_all exact zMi (es := es) (r := r) (x1 := x1) hr
theorem zF.alloc {K : PySem.W.Frag} {ρ : List Addr} {H : Hp} {S : M.S} {ds : List M.D} {xs : List V} {Q : VK} (h : zF K Θ (zM K) ρ H (M.alloc (.lst ds) S) Q) (rp : zU K Θ ρ S H) (r : zL K ρ H ds xs) {p : Addr} (hp : H p = none) : Q (.ref p) (upd H p (.lst xs)) :=
 h (ρ ++ [p]) _ _ (List.prefix_append _ _) (Le.new hp _) (rp.alloc hp ⟨xs, z6, r.mono (List.prefix_append _ _) (Le.new hp _)⟩) ⟨p, rfl, by rw [<- rp.len]; simp⟩
theorem zL9 {es : List Expr} {r : M.AM} (hr : MA X Θ es r) : ME X Θ (.List es pos) (M.ji r) := (zMv hr).imp fun σ H Q ⟨ρ, σ', S, st, rp, h⟩ => ⟨ρ, σ', S, st, rp, zF.bind h fun ρ1 H1 xs Xs S1 p1 l1 rp1 rx h1 => by
 by_cases hl : xs.length <= M.SZ
 ·rw [if_pos hl] at h1
  rw [y7, rx.length] at hl
  exact ⟨hl, fun p hp => h1.alloc rp1 rx hp⟩
 ·rw [if_neg hl] at h1
  exact h1.elim⟩
theorem qw {es : List Expr} {r : M.AM} (hr : WA X Θ es r) : WE X Θ (.List es pos) (M.ji r) := by with_unfolding_all exact zL9 (es := es) (r := r) hr
theorem zLC : MO X Θ none M.J7 := zKf.imp fun σ H Q ⟨ρ, σ', S, st, rp, h⟩ => zF.here (b := none) h rp rfl
theorem J8 : WO X Θ none M.J7 := by with_unfolding_all exact zLC
theorem zKc (ha : ME X Θ a ma) : MO X Θ (some a) (M.Qv ma) := (zKa ha).imp fun σ H Q ⟨ρ, σ', S, st, rp, h⟩ => ⟨ρ, σ', S, st, rp, zF.bind h fun ρ1 H1 x X1 S1 p1 l1 rp1 rx h1 => by
 cases x with
 | int i => cases rx; exact ⟨i, rfl, zF.here (b := some i) h1 rp1 rfl⟩
 | _ => exact h1.elim⟩
theorem QB (ha : WE X Θ a ma) : WO X Θ (some a) (M.Qv ma) := by with_unfolding_all exact zKc ha
theorem zOH {lo hi : Option Expr} {p2 : Pos} {ml mh : M.OM} {r : V -> Option Int -> Option Int -> Hp -> VK -> Prop} (hr : SlR X r) (ad : ∀ ρ H S x X1 l u Q, zU X.K Θ ρ S H -> zM X.K ρ H x X1 -> zF X.K Θ (zM X.K) ρ H (M.slD x l u S) Q -> r X1 l u H Q) (ha : ME X Θ a ma) (hl : MO X Θ lo ml) (hh : MO X Θ hi mh) :
  ME X Θ (.Subscript a (.Slice lo hi none p2) pos) (M.eSl ma ml mh) := (zJW hr ha hl hh).imp fun σ H Q ⟨ρ, σ', S, st, rp, h⟩ => ⟨ρ, σ', S, st, rp, zF.bind h fun ρ1 H1 x X1 S1 p1 l1 rp1 rx h1 => ⟨ρ1, σ', S1, st.mono p1 l1, rp1,
  zF.bind h1 fun ρ2 H2 l l' S2 p2 l2 rp2 e2 h2 => by
   cases e2
   exact ⟨ρ2, σ', S2, st.mono (p1.trans p2) (l1.trans l2), rp2, zF.bind h2 fun ρ3 H3 u u' S3 p3 l3 rp3 e3 h3 => by
    cases e3
    exact ad ρ3 H3 S3 x X1 l u Q rp3 (rx.mono (p2.trans p3) (l2.trans l3)) h3⟩⟩⟩
theorem zAW {lo hi : Option Expr} {p2 : Pos} {ml mh : M.OM} {r : V -> Option Int -> Option Int -> Hp -> VK -> Prop} (hr : SlR X r) (ad : ∀ ρ H S x X1 l u Q, zU X.K Θ ρ S H -> zM X.K ρ H x X1 -> zF X.K Θ (zM X.K) ρ H (M.slD x l u S) Q -> r X1 l u H Q) (ha : WE X Θ a ma) (hl : WO X Θ lo ml) (hh : WO X Θ hi mh) :
  WE X Θ (.Subscript a (.Slice lo hi none p2) pos) (M.eSl ma ml mh) := by with_unfolding_all exact zOH (lo := lo) (hi := hi) (p2 := p2) (ml := ml) (mh := mh) (r := r) hr ad ha hl hh
theorem zJL {x : Str} {p : Pos} {id : String} {e : Expr} {es : List Expr} {f : M.F} {r : List V -> Hp -> VK -> Prop} {m : M.AM} (hc : qF X (.builtin id) r) (ad : AdN X.K Θ f r) (hg : Gl X x) (hm : X.mg x = none) (hv : bootBuiltins x = some (.builtin id)) (ha : MA X Θ (e :: es) m)
  (hn : x ≠ "__name__" := by decide) (hdb : (x == ("__debug__" : Str)) = false := by decide) (he : jC e = true := by rfl) (hpl : es.all jC = true := by rfl) :
  ME X Θ (.Call (.Name x p) (e :: es) [] pos) (M.zH f m) := (zJc hc hg hm hv ha hn hdb (j0 he) (Qq hpl)).imp fun σ H Q ⟨ρ, σ', S, st, rp, h⟩ => ⟨ρ, σ', S, st, rp, zF.bind h fun ρ1 H1 xs Xs S1 p1 l1 rp1 rx h1 => ad ρ1 H1 S1 xs Xs Q rp1 rx h1⟩
theorem jG {x : Str} {p : Pos} {id : String} {e : Expr} {es : List Expr} {f : M.F} {r : List V -> Hp -> VK -> Prop} {m : M.AM} (hc : qF X (.builtin id) r) (ad : AdN X.K Θ f r) (hg : Gl X x) (hm : X.mg x = none) (hv : bootBuiltins x = some (.builtin id)) (ha : WA X Θ (e :: es) m)
  (hn : x ≠ "__name__" := by decide) (hdb : (x == ("__debug__" : Str)) = false := by decide) (he : jC e = true := by rfl) (hpl : es.all jC = true := by rfl) :
  WE X Θ (.Call (.Name x p) (e :: es) [] pos) (M.zH f m) := by with_unfolding_all exact zJL (x := x) (p := p) (id := id) (e := e) (es := es) (f := f) (r := r) (m := m) hc ad hg hm hv ha hn hdb he hpl
theorem zH5 {x : Str} {p : Pos} {T : String} {e : Expr} {es : List Expr} {f : M.F} {r : List V -> Hp -> VK -> Prop} {m : M.AM} (hc : qF X (.type T) r) (ad : AdN X.K Θ f r) (hg : Gl X x) (hm : X.mg x = none) (hv : bootBuiltins x = some (.type T)) (ha : MA X Θ (e :: es) m)
  (hn : x ≠ "__name__" := by decide) (hdb : (x == ("__debug__" : Str)) = false := by decide) (he : jC e = true := by rfl) (hpl : es.all jC = true := by rfl) :
  ME X Θ (.Call (.Name x p) (e :: es) [] pos) (M.zH f m) := (zHn hc hg hm hv ha hn hdb (j0 he) (Qq hpl)).imp fun σ H Q ⟨ρ, σ', S, st, rp, h⟩ => ⟨ρ, σ', S, st, rp, zF.bind h fun ρ1 H1 xs Xs S1 p1 l1 rp1 rx h1 => ad ρ1 H1 S1 xs Xs Q rp1 rx h1⟩
theorem yB {x : Str} {p : Pos} {T : String} {e : Expr} {es : List Expr} {f : M.F} {r : List V -> Hp -> VK -> Prop} {m : M.AM} (hc : qF X (.type T) r) (ad : AdN X.K Θ f r) (hg : Gl X x) (hm : X.mg x = none) (hv : bootBuiltins x = some (.type T)) (ha : WA X Θ (e :: es) m)
  (hn : x ≠ "__name__" := by decide) (hdb : (x == ("__debug__" : Str)) = false := by decide) (he : jC e = true := by rfl) (hpl : es.all jC = true := by rfl) :
  WE X Θ (.Call (.Name x p) (e :: es) [] pos) (M.zH f m) := by with_unfolding_all exact zH5 (x := x) (p := p) (T := T) (e := e) (es := es) (f := f) (r := r) (m := m) hc ad hg hm hv ha hn hdb he hpl
theorem zLh {K : PySem.W.Frag} {ρ : List Addr} {H : Hp} {S : M.S} {k : M.Kd} {x : M.D} {v : V} (rp : zU K Θ ρ S H) (r : zM K ρ H x v) (h : M.ZU k x S = true) : tyV K (qm k) v H := by
 cases x with
 | str z => obtain ⟨rfl, _⟩ := r; cases k <;> first | rfl | cases h
 | ro ds =>
  obtain ⟨a, xs, rfl, q, _⟩ := r
  cases k <;> first | exact .inl ⟨rfl, xs, q.sq⟩ | cases h
 | ref i =>
  obtain ⟨a, rfl, e⟩ := r
  cases q : S[i]? with
  | none => simp [M.ZU, q] at h
  | some o =>
   cases o with
   | lst xs =>
    obtain ⟨b, e1, zs, e2, _⟩ := rp.obj _ _ q
    rw [e] at e1; cases e1
    cases k <;> first | exact .inl ⟨rfl, zs, SqL.of e2⟩ | simp [M.ZU, q] at h
   | dct xs =>
    obtain ⟨b, e1, zs, e2, _⟩ := rp.obj _ _ q
    rw [e] at e1; cases e1
    cases k <;> first | exact .inr (.inr (.inl ⟨rfl, .inl ⟨zs, e2⟩⟩)) | simp [M.ZU, q] at h
   | fdc _ => simp [M.ZU, q] at h
   | ins c fs => simp [M.ZU, q] at h
 | _ => cases h
theorem zOr {k : M.Kd} {T : String} {f : M.D -> M.F} {r : V -> List V -> Hp -> VK -> Prop} {o e : Expr} {es : List Expr} {mo : M.EM} {m : M.AM} {name : Str} {apos cpos : Pos} {id : String} (pa : PlainAttrs T) (slot : Slot T name id) (hty : typeOf (.builtin id) = pure (.type "method_descriptor")) (hm : MtR X id r) (ad : AdM X.K Θ f r) (hT : T = qm k) (ho : ME X Θ o mo) (ha : MA X Θ (e :: es) m)
  (hbase : attributeBase o name X.env (eval o X.env) = eval o X.env := by rfl)
  (hfew : (e :: es).length < 30 := by exact Nat.le_of_ble_eq_true rfl) (hline : (apos.endLine == cpos.line) = true := by rfl) (hs : jC e = true := by rfl) (hplain : es.all jC = true := by rfl) :
  ME X Θ (.Call (.Attribute o name apos) (e :: es) [] cpos) (M.eM k f mo m) := (zKN pa slot hty hm ho ha hbase (zEf (by rw [List.all_cons, hs, hplain]; rfl) hfew) hline (j0 hs) (Qq hplain)).imp fun σ H Q ⟨ρ, σ', S, st, rp, h⟩ => ⟨ρ, σ', S, st, rp, zF.bind h fun ρ1 H1 x X1 S1 p1 l1 rp1 rx h1 => by
 cases ht : M.ZU k x S1 with
 | false => rw [ht] at h1; exact h1.elim
 | true =>
  rw [ht] at h1
  exact ⟨hT ▸ zLh rp1 rx ht, ρ1, σ', S1, st.mono p1 l1, rp1, zF.bind h1 fun ρ2 H2 xs Xs S2 p2 l2 rp2 rxs h2 => ad ρ2 H2 S2 x xs X1 Xs Q rp2 (rx.mono p2 l2) rxs h2⟩⟩
theorem Z0 {k : M.Kd} {T : String} {f : M.D -> M.F} {r : V -> List V -> Hp -> VK -> Prop} {o e : Expr} {es : List Expr} {mo : M.EM} {m : M.AM} {name : Str} {apos cpos : Pos} {id : String} (pa : PlainAttrs T) (slot : Slot T name id) (hty : typeOf (.builtin id) = pure (.type "method_descriptor")) (hm : MtR X id r) (ad : AdM X.K Θ f r) (hT : T = qm k) (ho : WE X Θ o mo) (ha : WA X Θ (e :: es) m)
  (hbase : attributeBase o name X.env (eval o X.env) = eval o X.env := by rfl)
  (hfew : (e :: es).length < 30 := by exact Nat.le_of_ble_eq_true rfl) (hline : (apos.endLine == cpos.line) = true := by rfl) (hs : jC e = true := by rfl) (hplain : es.all jC = true := by rfl) :
  WE X Θ (.Call (.Attribute o name apos) (e :: es) [] cpos) (M.eM k f mo m) := by with_unfolding_all exact zOr (k := k) (T := T) (f := f) (r := r) (o := o) (e := e) (es := es) (mo := mo) (m := m) (name := name) (apos := apos) (cpos := cpos) (id := id) pa slot hty hm ad hT ho ha hbase hfew hline hs hplain
end
end L2
namespace L2
open PySem PySem.Spec PyProof.Rows
def ze (K : PySem.W.Frag) (Θ : Tab) (ρ : List Addr) (H : Hp) : M.RS -> Qk -> Prop
 | .nx σ1 S1, D => ∀ ρ' H' σ, ρ <+: ρ' -> Le H H' -> zU K Θ ρ' S1 H' -> jA K ρ' H' σ1 σ -> D.nx σ H'
 | .rt d S1, D => ∀ ρ' H' v, ρ <+: ρ' -> Le H H' -> zU K Θ ρ' S1 H' -> zM K ρ' H' d v -> D.rt v H'
 | .bk σ1 S1, D => ∀ ρ' H' σ, ρ <+: ρ' -> Le H H' -> zU K Θ ρ' S1 H' -> jA K ρ' H' σ1 σ -> D.bk σ H'
 | .ct σ1 S1, D => ∀ ρ' H' σ, ρ <+: ρ' -> Le H H' -> zU K Θ ρ' S1 H' -> jA K ρ' H' σ1 σ -> D.ct σ H'
 | .exc _ _ _, _ => False
 | .no, _ => False
def RdS (K : PySem.W.Frag) (Θ : Tab) (m : M.SM) : TS := fun D σ H => ∃ ρ σ' S, jA K ρ H σ' σ /\ zU K Θ ρ S H /\ ze K Θ ρ H (m σ' S) D
abbrev MS (X : Cx) (Θ : Tab) (st : Stmt) (m : M.SM) : Prop := PS X st (RdS X.K Θ m)
@[irreducible] def WS (X : Cx) (Θ : Tab) (st : Stmt) (m : M.SM) : Prop := MS X Θ st m
abbrev MSs (X : Cx) (Θ : Tab) (st : List Stmt) (m : M.SM) : Prop := PSs X st (RdS X.K Θ m)
@[irreducible] def WSs (X : Cx) (Θ : Tab) (st : List Stmt) (m : M.SM) : Prop := MSs X Θ st m
theorem PS.imp {X : Cx} {e : Stmt} {t t' : TS} (h : PS X e t) (i : ∀ D σ H, t' D σ H -> t D σ H) : PS X e t' := fun pins s σ H D I q => h pins s σ H D I (i D σ H q)
theorem PSs.imp {X : Cx} {e : List Stmt} {t t' : TS} (h : PSs X e t) (i : ∀ D σ H, t' D σ H -> t D σ H) : PSs X e t' := fun pins s σ H D I q => h pins s σ H D I (i D σ H q)
section
variable {K : PySem.W.Frag} {Θ : Tab} {ρ ρ' : List Addr} {H H' : Hp} {S : M.S} {α β : Type} {Rl : List Addr -> Hp -> α -> β -> Prop} {Q : β -> Hp -> Prop} {D D' : Qk}
theorem ze.weak {r : M.RS} (h : ze K Θ ρ H r D) (hρ : ρ <+: ρ') (le : Le H H') : ze K Θ ρ' H' r D := by
 cases r with
 | nx a s => exact fun ρ2 H2 b p l => h ρ2 H2 b (hρ.trans p) (le.trans l)
 | rt a s => exact fun ρ2 H2 b p l => h ρ2 H2 b (hρ.trans p) (le.trans l)
 | bk a s => exact fun ρ2 H2 b p l => h ρ2 H2 b (hρ.trans p) (le.trans l)
 | ct a s => exact fun ρ2 H2 b p l => h ρ2 H2 b (hρ.trans p) (le.trans l)
 | exc e a s => exact h
 | no => exact h
theorem ze.stm {r : M.R α} {σ : M.St} {f : α -> M.S -> M.RS} (h : ze K Θ ρ H (r.stm σ f) D)
  (k : ∀ ρ' H' a b S', ρ <+: ρ' -> Le H H' -> zU K Θ ρ' S' H' -> Rl ρ' H' a b -> ze K Θ ρ' H' (f a S') D -> Q b H') : zF K Θ Rl ρ H r Q := by
 cases r with
 | ok a s => exact fun ρ2 H2 b p l rp rl => k ρ2 H2 a b s p l rp rl (ze.weak h p l)
 | exc e s => exact h
 | no => exact h
theorem ze.nx {σ1 : M.St} {σ : St} (h : ze K Θ ρ H (.nx σ1 S) D) (rp : zU K Θ ρ S H) (st : jA K ρ H σ1 σ) : D.nx σ H := h ρ H σ (List.prefix_refl _) (Le.refl _) rp st
theorem ze.rt {d : M.D} {v : V} (h : ze K Θ ρ H (.rt d S) D) (rp : zU K Θ ρ S H) (r : zM K ρ H d v) : D.rt v H := h ρ H v (List.prefix_refl _) (Le.refl _) rp r
end
section
variable {X : Cx} {Θ : Tab} {e : Expr} {pos : Pos} {m : M.EM} {st : Stmt} {jW : List Stmt} {ms mr : M.SM}
theorem zLS : MSs X Θ [] M.jB := zLU.imp fun D σ H ⟨ρ, σ', S, st, rp, h⟩ => h.nx rp st
theorem jO : WSs X Θ [] M.jB := by with_unfolding_all exact zLS
theorem zLA (h : MS X Θ st ms) : MSs X Θ [st] ms := zLN h
theorem zN (h : WS X Θ st ms) : WSs X Θ [st] ms := by with_unfolding_all exact zLA h
theorem zJC (h1 : MS X Θ st ms) (h2 : MSs X Θ jW mr) : MSs X Θ (st :: jW) (M.zJ ms mr) := (zI8 h1 h2).imp fun D σ H ⟨ρ, σ', S, st, rp, h⟩ => ⟨ρ, σ', S, st, rp, by
 have h' : ze X.K Θ ρ H ((ms σ' S).then mr) D := h
 revert h'
 cases ms σ' S with
 | nx a s => exact fun h' ρ2 H2 σ2 p l rp2 st2 => ⟨ρ2, a, s, st2, rp2, ze.weak h' p l⟩
 | rt a s => exact fun h' => h'
 | bk a s => exact fun h' => h'
 | ct a s => exact fun h' => h'
 | exc e a s => exact fun h' => h'
 | no => exact fun h' => h'⟩
theorem zG (h1 : WS X Θ st ms) (h2 : WSs X Θ jW mr) : WSs X Θ (st :: jW) (M.zJ ms mr) := by with_unfolding_all exact zJC h1 h2
theorem zKg (he : ME X Θ e m) (hs : swapsWith e none pos.line X.env = pure false := by rfl) : MS X Θ (.Expr e pos) (M.qG m) := (zLL he hs).imp fun D σ H ⟨ρ, σ', S, st, rp, h⟩ => ⟨ρ, σ', S, st, rp, ze.stm h fun ρ1 H1 x X1 S1 p1 l1 rp1 rx h1 => h1.nx rp1 (st.mono p1 l1)⟩
theorem QA (he : WE X Θ e m) (hs : swapsWith e none pos.line X.env = pure false := by rfl) : WS X Θ (.Expr e pos) (M.qG m) := by with_unfolding_all exact zKg he hs
theorem zMR (he : ME X Θ e m) : MS X Θ (.Return (some e) pos) (M.jE m) := (zMs he).imp fun D σ H ⟨ρ, σ', S, st, rp, h⟩ => ⟨ρ, σ', S, st, rp, ze.stm h fun ρ1 H1 x X1 S1 p1 l1 rp1 rx h1 => h1.rt rp1 rx⟩
theorem z7 (he : WE X Θ e m) : WS X Θ (.Return (some e) pos) (M.jE m) := by with_unfolding_all exact zMR he
theorem zLo {i : Nat} {x : Str} {pos' : Pos} (hN : X.N.Nodup) (hi : X.N[i]? = some x) (hx : Loc X.env.scope x) (he : ME X Θ e m) (hs : swapsWith e (some (.Name x pos')) pos.line X.env = pure false := by kernel_rfl) (hf : X.fn x = true \/ X.env.scope.names.lookup x = some .local := by first | exact .inl rfl | exact .inr rfl | assumption) :
  MS X Θ (.Assign [.Name x pos'] e pos) (M.zR i m) := (zMI hN hi hx he hs hf).imp fun D σ H ⟨ρ, σ', S, st, rp, h⟩ => ⟨ρ, σ', S, st, rp, ze.stm h fun ρ1 H1 x X1 S1 p1 l1 rp1 rx h1 => h1.nx rp1 ((st.mono p1 l1).set rx i)⟩
theorem zX {i : Nat} {x : Str} {pos' : Pos} (hN : X.N.Nodup) (hi : X.N[i]? = some x) (hx : Loc X.env.scope x) (he : WE X Θ e m) (hs : swapsWith e (some (.Name x pos')) pos.line X.env = pure false := by kernel_rfl) (hf : X.fn x = true \/ X.env.scope.names.lookup x = some .local := by first | exact .inl rfl | exact .inr rfl | assumption) :
  WS X Θ (.Assign [.Name x pos'] e pos) (M.zR i m) := by with_unfolding_all exact zLo (i := i) (x := x) (pos' := pos') hN hi hx he hs hf
theorem zNm {c : Expr} {a b : List Stmt} {tc : M.TM} {ma mb : M.SM} (hc : MT X Θ c tc) (ha : MSs X Θ a ma) (hb : MSs X Θ b mb) : MS X Θ (.If c a b pos) (M.sIf tc ma mb) := (zNu hc ha hb).imp fun D σ H ⟨ρ, σ', S, st, rp, h⟩ => ⟨ρ, σ', S, st, rp, ze.stm h fun ρ1 H1 k k' S1 p1 l1 rp1 ek h1 => by
 cases ek
 cases k with
 | true => exact zBf ⟨ρ1, σ', S1, st.mono p1 l1, rp1, h1⟩
 | false => exact zBq ⟨ρ1, σ', S1, st.mono p1 l1, rp1, h1⟩⟩
theorem jp {c : Expr} {a b : List Stmt} {tc : M.TM} {ma mb : M.SM} (hc : WT X Θ c tc) (ha : WSs X Θ a ma) (hb : WSs X Θ b mb) : WS X Θ (.If c a b pos) (M.sIf tc ma mb) := by with_unfolding_all exact zNm (c := c) (a := a) (b := b) (tc := tc) (ma := ma) (mb := mb) hc ha hb
theorem zMU {i : Nat} {x : Str} {op : Operator} {f : M.D -> M.D -> M.S -> M.R M.D} {r : R2} {pos' : Pos} (hN : X.N.Nodup) (hi : X.N[i]? = some x) (hx : Loc X.env.scope x) (he : ME X Θ e m) (hop : PIp X op r) (ad : Ad2 X.K Θ f r)
  (hf : X.fn x = true \/ X.env.scope.names.lookup x = some .local := by first | exact .inl rfl | exact .inr rfl | assumption) : MS X Θ (.AugAssign (.Name x pos') op e pos) (M.zE3 f i m) := (zNM hN hi hx he hop hf).imp fun D σ H ⟨ρ, σ', S, st, rp, h⟩ => by
 unfold M.zE3 at h
 split at h
 ·rename_i d e
  obtain ⟨v, e1, rv⟩ := st.get i d e
  exact ⟨v, e1, ρ, σ', S, st, rp, ze.stm h fun ρ1 H1 y Y S1 p1 l1 rp1 ry h1 => ad ρ1 H1 S1 d y v Y _ rp1 (rv.mono p1 l1) ry (ze.stm h1 fun ρ2 H2 z Z S2 p2 l2 rp2 rz h2 => h2.nx rp2 ((st.mono (p1.trans p2) (l1.trans l2)).set rz i))⟩
 ·exact h.elim
theorem zJw {i : Nat} {x : Str} {op : Operator} {f : M.D -> M.D -> M.S -> M.R M.D} {r : R2} {pos' : Pos} (hN : X.N.Nodup) (hi : X.N[i]? = some x) (hx : Loc X.env.scope x) (he : WE X Θ e m) (hop : PIp X op r) (ad : Ad2 X.K Θ f r)
  (hf : X.fn x = true \/ X.env.scope.names.lookup x = some .local := by first | exact .inl rfl | exact .inr rfl | assumption) : WS X Θ (.AugAssign (.Name x pos') op e pos) (M.zE3 f i m) := by with_unfolding_all exact zMU (i := i) (x := x) (op := op) (f := f) (r := r) (pos' := pos') hN hi hx he hop ad hf
end
def RdG (K : PySem.W.Frag) (Θ : Tab) (js : List Nat) (g : M.GM) : TG := fun v σ H Q => ∃ ρ σ' S d, jA K ρ H σ' σ /\ zU K Θ ρ S H /\ zM K ρ H d v /\ ∃ σ1, g d σ' = some σ1 /\
 ∀ H' σ2, Le H H' -> zU K Θ ρ S H' -> jA K ρ H' σ1 σ2 -> σ2.length = σ.length -> (∀ j, j ∉ js -> σ2[j]? = σ[j]?) -> Q σ2 H'
abbrev MG (X : Cx) (Θ : Tab) (js : List Nat) (tg : Expr) (g : M.GM) : Prop := PG X tg (RdG X.K Θ js g)
@[irreducible] def WG (X : Cx) (Θ : Tab) (js : List Nat) (tg : Expr) (g : M.GM) : Prop := MG X Θ js tg g
theorem PG.imp {X : Cx} {e : Expr} {t t' : TG} (h : PG X e t) (i : ∀ v σ H Q, t' v σ H Q -> t v σ H Q) : PG X e t' := fun pins s σ H v u Q I r q => h pins s σ H v u Q I r (i v σ H Q q)
theorem zLE {X : Cx} {Θ : Tab} {pos : Pos} {i : Nat} {x : Str} (hN : X.N.Nodup) (hi : X.N[i]? = some x) (hx : Loc X.env.scope x) (hf : X.fn x = true \/ X.env.scope.names.lookup x = some .local := by first | exact .inl rfl | exact .inr rfl | assumption) :
  MG X Θ [i] (.Name x pos) (M.zK i) := (zLK hN hi hx hf).imp fun v σ H Q ⟨ρ, σ', S, d, st, rp, rv, σ1, e, h⟩ => by
 cases e
 exact h H _ (Le.refl _) rp (st.set rv i) (by rw [List.length_set]) fun j hj => List.getElem?_set_ne (fun z => hj (by rw [z]; simp))
theorem zk {X : Cx} {Θ : Tab} {pos : Pos} {i : Nat} {x : Str} (hN : X.N.Nodup) (hi : X.N[i]? = some x) (hx : Loc X.env.scope x) (hf : X.fn x = true \/ X.env.scope.names.lookup x = some .local := by first | exact .inl rfl | exact .inr rfl | assumption) :
  WG X Θ [i] (.Name x pos) (M.zK i) := by with_unfolding_all exact zLE (X := X) (Θ := Θ) (pos := pos) (i := i) (x := x) hN hi hx hf
def zMn (K : PySem.W.Frag) (Θ : Tab) (js : List Nat) (g : M.GMs) : TGs := fun vs σ H Q => ∃ ρ σ' S ds, jA K ρ H σ' σ /\ zU K Θ ρ S H /\ zL K ρ H ds vs /\ ∃ σ1, g ds σ' = some σ1 /\
 ∀ H' σ2, Le H H' -> zU K Θ ρ S H' -> jA K ρ H' σ1 σ2 -> σ2.length = σ.length -> (∀ j, j ∉ js -> σ2[j]? = σ[j]?) -> Q σ2 H'
abbrev MGs (X : Cx) (Θ : Tab) (js : List Nat) (ts : List Expr) (g : M.GMs) : Prop := PGs X ts (zMn X.K Θ js g)
@[irreducible] def WGs (X : Cx) (Θ : Tab) (js : List Nat) (ts : List Expr) (g : M.GMs) : Prop := MGs X Θ js ts g
theorem PGs.imp {X : Cx} {e : List Expr} {t t' : TGs} (h : PGs X e t) (i : ∀ v σ H Q, t' v σ H Q -> t v σ H Q) : PGs X e t' := fun pins s σ H v u Q I r q => h pins s σ H v u Q I r (i v σ H Q q)
theorem zKj {X : Cx} {Θ : Tab} : MGs X Θ [] [] M.QZ := zKq.imp fun vs σ H Q ⟨ρ, σ', S, ds, st, rp, rv, σ1, e, h⟩ => by
 cases ds with
 | nil => cases rv; cases e; exact ⟨rfl, h H σ (Le.refl _) rp st rfl fun _ _ => rfl⟩
 | cons d ds => cases e
theorem zBF {X : Cx} {Θ : Tab} : WGs X Θ [] [] M.QZ := by with_unfolding_all exact zKj (X := X) (Θ := Θ)
theorem zJo {X : Cx} {Θ : Tab} {e : Expr} {es : List Expr} {g : M.GM} {gs : M.GMs} {js ks : List Nat} (h1 : MG X Θ js e g) (h2 : MGs X Θ ks es gs) (hp : ∀ {t : TG} {u : TGs}, PG X e t -> PGs X es u -> PGs X (e :: es) (qE t u)) : MGs X Θ (js ++ ks) (e :: es) (M.qE g gs) :=
 (hp h1 h2).imp fun vs σ H Q ⟨ρ, σ', S, ds, st, rp, rv, σ1, eq, h⟩ => by
  cases ds with
  | nil => cases eq
  | cons d ds =>
   obtain ⟨y, ys, rfl, r1, r2⟩ := rv
   have eq' : (match g d σ' with | some σ' => gs ds σ' | none => none) = some σ1 := eq
   cases q : g d σ' with
   | none => rw [q] at eq'; cases eq'
   | some σm =>
    rw [q] at eq'
    refine ⟨y, ys, rfl, ρ, σ', S, d, st, rp, r1, σm, q, fun H' σ2 le rp2 st2 hl hj => ⟨ρ, σm, S, ds, st2, rp2, r2.mono (List.prefix_refl _) le, σ1, eq', fun H'' σ3 le2 rp3 st3 hl3 hj3 => h H'' σ3 (le.trans le2) rp3 st3 (hl3.trans hl) fun j hjk => ?_⟩⟩
    rw [List.mem_append] at hjk
    rw [hj3 j fun z => hjk (.inr z), hj j fun z => hjk (.inl z)]
theorem Zl {X : Cx} {Θ : Tab} {e : Expr} {es : List Expr} {g : M.GM} {gs : M.GMs} {js ks : List Nat} (h1 : WG X Θ js e g) (h2 : WGs X Θ ks es gs) (hp : ∀ {t : TG} {u : TGs}, PG X e t -> PGs X es u -> PGs X (e :: es) (qE t u)) : WGs X Θ (js ++ ks) (e :: es) (M.qE g gs) := by with_unfolding_all exact zJo (X := X) (Θ := Θ) (e := e) (es := es) (g := g) (gs := gs) (js := js) (ks := ks) h1 h2 hp
theorem zLz {X : Cx} {Θ : Tab} {es : List Expr} {g : M.GMs} {js : List Nat} {tg : Expr} {n : Nat} (h : PG X tg (Qi X.K n (zMn X.K Θ js g))) (hn : ∀ ds σ σ1, g ds σ = some σ1 -> ds.length = n) : MG X Θ js tg (M.Qi g) := h.imp fun v σ H Q ⟨ρ, σ', S, d, st, rp, rv, σ1, eq, h⟩ => by
 cases d with
 | tup ds =>
  obtain ⟨a, xs, rfl, hq, r⟩ := rv
  exact ⟨a, xs, rfl, hq, by rw [<- r.length]; exact hn ds σ' σ1 eq, ρ, σ', S, ds, st, rp, r, σ1, eq, h⟩
 | _ => cases eq
structure ItR (K : PySem.W.Frag) (Θ : Tab) (ρ : List Addr) (H : Hp) (J : It) (xs : List M.D) (g : M.Gd) : Prop where
 go : ∀ (i : Nat) ρ' S' H', ρ <+: ρ' -> Le H H' -> zU K Θ ρ' S' H' -> M.zQ g S' = true -> i < xs.length -> J.go i H'
 yld : ∀ (i : Nat) ρ' S' H' v H2, ρ <+: ρ' -> Le H H' -> zU K Θ ρ' S' H' -> M.zQ g S' = true -> i < xs.length -> J.yld i H' v H2 -> ∃ d, xs[i]? = some d /\ zM K ρ' H2 d v /\ Le H' H2 /\ zU K Θ ρ' S' H2
 stop : ∀ ρ' S' H', ρ <+: ρ' -> Le H H' -> zU K Θ ρ' S' H' -> M.zQ g S' = true -> J.stop xs.length H'
def RdI (K : PySem.W.Frag) (Θ : Tab) (m : M.IM) : TI := fun σ H R => ∃ ρ σ' S, jA K ρ H σ' σ /\ zU K Θ ρ S H /\
 zF K Θ (fun ρ' H' (p : List M.D × M.Gd) (J : It) => ItR K Θ ρ' H' J p.1 p.2) ρ H ((m σ' S).bind fun p s => if M.zQ p.2 s then .ok p s else .no) R
abbrev MI (X : Cx) (Θ : Tab) (tg iter : Expr) (m : M.IM) : Prop := PI X tg iter (RdI X.K Θ m)
@[irreducible] def WI (X : Cx) (Θ : Tab) (tg iter : Expr) (m : M.IM) : Prop := MI X Θ tg iter m
theorem PI.imp {X : Cx} {tg e : Expr} {t t' : TI} (h : PI X tg e t) (i : ∀ σ H R, t' σ H R -> t σ H R) : PI X tg e t' := fun pins s σ H R I q => h pins s σ H R I (i σ H R q)
theorem PI.or {X : Cx} {tg e : Expr} {t t' : TI} (h : PI X tg e t) (h' : PI X tg e t') : PI X tg e (fun σ H R => t σ H R \/ t' σ H R) := fun pins s σ H R I q => by
 rcases q with q | q
 ·exact h pins s σ H R I q
 ·exact h' pins s σ H R I q
section
variable {X : Cx} {Θ : Tab} {tg e : Expr} {m : M.EM}
theorem zJz {K : PySem.W.Frag} {ρ : List Addr} {H : Hp} {i : Nat} {a : Addr} {ds : List M.D} (ha : ρ[i]? = some a) : ItR K Θ ρ H (Itl K a) ds [(i, .lst ds)] := by
 have key : ∀ {ρ' : List Addr} {S' : M.S} {H' : Hp}, ρ <+: ρ' -> zU K Θ ρ' S' H' -> M.zQ [(i, .lst ds)] S' = true -> ∃ zs, H' a = some (.lst zs) /\ zL K ρ' H' ds zs := fun {ρ' S' H'} p rp g => by
  have g' : S'[i]? = some (M.O.lst ds) := by simpa [M.zQ] using g
  obtain ⟨b, e1, zs, e2, r⟩ := rp.obj i _ g'
  rw [Qh p ha] at e1; cases e1
  exact ⟨zs, e2, r⟩
 refine ⟨fun j ρ' S' H' p l rp g hj => ?_, fun j ρ' S' H' v H2 p l rp g hj y => ?_, fun ρ' S' H' p l rp g => ?_⟩
 ·obtain ⟨zs, e, r⟩ := key p rp g
  obtain ⟨v, e1, _⟩ := r.get (i := j) (d := ds[j]) (by simp [hj])
  exact ⟨zs, v, SqL.of e, e1⟩
 ·obtain ⟨zs, e, r⟩ := key p rp g
  obtain ⟨v', e1, rv⟩ := r.get (i := j) (d := ds[j]) (by simp [hj])
  obtain ⟨rfl, y2⟩ := y
  have y3 := y2 zs (SqL.of e)
  rw [e1] at y3; cases y3
  exact ⟨ds[j], by simp [hj], rv, Le.refl _, rp⟩
 ·obtain ⟨zs, e, r⟩ := key p rp g
  exact ⟨zs, SqL.of e, Nat.le_of_eq r.length.symm⟩
theorem zM5 {K : PySem.W.Frag} {ρ : List Addr} {H : Hp} {a : Addr} {ds : List M.D} {xs : List V} (hq : JC K H a xs) (r : zL K ρ H ds xs) : ItR K Θ ρ H (Itl K a) ds [] := by
 refine ⟨fun j ρ' S' H' p l rp g hj => ?_, fun j ρ' S' H' v H2 p l rp g hj y => ?_, fun ρ' S' H' p l rp g => ?_⟩
 ·obtain ⟨v, e1, _⟩ := r.get (i := j) (d := ds[j]) (by simp [hj])
  exact ⟨xs, v, (l.rol hq).sq, e1⟩
 ·obtain ⟨v', e1, rv⟩ := (r.mono p l).get (i := j) (d := ds[j]) (by simp [hj])
  obtain ⟨rfl, y2⟩ := y
  have y3 := y2 xs (l.rol hq).sq
  rw [e1] at y3; cases y3
  exact ⟨ds[j], by simp [hj], rv, Le.refl _, rp⟩
 ·exact ⟨xs, (l.rol hq).sq, Nat.le_of_eq r.length.symm⟩
theorem zKk {K : PySem.W.Frag} {ρ : List Addr} {H : Hp} {a : Addr} {ds : List M.D} {xs : List V} (hq : SqT K H a xs) (r : zL K ρ H ds xs) : ItR K Θ ρ H (Itt K a) ds [] := by
 refine ⟨fun j ρ' S' H' p l rp g hj => ?_, fun j ρ' S' H' v H2 p l rp g hj y => ?_, fun ρ' S' H' p l rp g => ?_⟩
 ·obtain ⟨v, e1, _⟩ := r.get (i := j) (d := ds[j]) (by simp [hj])
  exact ⟨xs, v, l.sqT hq, e1⟩
 ·obtain ⟨v', e1, rv⟩ := (r.mono p l).get (i := j) (d := ds[j]) (by simp [hj])
  obtain ⟨rfl, y2⟩ := y
  have y3 := y2 xs (l.sqT hq)
  rw [e1] at y3; cases y3
  exact ⟨ds[j], by simp [hj], rv, Le.refl _, rp⟩
 ·exact ⟨xs, l.sqT hq, Nat.le_of_eq r.length.symm⟩
theorem zLW {K : PySem.W.Frag} {ρ : List Addr} {H : Hp} {x : M.T} (ok : okT x) : ItR K Θ ρ H (Its (ofT x)) (x.map fun c => .str [c]) [] := by
 refine ⟨fun j ρ' S' H' p l rp g hj => ?_, fun j ρ' S' H' v H2 p l rp g hj y => ?_, fun ρ' S' H' p l rp g => ?_⟩
 ·rw [List.length_map] at hj
  show j < (ofT x).length
  rw [ju]; exact hj
 ·obtain ⟨rfl, c, hc, rfl⟩ := y
  have hc' : x[j]? = some c := by simpa [ofT] using hc
  exact ⟨.str [c], by rw [List.getElem?_map, hc']; rfl, ⟨rfl, zBL ok fun d hd => by rw [List.mem_singleton.mp hd]; exact List.mem_of_getElem? hc'⟩, Le.refl _, rp⟩
 ·show (ofT x).length <= _
  rw [ju, List.length_map]; exact Nat.le_refl _
theorem zIf {K : PySem.W.Frag} {ρ : List Addr} {H : Hp} {lo hi : Int} : ItR K Θ ρ H (Itr lo (hi - lo).toNat) (M.jQ lo hi) [] := by
 refine ⟨fun j ρ' S' H' p l rp g hj => ?_, fun j ρ' S' H' v H2 p l rp g hj y => ?_, fun ρ' S' H' p l rp g => ?_⟩
 ·show j < _
  simpa [M.jQ] using hj
 ·obtain ⟨rfl, rfl⟩ := y
  have hj' : j < (hi - lo).toNat := by simpa [M.jQ] using hj
  exact ⟨.int (lo + j), by unfold M.jQ; rw [List.getElem?_map, List.getElem?_range hj']; rfl, rfl, Le.refl _, rp⟩
 ·show _ <= _
  simp [M.jQ]
theorem zOt (he : ME X Θ e m) : MI X Θ tg e (M.iE m) := (PI.or (zK7 he) (PI.or (zNQ he) (zLw he))).imp fun σ H R ⟨ρ, σ', S, st, rp, h⟩ => by
 have h' : zF X.K Θ _ ρ H (((m σ' S).bind M.itD).bind fun p s => if M.zQ p.2 s then .ok p s else .no) R := h
 clear h
 cases hm : m σ' S with
 | no => rw [hm] at h'; exact h'.elim
 | exc a s => rw [hm] at h'; exact h'.elim
 | ok d S1 =>
  rw [hm] at h'
  have go : ∀ {Q : VK}, (∀ ρ1 H1 v, ρ <+: ρ1 -> Le H H1 -> zU X.K Θ ρ1 S1 H1 -> zM X.K ρ1 H1 d v -> Q v H1) -> RdE X.K Θ m σ H Q := fun q => ⟨ρ, σ', S, st, rp, by rw [hm]; exact q⟩
  cases d with
  | str x =>
   refine .inr (.inr (go fun ρ1 H1 v p l rp1 rv => ?_))
   have h2 : zF X.K Θ _ ρ H ((if x.length <= M.SZ then .ok (x.map fun c => M.D.str [c], []) S1 else M.R.no).bind fun p s => if M.zQ p.2 s then .ok p s else .no) R := h'
   by_cases hl : x.length <= M.SZ
   ·rw [if_pos hl] at h2
    exact ⟨ofT x, rv.1, h2 ρ1 H1 _ p l rp1 (zLW rv.2)⟩
   ·rw [if_neg hl] at h2
    exact h2.elim
  | tup ds =>
   refine .inr (.inl (go fun ρ1 H1 v p l rp1 rv => ?_))
   obtain ⟨a, xs, rfl, hq, r⟩ := rv
   exact ⟨a, rfl, ⟨xs, hq⟩, h' ρ1 H1 _ p l rp1 (zKk hq r)⟩
  | ro ds =>
   refine .inl (go fun ρ1 H1 v p l rp1 rv => ?_)
   obtain ⟨a, xs, rfl, hq, r⟩ := rv
   exact ⟨a, rfl, ⟨xs, hq.sq⟩, h' ρ1 H1 _ p l rp1 (zM5 hq r)⟩
  | ref i =>
   have h2 : zF X.K Θ _ ρ H ((match S1[i]? with
    | some (.lst xs) => M.R.ok (xs, [(i, M.O.lst xs)]) S1
    | _ => .no).bind fun p s => if M.zQ p.2 s then .ok p s else .no) R := h'
   cases q : S1[i]? with
   | none => rw [q] at h2; exact h2.elim
   | some o =>
    rw [q] at h2
    cases o with
    | lst xs =>
     refine .inl (go fun ρ1 H1 v p l rp1 rv => ?_)
     obtain ⟨a, rfl, e1⟩ := rv
     obtain ⟨b, e2, zs, e3, r⟩ := rp1.obj i _ q
     rw [e1] at e2; cases e2
     have hg : M.zQ [(i, M.O.lst xs)] S1 = true := by simp [M.zQ, q]
     have h3 : zF X.K Θ _ ρ H (if M.zQ [(i, M.O.lst xs)] S1 then M.R.ok (xs, [(i, M.O.lst xs)]) S1 else .no) R := h2
     rw [if_pos hg] at h3
     exact ⟨a, rfl, ⟨zs, SqL.of e3⟩, h3 ρ1 H1 _ p l rp1 (zJz e1)⟩
    | dct kvs => exact h2.elim
    | fdc _ => exact h2.elim
    | ins c fs => exact h2.elim
  | non => exact h'.elim
  | bl b => exact h'.elim
  | int b => exact h'.elim
  | ty b => exact h'.elim
theorem ZW (he : WE X Θ e m) : WI X Θ tg e (M.iE m) := by with_unfolding_all exact zOt he
theorem zIY {p pos : Pos} (hg : Gl X "range") (hm : X.mg "range" = none) (he : ME X Θ e m) (hs : jC e = true := by rfl) : MI X Θ tg (.Call (.Name "range" p) [e] [] pos) (M.jo m) :=
 (zIa hg hm (zDI he zFP hs) (j0 hs)).imp fun σ H R ⟨ρ, σ', S, st, rp, h⟩ => ⟨ρ, σ', S, st, rp, by
  have h' : zF X.K Θ _ ρ H (((m σ' S).bind fun x s => match x with
   | .int j => if j.natAbs < 4611686018427387904 then M.R.ok (M.jQ 0 j, ([] : M.Gd)) s else .no
   | _ => .no).bind fun p s => if M.zQ p.2 s then .ok p s else .no) R := h
  show zF X.K Θ _ ρ H ((m σ' S).bind fun x s => (M.R.ok [] s).bind fun xs s => .ok (x :: xs) s) _
  cases hm : m σ' S with
  | no => rw [hm] at h'; exact h'.elim
  | exc a s => rw [hm] at h'; exact h'.elim
  | ok d S1 =>
   rw [hm] at h'
   intro ρ1 H1 vs p l rp1 rv
   obtain ⟨v, ys, rfl, rv, hy⟩ := rv
   cases hy
   cases d with
   | int j =>
    cases rv
    have h2 : zF X.K Θ _ ρ H ((if j.natAbs < 4611686018427387904 then M.R.ok (M.jQ 0 j, ([] : M.Gd)) S1 else .no).bind fun p s => if M.zQ p.2 s then .ok p s else .no) R := h'
    by_cases hj : j.natAbs < 4611686018427387904
    ·rw [if_pos hj] at h2
     refine ⟨j, rfl, by omega, by omega, ?_⟩
     have := h2 ρ1 H1 _ p l rp1 (zIf (lo := 0) (hi := j))
     rw [Int.sub_zero] at this
     exact this
    ·rw [if_neg hj] at h2
     exact h2.elim
   | _ => exact h'.elim⟩
theorem yc {p pos : Pos} (hg : Gl X "range") (hm : X.mg "range" = none) (he : WE X Θ e m) (hs : jC e = true := by rfl) : WI X Θ tg (.Call (.Name "range" p) [e] [] pos) (M.jo m) := by with_unfolding_all exact zIY (p := p) (pos := pos) hg hm he hs
end
section
variable {X : Cx} {Θ : Tab} {pos : Pos}
theorem zJ2 {c : Expr} {body : List Stmt} {tc : M.TM} {mb : M.SM} (hp : PassesOwn (model X.prog X.w) X.A X.env X.xe) (hc : MT X Θ c tc) (hb : MSs X Θ body mb) : MS X Θ (.While c body [] pos) (M.zA8 tc mb) :=
 (zI1 hp hc hb).imp fun D σ H ⟨ρ, σ', S, st, rp, h⟩ => by
  refine ⟨fun k σ2 H2 => ∃ ρ2 σ2' S2, jA X.K ρ2 H2 σ2' σ2 /\ zU X.K Θ ρ2 S2 H2 /\ ze X.K Θ ρ2 H2 (M.qj k tc mb σ2' S2) D, ⟨M.zBu, ρ, σ', S, st, rp, h⟩, ?_⟩
  rintro k σ2 H2 ⟨ρ2, σ2', S2, st2, rp2, h2⟩
  cases k with
  | zero => exact h2.elim
  | succ k =>
   refine ⟨ρ2, σ2', S2, st2, rp2, ze.stm h2 fun ρ3 H3 b b' S3 p3 l3 rp3 eb h3 => ?_⟩
   cases eb
   cases b with
   | false => exact zBq (ze.nx (σ := σ2) h3 rp3 (st2.mono p3 l3))
   | true =>
    refine zBf ⟨fun σ4 H4 => ∃ ρ4 σ4' S4, jA X.K ρ4 H4 σ4' σ4 /\ zU X.K Θ ρ4 S4 H4 /\ ze X.K Θ ρ4 H4 (M.qj k tc mb σ4' S4) D, fun σ4 H4 q => ⟨k, Nat.lt_succ_self k, q⟩, ρ3, σ2', S3, st2.mono p3 l3, rp3, ?_⟩
    have h4 : ze X.K Θ ρ3 H3 (match mb σ2' S3 with
     | .nx σ s => M.qj k tc mb σ s
     | .ct σ s => M.qj k tc mb σ s
     | .bk σ s => .nx σ s
     | r => r) D := h3
    revert h4
    cases mb σ2' S3 with
    | nx a s => exact fun h4 ρ4 H4 σ4 p4 l4 rp4 st4 => ⟨ρ4, a, s, st4, rp4, ze.weak h4 p4 l4⟩
    | ct a s => exact fun h4 ρ4 H4 σ4 p4 l4 rp4 st4 => ⟨ρ4, a, s, st4, rp4, ze.weak h4 p4 l4⟩
    | bk a s => exact fun h4 => h4
    | rt a s => exact fun h4 => h4
    | exc e a s => exact fun h4 => h4
    | no => exact fun h4 => h4
theorem zCr {c : Expr} {body : List Stmt} {tc : M.TM} {mb : M.SM} (hp : PassesOwn (model X.prog X.w) X.A X.env X.xe) (hc : WT X Θ c tc) (hb : WSs X Θ body mb) : WS X Θ (.While c body [] pos) (M.zA8 tc mb) := by with_unfolding_all exact zJ2 (c := c) (body := body) (tc := tc) (mb := mb) hp hc hb
theorem zGh {K : PySem.W.Frag} {g : M.GM} {js : List Nat} {mb : M.SM} {xs : List M.D} {gd : M.Gd} {J : It} {ρ1 : List Addr} {H1 : Hp} {σ : St} {σ' : M.St} {S1 : M.S} {D : Qk} (itr : ItR K Θ ρ1 H1 J xs gd) (st : jA K ρ1 H1 σ' σ) (rp1 : zU K Θ ρ1 S1 H1) (hgd : M.zQ gd S1 = true) (h2 : ze K Θ ρ1 H1 (M.jm gd (M.jU g mb) xs σ' S1) D) :
  ∃ W : Nat -> Nat -> St -> Hp -> Prop, (∃ m, W 0 m σ H1) /\ ∀ i m σ H, W i m σ H ->
   (J.stop i H /\ D.nx σ H) \/ (J.go i H /\ ∃ N : St -> Hp -> Prop, (∀ σ' H', N σ' H' -> ∃ m', m' < m /\ W (i + 1) m' σ' H') /\ ∀ x H', J.yld i H x H' -> RdG K Θ js g x σ H' fun σ2 H2 => RdS K Θ mb { D with nx := N, ct := N, bk := D.nx } σ2 H2) := by
 refine ⟨fun i k σ2 H2 => ∃ ρ2 σ2' S2, ρ1 <+: ρ2 /\ Le H1 H2 /\ jA K ρ2 H2 σ2' σ2 /\ zU K Θ ρ2 S2 H2 /\ M.zQ gd S2 = true /\ k = xs.length - i /\ i <= xs.length /\ ze K Θ ρ2 H2 (M.jm gd (M.jU g mb) (xs.drop i) σ2' S2) D,
  ⟨xs.length, ρ1, σ', S1, List.prefix_refl _, Le.refl _, st, rp1, hgd, rfl, Nat.zero_le _, h2⟩, ?_⟩
 rintro i k σ2 H2 ⟨ρ2, σ2', S2, p2, l2, st2, rp2, g2, rfl, hi2, h3⟩
 by_cases hlt : i < xs.length
 ·refine .inr ⟨itr.go i ρ2 S2 H2 p2 l2 rp2 g2 hlt, fun σ3 H3 => ∃ ρ3 σ3' S3, ρ1 <+: ρ3 /\ Le H1 H3 /\ jA K ρ3 H3 σ3' σ3 /\ zU K Θ ρ3 S3 H3 /\ M.zQ gd S3 = true /\ ze K Θ ρ3 H3 (M.jm gd (M.jU g mb) (xs.drop (i + 1)) σ3' S3) D,
   fun σ3 H3 ⟨ρ3, σ3', S3, a1, a2, a3, a4, a5, a6⟩ => ⟨xs.length - (i + 1), by omega, ρ3, σ3', S3, a1, a2, a3, a4, a5, rfl, hlt, a6⟩, fun x H' y => ?_⟩
  obtain ⟨d, ed, rd, ld, rpd⟩ := itr.yld i ρ2 S2 H2 x H' p2 l2 rp2 g2 hlt y
  have edr : xs.drop i = d :: xs.drop (i + 1) := by
   obtain ⟨_, e⟩ := List.getElem?_eq_some_iff.mp ed
   rw [List.drop_eq_getElem_cons hlt, e]
  rw [edr] at h3
  have h4 : ze K Θ ρ2 H2 (match (match g d σ2' with | some σ' => mb σ' S2 | none => M.RS.no) with
   | .nx σ s => if M.zQ gd s then M.jm gd (M.jU g mb) (xs.drop (i + 1)) σ s else .no
   | .ct σ s => if M.zQ gd s then M.jm gd (M.jU g mb) (xs.drop (i + 1)) σ s else .no
   | .bk σ s => .nx σ s
   | r => r) D := h3
  cases hgq : g d σ2' with
  | none => rw [hgq] at h4; exact h4.elim
  | some σ1 =>
   rw [hgq] at h4
   refine ⟨ρ2, σ2', S2, d, st2.mono (List.prefix_refl _) ld, rpd, rd, σ1, hgq, fun H'' σ3 le3 rp3 st3 _ _ => ⟨ρ2, σ1, S2, st3, rp3, ?_⟩⟩
   have h5 := ze.weak h4 (List.prefix_refl _) (ld.trans le3)
   have h6 : ze K Θ ρ2 H'' (match mb σ1 S2 with
    | .nx σ s => if M.zQ gd s then M.jm gd (M.jU g mb) (xs.drop (i + 1)) σ s else .no
    | .ct σ s => if M.zQ gd s then M.jm gd (M.jU g mb) (xs.drop (i + 1)) σ s else .no
    | .bk σ s => .nx σ s
    | r => r) D := h5
   have more : ∀ (a : M.St) (s : M.S), ze K Θ ρ2 H'' (if M.zQ gd s then M.jm gd (M.jU g mb) (xs.drop (i + 1)) a s else .no) D -> ∀ ρ4 H4 σ4, ρ2 <+: ρ4 -> Le H'' H4 -> zU K Θ ρ4 s H4 -> jA K ρ4 H4 a σ4 ->
     ∃ ρ3 σ3' S3, ρ1 <+: ρ3 /\ Le H1 H4 /\ jA K ρ3 H4 σ3' σ4 /\ zU K Θ ρ3 S3 H4 /\ M.zQ gd S3 = true /\ ze K Θ ρ3 H4 (M.jm gd (M.jU g mb) (xs.drop (i + 1)) σ3' S3) D := fun a s h7 ρ4 H4 σ4 p4 l4 rp4 st4 => by
    by_cases hs : M.zQ gd s = true
    ·rw [if_pos hs] at h7
     exact ⟨ρ4, a, s, p2.trans p4, l2.trans (ld.trans (le3.trans l4)), st4, rp4, hs, ze.weak h7 p4 l4⟩
    ·rw [if_neg hs] at h7; exact h7.elim
   revert h6
   cases mb σ1 S2 with
   | nx a s => exact fun h6 => more a s h6
   | ct a s => exact fun h6 => more a s h6
   | bk a s => exact fun h6 => h6
   | rt a s => exact fun h6 => h6
   | exc e a s => exact fun h6 => h6
   | no => exact fun h6 => h6
 ·have e : i = xs.length := by omega
  subst e
  rw [List.drop_length] at h3
  exact .inl ⟨itr.stop ρ2 S2 H2 p2 l2 rp2 g2, ze.nx (σ := σ2) h3 rp2 st2⟩
theorem zLu {tg iter : Expr} {body : List Stmt} {it : M.IM} {g : M.GM} {js : List Nat} {mb : M.SM} (hp : PassesOwn (model X.prog X.w) X.A X.env X.xe) (hc : X.calm = true) (hi : MI X Θ tg iter it) (hg : MG X Θ js tg g) (hb : MSs X Θ body mb)
  (hs : ∀ x, foldedSetIterable iter X.env x = pure x := by intro _; rfl) : MS X Θ (.For tg iter body [] pos) (M.jc it g mb) :=
 (zFJ hp hc hi hg hb hs).imp fun D σ H ⟨ρ, σ', S, st, rp, h⟩ => ⟨ρ, σ', S, st, rp, by
  have h' : ze X.K Θ ρ H ((it σ' S).stm σ' fun p s => if M.zQ p.2 s = true then M.jm p.2 (M.jU g mb) p.1 σ' s else .no) D := h
  cases hit : it σ' S with
  | no => rw [hit] at h'; exact h'.elim
  | exc a s => rw [hit] at h'; exact h'.elim
  | ok p S1 =>
   rw [hit] at h'
   obtain ⟨xs, gd⟩ := p
   show zF X.K Θ _ ρ H (if M.zQ gd S1 then M.R.ok (xs, gd) S1 else .no) _
   have h2 : ze X.K Θ ρ H (if M.zQ gd S1 = true then M.jm gd (M.jU g mb) xs σ' S1 else .no) D := h'
   by_cases hgd : M.zQ gd S1 = true
   case neg => rw [if_neg hgd] at h2; exact h2.elim
   rw [if_pos hgd] at h2
   rw [if_pos hgd]
   intro ρ1 H1 J p1 l1 rp1 (itr : ItR X.K Θ ρ1 H1 J xs gd)
   exact zGh itr (st.mono p1 l1) rp1 hgd (ze.weak h2 p1 l1)⟩
theorem qy {tg iter : Expr} {body : List Stmt} {it : M.IM} {g : M.GM} {js : List Nat} {mb : M.SM} (hp : PassesOwn (model X.prog X.w) X.A X.env X.xe) (hc : X.calm = true) (hi : WI X Θ tg iter it) (hg : WG X Θ js tg g) (hb : WSs X Θ body mb)
  (hs : ∀ x, foldedSetIterable iter X.env x = pure x := by intro _; rfl) : WS X Θ (.For tg iter body [] pos) (M.jc it g mb) := by with_unfolding_all exact zLu (tg := tg) (iter := iter) (body := body) (it := it) (g := g) (js := js) (mb := mb) hp hc hi hg hb hs
theorem zMz {K : PySem.W.Frag} {n : Nat} {it : M.IM} {g : M.GM} {js : List Nat} {tc : M.TM} {me : M.EM} {σ : St} {σ' : M.St} {S : M.S} {ρ : List Addr} {H : Hp} {R : List V -> Hp -> Prop} (st : jA K ρ H σ' σ) (rp : zU K Θ ρ S H) (hj : ∀ j ∈ js, σ.length <= j)
  (h : zF K Θ (zL K) ρ H (M.jy n it g tc me σ' S) R) :
  RdI K Θ it σ H fun J H1 => ∃ W : Nat -> Nat -> List V -> Hp -> Prop, (∃ m, W 0 m [] H1) /\ ∀ i m ys H2, W i m ys H2 -> ys.length <= sizeLine /\
   ((J.stop i H2 /\ R ys H2) \/
    (J.go i H2 /\ ∀ x H3, J.yld i H2 x H3 -> RdG K Θ js g x (σ ++ List.replicate n none) H3 fun σ2 H4 => Wk (σ ++ List.replicate n none) σ2 /\ RdT K Θ tc σ2 H4 fun b H5 =>
     if b = true then RdE K Θ me σ2 H5 fun y H6 => ∃ m', m' < m /\ W (i + 1) m' (ys ++ [y]) H6 else ∃ m', m' < m /\ W (i + 1) m' ys H5)) := by
 refine ⟨ρ, σ', S, st, rp, ?_⟩
 have h' : zF K Θ (zL K) ρ H ((it σ' S).bind fun p s => if p.1.length <= M.SZ /\ M.zQ p.2 s = true then M.qg p.2 (M.j5 n g tc me σ') p.1 s else .no) R := h
 cases hit : it σ' S with
 | no => rw [hit] at h'; exact h'.elim
 | exc a s => rw [hit] at h'; exact h'.elim
 | ok p S1 =>
  rw [hit] at h'
  obtain ⟨xs, gd⟩ := p
  show zF K Θ _ ρ H (if M.zQ gd S1 then M.R.ok (xs, gd) S1 else .no) _
  have h2 : zF K Θ (zL K) ρ H (if xs.length <= M.SZ /\ M.zQ gd S1 = true then M.qg gd (M.j5 n g tc me σ') xs S1 else .no) R := h'
  by_cases hgd : xs.length <= M.SZ /\ M.zQ gd S1 = true
  case neg => rw [if_neg hgd] at h2; exact h2.elim
  rw [if_pos hgd] at h2
  rw [if_pos hgd.2]
  intro ρ1 H1 J p1 l1 rp1 (itr : ItR K Θ ρ1 H1 J xs gd)
  refine ⟨fun i k ys H2 => ∃ ρ2 S2 ds, ρ1 <+: ρ2 /\ Le H1 H2 /\ zU K Θ ρ2 S2 H2 /\ M.zQ gd S2 = true /\ zL K ρ2 H2 ds ys /\ ds.length <= i /\ k = xs.length - i /\ i <= xs.length /\ zF K Θ (zL K) ρ2 H2 ((M.qg gd (M.j5 n g tc me σ') (xs.drop i) S2).bind fun es s => .ok (ds ++ es) s) R,
   ⟨xs.length, ρ1, S1, [], List.prefix_refl _, Le.refl _, rp1, hgd.2, rfl, Nat.le_refl _, rfl, Nat.zero_le _, ?_⟩, ?_⟩
  ·have h3 := zF.weak h2 p1 l1
   revert h3
   show zF K Θ (zL K) ρ1 H1 (M.qg gd (M.j5 n g tc me σ') xs S1) R -> _
   rw [List.drop_zero]
   cases M.qg gd (M.j5 n g tc me σ') xs S1 with
   | ok a s => exact fun h3 => h3
   | exc e s => exact fun h3 => h3
   | no => exact fun h3 => h3
  rintro i k ys H2 ⟨ρ2, S2, ds, p2, l2, rp2, g2, rds, hdl, rfl, hi2, h3⟩
  refine ⟨by rw [<- rds.length, <- y7]; omega, ?_⟩
  by_cases hlt : i < xs.length
  ·refine .inr ⟨itr.go i ρ2 S2 H2 p2 l2 rp2 g2 hlt, fun x H3 y => ?_⟩
   obtain ⟨d, ed, rd, ld, rpd⟩ := itr.yld i ρ2 S2 H2 x H3 p2 l2 rp2 g2 hlt y
   have edr : xs.drop i = d :: xs.drop (i + 1) := by
    obtain ⟨_, e⟩ := List.getElem?_eq_some_iff.mp ed
    rw [List.drop_eq_getElem_cons hlt, e]
   rw [edr] at h3
   have h4 : zF K Θ (zL K) ρ2 H2 (((match g d (σ' ++ List.replicate n none) with
     | none => M.R.no
     | some σ1 => (tc σ1 S2).bind fun b s => if b then (me σ1 s).bind fun d s => .ok (some d) s else .ok none s).bind fun o s =>
      if M.zQ gd s then (M.qg gd (M.j5 n g tc me σ') (xs.drop (i + 1)) s).bind fun ys s => .ok (match o with | some y => y :: ys | none => ys) s else .no).bind fun es s => .ok (ds ++ es) s) R := h3
   cases hgq : g d (σ' ++ List.replicate n none) with
   | none => rw [hgq] at h4; exact h4.elim
   | some σ1 =>
    rw [hgq] at h4
    refine ⟨ρ2, σ' ++ List.replicate n none, S2, d, ((st.mono (p1.trans p2) (l1.trans (l2.trans ld))).more n), rpd, rd, σ1, hgq, fun H4 σ2 le4 rp4 st4 hl4 hj4 => ⟨⟨hl4.symm, fun j v e => ?_⟩, ρ2, σ1, S2, st4, rp4, ?_⟩⟩
    ·by_cases hjj : j ∈ js
     ·rw [List.getElem?_append_right (hj j hjj), List.getElem?_replicate] at e
      split at e <;> cases e
     ·rw [hj4 j hjj]; exact e
    ·have h5 := zF.weak h4 (List.prefix_refl _) (ld.trans le4)
     dsimp only at h5
     cases htc : tc σ1 S2 with
     | no => rw [htc] at h5; exact h5.elim
     | exc a s => rw [htc] at h5; exact h5.elim
     | ok b S3 =>
      rw [htc] at h5
      intro ρ5 H5 b' p5 l5 rp5 eb
      cases eb
      have next : ∀ (o : Option M.D) (s : M.S) (ρ6 : List Addr) (H6 : Hp) (zs : List V), ρ2 <+: ρ6 -> Le H4 H6 -> zU K Θ ρ6 s H6 -> zL K ρ6 H6 (match o with | some y => ds ++ [y] | none => ds) zs ->
        zF K Θ (zL K) ρ6 H6 ((if M.zQ gd s then (M.qg gd (M.j5 n g tc me σ') (xs.drop (i + 1)) s).bind fun ys s => .ok (match o with | some y => y :: ys | none => ys) s else .no).bind fun es s => .ok (ds ++ es) s) R ->
        ∃ m', m' < xs.length - i /\ ∃ ρ2 S2 es, ρ1 <+: ρ2 /\ Le H1 H6 /\ zU K Θ ρ2 S2 H6 /\ M.zQ gd S2 = true /\ zL K ρ2 H6 es zs /\ es.length <= i + 1 /\ m' = xs.length - (i + 1) /\ i + 1 <= xs.length /\
         zF K Θ (zL K) ρ2 H6 ((M.qg gd (M.j5 n g tc me σ') (xs.drop (i + 1)) S2).bind fun fs s => .ok (es ++ fs) s) R := fun o s ρ6 H6 zs p6 l6 rp6 rz h6 => by
       by_cases hs : M.zQ gd s = true
       case neg => rw [if_neg hs] at h6; exact h6.elim
       rw [if_pos hs] at h6
       refine ⟨xs.length - (i + 1), by omega, ρ6, s, _, p2.trans p6, l2.trans (ld.trans (le4.trans l6)), rp6, hs, rz, ?_, rfl, hlt, ?_⟩
       ·cases o <;> simp <;> omega
       ·revert h6
        cases M.qg gd (M.j5 n g tc me σ') (xs.drop (i + 1)) s with
        | ok a s2 =>
         intro h6
         cases o with
         | none => exact h6
         | some y =>
          show zF K Θ (zL K) ρ6 H6 (.ok (ds ++ [y] ++ a) s2) R
          rw [List.append_assoc]
          exact h6
        | exc e s => exact fun h6 => h6
        | no => exact fun h6 => h6
      cases b with
      | false => exact zBq (next none S3 ρ5 H5 ys p5 l5 rp5 (rds.mono p5 (ld.trans (le4.trans l5))) (zF.weak h5 p5 l5))
      | true =>
       refine zBf ⟨ρ5, σ1, S3, st4.mono p5 l5, rp5, ?_⟩
       have h6 := zF.weak h5 p5 l5
       cases hme : me σ1 S3 with
       | no =>
        have h7 : zF K Θ (zL K) ρ5 H5 ((((me σ1 S3).bind fun d s => M.R.ok (some d) s).bind fun o s => if M.zQ gd s then (M.qg gd (M.j5 n g tc me σ') (xs.drop (i + 1)) s).bind fun ys s => .ok (match o with | some y => y :: ys | none => ys) s else .no).bind fun es s => .ok (ds ++ es) s) R := h6
        rw [hme] at h7; exact h7.elim
       | exc a s =>
        have h7 : zF K Θ (zL K) ρ5 H5 ((((me σ1 S3).bind fun d s => M.R.ok (some d) s).bind fun o s => if M.zQ gd s then (M.qg gd (M.j5 n g tc me σ') (xs.drop (i + 1)) s).bind fun ys s => .ok (match o with | some y => y :: ys | none => ys) s else .no).bind fun es s => .ok (ds ++ es) s) R := h6
        rw [hme] at h7; exact h7.elim
       | ok y S6 =>
        have h7 : zF K Θ (zL K) ρ5 H5 ((((me σ1 S3).bind fun d s => M.R.ok (some d) s).bind fun o s => if M.zQ gd s then (M.qg gd (M.j5 n g tc me σ') (xs.drop (i + 1)) s).bind fun ys s => .ok (match o with | some y => y :: ys | none => ys) s else .no).bind fun es s => .ok (ds ++ es) s) R := h6
        rw [hme] at h7
        intro ρ6 H6 v p6 l6 rp6 rv
        exact next (some y) S6 ρ6 H6 (ys ++ [v]) (p5.trans p6) (l5.trans l6) rp6 ((rds.mono (p5.trans p6) (ld.trans (le4.trans (l5.trans l6)))).app ⟨v, [], rfl, rv, rfl⟩) (zF.weak h7 p6 l6)
  ·have e : i = xs.length := by omega
   subst e
   rw [List.drop_length] at h3
   refine .inl ⟨itr.stop ρ2 S2 H2 p2 l2 rp2 g2, ?_⟩
   have h4 : zF K Θ (zL K) ρ2 H2 (.ok (ds ++ []) S2) R := h3
   rw [List.append_nil] at h4
   exact h4.here rp2 rds
end
end L2
namespace L2
open PySem PySem.Spec PyProof.Rows
section
variable {X : Cx} {Θ : Tab} {pos : Pos} {vars : List Str} {scope : Scope} {cl : List (Str × Addr)} {tg elt iter : Expr} {ifs : List Expr} {it : M.IM} {g : M.GM} {js : List Nat} {tc : M.TM} {me : M.EM}
theorem zC0 {pins : List (Addr × Obj)} {s : Shared} {σ : St} {H : Hp} (I : Inv X pins σ H s) (hj : ∀ j ∈ js, X.N.length <= j) {ρ : List Addr} {σ' : M.St} {S : M.S} (st : jA X.K ρ H σ' σ) (rp : zU X.K Θ ρ S H) {Q : VK} {n : Nat}
  (h : zF X.K Θ (zL X.K) ρ H (M.jy n it g tc me σ' S) fun ys H2 => ∀ D, H2 D = none -> Q (.ref D) (upd H2 D (.lst ys))) :
  zGd n (RdI X.K Θ it) (RdG X.K Θ js g) (RdT X.K Θ tc) (RdE X.K Θ me) σ H Q := zMz st rp (fun j hjj => by rw [I.len]; exact hj j hjj) h
theorem zLJ (hc : X.calm = true) (C : jX X vars scope cl) (hi : MI X Θ tg iter it) (hg : ∀ C fp s₂ H₂, MG (zr X vars scope cl C fp s₂ H₂) Θ js tg g) (ht : ∀ C fp s₂ H₂, QW (zr X vars scope cl C fp s₂ H₂) ifs (RdT X.K Θ tc))
  (he : ∀ C fp s₂ H₂, ME (zr X vars scope cl C fp s₂ H₂) Θ elt me) (hj' : (js.all fun j => decide (X.N.length <= j)) = true) (hs : ∀ x, foldedSetIterable iter X.env x = pure x := by intro _; rfl) : ME X Θ (.ListComp elt [⟨tg, iter, ifs, 0⟩] scope pos) (M.jn vars.length it g tc me) := by
 intro pins s σ H Q I ⟨ρ, σ', S, st, rp, h⟩
 have hj : ∀ j ∈ js, X.N.length <= j := fun j hjj => of_decide_eq_true (List.all_eq_true.mp hj' j hjj)
 exact zGG hc C hi hg ht he hs pins s σ H Q I (zC0 I hj st rp (zF.bind h fun ρ1 H1 ds ys S1 p1 l1 rp1 r1 h1 D hD => h1.alloc rp1 r1 hD))
theorem yw (hc : X.calm = true) (C : jX X vars scope cl) (hi : WI X Θ tg iter it) (hg : ∀ C fp s₂ H₂, WG (zr X vars scope cl C fp s₂ H₂) Θ js tg g) (ht : ∀ C fp s₂ H₂, QW (zr X vars scope cl C fp s₂ H₂) ifs (RdT X.K Θ tc))
  (he : ∀ C fp s₂ H₂, WE (zr X vars scope cl C fp s₂ H₂) Θ elt me) (hj' : (js.all fun j => decide (X.N.length <= j)) = true) (hs : ∀ x, foldedSetIterable iter X.env x = pure x := by intro _; rfl) : WE X Θ (.ListComp elt [⟨tg, iter, ifs, 0⟩] scope pos) (M.jn vars.length it g tc me) := by with_unfolding_all exact zLJ hc C hi hg ht he hj' hs
theorem zGx {i : Nat} {y : Str} {py spos : Pos} (hc : X.calm = true) (C : jX X vars scope cl) (hN : X.N.Nodup) (hiy : X.N[i]? = some y) (hy : Loc X.env.scope y) (hi : MI X Θ tg iter it) (hg : ∀ C fp s₂ H₂, MG (zr X vars scope cl C fp s₂ H₂) Θ js tg g) (ht : ∀ C fp s₂ H₂, QW (zr X vars scope cl C fp s₂ H₂) ifs (RdT X.K Θ tc))
  (he : ∀ C fp s₂ H₂, ME (zr X vars scope cl C fp s₂ H₂) Θ elt me) (hj' : (js.all fun j => decide (X.N.length <= j)) = true) (hs : ∀ x, foldedSetIterable iter X.env x = pure x := by intro _; rfl)
  (hsw : swapsWith (.ListComp elt [⟨tg, iter, ifs, 0⟩] scope pos) (some (.Name y py)) spos.line X.env = pure true := by rfl)
  (hf : X.fn y = true \/ X.env.scope.names.lookup y = some .local := by first | exact .inl rfl | exact .inr rfl | assumption) :
  MS X Θ (.Assign [.Name y py] (.ListComp elt [⟨tg, iter, ifs, 0⟩] scope pos) spos) (M.zR i (M.jn vars.length it g tc me)) := by
 intro pins s σ H D I ⟨ρ, σ', S, st, rp, h⟩
 have hj : ∀ j ∈ js, X.N.length <= j := fun j hjj => of_decide_eq_true (List.all_eq_true.mp hj' j hjj)
 refine zGe hc C hN hiy hy hi hg ht he hs hsw hf pins s σ H D I (zC0 I hj st rp ?_)
 have h' : ze X.K Θ ρ H (((M.jy vars.length it g tc me σ' S).bind fun ys s => M.alloc (.lst ys) s).stm σ' fun d s => .nx (σ'.set i (some d)) s) D := h
 cases hm : M.jy vars.length it g tc me σ' S with
 | no => rw [hm] at h'; exact h'.elim
 | exc a s => rw [hm] at h'; exact h'.elim
 | ok ds S1 =>
  rw [hm] at h'
  intro ρ1 H1 ys p1 l1 rp1 r1 E hE
  have h2 : ze X.K Θ ρ H (.nx (σ'.set i (some (.ref S1.length))) (S1 ++ [.lst ds])) D := h'
  have rp2 : zU X.K Θ (ρ1 ++ [E]) (S1 ++ [.lst ds]) (upd H1 E (.lst ys)) := rp1.alloc hE ⟨ys, z6, r1.mono (List.prefix_append _ _) (Le.new hE _)⟩
  exact h2 (ρ1 ++ [E]) _ _ (p1.trans (List.prefix_append _ _)) (l1.trans (Le.new hE _)) rp2 (((st.mono p1 l1).mono (List.prefix_append _ _) (Le.new hE _)).set (show zM X.K (ρ1 ++ [E]) (upd H1 E (.lst ys)) (.ref S1.length) (.ref E) from ⟨E, rfl, by rw [<- rp1.len]; simp⟩) i)
theorem zA9 {i : Nat} {y : Str} {py spos : Pos} (hc : X.calm = true) (C : jX X vars scope cl) (hN : X.N.Nodup) (hiy : X.N[i]? = some y) (hy : Loc X.env.scope y) (hi : WI X Θ tg iter it) (hg : ∀ C fp s₂ H₂, WG (zr X vars scope cl C fp s₂ H₂) Θ js tg g) (ht : ∀ C fp s₂ H₂, QW (zr X vars scope cl C fp s₂ H₂) ifs (RdT X.K Θ tc))
  (he : ∀ C fp s₂ H₂, WE (zr X vars scope cl C fp s₂ H₂) Θ elt me) (hj' : (js.all fun j => decide (X.N.length <= j)) = true) (hs : ∀ x, foldedSetIterable iter X.env x = pure x := by intro _; rfl)
  (hsw : swapsWith (.ListComp elt [⟨tg, iter, ifs, 0⟩] scope pos) (some (.Name y py)) spos.line X.env = pure true := by rfl)
  (hf : X.fn y = true \/ X.env.scope.names.lookup y = some .local := by first | exact .inl rfl | exact .inr rfl | assumption) :
  WS X Θ (.Assign [.Name y py] (.ListComp elt [⟨tg, iter, ifs, 0⟩] scope pos) spos) (M.zR i (M.jn vars.length it g tc me)) := by with_unfolding_all exact zGx (i := i) (y := y) (py := py) (spos := spos) hc C hN hiy hy hi hg ht he hj' hs hsw hf
theorem zJi {y : M.T} {z : Str} {j : Nat} {p apos cpos : Pos} (hz : z = ofT y) (hc : X.calm = true) (C : jX X vars scope cl) (hi : MI X Θ tg iter it) (hg : ∀ C fp s₂ H₂, MG (zr X vars scope cl C fp s₂ H₂) Θ js tg g) (ht : ∀ C fp s₂ H₂, QW (zr X vars scope cl C fp s₂ H₂) ifs (RdT X.K Θ tc))
  (he : ∀ C fp s₂ H₂, ME (zr X vars scope cl C fp s₂ H₂) Θ elt me) (hj' : (js.all fun j => decide (X.N.length <= j)) = true) (ad : ∀ ρ H S ds ys p Q, zU X.K Θ ρ S H -> zL X.K ρ H ds ys -> SqL X.K H p ys -> zF X.K Θ (zM X.K) ρ H (M.QQ y ds S) Q -> zEM X.K (.str (ofT y)) [.ref p] H Q) (hs : ∀ x, foldedSetIterable iter X.env x = pure x := by intro _; rfl)
  (hline : (apos.endLine == cpos.line) = true := by rfl)
  :
  ME X Θ (.Call (.Attribute (.Constant (.str z) j p) "join" apos) [.ListComp elt [⟨tg, iter, ifs, 0⟩] scope pos] [] cpos) (M.zE2 (M.QQ y) vars.length it g tc me) := by
 intro pins s σ H Q I ⟨ρ, σ', S, st, rp, h⟩
 have hj : ∀ j ∈ js, X.N.length <= j := fun j hjj => of_decide_eq_true (List.all_eq_true.mp hj' j hjj)
 subst hz
 refine zKN PySem.F.plainAttrs_str PySem.F.slot_str_join PySem.F.type_str_join zK0 zIo (zGN (zGG (g := RdG X.K Θ js g) (ti := RdT X.K Θ tc) (te := RdE X.K Θ me) hc C hi hg ht he hs) zHc (j0 rfl)) rfl (zEf rfl (show 1 < 30 by decide)) hline (j0 rfl) rfl pins s σ H Q I ?_
 refine ⟨rfl, zC0 I hj st rp (zF.bind h fun ρ1 H1 ds ys S1 p1 l1 rp1 r1 h1 D hD => ?_)⟩
 exact ad ρ1 _ S1 ds ys D Q (rp1.aside hD _) (r1.mono (List.prefix_refl _) (Le.new hD _)) (SqL.of z6) (zF.weak h1 (List.prefix_refl _) (Le.new hD _))
theorem zGq {y : M.T} {z : Str} {j : Nat} {p apos cpos : Pos} (hz : z = ofT y) (hc : X.calm = true) (C : jX X vars scope cl) (hi : WI X Θ tg iter it) (hg : ∀ C fp s₂ H₂, WG (zr X vars scope cl C fp s₂ H₂) Θ js tg g) (ht : ∀ C fp s₂ H₂, QW (zr X vars scope cl C fp s₂ H₂) ifs (RdT X.K Θ tc))
  (he : ∀ C fp s₂ H₂, WE (zr X vars scope cl C fp s₂ H₂) Θ elt me) (hj' : (js.all fun j => decide (X.N.length <= j)) = true) (ad : ∀ ρ H S ds ys p Q, zU X.K Θ ρ S H -> zL X.K ρ H ds ys -> SqL X.K H p ys -> zF X.K Θ (zM X.K) ρ H (M.QQ y ds S) Q -> zEM X.K (.str (ofT y)) [.ref p] H Q) (hs : ∀ x, foldedSetIterable iter X.env x = pure x := by intro _; rfl)
  (hline : (apos.endLine == cpos.line) = true := by rfl)
  :
  WE X Θ (.Call (.Attribute (.Constant (.str z) j p) "join" apos) [.ListComp elt [⟨tg, iter, ifs, 0⟩] scope pos] [] cpos) (M.zE2 (M.QQ y) vars.length it g tc me) := by with_unfolding_all exact zJi (y := y) (z := z) (j := j) (p := p) (apos := apos) (cpos := cpos) hz hc C hi hg ht he hj' ad hs hline
end
def SpM (K : PySem.W.Frag) (Θ : Tab) (n : Nat) (f : M.F) : Sp := fun vs H Q _ => ∃ ρ ds S, ds.length = n /\ zL K ρ H ds vs /\ zU K Θ ρ S H /\ zF K Θ (zM K) ρ H (f ds S) Q
def zB7 (m : M.AM) (n : Nat) : Prop := ∀ σ s xs s', m σ s = .ok xs s' -> xs.length = n
theorem jY : zB7 M.zD 0 := fun σ s xs s' h => by cases h; rfl
theorem zc {a : M.EM} {r : M.AM} {n : Nat} (h : zB7 r n) : zB7 (M.zB a r) (n + 1) := fun σ s xs s' e => by
 have e' : ((a σ s).bind fun x s => (r σ s).bind fun xs s => M.R.ok (x :: xs) s) = .ok xs s' := e
 cases ha : a σ s with
 | no => rw [ha] at e'; cases e'
 | exc a s => rw [ha] at e'; cases e'
 | ok d S1 =>
  rw [ha] at e'
  have e2 : ((r σ S1).bind fun xs s => M.R.ok (d :: xs) s) = .ok xs s' := e'
  cases hr : r σ S1 with
  | no => rw [hr] at e2; cases e2
  | exc a s => rw [hr] at e2; cases e2
  | ok ds S2 =>
   rw [hr] at e2
   cases e2
   rw [List.length_cons, h _ _ _ _ hr]
section
variable {X : Cx} {Θ : Tab} {pos p : Pos} {x : Str} {ps : List Str} {e : Expr} {es : List Expr} {f : M.F} {m : M.AM} {k kk n : Nat}
theorem zK2 (h : Has X.prog X.w X.K X.mg X.base x k ps (SpM X.K Θ n f)) (hr : jH kk X.A) (hk : k <= kk) (hg : Gl X x) (ha : MA X Θ (e :: es) m) (ar : zB7 m n) (hx : zAS CX0 X E0 := by exact zGZ) (hdb : (x == ("__debug__" : Str)) = false := by decide)
  (he : jC e = true := by rfl) (hpl : es.all jC = true := by rfl) : ME X Θ (.Call (.Name x p) (e :: es) [] pos) (M.zH f m) :=
 (zJh h hr hk hg ha hx hdb (j0 he) (Qq hpl)).imp fun σ H Q ⟨ρ, σ', S, st, rp, h⟩ => ⟨ρ, σ', S, st, rp, by
  have h' : zF X.K Θ (zM X.K) ρ H ((m σ' S).bind fun xs s => f xs s) Q := h
  cases hm : m σ' S with
  | no => rw [hm] at h'; exact h'.elim
  | exc a s => rw [hm] at h'; exact h'.elim
  | ok ds S1 =>
   rw [hm] at h'
   intro ρ1 H1 vs p1 l1 rp1 r1
   rw [List.append_nil]
   exact ⟨ρ1, ds, S1, ar _ _ _ _ hm, r1, rp1, zF.weak h' p1 l1⟩⟩
theorem zy (h : Has X.prog X.w X.K X.mg X.base x k ps (SpM X.K Θ n f)) (hr : jH kk X.A) (hk : k <= kk) (hg : Gl X x) (ha : WA X Θ (e :: es) m) (ar : zB7 m n) (hx : zAS CX0 X E0 := by exact zGZ) (hdb : (x == ("__debug__" : Str)) = false := by decide)
  (he : jC e = true := by rfl) (hpl : es.all jC = true := by rfl) : WE X Θ (.Call (.Name x p) (e :: es) [] pos) (M.zH f m) := by with_unfolding_all exact zK2 h hr hk hg ha ar hx hdb he hpl
end
section
variable {K : PySem.W.Frag} {Θ : Tab} {ρ ρ' : List Addr} {H : Hp} {e : List Nat}
mutual
theorem zM.unren (hρ : ∀ (i j : Nat) a, e[i]? = some j -> ρ[j]? = some a -> ρ'[i]? = some a) : ∀ {d : M.D} {v : V}, M.D.cl e.length d = true -> zM K ρ H (M.D.ren e d) v -> zM K ρ' H d v
 | .non, _, _, h => h
 | .bl _, _, _, h => h
 | .int _, _, _, h => h
 | .str _, _, _, h => h
 | .ty _, _, _, h => h
 | .ref i, _, c, ⟨a, h1, h2⟩ => by
  have hi : i < e.length := of_decide_eq_true c
  refine ⟨a, h1, hρ i (e.getD i i) a ?_ h2⟩
  rw [List.getD_eq_getElem?_getD, List.getElem?_eq_getElem hi]; rfl
 | .tup _, _, c, ⟨a, xs, h1, h2, h3⟩ => ⟨a, xs, h1, h2, zL.unren hρ c h3⟩
 | .ro _, _, c, ⟨a, xs, h1, h2, h3⟩ => ⟨a, xs, h1, h2, zL.unren hρ c h3⟩
theorem zL.unren (hρ : ∀ (i j : Nat) a, e[i]? = some j -> ρ[j]? = some a -> ρ'[i]? = some a) : ∀ {ds : List M.D} {xs : List V}, M.D.cl.all e.length ds = true -> zL K ρ H (M.D.ren.all e ds) xs -> zL K ρ' H ds xs
 | [], _, _, h => h
 | d :: ds, _, c, ⟨y, ys, h1, h2, h3⟩ => by
  have c' : (M.D.cl e.length d && M.D.cl.all e.length ds) = true := c
  rw [Bool.and_eq_true] at c'
  exact ⟨y, ys, h1, zM.unren hρ c'.1 h2, zL.unren hρ c'.2 h3⟩
end
theorem ObR.unren (hρ : ∀ (i j : Nat) a, e[i]? = some j -> ρ[j]? = some a -> ρ'[i]? = some a) {a : Addr} {o : M.O} (c : M.O.cl e.length o = true) (h : ObR K Θ ρ H a (M.O.ren e o)) : ObR K Θ ρ' H a o := by
 cases o with
 | lst ds => obtain ⟨xs, h1, h2⟩ := h; exact ⟨xs, h1, zL.unren hρ c h2⟩
 | dct kvs =>
  obtain ⟨ks, h1, h2⟩ := h
  refine ⟨ks, h1, ?_⟩
  have c' : ∀ p ∈ kvs, (M.D.cl e.length p.1 && M.D.cl e.length p.2) = true := List.all_eq_true.mp c
  clear h1
  revert h2 c'
  clear c
  induction kvs generalizing ks with
  | nil => intro h2 c'; cases h2; exact .nil
  | cons p kvs ih =>
   intro h2 c'
   rw [List.map_cons] at h2
   cases h2 with
   | cons r1 r2 =>
    have c1 := c' p List.mem_cons_self
    rw [Bool.and_eq_true] at c1
    refine .cons ⟨?_, zM.unren hρ c1.2 r1.2⟩ (ih _ r2 (fun q hq => c' q (List.mem_cons_of_mem _ hq)))
    have hk := r1.1
    revert hk
    cases p.1 <;> exact fun hk => hk
 | fdc kvs =>
  obtain ⟨o, ks, h1, h2⟩ := h
  refine ⟨o, ks, h1, ?_⟩
  have c' : ∀ p ∈ kvs, (M.D.cl e.length p.1 && M.D.cl e.length p.2) = true := List.all_eq_true.mp c
  clear h1
  revert h2 c'
  clear c
  induction kvs generalizing ks with
  | nil => intro h2 c'; cases h2; exact .nil
  | cons p kvs ih =>
   intro h2 c'
   rw [List.map_cons] at h2
   cases h2 with
   | cons r1 r2 =>
    have c1 := c' p List.mem_cons_self
    rw [Bool.and_eq_true] at c1
    refine .cons ⟨?_, zM.unren hρ c1.2 r1.2⟩ (ih _ r2 (fun q hq => c' q (List.mem_cons_of_mem _ hq)))
    have hk := r1.1
    revert hk
    cases p.1 <;> exact fun hk => hk
 | ins cc fs =>
  obtain ⟨C, dx, gs, N, h1, h2, h3⟩ := h
  refine ⟨C, dx, gs, N, h1, h2, by rw [<- h3.len]; simp, h3.nd, h3.within, fun i f d q1 q2 => ?_⟩
  obtain ⟨v, k1, k2⟩ := h3.get i f (M.D.ren e d) q1 (by rw [List.getElem?_map, q2]; rfl)
  refine ⟨v, k1, zM.unren hρ ?_ k2⟩
  have := List.all_eq_true.mp c (some d) (List.mem_of_getElem? q2)
  exact this
theorem zF.gc {S S' S1 : M.S} {d : M.D} {Q : VK} (em : M.Emb S.length e S' S1) (cd : M.D.cl S'.length d = true) (rp : zU K Θ ρ S H) (h : zF K Θ (zM K) ρ H (.ok d S') Q) : zF K Θ (zM K) ρ H (.ok (M.D.ren e d) S1) Q := by
 intro ρ1 H1 v p1 l1 rp1 r1
 have hlt : ∀ {i j : Nat}, e[i]? = some j -> j < ρ1.length := fun {i j} q => by
  have hi : i < S'.length := by rw [<- em.len]; exact (List.getElem?_eq_some_iff.mp q).1
  obtain ⟨j', q1, q2, _⟩ := em.obj i S'[i] (by simp [hi])
  rw [q] at q1; cases q1
  rw [rp1.len]; exact (List.getElem?_eq_some_iff.mp q2).1
 have hρ : ∀ (i j : Nat) a, e[i]? = some j -> ρ1[j]? = some a -> (e.map fun j => ρ1.getD j 0)[i]? = some a := fun i j a q1 q2 => by
  rw [List.getElem?_map, q1, Option.map_some, List.getD_eq_getElem?_getD, q2]; rfl
 refine h (e.map fun j => ρ1.getD j 0) H1 v ?_ l1 ⟨by rw [List.length_map, em.len], ?_, fun i o q => ?_⟩ (zM.unren hρ (by rw [em.len]; exact cd) r1)
 ·refine List.prefix_iff_getElem?.mpr fun i hi => ?_
  have hi' : i < S.length := rp.len ▸ hi
  exact hρ i i _ (em.old i hi') (Qh p1 (List.getElem?_eq_getElem hi))
 ·refine zJt fun i j x a b => ?_
  rw [List.getElem?_map] at a b
  cases ei : e[i]? with
  | none => rw [ei] at a; cases a
  | some k =>
   cases ej : e[j]? with
   | none => rw [ej] at b; cases b
   | some l =>
    rw [ei, Option.map_some, List.getD_eq_getElem?_getD, List.getElem?_eq_getElem (hlt ei)] at a
    rw [ej, Option.map_some, List.getD_eq_getElem?_getD, List.getElem?_eq_getElem (hlt ej)] at b
    have e1 : ρ1[k]'(hlt ei) = x := by simpa using a
    have e2 : ρ1[l]'(hlt ej) = x := by simpa using b
    have e3 := zHo rp1.nd (hlt ei) (hlt ej) (e1.trans e2.symm)
    subst e3
    exact zAi em.nd ei ej
 ·obtain ⟨j, q1, q2, q3⟩ := em.obj i o q
  obtain ⟨a, q4, q5⟩ := rp1.obj j _ q2
  exact ⟨a, hρ i j a q1 q4, ObR.unren hρ (by rw [em.len]; exact q3) q5⟩
end
section
variable {K : PySem.W.Frag} {Θ : Tab} {ρ : List Addr} {H : Hp}
mutual
theorem zM.cl : ∀ {d : M.D} {v : V}, zM K ρ H d v -> M.D.cl ρ.length d = true
 | .non, _, _ => rfl
 | .bl _, _, _ => rfl
 | .int _, _, _ => rfl
 | .str _, _, _ => rfl
 | .ty _, _, _ => rfl
 | .ref _, _, ⟨a, _, h2⟩ => decide_eq_true (List.getElem?_eq_some_iff.mp h2).1
 | .tup _, _, ⟨_, _, _, _, h⟩ => zL.cl h
 | .ro _, _, ⟨_, _, _, _, h⟩ => zL.cl h
theorem zL.cl : ∀ {ds : List M.D} {xs : List V}, zL K ρ H ds xs -> M.D.cl.all ρ.length ds = true
 | [], _, _ => rfl
 | d :: ds, _, ⟨_, _, _, h1, h2⟩ => by
  show (M.D.cl ρ.length d && M.D.cl.all ρ.length ds) = true
  rw [zM.cl h1, zL.cl h2]; rfl
end
theorem zU.cl {S : M.S} (rp : zU K Θ ρ S H) : M.clS S.length S = true := by
 refine List.all_eq_true.mpr fun o ho => ?_
 obtain ⟨i, hi, rfl⟩ := List.mem_iff_getElem.mp ho
 obtain ⟨a, h1, h2⟩ := rp.obj i S[i] (by simp [hi])
 rw [<- rp.len]
 revert h2
 cases S[i] with
 | lst ds => exact fun ⟨xs, _, r⟩ => r.cl
 | dct kvs =>
  intro ⟨ks, _, r⟩
  refine List.all_eq_true.mpr fun p hp => ?_
  have : ∀ {kvs : List (M.D × M.D)} {ks : List (Key × V)}, Paired (fun (p : M.D × M.D) (q : Key × V) => yO p.1 q.1 /\ zM K ρ H p.2 q.2) kvs ks -> p ∈ kvs -> (M.D.cl ρ.length p.1 && M.D.cl ρ.length p.2) = true := by
   intro kvs ks r hp
   induction r with
   | nil => cases hp
   | cons r1 r2 ih =>
    rcases List.mem_cons.mp hp with rfl | hp
    ·rw [r1.2.cl, Bool.and_true]
     have hk := r1.1
     revert hk
     cases p.1 <;> first | exact fun _ => rfl | exact fun hk => hk.elim
    ·exact ih hp
  exact this r hp
 | fdc kvs =>
  intro ⟨_, ks, _, r⟩
  refine List.all_eq_true.mpr fun p hp => ?_
  have : ∀ {kvs : List (M.D × M.D)} {ks : List (Key × V)}, Paired (fun (p : M.D × M.D) (q : Key × V) => yO p.1 q.1 /\ zM K ρ H p.2 q.2) kvs ks -> p ∈ kvs -> (M.D.cl ρ.length p.1 && M.D.cl ρ.length p.2) = true := by
   intro kvs ks r hp
   induction r with
   | nil => cases hp
   | cons r1 r2 ih =>
    rcases List.mem_cons.mp hp with rfl | hp
    ·rw [r1.2.cl, Bool.and_true]
     have hk := r1.1
     revert hk
     cases p.1 <;> first | exact fun _ => rfl | exact fun hk => hk.elim
    ·exact ih hp
  exact this r hp
 | ins c fs =>
  intro ⟨C, dx, gs, N, _, _, r⟩
  refine List.all_eq_true.mpr fun od hod => ?_
  cases od with
  | none => rfl
  | some d =>
   obtain ⟨j, hj, ej⟩ := List.mem_iff_getElem.mp hod
   have hN : j < N.length := r.len ▸ hj
   obtain ⟨v, _, rv⟩ := r.get j N[j] d (by simp [hN]) (by rw [List.getElem?_eq_getElem hj, ej])
   exact rv.cl
end
section
variable {P : Program} {w : World} {K : PySem.W.Frag} {mg : Str -> Option Value} {base : Heap} {Θ : Tab}
theorem zDg {ρ : List Addr} {H : Hp} {ds : List M.D} {vs : List V} (r : zL K ρ H ds vs) (N : List Str) : jA K ρ H (ds.map some ++ List.replicate (N.length - ds.length) none) (start N vs) := by
 have hl := r.length
 refine ⟨by simp [start, hl], fun i d q => ?_⟩
 unfold start
 by_cases hi : i < ds.length
 ·rw [List.getElem?_append_left (by simpa using hi), List.getElem?_map] at q
  cases e : ds[i]? with
  | none => rw [e] at q; cases q
  | some d' =>
   rw [e] at q
   cases q
   obtain ⟨v, e1, rv⟩ := r.get e
   refine ⟨v, ?_, rv⟩
   rw [List.getElem?_append_left (by simp; omega), List.getElem?_map, e1]; rfl
 ·rw [List.getElem?_append_right (by simp; omega), List.getElem?_replicate] at q
  split at q <;> cases q
theorem zNe {x qual : Str} {st : Stmt} {f : Addr} {fd : FuncData} {N ps : List Str} {k : Nat} {b : M.SM} {q : M.F} (F : Fun K x qual st f fd) (Sc : jb N ps (zP st)) (rf : M.jS ps.length (M.fn N.length b) q)
  (hbody : ∀ (cdv : Value) (A : Around) (outer : List Env) (s : Shared) (H : Hp) (E : XK), jH k (A.deeper (envOfC qual (zP st) s.heap.objs.size f cdv)) ->
   MSs (JT CX0 P w K mg base N qual (zP st) f cdv A outer s H E).nox Θ (jK st) b) : qA P w K mg base CX0 (k + 1) f fd ps (SpM K Θ ps.length q) := by
 refine F.ok (k := k) Sc (fun vs H Q E h => ?_) (fun cdv A outer s H vs Q E hr h => ?_)
 ·obtain ⟨ρ, ds, S, hl, r, _⟩ := h
  rw [<- r.length, hl]
 ·obtain ⟨ρ, ds, S, hl, r, rp, h⟩ := h
  refine ⟨_, hbody cdv A outer s H E hr, ρ, _, S, zDg r N, rp, ?_⟩
  rcases rf ds S hl rp.cl (rp.len ▸ r.cl) with e | ⟨d, S', S1, em, e1, e2, emb, cd⟩
  ·rw [e] at h; exact h.elim
  ·rw [e1] at h
   have h2 := zF.gc emb cd rp h
   have e3 : (b (ds.map some ++ List.replicate (N.length - ds.length) none) S).out = .ok (M.D.ren em d) S1 := e2
   show ze K Θ ρ H (b (ds.map some ++ List.replicate (N.length - ds.length) none) S) _
   revert e3
   cases b (ds.map some ++ List.replicate (N.length - ds.length) none) S with
   | rt a s => intro e3; cases e3; exact h2
   | nx a s =>
    intro e3
    have e4 : M.R.ok M.D.non s = .ok (M.D.ren em d) S1 := e3
    injection e4 with e5 e6
    subst e6
    rw [<- e5] at h2
    exact fun ρ1 H1 σ1 p1 l1 rp1 _ => h2 ρ1 H1 .non p1 l1 rp1 rfl
   | bk a s => intro e3; cases e3
   | ct a s => intro e3; cases e3
   | exc e a s => intro e3; cases e3
   | no => intro e3; cases e3
theorem yv {x qual : Str} {st : Stmt} {f : Addr} {fd : FuncData} {N ps : List Str} {k : Nat} {b : M.SM} {q : M.F} (F : Fun K x qual st f fd) (Sc : jb N ps (zP st)) (rf : M.jS ps.length (M.fn N.length b) q)
  (hbody : ∀ (cdv : Value) (A : Around) (outer : List Env) (s : Shared) (H : Hp) (E : XK), jH k (A.deeper (envOfC qual (zP st) s.heap.objs.size f cdv)) ->
   WSs (JT CX0 P w K mg base N qual (zP st) f cdv A outer s H E).nox Θ (jK st) b) : qA P w K mg base CX0 (k + 1) f fd ps (SpM K Θ ps.length q) := by with_unfolding_all exact zNe (x := x) (qual := qual) (st := st) (f := f) (fd := fd) (N := N) (ps := ps) (k := k) (b := b) (q := q) F Sc rf hbody
end
end L2
namespace L2
open PySem PySem.Spec PyProof.Rows
section
variable {K : PySem.W.Frag} {Θ : Tab}
theorem zCe : Ad2 K Θ M.Z4 zL5 := by
 intro ρ H S x y X Y Q rp rx ry h
 cases x with
 | int i =>
  cases y with
  | int j => cases rx; cases ry; exact zF.here (b := V.int (i - j)) h rp rfl
  | _ => exact h.elim
 | _ => exact h.elim
theorem zFc {i : Int} (h : M.QU i = true) : -(2 ^ 64) < i /\ i < 2 ^ 64 := by
 have h' : i.natAbs < 18446744073709551616 := of_decide_eq_true h
 exact ⟨by omega, by omega⟩
theorem zBD : Ad2 K Θ M.zAb zMx := by
 intro ρ H S x y X Y Q rp rx ry h
 cases x with
 | int i =>
  cases y with
  | int j =>
   cases rx; cases ry
   have h' : zF K Θ (zM K) ρ H (if 0 < j /\ j.natAbs < 1073741824 then M.R.ok (M.D.int (i / j)) S else .no) Q := h
   by_cases hc : 0 < j /\ j.natAbs < 1073741824
   ·rw [if_pos hc] at h'; exact ⟨⟨hc.1, by omega⟩, zF.here (b := V.int (i / j)) h' rp rfl⟩
   ·rw [if_neg hc] at h'; exact h'.elim
  | _ => exact h.elim
 | _ => exact h.elim
theorem qB : Ad2 K Θ M.jg zMc := by
 intro ρ H S x y X Y Q rp rx ry h
 cases x with
 | int i =>
  cases y with
  | int j =>
   cases rx; cases ry
   have h' : zF K Θ (zM K) ρ H (if 0 < j then M.R.ok (M.D.int (i % j)) S else .no) Q := h
   by_cases hc : 0 < j
   ·rw [if_pos hc] at h'; exact ⟨hc, zF.here (b := V.int (i % j)) h' rp rfl⟩
   ·rw [if_neg hc] at h'; exact h'.elim
  | _ => exact h.elim
 | _ => exact h.elim
theorem Zu {ρ : List Addr} {S : M.S} {H : Hp} (rp : zU K Θ ρ S H) {i : Nat} {a : Addr} (ha : ρ[i]? = some a) {xs : List M.D} (q : S[i]? = some (.lst xs)) : ∃ zs, H a = some (.lst zs) /\ zL K ρ H xs zs := by
 obtain ⟨b, e1, zs, e2, r⟩ := rp.obj i _ q
 rw [ha] at e1; cases e1
 exact ⟨zs, e2, r⟩
theorem qU : Ad2 K Θ M.jM (fun x y H Q => zLx x y H Q \/ zKE K x y H Q) := by
 intro ρ H S x y X Y Q rp rx ry h
 cases x with
 | int i =>
  cases y with
  | int j => cases rx; cases ry; exact .inl (zF.here (b := V.int (i + j)) h rp rfl)
  | _ => exact h.elim
 | str a =>
  cases y with
  | str b =>
   obtain ⟨rfl, oka⟩ := rx
   obtain ⟨rfl, okb⟩ := ry
   have h' : zF K Θ (zM K) ρ H (if a.length + b.length <= M.SZ then M.R.ok (M.D.str (a ++ b)) S else .no) Q := h
   by_cases hc : a.length + b.length <= M.SZ
   ·rw [if_pos hc] at h'
    refine .inl ⟨by rw [ju, ju, <- y7]; exact hc, ?_⟩
    rw [zGR]
    exact zF.here (b := V.str (ofT (a ++ b))) h' rp ⟨rfl, zBO oka okb⟩
   ·rw [if_neg hc] at h'; exact h'.elim
  | _ => exact h.elim
 | tup a =>
  cases y with
  | tup b =>
   obtain ⟨l, xs, rfl, hq, r⟩ := rx
   obtain ⟨l', ys, rfl, hq', r'⟩ := ry
   have h' : zF K Θ (zM K) ρ H (if a ≠ [] /\ a.length + b.length <= M.SZ then M.R.ok (M.D.tup (a ++ b)) S else .no) Q := h
   by_cases hc : a ≠ [] /\ a.length + b.length <= M.SZ
   ·rw [if_pos hc] at h'
    refine .inr ⟨l, l', xs, ys, rfl, rfl, hq, hq', fun z => hc.1 ?_, by rw [<- r.length, <- r'.length, <- y7]; exact hc.2, fun hy => ?_, fun hy p hp => ?_⟩
    ·subst z
     have := r.length
     exact List.length_eq_zero_iff.mp this
    ·subst hy
     have hb : b = [] := List.length_eq_zero_iff.mp r'.length
     subst hb
     rw [List.append_nil] at h'
     exact zF.here h' rp ⟨l, xs, rfl, hq, r⟩
    ·exact h' ρ _ _ (List.prefix_refl _) (Le.new hp _) (rp.aside hp _) ⟨p, _, rfl, SqT.of z6, (r.app r').mono (List.prefix_refl _) (Le.new hp _)⟩
   ·rw [if_neg hc] at h'; exact h'.elim
  | _ => exact h.elim
 | ref i =>
  cases y with
  | ref j =>
   obtain ⟨a, rfl, ea⟩ := rx
   obtain ⟨b, rfl, eb⟩ := ry
   have h' : zF K Θ (zM K) ρ H (match S[i]?, S[j]? with
    | some (.lst xs), some (.lst ys) => if xs.length + ys.length <= M.SZ then M.alloc (.lst (xs ++ ys)) S else .no
    | _, _ => .no) Q := h
   split at h'
   ·rename_i xs ys q1 q2
    obtain ⟨zs, e1, r1⟩ := Zu rp ea q1
    obtain ⟨ws, e2, r2⟩ := Zu rp eb q2
    by_cases hc : xs.length + ys.length <= M.SZ
    ·rw [if_pos hc] at h'
     exact .inl ⟨zs, ws, e1, e2, by rw [<- r1.length, <- r2.length, <- y7]; exact hc, fun p hp => h'.alloc rp (r1.app r2) hp⟩
    ·rw [if_neg hc] at h'; exact h'.elim
   ·exact h'.elim
  | _ => exact h.elim
 | _ => exact h.elim
theorem zNN : Ad1 K Θ M.zEN (rU fun i => .int (-i)) := by
 intro ρ H S x X Q rp rx h
 cases x with
 | int i => cases rx; exact ⟨i, rfl, zF.here (b := V.int (-i)) h rp rfl⟩
 | _ => exact h.elim
theorem zOG : AdC K Θ M.cLt uLt := by
 intro ρ H S x y X Y Q rp rx ry h
 cases x with
 | int i =>
  cases y with
  | int j => cases rx; cases ry; exact zF.here (b := decide (i < j)) h rp rfl
  | _ => exact h.elim
 | str a =>
  cases y with
  | str b =>
   obtain ⟨rfl, _⟩ := rx
   obtain ⟨rfl, _⟩ := ry
   show Q (.bl (decide ((ofT a).cps.toList < (ofT b).cps.toList))) H
   rw [Z8, Z8]
   exact zF.here (b := decide (a < b)) h rp rfl
  | _ => exact h.elim
 | _ => exact h.elim
theorem zCj : AdC K Θ M.cGt uGt := by
 intro ρ H S x y X Y Q rp rx ry h
 cases x with
 | int i =>
  cases y with
  | int j => cases rx; cases ry; exact zF.here (b := decide (j < i)) h rp rfl
  | _ => exact h.elim
 | _ => exact h.elim
theorem zOE : AdC K Θ M.cGe uGe := by
 intro ρ H S x y X Y Q rp rx ry h
 cases x with
 | int i =>
  cases y with
  | int j => cases rx; cases ry; exact zF.here (b := decide (j <= i)) h rp rfl
  | _ => exact h.elim
 | _ => exact h.elim
theorem zDG {ρ : List Addr} {H : Hp} {ds : List M.D} {xs : List V} {i : Int} {d : M.D} (r : zL K ρ H ds xs) (e : M.atI ds i = some d) : ∃ v, atI xs i = some v /\ zM K ρ H d v := by
 unfold M.atI at e
 cases q : M.ixN ds.length i with
 | none => rw [q] at e; cases e
 | some j =>
  rw [q] at e
  obtain ⟨v, e1, rv⟩ := r.get (i := j) e
  have q' : ixN xs.length i = some j := by rw [<- r.length]; exact q
  exact ⟨v, by unfold atI; rw [q']; exact e1, rv⟩
end
end L2
namespace L2
open PySem PySem.Spec PyProof.Rows
section
variable {K : PySem.W.Frag} {Θ : Tab}
theorem zMa {X : Cx} {a : Expr} {ma : M.EM} (ha : ME X Θ a ma) (he : ∀ whole, isTrue a X.env whole = (do let v <- whole; standAt a.pos; holding [v] (truthy v)) := by intro _; rfl) : MT X Θ a (M.yg ma) :=
 (zJy ha he).imp fun σ H Q ⟨ρ, σ', S, st, rp, h⟩ => ⟨ρ, σ', S, st, rp, zF.bind h fun ρ1 H1 x X1 S1 p1 l1 rp1 rx h1 => by
  cases x with
  | non => cases rx; exact ⟨false, rfl, zF.here (b := false) h1 rp1 rfl⟩
  | bl b => cases rx; exact ⟨b, rfl, zF.here (b := b) h1 rp1 rfl⟩
  | int i => cases rx; exact ⟨_, rfl, zF.here (b := (i != 0)) h1 rp1 (by show decide (i ≠ 0) = (i != 0); by_cases hi : i = 0 <;> simp [hi])⟩
  | str z =>
   obtain ⟨rfl, _⟩ := rx
   by_cases hz : z.length <= M.SZ
   ·simp only [M.Zm, if_pos hz] at h1
    refine ⟨_, ⟨by rw [ju, <- y7]; exact hz, rfl⟩, zF.here (b := (((ofT z).length : Int) != 0)) h1 rp1 ?_⟩
    show (!z.isEmpty) = _
    rw [ju]
    cases z <;> simp <;> omega
   ·simp only [M.Zm, if_neg hz] at h1; exact h1.elim
  | tup ds =>
   obtain ⟨l, xs, rfl, hq, r⟩ := rx
   refine ⟨_, .inr (.inl ⟨xs, hq, rfl⟩), zF.here (b := !xs.isEmpty) h1 rp1 ?_⟩
   show (!ds.isEmpty) = _
   have := r.length
   cases ds <;> cases xs <;> first | rfl | cases this
  | ro ds =>
   obtain ⟨l, xs, rfl, hq, r⟩ := rx
   refine ⟨_, .inl ⟨xs, hq.sq, rfl⟩, zF.here (b := !xs.isEmpty) h1 rp1 ?_⟩
   show (!ds.isEmpty) = _
   have := r.length
   cases ds <;> cases xs <;> first | rfl | cases this
  | ref p =>
   obtain ⟨a, rfl, ea⟩ := rx
   cases q : S1[p]? with
   | none => simp [M.Zm, q] at h1; exact h1.elim
   | some o =>
    cases o with
    | lst xs =>
     simp only [M.Zm, q] at h1
     obtain ⟨zs, e1, r⟩ := Zu rp1 ea q
     refine ⟨_, .inl ⟨zs, SqL.of e1, rfl⟩, zF.here (b := !zs.isEmpty) h1 rp1 ?_⟩
     show (!xs.isEmpty) = _
     have := r.length
     cases xs <;> cases zs <;> first | rfl | cases this
    | dct kvs =>
     simp only [M.Zm, q] at h1
     obtain ⟨b, e1, zs, e2, r⟩ := rp1.obj _ _ q
     rw [ea] at e1; cases e1
     refine ⟨_, .inr (.inr ⟨zs, e2, rfl⟩), zF.here (b := !zs.isEmpty) h1 rp1 ?_⟩
     cases r <;> rfl
    | fdc _ => simp [M.Zm, q] at h1; exact h1.elim
    | ins c fs => simp [M.Zm, q] at h1; exact h1.elim
  | ty n => exact h1.elim⟩
theorem Z7 {X : Cx} {a : Expr} {ma : M.EM} (ha : WE X Θ a ma) (he : ∀ whole, isTrue a X.env whole = (do let v <- whole; standAt a.pos; holding [v] (truthy v)) := by intro _; rfl) : WT X Θ a (M.yg ma) := by with_unfolding_all exact zMa (X := X) (a := a) (ma := ma) ha he
inductive TyM (K : PySem.W.Frag) (H : Hp) : V -> String -> Prop where
 | of {x : V} {A : String} (h : Qr K H x (.type A)) : TyM K H x A
 | sqT {a : Addr} {xs : List V} (h : SqT K H a xs) : TyM K H (.ref a) "tuple"
 | sqL {a : Addr} {xs : List V} (h : SqL K H a xs) : TyM K H (.ref a) "list"
def zJY (K : PySem.W.Frag) : List V -> Hp -> VK -> Prop := fun xs H Q => ∃ x n A b, xs = [x, .ty n] /\ TyM K H x A /\ PySem.W.kitOne K (.type A) (.type n) = some b /\ Q (.bl b) H
theorem zBv {X : Cx} : qF X (.builtin "isinstance") (zJY X.K) := by
 intro pins s σ H xs us Q I r h
 obtain ⟨x, n, A, b, rfl, ty, e, q⟩ := h
 obtain ⟨u, w', rfl, ru, rc⟩ := zKQ r
 cases rc
 cases ty with
 | of h => exact wpAny_with_toks (n := 1) I.tk (zHd I ru h e fun tk hk => ⟨.bl b, H, I.tok tk hk, rfl, q⟩)
 | sqT h =>
  cases ru
  obtain ⟨its, _, ⟨o, h1, h2, _⟩, _⟩ := I.tuple h
  exact wpAny_with_toks (n := 1) I.tk (PySem.W.kia_one PySem.W.kitx_tuple I.kIn ⟨o, h1, h2⟩ e (fun z => nomatch z) fun tk hk => ⟨.bl b, H, I.tok tk hk, rfl, q⟩)
 | sqL h =>
  cases ru
  obtain ⟨its, _, ⟨o, n, h1, h2, _⟩, _⟩ := I.list h
  exact wpAny_with_toks (n := 1) I.tk (PySem.W.kia_one PySem.W.kitx_list I.kIn ⟨o, h1, h2⟩ e (fun z => nomatch z) fun tk hk => ⟨.bl b, H, I.tok tk hk, rfl, q⟩)
theorem zK9 (n : M.Kd) : PySem.W.kitOne K (.type "NoneType") (.type (qm n)) = some false /\ PySem.W.kitOne K (.type "bool") (.type (qm n)) = some (match n with | .bool => true | .int => true | _ => false) /\
  PySem.W.kitOne K (.type "int") (.type (qm n)) = some (match n with | .int => true | _ => false) /\ PySem.W.kitOne K (.type "str") (.type (qm n)) = some (match n with | .str => true | _ => false) /\
  PySem.W.kitOne K (.type "tuple") (.type (qm n)) = some (match n with | .tuple => true | _ => false) /\ PySem.W.kitOne K (.type "list") (.type (qm n)) = some (match n with | .list => true | _ => false) /\
  PySem.W.kitOne K (.type "dict") (.type (qm n)) = some (match n with | .dict => true | _ => false) := by
 cases n <;> exact ⟨Jl (by decide +kernel), Jl (by decide +kernel), Jl (by decide +kernel), Jl (by decide +kernel), Jl (by decide +kernel), Jl (by decide +kernel), Jl (by decide +kernel)⟩
theorem zEi : AdN K Θ M.Qc (zJY K) := by
 intro ρ H S xs Xs Q rp rx h
 match xs, rx, h with
 | [x, .ty n], rx, h =>
  obtain ⟨v, _, rfl, rv, _, _, rfl, rfl, rfl⟩ := rx
  obtain ⟨k1, k2, k3, k4, k5, k6, k7⟩ := zK9 (K := K) n
  have fin : ∀ {A : String} {b : Bool}, M.Zv n x S = .ok b S -> TyM K H v A -> PySem.W.kitOne K (.type A) (.type (qm n)) = some b -> zJY K [v, .ty (qm n)] H Q := fun {A b} e ty k => by
   have h' : zF K Θ (zM K) ρ H ((M.Zv n x S).bind fun b s => .ok (.bl b) s) Q := h
   rw [e] at h'
   exact ⟨v, qm n, A, b, rfl, ty, k, zF.here (b := V.bl b) h' rp rfl⟩
  cases x with
  | non => cases rv; exact fin rfl (.of .non) k1
  | bl b => cases rv; exact fin rfl (.of (.bl b)) k2
  | int i => cases rv; exact fin rfl (.of (.int i)) k3
  | str z => obtain ⟨rfl, _⟩ := rv; exact fin rfl (.of (.str _)) k4
  | tup ds => obtain ⟨l, ys, rfl, hq, r⟩ := rv; exact fin rfl (.sqT hq) k5
  | ro ds => obtain ⟨l, ys, rfl, hq, r⟩ := rv; exact fin rfl (.sqL hq.sq) k6
  | ty m => exact h.elim
  | ref p =>
   obtain ⟨a, rfl, ea⟩ := rv
   cases q : S[p]? with
   | none => simp [M.Qc, M.Zv, q] at h; exact h.elim
   | some o =>
    cases o with
    | lst xs =>
     obtain ⟨zs, e1, r⟩ := Zu rp ea q
     refine fin ?_ (.sqL (SqL.of e1)) k6
     simp only [M.Zv, q] <;> (cases n <;> rfl)
    | dct kvs =>
     obtain ⟨b, e1, zs, e2, r⟩ := rp.obj _ _ q
     rw [ea] at e1; cases e1
     refine fin ?_ (.of (.dK e2)) k7
     simp only [M.Zv, q] <;> (cases n <;> rfl)
    | fdc _ => simp [M.Qc, M.Zv, q] at h; exact h.elim
    | ins c fs => simp [M.Qc, M.Zv, q] at h; exact h.elim
 | [_, .non], _, h => exact h.elim
 | [_, .bl _], _, h => exact h.elim
 | [_, .int _], _, h => exact h.elim
 | [_, .str _], _, h => exact h.elim
 | [_, .tup _], _, h => exact h.elim
 | [_, .ro _], _, h => exact h.elim
 | [_, .ref _], _, h => exact h.elim
 | [], _, h => exact h.elim
 | [_], _, h => exact h.elim
 | _ :: b :: _ :: _, _, h => cases b <;> exact h.elim
def ofP : M.P -> PyData
 | .non => .none
 | .bl b => .bool b
 | .int i => .int i
 | .str x => .str (ofT x)
 | .tup ps => .tuple (all ps)
 | .lst ps => .list (all ps)
where all : List M.P -> List PyData
 | [] => []
 | p :: ps => ofP p :: all ps
theorem zGB (x y : M.T) : (ofT x == ofT y) = (x == y) := by
 by_cases h : x = y
 ·subst h; simp
 ·rw [beq_eq_false_iff_ne.mpr h, beq_eq_false_iff_ne.mpr fun e => h (zBW e)]
mutual
theorem zC7 : ∀ p q : M.P, PyData.eqv (ofP p) (ofP q) = M.P.eqv p q
 | .non, .non => rfl
 | .non, .bl _ => rfl
 | .non, .int _ => rfl
 | .non, .str _ => rfl
 | .non, .tup _ => rfl
 | .non, .lst _ => rfl
 | .bl _, .non => rfl
 | .bl _, .bl _ => rfl
 | .bl _, .int _ => rfl
 | .bl _, .str _ => rfl
 | .bl _, .tup _ => rfl
 | .bl _, .lst _ => rfl
 | .int _, .non => rfl
 | .int _, .bl _ => rfl
 | .int _, .int _ => rfl
 | .int _, .str _ => rfl
 | .int _, .tup _ => rfl
 | .int _, .lst _ => rfl
 | .str _, .non => rfl
 | .str _, .bl _ => rfl
 | .str _, .int _ => rfl
 | .str x, .str y => zGB x y
 | .str _, .tup _ => rfl
 | .str _, .lst _ => rfl
 | .tup _, .non => rfl
 | .tup _, .bl _ => rfl
 | .tup _, .int _ => rfl
 | .tup _, .str _ => rfl
 | .tup ps, .tup qs => zBh ps qs
 | .tup _, .lst _ => rfl
 | .lst _, .non => rfl
 | .lst _, .bl _ => rfl
 | .lst _, .int _ => rfl
 | .lst _, .str _ => rfl
 | .lst _, .tup _ => rfl
 | .lst ps, .lst qs => zBh ps qs
theorem zBh : ∀ ps qs : List M.P, PyData.eqvAll (ofP.all ps) (ofP.all qs) = M.P.eqvs ps qs
 | [], [] => rfl
 | [], _ :: _ => rfl
 | _ :: _, [] => rfl
 | p :: ps, q :: qs => by
  show (PyData.eqv (ofP p) (ofP q) && PyData.eqvAll (ofP.all ps) (ofP.all qs)) = (M.P.eqv p q && M.P.eqvs ps qs)
  rw [zC7 p q, zBh ps qs]
end
mutual
theorem zAU : ∀ p : M.P, PyData.depth (ofP p) = M.P.dep p
 | .non => rfl
 | .bl _ => rfl
 | .int _ => rfl
 | .str _ => rfl
 | .tup ps => by show PyData.depthAll (ofP.all ps) + 1 = M.P.deps ps + 1; rw [zBx ps]
 | .lst ps => by show PyData.depthAll (ofP.all ps) + 1 = M.P.deps ps + 1; rw [zBx ps]
theorem zBx : ∀ ps : List M.P, PyData.depthAll (ofP.all ps) = M.P.deps ps
 | [] => rfl
 | p :: ps => by show max (PyData.depth (ofP p)) (PyData.depthAll (ofP.all ps)) = max (M.P.dep p) (M.P.deps ps); rw [zAU p, zBx ps]
end
section
variable {ρ : List Addr} {H : Hp}
mutual
theorem zG4 {g : Nat -> Option M.P} (hg : ∀ i p v, g i = some p -> zM K ρ H (.ref i) v -> qH K H v (ofP p) /\ (ofP p).canLay0 = true) : ∀ {d : M.D} {p : M.P} {v : V}, M.qJ g d = some p -> zM K ρ H d v -> qH K H v (ofP p) /\ (ofP p).canLay0 = true
 | .non, _, _, e, r => by cases e; cases r; exact ⟨.non, rfl⟩
 | .bl _, _, _, e, r => by cases e; cases r; exact ⟨.bl _, rfl⟩
 | .int _, _, _, e, r => by cases e; cases r; exact ⟨.int _, rfl⟩
 | .str x, _, _, e, r => by
  cases e
  obtain ⟨rfl, ok⟩ := r
  refine ⟨.str _, ?_⟩
  show PyData.strOk (ofT x) = true
  unfold PyData.strOk ofT
  have ok' : x.all (fun c => decide (c < 1114112)) = true := ok
  simpa using ok'
 | .tup ds, _, _, e, r => by
  obtain ⟨l, xs, rfl, hq, rr⟩ := r
  have e' : (M.qJ.all g ds).map M.P.tup = some _ := e
  cases q : M.qJ.all g ds with
  | none => rw [q] at e'; cases e'
  | some ps =>
   rw [q] at e'
   cases e'
   obtain ⟨h1, h2⟩ := zCW hg q rr
   exact ⟨.tup hq h1, h2⟩
 | .ro ds, _, _, e, r => by
  obtain ⟨l, xs, rfl, hq, rr⟩ := r
  have e' : (M.qJ.all g ds).map M.P.lst = some _ := e
  cases q : M.qJ.all g ds with
  | none => rw [q] at e'; cases e'
  | some ps =>
   rw [q] at e'
   cases e'
   obtain ⟨h1, h2⟩ := zCW hg q rr
   exact ⟨.lst hq.sq h1, h2⟩
 | .ref i, _, _, e, r => hg i _ _ e r
 | .ty _, _, _, e, _ => by cases e
theorem zCW {g : Nat -> Option M.P} (hg : ∀ i p v, g i = some p -> zM K ρ H (.ref i) v -> qH K H v (ofP p) /\ (ofP p).canLay0 = true) : ∀ {ds : List M.D} {ps : List M.P} {xs : List V}, M.qJ.all g ds = some ps -> zL K ρ H ds xs -> ZN K H xs (ofP.all ps) /\ PyData.canLayAll0 (ofP.all ps) = true
 | [], _, _, e, r => by cases e; cases r; exact ⟨.nil, rfl⟩
 | d :: ds, _, _, e, r => by
  obtain ⟨y, ys, rfl, r1, r2⟩ := r
  have e' : (match M.qJ g d, M.qJ.all g ds with | some p, some ps => some (p :: ps) | _, _ => none) = some _ := e
  cases q1 : M.qJ g d with
  | none => rw [q1] at e'; cases e'
  | some p =>
   cases q2 : M.qJ.all g ds with
   | none => rw [q1, q2] at e'; cases e'
   | some ps =>
    rw [q1, q2] at e'
    cases e'
    obtain ⟨h1, h2⟩ := zG4 hg q1 r1
    obtain ⟨h3, h4⟩ := zCW hg q2 r2
    refine ⟨.cons h1 h3, ?_⟩
    show (PyData.canLay0 (ofP p) && PyData.canLayAll0 (ofP.all ps)) = true
    rw [h2, h4]; rfl
end
theorem zA6 {S : M.S} (rp : zU K Θ ρ S H) : ∀ (n : Nat) {d : M.D} {p : M.P} {v : V}, M.toP n S d = some p -> zM K ρ H d v -> qH K H v (ofP p) /\ (ofP p).canLay0 = true
 | 0, _, _, _, e, r => zG4 (fun i p v e _ => by cases e) e r
 | n + 1, _, _, _, e, r => zG4 (fun i p v e r => by
   obtain ⟨a, rfl, ea⟩ := r
   have e' : (match M.jN S i with | some xs => (M.qJ.all (fun j => M.toP n S (.ref j)) xs).map M.P.lst | none => none) = some p := e
   cases q : S[i]? with
   | none => simp [M.jN, q] at e'
   | some o =>
    cases o with
    | lst xs =>
     simp only [M.jN, q] at e'
     obtain ⟨zs, e1, rr⟩ := Zu rp ea q
     cases q2 : M.qJ.all (fun j => M.toP n S (.ref j)) xs with
     | none => rw [q2] at e'; cases e'
     | some ps =>
      rw [q2] at e'
      cases e'
      obtain ⟨h1, h2⟩ := zCW (fun j p v e r => zA6 rp n e r) q2 rr
      exact ⟨.lst (SqL.of e1) h1, h2⟩
    | dct kvs => simp [M.jN, q] at e'
    | fdc _ => simp [M.jN, q] at e'
    | ins c fs => simp [M.jN, q] at e') e r
end
abbrev DR (K : PySem.W.Frag) (ρ : List Addr) (H : Hp) : List (M.D × M.D) -> List (Key × V) -> Prop := Paired fun p q => yO p.1 q.1 /\ zM K ρ H p.2 q.2
theorem zBj {d e : M.D} {a b : Key} (ha : yO d a) (hb : yO e b) : (a = b) = (d = e) := by
 cases d with
 | int i =>
  cases ha
  cases e with
  | int j => cases hb; exact propext ⟨fun z => by cases z; rfl, fun z => by cases z; rfl⟩
  | str y => obtain ⟨rfl, _⟩ := hb; exact propext ⟨fun z => (nomatch z), fun z => (nomatch z)⟩
  | _ => exact hb.elim
 | str x =>
  obtain ⟨rfl, _⟩ := ha
  cases e with
  | int j => cases hb; exact propext ⟨fun z => (nomatch z), fun z => (nomatch z)⟩
  | str y => obtain ⟨rfl, _⟩ := hb; exact propext ⟨fun z => by rw [zBW (Sum.inr.inj z)], fun z => by cases z; rfl⟩
  | _ => exact hb.elim
 | _ => exact ha.elim
theorem ZI {ρ : List Addr} {H : Hp} {d : M.D} {v : V} (h : M.zt d = true) (r : zM K ρ H d v) : ∃ k, yO d k /\ v = kV k := by
 cases d with
 | int i => cases r; exact ⟨.inl i, rfl, rfl⟩
 | str x => obtain ⟨rfl, ok⟩ := r; exact ⟨.inr (ofT x), ⟨rfl, ok⟩, rfl⟩
 | _ => cases h
section
variable {ρ : List Addr} {H : Hp} {kvs : List (M.D × M.D)} {ks : List (Key × V)} {d : M.D} {k : Key}
theorem DR.val (r : DR K ρ H kvs ks) (hk : yO d k) : match M.jJ d kvs with | some e => ∃ v, yI ks k = some v /\ zM K ρ H e v | none => yI ks k = none := by
 induction r with
 | nil => exact rfl
 | @cons p q ps qs h t ih =>
  have e := zBj h.1 hk
  by_cases hd : p.1 = d
  ·have hq : q.1 = k := e.mpr hd
   rw [zAo hq, M.jJ, List.lookup_cons, beq_iff_eq.mpr hd.symm]
   exact ⟨_, rfl, h.2⟩
  ·have hq : ¬ q.1 = k := fun z => hd (e.mp z)
   rw [zAa hq, M.jJ, List.lookup_cons, beq_eq_false_iff_ne.mpr (Ne.symm hd)]
   exact ih
theorem DR.any (r : DR K ρ H kvs ks) (hk : yO d k) : (ks.any fun kv => decide (kv.1 = k)) = kvs.any fun kv => decide (kv.1 = d) := by
 induction r with
 | nil => rfl
 | @cons p q ps qs h t ih =>
  rw [List.any_cons, List.any_cons, ih]
  congr 1
  exact decide_eq_decide.mpr (zBj h.1 hk ▸ Iff.rfl)
theorem DR.put (r : DR K ρ H kvs ks) (hk : yO d k) {e : M.D} {v : V} (rv : zM K ρ H e v) : DR K ρ H (M.ja d e kvs) (qu ks k v) := by
 unfold M.ja qu
 rw [r.any hk]
 by_cases ha : (kvs.any fun kv => decide (kv.1 = d)) = true
 ·rw [if_pos ha, if_pos ha]
  clear ha
  induction r with
  | nil => exact .nil
  | @cons p q ps qs h t ih =>
   rw [List.map_cons, List.map_cons]
   refine .cons ?_ ih
   have eq := zBj h.1 hk
   by_cases hd : p.1 = d
   ·rw [if_pos hd, if_pos (eq.mpr hd)]; exact ⟨h.1, rv⟩
   ·rw [if_neg hd, if_neg fun z => hd (eq.mp z)]; exact h
 ·rw [if_neg ha, if_neg ha]
  exact Paired.snoc r ⟨hk, rv⟩
end
theorem y9 {ρ : List Addr} {S : M.S} {H : Hp} (rp : zU K Θ ρ S H) {i : Nat} {a : Addr} (ha : ρ[i]? = some a) {kvs : List (M.D × M.D)} (q : S[i]? = some (.dct kvs)) : ∃ ks, H a = some (.dK ks) /\ DR K ρ H kvs ks := by
 obtain ⟨b, e1, zs, e2, r⟩ := rp.obj i _ q
 rw [ha] at e1; cases e1
 exact ⟨zs, e2, r⟩
theorem zH4 {ρ : List Addr} {S : M.S} {H : Hp} (rp : zU K Θ ρ S H) {i : Nat} {a : Addr} (ha : ρ[i]? = some a) {kvs : List (M.D × M.D)} (q : S[i]? = some (.fdc kvs)) : ∃ o ks, H a = some (.frz o (.dK ks)) /\ DR K ρ H kvs ks := by
 obtain ⟨b, e1, o, zs, e2, r⟩ := rp.obj i _ q
 rw [ha] at e1; cases e1
 exact ⟨o, zs, e2, r⟩
inductive Qw (K : PySem.W.Frag) (H : Hp) (kb : List (Key × V)) : List (Key × V) -> Bool -> Prop where
 | nil : Qw K H kb [] true
 | miss {k : Key} {v : V} {r : List (Key × V)} (h : yI kb k = none) : Qw K H kb ((k, v) :: r) false
 | hit {k : Key} {v y : V} {r : List (Key × V)} {d e : PyData} {b : Bool} (h : yI kb k = some y) (hd : qH K H v d) (he : qH K H y e) (sd : SeqAt.shaped d = true) (se : SeqAt.shaped e = true) (t : Qw K H kb r b) : Qw K H kb ((k, v) :: r) (PyData.eqv d e && b)
def zJA (neg : Bool) (K : PySem.W.Frag) : R2 := fun x y H Q => ∃ a b ka kb r, x = .ref a /\ y = .ref b /\ H a = some (.dK ka) /\ H b = some (.dK kb) /\ (ka.length = kb.length -> Qw K H kb ka r) /\ Q (.bl (if neg then !(ka.length == kb.length && r) else (ka.length == kb.length && r))) H
theorem zC9 {X : Cx} {pins : List (Addr × Obj)} {σ : St} {H : Hp} {s : Shared} {A : Around} (I : Inv X pins σ H s) (hu : A.units + 64 < cLine) {kb : List (Key × V)} {vb : List (Key × Value)} (rb : KV kb vb) : ∀ {ka : List (Key × V)} {va : List (Key × Value)} {r : Bool}, KV ka va -> Qw X.K H kb ka r -> PySem.W.KeqHits A s vb va r
 | _, _, _, ra, .nil => by cases ra; exact .nil
 | _, _, _, ra, .miss h => by
  cases ra with
  | @cons p q ps qs h1 t =>
   obtain ⟨k, v⟩ := q
   have hk : _ = k := h1.1
   have hv := rb.val k
   rw [<- hk, h] at hv
   refine .miss ?_
   rw [<- hk]
   cases q2 : valueAt vb _ with
   | none => rfl
   | some w => rw [q2] at hv; exact hv.elim
 | _, _, _, ra, .hit h hd he sd se t => by
  cases ra with
  | @cons p q ps qs h1 t1 =>
   obtain ⟨k, v⟩ := q
   have hk : _ = k := h1.1
   have hv := rb.val k
   rw [<- hk, h] at hv
   cases q2 : valueAt vb k with
   | none => rw [hk, q2] at hv; exact hv.elim
   | some w =>
    rw [hk, q2] at hv
    obtain ⟨as, r1⟩ := hd.reads I h1.2
    obtain ⟨bs, r2⟩ := he.reads I hv
    exact .hit q2 (SeqAt.eqAt_reads _ _ A s _ _ as bs r1 r2 (SeqAt.canLay_of_shaped sd) (SeqAt.canLay_of_shaped se) (SeqAt.room_of_shaped sd hu)) (zC9 I hu rb t1 t)
theorem zNJ {X : Cx} {k : Nat} (hr : jH k X.A) : OpR X (compareOp .Eq) (zJA false X.K) := by
 intro pins s σ H x y v u Q I rx ry h
 obtain ⟨a, b, ka, kb, r, rfl, rfl, ha, hb, hh, q⟩ := h
 cases rx; cases ry
 obtain ⟨za, la, va, ra, da⟩ := Jt I.hok ha
 obtain ⟨zb, lb, vb, rb, db⟩ := Jt I.hok hb
 refine PySem.W.keq_eq la lb da db hr.units0 (fun e => zC9 I (by show X.A.units + 1 + 64 < _; have := hr.un; omega) rb ra (hh (by rw [ra.length, rb.length]; exact e))) ⟨.bl _, H, I, rfl, ?_⟩
 rw [<- ra.length, <- rb.length]
 exact q
theorem zL3 {X : Cx} {k : Nat} (hr : jH k X.A) : OpR X (compareOp .NotEq) (zJA true X.K) := by
 intro pins s σ H x y v u Q I rx ry h
 obtain ⟨a, b, ka, kb, r, rfl, rfl, ha, hb, hh, q⟩ := h
 cases rx; cases ry
 obtain ⟨za, la, va, ra, da⟩ := Jt I.hok ha
 obtain ⟨zb, lb, vb, rb, db⟩ := Jt I.hok hb
 refine PySem.W.keq_ne la lb da db hr.units0 (fun e => zC9 I (by show X.A.units + 1 + 64 < _; have := hr.un; omega) rb ra (hh (by rw [ra.length, rb.length]; exact e))) ⟨.bl _, H, I, rfl, ?_⟩
 rw [<- ra.length, <- rb.length]
 exact q
theorem zEu {ρ : List Addr} {H : Hp} {S : M.S} (rp : zU K Θ ρ S H) {ws : List (M.D × M.D)} {kb : List (Key × V)} (rb : DR K ρ H ws kb) : ∀ {ks : List (M.D × M.D)} {ka : List (Key × V)} {b : Bool}, DR K ρ H ks ka -> M.dEq S ws ks = some b -> Qw K H kb ka b
 | _, _, _, .nil, e => by cases e; exact .nil
 | (k, v) :: ks, (kk, vv) :: ka, b, .cons h t, e => by
  have hv := DR.val rb h.1
  unfold M.dEq at e
  cases q : M.jJ k ws with
  | none =>
   rw [q] at e hv
   cases e
   exact .miss hv
  | some w =>
   rw [q] at e hv
   obtain ⟨y, hy, ry⟩ := hv
   dsimp only at e
   cases q1 : M.toP 8 S v with
   | none => rw [q1] at e; cases e
   | some p1 =>
    cases q2 : M.toP 8 S w with
    | none => rw [q1, q2] at e; cases e
    | some p2 =>
     cases q3 : M.dEq S ws ks with
     | none => rw [q1, q2, q3] at e; cases e
     | some b' =>
      rw [q1, q2, q3] at e
      dsimp only at e
      by_cases hc : M.P.dep p1 <= 64 /\ M.P.dep p2 <= 64
      ·rw [if_pos hc] at e
       cases e
       obtain ⟨d1, c1⟩ := zA6 rp _ q1 h.2
       obtain ⟨d2, c2⟩ := zA6 rp _ q2 ry
       rw [<- zC7]
       refine .hit hy d1 d2 ?_ ?_ (zEu rp rb t q3)
       ·unfold SeqAt.shaped; rw [c1, Bool.true_and, zAU]; exact decide_eq_true hc.1
       ·unfold SeqAt.shaped; rw [c2, Bool.true_and, zAU]; exact decide_eq_true hc.2
      ·rw [if_neg hc] at e; cases e
theorem zER {ρ : List Addr} {H : Hp} {S : M.S} {x y : M.D} {X1 Y : V} {Q' : Bool -> Hp -> Prop} (rp : zU K Θ ρ S H) (rx : zM K ρ H x X1) (ry : zM K ρ H y Y) (h : zF K Θ rB ρ H (M.zB2 x y S) Q') :
  ∃ a b ka kb r, X1 = .ref a /\ Y = .ref b /\ H a = some (.dK ka) /\ H b = some (.dK kb) /\ (ka.length = kb.length -> Qw K H kb ka r) /\ Q' (ka.length == kb.length && r) H := by
 unfold M.zB2 at h
 split at h
 ·rename_i i j
  split at h
  ·rename_i ks ws e1 e2
   obtain ⟨a, rfl, ha⟩ := rx
   obtain ⟨b, rfl, hb⟩ := ry
   obtain ⟨ka, h1, r1⟩ := y9 rp ha e1
   obtain ⟨kb, h2, r2⟩ := y9 rp hb e2
   have l1 := Paired.length r1
   have l2 := Paired.length r2
   split at h
   ·rename_i hl
    split at h
    ·rename_i bb q
     refine ⟨a, b, ka, kb, bb, rfl, rfl, h1, h2, fun _ => zEu rp r2 r1 q, ?_⟩
     rw [show (ka.length == kb.length) = true by rw [beq_iff_eq]; omega, Bool.true_and]
     exact zF.here (b := bb) h rp rfl
    ·exact h.elim
   ·rename_i hl
    refine ⟨a, b, ka, kb, false, rfl, rfl, h1, h2, fun e => absurd (by omega) hl, ?_⟩
    rw [Bool.and_false]
    exact zF.here (b := false) h rp rfl
  ·exact h.elim
 ·exact h.elim
def zHB (K : PySem.W.Frag) (neg : Bool) : R2 := fun x y H Q => (zDP x y = true /\ Q (.bl (if neg then !decide (x = y) else decide (x = y))) H) \/ zJs K neg x y H Q \/ zJA neg K x y H Q
theorem yl {X : Cx} {k : Nat} (hr : jH k X.A) : OpR X (compareOp .Eq) (zHB X.K false) := by
 intro pins s σ H x y v u Q I rx ry h
 rcases h with h | h | h
 ·exact zN3 pins s σ H x y v u Q I rx ry h
 ·exact zLn hr pins s σ H x y v u Q I rx ry h
 ·exact zNJ hr pins s σ H x y v u Q I rx ry h
theorem zEq {X : Cx} {k : Nat} (hr : jH k X.A) : OpR X (compareOp .NotEq) (zHB X.K true) := by
 intro pins s σ H x y v u Q I rx ry h
 rcases h with h | h | h
 ·exact zNg pins s σ H x y v u Q I rx ry h
 ·exact zNF hr pins s σ H x y v u Q I rx ry h
 ·exact zL3 hr pins s σ H x y v u Q I rx ry h
theorem zF8 {ρ : List Addr} {H : Hp} {S : M.S} {x y : M.D} {X1 Y : V} {Q' : Bool -> Hp -> Prop} (rp : zU K Θ ρ S H) (rx : zM K ρ H x X1) (ry : zM K ρ H y Y) (h : zF K Θ rB ρ H (M.eqD x y S) Q') :
  (zDP X1 Y = true /\ Q' (decide (X1 = Y)) H) \/ (∃ d e, qH K H X1 d /\ qH K H Y e /\ SeqAt.shaped d = true /\ SeqAt.shaped e = true /\ Q' (PyData.eqv d e) H) \/ ∃ a b ka kb r, X1 = .ref a /\ Y = .ref b /\ H a = some (.dK ka) /\ H b = some (.dK kb) /\ (ka.length = kb.length -> Qw K H kb ka r) /\ Q' (ka.length == kb.length && r) H := by
 have gen : ∀ {p q : M.P}, M.toP M.Jk S x = some p -> M.toP M.Jk S y = some q -> M.P.dep p <= 64 /\ M.P.dep q <= 64 -> Q' (M.P.eqv p q) H -> ∃ d e, qH K H X1 d /\ qH K H Y e /\ SeqAt.shaped d = true /\ SeqAt.shaped e = true /\ Q' (PyData.eqv d e) H := fun {p q} e1 e2 hd hq => by
  obtain ⟨d1, c1⟩ := zA6 rp _ e1 rx
  obtain ⟨d2, c2⟩ := zA6 rp _ e2 ry
  refine ⟨_, _, d1, d2, ?_, ?_, by rw [zC7]; exact hq⟩
  ·unfold SeqAt.shaped; rw [c1, Bool.true_and, zAU]; exact decide_eq_true hd.1
  ·unfold SeqAt.shaped; rw [c2, Bool.true_and, zAU]; exact decide_eq_true hd.2
 have jW : zF K Θ rB ρ H (match M.toP M.Jk S x, M.toP M.Jk S y with
   | some p, some q => if M.P.dep p <= 64 /\ M.P.dep q <= 64 then M.R.ok (M.P.eqv p q) S else .no
   | _, _ => M.zB2 x y S) Q' -> (∃ d e, qH K H X1 d /\ qH K H Y e /\ SeqAt.shaped d = true /\ SeqAt.shaped e = true /\ Q' (PyData.eqv d e) H) \/ ∃ a b ka kb r, X1 = .ref a /\ Y = .ref b /\ H a = some (.dK ka) /\ H b = some (.dK kb) /\ (ka.length = kb.length -> Qw K H kb ka r) /\ Q' (ka.length == kb.length && r) H := fun h' => by
  cases e1 : M.toP M.Jk S x with
  | none => rw [e1] at h'; exact .inr (zER rp rx ry h')
  | some p =>
   cases e2 : M.toP M.Jk S y with
   | none => rw [e1, e2] at h'; exact .inr (zER rp rx ry h')
   | some q =>
    rw [e1, e2] at h'
    dsimp only at h'
    by_cases hc : M.P.dep p <= 64 /\ M.P.dep q <= 64
    ·rw [if_pos hc] at h'; exact .inl <| gen e1 e2 hc (zF.here (b := M.P.eqv p q) h' rp rfl)
    ·rw [if_neg hc] at h'; exact h'.elim
 have sc : ∀ {b : Bool}, zDP X1 Y = true -> decide (X1 = Y) = b -> M.eqD x y S = .ok b S -> (zDP X1 Y = true /\ Q' (decide (X1 = Y)) H) := fun {b} h1 h2 h3 => by
  rw [h3] at h
  rw [h2]
  exact ⟨h1, zF.here (b := b) h rp rfl⟩
 cases x with
 | str a =>
  cases y with
  | str b =>
   obtain ⟨rfl, _⟩ := rx
   obtain ⟨rfl, _⟩ := ry
   refine .inl (sc rfl ?_ rfl)
   by_cases hab : a = b
   ·subst hab; simp
   ·rw [decide_eq_false hab, decide_eq_false fun e => hab (zBW (V.str.inj e))]
  | _ => exact .inr (jW h)
 | int a =>
  cases y with
  | int b =>
   cases rx; cases ry
   refine .inl (sc rfl ?_ rfl)
   by_cases hab : a = b
   ·subst hab; simp
   ·rw [decide_eq_false hab, decide_eq_false fun e => hab (V.int.inj e)]
  | _ => exact .inr (jW h)
 | bl a =>
  cases y with
  | bl b =>
   cases rx; cases ry
   refine .inl (sc rfl ?_ rfl)
   by_cases hab : a = b
   ·subst hab; simp
   ·rw [decide_eq_false hab, decide_eq_false fun e => hab (V.bl.inj e)]
  | _ => exact .inr (jW h)
 | non =>
  cases y with
  | non => cases rx; cases ry; exact .inl (sc rfl rfl rfl)
  | _ => exact .inr (jW h)
 | _ => exact .inr (jW h)
theorem Zo : AdC K Θ M.cEq (zHB K false) := by
 intro ρ H S x y X1 Y Q rp rx ry h
 rcases zF8 rp rx ry h with h | ⟨d, e, h1, h2, h3, h4, h5⟩ | ⟨a, b, ka, kb, r, h⟩
 ·exact .inl h
 ·exact .inr (.inl ⟨d, e, h1, h2, h3, h4, h5⟩)
 ·exact .inr (.inr ⟨a, b, ka, kb, r, h⟩)
theorem zGi : AdC K Θ M.cNe (zHB K true) := by
 intro ρ H S x y X1 Y Q rp rx ry h
 have h' : zF K Θ rB ρ H (M.eqD x y S) (fun b H' => Q (.bl (!b)) H') := zF.bind h fun ρ1 H1 b b' S1 p1 l1 rp1 e h1 => by cases e; exact zF.here (b := !b) h1 rp1 rfl
 rcases zF8 rp rx ry h' with h | ⟨d, e, h1, h2, h3, h4, h5⟩ | ⟨a, b, ka, kb, r, h⟩
 ·exact .inl h
 ·exact .inr (.inl ⟨d, e, h1, h2, h3, h4, h5⟩)
 ·exact .inr (.inr ⟨a, b, ka, kb, r, h⟩)
end
end L2
namespace L2
open PySem PySem.Spec PyProof.Rows
section
variable {K : PySem.W.Frag} {Θ : Tab}
theorem zAN (n d : Nat) (o : Option Int) : M.sIx n d o = HT.sIx n d o := by
 cases o with
 | none => rfl
 | some v =>
  have := HT.zDJ v n d
  show (if v < 0 then max (v + (n : Int)) 0 else min v (n : Int)).toNat = _
  rw [this]; simp
theorem zBU {x : M.T} {lo hi : Option Int} : ∀ c ∈ M.cut x lo hi, c ∈ x := fun c hc => List.mem_of_mem_drop (List.mem_of_mem_take hc)
theorem zDU {ρ : List Addr} {H : Hp} {ds : List M.D} {xs : List V} (r : zL K ρ H ds xs) (lo hi : Option Int) : zL K ρ H (M.cut ds lo hi) (zAC xs lo hi) := by
 unfold M.cut zAC
 rw [zAN, zAN, r.length]
 exact (r.drop _).take _
theorem zCa : ∀ ρ H S x X1 l u Q, zU K Θ ρ S H -> zM K ρ H x X1 -> zF K Θ (zM K) ρ H (M.slD x l u S) Q -> uSl K X1 l u H Q := by
 intro ρ H S x X1 l u Q rp rx h
 cases x with
 | str z =>
  obtain ⟨rfl, ok⟩ := rx
  by_cases hz : z.length <= M.SZ
  ·simp only [M.slD, if_pos hz] at h
   refine ⟨by rw [ju, <- y7]; exact hz, zF.here h rp ⟨?_, zBL ok zBU⟩⟩
   show V.str (zDF (ofT z) l u) = V.str (ofT (M.cut z l u))
   unfold zDF M.cut ofT
   have e : (⟨z.toArray⟩ : Str).length = z.length := by simp [Str.length]
   rw [e, zAN, zAN]
  ·simp only [M.slD, if_neg hz] at h; exact h.elim
 | tup ds =>
  obtain ⟨a, xs, rfl, hq, r⟩ := rx
  by_cases hc : M.sIx ds.length 0 l = 0 /\ M.sIx ds.length ds.length u = ds.length
  ·simp only [M.slD, if_pos hc] at h; exact h.elim
  ·simp only [M.slD, if_neg hc] at h
   refine .inr ⟨xs, hq, ?_, fun p hp => h ρ _ _ (List.prefix_refl _) (Le.new hp _) (rp.aside hp _) ⟨p, _, rfl, SqT.of z6, (zDU r l u).mono (List.prefix_refl _) (Le.new hp _)⟩⟩
   rw [zAN, zAN, r.length] at hc
   exact hc
 | ro ds =>
  obtain ⟨a, xs, rfl, hq, r⟩ := rx
  exact .inl ⟨xs, hq.sq, fun p hp => zF.alloc h rp (zDU r l u) hp⟩
 | ref p =>
  obtain ⟨a, rfl, ea⟩ := rx
  cases q : S[p]? with
  | none => simp [M.slD, M.jN, q] at h; exact h.elim
  | some o =>
   cases o with
   | lst xs =>
    simp only [M.slD, M.jN, q] at h
    obtain ⟨zs, e1, r⟩ := Zu rp ea q
    exact .inl ⟨zs, SqL.of e1, fun p hp => zF.alloc h rp (zDU r l u) hp⟩
   | dct kvs => simp [M.slD, M.jN, q] at h; exact h.elim
   | fdc _ => simp [M.slD, M.jN, q] at h; exact h.elim
   | ins c fs => simp [M.slD, M.jN, q] at h; exact h.elim
 | _ => exact h.elim
theorem Q5 {ρ : List Addr} {H : Hp} : ∀ {ds : List M.D} {ys : List V} {ts : List M.T}, M.jx ds = some ts -> zL K ρ H ds ys -> ys = (ts.map ofT).map V.str /\ ∀ t ∈ ts, okT t
 | [], _, _, e, r => by cases e; cases r; exact ⟨rfl, fun t h => by cases h⟩
 | .str x :: ds, _, _, e, r => by
  obtain ⟨y, ys, rfl, r1, r2⟩ := r
  obtain ⟨rfl, ok⟩ := r1
  have e' : (M.jx ds).map (x :: ·) = some _ := e
  cases q : M.jx ds with
  | none => rw [q] at e'; cases e'
  | some cs =>
   rw [q] at e'
   cases e'
   obtain ⟨h1, h2⟩ := Q5 q r2
   refine ⟨by rw [h1]; rfl, fun t ht => ?_⟩
   rcases List.mem_cons.mp ht with rfl | ht
   ·exact ok
   ·exact h2 t ht
 | .non :: _, _, _, e, _ => by cases e
 | .int _ :: _, _, _, e, _ => by cases e
 | .bl _ :: _, _, _, e, _ => by cases e
 | .tup _ :: _, _, _, e, _ => by cases e
 | .ro _ :: _, _, _, e, _ => by cases e
 | .ref _ :: _, _, _, e, _ => by cases e
 | .ty _ :: _, _, _, e, _ => by cases e
theorem zDr (x : M.T) : ∀ (ys : List M.T) (acc : M.T), ((ys.map ofT).foldl (fun acc p => acc ++ (ofT x).cps ++ p.cps) acc.toArray) = (acc ++ (ys.map (x ++ ·)).flatten).toArray
 | [], acc => by simp
 | y :: ys, acc => by
  rw [List.map_cons, List.foldl_cons]
  have e : acc.toArray ++ (ofT x).cps ++ (ofT y).cps = (acc ++ x ++ y).toArray := by simp [ofT]
  rw [e, zDr x ys]
  simp
theorem zCL (x y : M.T) : ∀ ys : List M.T, M.Qx x (y :: ys) = y ++ (ys.map (x ++ ·)).flatten
 | [] => by simp [M.Qx]
 | z :: ys => by
  show y ++ x ++ M.Qx x (z :: ys) = _
  rw [zCL x z ys]; simp
theorem zKY (x : M.T) (ys : List M.T) : Txt.join (ofT x) (ys.map ofT) = ofT (M.Qx x ys) := by
 cases ys with
 | nil => rfl
 | cons y ys =>
  show (⟨(((y :: ys).map ofT).drop 1).foldl (fun acc p => acc ++ (ofT x).cps ++ p.cps) (((y :: ys).map ofT).headD Str.empty).cps⟩ : Str) = _
  rw [zCL, List.map_cons, List.drop_one, List.tail_cons]
  have := zDr x ys y
  show (⟨(ys.map ofT).foldl _ y.toArray⟩ : Str) = _
  rw [this]; rfl
theorem zFT {x : M.T} (hx : okT x) : ∀ {ys : List M.T}, (∀ t ∈ ys, okT t) -> okT (M.Qx x ys)
 | [], _ => rfl
 | [y], h => h y (by simp)
 | y :: z :: ys, h => zBO (zBO (h y (by simp)) hx) (zFT hx fun t ht => h t (List.mem_cons_of_mem _ ht))
theorem zKs (ts : List M.T) : ((ts.map ofT).map (·.length)).sum = (ts.map List.length).sum := by
 rw [List.map_map]
 exact congrArg List.sum (List.map_congr_left fun t _ => ju t)
theorem zIw {y : M.T} (hy : okT y) : ∀ ρ H S ds ys p Q, zU K Θ ρ S H -> zL K ρ H ds ys -> (SqL K H p ys \/ SqT K H p ys) -> zF K Θ (zM K) ρ H (M.QQ y ds S) Q -> zEM K (.str (ofT y)) [.ref p] H Q := by
 intro ρ H S ds ys p Q rp r hq h
 cases e : M.jx ds with
 | none => simp only [M.QQ, e] at h; exact h.elim
 | some ts =>
  obtain ⟨rfl, ok⟩ := Q5 e r
  by_cases hz : (ts.map List.length).sum + ts.length * y.length <= M.SZ
  ·simp only [M.QQ, e, if_pos hz] at h
   refine ⟨ofT y, p, ts.map ofT, rfl, rfl, hq, ?_, ?_⟩
   ·rw [zKs, List.length_map, ju]; exact hz
   ·rw [zKY]; exact zF.here h rp ⟨rfl, zFT hy ok⟩
  ·simp only [M.QQ, e, if_neg hz] at h; exact h.elim
def zB3 : List (V × V) -> List V
 | [] => []
 | (a, b) :: r => a :: b :: zB3 r
def MP (X : Cx) (Θ : Tab) (pos : Pos) (keys : List (Option Expr)) (values : List Expr) (m : M.AM) : Prop := ∃ trs, PPs X pos keys values trs /\
 ∀ {σ : St} {H : Hp} {Q : List (V × V) -> Hp -> Prop} {ρ : List Addr} {σ' : M.St} {S : M.S}, jA X.K ρ H σ' σ -> zU X.K Θ ρ S H -> zF X.K Θ (zL X.K) ρ H (m σ' S) (fun xs H' => ∀ ps, xs = zB3 ps -> Q ps H') -> zCP trs σ H Q
@[irreducible] def WP (X : Cx) (Θ : Tab) (pos : Pos) (keys : List (Option Expr)) (values : List Expr) (m : M.AM) : Prop := MP X Θ pos keys values m
theorem zNB {X : Cx} {pos : Pos} : MP X Θ pos [] [] M.zD := ⟨[], zLV, fun st rp h => zF.here (b := []) h rp rfl [] rfl⟩
theorem zJO {X : Cx} {pos : Pos} : WP X Θ pos [] [] M.zD := by with_unfolding_all exact zNB (X := X) (pos := pos)
theorem zLi {X : Cx} {pos : Pos} {k v : Expr} {ks : List (Option Expr)} {vs : List Expr} {mk mv : M.EM} {r : M.AM} (hk : ME X Θ k mk) (hv : ME X Θ v mv) (hr : MP X Θ pos ks vs r) : MP X Θ pos (some k :: ks) (v :: vs) (M.zB mk (M.zB mv r)) := by
 obtain ⟨trs, h1, h2⟩ := hr
 refine ⟨_, zIz hk hv h1, fun {σ H Q ρ σ' S} st rp h => ⟨ρ, σ', S, st, rp, ?_⟩⟩
 have h' : zF X.K Θ (zL X.K) ρ H ((mk σ' S).bind fun x s => (((mv σ' s).bind fun y s => (r σ' s).bind fun ys s => .ok (y :: ys) s)).bind fun xs s => .ok (x :: xs) s) _ := h
 cases e1 : mk σ' S with
 | no => rw [e1] at h'; exact h'.elim
 | exc a s => rw [e1] at h'; exact h'.elim
 | ok d S1 =>
  rw [e1, M.R.bind_ok] at h'
  intro ρ1 H1 x p1 l1 rp1 rx
  refine ⟨ρ1, σ', S1, st.mono p1 l1, rp1, ?_⟩
  have h'' := zF.weak h' p1 l1
  cases e2 : mv σ' S1 with
  | no => rw [e2] at h''; exact h''.elim
  | exc a s => rw [e2] at h''; exact h''.elim
  | ok d2 S2 =>
   rw [e2, M.R.bind_ok] at h''
   intro ρ2 H2 y p2 l2 rp2 ry
   refine h2 (st.mono (p1.trans p2) (l1.trans l2)) rp2 ?_
   have h3 := zF.weak h'' p2 l2
   cases e3 : r σ' S2 with
   | no => rw [e3] at h3; exact h3.elim
   | exc a s => rw [e3] at h3; exact h3.elim
   | ok ds S3 =>
    rw [e3] at h3
    intro ρ3 H3 xs p3 l3 rp3 rxs ps eps
    exact h3 ρ3 H3 (x :: y :: xs) p3 l3 rp3 ⟨x, _, rfl, rx.mono (p2.trans p3) (l2.trans l3), y, _, rfl, ry.mono p3 l3, rxs⟩ ((x, y) :: ps) (by rw [eps]; rfl)
theorem zIO {X : Cx} {pos : Pos} {k v : Expr} {ks : List (Option Expr)} {vs : List Expr} {mk mv : M.EM} {r : M.AM} (hk : WE X Θ k mk) (hv : WE X Θ v mv) (hr : WP X Θ pos ks vs r) : WP X Θ pos (some k :: ks) (v :: vs) (M.zB mk (M.zB mv r)) := by with_unfolding_all exact zLi (X := X) (pos := pos) (k := k) (v := v) (ks := ks) (vs := vs) (mk := mk) (mv := mv) (r := r) hk hv hr
theorem zCF {ρ : List Addr} {H : Hp} : ∀ {xs : List M.D} {ps : List (V × V)} {acc kvs : List (M.D × M.D)} {ks : List (Key × V)}, M.JQ xs acc = some kvs -> zL K ρ H xs (zB3 ps) -> DR K ρ H acc ks ->
  ∃ ks' : List (Key × V), ps = ks'.map (fun kv => (kV kv.1, kv.2)) /\ DR K ρ H kvs (Jb ks ks') /\ 2 * ks'.length = xs.length
 | [], ps, acc, kvs, ks, e, r, ra => by
  cases e
  cases ps with
  | nil => exact ⟨[], rfl, ra, rfl⟩
  | cons p ps => cases r
 | [_], _, _, _, _, e, _, _ => by cases e
 | k :: v :: xs, ps, acc, kvs, ks, e, r, ra => by
  cases ps with
  | nil => obtain ⟨_, _, z, _⟩ := r; cases z
  | cons p ps =>
   obtain ⟨y, ys, e1, r1, y2, ys2, e2, r2, r3⟩ := r
   have e1' : p.1 :: p.2 :: zB3 ps = y :: ys := e1
   cases e1'
   cases e2
   have e' : (if M.zt k = true then M.JQ xs (M.ja k v acc) else none) = some kvs := e
   by_cases hk : M.zt k = true
   case neg => rw [if_neg hk] at e'; cases e'
   rw [if_pos hk] at e'
   obtain ⟨kk, h1, h2⟩ := ZI hk r1
   obtain ⟨ks', g1, g2, g3⟩ := zCF e' r3 (ra.put h1 r2)
   refine ⟨(kk, p.2) :: ks', ?_, g2, by simp only [List.length_cons]; omega⟩
   rw [List.map_cons, <- g1, <- h2]
theorem zLd {X : Cx} {pos : Pos} {keys : List (Option Expr)} {values : List Expr} {m : M.AM} (h : MP X Θ pos keys values m) (hall : keys.all (·.isSome) = true := by rfl) (hl : keys.length = values.length := by rfl) (h0 : keys ≠ [] := by exact List.cons_ne_nil _ _)
  (h15 : keys.length <= 15 := by decide) : ME X Θ (.Dict keys values pos) (M.JG m) := by
 obtain ⟨trs, h1, h2⟩ := h
 refine (zLD h1 hall hl h0 h15).imp fun σ H Q ⟨ρ, σ', S, st, rp, h⟩ p hp => ?_
 have rp1 : zU X.K Θ (ρ ++ [p]) (S ++ [.dct []]) (upd H p (.dK [])) := rp.alloc hp ⟨[], z6, .nil⟩
 refine h2 (st.mono (List.prefix_append _ _) (Le.new hp _)) rp1 ?_
 have h' : zF X.K Θ (zM X.K) ρ H ((m σ' (S ++ [.dct []])).bind fun xs s' => match s'[S.length]? with
  | some (.dct []) => (match M.JQ xs [] with
   | some kvs => if kvs.length <= 15 /\ xs.length <= 30 then .ok (.ref S.length) (s'.set S.length (.dct kvs)) else .no
   | none => .no)
  | _ => .no) Q := h
 cases e1 : m σ' (S ++ [.dct []]) with
 | no => rw [e1] at h'; exact h'.elim
 | exc a s => rw [e1] at h'; exact h'.elim
 | ok xs S1 =>
  rw [e1, M.R.bind_ok] at h'
  intro ρ2 H2 ys p2 l2 rp2 rys ps eps
  subst eps
  have hpp : ρ2[S.length]? = some p := Qh p2 (by rw [<- rp.len]; simp)
  split at h'
  ·rename_i hS
   split at h'
   ·rename_i kvs hk
    by_cases hc : kvs.length <= 15 /\ xs.length <= 30
    case neg => rw [if_neg hc] at h'; exact h'.elim
    rw [if_pos hc] at h'
    obtain ⟨ks0, e3, r0⟩ := y9 rp2 hpp hS
    cases r0
    obtain ⟨ks', g1, g2, g3⟩ := zCF hk rys .nil
    refine ⟨e3, ks', g1, by omega, ?_⟩
    have mu : Mut (H2 p) := by rw [e3]; trivial
    have le : Le H (upd H2 p (.dK (Jb [] ks'))) := ((Le.new hp _).trans l2).trans (Le.put mu _)
    exact h' ρ2 _ _ ((List.prefix_append _ _).trans p2) le (rp2.put hpp mu ⟨_, z6, Paired.mapP g2 fun a b z => ⟨z.1, z.2.mono (List.prefix_refl _) (Le.put mu _)⟩⟩) ⟨p, rfl, hpp⟩
   ·exact h'.elim
  ·exact h'.elim
theorem zHX {X : Cx} {pos : Pos} {keys : List (Option Expr)} {values : List Expr} {m : M.AM} (h : WP X Θ pos keys values m) (hall : keys.all (·.isSome) = true := by rfl) (hl : keys.length = values.length := by rfl) (h0 : keys ≠ [] := by exact List.cons_ne_nil _ _)
  (h15 : keys.length <= 15 := by decide) : WE X Θ (.Dict keys values pos) (M.JG m) := by with_unfolding_all exact zLd (X := X) (pos := pos) (keys := keys) (values := values) (m := m) h hall hl h0 h15
end
end L2
namespace L2
open PySem PySem.Spec PyProof.Rows
section
variable {K : PySem.W.Frag} {Θ : Tab}
theorem zAt (a : M.T) : ∀ (n : Nat) (acc : Array Nat), (List.replicate n a.toArray).foldl (· ++ ·) acc = acc ++ ((List.replicate n a).flatten).toArray
 | 0, acc => by simp
 | n + 1, acc => by
  rw [List.replicate_succ, List.foldl_cons, zAt a n, List.replicate_succ, List.flatten_cons]
  simp
theorem zKe (a : M.T) (n : Int) (h0 : 0 <= n) : Txt.mul (ofT a) n = ofT (List.replicate n.toNat a).flatten := by
 unfold Txt.mul
 by_cases h1 : n < 1
 ·have e : n.toNat = 0 := by omega
  rw [if_pos h1, e]; rfl
 ·rw [if_neg h1]
  by_cases h2 : (n == 1 || (ofT a).length == 0) = true
  ·rw [if_pos h2]
   rw [Bool.or_eq_true] at h2
   rcases h2 with h2 | h2
   ·have e : n = 1 := eq_of_beq h2
    subst e
    simp
   ·have e : a.length = 0 := by rw [<- ju]; exact eq_of_beq h2
    have e2 : a = [] := List.length_eq_zero_iff.mp e
    subst e2
    simp [ofT]
  ·rw [if_neg h2]
   have := zAt a n.toNat #[]
   show (⟨(List.replicate n.toNat a.toArray).foldl (· ++ ·) #[]⟩ : Str) = _
   rw [this]; simp [ofT]
theorem zMd (a : M.T) (n : Int) (h0 : 0 <= n) (h1 : n <= 1000000) (h2 : a.length * n.toNat <= 1000000) : MulOk (ofT a) n := by
 refine ⟨?_, fun h3 _ => ?_, fun h3 _ => ?_⟩
 ·rw [Bool.or_eq_false_iff]
  exact ⟨decide_eq_false (by omega), decide_eq_false (by omega)⟩
 ·rw [ju]
  have hn : 1 <= n.toNat := by omega
  have ha : a.length <= 1000000 := Nat.le_trans (Nat.le_mul_of_pos_right _ (by omega)) h2
  have hd : (1000000 : Int) <= (2 ^ 63 - 1) / n := Int.le_ediv_of_mul_le (by omega) (by omega)
  omega
 ·rw [ju]
  unfold Builtin.Str.tooLong
  exact decide_eq_false (by rw [sizeLine_eq]; omega)
def zKG : R2 := fun x y H Q => zMJ x y H Q \/ zMG x y H Q
theorem zFa {X : Cx} : OpR X (binaryOp .Mult) zKG := OpR.or zNq zMW
theorem zL.flat {ρ : List Addr} {H : Hp} {ds : List M.D} {xs : List V} (h : zL K ρ H ds xs) : ∀ n : Nat, zL K ρ H (List.replicate n ds).flatten (List.replicate n xs).flatten
 | 0 => rfl
 | n + 1 => by
  rw [List.replicate_succ, List.replicate_succ, List.flatten_cons, List.flatten_cons]
  exact zL.app h (zL.flat h n)
theorem zEe : Ad2 K Θ M.zCp zKG := by
 intro ρ H S x y X Y Q rp rx ry h
 cases x with
 | int i =>
  cases y with
  | int j =>
   cases rx; cases ry
   have h' : zF K Θ (zM K) ρ H (if (M.QU i || M.QU j) = true then M.R.ok (M.D.int (i * j)) S else .no) Q := h
   by_cases hc : (M.QU i || M.QU j) = true
   ·rw [if_pos hc] at h'
    refine .inl ⟨?_, zF.here (b := V.int (i * j)) h' rp rfl⟩
    rw [Bool.or_eq_true] at hc
    rcases hc with hc | hc
    ·exact .inl (zFc hc)
    ·exact .inr (zFc hc)
   ·rw [if_neg hc] at h'; exact h'.elim
  | _ => exact h.elim
 | str a =>
  cases y with
  | int n =>
   obtain ⟨rfl, oka⟩ := rx
   cases ry
   have h' : zF K Θ (zM K) ρ H (if 0 <= n /\ n.natAbs <= 1000000 /\ a.length * n.natAbs <= 1000000 then M.R.ok (M.D.str (List.replicate n.toNat a).flatten) S else .no) Q := h
   by_cases hc : 0 <= n /\ n.natAbs <= 1000000 /\ a.length * n.natAbs <= 1000000
   ·rw [if_pos hc] at h'
    have hn : n.natAbs = n.toNat := by omega
    refine .inl ⟨zMd a n hc.1 (by omega) (by rw [<- hn]; exact hc.2.2), ?_⟩
    show Q (.str (Txt.mul (ofT a) n)) H
    rw [zKe a n hc.1]
    refine zF.here h' rp ⟨rfl, zBL oka fun c hc => ?_⟩
    obtain ⟨l, hl, hcl⟩ := List.mem_flatten.mp hc
    rw [(List.mem_replicate.mp hl).2] at hcl
    exact hcl
   ·rw [if_neg hc] at h'; exact h'.elim
  | _ => exact h.elim
 | ref p =>
  cases y with
  | int n =>
   cases ry
   have h' : zF K Θ (zM K) ρ H (match M.jN S p with | some xs => if n.natAbs <= 1000 /\ xs.length * n.natAbs <= 1000000 then M.alloc (.lst (List.replicate n.toNat xs).flatten) S else .no | none => .no) Q := h
   cases q : S[p]? with
   | none => simp only [M.jN, q] at h'; exact h'.elim
   | some o =>
    cases o with
    | lst ds =>
     simp only [M.jN, q] at h'
     obtain ⟨a, rfl, ea⟩ := rx
     obtain ⟨zs, e1, r⟩ := Zu rp ea q
     by_cases hc : n.natAbs <= 1000 /\ ds.length * n.natAbs <= 1000000
     ·rw [if_pos hc] at h'
      have hn : n.toNat <= n.natAbs := by omega
      refine .inr ⟨a, n, zs, rfl, rfl, e1, by omega, by omega, ?_, fun p hp => zF.alloc h' rp (zL.flat r n.toNat) hp⟩
      have hm := Nat.mul_le_mul_left ds.length hn
      rw [<- r.length, sizeLine_eq]
      omega
     ·rw [if_neg hc] at h'; exact h'.elim
    | dct _ => simp only [M.jN, q] at h'; exact h'.elim
    | fdc _ => simp only [M.jN, q] at h'; exact h'.elim
    | ins _ _ => simp only [M.jN, q] at h'; exact h'.elim
  | _ => exact h.elim
 | _ => exact h.elim
def zL2 (K : PySem.W.Frag) : R2 := fun x y H Q => uIx K x y H Q \/ ∃ a v, x = .ref a /\ Zr H a y (some v) /\ Q v H
theorem qx {X : Cx} {k : Nat} (hr : jH k X.A) : IxR X (zL2 X.K) := by
 refine IxR.or zOk ?_
 intro value slice pins s σ H x y v u Q I rx ry h hs
 obtain ⟨a, w', rfl, g, q⟩ := h
 cases rx
 exact tail_any (zFw I g) PySem.F.slot_dict_getitem.lookup (zDz (zCY hr) I g ry fun w2 s3 I3 rw' => ⟨w', H, I3, rw', q⟩) hs
def zKF (K : PySem.W.Frag) : List V -> Hp -> VK -> Prop := fun xs H Q => zMw K xs H Q \/ ∃ a kvs, xs = [V.ref a] /\ H a = some (.dK kvs) /\ Q (.int kvs.length) H
theorem qR {X : Cx} : qF X (.builtin "len") (zKF X.K) := qF.or zNo zIA
theorem j6 : Ad2 K Θ M.zY (zL2 K) := by
 intro ρ H S x y X Y Q rp rx ry h
 cases x with
 | str a =>
  cases y with
  | int i =>
   obtain ⟨rfl, oka⟩ := rx
   cases ry
   have h' : zF K Θ (zM K) ρ H (if a.length <= M.SZ then (match M.atI a i with | some c => M.R.ok (M.D.str [c]) S | none => .no) else .no) Q := h
   by_cases hc : a.length <= M.SZ
   ·rw [if_pos hc] at h'
    cases q : M.atI a i with
    | none => rw [q] at h'; exact h'.elim
    | some c =>
     rw [q] at h'
     refine .inl ⟨c, by rw [ju, <- y7]; exact hc, ?_, zF.here (b := V.str (ofT [c])) h' rp ⟨rfl, zBL oka fun d hd => by
      have e : d = c := by simpa using hd
      rw [e]
      unfold M.atI at q
      cases qi : M.ixN a.length i with
      | none => rw [qi] at q; cases q
      | some j => rw [qi] at q; exact List.mem_of_getElem? q⟩⟩
     rw [Z8]; exact q
   ·rw [if_neg hc] at h'; exact h'.elim
  | _ => exact h.elim
 | tup ds =>
  cases y with
  | int i =>
   obtain ⟨l, xs, rfl, hq, r⟩ := rx
   cases ry
   have h' : zF K Θ (zM K) ρ H (match M.atI ds i with | some d => M.R.ok d S | none => .no) Q := h
   cases q : M.atI ds i with
   | none => rw [q] at h'; exact h'.elim
   | some d =>
    rw [q] at h'
    obtain ⟨v, e1, rv⟩ := zDG r q
    exact .inl ⟨xs, v, .inr hq, e1, zF.here h' rp rv⟩
  | _ => exact h.elim
 | ro ds =>
  cases y with
  | int i =>
   obtain ⟨l, xs, rfl, hq, r⟩ := rx
   cases ry
   have h' : zF K Θ (zM K) ρ H (match M.atI ds i with | some d => M.R.ok d S | none => .no) Q := h
   cases q : M.atI ds i with
   | none => rw [q] at h'; exact h'.elim
   | some d =>
    rw [q] at h'
    obtain ⟨v, e1, rv⟩ := zDG r q
    exact .inl ⟨xs, v, .inl hq.sq, e1, zF.here h' rp rv⟩
  | _ => exact h.elim
 | ref p =>
  obtain ⟨a, rfl, ea⟩ := rx
  cases q : S[p]? with
  | none => simp [M.zY, q] at h; exact h.elim
  | some o =>
   cases o with
   | lst xs =>
    cases y with
    | int i =>
     cases ry
     obtain ⟨zs, e1, r⟩ := Zu rp ea q
     cases q2 : M.atI xs i with
     | none => simp [M.zY, q, q2] at h; exact h.elim
     | some d =>
      simp [M.zY, q, q2] at h
      obtain ⟨v, e2, rv⟩ := zDG r q2
      exact .inl ⟨zs, v, .inl (SqL.of e1), e2, zF.here h rp rv⟩
    | _ => simp [M.zY, q] at h; exact h.elim
   | dct kvs =>
    by_cases hk : M.zt y = true
    case neg => simp [M.zY, q, hk] at h; exact h.elim
    obtain ⟨ks, e1, r⟩ := y9 rp ea q
    obtain ⟨k, h1, rfl⟩ := ZI hk ry
    have hv := r.val h1
    cases q2 : M.jJ y kvs with
    | none => simp [M.zY, q, hk, q2] at h; exact h.elim
    | some d =>
     simp [M.zY, q, hk, q2] at h
     rw [q2] at hv
     obtain ⟨v, e2, rv⟩ := hv
     refine .inr ⟨a, v, rfl, ?_, zF.here h rp rv⟩
     rw [<- e2]
     exact Zr.k e1
   | fdc kvs =>
    by_cases hk : M.zt y = true
    case neg => simp [M.zY, q, hk] at h; exact h.elim
    obtain ⟨fo, ks, e1, r⟩ := zH4 rp ea q
    obtain ⟨k, h1, rfl⟩ := ZI hk ry
    have hv := r.val h1
    cases q2 : M.jJ y kvs with
    | none => simp [M.zY, q, hk, q2] at h; exact h.elim
    | some d =>
     simp [M.zY, q, hk, q2] at h
     rw [q2] at hv
     obtain ⟨v, e2, rv⟩ := hv
     refine .inr ⟨a, v, rfl, ?_, zF.here h rp rv⟩
     rw [<- e2]
     exact (.inl ⟨ks, k, .inr ⟨fo, e1⟩, rfl, rfl⟩)
   | ins c fs => simp [M.zY, q] at h; exact h.elim
 | _ => exact h.elim
theorem ZF : AdN K Θ M.qK (zKF K) := by
 intro ρ H S xs Xs Q rp rx h
 match xs, rx, h with
 | [.str a], rx, h =>
  obtain ⟨_, _, rfl, ⟨rfl, _⟩, rfl⟩ := rx
  have h' : zF K Θ (zM K) ρ H (if a.length <= M.SZ then M.R.ok (M.D.int a.length) S else .no) Q := h
  by_cases hc : a.length <= M.SZ
  ·rw [if_pos hc] at h'
   refine .inl ⟨by rw [ju, <- y7]; exact hc, ?_⟩
   rw [ju]
   exact zF.here (b := V.int a.length) h' rp rfl
  ·rw [if_neg hc] at h'; exact h'.elim
 | [.tup ds], rx, h =>
  obtain ⟨_, _, rfl, ⟨l, ys, rfl, hq, r⟩, rfl⟩ := rx
  exact .inl ⟨ys, .inr hq, by rw [<- r.length]; exact zF.here (b := V.int ds.length) h rp rfl⟩
 | [.ro ds], rx, h =>
  obtain ⟨_, _, rfl, ⟨l, ys, rfl, hq, r⟩, rfl⟩ := rx
  exact .inl ⟨ys, .inl hq.sq, by rw [<- r.length]; exact zF.here (b := V.int ds.length) h rp rfl⟩
 | [.ref p], rx, h =>
  obtain ⟨_, _, rfl, ⟨a, rfl, ea⟩, rfl⟩ := rx
  cases q : S[p]? with
  | none => simp [M.qK, q] at h; exact h.elim
  | some o =>
   cases o with
   | lst xs =>
    simp [M.qK, q] at h
    obtain ⟨zs, e1, r⟩ := Zu rp ea q
    exact .inl ⟨zs, .inl (SqL.of e1), by rw [<- r.length]; exact zF.here (b := V.int xs.length) h rp rfl⟩
   | dct kvs =>
    simp [M.qK, q] at h
    obtain ⟨ks, e1, r⟩ := y9 rp ea q
    exact .inr ⟨a, ks, rfl, e1, by rw [<- Paired.length r]; exact zF.here (b := V.int kvs.length) h rp rfl⟩
   | fdc _ => simp [M.qK, q] at h; exact h.elim
   | ins c fs => simp [M.qK, q] at h; exact h.elim
 | [.non], _, h => exact h.elim
 | [.bl _], _, h => exact h.elim
 | [.int _], _, h => exact h.elim
 | [.ty _], _, h => exact h.elim
 | [], _, h => exact h.elim
 | a :: _ :: _, _, h => cases a <;> exact h.elim
def zE8 (K : PySem.W.Frag) (neg : Bool) : R2 := fun x y H Q => uIn K neg x y H Q \/ ∃ a o, y = .ref a /\ Zr H a x o /\ Q (.bl (xor neg o.isSome)) H
theorem zHb {X : Cx} {k : Nat} (hr : jH k X.A) : OpR X (compareOp .In) (zE8 X.K false) := by
 refine OpR.or zOZ ?_
 intro pins s σ H x y v u Q I rx ry h
 obtain ⟨a, o, rfl, g, q⟩ := h
 cases ry
 exact zOP (zCY hr) I g rx fun s' I' => ⟨.bl o.isSome, H, I', rfl, by rw [Bool.false_xor] at q; exact q⟩
theorem Qy {X : Cx} {k : Nat} (hr : jH k X.A) : OpR X (compareOp .NotIn) (zE8 X.K true) := by
 refine OpR.or zLk ?_
 intro pins s σ H x y v u Q I rx ry h
 obtain ⟨a, o, rfl, g, q⟩ := h
 cases ry
 exact zLg (zCY hr) I g rx fun s' I' => ⟨.bl (!o.isSome), H, I', rfl, by rw [Bool.true_xor] at q; exact q⟩
theorem zFA {ρ : List Addr} {H : Hp} {d : M.D} {v : V} (r : zM K ρ H d v) : yM v = M.flat d := by
 cases d with
 | non => cases r; rfl
 | bl _ => cases r; rfl
 | int _ => cases r; rfl
 | str _ => obtain ⟨rfl, _⟩ := r; rfl
 | ty _ => cases r; rfl
 | ref _ => obtain ⟨_, rfl, _⟩ := r; rfl
 | tup _ => obtain ⟨_, _, rfl, _⟩ := r; rfl
 | ro _ => obtain ⟨_, _, rfl, _⟩ := r; rfl
theorem zKd {ρ : List Addr} {H : Hp} {d e : M.D} {v u : V} (r : zM K ρ H d v) (q : zM K ρ H e u) : eqV v u = M.eqF d e := by
 cases d with
 | non =>
  cases r
  cases e with
  | str _ => obtain ⟨rfl, _⟩ := q; rfl
  | ref _ => obtain ⟨_, rfl, _⟩ := q; rfl
  | tup _ => obtain ⟨_, _, rfl, _⟩ := q; rfl
  | ro _ => obtain ⟨_, _, rfl, _⟩ := q; rfl
  | _ => cases q; rfl
 | bl _ =>
  cases r
  cases e with
  | str _ => obtain ⟨rfl, _⟩ := q; rfl
  | ref _ => obtain ⟨_, rfl, _⟩ := q; rfl
  | tup _ => obtain ⟨_, _, rfl, _⟩ := q; rfl
  | ro _ => obtain ⟨_, _, rfl, _⟩ := q; rfl
  | _ => cases q; rfl
 | int _ =>
  cases r
  cases e with
  | str _ => obtain ⟨rfl, _⟩ := q; rfl
  | ref _ => obtain ⟨_, rfl, _⟩ := q; rfl
  | tup _ => obtain ⟨_, _, rfl, _⟩ := q; rfl
  | ro _ => obtain ⟨_, _, rfl, _⟩ := q; rfl
  | _ => cases q; rfl
 | str x =>
  obtain ⟨rfl, _⟩ := r
  cases e with
  | str y => obtain ⟨rfl, _⟩ := q; exact zGB x y
  | ref _ => obtain ⟨_, rfl, _⟩ := q; rfl
  | tup _ => obtain ⟨_, _, rfl, _⟩ := q; rfl
  | ro _ => obtain ⟨_, _, rfl, _⟩ := q; rfl
  | _ => cases q; rfl
 | ty _ => cases r; rfl
 | ref _ => obtain ⟨_, rfl, _⟩ := r; rfl
 | tup _ => obtain ⟨_, _, rfl, _⟩ := r; rfl
 | ro _ => obtain ⟨_, _, rfl, _⟩ := r; rfl
theorem zDl {ρ : List Addr} {H : Hp} : ∀ {ds : List M.D} {xs : List V}, zL K ρ H ds xs -> xs.all yM = ds.all M.flat
 | [], _, r => by cases r; rfl
 | _ :: _, _, ⟨y, ys, e, r1, r2⟩ => by subst e; rw [List.all_cons, List.all_cons, zFA r1, zDl r2]
theorem zFV {ρ : List Addr} {H : Hp} {x : M.D} {v : V} (rx : zM K ρ H x v) : ∀ {ds : List M.D} {xs : List V}, zL K ρ H ds xs -> inV v xs = M.zAF x ds
 | [], _, r => by cases r; rfl
 | _ :: _, _, ⟨y, ys, e, r1, r2⟩ => by
  subst e
  unfold inV M.zAF
  rw [List.any_cons, List.any_cons, zKd r1 rx]
  have := zFV rx r2
  unfold inV M.zAF at this
  rw [this]
theorem zBi (a : M.T) : ∀ b : M.T, M.zBK a b = true ↔ ∃ i, i + a.length <= b.length /\ (b.drop i).take a.length = a
 | [] => by
  simp only [M.zBK, List.isEmpty_iff]
  constructor
  ·rintro rfl; exact ⟨0, by simp, by simp⟩
  ·rintro ⟨i, h, e⟩
   simp at h
   exact h.2
 | c :: r => by
  simp only [M.zBK, Bool.or_eq_true, zBi a r]
  constructor
  ·rintro (h | ⟨i, h, e⟩)
   ·have := List.isPrefixOf_iff_prefix.mp h
    exact ⟨0, by simpa using this.length_le, by simpa using (List.prefix_iff_eq_take.mp this).symm⟩
   ·exact ⟨i + 1, by simp; omega, by simpa using e⟩
  ·rintro ⟨i, h, e⟩
   cases i with
   | zero => left; exact List.isPrefixOf_iff_prefix.mpr (List.prefix_iff_eq_take.mpr (by simpa using e.symm))
   | succ i => right; exact ⟨i, by simp at h; omega, by simpa using e⟩
theorem zIm (a b : M.T) (i : Nat) : StrLaws.At (ofT b) (ofT a) (ofT b).length i ↔ (i + a.length <= b.length /\ (b.drop i).take a.length = a) := by
 unfold StrLaws.At Builtin.Str.subAt
 rw [ju, ju]
 refine and_congr_right fun _ => ?_
 rw [beq_iff_eq]
 constructor
 ·intro h
  have := congrArg Array.toList h
  simpa [ofT, List.extract_eq_take_drop] using this
 ·intro h
  apply Array.ext'
  simpa [ofT, List.extract_eq_take_drop] using h
theorem zKt (a b : M.T) : (!(Builtin.Str.occurrences (ofT b) (ofT a) 0 (ofT b).length 1).isEmpty) = M.zBK a b := by
 rcases StrLaws.occ_head (ofT b) (ofT a) 1 (by decide) with ⟨e, h⟩ | ⟨i, r, e, h, _⟩
 ·rw [e]
  have : ¬ M.zBK a b = true := fun q => by
   obtain ⟨i, q⟩ := (zBi a b).mp q
   exact h i ((zIm a b i).mpr q)
  simpa using this
 ·rw [e]
  have := (zBi a b).mpr ⟨i, (zIm a b i).mp h⟩
  simp [this]
theorem zGU {neg : Bool} {ρ : List Addr} {H : Hp} {S : M.S} {x y : M.D} {X1 Y : V} {Q : VK} (rp : zU K Θ ρ S H) (rx : zM K ρ H x X1) (ry : zM K ρ H y Y) (h : zF K Θ rB ρ H (M.inD x y S) (fun b H' => Q (.bl (xor neg b)) H')) : zE8 K neg X1 Y H Q := by
 have seq : ∀ {ds : List M.D} {xs : List V} {a : Addr}, (SqL K H a xs \/ SqT K H a xs) -> zL K ρ H ds xs -> zF K Θ rB ρ H (if (M.flat x && ds.all M.flat) = true then M.R.ok (M.zAF x ds) S else .no) (fun b H' => Q (.bl (xor neg b)) H') -> uIn K neg X1 (.ref a) H Q := fun {ds xs a} hq r h' => by
  by_cases hc : (M.flat x && ds.all M.flat) = true
  ·rw [if_pos hc] at h'
   rw [Bool.and_eq_true, <- zFA rx, <- zDl r] at hc
   have := zF.here (b := M.zAF x ds) h' rp rfl
   rw [<- zFV rx r] at this
   have g : ∃ xs, (SqL K H a xs \/ SqT K H a xs) /\ yM X1 = true /\ xs.all yM = true /\ Q (.bl (xor neg (inV X1 xs))) H := ⟨xs, hq, hc.1, hc.2, this⟩
   cases X1 <;> exact g
  ·rw [if_neg hc] at h'; exact h'.elim
 cases y with
 | str b =>
  cases x with
  | str a =>
   obtain ⟨rfl, _⟩ := rx
   obtain ⟨rfl, _⟩ := ry
   refine .inl ?_
   show Q (.bl (xor neg (!(Builtin.Str.occurrences (ofT b) (ofT a) 0 (ofT b).length 1).isEmpty))) H
   rw [zKt]
   exact zF.here (b := M.zBK a b) h rp rfl
  | _ => exact h.elim
 | tup ds =>
  obtain ⟨l, xs, rfl, hq, r⟩ := ry
  exact .inl (seq (.inr hq) r h)
 | ro ds =>
  obtain ⟨l, xs, rfl, hq, r⟩ := ry
  exact .inl (seq (.inl hq.sq) r h)
 | ref p =>
  obtain ⟨a, rfl, ea⟩ := ry
  cases q : S[p]? with
  | none => simp [M.inD, q] at h; exact h.elim
  | some o =>
   cases o with
   | lst ds =>
    obtain ⟨zs, e1, r⟩ := Zu rp ea q
    refine .inl (seq (.inl (SqL.of e1)) r ?_)
    simp only [M.inD, q] at h
    exact h
   | dct kvs =>
    by_cases hk : M.zt x = true
    case neg => simp [M.inD, q, hk] at h; exact h.elim
    simp only [M.inD, q, if_pos hk] at h
    obtain ⟨ks, e1, r⟩ := y9 rp ea q
    obtain ⟨k, h1, rfl⟩ := ZI hk rx
    have hv := r.val h1
    refine .inr ⟨a, yI ks k, rfl, Zr.k e1, ?_⟩
    have e2 : (yI ks k).isSome = (M.jJ x kvs).isSome := by
     cases q2 : M.jJ x kvs with
     | none => rw [q2] at hv; rw [hv]; rfl
     | some d => rw [q2] at hv; obtain ⟨v, e2, _⟩ := hv; rw [e2]; rfl
    rw [e2]
    exact zF.here (b := (M.jJ x kvs).isSome) h rp rfl
   | fdc kvs =>
    by_cases hk : M.zt x = true
    case neg => simp [M.inD, q, hk] at h; exact h.elim
    simp only [M.inD, q, if_pos hk] at h
    obtain ⟨fo, ks, e1, r⟩ := zH4 rp ea q
    obtain ⟨k, h1, rfl⟩ := ZI hk rx
    have hv := r.val h1
    refine .inr ⟨a, yI ks k, rfl, (.inl ⟨ks, k, .inr ⟨fo, e1⟩, rfl, rfl⟩), ?_⟩
    have e2 : (yI ks k).isSome = (M.jJ x kvs).isSome := by
     cases q2 : M.jJ x kvs with
     | none => rw [q2] at hv; rw [hv]; rfl
     | some d => rw [q2] at hv; obtain ⟨v, e2, _⟩ := hv; rw [e2]; rfl
    rw [e2]
    exact zF.here (b := (M.jJ x kvs).isSome) h rp rfl
   | ins c fs => simp [M.inD, q] at h; exact h.elim
 | _ => exact h.elim
theorem zKK : AdC K Θ M.cIn (zE8 K false) := by
 intro ρ H S x y X1 Y Q rp rx ry h
 refine zGU rp rx ry ?_
 have h' : zF K Θ rB ρ H (M.inD x y S) (fun b H' => Q (.bl b) H') := h
 revert h'
 cases M.inD x y S with
 | ok b s => exact fun h' ρ1 H1 b' p l rp1 e => by cases e; rw [Bool.false_xor]; exact h' ρ1 H1 b p l rp1 rfl
 | exc e s => exact fun h' => h'
 | no => exact fun h' => h'
theorem Jn : AdC K Θ M.jr (zE8 K true) := by
 intro ρ H S x y X1 Y Q rp rx ry h
 exact zGU rp rx ry (zF.bind h fun ρ1 H1 b b' S1 p1 l1 rp1 e h1 => by cases e; rw [Bool.true_xor]; exact zF.here (b := !b) h1 rp1 rfl)
theorem zM0 {X : Cx} {e : Expr} {m : M.TM} (h : MW X Θ e m) : MT X Θ e m := PW.pt h
theorem ZY {X : Cx} {e : Expr} {m : M.TM} (h : WW X Θ e m) : WT X Θ e m := by with_unfolding_all exact zM0 (X := X) (e := e) (m := m) h
theorem Zb {X : Cx} : QW X [] (RdT X.K Θ M.j9) := fun pins s σ H Q I ⟨ρ, σ', S, st, rp, h⟩ => zJ8 pins s σ H Q I (zF.here (b := true) h rp rfl)
theorem zEV {X : Cx} {c : Expr} {t : M.TM} (h : WT X Θ c t) : QW X [c] (RdT X.K Θ t) := zJ0 (by with_unfolding_all exact h)
theorem zGa {g1 g2 : M.GM} : ∀ ds σ σ1, (M.qE g1 (M.qE g2 M.QZ)) ds σ = some σ1 -> ds.length = 2 := fun ds σ σ1 e => by
 match ds, e with
 | [], e => cases e
 | [a], e =>
  simp [M.qE] at e
  split at e <;> cases e
 | [a, b], _ => rfl
 | a :: b :: c :: r, e =>
  simp [M.qE, M.QZ] at e
  split at e
  ·split at e <;> cases e
  ·cases e
theorem zEa {ρ : List Addr} {H : Hp} : ∀ ns : List Int, zL K ρ H (ns.map .int) (ns.map V.int)
 | [] => rfl
 | n :: ns => ⟨_, _, rfl, rfl, zEa ns⟩
theorem zMT {f : M.F} (ht : ∀ ns : List Int, ns.length <= 63 -> ∃ s, f [.ro (ns.map .int)] [] = .ok (.bl true) s) {H : Hp} {a : Addr} {ns : List Int} {E : XK} (hl : ns.length <= 63) (hO : zGt H) (hS : SqL K H a (ns.map V.int)) : SpM K Θ 1 f [.ref a] H (fun v _ => v = .bl true) E := by
 obtain ⟨s, e⟩ := ht ns hl
 refine ⟨[], [.ro (ns.map .int)], [], rfl, ⟨_, _, rfl, ⟨a, ns.map V.int, rfl, ?_, zEa ns⟩, rfl⟩, ⟨rfl, List.nodup_nil, fun i o q => by simp at q⟩, ?_⟩
 ·rcases hS with (h | h) | h
  ·rcases hO a with z | ⟨o, xs, z⟩
   ·rw [h] at z; cases z
   ·rw [h] at z; cases z
  ·exact .inl h
  ·exact .inr h
 ·rw [e]
  exact fun ρ' H' b _ _ _ r => r
end
section
variable {P : Program} {w : World} {K : PySem.W.Frag} {mg : Str -> Option Value} {base : Heap} {Θ : Tab}
theorem zMr {x qual : Str} {st : Stmt} {f : Addr} {fd : FuncData} {N ps : List Str} {k : Nat} {b : M.SM} (F : Fun K x qual st f fd) (Sc : jb N ps (zP st))
  (hbody : ∀ (cdv : Value) (A : Around) (outer : List Env) (s : Shared) (H : Hp) (E : XK), jH k (A.deeper (envOfC qual (zP st) s.heap.objs.size f cdv)) ->
   MSs (JT CX0 P w K mg base N qual (zP st) f cdv A outer s H E).nox Θ (jK st) b) : qA P w K mg base CX0 (k + 1) f fd ps (SpM K Θ ps.length (M.fn N.length b)) := by
 refine F.ok (k := k) Sc (fun vs H Q E h => ?_) (fun cdv A outer s H vs Q E hr h => ?_)
 ·obtain ⟨ρ, ds, S, hl, r, _⟩ := h
  rw [<- r.length, hl]
 ·obtain ⟨ρ, ds, S, hl, r, rp, h⟩ := h
  refine ⟨_, hbody cdv A outer s H E hr, ρ, _, S, zDg r N, rp, ?_⟩
  have h' : zF K Θ (zM K) ρ H (b (ds.map some ++ List.replicate (N.length - ds.length) none) S).out Q := h
  show ze K Θ ρ H (b (ds.map some ++ List.replicate (N.length - ds.length) none) S) _
  revert h'
  cases b (ds.map some ++ List.replicate (N.length - ds.length) none) S with
  | rt a s => exact fun h' => h'
  | nx a s => exact fun h' ρ1 H1 σ1 p1 l1 rp1 _ => h' ρ1 H1 .non p1 l1 rp1 rfl
  | bk a s => exact fun h' => h'.elim
  | ct a s => exact fun h' => h'.elim
  | exc e a s => exact fun h' => h'
  | no => exact fun h' => h'
theorem JY {x qual : Str} {st : Stmt} {f : Addr} {fd : FuncData} {N ps : List Str} {k : Nat} {b : M.SM} (F : Fun K x qual st f fd) (Sc : jb N ps (zP st))
  (hbody : ∀ (cdv : Value) (A : Around) (outer : List Env) (s : Shared) (H : Hp) (E : XK), jH k (A.deeper (envOfC qual (zP st) s.heap.objs.size f cdv)) ->
   WSs (JT CX0 P w K mg base N qual (zP st) f cdv A outer s H E).nox Θ (jK st) b) : qA P w K mg base CX0 (k + 1) f fd ps (SpM K Θ ps.length (M.fn N.length b)) := by with_unfolding_all exact zMr (x := x) (qual := qual) (st := st) (f := f) (fd := fd) (N := N) (ps := ps) (k := k) (b := b) F Sc hbody
end
theorem zBC : bootBuiltins "sorted" = some (.builtin "sorted") := by decide +kernel
theorem zLr : bootBuiltins "max" = some (.builtin "max") := by decide +kernel
end L2
namespace L2
open PySem PySem.Spec PyProof.Rows PySem.Builtin.Str
section
variable {K : PySem.W.Frag} {Θ : Tab}
theorem zBt {ρ : List Addr} {H : Hp} : ∀ (ts : List M.T), (∀ t ∈ ts, okT t) -> zL K ρ H (ts.map .str) ((ts.map ofT).map V.str)
 | [], _ => rfl
 | t :: ts, h => ⟨_, _, rfl, ⟨rfl, h t List.mem_cons_self⟩, zBt ts fun x hx => h x (List.mem_cons_of_mem _ hx)⟩
theorem Z9 {ρ : List Addr} {H : Hp} {S : M.S} {p : Nat} {X : V} {ds : List M.D} (rp : zU K Θ ρ S H) (rx : zM K ρ H (.ref p) X) (e : S[p]? = some (.lst ds)) : ∃ a xs, X = .ref a /\ ρ[p]? = some a /\ H a = some (.lst xs) /\ zL K ρ H ds xs := by
 obtain ⟨a, rfl, ha⟩ := rx
 obtain ⟨b, hb, xs, hx, r⟩ := rp.obj p _ e
 rw [ha] at hb; cases hb
 exact ⟨a, xs, rfl, ha, hx, r⟩
theorem JN {H : Hp} {a : Addr} {xs : List V} (h : H a = some (.lst xs)) : Mut (H a) := by rw [h]; trivial
theorem Q6 : AdM K Θ M.jt zGI := by
 intro ρ H S x xs X Xs Q rp rx rxs h
 unfold M.jt at h
 split at h
 ·rename_i p y
  obtain ⟨Y, r, rfl, ry, rfl⟩ := rxs
  split at h
  ·rename_i ds e
   obtain ⟨a, zs, rfl, ha, hx, rz⟩ := Z9 rp rx e
   split at h
   ·rename_i hl
    have le := Le.put (JN hx) (.lst (zs ++ [Y]))
    refine ⟨a, zs, Y, rfl, rfl, hx, by rw [<- y7, <- rz.length]; exact hl, ?_⟩
    exact h ρ _ _ (List.prefix_refl _) le (rp.put ha (JN hx) ⟨_, z6, (rz.mono (List.prefix_refl _) le).app ⟨_, _, rfl, ry.mono (List.prefix_refl _) le, rfl⟩⟩) rfl
   ·exact h.elim
  ·exact h.elim
 ·exact h.elim
theorem zHh : AdM K Θ M.JP zGY := by
 intro ρ H S x xs X Xs Q rp rx rxs h
 unfold M.JP at h
 split at h
 ·rename_i p q
  obtain ⟨Y, r, rfl, ry, rfl⟩ := rxs
  split at h
  ·rename_i ds es e1 e2
   obtain ⟨a, zs, rfl, ha, hx, rz⟩ := Z9 rp rx e1
   obtain ⟨b, us, rfl, hb, hy, ru⟩ := Z9 rp ry e2
   split at h
   ·rename_i hl
    have le := Le.put (JN hx) (.lst (zs ++ us))
    refine ⟨a, b, zs, us, rfl, rfl, hx, hy, by rw [<- y7, <- rz.length, <- ru.length]; exact hl.1, ?_⟩
    exact h ρ _ _ (List.prefix_refl _) le (rp.put ha (JN hx) ⟨_, z6, (rz.mono (List.prefix_refl _) le).app (ru.mono (List.prefix_refl _) le)⟩) rfl
   ·exact h.elim
  ·exact h.elim
 ·exact h.elim
end
end L2
namespace L2
open PySem PySem.Spec PyProof.Rows PySem.Builtin.Str
section
variable {K : PySem.W.Frag} {Θ : Tab}
theorem zNU : AdN K Θ M.zG0 (fun xs H Q => (∃ i, xs = [.int i] /\ Q (.int i) H) \/ ∃ k, xs = [.bl k] /\ Q (.int (if k then 1 else 0)) H) := by
 intro ρ H S xs Xs Q rp rxs h
 unfold M.zG0 at h
 split at h
 ·obtain ⟨Y, r, rfl, ry, rfl⟩ := rxs
  cases ry
  exact .inl ⟨_, rfl, zF.here h rp rfl⟩
 ·obtain ⟨Y, r, rfl, ry, rfl⟩ := rxs
  cases ry
  exact .inr ⟨_, rfl, zF.here h rp rfl⟩
 ·exact h.elim
end
end L2
namespace L2
open PySem PySem.Spec PyProof.Rows
def Ite (K : PySem.W.Frag) (a : Addr) : It :=
 ⟨fun i H => ∃ xs x, SqL K H a xs /\ xs[i]? = some x, fun i H v H' => ∃ p x, H p = none /\ v = .ref p /\ H' = upd H p (.tup [.int (i : Int), x]) /\ ∀ xs, SqL K H a xs -> xs[i]? = some x, fun i H => ∃ xs, SqL K H a xs /\ xs.length <= i⟩
theorem Inv.turned2 {X : Cx} {pins : List (Addr × Obj)} {σ : St} {H : Hp} {s : Shared} {h' : Heap} {t' : Nat} {e it T : Addr} {o : HO} (I : Inv X pins σ H s) (fe : JA X pins H e) (fi : JA X pins H it) (hT : s.heap.objs.size <= T)
  (k : ∀ b q, b ≠ e -> b ≠ it -> s.heap.get? b = some q -> h'.get? b = some q) (new : jV X.prog X.w (upd H T o) h' T o) (ht : 0 < t') : Inv X pins σ (upd H T o) { s with heap := h', toks := t' } := by
 have hn : H T = none := I.hok.fresh hT
 have nT : ∀ {b : Addr} {q : Obj}, s.heap.get? b = some q -> b ≠ T := fun e => Nat.ne_of_lt (Nat.lt_of_lt_of_le (Heap.lt_size e) hT)
 have nch : ∀ {b : Addr} {u : HO}, H b = some u -> b ≠ e /\ b ≠ it := fun q => ⟨(fun z => by rw [z, fe.1] at q; cases q), (fun z => by rw [z, fi.1] at q; cases q)⟩
 refine I.step (g' := s.gens) (d' := s.drawn) (ch := [e, it]) (fun b hb => ?_) (fun b q _ _ hc g _ => k b q (fun z => hc (by simp [z])) (fun z => hc (by simp [z])) g) (fun b q _ _ hc g _ => ⟨q.slots, k b q (fun z => hc (by simp [z])) (fun z => hc (by simp [z])) g⟩)
  (fun b q _ g n => by rw [zT (nT g)]; exact n) (fun b q hc g => ⟨q, k b q (fun z => hc (by simp [z])) (fun z => hc (by simp [z])) g⟩)
  (fun b xs g => by rw [zT (j8 g hn)]; exact g) (fun b q u g => by rw [zT (j8 g hn)]; exact g) (fun b ps g => ⟨#[], by rw [zT (j8 g hn), g]; simp⟩) (fun m hm => ?_) (fun b u g => ?_) I.bare ht
 ·rcases List.mem_cons.mp hb with rfl | hb
  ·exact ⟨fe.2.2.2.1, fe.2.1, fe.2.2.2.2.1, fe.2.2.2.2.2⟩
  ·have z : b = it := by simpa using hb
   subst z
   exact ⟨fi.2.2.2.1, fi.2.1, fi.2.2.2.2.1, fi.2.2.2.2.2⟩
 ·obtain ⟨q, es, ep, ho, r⟩ := hm
  exact ⟨q, es, ep, k _ q (Ne.symm fe.2.1) (Ne.symm fi.2.1) ho, r⟩
 ·by_cases hb : b = T
  ·subst hb; rw [z6] at g; cases g; exact new
  ·rw [zT hb] at g
   refine (I.hok b u g).stay (fun c v hc q => ?_) (fun c q => by rw [zT (j8 q hn)]; exact q) fun c xs q => by rw [zT (j8 q hn)]; exact q
   rcases hc with z | z
   ·rw [z] at q ⊢; exact k _ _ (nch g).1 (nch g).2 q
   ·exact k _ _ (nch z).1 (nch z).2 q
theorem zIh {P : Program} {w : World} {K : PySem.W.Frag} {elts : List Expr} {kt : _} {tp : Pos} (a e it : Addr) (hne : e ≠ it) : zAG P w K (.Tuple elts kt tp) (Ite K a) [e, it] e (fun i h => (∃ old, IsEnum h e it (i : Int) old) /\ h.IsListIter it a i) where
 mem := by simp
 obj := fun i h ⟨⟨old, he⟩, hi⟩ b hb => by
  rcases List.mem_cons.mp hb with rfl | hb
  ·exact ⟨_, he, fun v z => by
    have z' : Data.fields _ = Data.cell v := z
    cases z'⟩
  ·have z : b = it := by simpa using hb
   subst z
   obtain ⟨o, g, c, d⟩ := hi
   exact ⟨o, g, fun v z => by rw [d] at z; cases z⟩
 keep := fun i h h' ⟨⟨old, he⟩, hi⟩ k => ⟨⟨old, k e (by simp) _ he⟩, hi.at fun o g => k it (by simp) o g⟩
 item := by
  intro X hP hw hK hc i pins s σ H E I hf ⟨⟨old, he⟩, hi⟩ hg
  subst hP hw hK
  obtain ⟨xs, x, hq, hx⟩ := hg
  obtain ⟨its, rv, p, hz⟩ := I.list hq
  obtain ⟨u, hu, ru⟩ := rv.get hx
  have fe := hf e (by simp)
  have fi := hf it (by simp)
  refine wpAny_pyNext_enum_item he hi p.isList (x := u) (by simpa using hu) hne fun h' ho hi' hT hsz hk => ?_
  refine ⟨_, rfl, wpAny_letOwnedTupleGo_enum ho fun h'' he'' hs'' => ?_⟩
  have eT : s.heap.objs.size ≠ e := Nat.ne_of_gt (Heap.lt_size he)
  have iT : s.heap.objs.size ≠ it := by obtain ⟨o, g, _⟩ := hi; exact Nat.ne_of_gt (Heap.lt_size g)
  refine ⟨.ref s.heap.objs.size, upd H s.heap.objs.size (.tup [.int (i : Int), x]), ?_, rfl, ⟨s.heap.objs.size, x, I.hok.fresh (Nat.le_refl _), rfl, rfl, fun ys hy => by rw [I.list_inj hy hq]; exact hx⟩, ⟨⟨u, by simpa using he''⟩, hi'.at fun o g => (hs''.2 it (Ne.symm hne)).trans g⟩, fun b hb => ?_⟩
  ·refine I.turned2 fe fi (Nat.le_refl _) (fun b q h1 h2 g => (hs''.2 b h1).trans (hk b q h1 h2 g)) ?_ (Nat.succ_pos _)
   exact ⟨by show 2 <= sizeLine; decide, [.int (i : Int) s.toks, u], .cons ⟨_, rfl⟩ (.cons ru .nil), _, (hs''.2 _ eT).trans hT, rfl, _, rfl⟩
  ·rw [zT]
   ·exact (hf b hb).1
   ·rcases List.mem_cons.mp hb with rfl | hb
    ·exact Ne.symm eT
    ·have z : b = it := by simpa using hb
     subst z
     exact Ne.symm iT
 done := by
  intro X hP hw hK hc i pins s σ H E I hf ⟨⟨old, he⟩, hi⟩ hg
  subst hP hw hK
  obtain ⟨xs, hq, hx⟩ := hg
  obtain ⟨its, rv, p, hz⟩ := I.list hq
  obtain ⟨f0, f1, f2, f3, f4, f5⟩ := hf it (by simp)
  have hl := rv.length
  exact wpAny_pyNext_enum_end (I.ok.hd hc) he hi p.isList (by simp; omega) fun h' eb => ⟨rfl, I.turned (t' := s.toks) (fun b o hb g => eb b o hb g) f0 f1 f3 f4 f5⟩
 self := fun _ _ _ _ _ ⟨⟨_, he⟩, _⟩ h => wpAny_pyIter_enum he h
def zOh (K : PySem.W.Frag) (ta : TA) : TI := fun σ H R => ta σ H fun vs H1 => ∃ a xs, vs = [.ref a] /\ SqL K H1 a xs /\ R (Ite K a) H1
theorem zLa {X : Cx} {a : Expr} {ta : TA} {p pos : Pos} {elts : List Expr} {kt : _} {tp : Pos} (hg : Gl X "enumerate") (hm : X.mg "enumerate" = none) (ha : PA X [a] ta) (hs : starEach [a] X.env = [(false, eval a X.env)] := by rfl) : PI X (.Tuple elts kt tp) (.Call (.Name "enumerate" p) [a] [] pos) (zOh X.K ta) := by
 intro pins s σ H R I h
 refine Call_ (JZ I hg hm (show bootBuiltins "enumerate" = some (.type "enumerate") by kernel_rfl) (PyProof.Rows.callWith_type1 (thn (ha pos pins s σ H _ I h) fun us s1 ⟨vs, H1, I1, r1, q1⟩ => ?_) hs rfl))
 obtain ⟨a', xs, e, hq, q⟩ := q1
 subst e
 obtain ⟨u, rfl, ru⟩ := Z6 r1
 cases ru
 obtain ⟨its, rv, pl, hz⟩ := I1.list hq
 refine call_enumerate_list pl.isList fun h' he hi hsz hk => ?_
 refine wpAny_pyIter_enum he ⟨s1.heap.objs.size + 1, [s1.heap.objs.size + 1, s1.heap.objs.size], _, _, H1, rfl, I1.kept (t' := s1.toks) hk, zIh a' _ _ (Nat.succ_ne_self _), ⟨⟨_, he⟩, hi⟩, fun b hb => ?_, q⟩
 rcases List.mem_cons.mp hb with rfl | hb
 ·exact I1.fpOk (Nat.le_succ _) (I1.hok.fresh (Nat.le_succ _))
 ·have z : b = s1.heap.objs.size := by simpa using hb
  subst z
  exact I1.fpOk (Nat.le_refl _) (I1.hok.fresh (Nat.le_refl _))
section
variable {Θ : Tab}
theorem Jz : ∀ (k : Int) (ds : List M.D), (M.qt k ds).length = ds.length
 | _, [] => rfl
 | k, d :: ds => by rw [M.qt, List.length_cons, List.length_cons, Jz]
theorem zFM : ∀ (k : Int) (ds : List M.D) (i : Nat), (M.qt k ds)[i]? = ds[i]?.map fun d => .tup [.int (k + i), d]
 | _, [], _ => rfl
 | k, d :: ds, 0 => by simp [M.qt]
 | k, d :: ds, i + 1 => by
  rw [M.qt, List.getElem?_cons_succ, zFM (k + 1) ds i, List.getElem?_cons_succ]
  rw [show k + 1 + (i : Int) = k + ((i + 1 : Nat) : Int) by omega]
theorem zEy {K : PySem.W.Frag} {ρ : List Addr} {H : Hp} {a : Addr} {ds : List M.D} {g : M.Gd} (key : ∀ {ρ' : List Addr} {S' : M.S} {H' : Hp}, ρ <+: ρ' -> Le H H' -> zU K Θ ρ' S' H' -> M.zQ g S' = true -> ∃ zs, SqL K H' a zs /\ zL K ρ' H' ds zs) : ItR K Θ ρ H (Ite K a) (M.qt 0 ds) g := by
 refine ⟨fun j ρ' S' H' p l rp g hj => ?_, fun j ρ' S' H' v H2 p l rp g hj y => ?_, fun ρ' S' H' p l rp g => ?_⟩
 ·rw [Jz] at hj
  obtain ⟨zs, e, r⟩ := key p l rp g
  obtain ⟨v, e1, _⟩ := r.get (i := j) (d := ds[j]) (by simp [hj])
  exact ⟨zs, v, e, e1⟩
 ·rw [Jz] at hj
  obtain ⟨zs, e, r⟩ := key p l rp g
  obtain ⟨v', e1, rv⟩ := r.get (i := j) (d := ds[j]) (by simp [hj])
  obtain ⟨q, x, hn, rfl, rfl, y2⟩ := y
  have y3 := y2 zs e
  rw [e1] at y3; cases y3
  refine ⟨.tup [.int (j : Int), ds[j]], by rw [zFM]; simp [hj], ?_, Le.new hn _, rp.aside hn _⟩
  exact ⟨q, _, rfl, SqT.of z6, _, _, rfl, rfl, _, _, rfl, rv.mono (List.prefix_refl _) (Le.new hn _), rfl⟩
 ·obtain ⟨zs, e, r⟩ := key p l rp g
  exact ⟨zs, e, by rw [Jz, r.length]; exact Nat.le_refl _⟩
theorem zEb {X : Cx} {e : Expr} {m : M.EM} {p pos tp : Pos} {elts : List Expr} {kt : _} (hg : Gl X "enumerate") (hm : X.mg "enumerate" = none) (he : ME X Θ e m) (hs : jC e = true := by rfl) : MI X Θ (.Tuple elts kt tp) (.Call (.Name "enumerate" p) [e] [] pos) (M.zB6 0 m) :=
 (zLa hg hm (zDI he zFP hs) (j0 hs)).imp fun σ H R ⟨ρ, σ', S, st, rp, h⟩ => ⟨ρ, σ', S, st, rp, by
  have h' : zF X.K Θ _ ρ H (((m σ' S).bind fun x s => match x with
   | .ro ds => M.R.ok (M.qt 0 ds, ([] : M.Gd)) s
   | .ref i => (match s[i]? with | some (.lst xs) => .ok (M.qt 0 xs, [(i, .lst xs)]) s | _ => .no)
   | _ => .no).bind fun p s => if M.zQ p.2 s then .ok p s else .no) R := h
  show zF X.K Θ _ ρ H ((m σ' S).bind fun x s => (M.R.ok [] s).bind fun xs s => .ok (x :: xs) s) _
  cases hm : m σ' S with
  | no => rw [hm] at h'; exact h'.elim
  | exc a s => rw [hm] at h'; exact h'.elim
  | ok d S1 =>
   rw [hm] at h'
   intro ρ1 H1 vs p l rp1 rv
   obtain ⟨v, ys, rfl, rv, hy⟩ := rv
   cases hy
   cases d with
   | ro ds =>
    obtain ⟨a, xs, rfl, hq, r⟩ := rv
    exact ⟨a, xs, rfl, hq.sq, h' ρ1 H1 _ p l rp1 (zEy fun p' l' _ _ => ⟨xs, (l'.rol hq).sq, r.mono p' l'⟩)⟩
   | ref i =>
    obtain ⟨a, rfl, e1⟩ := rv
    have h2 : zF X.K Θ _ ρ H ((match S1[i]? with
     | some (.lst xs) => M.R.ok (M.qt 0 xs, [(i, M.O.lst xs)]) S1
     | _ => .no).bind fun p s => if M.zQ p.2 s then .ok p s else .no) R := h'
    cases q : S1[i]? with
    | none => rw [q] at h2; exact h2.elim
    | some o =>
     rw [q] at h2
     cases o with
     | lst xs =>
      obtain ⟨b, e2, zs, e3, r⟩ := rp1.obj i _ q
      rw [e1] at e2; cases e2
      have hg : M.zQ [(i, M.O.lst xs)] S1 = true := by simp [M.zQ, q]
      have h3 : zF X.K Θ _ ρ H (if M.zQ [(i, M.O.lst xs)] S1 then M.R.ok (M.qt 0 xs, [(i, M.O.lst xs)]) S1 else .no) R := h2
      rw [if_pos hg] at h3
      refine ⟨a, zs, rfl, SqL.of e3, h3 ρ1 H1 _ p l rp1 (zEy fun {ρ' S' H'} p' _ rp' g' => ?_)⟩
      have g2 : S'[i]? = some (M.O.lst xs) := by simpa [M.zQ] using g'
      obtain ⟨b2, f1, ws, f2, r2⟩ := rp'.obj i _ g2
      rw [Qh p' e1] at f1; cases f1
      exact ⟨ws, SqL.of f2, r2⟩
     | dct kvs => exact h2.elim
     | fdc _ => exact h2.elim
     | ins c fs => exact h2.elim
   | _ => exact h'.elim⟩
theorem zDH {X : Cx} {e : Expr} {m : M.EM} {p pos tp : Pos} {elts : List Expr} {kt : _} (hg : Gl X "enumerate") (hm : X.mg "enumerate" = none) (he : WE X Θ e m) (hs : jC e = true := by rfl) : WI X Θ (.Tuple elts kt tp) (.Call (.Name "enumerate" p) [e] [] pos) (M.zB6 0 m) := by with_unfolding_all exact zEb (X := X) (e := e) (m := m) (p := p) (pos := pos) (tp := tp) (elts := elts) (kt := kt) hg hm he hs
end
end L2
namespace L2
open PySem PySem.Spec PyProof.Rows
section
variable {Θ : Tab}
theorem PS.or {X : Cx} {st : Stmt} {t t' : TS} (h : PS X st t) (h' : PS X st t') : PS X st (fun D σ H => t D σ H \/ t' D σ H) := fun pins s σ H D I q => by
 rcases q with q | q
 ·exact h pins s σ H D I q
 ·exact h' pins s σ H D I q
theorem zKy {X : Cx} {es : List Expr} {g : M.GMs} {js : List Nat} {k : Nat} {pos : Pos} {n : Nat} (hc : X.calm = true) (h : MGs X Θ js es g) (hl : ∀ ds σ σ1, g ds σ = some σ1 -> ds.length = n) (hn : (assignEach es X.env).length = n := by rfl) (hst : (assignEach es X.env).findIdx? (·.1) = none := by rfl) : MG X Θ js (.Tuple es k pos) (M.Qi g) :=
 zLz (es := es) (zM9 hc h hn hst) hl
theorem zAy {X : Cx} {es : List Expr} {g : M.GMs} {js : List Nat} {k : Nat} {pos : Pos} {n : Nat} (hc : X.calm = true) (h : WGs X Θ js es g) (hl : ∀ ds σ σ1, g ds σ = some σ1 -> ds.length = n) (hn : (assignEach es X.env).length = n := by rfl) (hst : (assignEach es X.env).findIdx? (·.1) = none := by rfl) : WG X Θ js (.Tuple es k pos) (M.Qi g) := by with_unfolding_all exact zKy (X := X) (es := es) (g := g) (js := js) (k := k) (pos := pos) (n := n) hc h hl hn hst
theorem Zw {H : Hp} {a : Addr} {ks : List (Key × V)} (h : H a = some (.dK ks)) : Mut (H a) := by rw [h]; trivial
theorem zNI {X : Cx} {o i e : Expr} {mo mi me : M.EM} {pos pos' : Pos} {n : Nat} (hr : jH n X.A) (ho : ME X Θ o mo) (hi : ME X Θ i mi) (he : ME X Θ e me)
  (ha : ∀ v, assign (.Subscript o i pos') X.env v = (do
   let ov <- holding [v] (eval o X.env)
   let iv <- holding [v, ov] (eval i X.env)
   standAt pos'
   holding [v, ov, iv] (setItem ov iv v)
   release [v, ov, iv] []) := by intro _; rfl)
  (hs : swapsWithSole [.Subscript o i pos'] e pos.line X.env = pure false := by rfl) (hw : swappedStores [.Subscript o i pos'] e X.env = pure none := by rfl) (h1 : (assignEach [.Subscript o i pos'] X.env).map (·.2) = [assign (.Subscript o i pos') X.env] := by rfl)
  (hs2 : swapsWith e (some (.Subscript o i pos')) pos.line X.env = pure false := by rfl) : MS X Θ (.Assign [.Subscript o i pos'] e pos) (M.jf mo mi me) :=
 (PS.or (zLq he (zL7 ho hi zKC ha) hs hw h1) (zKW (by have := hr.units; omega) ho hi he hs2)).imp fun D σ H ⟨ρ, σ', S, st, rp, h⟩ => by
  have h0 : ze X.K Θ ρ H ((me σ' S).stm σ' fun y s => (mo σ' s).stm σ' fun x s => (mi σ' s).stm σ' fun k s => (M.yj x k y s).stm σ' fun _ s => .nx σ' s) D := h
  clear h
  cases hE : me σ' S with
  | no => rw [hE] at h0; exact h0.elim
  | exc a s => rw [hE] at h0; exact h0.elim
  | ok y S1 =>
   rw [hE, M.R.stm_ok] at h0
   cases hO : mo σ' S1 with
   | no => rw [hO] at h0; exact h0.elim
   | exc a s => rw [hO] at h0; exact h0.elim
   | ok x S2 =>
    rw [hO, M.R.stm_ok] at h0
    cases hI : mi σ' S2 with
    | no => rw [hI] at h0; exact h0.elim
    | exc a s => rw [hI] at h0; exact h0.elim
    | ok k S3 =>
     rw [hI, M.R.stm_ok] at h0
     cases x with
     | ref p =>
      cases q : S3[p]? with
      | none => simp only [M.yj, q] at h0; exact h0.elim
      | some ob =>
       cases ob with
       | lst xs =>
        cases k with
        | int j =>
         cases hj : M.ixN xs.length j with
         | none => simp only [M.yj, q, hj] at h0; exact h0.elim
         | some j' =>
          simp only [M.yj, q, hj, M.R.stm_ok] at h0
          refine .inl ⟨ρ, σ', S, st, rp, ?_⟩
          rw [hE]
          intro ρ1 H1 Y p1 l1 rp1 ry
          refine ⟨ρ1, σ', S1, st.mono p1 l1, rp1, ?_⟩
          rw [hO]
          intro ρ2 H2 Xv p2 l2 rp2 rx
          refine ⟨ρ2, σ', S2, st.mono (p1.trans p2) (l1.trans l2), rp2, ?_⟩
          rw [hI]
          intro ρ3 H3 Kv p3 l3 rp3 rk
          obtain ⟨a, zs, rfl, ha, hx, rz⟩ := Z9 rp3 (rx.mono p3 l3) q
          cases rk
          have le := Le.put (JN hx) (.lst (zs.set j' Y))
          refine ⟨a, zs, j, j', rfl, rfl, hx, by rw [<- rz.length]; exact hj, ?_⟩
          exact h0 ρ3 _ σ (p1.trans (p2.trans p3)) (l1.trans (l2.trans (l3.trans le))) (rp3.put ha (JN hx) ⟨_, z6, zL.set (ry.mono (p2.trans p3) (l2.trans (l3.trans le))) j' (rz.mono (List.prefix_refl _) le)⟩) (st.mono (p1.trans (p2.trans p3)) (l1.trans (l2.trans (l3.trans le))))
        | _ => simp only [M.yj, q] at h0; exact h0.elim
       | dct kvs =>
        cases hk : (M.zt k && decide (kvs.length < M.SZ)) with
        | false => simp only [M.yj, q, hk] at h0; exact h0.elim
        | true =>
         have hk2 : (if (M.zt k && decide (kvs.length < M.SZ)) = true then M.R.ok () (S3.set p (.dct (M.ja k y kvs))) else .no) = M.R.ok () (S3.set p (.dct (M.ja k y kvs))) := if_pos hk
         simp only [M.yj, q, hk2, M.R.stm_ok] at h0
         rw [Bool.and_eq_true] at hk
         refine .inr ⟨ρ, σ', S, st, rp, ?_⟩
         rw [hE]
         intro ρ1 H1 Y p1 l1 rp1 ry
         refine ⟨ρ1, σ', S1, st.mono p1 l1, rp1, ?_⟩
         rw [hO]
         intro ρ2 H2 Xv p2 l2 rp2 rx
         refine ⟨ρ2, σ', S2, st.mono (p1.trans p2) (l1.trans l2), rp2, ?_⟩
         rw [hI]
         intro ρ3 H3 Kv p3 l3 rp3 rk
         obtain ⟨a, rfl, ea⟩ := rx.mono p3 l3
         obtain ⟨b, e1, ks, e2, r⟩ := rp3.obj _ _ q
         rw [ea] at e1; cases e1
         obtain ⟨kk, hkk, rfl⟩ := ZI hk.1 rk
         have le := Le.put (Zw e2) (.dK (qu ks kk Y))
         refine ⟨a, _, rfl, zB1.k e2 (by rw [<- Paired.length r, <- y7]; exact of_decide_eq_true hk.2), ?_⟩
         have r' : DR X.K ρ3 (upd H3 a (.dK (qu ks kk Y))) kvs ks := Paired.mapP r fun a b z => ⟨z.1, z.2.mono (List.prefix_refl _) le⟩
         exact h0 ρ3 _ σ (p1.trans (p2.trans p3)) (l1.trans (l2.trans (l3.trans le))) (rp3.put ea (Zw e2) ⟨_, z6, DR.put r' hkk (ry.mono (p2.trans p3) (l2.trans (l3.trans le)))⟩) (st.mono (p1.trans (p2.trans p3)) (l1.trans (l2.trans (l3.trans le))))
       | fdc _ => simp only [M.yj, q] at h0; exact h0.elim
       | ins c fs => simp only [M.yj, q] at h0; exact h0.elim
     | _ => exact h0.elim
theorem yf {X : Cx} {o i e : Expr} {mo mi me : M.EM} {pos pos' : Pos} {n : Nat} (hr : jH n X.A) (ho : WE X Θ o mo) (hi : WE X Θ i mi) (he : WE X Θ e me)
  (ha : ∀ v, assign (.Subscript o i pos') X.env v = (do
   let ov <- holding [v] (eval o X.env)
   let iv <- holding [v, ov] (eval i X.env)
   standAt pos'
   holding [v, ov, iv] (setItem ov iv v)
   release [v, ov, iv] []) := by intro _; rfl)
  (hs : swapsWithSole [.Subscript o i pos'] e pos.line X.env = pure false := by rfl) (hw : swappedStores [.Subscript o i pos'] e X.env = pure none := by rfl) (h1 : (assignEach [.Subscript o i pos'] X.env).map (·.2) = [assign (.Subscript o i pos') X.env] := by rfl)
  (hs2 : swapsWith e (some (.Subscript o i pos')) pos.line X.env = pure false := by rfl) : WS X Θ (.Assign [.Subscript o i pos'] e pos) (M.jf mo mi me) := by with_unfolding_all exact zNI (X := X) (o := o) (i := i) (e := e) (mo := mo) (mi := mi) (me := me) (pos := pos) (pos' := pos') (n := n) hr ho hi he ha hs hw h1 hs2
end
end L2
namespace L2
open PySem PySem.Spec PyProof.Rows
section
variable {K : PySem.W.Frag} {Θ : Tab}
theorem zBn : ∀ {xs : List V} {us : List Value}, xs.length = us.length -> (∀ (j : Nat) u, us[j]? = some u -> ∃ x, xs[j]? = some x /\ zZ x u) -> zf xs us
 | [], [], _, _ => .nil
 | [], _ :: _, h, _ => by simp at h
 | _ :: _, [], h, _ => by simp at h
 | x :: xs, u :: us, h, k => by
  obtain ⟨y, e, r⟩ := k 0 u rfl
  cases e
  exact .cons r (zBn (by simpa using h) fun j u hu => by
   obtain ⟨y, e, r⟩ := k (j + 1) u (by simpa using hu)
   exact ⟨y, by simpa using e, r⟩)
theorem zH6 {P : Program} {w : World} {k : Key} {v : Value} (h : (zq P w).is k v = true) : zZ (kV k) v := by
 rcases j4 (k := k) (v := v) h with ⟨i, t, rfl, rfl⟩ | ⟨x, t, rfl, rfl⟩
 ·exact ⟨t, rfl⟩
 ·exact ⟨t, rfl⟩
def zIr (K : PySem.W.Frag) : List V -> Hp -> VK -> Prop := fun xs H Q => (∃ p ys, xs = [.ref p] /\ (SqL K H p ys \/ SqT K H p ys) /\ ∀ l, H l = none -> Q (.ref l) (upd H l (.lst ys))) \/
 ∃ p ks, xs = [.ref p] /\ H p = some (.dK ks) /\ ∀ l, H l = none -> Q (.ref l) (upd H l (.lst (ks.map fun kv => kV kv.1)))
theorem JF {X : Cx} {k : Nat} (hr : jH k X.A) : qF X (.type "list") (zIr X.K) := by
 intro pins s σ H xs us Q I r h
 rcases h with h | ⟨p, ks, rfl, hp, q⟩
 ·exact zFb pins s σ H xs us Q I r h
 ·obtain ⟨u, rfl, ru⟩ := Z6 r
  cases ru
  obtain ⟨z, lo, vs, rv, dd⟩ := Jt I.hok hp
  obtain ⟨ep, da⟩ := dd.dictAt
  have hl := rv.length
  refine wpAny_with_toks (n := 1) I.tk (PySem.W.kdl_call (PySem.W.kdl_dict lo) hr.hd da (by omega) fun h' tk acc c' keep hS it htk => ?_)
  obtain ⟨hsz, hit⟩ := it
  refine ⟨.ref s.heap.objs.size, _, I.laid (t' := tk) (o := .lst (ks.map fun kv => kV kv.1)) keep (Nat.le_refl _) ⟨by rw [List.length_map]; exact z, acc.toList, c', zBn (by simp; omega) fun j u hu => ?_, by simpa using hS⟩ htk, rfl, q _ (I.hok.fresh (Nat.le_refl _))⟩
  obtain ⟨k, x, e, hk⟩ := hit j u (by simpa using hu)
  have hj : j < ks.length := by have := (List.getElem?_eq_some_iff.mp e).1; omega
  have ek : (ks.map (·.1))[j]? = some k := by rw [rv.keys, List.getElem?_map, e]; rfl
  refine ⟨kV k, ?_, zH6 hk⟩
  rw [List.getElem?_map] at ek ⊢
  cases q2 : ks[j]? with
  | none => rw [q2] at ek; cases ek
  | some kv => rw [q2] at ek; cases ek; rfl
theorem zBo {ρ : List Addr} {H : Hp} : ∀ {kvs : List (M.D × M.D)} {ks : List (Key × V)}, DR K ρ H kvs ks -> zL K ρ H (kvs.map (·.1)) (ks.map fun kv => kV kv.1)
 | _, _, .nil => rfl
 | (d, _) :: _, (k, _) :: _, .cons h t => by
  refine ⟨_, _, rfl, ?_, zBo t⟩
  have h1 : yO d k := h.1
  cases d with
  | int i => cases h1; rfl
  | str x => obtain ⟨rfl, ok⟩ := h1; exact ⟨rfl, ok⟩
  | _ => exact h1.elim
theorem zBX : AdN K Θ M.ZJ (zIr K) := by
 intro ρ H S xs Xs Q rp rxs h
 unfold M.ZJ at h
 split at h
 ·obtain ⟨Y, r, rfl, ⟨a, zs, rfl, hq, rz⟩, rfl⟩ := rxs
  exact .inl ⟨a, zs, rfl, .inr hq, fun p hp => zF.alloc h rp rz hp⟩
 ·obtain ⟨Y, r, rfl, ⟨a, zs, rfl, hq, rz⟩, rfl⟩ := rxs
  exact .inl ⟨a, zs, rfl, .inl hq.sq, fun p hp => zF.alloc h rp rz hp⟩
 ·rename_i p
  obtain ⟨Y, r, rfl, ry, rfl⟩ := rxs
  split at h
  ·rename_i ds e
   obtain ⟨a, zs, rfl, ha, hx, rz⟩ := Z9 rp ry e
   exact .inl ⟨a, zs, rfl, .inl (SqL.of hx), fun p hp => zF.alloc h rp rz hp⟩
  ·rename_i kvs e
   obtain ⟨a, rfl, ha⟩ := ry
   obtain ⟨ks, e2, r⟩ := y9 rp ha e
   exact .inr ⟨a, ks, rfl, e2, fun p hp => zF.alloc h rp (zBo r) hp⟩
  ·exact h.elim
 ·exact h.elim
theorem zDX {ρ : List Addr} {H : Hp} {S : M.S} {kvs : List (M.D × M.D)} {ks : List (Key × V)} {Q : VK} (h : zF K Θ (zM K) ρ H (M.alloc (.dct kvs) S) Q) (rp : zU K Θ ρ S H) (r : DR K ρ H kvs ks) {p : Addr} (hp : H p = none) : Q (.ref p) (upd H p (.dK ks)) :=
 h (ρ ++ [p]) _ _ (List.prefix_append _ _) (Le.new hp _) (rp.alloc hp ⟨ks, z6, Paired.mapP r fun _ _ z => ⟨z.1, z.2.mono (List.prefix_append _ _) (Le.new hp _)⟩⟩) ⟨p, rfl, by rw [<- rp.len]; simp⟩
theorem zKp {X : Cx} {pos : Pos} : ME X Θ (.Dict [] [] pos) M.jh := zJj.imp fun σ H Q ⟨ρ, σ', S, st, rp, h⟩ => fun p hp => zDX (kvs := []) h rp .nil hp
theorem ZL {X : Cx} {pos : Pos} : WE X Θ (.Dict [] [] pos) M.jh := by with_unfolding_all exact zKp (X := X) (pos := pos)
end
end L2
namespace L2
open PySem PySem.Spec PyProof.Rows
section
variable {P : Program} {w : World} {A : Around} {E : Value -> Shared -> Prop} {s : Shared}
def zOe (h : Heap) (z TI TO : Addr) (f0 : Value) (b : Bool) : Prop := h.get? z = some { cls := .type "zip", dict := none, data := .fields #[f0, .bool b, .bool false, .ref TI, .ref TO], slots := #[] }
structure ZSt (z TI TO i1 i2 l1 l2 : Addr) (xs ys : Array Value) (i : Nat) (h : Heap) : Prop where
 zp : ∃ f0 b, zOe h z TI TO f0 b /\ ((i = 0 /\ f0 = .none) \/ ∃ (T : Addr) (o : Obj), f0 = rawInt T /\ h.get? T = some o)
 ti : IsPair h TI (.ref i1) (.ref i2)
 to : ∃ a b, IsPair h TO a b
 n1 : h.IsTupleIter i1 l1 i
 n2 : h.IsTupleIter i2 l2 i
 t1 : h.IsTuple l1 xs
 t2 : h.IsTuple l2 ys
structure ZLp (lo z TO i1 i2 S : Addr) (xs ys : List Value) (h0 h : Heap) (ps : List Addr) : Prop where
 its : ∀ (j : Nat) p, ps[j]? = some p -> lo <= p /\ ∃ x y, xs[j]? = some x /\ ys[j]? = some y /\ IsPair h p x y
 keep : ∀ b o, b ≠ S -> b ≠ z -> b ≠ TO -> b ≠ i1 -> b ≠ i2 -> h0.get? b = some o -> h.get? b = some o
 nd : ps.Nodup
end
end L2
namespace L2
open PySem PySem.Spec PyProof.Rows
inductive zJf : Hp -> List (V × V) -> List V -> Hp -> Prop
 | nil (H : Hp) : zJf H [] [] H
 | cons {H H' : Hp} {a : Addr} {x y : V} {r : List (V × V)} {zs : List V} (h : H a = none) (t : zJf (upd H a (.tup [x, y])) r zs H') : zJf H ((x, y) :: r) (.ref a :: zs) H'
end L2
namespace L2
open PySem PySem.Spec PyProof.Rows
section
variable {K : PySem.W.Frag} {Θ : Tab}
theorem zI5 : Ad2 K Θ M.zG3 (fun x y H Q => match x, y with | .int i, .int j => Q (.int (i + j)) H | .str a, .str b => a.length + b.length <= sizeLine /\ Q (.str (a ++ b)) H | _, _ => False) := by
 intro ρ H S x y X Y Q rp rx ry h
 cases x with
 | int i =>
  cases y with
  | int j => cases rx; cases ry; exact zF.here (b := V.int (i + j)) h rp rfl
  | _ => exact h.elim
 | str a =>
  cases y with
  | str b =>
   obtain ⟨rfl, oa⟩ := rx
   obtain ⟨rfl, ob⟩ := ry
   have h' : zF K Θ (zM K) ρ H (if a.length + b.length <= M.SZ then M.R.ok (M.D.str (a ++ b)) S else .no) Q := h
   by_cases hc : a.length + b.length <= M.SZ
   ·rw [if_pos hc] at h'
    refine ⟨by rw [ju, ju, <- y7]; exact hc, ?_⟩
    rw [zGR]
    exact zF.here h' rp ⟨rfl, zBO oa ob⟩
   ·rw [if_neg hc] at h'; exact h'.elim
  | _ => exact h.elim
 | _ => exact h.elim
theorem zKx : AdN K Θ M.zHJ (fun xs H Q => ∃ i j, xs = [.int i, .int j] /\ Q (.int (if j > i then j else i)) H) := by
 intro ρ H S xs Xs Q rp rxs h
 unfold M.zHJ at h
 split at h
 ·rename_i i j
  obtain ⟨Y, r, rfl, ry, Z, r2, rfl, rz, rfl⟩ := rxs
  cases ry; cases rz
  exact ⟨i, j, rfl, zF.here h rp rfl⟩
 ·exact h.elim
end
end L2
namespace L2
open PySem PySem.Spec PyProof.Rows
structure zO1 (K : PySem.W.Frag) (Θ : Tab) (c : Nat) (C : Addr) (N : List Str) : Prop where
 tab : Θ c = some (C, N)
 cl : Cls K C
 no : ∀ f ∈ N, zML K C f
 few : N.length < 999
 nd : N.Nodup
structure zO6 (P : Program) (w : World) (K : PySem.W.Frag) (mg : Str -> Option Value) (base : Heap) (C : Addr) (m : Str) (k : Nat) (ps : List Str) (sp : Sp) : Prop where
 ex : ∃ f fd, qA P w K mg base CX0 k f fd ps sp /\ Js K fd ps [] /\ zOc K C m f
structure zO3 (P : Program) (w : World) (K : PySem.W.Frag) (mg : Str -> Option Value) (base : Heap) (C : Addr) (x : Str) (k : Nat) (ps : List Str) (sp : Sp) : Prop where
 ex : ∃ f fd, qA P w K mg base CX0 k f fd ps sp /\ Js K fd ps [] /\ Mk K C f /\ mg x = some (.ref C)
end L2
namespace L2
open PySem PySem.Spec PyProof.Rows
def SIt (b : Bool) (h : Heap) (it a : Addr) (i : Nat) : Prop := match b with | true => h.IsListIter it a i | false => h.IsTupleIter it a i
section
variable {P : Program} {w : World} {A : Around} {E : Value -> Shared -> Prop} {s : Shared}
structure ZAt (b1 b2 : Bool) (z TI TO i1 i2 l1 l2 : Addr) (i : Nat) (h : Heap) : Prop where
 zp : IsZip h z TI TO .none
 ti : IsPair h TI (.ref i1) (.ref i2)
 to : ∃ a b, IsPair h TO a b
 n1 : SIt b1 h i1 l1 i
 n2 : SIt b2 h i2 l2 i
end
theorem Inv.turnedL {X : Cx} {pins : List (Addr × Obj)} {σ : St} {H : Hp} {s : Shared} {h' : Heap} {t' : Nat} {ch : List Addr} (I : Inv X pins σ H s) (fp : ∀ b ∈ ch, JA X pins H b)
  (k : ∀ b q, b ∉ ch -> s.heap.get? b = some q -> h'.get? b = some q) (ht : 0 < t') : Inv X pins σ H { s with heap := h', toks := t' } := by
 have nch : ∀ {b : Addr} {u : HO}, H b = some u -> b ∉ ch := fun q z => by rw [(fp _ z).1] at q; cases q
 refine I.step (g' := s.gens) (d' := s.drawn) (ch := ch) (fun b hb => ⟨(fp b hb).2.2.2.1, (fp b hb).2.1, (fp b hb).2.2.2.2.1, (fp b hb).2.2.2.2.2⟩) (fun b q _ _ hc g _ => k b q hc g) (fun b q _ _ hc g _ => ⟨q.slots, k b q hc g⟩)
  (fun _ _ _ _ n => n) (fun b q hc g => ⟨q, k b q hc g⟩) (fun _ _ g => g) (fun _ _ _ g => g) (fun b ps g => ⟨#[], by rw [g]; simp⟩) (fun m hm => ?_) (fun b u g => ?_) I.bare ht
 ·obtain ⟨q, es, ep, ho, r⟩ := hm
  exact ⟨q, es, ep, k _ q (fun z => (fp _ z).2.1 rfl) ho, r⟩
 ·refine (I.hok b u g).stay (fun c v hc q => ?_) (fun c q => q) fun c xs q => q
  rcases hc with z | z
  ·rw [z] at q ⊢; exact k _ _ (nch g) q
  ·exact k _ _ (nch z) q
section
variable {Θ : Tab}
theorem zDc {S : M.S} {p : Nat} {ds : List M.D} (e : M.jN S p = some ds) : S[p]? = some (.lst ds) := by
 unfold M.jN at e
 split at e
 ·rename_i ds' e1; cases e; exact e1
 ·cases e
end
end L2
namespace L2
open PySem PySem.Spec PyProof.Rows
section
variable {X : Cx} {Θ : Tab} {K : PySem.W.Frag}
def zKS : V -> List V -> Hp -> VK -> Prop := fun x vs H Q => ∃ a y o, x = .ref a /\ Zr H a y o /\ ((vs = [y] /\ Q (o.getD .non) H) \/ ∃ d, vs = [y, d] /\ Q (o.getD d) H)
theorem zBT {k : Nat} (hr : jH k X.A) : MtM X "dict.get" zKS := by
 intro pins s σ H x vs v us Q I rx rv h
 obtain ⟨a, y, o, rfl, g, q⟩ := h
 cases rx
 rcases q with ⟨rfl, q⟩ | ⟨d, rfl, q⟩
 ·obtain ⟨u, rfl, ru⟩ := rv.one
  exact zL1 (zCY hr) I g ru fun w' s' I' r' => ⟨_, H, I', r', q⟩
 ·obtain ⟨u1, u2, rfl, e1, e2⟩ : ∃ u1 u2, us = [u1, u2] /\ zZ y u1 /\ zZ d u2 := by
   cases rv with
   | cons c1 t1 =>
    cases t1 with
    | cons c2 t2 => cases t2; exact ⟨_, _, rfl, c1, c2⟩
  exact zL0 (zCY hr) I g e1 e2 fun w' s' I' r' => ⟨_, H, I', r', q⟩
theorem zB9 : AdM K Θ M.QR zKS := by
 intro ρ H S x xs X Xs Q rp rx rxs h
 unfold M.QR at h
 split at h
 ·rename_i p y
  obtain ⟨Y, r, rfl, ry, rfl⟩ := rxs
  split at h
  ·rename_i kvs q
   obtain ⟨a, rfl, ea⟩ := rx
   split at h
   ·rename_i hk
    obtain ⟨ks, e1, r⟩ := y9 rp ea q
    obtain ⟨k, h1, rfl⟩ := ZI hk ry
    have hv := r.val h1
    refine ⟨a, _, yI ks k, rfl, Zr.k e1, .inl ⟨rfl, ?_⟩⟩
    cases q2 : M.jJ y kvs with
    | none => rw [q2] at hv h; rw [show yI ks k = none from hv]; exact zF.here h rp rfl
    | some d =>
     rw [q2] at hv h
     obtain ⟨v, e2, rv⟩ := hv
     rw [e2]
     exact zF.here h rp rv
   ·exact h.elim
  ·exact h.elim
 ·rename_i p y d
  obtain ⟨Y, r, rfl, ry, Z, r2, rfl, rz, rfl⟩ := rxs
  split at h
  ·rename_i kvs q
   obtain ⟨a, rfl, ea⟩ := rx
   split at h
   ·rename_i hk
    obtain ⟨ks, e1, r⟩ := y9 rp ea q
    obtain ⟨k, h1, rfl⟩ := ZI hk ry
    have hv := r.val h1
    refine ⟨a, _, yI ks k, rfl, Zr.k e1, .inr ⟨Z, rfl, ?_⟩⟩
    cases q2 : M.jJ y kvs with
    | none => rw [q2] at hv h; rw [show yI ks k = none from hv]; exact zF.here h rp rz
    | some d =>
     rw [q2] at hv h
     obtain ⟨v, e2, rv⟩ := hv
     rw [e2]
     exact zF.here h rp rv
   ·exact h.elim
  ·exact h.elim
 ·exact h.elim
end
end L2
namespace L2
open PySem PySem.Spec PyProof.Rows
def yK (xs : List Str) : Nat -> List Str
 | 0 => []
 | i + 1 => match xs[i]? with
  | some x => if x ∈ yK xs i then yK xs i else yK xs i ++ [x]
  | none => yK xs i
theorem zGT (xs : List Str) : ∀ i, (yK xs i).length <= i
 | 0 => Nat.le_refl _
 | i + 1 => by
  have := zGT xs i
  unfold yK
  split
  ·split
   ·omega
   ·simp; omega
  ·omega
theorem zAz {xs : List Str} {i : Nat} {x : Str} (e : xs[i]? = some x) : yK xs (i + 1) = if x ∈ yK xs i then yK xs i else yK xs i ++ [x] := by rw [yK, e]
abbrev zAH (P : Program) (w : World) (h : Heap) (a : Addr) (l : List Str) : Prop := h.SetOf (PySem.strKind P w) a (fun k => decide (k ∈ l)) l.length
theorem zAH.at {P : Program} {w : World} {h h' : Heap} {a : Addr} {l : List Str} (x : zAH P w h a l) (e : ∀ o, h.get? a = some o -> h'.get? a = some o) : zAH P w h' a l := by
 obtain ⟨o, es, ep, t, ho, jW⟩ := x
 exact ⟨o, es, ep, t, e _ ho, jW⟩
section
variable {P : Program} {w : World} {A : Around} {E : Value -> Shared -> Prop} {s : Shared}
theorem zJG {R : Result -> Shared -> Prop} {I : Addr} {fp wr : List Addr} {G : Array GenState -> Array GenState -> Prop} {xs : List Str} {Pv : Nat -> Value -> Prop} {St : Nat -> Shared -> Prop} (W : WalksS P w A.in1 I fp wr G xs.length Pv St) (D : Addr) (hD : D ∉ fp) (hv : ∀ i v, Pv i v -> ∃ x t, xs[i]? = some x /\ v = .str x t) (hb : xs.length + 1 < scanBound) :
  ∀ (k i : Nat) (s : Shared), xs.length - i = k -> i <= xs.length -> St i s -> zAH P w s.heap D (yK xs i) -> (∀ s', Moved (D :: wr) G s s' -> zAH P w s'.heap D (yK xs xs.length) -> R (.ok (.ret .none)) s') ->
   codeAny (model P w) A (.builtin "set.update.loop" ⟨[.ref D, .ref I], []⟩) R s := by
 have nw : D ∉ wr := fun h => hD (W.sub _ h)
 have sb : ∀ b ∈ wr, b ∈ D :: wr := fun b hb => List.mem_cons_of_mem _ hb
 intro k
 induction k with
 | zero =>
  intro i s hk hi st hS hR
  have e : i = xs.length := by omega
  subst e
  refine codeAny_builtin PyProof.Rows.F.entry_set_update_loop ?_
  rw [Around.under_plainId PyProof.Rows.F.plain_set_update_loop _]
  show wpAny (model P w) A.in1 (pyNext (.ref I) >>= _) _ _ s
  refine wpAny_bind (W.done s _ _ st fun s' hm => ?_)
  show wpAny (model P w) A.in1 (ret Value.none) _ _ s'
  exact wpAny_pure (hR s' (hm.mono sb) (hS.at fun o ho => hm.heap D _ nw ho))
 | succ k ih =>
  intro i s hk hi st hS hR
  have lt : i < xs.length := by omega
  refine codeAny_builtin PyProof.Rows.F.entry_set_update_loop ?_
  rw [Around.under_plainId PyProof.Rows.F.plain_set_update_loop _]
  show wpAny (model P w) A.in1 (pyNext (.ref I) >>= _) _ _ s
  refine wpAny_bind (W.item i s _ _ lt st fun v s' hP st' hm => ?_)
  obtain ⟨x, t, ex, rfl⟩ := hv i v hP
  have hS1 : zAH P w s'.heap D (yK xs i) := hS.at fun o ho => hm.heap D _ nw ho
  have hx : (PySem.strKind P w).is x (.str x t) = true := by simp [PySem.strKind, Value.isStrOf]
  show wpAny (model P w) A.in1 (holding [Value.str x t] (setAdd D (.str x t)) >>= _) _ _ s'
  refine wpAny_bind (wpAny_holding ?_)
  unfold setAdd
  refine wpAny_holding ?_
  refine wpAny_bind ((PySem.strKind P w).pyHash (k := x) hx ?_)
  have room : (yK xs i).length + 1 < scanBound := by have := zGT xs i; omega
  refine wpAny_setAddHashed_of (knd := PySem.strKind P w) (s := { s' with toks := s'.toks + 1 }) hx rfl hS1 room fun h' hs hS2 => ?_
  have hS3 : zAH P w h' D (yK xs (i + 1)) := by
   refine SetOf_congr hS2 (fun k' => ?_) ?_
   ·rw [zAz ex]
    by_cases c : x ∈ yK xs i
    ·rw [if_pos c]
     by_cases d : k' = x
     ·subst d; simp [c]
     ·simp [d]
    ·rw [if_neg c]; simp
   ·rw [zAz ex]
    by_cases c : x ∈ yK xs i
    ·rw [if_pos c, if_pos (decide_eq_true c)]
    ·rw [if_neg c, if_neg (by simp [c])]; simp
  refine wpAny_pure ⟨plainId_quiet PyProof.Rows.F.plain_set_update_loop _, ih (i + 1) _ (by omega) lt (W.frame _ s' _ _ st' (Nat.le_succ _) fun b hb o e => ?_) hS3 fun s2 hm2 hS4 => ?_⟩
  ·rw [hs.2 b (fun h : b = D => hD (by rw [<- h]; exact hb))]; exact e
  ·refine hR s2 (Moved.trans W.gtrans ((hm.mono sb).then_heap (Nat.le_succ _) fun b o hb e => ?_) hm2) hS4
   rw [hs.2 b (fun h : b = D => hb (by rw [h]; exact List.mem_cons_self))]; exact e
set_option maxHeartbeats 4000000 in
theorem zHy {l : Addr} {its : List Value} {xs : List Str} {Q : Value -> Shared -> Prop} (hh : A.handled = none) (hl : s.heap.IsList l its.toArray) (hn : its.length = xs.length) (hi : ∀ (i : Nat) (v : Value), its[i]? = some v -> ∃ x t, xs[i]? = some x /\ v = .str x t) (hb : xs.length + 1 < scanBound)
  (q : ∀ (h' : Heap) (tk : Nat), s.toks <= tk -> zAH P w h' s.heap.objs.size (yK xs xs.length) -> (∀ b o, s.heap.get? b = some o -> h'.get? b = some o) -> Q (.ref s.heap.objs.size) { s with heap := h', toks := tk }) :
  wpAny (model P w) A (call (.type "set") [.ref l]) Q E s := by
 obtain ⟨c, tl, hmro⟩ := PySem.F.called_set.mro
 have hmade := PySem.F.called_set.made
 have hsub := PySem.F.called_set.sub
 have h1 := PySem.F.called_set.notType
 have h2 := PySem.F.called_set.canCreate
 have hct := PySem.F.typeCall_set_1 (.ref l)
 refine wpAny_call (codeAny_of_tree ?_)
 show wpAny (model P w) _ (callAny (.type "set") _) _ _ _
 refine wpAny_pure ⟨Code.quiet_builtin _ (by decide +kernel), codeAny_builtin PySem.F.entry_type_call ?_⟩
 rw [Around.under_plain (weight_type_call_type "set" [.ref l] []) rfl]
 repeat (any_goals (first | assumption | wp_step))
 refine codeAny_mono (code_set_new_1 (.ref l) (E := E) (Q₁ := fun obj s1 => ∃ b : Bool, obj = .ref s.heap.objs.size /\ s1 = { s with heap := s.heap.push { cls := .type "set", dict := none, data := .set #[] 0 (.fresh 0 0 b) } }) fun b => ⟨b, rfl, rfl⟩) fun r s1 hr => ?_
 cases r with
 | error e => exact hr
 | ok fl =>
  cases fl with
  | ret obj =>
   obtain ⟨b, rfl, rfl⟩ := hr
   have g0 : (s.heap.push { cls := .type "set", dict := none, data := .set #[] 0 (.fresh 0 0 b) }).get? s.heap.objs.size = some { cls := .type "set", dict := none, data := .set #[] 0 (.fresh 0 0 b) } := Heap.get?_push_size _ rfl
   have hT : Shared.TypeIs { s with heap := s.heap.push { cls := .type "set", dict := none, data := .set #[] 0 (.fresh 0 0 b) } } (.ref s.heap.objs.size) "set" := ⟨_, g0, rfl⟩
   have hli := PySem.F.called_set.init.lookup
   have hbi := PySem.F.called_set.init.bind (.ref s.heap.objs.size)
   repeat (any_goals (first | assumption | wp_step))
   refine codeAny_mono (codeAny_call_builtin (R := wants (fun r s2 => r = .none /\ ∃ h' tk, s.toks <= tk /\ s2 = { s with heap := h', toks := tk } /\ zAH P w h' s.heap.objs.size (yK xs xs.length) /\ ∀ b o, s.heap.get? b = some o -> h'.get? b = some o) E) PySem.F.called_set.init.plain PySem.F.entry_set_init (check_set_init_1 hT ?_)) fun r2 s2 hr2 => ?_
   ·have lt : l < s.heap.objs.size := by obtain ⟨o, e, _⟩ := hl; exact Heap.lt_size e
    obtain ⟨⟨oc, od, oda, osl⟩, gl, cl, nl, dl⟩ := hl
    simp only at cl dl
    subst cl; subst dl
    have gl1 : (s.heap.push { cls := .type "set", dict := none, data := .set #[] 0 (.fresh 0 0 b) }).get? l = some { cls := .type "list", dict := od, data := .seq its.toArray nl, slots := osl } := Heap.get?_push_of_some _ gl
    have k1 := PySem.F.sub_list_set
    have k2 := PySem.F.sub_list_frozenset
    have k3 : (Value.type "list" == Value.type "dict") = false := by decide
    have hl1 : (s.heap.push { cls := .type "set", dict := none, data := .set #[] 0 (.fresh 0 0 b) }).IsList l its.toArray := ⟨_, gl1, rfl, nl, rfl⟩
    unfold Builtin.«set.__init__» noKeywords Builtin.Frozenset.updateFrom
    generalize hPI : pyIter = PI
    wp_walk
    subst hPI
    refine wpAny_pyIter_list hl1 ?_
    refine wpAny_bind (wpAny_runValue ?_)
    have n1 : (s.heap.push { cls := .type "set", dict := none, data := .set #[] 0 (.fresh 0 0 b) }).objs.size = s.heap.objs.size + 1 := Heap.size_push ..
    have ni : l ≠ (s.heap.push { cls := .type "set", dict := none, data := .set #[] 0 (.fresh 0 0 b) }).objs.size := by rw [n1]; exact Nat.ne_of_lt (Nat.lt_succ_of_lt lt)
    have nf : s.heap.objs.size ∉ [(s.heap.push { cls := .type "set", dict := none, data := .set #[] 0 (.fresh 0 0 b) }).objs.size, l] := by
     rw [n1]
     intro hm
     rcases List.mem_cons.mp hm with e | hm
     ·exact absurd e (Nat.ne_of_lt (Nat.lt_succ_self _))
     ·exact absurd (List.mem_singleton.mp hm) (Nat.ne_of_gt lt)
    have W := (Walks.list (prog := P) (w := w) (A := A.in1.in1.in1) hh _ l ni its.toArray).toS
    have ez : its.toArray.size = xs.length := by rw [List.size_toArray]; exact hn
    rw [ez] at W
    refine zJG W s.heap.objs.size nf (fun i v hv => hi i v (by simpa using hv)) hb xs.length 0 _ (by omega) (Nat.zero_le _) ⟨⟨_, Heap.get?_push_size _ rfl, rfl, rfl⟩, hl1.push _⟩ ?_ fun s' hm hS' => ?_
    ·exact SetOf_congr ((setObjOf_fresh (knd := PySem.strKind P w) b).setOf (Heap.get?_push_of_some _ g0) (by unfold scanBound; omega)) (fun _ => rfl) rfl
    ·rw [Moved.eq_with hm]
     refine wpAny_pure ?_
     show wpAny (model P w) _ (ret Value.none) _ _ _
     refine wpAny_pure ⟨rfl, _, _, hm.toks, rfl, hS', fun c o e => hm.heap c o (fun hmem => ?_) (Heap.get?_push_of_some _ (Heap.get?_push_of_some _ e))⟩
     have hc := Heap.lt_size e
     rcases List.mem_cons.mp hmem with e' | hmem
     ·exact Nat.ne_of_lt hc e'
     ·have e' := List.mem_singleton.mp hmem
      rw [n1] at e'
      exact Nat.ne_of_lt (Nat.lt_succ_of_lt hc) e'
   ·cases r2 with
    | error e => exact hr2
    | ok f2 =>
     cases f2 with
     | ret r =>
      obtain ⟨rfl, h', tk, ht, rfl, hS', hk⟩ := hr2
      repeat (any_goals (first | assumption | wp_step))
      exact q _ _ ht hS' hk
     | _ => exact hr2.elim
  | _ => exact hr.elim
theorem zJg {a : Addr} {l : List Str} {Q : Value -> Shared -> Prop} (h : zAH P w s.heap a l) (q : Q (.int l.length (s.toks + 1)) { s with toks := s.toks + 1 + 1 }) : wpAny (model P w) A (call (.builtin "len") [.ref a]) Q E s := by
 obtain ⟨o, es, ep, t, ho, hex, hd, _, _, hb, hf, hn⟩ := h
 have hb' : es.size < 4096 := hb
 refine call_len_set ho hex hd hf (by omega) ?_
 rw [hn]
 exact q
end
def zGA (K : PySem.W.Frag) : List V -> Hp -> VK -> Prop := fun vs H Q => ∃ a xs, vs = [.ref a] /\ SqL K H a (xs.map V.str) /\ xs.length <= 1000 /\ Q (.int (yK xs xs.length).length) H
section
variable {X : Cx} {Θ : Tab} {xl xz : Str} {pl pz pos pos2 : Pos} {a : Expr} {t : TA} {k : Nat}
theorem zCn : ∀ {xs : List Str} {us : List Value}, zf (xs.map V.str) us -> ∀ (i : Nat) (v : Value), us[i]? = some v -> ∃ x t, xs[i]? = some x /\ v = .str x t
 | [], _, .nil, i, v, e => by simp at e
 | x :: xs, _, .cons h r, 0, v, e => by
  obtain ⟨t, ht⟩ := (show ∃ t, _ = Value.str x t from h)
  cases e
  exact ⟨x, t, rfl, ht⟩
 | x :: xs, _, .cons h r, i + 1, v, e => zCn r i v e
theorem zIs (hr : jH k X.A) (hgl : Gl X xl) (hml : X.mg xl = none) (hvl : bootBuiltins xl = some (.builtin "len")) (hgz : Gl X xz) (hmz : X.mg xz = none) (hvz : bootBuiltins xz = some (.type "set")) (ha : PA X [a] t)
  (hnl : xl ≠ "__name__" := by decide) (hdl : (xl == ("__debug__" : Str)) = false := by decide) (hnz : xz ≠ "__name__" := by decide) (hdz : (xz == ("__debug__" : Str)) = false := by decide) (hsa : jC a = true := by rfl) :
  PE X (.Call (.Name xl pl) [.Call (.Name xz pz) [a] [] pos2] [] pos) (tCB (zGA X.K) t) := by
 intro pins s σ H Q I h
 refine wpAny_Call_Name_kw (JZ I hgl hml hvl ?_ hnl hdl)
 refine PyProof.Rows.callWith_builtin1 ?_ (j0 rfl) rfl
 rw [j0 (e := .Call (.Name xz pz) [a] [] pos2) (es := []) rfl]
 refine Calls.spliced_cons ?_
 refine wpAny_Call_Name_kw (JZ I hgz hmz hvz ?_ hnz hdz)
 refine PyProof.Rows.callWith_type1 (thn (ha pos2 pins s σ H _ I h) fun us s1 ⟨vs, H1, I1, r1, q1⟩ => ?_) (j0 hsa) (Qq (by simp))
 obtain ⟨p, xs, rfl, hp, hz, q⟩ := q1
 obtain ⟨u1, rfl, e1⟩ : ∃ u1, us = [u1] /\ u1 = .ref p := by
  cases r1 with
  | cons c1 t1 => cases t1; exact ⟨_, rfl, c1⟩
 subst e1
 obtain ⟨its, rv, pl, _⟩ := I1.list hp
 have ez := rv.length
 rw [List.length_map] at ez
 refine zHy (A := X.A) (xs := xs) hr.hd pl.isList (by omega) (zCn rv) (by unfold scanBound; omega) fun h' tk ht hS hk => ?_
 refine Calls.spliced_nil ?_
 have I2 : Inv X pins σ H1 { s1 with heap := h', toks := tk } := I1.kept (t' := tk) hk (Nat.lt_of_lt_of_le I1.tk ht)
 refine zJg (s := { s1 with heap := h', toks := tk }) hS ⟨.int (yK xs xs.length).length, H1, ?_, ⟨_, rfl⟩, q⟩
 exact I2.kept (t' := tk + 1 + 1) fun b o e => e
theorem zKX (ts : List M.T) : ∀ i, i <= ts.length -> yK (ts.map ofT) i = (M.yy [] (ts.take i)).map ofT := by
 have app : ∀ (xs acc : List M.T) (x : M.T), M.yy acc (xs ++ [x]) = if (M.yy acc xs).contains x then M.yy acc xs else M.yy acc xs ++ [x] := by
  intro xs
  induction xs with
  | nil => intro acc x; rfl
  | cons y xs ih => intro acc x; exact ih _ x
 intro i
 induction i with
 | zero => intro _; rfl
 | succ i ih =>
  intro hi
  have e : ts[i]? = some ts[i] := List.getElem?_eq_getElem (by omega)
  have e2 : (ts.map ofT)[i]? = some (ofT ts[i]) := by rw [List.getElem?_map, e]; rfl
  rw [zAz e2, ih (by omega), List.take_succ, e]
  show _ = (M.yy [] (ts.take i ++ [ts[i]])).map ofT
  rw [app]
  have hm : (ofT ts[i] ∈ (M.yy [] (ts.take i)).map ofT) ↔ (M.yy [] (ts.take i)).contains ts[i] = true := by
   rw [List.mem_map]
   constructor
   ·rintro ⟨y, hy, ey⟩
    rw [<- zBW ey]
    simpa using hy
   ·intro h
    exact ⟨ts[i], by simpa using h, rfl⟩
  by_cases c : (M.yy [] (ts.take i)).contains ts[i] = true
  ·rw [if_pos (hm.mpr c), if_pos c]
  ·rw [if_neg (fun z => c (hm.mp z)), if_neg c, List.map_append]; rfl
theorem zIH {K : PySem.W.Frag} : AdN K Θ M.QC (zGA K) := by
 intro ρ H S xs Xs Q rp rxs h
 unfold M.QC at h
 split at h
 ·rename_i p
  obtain ⟨Y, r, rfl, ry, rfl⟩ := rxs
  cases e : M.jN S p with
  | none => rw [e] at h; exact h.elim
  | some ds =>
   rw [e] at h
   dsimp only at h
   obtain ⟨a, zs, rfl, ha, hx, rz⟩ := Z9 rp ry (zDc e)
   cases et : M.jx ds with
   | none => rw [et] at h; exact h.elim
   | some ts =>
    rw [et] at h
    obtain ⟨rfl, _⟩ := Q5 et rz
    have h2 : zF K Θ (zM K) ρ H (if ts.length <= 1000 then M.R.ok (M.D.int (M.yy [] ts).length) S else .no) Q := h
    by_cases hl : ts.length <= 1000
    ·rw [if_pos hl] at h2
     refine ⟨a, ts.map ofT, rfl, SqL.of hx, by rw [List.length_map]; exact hl, ?_⟩
     have em := zKX ts ts.length (Nat.le_refl _)
     rw [List.take_length] at em
     rw [List.length_map, em, List.length_map]
     exact zF.here (b := V.int (M.yy [] ts).length) h2 rp rfl
    ·rw [if_neg hl] at h2; exact h2.elim
 ·exact h.elim
theorem zHe {m : M.AM} (hr : jH k X.A) (hgl : Gl X xl) (hml : X.mg xl = none) (hvl : bootBuiltins xl = some (.builtin "len")) (hgz : Gl X xz) (hmz : X.mg xz = none) (hvz : bootBuiltins xz = some (.type "set")) (ha : MA X Θ [a] m)
  (hnl : xl ≠ "__name__" := by decide) (hdl : (xl == ("__debug__" : Str)) = false := by decide) (hnz : xz ≠ "__name__" := by decide) (hdz : (xz == ("__debug__" : Str)) = false := by decide) (hsa : jC a = true := by rfl) :
  ME X Θ (.Call (.Name xl pl) [.Call (.Name xz pz) [a] [] pos2] [] pos) (M.zH M.QC m) :=
 (zIs hr hgl hml hvl hgz hmz hvz ha hnl hdl hnz hdz hsa).imp fun σ H Q ⟨ρ, σ', S, st, rp, h⟩ => ⟨ρ, σ', S, st, rp, zF.bind h fun ρ1 H1 xs Xs S1 p1 l1 rp1 rx h1 => zIH ρ1 H1 S1 xs Xs Q rp1 rx h1⟩
theorem zF1 {m : M.AM} (hr : jH k X.A) (hgl : Gl X xl) (hml : X.mg xl = none) (hvl : bootBuiltins xl = some (.builtin "len")) (hgz : Gl X xz) (hmz : X.mg xz = none) (hvz : bootBuiltins xz = some (.type "set")) (ha : WA X Θ [a] m)
  (hnl : xl ≠ "__name__" := by decide) (hdl : (xl == ("__debug__" : Str)) = false := by decide) (hnz : xz ≠ "__name__" := by decide) (hdz : (xz == ("__debug__" : Str)) = false := by decide) (hsa : jC a = true := by rfl) :
  WE X Θ (.Call (.Name xl pl) [.Call (.Name xz pz) [a] [] pos2] [] pos) (M.zH M.QC m) := by with_unfolding_all exact zHe (m := m) hr hgl hml hvl hgz hmz hvz ha hnl hdl hnz hdz hsa
theorem zMF : bootBuiltins "set" = some (.type "set") := by decide +kernel
end
end L2
namespace L2
open PySem PySem.Spec PyProof.Rows
theorem Inv.swapD {X : Cx} {pins : List (Addr × Obj)} {σ : St} {H : Hp} {s : Shared} {a : Addr} {u0 u1 : HO} (I : Inv X pins σ H s) (e : H a = some u0) (n1 : ∀ xs, u0 ≠ .tup xs) (n2 : ∀ o u, X.H₀ a ≠ some (.frz o u)) (n3 : ∀ ps, u0 ≠ .tbl ps) (n4 : ∀ x, u0 ≠ .own x)
  (new : jV X.prog X.w (upd H a u1) s.heap a u1) : Inv X pins σ (upd H a u1) s := by
 have nn : ∀ {b}, H b = none -> b ≠ a := fun z q => by rw [q, e] at z; cases z
 refine ⟨I.ok, I.os, I.bare, ⟨I.base.keep, I.base.slot, fun b ob q n hx => ?_, I.base.there, fun b xs q => ?_, fun b ob u q => ?_, fun b ps q => ?_⟩, I.loc, I.cell, ?_, fun x c q => ?_, fun p hp' => ?_, fun b u q => ?_, I.len, I.tk⟩
 ·have z := I.base.free b ob q n hx
  rw [zT (nn z)]; exact z
 ·have z := I.base.tups b xs q
  rw [zT (fun w => by rw [w, e] at z; cases z; exact n1 xs rfl)]; exact z
 ·have z := I.base.frzs b ob u q
  rw [zT (fun w => by rw [w] at q; exact n2 _ _ q)]; exact z
 ·obtain ⟨mo, z⟩ := I.base.tbls b ps q
  exact ⟨mo, by rw [zT (fun w => by rw [w, e] at z; cases z; exact n3 _ rfl)]; exact z⟩
 ·rw [zT (nn I.free)]; exact I.free
 ·rw [zT (nn (I.freeC x c q))]; exact I.freeC x c q
 ·obtain ⟨e1, e2, e3, e4, e5⟩ := I.pin p hp'
  exact ⟨e1, by rw [zT (nn e2)]; exact e2, e3, e4, e5⟩
 ·by_cases hb : b = a
  ·subst hb; rw [z6] at q; cases q; exact new
  ·rw [zT hb] at q
   exact (I.hok b u q).stay (fun _ _ _ q => q) (fun c z => by rw [zT (fun w => by rw [w, e] at z; cases z; exact n4 _ rfl)]; exact z) fun c xs z => by rw [zT (fun w => by rw [w, e] at z; cases z; exact n1 _ rfl)]; exact z
theorem Inv.dict_base {X : Cx} {pins : List (Addr × Obj)} {σ : St} {H : Hp} {s : Shared} {a : Addr} {kvs : List (Key × V)} (I : Inv X pins σ H s) (e : H a = some (.dK kvs)) : ∀ o u, X.H₀ a ≠ some (.frz o u) := fun o u q => by
 have z := I.base.frzs a o u q
 rw [e] at z; cases z
theorem Inv.freeze {X : Cx} {pins : List (Addr × Obj)} {σ : St} {H : Hp} {s : Shared} {a : Addr} {kvs : List (Key × V)} (I : Inv X pins σ H s) (e : H a = some (.dK kvs)) :
  ∃ o vs ep, KV kvs vs /\ (∀ h : Heap, h.get? a = some o -> h.DictAt (zq X.prog X.w) a vs ep) /\ s.heap.get? a = some o /\ Inv X pins σ (upd H a (.frz o (.dK kvs))) s := by
 have x := I.hok a _ e
 obtain ⟨z, hd, vs, rel, o, es, ep, ho, r⟩ := id x
 refine ⟨o, vs, ep, rel, fun h q => ⟨o, es, q, r⟩, ho, I.swapD e (fun _ q => nomatch q) (I.dict_base e) (fun _ q => nomatch q) (fun _ q => nomatch q) ⟨ho, z, hd, vs, rel, o, es, ep, ho, r⟩⟩
theorem Inv.thaw {X : Cx} {pins : List (Addr × Obj)} {σ : St} {H : Hp} {s : Shared} {a : Addr} {o : Obj} {kvs : List (Key × V)} (I : Inv X pins σ H s) (e : H a = some (.frz o (.dK kvs))) (n2 : ∀ o u, X.H₀ a ≠ some (.frz o u)) : Inv X pins σ (upd H a (.dK kvs)) s := by
 obtain ⟨_, z, hd, vs, rel, dd⟩ := (show jV X.prog X.w H s.heap a (.frz o (.dK kvs)) from I.hok a _ e)
 exact I.swapD e (fun _ q => nomatch q) n2 (fun _ q => nomatch q) (fun _ q => nomatch q) ⟨z, hd, vs, rel, dd⟩
def Iti (a : Addr) (o : Obj) (kvs : List (Key × V)) : It :=
 ⟨fun i H => H a = some (.frz o (.dK kvs)) /\ ∃ p, kvs[i]? = some p, fun i H v H' => ∃ q p, H q = none /\ v = .ref q /\ kvs[i]? = some p /\ H' = upd H q (.tup [kV p.1, p.2]), fun i H => H a = some (.frz o (.dK kvs)) /\ kvs.length <= i⟩
theorem zKL {P : Program} {w : World} {k : Key} {u : Value} (h : (zq P w).is k u = true) : zZ (kV k) u := by
 rcases j4 h with ⟨i, t, rfl, rfl⟩ | ⟨x, t, rfl, rfl⟩
 ·exact ⟨t, rfl⟩
 ·exact ⟨t, rfl⟩
theorem zIM {kvs : List (Key × V)} {vs : List (Key × Value)} {i : Nat} {p : Key × V} (h : KV kvs vs) (e : kvs[i]? = some p) : ∃ q, vs[i]? = some q /\ p.1 = q.1 /\ zZ p.2 q.2 := by
 unfold KV at h
 induction h generalizing i with
 | nil => simp at e
 | cons h t ih =>
  cases i with
  | zero => cases e; exact ⟨_, rfl, h⟩
  | succ n =>
   obtain ⟨q, hq, r⟩ := ih (by simpa using e)
   exact ⟨q, by simpa using hq, r⟩
theorem zFE : entryFor table "dict_itemiterator.__iter__" = some Builtin.«dict_keyiterator.__iter__» :=
 entryFor_alias (id' := "dict_keyiterator.__iter__") (by kernel_rfl) (by first | rfl | decide +kernel | (unfold String.splitOn; simp +decide [String.splitOnAux])) (by decide +kernel) (by kernel_rfl)
theorem zGf {P : Program} {w : World} {K : PySem.W.Frag} {elts : List Expr} {kt : _} {tp : Pos} (a it : Addr) (o : Obj) (kvs : List (Key × V)) (vs : List (Key × Value)) (ep : Nat) (rel : KV kvs vs) (hd : ∀ h : Heap, h.get? a = some o -> h.DictAt (zq P w) a vs ep) :
  zAG P w K (.Tuple elts kt tp) (Iti a o kvs) [it] it (fun i h => ∃ x y, IsItemIter h it a i vs.length ep x y) where
 mem := by simp
 obj := fun i h ⟨x, y, hi⟩ b hb => by
  have z : b = it := by simpa using hb
  subst z
  exact ⟨_, hi, fun v z => nomatch z⟩
 keep := fun i h h' ⟨x, y, hi⟩ k => ⟨x, y, k it (by simp) _ hi⟩
 item := by
  intro X hP hw hK hc i pins s σ H E I hf ⟨x, y, hi⟩ hg
  subst hP hw hK
  obtain ⟨ha, p, hp⟩ := hg
  obtain ⟨go, _⟩ := (show jV X.prog X.w H s.heap a (.frz o (.dK kvs)) from I.hok a _ ha)
  obtain ⟨q, hq, r1, r2⟩ := zIM rel hp
  obtain ⟨k, v⟩ := q
  obtain ⟨f0, f1, f2, f3, f4, f5⟩ := hf it (by simp)
  have hit : it ≠ s.heap.objs.size := Nat.ne_of_lt (Heap.lt_size hi)
  refine wpAny_pyNext_items_item hi (hd _ go) hq fun key h' hk ho hT hsz kk => ?_
  refine ⟨_, rfl, wpAny_letOwnedTupleGo_items ho fun h2 hi2 hs2 => ?_⟩
  have hn : H s.heap.objs.size = none := I.hok.fresh (Nat.le_refl _)
  have I1 : Inv X pins σ H { s with heap := h2, toks := s.toks } := I.turnedL (ch := [it]) hf (fun b ob hb g => by
   have nb : b ≠ it := fun z => hb (by simp [z])
   exact hs2.extBut _ _ nb (kk b ob nb g)) I.tk
  have I2 : Inv X pins σ (upd H s.heap.objs.size (.tup [kV p.1, p.2])) { s with heap := h2 } := I1.track I.sz hn (Nat.ne_of_gt I.lt) (fun x c e => by obtain ⟨v, hv⟩ := I.cell x c e; exact Nat.ne_of_lt hv.lt) (fun p hp => Nat.ne_of_lt (Heap.lt_size (I.pin p hp).1))
   ⟨show 2 <= sizeLine by decide, [key, v], .cons (by rw [r1]; exact zKL hk) (.cons r2 .nil), ⟨_, hs2.extBut _ _ (Ne.symm hit) hT, rfl, _, rfl⟩⟩
  refine ⟨.ref s.heap.objs.size, _, I2, rfl, ⟨_, p, hn, rfl, hp, rfl⟩, ⟨_, _, hi2⟩, fun c hc => ?_⟩
  have z : c = it := by simpa using hc
  subst z
  rw [zT hit]
  exact f0
 done := by
  intro X hP hw hK hc i pins s σ H E I hf ⟨x, y, hi⟩ hg
  subst hP hw hK
  obtain ⟨ha, hl⟩ := hg
  obtain ⟨go, _⟩ := (show jV X.prog X.w H s.heap a (.frz o (.dK kvs)) from I.hok a _ ha)
  have el : kvs.length = vs.length := Paired.length rel
  exact wpAny_pyNext_items_end (I.ok.hd hc) hi (hd _ go) (List.getElem?_eq_none (by omega)) fun h' hk => ⟨rfl, I.turnedL (t' := s.toks) (ch := [it]) hf (fun b ob hb g => hk b ob (fun z => hb (by simp [z])) g) I.tk⟩
 self := fun A i s Q E ⟨x, y, hi⟩ h => by
  have hT : s.TypeIs (.ref it) "dict_itemiterator" := ⟨_, hi, rfl⟩
  refine wpAny_pyIter_slot hT PySem.F.slot_dict_itemiterator_iter (wpAny_call_entry PySem.F.slot_dict_itemiterator_iter hT zFE ?_ (PySem.F.args_dict_itemiterator_iter_1 _))
  show wpAny (model P w) _ (ret (.ref it)) _ _ s
  exact wpAny_pure ⟨_, rfl, "dict_itemiterator", _, hT, PySem.F.slot_dict_itemiterator_next.lookup, h⟩
def zOL (H₀ : Hp) (te : TE) : TI := fun σ H R => te σ H fun v H1 => ∃ a kvs, v = .ref a /\ H1 a = some (.dK kvs) /\ ∀ o, (∀ o u, H₀ a ≠ some (.frz o u)) -> R (Iti a o kvs) (upd H1 a (.frz o (.dK kvs)))
theorem zJr {X : Cx} {e : Expr} {te : TE} {apos cpos : Pos} {elts : List Expr} {kt : _} {tp : Pos} (he : PE X e te)
  (hbase : attributeBase e "items" X.env (eval e X.env) = eval e X.env := by rfl) (hline : (apos.endLine == cpos.line) = true := by rfl) : PI X (.Tuple elts kt tp) (.Call (.Attribute e "items" apos) [] [] cpos) (zOL X.H₀ te) := by
 intro pins s σ H R I h
 refine wpAny_Call_method0_late hbase hline (thn (he pins s σ H _ I h) fun v s1 ⟨x, H1, I1, r1, q1⟩ => ?_)
 obtain ⟨a, kvs, rfl, ha, q⟩ := q1
 have ty : tyV X.K "dict" (.ref a) H1 := Or.inr (Or.inr (Or.inl ⟨rfl, Or.inl ⟨kvs, ha⟩⟩))
 obtain ⟨t1, t2⟩ := zHj (T := "dict") I1 r1 ty
 obtain rfl : v = Value.ref a := r1
 have x := I1.hok a _ ha
 obtain ⟨z, hd, vs, rel, dd⟩ := id x
 refine ⟨"dict", "dict.items", PySem.F.plainAttrs_dict, PySem.F.slot_dict_items, PySem.F.type_dict_items, t1, t2, Calls.callWith_builtin rfl (PySem.evalArgs_none ?_)⟩
 refine call_meetsIn PySem.F.slot_dict_items dd.typeIs PySem.F.entry_dict_items (PySem.F.args_dict_items_1 _) (meets_dict_items (zq X.prog X.w) a hd) ⟨⟨vs, dd⟩, ?_⟩
 obtain ⟨o, vs', ep, rel', hD, go, I2⟩ := I1.freeze ha
 have up : ∀ {h : Heap} {o p b}, h.get? b = some o -> (h.push p).get? b = some o := fun e => Heap.get?_push_of_some _ e
 refine wpAny_pyIter_items ⟨_, Heap.get?_push_size _ rfl, rfl, rfl⟩ (hD _ (up go)) ?_
 have n1 : (s1.heap.push { cls := .type "dict_items", data := .fields #[.ref a] }).objs.size = s1.heap.objs.size + 1 := Heap.size_push ..
 refine ⟨s1.heap.objs.size + 1, [s1.heap.objs.size + 1], _, _, upd H1 a (.frz o (.dK kvs)), by rw [<- n1], I2.kept (t' := s1.toks) (fun b ob e => up (up e)), zGf a _ o kvs vs' ep rel' hD, ⟨Value.none, Value.none, ?_⟩, fun b hb => ?_, q o (I1.dict_base ha)⟩
 ·have g := Heap.get?_push_size (h := s1.heap.push { cls := .type "dict_items", data := .fields #[.ref a] }) (o := { cls := .type "dict_itemiterator", data := .fields #[.none, .bool false, .ref a, .int 0 0, .int vs'.length 0, .int ep 0, .none, .none] }) rfl
  rw [n1] at g
  exact g
 ·have zb : b = s1.heap.objs.size + 1 := by simpa using hb
  subst zb
  exact I2.fpOk (Nat.le_succ _) (I2.hok.fresh (Nat.le_succ _))
section
variable {K : PySem.W.Frag} {Θ : Tab} {ρ : List Addr} {H H' : Hp}
mutual
theorem zM.move (hT : ∀ b xs, SqT K H b xs -> SqT K H' b xs) (hR : ∀ b xs, JC K H b xs -> JC K H' b xs) : ∀ {d : M.D} {v : V}, zM K ρ H d v -> zM K ρ H' d v
 | .non, _, h => h
 | .bl _, _, h => h
 | .int _, _, h => h
 | .str _, _, h => h
 | .ty _, _, h => h
 | .ref _, _, h => h
 | .tup _, _, ⟨a, xs, e, h, r⟩ => ⟨a, xs, e, hT a xs h, zL.move hT hR r⟩
 | .ro _, _, ⟨a, xs, e, h, r⟩ => ⟨a, xs, e, hR a xs h, zL.move hT hR r⟩
theorem zL.move (hT : ∀ b xs, SqT K H b xs -> SqT K H' b xs) (hR : ∀ b xs, JC K H b xs -> JC K H' b xs) : ∀ {ds : List M.D} {xs : List V}, zL K ρ H ds xs -> zL K ρ H' ds xs
 | [], _, h => h
 | _ :: _, _, ⟨y, ys, e, h, r⟩ => ⟨y, ys, e, zM.move hT hR h, zL.move hT hR r⟩
end
section
variable {a : Addr} {o : Obj} {ks : List (Key × V)} (ha : H a = some (.frz o (.dK ks)))
include ha
theorem zHf : ∀ b xs, SqT K H b xs -> SqT K (upd H a (.dK ks)) b xs := fun b xs h => by
 rcases h with (h | ⟨o', h⟩) | h
 ·exact .inl (.inl (by rw [zT (fun z => by rw [z, ha] at h; cases h)]; exact h))
 ·exact .inl (.inr ⟨o', by rw [zT (fun z => by rw [z, ha] at h; cases h)]; exact h⟩)
 ·exact .inr h
theorem zIL : ∀ b xs, JC K H b xs -> JC K (upd H a (.dK ks)) b xs := fun b xs h => by
 rcases h with ⟨o', h⟩ | h
 ·exact .inl ⟨o', by rw [zT (fun z => by rw [z, ha] at h; cases h)]; exact h⟩
 ·exact .inr h
theorem zM.thaw {d : M.D} {v : V} (r : zM K ρ H d v) : zM K ρ (upd H a (.dK ks)) d v := zM.move (zHf ha) (zIL ha) r
theorem jA.thaw {σ' : M.St} {σ : St} (h : jA K ρ H σ' σ) : jA K ρ (upd H a (.dK ks)) σ' σ :=
 ⟨h.len, fun i d e => let ⟨v, h1, h2⟩ := h.get i d e; ⟨v, h1, zM.thaw ha h2⟩⟩
theorem ObR.thaw {b : Addr} {ob : M.O} (nb : b ≠ a) (h : ObR K Θ ρ H b ob) : ObR K Θ ρ (upd H a (.dK ks)) b ob := by
 have e := zT (H := H) (o := .dK ks) nb
 cases ob with
 | lst ds => obtain ⟨xs, e1, r⟩ := h; exact ⟨xs, e.trans e1, zL.move (zHf ha) (zIL ha) r⟩
 | dct kvs => obtain ⟨ks, e1, r⟩ := h; exact ⟨ks, e.trans e1, Paired.mapP r fun p q z => ⟨z.1, zM.thaw ha z.2⟩⟩
 | fdc kvs => obtain ⟨o', ks', e1, r⟩ := h; exact ⟨o', ks', e.trans e1, Paired.mapP r fun p q z => ⟨z.1, zM.thaw ha z.2⟩⟩
 | ins c fs =>
  obtain ⟨C, dx, gs, N, e1, e2, r⟩ := h
  exact ⟨C, dx, gs, N, e.trans e1, e2, r.len, r.nd, r.within, fun i f d h1 h2 => let ⟨v, k1, k2⟩ := r.get i f d h1 h2; ⟨v, k1, zM.thaw ha k2⟩⟩
theorem zU.thaw {S : M.S} {i : Nat} {kvs : List (M.D × M.D)} (h : zU K Θ ρ S H) (hi : ρ[i]? = some a) (r : Paired (fun (p : M.D × M.D) (q : Key × V) => yO p.1 q.1 /\ zM K ρ (upd H a (.dK ks)) p.2 q.2) kvs ks) : zU K Θ ρ (S.set i (.dct kvs)) (upd H a (.dK ks)) := by
 refine ⟨by simp [h.len], h.nd, fun j ob q => ?_⟩
 by_cases hj : i = j
 ·subst hj
  by_cases hl : i < S.length
  ·rw [List.getElem?_set_self hl] at q
   cases q
   exact ⟨a, hi, ks, z6, r⟩
  ·rw [List.getElem?_eq_none (by rw [List.length_set]; omega)] at q
   cases q
 ·rw [List.getElem?_set_ne hj] at q
  obtain ⟨b, h1, h2⟩ := h.obj j ob q
  exact ⟨b, h1, ObR.thaw ha (fun z => hj (zAi h.nd hi (z ▸ h1))) h2⟩
end
theorem zDZ {α β : Type} {R : α -> β -> Prop} {xs : List α} {ys : List β} {i : Nat} {y : β} (h : Paired R xs ys) (e : ys[i]? = some y) : ∃ x, xs[i]? = some x /\ R x y := by
 induction h generalizing i with
 | nil => simp at e
 | cons h t ih =>
  cases i with
  | zero => cases e; exact ⟨_, rfl, h⟩
  | succ n =>
   obtain ⟨q, hq, r⟩ := ih (by simpa using e)
   exact ⟨q, by simpa using hq, r⟩
theorem yO.rel {d : M.D} {k : Key} (h : yO d k) : zM K ρ H d (kV k) := by
 cases d with
 | int i => cases h; rfl
 | str x => obtain ⟨rfl, ok⟩ := h; exact ⟨rfl, ok⟩
 | _ => exact h.elim
theorem zIP {a : Addr} {o : Obj} {kvs : List (M.D × M.D)} {ks : List (Key × V)} (ha : H a = some (.frz o (.dK ks))) (r : Paired (fun (p : M.D × M.D) (q : Key × V) => yO p.1 q.1 /\ zM K ρ H p.2 q.2) kvs ks) : ItR K Θ ρ H (Iti a o ks) (kvs.map fun p => .tup [p.1, p.2]) [] := by
 have el : kvs.length = ks.length := Paired.length r
 refine ⟨fun j ρ' S' H' p l rp g hj => ?_, fun j ρ' S' H' v H2 p l rp g hj y => ?_, fun ρ' S' H' p l rp g => ?_⟩
 ·rw [List.length_map, el] at hj
  exact ⟨l.frzs _ _ _ ha, ks[j], by simp [hj]⟩
 ·obtain ⟨q, kv, hn, rfl, hk, rfl⟩ := y
  obtain ⟨x, hx, r1, r2⟩ := zDZ r hk
  have ln := Le.new hn (.tup [kV kv.1, kv.2])
  exact ⟨.tup [x.1, x.2], by rw [List.getElem?_map, hx]; rfl, ⟨q, _, rfl, SqT.of z6, _, _, rfl, yO.rel r1, _, _, rfl, r2.mono p (l.trans ln), rfl⟩, ln, rp.aside hn _⟩
 ·exact ⟨l.frzs _ _ _ ha, by rw [List.length_map, el]; exact Nat.le_refl _⟩
end
def zKR (H₀ : Hp) (D : Qk) : Qk where
 nx := fun σ H => ∃ a o ks, H a = some (.frz o (.dK ks)) /\ (∀ o u, H₀ a ≠ some (.frz o u)) /\ D.nx σ (upd H a (.dK ks))
 rt := fun v H => ∃ a o ks, H a = some (.frz o (.dK ks)) /\ (∀ o u, H₀ a ≠ some (.frz o u)) /\ D.rt v (upd H a (.dK ks))
 bk := fun σ H => ∃ a o ks, H a = some (.frz o (.dK ks)) /\ (∀ o u, H₀ a ≠ some (.frz o u)) /\ D.bk σ (upd H a (.dK ks))
 ct := fun σ H => ∃ a o ks, H a = some (.frz o (.dK ks)) /\ (∀ o u, H₀ a ≠ some (.frz o u)) /\ D.ct σ (upd H a (.dK ks))
theorem zDA {X : Cx} {st : Stmt} {t : TS} (h : PS X st t) : PS X st fun D σ H => t (zKR X.H₀ D) σ H := fun pins s σ H D I q => thn (h pins s σ H _ I q) fun f s1 z => by
 cases f with
 | next => obtain ⟨σ1, H1, I1, a, o, ks, e, n, d⟩ := z; exact ⟨σ1, _, I1.thaw e n, d⟩
 | brk => obtain ⟨σ1, H1, I1, a, o, ks, e, n, d⟩ := z; exact ⟨σ1, _, I1.thaw e n, d⟩
 | cont => obtain ⟨σ1, H1, I1, a, o, ks, e, n, d⟩ := z; exact ⟨σ1, _, I1.thaw e n, d⟩
 | ret u => obtain ⟨v, σ1, H1, I1, r, a, o, ks, e, n, d⟩ := z; exact ⟨v, σ1, _, I1.thaw e n, r, d⟩
section
variable {X : Cx} {Θ : Tab}
theorem zBI {K : PySem.W.Frag} {H₀ : Hp} {ρ : List Addr} {H : Hp} {i : Nat} {a : Addr} {o : Obj} {kvs : List (M.D × M.D)} {ks : List (Key × V)} {r : M.RS} {D : Qk} (hi : ρ[i]? = some a) (ha : H a = some (.dK ks)) (n : ∀ o u, H₀ a ≠ some (.frz o u)) (pr : Paired (fun (p : M.D × M.D) (q : Key × V) => yO p.1 q.1 /\ zM K ρ H p.2 q.2) kvs ks)
  (h : ze K Θ ρ H (M.thaw i kvs r) D) : ze K Θ ρ (upd H a (.frz o (.dK ks))) r (zKR H₀ D) := by
 have key : ∀ {ρ' : List Addr} {H' : Hp} {S : M.S}, ρ <+: ρ' -> Le (upd H a (.frz o (.dK ks))) H' -> zU K Θ ρ' S H' -> H' a = some (.frz o (.dK ks)) /\ Le H (upd H' a (.dK ks)) /\ zU K Θ ρ' (S.set i (.dct kvs)) (upd H' a (.dK ks)) := fun {ρ' H' S} p l rp => by
  have e := l.frzs a o (.dK ks) z6
  have le : Le H (upd H' a (.dK ks)) := by
   refine ⟨fun b xs q => ?_, fun b ob u q => ?_⟩
   ·have nb : b ≠ a := fun z => by rw [z, ha] at q; cases q
    rw [zT nb]
    exact l.tups b xs (by rw [zT nb]; exact q)
   ·have nb : b ≠ a := fun z => by rw [z, ha] at q; cases q
    rw [zT nb]
    exact l.frzs b ob u (by rw [zT nb]; exact q)
  exact ⟨e, le, rp.thaw e (Qh p hi) (Paired.mapP pr fun x y z => ⟨z.1, z.2.mono p le⟩)⟩
 cases r with
 | nx σ1 S1 =>
  intro ρ' H' σ p l rp st
  obtain ⟨e, le, rp'⟩ := key p l rp
  have h' : ze K Θ ρ H (if S1[i]? = some (.fdc kvs) then .nx σ1 (S1.set i (.dct kvs)) else .no) D := h
  split at h'
  ·exact ⟨a, o, ks, e, n, h' ρ' _ σ p le rp' (jA.thaw e st)⟩
  ·exact h'.elim
 | bk σ1 S1 =>
  intro ρ' H' σ p l rp st
  obtain ⟨e, le, rp'⟩ := key p l rp
  have h' : ze K Θ ρ H (if S1[i]? = some (.fdc kvs) then .bk σ1 (S1.set i (.dct kvs)) else .no) D := h
  split at h'
  ·exact ⟨a, o, ks, e, n, h' ρ' _ σ p le rp' (jA.thaw e st)⟩
  ·exact h'.elim
 | ct σ1 S1 =>
  intro ρ' H' σ p l rp st
  obtain ⟨e, le, rp'⟩ := key p l rp
  have h' : ze K Θ ρ H (if S1[i]? = some (.fdc kvs) then .ct σ1 (S1.set i (.dct kvs)) else .no) D := h
  split at h'
  ·exact ⟨a, o, ks, e, n, h' ρ' _ σ p le rp' (jA.thaw e st)⟩
  ·exact h'.elim
 | rt d S1 =>
  intro ρ' H' v p l rp rv
  obtain ⟨e, le, rp'⟩ := key p l rp
  have h' : ze K Θ ρ H (if S1[i]? = some (.fdc kvs) then .rt d (S1.set i (.dct kvs)) else .no) D := h
  split at h'
  ·exact ⟨a, o, ks, e, n, h' ρ' _ v p le rp' (zM.thaw e rv)⟩
  ·exact h'.elim
 | exc e σ1 S1 => exact h
 | no => exact h
theorem zFq {e : Expr} {m : M.EM} {elts : List Expr} {kt : _} {tp pos apos cpos : Pos} {body : List Stmt} {g : M.GM} {js : List Nat} {mb : M.SM} (hp : PassesOwn (model X.prog X.w) X.A X.env X.xe) (hc : X.calm = true) (he : ME X Θ e m) (hg : MG X Θ js (.Tuple elts kt tp) g) (hb : MSs X Θ body mb)
  (hbase : attributeBase e "items" X.env (eval e X.env) = eval e X.env := by rfl) (hline : (apos.endLine == cpos.line) = true := by rfl) (hs : ∀ x, foldedSetIterable (.Call (.Attribute e "items" apos) [] [] cpos) X.env x = pure x := by intro _; rfl) : MS X Θ (.For (.Tuple elts kt tp) (.Call (.Attribute e "items" apos) [] [] cpos) body [] pos) (M.yC m g mb) :=
 (zDA (zFJ hp hc (zJr he hbase hline) hg hb hs)).imp fun D σ H ⟨ρ, σ', S, st, rp, h⟩ => by
  refine ⟨ρ, σ', S, st, rp, ze.stm h fun ρ1 H1 d v S1 p1 l1 rp1 rv h1 => ?_⟩
  cases d with
  | ref i =>
   obtain ⟨a, rfl, hi⟩ := rv
   have h1' : ze X.K Θ ρ1 H1 (match S1[i]? with
    | some (.dct kvs) => M.thaw i kvs (M.jm [] (M.jU g mb) (kvs.map fun p => .tup [p.1, p.2]) σ' (S1.set i (.fdc kvs)))
    | _ => .no) D := h1
   cases q : S1[i]? with
   | none => rw [q] at h1'; exact h1'.elim
   | some ob =>
    rw [q] at h1'
    cases ob with
    | dct kvs =>
     obtain ⟨b, hb', ks, ha, pr⟩ := rp1.obj i _ q
     rw [hi] at hb'; cases hb'
     refine ⟨a, ks, rfl, ha, fun o n => ?_⟩
     have le : Le H1 (upd H1 a (.frz o (.dK ks))) := Le.put (Zw ha) _
     exact zGh (zIP z6 (Paired.mapP pr fun x y z => ⟨z.1, z.2.mono (List.prefix_refl _) le⟩)) (st.mono p1 (l1.trans le)) (rp1.put (o := .fdc kvs) hi (Zw ha) ⟨o, ks, z6, Paired.mapP pr fun x y z => ⟨z.1, z.2.mono (List.prefix_refl _) le⟩⟩) rfl (zBI hi ha n pr h1')
    | lst xs => exact h1'.elim
    | fdc _ => exact h1'.elim
    | ins c fs => exact h1'.elim
  | _ => exact h1.elim
theorem zAx {e : Expr} {m : M.EM} {elts : List Expr} {kt : _} {tp pos apos cpos : Pos} {body : List Stmt} {g : M.GM} {js : List Nat} {mb : M.SM} (hp : PassesOwn (model X.prog X.w) X.A X.env X.xe) (hc : X.calm = true) (he : WE X Θ e m) (hg : WG X Θ js (.Tuple elts kt tp) g) (hb : WSs X Θ body mb)
  (hbase : attributeBase e "items" X.env (eval e X.env) = eval e X.env := by rfl) (hline : (apos.endLine == cpos.line) = true := by rfl) (hs : ∀ x, foldedSetIterable (.Call (.Attribute e "items" apos) [] [] cpos) X.env x = pure x := by intro _; rfl) : WS X Θ (.For (.Tuple elts kt tp) (.Call (.Attribute e "items" apos) [] [] cpos) body [] pos) (M.yC m g mb) := by with_unfolding_all exact zFq (e := e) (m := m) (elts := elts) (kt := kt) (tp := tp) (pos := pos) (apos := apos) (cpos := cpos) (body := body) (g := g) (js := js) (mb := mb) hp hc he hg hb hbase hline hs
end
end L2
namespace L2
open PySem PySem.Spec PyProof.Rows
theorem zAg : ∀ {us : List Value} {ys : List Str}, StrsAre us ys -> zf (ys.map V.str) us
 | _, _, .nil => .nil
 | _, _, .cons x t r => .cons ⟨t, rfl⟩ (zAg r)
def zKI (K : PySem.W.Frag) : List V -> Hp -> VK -> Prop := fun xs H Q => ∃ p ys, xs = [.ref p] /\ SqL K H p (ys.map V.str) /\ ys.length < 64 /\ ∀ q ys', H q = none -> ys'.Perm ys -> sortedS ys' = true -> Q (.ref q) (upd H q (.lst (ys'.map V.str)))
theorem zEm {X : Cx} {k : Nat} (hr : jH k X.A) : qF X (.builtin "sorted") (zKI X.K) := by
 intro pins s σ H xs us Q I r h
 obtain ⟨p, ys, rfl, hq, h64, q⟩ := h
 obtain ⟨u, rfl, ru⟩ := Z6 r
 cases ru
 obtain ⟨its, rv, pl, hz⟩ := I.list hq
 have hlen : its.length = ys.length := by have := rv.length; simp at this; omega
 refine sorted_strs pl.isList (zAk rv) (by omega) fun out ys' a1 a2 a3 => ?_
 obtain ⟨e, he⟩ := sortedAll_at s.heap its out
 have hl' := a2.length_eq
 refine ⟨.ref (s.heap.objs.size + 1), _, I.laid (t' := s.toks) (o := .lst (ys'.map V.str)) (fun b ob q => sortedAll_old q) (Nat.le_succ _) ⟨by rw [List.length_map, sizeLine_eq]; omega, out.toList, e, zAg a1, ?_⟩, rfl, q _ _ (I.hok.fresh (Nat.le_succ _)) a2 a3⟩
 simpa [seqObj] using he
theorem zM1 (a : M.T) : ¬ a < a := fun h => List.lt_irrefl a h
theorem zD2 {a b c : M.T} (h1 : ¬ b < a) (h2 : ¬ c < b) : ¬ c < a := by
 rw [List.not_lt] at h1 h2 ⊢
 exact List.le_trans h1 h2
theorem zIy {a b : M.T} (h1 : ¬ b < a) (h2 : ¬ a < b) : a = b := by
 rw [List.not_lt] at h1 h2
 exact List.le_antisymm h1 h2
theorem zBw (x : M.T) : ∀ ts : List M.T, (M.jd.insT' x ts).Perm (x :: ts)
 | [] => .refl _
 | y :: r => by
  unfold M.jd.insT'
  split
  ·exact ((zBw x r).cons y).trans (.swap x y r)
  ·exact .refl _
theorem J6 : ∀ ts : List M.T, (M.jd ts).Perm ts
 | [] => .refl _
 | x :: r => (zBw x _).trans ((J6 r).cons x)
theorem zEr (x : M.T) : ∀ ts : List M.T, ts.Pairwise (fun a b => ¬ b < a) -> (M.jd.insT' x ts).Pairwise (fun a b => ¬ b < a)
 | [], _ => by unfold M.jd.insT'; simp
 | y :: r, h => by
  rw [List.pairwise_cons] at h
  unfold M.jd.insT'
  split
  ·rename_i hy
   rw [List.pairwise_cons]
   refine ⟨fun b hb => ?_, zEr x r h.2⟩
   rcases List.mem_cons.mp ((zBw x r).mem_iff.mp hb) with rfl | hb
   ·exact fun z => zM1 _ (List.lt_trans z hy)
   ·exact h.1 b hb
  ·rename_i hy
   rw [List.pairwise_cons]
   refine ⟨fun b hb => ?_, List.pairwise_cons.mpr h⟩
   rcases List.mem_cons.mp hb with rfl | hb
   ·exact hy
   ·exact zD2 hy (h.1 b hb)
theorem zDn : ∀ ts : List M.T, (M.jd ts).Pairwise (fun a b => ¬ b < a)
 | [] => .nil
 | x :: r => zEr x _ (zDn r)
theorem zBc : ∀ (p : Str) (l : List Str), risingS p l = true -> (p :: l).Pairwise (fun a b => ¬ b.cps.toList < a.cps.toList)
 | p, [], _ => by simp
 | p, x :: r, h => by
  unfold risingS at h
  rw [Bool.and_eq_true, Bool.not_eq_true', ltCps_eq, decide_eq_false_iff_not] at h
  have ih := zBc x r h.2
  rw [List.pairwise_cons]
  refine ⟨fun b hb => ?_, ih⟩
  rcases List.mem_cons.mp hb with rfl | hb
  ·exact h.1
  ·exact zD2 h.1 ((List.pairwise_cons.mp ih).1 b hb)
theorem zGu {l : List Str} (h : sortedS l = true) : l.Pairwise (fun a b => ¬ b.cps.toList < a.cps.toList) := by
 cases l with
 | nil => exact .nil
 | cons x r => exact zBc x r h
theorem zCS {ts : List M.T} {ys : List Str} (hp : ys.Perm (ts.map ofT)) (hs : sortedS ys = true) : ys = (M.jd ts).map ofT := by
 refine List.Perm.eq_of_pairwise (le := fun a b => ¬ b.cps.toList < a.cps.toList) (fun a b _ hb h1 h2 => ?_) (zGu hs) ?_ (hp.trans ((J6 ts).map ofT).symm)
 ·have e := zIy h1 h2
  cases a with
  | mk ca => cases b with
   | mk cb => exact congrArg Str.mk (Array.toList_inj.mp e)
 ·rw [List.pairwise_map]
  refine (zDn ts).imp fun {a b} h => ?_
  rw [Z8, Z8]
  exact h
section
variable {K : PySem.W.Frag} {Θ : Tab}
theorem zIE : AdN K Θ M.zAT (zKI K) := by
 intro ρ H S xs Xs Q rp rxs h
 unfold M.zAT at h
 split at h
 ·rename_i p
  obtain ⟨Y, r, rfl, ry, rfl⟩ := rxs
  split at h
  ·rename_i ds e
   obtain ⟨a, zs, rfl, ha, hx, rz⟩ := Z9 rp ry (zDc e)
   unfold M.QG at h
   split at h
   ·rename_i ts et
    obtain ⟨rfl, hok⟩ := Q5 et rz
    split at h
    ·rename_i h64
     refine ⟨a, ts.map ofT, rfl, SqL.of hx, by rw [List.length_map]; exact h64, fun q ys' hq hp hs => ?_⟩
     rw [zCS hp hs]
     exact h.alloc rp (zBt (M.jd ts) fun t ht => hok t ((J6 ts).mem_iff.mp ht)) hq
    ·exact h.elim
   ·exact h.elim
  ·exact h.elim
 ·exact h.elim
end
end L2
namespace L2
open PySem PySem.Spec PyProof.Rows
def Itk (a : Addr) (o : Obj) (kvs : List (Key × V)) : It :=
 ⟨fun i H => H a = some (.frz o (.dK kvs)) /\ ∃ p, kvs[i]? = some p, fun i H v H' => H' = H /\ ∃ p, kvs[i]? = some p /\ v = kV p.1, fun i H => H a = some (.frz o (.dK kvs)) /\ kvs.length <= i⟩
theorem zIX {P : Program} {w : World} {K : PySem.W.Frag} {tg : Expr} (a it : Addr) (o : Obj) (kvs : List (Key × V)) (vs : List (Key × Value)) (ep : Nat) (rel : KV kvs vs) (hd : ∀ h : Heap, h.get? a = some o -> h.DictAt (zq P w) a vs ep) :
  zAG P w K tg (Itk a o kvs) [it] it (fun i h => h.IsKeyIter it a i vs.length ep) where
 mem := by simp
 obj := fun i h st b hb => by
  have z : b = it := by simpa using hb
  subst z
  obtain ⟨o, e, c, d⟩ := st
  exact ⟨o, e, fun v z => by rw [d] at z; cases z⟩
 keep := fun i h h' st k => st.at fun o e => k it (by simp) o e
 item := by
  intro X hP hw hK hc i pins s σ H E I hf st hg
  subst hP hw hK
  obtain ⟨ha, p, hp⟩ := hg
  obtain ⟨go, _⟩ := (show jV X.prog X.w H s.heap a (.frz o (.dK kvs)) from I.hok a _ ha)
  obtain ⟨q, hq, r1, r2⟩ := zIM rel hp
  obtain ⟨k, v⟩ := q
  obtain ⟨f0, f1, f2, f3, f4, f5⟩ := hf it (by simp)
  refine wpAny_pyNext_dict_item st (hd _ go) hq fun key h' hk st' sb => ?_
  have I1 : Inv X pins σ H { s with heap := h' } := I.turned (t' := s.toks) (fun b o hb e => sb.extBut b o hb e) f0 f1 f3 f4 f5
  obtain ⟨o', e, c, d⟩ := id st'
  exact ⟨key, rfl, zBa (s := { s with heap := h' }) e c d (by decide) ⟨kV p.1, H, I1, by rw [r1]; exact zKL hk, ⟨rfl, p, hp, rfl⟩, st', fun b hb => (hf b hb).1⟩⟩
 done := by
  intro X hP hw hK hc i pins s σ H E I hf st hg
  subst hP hw hK
  obtain ⟨ha, hl⟩ := hg
  obtain ⟨go, _⟩ := (show jV X.prog X.w H s.heap a (.frz o (.dK kvs)) from I.hok a _ ha)
  obtain ⟨f0, f1, f2, f3, f4, f5⟩ := hf it (by simp)
  have el : kvs.length = vs.length := Paired.length rel
  exact wpAny_pyNext_dict_end (I.ok.hd hc) st (hd _ go) (List.getElem?_eq_none (by omega)) fun h' eb => ⟨rfl, I.turned (t' := s.toks) (fun b o hb e => eb b o hb e) f0 f1 f3 f4 f5⟩
 self := fun _ _ _ _ _ st h => wpAny_pyIter_keyiter st h
def zOj (te : TE) : TI := fun σ H R => te σ H fun v H1 => ∃ a o kvs, v = .ref a /\ H1 a = some (.frz o (.dK kvs)) /\ R (Itk a o kvs) H1
theorem zNK {X : Cx} {pins : List (Addr × Obj)} {σ : St} {H : Hp} {s : Shared} {a : Addr} {o : Obj} {kvs : List (Key × V)} (I : Inv X pins σ H s) (e : H a = some (.frz o (.dK kvs))) :
  (a == sysModules) = false /\ ∃ vs ep, KV kvs vs /\ (∀ h : Heap, h.get? a = some o -> h.DictAt (zq X.prog X.w) a vs ep) /\ s.heap.get? a = some o := by
 obtain ⟨go, z, hd, vs, rel, o', es, ep, ho, r⟩ := (show jV X.prog X.w H s.heap a (.frz o (.dK kvs)) from I.hok a _ e)
 rw [go] at ho; cases ho
 exact ⟨hd, vs, ep, rel, fun h q => ⟨o, es, q, r⟩, go⟩
theorem zF5 {X : Cx} {pins : List (Addr × Obj)} {σ : St} {H : Hp} {s : Shared} {a : Addr} {o : Obj} {kvs : List (Key × V)} {tg : Expr} {R : It -> Hp -> Prop} {E : Value -> Shared -> Prop} (I : Inv X pins σ H s) (e : H a = some (.frz o (.dK kvs))) (q : R (Itk a o kvs) H) :
  wpAny (model X.prog X.w) X.A (pyIter (.ref a)) (PIE X pins σ tg R) E s := by
 obtain ⟨hd, vs, ep, rel, hD, go⟩ := zNK I e
 refine wpAny_pyIter_dict hd (hD _ go) ?_
 refine ⟨s.heap.objs.size, [s.heap.objs.size], _, _, H, rfl, I.kept (t' := s.toks) (fun b ob e => Heap.get?_push_of_some _ e), zIX a _ o kvs vs ep rel hD, ⟨_, Heap.get?_push_size _ rfl, rfl, rfl⟩, fun b hb => ?_, q⟩
 have zb : b = s.heap.objs.size := by simpa using hb
 subst zb
 exact I.fpOk (Nat.le_refl _) (I.hok.fresh (Nat.le_refl _))
theorem zJm {X : Cx} {tg e : Expr} {te : TE} (he : PE X e te) : PI X tg e (zOj te) := by
 intro pins s σ H R I h
 refine thn (he pins s σ H _ I h) fun v s1 ⟨x, H1, I1, r1, q1⟩ => ?_
 obtain ⟨a, o, kvs, rfl, ha, q⟩ := q1
 obtain rfl : v = Value.ref a := r1
 exact zF5 I1 ha q
def iKy (H₀ : Hp) (te : TE) : TI := fun σ H R => te σ H fun v H1 => ∃ a kvs, v = .ref a /\ H1 a = some (.dK kvs) /\ ∀ o, (∀ o u, H₀ a ≠ some (.frz o u)) -> R (Itk a o kvs) (upd H1 a (.frz o (.dK kvs)))
theorem zKn {X : Cx} {tg e : Expr} {te : TE} (he : PE X e te) : PI X tg e (iKy X.H₀ te) := by
 intro pins s σ H R I h
 refine thn (he pins s σ H _ I h) fun v s1 ⟨x, H1, I1, r1, q1⟩ => ?_
 obtain ⟨a, kvs, rfl, ha, q⟩ := q1
 obtain rfl : v = Value.ref a := r1
 obtain ⟨o, vs', ep, rel', hD, go, I2⟩ := I1.freeze ha
 exact zF5 I2 z6 (q o (I1.dict_base ha))
section
variable {K : PySem.W.Frag} {Θ : Tab} {ρ : List Addr} {H : Hp}
theorem zEU {a : Addr} {o : Obj} {kvs : List (M.D × M.D)} {ks : List (Key × V)} (ha : H a = some (.frz o (.dK ks))) (r : Paired (fun (p : M.D × M.D) (q : Key × V) => yO p.1 q.1 /\ zM K ρ H p.2 q.2) kvs ks) : ItR K Θ ρ H (Itk a o ks) (kvs.map (·.1)) [] := by
 have el : kvs.length = ks.length := Paired.length r
 refine ⟨fun j ρ' S' H' p l rp g hj => ?_, fun j ρ' S' H' v H2 p l rp g hj y => ?_, fun ρ' S' H' p l rp g => ?_⟩
 ·rw [List.length_map, el] at hj
  exact ⟨l.frzs _ _ _ ha, ks[j], by simp [hj]⟩
 ·obtain ⟨rfl, q, hk, rfl⟩ := y
  obtain ⟨x, hx, r1, r2⟩ := zDZ r hk
  exact ⟨x.1, by rw [List.getElem?_map, hx]; rfl, yO.rel r1, Le.refl _, rp⟩
 ·exact ⟨l.frzs _ _ _ ha, by rw [List.length_map, el]; exact Nat.le_refl _⟩
end
section
variable {X : Cx} {Θ : Tab}
theorem zGo {tg e : Expr} {m : M.EM} {pos : Pos} {body : List Stmt} {g : M.GM} {js : List Nat} {mb : M.SM} (hp : PassesOwn (model X.prog X.w) X.A X.env X.xe) (hc : X.calm = true) (he : ME X Θ e m) (hg : MG X Θ js tg g) (hb : MSs X Θ body mb)
  (hs : ∀ x, foldedSetIterable e X.env x = pure x := by intro _; rfl) : MS X Θ (.For tg e body [] pos) (M.jw m g mb) :=
 (zDA (zFJ hp hc (zKn he) hg hb hs)).imp fun D σ H ⟨ρ, σ', S, st, rp, h⟩ => by
  refine ⟨ρ, σ', S, st, rp, ze.stm h fun ρ1 H1 d v S1 p1 l1 rp1 rv h1 => ?_⟩
  cases d with
  | ref i =>
   obtain ⟨a, rfl, hi⟩ := rv
   have h1' : ze X.K Θ ρ1 H1 (match S1[i]? with
    | some (.dct kvs) => M.thaw i kvs (M.jm [] (M.jU g mb) (kvs.map (·.1)) σ' (S1.set i (.fdc kvs)))
    | _ => .no) D := h1
   cases q : S1[i]? with
   | none => rw [q] at h1'; exact h1'.elim
   | some ob =>
    rw [q] at h1'
    cases ob with
    | dct kvs =>
     obtain ⟨b, hb', ks, ha, pr⟩ := rp1.obj i _ q
     rw [hi] at hb'; cases hb'
     refine ⟨a, ks, rfl, ha, fun o n => ?_⟩
     have le : Le H1 (upd H1 a (.frz o (.dK ks))) := Le.put (Zw ha) _
     have pr' := Paired.mapP pr fun x y z => (⟨z.1, z.2.mono (List.prefix_refl _) le⟩ : yO x.1 y.1 /\ zM X.K ρ1 (upd H1 a (.frz o (.dK ks))) x.2 y.2)
     exact zGh (zEU z6 pr') (st.mono p1 (l1.trans le)) (rp1.put (o := .fdc kvs) hi (Zw ha) ⟨o, ks, z6, pr'⟩) rfl (zBI hi ha n pr h1')
    | lst xs => exact h1'.elim
    | fdc _ => exact h1'.elim
    | ins c fs => exact h1'.elim
  | _ => exact h1.elim
theorem QJ {tg e : Expr} {m : M.EM} {pos : Pos} {body : List Stmt} {g : M.GM} {js : List Nat} {mb : M.SM} (hp : PassesOwn (model X.prog X.w) X.A X.env X.xe) (hc : X.calm = true) (he : WE X Θ e m) (hg : WG X Θ js tg g) (hb : WSs X Θ body mb)
  (hs : ∀ x, foldedSetIterable e X.env x = pure x := by intro _; rfl) : WS X Θ (.For tg e body [] pos) (M.jw m g mb) := by with_unfolding_all exact zGo (tg := tg) (e := e) (m := m) (pos := pos) (body := body) (g := g) (js := js) (mb := mb) hp hc he hg hb hs
theorem zKu {tg e : Expr} {m : M.EM} (he : ME X Θ e m) : MI X Θ tg e (M.yA m) := (zJm he).imp fun σ H R ⟨ρ, σ', S, st, rp, h⟩ => ⟨ρ, σ', S, st, rp, by
 have h' : zF X.K Θ _ ρ H (((m σ' S).bind fun x s => match x with
  | .ref i => (match s[i]? with | some (.fdc kvs) => M.R.ok (kvs.map fun p : M.D × M.D => p.1, ([] : M.Gd)) s | _ => .no)
  | _ => .no).bind fun p s => if M.zQ p.2 s then .ok p s else .no) R := h
 clear h
 cases hm : m σ' S with
 | no => rw [hm] at h'; exact h'.elim
 | exc a s => rw [hm] at h'; exact h'.elim
 | ok d S1 =>
  rw [hm] at h'
  intro ρ1 H1 v p l rp1 rv
  cases d with
  | ref i =>
   obtain ⟨a, rfl, hi⟩ := rv
   have h2 : zF X.K Θ _ ρ H ((match S1[i]? with | some (.fdc kvs) => M.R.ok (kvs.map fun p : M.D × M.D => p.1, ([] : M.Gd)) S1 | _ => .no).bind fun p s => if M.zQ p.2 s then .ok p s else .no) R := h'
   cases q : S1[i]? with
   | none => rw [q] at h2; exact h2.elim
   | some ob =>
    rw [q] at h2
    cases ob with
    | fdc kvs =>
     obtain ⟨b, hb', o, ks, ha, pr⟩ := rp1.obj i _ q
     rw [hi] at hb'; cases hb'
     exact ⟨a, o, ks, rfl, ha, h2 ρ1 H1 _ p l rp1 (zEU ha pr)⟩
    | lst xs => exact h2.elim
    | dct _ => exact h2.elim
    | ins c fs => exact h2.elim
  | _ => exact h'.elim⟩
theorem Jx {tg e : Expr} {m : M.EM} (he : WE X Θ e m) : WI X Θ tg e (M.yA m) := by with_unfolding_all exact zKu (tg := tg) (e := e) (m := m) he
theorem zMb {i : Nat} {stm : Stmt} {mb : M.SM} (hb : MS X Θ stm mb) : MS X Θ stm (M.JB i mb) := by
 intro pins s σ H D I ⟨ρ, σ', S, st, rp, h⟩
 have h' : ze X.K Θ ρ H (match σ'[i]? with
  | some (some (.ref p)) => (match S[p]? with
   | some (.dct kvs) => M.thaw p kvs (mb σ' (S.set p (.fdc kvs)))
   | _ => .no)
  | _ => .no) D := h
 clear h
 split at h'
 ·rename_i p e
  split at h'
  ·rename_i kvs q
   obtain ⟨v, e1, a, rfl, hi⟩ := st.get i _ e
   obtain ⟨b, hb', ks, ha, pr⟩ := rp.obj p _ q
   rw [hi] at hb'; cases hb'
   obtain ⟨o, vs', ep, rel', hD, go, I2⟩ := I.freeze ha
   have n := I.dict_base ha
   have le : Le H (upd H a (.frz o (.dK ks))) := Le.put (Zw ha) _
   have pr' := Paired.mapP pr fun x y z => (⟨z.1, z.2.mono (List.prefix_refl _) le⟩ : yO x.1 y.1 /\ zM X.K ρ (upd H a (.frz o (.dK ks))) x.2 y.2)
   exact zDA hb pins s σ _ D I2 ⟨ρ, σ', S.set p (.fdc kvs), st.mono (List.prefix_refl _) le, rp.put (o := .fdc kvs) hi (Zw ha) ⟨o, ks, z6, pr'⟩, zBI hi ha n pr h'⟩
  ·exact h'.elim
 ·exact h'.elim
theorem zAn {i : Nat} {stm : Stmt} {mb : M.SM} (hb : WS X Θ stm mb) : WS X Θ stm (M.JB i mb) := by with_unfolding_all exact zMb (i := i) (stm := stm) (mb := mb) hb
end
end L2
namespace L2
open PySem PySem.Spec PyProof.Rows
section
variable {P : Program} {w : World} {A : Around} {E : Value -> Shared -> Prop} {s : Shared}
theorem zEX : typeLookup (.type "list") "keys" = pure none := by rw [typeLookup_type, builtinLookup_eq_fast]; kernel_rfl
theorem zDB {a : Addr} {o : Obj} {xs : Array Value} {k : Nat} {Q : Option Value -> Shared -> Prop} (hx : s.heap.get? a = some o) (hc : o.cls = .type "list") (hdat : o.data = .seq xs k) (hd : o.dict = none) (hA : A.handled = none)
  (h : ∀ h' tk, (∀ b ob, s.heap.get? b = some ob -> h'.get? b = some ob) -> Q none { s with heap := h', toks := tk }) : wpAny (model P w) A (getAttr? (.ref a) "keys") Q E s := by
 obtain ⟨c, dct, dat, sl⟩ := o
 simp only at hc hdat hd
 subst hc hdat hd
 obtain ⟨hp, g, d, tk, os⟩ := s
 have hT : ∀ tk', (⟨hp, g, d, tk', os⟩ : Shared).TypeIs (.ref a) "list" := fun _ => ⟨_, hx, rfl⟩
 have f1 := sub_AttributeError
 have f3 := PySem.F.slot_list_getattribute.lookup
 have f4 := PySem.F.slot_list_getattribute.bind (.ref a)
 have f5 := am_list_getattr_none
 unfold getAttr? getAttrBy? getAttrBy
 repeat (any_goals (first | assumption | exact hT _ | ((with_reducible show wpAny _ _ (call (Value.builtin "list.__getattribute__") _ _) _ _ _); refine call_meets PySem.F.slot_list_getattribute (hT _) am_entry_list_getattribute (PySem.F.args_list_getattribute_2 _ _) (meets_getattribute_miss_list a xs k sl "keys" _ zEX (by decide +kernel) (by size_fits)) ⟨hx, hA, fun h' tk' e hx' => ?_⟩) | wp_step))
 obtain ⟨t', u', he⟩ := hx'.there
 show wpAny _ _ (getattributeRaised _ _ _ _ _ _ _) _ _ _
 unfold getattributeRaised
 repeat (any_goals (first | assumption | wp_step))
 exact h _ _ hx'.keeps
theorem Zy : entryFor table "dict.update.loop" = some Builtin.«dict.update.loop» := entryFor_of_tree (by kernel_rfl)
theorem qf : plainId "dict.update.loop" = true := by decide +kernel
def zAl (h : Heap) (a : Addr) (its : List Value) : Prop := ∃ o n, h.get? a = some o /\ o.cls = .type "tuple" /\ o.data = .seq its.toArray n
theorem zAl.at {h h' : Heap} {a : Addr} {its : List Value} (x : zAl h a its) (e : ∀ o, h.get? a = some o -> h'.get? a = some o) : zAl h' a its := by
 obtain ⟨o, n, ho, r⟩ := x
 exact ⟨o, n, e _ ho, r⟩
abbrev Pq := Addr × Key × Value × Value
def stL (qs : List Pq) : List (Key × Value) := qs.foldl (fun acc q => stored acc q.2.1 q.2.2.2) []
theorem zJT (qs : List Pq) (q : Pq) : stL (qs ++ [q]) = stored (stL qs) q.2.1 q.2.2.2 := by
 unfold stL; rw [List.foldl_append]; rfl
theorem zH0 (kvs : List (Key × Value)) (k : Key) (v : Value) : (stored kvs k v).length <= kvs.length + 1 := by
 unfold stored; split <;> simp
theorem zIq (qs : List Pq) : (stL qs).length <= qs.length := by
 have : ∀ (qs : List Pq) (acc : List (Key × Value)), (qs.foldl (fun acc q => stored acc q.2.1 q.2.2.2) acc).length <= acc.length + qs.length := by
  intro qs
  induction qs with
  | nil => intro acc; simp
  | cons q qs ih =>
   intro acc
   have h1 := ih (stored acc q.2.1 q.2.2.2)
   have h2 := zH0 acc q.2.1 q.2.2.2
   simp only [List.foldl_cons, List.length_cons]
   omega
 have := this qs []
 simpa [stL] using this
theorem zHv {R : Result -> Shared -> Prop} {I : Addr} {fp wr : List Addr} {G : Array GenState -> Array GenState -> Prop} {qs : List Pq} {Pv : Nat -> Value -> Prop} {St : Nat -> Shared -> Prop} (W : WalksS P w A.in1 I fp wr G qs.length Pv St) (D : Addr) (hD : D ∉ fp) (hv : ∀ i v, Pv i v -> ∃ q, qs[i]? = some q /\ v = .ref q.1)
  (hq : ∀ q ∈ qs, q.1 ∉ D :: wr /\ (zq P w).is q.2.1 q.2.2.1 = true) (hb : qs.length <= sizeLine) :
  ∀ (k i : Nat) (s : Shared) (j : Tok) (jj : Int), qs.length - i = k -> i <= qs.length -> St i s -> s.heap.DictOf (zq P w) D (stL (qs.take i)) -> (∀ q ∈ qs, zAl s.heap q.1 [q.2.2.1, q.2.2.2]) -> (∀ s', Moved (D :: wr) G s s' -> s'.heap.DictOf (zq P w) D (stL qs) -> R (.ok (.ret .none)) s') ->
   codeAny (model P w) A (.builtin "dict.update.loop" ⟨[.ref D, .ref I, .int jj j, .none], []⟩) R s := by
 have nw : D ∉ wr := fun h => hD (W.sub _ h)
 have sb : ∀ b ∈ wr, b ∈ D :: wr := fun b hb => List.mem_cons_of_mem _ hb
 intro k
 induction k with
 | zero =>
  intro i s j jj hk hi st hS ht hR
  have e : i = qs.length := by omega
  subst e
  rw [List.take_length] at hS
  refine codeAny_builtin Zy ?_
  rw [Around.under_plainId qf _]
  show wpAny (model P w) A.in1 (pyNext (.ref I) >>= _) _ _ s
  refine wpAny_bind (W.done s _ _ st fun s' hm => ?_)
  show wpAny (model P w) A.in1 (Builtin.Dict.addKeywords D [] >>= _) _ _ s'
  refine wpAny_bind (wpAny_pure (wpAny_pure (hR s' (hm.mono sb) ?_)))
  obtain ⟨o, es, ep, ho, r⟩ := hS
  exact ⟨o, es, ep, hm.heap D _ nw ho, r⟩
 | succ k ih =>
  intro i s j jj hk hi st hS ht hR
  have lt : i < qs.length := by omega
  refine codeAny_builtin Zy ?_
  rw [Around.under_plainId qf _]
  show wpAny (model P w) A.in1 (pyNext (.ref I) >>= _) _ _ s
  refine wpAny_bind (W.item i s _ _ lt st fun v s' hP st' hm => ?_)
  obtain ⟨q, ex, rfl⟩ := hv i v hP
  have hmem : q ∈ qs := List.mem_of_getElem? ex
  obtain ⟨hnq, hkq⟩ := hq q hmem
  have hS1 : s'.heap.DictOf (zq P w) D (stL (qs.take i)) := by
   obtain ⟨o, es, ep, ho, r⟩ := hS
   exact ⟨o, es, ep, hm.heap D _ nw ho, r⟩
  have ht1 : ∀ q ∈ qs, zAl s'.heap q.1 [q.2.2.1, q.2.2.2] := fun q' h' => (ht q' h').at fun o ho => hm.heap _ _ (fun z => (hq q' h').1 (sb _ z)) ho
  obtain ⟨o, n, ho, hc, hd⟩ := ht1 q hmem
  refine wpAny_bind (wpAny_holding ?_)
  refine wpAny_bind (wpAny_tryCatch ?_)
  unfold Builtin.Dict.pairItems
  refine wpAny_bind (wpAny_typeOf (T := "tuple") ⟨o, ho, hc⟩ ?_)
  rw [if_pos (by decide)]
  refine wpAny_bind (wpAny_seqItems ho hd ?_)
  refine wpAny_pure ?_
  show wpAny (model P w) A.in1 (holding [q.2.2.1, q.2.2.2] (dictSet D q.2.2.1 q.2.2.2)) _ _ s'
  refine wpAny_holding ?_
  have room : (stL (qs.take i)).length <= sizeLine := by
   have := zIq (qs.take i)
   rw [List.length_take] at this
   omega
  refine wpAny_dictSet_pairs hkq hS1 (fun h' hS2 hs => ?_) room
  have e3 : stored (stL (qs.take i)) q.2.1 q.2.2.2 = stL (qs.take (i + 1)) := by
   rw [List.take_succ, ex, Option.toList_some, zJT]
  rw [e3] at hS2
  refine wpAny_pure ⟨plainId_quiet qf _, ih (i + 1) _ _ _ (by omega) lt (W.frame _ s' _ _ st' (Nat.le_succ _) fun b hb o e => ?_) hS2 (fun q' h' => (ht1 q' h').at fun o ho => ?_) fun s2 hm2 hS4 => ?_⟩
  ·rw [hs.2 b (fun h : b = D => hD (by rw [<- h]; exact hb))]; exact e
  ·rw [hs.2 _ (fun h : _ = D => (hq q' h').1 (by rw [h]; exact List.mem_cons_self))]; exact ho
  ·refine hR s2 (Moved.trans W.gtrans ((hm.mono sb).then_heap (Nat.le_succ _) fun b o hb e => ?_) hm2) hS4
   rw [hs.2 b (fun h : b = D => hb (by rw [h]; exact List.mem_cons_self))]; exact e
end
end L2
namespace L2
open PySem PySem.Spec PyProof.Rows
section
variable {P : Program} {w : World} {A : Around} {E : Value -> Shared -> Prop} {s : Shared}
theorem zCI {l : Addr} {its : List Value} {qs : List Pq} {Q : Value -> Shared -> Prop} (hh : A.handled = none) {ol : Obj} {nl : Nat} (gl : s.heap.get? l = some ol) (cl : ol.cls = .type "list") (dl : ol.data = .seq its.toArray nl) (el : ol.dict = none) (hn : its.length = qs.length) (hi : ∀ (i : Nat) (v : Value), its[i]? = some v -> ∃ q, qs[i]? = some q /\ v = .ref q.1)
  (hq : ∀ q ∈ qs, (zq P w).is q.2.1 q.2.2.1 = true /\ zAl s.heap q.1 [q.2.2.1, q.2.2.2]) (hb : qs.length <= sizeLine)
  (h : ∀ (h' : Heap) (tk : Nat), h'.DictOf (zq P w) s.heap.objs.size (stL qs) -> (∀ b o, s.heap.get? b = some o -> h'.get? b = some o) -> Q (.ref s.heap.objs.size) { s with heap := h', toks := tk }) :
  wpAny (model P w) A (call (.type "dict") [.ref l]) Q E s := by
 refine callType_codes (Q₁ := fun obj s₁ => obj = .ref s.heap.objs.size /\ s₁ = { s with heap := s.heap.push { cls := .type "dict", data := .dict #[] } }) PySem.F.kt_called_dict (PySem.F.kt_typeCall_dict_1 _) PySem.F.entry_dict_init (PySem.kt_code_dict_new _ ⟨rfl, rfl⟩) ?_
 rintro obj s₁ ⟨rfl, rfl⟩
 have hnew : (s.heap.push { cls := .type "dict", data := .dict #[] }).DictOf (zq P w) s.heap.objs.size [] := Heap.DictOf.new s.heap
 have gl1 : (s.heap.push { cls := .type "dict", data := .dict #[] }).get? l = some ol := Heap.get?_push_of_some _ gl
 have lt : l < s.heap.objs.size := Heap.lt_size gl
 refine ⟨hnew.typeIs, PySem.F.args_dict_init_2 _ _, ?_⟩
 unfold Builtin.«dict.__init__»
 refine wpAny_bind ?_
 unfold Builtin.Dict.selfAndRest
 refine wpAny_bind (wpAny_notOrdered_dict hnew.typeIs ?_)
 show wpAny _ _ (pure (s.heap.objs.size, [Value.ref l])) _ _ _
 refine wpAny_pure ?_
 show wpAny _ _ (Builtin.Dict.updateFrom "dict.__init__" s.heap.objs.size (.ref l) [] .none) _ _ _
 unfold Builtin.Dict.updateFrom
 refine wpAny_bind (wpAny_typeOf (T := "list") ⟨ol, gl1, cl⟩ ?_)
 rw [if_pos (by decide)]
 refine wpAny_bind (zDB gl1 cl dl el hh fun h1 tk1 kp1 => ?_)
 have k1 : ∀ b o, s.heap.get? b = some o -> h1.get? b = some o := fun b o e => kp1 _ _ (Heap.get?_push_of_some _ e)
 have gd1 : h1.DictOf (zq P w) s.heap.objs.size [] := by
  obtain ⟨o, es, ep, ho, r⟩ := hnew
  exact ⟨o, es, ep, kp1 _ _ ho, r⟩
 have hl1 : h1.IsList l its.toArray := ⟨ol, k1 _ _ gl, cl, nl, dl⟩
 rw [if_pos (by rfl)]
 refine wpAny_bind (wpAny_rule ?_)
 refine wpAny_bind (wpAny_pyIter_list (s := { s with heap := h1, toks := tk1 }) hl1 ?_)
 refine wpAny_pure ⟨plainId_quiet qf _, ?_⟩
 have lt1 : s.heap.objs.size < h1.objs.size := by
  obtain ⟨o, es, ep, ho, r⟩ := gd1
  exact Heap.lt_size ho
 have nf : s.heap.objs.size ∉ [h1.objs.size, l] := by
  intro hm
  rcases List.mem_cons.mp hm with e | hm
  ·exact absurd e (Nat.ne_of_lt lt1)
  ·exact absurd (List.mem_singleton.mp hm) (Nat.ne_of_gt lt)
 have W := (Walks.list (prog := P) (w := w) (A := A.in1.in1) hh h1.objs.size l (Nat.ne_of_lt (Nat.lt_trans lt lt1)) its.toArray).toS
 have ez : its.toArray.size = qs.length := by rw [List.size_toArray]; exact hn
 rw [ez] at W
 refine zHv W s.heap.objs.size nf (fun i v hv => hi i v (by simpa using hv)) (fun q hm => ⟨fun z => ?_, (hq q hm).1⟩) hb qs.length 0 _ _ _ (by omega) (Nat.zero_le _) ⟨⟨_, Heap.get?_push_size _ rfl, rfl, rfl⟩, hl1.push _⟩ (gd1.push _) (fun q hm => (hq q hm).2.at fun o ho => Heap.get?_push_of_some _ (k1 _ _ ho)) fun s' hm hS' => ?_
 ·obtain ⟨o, n, ho, _⟩ := (hq q hm).2
  have l1 := Heap.lt_size ho
  rcases List.mem_cons.mp z with e | z
  ·exact absurd e (Nat.ne_of_lt l1)
  ·exact absurd (List.mem_singleton.mp z) (Nat.ne_of_lt (Nat.lt_trans l1 lt1))
 ·rw [Moved.eq_with hm]
  refine ⟨rfl, h _ _ hS' fun b o e => hm.heap b o (fun hmem => ?_) (Heap.get?_push_of_some _ (k1 _ _ e))⟩
  have hc := Heap.lt_size e
  rcases List.mem_cons.mp hmem with e' | hmem
  ·exact Nat.ne_of_lt hc e'
  ·exact Nat.ne_of_lt (Nat.lt_trans hc lt1) (List.mem_singleton.mp hmem)
theorem zFv {d : Addr} {kvs : List (Key × Value)} {ep : Nat} {ss : List Str} {Q : Value -> Shared -> Prop} (hh : A.handled = none) (lo : (d == sysModules) = false) (da : s.heap.DictAt (zq P w) d kvs ep) (hS : ∀ vs : List Value, vs.length = kvs.length -> (∀ (j : Nat) v, vs[j]? = some v -> ∃ k x, kvs[j]? = some (k, x) /\ (zq P w).is k v = true) -> StrsAre vs ss) (h64 : kvs.length < 64)
  (h : ∀ (h1 h' : Heap) (tk : Nat) (L : Addr) (out : List Value) (e : Nat) (ss' : List Str), h1.objs.size <= L -> (∀ b o, s.heap.get? b = some o -> h1.get? b = some o) -> (∀ b o, h1.get? b = some o -> h'.get? b = some o) -> h'.get? L = some (seqObj "list" out.toArray e) -> StrsAre out ss' -> ss'.Perm ss -> sortedS ss' = true -> Q (.ref L) { s with heap := h', toks := tk }) :
  wpAny (model P w) A (call (.builtin "sorted") [.ref d]) Q E s := by
 refine Calls.call_function_entry kind_sorted plain_sorted entry_sorted (args_sorted1 _) ?_
 unfold Builtin.«sorted»
 refine wpAny_bind (m := checkCount "sorted" 1 1 _) (wpAny_pure ?_)
 refine wpAny_bind (PySem.W.kdu_collect (A := A.in1) (PySem.W.kdl_dict lo) hh da (by rw [sizeLine_eq]; omega) fun h1 tk acc hk hacc => ?_)
 have hl : acc.toList.length = kvs.length := by rw [Array.length_toList]; exact hacc.1
 refine wpAny_bind (wpAny_newList ?_ (by rw [hl, sizeLine_eq]; omega))
 have hst : StrsAre acc.toList ss := hS _ hl fun j v e => by
  obtain ⟨k, x, e1, e2⟩ := hacc.2 j v (by rw [<- Array.getElem?_toList]; exact e)
  exact ⟨k, x, e1, e2⟩
 have hoL : (h1.push (seqObj "list" acc.toList.toArray 0)).get? h1.objs.size = some (seqObj "list" acc.toList.toArray 0) := Heap.get?_push_size _ rfl
 show wpAny _ _ _ _ _ { s with heap := h1.push (seqObj "list" acc.toList.toArray 0), toks := tk }
 refine wpAny_bind (wpAny_holding (wpAny_call_entry slot_list_sort ⟨_, hoL, rfl⟩ entry_list_sort (list_sort_treeK strKind_oneLt hoL hst.keysOf (fun v₁ v₂ jW e => keyKind_strs (by rw [<- e]; exact hst)) (by rw [hl]; exact h64) fun st' a1 a2 => ⟨_, rfl, ?_⟩) (args_list_sort _)))
 obtain ⟨ss', b1, b2, b3⟩ := sorted_out_str hst a1 a2
 obtain ⟨e, he⟩ := sortedHeap_at (out := (arrOf st').map (·.2)) hoL
 refine wpAny_pure ⟨_, rfl, h h1 _ tk h1.objs.size ((arrOf st').map (·.2)).toList e ss' (Nat.le_refl _) hk (fun b o q => ?_) (by rw [Array.toArray_toList]; exact he) b1 b2 b3⟩
 have lb := Heap.lt_size q
 rw [sortedHeap_old (Nat.ne_of_lt lb) (by rw [size_push']; exact Nat.lt_succ_of_lt lb)]
 exact Heap.get?_push_of_some _ q
end
end L2
namespace L2
open PySem PySem.Spec PyProof.Rows
abbrev zGk (K : PySem.W.Frag) (H : Hp) : Key × V -> V -> Prop := fun p y => ∃ t, y = .ref t /\ SqT K H t [kV p.1, p.2]
def zEP (ps : List (Key × V)) : List (Key × V) := ps.foldl (fun a p => qu a p.1 p.2) []
def zIB (K : PySem.W.Frag) : List V -> Hp -> VK -> Prop := fun xs H Q => ∃ p ys ps, xs = [.ref p] /\ SqL K H p ys /\ ys.length <= 1000 /\ Paired (zGk K H) ps ys /\ ∀ l, H l = none -> Q (.ref l) (upd H l (.dK (zEP ps)))
abbrev QP : Key × V -> Pq -> Prop := fun p q => p.1 = q.2.1 /\ zZ p.2 q.2.2.2
theorem zFD {X : Cx} {pins : List (Addr × Obj)} {σ : St} {H : Hp} {s : Shared} (I : Inv X pins σ H s) : ∀ {ps : List (Key × V)} {ys : List V} {its : List Value}, Paired (zGk X.K H) ps ys -> zf ys its ->
  ∃ qs : List Pq, its.length = qs.length /\ (∀ (i : Nat) (v : Value), its[i]? = some v -> ∃ q, qs[i]? = some q /\ v = .ref q.1) /\ (∀ q ∈ qs, (zq X.prog X.w).is q.2.1 q.2.2.1 = true /\ zAl s.heap q.1 [q.2.2.1, q.2.2.2]) /\ Paired QP ps qs
 | [], _, _, .nil, .nil => ⟨[], rfl, fun i v e => by simp at e, fun q h => absurd h List.not_mem_nil, Paired.nil⟩
 | p :: ps, _, _, .cons hp tp, .cons hv tv => by
  obtain ⟨qs, h1, h2, h3, h4⟩ := zFD I tp tv
  obtain ⟨t, rfl, hq⟩ := hp
  obtain ⟨us, ru, ⟨o, e1, e2, n, e3⟩, _⟩ := I.tuple hq
  obtain ⟨ku, vu, rfl, rk, rv⟩ : ∃ ku vu, us = [ku, vu] /\ zZ (kV p.1) ku /\ zZ p.2 vu := by
   cases ru with
   | cons a b => cases b with
    | cons c d => cases d; exact ⟨_, _, rfl, a, c⟩
  refine ⟨(t, p.1, ku, vu) :: qs, by simp [h1], fun i v e => ?_, fun q h => ?_, .cons ⟨rfl, rv⟩ h4⟩
  ·cases i with
   | zero => cases e; exact ⟨_, rfl, hv⟩
   | succ i => exact h2 i v e
  ·rcases List.mem_cons.mp h with rfl | h
   ·exact ⟨JJ rk, o, n, e1, e2, e3⟩
   ·exact h3 q h
theorem zLY {ps : List (Key × V)} {qs : List Pq} (h : Paired QP ps qs) : ∀ {kvs : List (Key × V)} {vs : List (Key × Value)}, KV kvs vs -> KV (ps.foldl (fun a p => qu a p.1 p.2) kvs) (qs.foldl (fun acc q => stored acc q.2.1 q.2.2.2) vs) := by
 induction h with
 | nil => exact fun r => r
 | @cons p q _ _ h t ih =>
  intro kvs vs r
  have e : KV (qu kvs p.1 p.2) (stored vs q.2.1 q.2.2.2) := by rw [<- h.1]; exact r.put p.1 h.2
  exact ih e
theorem zAm {X : Cx} {k : Nat} (hr : jH k X.A) : qF X (.type "dict") (zIB X.K) := by
 intro pins s σ H xs us Q I r h
 obtain ⟨p, ys, ps, rfl, hp, hz, pr, q⟩ := h
 obtain ⟨u, rfl, ru⟩ := Z6 r
 cases ru
 obtain ⟨its, rv, ⟨o, n, e1, e2, e3, e4⟩, _⟩ := I.list hp
 obtain ⟨qs, h1, h2, h3, h4⟩ := zFD I pr rv
 have hl := rv.length
 have lo2 : (s.heap.objs.size == sysModules) = false := by have := I.big; exact beq_eq_false_iff_ne.mpr (Nat.ne_of_gt this)
 have kv := zLY h4 (.nil : KV ([] : List (Key × V)) [])
 have z : (zEP ps).length <= sizeLine := by
  have a := kv.length
  have b := zIq qs
  unfold stL at b
  unfold zEP
  rw [sizeLine_eq]
  omega
 refine wpAny_with_toks (n := 1) I.tk (zCI hr.hd e1 e2 e4 e3 h1 h2 h3 (by rw [sizeLine_eq]; omega) fun h' tk dd' kp htk => ?_)
 exact ⟨.ref s.heap.objs.size, _, I.laid (t' := tk) (o := .dK (zEP ps)) kp (Nat.le_refl _) (zE9 z lo2 kv dd') htk, rfl, q _ (I.hok.fresh (Nat.le_refl _))⟩
def zHm : List V -> Hp -> VK -> Prop := fun xs H Q => ∃ p ks ys, xs = [.ref p] /\ H p = some (.dK ks) /\ ks.map (fun kv => kV kv.1) = ys.map V.str /\ ys.length < 64 /\ ∀ q ys', H q = none -> ys'.Perm ys -> sortedS ys' = true -> Q (.ref q) (upd H q (.lst (ys'.map V.str)))
theorem zDe : ∀ {ys : List Str} {vs : List Value}, zf (ys.map V.str) vs -> StrsAre vs ys
 | [], _, .nil => .nil
 | y :: ys, _, .cons h t => by
  obtain ⟨u, rfl⟩ := (show ∃ t, _ = Value.str y t from h)
  exact .cons y u (zDe t)
theorem zBA {X : Cx} {k : Nat} (hr : jH k X.A) : qF X (.builtin "sorted") zHm := by
 intro pins s σ H xs us Q I r h
 obtain ⟨p, ks, ys, rfl, hp, hk, h64, q⟩ := h
 obtain ⟨u, rfl, ru⟩ := Z6 r
 cases ru
 obtain ⟨z, lo, vs, rv, dd⟩ := Jt I.hok hp
 obtain ⟨ep, da⟩ := dd.dictAt
 have hl := rv.length
 have hy : ks.length = ys.length := by have := congrArg List.length hk; simpa using this
 refine wpAny_with_toks (n := 1) I.tk (zFv (ss := ys) hr.hd lo da (fun ws hw hit => ?_) (by omega) fun h1 h' tk L out e ys' l1 k1 k2 g a1 a2 a3 htk => ?_)
 ·refine zDe ?_
  rw [<- hk]
  refine zBn (by simp; omega) fun j u hu => ?_
  obtain ⟨k, x, e, hk⟩ := hit j u hu
  have ek : (ks.map (·.1))[j]? = some k := by rw [rv.keys, List.getElem?_map, e]; rfl
  refine ⟨kV k, ?_, zH6 hk⟩
  rw [List.getElem?_map] at ek ⊢
  cases q2 : ks[j]? with
  | none => rw [q2] at ek; cases ek
  | some kv => rw [q2] at ek; cases ek; rfl
 ·have I1 : Inv X pins σ H { s with heap := h1, toks := tk } := I.kept (t' := tk) k1 htk
  have hl' := a2.length_eq
  exact ⟨.ref L, _, I1.laid (t' := tk) (o := .lst (ys'.map V.str)) k2 l1 ⟨by rw [List.length_map, sizeLine_eq]; omega, out, e, zAg a1, by simpa [seqObj] using g⟩ htk, rfl, q _ _ (I1.hok.fresh l1) a2 a3⟩
section
variable {K : PySem.W.Frag} {Θ : Tab}
theorem zCZ : AdN K Θ M.Qn zHm := by
 intro ρ H S xs Xs Q rp rxs h
 unfold M.Qn at h
 split at h
 ·rename_i p
  obtain ⟨Y, r, rfl, ry, rfl⟩ := rxs
  split at h
  ·rename_i kvs e
   obtain ⟨a, rfl, ha⟩ := ry
   obtain ⟨ks, e2, r⟩ := y9 rp ha e
   have rz := zBo r
   unfold M.QG at h
   split at h
   ·rename_i ts et
    obtain ⟨ez, hok⟩ := Q5 et rz
    split at h
    ·rename_i h64
     refine ⟨a, ks, ts.map ofT, rfl, e2, ez, by rw [List.length_map]; exact h64, fun q ys' hq hp hs => ?_⟩
     rw [zCS hp hs]
     exact h.alloc rp (zBt (M.jd ts) fun t ht => hok t ((J6 ts).mem_iff.mp ht)) hq
    ·exact h.elim
   ·exact h.elim
  ·exact h.elim
 ·exact h.elim
theorem zDs {ρ : List Addr} {H : Hp} : ∀ {ds : List M.D} {ys : List V} {kvs : List (M.D × M.D)}, M.QO ds = some kvs -> zL K ρ H ds ys -> ∃ ps, Paired (zGk K H) ps ys /\ DR K ρ H kvs ps
 | [], _, _, e, r => by cases e; cases r; exact ⟨[], .nil, .nil⟩
 | d :: ds, _, kvs, e, r => by
  unfold M.QO at e
  split at e
  ·rename_i z; cases z
  ·rename_i k v r' z
   cases z
   obtain ⟨Y, r2, rfl, ry, r3⟩ := r
   split at e
   ·rename_i hk
    cases q : M.QO ds with
    | none => rw [q] at e; cases e
    | some kvs' =>
     rw [q] at e
     cases e
     obtain ⟨ps, h1, h2⟩ := zDs q r3
     obtain ⟨t, zs, rfl, hq, rz⟩ := ry
     obtain ⟨Y1, r4, rfl, ry1, Y2, r5, rfl, ry2, rfl⟩ := rz
     obtain ⟨kk, hkk, rfl⟩ := ZI hk ry1
     exact ⟨(kk, Y2) :: ps, .cons ⟨t, rfl, hq⟩ h1, .cons ⟨hkk, ry2⟩ h2⟩
   ·cases e
  ·cases e
theorem zLZ {ρ : List Addr} {H : Hp} {kvs : List (M.D × M.D)} {ps : List (Key × V)} (h : DR K ρ H kvs ps) : ∀ {acc : List (M.D × M.D)} {ac : List (Key × V)}, DR K ρ H acc ac -> DR K ρ H (kvs.foldl (fun a p => M.ja p.1 p.2 a) acc) (ps.foldl (fun a p => qu a p.1 p.2) ac) := by
 unfold DR at h
 induction h with
 | nil => exact fun r => r
 | cons h1 t ih => exact fun r => ih (DR.put r h1.1 h1.2)
theorem zBm : AdN K Θ M.QI (zIB K) := by
 intro ρ H S xs Xs Q rp rxs h
 unfold M.QI at h
 split at h
 ·rename_i p
  obtain ⟨Y, r, rfl, ry, rfl⟩ := rxs
  split at h
  ·rename_i ds e
   obtain ⟨a, zs, rfl, ha, hx, rz⟩ := Z9 rp ry e
   split at h
   ·rename_i kvs et
    obtain ⟨ps, h1, h2⟩ := zDs et rz
    split at h
    ·rename_i hl
     have l1 := Paired.length h1
     have l2 := Paired.length h2
     exact ⟨a, zs, ps, rfl, SqL.of hx, by omega, h1, fun p hp => zDX h rp (zLZ h2 .nil) hp⟩
    ·exact h.elim
   ·exact h.elim
  ·exact h.elim
 ·exact h.elim
theorem zI7 : Ad2 K Θ M.zBM (ipI fun i j => i - j) := by
 intro ρ H S x y X Y Q rp rx ry h
 cases x with
 | int i =>
  cases y with
  | int j => cases rx; cases ry; exact ⟨i, j, rfl, rfl, zF.here (b := V.int (i - j)) h rp rfl⟩
  | _ => exact h.elim
 | _ => exact h.elim
theorem zLO {X : Cx} {o i e : Expr} {mo mi me : M.EM} {op : Operator} {g : M.D -> M.D -> M.S -> M.R M.D} {r : R2} {pos tpos : Pos} {n : Nat} (hr : jH n X.A) (ho : ME X Θ o mo) (hi : ME X Θ i mi) (he : ME X Θ e me) (hop : PIp X op r) (ad : Ad2 X.K Θ g r)
  (ha : ∀ ov iv new, augStore i ov iv new = (do holding [new, ov, iv] (setItem ov iv new); release [new, ov, iv] []; pure .next) := by intro _ _ _; rfl) : MS X Θ (.AugAssign (.Subscript o i tpos) op e pos) (M.JH g mo mi me) :=
 (zKi (by have := hr.units; omega) ho hi he hop ha).imp fun D σ H ⟨ρ, σ', S, st, rp, h⟩ => ⟨ρ, σ', S, st, rp, ze.stm h fun ρ1 H1 x X1 S1 p1 l1 rp1 rx h1 =>
  ⟨ρ1, σ', S1, st.mono p1 l1, rp1, ze.stm h1 fun ρ2 H2 k K2 S2 p2 l2 rp2 rk h2 => by
  have h2' : ze X.K Θ ρ2 H2 ((M.Jp x k S2).stm σ' fun v s => (me σ' s).stm σ' fun y s => (g v y s).stm σ' fun z s => (M.Q0 x k z s).stm σ' fun _ s => .nx σ' s) D := h2
  have rx2 := rx.mono p2 l2
  cases x with
  | ref p =>
   obtain ⟨a, rfl, hp⟩ := id rx2
   cases q : S2[p]? with
   | none => simp only [M.Jp, q] at h2'; exact h2'.elim
   | some ob =>
    cases ob with
    | dct kvs =>
     obtain ⟨ks, e2, r2⟩ := y9 rp2 hp q
     cases hk : M.zt k with
     | false => simp only [M.Jp, q, hk] at h2'; exact h2'.elim
     | true =>
      obtain ⟨kk, hkk, rfl⟩ := ZI hk rk
      have hv := DR.val r2 hkk
      cases qv : M.jJ k kvs with
      | none => simp only [M.Jp, q, hk, qv, if_true] at h2'; exact h2'.elim
      | some d =>
       rw [qv] at hv
       obtain ⟨v, ev, rv⟩ := hv
       simp only [M.Jp, q, hk, qv, if_true, M.R.stm_ok] at h2'
       refine ⟨a, v, rfl, .inl ⟨ks, kk, .inl e2, rfl, ev.symm⟩, ρ2, σ', S2, st.mono (p1.trans p2) (l1.trans l2), rp2, ze.stm h2' fun ρ3 H3 y Y S3 p3 l3 rp3 ry h5 => ad ρ3 H3 S3 d y v Y _ rp3 (rv.mono p3 l3) ry (ze.stm h5 fun ρ4 H4 z Z S4 p4 l4 rp4 rz h6 => ?_)⟩
       have h6' : ze X.K Θ ρ4 H4 ((M.Q0 (.ref p) k z S4).stm σ' fun _ s => .nx σ' s) D := h6
       cases q4 : S4[p]? with
       | none => simp only [M.Q0, q4] at h6'; exact h6'.elim
       | some ob4 =>
        cases ob4 with
        | dct kv4 =>
         cases hk4 : (M.zt k && decide (kv4.length < M.SZ)) with
         | false => simp only [M.Q0, q4, hk4] at h6'; exact h6'.elim
         | true =>
          have hk2 : (if (M.zt k && decide (kv4.length < M.SZ)) = true then M.R.ok () (S4.set p (.dct (M.ja k z kv4))) else .no) = M.R.ok () (S4.set p (.dct (M.ja k z kv4))) := if_pos hk4
          simp only [M.Q0, q4, hk2, M.R.stm_ok] at h6'
          rw [Bool.and_eq_true] at hk4
          have hp4 := (rx2.mono (p3.trans p4) (l3.trans l4))
          obtain ⟨b, eb, hb⟩ := hp4
          cases eb
          obtain ⟨ks4, e4, r4⟩ := y9 rp4 hb q4
          have le := Le.put (Zw e4) (.dK (qu ks4 kk Z))
          refine ⟨_, zB1.k e4 (by rw [<- Paired.length r4, <- y7]; exact of_decide_eq_true hk4.2), ?_⟩
          have r' : DR X.K ρ4 (upd H4 a (.dK (qu ks4 kk Z))) kv4 ks4 := Paired.mapP r4 fun a b z => ⟨z.1, z.2.mono (List.prefix_refl _) le⟩
          exact h6' ρ4 _ σ (List.prefix_refl _) le (rp4.put hb (Zw e4) ⟨_, z6, DR.put r' hkk (rz.mono (List.prefix_refl _) le)⟩) (st.mono (p1.trans (p2.trans (p3.trans p4))) (l1.trans (l2.trans (l3.trans (l4.trans le)))))
        | _ => simp only [M.Q0, q4] at h6'; exact h6'.elim
    | _ => simp only [M.Jp, q] at h2'; exact h2'.elim
  | _ => exact h2'.elim⟩⟩
theorem zIt {X : Cx} {o i e : Expr} {mo mi me : M.EM} {op : Operator} {g : M.D -> M.D -> M.S -> M.R M.D} {r : R2} {pos tpos : Pos} {n : Nat} (hr : jH n X.A) (ho : WE X Θ o mo) (hi : WE X Θ i mi) (he : WE X Θ e me) (hop : PIp X op r) (ad : Ad2 X.K Θ g r)
  (ha : ∀ ov iv new, augStore i ov iv new = (do holding [new, ov, iv] (setItem ov iv new); release [new, ov, iv] []; pure .next) := by intro _ _ _; rfl) : WS X Θ (.AugAssign (.Subscript o i tpos) op e pos) (M.JH g mo mi me) := by with_unfolding_all exact zLO (X := X) (o := o) (i := i) (e := e) (mo := mo) (mi := mi) (me := me) (op := op) (g := g) (r := r) (pos := pos) (tpos := tpos) (n := n) hr ho hi he hop ad ha
end
abbrev zAO (X : Cx) (N : List Str) : Cx := { X with N := N }
theorem zEc {α : Type} {σ : List (Option α)} {i j : Nat} {v : α} (h : (σ.set i none)[j]? = some (some v)) : j ≠ i /\ σ[j]? = some (some v) := by
 by_cases e : i = j
 ·subst e
  by_cases hl : i < σ.length
  ·rw [List.getElem?_set_self hl] at h; cases h
  ·rw [List.getElem?_eq_none (by rw [List.length_set]; omega)] at h; cases h
 ·rw [List.getElem?_set_ne e] at h
  exact ⟨fun z => e z.symm, h⟩
theorem Inv.renamed {X : Cx} {N : List Str} {i : Nat} {pins : List (Addr × Obj)} {σ : St} {H : Hp} {s : Shared} (I : Inv X pins σ H s) (hl : N.length = X.N.length) (hN : ∀ j, j ≠ i -> N[j]? = X.N[j]?) : Inv (zAO X N) pins (σ.set i none) H s where
 ok := ⟨I.ok.mod, I.ok.kind, I.ok.glob, I.ok.blt, I.ok.above, I.ok.inj, I.ok.has, I.ok.cab, I.ok.hd, I.ok.frames, I.ok.stk, I.ok.exf, I.ok.bs, I.ok.bsz, I.ok.noex, I.ok.exfs, I.ok.funs, I.ok.frf⟩
 os := I.os
 bare := I.bare
 base := I.base
 loc := by
  obtain ⟨m, h1, h2⟩ := I.loc
  refine ⟨m, h1, fun j x v hj hv => ?_⟩
  obtain ⟨ne, hv'⟩ := zEc hv
  exact h2 j x v (by rw [<- hN j ne]; exact hj) hv'
 cell := I.cell
 free := I.free
 freeC := I.freeC
 pin := I.pin
 hok := I.hok
 len := by rw [List.length_set, I.len]; exact hl.symm
 tk := I.tk
abbrev zOF (i : Nat) (D : Qk) : Qk := ⟨fun σ H => D.nx (σ.set i none) H, D.rt, fun σ H => D.bk (σ.set i none) H, fun σ H => D.ct (σ.set i none) H⟩
theorem zLT {X : Cx} {i : Nat} {st : Stmt} {t : TS} {N : List Str} (hl : N.length = X.N.length) (hN : ∀ j, j ≠ i -> N[j]? = X.N[j]?) (h : PS (zAO X N) st t) : PS X st fun D σ H => t (zOF i D) (σ.set i none) H := fun pins s σ H D I q => thn (h pins s _ H _ (I.renamed hl hN) q) fun f s1 z => by
 have back : ∀ {σ1 : St} {H1 : Hp}, Inv (zAO X N) pins σ1 H1 s1 -> Inv X pins (σ1.set i none) H1 s1 := fun J => Inv.renamed (X := zAO X N) (N := X.N) (i := i) J hl.symm fun j ne => (hN j ne).symm
 cases f with
 | next => obtain ⟨σ1, H1, I1, d⟩ := z; exact ⟨_, H1, back I1, d⟩
 | brk => obtain ⟨σ1, H1, I1, d⟩ := z; exact ⟨_, H1, back I1, d⟩
 | cont => obtain ⟨σ1, H1, I1, d⟩ := z; exact ⟨_, H1, back I1, d⟩
 | ret u => obtain ⟨v, σ1, H1, I1, r, d⟩ := z; exact ⟨v, _, H1, back I1, r, d⟩
theorem jA.forget {K : PySem.W.Frag} {ρ : List Addr} {H : Hp} {σ' : M.St} {σ : St} (h : jA K ρ H σ' σ) (i : Nat) : jA K ρ H (σ'.set i none) (σ.set i none) := ⟨by rw [List.length_set, List.length_set]; exact h.len, fun j d e => by
 obtain ⟨ne, e'⟩ := zEc e
 obtain ⟨v, h1, h2⟩ := h.get j d e'
 exact ⟨v, by rw [List.getElem?_set_ne (Ne.symm ne)]; exact h1, h2⟩⟩
theorem zCD {N N' : List Str} {i : Nat} (h : N' = N.set i "") : N'.length = N.length /\ ∀ j, j ≠ i -> N'[j]? = N[j]? := by
 subst h
 exact ⟨List.length_set, fun j ne => List.getElem?_set_ne (Ne.symm ne)⟩
theorem zLI {X : Cx} {Θ : Tab} {i : Nat} {stm : Stmt} {mb : M.SM} {N : List Str} (hN : N = X.N.set i "") (hb : MS (zAO X N) Θ stm mb) : MS X Θ stm (M.qq i mb) :=
 (zLT (zCD hN).1 (zCD hN).2 hb).imp fun D σ H ⟨ρ, σ', S, st, rp, h⟩ => ⟨ρ, σ'.set i none, S, st.forget i, rp, by
  have h' : ze X.K Θ ρ H (M.JI i (mb (σ'.set i none) S)) D := h
  cases q : mb (σ'.set i none) S with
  | nx σ1 S1 => rw [q] at h'; exact fun ρ1 H1 σv p l rp1 st1 => h' ρ1 H1 _ p l rp1 (st1.forget i)
  | bk σ1 S1 => rw [q] at h'; exact fun ρ1 H1 σv p l rp1 st1 => h' ρ1 H1 _ p l rp1 (st1.forget i)
  | ct σ1 S1 => rw [q] at h'; exact fun ρ1 H1 σv p l rp1 st1 => h' ρ1 H1 _ p l rp1 (st1.forget i)
  | rt d S1 => rw [q] at h'; exact fun ρ1 H1 σv p l rp1 st1 => h' ρ1 H1 _ p l rp1 st1
  | exc e a s => rw [q] at h'; exact h'
  | no => rw [q] at h'; exact h'⟩
theorem ZS {X : Cx} {Θ : Tab} {i : Nat} {stm : Stmt} {mb : M.SM} {N : List Str} (hN : N = X.N.set i "") (hb : WS (zAO X N) Θ stm mb) : WS X Θ stm (M.qq i mb) := by with_unfolding_all exact zLI (X := X) (Θ := Θ) (i := i) (stm := stm) (mb := mb) (N := N) hN hb
end L2
set_option maxHeartbeats 4000000
namespace M
noncomputable section
def Zz : SM :=
  (zJ (sIf (zl cLt (zA 1) (zH qK (zB (zA 0) zD)))
  (jE (eOp zY (zA 0) (zA 1)))
  jB)
  (jE (eC (.int 0))))
def zAE : F := fn 2 Zz
def zBQ (xs : List D) (k : Int) : D := xs.getD k.toNat (.int 0)
def jk : F
 | [.ro xs, .int k], s => if 0 <= k then .ok (zBQ xs k) s else .no
 | _, _ => .no
theorem zM3 {α : Type} {xs : List α} {k : Int} (h0 : 0 <= k) (h : k < xs.length) (d : α) : atI xs k = some (xs.getD k.toNat d) := by
 unfold atI ixN
 rw [if_pos h0, if_pos h]
 have hk : k.toNat < xs.length := by omega
 simp [List.getD_eq_getElem?_getD, hk]
theorem zK8 {n : Nat} {xs : List D} (h : D.cl.all n xs = true) (k : Nat) (d : D) (hd : D.cl n d = true) : D.cl n (xs.getD k d) = true := by
 induction xs generalizing k with
 | nil => exact hd
 | cons x xs ih =>
  have h' : (D.cl n x && D.cl.all n xs) = true := h
  rw [Bool.and_eq_true] at h'
  cases k with
  | zero => exact h'.1
  | succ k => exact ih h'.2 k
theorem zE6 : jS 2 zAE jk := jS.pure fun ds S hl c ca => by
 match ds, hl with
 | [a, b], _ =>
  cases a with
  | ro xs =>
   cases b with
   | int k =>
    by_cases h0 : 0 <= k
    ·refine .inr ⟨zBQ xs k, [], by simp [jk, h0], ?_, ?_⟩
     ·by_cases h : k < (xs.length : Int)
      ·simp [zAE, Zz, h, zM3 h0 h (.int 0), zBQ]
      ·have h2 : zBQ xs k = .int 0 := by unfold zBQ; rw [List.getD_eq_getElem?_getD, List.getElem?_eq_none (by omega)]; rfl
       simp [zAE, Zz, h, h2]
     ·have ca' : (D.cl.all S.length xs && true) = true := ca
      rw [Bool.and_true] at ca'
      exact zK8 ca' _ _ rfl
    ·exact .inl (by simp [jk, h0])
   | _ => exact .inl rfl
  | _ => exact .inl rfl
def QT : SM :=
  (jE (eOp jg (eOp zCp (eOp jM (zA 0) (eOp zCp (eC (.int 7919)) (zA 1))) (eC (.int 48271))) (eC (.int 2147483647))))
def zBG : F := fn 2 QT
def mix (c k : Int) : Int := (c + 7919 * k) * 48271 % 2147483647
def zg : F
 | [.int c, .int k], s => .ok (.int (mix c k)) s
 | _, _ => .no
theorem zEE : jS 2 zBG zg := jS.pure fun ds S hl c ca => by
 match ds, hl with
 | [a, b], _ =>
  cases a with
  | int c =>
   cases b with
   | int k =>
    have h1 : QU 7919 = true := by decide
    have h2 : QU 48271 = true := by decide
    exact .inr ⟨_, [], rfl, by simp [zBG, QT, h1, h2, mix], rfl⟩
   | _ => exact .inl rfl
  | _ => exact .inl rfl
def yW : SM :=
  (zR 2 (eC (.str [97, 98, 99, 100, 101, 102, 103, 104, 105, 106, 107, 108, 109, 110, 111, 112, 113, 114, 115, 116, 117, 118, 119, 120, 121, 122, 46, 42, 48, 32, 90, 10])))
def yQ : SM :=
  (zR 3 (zH zg (zB (zA 0) (zB (eC (.int 5)) zD))))
def yU : SM :=
  (zR 4 (zE2 (QQ []) 1 (jo (eOp jg (zA 3) (eC (.int 9)))) (zK 6) j9 (eOp zY (zA 2) (eOp jg (zH zg (zB (zA 0) (zB (zA 6) zD))) (eC (.int 32))))))
def j7 : SM :=
  (sIf (zFg (yg (zA 1)) (zl cGt (eOp jg (zA 0) (eC (.int 3))) (eC (.int 0))))
  (zJ (zR 4 (eOp zY (zA 1) (eOp jg (zA 3) (zH qK (zB (zA 1) zD)))))
  (zJ (zR 4 (eOp jM (zA 4) (eSl (eC (.str [97])) (Qv (zH qK (zB (zA 4) zD))) J7)))
  (zJ (zR 5 (eOp jg (eOp zAb (zA 3) (eC (.int 60))) (zH qK (zB (zA 4) zD))))
  (zR 4 (eOp jM (eOp jM (eSl (zA 4) J7 (Qv (zA 5))) (eOp zY (zA 2) (eOp jg (eOp zAb (zA 3) (eC (.int 720))) (eC (.int 32))))) (eSl (zA 4) (Qv (eOp jM (zA 5) (eC (.int 1)))) J7))))))
  jB)
def Z3 : SM :=
  (zA8 (zl cIn (zA 4) (zA 1))
  (zR 4 (eOp jM (zA 4) (eOp zY (zA 2) (eOp jg (zH zg (zB (zA 0) (zB (zH qK (zB (zA 4) zD)) zD))) (eC (.int 32)))))))
def ZE : SM :=
  (jE (zA 4))
def J9 : SM := (zJ yW (zJ yQ (zJ yU (zJ j7 (zJ Z3 ZE)))))
def zFy : F := fn 6 J9
def qe : T := [97, 98, 99, 100, 101, 102, 103, 104, 105, 106, 107, 108, 109, 110, 111, 112, 113, 114, 115, 116, 117, 118, 119, 120, 121, 122, 46, 42, 48, 32, 90, 10]
def sg (i : Int) : Nat := qe.getD (i % 32).toNat 0
theorem zJn (i : Int) : atI qe (i % 32) = some (sg i) :=
 zDR (Int.emod_nonneg _ (by decide)) (by rw [show (qe.length : Int) = 32 from by decide]; exact Int.emod_lt_of_pos _ (by decide)) 0
theorem z32 : qe.length <= SZ := by decide
def f0T (c : Int) : T := (List.range (mix c 5 % 9).toNat).map fun (j : Nat) => sg (mix c j)
def f1T (c : Int) (taken : List T) : T := taken.getD (mix c 5 % taken.length).toNat []
def f2T (c : Int) (taken : List T) : T := f1T c taken ++ ([97] : T).drop (f1T c taken).length
def f3T (c : Int) (taken : List T) : T := (f2T c taken).take (mix c 5 / 60 % (f2T c taken).length).toNat ++ sg (mix c 5 / 720) :: (f2T c taken).drop ((mix c 5 / 60 % (f2T c taken).length).toNat + 1)
def zAj (c : Int) (taken : List T) : T := if taken ≠ [] /\ 0 < c % 3 then f3T c taken else f0T c
def zAd (c : Int) (taken : List T) : Nat -> T -> T
 | 0, f => f
 | n + 1, f => if f ∈ taken then zAd c taken n (f ++ [sg (mix c f.length)]) else f
def zBR (c : Int) (taken : List T) : T := zAd c taken 1000 (zAj c taken)
theorem zLy (c : Int) : (f0T c).length <= 8 := by
 unfold f0T
 have h0 := Int.emod_nonneg (mix c 5) (show (9 : Int) ≠ 0 by decide)
 have h1 := Int.emod_lt_of_pos (mix c 5) (show (0 : Int) < 9 by decide)
 rw [List.length_map, List.length_range]; omega
theorem zIb {c : Int} {taken : List T} {n : Nat} (h : ∀ t ∈ taken, t.length <= n) : (f1T c taken).length <= n := by
 unfold f1T
 rw [List.getD_eq_getElem?_getD]
 cases q : taken[(mix c 5 % taken.length).toNat]? with
 | none => simp
 | some t => exact h t (List.mem_of_getElem? q)
theorem zE4 {c : Int} {taken : List T} : 1 <= (f2T c taken).length /\ (f2T c taken).length <= (f1T c taken).length + 1 := by
 unfold f2T
 rw [List.length_append, List.length_drop]
 simp only [List.length_cons, List.length_nil]
 omega
theorem zNH {c : Int} {taken : List T} : (f3T c taken).length = (f2T c taken).length := by
 unfold f3T
 have h := (zE4 (c := c) (taken := taken)).1
 have h0 := Int.emod_nonneg (mix c 5 / 60) (show ((f2T c taken).length : Int) ≠ 0 by omega)
 have h1 := Int.emod_lt_of_pos (mix c 5 / 60) (show (0 : Int) < ((f2T c taken).length : Int) by omega)
 rw [List.length_append, List.length_take, List.length_cons, List.length_drop]
 omega
theorem zFN {c : Int} {taken : List T} {n : Nat} (hn : 8 <= n) (h : ∀ t ∈ taken, t.length <= n) : (zAj c taken).length <= n + 1 := by
 unfold zAj
 split
 ·rw [zNH]
  have := zIb (c := c) h
  have := (zE4 (c := c) (taken := taken)).2
  omega
 ·have := zLy c
  omega
theorem zFf {c : Int} {taken : List T} {n : Nat} (h : ∀ t ∈ taken, t.length <= n) : ∀ (k : Nat) (f : T), f.length <= n + 1 -> (zAd c taken k f).length <= n + 1
 | 0, f, hf => hf
 | k + 1, f, hf => by
  unfold zAd
  split
  ·rename_i hm
   exact zFf h k _ (by have := h f hm; rw [List.length_append]; simp; omega)
  ·exact hf
theorem zJM {c : Int} {taken : List T} {n : Nat} (hn : 8 <= n) (h : ∀ t ∈ taken, t.length <= n) : (zBR c taken).length <= n + 1 := zFf h _ _ (zFN hn h)
def je : F
 | [.int c, .ref p], s => match s[p]? with
  | some (.lst ds) => (match jx ds with
   | some taken => if taken.length <= 100 /\ (∀ t ∈ taken, t.length <= 200) then .ok (.str (zBR c taken)) s else .no
   | none => .no)
  | _ => .no
 | _, _ => .no
theorem zFF : ∀ {ds : List D} {rs : List T}, jx ds = some rs -> ds = rs.map .str
 | [], rs, h => by simp [jx] at h; subst h; rfl
 | .str x :: ds, rs, h => by
  unfold jx at h
  cases q : jx ds with
  | none => simp [q] at h
  | some ys => simp [q] at h; subst h; rw [zFF q]; rfl
 | .non :: _, _, h => by simp [jx] at h
 | .bl _ :: _, _, h => by simp [jx] at h
 | .int _ :: _, _, h => by simp [jx] at h
 | .ty _ :: _, _, h => by simp [jx] at h
 | .ref _ :: _, _, h => by simp [jx] at h
 | .tup _ :: _, _, h => by simp [jx] at h
 | .ro _ :: _, _, h => by simp [jx] at h
abbrev zFQ : SM := (zR 4 (eOp jM (zA 4) (eOp zY (zA 2) (eOp jg (zH zg (zB (zA 0) (zB (zH qK (zB (zA 4) zD)) zD))) (eC (.int 32))))))
theorem zGL {S : M.S} {p : Nat} {taken : List T} {c : Int} {w3 v5 : Option D} (hp : S[p]? = some (.lst (taken.map .str))) (h : ∀ t ∈ taken, t.length <= 200) : ∀ (k : Nat) (f : T), 201 <= f.length + k -> f.length <= 1000 -> ∀ N K, k < N -> k <= K -> qj N (zl cIn (zA 4) (zA 1)) zFQ [some (.int c), some (.ref p), some (.str qe), w3, some (.str f), v5] S = .nx [some (.int c), some (.ref p), some (.str qe), w3, some (.str (zAd c taken K f)), v5] S
 | k, f, hk, hf, N, K, hN, hK => by
  have hm : inD (.str f) (.ref p) S = .ok (decide (f ∈ taken)) S := by
   have fl : (taken.map D.str).all flat = true := zDo _
   simp only [inD, hp]
   rw [if_pos (by rw [fl]; rfl), zBy]
   simp
  obtain ⟨N', rfl⟩ : ∃ N', N = N' + 1 := ⟨N - 1, by omega⟩
  by_cases hin : f ∈ taken
  ·have hl := h f hin
   obtain ⟨k', rfl⟩ : ∃ k', k = k' + 1 := ⟨k - 1, by omega⟩
   obtain ⟨K', rfl⟩ : ∃ K', K = K' + 1 := ⟨K - 1, by omega⟩
   have ih := zGL hp h (c := c) (w3 := w3) (v5 := v5) k' (f ++ [sg (mix c f.length)]) (by rw [List.length_append]; simp; omega) (by rw [List.length_append]; simp; omega) N' K' (by omega) (by omega)
   have z1 : f.length <= SZ := by unfold SZ; omega
   have z2 : f.length + 1 <= SZ := by unfold SZ; omega
   show (((zl cIn (zA 4) (zA 1)) _ _).stm _ _) = _
   have e1 : (zl cIn (zA 4) (zA 1)) [some (.int c), some (.ref p), some (.str qe), w3, some (.str f), v5] S = .ok true S := by
    show ((R.ok (D.str f) S).bind fun x s => (R.ok (D.ref p) s).bind fun y s => inD x y s) = _
    rw [R.bind_ok, R.bind_ok, hm]
    simp [hin]
   have e2 : zFQ [some (.int c), some (.ref p), some (.str qe), w3, some (.str f), v5] S = .nx [some (.int c), some (.ref p), some (.str qe), w3, some (.str (f ++ [sg (mix c f.length)])), v5] S := by
    simp [zg, z1, z32, zJn, z2]
   rw [e1, R.stm_ok, if_pos rfl, e2]
   show qj N' _ _ _ _ = _
   rw [ih]
   show _ = RS.nx [_, _, _, _, some (.str (if f ∈ taken then zAd c taken K' (f ++ [sg (mix c f.length)]) else f)), _] S
   rw [if_pos hin]
  ·show (((zl cIn (zA 4) (zA 1)) _ _).stm _ _) = _
   have e1 : (zl cIn (zA 4) (zA 1)) [some (.int c), some (.ref p), some (.str qe), w3, some (.str f), v5] S = .ok false S := by
    show ((R.ok (D.str f) S).bind fun x s => (R.ok (D.ref p) s).bind fun y s => inD x y s) = _
    rw [R.bind_ok, R.bind_ok, hm]
    simp [hin]
   rw [e1, R.stm_ok, if_neg Bool.false_ne_true]
   cases K with
   | zero => rfl
   | succ K' =>
    show _ = RS.nx [_, _, _, _, some (.str (if f ∈ taken then zAd c taken K' (f ++ [sg (mix c f.length)]) else f)), _] S
    rw [if_neg hin]
theorem zJU (c : Int) (p : Nat) (S : M.S) (r : SM) : (yW [some (.int c), some (.ref p), none, none, none, none] S).then (zJ yQ (zJ yU r)) = r [some (.int c), some (.ref p), some (.str qe), some (.int (mix c 5)), some (.str (f0T c)), none] S := by
 have h0 := Int.emod_nonneg (mix c 5) (show (9 : Int) ≠ 0 by decide)
 have h1 := Int.emod_lt_of_pos (mix c 5) (show (0 : Int) < 9 by decide)
 have hit : jo (eOp jg (zA 3) (eC (.int 9))) [some (.int c), some (.ref p), some (.str qe), some (.int (mix c 5)), none, none] S = .ok (jQ 0 (mix c 5 % 9), []) S := by
  simp
  omega
 have := zAr (n := 1) (tg := zK 6) (e := (eOp zY (zA 2) (eOp jg (zH zg (zB (zA 0) (zB (zA 6) zD))) (eC (.int 32))))) (fun k => .str [sg (mix c k)]) hit (by unfold SZ; omega) fun k _ => by
  simp [zg, z32, zJn]
 rw [show ((mix c 5 % 9) - 0).toNat = (mix c 5 % 9).toNat by omega] at this
 have hz : (List.range (mix c 5 % 9).toNat).length <= SZ := by rw [List.length_range]; unfold SZ; omega
 have el : ([97, 98, 99, 100, 101, 102, 103, 104, 105, 106, 107, 108, 109, 110, 111, 112, 113, 114, 115, 116, 117, 118, 119, 120, 121, 122, 46, 42, 48, 32, 90, 10] : T) = qe := rfl
 simp [yW, yQ, yU, zg, el, this, zH9 _ _ _ hz]
 rfl
theorem zLv (c : Int) (p : Nat) (S : M.S) (taken : List T) (hp : S[p]? = some (.lst (taken.map .str))) (ht : taken.length <= 100) (h : ∀ t ∈ taken, t.length <= 200) : ∃ v, ∀ r, (j7 [some (.int c), some (.ref p), some (.str qe), some (.int (mix c 5)), some (.str (f0T c)), none] S).then r = r [some (.int c), some (.ref p), some (.str qe), some (.int (mix c 5)), some (.str (zAj c taken)), v] S := by
 by_cases hc : taken ≠ [] /\ 0 < c % 3
 ·have hne : taken ≠ [] := hc.1
  have hlp : 0 < taken.length := List.length_pos_iff.mpr hne
  have hi0 := Int.emod_nonneg (mix c 5) (show (taken.length : Int) ≠ 0 by omega)
  have hi1 := Int.emod_lt_of_pos (mix c 5) (show (0 : Int) < (taken.length : Int) by omega)
  have ha : atI (taken.map D.str) (mix c 5 % (taken.length : Int)) = some (.str (f1T c taken)) := by
   have hl : (mix c 5 % (taken.length : Int)).toNat < taken.length := by omega
   rw [zDR hi0 (by rw [List.length_map]; omega) (.str [])]
   simp [f1T, List.getD_eq_getElem?_getD, hl]
  have l1 := zIb (c := c) h
  have l2 := zE4 (c := c) (taken := taken)
  have g0 := Int.emod_nonneg (mix c 5 / 60) (show ((f2T c taken).length : Int) ≠ 0 by omega)
  have g1 := Int.emod_lt_of_pos (mix c 5 / 60) (show (0 : Int) < ((f2T c taken).length : Int) by omega)
  have c1 : cut ([97] : T) (some ((f1T c taken).length : Int)) none = ([97] : T).drop (f1T c taken).length := by rw [zIN _ (by omega)]; simp
  have c2 : cut (f2T c taken) none (some (mix c 5 / 60 % ((f2T c taken).length : Int))) = (f2T c taken).take (mix c 5 / 60 % ((f2T c taken).length : Int)).toNat := zMX _ g0
  have c3 : cut (f2T c taken) (some (mix c 5 / 60 % ((f2T c taken).length : Int) + 1)) none = (f2T c taken).drop ((mix c 5 / 60 % ((f2T c taken).length : Int)).toNat + 1) := by
   rw [zIN _ (by omega), show (mix c 5 / 60 % ((f2T c taken).length : Int) + 1).toNat = (mix c 5 / 60 % ((f2T c taken).length : Int)).toNat + 1 by omega]
  have hb : zAj c taken = f3T c taken := if_pos hc
  have z1 : (f1T c taken).length <= SZ := by unfold SZ; omega
  have z2 : (f2T c taken).length <= SZ := by unfold SZ; omega
  have z3 : (f1T c taken).length + (([97] : T).drop (f1T c taken).length).length <= SZ := by rw [List.length_drop]; simp; unfold SZ; omega
  have p2 : (0 : Int) < ((f2T c taken).length : Int) := by omega
  have zz1 : (1 : Nat) <= SZ := by decide
  refine ⟨some (.int (mix c 5 / 60 % ((f2T c taken).length : Int))), fun r => ?_⟩
  rw [hb]
  have e1 : f1T c taken ++ ([97] : T).drop (f1T c taken).length = f2T c taken := rfl
  have hc3 : (0 : Int) < c % 3 := hc.2
  generalize hf2 : f2T c taken = f2 at *
  generalize hat : mix c 5 / 60 % (f2.length : Int) = at5 at *
  have z4 : (f2.take at5.toNat).length + 1 <= SZ := by rw [List.length_take]; unfold SZ; omega
  have z5 : (f2.take at5.toNat).length + 1 + (f2.drop (at5.toNat + 1)).length <= SZ := by rw [List.length_take, List.length_drop]; unfold SZ; omega
  have ef : f3T c taken = f2.take at5.toNat ++ sg (mix c 5 / 720) :: f2.drop (at5.toNat + 1) := by unfold f3T; rw [hf2, hat]
  rw [ef]
  have ne2 : (taken.map D.str).isEmpty = false := by cases taken with | nil => exact absurd rfl hne | cons _ _ => rfl
  have plen : (0 : Int) < (taken.length : Int) := by omega
  simp only [List.length_take, List.length_drop] at z4 z5 z3
  simp [j7, hp, ne2, hc3, plen, ha, z1, zz1, c1, z3, e1, z2, p2, hat, c2, c3, z32, zJn, z4, z5, hne]
  have hZ : SZ = 16777216 := rfl
  rw [if_pos hlp, if_pos (by omega), if_pos (by omega)]
 ·have hb : zAj c taken = f0T c := if_neg hc
  refine ⟨none, fun r => ?_⟩
  rw [hb]
  by_cases hne : taken = []
  ·simp [j7, hp, hne]
  ·have hc3 : ¬ (0 : Int) < c % 3 := fun e => hc ⟨hne, e⟩
   have ne2 : (taken.map D.str).isEmpty = false := by cases taken with | nil => exact absurd rfl hne | cons _ _ => rfl
   simp [j7, hp, hne, hc3]
theorem zFB : jS 2 zFy je := jS.pure fun ds S hl c ca => by
 match ds, hl with
 | [a, b], _ =>
  cases a with
  | int c =>
   cases b with
   | ref p =>
    cases e : S[p]? with
    | none => exact .inl (by simp [je, e])
    | some o =>
     cases o with
     | lst es =>
      cases q : jx es with
      | none => exact .inl (by simp [je, e, q])
      | some taken =>
       by_cases hz : taken.length <= 100 /\ (∀ t ∈ taken, t.length <= 200)
       ·have er := zFF q
        subst er
        refine .inr ⟨.str (zBR c taken), [], by simp [je, e, q, hz]; exact hz.2, ?_, rfl⟩
        obtain ⟨v, e4⟩ := zLv c p S taken e hz.1 hz.2
        have hbl := zFN (c := c) (n := 200) (by omega) hz.2
        have e5 := zGL (c := c) (w3 := some (.int (mix c 5))) (v5 := v) e hz.2 201 (zAj c taken) (by omega) (by omega) zBu 1000 (by decide) (by omega)
        show ((yW [some (.int c), some (.ref p), none, none, none, none] S).then (zJ yQ (zJ yU (zJ j7 (zJ Z3 ZE))))).out = _
        rw [zJU]
        show ((j7 _ _).then _).out = _
        rw [e4]
        show ((qj zBu (zl cIn (zA 4) (zA 1)) zFQ _ _).then _).out = _
        rw [e5]
        simp [ZE, zBR]
       ·exact .inl (by simp [je, e, q]; intro h1; simpa using fun h2 => hz ⟨h1, h2⟩)
     | dct _ => exact .inl (by simp [je, e])
     | ins _ _ => exact .inl (by simp [je, e])
     | fdc _ => exact .inl (by simp [je, e])
   | _ => exact .inl rfl
  | _ => exact .inl rfl
def qV : SM :=
  (zR 2 (zH jk (zB (zA 0) (zB (zA 1) zD))))
def qX : SM :=
  (zR 3 (eOp jM (eC (.int 1)) (eOp jg (zA 2) (eC (.int 9)))))
def qa : SM :=
  (sIf (zl cEq (eOp jg (eOp zAb (zA 2) (eC (.int 9))) (eC (.int 6))) (eC (.int 1)))
  (zR 3 (eOp jM (eC (.int 1)) (eOp jg (eOp zAb (zA 2) (eC (.int 54))) (eC (.int 60)))))
  jB)
def qc : SM :=
  (zR 4 (ji zD))
def qb : SM :=
  (jc (jo (zA 3)) (zK 5)
  (qG (eM .list jt (zA 4) (zB (zH je (zB (zH zg (zB (zH jk (zB (zA 0) (zB (eOp jM (eOp jM (zA 1) (eC (.int 1))) (eOp jg (zA 5) (eC (.int 4)))) zD))) (zB (zA 5) zD))) (zB (zA 4) zD))) zD))))
def yn : SM :=
  (jE (zA 4))
def Je : SM := (zJ qV (zJ qX (zJ qa (zJ qc (zJ qb yn)))))
def zFG : F := fn 6 Je
def qN (ns : List Int) (k : Int) : Int := ns.getD k.toNat 0
def qC (ns : List Int) (b : Int) : Nat -> List T
 | 0 => []
 | k + 1 => qC ns b k ++ [zBR (mix (qN ns (b + 1 + (k : Int) % 4)) k) (qC ns b k)]
theorem Jv (ns : List Int) (b : Int) : ∀ k, (qC ns b k).length = k
 | 0 => rfl
 | k + 1 => by rw [qC, List.length_append, Jv ns b k]; rfl
theorem zAq (ns : List Int) (b : Int) : ∀ k, ∀ t ∈ qC ns b k, t.length <= 20 + k
 | 0, t, h => by cases h
 | k + 1, t, h => by
  rw [qC] at h
  rcases List.mem_append.mp h with h | h
  ·have := zAq ns b k t h; omega
  ·have e := List.mem_singleton.mp h
   subst e
   exact zJM (n := 20 + k) (by omega) (zAq ns b k)
def JK (c : Int) : Int := if c / 9 % 6 = 1 then 1 + c / 54 % 60 else 1 + c % 9
theorem zGC (c : Int) : 1 <= JK c /\ JK c <= 60 := by
 unfold JK
 have h1 := Int.emod_nonneg (c / 54) (show (60 : Int) ≠ 0 by decide)
 have h2 := Int.emod_lt_of_pos (c / 54) (show (0 : Int) < 60 by decide)
 have h3 := Int.emod_nonneg c (show (9 : Int) ≠ 0 by decide)
 have h4 := Int.emod_lt_of_pos c (show (0 : Int) < 9 by decide)
 split <;> omega
def qL : F
 | [.ro xs, .int b], s => match yi xs with
  | some ns => if 0 <= b then alloc (.lst ((qC ns b (JK (qN ns b)).toNat).map .str)) s else .no
  | none => .no
 | _, _ => .no
theorem zFe : ∀ {ds : List D} {ns : List Int}, yi ds = some ns -> ds = ns.map .int
 | [], ns, h => by simp [yi] at h; subst h; rfl
 | .int x :: ds, ns, h => by
  unfold yi at h
  cases q : yi ds with
  | none => simp [q] at h
  | some ys => simp [q] at h; subst h; rw [zFe q]; rfl
 | .non :: _, _, h => by simp [yi] at h
 | .bl _ :: _, _, h => by simp [yi] at h
 | .str _ :: _, _, h => by simp [yi] at h
 | .ty _ :: _, _, h => by simp [yi] at h
 | .ref _ :: _, _, h => by simp [yi] at h
 | .tup _ :: _, _, h => by simp [yi] at h
 | .ro _ :: _, _, h => by simp [yi] at h
theorem zDw : ∀ ns : List Int, yi (ns.map .int) = some ns
 | [] => rfl
 | n :: ns => by show (yi (ns.map .int)).map _ = _; rw [zDw ns]; rfl
theorem Q1 (ns : List Int) (k : Int) (s : M.S) (h : 0 <= k) : jk [.ro (ns.map .int), .int k] s = .ok (.int (qN ns k)) s := by
 simp only [jk, if_pos h, zBQ, qN]
 rw [List.getD_eq_getElem?_getD, List.getD_eq_getElem?_getD, List.getElem?_map]
 cases ns[k.toNat]? <;> rfl
theorem zEC : jS 2 zFG qL := jS.new fun ds S hl c ca => by
 match ds, hl with
 | [a, b], _ =>
  cases a with
  | ro xs =>
   cases b with
   | int b =>
    cases q : yi xs with
    | none => exact .inl (by simp [qL, q])
    | some ns =>
     have ex := zFe q
     subst ex
     by_cases h0 : 0 <= b
     ·have hm := zGC (qN ns b)
      generalize hMy : JK (qN ns b) = my at *
      have e3 : ∀ r, (qV [some (.ro (ns.map .int)), some (.int b), none, none, none, none] S).then (zJ qX (zJ qa (zJ qc r))) = r [some (.ro (ns.map .int)), some (.int b), some (.int (qN ns b)), some (.int my), some (.ref S.length), none] (S ++ [.lst []]) := fun r => by
       have z0 : (0 : Nat) <= SZ := by decide
       have hM : my = if qN ns b / 9 % 6 = 1 then 1 + qN ns b / 54 % 60 else 1 + qN ns b % 9 := by rw [<- hMy]; rfl
       by_cases h2 : qN ns b / 9 % 6 = 1
       ·rw [if_pos h2] at hM
        simp [qV, qX, qa, qc, Q1 _ _ _ h0, h2, z0, hM]
       ·rw [if_neg h2] at hM
        simp [qV, qX, qa, qc, Q1 _ _ _ h0, h2, z0, hM]
      obtain ⟨σ', s', e5, v5, eσ, es⟩ := ql (g := []) (f := jU (zK 5) (qG (eM .list jt (zA 4) (zB (zH je (zB (zH zg (zB (zH jk (zB (zA 0) (zB (eOp jM (eOp jM (zA 1) (eC (.int 1))) (eOp jg (zA 5) (eC (.int 4)))) zD))) (zB (zA 5) zD))) (zB (zA 4) zD))) zD))))
       (fun j σ s => ∃ v5 : Option D, σ = [some (.ro (ns.map .int)), some (.int b), some (.int (qN ns b)), some (.int my), some (.ref S.length), v5] /\ s = S ++ [.lst ((qC ns b j).map .str)]) (jQ 0 my) 0 [some (.ro (ns.map .int)), some (.int b), some (.int (qN ns b)), some (.int my), some (.ref S.length), none] (S ++ [.lst []]) ⟨none, rfl, rfl⟩ fun j d hd σ s ⟨v5, eσ, es⟩ => by
        have hj : j < (jQ 0 my).length := (List.getElem?_eq_some_iff.mp hd).1
        have hj' : j < 60 := by unfold jQ at hj; rw [List.length_map, List.length_range] at hj; omega
        have ed : d = .int (j : Int) := by
         unfold jQ at hd
         rw [List.getElem?_map] at hd
         cases q : (List.range (my - 0).toNat)[j]? with
         | none => rw [q] at hd; cases hd
         | some k =>
          rw [q] at hd
          have hk : k = j := by
           have := (List.getElem?_eq_some_iff.mp q).2
           simp at this
           omega
          subst hk
          simp at hd
          exact hd.symm
        subst ed
        subst eσ
        subst es
        rw [Nat.zero_add]
        have m0 := Int.emod_nonneg (j : Int) (show (4 : Int) ≠ 0 by decide)
        have hc := fun s => Q1 ns (b + 1 + (j : Int) % 4) s (by omega)
        have hn : ∀ c : Int, je [.int c, .ref S.length] (S ++ [.lst ((qC ns b j).map .str)]) = .ok (.str (zBR c (qC ns b j))) (S ++ [.lst ((qC ns b j).map .str)]) := fun c => by
         have hl1 := Jv ns b j
         have hl2 : ∀ t ∈ qC ns b j, t.length <= 200 := fun t ht => Nat.le_trans (zAq ns b j t ht) (by omega)
         simp only [je, List.getElem?_concat_length, J0]
         rw [if_pos ⟨by omega, hl2⟩]
        have hz : (qC ns b j).length < SZ := by rw [Jv]; unfold SZ; omega
        refine ⟨[some (.ro (ns.map .int)), some (.int b), some (.int (qN ns b)), some (.int my), some (.ref S.length), some (.int j)], S ++ [.lst ((qC ns b (j + 1)).map .str)], ?_, rfl, _, rfl, rfl⟩
        simp [hc, zg, hn, hz, qC]
      have hln : (jQ 0 my).length = my.toNat := by unfold jQ; rw [List.length_map, List.length_range]; omega
      rw [Nat.zero_add, hln] at es
      subst eσ
      subst es
      refine .inr ⟨.lst ((qC ns b my.toNat).map .str), S.length, [.lst ((qC ns b my.toNat).map .str)], by simp [qL, q, h0, hMy], ?_, by simp, Nat.le_refl _, zAR _ _⟩
      show ((qV [some (.ro (ns.map .int)), some (.int b), none, none, none, none] S).then (zJ qX (zJ qa (zJ qc (zJ qb yn))))).out = _
      rw [e3]
      have q1 : my.natAbs < 4611686018427387904 := by omega
      have hg : ∀ s, zQ [] s = true := fun _ => rfl
      have e6 : ∀ r, (qb [some (.ro (ns.map .int)), some (.int b), some (.int (qN ns b)), some (.int my), some (.ref S.length), none] (S ++ [.lst []])).then r = r [some (.ro (ns.map .int)), some (.int b), some (.int (qN ns b)), some (.int my), some (.ref S.length), v5] (S ++ [.lst ((qC ns b my.toNat).map .str)]) := fun r => by
       simp only [qb, jc, jo, zA, List.getElem?_cons_succ, List.getElem?_cons_zero, R.bind_ok, q1, if_true, R.stm_ok, hg, e5, RS.then_nx]
      show ((qb _ _).then _).out = _
      rw [e6]
      simp [yn]
     ·exact .inl (by simp [qL, q, h0])
   | _ => exact .inl rfl
  | _ => exact .inl rfl
def yz : SM :=
  (zJ (sIf (zl cEq (zA 2) (eC (.int 1)))
  (jE (jn 1 (jo (eOp zCp (eOp jg (zA 0) (eC (.int 4))) (zH zG0 (zB (QL cGt (zA 1) (eC (.int 0))) zD)))) (zK 5) j9 (eOp zY (zA 3) (eOp jg (zH zg (zB (zA 0) (zB (eOp jM (eC (.int 3)) (zA 5)) zD))) (zA 1)))))
  jB)
  (zJ (sIf (zl cEq (zA 2) (eC (.int 2)))
  (zJ (zR 4 (eSl (zA 3) (Qv (zH zHJ (zB (eC (.int 0)) (zB (eOp Z4 (zA 1) (eC (.int 1))) zD)))) (Qv (zA 1))))
  (zJ (sIf (zl cEq (eOp jg (zA 0) (eC (.int 29))) (eC (.int 1)))
  (zR 4 (eOp jM (zA 4) (ji (zB (eOp zY (zA 3) (eOp Z4 (zH qK (zB (zA 3) zD)) (eC (.int 1)))) zD))))
  jB)
  (jE (zA 4))))
  jB)
  (jE (jn 1 (jo (eOp jg (zA 0) (eC (.int 4)))) (zK 5) j9 (eOp zY (zA 3) (eOp jg (zH zg (zB (zA 0) (zB (eOp jM (eC (.int 3)) (zA 5)) zD))) (zH qK (zB (zA 3) zD))))))))
def y4 : F := fn 5 yz
def yZ : F := chN y4
theorem zF0 : jS 4 y4 yZ := zBH _
theorem JR {s : M.S} {p : Nat} {ds : List D} (h : s[p]? = some (.lst ds)) : jN s p = some ds := by simp [jN, h]
def DR (s : M.S) : List (D × D) -> List (T × List T) -> Prop
 | [], [] => True
 | kv :: kvs, p :: nd => (∃ r, kv = (.str p.1, .ref r) /\ s[r]? = some (.lst (p.2.map .str))) /\ DR s kvs nd
 | _, _ => False
abbrev yN (s s' : M.S) : Prop := ∀ (r : Nat) (xs : List D), s[r]? = some (.lst xs) -> s'[r]? = some (.lst xs)
theorem yN.app (s t : M.S) : yN s (s ++ t) := fun _ _ e => zd e t
theorem yN.trans {a b c : M.S} (h : yN a b) (k : yN b c) : yN a c := fun r xs e => k r xs (h r xs e)
theorem yN.set {s : M.S} {i : Nat} {o o' : O} (e : s[i]? = some o) (n : ∀ xs, o ≠ .lst xs) : yN s (s.set i o') := fun r xs h => by
 by_cases hr : i = r
 ·subst hr; rw [e] at h; cases h; exact absurd rfl (n xs)
 ·rw [List.getElem?_set_ne hr]; exact h
theorem DR.mono {s s' : M.S} (k : yN s s') : ∀ {kvs : List (D × D)} {nd : List (T × List T)}, DR s kvs nd -> DR s' kvs nd
 | [], [], _ => trivial
 | _ :: _, _ :: _, ⟨⟨r, e1, e2⟩, h⟩ => ⟨⟨r, e1, k r _ e2⟩, DR.mono k h⟩
 | [], _ :: _, h => h.elim
 | _ :: _, [], h => h.elim
theorem DR.length {s : M.S} : ∀ {kvs : List (D × D)} {nd : List (T × List T)}, DR s kvs nd -> kvs.length = nd.length
 | [], [], _ => rfl
 | _ :: _, _ :: _, ⟨_, h⟩ => by rw [List.length_cons, List.length_cons, DR.length h]
 | [], _ :: _, h => h.elim
 | _ :: _, [], h => h.elim
theorem DR.keys {s : M.S} : ∀ {kvs : List (D × D)} {nd : List (T × List T)}, DR s kvs nd -> kvs.map (·.1) = nd.map fun p => .str p.1
 | [], [], _ => rfl
 | _ :: _, _ :: _, ⟨⟨r, e1, _⟩, h⟩ => by rw [List.map_cons, List.map_cons, DR.keys h, e1]
 | [], _ :: _, h => h.elim
 | _ :: _, [], h => h.elim
theorem DR.app {s : M.S} : ∀ {kvs kvs' : List (D × D)} {nd nd' : List (T × List T)}, DR s kvs nd -> DR s kvs' nd' -> DR s (kvs ++ kvs') (nd ++ nd')
 | [], _, [], _, _, k => k
 | _ :: _, _, _ :: _, _, ⟨e, h⟩, k => ⟨e, DR.app h k⟩
 | [], _, _ :: _, _, h, _ => h.elim
 | _ :: _, _, [], _, h, _ => h.elim
theorem DR.get {s : M.S} (x : T) : ∀ {kvs : List (D × D)} {nd : List (T × List T)}, DR s kvs nd -> (nd.lookup x = none /\ jJ (.str x) kvs = none) \/ ∃ row r, nd.lookup x = some row /\ jJ (.str x) kvs = some (.ref r) /\ s[r]? = some (.lst (row.map .str))
 | [], [], _ => .inl ⟨rfl, rfl⟩
 | _ :: kvs, (k, row) :: nd, ⟨⟨r, e1, e2⟩, h⟩ => by
  subst e1
  unfold jJ
  rw [List.lookup_cons, List.lookup_cons]
  by_cases e : x = k
  ·subst e
   exact .inr ⟨row, r, by simp, by simp, e2⟩
  ·have b1 : (x == k) = false := by simpa using e
   have b2 : (D.str x == D.str k) = false := by simpa using e
   rw [b1, b2]
   exact DR.get x h
 | [], _ :: _, h => h.elim
 | _ :: _, [], h => h.elim
def Zq (k : T) (v : List T) (nd : List (T × List T)) : List (T × List T) := if (nd.any fun p => decide (p.1 = k)) = true then nd.map fun p => if p.1 = k then (p.1, v) else p else nd ++ [(k, v)]
theorem DR.any {s : M.S} (k : T) : ∀ {kvs : List (D × D)} {nd : List (T × List T)}, DR s kvs nd -> (kvs.any fun p => decide (p.1 = .str k)) = (nd.any fun p => decide (p.1 = k))
 | [], [], _ => rfl
 | _ :: _, _ :: _, ⟨⟨r, e1, e2⟩, h⟩ => by subst e1; rw [List.any_cons, List.any_cons, DR.any k h]; simp
 | [], _ :: _, h => h.elim
 | _ :: _, [], h => h.elim
theorem DR.over {s : M.S} {k : T} {r : Nat} {row : List T} (hr : s[r]? = some (.lst (row.map .str))) : ∀ {kvs : List (D × D)} {nd : List (T × List T)}, DR s kvs nd -> DR s (kvs.map fun p => if p.1 = .str k then (p.1, .ref r) else p) (nd.map fun p => if p.1 = k then (p.1, row) else p)
 | [], [], _ => trivial
 | _ :: _, p :: _, ⟨⟨r', e1, e2⟩, h⟩ => by
  subst e1
  refine ⟨?_, DR.over hr h⟩
  by_cases e : p.1 = k
  ·subst e; exact ⟨r, by simp, by simpa using hr⟩
  ·exact ⟨r', by simp [e], by simpa [e] using e2⟩
 | [], _ :: _, h => h.elim
 | _ :: _, [], h => h.elim
theorem DR.put {s : M.S} {k : T} {r : Nat} {row : List T} {kvs : List (D × D)} {nd : List (T × List T)} (h : DR s kvs nd) (hr : s[r]? = some (.lst (row.map .str))) : DR s (ja (.str k) (.ref r) kvs) (Zq k row nd) := by
 unfold ja Zq
 rw [h.any k]
 split
 ·exact h.over hr
 ·exact h.app ⟨⟨r, rfl, hr⟩, trivial⟩
def zS (nd : List (T × List T)) : List T := nd.map (·.1)
theorem zDV {k : T} {nd : List (T × List T)} : (nd.any fun p => decide (p.1 = k)) = true ↔ k ∈ zS nd := by
 unfold zS
 rw [List.any_eq_true, List.mem_map]
 constructor
 ·rintro ⟨p, h1, h2⟩; exact ⟨p, h1, of_decide_eq_true h2⟩
 ·rintro ⟨p, h1, h2⟩; exact ⟨p, h1, decide_eq_true h2⟩
theorem zH1 {k : T} {v : List T} {nd : List (T × List T)} : zS (Zq k v nd) = if k ∈ zS nd then zS nd else zS nd ++ [k] := by
 unfold Zq
 by_cases h : k ∈ zS nd
 ·rw [if_pos (zDV.mpr h), if_pos h]
  unfold zS
  rw [List.map_map]
  refine List.map_congr_left fun p hp => ?_
  simp only [Function.comp]
  split <;> rfl
 ·rw [if_neg (fun z => h (zDV.mp z)), if_neg h]
  unfold zS
  simp
theorem zCo {k : T} {v : List T} {nd : List (T × List T)} (h : (zS nd).Nodup) : (zS (Zq k v nd)).Nodup := by
 rw [zH1]
 split
 ·exact h
 ·rename_i q
  rw [List.nodup_append]
  exact ⟨h, by simp, fun a ha b hb z => by simp at hb; subst hb; subst z; exact q ha⟩
theorem zJK {k : T} {v : List T} {nd : List (T × List T)} : (Zq k v nd).length <= nd.length + 1 := by
 unfold Zq
 split <;> simp
theorem zEp {n : Int} {j : Nat} {d : D} (h : (jQ 0 n)[j]? = some d) : d = .int j /\ (j : Int) < n := by
 unfold jQ at h
 rw [List.getElem?_map] at h
 cases q : (List.range (n - 0).toNat)[j]? with
 | none => rw [q] at h; cases h
 | some k =>
  rw [q] at h
  have h1 := (List.getElem?_eq_some_iff.mp q)
  obtain ⟨h1, h2⟩ := h1
  simp at h1 h2
  subst h2
  simp at h
  exact ⟨h.symm, by omega⟩
theorem zHZ (n : Nat) : (jQ 0 (n : Int)).length = n := by unfold jQ; simp
theorem JO {ts : List T} {k : Int} (h0 : 0 <= k) (h : k < ts.length) : atI (ts.map D.str) k = some (.str (ts.getD k.toNat [])) := by
 rw [zDR (d := .str []) h0 (by simpa using h), List.getD_eq_getElem?_getD, List.getD_eq_getElem?_getD, List.getElem?_map]
 cases ts[k.toNat]? <;> rfl
theorem zGK {α β : Type} (f : α -> β) (xs : List α) (lo hi : Option Int) : cut (xs.map f) lo hi = (cut xs lo hi).map f := by
 unfold cut
 rw [List.length_map, List.map_take, List.map_drop]
theorem DR.at {s : M.S} : ∀ {kvs : List (D × D)} {nd : List (T × List T)} {j : Nat} {kv : D × D}, DR s kvs nd -> kvs[j]? = some kv -> ∃ p r, nd[j]? = some p /\ kv = (.str p.1, .ref r) /\ s[r]? = some (.lst (p.2.map .str))
 | _ :: _, p :: _, 0, _, ⟨⟨r, e1, e2⟩, h⟩, e => by cases e; exact ⟨p, r, rfl, e1, e2⟩
 | _ :: kvs, _ :: nd, j + 1, kv, ⟨_, h⟩, e => by
  obtain ⟨p, r, h1, h2⟩ := DR.at (kvs := kvs) (nd := nd) (j := j) (kv := kv) h (by simpa using e)
  exact ⟨p, r, by simpa using h1, h2⟩
 | [], _, _, _, _, e => by simp at e
 | _ :: _, [], _, _, h, _ => h.elim
theorem zJa {k : T} {v : List T} {nd : List (T × List T)} (h : k ∉ zS nd) : Zq k v nd = nd ++ [(k, v)] := by
 unfold Zq
 rw [if_neg (fun z => h (zDV.mp z))]
theorem Zx {nd : List (T × List T)} (hn : (zS nd).Nodup) {p : T × List T} (h : p ∈ nd) : nd.lookup p.1 = some p.2 := by
 induction nd with
 | nil => cases h
 | cons q nd ih =>
  obtain ⟨k, v⟩ := q
  unfold zS at hn ih
  rw [List.map_cons, List.nodup_cons] at hn
  rw [List.lookup_cons]
  rcases List.mem_cons.mp h with h | h
  ·subst h; simp
  ·have hne : (p.1 == k) = false := by
    simp only [beq_eq_false_iff_ne, ne_eq]
    exact fun e => hn.1 (by have hm : p.1 ∈ nd.map (fun x => x.1) := List.mem_map_of_mem h; rw [e] at hm; exact hm)
   rw [hne]
   exact ih hn.2 h
theorem zIZ {s : M.S} {ws : List (D × D)} {nd0 : List (T × List T)} (hw : DR s ws nd0) (hn : (zS nd0).Nodup) : ∀ {kvs : List (D × D)} {nd : List (T × List T)}, DR s kvs nd -> (∀ p ∈ nd, p ∈ nd0) -> dEq s ws kvs = some true
 | [], [], _, _ => rfl
 | _ :: kvs, p :: nd, ⟨⟨r, e1, e2⟩, h⟩, m => by
  subst e1
  have ih := zIZ hw hn h fun q hq => m q (List.mem_cons_of_mem _ hq)
  have hp : ∀ (k : Nat) (ts : List T), s[k]? = some (.lst (ts.map .str)) -> toP 8 s (.ref k) = some (.lst (ts.map P.str)) := fun k ts e => by
   show (match jN s k with | some xs => (qJ.all (fun j => toP 7 s (.ref j)) xs).map P.lst | none => none) = _
   rw [JR e]
   show (qJ.all _ (ts.map .str)).map P.lst = _
   rw [zCA]; rfl
  have lk := Zx hn (m p List.mem_cons_self)
  rcases hw.get p.1 with ⟨h1, _⟩ | ⟨row, r', h1, h2, h3⟩
  ·rw [lk] at h1; cases h1
  ·rw [lk] at h1
   cases h1
   unfold dEq
   rw [h2, ih]
   simp [hp _ _ e2, hp _ _ h3, P.dep, Ju, P.eqv, zA3]
 | [], _ :: _, h, _ => h.elim
 | _ :: _, [], h, _ => h.elim
theorem zM6 {s : M.S} {i j : Nat} {kvs ws : List (D × D)} {nd : List (T × List T)} (hi : s[i]? = some (.dct kvs)) (hj : s[j]? = some (.dct ws)) (h1 : DR s kvs nd) (h2 : DR s ws nd) (hn : (zS nd).Nodup) : eqD (.ref i) (.ref j) s = .ok true s := by
 have h : ∀ (k : Nat) (kv : List (D × D)), s[k]? = some (.dct kv) -> toP Jk s (.ref k) = none := fun k kv e => by
  show (match jN s k with | some xs => (qJ.all (fun j => toP 8 s (.ref j)) xs).map P.lst | none => none) = _
  have : jN s k = none := by simp [jN, e]
  rw [this]
 simp only [eqD, h i _ hi, h j _ hj, zB2, hi, hj]
 rw [if_pos (by rw [h1.length, h2.length]), zIZ h2 hn h1 fun _ h => h]
theorem zBU {α : Type} {xs : List α} {lo hi : Option Int} {x : α} (h : x ∈ cut xs lo hi) : x ∈ xs := by
 unfold cut at h
 exact List.mem_of_mem_drop (List.mem_of_mem_take h)
theorem Qj {N : List T} {k : Nat} (h : k < N.length) : N.getD k [] ∈ N := by
 rw [List.getD_eq_getElem?_getD, List.getElem?_eq_getElem h]
 exact List.getElem_mem _
theorem zIG {α : Type} {xs : List α} {k : Int} (h0 : 0 <= k) (h : k < xs.length) : (cut xs (some (if 1 < k then k - 1 else 0)) (some k)).length <= 1 := by
 unfold cut
 simp only [sIx]
 rw [List.length_take]
 by_cases h1 : 1 < k
 ·rw [if_pos h1, if_neg (show ¬ k - 1 < 0 by omega), if_neg (show ¬ k < 0 by omega), Int.min_eq_left (show k <= (xs.length : Int) by omega), Int.min_eq_left (show k - 1 <= (xs.length : Int) by omega)]
  omega
 ·rw [if_neg h1, if_neg (show ¬ (0 : Int) < 0 by omega), if_neg (show ¬ k < 0 by omega), Int.min_eq_left (show k <= (xs.length : Int) by omega), Int.min_eq_left (show (0 : Int) <= (xs.length : Int) by omega)]
  omega
theorem zM8 {S : M.S} {q : Nat} {N : List T} {c k sh : Int} (hq : S[q]? = some (.lst (N.map .str))) (hk0 : 0 <= k) (hk : k < N.length) :
  ∃ ts : List T, ts.length <= 4 /\ (∀ t ∈ ts, t ∈ N) /\ yZ [.int c, .int k, .int sh, .ref q] S = alloc (.lst (ts.map .str)) S := by
 have m0 := Int.emod_nonneg c (show (4 : Int) ≠ 0 by decide)
 have m1 := Int.emod_lt_of_pos c (show (0 : Int) < 4 by decide)
 have pN : (0 : Int) < N.length := by omega
 have nN : N ≠ [] := List.ne_nil_of_length_pos (by omega)
 have fin : ∀ (ts : List T) (g : M.S) (j : Nat), y4 [.int c, .int k, .int sh, .ref q] S = .ok (.ref j) (S ++ g) -> (S ++ g)[j]? = some (.lst (ts.map .str)) -> S.length <= j -> yZ [.int c, .int k, .int sh, .ref q] S = alloc (.lst (ts.map .str)) S := fun ts g j e1 e2 l => zBE e1 e2 l (zAR _ _)
 by_cases h1 : sh = 1
 ·subst h1
  have hn : (c % 4 * if 0 < k then (1 : Int) else 0).natAbs < 4611686018427387904 := by split <;> omega
  have hs : QU (c % 4) = true := by unfold QU; exact decide_eq_true (by omega)
  have := zAr (n := 1) (it := jo (eOp zCp (eOp jg (zA 0) (eC (.int 4))) (zH zG0 (zB (QL cGt (zA 1) (eC (.int 0))) zD)))) (tg := zK 5) (e := eOp zY (zA 3) (eOp jg (zH zg (zB (zA 0) (zB (eOp jM (eC (.int 3)) (zA 5)) zD))) (zA 1))) (σ := [some (.int c), some (.int k), some (.int 1), some (.ref q), none]) (s := S) (lo := 0) (hi := c % 4 * if 0 < k then (1 : Int) else 0) (fun j => .str (N.getD (mix c (3 + j) % k).toNat [])) (by simp [hs, hn]) (by unfold SZ; split <;> omega) fun j hj => by
   have hk1 : 0 < k := by
    by_cases z : 0 < k
    ·exact z
    ·rw [if_neg z] at hj; simp at hj
   have i0 := Int.emod_nonneg (mix c (3 + j)) (show k ≠ 0 by omega)
   have i1 := Int.emod_lt_of_pos (mix c (3 + j)) hk1
   simp [hq, zg, hk1, JO (ts := N) i0 (by omega)]
  refine ⟨(List.range (c % 4 * (if 0 < k then (1 : Int) else 0) - 0).toNat).map fun (j : Nat) => N.getD (mix c (3 + j) % k).toNat [], by rw [List.length_map, List.length_range]; split <;> omega, fun t ht => ?_, fin _ [.lst _] S.length ?_ (by rw [List.getElem?_append_right (Nat.le_refl _), Nat.sub_self]; rfl) (Nat.le_refl _)⟩
  ·obtain ⟨j, hj, rfl⟩ := List.mem_map.mp ht
   have hj' := List.mem_range.mp hj
   have hk1 : 0 < k := by
    by_cases z : 0 < k
    ·exact z
    ·rw [if_neg z] at hj'; simp at hj'
   have i0 := Int.emod_nonneg (mix c (3 + j)) (show k ≠ 0 by omega)
   have i1 := Int.emod_lt_of_pos (mix c (3 + j)) hk1
   exact Qj (by omega)
  ·rw [List.map_map]
   simp only [y4, fn, yz, zJ, sIf, zl, zA, eC, cEq, eqD, jE, jn, List.map_cons, List.map_nil, List.length_cons, List.length_nil, List.cons_append, List.nil_append, Nat.reduceAdd, Nat.reduceSub, List.replicate, List.getElem?_cons_zero, List.getElem?_cons_succ, R.bind_ok, R.stm_ok, decide_true, if_true, this, alloc, RS.then_rt, RS.out_rt]
   rfl
 ·by_cases h2 : sh = 2
  ·subst h2
   have hlt : (cut N (some (if 1 < k then k - 1 else 0)) (some k)).length <= 1 := zIG hk0 hk
   have hx : atI (N.map D.str) ((N.length : Int) - 1) = some (.str (N.getD ((N.length : Int) - 1).toNat [])) := JO (by omega) (by omega)
   have hcm : ∀ t ∈ cut N (some (if 1 < k then k - 1 else 0)) (some k), t ∈ N := fun t ht => zBU ht
   have hcut : cut (N.map D.str) (some (if 1 < k then k - 1 else 0)) (some k) = (cut N (some (if 1 < k then k - 1 else 0)) (some k)).map D.str := zGK _ _ _ _
   generalize cut N (some (if 1 < k then k - 1 else 0)) (some k) = C at *
   have hlm : N.getD ((N.length : Int) - 1).toNat [] ∈ N := Qj (by omega)
   generalize N.getD ((N.length : Int) - 1).toNat [] = lastT at *
   by_cases h3 : c % 29 = 1
   ·refine ⟨C ++ [lastT], by simp; omega, fun t ht => ?_, fin _ [.lst (C.map .str), .lst [.str lastT], .lst ((C ++ [lastT]).map .str)] (S.length + 2) ?_ (by rw [List.getElem?_append_right (by omega), show S.length + 2 - S.length = 2 by omega]; rfl) (by omega)⟩
    ·rcases List.mem_append.mp ht with h | h
     ·exact hcm t h
     ·rw [List.mem_singleton.mp h]; exact hlm
    ·have hz : C.length + 1 <= SZ := by unfold SZ; omega
     have q1 : ∀ g, (S ++ g)[q]? = some (.lst (N.map .str)) := fun g => zd hq g
     have s1 : ∀ (a b : O), (S ++ [a, b])[S.length]? = some a := fun a b => by rw [List.getElem?_append_right (Nat.le_refl _), Nat.sub_self]; rfl
     have s2 : ∀ (a b : O), (S ++ [a, b])[S.length + 1]? = some b := fun a b => by rw [List.getElem?_append_right (by omega), show S.length + 1 - S.length = 1 by omega]; rfl
     have z0 : ¬ SZ = 0 := by unfold SZ; omega
     simp [y4, yz, h3, hq, hcut, q1, hx, s1, s2, hz, z0]
   ·refine ⟨C, by omega, hcm, fin _ [.lst (C.map .str)] S.length ?_ (by rw [List.getElem?_append_right (Nat.le_refl _), Nat.sub_self]; rfl) (Nat.le_refl _)⟩
    simp [y4, yz, h3, hq, hcut]
  ·have hn : (c % 4).natAbs < 4611686018427387904 := by omega
   have := zAr (n := 1) (it := jo (eOp jg (zA 0) (eC (.int 4)))) (tg := zK 5) (e := eOp zY (zA 3) (eOp jg (zH zg (zB (zA 0) (zB (eOp jM (eC (.int 3)) (zA 5)) zD))) (zH qK (zB (zA 3) zD)))) (σ := [some (.int c), some (.int k), some (.int sh), some (.ref q), none]) (s := S) (lo := 0) (hi := c % 4) (fun j => .str (N.getD (mix c (3 + j) % (N.length : Int)).toNat [])) (by simp [hn]) (by unfold SZ; omega) fun j hj => by
    have i0 := Int.emod_nonneg (mix c (3 + j)) (show (N.length : Int) ≠ 0 by omega)
    have i1 := Int.emod_lt_of_pos (mix c (3 + j)) pN
    simp [hq, zg, pN, nN, JO (ts := N) i0 i1]
   refine ⟨(List.range (c % 4 - 0).toNat).map fun (j : Nat) => N.getD (mix c (3 + j) % (N.length : Int)).toNat [], by rw [List.length_map, List.length_range]; omega, fun t ht => ?_, fin _ [.lst _] S.length ?_ (by rw [List.getElem?_append_right (Nat.le_refl _), Nat.sub_self]; rfl) (Nat.le_refl _)⟩
   ·obtain ⟨j, hj, rfl⟩ := List.mem_map.mp ht
    have i0 := Int.emod_nonneg (mix c (3 + j)) (show (N.length : Int) ≠ 0 by omega)
    have i1 := Int.emod_lt_of_pos (mix c (3 + j)) pN
    exact Qj (by omega)
   ·rw [List.map_map]
    simp only [y4, fn, yz, zJ, sIf, zl, zA, eC, cEq, eqD, jE, jB, jn, List.map_cons, List.map_nil, List.length_cons, List.length_nil, List.cons_append, List.nil_append, Nat.reduceAdd, Nat.reduceSub, List.replicate, List.getElem?_cons_zero, List.getElem?_cons_succ, R.bind_ok, R.stm_ok, h1, h2, decide_false, Bool.false_eq_true, if_false, RS.then_nx, this, alloc, RS.out_rt]
    rfl
def yE : SM :=
  (zR 3 (eOp jg (zH jk (zB (zA 0) (zB (zA 1) zD))) (eC (.int 4))))
def yD : SM :=
  (zR 4 jh)
def qZ : SM :=
  (jc (jo (zH qK (zB (zA 2) zD))) (zK 5)
  (zJ (zR 6 (zH zg (zB (zH jk (zB (zA 0) (zB (eOp jM (eOp jM (zA 1) (eC (.int 1))) (eOp jg (zA 5) (eC (.int 12)))) zD))) (zB (zA 5) zD))))
  (sIf (tOr (zl cGt (eOp jg (eOp zAb (zA 6) (eC (.int 64))) (eC (.int 9))) (eC (.int 0))) (zl cEq (zA 3) (eC (.int 2))))
  (jf (zA 4) (eOp zY (zA 2) (zA 5)) (zH yZ (zB (zA 6) (zB (zA 5) (zB (zA 3) (zB (zA 2) zD))))))
  jB)))
def yk : SM :=
  (jE (zA 4))
def Jf : SM := (zJ yE (zJ yD (zJ qZ yk)))
def zFW : F := fn 7 Jf
abbrev QV : F := zFW
theorem zEx {P : T × List T -> Prop} {k : T} {v : List T} {nd : List (T × List T)} (h : ∀ q ∈ nd, P q) (hk : P (k, v)) : ∀ q ∈ Zq k v nd, P q := by
 intro q hq
 unfold Zq at hq
 split at hq
 ·obtain ⟨p, hp, rfl⟩ := List.mem_map.mp hq
  by_cases e : p.1 = k
  ·rw [if_pos e, e]; exact hk
  ·rw [if_neg e]; exact h p hp
 ·rcases List.mem_append.mp hq with hq | hq
  ·exact h q hq
  ·rw [List.mem_singleton.mp hq]; exact hk
abbrev OkB (b : Nat) (N : List T) (nd : List (T × List T)) : Prop := ∀ q ∈ nd, q.1 ∈ N /\ q.2.length <= b /\ ∀ t ∈ q.2, t ∈ N
abbrev OkN (N : List T) (nd : List (T × List T)) : Prop := OkB 10 N nd
theorem OkB.mono {b c : Nat} {N : List T} {nd : List (T × List T)} (h : OkB b N nd) (hc : b <= c) : OkB c N nd := fun q hq => ⟨(h q hq).1, Nat.le_trans (h q hq).2.1 hc, (h q hq).2.2⟩
abbrev zFS : SM :=
  (zJ (zR 6 (zH zg (zB (zH jk (zB (zA 0) (zB (eOp jM (eOp jM (zA 1) (eC (.int 1))) (eOp jg (zA 5) (eC (.int 12)))) zD))) (zB (zA 5) zD))))
  (sIf (tOr (zl cGt (eOp jg (eOp zAb (zA 6) (eC (.int 64))) (eC (.int 9))) (eC (.int 0))) (zl cEq (zA 3) (eC (.int 2))))
  (jf (zA 4) (eOp zY (zA 2) (zA 5)) (zH yZ (zB (zA 6) (zB (zA 5) (zB (zA 3) (zB (zA 2) zD))))))
  jB))
abbrev NdI (B : M.S) (N : List T) (j : Nat) (s : M.S) : Prop := ∃ kvs nd t, s = B ++ .dct kvs :: t /\ DR s kvs nd /\ (zS nd).Nodup /\ nd.length <= j /\ OkB 4 N nd
theorem zIc {ns : List Int} {N : List T} (hN2 : N.length <= 60) {B : M.S} {p : Nat} {sh : Int} (hp : B[p]? = some (.lst (N.map .str))) {s : M.S} {j : Nat} (hj : j < N.length) (v5 v6 : Option D) (I : NdI B N j s) :
  ∃ v6' s', jU (zK 5) zFS (.int j) [some (.ro (ns.map .int)), some (.int 5), some (.ref p), some (.int sh), some (.ref B.length), v5, v6] s = .nx [some (.ro (ns.map .int)), some (.int 5), some (.ref p), some (.int sh), some (.ref B.length), some (.int j), v6'] s' /\ NdI B N (j + 1) s' := by
 obtain ⟨kvs, nd, t, rfl, dr, ndp, nl, ok⟩ := I
 have m0 := Int.emod_nonneg (j : Int) (show (12 : Int) ≠ 0 by decide)
 have hc := fun s => Q1 ns (6 + (j : Int) % 12) s (by omega)
 generalize qN ns (6 + (j : Int) % 12) = c0 at *
 generalize hc1 : mix c0 j = c at *
 have gp : ∀ g, (B ++ g)[p]? = some (.lst (N.map .str)) := fun g => zd hp g
 obtain ⟨ts, tl, tm, er⟩ := zM8 (S := B ++ .dct kvs :: t) (q := p) (N := N) (c := c) (k := (j : Int)) (sh := sh) (gp _) (by omega) (by omega)
 have ix := JO (ts := N) (k := (j : Int)) (by omega) (by omega)
 rw [Int.toNat_natCast] at ix
 have hnd : kvs.length < SZ := by rw [dr.length]; unfold SZ; omega
 by_cases hb : 0 < c / 64 % 9 \/ sh = 2
 ·refine ⟨some (.int c), B ++ .dct (ja (.str (N.getD j [])) (.ref (B.length + (t.length + 1))) kvs) :: (t ++ [.lst (ts.map D.str)]), ?_, _, Zq (N.getD j []) ts nd, _, rfl, ?_, zCo ndp, Nat.le_trans zJK (by omega), zEx ok ⟨Qj hj, (by show ts.length <= 4; omega), tm⟩⟩
  ·have hb' : ∀ (a b : M.RS), (if 0 < c / 64 % 9 then a else if sh = 2 then a else b) = a := fun a b => by
    rcases hb with h | h
    ·rw [if_pos h]
    ·rw [if_pos h]; split <;> rfl
   have er' : yZ [.int c, .int j, .int sh, .ref p] (B ++ .dct kvs :: t) = .ok (.ref (B.length + (t.length + 1))) (B ++ .dct kvs :: (t ++ [.lst (ts.map D.str)])) := by rw [er]; simp
   have h6 : (5 : Int) + 1 + (j : Int) % 12 = 6 + (j : Int) % 12 := by omega
   by_cases h1 : 0 < c / 64 % 9
   ·simp [hc, zg, hc1, h1, er', gp, ix, zt, hnd]
   ·have h2 : sh = 2 := by rcases hb with h | h; exact absurd h h1; exact h
    subst h2
    simp [hc, zg, hc1, h1, er', gp, ix, zt, hnd]
  ·have kp : yN (B ++ .dct kvs :: t) (B ++ .dct (ja (.str (N.getD j [])) (.ref (B.length + (t.length + 1))) kvs) :: (t ++ [.lst (ts.map D.str)])) := by
    have k1 := yN.set (s := B ++ .dct kvs :: t) (i := B.length) (o := .dct kvs) (o' := .dct (ja (.str (N.getD j [])) (.ref (B.length + (t.length + 1))) kvs)) (by simp) (fun _ z => nomatch z)
    have k2 := k1.trans (yN.app _ [.lst (ts.map D.str)])
    simpa using k2
   refine (dr.mono kp).put ?_
   rw [List.getElem?_append_right (by omega)]
   simp [show B.length + (t.length + 1) - B.length = t.length + 1 by omega]
 ·have h1 : ¬ 0 < c / 64 % 9 := fun z => hb (.inl z)
  have h2 : ¬ sh = 2 := fun z => hb (.inr z)
  exact ⟨some (.int c), _, by simp [hc, zg, hc1, h1, h2], kvs, nd, t, rfl, dr, ndp, by omega, ok⟩
theorem zKB {ns : List Int} {N : List T} (hN : 0 < N.length) (hN2 : N.length <= 60) {B : M.S} {p : Nat} (hp : B[p]? = some (.lst (N.map .str))) :
  ∃ kvs nd t, QV [.ro (ns.map .int), .int 5, .ref p] B = .ok (.ref B.length) (B ++ .dct kvs :: t) /\ DR (B ++ .dct kvs :: t) kvs nd /\ (zS nd).Nodup /\ nd.length <= 60 /\ OkB 4 N nd := by
 have c5 := fun s => Q1 ns 5 s (by decide)
 generalize hsh : qN ns 5 % 4 = sh at *
 obtain ⟨σ', s', e5, ⟨v5, v6, eσ⟩, kvs, nd, t, es, dr, ndp, nl, ok⟩ := ql (g := []) (f := jU (zK 5) zFS)
  (fun j σ s => (∃ v5 v6 : Option D, σ = [some (.ro (ns.map .int)), some (.int 5), some (.ref p), some (.int sh), some (.ref B.length), v5, v6]) /\ NdI B N j s) (jQ 0 (N.length : Int)) 0 [some (.ro (ns.map .int)), some (.int 5), some (.ref p), some (.int sh), some (.ref B.length), none, none] (B ++ [.dct []]) ⟨⟨none, none, rfl⟩, [], [], [], rfl, trivial, List.nodup_nil, Nat.le_refl _, fun q hq => by cases hq⟩ fun j d hd σ s ⟨⟨v5, v6, eσ⟩, I⟩ => by
   obtain ⟨rfl, hj⟩ := zEp hd
   subst eσ
   rw [Nat.zero_add] at I ⊢
   obtain ⟨v6', s', e, I'⟩ := zIc (ns := ns) (sh := sh) hN2 hp (by omega) v5 v6 I
   exact ⟨_, s', e, rfl, ⟨_, _, rfl⟩, I'⟩
 rw [zHZ, Nat.zero_add] at nl
 subst eσ
 subst es
 refine ⟨kvs, nd, t, ?_, dr, ndp, by omega, ok⟩
 have q1 : (N.length : Int).natAbs < 4611686018427387904 := by omega
 have gp : (B ++ [O.dct []])[p]? = some (.lst (N.map .str)) := zd hp _
 have hg : ∀ s, zQ [] s = true := fun _ => rfl
 have e12 : ∀ r, (zJ yE (zJ yD r)) [some (.ro (ns.map .int)), some (.int 5), some (.ref p), none, none, none, none] B = r [some (.ro (ns.map .int)), some (.int 5), some (.ref p), some (.int sh), some (.ref B.length), none, none] (B ++ [.dct []]) := fun r => by
  simp [yE, yD, c5, hsh]
 have e3 : qZ [some (.ro (ns.map .int)), some (.int 5), some (.ref p), some (.int sh), some (.ref B.length), none, none] (B ++ [.dct []]) = .nx [some (.ro (ns.map .int)), some (.int 5), some (.ref p), some (.int sh), some (.ref B.length), v5, v6] (B ++ .dct kvs :: t) := by
  simp only [qZ, jc, jo, zH, zB, zD, zA, List.getElem?_cons_succ, List.getElem?_cons_zero, R.bind_ok, qK, gp, List.length_map, q1, if_true, R.stm_ok, hg]
  exact e5
 show ((zJ yE (zJ yD (zJ qZ yk))) [some (.ro (ns.map .int)), some (.int 5), some (.ref p), none, none, none, none] B).out = _
 rw [e12]
 show ((qZ _ _).then _).out = _
 rw [e3]
 simp [yk]
def ZB : SM :=
  (zJ (zR 1 jh)
  (zJ (yC (zA 0) (Qi (qE (zK 2) (qE (zK 3) QZ)))
  (jf (zA 1) (zA 2) (zH ZJ (zB (zA 3) zD))))
  (jE (zA 1))))
def zD3 : F := fn 4 ZB
abbrev qS : F := zD3
theorem zBS {S : M.S} {p r : Nat} {o u : O} {xs : List D} (hp : S[p]? = some o) (no : ∀ xs, o ≠ .lst xs) (e : S[r]? = some (.lst xs)) : (S.set p u)[r]? = some (.lst xs) := by
 rw [List.getElem?_set_ne (fun z => by subst z; rw [hp] at e; cases e; exact no xs rfl)]
 exact e
theorem zJd {S : M.S} {p : Nat} {o u : O} (hp : S[p]? = some o) : (S.set p u).set p o = S := by
 rw [List.set_set]
 obtain ⟨h, e⟩ := List.getElem?_eq_some_iff.mp hp
 rw [<- e, List.set_getElem_self]
theorem JW {S g : M.S} {p : Nat} {o o' : O} (hp : S[p]? = some o) : (S ++ g).set p o' = S.set p o' ++ g := by
 rw [List.set_append_left _ _ (List.getElem?_eq_some_iff.mp hp).1]
theorem zAP {S : M.S} {p : Nat} {o u : O} (hp : S[p]? = some o) : (S.set p u)[p]? = some u := by
 rw [List.getElem?_set_self (List.getElem?_eq_some_iff.mp hp).1]
theorem ZZ {S g : M.S} {p : Nat} {kvs : List (D × D)} (hp : S[p]? = some (.dct kvs)) (σ : St) : thaw p kvs (.nx σ (S.set p (.fdc kvs) ++ g)) = .nx σ (S ++ g) := by
 have e1 : (S.set p (.fdc kvs) ++ g)[p]? = some (.fdc kvs) := zd (zAP hp) g
 have e2 : (S.set p (.fdc kvs) ++ g).set p (.dct kvs) = S ++ g := by rw [JW (zAP hp), zJd hp]
 simp only [thaw, e1, e2, if_true]
theorem zm {S g : M.S} {o : O} : (S ++ o :: g)[S.length]? = some o := by rw [List.getElem?_append_right (Nat.le_refl _), Nat.sub_self]; rfl
theorem ZP {S g : M.S} {o o' : O} : (S ++ o :: g).set S.length o' = S ++ o' :: g := by rw [List.set_append_right _ _ (Nat.le_refl _), Nat.sub_self]; rfl
abbrev zIC : SM := jf (zA 1) (zA 2) (zH ZJ (zB (zA 3) zD))
abbrev zND : GM := Qi (qE (zK 2) (qE (zK 3) QZ))
theorem zDf {S : M.S} {p : Nat} {kvs : List (D × D)} {nd : List (T × List T)} (hp : S[p]? = some (.dct kvs)) (dr : DR S kvs nd) (hn : (zS nd).Nodup) (hl : nd.length <= 100) :
  ∃ hk g, qS [.ref p] S = .ok (.ref S.length) (S ++ .dct hk :: g) /\ DR (S ++ .dct hk :: g) hk nd := by
 obtain ⟨S', hS⟩ : ∃ S', S' = S.set p (.fdc kvs) := ⟨_, rfl⟩
 have hSl : S'.length = S.length := by rw [hS, List.length_set]
 have hf : ∀ (r : Nat) (xs : List D), S[r]? = some (.lst xs) -> S'[r]? = some (.lst xs) := fun r xs e => by rw [hS]; exact zBS hp (fun _ z => nomatch z) e
 obtain ⟨σ', s', e5, ⟨v2, v3, eσ⟩, hk, g, es, drh⟩ := ql (g := []) (f := jU zND zIC)
  (fun j σ s => (∃ v2 v3 : Option D, σ = [some (.ref p), some (.ref S.length), v2, v3]) /\ ∃ hk g, s = S' ++ .dct hk :: g /\ DR s hk (nd.take j))
  (kvs.map fun p => D.tup [p.1, p.2]) 0 [some (.ref p), some (.ref S.length), none, none] (S' ++ [O.dct []]) ⟨⟨none, none, rfl⟩, [], [], rfl, trivial⟩ fun j x hx σ s ⟨⟨v2, v3, eσ⟩, hk, g, es, drh⟩ => by
   rw [Nat.zero_add] at drh ⊢
   subst eσ
   rw [List.getElem?_map] at hx
   cases q : kvs[j]? with
   | none => rw [q] at hx; cases hx
   | some kv =>
    rw [q] at hx
    have hx' : x = .tup [kv.1, kv.2] := by simpa using hx.symm
    subst hx'
    obtain ⟨pr, r, e1, e2, e3⟩ := dr.at q
    subst e2
    have e3' : s[r]? = some (.lst (pr.2.map .str)) := by rw [es]; exact zd (hf r _ e3) _
    have hj : j < nd.length := (List.getElem?_eq_some_iff.mp e1).1
    have ep : nd[j] = pr := (List.getElem?_eq_some_iff.mp e1).2
    have hlen : hk.length < SZ := by rw [drh.length, List.length_take]; unfold SZ; omega
    have gs : s[S.length]? = some (.dct hk) := by rw [es, <- hSl]; exact zm
    have gs' : (s ++ [O.lst (pr.2.map D.str)])[S.length]? = some (.dct hk) := zd gs _
    have hs' : (s ++ [O.lst (pr.2.map D.str)]).set S.length (.dct (ja (.str pr.1) (.ref s.length) hk)) = S' ++ .dct (ja (.str pr.1) (.ref s.length) hk) :: (g ++ [O.lst (pr.2.map D.str)]) := by
     rw [es, List.append_assoc, List.cons_append, <- hSl, ZP]
    refine ⟨[some (.ref p), some (.ref S.length), some (.str pr.1), some (.ref r)], _, ?_, rfl, ⟨_, _, rfl⟩, ja (.str pr.1) (.ref s.length) hk, g ++ [O.lst (pr.2.map D.str)], rfl, ?_⟩
    ·rw [<- hs']
     simp [e3', gs', zt, hlen]
    ·rw [<- hs']
     have kp : yN s ((s ++ [O.lst (pr.2.map D.str)]).set S.length (.dct (ja (.str pr.1) (.ref s.length) hk))) := (yN.app s [O.lst (pr.2.map D.str)]).trans (yN.set gs' (fun _ z => nomatch z))
     have key : pr.1 ∉ zS (nd.take j) := fun z => by
      have hn' := hn
      rw [<- List.take_append_drop j nd] at hn'
      unfold zS at hn' z
      rw [List.map_append, List.nodup_append] at hn'
      refine hn'.2.2 pr.1 z pr.1 (List.mem_map.mpr ⟨pr, ?_, rfl⟩) rfl
      rw [List.drop_eq_getElem_cons hj, ep]
      exact List.mem_cons_self
     have := (drh.mono kp).put (k := pr.1) (r := s.length) (row := pr.2) ?_
     ·rw [zJa key] at this
      rw [List.take_succ, e1]
      exact this
     ·rw [List.getElem?_set_ne (by
       have := (List.getElem?_eq_some_iff.mp gs).1
       omega)]
      simp
 rw [Nat.zero_add, List.length_map, dr.length, List.take_length] at drh
 subst eσ
 subst es
 refine ⟨hk, g, ?_, ?_⟩
 ·have g5 : (S ++ [O.dct []])[p]? = some (.dct kvs) := zd hp _
  have s5 : (S ++ [O.dct []]).set p (.fdc kvs) = S' ++ [O.dct []] := by rw [JW hp, hS]
  have e6 : (yC (zA 0) zND zIC) [some (.ref p), some (.ref S.length), none, none] (S ++ [O.dct []]) = .nx [some (.ref p), some (.ref S.length), v2, v3] (S ++ .dct hk :: g) := by
   simp only [yC, zA, List.getElem?_cons_zero, R.stm_ok, g5, s5, e5]
   rw [hS]
   exact ZZ hp _
  show ((ZB [some (.ref p), none, none, none] S).out) = _
  unfold ZB
  have e0 : (zR 1 jh) [some (.ref p), none, none, none] S = .nx [some (.ref p), some (.ref S.length), none, none] (S ++ [.dct []]) := by simp
  show ((((zR 1 jh) _ _).then _).out) = _
  rw [e0, RS.then_nx]
  show ((((yC _ _ _) _ _).then _).out) = _
  rw [e6]
  simp
 ·refine drh.mono fun r xs e => ?_
  by_cases h : r < S.length
  ·rw [List.getElem?_append_left (by omega)] at e
   rw [List.getElem?_append_left h]
   by_cases hr : r = p
   ·subst hr; rw [hS, zAP hp] at e; cases e
   ·rw [hS, List.getElem?_set_ne (Ne.symm hr)] at e; exact e
  ·rw [List.getElem?_append_right (by omega), hSl] at e
   rw [List.getElem?_append_right (by omega)]; exact e
def QM : SM :=
  (zJ (zR 1 jh)
  (zJ (yC (zA 0) (Qi (qE (zK 2) (qE (zK 3) QZ)))
  (zJ (jf (zA 1) (zA 2) (eC (.bl true)))
  (jc (iE (zA 3)) (zK 4)
  (jf (zA 1) (zA 4) (eC (.bl true))))))
  (jE (zH Qn (zB (zA 1) zD)))))
def zCm : F := fn 5 QM
def q9 : F := chN zCm
theorem zFz : jS 1 zCm q9 := zBH _
abbrev tk (x : T) : D × D := (.str x, .bl true)
def qI (y : T) (ks : List T) : List T := if y ∈ ks then ks else ks ++ [y]
def qk (ks ys : List T) : List T := ys.foldl (fun a y => qI y a) ks
theorem zCg (y : T) (ks : List T) : ja (.str y) (.bl true) (ks.map tk) = (qI y ks).map tk := by
 unfold ja qI
 have e : ((ks.map tk).any fun p => decide (p.1 = .str y)) = decide (y ∈ ks) := by
  rw [List.any_map]
  induction ks with
  | nil => rfl
  | cons k ks ih =>
   rw [List.any_cons, ih]
   by_cases h : k = y <;> simp [h, eq_comm]
 rw [e]
 by_cases h : y ∈ ks
 ·rw [if_pos h, if_pos (decide_eq_true h), List.map_map]
  refine List.map_congr_left fun x hx => ?_
  simp only [Function.comp]
  split <;> rfl
 ·rw [if_neg h, if_neg (by simp [h])]
  simp
theorem yJ {x y : T} {ks : List T} : x ∈ qI y ks ↔ x ∈ ks \/ x = y := by
 unfold qI
 split
 ·rename_i h
  constructor
  ·exact .inl
  ·rintro (h1 | rfl)
   ·exact h1
   ·exact h
 ·simp
theorem y0 {y : T} {ks : List T} (h : ks.Nodup) : (qI y ks).Nodup := by
 unfold qI
 split
 ·exact h
 ·rename_i q
  rw [List.nodup_append]
  exact ⟨h, by simp, fun a ha b hb z => by simp at hb; subst hb; subst z; exact q ha⟩
theorem Zn {x : T} : ∀ {ys ks : List T}, x ∈ qk ks ys ↔ x ∈ ks \/ x ∈ ys
 | [], ks => by simp [qk]
 | y :: ys, ks => by
  show x ∈ qk (qI y ks) ys ↔ _
  rw [Zn, yJ, List.mem_cons, or_assoc]
theorem ZT : ∀ {ys ks : List T}, ks.Nodup -> (qk ks ys).Nodup
 | [], _, h => h
 | y :: ys, ks, h => ZT (ys := ys) (y0 h)
theorem qY : ∀ {xs N : List T}, xs.Nodup -> (∀ x ∈ xs, x ∈ N) -> xs.length <= N.length
 | [], _, _, _ => by simp
 | x :: xs, N, h, m => by
  rw [List.nodup_cons] at h
  have hx := m x List.mem_cons_self
  have : xs.length <= (N.erase x).length := qY h.2 fun y hy => by
   refine (List.mem_erase_of_ne fun z => ?_).mpr (m y (List.mem_cons_of_mem _ hy))
   subst z; exact h.1 hy
  rw [List.length_erase_of_mem hx] at this
  have := List.length_pos_of_mem hx
  simp only [List.length_cons]
  omega
theorem zJE (ks : List T) : jx ((ks.map tk).map (·.1)) = some ks := by
 rw [List.map_map]
 exact J0 ks
abbrev NLt (a b : T) : Prop := ¬ b < a
theorem zJN {a b c : T} (h1 : ¬ b < a) (h2 : ¬ c < b) : ¬ c < a := by
 rw [List.not_lt] at h1 h2 ⊢
 exact List.le_trans h1 h2
theorem zDS (x : T) : ∀ ts : List T, (jd.insT' x ts).Perm (x :: ts)
 | [] => .refl _
 | y :: r => by
  unfold jd.insT'
  split
  ·exact ((zDS x r).cons y).trans (.swap x y r)
  ·exact .refl _
theorem JU : ∀ ts : List T, (jd ts).Perm ts
 | [] => .refl _
 | x :: r => (zDS x _).trans ((JU r).cons x)
theorem zF4 (x : T) : ∀ ts : List T, ts.Pairwise NLt -> (jd.insT' x ts).Pairwise NLt
 | [], _ => by unfold jd.insT'; simp
 | y :: r, h => by
  rw [List.pairwise_cons] at h
  unfold jd.insT'
  split
  ·rename_i hy
   rw [List.pairwise_cons]
   refine ⟨fun b hb => ?_, zF4 x r h.2⟩
   rcases List.mem_cons.mp ((zDS x r).mem_iff.mp hb) with rfl | hb
   ·exact fun z => List.lt_irrefl _ (List.lt_trans z hy)
   ·exact h.1 b hb
  ·rename_i hy
   rw [List.pairwise_cons]
   refine ⟨fun b hb => ?_, List.pairwise_cons.mpr h⟩
   rcases List.mem_cons.mp hb with rfl | hb
   ·exact hy
   ·exact zJN hy (h.1 b hb)
theorem zEY : ∀ ts : List T, (jd ts).Pairwise NLt
 | [] => .nil
 | x :: r => zF4 x _ (zEY r)
theorem zGJ : ∀ {ts : List T}, ts.Pairwise NLt -> jd ts = ts
 | [], _ => rfl
 | [x], _ => by simp [jd, jd.insT']
 | x :: y :: r, h => by
  rw [List.pairwise_cons] at h
  show jd.insT' x (jd (y :: r)) = _
  rw [zGJ h.2, jd.insT', if_neg (h.1 y List.mem_cons_self)]
theorem zOA {ts : List T} (h : ts.Nodup) : (jd ts).Nodup := (JU ts).nodup_iff.mpr h
def inV (nd : List (T × List T)) (x : T) : Prop := x ∈ zS nd \/ ∃ q ∈ nd, x ∈ q.2
theorem zJp {nd : List (T × List T)} {pr : T × List T} {x : T} : inV (nd ++ [pr]) x ↔ (inV nd x \/ x = pr.1) \/ x ∈ pr.2 := by
 unfold inV zS
 rw [List.map_append, List.mem_append]
 constructor
 ·rintro ((h | h) | ⟨q, h1, h2⟩)
  ·exact .inl (.inl (.inl h))
  ·exact .inl (.inr (by simpa using h))
  ·rcases List.mem_append.mp h1 with h1 | h1
   ·exact .inl (.inl (.inr ⟨q, h1, h2⟩))
   ·rw [List.mem_singleton.mp h1] at h2; exact .inr h2
 ·rintro (((h | ⟨q, h1, h2⟩) | h) | h)
  ·exact .inl (.inl h)
  ·exact .inr ⟨q, List.mem_append_left _ h1, h2⟩
  ·exact .inl (.inr (by simp [h]))
  ·exact .inr ⟨pr, List.mem_append_right _ (by simp), h⟩
theorem zCs {ks : List T} (h : ks.length < 64) (s : M.S) : QG ((ks.map tk).map (·.1)) s = alloc (.lst ((jd ks).map .str)) s := by
 unfold QG
 rw [zJE]
 dsimp only
 rw [if_pos h]
theorem zBp {S' : M.S} {σ : St} {a i : Nat} {N : List T} (hN : N.length <= 62) (ha : σ[a]? = some (some (.ref S'.length))) (hai : a ≠ i) (hi : i < σ.length) {G : Gd} (hG : ∀ g, zQ G (S' ++ g) = true) :
  ∀ (ys ks : List T) (v : Option D), ks.Nodup -> (∀ x ∈ ks, x ∈ N) -> (∀ y ∈ ys, y ∈ N) -> ∃ v', jm G (jU (zK i) (jf (zA a) (zA i) (eC (.bl true)))) (ys.map .str) (σ.set i v) (S' ++ [.dct (ks.map tk)]) = .nx (σ.set i v') (S' ++ [.dct ((qk ks ys).map tk)])
 | [], ks, v, _, _, _ => ⟨v, rfl⟩
 | y :: ys, ks, v, hn, hk, hy => by
  have hl : (ks.map tk).length < SZ := by rw [List.length_map]; have := qY hn hk; unfold SZ; omega
  have g1 : ∀ o, (S' ++ [o])[S'.length]? = some o := fun o => zm
  have s1 : ∀ o o', (S' ++ [o]).set S'.length o' = S' ++ [o'] := fun o o' => ZP
  have e : jU (zK i) (jf (zA a) (zA i) (eC (.bl true))) (.str y) (σ.set i v) (S' ++ [.dct (ks.map tk)]) = .nx (σ.set i (some (.str y))) (S' ++ [.dct ((qI y ks).map tk)]) := by
   have h1 : (σ.set i (some (.str y)))[a]? = some (some (.ref S'.length)) := by rw [List.getElem?_set_ne (Ne.symm hai)]; exact ha
   have h2 : (σ.set i (some (D.str y)))[i]? = some (some (.str y)) := List.getElem?_set_self hi
   rw [<- zCg]
   simp only [jU, zK, List.set_set, jf, eC, zA, R.stm_ok, h1, h2, yj, g1, hl, zt, decide_true, Bool.and_self, if_true, s1]
  obtain ⟨v', e'⟩ := zBp hN ha hai hi hG ys (qI y ks) (some (.str y)) (y0 hn) (fun x hx => by
   rcases yJ.mp hx with h | h
   ·exact hk x h
   ·rw [h]; exact hy y List.mem_cons_self) fun x hx => hy x (List.mem_cons_of_mem _ hx)
  refine ⟨v', ?_⟩
  rw [List.map_cons, jm, e]
  dsimp only
  rw [if_pos (hG _), e']
  rfl
abbrev zKJ : GM := Qi (qE (zK 2) (qE (zK 3) QZ))
abbrev zGP : SM := (zJ (jf (zA 1) (zA 2) (eC (.bl true)))
  (jc (iE (zA 3)) (zK 4)
  (jf (zA 1) (zA 4) (eC (.bl true)))))
theorem zHz {S : M.S} {p : Nat} {kvs : List (D × D)} {nd : List (T × List T)} {N : List T} (hp : S[p]? = some (.dct kvs)) (dr : DR S kvs nd) (ok : OkN N nd) (hN : N.length <= 62) :
  ∃ V : List T, (∀ x, x ∈ V ↔ inV nd x) /\ q9 [.ref p] S = alloc (.lst (V.map .str)) S := by
 obtain ⟨S', hS⟩ : ∃ S', S' = S.set p (.fdc kvs) := ⟨_, rfl⟩
 have hSl : S'.length = S.length := by rw [hS, List.length_set]
 have hf : ∀ (r : Nat) (xs : List D), S[r]? = some (.lst xs) -> S'[r]? = some (.lst xs) := fun r xs e => by rw [hS]; exact zBS hp (fun _ z => nomatch z) e
 obtain ⟨σ', s', e5, ⟨v2, v3, v4, eσ⟩, ks, es, kn, km⟩ := ql (g := []) (f := jU zKJ zGP)
  (fun j σ s => (∃ v2 v3 v4 : Option D, σ = [some (.ref p), some (.ref S'.length), v2, v3, v4]) /\ ∃ ks : List T, s = S' ++ [.dct (ks.map tk)] /\ ks.Nodup /\ ∀ x, x ∈ ks ↔ inV (nd.take j) x)
  (kvs.map fun p => D.tup [p.1, p.2]) 0 [some (.ref p), some (.ref S'.length), none, none, none] (S' ++ [O.dct []]) ⟨⟨none, none, none, rfl⟩, [], rfl, List.nodup_nil, fun x => by simp [inV, zS]⟩ fun j x hx σ s ⟨⟨v2, v3, v4, eσ⟩, ks, es, kn, km⟩ => by
   rw [Nat.zero_add] at km ⊢
   subst eσ
   subst es
   rw [List.getElem?_map] at hx
   cases q : kvs[j]? with
   | none => rw [q] at hx; cases hx
   | some kv =>
    rw [q] at hx
    have hx' : x = .tup [kv.1, kv.2] := by simpa using hx.symm
    subst hx'
    obtain ⟨pr, r, e1, e2, e3⟩ := dr.at q
    subst e2
    have hmem : pr ∈ nd := List.mem_of_getElem? e1
    obtain ⟨o1, o2, o3⟩ := ok pr hmem
    have kN : ∀ x ∈ ks, x ∈ N := fun x hx => by
     rcases (km x).mp hx with h | ⟨q, h1, h2⟩
     ·unfold zS at h
      obtain ⟨q, h1, rfl⟩ := List.mem_map.mp h
      exact (ok q (List.mem_of_mem_take h1)).1
     ·exact (ok q (List.mem_of_mem_take h1)).2.2 x h2
    have hl : (ks.map tk).length < SZ := by rw [List.length_map]; have := qY kn kN; unfold SZ; omega
    have g1 : ∀ o, (S' ++ [o])[S'.length]? = some o := fun o => zm
    have s1 : ∀ o o', (S' ++ [o]).set S'.length o' = S' ++ [o'] := fun o o' => ZP
    have g3 : ∀ g, (S' ++ g)[r]? = some (.lst (pr.2.map .str)) := fun g => zd (hf r _ e3) _
    obtain ⟨v', el⟩ := zBp (S' := S') (σ := [some (.ref p), some (.ref S'.length), some (.str pr.1), some (.ref r), v4]) (a := 1) (i := 4) hN rfl (by decide) (by simp) (G := [(r, .lst (pr.2.map .str))]) (fun g => by simp [zQ, g3]) pr.2 (qI pr.1 ks) v4 (y0 kn) (fun x hx => by
     rcases yJ.mp hx with h | h
     ·exact kN x h
     ·rw [h]; exact o1) o3
    refine ⟨[some (.ref p), some (.ref S'.length), some (.str pr.1), some (.ref r), v'], S' ++ [.dct ((qk (qI pr.1 ks) pr.2).map tk)], ?_, rfl, ⟨_, _, _, rfl⟩, _, rfl, ZT (y0 kn), fun x => ?_⟩
    ·have a1 : (jf (zA 1) (zA 2) (eC (.bl true))) [some (.ref p), some (.ref S'.length), some (.str pr.1), some (.ref r), v4] (S' ++ [.dct (ks.map tk)]) = .nx [some (.ref p), some (.ref S'.length), some (.str pr.1), some (.ref r), v4] (S' ++ [.dct ((qI pr.1 ks).map tk)]) := by
      rw [<- zCg]
      simp only [jf, eC, zA, R.stm_ok, List.getElem?_cons_succ, List.getElem?_cons_zero, yj, g1, hl, zt, decide_true, Bool.and_self, if_true, s1]
     show ((jf (zA 1) (zA 2) (eC (.bl true))) [some (.ref p), some (.ref S'.length), some (.str pr.1), some (.ref r), v4] (S' ++ [.dct (ks.map tk)])).then _ = _
     rw [a1, RS.then_nx]
     have hg : ∀ g, zQ [(r, O.lst (pr.2.map .str))] (S' ++ g) = true := fun g => by simp [zQ, g3]
     simp only [jc, iE, zA, List.getElem?_cons_succ, List.getElem?_cons_zero, R.bind_ok, itD, g3, R.stm_ok, hg, if_true]
     exact el
    ·rw [Zn, yJ, km x, List.take_succ, e1, Option.toList_some, zJp]
 rw [Nat.zero_add, List.length_map, dr.length, List.take_length] at km
 subst eσ
 subst es
 have kN : ∀ x ∈ ks, x ∈ N := fun x hx => by
  rcases (km x).mp hx with h | ⟨q, h1, h2⟩
  ·unfold zS at h
   obtain ⟨q, h1, rfl⟩ := List.mem_map.mp h
   exact (ok q h1).1
  ·exact (ok q h1).2.2 x h2
 have hl := qY kn kN
 refine ⟨jd ks, fun x => by rw [(JU ks).mem_iff]; exact km x, ?_⟩
 refine zBE (g := [.dct (ks.map tk), .lst ((jd ks).map .str)]) (j := S.length + 1) ?_ (by rw [List.getElem?_append_right (by omega), show S.length + 1 - S.length = 1 by omega]; rfl) (by omega) (zAR _ _)
 have g5 : (S ++ [O.dct []])[p]? = some (.dct kvs) := zd hp _
 have s5 : (S ++ [O.dct []]).set p (.fdc kvs) = S' ++ [O.dct []] := by rw [JW hp, hS]
 have e6 : (yC (zA 0) zKJ zGP) [some (.ref p), some (.ref S.length), none, none, none] (S ++ [O.dct []]) = .nx [some (.ref p), some (.ref S.length), v2, v3, v4] (S ++ [.dct (ks.map tk)]) := by
  rw [hSl] at e5
  simp only [yC, zA, List.getElem?_cons_zero, R.stm_ok, g5, s5, e5]
  rw [hS]
  exact ZZ hp _
 show ((QM [some (.ref p), none, none, none, none] S).out) = _
 unfold QM
 have e0 : (zR 1 jh) [some (.ref p), none, none, none, none] S = .nx [some (.ref p), some (.ref S.length), none, none, none] (S ++ [.dct []]) := by simp
 show ((((zR 1 jh) _ _).then _).out) = _
 rw [e0, RS.then_nx]
 show ((((yC _ _ _) _ _).then _).out) = _
 rw [e6, RS.then_nx]
 have g7 : (S ++ [O.dct (ks.map tk)])[S.length]? = some (.dct (ks.map tk)) := zm
 simp only [jE, zH, zB, zD, zA, List.getElem?_cons_succ, List.getElem?_cons_zero, R.bind_ok, Qn, g7, zCs (show ks.length < 64 by omega), alloc, R.stm_ok, RS.out_rt]
 simp
def ZR : SM :=
  (zJ (zR 1 jh)
  (zJ (jw (zA 0) (zK 2)
  (jc (iE (eOp zY (zA 0) (zA 2))) (zK 3)
  (zJ (sIf (zl jr (zA 3) (zA 1))
  (jf (zA 1) (zA 3) jh)
  jB)
  (jf (eOp zY (zA 1) (zA 3)) (zA 2) (eC (.bl true))))))
  (jE (zA 1))))
def zFj : F := fn 4 ZR
abbrev QK : F := zFj
def qM : Nat -> List T -> List (D × D)
 | _, [] => []
 | b, y :: L => (.str y, .ref b) :: qM (b + 1) L
abbrev nS (b : Nat) (L : List T) (B : T -> List T) : M.S := .dct (qM (b + 1) L) :: L.map fun y => O.dct ((B y).map tk)
theorem zEQ : ∀ (L : List T) (b : Nat), (qM b L).length = L.length
 | [], _ => rfl
 | _ :: L, b => by rw [qM, List.length_cons, zEQ L, List.length_cons]
theorem Qg : ∀ (L : List T) (b : Nat) (y : T), jJ (.str y) (qM b L) = if y ∈ L then some (.ref (b + L.idxOf y)) else none
 | [], _, _ => rfl
 | z :: L, b, y => by
  have ih := Qg L (b + 1) y
  unfold jJ at ih ⊢
  rw [qM, List.lookup_cons, List.idxOf_cons]
  by_cases h : y = z
  ·subst h; simp
  ·have h1 : ((D.str y) == D.str z) = false := by simpa using h
   have h2 : (z == y) = false := by simpa using Ne.symm h
   rw [h1, ih, h2]
   by_cases hm : y ∈ L
   ·rw [if_pos hm, if_pos (List.mem_cons_of_mem _ hm)]
    show some (D.ref _) = some (D.ref _)
    congr 2
    simp
    omega
   ·rw [if_neg hm, if_neg (by simp [h, hm])]
theorem zDd : ∀ (L : List T) (b : Nat) (y : T), qM b (L ++ [y]) = qM b L ++ [(.str y, .ref (b + L.length))]
 | [], _, _ => rfl
 | z :: L, b, y => by
  rw [List.cons_append, qM, zDd L, qM, List.cons_append, List.length_cons, show b + 1 + L.length = b + (L.length + 1) by omega]
theorem zEW : ∀ (L : List T) (b : Nat) (y : T), ((qM b L).any fun p => decide (p.1 = .str y)) = decide (y ∈ L)
 | [], _, _ => rfl
 | z :: L, b, y => by
  rw [qM, List.any_cons, zEW L]
  by_cases h : z = y <;> simp [h, eq_comm]
theorem zJk {L : List T} {b : Nat} {y : T} (h : y ∉ L) : ja (.str y) (.ref (b + L.length)) (qM b L) = qM b (L ++ [y]) := by
 unfold ja
 rw [zEW, if_neg (by simp [h]), zDd]
theorem zGF {β : Type} {f : T -> β} {v : β} : ∀ {L : List T} {y : T}, L.Nodup -> y ∈ L -> (L.map f).set (L.idxOf y) v = L.map fun z => if z = y then v else f z
 | [], _, _, h => by cases h
 | z :: L, y, hn, h => by
  rw [List.nodup_cons] at hn
  rw [List.idxOf_cons, List.map_cons, List.map_cons]
  by_cases e : z = y
  ·subst e
   simp only [beq_self_eq_true, cond_true, List.set_cons_zero, if_true, List.cons.injEq, true_and]
   exact List.map_congr_left fun w hw => by rw [if_neg (fun q : w = z => hn.1 (q ▸ hw))]
  ·have h2 : (z == y) = false := by simpa using e
   have hm : y ∈ L := by rcases List.mem_cons.mp h with h | h; exact absurd h.symm e; exact h
   rw [h2, cond_false, List.set_cons_succ, if_neg e, zGF hn.2 hm]
theorem zKM {S : M.S} {L : List T} {B : T -> List T} {y : T} (h : y ∈ L) (g : M.S) : (S ++ (nS S.length L B ++ g))[S.length + 1 + L.idxOf y]? = some (.dct ((B y).map tk)) := by
 have hi := List.idxOf_lt_length_iff.mpr h
 rw [List.getElem?_append_right (by omega), show S.length + 1 + L.idxOf y - S.length = L.idxOf y + 1 by omega, List.cons_append, List.getElem?_cons_succ, List.getElem?_append_left (by simpa using hi), List.getElem?_map, List.getElem?_eq_getElem hi]
 simp
theorem zMM {S : M.S} {L : List T} {B : T -> List T} {y : T} {v : List T} (hn : L.Nodup) (h : y ∈ L) : (S ++ nS S.length L B).set (S.length + 1 + L.idxOf y) (.dct (v.map tk)) = S ++ nS S.length L (fun z => if z = y then v else B z) := by
 rw [List.set_append_right _ _ (by omega), show S.length + 1 + L.idxOf y - S.length = L.idxOf y + 1 by omega, List.set_cons_succ, zGF hn h]
 congr 2
 exact List.map_congr_left fun z _ => by
  show (if z = y then O.dct (v.map tk) else O.dct ((B z).map tk)) = O.dct ((if z = y then v else B z).map tk)
  by_cases e : z = y
  ·rw [if_pos e, if_pos e]
  ·rw [if_neg e, if_neg e]
abbrev zA1 : SM := (zJ (sIf (zl jr (zA 3) (zA 1))
  (jf (zA 1) (zA 3) jh)
  jB)
  (jf (eOp zY (zA 1) (zA 3)) (zA 2) (eC (.bl true))))
theorem zJx {S : M.S} {L : List T} {B : T -> List T} {N : List T} (hN : N.length <= 62) {x y : T} (hx : x ∈ N) (hy : y ∈ N) {v0 v3 : Option D} (hn : L.Nodup) (hL : ∀ z ∈ L, z ∈ N) (h0 : ∀ z, z ∉ L -> B z = []) (hB : ∀ z, (B z).Nodup /\ ∀ w ∈ B z, w ∈ N) :
  jU (zK 3) zA1 (.str y) [v0, some (.ref S.length), some (.str x), v3] (S ++ nS S.length L B) = .nx [v0, some (.ref S.length), some (.str x), some (.str y)] (S ++ nS S.length (qI y L) (fun z => if z = y then qI x (B y) else B z)) := by
 have ll := qY hn hL
 have lb := qY (hB y).1 (hB y).2
 have g1 : ∀ (o : O) (g : M.S), (S ++ o :: g)[S.length]? = some o := fun o g => zm
 have g2 : ∀ (o o' : O) (g : M.S), (S ++ o :: g).set S.length o' = S ++ o' :: g := fun o o' g => ZP
 have z1 : (qM (S.length + 1) L).length < SZ := by rw [zEQ]; unfold SZ; omega
 have z2 : ((B y).map tk).length < SZ := by rw [List.length_map]; unfold SZ; omega
 have key : ∀ L', L'.Nodup -> y ∈ L' -> (jf (eOp zY (zA 1) (zA 3)) (zA 2) (eC (.bl true))) [v0, some (.ref S.length), some (.str x), some (.str y)] (S ++ nS S.length L' B) = .nx [v0, some (.ref S.length), some (.str x), some (.str y)] (S ++ nS S.length L' (fun z => if z = y then qI x (B y) else B z)) := fun L' hn' hm => by
  have a1 : jJ (.str y) (qM (S.length + 1) L') = some (.ref (S.length + 1 + L'.idxOf y)) := by rw [Qg, if_pos hm]
  have a2 : (S ++ nS S.length L' B)[S.length + 1 + L'.idxOf y]? = some (.dct ((B y).map tk)) := by
   have := zKM (S := S) (B := B) hm []
   rwa [List.append_nil] at this
  have a3 := zMM (S := S) (B := B) (v := qI x (B y)) hn' hm
  rw [<- zCg] at a3
  simp only [jf, eC, eOp, zA, R.stm_ok, R.bind_ok, List.getElem?_cons_succ, List.getElem?_cons_zero, zY, g1, zt, if_true, a1, yj, a2, z2, decide_true, Bool.and_self, a3]
 by_cases hm : y ∈ L
 ·have e1 : qI y L = L := by unfold qI; rw [if_pos hm]
  rw [e1]
  have a1 : jJ (.str y) (qM (S.length + 1) L) = some (.ref (S.length + 1 + L.idxOf y)) := by rw [Qg, if_pos hm]
  have i1 : (sIf (zl jr (zA 3) (zA 1)) (jf (zA 1) (zA 3) jh) jB) [v0, some (.ref S.length), some (.str x), some (.str y)] (S ++ nS S.length L B) = .nx [v0, some (.ref S.length), some (.str x), some (.str y)] (S ++ nS S.length L B) := by
   simp [g1, zt, a1]
  show ((sIf (zl jr (zA 3) (zA 1)) (jf (zA 1) (zA 3) jh) jB) [v0, some (.ref S.length), some (.str x), some (.str y)] (S ++ nS S.length L B)).then _ = _
  rw [i1, RS.then_nx]
  exact key L hn hm
 ·have e1 : qI y L = L ++ [y] := by unfold qI; rw [if_neg hm]
  rw [e1]
  have a1 : jJ (.str y) (qM (S.length + 1) L) = none := by rw [Qg, if_neg hm]
  have len : (S ++ nS S.length L B).length = S.length + 1 + L.length := by simp; omega
  have i1 : (sIf (zl jr (zA 3) (zA 1)) (jf (zA 1) (zA 3) jh) jB) [v0, some (.ref S.length), some (.str x), some (.str y)] (S ++ nS S.length L B) = .nx [v0, some (.ref S.length), some (.str x), some (.str y)] (S ++ nS S.length (L ++ [y]) B) := by
   have r1 := zJk (L := L) (b := S.length + 1) hm
   have e2 : S ++ nS S.length (L ++ [y]) B = S ++ .dct (qM (S.length + 1) (L ++ [y])) :: (L.map (fun y => O.dct ((B y).map tk)) ++ [.dct []]) := by
    show S ++ (_ :: List.map _ (L ++ [y])) = _
    rw [List.map_append, List.map_cons, List.map_nil, h0 y hm]; rfl
   have e3 : (S ++ nS S.length L B) ++ [O.dct []] = S ++ .dct (qM (S.length + 1) L) :: (L.map (fun y => O.dct ((B y).map tk)) ++ [.dct []]) := by simp
   rw [e2, <- r1]
   simp only [sIf, zl, jr, zA, R.bind_ok, List.getElem?_cons_succ, List.getElem?_cons_zero, inD, g1, zt, if_true, a1, Option.isSome_none, R.stm_ok, Bool.not_false, jf, jh, alloc, len, e3, yj, z1, decide_true, Bool.and_self, g2]
  show ((sIf (zl jr (zA 3) (zA 1)) (jf (zA 1) (zA 3) jh) jB) [v0, some (.ref S.length), some (.str x), some (.str y)] (S ++ nS S.length L B)).then _ = _
  rw [i1, RS.then_nx]
  refine key (L ++ [y]) ?_ (by simp)
  rw [<- e1]; exact y0 hn
structure NB (N : List T) (nd : List (T × List T)) (L : List T) (B : T -> List T) : Prop where
 nl : L.Nodup
 lN : ∀ z ∈ L, z ∈ N
 out : ∀ z, z ∉ L -> B z = []
 nb : ∀ z, (B z).Nodup /\ ∀ w ∈ B z, w ∈ N
 mem : ∀ z x, x ∈ B z ↔ ∃ q ∈ nd, q.1 = x /\ z ∈ q.2
theorem zEt {S : M.S} {N : List T} (hN : N.length <= 62) {nd : List (T × List T)} {x : T} (hx : x ∈ N) {v0 : Option D} {G : Gd} (hG : ∀ g, zQ G (S ++ g) = true) : ∀ (ys zs : List T) (L : List T) (B : T -> List T) (v3 : Option D), (∀ y ∈ ys, y ∈ N) -> NB N (nd ++ [(x, zs)]) L B ->
  ∃ v3' L' B', jm G (jU (zK 3) zA1) (ys.map .str) [v0, some (.ref S.length), some (.str x), v3] (S ++ nS S.length L B) = .nx [v0, some (.ref S.length), some (.str x), v3'] (S ++ nS S.length L' B') /\ NB N (nd ++ [(x, zs ++ ys)]) L' B'
 | [], zs, L, B, v3, _, h => ⟨v3, L, B, rfl, by rw [List.append_nil]; exact h⟩
 | y :: ys, zs, L, B, v3, hy, h => by
  have hy' := hy y List.mem_cons_self
  have e := zJx (S := S) (v0 := v0) (v3 := v3) hN hx hy' h.nl h.lN h.out h.nb
  have h' : NB N (nd ++ [(x, zs ++ [y])]) (qI y L) (fun z => if z = y then qI x (B y) else B z) := by
   refine ⟨y0 h.nl, fun z hz => ?_, fun z hz => ?_, fun z => ?_, fun z w => ?_⟩
   ·rcases yJ.mp hz with hz | hz
    ·exact h.lN z hz
    ·rw [hz]; exact hy'
   ·have h1 : z ≠ y := fun q => hz (yJ.mpr (.inr q))
    show (if z = y then qI x (B y) else B z) = []
    rw [if_neg h1]
    exact h.out z fun q => hz (yJ.mpr (.inl q))
   ·show (if z = y then qI x (B y) else B z).Nodup /\ ∀ w ∈ (if z = y then qI x (B y) else B z), w ∈ N
    by_cases e : z = y
    ·rw [if_pos e]
     refine ⟨y0 (h.nb y).1, fun w hw => ?_⟩
     rcases yJ.mp hw with hw | hw
     ·exact (h.nb y).2 w hw
     ·rw [hw]; exact hx
    ·rw [if_neg e]; exact h.nb z
   ·show w ∈ (if z = y then qI x (B y) else B z) ↔ _
    have hm := h.mem z w
    constructor
    ·intro hw
     by_cases e : z = y
     ·rw [if_pos e] at hw
      rcases yJ.mp hw with hw | hw
      ·obtain ⟨q, h1, h2, h3⟩ := (h.mem y w).mp hw
       rcases List.mem_append.mp h1 with h1 | h1
       ·exact ⟨q, List.mem_append_left _ h1, h2, e ▸ h3⟩
       ·have hq := List.mem_singleton.mp h1
        subst hq
        exact ⟨(x, zs ++ [y]), List.mem_append_right _ (by simp), h2, by rw [e]; simp⟩
      ·exact ⟨(x, zs ++ [y]), List.mem_append_right _ (by simp), hw.symm, by rw [e]; simp⟩
     ·rw [if_neg e] at hw
      obtain ⟨q, h1, h2, h3⟩ := hm.mp hw
      rcases List.mem_append.mp h1 with h1 | h1
      ·exact ⟨q, List.mem_append_left _ h1, h2, h3⟩
      ·have hq := List.mem_singleton.mp h1
       subst hq
       exact ⟨(x, zs ++ [y]), List.mem_append_right _ (by simp), h2, List.mem_append_left _ h3⟩
    ·rintro ⟨q, h1, h2, h3⟩
     have old : w ∈ B z -> w ∈ (if z = y then qI x (B y) else B z) := fun hw => by
      by_cases e : z = y
      ·rw [if_pos e]; exact yJ.mpr (.inl (e ▸ hw))
      ·rw [if_neg e]; exact hw
     rcases List.mem_append.mp h1 with h1 | h1
     ·exact old (hm.mpr ⟨q, List.mem_append_left _ h1, h2, h3⟩)
     ·have hq := List.mem_singleton.mp h1
      subst hq
      rcases List.mem_append.mp h3 with h3 | h3
      ·exact old (hm.mpr ⟨(x, zs), List.mem_append_right _ (by simp), h2, h3⟩)
      ·have e := List.mem_singleton.mp h3
       rw [if_pos e]
       exact yJ.mpr (.inr h2.symm)
  obtain ⟨v3', L', B', e2, h2⟩ := zEt hN hx hG ys (zs ++ [y]) _ _ (some (.str y)) (fun w hw => hy w (List.mem_cons_of_mem _ hw)) h'
  refine ⟨v3', L', B', ?_, by rw [List.append_assoc] at h2; exact h2⟩
  rw [List.map_cons, jm, e]
  dsimp only
  rw [if_pos (hG _), e2]
theorem NB.nil_row {N : List T} {nd : List (T × List T)} {L : List T} {B : T -> List T} (x : T) (h : NB N nd L B) : NB N (nd ++ [(x, [])]) L B :=
 ⟨h.nl, h.lN, h.out, h.nb, fun z w => by
  rw [h.mem z w]
  constructor
  ·rintro ⟨q, h1, h2⟩; exact ⟨q, List.mem_append_left _ h1, h2⟩
  ·rintro ⟨q, h1, h2, h3⟩
   rcases List.mem_append.mp h1 with h1 | h1
   ·exact ⟨q, h1, h2, h3⟩
   ·rw [List.mem_singleton.mp h1] at h3; cases h3⟩
theorem zGl {S : M.S} {p : Nat} {kvs : List (D × D)} {nd : List (T × List T)} {N : List T} (hp : S[p]? = some (.dct kvs)) (dr : DR S kvs nd) (hn : (zS nd).Nodup) (ok : OkN N nd) (hN : N.length <= 62) :
  ∃ L B, QK [.ref p] S = .ok (.ref S.length) (S ++ nS S.length L B) /\ NB N nd L B := by
 obtain ⟨S', hS⟩ : ∃ S', S' = S.set p (.fdc kvs) := ⟨_, rfl⟩
 have hSl : S'.length = S.length := by rw [hS, List.length_set]
 have hf : ∀ (r : Nat) (xs : List D), S[r]? = some (.lst xs) -> S'[r]? = some (.lst xs) := fun r xs e => by rw [hS]; exact zBS hp (fun _ z => nomatch z) e
 have hp' : ∀ g, (S' ++ g)[p]? = some (.fdc kvs) := fun g => zd (by rw [hS]; exact zAP hp) g
 have hkeys : kvs.map (·.1) = nd.map fun q => .str q.1 := dr.keys
 obtain ⟨σ', s', e5, ⟨v2, v3, eσ⟩, L, B, es, nb⟩ := ql (g := []) (f := jU (zK 2) (jc (iE (eOp zY (zA 0) (zA 2))) (zK 3) zA1))
  (fun j σ s => (∃ v2 v3 : Option D, σ = [some (.ref p), some (.ref S'.length), v2, v3]) /\ ∃ L B, s = S' ++ nS S'.length L B /\ NB N (nd.take j) L B)
  (nd.map fun q => D.str q.1) 0 [some (.ref p), some (.ref S'.length), none, none] (S' ++ [O.dct []]) ⟨⟨none, none, rfl⟩, [], fun _ => [], rfl, List.nodup_nil, fun z h => (by cases h), fun _ _ => rfl, fun _ => ⟨List.nodup_nil, fun w h => (by cases h)⟩, fun z x => by simp⟩ fun j x hx σ s ⟨⟨v2, v3, eσ⟩, L, B, es, nb⟩ => by
   rw [Nat.zero_add] at nb ⊢
   subst eσ
   subst es
   rw [List.getElem?_map] at hx
   cases q : nd[j]? with
   | none => rw [q] at hx; cases hx
   | some pr =>
    rw [q] at hx
    have hx' : x = .str pr.1 := by simpa using hx.symm
    subst hx'
    have hmem : pr ∈ nd := List.mem_of_getElem? q
    obtain ⟨o1, o2, o3⟩ := ok pr hmem
    have lk := Zx hn hmem
    obtain ⟨r, er, e3⟩ : ∃ r, jJ (.str pr.1) kvs = some (.ref r) /\ S[r]? = some (.lst (pr.2.map .str)) := by
     rcases dr.get pr.1 with ⟨h1, _⟩ | ⟨row, r, h1, h2, h3⟩
     ·rw [lk] at h1; cases h1
     ·rw [lk] at h1; cases h1; exact ⟨r, h2, h3⟩
    have g3 : ∀ g, (S' ++ g)[r]? = some (.lst (pr.2.map .str)) := fun g => zd (hf r _ e3) _
    have hg : ∀ g, zQ [(r, O.lst (pr.2.map .str))] (S' ++ g) = true := fun g => by simp [zQ, g3]
    obtain ⟨v3', L', B', e2, nb2⟩ := zEt (S := S') (v0 := some (.ref p)) hN o1 hg pr.2 [] L B v3 o3 (nb.nil_row pr.1)
    refine ⟨[some (.ref p), some (.ref S'.length), some (.str pr.1), v3'], S' ++ nS S'.length L' B', ?_, rfl, ⟨_, _, rfl⟩, L', B', rfl, ?_⟩
    ·show (jc (iE (eOp zY (zA 0) (zA 2))) (zK 3) zA1) [some (.ref p), some (.ref S'.length), some (.str pr.1), v3] (S' ++ nS S'.length L B) = _
     simp only [jc, iE, eOp, zA, List.getElem?_cons_succ, List.getElem?_cons_zero, R.bind_ok, zY, hp', zt, if_true, er, itD, g3, R.stm_ok, hg]
     exact e2
    ·rw [List.take_succ, q, Option.toList_some]
     exact nb2
 rw [Nat.zero_add, List.length_map, List.take_length] at nb
 subst eσ
 subst es
 refine ⟨L, B, ?_, nb⟩
 have g5 : (S ++ [O.dct []])[p]? = some (.dct kvs) := zd hp _
 have s5 : (S ++ [O.dct []]).set p (.fdc kvs) = S' ++ [O.dct []] := by rw [JW hp, hS]
 have e6 : (jw (zA 0) (zK 2) (jc (iE (eOp zY (zA 0) (zA 2))) (zK 3) zA1)) [some (.ref p), some (.ref S.length), none, none] (S ++ [O.dct []]) = .nx [some (.ref p), some (.ref S.length), v2, v3] (S ++ nS S.length L B) := by
  rw [hSl] at e5
  simp only [jw, zA, List.getElem?_cons_zero, R.stm_ok, g5, s5, hkeys, e5]
  rw [hS]
  exact ZZ hp _
 show ((ZR [some (.ref p), none, none, none] S).out) = _
 unfold ZR
 have e0 : (zR 1 jh) [some (.ref p), none, none, none] S = .nx [some (.ref p), some (.ref S.length), none, none] (S ++ [.dct []]) := by simp
 show ((((zR 1 jh) _ _).then _).out) = _
 rw [e0, RS.then_nx]
 show ((((jw _ _ _) _ _).then _).out) = _
 rw [e6]
 simp
def QN : SM :=
  (zJ (qq 2 (JB 0 (zR 1 (zH QI (zB (jn 1 (yA (zA 0)) (zK 4) j9 (Qs (zB (zA 4) (zB (eC (.bl true)) zD)))) zD)))))
  (zJ (jw (zA 0) (zK 2)
  (jc (iE (eOp zY (zA 0) (zA 2))) (zK 3)
  (jf (zA 1) (zA 3) (eC (.bl true)))))
  (jE (zH Qn (zB (zA 1) zD)))))
def zCf : F := fn 4 QN
def yx : F := chN zCf
theorem zFu : jS 1 zCf yx := zBH _
theorem zGH : ∀ (ys ks : List T), (ys.map tk).foldl (fun a p => ja p.1 p.2 a) (ks.map tk) = (qk ks ys).map tk
 | [], _ => rfl
 | y :: ys, ks => by
  rw [List.map_cons, List.foldl_cons, zCg, zGH ys]
  rfl
theorem zDq {α : Type} (k : α -> T) (f : α -> D) (ys : List α) : QO (ys.map fun y => .tup [.str (k y), f y]) = some (ys.map fun y => (.str (k y), f y)) := by
 induction ys with
 | nil => rfl
 | cons y ys ih =>
  show (if zt (.str (k y)) then (QO (ys.map fun y => .tup [.str (k y), f y])).map _ else none) = _
  rw [ih]
  rfl
theorem DR.keysT {s : M.S} {kvs : List (D × D)} {nd : List (T × List T)} (h : DR s kvs nd) : kvs.map (·.1) = (zS nd).map D.str := by
 rw [h.keys]; unfold zS; rw [List.map_map]; rfl
abbrev zA5 : SM := (jc (iE (eOp zY (zA 0) (zA 2))) (zK 3)
  (jf (zA 1) (zA 3) (eC (.bl true))))
theorem zLj {S : M.S} {p : Nat} {kvs : List (D × D)} {nd : List (T × List T)} {N : List T} (hp : S[p]? = some (.dct kvs)) (dr : DR S kvs nd) (hn : (zS nd).Nodup) (ok : OkN N nd) (hN : N.length <= 62) {ks0 : List T} (k0 : ks0.Nodup) (k0N : ∀ x ∈ ks0, x ∈ N) {v2 v3 : Option D} :
  ∃ (v2' v3' : Option D) (ks : List T), (jw (zA 0) (zK 2) zA5) [some (.ref p), some (.ref S.length), v2, v3] (S ++ [.dct (ks0.map tk)]) = .nx [some (.ref p), some (.ref S.length), v2', v3'] (S ++ [.dct (ks.map tk)]) /\ ks.Nodup /\ (∀ x ∈ ks, x ∈ N) /\ ∀ x, x ∈ ks ↔ x ∈ ks0 \/ ∃ q ∈ nd, x ∈ q.2 := by
 obtain ⟨S', hS⟩ : ∃ S', S' = S.set p (.fdc kvs) := ⟨_, rfl⟩
 have hSl : S'.length = S.length := by rw [hS, List.length_set]
 have hf : ∀ (r : Nat) (xs : List D), S[r]? = some (.lst xs) -> S'[r]? = some (.lst xs) := fun r xs e => by rw [hS]; exact zBS hp (fun _ z => nomatch z) e
 have hp' : ∀ g, (S' ++ g)[p]? = some (.fdc kvs) := fun g => zd (by rw [hS]; exact zAP hp) g
 have hkeys : kvs.map (·.1) = nd.map fun q => .str q.1 := dr.keys
 obtain ⟨σ', s', e5, ⟨v2', v3', eσ⟩, ks, es, kn, kN, km⟩ := ql (g := []) (f := jU (zK 2) zA5)
  (fun j σ s => (∃ v2 v3 : Option D, σ = [some (.ref p), some (.ref S'.length), v2, v3]) /\ ∃ ks : List T, s = S' ++ [.dct (ks.map tk)] /\ ks.Nodup /\ (∀ x ∈ ks, x ∈ N) /\ ∀ x, x ∈ ks ↔ x ∈ ks0 \/ ∃ q ∈ nd.take j, x ∈ q.2)
  (nd.map fun q => D.str q.1) 0 [some (.ref p), some (.ref S'.length), v2, v3] (S' ++ [O.dct (ks0.map tk)]) ⟨⟨v2, v3, rfl⟩, ks0, rfl, k0, k0N, fun x => by simp⟩ fun j x hx σ s ⟨⟨v2, v3, eσ⟩, ks, es, kn, kN, km⟩ => by
   rw [Nat.zero_add] at km ⊢
   subst eσ
   subst es
   rw [List.getElem?_map] at hx
   cases q : nd[j]? with
   | none => rw [q] at hx; cases hx
   | some pr =>
    rw [q] at hx
    have hx' : x = .str pr.1 := by simpa using hx.symm
    subst hx'
    have hmem : pr ∈ nd := List.mem_of_getElem? q
    obtain ⟨o1, o2, o3⟩ := ok pr hmem
    have lk := Zx hn hmem
    obtain ⟨r, er, e3⟩ : ∃ r, jJ (.str pr.1) kvs = some (.ref r) /\ S[r]? = some (.lst (pr.2.map .str)) := by
     rcases dr.get pr.1 with ⟨h1, _⟩ | ⟨row, r, h1, h2, h3⟩
     ·rw [lk] at h1; cases h1
     ·rw [lk] at h1; cases h1; exact ⟨r, h2, h3⟩
    have g3 : ∀ g, (S' ++ g)[r]? = some (.lst (pr.2.map .str)) := fun g => zd (hf r _ e3) _
    have hg : ∀ g, zQ [(r, O.lst (pr.2.map .str))] (S' ++ g) = true := fun g => by simp [zQ, g3]
    obtain ⟨v', el⟩ := zBp (S' := S') (σ := [some (.ref p), some (.ref S'.length), some (.str pr.1), v3]) (a := 1) (i := 3) hN rfl (by decide) (by simp) hg pr.2 ks v3 kn kN o3
    refine ⟨[some (.ref p), some (.ref S'.length), some (.str pr.1), v'], S' ++ [.dct ((qk ks pr.2).map tk)], ?_, rfl, ⟨_, _, rfl⟩, _, rfl, ZT kn, fun x hx => ?_, fun x => ?_⟩
    ·show zA5 [some (.ref p), some (.ref S'.length), some (.str pr.1), v3] (S' ++ [.dct (ks.map tk)]) = _
     simp only [zA5, jc, iE, eOp, zA, List.getElem?_cons_succ, List.getElem?_cons_zero, R.bind_ok, zY, hp', zt, if_true, er, itD, g3, R.stm_ok, hg]
     exact el
    ·rcases Zn.mp hx with h | h
     ·exact kN x h
     ·exact o3 x h
    ·rw [Zn, km x, List.take_succ, q, Option.toList_some]
     constructor
     ·rintro ((h | ⟨q, h1, h2⟩) | h)
      ·exact .inl h
      ·exact .inr ⟨q, List.mem_append_left _ h1, h2⟩
      ·exact .inr ⟨pr, List.mem_append_right _ (by simp), h⟩
     ·rintro (h | ⟨q, h1, h2⟩)
      ·exact .inl (.inl h)
      ·rcases List.mem_append.mp h1 with h1 | h1
       ·exact .inl (.inr ⟨q, h1, h2⟩)
       ·rw [List.mem_singleton.mp h1] at h2; exact .inr h2
 rw [Nat.zero_add, List.length_map, List.take_length] at km
 subst eσ
 subst es
 refine ⟨v2', v3', ks, ?_, kn, kN, km⟩
 have g5 : (S ++ [O.dct (ks0.map tk)])[p]? = some (.dct kvs) := zd hp _
 have s5 : (S ++ [O.dct (ks0.map tk)]).set p (.fdc kvs) = S' ++ [O.dct (ks0.map tk)] := by rw [JW hp, hS]
 rw [hSl] at e5
 simp only [jw, zA, List.getElem?_cons_zero, R.stm_ok, g5, s5, hkeys, e5]
 rw [hS]
 exact ZZ hp _
theorem zIe {S : M.S} {p : Nat} {kvs : List (D × D)} {nd : List (T × List T)} {N : List T} (hp : S[p]? = some (.dct kvs)) (dr : DR S kvs nd) (hn : (zS nd).Nodup) (ok : OkN N nd) (hN : N.length <= 62) :
  ∃ V : List T, V.Pairwise NLt /\ V.Nodup /\ (∀ x, x ∈ V ↔ inV nd x) /\ V.length <= N.length /\ yx [.ref p] S = alloc (.lst (V.map .str)) S := by
 obtain ⟨S', hS⟩ : ∃ S', S' = S.set p (.fdc kvs) := ⟨_, rfl⟩
 have hp' : S'[p]? = some (.fdc kvs) := by rw [hS]; exact zAP hp
 have kl : (zS nd).length <= 62 := by
  have := qY (N := N) hn fun x hx => by
   unfold zS at hx
   obtain ⟨q, h1, rfl⟩ := List.mem_map.mp hx
   exact (ok q h1).1
  omega
 generalize hks : zS nd = K0 at *
 have ec : jy 1 (yA (zA 0)) (zK 4) j9 (Qs (zB (zA 4) (zB (eC (.bl true)) zD))) [some (.ref p), none, none, none] S' = .ok (K0.map fun x => .tup [.str x, .bl true]) S' := by
  have := zEh (n := 1) (it := yA (zA 0)) (tg := zK 4) (e := Qs (zB (zA 4) (zB (eC (.bl true)) zD))) (σ := [some (.ref p), none, none, none]) (s := S') (xs := K0.map D.str) (g := []) (fun d => .tup [d, .bl true]) (by
   have e1 : kvs.map (·.1) = K0.map D.str := by rw [dr.keysT, hks]
   simp only [yA, zA, List.getElem?_cons_zero, R.bind_ok, hp', e1]) (by rw [List.length_map]; unfold SZ; omega) rfl fun x hx => by
    have z2 : 2 <= SZ := by unfold SZ; omega
    simp [z2]
  rw [this, List.map_map]
  rfl
 have pd : QO (K0.map fun x => D.tup [.str x, .bl true]) = some (K0.map tk) := zDq (fun x => x) (fun _ => .bl true) K0
 have pt : zEL (K0.map tk) = (qk [] K0).map tk := zGH K0 []
 have z1 : (K0.map tk).length <= 1000 := by rw [List.length_map]; omega
 have kn0 : (qk [] K0).Nodup := ZT List.nodup_nil
 have km0 : ∀ x, x ∈ qk [] K0 ↔ x ∈ K0 := fun x => by rw [Zn]; simp
 have e1 : (qq 2 (JB 0 (zR 1 (zH QI (zB (jn 1 (yA (zA 0)) (zK 4) j9 (Qs (zB (zA 4) (zB (eC (.bl true)) zD)))) zD))))) [some (.ref p), none, none, none] S = .nx [some (.ref p), some (.ref (S.length + 1)), none, none] (S ++ [.lst (K0.map fun x => .tup [.str x, .bl true]), .dct ((qk [] K0).map tk)]) := by
  have hSl : S'.length = S.length := by rw [hS, List.length_set]
  have g7 : (S' ++ [O.lst (K0.map fun x => D.tup [.str x, .bl true])])[S.length]? = some (.lst (K0.map fun x => .tup [.str x, .bl true])) := by rw [<- hSl]; exact zm
  have ht := ZZ (g := [.lst (K0.map fun x => .tup [.str x, .bl true]), .dct ((qk [] K0).map tk)]) hp [some (.ref p), some (.ref (S.length + 1)), none, none]
  rw [<- hS] at ht
  simp only [qq, JB, List.set_cons_succ, List.set_cons_zero, List.getElem?_cons_zero, hp, <- hS, zR, zH, zB, zD, jn, ec, R.bind_ok, alloc, QI, hSl, g7, pd, z1, if_true, pt, R.stm_ok, List.length_append, List.length_cons, List.length_nil, List.append_assoc, List.cons_append, List.nil_append, Nat.zero_add, ht, JI]
 have hp1 : (S ++ [O.lst (K0.map fun x => D.tup [.str x, .bl true])])[p]? = some (.dct kvs) := zd hp _
 have k0N : ∀ x ∈ qk [] K0, x ∈ N := fun x hx => by
  have hx := (km0 x).mp hx
  rw [<- hks] at hx
  unfold zS at hx
  obtain ⟨q, h1, rfl⟩ := List.mem_map.mp hx
  exact (ok q h1).1
 obtain ⟨v2', v3', ks, e2, kn, kN, km⟩ := zLj hp1 (dr.mono (yN.app _ _)) (by rw [hks]; exact hn) ok hN kn0 k0N (v2 := none) (v3 := none)
 have hl := qY kn kN
 refine ⟨jd ks, zEY ks, zOA kn, fun x => ?_, by rw [(JU ks).length_eq]; exact hl, ?_⟩
 ·rw [(JU ks).mem_iff, km x, km0 x, <- hks]; rfl
 refine zBE (g := [.lst (K0.map fun x => .tup [.str x, .bl true]), .dct (ks.map tk), .lst ((jd ks).map .str)]) (j := S.length + 2) ?_ (by rw [List.getElem?_append_right (by omega), show S.length + 2 - S.length = 2 by omega]; rfl) (by omega) (zAR _ _)
 show ((QN [some (.ref p), none, none, none] S).out) = _
 unfold QN
 show ((((qq 2 _) _ _).then _).out) = _
 rw [e1, RS.then_nx]
 have e2' : (jw (zA 0) (zK 2) zA5) [some (.ref p), some (.ref (S.length + 1)), none, none] (S ++ [.lst (K0.map fun x => .tup [.str x, .bl true]), .dct ((qk [] K0).map tk)]) = .nx [some (.ref p), some (.ref (S.length + 1)), v2', v3'] (S ++ [.lst (K0.map fun x => .tup [.str x, .bl true]), .dct (ks.map tk)]) := by
  have el : (S ++ [O.lst (K0.map fun x => D.tup [.str x, .bl true])]).length = S.length + 1 := by simp
  rw [el] at e2
  simpa only [List.append_assoc, List.cons_append, List.nil_append] using e2
 show ((((jw _ _ _) _ _).then _).out) = _
 rw [e2', RS.then_nx]
 have g7 : (S ++ [O.lst (K0.map fun x => D.tup [.str x, .bl true]), .dct (ks.map tk)])[S.length + 1]? = some (.dct (ks.map tk)) := by
  rw [List.getElem?_append_right (by omega), show S.length + 1 - S.length = 1 by omega]; rfl
 simp only [jE, zH, zB, zD, zA, List.getElem?_cons_succ, List.getElem?_cons_zero, R.bind_ok, Qn, g7, zCs (show ks.length < 64 by omega), alloc, R.stm_ok, RS.out_rt]
 simp
def Za : SM :=
  (zR 1 (zH QK (zB (zA 0) zD)))
def Zc : SM :=
  (qq 7 (zR 2 (zH QI (zB (jn 1 (iE (zH yx (zB (zA 0) zD))) (zK 9) j9 (Qs (zB (zA 9) (zB (eC .non) zD)))) zD))))
def ZM : SM :=
  (qq 7 (JB 2 (zR 3 (zH QI (zB (jn 1 (yA (zA 2)) (zK 9) j9 (Qs (zB (zA 9) (zB (zH QC (zB (eM .dict QR (zA 0) (zB (zA 9) (zB (ji zD) zD))) zD)) zD)))) zD)))))
def ZQ : SM :=
  (qq 7 (JB 2 (zR 4 (jn 1 (yA (zA 2)) (zK 9) (zl cEq (eOp zY (zA 3) (zA 9)) (eC (.int 0))) (zA 9)))))
def QD : SM :=
  (zR 5 (eC (.int 0)))
def QH : SM :=
  (zA8 (zl cGt (zH qK (zB (zA 4) zD)) (eC (.int 0)))
  (zJ (zR 6 (ji zD))
  (zJ (jc (iE (zA 4)) (zK 7)
  (zJ (jf (zA 2) (zA 7) (zA 5))
  (jw (eM .dict QR (zA 1) (zB (zA 7) (zB jh zD))) (zK 8)
  (zJ (JH zBM (zA 3) (zA 8) (eC (.int 1)))
  (sIf (zl cEq (eOp zY (zA 3) (zA 8)) (eC (.int 0)))
  (qG (eM .list jt (zA 6) (zB (zA 8) zD)))
  jB)))))
  (zJ (zR 4 (zA 6))
  (zE3 zG3 5 (eC (.int 1)))))))
def Q7 : SM :=
  (jE (zA 2))
def zC5 : SM := (zJ Za (zJ Zc (zJ ZM (zJ ZQ (zJ QD (zJ QH Q7))))))
def zF6 : F := fn 9 zC5
def zAM : F := chN zF6
theorem zI2 : jS 1 zF6 zAM := zBH _
def nOf (nd : List (T × List T)) (x : T) : List T := (nd.lookup x).getD []
theorem zDQ : ∀ (ys acc : List T), yy acc ys = qk acc ys
 | [], _ => rfl
 | y :: ys, acc => by
  show yy (if acc.contains y then acc else acc ++ [y]) ys = qk (qI y acc) ys
  rw [zDQ ys]
  congr 1
  unfold qI
  by_cases h : y ∈ acc <;> simp [h]
def zu (nd : List (T × List T)) (rk : T -> Option Nat) (z : T) : Nat := ((yy [] (nOf nd z)).filter fun y => (rk y).isNone).length
theorem zBV {y : T} {ys : List T} : y ∈ yy [] ys ↔ y ∈ ys := by rw [zDQ, Zn]; simp
theorem zHY (ys : List T) : (yy [] ys).Nodup := by rw [zDQ]; exact ZT List.nodup_nil
theorem QE {nd : List (T × List T)} {rk : T -> Option Nat} {z : T} : zu nd rk z = 0 ↔ ∀ y ∈ nOf nd z, rk y ≠ none := by
 unfold zu
 rw [List.length_eq_zero_iff, List.filter_eq_nil_iff]
 constructor
 ·intro h y hy e
  exact h y (zBV.mpr hy) (by rw [e]; rfl)
 ·intro h y hy e
  exact h y (zBV.mp hy) (by simpa using e)
theorem zAe {p : T -> Bool} {l : T} (hp : p l = true) : ∀ {U : List T}, U.Nodup -> (U.filter fun y => p y && decide (y ≠ l)).length + (if l ∈ U then 1 else 0) = (U.filter p).length
 | [], _ => rfl
 | u :: U, hn => by
  rw [List.nodup_cons] at hn
  have ih := zAe hp hn.2
  rw [List.filter_cons, List.filter_cons]
  by_cases e : u = l
  ·have e1 : (p u && decide (u ≠ l)) = false := by simp [e]
   rw [e1, e, hp, if_pos List.mem_cons_self]
   rw [if_neg (e ▸ hn.1)] at ih
   simp only [Bool.false_eq_true, if_false, if_true, List.length_cons]
   omega
  ·have hm : (l ∈ u :: U) ↔ l ∈ U := by simp [Ne.symm e]
   have e1 : (p u && decide (u ≠ l)) = p u := by simp [e]
   rw [e1]
   by_cases h : l ∈ U
   ·rw [if_pos h] at ih
    rw [if_pos (hm.mpr h)]
    cases p u <;> simp only [Bool.false_eq_true, if_false, if_true, List.length_cons] <;> omega
   ·rw [if_neg h] at ih
    rw [if_neg (fun z => h (hm.mp z))]
    cases p u <;> simp only [Bool.false_eq_true, if_false, if_true, List.length_cons] <;> omega
def zAA (rk : T -> Option Nat) (l : T) (r : Nat) : T -> Option Nat := fun z => if z = l then some r else rk z
theorem zDt {nd : List (T × List T)} {rk : T -> Option Nat} {l : T} {r : Nat} (hl : rk l = none) (z : T) : zu nd (zAA rk l r) z + (if l ∈ nOf nd z then 1 else 0) = zu nd rk z := by
 unfold zu
 have h := zAe (p := fun y => (rk y).isNone) (l := l) (by rw [hl]; rfl) (zHY (nOf nd z))
 rw [<- h]
 congr 1
 ·congr 1
  refine List.filter_congr fun y _ => ?_
  unfold zAA
  by_cases e : y = l
  ·rw [if_pos e]; simp [e]
  ·rw [if_neg e]; simp [e]
 ·by_cases e : l ∈ nOf nd z
  ·rw [if_pos e, if_pos (zBV.mpr e)]
  ·rw [if_neg e, if_neg (fun q => e (zBV.mp q))]
theorem zDK {nd : List (T × List T)} (hn : (zS nd).Nodup) {x y : T} : y ∈ nOf nd x ↔ ∃ q ∈ nd, q.1 = x /\ y ∈ q.2 := by
 unfold nOf
 constructor
 ·intro h
  cases e : nd.lookup x with
  | none => rw [e] at h; cases h
  | some row =>
   rw [e] at h
   have h1 : (x, row) ∈ nd := by
    clear hn
    induction nd with
    | nil => cases e
    | cons q nd ih =>
     obtain ⟨k, v⟩ := q
     rw [List.lookup_cons] at e
     cases hk : x == k with
     | true =>
      rw [hk] at e
      have := eq_of_beq hk
      subst this
      cases e
      exact List.mem_cons_self
     | false => rw [hk] at e; exact List.mem_cons_of_mem _ (ih e)
   exact ⟨(x, row), h1, rfl, h⟩
 ·rintro ⟨q, h1, rfl, h2⟩
  rw [Zx hn h1]
  exact h2
structure RK (nd : List (T × List T)) (V : List T) (rk : T -> Option Nat) : Prop where
 no : ∀ z ∈ V, rk z = none -> ∃ y ∈ nOf nd z, rk y = none
 inn : ∀ z k, rk z = some k -> z ∈ V
 low : ∀ z k, rk z = some k -> ∀ y ∈ nOf nd z, ∃ j, j < k /\ rk y = some j
 zero : ∀ z, rk z = some 0 -> nOf nd z = []
 near : ∀ z k, rk z = some (k + 1) -> ∃ y ∈ nOf nd z, rk y = some k
structure WI (nd : List (T × List T)) (V : List T) (r : Nat) (rk : T -> Option Nat) (lv : List T) : Prop where
 nl : lv.Nodup
 lm : ∀ z, z ∈ lv ↔ z ∈ V /\ rk z = none /\ zu nd rk z = 0
 inn : ∀ z k, rk z = some k -> z ∈ V /\ k < r
 low : ∀ z k, rk z = some k -> ∀ y ∈ nOf nd z, ∃ j, j < k /\ rk y = some j
 zero : ∀ z, rk z = some 0 -> nOf nd z = []
 near : ∀ z k, rk z = some (k + 1) -> ∃ y ∈ nOf nd z, rk y = some k
 l0 : r = 0 -> ∀ z ∈ lv, nOf nd z = []
 l1 : ∀ k, r = k + 1 -> ∀ z ∈ lv, ∃ y ∈ nOf nd z, rk y = some k
def rkL (rk : T -> Option Nat) (ls : List T) (r : Nat) : T -> Option Nat := fun z => if z ∈ ls then some r else rk z
theorem zBr (rk : T -> Option Nat) (ls : List T) (r : Nat) (l : T) : rkL rk (ls ++ [l]) r = zAA (rkL rk ls r) l r := by
 funext z
 unfold rkL zAA
 by_cases h1 : z = l
 ·simp [h1]
 ·by_cases h2 : z ∈ ls <;> simp [h1, h2]
theorem zGQ (rk : T -> Option Nat) (r : Nat) : rkL rk [] r = rk := by funext z; simp [rkL]
structure LI (nd : List (T × List T)) (V : List T) (rk rk' : T -> Option Nat) (as : List T) : Prop where
 un : as.Nodup
 mem : ∀ z, z ∈ as ↔ z ∈ V /\ zu nd rk z ≠ 0 /\ zu nd rk' z = 0
 le : ∀ z, zu nd rk' z <= zu nd rk z
theorem LI.step {nd : List (T × List T)} {V : List T} {rk rk' : T -> Option Nat} {as bs : List T} {l : T} {r : Nat} (h : LI nd V rk rk' as) (hl : rk' l = none) (hb : bs.Nodup) (hbm : ∀ z, z ∈ bs ↔ l ∈ nOf nd z) (hbV : ∀ z ∈ bs, z ∈ V) :
  LI nd V rk (zAA rk' l r) (as ++ bs.filter fun z => decide ((zu nd rk' z : Int) = 1)) := by
 have st := fun z => zDt (nd := nd) (r := r) hl z
 refine ⟨?_, fun z => ?_, fun z => ?_⟩
 ·rw [List.nodup_append]
  refine ⟨h.un, hb.sublist List.filter_sublist, fun a ha b hb' e => ?_⟩
  subst e
  have h1 := (h.mem a).mp ha
  have h2 := (List.mem_filter.mp hb').2
  have : (zu nd rk' a : Int) = 1 := of_decide_eq_true h2
  omega
 ·rw [List.mem_append, h.mem z, List.mem_filter]
  have s1 := st z
  have s2 := h.le z
  constructor
  ·rintro (⟨h1, h2, h3⟩ | ⟨h1, h2⟩)
   ·exact ⟨h1, h2, by omega⟩
   ·have h2' : (zu nd rk' z : Int) = 1 := of_decide_eq_true h2
    rw [if_pos ((hbm z).mp h1)] at s1
    exact ⟨hbV z h1, by omega, by omega⟩
  ·rintro ⟨h1, h2, h3⟩
   by_cases e : zu nd rk' z = 0
   ·exact .inl ⟨h1, h2, e⟩
   ·by_cases hm : l ∈ nOf nd z
    ·rw [if_pos hm] at s1
     exact .inr ⟨(hbm z).mpr hm, decide_eq_true (by omega)⟩
    ·rw [if_neg hm] at s1; omega
 ·have s1 := st z
  have s2 := h.le z
  omega
theorem LI.start {nd : List (T × List T)} {V : List T} {rk : T -> Option Nat} : LI nd V rk rk [] := ⟨List.nodup_nil, fun z => by
 constructor
 ·intro h; cases h
 ·rintro ⟨_, h1, h2⟩; exact absurd h2 h1, fun z => Nat.le_refl _⟩
theorem WI.next {nd : List (T × List T)} {V : List T} {r : Nat} {rk : T -> Option Nat} {lv as : List T} (w : WI nd V r rk lv) (h : LI nd V rk (rkL rk lv r) as) : WI nd V (r + 1) (rkL rk lv r) as := by
 have up : ∀ z k, rk z = some k -> rkL rk lv r z = some k := fun z k e => by
  unfold rkL
  rw [if_neg (fun hz => by have := ((w.lm z).mp hz).2.1; rw [e] at this; cases this)]
  exact e
 have dn : ∀ z k, rkL rk lv r z = some k -> (z ∈ lv /\ k = r) \/ (z ∉ lv /\ rk z = some k) := fun z k e => by
  unfold rkL at e
  by_cases hz : z ∈ lv
  ·rw [if_pos hz] at e; cases e; exact .inl ⟨hz, rfl⟩
  ·rw [if_neg hz] at e; exact .inr ⟨hz, e⟩
 refine ⟨h.un, fun z => ?_, fun z k e => ?_, fun z k e y hy => ?_, fun z e => ?_, fun z k e => ?_, fun z => by omega, fun k hk z hz => ?_⟩
 ·rw [h.mem z]
  constructor
  ·rintro ⟨h1, h2, h3⟩
   refine ⟨h1, ?_, h3⟩
   unfold rkL
   rw [if_neg (fun hz => h2 ((w.lm z).mp hz).2.2)]
   cases e : rk z with
   | none => rfl
   | some k =>
    refine absurd (QE.mpr fun y hy q => ?_) h2
    obtain ⟨j, _, hj⟩ := w.low z k e y hy
    rw [hj] at q; cases q
  ·rintro ⟨h1, h2, h3⟩
   refine ⟨h1, fun q => ?_, h3⟩
   unfold rkL at h2
   by_cases hz : z ∈ lv
   ·rw [if_pos hz] at h2; cases h2
   ·rw [if_neg hz] at h2; exact hz ((w.lm z).mpr ⟨h1, h2, q⟩)
 ·rcases dn z k e with ⟨h1, rfl⟩ | ⟨_, h2⟩
  ·exact ⟨((w.lm z).mp h1).1, by omega⟩
  ·have := w.inn z k h2; exact ⟨this.1, by omega⟩
 ·rcases dn z k e with ⟨h1, rfl⟩ | ⟨_, h2⟩
  ·have := QE.mp ((w.lm z).mp h1).2.2 y hy
   cases q : rk y with
   | none => exact absurd q this
   | some j => exact ⟨j, (w.inn y j q).2, up y j q⟩
  ·obtain ⟨j, h3, h4⟩ := w.low z k h2 y hy
   exact ⟨j, h3, up y j h4⟩
 ·rcases dn z 0 e with ⟨h1, h2⟩ | ⟨_, h2⟩
  ·exact w.l0 h2.symm z h1
  ·exact w.zero z h2
 ·rcases dn z (k + 1) e with ⟨h1, h2⟩ | ⟨_, h2⟩
  ·obtain ⟨y, h3, h4⟩ := w.l1 k h2.symm z h1
   exact ⟨y, h3, up y k h4⟩
  ·obtain ⟨y, h3, h4⟩ := w.near z k h2
   exact ⟨y, h3, up y k h4⟩
 ·have hk' : k = r := by omega
  subst hk'
  obtain ⟨h1, h2, h3⟩ := (h.mem z).mp hz
  have h3' := QE.mp h3
  cases q : (nOf nd z).find? fun y => (rk y).isNone with
  | none =>
   refine absurd (QE.mpr fun y hy e => ?_) h2
   have := List.find?_eq_none.mp q y hy
   rw [e] at this
   exact this rfl
  | some y =>
   have hy := List.mem_of_find?_eq_some q
   have hn : rk y = none := by have := List.find?_some q; simpa using this
   refine ⟨y, hy, ?_⟩
   have := h3' y hy
   unfold rkL at this ⊢
   by_cases hyl : y ∈ lv
   ·rw [if_pos hyl]
   ·rw [if_neg hyl] at this; exact absurd hn this
theorem WI.last {nd : List (T × List T)} {V : List T} {r : Nat} {rk : T -> Option Nat} (w : WI nd V r rk []) : RK nd V rk := ⟨fun z hz e => by
 cases q : (nOf nd z).find? fun y => (rk y).isNone with
 | none =>
  have : z ∈ ([] : List T) := (w.lm z).mpr ⟨hz, e, QE.mpr fun y hy e2 => by
   have := List.find?_eq_none.mp q y hy
   rw [e2] at this
   exact this rfl⟩
  cases this
 | some y => exact ⟨y, List.mem_of_find?_eq_some q, by have := List.find?_some q; simpa using this⟩, fun z k e => (w.inn z k e).1, w.low, w.zero, w.near⟩
def zBZ (V : List T) (rk : T -> Option Nat) : Nat := (V.filter fun z => (rk z).isNone).length
theorem zDp {V : List T} {rk : T -> Option Nat} {lv : List T} {r : Nat} (hV : V.Nodup) {l : T} (hl : l ∈ lv) (hlV : l ∈ V) (h : rk l = none) : zBZ V (rkL rk lv r) < zBZ V rk := by
 have h1 := zAe (p := fun y => (rk y).isNone) (l := l) (by rw [h]; rfl) hV
 rw [if_pos hlV] at h1
 unfold zBZ
 have : (V.filter fun z => (rkL rk lv r z).isNone).length <= (V.filter fun y => (rk y).isNone && decide (y ≠ l)).length := by
  have e : (V.filter fun z => (rkL rk lv r z).isNone) = (V.filter fun y => (rk y).isNone && decide (y ≠ l)).filter fun z => (rkL rk lv r z).isNone := by
   rw [List.filter_filter]
   refine List.filter_congr fun z _ => ?_
   unfold rkL
   by_cases hz : z ∈ lv
   ·simp [hz]
   ·have : z ≠ l := fun e => hz (e ▸ hl)
    simp [hz, this]
  rw [e]
  exact List.length_filter_le _ _
 omega
def fD (V : List T) (f : T -> D) : List (D × D) := V.map fun x => (D.str x, f x)
theorem Q3 {f : T -> D} : ∀ {V : List T} {x : T}, x ∈ V -> jJ (.str x) (fD V f) = some (f x)
 | [], _, h => by cases h
 | v :: V, x, h => by
  unfold fD jJ
  rw [List.map_cons, List.lookup_cons]
  by_cases e : x = v
  ·subst e; simp
  ·have h1 : (D.str x == D.str v) = false := by simpa using e
   rw [h1]
   exact Q3 (by rcases List.mem_cons.mp h with h | h; exact absurd h e; exact h)
theorem zCU {f : T -> D} : ∀ {V : List T} {x : T}, x ∉ V -> jJ (.str x) (fD V f) = none
 | [], _, _ => rfl
 | v :: V, x, h => by
  unfold fD jJ
  rw [List.map_cons, List.lookup_cons]
  have h1 : (D.str x == D.str v) = false := by
   have : x ≠ v := fun e => h (e ▸ List.mem_cons_self)
   simpa using this
  rw [h1]
  exact zCU fun q => h (List.mem_cons_of_mem _ q)
theorem zID {f : T -> D} {V : List T} {x : T} {v : D} (h : x ∈ V) : ja (.str x) v (fD V f) = fD V fun z => if z = x then v else f z := by
 unfold ja fD
 rw [if_pos (by rw [List.any_map, List.any_eq_true]; exact ⟨x, h, by simp⟩), List.map_map]
 refine List.map_congr_left fun z _ => ?_
 simp only [Function.comp, D.str.injEq]
 split <;> rfl
theorem zA0 {f : T -> D} {V : List T} : (fD V f).length = V.length := by unfold fD; simp
theorem zBY {f : T -> D} {V : List T} : (fD V f).map (·.1) = V.map D.str := by unfold fD; rw [List.map_map]; rfl
def rkD : Option Nat -> D
 | none => .non
 | some k => .int k
structure Fr2 (a b : Nat) (s s' : M.S) : Prop where
 len : s'.length = s.length
 eq : ∀ q, q ≠ a -> q ≠ b -> s'[q]? = s[q]?
theorem Fr2.refl (a b : Nat) (s : M.S) : Fr2 a b s s := ⟨rfl, fun _ _ _ => rfl⟩
theorem Fr2.trans {a b : Nat} {s s' s'' : M.S} (h : Fr2 a b s s') (k : Fr2 a b s' s'') : Fr2 a b s s'' := ⟨k.len.trans h.len, fun q h1 h2 => (k.eq q h1 h2).trans (h.eq q h1 h2)⟩
theorem yX {s : M.S} {a : Nat} {o o' : O} (h : s[a]? = some o) : (s.set a o')[a]? = some o' := List.getElem?_set_self (List.getElem?_eq_some_iff.mp h).1
theorem zx {s : M.S} {a q : Nat} {o' : O} (h : q ≠ a) : (s.set a o')[q]? = s[q]? := List.getElem?_set_ne (Ne.symm h)
abbrev zFH : SM := (zJ (JH zBM (zA 3) (zA 8) (eC (.int 1)))
  (sIf (zl cEq (eOp zY (zA 3) (zA 8)) (eC (.int 0)))
  (qG (eM .list jt (zA 6) (zB (zA 8) zD)))
  jB))
abbrev zJ4 (mi : T -> Int) (xs : List T) : T -> D := fun z => .int (if z ∈ xs then mi z - 1 else mi z)
theorem zKO {V : List T} (hV : V.length <= 1000) {am ab : Nat} (hab : am ≠ ab) {v0 v1 v2 v4 v5 v7 : Option D} : ∀ (xs : List T) (mi : T -> Int) (as : List T) (s : M.S) (v8 : Option D), xs.Nodup -> (∀ x ∈ xs, x ∈ V) -> s[am]? = some (.dct (fD V fun z => .int (mi z))) -> s[ab]? = some (.lst (as.map .str)) -> as.length + xs.length <= 10000 ->
  ∃ v8' s', jm [] (jU (zK 8) zFH) (xs.map .str) [v0, v1, v2, some (.ref am), v4, v5, some (.ref ab), v7, v8] s = .nx [v0, v1, v2, some (.ref am), v4, v5, some (.ref ab), v7, v8'] s' /\ Fr2 am ab s s' /\ s'[am]? = some (.dct (fD V (zJ4 mi xs))) /\ s'[ab]? = some (.lst ((as ++ xs.filter fun x => decide (mi x = 1)).map .str))
 | [], mi, as, s, v8, _, _, h1, h2, _ => ⟨v8, s, rfl, Fr2.refl _ _ _, by
   have e : zJ4 mi [] = fun z => .int (mi z) := by funext z; simp [zJ4]
   rw [e]; exact h1, by rw [h2]; simp⟩
 | x :: xs, mi, as, s, v8, hn, hx, h1, h2, hl => by
  rw [List.nodup_cons] at hn
  have hxV := hx x List.mem_cons_self
  have z1 : (fD V fun z => D.int (mi z)).length < SZ := by rw [zA0]; unfold SZ; omega
  obtain ⟨mi', hmi⟩ : ∃ mi' : T -> Int, ∀ z, mi' z = if z = x then mi x - 1 else mi z := ⟨_, fun z => rfl⟩
  have p1 : ja (.str x) (.int (mi x - 1)) (fD V fun z => .int (mi z)) = fD V fun z => .int (mi' z) := by
   rw [zID hxV]
   congr 1
   funext z
   rw [hmi]
   split <;> rfl
  obtain ⟨s1, hs1⟩ : ∃ s1, s1 = s.set am (.dct (fD V fun z => .int (mi' z))) := ⟨_, rfl⟩
  have a1 : s1[am]? = some (.dct (fD V fun z => .int (mi' z))) := by rw [hs1]; exact yX h1
  have b1 : s1[ab]? = some (.lst (as.map .str)) := by rw [hs1, zx (Ne.symm hab)]; exact h2
  have d1 : jJ (.str x) (fD V fun z => D.int (mi z)) = some (.int (mi x)) := Q3 hxV
  have d2 : jJ (.str x) (fD V fun z => D.int (mi' z)) = some (.int (mi x - 1)) := by rw [Q3 hxV, hmi]; simp
  have f1 : Fr2 am ab s s1 := ⟨by rw [hs1, List.length_set], fun q n1 _ => by rw [hs1]; exact zx n1⟩
  have e1 : (JH zBM (zA 3) (zA 8) (eC (.int 1))) [v0, v1, v2, some (.ref am), v4, v5, some (.ref ab), v7, some (.str x)] s = .nx [v0, v1, v2, some (.ref am), v4, v5, some (.ref ab), v7, some (.str x)] s1 := by
   simp only [JH, zA, eC, List.getElem?_cons_succ, List.getElem?_cons_zero, R.stm_ok, Jp, h1, zt, if_true, d1, zBM, Q0, z1, decide_true, Bool.and_self, p1, hs1]
  have hz : as.length < SZ := by unfold SZ; simp only [List.length_cons] at hl; omega
  obtain ⟨as', s2, e2, f2, a2, b2, hl2, ha⟩ : ∃ as' s2, (sIf (zl cEq (eOp zY (zA 3) (zA 8)) (eC (.int 0))) (qG (eM .list jt (zA 6) (zB (zA 8) zD))) jB) [v0, v1, v2, some (.ref am), v4, v5, some (.ref ab), v7, some (.str x)] s1 = .nx [v0, v1, v2, some (.ref am), v4, v5, some (.ref ab), v7, some (.str x)] s2 /\ Fr2 am ab s1 s2 /\ s2[am]? = some (.dct (fD V fun z => .int (mi' z))) /\ s2[ab]? = some (.lst (as'.map .str)) /\ as'.length <= as.length + 1 /\ as' = as ++ [x].filter fun x => decide (mi x = 1) := by
   by_cases c : mi x = 1
   ·have c' : mi x - 1 = 0 := by omega
    refine ⟨as ++ [x], s1.set ab (.lst ((as ++ [x]).map .str)), ?_, ⟨List.length_set, fun q _ n2 => zx n2⟩, by rw [zx hab]; exact a1, yX b1, by simp, by simp [c]⟩
    have hz' : (as.map D.str).length < SZ := by rw [List.length_map]; exact hz
    simp only [sIf, zl, eOp, zA, eC, List.getElem?_cons_succ, List.getElem?_cons_zero, R.bind_ok, zY, a1, zt, if_true, d2, cEq, eqD, c', decide_true, R.stm_ok, qG, eM, ZU, b1, zB, zD, jt, hz', List.map_append, List.map_cons, List.map_nil]
   ·have c' : ¬ mi x - 1 = 0 := by omega
    refine ⟨as, s1, ?_, Fr2.refl _ _ _, a1, b1, by omega, by simp [c]⟩
    simp only [sIf, zl, eOp, zA, eC, List.getElem?_cons_succ, List.getElem?_cons_zero, R.bind_ok, zY, a1, zt, if_true, d2, cEq, eqD, c', decide_false, R.stm_ok, Bool.false_eq_true, if_false, jB]
  obtain ⟨v8', s3, e3, f3, a3, b3⟩ := zKO hV hab xs mi' as' s2 (some (.str x)) hn.2 (fun y hy => hx y (List.mem_cons_of_mem _ hy)) a2 b2 (by simp only [List.length_cons] at hl; omega)
  have he : ∀ y ∈ xs, mi' y = mi y := fun y hy => by
   rw [hmi]
   exact if_neg fun e : y = x => hn.1 (e ▸ hy)
  refine ⟨v8', s3, ?_, f1.trans (f2.trans f3), ?_, ?_⟩
  ·have e0 : jU (zK 8) zFH (.str x) [v0, v1, v2, some (.ref am), v4, v5, some (.ref ab), v7, v8] s = .nx [v0, v1, v2, some (.ref am), v4, v5, some (.ref ab), v7, some (.str x)] s2 := by
    show ((JH zBM (zA 3) (zA 8) (eC (.int 1))) [v0, v1, v2, some (.ref am), v4, v5, some (.ref ab), v7, some (.str x)] s).then _ = _
    rw [e1, RS.then_nx]
    exact e2
   rw [List.map_cons, jm, e0]
   exact e3
  ·rw [a3]
   congr 3
   funext z
   show D.int (if z ∈ xs then mi' z - 1 else mi' z) = D.int (if z ∈ x :: xs then mi z - 1 else mi z)
   congr 1
   by_cases h : z ∈ xs
   ·rw [if_pos h, if_pos (List.mem_cons_of_mem _ h), he z h]
   ·rw [if_neg h, hmi]
    by_cases e : z = x
    ·rw [e, if_pos rfl, if_pos List.mem_cons_self]
    ·have hne : ¬ z ∈ x :: xs := by simp [e, h]
     rw [if_neg e, if_neg hne]
  ·rw [b3, ha]
   congr 3
   rw [List.append_assoc]
   congr 1
   have : (x :: xs).filter (fun x => decide (mi x = 1)) = [x].filter (fun x => decide (mi x = 1)) ++ xs.filter (fun x => decide (mi x = 1)) := by
    rw [<- List.filter_append]; rfl
   rw [this]
   congr 1
   exact List.filter_congr fun y hy => by rw [he y hy]
abbrev zA7 : SM := (zJ (jf (zA 2) (zA 7) (zA 5))
  (jw (eM .dict QR (zA 1) (zB (zA 7) (zB jh zD))) (zK 8) zFH))
theorem zKo (ks : List T) : (ks.map tk).map (·.1) = ks.map D.str := by rw [List.map_map]; rfl
structure zn (S1 s : M.S) : Prop where
 le : S1.length <= s.length
 eq : ∀ q, q < S1.length -> s[q]? = S1[q]?
theorem zn.app {S1 s : M.S} (h : zn S1 s) : ∃ g, s = S1 ++ g := ⟨s.drop S1.length, by
 have e : s.take S1.length = S1 := by
  apply List.ext_getElem?
  intro i
  by_cases hi : i < S1.length
  ·rw [List.getElem?_take_of_lt hi, h.eq i hi]
  ·rw [List.getElem?_eq_none (by rw [List.length_take]; omega), List.getElem?_eq_none (by omega)]
 conv => lhs; rw [<- List.take_append_drop S1.length s, e]⟩
theorem zn.of (S1 g : M.S) : zn S1 (S1 ++ g) := ⟨by simp, fun q hq => List.getElem?_append_left hq⟩
structure RS3 (S1 : M.S) (V : List T) (ar am : Nat) (rk : T -> Option Nat) (mi : T -> Int) (s : M.S) : Prop where
 pre : zn S1 s
 la : S1.length <= ar
 lm : S1.length <= am
 ne : ar ≠ am
 r : s[ar]? = some (.dct (fD V fun x => rkD (rk x)))
 m : s[am]? = some (.dct (fD V fun x => .int (mi x)))
theorem zLX {S : M.S} {L V N : List T} {B : T -> List T} {nd : List (T × List T)} (nb : NB N nd L B) (hV : V.length <= 1000) {ar am ab : Nat} {rk : T -> Option Nat} {mi : T -> Int} {s : M.S} {as : List T} (h : RS3 (S ++ nS S.length L B) V ar am rk mi s) (lb : (S ++ nS S.length L B).length <= ab) (n1 : ab ≠ ar) (n2 : ab ≠ am) (hb : s[ab]? = some (.lst (as.map .str))) {l : T} (hl : l ∈ V) (hB : ∀ x ∈ B l, x ∈ V) (hsz : as.length + (B l).length <= 10000) {r : Nat} {v0 v4 v7 v8 : Option D} :
  ∃ v8' s', jU (zK 7) zA7 (.str l) [v0, some (.ref S.length), some (.ref ar), some (.ref am), v4, some (.int r), some (.ref ab), v7, v8] s = .nx [v0, some (.ref S.length), some (.ref ar), some (.ref am), v4, some (.int r), some (.ref ab), some (.str l), v8'] s' /\ s'.length = s.length + 1 /\ (∀ q, q < s.length -> q ≠ ar -> q ≠ am -> q ≠ ab -> s'[q]? = s[q]?) /\ RS3 (S ++ nS S.length L B) V ar am (zAA rk l r) (fun z => if z ∈ B l then mi z - 1 else mi z) s' /\ s'[ab]? = some (.lst ((as ++ (B l).filter fun x => decide (mi x = 1)).map .str)) := by
 generalize hS1 : S ++ nS S.length L B = S1 at *
 have lS1 : S.length < S1.length := by rw [<- hS1]; simp
 have ha := (List.getElem?_eq_some_iff.mp h.r).1
 have hm := (List.getElem?_eq_some_iff.mp h.m).1
 have hbl := (List.getElem?_eq_some_iff.mp hb).1
 obtain ⟨s1, hs1⟩ : ∃ s1, s1 = s.set ar (.dct (fD V fun x => rkD (zAA rk l r x))) := ⟨_, rfl⟩
 have l1 : s1.length = s.length := by rw [hs1, List.length_set]
 have z1 : (fD V fun z => rkD (rk z)).length < SZ := by rw [zA0]; unfold SZ; omega
 have p1 : ja (.str l) (.int r) (fD V fun z => rkD (rk z)) = fD V fun z => rkD (zAA rk l r z) := by
  rw [zID hl]
  congr 1
  funext z
  unfold zAA
  split <;> rfl
 have e1 : (jf (zA 2) (zA 7) (zA 5)) [v0, some (.ref S.length), some (.ref ar), some (.ref am), v4, some (.int r), some (.ref ab), some (.str l), v8] s = .nx [v0, some (.ref S.length), some (.ref ar), some (.ref am), v4, some (.int r), some (.ref ab), some (.str l), v8] s1 := by
  simp only [jf, zA, List.getElem?_cons_succ, List.getElem?_cons_zero, R.stm_ok, yj, h.r, zt, z1, decide_true, Bool.and_self, if_true, p1, hs1]
 have q1 : ∀ q, q ≠ ar -> s1[q]? = s[q]? := fun q hq => by rw [hs1]; exact zx hq
 have r1 : s1[ar]? = some (.dct (fD V fun x => rkD (zAA rk l r x))) := by rw [hs1]; exact yX h.r
 have q2 : ∀ (q : Nat), q < s.length -> (s1 ++ [O.dct []])[q]? = s1[q]? := fun q hq => List.getElem?_append_left (by omega)
 obtain ⟨s2, hs2⟩ : ∃ s2, s2 = s1 ++ [O.dct []] := ⟨_, rfl⟩
 have l2 : s2.length = s.length + 1 := by rw [hs2]; simp [l1]
 rw [<- hs2] at q2
 have lo : ∀ q, q < S1.length -> s2[q]? = S1[q]? := fun q hq => by
  rw [q2 q (Nat.lt_of_lt_of_le hq h.pre.le), q1 q (by have := h.la; omega), h.pre.eq q hq]
 have an : s2[S.length]? = some (.dct (qM (S.length + 1) L)) := by rw [lo _ lS1, <- hS1]; exact zm
 obtain ⟨r0, hg, hr0, na, nm, nb'⟩ : ∃ r0, (jJ (.str l) (qM (S.length + 1) L)).getD (.ref s1.length) = .ref r0 /\ s2[r0]? = some (.dct ((B l).map tk)) /\ r0 ≠ ar /\ r0 ≠ am /\ r0 ≠ ab := by
  by_cases hL : l ∈ L
  ·have hi := List.idxOf_lt_length_iff.mpr hL
   have hlt : S.length + 1 + L.idxOf l < S1.length := by rw [<- hS1]; simp; omega
   refine ⟨S.length + 1 + L.idxOf l, by rw [Qg, if_pos hL]; rfl, ?_, ?_, ?_, ?_⟩
   ·rw [lo _ hlt, <- hS1]
    have := zKM (S := S) (B := B) hL []
    rwa [List.append_nil] at this
   ·have := h.la; omega
   ·have := h.lm; omega
   ·omega
  ·refine ⟨s1.length, by rw [Qg, if_neg hL]; rfl, ?_, by omega, by omega, by omega⟩
   rw [hs2, nb.out l hL]
   exact zm
 obtain ⟨s3, hs3⟩ : ∃ s3, s3 = s2.set r0 (.fdc ((B l).map tk)) := ⟨_, rfl⟩
 have m3 : s3[am]? = some (.dct (fD V fun z => .int (mi z))) := by rw [hs3, zx (Ne.symm nm), q2 am hm, q1 am (Ne.symm h.ne)]; exact h.m
 have b3 : s3[ab]? = some (.lst (as.map .str)) := by rw [hs3, zx (Ne.symm nb'), q2 ab hbl, q1 ab n1]; exact hb
 obtain ⟨v8', s4, e4, f4, m4, b4⟩ := zKO hV (Ne.symm n2) (v0 := v0) (v1 := some (.ref S.length)) (v2 := some (.ref ar)) (v4 := v4) (v5 := some (.int r)) (v7 := some (.str l)) (B l) mi as s3 v8 (nb.nb l).1 hB m3 b3 hsz
 have t4 : s4[r0]? = some (.fdc ((B l).map tk)) := by rw [f4.eq r0 nm nb', hs3]; exact yX hr0
 obtain ⟨s5, hs5⟩ : ∃ s5, s5 = s4.set r0 (.dct ((B l).map tk)) := ⟨_, rfl⟩
 have l5 : s5.length = s.length + 1 := by rw [hs5, List.length_set, f4.len, hs3, List.length_set, l2]
 have q5 : ∀ q, q ≠ am -> q ≠ ab -> s5[q]? = s2[q]? := fun q h1 h2 => by
  by_cases e : q = r0
  ·rw [e, hs5, yX t4, hr0]
  ·rw [hs5, zx e, f4.eq q h1 h2, hs3, zx e]
 refine ⟨v8', s5, ?_, l5, fun q hq h1 h2 h3 => by rw [q5 q h2 h3, q2 q hq, q1 q h1], ⟨⟨by have := h.pre.le; omega, fun q hq => ?_⟩, h.la, h.lm, h.ne, ?_, ?_⟩, ?_⟩
 ·show ((jf (zA 2) (zA 7) (zA 5)) [v0, some (.ref S.length), some (.ref ar), some (.ref am), v4, some (.int r), some (.ref ab), some (.str l), v8] s).then _ = _
  rw [e1, RS.then_nx]
  have o1 : s1[S.length]? = some (.dct (qM (S.length + 1) L)) := by
   have := an
   rwa [q2 _ (by have := h.pre.le; omega)] at this
  simp only [jw, eM, zA, List.getElem?_cons_succ, List.getElem?_cons_zero, R.bind_ok, ZU, o1, if_true, zB, zD, jh, alloc, <- hs2, QR, an, zt, R.stm_ok, hg, hr0, <- hs3, zKo, e4, thaw, t4, <- hs5]
 ·have := h.la
  have := h.lm
  rw [q5 q (by omega) (by omega), lo q hq]
 ·rw [q5 ar h.ne (Ne.symm n1), q2 ar ha]; exact r1
 ·rw [hs5, zx (Ne.symm nm)]; exact m4
 ·rw [hs5, zx (Ne.symm nb')]; exact b4
theorem NB.need {N : List T} {nd : List (T × List T)} {L : List T} {B : T -> List T} (nb : NB N nd L B) (hn : (zS nd).Nodup) (l z : T) : z ∈ B l ↔ l ∈ nOf nd z := by
 rw [nb.mem l z, zDK hn]
section
variable {S : M.S} {L V N : List T} {B : T -> List T} {nd : List (T × List T)} {ar am : Nat} {v0 : Option D}
theorem zGO (nb : NB N nd L B) (hN : N.length <= 62) (hn : (zS nd).Nodup) (hV : V.length <= 62) (hVm : ∀ x, x ∈ V ↔ inV nd x) {ab al : Nat} (lb : (S ++ nS S.length L B).length <= ab) (n1 : ab ≠ ar) (n2 : ab ≠ am) (m1 : al ≠ ar) (m2 : al ≠ am) (m3 : al ≠ ab) {lvD : List D} {rk0 : T -> Option Nat} {r : Nat} {v4 : Option D} :
  ∀ (ls done as : List T) (s : M.S) (v7 v8 : Option D), (done ++ ls).Nodup -> (∀ l ∈ ls, l ∈ V /\ rk0 l = none) -> RS3 (S ++ nS S.length L B) V ar am (rkL rk0 done r) (fun z => (zu nd (rkL rk0 done r) z : Int)) s -> s[al]? = some (.lst lvD) -> s[ab]? = some (.lst (as.map .str)) -> LI nd V rk0 (rkL rk0 done r) as ->
  ∃ v7' v8' s' as', jm [(al, .lst lvD)] (jU (zK 7) zA7) (ls.map .str) [v0, some (.ref S.length), some (.ref ar), some (.ref am), v4, some (.int r), some (.ref ab), v7, v8] s = .nx [v0, some (.ref S.length), some (.ref ar), some (.ref am), v4, some (.int r), some (.ref ab), v7', v8'] s' /\
   RS3 (S ++ nS S.length L B) V ar am (rkL rk0 (done ++ ls) r) (fun z => (zu nd (rkL rk0 (done ++ ls) r) z : Int)) s' /\ s'[ab]? = some (.lst (as'.map .str)) /\ LI nd V rk0 (rkL rk0 (done ++ ls) r) as'
 | [], done, as, s, v7, v8, _, _, h, _, hb, li => ⟨v7, v8, s, as, rfl, by rw [List.append_nil]; exact h, hb, by rw [List.append_nil]; exact li⟩
 | l :: ls, done, as, s, v7, v8, hd, hl, h, ha, hb, li => by
  obtain ⟨hlV, hl0⟩ := hl l List.mem_cons_self
  have hld : l ∉ done := fun z => by
   rw [List.nodup_append] at hd
   exact hd.2.2 l z l List.mem_cons_self rfl
  have hk : rkL rk0 done r l = none := by unfold rkL; rw [if_neg hld]; exact hl0
  have hBV : ∀ x ∈ B l, x ∈ V := fun x hx => by
   obtain ⟨q, h1, h2, _⟩ := (nb.mem l x).mp hx
   exact (hVm x).mpr (.inl (by unfold zS; exact List.mem_map.mpr ⟨q, h1, h2⟩))
  have la := qY li.un fun x hx => ((li.mem x).mp hx).1
  have lB := qY (nb.nb l).1 (nb.nb l).2
  obtain ⟨v8', s1, e1, len1, fr, h1, b1⟩ := zLX nb (by omega) h lb n1 n2 hb hlV hBV (by omega) (r := r) (v0 := v0) (v4 := v4) (v7 := v7) (v8 := v8)
  have hal := (List.getElem?_eq_some_iff.mp ha).1
  have a1 : s1[al]? = some (.lst lvD) := by rw [fr al hal m1 m2 m3]; exact ha
  have em : (fun z => if z ∈ B l then (zu nd (rkL rk0 done r) z : Int) - 1 else (zu nd (rkL rk0 done r) z : Int)) = fun z => (zu nd (rkL rk0 (done ++ [l]) r) z : Int) := by
   funext z
   rw [zBr]
   have st := zDt (nd := nd) (r := r) hk z
   by_cases hz : z ∈ B l
   ·rw [if_pos hz]
    rw [if_pos ((nb.need hn l z).mp hz)] at st
    omega
   ·rw [if_neg hz]
    rw [if_neg (fun q => hz ((nb.need hn l z).mpr q))] at st
    omega
  rw [em, <- zBr] at h1
  have li' := li.step (r := r) hk (nb.nb l).1 (nb.need hn l) hBV
  rw [<- zBr] at li'
  obtain ⟨v7', v8'', s', as', e2, h2, b2, li2⟩ := zGO nb hN hn hV hVm lb n1 n2 m1 m2 m3 ls (done ++ [l]) _ s1 (some (.str l)) v8' (by rw [List.append_assoc]; exact hd) (fun x hx => hl x (List.mem_cons_of_mem _ hx)) h1 a1 b1 li'
  rw [List.append_assoc] at h2 li2
  refine ⟨v7', v8'', s', as', ?_, h2, b2, li2⟩
  have hg : zQ [(al, O.lst lvD)] s1 = true := by simp [zQ, a1]
  rw [List.map_cons, jm, e1]
  dsimp only
  rw [if_pos hg]
  exact e2
abbrev Q4 : TM := zl cGt (zH qK (zB (zA 4) zD)) (eC (.int 0))
abbrev Qo : SM := (zJ (zR 6 (ji zD))
  (zJ (jc (iE (zA 4)) (zK 7) zA7)
  (zJ (zR 4 (zA 6))
  (zE3 zG3 5 (eC (.int 1))))))
theorem zNj (nb : NB N nd L B) (hN : N.length <= 62) (hn : (zS nd).Nodup) (hVn : V.Nodup) (hV : V.length <= 62) (hVm : ∀ x, x ∈ V ↔ inV nd x) :
  ∀ (n fuel r : Nat) (rk : T -> Option Nat) (lv : List T) (al : Nat) (s : M.S) (v6 v7 v8 : Option D), zBZ V rk <= n -> n < fuel -> WI nd V r rk lv -> RS3 (S ++ nS S.length L B) V ar am rk (fun z => (zu nd rk z : Int)) s -> (S ++ nS S.length L B).length <= al -> al ≠ ar -> al ≠ am -> s[al]? = some (.lst (lv.map .str)) ->
  ∃ σ' rk' s', qj fuel Q4 Qo [v0, some (.ref S.length), some (.ref ar), some (.ref am), some (.ref al), some (.int r), v6, v7, v8] s = .nx σ' s' /\ σ'[2]? = some (some (.ref ar)) /\ RK nd V rk' /\ zn (S ++ nS S.length L B) s' /\ s'[ar]? = some (.dct (fD V fun x => rkD (rk' x))) := by
 intro n
 induction n with
 | zero =>
  intro fuel r rk lv al s v6 v7 v8 hl hf w h la m1 m2 ha
  cases fuel with
  | zero => omega
  | succ fuel =>
   cases lv with
   | nil =>
    have c : Q4 [v0, some (.ref S.length), some (.ref ar), some (.ref am), some (.ref al), some (.int r), v6, v7, v8] s = .ok false s := by simp [ha]
    refine ⟨_, rk, s, by rw [qj, c]; rfl, rfl, w.last, h.pre, h.r⟩
   | cons l lv =>
    have hl1 := (w.lm l).mp List.mem_cons_self
    have := zDp (r := r) hVn (lv := l :: lv) List.mem_cons_self hl1.1 hl1.2.1
    omega
 | succ n ih =>
  intro fuel r rk lv al s v6 v7 v8 hl hf w h la m1 m2 ha
  cases fuel with
  | zero => omega
  | succ fuel =>
   cases lv with
   | nil =>
    have c : Q4 [v0, some (.ref S.length), some (.ref ar), some (.ref am), some (.ref al), some (.int r), v6, v7, v8] s = .ok false s := by simp [ha]
    refine ⟨_, rk, s, by rw [qj, c]; rfl, rfl, w.last, h.pre, h.r⟩
   | cons l lv =>
    have c : Q4 [v0, some (.ref S.length), some (.ref ar), some (.ref am), some (.ref al), some (.int r), v6, v7, v8] s = .ok true s := by
     simp [ha]
    have hl1 := (w.lm l).mp List.mem_cons_self
    have hless := zDp (r := r) hVn (lv := l :: lv) List.mem_cons_self hl1.1 hl1.2.1
    have har := (List.getElem?_eq_some_iff.mp h.r).1
    have ham := (List.getElem?_eq_some_iff.mp h.m).1
    have hal := (List.getElem?_eq_some_iff.mp ha).1
    have h0 : RS3 (S ++ nS S.length L B) V ar am (rkL rk [] r) (fun z => (zu nd (rkL rk [] r) z : Int)) (s ++ [.lst []]) := by
     rw [zGQ]
     refine ⟨⟨Nat.le_trans h.pre.le (by simp), fun q hq => ?_⟩, h.la, h.lm, h.ne, zd h.r _, zd h.m _⟩
     rw [List.getElem?_append_left (Nat.lt_of_lt_of_le hq h.pre.le), h.pre.eq q hq]
    have hab : (s ++ [O.lst []])[s.length]? = some (.lst (([] : List T).map .str)) := zm
    obtain ⟨v7', v8', s', as', e2, h2, b2, li2⟩ := zGO nb hN hn hV hVm (ab := s.length) (al := al) (v0 := v0) (v4 := some (.ref al)) (lvD := (l :: lv).map .str) (Nat.le_trans la (Nat.le_of_lt hal)) (Nat.ne_of_gt har) (Nat.ne_of_gt ham) m1 m2 (Nat.ne_of_lt hal) (l :: lv) [] [] (s ++ [.lst []]) v7 v8 w.nl (fun x hx => ⟨((w.lm x).mp hx).1, ((w.lm x).mp hx).2.1⟩) h0 (zd ha _) hab (by rw [zGQ]; exact LI.start)
    rw [List.nil_append] at h2 li2
    have w' := w.next li2
    obtain ⟨σ', rk', s'', e3, hσ, hR, hp, hr⟩ := ih fuel (r + 1) _ as' s.length s' (some (.ref s.length)) v7' v8' (by omega) (by omega) w' h2 (Nat.le_trans la (Nat.le_of_lt hal)) (Nat.ne_of_gt har) (Nat.ne_of_gt ham) b2
    refine ⟨σ', rk', s'', ?_, hσ, hR, hp, hr⟩
    have eb : Qo [v0, some (.ref S.length), some (.ref ar), some (.ref am), some (.ref al), some (.int r), v6, v7, v8] s = .nx [v0, some (.ref S.length), some (.ref ar), some (.ref am), some (.ref s.length), some (.int ((r + 1 : Nat) : Int)), some (.ref s.length), v7', v8'] s' := by
     have a0 : (zR 6 (ji zD)) [v0, some (.ref S.length), some (.ref ar), some (.ref am), some (.ref al), some (.int r), v6, v7, v8] s = .nx [v0, some (.ref S.length), some (.ref ar), some (.ref am), some (.ref al), some (.int r), some (.ref s.length), v7, v8] (s ++ [.lst []]) := by
      have z : 0 <= SZ := Nat.zero_le _
      simp [z]
     show ((zR 6 (ji zD)) _ _).then _ = _
     rw [a0, RS.then_nx]
     have hg : zQ [(al, O.lst ((l :: lv).map .str))] (s ++ [.lst []]) = true := by simp only [zQ, List.all_cons, List.all_nil, zd ha _, decide_true, Bool.and_self]
     have a1 : (jc (iE (zA 4)) (zK 7) zA7) [v0, some (.ref S.length), some (.ref ar), some (.ref am), some (.ref al), some (.int r), some (.ref s.length), v7, v8] (s ++ [.lst []]) = .nx [v0, some (.ref S.length), some (.ref ar), some (.ref am), some (.ref al), some (.int r), some (.ref s.length), v7', v8'] s' := by
      simp only [jc, iE, zA, List.getElem?_cons_succ, List.getElem?_cons_zero, R.bind_ok, itD, zd ha [O.lst []], R.stm_ok, hg, if_true]
      exact e2
     show ((jc (iE (zA 4)) (zK 7) zA7) _ _).then _ = _
     rw [a1, RS.then_nx]
     simp
    rw [qj, c]
    show (match Qo _ s with | .nx σ s => qj fuel Q4 Qo σ s | .ct σ s => qj fuel Q4 Qo σ s | .bk σ s => .nx σ s | r => r) = _
    rw [eb]
    exact e3
end
theorem zGX {f : T -> D} : ∀ {V : List T} (acc : List (D × D)), V.Nodup -> (∀ x ∈ V, (acc.any fun p => decide (p.1 = .str x)) = false) -> (fD V f).foldl (fun a p => ja p.1 p.2 a) acc = acc ++ fD V f
 | [], acc, _, _ => by simp [fD]
 | v :: V, acc, hn, h => by
  rw [List.nodup_cons] at hn
  have e : ja (.str v) (f v) acc = acc ++ [(.str v, f v)] := by
   unfold ja
   rw [h v List.mem_cons_self]
   rfl
  show (fD V f).foldl _ (ja (.str v) (f v) acc) = _
  rw [e, zGX _ hn.2 fun x hx => by
   rw [List.any_append, h x (List.mem_cons_of_mem _ hx)]
   have : v ≠ x := fun q => hn.1 (q ▸ hx)
   simp [this]]
  rw [List.append_assoc]
  rfl
theorem zE1 {f : T -> D} {V : List T} (hn : V.Nodup) : zEL (fD V f) = fD V f := by
 unfold zEL
 rw [zGX [] hn fun _ _ => rfl, List.nil_append]
theorem zFl (f : T -> D) (V : List T) : QO (V.map fun x => .tup [.str x, f x]) = some (fD V f) := zDq (fun x => x) f V
theorem zKP {f : T -> D} {n : Nat} (h : ∀ x, D.cl n (f x) = true) (V : List T) : O.cl n (.dct (fD V f)) = true := by
 show ((fD V f).all fun p => D.cl n p.1 && D.cl n p.2) = true
 unfold fD
 rw [List.all_map]
 refine List.all_eq_true.mpr fun x _ => ?_
 simp only [Function.comp, h x, Bool.and_true]
 rfl
theorem zIT (n : Nat) : ∀ o : Option Nat, D.cl n (rkD o) = true
 | none => rfl
 | some _ => rfl
theorem zIV (nd : List (T × List T)) (x : T) : zu nd (fun _ => none) x = (yy [] (nOf nd x)).length := by
 unfold zu
 have e : (fun y : T => ((fun _ : T => (none : Option Nat)) y).isNone) = fun _ => true := rfl
 rw [e, List.filter_eq_self.mpr fun _ _ => rfl]
theorem WI.start {nd : List (T × List T)} {V : List T} (hV : V.Nodup) : WI nd V 0 (fun _ => none) (V.filter fun z => decide ((zu nd (fun _ => none) z : Int) = 0)) :=
 ⟨hV.sublist List.filter_sublist, fun z => by rw [List.mem_filter]; simp, (fun _ _ h => nomatch h), (fun _ _ h => nomatch h), (fun _ h => nomatch h), (fun _ _ h => nomatch h), fun _ z hz => by
  have h := (List.mem_filter.mp hz).2
  have h1 : zu nd (fun _ => none) z = 0 := by have := of_decide_eq_true h; omega
  have h2 := QE.mp h1
  cases q : nOf nd z with
  | nil => rfl
  | cons y ys => rw [q] at h2; exact absurd rfl (h2 y List.mem_cons_self), fun k h => by omega⟩
theorem zKD {S : M.S} {p : Nat} {kvs : List (D × D)} {nd : List (T × List T)} {N : List T} (hp : S[p]? = some (.dct kvs)) (dr : DR S kvs nd) (hn : (zS nd).Nodup) (ok : OkN N nd) (hN : N.length <= 62) :
  ∃ V rk, V.Pairwise NLt /\ V.Nodup /\ (∀ x, x ∈ V ↔ inV nd x) /\ V.length <= N.length /\ RK nd V rk /\ zAM [.ref p] S = alloc (.dct (fD V fun x => rkD (rk x))) S := by
 obtain ⟨L, B, e1, nb⟩ := zGl hp dr hn ok hN
 have hplt : p < S.length := (List.getElem?_eq_some_iff.mp hp).1
 obtain ⟨S1, hS1⟩ : ∃ S1, S1 = S ++ nS S.length L B := ⟨_, rfl⟩
 have hp1 : S1[p]? = some (.dct kvs) := by rw [hS1]; exact zd hp _
 have dr1 : DR S1 kvs nd := by rw [hS1]; exact dr.mono (yN.app _ _)
 have lS1 : S.length < S1.length := by rw [hS1]; simp
 obtain ⟨V, vs, vn, vm, vl, e2⟩ := zIe hp1 dr1 hn ok hN
 rw [<- hS1] at e1
 have z2 : 2 <= SZ := by unfold SZ; omega
 have zV : V.length <= SZ := by unfold SZ; omega
 obtain ⟨S2, hS2⟩ : ∃ S2, S2 = S1 ++ [.lst (V.map .str), .lst (V.map fun x => .tup [.str x, .non]), .dct (fD V fun _ => .non)] := ⟨_, rfl⟩
 have pS2 : zn S1 S2 := by rw [hS2]; exact zn.of _ _
 have s2 : Zc [some (.ref p), some (.ref S.length), none, none, none, none, none, none, none] S1 = .nx [some (.ref p), some (.ref S.length), some (.ref (S1.length + 2)), none, none, none, none, none, none] S2 := by
  have gV : zQ [(S1.length, O.lst (V.map .str))] (S1 ++ [.lst (V.map .str)]) = true := by
   simp only [zQ, List.all_cons, List.all_nil, zm, decide_true, Bool.and_self]
  have gl : (S1 ++ [O.lst (V.map .str)])[S1.length]? = some (.lst (V.map .str)) := zm
  have ec : jy 1 (iE (zH yx (zB (zA 0) zD))) (zK 9) j9 (Qs (zB (zA 9) (zB (eC .non) zD))) [some (.ref p), some (.ref S.length), none, none, none, none, none, none, none] S1 = .ok (V.map fun x => .tup [.str x, .non]) (S1 ++ [.lst (V.map .str)]) := by
   have := zH8 (n := 1) (it := iE (zH yx (zB (zA 0) zD))) (tg := zK 9) (e := Qs (zB (zA 9) (zB (eC .non) zD))) (σ := [some (.ref p), some (.ref S.length), none, none, none, none, none, none, none]) (s := S1) (s1 := S1 ++ [.lst (V.map .str)]) (xs := V.map D.str) (g := [(S1.length, .lst (V.map .str))]) (fun d => .tup [d, .non]) (by
    simp only [iE, zH, zB, zD, zA, List.getElem?_cons_zero, R.bind_ok, e2, alloc, itD, gl]) (by rw [List.length_map]; exact zV) gV fun x hx => by simp [z2]
   rw [this, List.map_map]
   rfl
  have g1 : (S1 ++ [O.lst (V.map .str), .lst (V.map fun x => .tup [.str x, .non])])[S1.length + 1]? = some (.lst (V.map fun x => .tup [.str x, .non])) := by
   rw [List.getElem?_append_right (by omega), show S1.length + 1 - S1.length = 1 by omega]; rfl
  have l1 : (fD V fun _ => D.non).length <= 1000 := by rw [zA0]; omega
  simp only [Zc, qq, zR, List.set_cons_succ, List.set_cons_zero, zH, zB, zD, jn, ec, R.bind_ok, alloc, List.length_append, List.length_cons, List.length_nil, Nat.zero_add, List.append_assoc, List.cons_append, List.nil_append, QI, g1, zFl, l1, if_true, zE1 vn, R.stm_ok, JI, hS2, Nat.reduceAdd]
 have hr2 : S2[S1.length + 2]? = some (.dct (fD V fun _ => .non)) := by
  rw [hS2, List.getElem?_append_right (by omega), show S1.length + 2 - S1.length = 2 by omega]; rfl
 have lS2 : S2.length = S1.length + 3 := by rw [hS2]; simp
 obtain ⟨S2f, hS2f⟩ : ∃ S2f, S2f = S2.set (S1.length + 2) (.fdc (fD V fun _ => .non)) := ⟨_, rfl⟩
 have hp2f : S2f[p]? = some (.dct kvs) := by rw [hS2f, zx (by omega), pS2.eq p (by omega)]; exact hp1
 have hr2f : S2f[S1.length + 2]? = some (.fdc (fD V fun _ => .non)) := by rw [hS2f]; exact yX hr2
 have dr2f : DR S2f kvs nd := dr1.mono fun q xs e => by
  have hq := (List.getElem?_eq_some_iff.mp e).1
  rw [hS2f, zx (by omega), pS2.eq q hq]; exact e
 obtain ⟨t, ec3⟩ : ∃ t, jy 1 (yA (zA 2)) (zK 9) j9 (Qs (zB (zA 9) (zB (zH QC (zB (eM .dict QR (zA 0) (zB (zA 9) (zB (ji zD) zD))) zD)) zD))) [some (.ref p), some (.ref S.length), some (.ref (S1.length + 2)), none, none, none, none, none, none] S2f = .ok (V.map fun x => .tup [.str x, .int (zu nd (fun _ => none) x : Nat)]) (S2f ++ t) := by
  obtain ⟨t, e⟩ := zIi (n := 1) (it := yA (zA 2)) (tg := zK 9) (e := Qs (zB (zA 9) (zB (zH QC (zB (eM .dict QR (zA 0) (zB (zA 9) (zB (ji zD) zD))) zD)) zD))) (σ := [some (.ref p), some (.ref S.length), some (.ref (S1.length + 2)), none, none, none, none, none, none]) (s := S2f) (xs := V.map D.str) (g := []) (fun d => match d with | .str x => .tup [.str x, .int (zu nd (fun _ => none) x : Nat)] | d => d) (by
   simp only [yA, zA, List.getElem?_cons_succ, List.getElem?_cons_zero, R.bind_ok, hr2f, zBY]) (by rw [List.length_map]; exact zV) rfl fun d hd t => by
    obtain ⟨x, hx, rfl⟩ := List.mem_map.mp hd
    refine ⟨t ++ [.lst []], ?_⟩
    have hpt : ∀ g, (S2f ++ g)[p]? = some (.dct kvs) := fun g => zd hp2f g
    obtain ⟨r, er, el⟩ : ∃ r, (jJ (.str x) kvs).getD (.ref (S2f ++ t).length) = .ref r /\ (S2f ++ (t ++ [O.lst []]))[r]? = some (.lst ((nOf nd x).map .str)) := by
     rcases dr2f.get x with ⟨h1, h2⟩ | ⟨row, r, h1, h2, h3⟩
     ·refine ⟨(S2f ++ t).length, by rw [h2]; rfl, ?_⟩
      unfold nOf
      rw [h1, <- List.append_assoc]
      exact zm
     ·refine ⟨r, by rw [h2]; rfl, ?_⟩
      unfold nOf
      rw [h1]
      exact zd h3 _
    have lr : (nOf nd x).length <= 1000 := by
     unfold nOf
     cases q : nd.lookup x with
     | none => simp
     | some row =>
      have hm : (x, row) ∈ nd := by
       have : ∃ r, r ∈ nd /\ r.1 = x /\ r.2 = row := by
        clear dr2f dr1 dr ok hn nb vm er el
        induction nd with
        | nil => cases q
        | cons a nd ih =>
         obtain ⟨k, v⟩ := a
         rw [List.lookup_cons] at q
         cases hk : x == k with
         | true => rw [hk] at q; have := eq_of_beq hk; subst this; cases q; exact ⟨(x, row), List.mem_cons_self, rfl, rfl⟩
         | false =>
          rw [hk] at q
          obtain ⟨r, h1, h2⟩ := ih q
          exact ⟨r, List.mem_cons_of_mem _ h1, h2⟩
       obtain ⟨r, h1, h2, h3⟩ := this
       rw [<- h2, <- h3]; exact h1
      have := (ok _ hm).2.1
      show row.length <= 1000
      have h' : row.length <= 10 := this
      omega
    have elr := JR el
    simp only [j5, zK, j9, List.cons_append, List.nil_append, List.replicate, List.set_cons_succ, List.set_cons_zero, R.bind_ok, if_true, Qs, zB, zD, zA, List.getElem?_cons_succ, List.getElem?_cons_zero, zH, eM, ZU, hpt, ji, List.length_nil, Nat.zero_le, alloc, List.append_assoc, QR, zt, er, QC, elr, J0, lr, zIV, List.length_cons, z2, Nat.reduceAdd]
  refine ⟨t, ?_⟩
  rw [e, List.map_map]
  rfl
 obtain ⟨S3, hS3⟩ : ∃ S3, S3 = S2 ++ (t ++ [.lst (V.map fun x => .tup [.str x, .int (zu nd (fun _ => none) x : Nat)]), .dct (fD V fun x => .int (zu nd (fun _ => none) x : Nat))]) := ⟨_, rfl⟩
 have lS2f : S2f.length = S2.length := by rw [hS2f, List.length_set]
 have s3 : ZM [some (.ref p), some (.ref S.length), some (.ref (S1.length + 2)), none, none, none, none, none, none] S2 = .nx [some (.ref p), some (.ref S.length), some (.ref (S1.length + 2)), some (.ref (S2.length + t.length + 1)), none, none, none, none, none] S3 := by
  have ht := ZZ (g := t ++ [.lst (V.map fun x => .tup [.str x, .int (zu nd (fun _ => none) x : Nat)]), .dct (fD V fun x => .int (zu nd (fun _ => none) x : Nat))]) hr2 [some (.ref p), some (.ref S.length), some (.ref (S1.length + 2)), some (.ref (S2.length + t.length + 1)), none, none, none, none, none]
  rw [<- hS2f] at ht
  have g1 : (S2f ++ (t ++ [O.lst (V.map fun x => .tup [.str x, .int (zu nd (fun _ => none) x : Nat)])]))[S2.length + t.length]? = some (.lst (V.map fun x => .tup [.str x, .int (zu nd (fun _ => none) x : Nat)])) := by
   rw [<- List.append_assoc, show S2.length + t.length = (S2f ++ t).length by rw [List.length_append, lS2f]]; exact zm
  have l1 : (fD V fun x => D.int (zu nd (fun _ => none) x : Nat)).length <= 1000 := by rw [zA0]; omega
  simp only [ZM, qq, JB, List.set_cons_succ, List.set_cons_zero, List.getElem?_cons_succ, List.getElem?_cons_zero, hr2, <- hS2f, zR, zH, zB, zD, jn, ec3, R.bind_ok, alloc, List.length_append, lS2f, List.length_cons, List.length_nil, Nat.zero_add, List.append_assoc, List.cons_append, List.nil_append, QI, g1, zFl, l1, if_true, zE1 vn, R.stm_ok, <- Nat.add_assoc, ht, JI, hS3]
 have pS3 : zn S2 S3 := by rw [hS3]; exact zn.of _ _
 have hr3 : S3[S1.length + 2]? = some (.dct (fD V fun _ => .non)) := by rw [pS3.eq _ (by omega)]; exact hr2
 have hm3 : S3[S2.length + t.length + 1]? = some (.dct (fD V fun x => .int (zu nd (fun _ => none) x : Nat))) := by
  rw [hS3, <- List.append_assoc, List.getElem?_append_right (by rw [List.length_append]; omega), List.length_append, show S2.length + t.length + 1 - (S2.length + t.length) = 1 by omega]; rfl
 obtain ⟨S3f, hS3f⟩ : ∃ S3f, S3f = S3.set (S1.length + 2) (.fdc (fD V fun _ => .non)) := ⟨_, rfl⟩
 have hr3f : S3f[S1.length + 2]? = some (.fdc (fD V fun _ => .non)) := by rw [hS3f]; exact yX hr3
 have hm3f : S3f[S2.length + t.length + 1]? = some (.dct (fD V fun x => .int (zu nd (fun _ => none) x : Nat))) := by rw [hS3f, zx (by omega)]; exact hm3
 have ec4 : jy 1 (yA (zA 2)) (zK 9) (zl cEq (eOp zY (zA 3) (zA 9)) (eC (.int 0))) (zA 9) [some (.ref p), some (.ref S.length), some (.ref (S1.length + 2)), some (.ref (S2.length + t.length + 1)), none, none, none, none, none] S3f = .ok ((V.filter fun z => decide ((zu nd (fun _ => none) z : Int) = 0)).map .str) S3f := by
  refine zAZ (n := 1) (g := []) (fun z => decide ((zu nd (fun _ => none) z : Int) = 0)) (by
   simp only [yA, zA, List.getElem?_cons_succ, List.getElem?_cons_zero, R.bind_ok, hr3f, zBY]) zV rfl fun x hx => ?_
  have d := Q3 (f := fun x => D.int (zu nd (fun _ => none) x : Nat)) hx
  simp only [j5, zK, List.cons_append, List.nil_append, List.replicate, List.set_cons_succ, List.set_cons_zero, zl, eOp, zA, eC, List.getElem?_cons_succ, List.getElem?_cons_zero, R.bind_ok, zY, hm3f, zt, if_true, d, cEq, eqD]
  split <;> rfl
 have s4 : ZQ [some (.ref p), some (.ref S.length), some (.ref (S1.length + 2)), some (.ref (S2.length + t.length + 1)), none, none, none, none, none] S3 = .nx [some (.ref p), some (.ref S.length), some (.ref (S1.length + 2)), some (.ref (S2.length + t.length + 1)), some (.ref S3.length), none, none, none, none] (S3 ++ [.lst ((V.filter fun z => decide ((zu nd (fun _ => none) z : Int) = 0)).map .str)]) := by
  have ht := ZZ (g := [.lst ((V.filter fun z => decide ((zu nd (fun _ => none) z : Int) = 0)).map .str)]) hr3 [some (.ref p), some (.ref S.length), some (.ref (S1.length + 2)), some (.ref (S2.length + t.length + 1)), some (.ref S3.length), none, none, none, none]
  rw [<- hS3f] at ht
  have lS3f : S3f.length = S3.length := by rw [hS3f, List.length_set]
  simp only [ZQ, qq, JB, List.set_cons_succ, List.set_cons_zero, List.getElem?_cons_succ, List.getElem?_cons_zero, hr3, <- hS3f, zR, jn, ec4, R.bind_ok, alloc, lS3f, R.stm_ok, ht, JI]
 have lS3 : S3.length = S2.length + t.length + 2 := by rw [hS3]; simp; omega
 have hRS : RS3 (S ++ nS S.length L B) V (S1.length + 2) (S2.length + t.length + 1) (fun _ => none) (fun z => (zu nd (fun _ => none) z : Int)) (S3 ++ [.lst ((V.filter fun z => decide ((zu nd (fun _ => none) z : Int) = 0)).map .str)]) := by
  rw [<- hS1]
  refine ⟨⟨by rw [List.length_append]; omega, fun q hq => ?_⟩, by omega, by omega, by omega, zd hr3 _, zd hm3 _⟩
  rw [List.getElem?_append_left (by omega), pS3.eq q (by omega), pS2.eq q hq]
 obtain ⟨σ', rk', s', e6, hσ, hR, hpre, hr⟩ := zNj (v0 := some (.ref p)) nb hN hn vn (by omega) vm (zBZ V fun _ => none) zBu 0 (fun _ => none) _ S3.length _ none none none (Nat.le_refl _) (by
  have : zBZ V (fun _ => none) <= V.length := List.length_filter_le _ _
  unfold zBu; omega) (WI.start vn) hRS (by rw [<- hS1]; omega) (by omega) (by omega) zm
 obtain ⟨g, hg⟩ := hpre.app
 have eg : s' = S ++ (nS S.length L B ++ g) := by rw [hg, List.append_assoc]
 refine ⟨V, rk', vs, vn, vm, vl, hR, ?_⟩
 rw [eg] at e6 hr
 refine zBE (g := nS S.length L B ++ g) (j := S1.length + 2) ?_ hr (by omega) (zKP (fun x => zIT _ _) V)
 show (zJ Za (zJ Zc (zJ ZM (zJ ZQ (zJ QD (zJ QH Q7))))) [some (.ref p), none, none, none, none, none, none, none, none] S).out = _
 have s1 : Za [some (.ref p), none, none, none, none, none, none, none, none] S = .nx [some (.ref p), some (.ref S.length), none, none, none, none, none, none, none] S1 := by
  simp only [Za, zR, zH, zB, zD, zA, List.getElem?_cons_zero, R.bind_ok, e1, R.stm_ok, List.set_cons_succ, List.set_cons_zero]
 show ((Za _ _).then _).out = _
 rw [s1, RS.then_nx]
 show ((Zc _ _).then _).out = _
 rw [s2, RS.then_nx]
 show ((ZM _ _).then _).out = _
 rw [s3, RS.then_nx]
 show ((ZQ _ _).then _).out = _
 rw [s4, RS.then_nx]
 have s5 : ∀ s, QD [some (.ref p), some (.ref S.length), some (.ref (S1.length + 2)), some (.ref (S2.length + t.length + 1)), some (.ref S3.length), none, none, none, none] s = .nx [some (.ref p), some (.ref S.length), some (.ref (S1.length + 2)), some (.ref (S2.length + t.length + 1)), some (.ref S3.length), some (.int ((0 : Nat) : Int)), none, none, none] s := fun s => rfl
 show ((QD _ _).then _).out = _
 rw [s5, RS.then_nx]
 show ((QH _ _).then _).out = _
 have s6 : QH = zA8 Q4 Qo := rfl
 rw [s6]
 show ((qj zBu Q4 Qo _ _).then _).out = _
 rw [e6, RS.then_nx]
 simp only [Q7, jE, zA, hσ, R.stm_ok, RS.out_rt]
def ZK : SM :=
  (zR 1 (zH zAM (zB (zA 0) zD)))
def ZV : SM :=
  (zR 2 (ji zD))
def ZO : SM :=
  (jw (zA 1) (zK 3)
  (zJ (zR 4 (eOp zY (zA 1) (zA 3)))
  (sIf (Jy (zA 4))
  (zJ (qG (eM .list JP (zA 2) (zB (jn 1 (jo (eOp Z4 (eOp jM (zA 4) (eC (.int 1))) (zH qK (zB (zA 2) zD)))) (zK 5) j9 (ji zD)) zD)))
  (qG (eM .list jt (eOp zY (zA 2) (zA 4)) (zB (zA 3) zD))))
  jB)))
def Qz : SM :=
  (jE (zA 2))
def zDT : SM := (zJ ZK (zJ ZV (zJ ZO Qz)))
def zKh : F := fn 5 zDT
abbrev yu : F := zKh
def wv (rk : T -> Option Nat) (V : List T) (i : Nat) : List T := V.filter fun x => decide (rk x = some i)
theorem zC2 (rk : T -> Option Nat) (V : List T) (x : T) (i : Nat) : wv rk (V ++ [x]) i = if rk x = some i then wv rk V i ++ [x] else wv rk V i := by
 unfold wv
 rw [List.filter_append]
 by_cases h : rk x = some i
 ·rw [if_pos h]; simp [h]
 ·rw [if_neg h]; simp [h]
theorem RK.down {nd : List (T × List T)} {V : List T} {rk : T -> Option Nat} (h : RK nd V rk) : ∀ (k : Nat) (x : T), rk x = some k -> ∀ i, i <= k -> ∃ y, rk y = some i
 | 0, x, e, i, hi => ⟨x, by rw [e]; congr 1; omega⟩
 | k + 1, x, e, i, hi => by
  by_cases q : i = k + 1
  ·exact ⟨x, by rw [e, q]⟩
  ·obtain ⟨y, _, hy⟩ := h.near x k e
   exact h.down k y hy i (by omega)
theorem zFd {f : D -> M.S -> R (Option D)} (hf : ∀ d s, f d s = .ok (some (.ref s.length)) (s ++ [.lst []])) : ∀ (xs : List D) (s : M.S), qg [] f xs s = .ok ((List.range' s.length xs.length).map .ref) (s ++ List.replicate xs.length (.lst []))
 | [], s => by simp [qg]
 | x :: xs, s => by
  show (f x s).bind _ = _
  rw [hf, R.bind_ok, if_pos (show zQ [] (s ++ [O.lst []]) = true from rfl), zFd hf xs, R.bind_ok, List.length_append]
  simp only [List.length_cons, List.length_nil, Nat.zero_add, List.append_assoc, List.cons_append, List.nil_append]
  rfl
structure WvI (Sx : M.S) (rk : T -> Option Nat) (V : List T) (af : Nat) (refs : List Nat) (s : M.S) : Prop where
 pre : zn Sx s
 af0 : af = Sx.length
 fnd : s[af]? = some (.lst (refs.map .ref))
 nd : refs.Nodup
 ws : ∀ (i r : Nat), refs[i]? = some r -> af < r /\ s[r]? = some (.lst ((wv rk V i).map .str))
 top : ∀ x ∈ V, ∀ k, rk x = some k -> k < refs.length
 last : refs = [] \/ ∃ x ∈ V, rk x = some (refs.length - 1)
abbrev zIK : SM := (zJ (zR 4 (eOp zY (zA 1) (zA 3)))
  (sIf (Jy (zA 4))
  (zJ (qG (eM .list JP (zA 2) (zB (jn 1 (jo (eOp Z4 (eOp jM (zA 4) (eC (.int 1))) (zH qK (zB (zA 2) zD)))) (zK 5) j9 (ji zD)) zD)))
  (qG (eM .list jt (eOp zY (zA 2) (zA 4)) (zB (zA 3) zD))))
  jB))
theorem zGj (n : Int) : (jQ 0 n).length = n.toNat := by unfold jQ; simp
theorem zLB {Sx : M.S} {rk : T -> Option Nat} {W V : List T} {af a0 : Nat} {refs : List Nat} {s : M.S} (h : WvI Sx rk V af refs s) (h0 : Sx[a0]? = some (.fdc (fD W fun x => rkD (rk x)))) {x : T} (hx : x ∈ W) (hl : refs.length <= 1000) (hV : V.length <= 1000) (hk : ∀ k, rk x = some k -> k < 1000) {v0 v3 v4 : Option D} :
  ∃ v4' refs' s', jU (zK 3) zIK (.str x) [v0, some (.ref a0), some (.ref af), v3, v4] s = .nx [v0, some (.ref a0), some (.ref af), some (.str x), v4'] s' /\ WvI Sx rk (V ++ [x]) af refs' s' /\ refs'.length <= 1000 := by
 have a0l := (List.getElem?_eq_some_iff.mp h0).1
 have g0 : s[a0]? = some (.fdc (fD W fun x => rkD (rk x))) := by rw [h.pre.eq a0 a0l]; exact h0
 have dg := Q3 (f := fun x => rkD (rk x)) hx
 have e1 : (zR 4 (eOp zY (zA 1) (zA 3))) [v0, some (.ref a0), some (.ref af), some (.str x), v4] s = .nx [v0, some (.ref a0), some (.ref af), some (.str x), some (rkD (rk x))] s := by
  simp only [zR, eOp, zA, List.getElem?_cons_succ, List.getElem?_cons_zero, R.bind_ok, zY, g0, zt, if_true, dg, R.stm_ok, List.set_cons_succ, List.set_cons_zero]
 cases q : rk x with
 | none =>
  refine ⟨some .non, refs, s, ?_, ⟨h.pre, h.af0, h.fnd, h.nd, fun i r hi => ?_, fun y hy k e => ?_, ?_⟩, hl⟩
  ·show ((zR 4 (eOp zY (zA 1) (zA 3))) [v0, some (.ref a0), some (.ref af), some (.str x), v4] s).then _ = _
   rw [e1, RS.then_nx, q]
   simp [rkD]
  ·rw [zC2, if_neg (by rw [q]; simp)]; exact h.ws i r hi
  ·rcases List.mem_append.mp hy with hy | hy
   ·exact h.top y hy k e
   ·rw [List.mem_singleton.mp hy, q] at e; cases e
  ·rcases h.last with h1 | ⟨y, h1, h2⟩
   ·exact .inl h1
   ·exact .inr ⟨y, List.mem_append_left _ h1, h2⟩
 | some k =>
  have hk1 := hk k q
  have afl := (List.getElem?_eq_some_iff.mp h.fnd).1
  obtain ⟨n, hn⟩ : ∃ n, n = k + 1 - refs.length := ⟨_, rfl⟩
  obtain ⟨new, hnew⟩ : ∃ new, new = List.range' s.length n := ⟨_, rfl⟩
  have newl : new.length = n := by rw [hnew]; simp
  obtain ⟨s1, hs1⟩ : ∃ s1, s1 = s ++ List.replicate n (O.lst []) := ⟨_, rfl⟩
  obtain ⟨s2, hs2⟩ : ∃ s2, s2 = (s1 ++ [O.lst (new.map .ref)]).set af (.lst ((refs ++ new).map .ref)) := ⟨_, rfl⟩
  have l1 : s1.length = s.length + n := by rw [hs1]; simp
  have f1 : s1[af]? = some (.lst (refs.map .ref)) := by rw [hs1]; exact zd h.fnd _
  have f2 : (s1 ++ [O.lst (new.map .ref)])[af]? = some (.lst (refs.map .ref)) := zd f1 _
  have f3 : (s1 ++ [O.lst (new.map .ref)])[s1.length]? = some (.lst (new.map .ref)) := zm
  have hr2 : s2[af]? = some (.lst ((refs ++ new).map .ref)) := by rw [hs2]; exact yX f2
  have ec : jy 1 (jo (eOp Z4 (eOp jM (zA 4) (eC (.int 1))) (zH qK (zB (zA 2) zD)))) (zK 5) j9 (ji zD) [v0, some (.ref a0), some (.ref af), some (.str x), some (.int k)] s = .ok (new.map .ref) s1 := by
   have hq : ((k : Int) + 1 - (refs.length : Int)).natAbs < 4611686018427387904 := by omega
   have hl2 : (jQ 0 ((k : Int) + 1 - (refs.length : Int))).length = n := by rw [zGj]; omega
   have hz : (jQ 0 ((k : Int) + 1 - (refs.length : Int))).length <= SZ := by rw [hl2]; unfold SZ; omega
   have hc := zFd (f := j5 1 (zK 5) j9 (ji zD) [v0, some (.ref a0), some (.ref af), some (.str x), some (.int k)]) (fun d s => by
    simp) (jQ 0 ((k : Int) + 1 - (refs.length : Int))) s
   rw [hl2] at hc
   unfold jy
   have hit : jo (eOp Z4 (eOp jM (zA 4) (eC (.int 1))) (zH qK (zB (zA 2) zD))) [v0, some (.ref a0), some (.ref af), some (.str x), some (.int k)] s = .ok (jQ 0 ((k : Int) + 1 - (refs.length : Int)), []) s := by
    simp only [jo, eOp, zA, eC, zH, zB, zD, List.getElem?_cons_succ, List.getElem?_cons_zero, R.bind_ok, jM, qK, h.fnd, List.length_map, Z4, hq, if_true]
   rw [hit, R.bind_ok, if_pos ⟨hz, rfl⟩, hs1, hnew]
   exact hc
  have zE : (refs.map D.ref).length + (new.map D.ref).length <= SZ /\ af ≠ s1.length := ⟨by rw [List.length_map, List.length_map, newl]; unfold SZ; omega, by omega⟩
  have e2 : (qG (eM .list JP (zA 2) (zB (jn 1 (jo (eOp Z4 (eOp jM (zA 4) (eC (.int 1))) (zH qK (zB (zA 2) zD)))) (zK 5) j9 (ji zD)) zD))) [v0, some (.ref a0), some (.ref af), some (.str x), some (.int k)] s = .nx [v0, some (.ref a0), some (.ref af), some (.str x), some (.int k)] s2 := by
   simp only [qG, eM, zA, List.getElem?_cons_succ, List.getElem?_cons_zero, R.bind_ok, ZU, h.fnd, if_true, zB, zD, jn, ec, alloc, JP, f2, f3, zE, and_self, ne_eq, not_false_eq_true, R.stm_ok, hs2, List.map_append]
  have lt : k < (refs ++ new).length := by rw [List.length_append, newl]; omega
  obtain ⟨r, hr⟩ : ∃ r, (refs ++ new)[k]? = some r := ⟨_, List.getElem?_eq_getElem lt⟩
  have old : ∀ (i r : Nat), (refs ++ new)[i]? = some r -> af < r /\ s2[r]? = some (.lst ((wv rk V i).map .str)) /\ r < s1.length := fun i r hi => by
   by_cases c : i < refs.length
   ·rw [List.getElem?_append_left c] at hi
    obtain ⟨h1, h2⟩ := h.ws i r hi
    have hrl := (List.getElem?_eq_some_iff.mp h2).1
    refine ⟨h1, ?_, by omega⟩
    rw [hs2, zx (by omega), List.getElem?_append_left (by omega), hs1]
    exact zd h2 _
   ·rw [List.getElem?_append_right (by omega)] at hi
    have hi2 := (List.getElem?_eq_some_iff.mp hi).1
    have hi3 := (List.getElem?_eq_some_iff.mp hi).2
    have er : r = s.length + (i - refs.length) := by rw [<- hi3]; simp [hnew]
    have e0 : wv rk V i = [] := by
     unfold wv
     rw [List.filter_eq_nil_iff]
     intro y hy e
     exact absurd (h.top y hy i (of_decide_eq_true e)) (by omega)
    refine ⟨by omega, ?_, by omega⟩
    rw [hs2, zx (by omega), List.getElem?_append_left (by omega), hs1, List.getElem?_append_right (by omega), e0, List.getElem?_replicate, if_pos (by omega)]
    rfl
  have nd' : (refs ++ new).Nodup := by
   rw [List.nodup_append]
   refine ⟨h.nd, by rw [hnew]; exact List.nodup_range', fun a ha b hb e => ?_⟩
   obtain ⟨i, hi, e1⟩ := List.mem_iff_getElem.mp ha
   have h2 := (h.ws i a (by rw [List.getElem?_eq_getElem hi, e1])).2
   have := (List.getElem?_eq_some_iff.mp h2).1
   rw [hnew, List.mem_range'_1] at hb
   omega
  obtain ⟨r1, r2, r3⟩ := old k r hr
  obtain ⟨s3, hs3⟩ : ∃ s3, s3 = s2.set r (.lst ((wv rk V k).map .str ++ [.str x])) := ⟨_, rfl⟩
  have zw : ((wv rk V k).map D.str).length < SZ := by
   rw [List.length_map]
   have : (wv rk V k).length <= V.length := List.length_filter_le _ _
   unfold SZ; omega
  have ix : atI ((refs ++ new).map D.ref) (k : Int) = some (.ref r) := by
   unfold atI ixN
   rw [if_pos (by omega), if_pos (by rw [List.length_map]; omega)]
   simp only [Option.bind_some, Int.toNat_natCast, List.getElem?_map, hr, Option.map_some]
  have e3 : (qG (eM .list jt (eOp zY (zA 2) (zA 4)) (zB (zA 3) zD))) [v0, some (.ref a0), some (.ref af), some (.str x), some (.int k)] s2 = .nx [v0, some (.ref a0), some (.ref af), some (.str x), some (.int k)] s3 := by
   simp only [qG, eM, eOp, zA, List.getElem?_cons_succ, List.getElem?_cons_zero, R.bind_ok, zY, hr2, ix, ZU, r2, if_true, zB, zD, jt, zw, R.stm_ok, hs3]
  have l2 : s2.length = s1.length + 1 := by rw [hs2, List.length_set]; simp
  have l3 : s3.length = s1.length + 1 := by rw [hs3, List.length_set, l2]
  refine ⟨some (.int k), refs ++ new, s3, ?_, ⟨⟨?_, fun a ha => ?_⟩, h.af0, ?_, nd', fun i r' hi => ?_, fun y hy j e => ?_, ?_⟩, ?_⟩
  ·show ((zR 4 (eOp zY (zA 1) (zA 3))) [v0, some (.ref a0), some (.ref af), some (.str x), v4] s).then _ = _
   rw [e1, RS.then_nx, q]
   have c : (Jy (zA 4)) [v0, some (.ref a0), some (.ref af), some (.str x), some (rkD (some k))] s = .ok true s := rfl
   show ((Jy (zA 4)) [v0, some (.ref a0), some (.ref af), some (.str x), some (rkD (some k))] s).stm _ _ = _
   rw [c, R.stm_ok, if_pos rfl]
   show ((qG _) [v0, some (.ref a0), some (.ref af), some (.str x), some (.int k)] s).then _ = _
   rw [e2, RS.then_nx]
   exact e3
  ·have := h.pre.le; omega
  ·have hal := h.af0
   have hle := h.pre.le
   rw [hs3, zx (by omega), hs2, zx (by omega), List.getElem?_append_left (by omega), hs1, List.getElem?_append_left (by omega)]
   exact h.pre.eq a ha
  ·rw [hs3, zx (by omega)]; exact hr2
  ·obtain ⟨o1, o2, o3⟩ := old i r' hi
   refine ⟨o1, ?_⟩
   by_cases c : i = k
   ·subst c
    rw [hr] at hi; cases hi
    rw [zC2, if_pos q, hs3, List.map_append]
    exact yX r2
   ·have ne : r' ≠ r := fun e => by
     subst e
     have a1 := (List.getElem?_eq_some_iff.mp hi)
     have a2 := (List.getElem?_eq_some_iff.mp hr)
     exact c ((List.getElem_inj nd').mp (a1.2.trans a2.2.symm))
    rw [zC2, if_neg (by rw [q]; simp; omega), hs3, zx ne]
    exact o2
  ·rw [List.length_append, newl]
   rcases List.mem_append.mp hy with hy | hy
   ·have := h.top y hy j e; omega
   ·rw [List.mem_singleton.mp hy, q] at e; cases e; omega
  ·right
   rw [List.length_append, newl]
   by_cases c : k + 1 <= refs.length
   ·rcases h.last with h1 | ⟨y, h1, h2⟩
    ·rw [h1] at c; simp at c
    ·exact ⟨y, List.mem_append_left _ h1, by rw [h2]; congr 1; omega⟩
   ·exact ⟨x, List.mem_append_right _ (by simp), by rw [q]; congr 1; omega⟩
  ·rw [List.length_append, newl]; omega
theorem zFC {S : M.S} {p : Nat} {kvs : List (D × D)} {nd : List (T × List T)} {N : List T} (hp : S[p]? = some (.dct kvs)) (dr : DR S kvs nd) (hn : (zS nd).Nodup) (ok : OkN N nd) (hN : N.length <= 62) :
  ∃ (V : List T) (rk : T -> Option Nat) (refs : List Nat) (g : M.S), V.Pairwise NLt /\ V.Nodup /\ (∀ x, x ∈ V ↔ inV nd x) /\ V.length <= N.length /\ RK nd V rk /\ yu [.ref p] S = .ok (.ref (S.length + 1)) (S ++ g) /\ (S ++ g)[S.length + 1]? = some (.lst (refs.map .ref)) /\ refs.Nodup /\
   (∀ (i r : Nat), refs[i]? = some r -> S.length + 1 < r /\ (S ++ g)[r]? = some (.lst ((wv rk V i).map .str))) /\ (∀ x k, rk x = some k -> k < refs.length) /\ (∀ i, i < refs.length -> wv rk V i ≠ []) /\ refs.length <= 1000 := by
 obtain ⟨V, rk, vs, vn, vm, vl, hR, e1⟩ := zKD hp dr hn ok hN
 have hplt : p < S.length := (List.getElem?_eq_some_iff.mp hp).1
 have hsm : ∀ (k : Nat) (x : T), rk x = some k -> k < 1000 := fun k x e => by
  have h : ∀ j, j <= k + 1 -> ∃ ys : List T, ys.Nodup /\ ys.length = j /\ ∀ y ∈ ys, y ∈ V /\ ∃ i, i < j /\ rk y = some i := by
   intro j
   induction j with
   | zero => exact fun _ => ⟨[], List.nodup_nil, rfl, fun y hy => (by cases hy)⟩
   | succ j ih =>
    intro hj
    obtain ⟨ys, h1, h2, h3⟩ := ih (by omega)
    obtain ⟨y, hy⟩ := hR.down k x e j (by omega)
    refine ⟨y :: ys, List.nodup_cons.mpr ⟨fun z => ?_, h1⟩, by simp [h2], fun w hw => ?_⟩
    ·obtain ⟨_, i, hi, e2⟩ := h3 y z
     rw [hy] at e2; cases e2; omega
    ·rcases List.mem_cons.mp hw with rfl | hw
     ·exact ⟨hR.inn _ _ hy, j, by omega, hy⟩
     ·obtain ⟨a, i, hi, e2⟩ := h3 w hw
      exact ⟨a, i, by omega, e2⟩
  obtain ⟨ys, h1, h2, h3⟩ := h (k + 1) (Nat.le_refl _)
  have := qY h1 fun y hy => (h3 y hy).1
  omega
 obtain ⟨S1, hS1⟩ : ∃ S1, S1 = S ++ [O.dct (fD V fun x => rkD (rk x))] := ⟨_, rfl⟩
 obtain ⟨Sx, hSx⟩ : ∃ Sx, Sx = S ++ [O.fdc (fD V fun x => rkD (rk x))] := ⟨_, rfl⟩
 have lx : Sx.length = S.length + 1 := by rw [hSx]; simp
 have x0 : Sx[S.length]? = some (.fdc (fD V fun x => rkD (rk x))) := by rw [hSx]; exact zm
 have I0 : WvI Sx rk [] (S.length + 1) [] (Sx ++ [.lst []]) := ⟨zn.of _ _, lx.symm, by rw [<- lx]; exact zm, List.nodup_nil, (fun i r h => by simp at h), (fun x h => by cases h), .inl rfl⟩
 obtain ⟨σ', s', e3, ⟨v3, v4, eσ⟩, refs, W, hl⟩ := ql (g := []) (f := jU (zK 3) zIK)
  (fun j σ s => (∃ v3 v4 : Option D, σ = [some (.ref p), some (.ref S.length), some (.ref (S.length + 1)), v3, v4]) /\ ∃ refs, WvI Sx rk (V.take j) (S.length + 1) refs s /\ refs.length <= 1000)
  (V.map D.str) 0 [some (.ref p), some (.ref S.length), some (.ref (S.length + 1)), none, none] (Sx ++ [O.lst []]) ⟨⟨none, none, rfl⟩, [], (by rw [List.take_zero]; exact I0), by simp⟩ fun j x hx σ s ⟨⟨v3, v4, eσ⟩, refs, W, hl⟩ => by
   rw [Nat.zero_add] at W ⊢
   subst eσ
   rw [List.getElem?_map] at hx
   cases q : V[j]? with
   | none => rw [q] at hx; cases hx
   | some y =>
    rw [q] at hx
    have hx' : x = .str y := by simpa using hx.symm
    subst hx'
    obtain ⟨v4', refs', s', e, W', hl'⟩ := zLB (v0 := some (.ref p)) (v3 := v3) (v4 := v4) W x0 (List.mem_of_getElem? q) hl (by rw [List.length_take]; omega) fun k e => hsm k y e
    refine ⟨_, s', e, rfl, ⟨_, _, rfl⟩, refs', ?_, hl'⟩
    rw [List.take_succ, q]; exact W'
 rw [Nat.zero_add, List.length_map, List.take_length] at W
 subst eσ
 obtain ⟨g, hg⟩ := W.pre.app
 have eg : s' = S ++ (O.fdc (fD V fun x => rkD (rk x)) :: g) := by rw [hg, hSx]; simp
 have hset : s'.set S.length (.dct (fD V fun x => rkD (rk x))) = S ++ (O.dct (fD V fun x => rkD (rk x)) :: g) := by rw [eg]; exact ZP
 have hat : s'[S.length]? = some (.fdc (fD V fun x => rkD (rk x))) := by rw [eg]; exact zm
 have keep : ∀ q, q ≠ S.length -> (S ++ (O.dct (fD V fun x => rkD (rk x)) :: g))[q]? = s'[q]? := fun q hq => by rw [<- hset, zx hq]
 refine ⟨V, rk, refs, O.dct (fD V fun x => rkD (rk x)) :: g, vs, vn, vm, vl, hR, ?_, ?_, W.nd, fun i r hi => ?_, fun x k e => W.top x (hR.inn x k e) k e, fun i hi => ?_, hl⟩
 ·have s1 : ZK [some (.ref p), none, none, none, none] S = .nx [some (.ref p), some (.ref S.length), none, none, none] S1 := by
   simp only [ZK, zR, zH, zB, zD, zA, List.getElem?_cons_zero, R.bind_ok, e1, alloc, R.stm_ok, List.set_cons_succ, List.set_cons_zero, hS1]
  have s2 : ZV [some (.ref p), some (.ref S.length), none, none, none] S1 = .nx [some (.ref p), some (.ref S.length), some (.ref (S.length + 1)), none, none] (S1 ++ [.lst []]) := by
   simp [ZV, hS1]
  have a1 : (S1 ++ [O.lst []])[S.length]? = some (.dct (fD V fun x => rkD (rk x))) := by rw [hS1, List.append_assoc]; exact zm
  have a2 : (S1 ++ [O.lst []]).set S.length (.fdc (fD V fun x => rkD (rk x))) = Sx ++ [.lst []] := by rw [hS1, hSx, List.append_assoc, List.append_assoc]; exact ZP
  have s3 : ZO [some (.ref p), some (.ref S.length), some (.ref (S.length + 1)), none, none] (S1 ++ [.lst []]) = .nx [some (.ref p), some (.ref S.length), some (.ref (S.length + 1)), v3, v4] (S ++ (O.dct (fD V fun x => rkD (rk x)) :: g)) := by
   simp only [ZO, jw, zA, List.getElem?_cons_succ, List.getElem?_cons_zero, R.stm_ok, a1, a2, zBY]
   rw [e3]
   simp only [thaw, hat, if_true, hset]
  show (zJ ZK (zJ ZV (zJ ZO Qz)) [some (.ref p), none, none, none, none] S).out = _
  show ((ZK _ _).then _).out = _
  rw [s1, RS.then_nx]
  show ((ZV _ _).then _).out = _
  rw [s2, RS.then_nx]
  show ((ZO _ _).then _).out = _
  rw [s3]
  simp [Qz]
 ·rw [keep _ (by omega)]; exact W.fnd
 ·obtain ⟨h1, h2⟩ := W.ws i r hi
  exact ⟨h1, by rw [keep _ (by omega)]; exact h2⟩
 ·rcases W.last with h1 | ⟨x, h1, h2⟩
  ·rw [h1] at hi; simp at hi
  ·obtain ⟨y, hy⟩ := hR.down _ x h2 i (by omega)
   intro z
   have : y ∈ wv rk V i := List.mem_filter.mpr ⟨hR.inn y i hy, decide_eq_true hy⟩
   rw [z] at this; cases this
def yY : SM :=
  (zJ (zR 1 jh)
  (zJ (jc (zB6 0 (zA 0)) (Qi (qE (zK 2) (qE (zK 3) QZ)))
  (zJ (sIf (tOr (y6 (yg (zH Qc (zB (zA 3) (zB (eC (.ty .list)) zD))))) (zl cEq (zA 3) (ji zD)))
  (jE (eC .non))
  jB)
  (zJ (jc (iE (zA 3)) (zK 4)
  (zJ (sIf (tOr (y6 (yg (zH Qc (zB (zA 4) (zB (eC (.ty .str)) zD))))) (zl cIn (zA 4) (zA 1)))
  (jE (eC .non))
  jB)
  (jf (zA 1) (zA 4) (zA 2))))
  (sIf (zl cNe (zA 3) (zH zAT (zB (zA 3) zD)))
  (jE (eC .non))
  jB))))
  (jE (zA 1))))
def Jo : F := fn 5 yY
def jz : F := chN Jo
theorem zB0 : jS 1 Jo jz := zBH _
theorem zNE {f : T -> D} {K : List T} {x : T} (h : x ∉ K) : ja (.str x) (f x) (fD K f) = fD (K ++ [x]) f := by
 unfold ja
 rw [if_neg (by
  unfold fD
  rw [List.any_map, List.any_eq_true]
  rintro ⟨y, hy, e⟩
  simp at e
  exact h (e ▸ hy))]
 unfold fD
 rw [List.map_append]
 rfl
theorem zEv : ∀ (xs : List D) (k : Int) (j : Nat), (qt k xs)[j]? = (xs[j]?).map fun d => .tup [.int (k + j), d]
 | [], _, _ => by simp [qt]
 | x :: xs, k, 0 => by simp [qt]
 | x :: xs, k, j + 1 => by
  rw [qt, List.getElem?_cons_succ, zEv xs, List.getElem?_cons_succ]
  congr 1
  funext d
  congr 3
  omega
theorem zE7 : ∀ (xs : List D) (k : Int), (qt k xs).length = xs.length
 | [], _ => rfl
 | x :: xs, k => by rw [qt, List.length_cons, zE7 xs, List.length_cons]
abbrev zGb : SM := (zJ (sIf (tOr (y6 (yg (zH Qc (zB (zA 4) (zB (eC (.ty .str)) zD))))) (zl cIn (zA 4) (zA 1)))
  (jE (eC .non))
  jB)
  (jf (zA 1) (zA 4) (zA 2)))
abbrev zHw : SM := (zJ (sIf (tOr (y6 (yg (zH Qc (zB (zA 3) (zB (eC (.ty .list)) zD))))) (zl cEq (zA 3) (ji zD)))
  (jE (eC .non))
  jB)
  (zJ (jc (iE (zA 3)) (zK 4) zGb)
  (sIf (zl cNe (zA 3) (zH zAT (zB (zA 3) zD)))
  (jE (eC .non))
  jB)))
theorem zF9 {S : M.S} {rk : T -> Option Nat} {i : Nat} {g : M.S} {G : Gd} (hG : ∀ o, zQ G (S ++ o :: g) = true) {v0 v3 : Option D} : ∀ (ys K : List T) (v4 : Option D), ys.Nodup -> (∀ y ∈ ys, y ∉ K) -> (∀ y ∈ ys, rk y = some i) -> K.length + ys.length <= 1000 ->
  ∃ v4', jm G (jU (zK 4) zGb) (ys.map .str) [v0, some (.ref S.length), some (.int i), v3, v4] (S ++ .dct (fD K fun x => rkD (rk x)) :: g) = .nx [v0, some (.ref S.length), some (.int i), v3, v4'] (S ++ .dct (fD (K ++ ys) fun x => rkD (rk x)) :: g)
 | [], K, v4, _, _, _, _ => ⟨v4, by rw [List.append_nil]; rfl⟩
 | y :: ys, K, v4, hn, hK, hr, hl => by
  rw [List.nodup_cons] at hn
  have hy := hK y List.mem_cons_self
  have d0 := zCU (f := fun x => rkD (rk x)) hy
  have z : (fD K fun x => rkD (rk x)).length < SZ := by rw [zA0]; simp only [List.length_cons] at hl; unfold SZ; omega
  have g1 : ∀ o, (S ++ o :: g)[S.length]? = some o := fun o => zm
  have s1 : ∀ o o', (S ++ o :: g).set S.length o' = S ++ o' :: g := fun o o' => ZP
  have p1 : ja (.str y) (.int i) (fD K fun x => rkD (rk x)) = fD (K ++ [y]) fun x => rkD (rk x) := by
   have := zNE (f := fun x => rkD (rk x)) hy
   rw [hr y List.mem_cons_self] at this
   exact this
  have e : jU (zK 4) zGb (.str y) [v0, some (.ref S.length), some (.int i), v3, v4] (S ++ .dct (fD K fun x => rkD (rk x)) :: g) = .nx [v0, some (.ref S.length), some (.int i), v3, some (.str y)] (S ++ .dct (fD (K ++ [y]) fun x => rkD (rk x)) :: g) := by
   simp [g1, s1, zt, d0, z, p1, Zm]
  obtain ⟨v4', e'⟩ := zF9 hG ys (K ++ [y]) (some (.str y)) hn.2 (fun w hw q => by
   rcases List.mem_append.mp q with q | q
   ·exact hK w (List.mem_cons_of_mem _ hw) q
   ·rw [List.mem_singleton.mp q] at hw; exact hn.1 hw) (fun w hw => hr w (List.mem_cons_of_mem _ hw)) (by rw [List.length_append]; simp only [List.length_cons, List.length_nil] at hl ⊢; omega)
  refine ⟨v4', ?_⟩
  rw [List.map_cons, jm, e]
  dsimp only
  rw [if_pos (hG _), e', List.append_assoc]
  rfl
theorem zHO {S : M.S} {af : Nat} {refs : List Nat} {V : List T} {rk : T -> Option Nat} (hf : S[af]? = some (.lst (refs.map .ref))) (hw : ∀ (i r : Nat), refs[i]? = some r -> S[r]? = some (.lst ((wv rk V i).map .str))) (ne : ∀ i, i < refs.length -> wv rk V i ≠ []) (vs : V.Pairwise NLt) (vn : V.Nodup) (vl : V.length <= 62) :
  ∃ K : List T, K.Nodup /\ (∀ x, x ∈ K ↔ x ∈ V /\ ∃ k, k < refs.length /\ rk x = some k) /\ jz [.ref af] S = alloc (.dct (fD K fun x => rkD (rk x))) S := by
 have gf : ∀ g, (S ++ g)[af]? = some (.lst (refs.map .ref)) := fun g => zd hf g
 have hG : ∀ g, zQ [(af, O.lst (refs.map .ref))] (S ++ g) = true := fun g => by simp only [zQ, List.all_cons, List.all_nil, gf, decide_true, Bool.and_self]
 obtain ⟨σ', s', e5, ⟨v2, v3, v4, eσ⟩, K, g, es, kn, km⟩ := ql (g := [(af, O.lst (refs.map .ref))]) (f := jU (Qi (qE (zK 2) (qE (zK 3) QZ))) zHw)
  (fun j σ s => (∃ v2 v3 v4 : Option D, σ = [some (.ref af), some (.ref S.length), v2, v3, v4]) /\ ∃ (K : List T) (g : M.S), s = S ++ .dct (fD K fun x => rkD (rk x)) :: g /\ K.Nodup /\ ∀ x, x ∈ K ↔ x ∈ V /\ ∃ k, k < j /\ rk x = some k)
  (qt 0 (refs.map .ref)) 0 [some (.ref af), some (.ref S.length), none, none, none] (S ++ [.dct []]) ⟨⟨none, none, none, rfl⟩, [], [], rfl, List.nodup_nil, fun x => by simp⟩ fun j d hd σ s ⟨⟨v2, v3, v4, eσ⟩, K, g, es, kn, km⟩ => by
   rw [Nat.zero_add] at km ⊢
   subst eσ
   subst es
   rw [zEv, List.getElem?_map] at hd
   cases q : refs[j]? with
   | none => rw [q] at hd; cases hd
   | some r =>
    rw [q] at hd
    have hd' : d = .tup [.int j, .ref r] := by simpa using hd.symm
    subst hd'
    have hj := (List.getElem?_eq_some_iff.mp q).1
    have hr := hw j r q
    have gr : ∀ g, (S ++ g)[r]? = some (.lst ((wv rk V j).map .str)) := fun g => zd hr g
    have hne := ne j hj
    have hwr : ∀ y ∈ wv rk V j, y ∈ V /\ rk y = some j := fun y hy => ⟨(List.mem_filter.mp hy).1, of_decide_eq_true (List.mem_filter.mp hy).2⟩
    have hwn : (wv rk V j).Nodup := vn.sublist List.filter_sublist
    have hwl : (wv rk V j).length <= V.length := List.length_filter_le _ _
    have hws : jd (wv rk V j) = wv rk V j := zGJ (vs.sublist List.filter_sublist)
    have hKV := qY kn fun x hx => ((km x).mp hx).1
    have hdis : ∀ y ∈ wv rk V j, y ∉ K := fun y hy hk => by
     obtain ⟨_, k, h1, h2⟩ := (km y).mp hk
     rw [(hwr y hy).2] at h2; cases h2; omega
    have hwm : ∀ x, x ∈ V -> rk x = some j -> x ∈ wv rk V j := fun x h1 h2 => List.mem_filter.mpr ⟨h1, decide_eq_true h2⟩
    generalize wv rk V j = ts at *
    have e1 : (sIf (tOr (y6 (yg (zH Qc (zB (zA 3) (zB (eC (.ty .list)) zD))))) (zl cEq (zA 3) (ji zD))) (jE (eC .non)) jB) [some (.ref af), some (.ref S.length), some (.int j), some (.ref r), v4] (S ++ .dct (fD K fun x => rkD (rk x)) :: g) = .nx [some (.ref af), some (.ref S.length), some (.int j), some (.ref r), v4] (S ++ .dct (fD K fun x => rkD (rk x)) :: (g ++ [.lst []])) := by
     have eq1 : eqD (.ref r) (.ref (S ++ O.dct (fD K fun x => rkD (rk x)) :: g).length) ((S ++ O.dct (fD K fun x => rkD (rk x)) :: g) ++ [O.lst []]) = .ok false ((S ++ O.dct (fD K fun x => rkD (rk x)) :: g) ++ [O.lst []]) := by
      refine (J5 (ts := ts) (us := []) (zd (gr _) _) zm).trans ?_
      simp [hne]
     simp only [sIf, tOr, y6, yg, zH, zB, zD, zA, eC, List.getElem?_cons_succ, List.getElem?_cons_zero, R.bind_ok, Qc, Zv, gr, Zm, Bool.not_true, Bool.false_eq_true, if_false, zl, ji, List.length_nil, Nat.zero_le, if_true, alloc, cEq, eq1, R.stm_ok, jB]
     simp
    have hG2 : ∀ o, zQ [(r, O.lst (ts.map .str))] (S ++ o :: (g ++ [O.lst []])) = true := fun o => by simp only [zQ, List.all_cons, List.all_nil, gr, decide_true, Bool.and_self]
    obtain ⟨v4', e2⟩ := zF9 (S := S) (rk := rk) (i := j) (g := g ++ [.lst []]) (v0 := some (.ref af)) (v3 := some (.ref r)) hG2 ts K v4 hwn hdis (fun y hy => (hwr y hy).2) (by omega)
    have e2' : (jc (iE (zA 3)) (zK 4) zGb) [some (.ref af), some (.ref S.length), some (.int j), some (.ref r), v4] (S ++ .dct (fD K fun x => rkD (rk x)) :: (g ++ [.lst []])) = .nx [some (.ref af), some (.ref S.length), some (.int j), some (.ref r), v4'] (S ++ .dct (fD (K ++ ts) fun x => rkD (rk x)) :: (g ++ [.lst []])) := by
     simp only [jc, iE, zA, List.getElem?_cons_succ, List.getElem?_cons_zero, R.bind_ok, itD, gr, R.stm_ok, hG2, if_true]
     exact e2
    refine ⟨[some (.ref af), some (.ref S.length), some (.int j), some (.ref r), v4'], S ++ .dct (fD (K ++ ts) fun x => rkD (rk x)) :: (g ++ [.lst [], .lst (ts.map .str)]), ?_, hG _, ⟨_, _, _, rfl⟩, K ++ ts, _, rfl, ?_, fun x => ?_⟩
    ·show ((sIf _ _ _) [some (.ref af), some (.ref S.length), some (.int j), some (.ref r), v4] (S ++ .dct (fD K fun x => rkD (rk x)) :: g)).then _ = _
     rw [e1, RS.then_nx]
     show ((jc _ _ _) _ _).then _ = _
     rw [e2', RS.then_nx]
     have ks : ∀ s, QG (ts.map D.str) s = alloc (.lst (ts.map .str)) s := fun s => by
      unfold QG
      rw [J0]
      dsimp only
      rw [if_pos (by omega), hws]
     have eq2 : eqD (.ref r) (.ref (S ++ O.dct (fD (K ++ ts) fun x => rkD (rk x)) :: (g ++ [O.lst []])).length) ((S ++ O.dct (fD (K ++ ts) fun x => rkD (rk x)) :: (g ++ [O.lst []])) ++ [O.lst (ts.map .str)]) = .ok true ((S ++ O.dct (fD (K ++ ts) fun x => rkD (rk x)) :: (g ++ [O.lst []])) ++ [O.lst (ts.map .str)]) := by
      refine (J5 (ts := ts) (us := ts) (zd (gr _) _) zm).trans ?_
      simp
     have lr := fun g => JR (gr g)
     simp only [sIf, zl, zA, List.getElem?_cons_succ, List.getElem?_cons_zero, R.bind_ok, zH, zB, zD, zAT, lr, ks, alloc, cNe, eq2, Bool.not_true, R.stm_ok, Bool.false_eq_true, if_false, jB]
     simp
    ·rw [List.nodup_append]
     exact ⟨kn, hwn, fun a ha b hb e => hdis b hb (e ▸ ha)⟩
    ·rw [List.mem_append, km x]
     constructor
     ·rintro (⟨h1, k, h2, h3⟩ | h)
      ·exact ⟨h1, k, by omega, h3⟩
      ·exact ⟨(hwr x h).1, j, by omega, (hwr x h).2⟩
     ·rintro ⟨h1, k, h2, h3⟩
      by_cases c : k = j
      ·exact .inr (hwm x h1 (c ▸ h3))
      ·exact .inl ⟨h1, k, by omega, h3⟩
 rw [Nat.zero_add, zE7, List.length_map] at km
 subst eσ
 subst es
 refine ⟨K, kn, km, zBE (g := .dct (fD K fun x => rkD (rk x)) :: g) (j := S.length) ?_ zm (Nat.le_refl _) (zKP (fun x => zIT _ _) K)⟩
 show ((yY [some (.ref af), none, none, none, none] S).out) = _
 unfold yY
 have e0 : (zR 1 jh) [some (.ref af), none, none, none, none] S = .nx [some (.ref af), some (.ref S.length), none, none, none] (S ++ [.dct []]) := by simp
 have e6 : (jc (zB6 0 (zA 0)) (Qi (qE (zK 2) (qE (zK 3) QZ))) zHw) [some (.ref af), some (.ref S.length), none, none, none] (S ++ [.dct []]) = .nx [some (.ref af), some (.ref S.length), v2, v3, v4] (S ++ .dct (fD K fun x => rkD (rk x)) :: g) := by
  simp only [jc, zB6, zA, List.getElem?_cons_zero, R.bind_ok, gf, R.stm_ok, hG, if_true]
  exact e5
 show ((((zR 1 jh) _ _).then _).out) = _
 rw [e0, RS.then_nx]
 show ((((jc _ _ _) _ _).then _).out) = _
 rw [e6]
 simp
def ZD : SM :=
  (jE (zHM (QL cEq (zH ZJ (zB (zA 0) zD)) (zH ZJ (zB (zA 1) zD))) (QL cEq (zA 0) (zA 1))))
def zAu : F := fn 2 ZD
def yR : F := chS zAu
theorem zCx : jS 2 zAu yR := zIk _
theorem zH2 {s : M.S} {h n : Nat} {kvs hk : List (D × D)} {nd : List (T × List T)} (hh : s[h]? = some (.dct hk)) (h5 : s[n]? = some (.dct kvs)) (drh : DR s hk nd) (dr : DR s kvs nd) (hn : (zS nd).Nodup) : yR [.ref h, .ref n] s = .ok (.bl true) s := by
 have kk1 := dr.keysT
 have kk2 := drh.keysT
 have q3 : eqD (.ref s.length) (.ref (s.length + 1)) (s ++ [O.lst ((zS nd).map D.str), .lst ((zS nd).map D.str)]) = .ok true (s ++ [O.lst ((zS nd).map D.str), .lst ((zS nd).map D.str)]) := by
  rw [J5 (ts := zS nd) (us := zS nd) (by simp) (by simp)]; simp
 have l1 : ZJ [.ref h] s = .ok (.ref s.length) (s ++ [O.lst ((zS nd).map D.str)]) := by
  simp only [ZJ, hh, kk2, alloc]
 have l2 : ZJ [.ref n] (s ++ [O.lst ((zS nd).map D.str)]) = .ok (.ref (s.length + 1)) (s ++ [O.lst ((zS nd).map D.str), .lst ((zS nd).map D.str)]) := by
  simp only [ZJ, zd h5 _, kk1, alloc]
  simp
 have q2 := zM6 (zd hh [O.lst ((zS nd).map D.str), .lst ((zS nd).map D.str)]) (zd h5 [O.lst ((zS nd).map D.str), .lst ((zS nd).map D.str)]) (drh.mono (yN.app _ _)) (dr.mono (yN.app _ _)) hn
 refine zIQ (g := [O.lst ((zS nd).map D.str), .lst ((zS nd).map D.str)]) ?_ rfl
 show ((ZD [some (.ref h), some (.ref n)] s).out) = _
 simp only [ZD, jE, zHM, QL, zA, zH, zB, zD, List.getElem?_cons_succ, List.getElem?_cons_zero, R.bind_ok, l1, l2, cEq, q3, asB, if_true, q2, R.stm_ok, RS.out_rt]
def qW : SM :=
  (zR 3 (eM .dict QR (zA 1) (zB (zA 2) (zB (ji zD) zD))))
def jT : SM :=
  (sIf (zl jr (zA 2) (zA 0))
  (qq 5 (jE (QL cGt (zH qK (zB (jn 1 (iE (zA 3)) (zK 6) (zl jr (zA 6) (zA 0)) (zA 6)) zD)) (eC (.int 0)))))
  jB)
def jZ : SM :=
  (sIf (zl cEq (eOp zY (zA 0) (zA 2)) (eC (.int 0)))
  (jE (QL cEq (zA 3) (ji zD)))
  jB)
def qd : SM :=
  (zR 4 (eC (.bl false)))
def qD : SM :=
  (jc (iE (zA 3)) (zK 5)
  (zJ (sIf (tOr (zl jr (zA 5) (zA 0)) (zl cGe (eOp zY (zA 0) (zA 5)) (eOp zY (zA 0) (zA 2))))
  (jE (eC (.bl false)))
  jB)
  (zR 4 (eOr (zA 4) (QL cEq (eOp zY (zA 0) (zA 5)) (eOp Z4 (eOp zY (zA 0) (zA 2)) (eC (.int 1))))))))
def ym : SM :=
  (jE (zA 4))
def Ja : SM := (zJ qW (zJ jT (zJ jZ (zJ qd (zJ qD ym)))))
def zA2 : F := fn 6 Ja
def qO : F := chS zA2
theorem zED : jS 3 zA2 qO := zIk _
theorem zD1 {s : M.S} {n : Nat} {kvs : List (D × D)} {nd : List (T × List T)} (hs : s[n]? = some (.dct kvs)) (dr : DR s kvs nd) (x : T) : ∃ r, (jJ (.str x) kvs).getD (.ref s.length) = .ref r /\ (s ++ [O.lst []])[r]? = some (.lst ((nOf nd x).map .str)) := by
 rcases dr.get x with ⟨h1, h2⟩ | ⟨row, r, h1, h2, h3⟩
 ·refine ⟨s.length, by rw [h2]; rfl, ?_⟩
  unfold nOf
  rw [h1]
  exact zm
 ·refine ⟨r, by rw [h2]; rfl, ?_⟩
  unfold nOf
  rw [h1]
  exact zd h3 _
abbrev zId : SM := (zJ (sIf (tOr (zl jr (zA 5) (zA 0)) (zl cGe (eOp zY (zA 0) (zA 5)) (eOp zY (zA 0) (zA 2))))
  (jE (eC (.bl false)))
  jB)
  (zR 4 (eOr (zA 4) (QL cEq (eOp zY (zA 0) (zA 5)) (eOp Z4 (eOp zY (zA 0) (zA 2)) (eC (.int 1)))))))
theorem zGD {s : M.S} {a : Nat} {K : List T} {rk : T -> Option Nat} (ha : s[a]? = some (.dct (fD K fun x => rkD (rk x)))) (hK : ∀ x k, rk x = some k -> x ∈ K) {x : T} {k : Nat} (hx : rk x = some (k + 1)) {G : Gd} (hG : zQ G s = true) {v1 v3 : Option D} : ∀ (ys : List T) (b : Bool) (v5 : Option D), (∀ y ∈ ys, ∃ j, j < k + 1 /\ rk y = some j) ->
  ∃ v5', jm G (jU (zK 5) zId) (ys.map .str) [some (.ref a), v1, some (.str x), v3, some (.bl b), v5] s = .nx [some (.ref a), v1, some (.str x), v3, some (.bl (b || ys.any fun y => decide (rk y = some k))), v5'] s
 | [], b, v5, _ => ⟨v5, by simp [jm]⟩
 | y :: ys, b, v5, h => by
  obtain ⟨j, hj, ey⟩ := h y List.mem_cons_self
  have d1 : jJ (.str y) (fD K fun x => rkD (rk x)) = some (.int j) := by rw [Q3 (hK y j ey), ey]; rfl
  have d2 : jJ (.str x) (fD K fun x => rkD (rk x)) = some (.int ((k + 1 : Nat) : Int)) := by rw [Q3 (hK x _ hx), hx]; rfl
  have e : jU (zK 5) zId (.str y) [some (.ref a), v1, some (.str x), v3, some (.bl b), v5] s = .nx [some (.ref a), v1, some (.str x), v3, some (.bl (b || decide (rk y = some k))), some (.str y)] s := by
   have c1 : ¬ ((k + 1 : Nat) : Int) <= (j : Int) := by omega
   have c2 : decide ((j : Int) = ((k + 1 : Nat) : Int) - 1) = decide (rk y = some k) := by
    rw [ey]
    by_cases q : j = k
    ·subst q; simp
    ·rw [decide_eq_false (by omega), decide_eq_false (by simp [q])]
   have i1 : (sIf (tOr (zl jr (zA 5) (zA 0)) (zl cGe (eOp zY (zA 0) (zA 5)) (eOp zY (zA 0) (zA 2)))) (jE (eC (.bl false))) jB) [some (.ref a), v1, some (.str x), v3, some (.bl b), some (.str y)] s = .nx [some (.ref a), v1, some (.str x), v3, some (.bl b), some (.str y)] s := by
    simp only [sIf, tOr, zl, jr, zA, List.getElem?_cons_succ, List.getElem?_cons_zero, R.bind_ok, inD, ha, zt, if_true, d1, Option.isSome_some, Bool.not_true, Bool.false_eq_true, if_false, eOp, zY, d2, cGe, c1, decide_false, R.stm_ok, jB]
   show ((sIf _ _ _) [some (.ref a), v1, some (.str x), v3, some (.bl b), some (.str y)] s).then _ = _
   rw [i1, RS.then_nx]
   cases b with
   | true => simp
   | false =>
    simp only [zR, eOr, zA, List.getElem?_cons_succ, List.getElem?_cons_zero, R.bind_ok, asB, Bool.false_eq_true, if_false, QL, eOp, zY, ha, zt, if_true, d1, d2, eC, Z4, cEq, eqD, c2, R.stm_ok, List.set_cons_succ, List.set_cons_zero, Bool.false_or]
  obtain ⟨v5', e'⟩ := zGD ha hK hx hG ys (b || decide (rk y = some k)) (some (.str y)) fun w hw => h w (List.mem_cons_of_mem _ hw)
  refine ⟨v5', ?_⟩
  rw [List.map_cons, jm, e]
  dsimp only
  rw [if_pos hG, e', List.any_cons, Bool.or_assoc]
theorem zJl {s : M.S} {a n : Nat} {K V : List T} {rk : T -> Option Nat} {kvs : List (D × D)} {nd : List (T × List T)} (ha : s[a]? = some (.dct (fD K fun x => rkD (rk x)))) (hn : s[n]? = some (.dct kvs)) (dr : DR s kvs nd) (hR : RK nd V rk) (hK : ∀ x, x ∈ K ↔ ∃ k, rk x = some k) {x : T} (hx : x ∈ V) (hl : (nOf nd x).length <= 1000) :
  qO [.ref a, .ref n, .str x] s = .ok (.bl true) s := by
 obtain ⟨r, er, gr⟩ := zD1 hn dr x
 have ha1 : ∀ g, (s ++ g)[a]? = some (.dct (fD K fun x => rkD (rk x))) := fun g => zd ha g
 have s1 : qW [some (.ref a), some (.ref n), some (.str x), none, none, none] s = .nx [some (.ref a), some (.ref n), some (.str x), some (.ref r), none, none] (s ++ [.lst []]) := by
  simp only [qW, zR, eM, zA, List.getElem?_cons_succ, List.getElem?_cons_zero, R.bind_ok, ZU, hn, if_true, zB, zD, ji, List.length_nil, Nat.zero_le, alloc, QR, zd hn [O.lst []], zt, er, R.stm_ok, List.set_cons_succ, List.set_cons_zero]
 have goal : ∀ g, (zJ jT (zJ jZ (zJ qd (zJ qD ym))) [some (.ref a), some (.ref n), some (.str x), some (.ref r), none, none] (s ++ [.lst []])).out = .ok (.bl true) (s ++ g) -> qO [.ref a, .ref n, .str x] s = .ok (.bl true) s := fun g e => by
  refine zIQ (g := g) ?_ rfl
  show (zJ qW (zJ jT (zJ jZ (zJ qd (zJ qD ym)))) [some (.ref a), some (.ref n), some (.str x), none, none, none] s).out = _
  show ((qW _ _).then _).out = _
  rw [s1, RS.then_nx]
  exact e
 cases q : rk x with
 | none =>
  have hxK : x ∉ K := fun z => by obtain ⟨k, e⟩ := (hK x).mp z; rw [q] at e; cases e
  have d0 := zCU (f := fun x => rkD (rk x)) hxK
  have hG : zQ [(r, O.lst ((nOf nd x).map .str))] (s ++ [.lst []]) = true := by simp only [zQ, List.all_cons, List.all_nil, gr, decide_true, Bool.and_self]
  have ec : jy 1 (iE (zA 3)) (zK 6) (zl jr (zA 6) (zA 0)) (zA 6) [some (.ref a), some (.ref n), some (.str x), some (.ref r), none, none] (s ++ [.lst []]) = .ok (((nOf nd x).filter fun y => !(jJ (.str y) (fD K fun x => rkD (rk x))).isSome).map .str) (s ++ [.lst []]) := by
   refine zAZ (n := 1) (g := [(r, .lst ((nOf nd x).map .str))]) _ (by
    simp only [iE, zA, List.getElem?_cons_succ, List.getElem?_cons_zero, R.bind_ok, itD, gr]) (by unfold SZ; omega) hG fun y hy => ?_
   simp only [j5, zK, List.cons_append, List.nil_append, List.replicate, List.set_cons_succ, List.set_cons_zero, zl, zA, List.getElem?_cons_succ, List.getElem?_cons_zero, R.bind_ok, jr, inD, ha1, zt, if_true]
   split <;> rfl
  obtain ⟨y, hy, ey⟩ := hR.no x hx q
  have hyK : y ∉ K := fun z => by obtain ⟨k, e⟩ := (hK y).mp z; rw [ey] at e; cases e
  have hpos : 0 < ((nOf nd x).filter fun y => !(jJ (.str y) (fD K fun x => rkD (rk x))).isSome).length := by
   refine List.length_pos_of_mem (a := y) (List.mem_filter.mpr ⟨hy, ?_⟩)
   rw [zCU hyK]; rfl
  generalize ((nOf nd x).filter fun y => !(jJ (.str y) (fD K fun x => rkD (rk x))).isSome) = zs at *
  refine goal ([.lst []] ++ [.lst (zs.map .str)]) ?_
  have g1 : ((s ++ [O.lst []]) ++ [O.lst (zs.map .str)])[(s ++ [O.lst []]).length]? = some (.lst (zs.map .str)) := zm
  have c1 : (0 : Int) < ((zs.map D.str).length : Nat) := by rw [List.length_map]; omega
  have e2 : jT [some (.ref a), some (.ref n), some (.str x), some (.ref r), none, none] (s ++ [.lst []]) = .rt (.bl true) ((s ++ [.lst []]) ++ [.lst (zs.map .str)]) := by
   simp only [jT, sIf, zl, jr, zA, List.getElem?_cons_succ, List.getElem?_cons_zero, R.bind_ok, inD, ha1, zt, if_true, d0, Option.isSome_none, Bool.not_false, R.stm_ok, qq, List.set_cons_succ, List.set_cons_zero, jE, QL, zH, zB, zD, jn, ec, alloc, qK, g1, eC, cGt, c1, decide_true, JI]
  show ((jT _ _).then _).out = _
  rw [e2, List.append_assoc]
  rfl
 | some k =>
  have hxK : x ∈ K := (hK x).mpr ⟨k, q⟩
  have d1 : jJ (.str x) (fD K fun x => rkD (rk x)) = some (.int k) := by rw [Q3 hxK, q]; rfl
  have e2 : jT [some (.ref a), some (.ref n), some (.str x), some (.ref r), none, none] (s ++ [.lst []]) = .nx [some (.ref a), some (.ref n), some (.str x), some (.ref r), none, none] (s ++ [.lst []]) := by
   simp only [jT, sIf, zl, jr, zA, List.getElem?_cons_succ, List.getElem?_cons_zero, R.bind_ok, inD, ha1, zt, if_true, d1, Option.isSome_some, Bool.not_true, R.stm_ok, Bool.false_eq_true, if_false, jB]
  cases k with
  | zero =>
   have h0 := hR.zero x q
   rw [h0] at gr
   have eq1 : eqD (.ref r) (.ref (s ++ [O.lst []]).length) ((s ++ [O.lst []]) ++ [O.lst []]) = .ok true ((s ++ [O.lst []]) ++ [O.lst []]) := by
    refine (J5 (ts := []) (us := []) (zd gr _) zm).trans ?_
    simp
   have e3 : jZ [some (.ref a), some (.ref n), some (.str x), some (.ref r), none, none] (s ++ [.lst []]) = .rt (.bl true) ((s ++ [.lst []]) ++ [.lst []]) := by
    have i0 : ∀ s, cEq (.int ((0 : Nat) : Int)) (.int 0) s = .ok true s := fun s => rfl
    have i1 : cEq (.ref r) (.ref (s ++ [O.lst []]).length) ((s ++ [O.lst []]) ++ [O.lst []]) = .ok true ((s ++ [O.lst []]) ++ [O.lst []]) := eq1
    simp only [jZ, sIf, zl, eOp, zA, eC, List.getElem?_cons_succ, List.getElem?_cons_zero, R.bind_ok, zY, ha1, zt, if_true, d1, i0, R.stm_ok, jE, QL, ji, zD, List.length_nil, Nat.zero_le, alloc, i1]
   refine goal ([.lst []] ++ [.lst []]) ?_
   show ((jT _ _).then _).out = _
   rw [e2, RS.then_nx]
   show ((jZ _ _).then _).out = _
   rw [e3, List.append_assoc]
   rfl
  | succ k =>
   have hG : zQ [(r, O.lst ((nOf nd x).map .str))] (s ++ [.lst []]) = true := by simp only [zQ, List.all_cons, List.all_nil, gr, decide_true, Bool.and_self]
   obtain ⟨v5', e5⟩ := zGD (ha1 [.lst []]) (fun y j e => (hK y).mpr ⟨j, e⟩) q hG (v1 := some (.ref n)) (v3 := some (.ref r)) (nOf nd x) false none (hR.low x _ q)
   have hany : ((nOf nd x).any fun y => decide (rk y = some k)) = true := by
    obtain ⟨y, h1, h2⟩ := hR.near x k q
    exact List.any_eq_true.mpr ⟨y, h1, decide_eq_true h2⟩
   rw [hany] at e5
   have c0 : ¬ (((k + 1 : Nat) : Int) = 0) := by omega
   have e3 : jZ [some (.ref a), some (.ref n), some (.str x), some (.ref r), none, none] (s ++ [.lst []]) = .nx [some (.ref a), some (.ref n), some (.str x), some (.ref r), none, none] (s ++ [.lst []]) := by
    simp only [jZ, sIf, zl, eOp, zA, eC, List.getElem?_cons_succ, List.getElem?_cons_zero, R.bind_ok, zY, ha1, zt, if_true, d1, cEq, eqD, c0, decide_false, R.stm_ok, Bool.false_eq_true, if_false, jB]
   have e4 : ∀ s, qd [some (.ref a), some (.ref n), some (.str x), some (.ref r), none, none] s = .nx [some (.ref a), some (.ref n), some (.str x), some (.ref r), some (.bl false), none] s := fun s => rfl
   have e5' : qD [some (.ref a), some (.ref n), some (.str x), some (.ref r), some (.bl false), none] (s ++ [.lst []]) = .nx [some (.ref a), some (.ref n), some (.str x), some (.ref r), some (.bl true), v5'] (s ++ [.lst []]) := by
    simp only [qD, jc, iE, zA, List.getElem?_cons_succ, List.getElem?_cons_zero, R.bind_ok, itD, gr, R.stm_ok, hG, if_true]
    exact e5
   refine goal [.lst []] ?_
   show ((jT _ _).then _).out = _
   rw [e2, RS.then_nx]
   show ((jZ _ _).then _).out = _
   rw [e3, RS.then_nx]
   show ((qd _ _).then _).out = _
   rw [e4, RS.then_nx]
   show ((qD _ _).then _).out = _
   rw [e5', RS.then_nx]
   rfl
def Qf : SM :=
  (zR 1 (zH qL (zB (zA 0) (zB (eC (.int 0)) zD))))
def Qb : SM :=
  (zR 2 (zH QV (zB (zA 0) (zB (eC (.int 5)) (zB (zA 1) zD)))))
def Qt : SM :=
  (zR 3 (zH qS (zB (zA 2) zD)))
def Ql : SM :=
  (zR 4 (zH q9 (zB (zA 2) zD)))
def Qe : SM :=
  (jc (jo (eC (.int 2))) (zK 5)
  (zJ (zR 6 (zH yu (zB (zA 3) zD)))
  (zJ (sIf (tOr (y6 (yg (zH Qc (zB (zA 6) (zB (eC (.ty .list)) zD))))) (y6 (yg (zH yR (zB (zA 3) (zB (zA 2) zD))))))
  (jE (eC (.bl false)))
  jB)
  (zJ (zR 7 (zH jz (zB (zA 6) zD)))
  (zJ (qq 8 (JB 7 (sIf (tOr (zBe (zA 7)) (yg (jn 1 (yA (zA 7)) (zK 12) (zl jr (zA 12) (zA 4)) (zA 12))))
  (jE (eC (.bl false)))
  jB)))
  (zJ (jc (iE (zA 4)) (zK 8)
  (sIf (y6 (yg (zH qO (zB (zA 7) (zB (zA 2) (zB (zA 8) zD))))))
  (jE (eC (.bl false)))
  jB))
  (zJ (qq 11 (zR 9 (jn 1 (iE (zA 6)) (zK 12) j9 (zH ZJ (zB (zA 12) zD)))))
  (zJ (zR 10 (zH yu (zB (JG (zB (eOp zY (zA 1) (eC (.int 0))) (zB (ji (zB (eOp jM (eOp zY (zA 1) (eC (.int 0))) (eC (.str [122]))) zD)) zD))) zD)))
  (zJ (sIf (tOr (zl cNe (zA 6) (zA 9)) (zl cNe (zH qK (zB (zA 10) zD)) (eC (.int 2))))
  (jE (eC (.bl false)))
  jB)
  (zJ (jc (iE (zA 6)) (zK 11)
  (qG (eM .list jt (zA 11) (zB (eC (.str [97])) zD))))
  (zJ (qG (eM .list jt (zA 6) (zB (ji zD) zD)))
  (zJ (jf (zA 3) (eOp zY (zA 1) (eC (.int 0))) (eOp jM (eM .dict QR (zA 3) (zB (eOp zY (zA 1) (eC (.int 0))) (zB (ji zD) zD))) (eSl (zA 1) (Qv (eUn zEN (eC (.int 1)))) J7)))
  (zJ (zR 2 (zH qS (zB (zA 3) zD)))
  (zR 4 (zH q9 (zB (zA 2) zD))))))))))))))))
def zBP : SM :=
  (jE (eC (.bl true)))
def zHE : SM := (zJ Qf (zJ Qb (zJ Qt (zJ Ql (zJ Qe zBP)))))
def zCh : F := fn 12 zHE
theorem zn.get {s s' : M.S} (h : zn s s') {q : Nat} {o : O} (e : s[q]? = some o) : s'[q]? = some o := by
 rw [h.eq q (List.getElem?_eq_some_iff.mp e).1]; exact e
theorem zn.keep {s s' : M.S} (h : zn s s') : yN s s' := fun _ _ e => h.get e
theorem zn.trans {a b c : M.S} (h : zn a b) (k : zn b c) : zn a c := ⟨Nat.le_trans h.le k.le, fun q hq => by rw [k.eq q (Nat.lt_of_lt_of_le hq h.le), h.eq q hq]⟩
theorem zn.refl (s : M.S) : zn s s := ⟨Nat.le_refl _, fun _ _ => rfl⟩
theorem zn.set {s s' : M.S} (h : zn s s') {q : Nat} (hq : s.length <= q) (o : O) : zn s (s'.set q o) := ⟨by rw [List.length_set]; exact h.le, fun r hr => by rw [zx (by omega)]; exact h.eq r hr⟩
theorem zGV {b : Nat} {N : List T} {nd : List (T × List T)} (hn : (zS nd).Nodup) (h : OkB b N nd) (x : T) : (nOf nd x).length <= b /\ ∀ t ∈ nOf nd x, t ∈ N := by
 refine ⟨?_, fun t ht => ?_⟩
 ·cases q : nOf nd x with
  | nil => simp
  | cons y ys =>
   have hy : y ∈ nOf nd x := by rw [q]; simp
   obtain ⟨p, h1, h2, h3⟩ := (zDK hn).mp hy
   have e : nOf nd x = p.2 := by unfold nOf; rw [<- h2, Zx hn h1]; rfl
   rw [<- q, e]
   exact (h p h1).2.1
 ·obtain ⟨p, h1, h2, h3⟩ := (zDK hn).mp ht
  exact (h p h1).2.2 t h3
structure TS (N : List T) (n h e : Nat) (nd : List (T × List T)) (s : M.S) : Prop where
 n0 : s[0]? = some (.lst (N.map .str))
 dn : ∃ kvs, s[n]? = some (.dct kvs) /\ DR s kvs nd
 dh : ∃ hk, s[h]? = some (.dct hk) /\ DR s hk nd
 ev : ∃ E : List T, s[e]? = some (.lst (E.map .str)) /\ ∀ x, x ∈ E ↔ inV nd x
theorem TS.mono {N : List T} {n h e : Nat} {nd : List (T × List T)} {s s' : M.S} (t : TS N n h e nd s) (p : zn s s') : TS N n h e nd s' :=
 ⟨p.get t.n0, let ⟨k, a, b⟩ := t.dn; ⟨k, p.get a, b.mono p.keep⟩, let ⟨k, a, b⟩ := t.dh; ⟨k, p.get a, b.mono p.keep⟩, let ⟨E, a, b⟩ := t.ev; ⟨E, p.get a, b⟩⟩
abbrev lb2 : SM := (sIf (tOr (y6 (yg (zH Qc (zB (zA 6) (zB (eC (.ty .list)) zD))))) (y6 (yg (zH yR (zB (zA 3) (zB (zA 2) zD))))))
  (jE (eC (.bl false)))
  jB)
abbrev lb4 : SM := (qq 8 (JB 7 (sIf (tOr (zBe (zA 7)) (yg (jn 1 (yA (zA 7)) (zK 12) (zl jr (zA 12) (zA 4)) (zA 12))))
  (jE (eC (.bl false)))
  jB)))
abbrev lb5 : SM := (jc (iE (zA 4)) (zK 8)
  (sIf (y6 (yg (zH qO (zB (zA 7) (zB (zA 2) (zB (zA 8) zD))))))
  (jE (eC (.bl false)))
  jB))
theorem zNw {N : List T} {n h e : Nat} {nd : List (T × List T)} {s : M.S} (t : TS N n h e nd s) (hn : (zS nd).Nodup) (ok : OkN N nd) (hN : N.length <= 62) {v0 v1 v5 v6 v7 v8 v9 v10 v11 : Option D} :
  ∃ (refs : List Nat) (ak : Nat) (v8' : Option D) (s' : M.S), (∀ r, zJ (zR 6 (zH yu (zB (zA 3) zD))) (zJ lb2 (zJ (zR 7 (zH jz (zB (zA 6) zD))) (zJ lb4 (zJ lb5 r)))) [v0, v1, some (.ref n), some (.ref h), some (.ref e), v5, v6, v7, v8, v9, v10, v11] s = r [v0, v1, some (.ref n), some (.ref h), some (.ref e), v5, some (.ref (s.length + 1)), some (.ref ak), v8', v9, v10, v11] s') /\ zn s s' /\
   s'[s.length + 1]? = some (.lst (refs.map .ref)) /\ (∀ (i r : Nat), refs[i]? = some r -> s.length + 1 < r /\ ∃ ts : List T, ts.length <= 62 /\ s'[r]? = some (.lst (ts.map .str))) /\ refs.length <= 1000 := by
 obtain ⟨kvs, gn, drn⟩ := t.dn
 obtain ⟨hk, gh, drh⟩ := t.dh
 obtain ⟨E, ge, hE⟩ := t.ev
 obtain ⟨V, rk, refs, g, vs, vn, vm, vl, hR, e1, gf, _, hw, top, ne, hl⟩ := zFC gh drh hn ok hN
 obtain ⟨s1, hs1⟩ : ∃ s1, s1 = s ++ g := ⟨_, rfl⟩
 rw [<- hs1] at e1 gf
 have hw1 : ∀ (i r : Nat), refs[i]? = some r -> s1[r]? = some (.lst ((wv rk V i).map .str)) := fun i r hi => by rw [hs1]; exact (hw i r hi).2
 have p1 : zn s s1 := by rw [hs1]; exact zn.of _ _
 obtain ⟨K, kn, km, e3⟩ := zHO gf hw1 ne vs vn (by omega)
 have hK : ∀ x, x ∈ K ↔ ∃ k, rk x = some k := fun x => by
  rw [km x]
  constructor
  ·rintro ⟨_, k, _, h⟩; exact ⟨k, h⟩
  ·rintro ⟨k, h⟩; exact ⟨hR.inn x k h, k, top x k h, h⟩
 have est := zH2 (p1.get gh) (p1.get gn) (drh.mono p1.keep) (drn.mono p1.keep) hn
 obtain ⟨s2, hs2⟩ : ∃ s2, s2 = s1 ++ [O.dct (fD K fun x => rkD (rk x))] := ⟨_, rfl⟩
 have p2 : zn s1 s2 := by rw [hs2]; exact zn.of _ _
 have gk : s2[s1.length]? = some (.dct (fD K fun x => rkD (rk x))) := by rw [hs2]; exact zm
 obtain ⟨s2f, hs2f⟩ : ∃ s2f, s2f = s2.set s1.length (.fdc (fD K fun x => rkD (rk x))) := ⟨_, rfl⟩
 have ls1 : s.length <= s1.length := p1.le
 have el : e < s.length := (List.getElem?_eq_some_iff.mp ge).1
 have hl2 := (List.getElem?_eq_some_iff.mp gk).1
 have gkf : s2f[s1.length]? = some (.fdc (fD K fun x => rkD (rk x))) := by rw [hs2f]; exact yX gk
 have gef : s2f[e]? = some (.lst (E.map .str)) := by rw [hs2f, zx (by omega)]; exact p2.get (p1.get ge)
 have hKV : ∀ x ∈ K, x ∈ V := fun x hx => ((km x).mp hx).1
 have hKE : ∀ x ∈ K, x ∈ E := fun x hx => (hE x).mpr ((vm x).mp (hKV x hx))
 have lK := qY kn hKV
 have ec : jy 1 (yA (zA 7)) (zK 12) (zl jr (zA 12) (zA 4)) (zA 12) [v0, v1, some (.ref n), some (.ref h), some (.ref e), v5, some (.ref (s.length + 1)), some (.ref s1.length), none, v9, v10, v11] s2f = .ok [] s2f := by
  have := zAZ (n := 1) (it := yA (zA 7)) (tg := zK 12) (c := zl jr (zA 12) (zA 4)) (e := zA 12) (σ := [v0, v1, some (.ref n), some (.ref h), some (.ref e), v5, some (.ref (s.length + 1)), some (.ref s1.length), none, v9, v10, v11]) (s := s2f) (s1 := s2f) (ts := K) (g := []) (fun x => !(E.contains x)) (by
   simp only [yA, zA, List.getElem?_cons_succ, List.getElem?_cons_zero, R.bind_ok, gkf, zBY]) (by unfold SZ; omega) rfl fun x hx => by
    have fl : (flat (.str x) && (E.map D.str).all flat) = true := by rw [zDo]; rfl
    simp only [j5, zK, List.cons_append, List.nil_append, List.replicate, List.set_cons_succ, List.set_cons_zero, zl, zA, List.getElem?_cons_succ, List.getElem?_cons_zero, R.bind_ok, jr, inD, gef, fl, if_true, zBy]
    split <;> rfl
  rw [this]
  have e0 : (K.filter fun x => !(E.contains x)) = [] := by
   rw [List.filter_eq_nil_iff]
   intro x hx
   simp [hKE x hx]
  rw [e0]
  rfl
 obtain ⟨s3, hs3⟩ : ∃ s3, s3 = s2 ++ [O.lst []] := ⟨_, rfl⟩
 have p3 : zn s2 s3 := by rw [hs3]; exact zn.of _ _
 have b4 : lb4 [v0, v1, some (.ref n), some (.ref h), some (.ref e), v5, some (.ref (s.length + 1)), some (.ref s1.length), v8, v9, v10, v11] s2 = .nx [v0, v1, some (.ref n), some (.ref h), some (.ref e), v5, some (.ref (s.length + 1)), some (.ref s1.length), none, v9, v10, v11] s3 := by
  have ht := ZZ (g := [O.lst []]) gk [v0, v1, some (.ref n), some (.ref h), some (.ref e), v5, some (.ref (s.length + 1)), some (.ref s1.length), none, v9, v10, v11]
  rw [<- hs2f] at ht
  have gl : (s2f ++ [O.lst []])[s2f.length]? = some (.lst []) := zm
  simp only [lb4, qq, JB, List.set_cons_succ, List.set_cons_zero, List.getElem?_cons_succ, List.getElem?_cons_zero, gk, <- hs2f, sIf, tOr, zBe, zA, R.bind_ok, zEO, Bool.false_eq_true, if_false, yg, jn, ec, alloc, Zm, gl, List.isEmpty_nil, Bool.not_true, R.stm_ok, jB, ht, JI, hs3]
 have gk3 : s3[s1.length]? = some (.dct (fD K fun x => rkD (rk x))) := p3.get gk
 have p13 : zn s s3 := p1.trans (p2.trans p3)
 have ge3 := p13.get ge
 have hG : zQ [(e, O.lst (E.map .str))] s3 = true := by simp only [zQ, List.all_cons, List.all_nil, ge3, decide_true, Bool.and_self]
 have right : ∀ x ∈ E, qO [.ref s1.length, .ref n, .str x] s3 = .ok (.bl true) s3 := fun x hx => by
  refine zJl gk3 (p13.get gn) (drn.mono p13.keep) hR hK ((vm x).mpr ((hE x).mp hx)) ?_
  have := (zGV hn ok x).1
  omega
 obtain ⟨σ5, e5, v8', eσ5⟩ := zFO (g := [(e, O.lst (E.map .str))]) (f := jU (zK 8) (sIf (y6 (yg (zH qO (zB (zA 7) (zB (zA 2) (zB (zA 8) zD)))))) (jE (eC (.bl false))) jB)) (s := s3) hG
  (fun σ => ∃ v8, σ = [v0, v1, some (.ref n), some (.ref h), some (.ref e), v5, some (.ref (s.length + 1)), some (.ref s1.length), v8, v9, v10, v11]) (E.map .str) [v0, v1, some (.ref n), some (.ref h), some (.ref e), v5, some (.ref (s.length + 1)), some (.ref s1.length), none, v9, v10, v11] ⟨none, rfl⟩ fun d hd σ ⟨v8, eσ⟩ => by
   obtain ⟨x, hx, rfl⟩ := List.mem_map.mp hd
   subst eσ
   refine ⟨[v0, v1, some (.ref n), some (.ref h), some (.ref e), v5, some (.ref (s.length + 1)), some (.ref s1.length), some (.str x), v9, v10, v11], ?_, _, rfl⟩
   simp only [jU, zK, List.set_cons_succ, List.set_cons_zero, sIf, y6, yg, zH, zB, zD, zA, List.getElem?_cons_succ, List.getElem?_cons_zero, R.bind_ok, right x hx, Zm, Bool.not_true, R.stm_ok, Bool.false_eq_true, if_false, jB]
 subst eσ5
 refine ⟨refs, s1.length, v8', s3, fun r => ?_, p13, p3.get (p2.get gf), fun i r hi => ⟨(hw i r hi).1, wv rk V i, ?_, p3.get (p2.get (hw1 i r hi))⟩, hl⟩
 ·have b1 : (zR 6 (zH yu (zB (zA 3) zD))) [v0, v1, some (.ref n), some (.ref h), some (.ref e), v5, v6, v7, v8, v9, v10, v11] s = .nx [v0, v1, some (.ref n), some (.ref h), some (.ref e), v5, some (.ref (s.length + 1)), v7, v8, v9, v10, v11] s1 := by
   simp only [zR, zH, zB, zD, zA, List.getElem?_cons_succ, List.getElem?_cons_zero, R.bind_ok, e1, R.stm_ok, List.set_cons_succ, List.set_cons_zero]
  have b2 : lb2 [v0, v1, some (.ref n), some (.ref h), some (.ref e), v5, some (.ref (s.length + 1)), v7, v8, v9, v10, v11] s1 = .nx [v0, v1, some (.ref n), some (.ref h), some (.ref e), v5, some (.ref (s.length + 1)), v7, v8, v9, v10, v11] s1 := by
   simp only [lb2, sIf, tOr, y6, yg, zH, zB, zD, zA, eC, List.getElem?_cons_succ, List.getElem?_cons_zero, R.bind_ok, Qc, Zv, gf, Zm, Bool.not_true, Bool.false_eq_true, if_false, est, R.stm_ok, jB]
  have b3 : (zR 7 (zH jz (zB (zA 6) zD))) [v0, v1, some (.ref n), some (.ref h), some (.ref e), v5, some (.ref (s.length + 1)), v7, v8, v9, v10, v11] s1 = .nx [v0, v1, some (.ref n), some (.ref h), some (.ref e), v5, some (.ref (s.length + 1)), some (.ref s1.length), v8, v9, v10, v11] s2 := by
   simp only [zR, zH, zB, zD, zA, List.getElem?_cons_succ, List.getElem?_cons_zero, R.bind_ok, e3, alloc, R.stm_ok, List.set_cons_succ, List.set_cons_zero, hs2]
  have b5 : lb5 [v0, v1, some (.ref n), some (.ref h), some (.ref e), v5, some (.ref (s.length + 1)), some (.ref s1.length), none, v9, v10, v11] s3 = .nx [v0, v1, some (.ref n), some (.ref h), some (.ref e), v5, some (.ref (s.length + 1)), some (.ref s1.length), v8', v9, v10, v11] s3 := by
   simp only [lb5, jc, iE, zA, List.getElem?_cons_succ, List.getElem?_cons_zero, R.bind_ok, itD, ge3, R.stm_ok, hG, if_true]
   exact e5
  show ((zR 6 _) _ _).then _ = _
  rw [b1, RS.then_nx]
  show (lb2 _ _).then _ = _
  rw [b2, RS.then_nx]
  show ((zR 7 _) _ _).then _ = _
  rw [b3, RS.then_nx]
  show (lb4 _ _).then _ = _
  rw [b4, RS.then_nx]
  show (lb5 _ _).then _ = _
  rw [b5, RS.then_nx]
 ·have : (wv rk V i).length <= V.length := List.length_filter_le _ _
  omega
mutual
theorem zJD : ∀ p : P, P.eqv p p = true
 | .non => rfl
 | .bl b => by simp [P.eqv]
 | .int b => by simp [P.eqv]
 | .str b => by simp [P.eqv]
 | .tup ps => by simp only [P.eqv]; exact Jr ps
 | .lst ps => by simp only [P.eqv]; exact Jr ps
theorem Jr : ∀ ps : List P, P.eqvs ps ps = true
 | [] => rfl
 | p :: ps => by simp only [P.eqvs, zJD p, Jr ps, Bool.and_self]
end
abbrev RL (s : M.S) (rs : List (Nat × List T)) : Prop := ∀ q ∈ rs, s[q.1]? = some (.lst (q.2.map .str))
theorem zKT {s : M.S} : ∀ {refs : List Nat}, (∀ (i r : Nat), refs[i]? = some r -> ∃ ts : List T, ts.length <= 62 /\ s[r]? = some (.lst (ts.map .str))) -> ∃ rs : List (Nat × List T), rs.map (·.1) = refs /\ RL s rs
 | [], _ => ⟨[], rfl, fun q h => by cases h⟩
 | r :: refs, h => by
  obtain ⟨ts, _, e⟩ := h 0 r rfl
  obtain ⟨rs, h1, h2⟩ := zKT (refs := refs) fun i r' hi => h (i + 1) r' hi
  refine ⟨(r, ts) :: rs, by rw [List.map_cons, h1], fun q hq => ?_⟩
  rcases List.mem_cons.mp hq with rfl | hq
  ·exact e
  ·exact h2 q hq
theorem zIW {s : M.S} : ∀ {rs : List (Nat × List T)}, RL s rs -> qJ.all (fun j => toP 8 s (.ref j)) (rs.map fun q => D.ref q.1) = some (rs.map fun q => P.lst (q.2.map P.str))
 | [], _ => rfl
 | q :: rs, h => by
  have h1 : toP 8 s (.ref q.1) = some (P.lst (q.2.map P.str)) := by
   show (match jN s q.1 with | some xs => (qJ.all (fun j => toP 7 s (.ref j)) xs).map P.lst | none => none) = _
   rw [JR (h q List.mem_cons_self)]
   show (qJ.all _ (q.2.map .str)).map P.lst = _
   rw [zCA]; rfl
  show (match toP 8 s (.ref q.1), qJ.all (fun j => toP 8 s (.ref j)) (rs.map fun q => D.ref q.1) with | some p, some ps => some (p :: ps) | _, _ => none) = _
  rw [h1, zIW fun q' hq' => h q' (List.mem_cons_of_mem _ hq')]
  rfl
theorem zDm : ∀ rs : List (List T), P.deps (rs.map fun q => P.lst (q.map P.str)) <= 1
 | [] => by simp [P.deps]
 | q :: rs => by
  have := zDm rs
  simp only [List.map_cons, P.deps, P.dep, Ju]
  omega
theorem zLt {s : M.S} {p q : Nat} {rs rs' : List (Nat × List T)} (hp : s[p]? = some (.lst (rs.map fun x => D.ref x.1))) (hq : s[q]? = some (.lst (rs'.map fun x => D.ref x.1))) (h1 : RL s rs) (h2 : RL s rs') (e : rs.map (·.2) = rs'.map (·.2)) : eqD (.ref p) (.ref q) s = .ok true s := by
 have hh : ∀ (k : Nat) (r : List (Nat × List T)), s[k]? = some (.lst (r.map fun x => D.ref x.1)) -> RL s r -> toP Jk s (.ref k) = some (.lst ((r.map (·.2)).map fun q => P.lst (q.map P.str))) := fun k r e1 e2 => by
  show (match jN s k with | some xs => (qJ.all (fun j => toP 8 s (.ref j)) xs).map P.lst | none => none) = _
  rw [JR e1]
  show (qJ.all _ (r.map fun x => D.ref x.1)).map P.lst = _
  rw [zIW e2, List.map_map]
  rfl
 simp only [eqD, hh p rs hp h1, hh q rs' hq h2, <- e]
 have := zDm (rs.map (·.2))
 rw [if_pos (by simp only [P.dep]; omega)]
 simp only [P.eqv, Jr]
theorem zDy {s : M.S} {G : Gd} {f : D -> M.S -> R (Option D)} (hG : ∀ s', zn s s' -> zQ G s' = true) : ∀ (rs : List (Nat × List T)) (s' : M.S), zn s s' -> (∀ q ∈ rs, ∀ s', zn s s' -> f (.ref q.1) s' = .ok (some (.ref s'.length)) (s' ++ [.lst (q.2.map .str)])) ->
  qg G f (rs.map fun q => D.ref q.1) s' = .ok ((List.range' s'.length rs.length).map .ref) (s' ++ rs.map fun q => O.lst (q.2.map .str))
 | [], s', _, _ => by simp [qg]
 | q :: rs, s', p, h => by
  have p' : zn s (s' ++ [.lst (q.2.map .str)]) := p.trans (zn.of _ _)
  show (f (.ref q.1) s').bind _ = _
  rw [h q List.mem_cons_self s' p, R.bind_ok, if_pos (hG _ p'), zDy hG rs _ p' fun q' hq' => h q' (List.mem_cons_of_mem _ hq'), R.bind_ok, List.length_append]
  simp only [List.length_cons, List.length_nil, Nat.zero_add, List.append_assoc, List.cons_append, List.nil_append, List.map_cons]
  rfl
theorem laid {s g : M.S} : ∀ (rs : List (List T)) (k : Nat), (∀ (i : Nat) (ts : List T), rs[i]? = some ts -> s[k + i]? = some (.lst (ts.map .str))) -> ∃ rs' : List (Nat × List T), rs'.map (·.2) = rs /\ rs'.map (fun q => D.ref q.1) = (List.range' k rs.length).map D.ref /\ RL s rs'
 | [], k, _ => ⟨[], rfl, rfl, fun q h => by cases h⟩
 | ts :: rs, k, h => by
  obtain ⟨rs', h1, h2, h3⟩ := laid (g := g) rs (k + 1) fun i ts' hi => by
   have := h (i + 1) ts' hi
   rwa [show k + (i + 1) = k + 1 + i by omega] at this
  refine ⟨(k, ts) :: rs', by rw [List.map_cons, h1], by rw [List.map_cons, h2, List.length_cons, List.range'_succ, List.map_cons], fun q hq => ?_⟩
  rcases List.mem_cons.mp hq with rfl | hq
  ·exact h 0 ts rfl
  ·exact h3 q hq
theorem zMl {S : M.S} {p : Nat} {kvs : List (D × D)} {a b : T} (hab : a ≠ b) (hp : S[p]? = some (.dct kvs)) (dr : DR S kvs [(a, [b])]) : ∃ (refs : List Nat) (g : M.S), yu [.ref p] S = .ok (.ref (S.length + 1)) (S ++ g) /\ (S ++ g)[S.length + 1]? = some (.lst (refs.map .ref)) /\ refs.length = 2 := by
 obtain ⟨V, rk, refs, g, vs, vn, vm, vl, hR, e1, gf, _, hw, top, ne, hl⟩ := zFC (N := [a, b]) hp dr (by simp [zS]) (fun q hq => by
  rw [List.mem_singleton.mp hq]
  exact ⟨by simp, by simp, fun t ht => by rw [List.mem_singleton.mp ht]; simp⟩) (by simp)
 refine ⟨refs, g, e1, gf, ?_⟩
 have na : nOf [(a, [b])] a = [b] := by simp [nOf]
 have nb : nOf [(a, [b])] b = [] := by
  have : (b == a) = false := by simpa using Ne.symm hab
  simp [nOf, List.lookup_cons, this]
 have bV : b ∈ V := (vm b).mpr (.inr ⟨(a, [b]), by simp, by simp⟩)
 have aV : a ∈ V := (vm a).mpr (.inl (by simp [zS]))
 have rb : rk b = some 0 := by
  cases q : rk b with
  | none => obtain ⟨y, h1, _⟩ := hR.no b bV q; rw [nb] at h1; cases h1
  | some k =>
   cases k with
   | zero => rfl
   | succ k => obtain ⟨y, h1, _⟩ := hR.near b k q; rw [nb] at h1; cases h1
 have ra : rk a = some 1 := by
  cases q : rk a with
  | none =>
   obtain ⟨y, h1, h2⟩ := hR.no a aV q
   rw [na] at h1
   rw [List.mem_singleton.mp h1, rb] at h2; cases h2
  | some k =>
   cases k with
   | zero => have := hR.zero a q; rw [na] at this; cases this
   | succ k =>
    obtain ⟨y, h1, h2⟩ := hR.near a k q
    rw [na] at h1
    rw [List.mem_singleton.mp h1, rb] at h2
    cases h2; rfl
 have h2 := top a 1 ra
 by_cases c : refs.length = 2
 ·exact c
 ·exfalso
  have hne := ne 2 (by omega)
  cases q : wv rk V 2 with
  | nil => exact hne q
  | cons x xs =>
   have hx : x ∈ wv rk V 2 := by rw [q]; simp
   have hxV := (List.mem_filter.mp hx).1
   have hx2 : rk x = some 2 := of_decide_eq_true (List.mem_filter.mp hx).2
   rcases (vm x).mp hxV with h | ⟨p, h1, h3⟩
   ·have : x = a := by simpa [zS] using h
    rw [this, ra] at hx2; cases hx2
   ·rw [List.mem_singleton.mp h1] at h3
    have : x = b := by simpa using h3
    rw [this, rb] at hx2; cases hx2
abbrev lb6 : SM := (qq 11 (zR 9 (jn 1 (iE (zA 6)) (zK 12) j9 (zH ZJ (zB (zA 12) zD)))))
abbrev lb7 : SM := (zR 10 (zH yu (zB (JG (zB (eOp zY (zA 1) (eC (.int 0))) (zB (ji (zB (eOp jM (eOp zY (zA 1) (eC (.int 0))) (eC (.str [122]))) zD)) zD))) zD)))
abbrev lb8 : SM := (sIf (tOr (zl cNe (zA 6) (zA 9)) (zl cNe (zH qK (zB (zA 10) zD)) (eC (.int 2))))
  (jE (eC (.bl false)))
  jB)
theorem zNb {N : List T} {s : M.S} {af : Nat} {refs : List Nat} (h0 : s[0]? = some (.lst (N.map .str))) (hN : 0 < N.length) (hN0 : (N.getD 0 []).length <= 100) (hf : s[af]? = some (.lst (refs.map .ref))) (hw : ∀ (i r : Nat), refs[i]? = some r -> ∃ ts : List T, ts.length <= 62 /\ s[r]? = some (.lst (ts.map .str))) (hl : refs.length <= 1000) {v0 v2 v3 v4 v5 v7 v8 v9 v10 v11 : Option D} :
  ∃ (v9' v10' : Option D) (s' : M.S), (∀ r, zJ lb6 (zJ lb7 (zJ lb8 r)) [v0, some (.ref 0), v2, v3, v4, v5, some (.ref af), v7, v8, v9, v10, v11] s = r [v0, some (.ref 0), v2, v3, v4, v5, some (.ref af), v7, v8, v9', v10', none] s') /\ zn s s' := by
 obtain ⟨rs, er, rl⟩ := zKT hw
 have erf : refs.map D.ref = rs.map fun q => D.ref q.1 := by rw [<- er, List.map_map]; rfl
 have hrl : rs.length = refs.length := by rw [<- er, List.length_map]
 rw [erf] at hf
 have hG : ∀ s', zn s s' -> zQ [(af, O.lst (rs.map fun q => D.ref q.1))] s' = true := fun s' p => by simp only [zQ, List.all_cons, List.all_nil, p.get hf, decide_true, Bool.and_self]
 have ec : jy 1 (iE (zA 6)) (zK 12) j9 (zH ZJ (zB (zA 12) zD)) [v0, some (.ref 0), v2, v3, v4, v5, some (.ref af), v7, v8, v9, v10, none] s = .ok ((List.range' s.length rs.length).map .ref) (s ++ rs.map fun q => O.lst (q.2.map .str)) := by
  unfold jy
  have hi : iE (zA 6) [v0, some (.ref 0), v2, v3, v4, v5, some (.ref af), v7, v8, v9, v10, none] s = .ok (rs.map (fun q => D.ref q.1), [(af, O.lst (rs.map fun q => D.ref q.1))]) s := by
   simp only [iE, zA, List.getElem?_cons_succ, List.getElem?_cons_zero, R.bind_ok, itD, hf]
  rw [hi, R.bind_ok, if_pos ⟨by rw [List.length_map]; unfold SZ; omega, hG s (zn.refl s)⟩]
  refine zDy hG rs s (zn.refl s) fun q hq s' p => ?_
  simp only [j5, zK, j9, List.cons_append, List.nil_append, List.replicate, List.set_cons_succ, List.set_cons_zero, R.bind_ok, if_true, zH, zB, zD, zA, List.getElem?_cons_succ, List.getElem?_cons_zero, ZJ, p.get (rl q hq), alloc]
 obtain ⟨s1, hs1⟩ : ∃ s1, s1 = s ++ rs.map fun q => O.lst (q.2.map .str) := ⟨_, rfl⟩
 rw [<- hs1] at ec
 have p1 : zn s s1 := by rw [hs1]; exact zn.of _ _
 obtain ⟨rs', r1, r2, r3⟩ := laid (s := s1) (g := []) (rs.map (·.2)) s.length fun i ts hi => by
  rw [hs1, List.getElem?_append_right (by omega), show s.length + i - s.length = i by omega, List.getElem?_map]
  rw [List.getElem?_map] at hi
  cases q : rs[i]? with
  | none => rw [q] at hi; cases hi
  | some x => rw [q] at hi; cases hi; rfl
 rw [List.length_map] at r2
 obtain ⟨s2, hs2⟩ : ∃ s2, s2 = s1 ++ [O.lst (rs'.map fun q => D.ref q.1)] := ⟨_, rfl⟩
 have p2 : zn s1 s2 := by rw [hs2]; exact zn.of _ _
 have b6 : lb6 [v0, some (.ref 0), v2, v3, v4, v5, some (.ref af), v7, v8, v9, v10, v11] s = .nx [v0, some (.ref 0), v2, v3, v4, v5, some (.ref af), v7, v8, some (.ref s1.length), v10, none] s2 := by
  simp only [lb6, qq, zR, List.set_cons_succ, List.set_cons_zero, jn, ec, <- r2, R.bind_ok, alloc, R.stm_ok, JI, hs2]
 have g9 : s2[s1.length]? = some (.lst (rs'.map fun q => D.ref q.1)) := by rw [hs2]; exact zm
 have ix0 : atI (N.map D.str) 0 = some (.str (N.getD 0 [])) := JO (by omega) (by omega)
 generalize N.getD 0 [] = a at *
 have p02 : zn s s2 := p1.trans p2
 obtain ⟨s3, hs3⟩ : ∃ s3, s3 = s2 ++ [O.dct [(.str a, .ref (s2.length + 1))], .lst [.str (a ++ [122])]] := ⟨_, rfl⟩
 have p3 : zn s2 s3 := by rw [hs3]; exact zn.of _ _
 have g3 : s3[s2.length]? = some (.dct [(.str a, .ref (s2.length + 1))]) := by rw [hs3]; exact zm
 have g3' : s3[s2.length + 1]? = some (.lst [.str (a ++ [122])]) := by
  rw [hs3, List.getElem?_append_right (by omega), show s2.length + 1 - s2.length = 1 by omega]; rfl
 obtain ⟨refs2, g, e7, f7, l7⟩ := zMl (a := a) (b := a ++ [122]) (fun z => by have := congrArg List.length z; simp at this) g3 ⟨⟨s2.length + 1, rfl, g3'⟩, trivial⟩
 obtain ⟨s4, hs4⟩ : ∃ s4, s4 = s3 ++ g := ⟨_, rfl⟩
 rw [<- hs4] at e7 f7
 have p4 : zn s3 s4 := by rw [hs4]; exact zn.of _ _
 have ed : (JG (zB (eOp zY (zA 1) (eC (.int 0))) (zB (ji (zB (eOp jM (eOp zY (zA 1) (eC (.int 0))) (eC (.str [122]))) zD)) zD))) [v0, some (.ref 0), v2, v3, v4, v5, some (.ref af), v7, v8, some (.ref s1.length), v10, none] s2 = .ok (.ref s2.length) s3 := by
  have q0 : ∀ g, (s2 ++ g)[0]? = some (.lst (N.map .str)) := fun g => zd (p02.get h0) g
  have z1 : a.length + 1 <= SZ := by unfold SZ; omega
  have z2 : 1 <= SZ := by unfold SZ; omega
  have gl : ∀ (o : O) (g : M.S), (s2 ++ o :: g)[s2.length]? = some o := fun o g => zm
  have sl : ∀ (o o' : O) (g : M.S), (s2 ++ o :: g).set s2.length o' = s2 ++ o' :: g := fun o o' g => ZP
  have pu : ∀ d, JQ [.str a, d] [] = some [(.str a, d)] := fun d => rfl
  simp only [JG, zB, zD, eOp, zA, eC, List.getElem?_cons_succ, List.getElem?_cons_zero, R.bind_ok, zY, q0, ix0, ji, jM, z1, if_true, z2, alloc, List.length_append, List.length_cons, List.length_nil, List.append_assoc, List.cons_append, List.nil_append, gl, pu, sl, Nat.zero_add, Nat.reduceAdd, Nat.reduceLeDiff, and_self, hs3]
 have b7 : lb7 [v0, some (.ref 0), v2, v3, v4, v5, some (.ref af), v7, v8, some (.ref s1.length), v10, none] s2 = .nx [v0, some (.ref 0), v2, v3, v4, v5, some (.ref af), v7, v8, some (.ref s1.length), some (.ref (s3.length + 1)), none] s4 := by
  show ((zH yu (zB (JG _) zD)) _ s2).stm _ _ = _
  simp only [zH]
  rw [show ∀ σ s, zB (JG (zB (eOp zY (zA 1) (eC (.int 0))) (zB (ji (zB (eOp jM (eOp zY (zA 1) (eC (.int 0))) (eC (.str [122]))) zD)) zD))) zD σ s = ((JG (zB (eOp zY (zA 1) (eC (.int 0))) (zB (ji (zB (eOp jM (eOp zY (zA 1) (eC (.int 0))) (eC (.str [122]))) zD)) zD))) σ s).bind fun x s => (zD σ s).bind fun xs s => .ok (x :: xs) s from fun _ _ => rfl, ed]
  simp only [R.bind_ok, zD, e7, R.stm_ok, List.set_cons_succ, List.set_cons_zero]
 have p24 : zn s2 s4 := p3.trans p4
 have p04 : zn s s4 := p02.trans p24
 have eq8 : eqD (.ref af) (.ref s1.length) s4 = .ok true s4 := zLt (p04.get hf) (p24.get g9) (fun q hq => p04.get (rl q hq)) (fun q hq => p24.get (p2.get (r3 q hq))) r1.symm
 have b8 : lb8 [v0, some (.ref 0), v2, v3, v4, v5, some (.ref af), v7, v8, some (.ref s1.length), some (.ref (s3.length + 1)), none] s4 = .nx [v0, some (.ref 0), v2, v3, v4, v5, some (.ref af), v7, v8, some (.ref s1.length), some (.ref (s3.length + 1)), none] s4 := by
  have c1 : cNe (.ref af) (.ref s1.length) s4 = .ok false s4 := by
   show (eqD (.ref af) (.ref s1.length) s4).bind _ = _
   rw [eq8]; rfl
  have c2 : cNe (.int ((refs2.map D.ref).length : Nat)) (.int 2) s4 = .ok false s4 := by rw [List.length_map, l7]; rfl
  simp only [lb8, sIf, tOr, zl, zA, List.getElem?_cons_succ, List.getElem?_cons_zero, R.bind_ok, c1, Bool.false_eq_true, if_false, zH, zB, zD, qK, f7, eC, c2, R.stm_ok, jB]
 refine ⟨some (.ref s1.length), some (.ref (s3.length + 1)), s4, fun r => ?_, p04⟩
 show (lb6 _ _).then _ = _
 rw [b6, RS.then_nx]
 show (lb7 _ _).then _ = _
 rw [b7, RS.then_nx]
 show (lb8 _ _).then _ = _
 rw [b8, RS.then_nx]
abbrev lb9 : SM := (jc (iE (zA 6)) (zK 11)
  (qG (eM .list jt (zA 11) (zB (eC (.str [97])) zD))))
abbrev zET : SM := (qG (eM .list jt (zA 6) (zB (ji zD) zD)))
abbrev zEj : SM := (jf (zA 3) (eOp zY (zA 1) (eC (.int 0))) (eOp jM (eM .dict QR (zA 3) (zB (eOp zY (zA 1) (eC (.int 0))) (zB (ji zD) zD))) (eSl (zA 1) (Qv (eUn zEN (eC (.int 1)))) J7)))
theorem zJu (N : List T) : (cut N (some (-1)) none).length <= 1 := by
 unfold cut
 simp only [sIx]
 rw [List.length_take, List.length_drop, if_pos (by decide)]
 omega
theorem zNy {s s2 : M.S} {refs : List Nat} (p : zn s s2) (hf : s2[s.length + 1]? = some (.lst (refs.map .ref))) (hw : ∀ (i r : Nat), refs[i]? = some r -> s.length + 1 < r /\ ∃ ts : List T, ts.length <= 62 /\ s2[r]? = some (.lst (ts.map .str))) (hl : refs.length <= 1000) {v0 v1 v2 v3 v4 v5 v7 v8 v9 v10 v11 : Option D} :
  ∃ (v11' : Option D) (s' : M.S), (∀ r, zJ lb9 (zJ zET r) [v0, v1, v2, v3, v4, v5, some (.ref (s.length + 1)), v7, v8, v9, v10, v11] s2 = r [v0, v1, v2, v3, v4, v5, some (.ref (s.length + 1)), v7, v8, v9, v10, v11'] s') /\ zn s s' := by
 have gd : ∀ s' : M.S, s'[s.length + 1]? = some (.lst (refs.map .ref)) -> zQ [(s.length + 1, O.lst (refs.map .ref))] s' = true := fun s' e => by simp only [zQ, List.all_cons, List.all_nil, e, decide_true, Bool.and_self]
 obtain ⟨σ', s3, e9, ⟨v11', eσ⟩, p3, f3, _⟩ := ql (g := [(s.length + 1, O.lst (refs.map .ref))]) (f := jU (zK 11) (qG (eM .list jt (zA 11) (zB (eC (.str [97])) zD))))
  (fun j σ s' => (∃ v11 : Option D, σ = [v0, v1, v2, v3, v4, v5, some (.ref (s.length + 1)), v7, v8, v9, v10, v11]) /\ zn s s' /\ s'[s.length + 1]? = some (.lst (refs.map .ref)) /\ ∀ (i r : Nat), refs[i]? = some r -> ∃ xs : List D, xs.length <= 62 + j /\ s'[r]? = some (.lst xs))
  (refs.map .ref) 0 [v0, v1, v2, v3, v4, v5, some (.ref (s.length + 1)), v7, v8, v9, v10, v11] s2 ⟨⟨v11, rfl⟩, p, hf, fun i r hi => by
   obtain ⟨_, ts, h1, h2⟩ := hw i r hi
   exact ⟨ts.map .str, by rw [List.length_map]; omega, h2⟩⟩ fun j d hd σ s' ⟨⟨v11, eσ⟩, p', f', w'⟩ => by
   rw [Nat.zero_add] at w' ⊢
   subst eσ
   rw [List.getElem?_map] at hd
   cases q : refs[j]? with
   | none => rw [q] at hd; cases hd
   | some r =>
    rw [q] at hd
    have hd' : d = .ref r := by simpa using hd.symm
    subst hd'
    have hj := (List.getElem?_eq_some_iff.mp q).1
    obtain ⟨hr, _⟩ := hw j r q
    obtain ⟨xs, x1, x2⟩ := w' j r q
    have z : xs.length < SZ := by unfold SZ; omega
    have f'' : (s'.set r (.lst (xs ++ [.str [97]])))[s.length + 1]? = some (.lst (refs.map .ref)) := by rw [zx (by omega)]; exact f'
    refine ⟨[v0, v1, v2, v3, v4, v5, some (.ref (s.length + 1)), v7, v8, v9, v10, some (.ref r)], s'.set r (.lst (xs ++ [.str [97]])), ?_, gd _ f'', ⟨_, rfl⟩, p'.set (by omega) _, f'', fun i r' hi => ?_⟩
    ·simp only [jU, zK, List.set_cons_succ, List.set_cons_zero, qG, eM, zA, List.getElem?_cons_succ, List.getElem?_cons_zero, R.bind_ok, ZU, x2, if_true, zB, zD, eC, jt, z, R.stm_ok]
    ·by_cases e : r' = r
     ·subst e
      exact ⟨_, by rw [List.length_append]; simp; omega, yX x2⟩
     ·obtain ⟨ys, y1, y2⟩ := w' i r' hi
      exact ⟨ys, by omega, by rw [zx e]; exact y2⟩
 subst eσ
 obtain ⟨s4, hs4⟩ : ∃ s4, s4 = (s3 ++ [O.lst []]).set (s.length + 1) (.lst (refs.map .ref ++ [.ref s3.length])) := ⟨_, rfl⟩
 refine ⟨v11', s4, fun r => ?_, by rw [hs4]; exact (p3.trans (zn.of _ _)).set (by omega) _⟩
 have b9 : lb9 [v0, v1, v2, v3, v4, v5, some (.ref (s.length + 1)), v7, v8, v9, v10, v11] s2 = .nx [v0, v1, v2, v3, v4, v5, some (.ref (s.length + 1)), v7, v8, v9, v10, v11'] s3 := by
  simp only [lb9, jc, iE, zA, List.getElem?_cons_succ, List.getElem?_cons_zero, R.bind_ok, itD, hf, R.stm_ok, gd s2 hf, if_true]
  exact e9
 have b10 : zET [v0, v1, v2, v3, v4, v5, some (.ref (s.length + 1)), v7, v8, v9, v10, v11'] s3 = .nx [v0, v1, v2, v3, v4, v5, some (.ref (s.length + 1)), v7, v8, v9, v10, v11'] s4 := by
  have z : (refs.map D.ref).length < SZ := by rw [List.length_map]; unfold SZ; omega
  simp only [zET, qG, eM, zA, List.getElem?_cons_succ, List.getElem?_cons_zero, R.bind_ok, ZU, f3, if_true, zB, zD, ji, List.length_nil, Nat.zero_le, alloc, jt, zd f3 [O.lst []], z, R.stm_ok, hs4]
 show (lb9 _ _).then _ = _
 rw [b9, RS.then_nx]
 show (zET _ _).then _ = _
 rw [b10, RS.then_nx]
theorem zNh {N : List T} {n h e b : Nat} {nd : List (T × List T)} {s : M.S} (t : TS N n h e nd s) (hn : (zS nd).Nodup) (ok : OkB b N nd) (hb : b <= 8) (hN0 : 0 < N.length) (hN : N.length <= 62) {v0 v2 v4 v5 v6 v7 v8 v9 v10 v11 : Option D} :
  ∃ n' e' nd' s', (zJ zEj (zJ (zR 2 (zH qS (zB (zA 3) zD))) (zR 4 (zH q9 (zB (zA 2) zD)))) [v0, some (.ref 0), v2, some (.ref h), v4, v5, v6, v7, v8, v9, v10, v11] s = .nx [v0, some (.ref 0), some (.ref n'), some (.ref h), some (.ref e'), v5, v6, v7, v8, v9, v10, v11] s') /\ TS N n' h e' nd' s' /\ (zS nd').Nodup /\ OkB (b + 1) N nd' := by
 obtain ⟨hk, gh, drh⟩ := t.dh
 have hh0 : (0 : Nat) ≠ h := fun z => by subst z; rw [t.n0] at gh; cases gh
 have ix0 : atI (N.map D.str) 0 = some (.str (N.getD 0 [])) := JO (by omega) (by omega)
 have aN : N.getD 0 [] ∈ N := Qj hN0
 generalize N.getD 0 [] = a at *
 obtain ⟨r, er, gr⟩ := zD1 gh drh a
 obtain ⟨nl, nm⟩ := zGV hn ok a
 have hcut : cut (N.map D.str) (some (-1)) none = (cut N (some (-1)) none).map D.str := zGK _ _ _ _
 have cl := zJu N
 have cm : ∀ x ∈ cut N (some (-1)) none, x ∈ N := fun x hx => zBU hx
 generalize cut N (some (-1)) none = tl at *
 generalize nOf nd a = row at *
 obtain ⟨s6, hs6⟩ : ∃ s6, s6 = s ++ [O.lst [], .lst (tl.map .str), .lst ((row ++ tl).map .str)] := ⟨_, rfl⟩
 have p6 : zn s s6 := by rw [hs6]; exact zn.of _ _
 have g6 : s6[s.length + 2]? = some (.lst ((row ++ tl).map .str)) := by rw [hs6, List.getElem?_append_right (by omega), show s.length + 2 - s.length = 2 by omega]; rfl
 have hkl : hk.length < SZ := by
  rw [drh.length]
  have : nd.length = (zS nd).length := by unfold zS; simp
  have := qY (N := N) hn fun x hx => by
   unfold zS at hx
   obtain ⟨q, h1, rfl⟩ := List.mem_map.mp hx
   exact (ok q h1).1
  unfold SZ; omega
 obtain ⟨s7, hs7⟩ : ∃ s7, s7 = s6.set h (.dct (ja (.str a) (.ref (s.length + 2)) hk)) := ⟨_, rfl⟩
 have gh6 := p6.get gh
 have kp : yN s6 s7 := by rw [hs7]; exact yN.set gh6 (fun _ z => nomatch z)
 have gh7 : s7[h]? = some (.dct (ja (.str a) (.ref (s.length + 2)) hk)) := by rw [hs7]; exact yX gh6
 have dr7 : DR s7 (ja (.str a) (.ref (s.length + 2)) hk) (Zq a (row ++ tl) nd) := ((drh.mono p6.keep).mono kp).put (kp _ _ g6)
 have g07 : s7[0]? = some (.lst (N.map .str)) := kp _ _ (p6.get t.n0)
 have b11 : zEj [v0, some (.ref 0), v2, some (.ref h), v4, v5, v6, v7, v8, v9, v10, v11] s = .nx [v0, some (.ref 0), v2, some (.ref h), v4, v5, v6, v7, v8, v9, v10, v11] s7 := by
  have q0 : ∀ g, (s ++ g)[0]? = some (.lst (N.map .str)) := fun g => zd t.n0 g
  have qh : ∀ g, (s ++ g)[h]? = some (.dct hk) := fun g => zd gh g
  have qr : ∀ g, (s ++ O.lst [] :: g)[r]? = some (.lst (row.map .str)) := fun g => by
   have := zd gr g
   rwa [List.append_assoc] at this
  have q1 : (s ++ [O.lst [], .lst (tl.map .str)])[s.length + 1]? = some (.lst (tl.map .str)) := by rw [List.getElem?_append_right (by omega), show s.length + 1 - s.length = 1 by omega]; rfl
  have lq0 := fun g => JR (q0 g)
  have z : (row.map D.str).length + (tl.map D.str).length <= SZ := by rw [List.length_map, List.length_map]; unfold SZ; omega
  have gh6' := gh6
  rw [hs6] at gh6'
  simp only [zEj, jf, eOp, eM, zA, eC, List.getElem?_cons_succ, List.getElem?_cons_zero, R.bind_ok, ZU, gh, if_true, zB, zD, zY, t.n0, ix0, ji, List.length_nil, Nat.zero_le, alloc, QR, qh, zt, er, eSl, Qv, eUn, zEN, J7, slD, lq0, hcut, List.length_append, List.length_cons, Nat.zero_add, Nat.reduceAdd, List.append_assoc, List.cons_append, List.nil_append, jM, qr, q1, z, R.stm_ok, q0, yj, hkl, decide_true, Bool.and_self, hs7, hs6, List.map_append, Int.reduceNeg]
 have okn : OkB (b + 1) N (Zq a (row ++ tl) nd) := zEx (ok.mono (by omega)) ⟨aN, by rw [List.length_append]; omega, fun x hx => by
  rcases List.mem_append.mp hx with hx | hx
  ·exact nm x hx
  ·exact cm x hx⟩
 have ndn : (zS (Zq a (row ++ tl) nd)).Nodup := zCo hn
 generalize Zq a (row ++ tl) nd = nd' at *
 generalize ja (.str a) (.ref (s.length + 2)) hk = hk' at *
 have ndl : nd'.length <= 100 := by
  have h1 : nd'.length = (zS nd').length := by unfold zS; simp
  have := qY (N := N) ndn fun x hx => by
   unfold zS at hx
   obtain ⟨q, h1, rfl⟩ := List.mem_map.mp hx
   exact (okn q h1).1
  omega
 obtain ⟨kk, g, e12, dr8⟩ := zDf gh7 dr7 ndn ndl
 obtain ⟨s8, hs8⟩ : ∃ s8, s8 = s7 ++ O.dct kk :: g := ⟨_, rfl⟩
 rw [<- hs8] at e12 dr8
 have p8 : zn s7 s8 := by rw [hs8]; exact zn.of _ _
 have gk8 : s8[s7.length]? = some (.dct kk) := by rw [hs8]; exact zm
 obtain ⟨V, vm, e13⟩ := zHz gk8 dr8 (okn.mono (by omega)) hN
 obtain ⟨s9, hs9⟩ : ∃ s9, s9 = s8 ++ [O.lst (V.map .str)] := ⟨_, rfl⟩
 have p9 : zn s8 s9 := by rw [hs9]; exact zn.of _ _
 refine ⟨s7.length, s8.length, nd', s9, ?_, ⟨p9.get (p8.get g07), ⟨kk, p9.get gk8, dr8.mono p9.keep⟩, ⟨hk', p9.get (p8.get gh7), (dr7.mono p8.keep).mono p9.keep⟩, V, by rw [hs9]; exact zm, vm⟩, ndn, okn⟩
 have b12 : (zR 2 (zH qS (zB (zA 3) zD))) [v0, some (.ref 0), v2, some (.ref h), v4, v5, v6, v7, v8, v9, v10, v11] s7 = .nx [v0, some (.ref 0), some (.ref s7.length), some (.ref h), v4, v5, v6, v7, v8, v9, v10, v11] s8 := by
  simp only [zR, zH, zB, zD, zA, List.getElem?_cons_succ, List.getElem?_cons_zero, R.bind_ok, e12, R.stm_ok, List.set_cons_succ, List.set_cons_zero]
 have b13 : (zR 4 (zH q9 (zB (zA 2) zD))) [v0, some (.ref 0), some (.ref s7.length), some (.ref h), v4, v5, v6, v7, v8, v9, v10, v11] s8 = .nx [v0, some (.ref 0), some (.ref s7.length), some (.ref h), some (.ref s8.length), v5, v6, v7, v8, v9, v10, v11] s9 := by
  simp only [zR, zH, zB, zD, zA, List.getElem?_cons_succ, List.getElem?_cons_zero, R.bind_ok, e13, alloc, R.stm_ok, List.set_cons_succ, List.set_cons_zero, hs9]
 show (zEj _ _).then _ = _
 rw [b11, RS.then_nx]
 show ((zR 2 _) _ _).then _ = _
 rw [b12, RS.then_nx]
 exact b13
abbrev zBl : SM := (zJ (zR 6 (zH yu (zB (zA 3) zD))) (zJ lb2 (zJ (zR 7 (zH jz (zB (zA 6) zD))) (zJ lb4 (zJ lb5
  (zJ lb6 (zJ lb7 (zJ lb8 (zJ lb9 (zJ zET (zJ zEj (zJ (zR 2 (zH qS (zB (zA 3) zD))) (zR 4 (zH q9 (zB (zA 2) zD)))))))))))))))
theorem zKv {N : List T} {n h e b : Nat} {nd : List (T × List T)} {s : M.S} (t : TS N n h e nd s) (hn : (zS nd).Nodup) (ok : OkB b N nd) (hb : b <= 8) (hN0 : 0 < N.length) (hN : N.length <= 62) (hT : (N.getD 0 []).length <= 100) {v0 v5 v6 v7 v8 v9 v10 v11 : Option D} :
  ∃ n' e' nd' v6' v7' v8' v9' v10' v11' s', zBl [v0, some (.ref 0), some (.ref n), some (.ref h), some (.ref e), v5, v6, v7, v8, v9, v10, v11] s = .nx [v0, some (.ref 0), some (.ref n'), some (.ref h), some (.ref e'), v5, v6', v7', v8', v9', v10', v11'] s' /\ TS N n' h e' nd' s' /\ (zS nd').Nodup /\ OkB (b + 1) N nd' := by
 obtain ⟨refs, ak, v8', s1, e1, p1, f1, w1, l1⟩ := zNw t hn (ok.mono (by omega)) hN (v0 := v0) (v1 := some (.ref 0)) (v5 := v5) (v6 := v6) (v7 := v7) (v8 := v8) (v9 := v9) (v10 := v10) (v11 := v11)
 obtain ⟨v9', v10', s2, e2, p2⟩ := zNb (p1.get t.n0) hN0 hT f1 (fun i r hi => (w1 i r hi).2) l1 (v0 := v0) (v2 := some (.ref n)) (v3 := some (.ref h)) (v4 := some (.ref e)) (v5 := v5) (v7 := some (.ref ak)) (v8 := v8') (v9 := v9) (v10 := v10) (v11 := v11)
 obtain ⟨v11', s3, e3, p3⟩ := zNy (p1.trans p2) (p2.get f1) (fun i r hi => by
  obtain ⟨h1, ts, h2, h3⟩ := w1 i r hi
  exact ⟨h1, ts, h2, p2.get h3⟩) l1 (v0 := v0) (v1 := some (.ref 0)) (v2 := some (.ref n)) (v3 := some (.ref h)) (v4 := some (.ref e)) (v5 := v5) (v7 := some (.ref ak)) (v8 := v8') (v9 := v9') (v10 := v10') (v11 := none)
 obtain ⟨n', e', nd', s4, e4, t4, hn4, ok4⟩ := zNh (t.mono p3) hn ok hb hN0 hN (v0 := v0) (v2 := some (.ref n)) (v4 := some (.ref e)) (v5 := v5) (v6 := some (.ref (s.length + 1))) (v7 := some (.ref ak)) (v8 := v8') (v9 := v9') (v10 := v10') (v11 := v11')
 refine ⟨n', e', nd', some (.ref (s.length + 1)), some (.ref ak), v8', v9', v10', v11', s4, ?_, t4, hn4, ok4⟩
 unfold zBl
 rw [e1, e2, e3]
 exact e4
theorem zIv (ns : List Int) (hl : ns.length <= 63) : ∃ s, zCh [.ro (ns.map .int)] [] = .ok (.bl true) s := by
 have hm := zGC (qN ns 0)
 have hlN := Jv ns 0 (JK (qN ns 0)).toNat
 have hoN := zAq ns 0 (JK (qN ns 0)).toNat
 have hn : ∀ s, qL [.ro (ns.map .int), .int 0] s = .ok (.ref s.length) (s ++ [O.lst ((qC ns 0 (JK (qN ns 0)).toNat).map .str)]) := fun s => by
  simp [qL, zDw]
 generalize qC ns 0 (JK (qN ns 0)).toNat = N at *
 have pN : 0 < N.length := by omega
 have hT : (N.getD 0 []).length <= 100 := by
  have := hoN _ (Qj pN)
  omega
 obtain ⟨kvs, nd, t, e2, dr, ndn, _, ok⟩ := zKB (ns := ns) pN (by omega) (B := [O.lst (N.map .str)]) (p := 0) rfl
 obtain ⟨S1, hS1⟩ : ∃ S1, S1 = [O.lst (N.map .str)] ++ O.dct kvs :: t := ⟨_, rfl⟩
 rw [<- hS1] at e2 dr
 have g1 : S1[1]? = some (.dct kvs) := by rw [hS1]; rfl
 have g0 : S1[0]? = some (.lst (N.map .str)) := by rw [hS1]; rfl
 have ndl : nd.length <= 100 := by omega
 obtain ⟨hk, g, e3, drh⟩ := zDf g1 dr ndn ndl
 obtain ⟨S2, hS2⟩ : ∃ S2, S2 = S1 ++ O.dct hk :: g := ⟨_, rfl⟩
 rw [<- hS2] at e3 drh
 have p2 : zn S1 S2 := by rw [hS2]; exact zn.of _ _
 have gh : S2[S1.length]? = some (.dct hk) := by rw [hS2]; exact zm
 obtain ⟨V, vm, e4⟩ := zHz (p2.get g1) (dr.mono p2.keep) (ok.mono (by omega)) (show N.length <= 62 by omega)
 obtain ⟨S3, hS3⟩ : ∃ S3, S3 = S2 ++ [O.lst (V.map .str)] := ⟨_, rfl⟩
 have p3 : zn S2 S3 := by rw [hS3]; exact zn.of _ _
 have t0 : TS N 1 S1.length S2.length nd S3 := ⟨p3.get (p2.get g0), ⟨kvs, p3.get (p2.get g1), (dr.mono p2.keep).mono p3.keep⟩, ⟨hk, p3.get gh, drh.mono p3.keep⟩, V, by rw [hS3]; exact zm, vm⟩
 obtain ⟨σ', s', e5, n, e, nd', v5, v6, v7, v8, v9, v10, v11, eσ, t', _, _⟩ := ql (g := []) (f := jU (zK 5) zBl)
  (fun j σ s => ∃ (n e : Nat) (nd : List (T × List T)) (v5 v6 v7 v8 v9 v10 v11 : Option D), σ = [some (.ro (ns.map .int)), some (.ref 0), some (.ref n), some (.ref S1.length), some (.ref e), v5, v6, v7, v8, v9, v10, v11] /\ TS N n S1.length e nd s /\ (zS nd).Nodup /\ OkB (4 + j) N nd)
  (jQ 0 2) 0 [some (.ro (ns.map .int)), some (.ref 0), some (.ref 1), some (.ref S1.length), some (.ref S2.length), none, none, none, none, none, none, none] S3 ⟨1, S2.length, nd, none, none, none, none, none, none, none, rfl, t0, ndn, ok⟩ fun j d hd σ s ⟨n, e, nd, v5, v6, v7, v8, v9, v10, v11, eσ, t, hn, ok⟩ => by
   obtain ⟨rfl, hj⟩ := zEp hd
   rw [Nat.zero_add] at ok ⊢
   subst eσ
   obtain ⟨n', e', nd', v6', v7', v8', v9', v10', v11', s', e1, t', hn', ok'⟩ := zKv t hn ok (by omega) pN (by omega) hT (v0 := some (.ro (ns.map .int))) (v5 := some (.int j)) (v6 := v6) (v7 := v7) (v8 := v8) (v9 := v9) (v10 := v10) (v11 := v11)
   exact ⟨_, s', e1, rfl, n', e', nd', _, _, _, _, _, _, _, rfl, t', hn', ok'⟩
 subst eσ
 refine ⟨s', ?_⟩
 have l1 : Qf [some (.ro (ns.map .int)), none, none, none, none, none, none, none, none, none, none, none] [] = .nx [some (.ro (ns.map .int)), some (.ref 0), none, none, none, none, none, none, none, none, none, none] [O.lst (N.map .str)] := by
  simp [Qf, hn]
 have l2 : Qb [some (.ro (ns.map .int)), some (.ref 0), none, none, none, none, none, none, none, none, none, none] [O.lst (N.map .str)] = .nx [some (.ro (ns.map .int)), some (.ref 0), some (.ref 1), none, none, none, none, none, none, none, none, none] S1 := by
  simp only [Qb, zR, zH, zB, zD, zA, eC, List.getElem?_cons_succ, List.getElem?_cons_zero, R.bind_ok, e2, R.stm_ok, List.set_cons_succ, List.set_cons_zero]
  rfl
 have l3 : Qt [some (.ro (ns.map .int)), some (.ref 0), some (.ref 1), none, none, none, none, none, none, none, none, none] S1 = .nx [some (.ro (ns.map .int)), some (.ref 0), some (.ref 1), some (.ref S1.length), none, none, none, none, none, none, none, none] S2 := by
  simp only [Qt, zR, zH, zB, zD, zA, List.getElem?_cons_succ, List.getElem?_cons_zero, R.bind_ok, e3, R.stm_ok, List.set_cons_succ, List.set_cons_zero]
 have l4 : Ql [some (.ro (ns.map .int)), some (.ref 0), some (.ref 1), some (.ref S1.length), none, none, none, none, none, none, none, none] S2 = .nx [some (.ro (ns.map .int)), some (.ref 0), some (.ref 1), some (.ref S1.length), some (.ref S2.length), none, none, none, none, none, none, none] S3 := by
  simp only [Ql, zR, zH, zB, zD, zA, List.getElem?_cons_succ, List.getElem?_cons_zero, R.bind_ok, e4, alloc, R.stm_ok, List.set_cons_succ, List.set_cons_zero, hS3]
 have l5 : Qe [some (.ro (ns.map .int)), some (.ref 0), some (.ref 1), some (.ref S1.length), some (.ref S2.length), none, none, none, none, none, none, none] S3 = .nx [some (.ro (ns.map .int)), some (.ref 0), some (.ref n), some (.ref S1.length), some (.ref e), v5, v6, v7, v8, v9, v10, v11] s' := by
  have hq : (2 : Int).natAbs < 4611686018427387904 := by decide
  have hg : zQ [] S3 = true := rfl
  simp only [Qe, jc, jo, eC, R.bind_ok, hq, if_true, R.stm_ok, hg]
  exact e5
 show (zJ Qf (zJ Qb (zJ Qt (zJ Ql (zJ Qe zBP)))) [some (.ro (ns.map .int)), none, none, none, none, none, none, none, none, none, none, none] []).out = _
 show ((Qf _ _).then _).out = _
 rw [l1, RS.then_nx]
 show ((Qb _ _).then _).out = _
 rw [l2, RS.then_nx]
 show ((Qt _ _).then _).out = _
 rw [l3, RS.then_nx]
 show ((Ql _ _).then _).out = _
 rw [l4, RS.then_nx]
 show ((Qe _ _).then _).out = _
 rw [l5, RS.then_nx]
 rfl
end
end M
namespace My
open PySem L2 PyProof.Rows
def top (i : Nat) : Stmt := PySem.Challenge.pw_thingyard_k65_waves.main.body.getD i (.Pass ⟨0, 0, 0, 0⟩)
abbrev Θ0 : Tab := fun _ => none
theorem vv {X : Cx} {Θ : Tab} {pos : Pos} {x : Str} (i : Nat) (h1 : X.N[i]? = some x := by rfl) (h2 : Vis X.env.scope x := by exact Or.inl (by kernel_rfl)) (h3 : (x == ("__debug__" : Str)) = false := by kernel_rfl) (h4 : (x == ("__classdict__" : Str)) = false := by kernel_rfl) : WE X Θ (.Name x pos) (M.zA i) := zFK i h1 h2 h3 h4
theorem vc {X : Cx} {Θ : Tab} {pos : Pos} {x : Str} (i : Nat) (h1 : X.N[i]? = some x := by rfl) (h2 : Vis X.env.scope x := by exact Or.inr (Or.inl (by kernel_rfl))) (h3 : (x == ("__debug__" : Str)) = false := by kernel_rfl) (h4 : (x == ("__classdict__" : Str)) = false := by kernel_rfl) : WE X Θ (.Name x pos) (M.zA i) := zFK i h1 h2 h3 h4
theorem zz {X : Cx} {Θ : Tab} {pos : Pos} {y : M.T} {x : Str} {j : Nat} (h : x = ofT y := by decide +kernel) (ok : okT y := by decide +kernel) : WE X Θ (.Constant (.str x) j pos) (M.eC (.str y)) := zJF h ok
theorem gk {X : Cx} {x : Str} (h : X.env.kindOf x = some .globalImplicit := by kernel_rfl) : Gl X x := h
abbrev cX (P : Program) (w : World) (K : PySem.W.Frag) (mg : Str -> Option Value) (base : Heap) (N : List Str) (n : Str) (st : Stmt) (f : Addr) (cdv : Value) (A : Around) (outer : List Env) (s : Shared) (H : Hp) (E : XK) : Cx := (JT CX0 P w K mg base N n (zP st) f cdv A outer s H E).nox
abbrev RM (k : Nat) (n : Str) (st : Stmt) (A : Around) (s : Shared) (f : Addr) (cdv : Value) : Prop := jH k (A.deeper (envOfC n (zP st) s.heap.objs.size f cdv))
abbrev bd (st : Stmt) (j : Nat) : Stmt := (jK st).getD j (.Pass ⟨0, 0, 0, 0⟩)
section
variable (P : Program) (w : World) (K : PySem.W.Frag) (mg : Str -> Option Value) (base : Heap)
abbrev ye : Prop := Has P w K mg base "_law_cell" 1 ["_law_script", "_law_k"] (SpM K Θ0 2 M.jk)
abbrev j3 : Prop := Has P w K mg base "_law_mixed" 1 ["_law_cell_here", "_law_k"] (SpM K Θ0 2 M.zg)
abbrev zAI : Prop := Has P w K mg base "_law_name" 2 ["_law_cell_here", "_law_taken"] (SpM K Θ0 2 M.je)
abbrev Jh : Prop := Has P w K mg base "_law_names" 3 ["_law_script", "_law_base"] (SpM K Θ0 2 M.qL)
abbrev zAY : Prop := Has P w K mg base "_law_row" 2 ["_law_cell_here", "_law_k", "_law_shape", "_law_names_here"] (SpM K Θ0 4 M.yZ)
abbrev Jj : Prop := Has P w K mg base "_law_needs" 3 ["_law_script", "_law_base", "_law_names_here"] (SpM K Θ0 3 M.QV)
abbrev Z2 : Prop := Has P w K mg base "_law_copied" 1 ["_law_needs_here"] (SpM K Θ0 1 M.qS)
abbrev JD : Prop := Has P w K mg base "_law_all" 1 ["_law_needs_here"] (SpM K Θ0 1 M.q9)
abbrev Jg : Prop := Has P w K mg base "needers_of" 1 ["needs"] (SpM K Θ0 1 M.QK)
abbrev zAp : Prop := Has P w K mg base "names_of" 1 ["needs"] (SpM K Θ0 1 M.yx)
abbrev zC4 : Prop := Has P w K mg base "ranks" 2 ["needs"] (SpM K Θ0 1 M.zAM)
abbrev zDN : Prop := Has P w K mg base "waves" 3 ["needs"] (SpM K Θ0 1 M.yu)
abbrev QS : Prop := Has P w K mg base "_law_waves_of" 1 ["_law_found"] (SpM K Θ0 1 M.jz)
abbrev Q9 : Prop := Has P w K mg base "_law_stayed" 1 ["_law_handed", "_law_needs_here"] (SpM K Θ0 2 M.yR)
abbrev Ji : Prop := Has P w K mg base "_law_right" 1 ["_law_known", "_law_needs_here", "_law_name_here"] (SpM K Θ0 3 M.qO)
end
variable {P : Program} {w : World} {K : PySem.W.Frag} {mg : Str -> Option Value} {base : Heap} {f : Addr} {fd : FuncData} {cdv : Value} {A : Around} {outer : List Env} {s : Shared} {H : Hp} {E : XK}
abbrev ZH : Stmt := top 6
abbrev zFs : List Str := ["_law_script", "_law_k"]
theorem zFX : jb zFs ["_law_script", "_law_k"] (zP ZH) := ⟨rfl, rfl, rfl, by decide +kernel, rfl, by decide +kernel, by decide +kernel⟩
theorem zEl (F : Fun K "_law_cell" "_law_cell" ZH f fd) (z8 : mg "len" = none) :
  qA P w K mg base CX0 1 f fd ["_law_script", "_law_k"] (SpM K Θ0 2 M.jk) := by
 refine yv (b := M.Zz) F zFX M.zE6 fun cdv A outer s H E hr => ?_
 unfold M.Zz
 exact (zG (jp (jI zOf zOG (vv 1) (jG qR ZF gk z8 yt (zC (vv 0) zI)) (jq _))
  (zN (z7 (jR (qx hr) j6 (vv 0) (vv 1))))
  jO)
  (zN (z7 zO)))
abbrev yq : Stmt := top 7
abbrev zES : List Str := ["_law_cell_here", "_law_k"]
theorem zEA : jb zES ["_law_cell_here", "_law_k"] (zP yq) := ⟨rfl, rfl, rfl, by decide +kernel, rfl, by decide +kernel, by decide +kernel⟩
theorem zD5 (F : Fun K "_law_mixed" "_law_mixed" yq f fd) :
  qA P w K mg base CX0 1 f fd ["_law_cell_here", "_law_k"] (SpM K Θ0 2 M.zg) := by
 refine yv (b := M.QT) F zEA M.zEE fun cdv A outer s H E hr => ?_
 unfold M.QT
 exact (zN (z7 (zW qo qB (zW zFa zEe (zW (OpR.or yL j2) qU (vv 0) (zW zFa zEe zO (vv 1))) zO) zO)))
abbrev zo : Stmt := top 8
abbrev yd : List Str := ["_law_cell_here", "_law_taken", "_law_signs", "_law_left", "_law_found", "_law_at"]
theorem qP : jb yd ["_law_cell_here", "_law_taken"] (zP zo) := ⟨rfl, rfl, rfl, by decide +kernel, rfl, by decide +kernel, by decide +kernel⟩
theorem zDM : (["_law_cell_here", "_law_taken", "_law_signs", "_law_left", "_law_found", "_law_at", "_law_j"] : List Str).Nodup := by decide +kernel
theorem zC3 (hr : RM 1 "_law_name" zo A s f cdv) : WS (cX P w K mg base yd "_law_name" zo f cdv A outer s H E) Θ0 (bd zo 0) M.yW := by
 unfold M.yW
 exact (zX (i := 2) qP.nd rfl (Or.inr (by kernel_rfl)) zz)
theorem zC8 (zh : j3 P w K mg base) (hr : RM 1 "_law_name" zo A s f cdv) : WS (cX P w K mg base yd "_law_name" zo f cdv A outer s H E) Θ0 (bd zo 1) M.yQ := by
 unfold M.yQ
 exact (zX (i := 3) qP.nd rfl (Or.inl (by kernel_rfl)) (zy zh hr (by decide) gk (zC (vc 0) (zC zO zI)) (zc (zc jY))))
theorem zDC (zh : j3 P w K mg base) (jD : mg "range" = none) (hr : RM 1 "_law_name" zo A s f cdv) : WS (cX P w K mg base yd "_law_name" zo f cdv A outer s H E) Θ0 (bd zo 2) M.yU := by
 unfold M.yU
 exact (zX (i := 4) qP.nd rfl (Or.inl (by kernel_rfl)) (zGq (by decide +kernel) (vars := ["_law_j"]) rfl ⟨rfl, rfl, (by kernel_rfl), (by kernel_rfl), (by decide +kernel), ⟨(by kernel_rfl), (by kernel_rfl), trivial⟩, (by kernel_rfl)⟩ (yc gk jD (zW qo qB (vv 3) zO)) (fun _ _ _ _ => (zk (i := 6) zDM rfl (Or.inl (by kernel_rfl)) (.inr (by kernel_rfl)))) (fun _ _ _ _ => Zb) (fun _ _ _ _ => (jR (qx hr) j6 (vc 2) (zW qo qB (zy zh hr (by decide) gk (zC (vc 0) (zC (vv 6) zI)) (zc (zc jY))) zO))) (by kernel_rfl) (fun ρ H S ds ys p Q rp r hq h => zIw (by decide +kernel) ρ H S ds ys p Q rp r (.inl hq) h)))
theorem zCz (z8 : mg "len" = none) (hr : RM 1 "_law_name" zo A s f cdv) : WS (cX P w K mg base yd "_law_name" zo f cdv A outer s H E) Θ0 (bd zo 3) M.j7 := by
 unfold M.j7
 exact (jp (ZY (zJ9 (Z7 (vv 1)) (zEd (jI zFi zCj (zW qo qB (vc 0) zO) zO (jq _)))))
  (zG (zX (i := 4) qP.nd rfl (Or.inl (by kernel_rfl)) (jR (qx hr) j6 (vv 1) (zW qo qB (vv 3) (jG qR ZF gk z8 yt (zC (vv 1) zI)))))
  (zG (zX (i := 4) qP.nd rfl (Or.inl (by kernel_rfl)) (zW (OpR.or yL j2) qU (vv 4) (zAW zFR zCa zz (QB (jG qR ZF gk z8 yt (zC (vv 4) zI))) J8)))
  (zG (zX (i := 5) qP.nd rfl (Or.inl (by kernel_rfl)) (zW qo qB (zW zB4 zBD (vv 3) zO) (jG qR ZF gk z8 yt (zC (vv 4) zI))))
  (zN (zX (i := 4) qP.nd rfl (Or.inl (by kernel_rfl)) (zW (OpR.or yL j2) qU (zW (OpR.or yL j2) qU (zAW zFR zCa (vv 4) J8 (QB (vv 5))) (jR (qx hr) j6 (vc 2) (zW qo qB (zW zB4 zBD (vv 3) zO) zO))) (zAW zFR zCa (vv 4) (QB (zW (OpR.or yL j2) qU (vv 5) zO)) J8)))))))
  jO)
theorem zDE (zh : j3 P w K mg base) (z8 : mg "len" = none) (hr : RM 1 "_law_name" zo A s f cdv) : WS (cX P w K mg base yd "_law_name" zo f cdv A outer s H E) Θ0 (bd zo 4) M.Z3 := by
 unfold M.Z3
 exact (zCr PassesOwn.never (jI (zHb hr) zKK (vv 4) (vv 1) (by rfl))
  (zN (zX (i := 4) qP.nd rfl (Or.inl (by kernel_rfl)) (zW (OpR.or yL j2) qU (vv 4) (jR (qx hr) j6 (vc 2) (zW qo qB (zy zh hr (by decide) gk (zC (vc 0) (zC (jG qR ZF gk z8 yt (zC (vv 4) zI)) zI)) (zc (zc jY))) zO))))))
theorem zDD (hr : RM 1 "_law_name" zo A s f cdv) : WS (cX P w K mg base yd "_law_name" zo f cdv A outer s H E) Θ0 (bd zo 5) M.ZE := by
 unfold M.ZE
 exact (z7 (vv 4))
theorem zEk (F : Fun K "_law_name" "_law_name" zo f fd) (zh : j3 P w K mg base) (z8 : mg "len" = none) (jD : mg "range" = none) :
  qA P w K mg base CX0 2 f fd ["_law_cell_here", "_law_taken"] (SpM K Θ0 2 M.je) := by
 refine yv (b := M.J9) F qP M.zFB fun cdv A outer s H E hr => ?_
 unfold M.J9
 exact (zG (zC3 hr) (zG (zC8 zh hr) (zG (zDC zh jD hr) (zG (zCz z8 hr) (zG (zDE zh z8 hr) (zN (zDD hr)))))))
abbrev zi : Stmt := top 9
abbrev yG : List Str := ["_law_script", "_law_base", "_law_first", "_law_many", "_law_taken", "_law_k"]
theorem yV : jb yG ["_law_script", "_law_base"] (zP zi) := ⟨rfl, rfl, rfl, by decide +kernel, rfl, by decide +kernel, by decide +kernel⟩
theorem zCR (jP : ye P w K mg base) (hr : RM 2 "_law_names" zi A s f cdv) : WS (cX P w K mg base yG "_law_names" zi f cdv A outer s H E) Θ0 (bd zi 0) M.qV := by
 unfold M.qV
 exact (zX (i := 2) yV.nd rfl (Or.inl (by kernel_rfl)) (zy jP hr (by decide) gk (zC (vv 0) (zC (vv 1) zI)) (zc (zc jY))))
theorem zCB (hr : RM 2 "_law_names" zi A s f cdv) : WS (cX P w K mg base yG "_law_names" zi f cdv A outer s H E) Θ0 (bd zi 1) M.qX := by
 unfold M.qX
 exact (zX (i := 3) yV.nd rfl (Or.inl (by kernel_rfl)) (zW (OpR.or yL j2) qU zO (zW qo qB (vv 2) zO)))
theorem zCd (hr : RM 2 "_law_names" zi A s f cdv) : WS (cX P w K mg base yG "_law_names" zi f cdv A outer s H E) Θ0 (bd zi 2) M.qa := by
 unfold M.qa
 exact (jp (jI (yl hr) Zo (zW qo qB (zW zB4 zBD (vv 2) zO) zO) zO (jq _))
  (zN (zX (i := 3) yV.nd rfl (Or.inl (by kernel_rfl)) (zW (OpR.or yL j2) qU zO (zW qo qB (zW zB4 zBD (vv 2) zO) zO))))
  jO)
theorem zCt (hr : RM 2 "_law_names" zi A s f cdv) : WS (cX P w K mg base yG "_law_names" zi f cdv A outer s H E) Θ0 (bd zi 3) M.qc := by
 unfold M.qc
 exact (zX (i := 4) yV.nd rfl (Or.inl (by kernel_rfl)) (qw zI))
theorem zB5 (jP : ye P w K mg base) (Z1 : zAI P w K mg base) (zh : j3 P w K mg base) (jD : mg "range" = none) (hr : RM 2 "_law_names" zi A s f cdv) : WS (cX P w K mg base yG "_law_names" zi f cdv A outer s H E) Θ0 (bd zi 4) M.qb := by
 unfold M.qb
 exact (qy PassesOwn.never rfl (yc gk jD (vv 3)) (zk (i := 5) yV.nd rfl (Or.inl (by kernel_rfl)) (.inl rfl))
  (zN (QA (Z0 PySem.F.plainAttrs_list PySem.F.slot_list_append PySem.F.type_list_append Q2 Q6 rfl (vv 4) (zC (zy Z1 hr (by decide) gk (zC (zy zh hr (by decide) gk (zC (zy jP hr (by decide) gk (zC (vv 0) (zC (zW (OpR.or yL j2) qU (zW (OpR.or yL j2) qU (vv 1) zO) (zW qo qB (vv 5) zO)) zI)) (zc (zc jY))) (zC (vv 5) zI)) (zc (zc jY))) (zC (vv 4) zI)) (zc (zc jY))) zI)))))
theorem zCT (hr : RM 2 "_law_names" zi A s f cdv) : WS (cX P w K mg base yG "_law_names" zi f cdv A outer s H E) Θ0 (bd zi 5) M.yn := by
 unfold M.yn
 exact (z7 (vv 4))
theorem zEI (F : Fun K "_law_names" "_law_names" zi f fd) (jP : ye P w K mg base) (Z1 : zAI P w K mg base) (zh : j3 P w K mg base) (jD : mg "range" = none) :
  qA P w K mg base CX0 3 f fd ["_law_script", "_law_base"] (SpM K Θ0 2 M.qL) := by
 refine yv (b := M.Je) F yV M.zEC fun cdv A outer s H E hr => ?_
 unfold M.Je
 exact (zG (zCR jP hr) (zG (zCB hr) (zG (zCd hr) (zG (zCt hr) (zG (zB5 jP Z1 zh jD hr) (zN (zCT hr)))))))
abbrev Zk : Stmt := top 10
abbrev zGy : List Str := ["_law_cell_here", "_law_k", "_law_shape", "_law_names_here", "_law_row_here"]
theorem zAD : jb zGy ["_law_cell_here", "_law_k", "_law_shape", "_law_names_here"] (zP Zk) := ⟨rfl, rfl, rfl, by decide +kernel, rfl, by decide +kernel, by decide +kernel⟩
theorem zEB : (["_law_cell_here", "_law_k", "_law_shape", "_law_names_here", "_law_row_here", "_law_j"] : List Str).Nodup := by decide +kernel
theorem zEH : (["_law_cell_here", "_law_k", "_law_shape", "_law_names_here", "_law_row_here", "_law_j"] : List Str).Nodup := by decide +kernel
theorem zFo (F : Fun K "_law_row" "_law_row" Zk f fd) (zh : j3 P w K mg base) (jD : mg "range" = none) (zHU : mg "max" = none) (z8 : mg "len" = none) (zHV : mg "int" = none) :
  qA P w K mg base CX0 2 f fd ["_law_cell_here", "_law_k", "_law_shape", "_law_names_here"] (SpM K Θ0 4 M.yZ) := by
 refine yv (b := M.yz) F zAD M.zF0 fun cdv A outer s H E hr => ?_
 unfold M.yz
 exact (zG (jp (jI (yl hr) Zo (vv 2) zO (jq _))
  (zN (z7 (yw (vars := ["_law_j"]) rfl ⟨rfl, rfl, (by kernel_rfl), (by kernel_rfl), (by decide +kernel), ⟨(by kernel_rfl), (by kernel_rfl), (by kernel_rfl), trivial⟩, (by kernel_rfl)⟩ (yc gk jD (zW zFa zEe (zW qo qB (vc 0) zO) (yB zHu zNU gk zHV zNT (zC (Qu zFi zCj (vc 1) zO (jq _)) zI)))) (fun _ _ _ _ => (zk (i := 5) zEH rfl (Or.inl (by kernel_rfl)) (.inr (by kernel_rfl)))) (fun _ _ _ _ => Zb) (fun _ _ _ _ => (jR (qx hr) j6 (vc 3) (zW qo qB (zy zh hr (by decide) gk (zC (vc 0) (zC (zW (OpR.or yL j2) qU zO (vv 5)) zI)) (zc (zc jY))) (vc 1)))) (by kernel_rfl))))
  jO)
  (zG (jp (jI (yl hr) Zo (vv 2) zO (jq _))
  (zG (zX (i := 4) zAD.nd rfl (Or.inl (by kernel_rfl)) (zAW zFR zCa (vc 3) (QB (jG (zIS rfl) zKx gk zHU zLr (zC zO (zC (zW zEK zCe (vc 1) zO) zI)))) (QB (vc 1))))
  (zG (jp (jI (yl hr) Zo (zW qo qB (vc 0) zO) zO (jq _))
  (zN (zX (i := 4) zAD.nd rfl (Or.inl (by kernel_rfl)) (zW (OpR.or yL j2) qU (vv 4) (qw (zC (jR (qx hr) j6 (vc 3) (zW zEK zCe (jG qR ZF gk z8 yt (zC (vc 3) zI)) zO)) zI)))))
  jO)
  (zN (z7 (vv 4)))))
  jO)
  (zN (z7 (yw (vars := ["_law_j"]) rfl ⟨rfl, rfl, (by kernel_rfl), (by kernel_rfl), (by decide +kernel), ⟨(by kernel_rfl), (by kernel_rfl), trivial⟩, (by kernel_rfl)⟩ (yc gk jD (zW qo qB (vc 0) zO)) (fun _ _ _ _ => (zk (i := 5) zEB rfl (Or.inl (by kernel_rfl)) (.inr (by kernel_rfl)))) (fun _ _ _ _ => Zb) (fun _ _ _ _ => (jR (qx hr) j6 (vc 3) (zW qo qB (zy zh hr (by decide) gk (zC (vc 0) (zC (zW (OpR.or yL j2) qU zO (vv 5)) zI)) (zc (zc jY))) (jG qR ZF gk z8 yt (zC (vc 3) zI))))) (by kernel_rfl))))))
abbrev z9 : Stmt := top 11
abbrev yp : List Str := ["_law_script", "_law_base", "_law_names_here", "_law_shape", "_law_needs_here", "_law_k", "_law_cell_here"]
theorem ZA : jb yp ["_law_script", "_law_base", "_law_names_here"] (zP z9) := ⟨rfl, rfl, rfl, by decide +kernel, rfl, by decide +kernel, by decide +kernel⟩
theorem zCJ (jP : ye P w K mg base) (hr : RM 2 "_law_needs" z9 A s f cdv) : WS (cX P w K mg base yp "_law_needs" z9 f cdv A outer s H E) Θ0 (bd z9 0) M.yE := by
 unfold M.yE
 exact (zX (i := 3) ZA.nd rfl (Or.inl (by kernel_rfl)) (zW qo qB (zy jP hr (by decide) gk (zC (vv 0) (zC (vv 1) zI)) (zc (zc jY))) zO))
theorem zCG (hr : RM 2 "_law_needs" z9 A s f cdv) : WS (cX P w K mg base yp "_law_needs" z9 f cdv A outer s H E) Θ0 (bd z9 1) M.yD := by
 unfold M.yD
 exact (zX (i := 4) ZA.nd rfl (Or.inl (by kernel_rfl)) ZL)
theorem zCO (jP : ye P w K mg base) (zh : j3 P w K mg base) (QX : zAY P w K mg base) (jD : mg "range" = none) (z8 : mg "len" = none) (hr : RM 2 "_law_needs" z9 A s f cdv) : WS (cX P w K mg base yp "_law_needs" z9 f cdv A outer s H E) Θ0 (bd z9 2) M.qZ := by
 unfold M.qZ
 exact (qy PassesOwn.never rfl (yc gk jD (jG qR ZF gk z8 yt (zC (vv 2) zI))) (zk (i := 5) ZA.nd rfl (Or.inl (by kernel_rfl)) (.inl rfl))
  (zG (zX (i := 6) ZA.nd rfl (Or.inl (by kernel_rfl)) (zy zh hr (by decide) gk (zC (zy jP hr (by decide) gk (zC (vv 0) (zC (zW (OpR.or yL j2) qU (zW (OpR.or yL j2) qU (vv 1) zO) (zW qo qB (vv 5) zO)) zI)) (zc (zc jY))) (zC (vv 5) zI)) (zc (zc jY))))
  (zN (jp (ZY (Qp (jI zFi zCj (zW qo qB (zW zB4 zBD (vv 6) zO) zO) zO (jq _)) (yh (jI (yl hr) Zo (vv 3) zO (jq _)))))
  (zN (yf hr (vv 4) (jR (qx hr) j6 (vv 2) (vv 5)) (zy QX hr (by decide) gk (zC (vv 6) (zC (vv 5) (zC (vv 3) (zC (vv 2) zI)))) (zc (zc (zc (zc jY)))))))
  jO))))
theorem zCH (hr : RM 2 "_law_needs" z9 A s f cdv) : WS (cX P w K mg base yp "_law_needs" z9 f cdv A outer s H E) Θ0 (bd z9 3) M.yk := by
 unfold M.yk
 exact (z7 (vv 4))
theorem zEJ (F : Fun K "_law_needs" "_law_needs" z9 f fd) (jP : ye P w K mg base) (zh : j3 P w K mg base) (QX : zAY P w K mg base) (jD : mg "range" = none) (z8 : mg "len" = none) :
  qA P w K mg base CX0 3 f fd ["_law_script", "_law_base", "_law_names_here"] (SpM K Θ0 3 M.QV) := by
 refine JY (N := yp) (b := M.Jf) F ZA fun cdv A outer s H E hr => ?_
 unfold M.Jf
 exact (zG (zCJ jP hr) (zG (zCG hr) (zG (zCO jP zh QX jD z8 hr) (zN (zCH hr)))))
abbrev yP : Stmt := top 12
abbrev zAv : List Str := ["_law_needs_here", "_law_made", "_law_name_here", "_law_others"]
theorem Zi : jb zAv ["_law_needs_here"] (zP yP) := ⟨rfl, rfl, rfl, by decide +kernel, rfl, by decide +kernel, by decide +kernel⟩
theorem zDW (F : Fun K "_law_copied" "_law_copied" yP f fd) (q8 : mg "list" = none) :
  qA P w K mg base CX0 1 f fd ["_law_needs_here"] (SpM K Θ0 1 M.qS) := by
 refine JY (N := zAv) (b := M.ZB) F Zi fun cdv A outer s H E hr => ?_
 unfold M.ZB
 exact (zG (zX (i := 1) Zi.nd rfl (Or.inl (by kernel_rfl)) ZL)
  (zG (zAx PassesOwn.never rfl (vv 0) (zAy (n := 2) rfl (Zl (zk (i := 2) Zi.nd rfl (Or.inl (by kernel_rfl)) (.inl rfl)) (Zl (zk (i := 3) Zi.nd rfl (Or.inl (by kernel_rfl)) (.inl rfl)) zBF (fun a b => Qa a b)) (fun a b => Qa a b)) (zGa))
  (zN (yf hr (vv 1) (vv 2) (yB (JF hr) zBX gk q8 JL (zC (vv 3) zI)))))
  (zN (z7 (vv 1)))))
abbrev Zp : Stmt := top 14
abbrev zHQ : List Str := ["_law_needs_here", "_law_found", "_law_name_here", "_law_others", "_law_other"]
theorem Zt : jb zHQ ["_law_needs_here"] (zP Zp) := ⟨rfl, rfl, rfl, by decide +kernel, rfl, by decide +kernel, by decide +kernel⟩
theorem zFn (F : Fun K "_law_all" "_law_all" Zp f fd) (y8 : mg "sorted" = none) :
  qA P w K mg base CX0 1 f fd ["_law_needs_here"] (SpM K Θ0 1 M.q9) := by
 refine yv (b := M.QM) F Zt M.zFz fun cdv A outer s H E hr => ?_
 unfold M.QM
 exact (zG (zX (i := 1) Zt.nd rfl (Or.inl (by kernel_rfl)) ZL)
  (zG (zAx PassesOwn.never rfl (vv 0) (zAy (n := 2) rfl (Zl (zk (i := 2) Zt.nd rfl (Or.inl (by kernel_rfl)) (.inl rfl)) (Zl (zk (i := 3) Zt.nd rfl (Or.inl (by kernel_rfl)) (.inl rfl)) zBF (fun a b => Qa a b)) (fun a b => Qa a b)) (zGa))
  (zG (yf hr (vv 1) (vv 2) yT)
  (zN (qy PassesOwn.never rfl (ZW (vv 3)) (zk (i := 4) Zt.nd rfl (Or.inl (by kernel_rfl)) (.inl rfl))
  (zN (yf hr (vv 1) (vv 4) yT))))))
  (zN (z7 (jG (zBA hr) zCZ gk y8 zBC (zC (vv 1) zI))))))
abbrev yo : Stmt := top 1
abbrev zA4 : List Str := ["needs", "needers", "name", "needed"]
theorem Z5 : jb zA4 ["needs"] (zP yo) := ⟨rfl, rfl, rfl, by decide +kernel, rfl, by decide +kernel, by decide +kernel⟩
theorem zD9 (F : Fun K "needers_of" "needers_of" yo f fd) :
  qA P w K mg base CX0 1 f fd ["needs"] (SpM K Θ0 1 M.QK) := by
 refine JY (N := zA4) (b := M.ZR) F Z5 fun cdv A outer s H E hr => ?_
 unfold M.ZR
 exact (zG (zX (i := 1) Z5.nd rfl (Or.inl (by kernel_rfl)) ZL)
  (zG (QJ PassesOwn.never rfl (vv 0) (zk (i := 2) Z5.nd rfl (Or.inl (by kernel_rfl)) (.inl rfl))
  (zN (qy PassesOwn.never rfl (ZW (jR (qx hr) j6 (vv 0) (vv 2))) (zk (i := 3) Z5.nd rfl (Or.inl (by kernel_rfl)) (.inl rfl))
  (zG (jp (jI (Qy hr) Jn (vv 3) (vv 1) (by rfl))
  (zN (yf hr (vv 1) (vv 3) ZL))
  jO)
  (zN (yf hr (jR (qx hr) j6 (vv 1) (vv 3)) (vv 2) yT))))))
  (zN (z7 (vv 1)))))
abbrev Zj : Stmt := top 2
abbrev zHR : List Str := ["needs", "names", "name", "needed"]
theorem zAK : jb zHR ["needs"] (zP Zj) := ⟨rfl, rfl, rfl, by decide +kernel, rfl, by decide +kernel, by decide +kernel⟩
theorem zD4 : (["needs", "names", "", "needed"] : List Str).Nodup := by decide +kernel
theorem zD7 : (["needs", "names", "", "needed", "name"] : List Str).Nodup := by decide +kernel
theorem zFx (F : Fun K "names_of" "names_of" Zj f fd) (Zd : mg "dict" = none) (y8 : mg "sorted" = none) :
  qA P w K mg base CX0 1 f fd ["needs"] (SpM K Θ0 1 M.yx) := by
 refine yv (b := M.QN) F zAK M.zFu fun cdv A outer s H E hr => ?_
 unfold M.QN
 exact (zG (ZS (i := 2) (N := ["needs", "names", "", "needed"]) rfl (zAn (i := 0) (zX (i := 1) zD4 rfl (Or.inl (by kernel_rfl)) (yB (zAm hr) zBm gk Zd zDL (zC (yw (vars := ["name"]) rfl ⟨rfl, rfl, (by kernel_rfl), (by kernel_rfl), (by decide +kernel), trivial, (by kernel_rfl)⟩ (Jx (vv 0)) (fun _ _ _ _ => (zk (i := 4) zD7 rfl (Or.inl (by kernel_rfl)) (.inr (by kernel_rfl)))) (fun _ _ _ _ => Zb) (fun _ _ _ _ => (zBg (zC (vv 4) (zC yT zI)))) (by kernel_rfl)) zI)))))
  (zG (QJ PassesOwn.never rfl (vv 0) (zk (i := 2) zAK.nd rfl (Or.inl (by kernel_rfl)) (.inl rfl))
  (zN (qy PassesOwn.never rfl (ZW (jR (qx hr) j6 (vv 0) (vv 2))) (zk (i := 3) zAK.nd rfl (Or.inl (by kernel_rfl)) (.inl rfl))
  (zN (yf hr (vv 1) (vv 3) yT)))))
  (zN (z7 (jG (zBA hr) zCZ gk y8 zBC (zC (vv 1) zI))))))
abbrev jL : Stmt := top 3
abbrev QF : List Str := ["needs", "needers", "ranked", "missing", "level", "rank", "above", "name", "needer"]
theorem ZX : jb QF ["needs"] (zP jL) := ⟨rfl, rfl, rfl, by decide +kernel, rfl, by decide +kernel, by decide +kernel⟩
theorem zGv : (["needs", "needers", "ranked", "missing", "level", "rank", "above", "", "needer"] : List Str).Nodup := by decide +kernel
theorem zG7 : (["needs", "needers", "ranked", "missing", "level", "rank", "above", "", "needer", "name"] : List Str).Nodup := by decide +kernel
theorem zG2 : (["needs", "needers", "ranked", "missing", "level", "rank", "above", "", "needer"] : List Str).Nodup := by decide +kernel
theorem zGc : (["needs", "needers", "ranked", "missing", "level", "rank", "above", "", "needer", "name"] : List Str).Nodup := by decide +kernel
theorem zHN : (["needs", "needers", "ranked", "missing", "level", "rank", "above", "", "needer"] : List Str).Nodup := by decide +kernel
theorem zG6 : (["needs", "needers", "ranked", "missing", "level", "rank", "above", "", "needer", "name"] : List Str).Nodup := by decide +kernel
theorem zGw (Ze : Jg P w K mg base) (hr : RM 1 "ranks" jL A s f cdv) : WS (cX P w K mg base QF "ranks" jL f cdv A outer s H E) Θ0 (bd jL 0) M.Za := by
 unfold M.Za
 exact (zX (i := 1) ZX.nd rfl (Or.inl (by kernel_rfl)) (zy Ze hr (by decide) gk (zC (vc 0) zI) (zc jY)))
theorem zHP (QY : zAp P w K mg base) (Zd : mg "dict" = none) (hr : RM 1 "ranks" jL A s f cdv) : WS (cX P w K mg base QF "ranks" jL f cdv A outer s H E) Θ0 (bd jL 1) M.Zc := by
 unfold M.Zc
 exact (ZS (i := 7) (N := ["needs", "needers", "ranked", "missing", "level", "rank", "above", "", "needer"]) rfl (zX (i := 2) zGv rfl (Or.inl (by kernel_rfl)) (yB (zAm hr) zBm gk Zd zDL (zC (yw (vars := ["name"]) rfl ⟨rfl, rfl, (by kernel_rfl), (by kernel_rfl), (by decide +kernel), trivial, (by kernel_rfl)⟩ (ZW (zy QY hr (by decide) gk (zC (vc 0) zI) (zc jY))) (fun _ _ _ _ => (zk (i := 9) zG7 rfl (Or.inl (by kernel_rfl)) (.inr (by kernel_rfl)))) (fun _ _ _ _ => Zb) (fun _ _ _ _ => (zBg (zC (vv 9) (zC zAs zI)))) (by kernel_rfl)) zI))))
theorem zHA (Zd : mg "dict" = none) (z8 : mg "len" = none) (zCv : mg "set" = none) (hr : RM 1 "ranks" jL A s f cdv) : WS (cX P w K mg base QF "ranks" jL f cdv A outer s H E) Θ0 (bd jL 2) M.ZM := by
 unfold M.ZM
 exact (ZS (i := 7) (N := ["needs", "needers", "ranked", "missing", "level", "rank", "above", "", "needer"]) rfl (zAn (i := 2) (zX (i := 3) zG2 rfl (Or.inr (by kernel_rfl)) (yB (zAm hr) zBm gk Zd zDL (zC (yw (vars := ["name"]) rfl ⟨rfl, rfl, (by kernel_rfl), (by kernel_rfl), (by decide +kernel), ⟨(by kernel_rfl), trivial⟩, (by kernel_rfl)⟩ (Jx (vv 2)) (fun _ _ _ _ => (zk (i := 9) zGc rfl (Or.inl (by kernel_rfl)) (.inr (by kernel_rfl)))) (fun _ _ _ _ => Zb) (fun _ _ _ _ => (zBg (zC (vv 9) (zC (zF1 hr gk z8 yt gk zCv zMF (zC (Z0 PySem.F.plainAttrs_dict PySem.F.slot_dict_get PySem.F.type_dict_get (zBT hr) zB9 rfl (vc 0) (zC (vv 9) (zC (qw zI) zI))) zI)) zI)))) (by kernel_rfl)) zI)))))
theorem zHT (hr : RM 1 "ranks" jL A s f cdv) : WS (cX P w K mg base QF "ranks" jL f cdv A outer s H E) Θ0 (bd jL 3) M.ZQ := by
 unfold M.ZQ
 exact (ZS (i := 7) (N := ["needs", "needers", "ranked", "missing", "level", "rank", "above", "", "needer"]) rfl (zAn (i := 2) (zA9 (vars := ["name"]) (i := 4) rfl ⟨rfl, rfl, (by kernel_rfl), (by kernel_rfl), (by decide +kernel), ⟨(by kernel_rfl), trivial⟩, (by kernel_rfl)⟩ zHN rfl (Or.inl (by kernel_rfl)) (Jx (vv 2)) (fun _ _ _ _ => (zk (i := 9) zG6 rfl (Or.inl (by kernel_rfl)) (.inr (by kernel_rfl)))) (fun _ _ _ _ => (zEV (jI (yl hr) Zo (jR (qx hr) j6 (vc 3) (vv 9)) zO (jq _)))) (fun _ _ _ _ => (vv 9)) (by kernel_rfl))))
theorem zG1 (hr : RM 1 "ranks" jL A s f cdv) : WS (cX P w K mg base QF "ranks" jL f cdv A outer s H E) Θ0 (bd jL 4) M.QD := by
 unfold M.QD
 exact (zX (i := 5) ZX.nd rfl (Or.inl (by kernel_rfl)) zO)
theorem zGg (z8 : mg "len" = none) (hr : RM 1 "ranks" jL A s f cdv) : WS (cX P w K mg base QF "ranks" jL f cdv A outer s H E) Θ0 (bd jL 5) M.QH := by
 unfold M.QH
 exact (zCr PassesOwn.never (jI zFi zCj (jG qR ZF gk z8 yt (zC (vv 4) zI)) zO (jq _))
  (zG (zX (i := 6) ZX.nd rfl (Or.inl (by kernel_rfl)) (qw zI))
  (zG (qy PassesOwn.never rfl (ZW (vv 4)) (zk (i := 7) ZX.nd rfl (Or.inl (by kernel_rfl)) (.inl rfl))
  (zG (yf hr (vv 2) (vv 7) (vv 5))
  (zN (QJ PassesOwn.never rfl (Z0 PySem.F.plainAttrs_dict PySem.F.slot_dict_get PySem.F.type_dict_get (zBT hr) zB9 rfl (vv 1) (zC (vv 7) (zC ZL zI))) (zk (i := 8) ZX.nd rfl (Or.inl (by kernel_rfl)) (.inl rfl))
  (zG (zIt hr (vc 3) (vv 8) zO zMZ zI7)
  (zN (jp (jI (yl hr) Zo (jR (qx hr) j6 (vc 3) (vv 8)) zO (jq _))
  (zN (QA (Z0 PySem.F.plainAttrs_list PySem.F.slot_list_append PySem.F.type_list_append Q2 Q6 rfl (vv 6) (zC (vv 8) zI))))
  jO)))))))
  (zG (zX (i := 4) ZX.nd rfl (Or.inl (by kernel_rfl)) (vv 6))
  (zN (zJw (i := 5) ZX.nd rfl (Or.inl (by kernel_rfl)) zO zLR zI5))))))
theorem zHK (hr : RM 1 "ranks" jL A s f cdv) : WS (cX P w K mg base QF "ranks" jL f cdv A outer s H E) Θ0 (bd jL 6) M.Q7 := by
 unfold M.Q7
 exact (z7 (vv 2))
theorem zJV (F : Fun K "ranks" "ranks" jL f fd) (Ze : Jg P w K mg base) (QY : zAp P w K mg base) (Zd : mg "dict" = none) (z8 : mg "len" = none) (zCv : mg "set" = none) :
  qA P w K mg base CX0 2 f fd ["needs"] (SpM K Θ0 1 M.zAM) := by
 refine yv (b := M.zC5) F ZX M.zI2 fun cdv A outer s H E hr => ?_
 unfold M.zC5
 exact (zG (zGw Ze hr) (zG (zHP QY Zd hr) (zG (zHA Zd z8 zCv hr) (zG (zHT hr) (zG (zG1 hr) (zG (zGg z8 hr) (zN (zHK hr))))))))
abbrev j1 : Stmt := top 4
abbrev JM : List Str := ["needs", "ranked", "found", "name", "rank"]
theorem Jd : jb JM ["needs"] (zP j1) := ⟨rfl, rfl, rfl, by decide +kernel, rfl, by decide +kernel, by decide +kernel⟩
theorem zHC : (["needs", "ranked", "found", "name", "rank", "more"] : List Str).Nodup := by decide +kernel
theorem zGr (zAX : zC4 P w K mg base) (hr : RM 2 "waves" j1 A s f cdv) : WS (cX P w K mg base JM "waves" j1 f cdv A outer s H E) Θ0 (bd j1 0) M.ZK := by
 unfold M.ZK
 exact (zX (i := 1) Jd.nd rfl (Or.inl (by kernel_rfl)) (zy zAX hr (by decide) gk (zC (vv 0) zI) (zc jY)))
theorem zHD (hr : RM 2 "waves" j1 A s f cdv) : WS (cX P w K mg base JM "waves" j1 f cdv A outer s H E) Θ0 (bd j1 1) M.ZV := by
 unfold M.ZV
 exact (zX (i := 2) Jd.nd rfl (Or.inl (by kernel_rfl)) (qw zI))
theorem zGn (jD : mg "range" = none) (z8 : mg "len" = none) (hr : RM 2 "waves" j1 A s f cdv) : WS (cX P w K mg base JM "waves" j1 f cdv A outer s H E) Θ0 (bd j1 2) M.ZO := by
 unfold M.ZO
 exact (QJ PassesOwn.never rfl (vv 1) (zk (i := 3) Jd.nd rfl (Or.inl (by kernel_rfl)) (.inl rfl))
  (zG (zX (i := 4) Jd.nd rfl (Or.inl (by kernel_rfl)) (jR (qx hr) j6 (vv 1) (vv 3)))
  (zN (jp (zIR (vv 4))
  (zG (QA (Z0 PySem.F.plainAttrs_list PySem.F.slot_list_extend PySem.F.type_list_extend zHx zHh rfl (vv 2) (zC (yw (vars := ["more"]) rfl ⟨rfl, rfl, (by kernel_rfl), (by kernel_rfl), (by decide +kernel), trivial, (by kernel_rfl)⟩ (yc gk jD (zW zEK zCe (zW (OpR.or yL j2) qU (vv 4) zO) (jG qR ZF gk z8 yt (zC (vv 2) zI)))) (fun _ _ _ _ => (zk (i := 5) zHC rfl (Or.inl (by kernel_rfl)) (.inr (by kernel_rfl)))) (fun _ _ _ _ => Zb) (fun _ _ _ _ => (qw zI)) (by kernel_rfl)) zI)))
  (zN (QA (Z0 PySem.F.plainAttrs_list PySem.F.slot_list_append PySem.F.type_list_append Q2 Q6 rfl (jR (qx hr) j6 (vv 2) (vv 4)) (zC (vv 3) zI)))))
  jO))))
theorem zGz (hr : RM 2 "waves" j1 A s f cdv) : WS (cX P w K mg base JM "waves" j1 f cdv A outer s H E) Θ0 (bd j1 3) M.Qz := by
 unfold M.Qz
 exact (z7 (vv 2))
theorem zJH (F : Fun K "waves" "waves" j1 f fd) (zAX : zC4 P w K mg base) (jD : mg "range" = none) (z8 : mg "len" = none) :
  qA P w K mg base CX0 3 f fd ["needs"] (SpM K Θ0 1 M.yu) := by
 refine JY (N := JM) (b := M.zDT) F Jd fun cdv A outer s H E hr => ?_
 unfold M.zDT
 exact (zG (zGr zAX hr) (zG (zHD hr) (zG (zGn jD z8 hr) (zN (zGz hr)))))
abbrev qp : Stmt := top 15
abbrev zCX : List Str := ["_law_found", "_law_known", "_law_k", "_law_wave", "_law_name_here"]
theorem yF : jb zCX ["_law_found"] (zP qp) := ⟨rfl, rfl, rfl, by decide +kernel, rfl, by decide +kernel, by decide +kernel⟩
theorem zBs (F : Fun K "_law_waves_of" "_law_waves_of" qp f fd) (zAL : mg "enumerate" = none) (y8 : mg "sorted" = none) (qQ : mg "isinstance" = none) (q8 : mg "list" = none) (zHW : mg "str" = none) :
  qA P w K mg base CX0 1 f fd ["_law_found"] (SpM K Θ0 1 M.jz) := by
 refine yv (b := M.yY) F yF M.zB0 fun cdv A outer s H E hr => ?_
 unfold M.yY
 exact (zG (zX (i := 1) yF.nd rfl (Or.inl (by kernel_rfl)) ZL)
  (zG (qy PassesOwn.never rfl (zDH gk zAL (vv 0)) (zAy (n := 2) rfl (Zl (zk (i := 2) yF.nd rfl (Or.inl (by kernel_rfl)) (.inl rfl)) (Zl (zk (i := 3) yF.nd rfl (Or.inl (by kernel_rfl)) (.inl rfl)) zBF (fun a b => Qa a b)) (fun a b => Qa a b)) (zGa))
  (zG (jp (ZY (Qp (JX (Z7 (jG zBv zEi gk qQ Q8 (zC (vv 3) (zC (zDO .list gk q8 JL) zI))))) (yh (jI (yl hr) Zo (vv 3) (qw zI) (jq _)))))
  (zN (z7 zAs))
  jO)
  (zG (qy PassesOwn.never rfl (ZW (vv 3)) (zk (i := 4) yF.nd rfl (Or.inl (by kernel_rfl)) (.inl rfl))
  (zG (jp (ZY (Qp (JX (Z7 (jG zBv zEi gk qQ Q8 (zC (vv 4) (zC (zDO .str gk zHW zNS) zI))))) (yh (jI (zHb hr) zKK (vv 4) (vv 1) (by rfl)))))
  (zN (z7 zAs))
  jO)
  (zN (yf hr (vv 1) (vv 4) (vv 2)))))
  (zN (jp (jI (zEq hr) zGi (vv 3) (jG (zEm hr) zIE gk y8 zBC (zC (vv 3) zI)) (jq _))
  (zN (z7 zAs))
  jO)))))
  (zN (z7 (vv 1)))))
abbrev yS : Stmt := top 13
abbrev zEG : List Str := ["_law_handed", "_law_needs_here"]
theorem zCw : jb zEG ["_law_handed", "_law_needs_here"] (zP yS) := ⟨rfl, rfl, rfl, by decide +kernel, rfl, by decide +kernel, by decide +kernel⟩
theorem zCy (F : Fun K "_law_stayed" "_law_stayed" yS f fd) (q8 : mg "list" = none) :
  qA P w K mg base CX0 1 f fd ["_law_handed", "_law_needs_here"] (SpM K Θ0 2 M.yR) := by
 refine yv (b := M.ZD) F zCw M.zCx fun cdv A outer s H E hr => ?_
 unfold M.ZD
 exact (zN (z7 (zJ5 (Qu (yl hr) Zo (yB (JF hr) zBX gk q8 JL (zC (vv 0) zI)) (yB (JF hr) zBX gk q8 JL (zC (vv 1) zI)) (jq _)) (zEs (Qu (yl hr) Zo (vv 0) (vv 1) (jq _))))))
abbrev zj : Stmt := top 16
abbrev yH : List Str := ["_law_known", "_law_needs_here", "_law_name_here", "_law_others", "_law_near", "_law_one"]
theorem ZC : jb yH ["_law_known", "_law_needs_here", "_law_name_here"] (zP zj) := ⟨rfl, rfl, rfl, by decide +kernel, rfl, by decide +kernel, by decide +kernel⟩
theorem zCK : (["_law_known", "_law_needs_here", "_law_name_here", "_law_others", "_law_near", "", "_law_one"] : List Str).Nodup := by decide +kernel
theorem zCE (hr : RM 0 "_law_right" zj A s f cdv) : WS (cX P w K mg base yH "_law_right" zj f cdv A outer s H E) Θ0 (bd zj 0) M.qW := by
 unfold M.qW
 exact (zX (i := 3) ZC.nd rfl (Or.inl (by kernel_rfl)) (Z0 PySem.F.plainAttrs_dict PySem.F.slot_dict_get PySem.F.type_dict_get (zBT hr) zB9 rfl (vv 1) (zC (vv 2) (zC (qw zI) zI))))
theorem zCC (z8 : mg "len" = none) (hr : RM 0 "_law_right" zj A s f cdv) : WS (cX P w K mg base yH "_law_right" zj f cdv A outer s H E) Θ0 (bd zj 1) M.jT := by
 unfold M.jT
 exact (jp (jI (Qy hr) Jn (vv 2) (vc 0) (by rfl))
  (zN (ZS (i := 5) (N := ["_law_known", "_law_needs_here", "_law_name_here", "_law_others", "_law_near", ""]) rfl (z7 (Qu zFi zCj (jG qR ZF gk z8 yt (zC (yw (vars := ["_law_one"]) rfl ⟨rfl, rfl, (by kernel_rfl), (by kernel_rfl), (by decide +kernel), ⟨(by kernel_rfl), trivial⟩, (by kernel_rfl)⟩ (ZW (vv 3)) (fun _ _ _ _ => (zk (i := 6) zCK rfl (Or.inl (by kernel_rfl)) (.inr (by kernel_rfl)))) (fun _ _ _ _ => (zEV (jI (Qy hr) Jn (vv 6) (vc 0) (by rfl)))) (fun _ _ _ _ => (vv 6)) (by kernel_rfl)) zI)) zO (jq _)))))
  jO)
theorem zCi (hr : RM 0 "_law_right" zj A s f cdv) : WS (cX P w K mg base yH "_law_right" zj f cdv A outer s H E) Θ0 (bd zj 2) M.jZ := by
 unfold M.jZ
 exact (jp (jI (yl hr) Zo (jR (qx hr) j6 (vc 0) (vv 2)) zO (jq _))
  (zN (z7 (Qu (yl hr) Zo (vv 3) (qw zI) (jq _))))
  jO)
theorem zCq (hr : RM 0 "_law_right" zj A s f cdv) : WS (cX P w K mg base yH "_law_right" zj f cdv A outer s H E) Θ0 (bd zj 3) M.qd := by
 unfold M.qd
 exact (zX (i := 4) ZC.nd rfl (Or.inl (by kernel_rfl)) yT)
theorem zCc (hr : RM 0 "_law_right" zj A s f cdv) : WS (cX P w K mg base yH "_law_right" zj f cdv A outer s H E) Θ0 (bd zj 4) M.qD := by
 unfold M.qD
 exact (qy PassesOwn.never rfl (ZW (vv 3)) (zk (i := 5) ZC.nd rfl (Or.inl (by kernel_rfl)) (.inl rfl))
  (zG (jp (ZY (Qp (jI (Qy hr) Jn (vv 5) (vc 0) (by rfl)) (yh (jI zOo zOE (jR (qx hr) j6 (vc 0) (vv 5)) (jR (qx hr) j6 (vc 0) (vv 2)) (jq _)))))
  (zN (z7 yT))
  jO)
  (zN (zX (i := 4) ZC.nd rfl (Or.inl (by kernel_rfl)) (zKl (vv 4) (zEs (Qu (yl hr) Zo (jR (qx hr) j6 (vc 0) (vv 5)) (zW zEK zCe (jR (qx hr) j6 (vc 0) (vv 2)) zO) (jq _))))))))
theorem zCM (hr : RM 0 "_law_right" zj A s f cdv) : WS (cX P w K mg base yH "_law_right" zj f cdv A outer s H E) Θ0 (bd zj 5) M.ym := by
 unfold M.ym
 exact (z7 (vv 4))
theorem zD8 (F : Fun K "_law_right" "_law_right" zj f fd) (z8 : mg "len" = none) :
  qA P w K mg base CX0 1 f fd ["_law_known", "_law_needs_here", "_law_name_here"] (SpM K Θ0 3 M.qO) := by
 refine yv (b := M.Ja) F ZC M.zED fun cdv A outer s H E hr => ?_
 unfold M.Ja
 exact (zG (zCE hr) (zG (zCC z8 hr) (zG (zCi hr) (zG (zCq hr) (zG (zCc hr) (zN (zCM hr)))))))
abbrev jv : Stmt := top 17
abbrev Jw : List Str := ["_law_script", "_law_names_here", "_law_needs_here", "_law_handed", "_law_every", "_law_turn", "_law_found", "_law_known", "_law_name_here", "_law_kept", "_law_other", "_law_wave"]
theorem yr : jb Jw ["_law_script"] (zP jv) := ⟨rfl, rfl, rfl, by decide +kernel, rfl, by decide +kernel, by decide +kernel⟩
theorem zJ1 : (["_law_script", "_law_names_here", "_law_needs_here", "_law_handed", "_law_every", "_law_turn", "_law_found", "_law_known", "_law_name_here", "_law_kept", "_law_other", ""] : List Str).Nodup := by decide +kernel
theorem zJe : (["_law_script", "_law_names_here", "_law_needs_here", "_law_handed", "_law_every", "_law_turn", "_law_found", "_law_known", "_law_name_here", "_law_kept", "_law_other", "", "_law_wave"] : List Str).Nodup := by decide +kernel
theorem zI4 : (["_law_script", "_law_names_here", "_law_needs_here", "_law_handed", "_law_every", "_law_turn", "_law_found", "_law_known", "", "_law_kept", "_law_other", "_law_wave", "_law_name_here"] : List Str).Nodup := by decide +kernel
theorem zJJ (Zf : Jh P w K mg base) (hr : RM 3 "law" jv A s f cdv) : WS (cX P w K mg base Jw "law" jv f cdv A outer s H E) Θ0 (bd jv 0) M.Qf := by
 unfold M.Qf
 exact (zX (i := 1) yr.nd rfl (Or.inl (by kernel_rfl)) (zy Zf hr (by decide) gk (zC (vv 0) (zC zO zI)) (zc (zc jY))))
theorem zI6 (Zg : Jj P w K mg base) (hr : RM 3 "law" jv A s f cdv) : WS (cX P w K mg base Jw "law" jv f cdv A outer s H E) Θ0 (bd jv 1) M.Qb := by
 unfold M.Qb
 exact (zX (i := 2) yr.nd rfl (Or.inl (by kernel_rfl)) (zy Zg hr (by decide) gk (zC (vv 0) (zC zO (zC (vv 1) zI))) (zc (zc (zc jY)))))
theorem zI3 (qT : Z2 P w K mg base) (hr : RM 3 "law" jv A s f cdv) : WS (cX P w K mg base Jw "law" jv f cdv A outer s H E) Θ0 (bd jv 2) M.Qt := by
 unfold M.Qt
 exact (zX (i := 3) yr.nd rfl (Or.inl (by kernel_rfl)) (zy qT hr (by decide) gk (zC (vv 2) zI) (zc jY)))
theorem zJv (ya : JD P w K mg base) (hr : RM 3 "law" jv A s f cdv) : WS (cX P w K mg base Jw "law" jv f cdv A outer s H E) Θ0 (bd jv 3) M.Ql := by
 unfold M.Ql
 exact (zX (i := 4) yr.nd rfl (Or.inr (by kernel_rfl)) (zy ya hr (by decide) gk (zC (vv 2) zI) (zc jY)))
theorem zJS (qT : Z2 P w K mg base) (ya : JD P w K mg base) (JS : zDN P w K mg base) (yb : QS P w K mg base) (ZG : Q9 P w K mg base) (Zh : Ji P w K mg base) (jD : mg "range" = none) (q8 : mg "list" = none) (qQ : mg "isinstance" = none) (z8 : mg "len" = none) (hr : RM 3 "law" jv A s f cdv) : WS (cX P w K mg base Jw "law" jv f cdv A outer s H E) Θ0 (bd jv 4) M.Qe := by
 unfold M.Qe
 exact (qy PassesOwn.never rfl (yc gk jD zO) (zk (i := 5) yr.nd rfl (Or.inl (by kernel_rfl)) (.inl rfl))
  (zG (zX (i := 6) yr.nd rfl (Or.inl (by kernel_rfl)) (zy JS hr (by decide) gk (zC (vv 3) zI) (zc jY)))
  (zG (jp (ZY (Qp (JX (Z7 (jG zBv zEi gk qQ Q8 (zC (vv 6) (zC (zDO .list gk q8 JL) zI))))) (yh (JX (Z7 (zy ZG hr (by decide) gk (zC (vv 3) (zC (vv 2) zI)) (zc (zc jY))))))))
  (zN (z7 yT))
  jO)
  (zG (zX (i := 7) yr.nd rfl (Or.inl (by kernel_rfl)) (zy yb hr (by decide) gk (zC (vv 6) zI) (zc jY)))
  (zG (ZS (i := 8) (N := ["_law_script", "_law_names_here", "_law_needs_here", "_law_handed", "_law_every", "_law_turn", "_law_found", "_law_known", "", "_law_kept", "_law_other", "_law_wave"]) rfl (zAn (i := 7) (jp (ZY (Qp (zJP (vv 7)) (yh (Z7 (yw (vars := ["_law_name_here"]) rfl ⟨rfl, rfl, (by kernel_rfl), (by kernel_rfl), (by decide +kernel), ⟨(by kernel_rfl), trivial⟩, (by kernel_rfl)⟩ (Jx (vv 7)) (fun _ _ _ _ => (zk (i := 12) zI4 rfl (Or.inl (by kernel_rfl)) (.inr (by kernel_rfl)))) (fun _ _ _ _ => (zEV (jI (Qy hr) Jn (vv 12) (vc 4) (by rfl)))) (fun _ _ _ _ => (vv 12)) (by kernel_rfl))))))
  (zN (z7 yT))
  jO)))
  (zG (qy PassesOwn.never rfl (ZW (vc 4)) (zk (i := 8) yr.nd rfl (Or.inl (by kernel_rfl)) (.inl rfl))
  (zN (jp (JX (Z7 (zy Zh hr (by decide) gk (zC (vv 7) (zC (vv 2) (zC (vv 8) zI))) (zc (zc (zc jY))))))
  (zN (z7 yT))
  jO)))
  (zG (ZS (i := 11) (N := ["_law_script", "_law_names_here", "_law_needs_here", "_law_handed", "_law_every", "_law_turn", "_law_found", "_law_known", "_law_name_here", "_law_kept", "_law_other", ""]) rfl (zA9 (vars := ["_law_wave"]) (i := 9) rfl ⟨rfl, rfl, (by kernel_rfl), (by kernel_rfl), (by decide +kernel), trivial, (by kernel_rfl)⟩ zJ1 rfl (Or.inl (by kernel_rfl)) (ZW (vv 6)) (fun _ _ _ _ => (zk (i := 12) zJe rfl (Or.inl (by kernel_rfl)) (.inr (by kernel_rfl)))) (fun _ _ _ _ => Zb) (fun _ _ _ _ => (yB (JF hr) zBX gk q8 JL (zC (vv 12) zI))) (by kernel_rfl)))
  (zG (zX (i := 10) yr.nd rfl (Or.inl (by kernel_rfl)) (zy JS hr (by decide) gk (zC (zHX (zIO (jR (qx hr) j6 (vv 1) zO) (qw (zC (zW (OpR.or yL j2) qU (jR (qx hr) j6 (vv 1) zO) zz) zI)) zJO)) zI) (zc jY)))
  (zG (jp (ZY (Qp (jI (zEq hr) zGi (vv 6) (vv 9) (jq _)) (yh (jI (zEq hr) zGi (jG qR ZF gk z8 yt (zC (vv 10) zI)) zO (jq _)))))
  (zN (z7 yT))
  jO)
  (zG (qy PassesOwn.never rfl (ZW (vv 6)) (zk (i := 11) yr.nd rfl (Or.inl (by kernel_rfl)) (.inl rfl))
  (zN (QA (Z0 PySem.F.plainAttrs_list PySem.F.slot_list_append PySem.F.type_list_append Q2 Q6 rfl (vv 11) (zC zz zI)))))
  (zG (QA (Z0 PySem.F.plainAttrs_list PySem.F.slot_list_append PySem.F.type_list_append Q2 Q6 rfl (vv 6) (zC (qw zI) zI)))
  (zG (yf hr (vv 3) (jR (qx hr) j6 (vv 1) zO) (zW (OpR.or yL j2) qU (Z0 PySem.F.plainAttrs_dict PySem.F.slot_dict_get PySem.F.type_dict_get (zBT hr) zB9 rfl (vv 3) (zC (jR (qx hr) j6 (vv 1) zO) (zC (qw zI) zI))) (zAW zFR zCa (vv 1) (QB (zK3 zMf zNN zO)) J8)))
  (zG (zX (i := 2) yr.nd rfl (Or.inl (by kernel_rfl)) (zy qT hr (by decide) gk (zC (vv 3) zI) (zc jY)))
  (zN (zX (i := 4) yr.nd rfl (Or.inr (by kernel_rfl)) (zy ya hr (by decide) gk (zC (vv 2) zI) (zc jY)))))))))))))))))
theorem zJX (hr : RM 3 "law" jv A s f cdv) : WS (cX P w K mg base Jw "law" jv f cdv A outer s H E) Θ0 (bd jv 5) M.zBP := by
 unfold M.zBP
 exact (z7 yT)
theorem zMm (F : Fun K "law" "law" jv f fd) (Zf : Jh P w K mg base) (Zg : Jj P w K mg base) (qT : Z2 P w K mg base) (ya : JD P w K mg base) (JS : zDN P w K mg base) (yb : QS P w K mg base) (ZG : Q9 P w K mg base) (Zh : Ji P w K mg base) (jD : mg "range" = none) (q8 : mg "list" = none) (qQ : mg "isinstance" = none) (z8 : mg "len" = none) :
  qA P w K mg base CX0 4 f fd ["_law_script"] (SpM K Θ0 1 M.zCh) := by
 refine JY (N := Jw) (b := M.zHE) F yr fun cdv A outer s H E hr => ?_
 unfold M.zHE
 exact (zG (zJJ Zf hr) (zG (zI6 Zg hr) (zG (zI3 qT hr) (zG (zJv ya hr) (zG (zJS qT ya JS yb ZG Zh jD q8 qQ z8 hr) (zN (zJX hr)))))))
theorem zMu {l : PySem.W.OpenLaw} {w : World} {K : PySem.W.Frag} {h : Heap} {mg : Str -> Option Value} {fa f1 f2 f3 f4 f5 f6 f7 f8 f9 f10 f11 f12 f13 f14 f15 f16 : Addr} (X : K.In h) (G : h.Ns mainGlobals mg) (hfa : mg "law" = some (.ref fa))
  {od1 an1 od2 an2 od3 an3 od4 an4 od5 an5 od6 an6 od7 an7 od8 an8 od9 an9 od10 an10 od11 an11 od12 an12 od13 an13 od14 an14 od15 an15 od16 an16 : Option Addr} {sl1 sl2 sl3 sl4 sl5 sl6 sl7 sl8 sl9 sl10 sl11 sl12 sl13 sl14 sl15 sl16 : Array (Option Value)} {oc1 kV1 dc1 pm1 cd1 ct1 oc2 kV2 dc2 pm2 cd2 ct2 oc3 kV3 dc3 pm3 cd3 ct3 oc4 kV4 dc4 pm4 cd4 ct4 oc5 kV5 dc5 pm5 cd5 ct5 oc6 kV6 dc6 pm6 cd6 ct6 oc7 kV7 dc7 pm7 cd7 ct7 oc8 kV8 dc8 pm8 cd8 ct8 oc9 kV9 dc9 pm9 cd9 ct9 oc10 kV10 dc10 pm10 cd10 ct10 oc11 kV11 dc11 pm11 cd11 ct11 oc12 kV12 dc12 pm12 cd12 ct12 oc13 kV13 dc13 pm13 cd13 ct13 oc14 kV14 dc14 pm14 cd14 ct14 oc15 kV15 dc15 pm15 cd15 ct15 oc16 kV16 dc16 pm16 cd16 ct16 : Value}
  (a1 : PySem.W.nsIn K mainGlobals "_law_cell" = some (some (.ref f1))) (l1 : K.lookup f1 = some ⟨oc1, od1, .func (PySem.W.fnOf "_law_cell" "_law_cell" (jl ZH) (jK ZH) (zP ZH) .none kV1 dc1 pm1 an1 cd1 ct1), sl1⟩) (c1 : PySem.W.codeIn K cd1 "_law_cell" = true) (k1 : PySem.W.keepIn K (.ref f1) = true)
  (a2 : PySem.W.nsIn K mainGlobals "_law_mixed" = some (some (.ref f2))) (l2 : K.lookup f2 = some ⟨oc2, od2, .func (PySem.W.fnOf "_law_mixed" "_law_mixed" (jl yq) (jK yq) (zP yq) .none kV2 dc2 pm2 an2 cd2 ct2), sl2⟩) (c2 : PySem.W.codeIn K cd2 "_law_mixed" = true) (k2 : PySem.W.keepIn K (.ref f2) = true)
  (a3 : PySem.W.nsIn K mainGlobals "_law_name" = some (some (.ref f3))) (l3 : K.lookup f3 = some ⟨oc3, od3, .func (PySem.W.fnOf "_law_name" "_law_name" (jl zo) (jK zo) (zP zo) .none kV3 dc3 pm3 an3 cd3 ct3), sl3⟩) (c3 : PySem.W.codeIn K cd3 "_law_name" = true) (k3 : PySem.W.keepIn K (.ref f3) = true)
  (a4 : PySem.W.nsIn K mainGlobals "_law_names" = some (some (.ref f4))) (l4 : K.lookup f4 = some ⟨oc4, od4, .func (PySem.W.fnOf "_law_names" "_law_names" (jl zi) (jK zi) (zP zi) .none kV4 dc4 pm4 an4 cd4 ct4), sl4⟩) (c4 : PySem.W.codeIn K cd4 "_law_names" = true) (k4 : PySem.W.keepIn K (.ref f4) = true)
  (a5 : PySem.W.nsIn K mainGlobals "_law_row" = some (some (.ref f5))) (l5 : K.lookup f5 = some ⟨oc5, od5, .func (PySem.W.fnOf "_law_row" "_law_row" (jl Zk) (jK Zk) (zP Zk) .none kV5 dc5 pm5 an5 cd5 ct5), sl5⟩) (c5 : PySem.W.codeIn K cd5 "_law_row" = true) (k5 : PySem.W.keepIn K (.ref f5) = true)
  (a6 : PySem.W.nsIn K mainGlobals "_law_needs" = some (some (.ref f6))) (l6 : K.lookup f6 = some ⟨oc6, od6, .func (PySem.W.fnOf "_law_needs" "_law_needs" (jl z9) (jK z9) (zP z9) .none kV6 dc6 pm6 an6 cd6 ct6), sl6⟩) (c6 : PySem.W.codeIn K cd6 "_law_needs" = true) (k6 : PySem.W.keepIn K (.ref f6) = true)
  (a7 : PySem.W.nsIn K mainGlobals "_law_copied" = some (some (.ref f7))) (l7 : K.lookup f7 = some ⟨oc7, od7, .func (PySem.W.fnOf "_law_copied" "_law_copied" (jl yP) (jK yP) (zP yP) .none kV7 dc7 pm7 an7 cd7 ct7), sl7⟩) (c7 : PySem.W.codeIn K cd7 "_law_copied" = true) (k7 : PySem.W.keepIn K (.ref f7) = true)
  (a8 : PySem.W.nsIn K mainGlobals "_law_all" = some (some (.ref f8))) (l8 : K.lookup f8 = some ⟨oc8, od8, .func (PySem.W.fnOf "_law_all" "_law_all" (jl Zp) (jK Zp) (zP Zp) .none kV8 dc8 pm8 an8 cd8 ct8), sl8⟩) (c8 : PySem.W.codeIn K cd8 "_law_all" = true) (k8 : PySem.W.keepIn K (.ref f8) = true)
  (a9 : PySem.W.nsIn K mainGlobals "needers_of" = some (some (.ref f9))) (l9 : K.lookup f9 = some ⟨oc9, od9, .func (PySem.W.fnOf "needers_of" "needers_of" (jl yo) (jK yo) (zP yo) .none kV9 dc9 pm9 an9 cd9 ct9), sl9⟩) (c9 : PySem.W.codeIn K cd9 "needers_of" = true) (k9 : PySem.W.keepIn K (.ref f9) = true)
  (a10 : PySem.W.nsIn K mainGlobals "names_of" = some (some (.ref f10))) (l10 : K.lookup f10 = some ⟨oc10, od10, .func (PySem.W.fnOf "names_of" "names_of" (jl Zj) (jK Zj) (zP Zj) .none kV10 dc10 pm10 an10 cd10 ct10), sl10⟩) (c10 : PySem.W.codeIn K cd10 "names_of" = true) (k10 : PySem.W.keepIn K (.ref f10) = true)
  (a11 : PySem.W.nsIn K mainGlobals "ranks" = some (some (.ref f11))) (l11 : K.lookup f11 = some ⟨oc11, od11, .func (PySem.W.fnOf "ranks" "ranks" (jl jL) (jK jL) (zP jL) .none kV11 dc11 pm11 an11 cd11 ct11), sl11⟩) (c11 : PySem.W.codeIn K cd11 "ranks" = true) (k11 : PySem.W.keepIn K (.ref f11) = true)
  (a12 : PySem.W.nsIn K mainGlobals "waves" = some (some (.ref f12))) (l12 : K.lookup f12 = some ⟨oc12, od12, .func (PySem.W.fnOf "waves" "waves" (jl j1) (jK j1) (zP j1) .none kV12 dc12 pm12 an12 cd12 ct12), sl12⟩) (c12 : PySem.W.codeIn K cd12 "waves" = true) (k12 : PySem.W.keepIn K (.ref f12) = true)
  (a13 : PySem.W.nsIn K mainGlobals "_law_waves_of" = some (some (.ref f13))) (l13 : K.lookup f13 = some ⟨oc13, od13, .func (PySem.W.fnOf "_law_waves_of" "_law_waves_of" (jl qp) (jK qp) (zP qp) .none kV13 dc13 pm13 an13 cd13 ct13), sl13⟩) (c13 : PySem.W.codeIn K cd13 "_law_waves_of" = true) (k13 : PySem.W.keepIn K (.ref f13) = true)
  (a14 : PySem.W.nsIn K mainGlobals "_law_stayed" = some (some (.ref f14))) (l14 : K.lookup f14 = some ⟨oc14, od14, .func (PySem.W.fnOf "_law_stayed" "_law_stayed" (jl yS) (jK yS) (zP yS) .none kV14 dc14 pm14 an14 cd14 ct14), sl14⟩) (c14 : PySem.W.codeIn K cd14 "_law_stayed" = true) (k14 : PySem.W.keepIn K (.ref f14) = true)
  (a15 : PySem.W.nsIn K mainGlobals "_law_right" = some (some (.ref f15))) (l15 : K.lookup f15 = some ⟨oc15, od15, .func (PySem.W.fnOf "_law_right" "_law_right" (jl zj) (jK zj) (zP zj) .none kV15 dc15 pm15 an15 cd15 ct15), sl15⟩) (c15 : PySem.W.codeIn K cd15 "_law_right" = true) (k15 : PySem.W.keepIn K (.ref f15) = true)
  (a16 : PySem.W.nsIn K mainGlobals "law" = some (some (.ref f16))) (l16 : K.lookup f16 = some ⟨oc16, od16, .func (PySem.W.fnOf "law" "law" (jl jv) (jK jv) (zP jv) .none kV16 dc16 pm16 an16 cd16 ct16), sl16⟩) (c16 : PySem.W.codeIn K cd16 "law" = true) (k16 : PySem.W.keepIn K (.ref f16) = true)
  (z_len : PySem.W.nsIn K mainGlobals "len" = some none)
  (z_range : PySem.W.nsIn K mainGlobals "range" = some none)
  (z_max : PySem.W.nsIn K mainGlobals "max" = some none)
  (z_int : PySem.W.nsIn K mainGlobals "int" = some none)
  (z_list : PySem.W.nsIn K mainGlobals "list" = some none)
  (z_sorted : PySem.W.nsIn K mainGlobals "sorted" = some none)
  (z_dict : PySem.W.nsIn K mainGlobals "dict" = some none)
  (z_set : PySem.W.nsIn K mainGlobals "set" = some none)
  (z_enumerate : PySem.W.nsIn K mainGlobals "enumerate" = some none)
  (z_isinstance : PySem.W.nsIn K mainGlobals "isinstance" = some none)
  (z_str : PySem.W.nsIn K mainGlobals "str" = some none)
  : ∃ fd : FuncData, (∀ (s : Shared) (v : Value), BindsTo s fd ⟨[v], []⟩ [("_law_script", v)]) /\ fd.scope.names.lookup ("_law_script" : Str) = some .local /\ ∀ base : Heap, K.In base -> base.Ns mainGlobals mg -> qA l.prog w K mg base CX0 4 fa fd ["_law_script"] (SpM K Θ0 1 M.zCh) := by
 have e := hfa.symm.trans (PySem.W.mg_of X G a16)
 cases e
 have F1 := qz (x := "_law_cell") (qual := "_law_cell") (st := ZH) l1 c1 k1
 have B1 := F1.binds (ps := ["_law_script", "_law_k"]) fun _ _ _ _ _ _ us hl => match us, hl with | [_, _], _ => rfl
 have F2 := qz (x := "_law_mixed") (qual := "_law_mixed") (st := yq) l2 c2 k2
 have B2 := F2.binds (ps := ["_law_cell_here", "_law_k"]) fun _ _ _ _ _ _ us hl => match us, hl with | [_, _], _ => rfl
 have F3 := qz (x := "_law_name") (qual := "_law_name") (st := zo) l3 c3 k3
 have B3 := F3.binds (ps := ["_law_cell_here", "_law_taken"]) fun _ _ _ _ _ _ us hl => match us, hl with | [_, _], _ => rfl
 have F4 := qz (x := "_law_names") (qual := "_law_names") (st := zi) l4 c4 k4
 have B4 := F4.binds (ps := ["_law_script", "_law_base"]) fun _ _ _ _ _ _ us hl => match us, hl with | [_, _], _ => rfl
 have F5 := qz (x := "_law_row") (qual := "_law_row") (st := Zk) l5 c5 k5
 have B5 := F5.binds (ps := ["_law_cell_here", "_law_k", "_law_shape", "_law_names_here"]) fun _ _ _ _ _ _ us hl => match us, hl with | [_, _, _, _], _ => rfl
 have F6 := qz (x := "_law_needs") (qual := "_law_needs") (st := z9) l6 c6 k6
 have B6 := F6.binds (ps := ["_law_script", "_law_base", "_law_names_here"]) fun _ _ _ _ _ _ us hl => match us, hl with | [_, _, _], _ => rfl
 have F7 := qz (x := "_law_copied") (qual := "_law_copied") (st := yP) l7 c7 k7
 have B7 := F7.binds (ps := ["_law_needs_here"]) fun _ _ _ _ _ _ us hl => match us, hl with | [_], _ => rfl
 have F8 := qz (x := "_law_all") (qual := "_law_all") (st := Zp) l8 c8 k8
 have B8 := F8.binds (ps := ["_law_needs_here"]) fun _ _ _ _ _ _ us hl => match us, hl with | [_], _ => rfl
 have F9 := qz (x := "needers_of") (qual := "needers_of") (st := yo) l9 c9 k9
 have B9 := F9.binds (ps := ["needs"]) fun _ _ _ _ _ _ us hl => match us, hl with | [_], _ => rfl
 have F10 := qz (x := "names_of") (qual := "names_of") (st := Zj) l10 c10 k10
 have B10 := F10.binds (ps := ["needs"]) fun _ _ _ _ _ _ us hl => match us, hl with | [_], _ => rfl
 have F11 := qz (x := "ranks") (qual := "ranks") (st := jL) l11 c11 k11
 have B11 := F11.binds (ps := ["needs"]) fun _ _ _ _ _ _ us hl => match us, hl with | [_], _ => rfl
 have F12 := qz (x := "waves") (qual := "waves") (st := j1) l12 c12 k12
 have B12 := F12.binds (ps := ["needs"]) fun _ _ _ _ _ _ us hl => match us, hl with | [_], _ => rfl
 have F13 := qz (x := "_law_waves_of") (qual := "_law_waves_of") (st := qp) l13 c13 k13
 have B13 := F13.binds (ps := ["_law_found"]) fun _ _ _ _ _ _ us hl => match us, hl with | [_], _ => rfl
 have F14 := qz (x := "_law_stayed") (qual := "_law_stayed") (st := yS) l14 c14 k14
 have B14 := F14.binds (ps := ["_law_handed", "_law_needs_here"]) fun _ _ _ _ _ _ us hl => match us, hl with | [_, _], _ => rfl
 have F15 := qz (x := "_law_right") (qual := "_law_right") (st := zj) l15 c15 k15
 have B15 := F15.binds (ps := ["_law_known", "_law_needs_here", "_law_name_here"]) fun _ _ _ _ _ _ us hl => match us, hl with | [_, _, _], _ => rfl
 have F16 := qz (x := "law") (qual := "law") (st := jv) l16 c16 k16
 have z8 := PySem.W.mg_none_of X G z_len
 have jD := PySem.W.mg_none_of X G z_range
 have zHU := PySem.W.mg_none_of X G z_max
 have zHV := PySem.W.mg_none_of X G z_int
 have q8 := PySem.W.mg_none_of X G z_list
 have y8 := PySem.W.mg_none_of X G z_sorted
 have Zd := PySem.W.mg_none_of X G z_dict
 have zCv := PySem.W.mg_none_of X G z_set
 have zAL := PySem.W.mg_none_of X G z_enumerate
 have qQ := PySem.W.mg_none_of X G z_isinstance
 have zHW := PySem.W.mg_none_of X G z_str
 refine ⟨PySem.W.fnOf "law" "law" (jl jv) (jK jv) (zP jv) .none kV16 dc16 pm16 an16 cd16 ct16, fun s v => .of_eq rfl, by kernel_rfl, fun base _ _ => ?_⟩
 have jP : ye l.prog w K mg base := ⟨⟨_, _, zEl F1 z8, B1, k1, PySem.W.mg_of X G a1⟩⟩
 have zh : j3 l.prog w K mg base := ⟨⟨_, _, zD5 F2, B2, k2, PySem.W.mg_of X G a2⟩⟩
 have Z1 : zAI l.prog w K mg base := ⟨⟨_, _, zEk F3 zh z8 jD, B3, k3, PySem.W.mg_of X G a3⟩⟩
 have Zf : Jh l.prog w K mg base := ⟨⟨_, _, zEI F4 jP Z1 zh jD, B4, k4, PySem.W.mg_of X G a4⟩⟩
 have QX : zAY l.prog w K mg base := ⟨⟨_, _, zFo F5 zh jD zHU z8 zHV, B5, k5, PySem.W.mg_of X G a5⟩⟩
 have Zg : Jj l.prog w K mg base := ⟨⟨_, _, zEJ F6 jP zh QX jD z8, B6, k6, PySem.W.mg_of X G a6⟩⟩
 have qT : Z2 l.prog w K mg base := ⟨⟨_, _, zDW F7 q8, B7, k7, PySem.W.mg_of X G a7⟩⟩
 have ya : JD l.prog w K mg base := ⟨⟨_, _, zFn F8 y8, B8, k8, PySem.W.mg_of X G a8⟩⟩
 have Ze : Jg l.prog w K mg base := ⟨⟨_, _, zD9 F9, B9, k9, PySem.W.mg_of X G a9⟩⟩
 have QY : zAp l.prog w K mg base := ⟨⟨_, _, zFx F10 Zd y8, B10, k10, PySem.W.mg_of X G a10⟩⟩
 have zAX : zC4 l.prog w K mg base := ⟨⟨_, _, zJV F11 Ze QY Zd z8 zCv, B11, k11, PySem.W.mg_of X G a11⟩⟩
 have JS : zDN l.prog w K mg base := ⟨⟨_, _, zJH F12 zAX jD z8, B12, k12, PySem.W.mg_of X G a12⟩⟩
 have yb : QS l.prog w K mg base := ⟨⟨_, _, zBs F13 zAL y8 qQ q8 zHW, B13, k13, PySem.W.mg_of X G a13⟩⟩
 have ZG : Q9 l.prog w K mg base := ⟨⟨_, _, zCy F14 q8, B14, k14, PySem.W.mg_of X G a14⟩⟩
 have Zh : Ji l.prog w K mg base := ⟨⟨_, _, zD8 F15 z8, B15, k15, PySem.W.mg_of X G a15⟩⟩
 exact zMm F16 Zf Zg qT ya JS yb ZG Zh jD q8 qQ z8
theorem zON {l : PySem.W.OpenLaw} {q : Program} {loose : List Str} {XP : (Str -> Option Value) -> Heap -> Prop} {YP : World -> Heap -> Prop} {d : DefRec} {K : Params -> PySem.W.Frag} (hn : l.most = some 63) (hdf : d.params.defaults = [])
  (hY : ∀ (w : World) (h : Heap), YP w h -> (K w.params).In h)
  (F : ∀ (w : World) (mg : Str -> Option Value) (fa : Addr) (h : Heap), (K w.params).In h -> h.Ns mainGlobals mg -> mg d.name = some (.ref fa) ->
   ∃ fd : FuncData, (∀ (s : Shared) (u : Value), BindsTo s fd ⟨[u], []⟩ [("_law_script", u)]) /\ fd.scope.names.lookup ("_law_script" : Str) = some .local /\ ∀ base : Heap, (K w.params).In base -> base.Ns mainGlobals mg -> qA l.prog w (K w.params) mg base CX0 4 fa fd ["_law_script"] (SpM (K w.params) Θ0 1 M.zCh)) :
  PySem.W.WalkO q loose XP YP l.row.toRowW d [] (fun f vs => PySem.call f vs) :=
 L2.zLM (n := 63) (k := 4) (x := "_law_script") (CX := fun _ => CX0) (sp := fun w => SpM (K w.params) Θ0 1 M.zCh) hn (by decide) hdf ⟨rfl, by decide, by decide⟩ hY F (fun _ _ _ _ hl hO hS => zMT M.zIv hl hO hS) fun _ _ _ _ _ z => z
end My
open PySem PySem.W PyProof.Rows
set_option maxRecDepth 100000 in
set_option maxHeartbeats 0 in
theorem PySem.Challenge.cw_thingyard_k65_waves_holds : PySem.Challenge.rw_thingyard_k65_waves.Holds := by
 w_on; o_law; k_head; (case hw => w_witness2)
 k_fill
 refine My.zON (l := PySem.Challenge.rw_thingyard_k65_waves) rfl rfl (fun w h Y => PySem.W.kIn_of Y) ?F
 case F =>
  intro w mg fa h KX G hmg
  refine' My.zMu KX G hmg ?a1 ?l1 ?c1 ?k1 ?a2 ?l2 ?c2 ?k2 ?a3 ?l3 ?c3 ?k3 ?a4 ?l4 ?c4 ?k4 ?a5 ?l5 ?c5 ?k5 ?a6 ?l6 ?c6 ?k6 ?a7 ?l7 ?c7 ?k7 ?a8 ?l8 ?c8 ?k8 ?a9 ?l9 ?c9 ?k9 ?a10 ?l10 ?c10 ?k10 ?a11 ?l11 ?c11 ?k11 ?a12 ?l12 ?c12 ?k12 ?a13 ?l13 ?c13 ?k13 ?a14 ?l14 ?c14 ?k14 ?a15 ?l15 ?c15 ?k15 ?a16 ?l16 ?c16 ?k16 ?z_len ?z_range ?z_max ?z_int ?z_list ?z_sorted ?z_dict ?z_set ?z_enumerate ?z_isinstance ?z_str
  (case a1 => k_is)
  (case l1 => k_is)
  (case c1 => k_is)
  (case k1 => k_is)
  (case a2 => k_is)
  (case l2 => k_is)
  (case c2 => k_is)
  (case k2 => k_is)
  (case a3 => k_is)
  (case l3 => k_is)
  (case c3 => k_is)
  (case k3 => k_is)
  (case a4 => k_is)
  (case l4 => k_is)
  (case c4 => k_is)
  (case k4 => k_is)
  (case a5 => k_is)
  (case l5 => k_is)
  (case c5 => k_is)
  (case k5 => k_is)
  (case a6 => k_is)
  (case l6 => k_is)
  (case c6 => k_is)
  (case k6 => k_is)
  (case a7 => k_is)
  (case l7 => k_is)
  (case c7 => k_is)
  (case k7 => k_is)
  (case a8 => k_is)
  (case l8 => k_is)
  (case c8 => k_is)
  (case k8 => k_is)
  (case a9 => k_is)
  (case l9 => k_is)
  (case c9 => k_is)
  (case k9 => k_is)
  (case a10 => k_is)
  (case l10 => k_is)
  (case c10 => k_is)
  (case k10 => k_is)
  (case a11 => k_is)
  (case l11 => k_is)
  (case c11 => k_is)
  (case k11 => k_is)
  (case a12 => k_is)
  (case l12 => k_is)
  (case c12 => k_is)
  (case k12 => k_is)
  (case a13 => k_is)
  (case l13 => k_is)
  (case c13 => k_is)
  (case k13 => k_is)
  (case a14 => k_is)
  (case l14 => k_is)
  (case c14 => k_is)
  (case k14 => k_is)
  (case a15 => k_is)
  (case l15 => k_is)
  (case c15 => k_is)
  (case k15 => k_is)
  (case a16 => k_is)
  (case l16 => k_is)
  (case c16 => k_is)
  (case k16 => k_is)
  (case z_len => k_is)
  (case z_range => k_is)
  (case z_max => k_is)
  (case z_int => k_is)
  (case z_list => k_is)
  (case z_sorted => k_is)
  (case z_dict => k_is)
  (case z_set => k_is)
  (case z_enumerate => k_is)
  (case z_isinstance => k_is)
  (case z_str => k_is)
