import PyProof.Rows.All
import Wide.All
import OpenK.AllK
import Wide.FinOn
import Lean
import PyProof.EqAt
import PyProof.EqKinds
import PyProof.TupleCall
import PySem.Challenge.RW_thingyard_k62_rings_known
set_option Elab.async false
set_option linter.all false
set_option maxRecDepth 100000
namespace L2
open PySem PySem.Spec PyProof.Rows
abbrev Key := Sum Int Str
def keyIs : Key → Value → Bool
  | .inl k, v => Value.isInt k v
  | .inr x, v => Value.isStrOf x v
def keyH (w : World) : Key → Int
  | .inl k => hashInt k
  | .inr x => hashStr w x
theorem keyIs_shape : ∀ {k : Key} {v : Value}, keyIs k v = true → (∃ i t, k = Sum.inl i ∧ v = Value.int i t) ∨ (∃ x t, k = Sum.inr x ∧ v = Value.str x t)
  | .inl i, v, h => by
    obtain ⟨t, e⟩ := Value.isInt_shape (k := i) (v := v) h
    exact .inl ⟨i, t, rfl, e⟩
  | .inr x, v, h => by
    obtain ⟨t, e⟩ := Value.isStrOf_shape (x := x) (v := v) h
    exact .inr ⟨x, t, rfl, e⟩
theorem keyIs_int (i : Int) (t : Tok) : keyIs (.inl i) (.int i t) = true := by simp [keyIs, Value.isInt]
theorem keyIs_str (x : Str) (t : Tok) : keyIs (.inr x) (.str x t) = true := by simp [keyIs, Value.isStrOf]
theorem key_ll (a b : Int) : decide ((Sum.inl a : Key) = Sum.inl b) = (a == b) := by
  by_cases e : a = b
  · subst e; simp
  · have h : ¬ (Sum.inl a : Key) = Sum.inl b := fun q => e (Sum.inl.inj q)
    rw [decide_eq_false h]
    exact (beq_eq_false_iff_ne.mpr e).symm
theorem key_rr (a b : Str) : decide ((Sum.inr a : Key) = Sum.inr b) = decide (a = b) := by
  by_cases e : a = b
  · subst e; simp
  · have h : ¬ (Sum.inr a : Key) = Sum.inr b := fun q => e (Sum.inr.inj q)
    rw [decide_eq_false h, decide_eq_false e]
theorem key_lr (a : Int) (b : Str) : decide ((Sum.inl a : Key) = Sum.inr b) = false := decide_eq_false (fun q => nomatch q)
theorem key_rl (a : Str) (b : Int) : decide ((Sum.inr a : Key) = Sum.inl b) = false := decide_eq_false (fun q => nomatch q)
def mixKind (prog : Program) (w : World) : PySem.KeyKind prog w Key where
  is := keyIs
  hash := keyH w
  inj := fun v a b ha hb => by
    rcases keyIs_shape ha with ⟨i, t, rfl, rfl⟩ | ⟨x, t, rfl, rfl⟩
    · rcases keyIs_shape hb with ⟨j, u, rfl, e⟩ | ⟨y, u, rfl, e⟩
      · injection e with e1 _; rw [e1]
      · exact nomatch e
    · rcases keyIs_shape hb with ⟨j, u, rfl, e⟩ | ⟨y, u, rfl, e⟩
      · exact nomatch e
      · injection e with e1 _; rw [e1]
  byValue := fun k v h => by
    rcases keyIs_shape h with ⟨i, t, rfl, rfl⟩ | ⟨x, t, rfl, rfl⟩ <;> rfl
  pyHash := fun hv h => by
    rcases keyIs_shape hv with ⟨i, t, rfl, rfl⟩ | ⟨x, t, rfl, rfl⟩
    · exact wpAny_pyHash_int h
    · exact wpAny_pyHash_str h
  eqBool := fun hu hv h => by
    rcases keyIs_shape hu with ⟨i, t, rfl, rfl⟩ | ⟨x, t, rfl, rfl⟩
    · rcases keyIs_shape hv with ⟨j, u, rfl, rfl⟩ | ⟨y, u, rfl, rfl⟩
      · rw [key_ll] at h; exact wpAny_eqBool_int h
      · rw [key_lr] at h; exact SeqAt.EqAt.int_str i t y u _ _ _ _ h
    · rcases keyIs_shape hv with ⟨j, u, rfl, rfl⟩ | ⟨y, u, rfl, rfl⟩
      · rw [key_rl] at h; exact SeqAt.EqAt.str_int x t j u _ _ _ _ h
      · rw [key_rr] at h; exact wpAny_eqBool_str h
  «strs» := fun k x t v h => by
    rcases keyIs_shape h with ⟨i, u, rfl, e⟩ | ⟨y, u, rfl, e⟩
    · exact nomatch e
    · injection e with e1 _
      subst e1
      cases v <;> rfl
theorem mixKind_int (prog : Program) (w : World) (i : Int) (t : Tok) : (mixKind prog w).is (.inl i) (.int i t) = true := keyIs_int i t
theorem mixKind_str (prog : Program) (w : World) (x : Str) (t : Tok) : (mixKind prog w).is (.inr x) (.str x t) = true := keyIs_str x t
end L2
namespace L2
open PySem PySem.Spec PyProof.Rows
inductive V where
  | non | bl (b : Bool) | int (i : Int) | str (x : Str) | byt (b : Array UInt8) | flt (b : UInt64) | ref (a : Addr) | ty (n : String)
  deriving DecidableEq
def RelV : V → Value → Prop
  | .non, u => u = Value.none
  | .bl b, u => u = Value.bool b
  | .int i, u => ∃ t, u = Value.int i t
  | .str x, u => ∃ t, u = Value.str x t
  | .byt b, u => ∃ t, u = Value.bytes b t
  | .flt b, u => ∃ t, u = Value.float b t
  | .ref a, u => u = Value.ref a
  | .ty n, u => u = Value.type n
abbrev Vals : List V → List Value → Prop := Paired RelV
theorem Vals.length {xs : List V} {us : List Value} (r : Vals xs us) : xs.length = us.length := Paired.length r
theorem Vals.get : ∀ {xs : List V} {us : List Value} {i : Nat} {x : V}, Vals xs us → xs[i]? = some x → ∃ u, us[i]? = some u ∧ RelV x u
  | _, _, _, _, .nil, e => by simp at e
  | _, _, 0, _, .cons r _, e => by simp at e; subst e; exact ⟨_, rfl, r⟩
  | _, _, i + 1, x, .cons _ t, e => by
    obtain ⟨u, h1, h2⟩ := Vals.get (i := i) (x := x) t (by simpa using e)
    exact ⟨u, by simpa using h1, h2⟩
theorem Vals.set {x : V} {u : Value} (r : RelV x u) : ∀ {xs : List V} {us : List Value} (i : Nat), Vals xs us → Vals (xs.set i x) (us.set i u)
  | _, _, _, .nil => .nil
  | _, _, 0, .cons _ t => .cons r t
  | _, _, i + 1, .cons q t => .cons q (Vals.set r i t)
theorem Vals.append : ∀ {xs ys : List V} {us ws : List Value}, Vals xs us → Vals ys ws → Vals (xs ++ ys) (us ++ ws)
  | _, _, _, _, .nil, s => s
  | _, _, _, _, .cons r t, s => .cons r (Vals.append t s)
theorem Vals.take : ∀ {xs : List V} {us : List Value} (n : Nat), Vals xs us → Vals (xs.take n) (us.take n)
  | _, _, 0, _ => .nil
  | _, _, _ + 1, .nil => .nil
  | _, _, n + 1, .cons r t => .cons r (Vals.take n t)
theorem Vals.drop : ∀ {xs : List V} {us : List Value} (n : Nat), Vals xs us → Vals (xs.drop n) (us.drop n)
  | _, _, 0, r => r
  | _, _, _ + 1, .nil => .nil
  | _, _, n + 1, .cons _ t => Vals.drop n t
def RelO : Option V → Option Value → Prop
  | some v, some u => RelV v u
  | none, none => True
  | _, _ => False
def KV {κ : Type} : List (κ × V) → List (κ × Value) → Prop := Paired fun (p : κ × V) (q : κ × Value) => p.1 = q.1 ∧ RelV p.2 q.2
def kV : Key → V
  | .inl i => .int i
  | .inr x => .str x
inductive HO where
  | lst (xs : List V)
  | tup (xs : List V)
  | dK (kvs : List (Key × V)) | dT (kvs : List (List Key × V))
  | set (S : Int → Bool) (n : Nat)
  | ins (C dx : Addr) (fs : List (Str × V))
  | own (x : Addr)
  | xd (fs : List (Str × V))
  | met (f x : Addr)
  | rng (lo hi : Int)
  | frz (o : Obj) (u : HO)
  | tbl (ps : Array Value)
  | ext (φ : Heap → Prop)
abbrev Hp := Addr → Option HO
def upd (H : Hp) (a : Addr) (o : HO) : Hp := fun b => if b = a then some o else H b
theorem upd_same {H : Hp} {a : Addr} {o : HO} : upd H a o a = some o := by unfold upd; rw [if_pos rfl]
theorem upd_ne {H : Hp} {a b : Addr} {o : HO} (h : b ≠ a) : upd H a o b = H b := by unfold upd; rw [if_neg h]
theorem ne_of {H : Hp} {a b : Addr} {o u : HO} (h : H a = some o) (h' : H b = some u) (d : o ≠ u) : a ≠ b := by
  intro e; subst e; rw [h] at h'; exact d (Option.some.inj h')
theorem ne_of_none {H : Hp} {a b : Addr} {o : HO} (h : H a = some o) (h' : H b = none) : a ≠ b := by
  intro e; subst e; rw [h] at h'; cases h'
section
variable (P : Program) (w : World)
def ObjOk (H : Hp) (h : Heap) (a : Addr) : HO → Prop
  | .lst xs => xs.length ≤ sizeLine ∧ ∃ (its : List Value) (n : Nat), Vals xs its ∧ h.get? a = some { cls := .type "list", data := .seq its.toArray n }
  | .tup xs => xs.length ≤ sizeLine ∧ ∃ its : List Value, Vals xs its ∧ IsTup h a its.toArray
  | .dK kvs => kvs.length ≤ sizeLine ∧ (a == sysModules) = false ∧ ∃ vs, KV kvs vs ∧ h.DictOf (mixKind P w) a vs
  | .dT kvs => kvs.length ≤ sizeLine ∧ (a == sysModules) = false ∧ ∃ xs : List (List Key × Addr × Value),
      Paired (fun (p : List Key × V) (q : List Key × Addr × Value) => p.1 = q.1 ∧ H q.2.1 = some (.tup (p.1.map kV)) ∧ RelV p.2 q.2.2) kvs xs ∧
      ∃ o es ep, h.get? a = some o ∧ o.ExactDict ∧ o.data = .dict es ep ∧ es.toList = xs.map (entryOfKey (tupleKind (mixKind P w))) ∧ (xs.map (·.1)).Nodup
  | .set S n => h.SetOf (intKind P w) a S n
  | .ins C dx fs => H dx = some (.own a) ∧ fs.length ≤ 1000 ∧ dx ≠ a ∧ h.get? a = some (PySem.W.instObj C dx) ∧
      ∃ mA, h.Ns1 dx mA ∧ (∀ f, RelO (fs.lookup f) (mA f)) ∧ PySem.Within mA (fs.map (·.1))
  | .own _ => ∃ o, h.get? a = some o
  | .xd fs => ∃ mA, h.Ns1 a mA ∧ ∀ f, RelO (fs.lookup f) (mA f)
  | .rng lo hi => ∃ t u v, h.get? a = some { cls := .type "range", data := .fields #[.int lo t, .int hi u, .int 1 v] }
  | .frz o u => h.get? a = some o ∧ ObjOk H h a u
  | .tbl ps => h.get? a = some { cls := .none, data := .fields ps }
  | .met f x => h.get? a = some (PySem.W.methodObj (.ref f) (.ref x))
  | .ext φ => φ h ∧ (∃ o, h.get? a = some o) ∧ ∀ h1 h2 : Heap, φ h1 → (∀ o, h1.get? a = some o → h2.get? a = some o) → φ h2
def HOk (H : Hp) (h : Heap) : Prop := ∀ a o, H a = some o → ObjOk P w H h a o
end
section
variable {P : Program} {w : World} {H H' : Hp} {h h' : Heap} {a : Addr} {o : HO}
theorem ObjOk.lt (x : ObjOk P w H h a o) : a < h.objs.size := by
  cases o with
  | lst xs => obtain ⟨_, _, _, _, e⟩ := x; exact Heap.lt_size e
  | tup xs => obtain ⟨_, _, _, p⟩ := x; exact p.lt
  | dK kvs => obtain ⟨_, _, _, _, o, _, _, e, _⟩ := x; exact Heap.lt_size e
  | dT kvs => obtain ⟨_, _, _, _, o, _, _, e, _⟩ := x; exact Heap.lt_size e
  | set S n => obtain ⟨o, _, _, _, e, _⟩ := x; exact Heap.lt_size e
  | ins C dx fs => obtain ⟨_, _, _, e, _⟩ := x; exact Heap.lt_size e
  | own y => obtain ⟨_, e⟩ := x; exact Heap.lt_size e
  | xd fs => obtain ⟨_, ⟨_, _, _, e, _⟩, _⟩ := x; exact Heap.lt_size e
  | rng lo hi => obtain ⟨_, _, _, e⟩ := x; exact Heap.lt_size e
  | frz ob u => obtain ⟨e, _⟩ := x; exact Heap.lt_size e
  | tbl ps => exact Heap.lt_size (show h.get? a = some _ from x)
  | met f y => exact Heap.lt_size (show h.get? a = some _ from x)
  | ext φ => obtain ⟨_, ⟨_, e⟩, _⟩ := x; exact Heap.lt_size e
theorem Paired.mapP {α β : Type} {F G : α → β → Prop} : ∀ {l₁ : List α} {l₂ : List β}, Paired F l₁ l₂ → (∀ a b, F a b → G a b) → Paired G l₁ l₂
  | _, _, .nil, _ => .nil
  | _, _, .cons r t, f => .cons (f _ _ r) (Paired.mapP t f)
theorem ObjOk.stay (x : ObjOk P w H h a o) (k : ∀ b u, (b = a ∨ H b = some (.own a)) → h.get? b = some u → h'.get? b = some u)
    (ho : ∀ b, H b = some (.own a) → H' b = some (.own a)) (ht : ∀ b xs, H b = some (.tup xs) → H' b = some (.tup xs)) : ObjOk P w H' h' a o := by
  induction o with
  | lst xs => obtain ⟨z, its, n, r, e⟩ := x; exact ⟨z, its, n, r, k _ _ (.inl rfl) e⟩
  | tup xs => obtain ⟨z, its, r, ob, e, c⟩ := x; exact ⟨z, its, r, ob, k _ _ (.inl rfl) e, c⟩
  | dK kvs => obtain ⟨z, y, vs, r, ob, es, ep, e, c⟩ := x; exact ⟨z, y, vs, r, ob, es, ep, k _ _ (.inl rfl) e, c⟩
  | dT kvs =>
    obtain ⟨z, y, xs, r, ob, es, ep, e, c⟩ := x
    exact ⟨z, y, xs, Paired.mapP r fun p q z => ⟨z.1, ht _ _ z.2.1, z.2.2⟩, ob, es, ep, k _ _ (.inl rfl) e, c⟩
  | set S n => obtain ⟨ob, es, ep, t, e, c⟩ := x; exact ⟨ob, es, ep, t, k _ _ (.inl rfl) e, c⟩
  | ins C dx fs =>
    obtain ⟨d, z, ne, e, mA, ⟨od, es, ep, e2, c⟩, r⟩ := x
    exact ⟨ho _ d, z, ne, k _ _ (.inl rfl) e, mA, ⟨od, es, ep, k _ _ (.inr d) e2, c⟩, r⟩
  | own y => obtain ⟨ob, e⟩ := x; exact ⟨ob, k _ _ (.inl rfl) e⟩
  | xd fs => obtain ⟨mA, ⟨od, es, ep, e, c⟩, r⟩ := x; exact ⟨mA, ⟨od, es, ep, k _ _ (.inl rfl) e, c⟩, r⟩
  | rng lo hi => obtain ⟨t, u, v, e⟩ := x; exact ⟨t, u, v, k _ _ (.inl rfl) e⟩
  | frz ob u ih => obtain ⟨e, q⟩ := x; exact ⟨k _ _ (.inl rfl) e, ih q⟩
  | tbl ps =>
    have e : h.get? a = some { cls := .none, data := .fields ps } := x
    show h'.get? a = some { cls := .none, data := .fields ps }
    exact k a _ (.inl rfl) e
  | met f y =>
    have e : h.get? a = some (PySem.W.methodObj (.ref f) (.ref y)) := x
    show h'.get? a = some (PySem.W.methodObj (.ref f) (.ref y))
    exact k a _ (.inl rfl) e
  | ext φ => obtain ⟨p, ⟨o, e⟩, st⟩ := x; exact ⟨st _ _ p fun o q => k _ _ (.inl rfl) q, ⟨o, k _ _ (.inl rfl) e⟩, st⟩
theorem HOk.lt (x : HOk P w H h) (e : H a = some o) : a < h.objs.size := (x a o e).lt
theorem HOk.fresh (x : HOk P w H h) (e : h.objs.size ≤ a) : H a = none := by
  cases q : H a with
  | none => rfl
  | some u => exact absurd (Nat.lt_of_lt_of_le (x.lt q) e) (Nat.lt_irrefl _)
theorem HOk.kept (x : HOk P w H h) (k : ∀ b u, h.get? b = some u → h'.get? b = some u) : HOk P w H h' := fun a o e =>
  (x a o e).stay (fun b u _ q => k b u q) (fun _ q => q) fun _ _ q => q
theorem HOk.laid (x : HOk P w H h) (k : ∀ b u, h.get? b = some u → h'.get? b = some u) (hp : h.objs.size ≤ a) (new : ObjOk P w (upd H a o) h' a o) : HOk P w (upd H a o) h' := fun b u e => by
  have hn := x.fresh hp
  by_cases hb : b = a
  · subst hb; rw [upd_same] at e; cases e; exact new
  · rw [upd_ne hb] at e
    exact (x b u e).stay (fun c v _ q => k c v q) (fun c q => by rw [upd_ne (ne_of_none q hn)]; exact q) fun c xs q => by rw [upd_ne (ne_of_none q hn)]; exact q
end
def Rd (H : Hp) (a : Addr) (u : HO) : Prop := H a = some u ∨ ∃ o, H a = some (.frz o u)
theorem Rd.ok {P : Program} {w : World} {H : Hp} {h : Heap} {a : Addr} {u : HO} (r : Rd H a u) (x : HOk P w H h) : ObjOk P w H h a u := by
  rcases r with r | ⟨o, r⟩
  · exact x a u r
  · obtain ⟨_, q⟩ := x a _ r
    exact q
def Mut : Option HO → Prop
  | some (.lst _) => True
  | some (.dK _) => True
  | some (.dT _) => True
  | some (.set _ _) => True
  | some (.ins _ _ _) => True
  | some (.ext _) => True
  | _ => False
section
variable {P : Program} {w : World} {H : Hp} {h h' : Heap} {x e : Addr} {o' : HO}
theorem HOk.write (ok : HOk P w H h) (mu : Mut (H x)) (he : e = x ∨ H e = some (.own x)) (k : ∀ b u, b ≠ e → h.get? b = some u → h'.get? b = some u) (heo : ∃ u, h'.get? e = some u)
    (new : ObjOk P w (upd H x o') h' x o') : HOk P w (upd H x o') h' := fun b u q => by
  have nown : ∀ c y, H c = some (.own y) → c ≠ x := fun c y r z => by subst z; rw [r] at mu; exact mu
  have ntup : ∀ c xs, H c = some (.tup xs) → c ≠ x := fun c xs r z => by subst z; rw [r] at mu; exact mu
  by_cases hb : b = x
  · subst hb; rw [upd_same] at q; cases q; exact new
  · rw [upd_ne hb] at q
    by_cases hbe : b = e
    · have q' : H b = some (.own x) := by
        rcases he with z | z
        · exact absurd (hbe.trans z) hb
        · rw [hbe]; exact z
      rw [q] at q'; cases q'
      obtain ⟨v, hv⟩ := heo
      exact ⟨v, by rw [hbe]; exact hv⟩
    · refine (ok b u q).stay (fun c v hc r => k c v ?_ r) (fun c r => by rw [upd_ne (nown c b r)]; exact r) fun c xs r => by rw [upd_ne (ntup c xs r)]; exact r
      rcases hc with rfl | hc
      · exact hbe
      · rintro rfl
        rcases he with z | z
        · exact nown c b hc z
        · rw [hc] at z; cases z; exact hb rfl
end
structure Un (fs ex : List Addr) (H H' : Hp) (h h' : Heap) : Prop where
  keep : ∀ b o, h.get? b = some o → H b = none → b ∉ fs → b ∉ ex → h'.get? b = some o
  slot : ∀ b o, h.get? b = some o → H b = none → b ∈ fs → b ∉ ex → ∃ sl, h'.get? b = some { o with slots := sl }
  free : ∀ b o, h.get? b = some o → H b = none → b ∉ ex → H' b = none
  there : ∀ b o, h.get? b = some o → b ∉ ex → ∃ o', h'.get? b = some o'
  tups : ∀ b xs, H b = some (.tup xs) → H' b = some (.tup xs)
  frzs : ∀ b o u, H b = some (.frz o u) → H' b = some (.frz o u)
  tbls : ∀ b ps, H b = some (.tbl ps) → ∃ more, H' b = some (.tbl (ps ++ more))
section
variable {fs fs' ex ex' : List Addr} {H H1 H2 : Hp} {h h1 h2 h' : Heap} {a x e : Addr} {o : HO}
theorem Un.any (u : Un fs ex H H1 h h1) {b : Addr} {ob : Obj} (q : h.get? b = some ob) (n : H b = none) (hx : b ∉ ex) : ∃ sl, h1.get? b = some { ob with slots := sl } := by
  by_cases hb : b ∈ fs
  · exact u.slot b ob q n hb hx
  · exact ⟨ob.slots, u.keep b ob q n hb hx⟩
theorem Un.kept (k : ∀ b u, h.get? b = some u → h'.get? b = some u) : Un fs ex H H h h' :=
  ⟨fun b ob q _ _ _ => k b ob q, fun b ob q _ _ _ => ⟨ob.slots, k b ob q⟩, fun _ _ _ n _ => n, fun b ob q _ => ⟨ob, k b ob q⟩, fun _ _ q => q, fun _ _ _ q => q, fun _ ps q => ⟨#[], by rw [q]; simp⟩⟩
theorem Un.refl : Un fs ex H H h h := Un.kept fun _ _ q => q
theorem Un.laid (k : ∀ b u, h.get? b = some u → h'.get? b = some u) (hp : h.objs.size ≤ a) (hn : H a = none) : Un fs ex H (upd H a o) h h' where
  keep := fun b u q _ _ _ => k b u q
  slot := fun b u q _ _ _ => ⟨u.slots, k b u q⟩
  free := fun b u q n _ => by rw [upd_ne (Nat.ne_of_lt (Nat.lt_of_lt_of_le (Heap.lt_size q) hp))]; exact n
  there := fun b u q _ => ⟨u, k b u q⟩
  tups := fun b xs q => by rw [upd_ne (ne_of_none q hn)]; exact q
  frzs := fun b u xs q => by rw [upd_ne (ne_of_none q hn)]; exact q
  tbls := fun b ps q => ⟨#[], by rw [upd_ne (ne_of_none q hn), q]; simp⟩
theorem Un.write (mu : Mut (H x)) (he : e = x ∨ H e = some (.own x)) (k : ∀ b u, b ≠ e → h.get? b = some u → h'.get? b = some u) (heo : ∃ u, h'.get? e = some u) : Un fs ex H (upd H x o) h h' := by
  have hx : ∀ b, H b = none → b ≠ x := fun b n z => by subst z; rw [n] at mu; exact mu
  have hb : ∀ b, H b = none → b ≠ e := fun b n z => by
    subst z
    rcases he with r | r
    · exact hx b n r
    · rw [n] at r; cases r
  have hm : ∀ b u, H b = some u → ¬ Mut (some u) → b ≠ x := fun b u q nm z => by subst z; rw [q] at mu; exact nm mu
  refine ⟨fun b u q n _ _ => k b u (hb b n) q, fun b u q n _ _ => ⟨u.slots, k b u (hb b n) q⟩, fun b u q n _ => by rw [upd_ne (hx b n)]; exact n, fun b u q _ => ?_,
    fun b xs q => by rw [upd_ne (hm b _ q fun z => z)]; exact q, fun b u xs q => by rw [upd_ne (hm b _ q fun z => z)]; exact q, fun b ps q => ⟨#[], by rw [upd_ne (hm b _ q fun z => z), q]; simp⟩⟩
  by_cases hbe : b = e
  · subst hbe; exact heo
  · exact ⟨u, k b u hbe q⟩
end
def trk (h : Heap) (H : Hp) : List Addr := (List.range h.objs.size).filter fun a => (H a).isSome
def hidT (h : Heap) (H : Hp) : Heap := PySem.W.hideAll h (trk h H)
theorem hidT_size (h : Heap) (H : Hp) : (hidT h H).objs.size = h.objs.size := PySem.W.hideAll_size _ _
theorem hidT_get {h : Heap} {H : Hp} {b : Addr} {o : Obj} (e : h.get? b = some o) (n : H b = none) : (hidT h H).get? b = some o :=
  PySem.W.hideAll_get _ e fun hm => by
    have q : (H b).isSome = true := (List.mem_filter.mp hm).2
    rw [n] at q; simp at q
theorem of_hidT {h : Heap} {H : Hp} {b : Addr} {o : Obj} (e : (hidT h H).get? b = some o) : h.get? b = some o ∧ H b = none := by
  have e' : h.get? b = some o := PySem.W.of_hideAll (trk h H) e
  refine ⟨e', ?_⟩
  cases q : H b with
  | none => rfl
  | some x =>
    have hm : b ∈ trk h H := List.mem_filter.mpr ⟨List.mem_range.mpr (Heap.lt_size e'), by simp [q]⟩
    have z : (hidT h H).get? b = none := PySem.W.hideAll_none (trk h H) hm
    rw [z] at e; cases e
def allNews (g h : Heap) (L : Addr) : List (Addr × Obj) := (List.range h.objs.size).filterMap fun a => if a = L ∨ (g.get? a).isSome = true then none else (h.get? a).map fun o => (a, o)
def rest (g h : Heap) (L d : Addr) : List (Addr × Obj) := (allNews g h L).filter fun p => decide (p.1 ≠ d)
end L2
namespace L2
open PySem PySem.Spec PyProof.Rows
structure Mod (K : PySem.W.Frag) (mg : Str → Option Value) (base : Heap) : Prop where
  kin : K.In base
  glob : base.Ns mainGlobals mg
  blt : ∃ mb, base.Ns builtinsNs mb ∧ ∀ x : Str, x ≠ "__name__" → mb x = bootBuiltins x
  nolimit : base.NoLimit
structure Cx where
  prog : Program
  w : World
  K : PySem.W.Frag
  mg : Str → Option Value
  base : Heap
  A : Around
  N : List Str
  s₀ : Shared
  H₀ : Hp
  env : Env
  outer : List Env
  stack : List Env
  ex : List Addr
  fn : Str → Bool
  calm : Bool
  pn : List (Addr × Obj)
  xe : Value → Shared → Prop
def frs (l : List Env) : List Addr := l.filterMap (·.frame)
abbrev Cx.fs (X : Cx) : List Addr := frs X.outer
def Vis (sc : Scope) (x : Str) : Prop := sc.names.lookup x = some .local ∨ sc.names.lookup x = some .cell ∨ sc.names.lookup x = some .free
def Loc (sc : Scope) (x : Str) : Prop := sc.names.lookup x = some .local ∨ sc.names.lookup x = some .cell
def Look (env : Env) (h : Heap) (m : Str → Option Value) (x : Str) (u : Value) : Prop :=
  (env.kindOf x = some .local ∧ m x = some u) ∨ ((env.kindOf x = some .cell ∨ env.kindOf x = some .free) ∧ ∃ c, env.cells.lookup x = some c ∧ h.IsCell c (some u))
structure Cx.Ok (X : Cx) : Prop where
  mod : Mod X.K X.mg X.base
  kind : X.env.scope.kind = .function
  glob : X.env.globals = mainGlobals
  blt : X.env.builtins = builtinsNs
  above : X.s₀.heap.objs.size ≤ X.env.locals
  inj : ∀ x y c, X.env.cells.lookup x = some c → X.env.cells.lookup y = some c → x = y
  has : ∀ x, (X.env.kindOf x = some .cell ∨ X.env.kindOf x = some .free) → ∃ c, X.env.cells.lookup x = some c
  cab : ∀ x c, X.fn x = true → X.env.cells.lookup x = some c → X.s₀.heap.objs.size ≤ c
  hd : X.calm = true → X.A.handled = none
  frames : X.A.frames = some X.stack
  stk : X.stack = X.outer ∨ (X.stack = X.env :: X.outer ∧ X.env.frame = some X.env.locals)
  exf : ∀ b ∈ X.ex, b ≠ X.env.locals ∧ ∀ x c, X.env.cells.lookup x = some c → c ≠ b
  bs : ∀ b o, X.base.get? b = some o → X.s₀.heap.get? b = some o ∧ X.H₀ b = none
  bsz : X.base.objs.size ≤ X.s₀.heap.objs.size
  noex : ∀ b o, X.base.get? b = some o → b ∉ X.ex
  exfs : ∀ b ∈ X.ex, b ∉ X.fs
  funs : X.s₀.heap.FunFrames X.base X.outer
  frf : ∀ b ∈ X.fs, X.H₀ b = none
structure Inv (X : Cx) (pins : List (Addr × Obj)) (σ : List (Option V)) (H : Hp) (s : Shared) : Prop where
  ok : X.Ok
  os : s.os = X.s₀.os
  bare : AllBare s.gens
  base : Un X.fs X.ex X.H₀ H X.s₀.heap s.heap
  loc : ∃ m, s.heap.Ns X.env.locals m ∧ ∀ (i : Nat) (x : Str) (v : V), X.N[i]? = some x → σ[i]? = some (some v) → Vis X.env.scope x → ∃ u, RelV v u ∧ Look X.env s.heap m x u
  cell : ∀ x c, X.env.cells.lookup x = some c → ∃ v, s.heap.IsCell c v
  free : H X.env.locals = none
  freeC : ∀ x c, X.env.cells.lookup x = some c → H c = none
  pin : ∀ p ∈ X.pn ++ pins, s.heap.get? p.1 = some p.2 ∧ H p.1 = none ∧ p.1 ≠ X.env.locals ∧ p.1 ∉ X.fs ∧ ∀ v, p.2.data ≠ .cell v
  hok : HOk X.prog X.w H s.heap
  len : σ.length = X.N.length
  tk : 0 < s.toks
section
variable {X : Cx} {pins : List (Addr × Obj)} {σ : List (Option V)} {H H' : Hp} {s : Shared} {h' : Heap}
theorem Cx.Ok.nofr (ok : X.Ok) {b : Addr} {o : Obj} (e : X.base.get? b = some o) : b ∉ X.fs := fun hb => by
  have := (ok.funs.mem hb).1
  rw [e] at this; cases this
theorem Inv.bs (I : Inv X pins σ H s) : ∀ b o, X.base.get? b = some o → s.heap.get? b = some o ∧ H b = none := fun b o e =>
  ⟨I.base.keep b o (I.ok.bs b o e).1 (I.ok.bs b o e).2 (I.ok.nofr e) (I.ok.noex b o e), I.base.free b o (I.ok.bs b o e).1 (I.ok.bs b o e).2 (I.ok.noex b o e)⟩
theorem Inv.bk (I : Inv X pins σ H s) : ∀ b o, X.base.get? b = some o → s.heap.get? b = some o := fun b o e => (I.bs b o e).1
theorem Inv.mod (I : Inv X pins σ H s) : Mod X.K X.mg X.base := I.ok.mod
theorem Inv.kIn (I : Inv X pins σ H s) : X.K.In s.heap := I.ok.mod.kin.keeps I.bk
theorem Inv.fr (I : Inv X pins σ H s) : ∃ m, Fr X.base X.env.locals s.heap m :=
  let ⟨m, hn, _⟩ := I.loc
  ⟨m, hn, I.bk, Nat.le_trans I.ok.bsz I.ok.above⟩
theorem Inv.lt (I : Inv X pins σ H s) : X.env.locals < s.heap.objs.size := let ⟨_, hn, _⟩ := I.loc; hn.lt
theorem Inv.sz (I : Inv X pins σ H s) : X.s₀.heap.objs.size ≤ s.heap.objs.size := Nat.le_trans I.ok.above (Nat.le_of_lt I.lt)
theorem Inv.nofs (I : Inv X pins σ H s) {a : Addr} (h : s.heap.objs.size ≤ a) : a ∉ X.fs := fun hb => by
  obtain ⟨_, o, ho, _⟩ := I.ok.funs.mem hb
  exact absurd (Nat.lt_of_lt_of_le (Heap.lt_size ho) (Nat.le_trans I.sz h)) (Nat.lt_irrefl _)
theorem Inv.cne (I : Inv X pins σ H s) : ∀ x c, X.env.cells.lookup x = some c → c ≠ X.env.locals := fun x c e z => by
  obtain ⟨v, o, ho, hd⟩ := I.cell x c e
  obtain ⟨m, ⟨o', es, ep, ho', hd', _⟩, _⟩ := I.loc
  rw [z, ho'] at ho; cases ho; rw [hd'] at hd; cases hd
theorem Inv.funs (I : Inv X pins σ H s) : s.heap.FunFrames X.base X.outer := by
  have all : ∀ (l : List Env), (∀ b ∈ frs l, b ∈ X.fs) → X.s₀.heap.FunFrames X.base l → s.heap.FunFrames X.base l := by
    intro l
    induction l with
    | nil => intro _ _; trivial
    | cons env r ih =>
      intro hs hl
      obtain ⟨hk, ⟨L, o, hf, hn, ho, hd⟩, hr⟩ := hl
      have hL : L ∈ X.fs := hs L (by unfold frs; rw [List.filterMap_cons, hf]; exact List.mem_cons_self)
      obtain ⟨sl, e⟩ := I.base.slot L o ho (I.ok.frf L hL) hL fun z => I.ok.exfs L z hL
      exact ⟨hk, ⟨L, _, hf, hn, e, hd⟩, ih (fun b hb => hs b (by unfold frs; rw [List.filterMap_cons, hf]; exact List.mem_cons_of_mem _ hb)) hr⟩
  exact all X.outer (fun _ hb => hb) I.ok.funs
theorem Inv.stack (I : Inv X pins σ H s) : s.heap.FunFrames X.base X.stack := by
  rcases I.ok.stk with e | ⟨e, hf⟩
  · rw [e]; exact I.funs
  · rw [e]
    obtain ⟨m, hn, _⟩ := I.loc
    refine .cons (by rw [I.ok.kind]; decide) hf hn ?_ I.funs
    exact Heap.get?_none_of_le (Nat.le_trans I.ok.bsz I.ok.above)
theorem Inv.stkSub (I : Inv X pins σ H s) : ∀ b ∈ frs X.stack, b ∈ X.env.locals :: X.fs := fun b hb => by
  rcases I.ok.stk with e | ⟨e, hf⟩
  · rw [e] at hb; exact List.mem_cons_of_mem _ hb
  · rw [e] at hb
    unfold frs at hb
    rw [List.filterMap_cons, hf] at hb
    exact hb
theorem Inv.stkFree (I : Inv X pins σ H s) : ∀ b ∈ frs X.stack, H b = none := fun b hb => by
  rcases List.mem_cons.mp (I.stkSub b hb) with e | hb
  · rw [e]; exact I.free
  · obtain ⟨_, o, ho, _⟩ := I.ok.funs.mem hb
    exact I.base.free b o ho (I.ok.frf b hb) fun z => I.ok.exfs b z hb
theorem Inv.step {g' : Array GenState} {t' : Nat} {d' : Drawn} {ch : List Addr} (I : Inv X pins σ H s)
    (hch : ∀ b ∈ ch, (b ∈ X.ex ∨ X.s₀.heap.objs.size ≤ b) ∧ b ≠ X.env.locals ∧ (∀ x c, X.env.cells.lookup x = some c → c ≠ b) ∧ ∀ p ∈ X.pn ++ pins, p.1 ≠ b)
    (keep : ∀ b o, b ≠ X.env.locals → b ∉ X.fs → b ∉ ch → s.heap.get? b = some o → H b = none → h'.get? b = some o)
    (slot : ∀ b o, b ≠ X.env.locals → b ∈ X.fs → b ∉ ch → s.heap.get? b = some o → H b = none → ∃ sl, h'.get? b = some { o with slots := sl }) (free : ∀ b o, b ∉ ch → s.heap.get? b = some o → H b = none → H' b = none)
    (there : ∀ b o, b ∉ ch → s.heap.get? b = some o → ∃ o', h'.get? b = some o')
    (tups : ∀ b xs, H b = some (.tup xs) → H' b = some (.tup xs)) (frzs : ∀ b o u, H b = some (.frz o u) → H' b = some (.frz o u)) (tbls : ∀ b ps, H b = some (.tbl ps) → ∃ more, H' b = some (.tbl (ps ++ more)))
    (ns : ∀ m, s.heap.Ns X.env.locals m → h'.Ns X.env.locals m) (hok : HOk X.prog X.w H' h') (hg : AllBare g') (ht : 0 < t' := by first | exact Nat.succ_pos _ | assumption | exact Inv.tk (by assumption) | omega) :
    Inv X pins σ H' { s with heap := h', gens := g', drawn := d', toks := t' } := by
  have neL : ∀ b o, X.s₀.heap.get? b = some o → b ≠ X.env.locals := fun b o e => Nat.ne_of_lt (Nat.lt_of_lt_of_le (Heap.lt_size e) I.ok.above)
  have neC : ∀ b o, X.s₀.heap.get? b = some o → b ∉ X.ex → b ∉ ch := fun b o e hx hb => by
    rcases (hch b hb).1 with z | z
    · exact hx z
    · exact absurd (Nat.lt_of_lt_of_le (Heap.lt_size e) z) (Nat.lt_irrefl _)
  have cellK : ∀ x c, X.env.cells.lookup x = some c → ∀ v, s.heap.IsCell c v → h'.IsCell c v := fun x c e v ⟨o, ho, hd⟩ => by
    have nch : c ∉ ch := fun z => (hch c z).2.2.1 x c e rfl
    by_cases hc : c ∈ X.fs
    · obtain ⟨sl, q⟩ := slot c o (I.cne x c e) hc nch ho (I.freeC x c e)
      exact ⟨_, q, hd⟩
    · exact ⟨o, keep c o (I.cne x c e) hc nch ho (I.freeC x c e), hd⟩
  refine ⟨I.ok, I.os, hg, ⟨fun b o e n hb hx => ?_, fun b o e n hb hx => ?_, fun b o e n hx => ?_, fun b o e hx => ?_, fun b xs e => tups b xs (I.base.tups b xs e), fun b o xs e => frzs b o xs (I.base.frzs b o xs e), fun b ps e => ?_⟩, ?_, fun x c e => ?_, ?_, fun x c e => ?_, fun p hp => ?_, hok, I.len, ht⟩
  · exact keep b o (neL b o e) hb (neC b o e hx) (I.base.keep b o e n hb hx) (I.base.free b o e n hx)
  · obtain ⟨sl, e1⟩ := I.base.slot b o e n hb hx
    obtain ⟨sl', e2⟩ := slot b _ (neL b o e) hb (neC b o e hx) e1 (I.base.free b o e n hx)
    exact ⟨sl', e2⟩
  · obtain ⟨o', e1⟩ := I.base.there b o e hx
    exact free b o' (neC b o e hx) e1 (I.base.free b o e n hx)
  · obtain ⟨o', e1⟩ := I.base.there b o e hx
    exact there b o' (neC b o e hx) e1
  · obtain ⟨m1, e1⟩ := I.base.tbls b ps e
    obtain ⟨m2, e2⟩ := tbls b _ e1
    exact ⟨m1 ++ m2, by rw [e2, Array.append_assoc]⟩
  · obtain ⟨m, hn, hl⟩ := I.loc
    refine ⟨m, ns m hn, fun i x v e1 e2 e3 => ?_⟩
    obtain ⟨u, r, l⟩ := hl i x v e1 e2 e3
    refine ⟨u, r, ?_⟩
    rcases l with l | ⟨k, c, e, z⟩
    · exact .inl l
    · exact .inr ⟨k, c, e, cellK x c e _ z⟩
  · obtain ⟨v, z⟩ := I.cell x c e
    exact ⟨v, cellK x c e v z⟩
  · obtain ⟨m, ⟨o, _, _, ho, _⟩, _⟩ := I.loc
    exact free _ o (fun z => (hch _ z).2.1 rfl) ho I.free
  · obtain ⟨v, o, ho, hd⟩ := I.cell x c e
    exact free c o (fun z => (hch c z).2.2.1 x c e rfl) ho (I.freeC x c e)
  · obtain ⟨e, n, ne, nf, d⟩ := I.pin p hp
    have nch : p.1 ∉ ch := fun z => (hch p.1 z).2.2.2 p hp rfl
    exact ⟨keep p.1 p.2 ne nf nch e n, free p.1 p.2 nch e n, ne, nf, d⟩
theorem Inv.un {t' : Nat} (I : Inv X pins σ H s) (u : Un X.fs [] H H' s.heap h') (hok : HOk X.prog X.w H' h') (ht : 0 < t' := by first | exact Nat.succ_pos _ | assumption | exact Inv.tk (by assumption) | omega) : Inv X pins σ H' { s with heap := h', toks := t' } := by
  obtain ⟨m, ⟨o, es, ep, ho, r⟩, _⟩ := id I.loc
  obtain ⟨sl, hL⟩ := u.any ho I.free (by simp)
  exact I.step (g' := s.gens) (d' := s.drawn) (ch := []) (fun _ z => nomatch z) (fun b o _ hb _ e n => u.keep b o e n hb (by simp)) (fun b o _ hb _ e n => u.slot b o e n hb (by simp)) (fun b o _ e n => u.free b o e n (by simp)) (fun b o _ e => u.there b o e (by simp)) u.tups u.frzs u.tbls (fun m' hm => by
    obtain ⟨o', es', ep', ho', r'⟩ := hm
    rw [ho] at ho'; cases ho'
    exact ⟨_, es', ep', hL, r'⟩) hok I.bare ht
theorem Inv.call {g' : Array GenState} {t' : Nat} {d' : Drawn} {ch : List Addr} (I : Inv X pins σ H s) (u : Un (frs X.stack) ch H H' s.heap h') (hok : HOk X.prog X.w H' h') (hg : AllBare g')
    (hch : ∀ b ∈ ch, (b ∈ X.ex ∨ X.s₀.heap.objs.size ≤ b) ∧ b ≠ X.env.locals ∧ (∀ x c, X.env.cells.lookup x = some c → c ≠ b) ∧ ∀ p ∈ X.pn ++ pins, p.1 ≠ b) (ht : 0 < t' := by first | exact Nat.succ_pos _ | assumption | exact Inv.tk (by assumption) | omega) :
    Inv X pins σ H' { s with heap := h', gens := g', drawn := d', toks := t' } := by
  obtain ⟨m, ⟨o, es, ep, ho, r⟩, _⟩ := id I.loc
  obtain ⟨sl, hL⟩ := u.any ho I.free fun z => (hch _ z).2.1 rfl
  exact I.step (ch := ch) hch (fun b o hL hb hc e n => u.keep b o e n (fun z => (List.mem_cons.mp (I.stkSub b z)).elim hL hb) hc) (fun b o _ _ hc e n => u.any e n hc) (fun b o hc e n => u.free b o e n hc) (fun b o hc e => u.there b o e hc) u.tups u.frzs u.tbls (fun m' hm => by
    obtain ⟨o', es', ep', ho', r'⟩ := hm
    rw [ho] at ho'; cases ho'
    exact ⟨_, es', ep', hL, r'⟩) hok hg ht
theorem Inv.turned {t' : Nat} {it : Addr} (I : Inv X pins σ H s) (k : ∀ b o, b ≠ it → s.heap.get? b = some o → h'.get? b = some o) (hn : H it = none) (hL : it ≠ X.env.locals)
    (h1 : it ∈ X.ex ∨ X.s₀.heap.objs.size ≤ it) (h2 : ∀ x c, X.env.cells.lookup x = some c → c ≠ it) (h3 : ∀ p ∈ X.pn ++ pins, p.1 ≠ it) (ht : 0 < t' := by first | exact Nat.succ_pos _ | assumption | exact Inv.tk (by assumption) | omega) : Inv X pins σ H { s with heap := h', toks := t' } := by
  have nit : ∀ b u, H b = some u → b ≠ it := fun b u e z => by rw [z, hn] at e; cases e
  refine I.step (g' := s.gens) (d' := s.drawn) (ch := [it]) (fun b hb => ?_) (fun b o _ _ hc e _ => k b o (fun z => hc (by simp [z])) e) (fun b o _ _ hc e _ => ⟨o.slots, k b o (fun z => hc (by simp [z])) e⟩) (fun _ _ _ _ n => n)
    (fun b o hc e => ⟨o, k b o (fun z => hc (by simp [z])) e⟩) (fun _ _ e => e) (fun _ _ _ e => e) (fun b ps e => ⟨#[], by rw [e]; simp⟩) (fun m hm => ?_) (fun b u e => ?_) I.bare ht
  · have e : b = it := by simpa using hb
    subst e
    exact ⟨h1, hL, h2, h3⟩
  · obtain ⟨o, es, ep, ho, r⟩ := hm
    exact ⟨o, es, ep, k _ o (Ne.symm hL) ho, r⟩
  · refine (I.hok b u e).stay (fun c v hc q => k c v ?_ q) (fun _ q => q) fun _ _ q => q
    rcases hc with z | z
    · rw [z]; exact nit b u e
    · exact nit c _ z
theorem Inv.tok (I : Inv X pins σ H s) (t : Nat) (ht : 0 < t := by first | exact Nat.succ_pos _ | assumption | exact Inv.tk (by assumption) | omega) : Inv X pins σ H { s with toks := t } := I.un (h' := s.heap) (t' := t) Un.refl I.hok ht
theorem Inv.kept {t' : Nat} (I : Inv X pins σ H s) (k : ∀ b u, s.heap.get? b = some u → h'.get? b = some u) (ht : 0 < t' := by first | exact Nat.succ_pos _ | assumption | exact Inv.tk (by assumption) | omega) : Inv X pins σ H { s with heap := h', toks := t' } := I.un (Un.kept k) (I.hok.kept k) ht
theorem Inv.laid {a : Addr} {o : HO} {t' : Nat} (I : Inv X pins σ H s) (k : ∀ b u, s.heap.get? b = some u → h'.get? b = some u) (hp : s.heap.objs.size ≤ a) (new : ObjOk X.prog X.w (upd H a o) h' a o) (ht : 0 < t' := by first | exact Nat.succ_pos _ | assumption | exact Inv.tk (by assumption) | omega) :
    Inv X pins σ (upd H a o) { s with heap := h', toks := t' } := I.un (Un.laid k hp (I.hok.fresh hp)) (I.hok.laid k hp new) ht
theorem Inv.write {x e : Addr} {o : HO} {t' : Nat} (I : Inv X pins σ H s) (mu : Mut (H x)) (he : e = x ∨ H e = some (.own x)) (k : ∀ b u, b ≠ e → s.heap.get? b = some u → h'.get? b = some u) (heo : ∃ u, h'.get? e = some u)
    (new : ObjOk X.prog X.w (upd H x o) h' x o) (ht : 0 < t' := by first | exact Nat.succ_pos _ | assumption | exact Inv.tk (by assumption) | omega) : Inv X pins σ (upd H x o) { s with heap := h', toks := t' } := I.un (Un.write mu he k heo) (I.hok.write mu he k heo new) ht
theorem Inv.weak {σ' : List (Option V)} (I : Inv X pins σ H s) (hl : σ'.length = σ.length) (w : ∀ (i : Nat) v, σ'[i]? = some (some v) → σ[i]? = some (some v)) : Inv X pins σ' H s :=
  ⟨I.ok, I.os, I.bare, I.base, let ⟨m, hn, hl'⟩ := I.loc; ⟨m, hn, fun i x v e1 e2 e3 => hl' i x v e1 (w i v e2) e3⟩, I.cell, I.free, I.freeC, I.pin, I.hok, hl.trans I.len, I.tk⟩
theorem Inv.pins_of {pins' : List (Addr × Obj)} (I : Inv X pins σ H s) (h : ∀ p ∈ pins', s.heap.get? p.1 = some p.2 ∧ H p.1 = none ∧ p.1 ≠ X.env.locals ∧ p.1 ∉ X.fs ∧ ∀ v, p.2.data ≠ .cell v) : Inv X pins' σ H s :=
  ⟨I.ok, I.os, I.bare, I.base, I.loc, I.cell, I.free, I.freeC, fun p hp => (List.mem_append.mp hp).elim (fun z => I.pin p (List.mem_append_left _ z)) (h p), I.hok, I.len, I.tk⟩
theorem nodup_ix {N : List Str} (hN : N.Nodup) {i j : Nat} {x : Str} (a : N[i]? = some x) (b : N[j]? = some x) : i = j := by
  obtain ⟨h1, e1⟩ := List.getElem?_eq_some_iff.mp a
  obtain ⟨h2, e2⟩ := List.getElem?_eq_some_iff.mp b
  exact (List.getElem_inj hN).mp (e1.trans e2.symm)
theorem store_ok2 {M : Model} {A : Around} {E : Value → Shared → Prop} {i : Nat} {x : Str} {v : V} {u : Value} {Q : Unit → Shared → Prop} (I : Inv X pins σ H s) (hN : X.N.Nodup) (hi : X.N[i]? = some x) (hx : Loc X.env.scope x) (r : RelV v u)
    (h : ∀ s', Inv X pins (σ.set i (some v)) H s' → (∃ a, Heap.SameBut a s.heap s'.heap ∧ (a = X.env.locals ∨ X.env.cells.lookup x = some a)) → Q () s') (hf : X.fn x = true ∨ X.env.scope.names.lookup x = some .local := by first | exact .inl rfl | exact .inr rfl | assumption) : wpAny M A (storeName X.env x u) Q E s := by
  obtain ⟨m, hn, hl⟩ := id I.loc
  have hcls : (X.env.scope.kind == .class || (X.env.scope.kind == .module && X.env.locals != X.env.globals)) = false := by rw [I.ok.kind]; rfl
  have hiσ : i < σ.length := by rw [I.len]; exact (List.getElem?_eq_some_iff.mp hi).1
  have cne := I.cne
  have tracked : ∀ {a : Addr} {h' : Heap}, (∃ o, s.heap.get? a = some o ∧ H a = none) → Heap.SameBut a s.heap h' → HOk X.prog X.w H h' := fun {a h'} ha hs b ob e => by
    obtain ⟨_, _, hfree⟩ := ha
    refine (I.hok b ob e).stay (fun c w' hc q => (hs.2 c ?_).trans q) (fun _ q => q) fun _ _ q => q
    rintro rfl
    rcases hc with rfl | hc
    · rw [hfree] at e; cases e
    · rw [hfree] at hc; cases hc
  rcases hx with hk | hk
  · refine wpAny_storeName_local hk hn (fun h' hn' hs => ?_) hcls
    obtain ⟨oL, _, _, hoL, _⟩ := id hn
    refine h _ ⟨I.ok, I.os, I.bare, ⟨fun b o e n hb hx => ?_, fun b o e n hb hx => ?_, I.base.free, fun b o e hx => ?_, I.base.tups, I.base.frzs, I.base.tbls⟩, ⟨_, hn', fun j y v' e1 e2 e3 => ?_⟩, fun y c e => ?_, I.free, I.freeC, fun p hp => ?_, tracked ⟨oL, hoL, I.free⟩ hs, by simpa using I.len, Nat.succ_pos _⟩ ⟨_, hs, .inl rfl⟩
    · exact (hs.2 b (Nat.ne_of_lt (Nat.lt_of_lt_of_le (Heap.lt_size e) I.ok.above))).trans (I.base.keep b o e n hb hx)
    · obtain ⟨sl, e1⟩ := I.base.slot b o e n hb hx
      exact ⟨sl, (hs.2 b (Nat.ne_of_lt (Nat.lt_of_lt_of_le (Heap.lt_size e) I.ok.above))).trans e1⟩
    · obtain ⟨o', e1⟩ := I.base.there b o e hx
      exact ⟨o', (hs.2 b (Nat.ne_of_lt (Nat.lt_of_lt_of_le (Heap.lt_size e) I.ok.above))).trans e1⟩
    · by_cases hj : j = i
      · subst hj
        rw [hi] at e1; cases e1
        rw [List.getElem?_set_self hiσ] at e2
        cases e2
        exact ⟨u, r, .inl ⟨hk, by simp⟩⟩
      · rw [List.getElem?_set_ne (Ne.symm hj)] at e2
        obtain ⟨u', r', q⟩ := hl j y v' e1 e2 e3
        refine ⟨u', r', ?_⟩
        rcases q with ⟨k, e⟩ | ⟨k, c, e, z⟩
        · refine .inl ⟨k, ?_⟩
          have : y ≠ x := fun e => hj (nodup_ix hN e1 (e ▸ hi))
          simp [this, e]
        · exact .inr ⟨k, c, e, z.sameBut hs (cne y c e)⟩
    · obtain ⟨w', z⟩ := I.cell y c e
      exact ⟨w', z.sameBut hs (cne y c e)⟩
    · obtain ⟨e, n, ne, nf, d⟩ := I.pin p hp
      exact ⟨(hs.2 p.1 ne).trans e, n, ne, nf, d⟩
  · have hfn : X.fn x = true := by
      rcases hf with z | z
      · exact z
      · rw [z] at hk; cases hk
    obtain ⟨c, hc⟩ := I.ok.has x (.inl hk)
    obtain ⟨w', z⟩ := I.cell x c hc
    refine wpAny_storeName_cell I.ok.kind hk hc z (fun h' hc' hs => ?_)
    obtain ⟨oc, hoc, hocd⟩ := id z
    refine h { s with heap := h' } ⟨I.ok, I.os, I.bare, ⟨fun b o e n hb hx => ?_, fun b o e n hb hx => ?_, I.base.free, fun b o e hx => ?_, I.base.tups, I.base.frzs, I.base.tbls⟩, ⟨m, hn.sameBut hs (Ne.symm (cne x c hc)), fun j y v' e1 e2 e3 => ?_⟩, fun y c' e => ?_, I.free, I.freeC, fun p hp => ?_, tracked ⟨oc, hoc, I.freeC x c hc⟩ hs, by simpa using I.len, I.tk⟩ ⟨c, hs, .inr hc⟩
    · exact (hs.2 b (Nat.ne_of_lt (Nat.lt_of_lt_of_le (Heap.lt_size e) (I.ok.cab x c hfn hc)))).trans (I.base.keep b o e n hb hx)
    · obtain ⟨sl, e1⟩ := I.base.slot b o e n hb hx
      exact ⟨sl, (hs.2 b (Nat.ne_of_lt (Nat.lt_of_lt_of_le (Heap.lt_size e) (I.ok.cab x c hfn hc)))).trans e1⟩
    · obtain ⟨o', e1⟩ := I.base.there b o e hx
      exact ⟨o', (hs.2 b (Nat.ne_of_lt (Nat.lt_of_lt_of_le (Heap.lt_size e) (I.ok.cab x c hfn hc)))).trans e1⟩
    · by_cases hj : j = i
      · subst hj
        rw [hi] at e1; cases e1
        rw [List.getElem?_set_self hiσ] at e2
        cases e2
        exact ⟨u, r, .inr ⟨.inl hk, c, hc, hc'⟩⟩
      · rw [List.getElem?_set_ne (Ne.symm hj)] at e2
        obtain ⟨u', r', q⟩ := hl j y v' e1 e2 e3
        refine ⟨u', r', ?_⟩
        rcases q with q | ⟨k, c', e, z'⟩
        · exact .inl q
        · refine .inr ⟨k, c', e, z'.sameBut hs ?_⟩
          rintro rfl
          exact hj (nodup_ix hN e1 (I.ok.inj _ _ _ e hc ▸ hi))
    · by_cases hcc : c' = c
      · subst hcc; exact ⟨_, hc'⟩
      · obtain ⟨w2, z2⟩ := I.cell y c' e
        exact ⟨w2, z2.sameBut hs hcc⟩
    · obtain ⟨e, n, ne, nf, d⟩ := I.pin p hp
      refine ⟨(hs.2 p.1 ?_).trans e, n, ne, nf, d⟩
      intro q
      rw [q, hoc] at e
      have q' : oc = p.2 := Option.some.inj e
      exact d w' (by rw [← q']; exact hocd)
theorem store_ok {M : Model} {A : Around} {E : Value → Shared → Prop} {i : Nat} {x : Str} {v : V} {u : Value} {Q : Unit → Shared → Prop} (I : Inv X pins σ H s) (hN : X.N.Nodup) (hi : X.N[i]? = some x) (hx : Loc X.env.scope x) (r : RelV v u)
    (h : ∀ s', Inv X pins (σ.set i (some v)) H s' → Q () s') (hf : X.fn x = true ∨ X.env.scope.names.lookup x = some .local := by first | exact .inl rfl | exact .inr rfl | assumption) : wpAny M A (storeName X.env x u) Q E s :=
  store_ok2 I hN hi hx r (fun s' I' _ => h s' I') hf
theorem Inv.call' {s' : Shared} {ch : List Addr} (I : Inv X pins σ H s) (ho : s'.os = s.os) (u : Un (frs X.stack) ch H H' s.heap s'.heap) (hok : HOk X.prog X.w H' s'.heap) (hg : AllBare s'.gens)
    (hch : ∀ b ∈ ch, (b ∈ X.ex ∨ X.s₀.heap.objs.size ≤ b) ∧ b ≠ X.env.locals ∧ (∀ x c, X.env.cells.lookup x = some c → c ≠ b) ∧ ∀ p ∈ X.pn ++ pins, p.1 ≠ b) (ht : 0 < s'.toks) : Inv X pins σ H' s' := by
  obtain ⟨h', g', d', t', o'⟩ := s'
  have e : o' = s.os := ho
  subst e
  exact I.call (g' := g') (t' := t') (d' := d') u hok hg hch ht
end
abbrev XK := Value → Option Addr → Hp → Prop
abbrev St := List (Option V)
abbrev VK := V → Hp → Prop
abbrev TE := St → Hp → VK → Prop
abbrev TT := St → Hp → (Bool → Hp → Prop) → Prop
abbrev TA := St → Hp → (List V → Hp → Prop) → Prop
structure Ends where
  nx : St → Hp → Prop
  rt : VK
  bk : St → Hp → Prop := fun _ _ => False
  ct : St → Hp → Prop := fun _ _ => False
abbrev TS := Ends → St → Hp → Prop
def EP (X : Cx) (pins : List (Addr × Obj)) (σ : St) (Q : VK) (u : Value) (s' : Shared) : Prop := ∃ v H', Inv X pins σ H' s' ∧ RelV v u ∧ Q v H'
def TP (X : Cx) (pins : List (Addr × Obj)) (σ : St) (Q : Bool → Hp → Prop) (b : Bool) (s' : Shared) : Prop := ∃ H', Inv X pins σ H' s' ∧ Q b H'
def AP (X : Cx) (pins : List (Addr × Obj)) (σ : St) (Q : List V → Hp → Prop) (us : List Value) (s' : Shared) : Prop := ∃ vs H', Inv X pins σ H' s' ∧ Vals vs us ∧ Q vs H'
def SP (X : Cx) (pins : List (Addr × Obj)) (D : Ends) (f : Flow) (s' : Shared) : Prop :=
  match f with
  | .next => ∃ σ' H', Inv X pins σ' H' s' ∧ D.nx σ' H'
  | .brk => ∃ σ' H', Inv X pins σ' H' s' ∧ D.bk σ' H'
  | .cont => ∃ σ' H', Inv X pins σ' H' s' ∧ D.ct σ' H'
  | .ret u => ∃ v σ' H', Inv X pins σ' H' s' ∧ RelV v u ∧ D.rt v H'
def PE (X : Cx) (e : Expr) (t : TE) : Prop :=
  ∀ (pins : List (Addr × Obj)) (s : Shared) (σ : St) (H : Hp) (Q : VK), Inv X pins σ H s → t σ H Q → wpAny (model X.prog X.w) X.A (eval e X.env) (EP X pins σ Q) X.xe s
def PT (X : Cx) (e : Expr) (t : TT) : Prop :=
  ∀ (pins : List (Addr × Obj)) (s : Shared) (σ : St) (H : Hp) (Q : Bool → Hp → Prop), Inv X pins σ H s → t σ H Q → wpAny (model X.prog X.w) X.A (isTrue e X.env (eval e X.env)) (TP X pins σ Q) X.xe s
def PW (X : Cx) (e : Expr) (t : TT) : Prop :=
  ∀ (whole : Sem Value) (pins : List (Addr × Obj)) (s : Shared) (σ : St) (H : Hp) (Q : Bool → Hp → Prop), Inv X pins σ H s → t σ H Q → wpAny (model X.prog X.w) X.A (isTrue e X.env whole) (TP X pins σ Q) X.xe s
theorem PW.pt {X : Cx} {e : Expr} {t : TT} (h : PW X e t) : PT X e t := h _
def PA (X : Cx) (es : List Expr) (t : TA) : Prop :=
  ∀ (pos : Pos) (pins : List (Addr × Obj)) (s : Shared) (σ : St) (H : Hp) (Q : List V → Hp → Prop), Inv X pins σ H s → t σ H Q → wpAny (model X.prog X.w) X.A (spliced (backTo pos (starEach es X.env))) (AP X pins σ Q) X.xe s
def PS (X : Cx) (st : Stmt) (t : TS) : Prop :=
  ∀ (pins : List (Addr × Obj)) (s : Shared) (σ : St) (H : Hp) (D : Ends), Inv X pins σ H s → t D σ H → wpAny (model X.prog X.w) X.A (exec st X.env) (SP X pins D) X.xe s
def PSs (X : Cx) (st : List Stmt) (t : TS) : Prop :=
  ∀ (pins : List (Addr × Obj)) (s : Shared) (σ : St) (H : Hp) (D : Ends), Inv X pins σ H s → t D σ H → wpAny (model X.prog X.w) X.A (execs st X.env) (SP X pins D) X.xe s
theorem thn {α : Type} {t : Sem α} {Q Q' : α → Shared → Prop} {M : Model} {A : Around} {E : Value → Shared → Prop} {s : Shared} (h : wpAny M A t Q E s) (hQ : ∀ a s, Q a s → Q' a s) : wpAny M A t Q' E s := wpAny_mono h hQ fun _ _ x => x
end L2
namespace L2
open PySem PySem.Spec PyProof.Rows
section
variable {X : Cx}
def tVar (i : Nat) : TE := fun σ H Q => ∃ v, σ[i]? = some (some v) ∧ Q v H
def tC (v : V) : TE := fun _ H Q => Q v H
theorem pe_var {i : Nat} {x : Str} {pos : Pos} (hN : X.N[i]? = some x) (hv : Vis X.env.scope x) (hd : (x == ("__debug__" : Str)) = false := by decide) (hcd : (x == ("__classdict__" : Str)) = false := by decide) : PE X (.Name x pos) (tVar i) := by
  intro pins s σ H Q I h
  obtain ⟨v, e, h⟩ := h
  obtain ⟨m, hn, hl⟩ := I.loc
  obtain ⟨u, r, l⟩ := hl i x v hN e hv
  have fin : EP X pins σ Q u s := ⟨v, H, I, r, h⟩
  rcases l with ⟨hk, hm⟩ | ⟨hk, c, hc, hcell⟩
  · exact wpAny_Name (wpAny_loadName_local I.ok.kind hk hn hm fin) hd
  · rcases hk with hk | hk
    · exact wpAny_Name (wpAny_loadName_cell I.ok.kind hk hc hcell fin) hd
    · exact wpAny_Name (wpAny_loadName_free I.ok.kind hk hc hcell fin hcd) hd
theorem pe_int {i j pos} : PE X (.Constant (.int i) j pos) (tC (.int i)) := fun _ _ _ H _ I h => wpAny_Constant_int ⟨.int i, H, I.tok _, ⟨_, rfl⟩, h⟩
theorem pe_bl {b j pos} : PE X (.Constant (.bool b) j pos) (tC (.bl b)) := fun _ _ _ H _ I h => Constant_bool ⟨.bl b, H, I, rfl, h⟩
theorem pe_non {j pos} : PE X (.Constant .none j pos) (tC .non) := fun _ _ _ H _ I h => Constant_none ⟨.non, H, I, rfl, h⟩
theorem pe_str {x j pos} : PE X (.Constant (.str x) j pos) (tC (.str x)) := fun _ _ _ H _ I h => Calls.Constant_str ⟨.str x, H, I.tok _, ⟨_, rfl⟩, h⟩
def Gl (X : Cx) (x : Str) : Prop := X.env.kindOf x = some .globalImplicit
theorem ld_glob {E : Value → Shared → Prop} {pins : List (Addr × Obj)} {s : Shared} {σ : St} {H : Hp} {x : Str} {u : Value} {pos : Pos} {Q : Value → Shared → Prop} (I : Inv X pins σ H s) (hg : Gl X x) (hm : X.mg x = some u) (h : Q u s)
    (hd : (x == ("__debug__" : Str)) = false := by decide) : wpAny (model X.prog X.w) X.A (eval (.Name x pos) X.env) Q E s :=
  Calls.Name_function_global I.ok.kind hg (Calls.loadGlobal_global (by rw [I.ok.glob]; exact I.mod.glob.keeps I.bk) hm h) hd
theorem ld_blt {E : Value → Shared → Prop} {pins : List (Addr × Obj)} {s : Shared} {σ : St} {H : Hp} {x : Str} {u : Value} {pos : Pos} {Q : Value → Shared → Prop} (I : Inv X pins σ H s) (hg : Gl X x) (hm : X.mg x = none) (hv : bootBuiltins x = some u) (h : Q u s)
    (hn : x ≠ "__name__" := by decide) (hd : (x == ("__debug__" : Str)) = false := by decide) : wpAny (model X.prog X.w) X.A (eval (.Name x pos) X.env) Q E s := by
  obtain ⟨mb, h1, h2⟩ := I.mod.blt
  exact Calls.Name_function_global I.ok.kind hg (Calls.loadGlobal_builtin (by rw [I.ok.glob]; exact I.mod.glob.keeps I.bk) hm (by rw [I.ok.blt]; exact h1.keeps I.bk) ((h2 x hn).trans hv) h) hd
theorem pe_bltn {x : Str} {v : V} {u : Value} {pos : Pos} (hg : Gl X x) (hm : X.mg x = none) (hv : bootBuiltins x = some u) (r : RelV v u) (hn : x ≠ "__name__" := by decide) (hd : (x == ("__debug__" : Str)) = false := by decide) : PE X (.Name x pos) (tC v) :=
  fun _ _ _ H _ I h => ld_blt I hg hm hv ⟨v, H, I, r, h⟩ hn hd
variable {a b : Expr} {ta tb : TE} {pos : Pos}
variable {tA tB' : TT} {rest : List Expr}
def tAnd (t u : TT) : TT := fun σ H Q => t σ H fun c H1 => if c = true then u σ H1 Q else Q false H1
def tOr (t u : TT) : TT := fun σ H Q => t σ H fun c H1 => if c = true then Q true H1 else u σ H1 Q
def tNot (t : TT) : TT := fun σ H Q => t σ H fun c H1 => Q (!c) H1
theorem pw_and1 (ha : PT X a tA) : PW X (.BoolOp .And [a] pos) tA := by
  intro wh pins s σ H Q I h
  refine isTrue_and (thn (ha pins s σ H Q I h) fun c s1 e => ?_)
  cases c with
  | true => exact isTrue_and_nil e
  | false => exact e
theorem pw_or1 (ha : PT X a tA) : PW X (.BoolOp .Or [a] pos) tA := by
  intro wh pins s σ H Q I h
  refine isTrue_or (thn (ha pins s σ H Q I h) fun c s1 e => ?_)
  cases c with
  | false => exact isTrue_or_nil e
  | true => exact e
theorem pw_and (ha : PT X a tA) (hb : PW X (.BoolOp .And (b :: rest) pos) tB') : PW X (.BoolOp .And (a :: b :: rest) pos) (tAnd tA tB') := by
  intro wh pins s σ H Q I h
  refine isTrue_and (thn (ha pins s σ H _ I h) fun c s1 ⟨H1, I1, q1⟩ => ?_)
  cases c with
  | true => exact hb wh pins s1 σ H1 Q I1 q1
  | false => exact ⟨H1, I1, q1⟩
theorem pw_or (ha : PT X a tA) (hb : PW X (.BoolOp .Or (b :: rest) pos) tB') : PW X (.BoolOp .Or (a :: b :: rest) pos) (tOr tA tB') := by
  intro wh pins s σ H Q I h
  refine isTrue_or (thn (ha pins s σ H _ I h) fun c s1 ⟨H1, I1, q1⟩ => ?_)
  cases c with
  | true => exact ⟨H1, I1, q1⟩
  | false => exact hb wh pins s1 σ H1 Q I1 q1
theorem pt_not (ha : PT X a tA) : PT X (.UnaryOp .Not a pos) (tNot tA) := by
  intro pins s σ H Q I h
  exact isTrue_not (ha pins s σ H (fun c H1 => Q (!c) H1) I h)
def tAndV (ta tb : TE) : TE := fun σ H Q => ta σ H fun x H1 => ∃ c, x = .bl c ∧ if c = true then tb σ H1 Q else Q (.bl false) H1
theorem pe_one {op} {t : TE} (h : PE X a t) : PE X (.BoolOp op [a] pos) t := fun pins s σ H Q I hw => BoolOp_one (h pins s σ H Q I hw)
theorem pe_and (ha : PE X a ta) (hb : PE X (.BoolOp .And (b :: rest) pos) tb) : PE X (.BoolOp .And (a :: b :: rest) pos) (tAndV ta tb) := by
  intro pins s σ H Q I h
  refine BoolOp_and (thn (ha pins s σ H _ I h) fun v s1 ⟨x, H1, I1, r1, q1⟩ => ?_)
  obtain ⟨c, rfl, q1⟩ := q1
  cases r1
  refine wpAny_truthy_bool ?_
  cases c with
  | true => exact hb pins s1 σ H1 Q I1 q1
  | false => exact ⟨.bl false, H1, I1, rfl, q1⟩
end
end L2
namespace L2
open PySem PySem.Spec PyProof.Rows
def SqL (K : PySem.W.Frag) (H : Hp) (a : Addr) (xs : List V) : Prop :=
  Rd H a (.lst xs) ∨
    ∃ (o : Obj) (its : Array Value) (n : Nat), K.lookup a = some o ∧ o.cls = .type "list" ∧ o.dict = none ∧ o.data = .seq its n ∧ its.size ≤ sizeLine ∧ Vals xs its.toList
def SqT (K : PySem.W.Frag) (H : Hp) (a : Addr) (xs : List V) : Prop :=
  Rd H a (.tup xs) ∨
    ∃ (o : Obj) (its : Array Value) (n : Nat), K.lookup a = some o ∧ o.cls = .type "tuple" ∧ o.data = .seq its n ∧ its.size ≤ sizeLine ∧ Vals xs its.toList
def absV : Value → Option V
  | .none => some .non
  | .bool b => some (.bl b)
  | .int i _ => some (.int i)
  | .str x _ => some (.str x)
  | .bytes b _ => some (.byt b)
  | .float b _ => some (.flt b)
  | .ref a => some (.ref a)
  | .type n => some (.ty n)
  | _ => none
theorem RelV.abs {x : V} {u : Value} (r : RelV x u) : absV u = some x := by
  cases x with
  | non => cases r; rfl
  | bl _ => cases r; rfl
  | int _ => obtain ⟨t, rfl⟩ := r; rfl
  | str _ => obtain ⟨t, rfl⟩ := r; rfl
  | byt _ => obtain ⟨t, rfl⟩ := r; rfl
  | flt _ => obtain ⟨t, rfl⟩ := r; rfl
  | ref _ => cases r; rfl
  | ty _ => cases r; rfl
theorem RelV.inj {x y : V} {u : Value} (r : RelV x u) (q : RelV y u) : x = y := Option.some.inj (r.abs.symm.trans q.abs)
theorem Vals.inj : ∀ {xs ys : List V} {us : List Value}, Vals xs us → Vals ys us → xs = ys
  | _, _, _, .nil, .nil => rfl
  | _, _, _, .cons r t, .cons r' t' => by rw [r.inj r', Vals.inj t t']
section
variable {X : Cx} {pins : List (Addr × Obj)} {σ : St} {H : Hp} {s : Shared} {a : Addr} {xs ys : List V}
theorem SqL.of {K : PySem.W.Frag} (h : H a = some (.lst xs)) : SqL K H a xs := .inl (.inl h)
theorem SqT.of {K : PySem.W.Frag} (h : H a = some (.tup xs)) : SqT K H a xs := .inl (.inl h)
theorem Inv.list (I : Inv X pins σ H s) (h : SqL X.K H a xs) : ∃ its : List Value, Vals xs its ∧ PlainL s.heap a its.toArray ∧ xs.length ≤ sizeLine := by
  rcases h with h | ⟨o, its, n, hk, hc, hd, hs, hz, r⟩
  · obtain ⟨z, its, n, r, e⟩ := h.ok I.hok
    exact ⟨its, r, ⟨_, n, e, rfl, rfl, rfl⟩, z⟩
  · refine ⟨its.toList, r, ⟨o, n, I.kIn a o hk, hc, hd, by simpa using hs⟩, ?_⟩
    have e := r.length
    simp only [Array.length_toList] at e
    omega
theorem Inv.tuple (I : Inv X pins σ H s) (h : SqT X.K H a xs) : ∃ its : List Value, Vals xs its ∧ IsTup s.heap a its.toArray ∧ xs.length ≤ sizeLine := by
  rcases h with h | ⟨o, its, n, hk, hc, hs, hz, r⟩
  · obtain ⟨z, its, r, p⟩ := h.ok I.hok
    exact ⟨its, r, p, z⟩
  · refine ⟨its.toList, r, ⟨o, I.kIn a o hk, hc, n, by simpa using hs⟩, ?_⟩
    have e := r.length
    simp only [Array.length_toList] at e
    omega
theorem Inv.list_inj (I : Inv X pins σ H s) (h : SqL X.K H a xs) (h' : SqL X.K H a ys) : xs = ys := by
  obtain ⟨its, r, ⟨o, n, e, _, _, d⟩, _⟩ := I.list h
  obtain ⟨its', r', ⟨o', n', e', _, _, d'⟩, _⟩ := I.list h'
  rw [e] at e'; cases e'
  rw [d] at d'
  injection d' with d1 _
  have : its = its' := by simpa using congrArg Array.toList d1
  subst this
  exact r.inj r'
theorem Inv.tuple_inj (I : Inv X pins σ H s) (h : SqT X.K H a xs) (h' : SqT X.K H a ys) : xs = ys := by
  obtain ⟨its, r, ⟨o, e, _, n, d⟩, _⟩ := I.tuple h
  obtain ⟨its', r', ⟨o', e', _, n', d'⟩, _⟩ := I.tuple h'
  rw [e] at e'; cases e'
  rw [d] at d'
  injection d' with d1 _
  have : its = its' := by simpa using congrArg Array.toList d1
  subst this
  exact r.inj r'
end
abbrev Cx.wish (X : Cx) (E : Value → Shared → Prop) : Cx := { X with xe := E }
abbrev Cx.nox (X : Cx) : Cx := X.wish fun _ _ => False
theorem Cx.Ok.wish {X : Cx} (ok : X.Ok) (E : Value → Shared → Prop) : (X.wish E).Ok :=
  ⟨ok.mod, ok.kind, ok.glob, ok.blt, ok.above, ok.inj, ok.has, ok.cab, ok.hd, ok.frames, ok.stk, ok.exf, ok.bs, ok.bsz, ok.noex, ok.exfs, ok.funs, ok.frf⟩
theorem Cx.Ok.unwish {X : Cx} {E : Value → Shared → Prop} (ok : (X.wish E).Ok) : X.Ok :=
  ⟨ok.mod, ok.kind, ok.glob, ok.blt, ok.above, ok.inj, ok.has, ok.cab, ok.hd, ok.frames, ok.stk, ok.exf, ok.bs, ok.bsz, ok.noex, ok.exfs, ok.funs, ok.frf⟩
section
variable {X : Cx} {pins : List (Addr × Obj)} {σ : St} {H : Hp} {s : Shared} {E : Value → Shared → Prop}
theorem Inv.wish (I : Inv X pins σ H s) (E : Value → Shared → Prop) : Inv (X.wish E) pins σ H s := ⟨I.ok.wish E, I.os, I.bare, I.base, I.loc, I.cell, I.free, I.freeC, I.pin, I.hok, I.len, I.tk⟩
theorem Inv.unwish (I : Inv (X.wish E) pins σ H s) : Inv X pins σ H s := ⟨I.ok.unwish, I.os, I.bare, I.base, I.loc, I.cell, I.free, I.freeC, I.pin, I.hok, I.len, I.tk⟩
theorem SP.unwish {D : Ends} {f : Flow} {s' : Shared} (h : SP (X.wish E) pins D f s') : SP X pins D f s' := by
  cases f with
  | next => obtain ⟨σ', H', I, q⟩ := h; exact ⟨σ', H', I.unwish, q⟩
  | brk => obtain ⟨σ', H', I, q⟩ := h; exact ⟨σ', H', I.unwish, q⟩
  | cont => obtain ⟨σ', H', I, q⟩ := h; exact ⟨σ', H', I.unwish, q⟩
  | ret u => obtain ⟨v, σ', H', I, r, q⟩ := h; exact ⟨v, σ', H', I.unwish, r, q⟩
theorem PSs.nox {st : List Stmt} {t : TS} (h : PSs X.nox st t) : PSs X st t := fun pins s σ H D I hw =>
  wpAny_mono (h pins s σ H D (I.wish _) hw) (fun _ _ q => q.unwish) fun _ _ z => False.elim z
end
section
variable {X : Cx} {st : Stmt} {rest : List Stmt} {t u : TS} {e : Expr} {te : TE} {pos : Pos}
def tNext : TS := fun D σ H => D.nx σ H
def tSeq (t u : TS) : TS := fun D σ H => t { D with nx := u D } σ H
theorem pss_nil : PSs X [] tNext := fun _ _ σ H _ I h => wpAny_execs_nil ⟨σ, H, I, h⟩
theorem pss_cons (h1 : PS X st t) (h2 : PSs X rest u) : PSs X (st :: rest) (tSeq t u) := by
  intro pins s σ H D I h
  refine wpAny_execs_cons (thn (h1 pins s σ H { D with nx := u D } I h) fun f s1 q => ?_)
  cases f with
  | next =>
    obtain ⟨σ', H', I', q⟩ := q
    exact h2 pins s1 σ' H' D I' q
  | ret v => exact q
  | brk => exact q
  | cont => exact q
theorem pss_one (h1 : PS X st t) : PSs X [st] t := by
  intro pins s σ H D I h
  refine wpAny_execs_cons (thn (h1 pins s σ H D I h) fun f s1 q => ?_)
  cases f with
  | next => exact wpAny_execs_nil q
  | ret v => exact q
  | brk => exact q
  | cont => exact q
theorem Inv.quiet {pins : List (Addr × Obj)} {σ : St} {H : Hp} {s : Shared} (I : Inv X pins σ H s) : interactive X.env = false := by simp [interactive, I.ok.kind]
def tDrop (te : TE) : TS := fun D σ H => te σ H fun _ H1 => D.nx σ H1
theorem ps_expr (he : PE X e te) (hs : swapsWith e none pos.line X.env = pure false := by rfl) : PS X (.Expr e pos) (tDrop te) := by
  intro pins s σ H D I h
  exact wpAny_Expr_any (thn (he pins s σ H _ I h) fun v s1 ⟨x, H1, I1, r1, q1⟩ => ⟨σ, H1, I1, q1⟩) I.quiet hs
def tRet (te : TE) : TS := fun D σ H => te σ H D.rt
theorem ps_ret (he : PE X e te) : PS X (.Return (some e) pos) (tRet te) := by
  intro pins s σ H D I h
  exact wpAny_Return_some (thn (he pins s σ H _ I h) fun v s1 ⟨x, H1, I1, r1, q1⟩ => ⟨x, σ, H1, I1, r1, q1⟩)
def tIfS (c : TT) (t u : TS) : TS := fun D σ H => c σ H fun b H1 => if b = true then t D σ H1 else u D σ H1
theorem ps_if {c : Expr} {a b : List Stmt} {tc : TT} (hc : PT X c tc) (ha : PSs X a t) (hb : PSs X b u) : PS X (.If c a b pos) (tIfS tc t u) := by
  intro pins s σ H D I h
  refine wpAny_If (thn (hc pins s σ H _ I h) fun d s1 ⟨H1, I1, q1⟩ => ?_)
  cases d with
  | true => exact ha pins s1 σ H1 D I1 q1
  | false => exact hb pins s1 σ H1 D I1 q1
end
abbrev TG := V → St → Hp → (St → Hp → Prop) → Prop
abbrev TGs := List V → St → Hp → (St → Hp → Prop) → Prop
def PG (X : Cx) (target : Expr) (t : TG) : Prop :=
  ∀ (pins : List (Addr × Obj)) (s : Shared) (σ : St) (H : Hp) (v : V) (u : Value) (Q : St → Hp → Prop), Inv X pins σ H s → RelV v u → t v σ H Q →
    wpAny (model X.prog X.w) X.A (assign target X.env u) (fun _ s' => ∃ σ' H', Inv X pins σ' H' s' ∧ Q σ' H') X.xe s
def PGs (X : Cx) (ts : List Expr) (t : TGs) : Prop :=
  ∀ (pins : List (Addr × Obj)) (s : Shared) (σ : St) (H : Hp) (vs : List V) (us : List Value) (Q : St → Hp → Prop), Inv X pins σ H s → Vals vs us → t vs σ H Q →
    wpAny (model X.prog X.w) X.A (assignInOrder ((assignEach ts X.env).map (·.2)) us) (fun _ s' => ∃ σ' H', Inv X pins σ' H' s' ∧ Q σ' H') X.xe s
abbrev TSet := V → V → V → Hp → (Hp → Prop) → Prop
def PSet (X : Cx) (t : TSet) : Prop :=
  ∀ (pins : List (Addr × Obj)) (s : Shared) (σ : St) (H : Hp) (o i v : V) (ov iv u : Value) (Q : Hp → Prop), Inv X pins σ H s → RelV o ov → RelV i iv → RelV v u → t o i v H Q →
    wpAny (model X.prog X.w) X.A (setItem ov iv u) (fun _ s' => ∃ H', Inv X pins σ H' s' ∧ Q H') X.xe s
section
variable {X : Cx} {pos : Pos}
def gName (i : Nat) : TG := fun v σ H Q => Q (σ.set i (some v)) H
theorem pg_name {i : Nat} {x : Str} (hN : X.N.Nodup) (hi : X.N[i]? = some x) (hx : Loc X.env.scope x) (hf : X.fn x = true ∨ X.env.scope.names.lookup x = some .local := by first | exact .inl rfl | exact .inr rfl | assumption) : PG X (.Name x pos) (gName i) := by
  intro pins s σ H v u Q I r h
  exact wpAny_assign_Name (store_ok I hN hi hx r (fun s' I' => ⟨_, H, I', h⟩) hf)
def gNil : TGs := fun vs σ H Q => vs = [] ∧ Q σ H
def gCons (t : TG) (u : TGs) : TGs := fun vs σ H Q => ∃ v r, vs = v :: r ∧ t v σ H fun σ' H' => u r σ' H' Q
theorem pgs_nil : PGs X [] gNil := by
  intro pins s σ H vs us Q I r h
  obtain ⟨e, h⟩ := h
  subst e
  cases r
  exact assignInOrder_nil ⟨σ, H, I, h⟩
theorem pgs_cons {e : Expr} {es : List Expr} {t : TG} {u : TGs} (h1 : PG X e t) (h2 : PGs X es u)
    (hs : (assignEach (e :: es) X.env).map (·.2) = assign e X.env :: (assignEach es X.env).map (·.2) := by rfl) : PGs X (e :: es) (gCons t u) := by
  intro pins s σ H vs us Q I r h
  obtain ⟨v, vr, e1, h⟩ := h
  subst e1
  cases r with
  | cons r rr =>
    rw [hs]
    refine assignInOrder_cons (thn (h1 pins s σ H _ _ _ I r h) fun _ s1 ⟨σ1, H1, I1, q1⟩ => ?_)
    exact h2 pins s1 σ1 H1 _ _ Q I1 rr q1
def gTup (K : PySem.W.Frag) (n : Nat) (t : TGs) : TG := fun v σ H Q => ∃ a xs, v = .ref a ∧ SqT K H a xs ∧ xs.length = n ∧ t xs σ H Q
theorem pg_tup {es : List Expr} {k : Nat} {t : TGs} {n : Nat} (hc : X.calm = true) (h : PGs X es t)
    (hn : (assignEach es X.env).length = n := by rfl) (hst : (assignEach es X.env).findIdx? (·.1) = none := by rfl) : PG X (.Tuple es k pos) (gTup X.K n t) := by
  intro pins s σ H v u Q I r hw
  obtain ⟨a, xs, e1, hq, hl, hw⟩ := hw
  subst e1
  cases r
  obtain ⟨its, rv, ht, hz⟩ := I.tuple hq
  refine assign_Tuple_tuple (I.ok.hd hc) ht (by simp [hn, ← hl, rv.length]) hst fun h' hx => ?_
  have I1 : Inv X pins σ H { s with heap := h' } := I.kept (t' := s.toks) fun b o e => hx b o (Nat.ne_of_lt (Heap.lt_size e)) e
  exact h pins _ σ H xs _ Q I1 (by simpa using rv) hw
def gSub (to ti : TE) (t : TSet) : TG := fun v σ H Q => to σ H fun o H1 => ti σ H1 fun i H2 => t o i v H2 fun H3 => Q σ H3
theorem pg_sub {o i : Expr} {to ti : TE} {t : TSet} (ho : PE X o to) (hi : PE X i ti) (hs : PSet X t)
    (ha : ∀ v, assign (.Subscript o i pos) X.env v = (do
      let ov ← holding [v] (eval o X.env)
      let iv ← holding [v, ov] (eval i X.env)
      standAt pos
      holding [v, ov, iv] (setItem ov iv v)
      release [v, ov, iv] []) := by intro _; rfl) : PG X (.Subscript o i pos) (gSub to ti t) := by
  intro pins s σ H v u Q I r h
  rw [ha]
  refine wpAny_bind (wpAny_holding (thn (ho pins s σ H _ I h) fun ov s1 ⟨x, H1, I1, r1, q1⟩ => ?_))
  refine wpAny_bind (wpAny_holding (thn (hi pins s1 σ H1 _ I1 q1) fun iv s2 ⟨y, H2, I2, r2, q2⟩ => ?_))
  refine wpAny_bind (wpAny_standAt (wpAny_bind (wpAny_holding (thn (hs pins s2 σ H2 x y v ov iv u _ I2 r1 r2 r q2) fun _ s3 ⟨H3, I3, q3⟩ => ?_))))
  exact wpAny_release ⟨σ, H3, I3, q3⟩
def tAsg (te : TE) (g : TG) : TS := fun D σ H => te σ H fun x H1 => g x σ H1 D.nx
theorem ps_asg {tg e : Expr} {te : TE} {g : TG} (he : PE X e te) (hg : PG X tg g) (hs : swapsWithSole [tg] e pos.line X.env = pure false := by rfl) (hw : swappedStores [tg] e X.env = pure none := by rfl)
    (h1 : (assignEach [tg] X.env).map (·.2) = [assign tg X.env] := by rfl) : PS X (.Assign [tg] e pos) (tAsg te g) := by
  intro pins s σ H D I h
  refine wpAny_Assign_stores (thn (he pins s σ H _ I h) fun v s1 ⟨x, H1, I1, r1, q1⟩ => ?_) hs hw
  rw [h1]
  exact thn (hg pins s1 σ H1 x v _ I1 r1 q1) fun _ s2 q => q
theorem ps_set {i : Nat} {x : Str} {e : Expr} {te : TE} {pos' : Pos} (hN : X.N.Nodup) (hi : X.N[i]? = some x) (hx : Loc X.env.scope x) (he : PE X e te) (hs : swapsWith e (some (.Name x pos')) pos.line X.env = pure false := by rfl) (hf : X.fn x = true ∨ X.env.scope.names.lookup x = some .local := by first | exact .inl rfl | exact .inr rfl | assumption) :
    PS X (.Assign [.Name x pos'] e pos) (tAsg te (gName i)) := by
  intro pins s σ H D I h
  refine wpAny_Assign_Name (thn (he pins s σ H _ I h) fun v s1 ⟨y, H1, I1, r1, q1⟩ => ?_) hs
  exact store_ok I1 hN hi hx r1 (fun s2 I2 => ⟨_, H1, I2, q1⟩) hf
end
section
variable {X : Cx} {pos : Pos}
def tWhile (c : TT) (tb : TS) : TS := fun D σ H => ∃ W : Nat → St → Hp → Prop, (∃ m, W m σ H) ∧ ∀ m σ H, W m σ H →
  c σ H fun b H1 => if b = true then ∃ N : St → Hp → Prop, (∀ σ' H', N σ' H' → ∃ m', m' < m ∧ W m' σ' H') ∧ tb { D with nx := N, ct := N, bk := D.nx } σ H1 else D.nx σ H1
theorem ps_while {c : Expr} {body : List Stmt} {tc : TT} {tb : TS} (hp : PassesOwn (model X.prog X.w) X.A X.env X.xe) (hc : PT X c tc) (hb : PSs X body tb) : PS X (.While c body [] pos) (tWhile tc tb) := by
  intro pins s σ H D I h
  obtain ⟨W, ⟨m0, w0⟩, turn⟩ := h
  refine wpAny_While (codeAny_whileLoop (fun n s' => ∃ σ' H', Inv X pins σ' H' s' ∧ W n σ' H') ?_ m0 ⟨σ, H, I, w0⟩)
  rintro n s1 ⟨σ1, H1, I1, w1⟩
  refine wpAny_passesOwn hp (thn (hc pins s1 σ1 H1 _ I1 (turn n σ1 H1 w1)) fun b s2 ⟨H2, I2, q2⟩ => ?_)
  cases b with
  | true =>
    obtain ⟨N, hN, q2⟩ := q2
    rw [if_pos rfl]
    refine wpAny_passesOwn hp (thn (hb pins s2 σ1 H2 _ I2 q2) fun f s3 q3 => ?_)
    cases f with
    | next =>
      obtain ⟨σ3, H3, I3, n3⟩ := q3
      obtain ⟨m', hm, w3⟩ := hN σ3 H3 n3
      exact ⟨m', hm, σ3, H3, I3, w3⟩
    | cont =>
      obtain ⟨σ3, H3, I3, n3⟩ := q3
      obtain ⟨m', hm, w3⟩ := hN σ3 H3 n3
      exact ⟨m', hm, σ3, H3, I3, w3⟩
    | brk => exact q3
    | ret v => exact q3
  | false =>
    rw [if_neg Bool.false_ne_true]
    exact wpAny_execs_nil ⟨σ1, H2, I2, q2⟩
end
structure It where
  go : Nat → Hp → Prop
  yld : Nat → Hp → V → Hp → Prop
  stop : Nat → Hp → Prop
def FpOk (X : Cx) (pins : List (Addr × Obj)) (H : Hp) (b : Addr) : Prop :=
  H b = none ∧ b ≠ X.env.locals ∧ b ∉ X.fs ∧ (b ∈ X.ex ∨ X.s₀.heap.objs.size ≤ b) ∧ (∀ x c, X.env.cells.lookup x = some c → c ≠ b) ∧ ∀ p ∈ X.pn ++ pins, p.1 ≠ b
theorem Inv.fpOk {X : Cx} {pins : List (Addr × Obj)} {σ : St} {H H' : Hp} {s : Shared} {b : Addr} (I : Inv X pins σ H s) (hb : s.heap.objs.size ≤ b) (hn : H' b = none) : FpOk X pins H' b := by
  refine ⟨hn, Nat.ne_of_gt (Nat.lt_of_lt_of_le I.lt hb), I.nofs hb, .inr (Nat.le_trans I.sz hb), fun x c e z => ?_, fun p hp z => ?_⟩
  · obtain ⟨v, q⟩ := I.cell x c e
    exact absurd (Nat.lt_of_lt_of_le q.lt (by rw [z]; exact hb)) (Nat.lt_irrefl _)
  · exact absurd (Nat.lt_of_lt_of_le (Heap.lt_size (I.pin p hp).1) (by rw [z]; exact hb)) (Nat.lt_irrefl _)
structure Turn (P : Program) (w : World) (K : PySem.W.Frag) (tg : Expr) (J : It) (fp : List Addr) (it : Addr) (tn : Nat → Heap → Prop) : Prop where
  mem : it ∈ fp
  obj : ∀ i h, tn i h → ∀ b ∈ fp, ∃ o, h.get? b = some o ∧ ∀ v, o.data ≠ .cell v
  keep : ∀ i h h', tn i h → (∀ b ∈ fp, ∀ o, h.get? b = some o → h'.get? b = some o) → tn i h'
  item : ∀ (X : Cx), X.prog = P → X.w = w → X.K = K → X.calm = true → ∀ (i : Nat) (pins : List (Addr × Obj)) (s : Shared) (σ : St) (H : Hp) (E : Value → Shared → Prop), Inv X pins σ H s → (∀ b ∈ fp, FpOk X pins H b) → tn i s.heap → J.go i H →
    wpAny (model P w) X.A (pyNext (.ref it)) (fun r s1 => ∃ u, r = some u ∧
      wpAny (model P w) X.A (letOwnedTupleGo tg (.ref it) u) (fun _ s2 => ∃ x H', Inv X pins σ H' s2 ∧ RelV x u ∧ J.yld i H x H' ∧ tn (i + 1) s2.heap ∧ ∀ b ∈ fp, H' b = none) E s1) E s
  done : ∀ (X : Cx), X.prog = P → X.w = w → X.K = K → X.calm = true → ∀ (i : Nat) (pins : List (Addr × Obj)) (s : Shared) (σ : St) (H : Hp) (E : Value → Shared → Prop), Inv X pins σ H s → (∀ b ∈ fp, FpOk X pins H b) → tn i s.heap → J.stop i H →
    wpAny (model P w) X.A (pyNext (.ref it)) (fun r s1 => r = none ∧ Inv X pins σ H s1) E s
  self : ∀ (A : Around) (i : Nat) (s : Shared) (Q : Value → Shared → Prop) (E : Value → Shared → Prop), tn i s.heap → Q (.ref it) s → wpAny (model P w) A (pyIter (.ref it)) Q E s
abbrev TI := St → Hp → (It → Hp → Prop) → Prop
def PIE (X : Cx) (pins : List (Addr × Obj)) (σ : St) (tg : Expr) (R : It → Hp → Prop) (itv : Value) (s2 : Shared) : Prop :=
  ∃ (it : Addr) (fp : List Addr) (tn : Nat → Heap → Prop) (J : It) (H' : Hp), itv = .ref it ∧ Inv X pins σ H' s2 ∧ Turn X.prog X.w X.K tg J fp it tn ∧ tn 0 s2.heap ∧ (∀ b ∈ fp, FpOk X pins H' b) ∧ R J H'
def PI (X : Cx) (tg iter : Expr) (wi : TI) : Prop :=
  ∀ (pins : List (Addr × Obj)) (s : Shared) (σ : St) (H : Hp) (R : It → Hp → Prop), Inv X pins σ H s → wi σ H R →
    wpAny (model X.prog X.w) X.A (eval iter X.env) (fun v s1 => wpAny (model X.prog X.w) X.A (pyIter v) (PIE X pins σ tg R) X.xe s1) X.xe s
theorem go_of {M : Model} {A : Around} {E : Value → Shared → Prop} {s : Shared} {tg : Expr} {it : Addr} {u : Value} {o : Obj} {n : String} {vs : Array Value} {Q : Unit → Shared → Prop} (ho : s.heap.get? it = some o) (hc : o.cls = .type n) (hd : o.data = .fields vs)
    (hn : ["enumerate", "zip", "dict_itemiterator", "dict_reverseitemiterator", "odict_iterator", "itertools.zip_longest", "itertools.pairwise"].contains n = false) (hQ : Q () s) : wpAny M A (letOwnedTupleGo tg (.ref it) u) Q E s := by
  unfold letOwnedTupleGo
  cases tg <;> first
    | exact wpAny_pure hQ
    | (cases u <;> first
        | exact wpAny_pure hQ
        | (refine wpAny_bind (wpAny_load ho ?_)
           rw [hc, hd]
           show wpAny M A (if (["enumerate", "zip", "dict_itemiterator", "dict_reverseitemiterator", "odict_iterator", "itertools.zip_longest", "itertools.pairwise"].contains n && vs[0]? == some (rawInt _)) = true then _ else _) Q E s
           rw [if_neg (by intro h; rw [hn, Bool.false_and] at h; cases h)]
           exact wpAny_pure hQ))
def Itl (K : PySem.W.Frag) (a : Addr) : It :=
  ⟨fun i H => ∃ xs x, SqL K H a xs ∧ xs[i]? = some x, fun i H x H' => H' = H ∧ ∀ xs, SqL K H a xs → xs[i]? = some x, fun i H => ∃ xs, SqL K H a xs ∧ xs.length ≤ i⟩
def Itt (K : PySem.W.Frag) (a : Addr) : It :=
  ⟨fun i H => ∃ xs x, SqT K H a xs ∧ xs[i]? = some x, fun i H x H' => H' = H ∧ ∀ xs, SqT K H a xs → xs[i]? = some x, fun i H => ∃ xs, SqT K H a xs ∧ xs.length ≤ i⟩
def Itr (lo : Int) (n : Nat) : It := ⟨fun i _ => i < n, fun i H x H' => H' = H ∧ x = .int (lo + i), fun i _ => n ≤ i⟩
theorem turn_list {P : Program} {w : World} {K : PySem.W.Frag} {tg : Expr} (a it : Addr) : Turn P w K tg (Itl K a) [it] it (fun i h => h.IsListIter it a i) where
  mem := by simp
  obj := fun i h st b hb => by
    have e : b = it := by simpa using hb
    subst e
    obtain ⟨o, e, c, d⟩ := st
    exact ⟨o, e, fun v z => by rw [d] at z; cases z⟩
  keep := fun i h h' st k => st.at fun o e => k it (by simp) o e
  item := by
    intro X hP hw hK hc i pins s σ H E I hf st hg
    subst hP hw hK
    obtain ⟨xs, x, hq, hx⟩ := hg
    obtain ⟨its, rv, p, hz⟩ := I.list hq
    obtain ⟨u, hu, ru⟩ := rv.get hx
    obtain ⟨f0, f1, f2, f3, f4, f5⟩ := hf it (by simp)
    refine wpAny_pyNext_list_item st p.isList (x := u) (by simpa using hu) fun h' st' sb => ?_
    have I1 : Inv X pins σ H { s with heap := h' } := I.turned (t' := s.toks) (fun b o hb e => (sb.2 b hb).trans e) f0 f1 f3 f4 f5
    obtain ⟨o, e, c, d⟩ := id st'
    exact ⟨u, rfl, go_of (s := { s with heap := h' }) e c d (by decide) ⟨x, H, I1, ru, ⟨rfl, fun ys hy => by rw [I.list_inj hy hq]; exact hx⟩, st', fun b hb => (hf b hb).1⟩⟩
  done := by
    intro X hP hw hK hc i pins s σ H E I hf st hg
    subst hP hw hK
    obtain ⟨xs, hq, hx⟩ := hg
    obtain ⟨its, rv, p, hz⟩ := I.list hq
    obtain ⟨f0, f1, f2, f3, f4, f5⟩ := hf it (by simp)
    have hl := rv.length
    exact wpAny_pyNext_list_end (I.ok.hd hc) st p.isList (by simp; omega) fun h' eb => ⟨rfl, I.turned (t' := s.toks) (fun b o hb e => eb b o hb e) f0 f1 f3 f4 f5⟩
  self := fun _ _ _ _ _ st h => wpAny_pyIter_listiter st h
theorem turn_tuple {P : Program} {w : World} {K : PySem.W.Frag} {tg : Expr} (a it : Addr) : Turn P w K tg (Itt K a) [it] it (fun i h => h.IsTupleIter it a i) where
  mem := by simp
  obj := fun i h st b hb => by
    have e : b = it := by simpa using hb
    subst e
    obtain ⟨o, e, c, d⟩ := st
    exact ⟨o, e, fun v z => by rw [d] at z; cases z⟩
  keep := fun i h h' st k => st.at fun o e => k it (by simp) o e
  item := by
    intro X hP hw hK hc i pins s σ H E I hf st hg
    subst hP hw hK
    obtain ⟨xs, x, hq, hx⟩ := hg
    obtain ⟨its, rv, p, hz⟩ := I.tuple hq
    obtain ⟨u, hu, ru⟩ := rv.get hx
    obtain ⟨f0, f1, f2, f3, f4, f5⟩ := hf it (by simp)
    refine wpAny_pyNext_tuple_item st (show s.heap.IsTuple a its.toArray from p) (x := u) (by simpa using hu) fun h' st' sb => ?_
    have I1 : Inv X pins σ H { s with heap := h' } := I.turned (t' := s.toks) (fun b o hb e => (sb.2 b hb).trans e) f0 f1 f3 f4 f5
    obtain ⟨o, e, c, d⟩ := id st'
    exact ⟨u, rfl, go_of (s := { s with heap := h' }) e c d (by decide) ⟨x, H, I1, ru, ⟨rfl, fun ys hy => by rw [I.tuple_inj hy hq]; exact hx⟩, st', fun b hb => (hf b hb).1⟩⟩
  done := by
    intro X hP hw hK hc i pins s σ H E I hf st hg
    subst hP hw hK
    obtain ⟨xs, hq, hx⟩ := hg
    obtain ⟨its, rv, p, hz⟩ := I.tuple hq
    obtain ⟨f0, f1, f2, f3, f4, f5⟩ := hf it (by simp)
    have hl := rv.length
    exact wpAny_pyNext_tuple_end (I.ok.hd hc) st (show s.heap.IsTuple a its.toArray from p) (by simp; omega) fun h' eb => ⟨rfl, I.turned (t' := s.toks) (fun b o hb e => eb b o hb e) f0 f1 f3 f4 f5⟩
  self := fun _ _ _ _ _ st h => wpAny_pyIter_tupleiter st h
theorem turn_range {P : Program} {w : World} {K : PySem.W.Frag} {tg : Expr} (it : Addr) (lo : Int) (n : Nat) : Turn P w K tg (Itr lo n) [it] it (fun i h => IsRangeIter h it (lo + (i : Nat) * 1) ((n : Int) - (i : Nat)) 1) where
  mem := by simp
  obj := fun i h st b hb => by
    have e : b = it := by simpa using hb
    subst e
    exact ⟨_, st, fun v z => by
      have z' : Data.fields _ = Data.cell v := z
      cases z'⟩
  keep := fun i h h' st k => k it (by simp) _ st
  item := by
    intro X hP hw hK hc i pins s σ H E I hf st hg
    subst hP hw hK
    obtain ⟨f0, f1, f2, f3, f4, f5⟩ := hf it (by simp)
    have W := Walks.range (prog := X.prog) (w := X.w) (I.ok.hd hc) it lo 1 n
    refine wpAny_with_toks (n := 1) I.tk (W.item i s _ _ hg st fun v h' tk hv st' kk htk => ?_)
    obtain ⟨t, rfl⟩ := hv
    have I1 : Inv X pins σ H { s with heap := h', toks := tk } := I.turned (fun b o hb e => kk b o (by simpa using hb) e) f0 f1 f3 f4 f5
    refine ⟨_, rfl, go_of (s := { s with heap := h', toks := tk }) (n := "range_iterator") st' rfl rfl (by decide) ⟨.int (lo + i), H, I1, ⟨t, ?_⟩, ⟨rfl, rfl⟩, st', fun b hb => (hf b hb).1⟩⟩
    rw [Int.mul_one]
  done := by
    intro X hP hw hK hc i pins s σ H E I hf st hg
    subst hP hw hK
    obtain ⟨f0, f1, f2, f3, f4, f5⟩ := hf it (by simp)
    exact wpAny_pyNext_range_end (I.ok.hd hc) st (by have : n ≤ i := hg; omega) fun h' eb => ⟨rfl, I.turned (t' := s.toks) (fun b o hb e => eb b o hb e) f0 f1 f3 f4 f5⟩
  self := fun _ _ _ _ _ st h => wpAny_pyIter_rangeiter st h
end L2
namespace L2
open PySem PySem.Spec PyProof.Rows
section
variable {X : Cx} {tg : Expr}
def iList (K : PySem.W.Frag) (tl : TE) : TI := fun σ H R => tl σ H fun x H1 => ∃ a, x = .ref a ∧ (∃ xs, SqL K H1 a xs) ∧ R (Itl K a) H1
def iTup (K : PySem.W.Frag) (tl : TE) : TI := fun σ H R => tl σ H fun x H1 => ∃ a, x = .ref a ∧ (∃ xs, SqT K H1 a xs) ∧ R (Itt K a) H1
theorem pi_list {l : Expr} {tl : TE} (hl : PE X l tl) : PI X tg l (iList X.K tl) := by
  intro pins s σ H R I h
  refine thn (hl pins s σ H _ I h) fun v s1 ⟨x, H1, I1, r1, q1⟩ => ?_
  obtain ⟨a, e, ⟨xs, hq⟩, q⟩ := q1
  subst e
  cases r1
  obtain ⟨its, rv, p, hz⟩ := I1.list hq
  refine wpAny_pyIter_list p.isList ?_
  refine ⟨s1.heap.objs.size, [s1.heap.objs.size], _, _, H1, rfl, I1.kept (t' := s1.toks) fun b o e => Heap.get?_push_of_some _ e, turn_list a _, ⟨_, Heap.get?_push_size _ rfl, rfl, rfl⟩, fun b hb => ?_, q⟩
  have e : b = s1.heap.objs.size := by simpa using hb
  subst e
  exact I1.fpOk (Nat.le_refl _) (I1.hok.fresh (Nat.le_refl _))
theorem pi_tup {l : Expr} {tl : TE} (hl : PE X l tl) : PI X tg l (iTup X.K tl) := by
  intro pins s σ H R I h
  refine thn (hl pins s σ H _ I h) fun v s1 ⟨x, H1, I1, r1, q1⟩ => ?_
  obtain ⟨a, e, ⟨xs, hq⟩, q⟩ := q1
  subst e
  cases r1
  obtain ⟨its, rv, p, hz⟩ := I1.tuple hq
  refine wpAny_pyIter_tuple (show s1.heap.IsTuple a its.toArray from p) ?_
  refine ⟨s1.heap.objs.size, [s1.heap.objs.size], _, _, H1, rfl, I1.kept (t' := s1.toks) fun b o e => Heap.get?_push_of_some _ e, turn_tuple a _, ⟨_, Heap.get?_push_size _ rfl, rfl, rfl⟩, fun b hb => ?_, q⟩
  have e : b = s1.heap.objs.size := by simpa using hb
  subst e
  exact I1.fpOk (Nat.le_refl _) (I1.hok.fresh (Nat.le_refl _))
theorem range_it {pins : List (Addr × Obj)} {σ : St} {H : Hp} {s : Shared} {R : It → Hp → Prop} {E : Value → Shared → Prop} {lo hi : Int} {t u v : Tok} {tk : Nat} (I : Inv X pins σ H s) (h1 : -(2 ^ 62) ≤ lo) (h2 : lo < 2 ^ 62) (h3 : -(2 ^ 62) ≤ hi) (h4 : hi < 2 ^ 62)
    (q : R (Itr lo (hi - lo).toNat) H) (htk : 0 < tk := by first | exact Nat.succ_pos _ | assumption | exact Inv.tk (by assumption) | omega) : wpAny (model X.prog X.w) X.A (pyIter (.ref s.heap.objs.size)) (PIE X pins σ tg R) E { s with heap := s.heap.push { cls := .type "range", data := .fields #[.int lo t, .int hi u, .int 1 v] }, toks := tk } := by
  refine wpAny_pyIter_range (IsRange.new ..) (small_one h1 h2 h3 h4) ?_
  have I1 : Inv X pins σ H { s with heap := s.heap.push { cls := .type "range", data := .fields #[.int lo t, .int hi u, .int 1 v] }, toks := tk } := I.kept fun b o e => Heap.get?_push_of_some _ e
  refine ⟨(s.heap.push { cls := .type "range", data := .fields #[.int lo t, .int hi u, .int 1 v] }).objs.size, [(s.heap.push { cls := .type "range", data := .fields #[.int lo t, .int hi u, .int 1 v] }).objs.size], _, _, H, rfl,
    I1.kept (t' := tk) fun b o e => Heap.get?_push_of_some _ e, turn_range _ lo (hi - lo).toNat, ?_, fun b hb => ?_, q⟩
  · have e1 : lo + ((0 : Nat) : Int) * 1 = lo := by simp
    have e2 : (((hi - lo).toNat : Nat) : Int) - ((0 : Nat) : Int) = Builtin.Range.rangeSize lo hi 1 := by rw [rangeSize_one]; split <;> omega
    show IsRangeIter _ _ (lo + ((0 : Nat) : Int) * 1) ((((hi - lo).toNat : Nat) : Int) - ((0 : Nat) : Int)) 1
    rw [e1, e2]
    exact Heap.get?_push_size _ rfl
  · have e : b = (s.heap.push { cls := .type "range", data := .fields #[.int lo t, .int hi u, .int 1 v] }).objs.size := by simpa using hb
    subst e
    exact I1.fpOk (Nat.le_refl _) (I1.hok.fresh (Nat.le_refl _))
def iRng1 (ta : TA) : TI := fun σ H R => ta σ H fun vs H1 => ∃ j : Int, vs = [.int j] ∧ -(2 ^ 62) ≤ j ∧ j < 2 ^ 62 ∧ R (Itr 0 j.toNat) H1
theorem pi_range1 {a : Expr} {ta : TA} {p pos : Pos} (hg : Gl X "range") (hm : X.mg "range" = none) (ha : PA X [a] ta) (hs : starEach [a] X.env = [(false, eval a X.env)] := by rfl) : PI X tg (.Call (.Name "range" p) [a] [] pos) (iRng1 ta) := by
  intro pins s σ H R I h
  refine Call_ (ld_blt I hg hm boot_range (PyProof.Rows.callWith_type1 (thn (ha pos pins s σ H _ I h) fun us s1 ⟨vs, H1, I1, r1, q1⟩ => ?_) hs rfl))
  obtain ⟨j, e, q1, q2, q⟩ := q1
  subst e
  cases r1 with
  | cons r rr =>
    cases rr
    obtain ⟨t, rfl⟩ := r
    exact call_range_1 (range_it I1 (by omega) (by omega) q1 q2 (by simpa using q))
def tFor (wi : TI) (g : TG) (tb : TS) : TS := fun D σ H => wi σ H fun J H1 => ∃ W : Nat → Nat → St → Hp → Prop, (∃ m, W 0 m σ H1) ∧ ∀ i m σ H, W i m σ H →
  (J.stop i H ∧ D.nx σ H) ∨ (J.go i H ∧ ∃ N : St → Hp → Prop, (∀ σ' H', N σ' H' → ∃ m', m' < m ∧ W (i + 1) m' σ' H') ∧ ∀ x H', J.yld i H x H' → g x σ H' fun σ2 H2 => tb { D with nx := N, ct := N, bk := D.nx } σ2 H2)
def pinsAt (fp : List Addr) (h : Heap) : List (Addr × Obj) := fp.filterMap fun b => (h.get? b).map fun o => (b, o)
theorem mem_pinsAt {fp : List Addr} {h : Heap} {b : Addr} {o : Obj} (hb : b ∈ fp) (e : h.get? b = some o) : (b, o) ∈ pinsAt fp h := List.mem_filterMap.mpr ⟨b, hb, by rw [e]; rfl⟩
theorem of_pinsAt {fp : List Addr} {h : Heap} {p : Addr × Obj} (hp : p ∈ pinsAt fp h) : p.1 ∈ fp ∧ h.get? p.1 = some p.2 := by
  obtain ⟨b, hb, e⟩ := List.mem_filterMap.mp hp
  cases q : h.get? b with
  | none => rw [q] at e; cases e
  | some o =>
    rw [q] at e
    have e' : (b, o) = p := Option.some.inj e
    subst e'
    exact ⟨hb, q⟩
theorem Inv.pinned {pins : List (Addr × Obj)} {σ : St} {H : Hp} {s : Shared} {fp : List Addr} (I : Inv X pins σ H s) (hf : ∀ b ∈ fp, FpOk X pins H b) (ho : ∀ b ∈ fp, ∃ o, s.heap.get? b = some o ∧ ∀ v, o.data ≠ .cell v) : Inv X (pins ++ pinsAt fp s.heap) σ H s :=
  I.pins_of fun p hp => (List.mem_append.mp hp).elim (fun z => I.pin p (List.mem_append_right _ z)) fun z => by
    obtain ⟨hb, e⟩ := of_pinsAt z
    obtain ⟨f0, f1, f2, _⟩ := hf p.1 hb
    obtain ⟨o, e', d⟩ := ho p.1 hb
    rw [e] at e'; cases e'
    exact ⟨e, f0, f1, f2, d⟩
theorem Inv.unpinned {pins pl : List (Addr × Obj)} {σ : St} {H : Hp} {s : Shared} (I : Inv X (pins ++ pl) σ H s) : Inv X pins σ H s := I.pins_of fun p hp => I.pin p (List.mem_append_right _ (List.mem_append_left _ hp))
theorem ps_for {iter : Expr} {body : List Stmt} {wi : TI} {g : TG} {tb : TS} {pos : Pos} (hp : PassesOwn (model X.prog X.w) X.A X.env X.xe) (hc : X.calm = true) (hi : PI X tg iter wi) (hg : PG X tg g) (hb : PSs X body tb)
    (hs : ∀ x, foldedSetIterable iter X.env x = pure x := by intro _; rfl) : PS X (.For tg iter body [] pos) (tFor wi g tb) := by
  intro pins s σ H D I h
  refine wpAny_For (thn (hi pins s σ H _ I h) fun v s1 h1 => thn h1 fun itv s2 h2 => ?_) hs
  obtain ⟨it, fp, tn, J, H2, e, I2, T, st2, f2, W, ⟨m0, w0⟩, turn⟩ := h2
  subst e
  have stat : ∀ {H' : Hp}, (∀ b ∈ fp, H' b = none) → ∀ b ∈ fp, FpOk X pins H' b := fun hn b hb => ⟨hn b hb, (f2 b hb).2⟩
  refine codeAny_forLoop_any (fun n s' => ∃ i σ' H', Inv X pins σ' H' s' ∧ tn i s'.heap ∧ (∀ b ∈ fp, H' b = none) ∧ W i n σ' H') ?_ m0 ⟨0, σ, H2, I2, st2, fun b hb => (f2 b hb).1, w0⟩
  rintro n s3 ⟨i, σ3, H3, I3, st3, fr3, w3⟩
  rcases turn i n σ3 H3 w3 with ⟨stop, qn⟩ | ⟨go, N, hN, step⟩
  · refine wpAny_passesOwn hp (thn (T.done X rfl rfl rfl hc i pins s3 σ3 H3 X.xe I3 (stat fr3) st3 stop) fun r s4 ⟨hr, I4⟩ => ?_)
    subst hr
    exact wpAny_execs_nil ⟨σ3, H3, I4, qn⟩
  · refine wpAny_passesOwn hp (thn (T.item X rfl rfl rfl hc i pins s3 σ3 H3 X.xe I3 (stat fr3) st3 go) fun r s4 ⟨u, hr, h4⟩ => ?_)
    subst hr
    refine wpAny_passesOwn hp (thn h4 fun _ s5 ⟨x, H5, I5, r5, y5, st5, fr5⟩ => ?_)
    have I5' := I5.pinned (stat fr5) (T.obj _ _ st5)
    refine wpAny_passesOwn hp (thn (hg _ s5 σ3 H5 x u _ I5' r5 (step x H5 y5)) fun _ s6 ⟨σ6, H6, I6, q6⟩ => ?_)
    refine wpAny_passesOwn hp (thn (hb _ s6 σ6 H6 _ I6 q6) fun f s7 q7 => ?_)
    have again : ∀ {σ7 : St} {H7 : Hp}, Inv X (pins ++ pinsAt fp s5.heap) σ7 H7 s7 → N σ7 H7 → ∃ m, m < n ∧ ∃ i σ' H', Inv X pins σ' H' s7 ∧ tn i s7.heap ∧ (∀ b ∈ fp, H' b = none) ∧ W i m σ' H' := fun {σ7 H7} I7 n7 => by
      obtain ⟨m', hm, w7⟩ := hN σ7 H7 n7
      refine ⟨m', hm, i + 1, σ7, H7, I7.unpinned, T.keep _ _ _ st5 fun b hb o e => (I7.pin (b, o) (List.mem_append_right _ (List.mem_append_right _ (mem_pinsAt hb e)))).1, fun b hb => ?_, w7⟩
      obtain ⟨o, e, d⟩ := T.obj _ _ st5 b hb
      exact (I7.pin (b, o) (List.mem_append_right _ (List.mem_append_right _ (mem_pinsAt hb e)))).2.1
    cases f with
    | next => obtain ⟨σ7, H7, I7, n7⟩ := q7; exact again I7 n7
    | cont => obtain ⟨σ7, H7, I7, n7⟩ := q7; exact again I7 n7
    | brk => obtain ⟨σ7, H7, I7, q7⟩ := q7; exact ⟨σ7, H7, I7.unpinned, q7⟩
    | ret v => obtain ⟨x7, σ7, H7, I7, r7, q7⟩ := q7; exact ⟨x7, σ7, H7, I7.unpinned, r7, q7⟩
end
end L2
namespace L2
open PySem PySem.Spec PyProof.Rows
abbrev R2 := V → V → Hp → VK → Prop
def OpR (X : Cx) (f : Value → Value → Sem Value) (r : R2) : Prop :=
  ∀ (pins : List (Addr × Obj)) (s : Shared) (σ : St) (H : Hp) (x y : V) (v u : Value) (Q : VK), Inv X pins σ H s → RelV x v → RelV y u → r x y H Q →
    wpAny (model X.prog X.w) X.A (f v u) (EP X pins σ Q) X.xe s
def CallR (X : Cx) (f : Value) (r : List V → Hp → VK → Prop) : Prop :=
  ∀ (pins : List (Addr × Obj)) (s : Shared) (σ : St) (H : Hp) (xs : List V) (us : List Value) (Q : VK), Inv X pins σ H s → Vals xs us → r xs H Q →
    wpAny (model X.prog X.w) X.A (call f us) (EP X pins σ Q) X.xe s
def TruR (X : Cx) (r : V → Hp → (Bool → Hp → Prop) → Prop) : Prop :=
  ∀ (pins : List (Addr × Obj)) (s : Shared) (σ : St) (H : Hp) (x : V) (v : Value) (Q : Bool → Hp → Prop), Inv X pins σ H s → RelV x v → r x H Q →
    wpAny (model X.prog X.w) X.A (truthy v) (TP X pins σ Q) X.xe s
def tOp (r : R2) (ta tb : TE) : TE := fun σ H Q => ta σ H fun x H1 => tb σ H1 fun y H2 => r x y H2 Q
def rI (C : Int → Int → Prop) (g : Int → Int → V) : R2 := fun x y H Q => ∃ i j, x = .int i ∧ y = .int j ∧ C i j ∧ Q (g i j) H
def rI0 (g : Int → Int → V) : R2 := fun x y H Q => ∃ i j, x = .int i ∧ y = .int j ∧ Q (g i j) H
section
variable {X : Cx} {a b c : Expr} {ta tb tc : TE} {pos : Pos}
theorem binT (ha : PE X a ta) (hb : PE X b tb) {pins : List (Addr × Obj)} {s : Shared} {σ : St} {H : Hp} {R : V → V → Hp → Prop} (I : Inv X pins σ H s)
    (h : ta σ H fun x H1 => tb σ H1 fun y H2 => R x y H2) {Q : Value → Shared → Prop} {f : Value → Value → Sem Value}
    (hf : ∀ v u s2 x y H2, Inv X pins σ H2 s2 → RelV x v → RelV y u → R x y H2 → wpAny (model X.prog X.w) X.A (f v u) Q X.xe s2) :
    wpAny (model X.prog X.w) X.A (eval a X.env) (fun v s₁ => wpAny (model X.prog X.w) X.A (eval b X.env) (fun u s₂ => wpAny (model X.prog X.w) X.A (f v u) Q X.xe s₂) X.xe s₁) X.xe s := by
  refine thn (ha pins s σ H _ I h) fun v s1 ⟨x, H1, I1, r1, q1⟩ => ?_
  refine thn (hb pins s1 σ H1 _ I1 q1) fun u s2 ⟨y, H2, I2, r2, q2⟩ => ?_
  exact hf v u s2 x y H2 I2 r1 r2 q2
theorem pe_op {op : Operator} {r : R2} (ho : OpR X (binaryOp op) r) (ha : PE X a ta) (hb : PE X b tb) : PE X (.BinOp a op b pos) (tOp r ta tb) := by
  intro pins s σ H Q I h
  exact wpAny_BinOp (binT ha hb I h fun v u s2 x y H2 I2 rx ry q => ho pins s2 σ H2 x y v u Q I2 rx ry q)
theorem opI {f : Value → Value → Sem Value} {C : Int → Int → Prop} {g : Int → Int → Int}
    (rule : ∀ (i j : Int) (t u : Tok) (s : Shared) (Q : Value → Shared → Prop) (E : Value → Shared → Prop), C i j → Q (.int (g i j) s.toks) { s with toks := s.toks + 1 } → wpAny (model X.prog X.w) X.A (f (.int i t) (.int j u)) Q E s) :
    OpR X f (rI C fun i j => .int (g i j)) := by
  intro pins s σ H x y v u Q I rx ry h
  obtain ⟨i, j, rfl, rfl, hc, q⟩ := h
  obtain ⟨t, rfl⟩ := rx
  obtain ⟨t', rfl⟩ := ry
  exact rule i j t t' s _ _ hc ⟨.int (g i j), H, I.tok _, ⟨_, rfl⟩, q⟩
theorem opI0 {f : Value → Value → Sem Value} {g : Int → Int → Int}
    (rule : ∀ (i j : Int) (t u : Tok) (s : Shared) (Q : Value → Shared → Prop) (E : Value → Shared → Prop), Q (.int (g i j) s.toks) { s with toks := s.toks + 1 } → wpAny (model X.prog X.w) X.A (f (.int i t) (.int j u)) Q E s) :
    OpR X f (rI0 fun i j => .int (g i j)) := by
  intro pins s σ H x y v u Q I rx ry h
  obtain ⟨i, j, rfl, rfl, q⟩ := h
  obtain ⟨t, rfl⟩ := rx
  obtain ⟨t', rfl⟩ := ry
  exact rule i j t t' s _ _ ⟨.int (g i j), H, I.tok _, ⟨_, rfl⟩, q⟩
theorem opB0 {f : Value → Value → Sem Value} {g : Int → Int → Bool}
    (rule : ∀ (i j : Int) (t u : Tok) (s : Shared) (Q : Value → Shared → Prop) (E : Value → Shared → Prop), Q (.bool (g i j)) s → wpAny (model X.prog X.w) X.A (f (.int i t) (.int j u)) Q E s) :
    OpR X f (rI0 fun i j => .bl (g i j)) := by
  intro pins s σ H x y v u Q I rx ry h
  obtain ⟨i, j, rfl, rfl, q⟩ := h
  obtain ⟨t, rfl⟩ := rx
  obtain ⟨t', rfl⟩ := ry
  exact rule i j t t' s _ _ ⟨.bl (g i j), H, I, rfl, q⟩
def CDiv (i j : Int) : Prop := 0 < j ∧ j < 1073741824
def CMul (i j : Int) : Prop := (-(2 ^ 64) < i ∧ i < 2 ^ 64) ∨ (-(2 ^ 64) < j ∧ j < 2 ^ 64)
theorem CMul.ok {i j : Int} (h : CMul i j) : IntMulOk i j := by
  rcases h with ⟨h1, h2⟩ | ⟨h1, h2⟩
  · exact .of_left (intBits_le_64 h1 h2)
  · exact .of_right (intBits_le_64 h1 h2)
theorem op_add : OpR X (binaryOp .Add) (rI0 fun i j => .int (i + j)) := opI0 fun _ _ _ _ _ _ _ q => add_int q
theorem op_mul : OpR X (binaryOp .Mult) (rI CMul fun i j => .int (i * j)) := opI fun _ _ _ _ _ _ _ hc q => mul_int q hc.ok
theorem op_fdiv : OpR X (binaryOp .FloorDiv) (rI CDiv fun i j => .int (i / j)) := opI fun i j _ _ _ _ _ hc q => by
  have h1 : (0 : Int) < j := hc.1
  have h2 : j < 1073741824 := hc.2
  exact floordiv_int (by omega) (by rw [Int.fdiv_eq_ediv_of_nonneg i (by omega)]; exact q) (.inl (PyProof.noPylong_small (by omega)))
theorem op_mod : OpR X (binaryOp .Mod) (rI (fun _ j => 0 < j) fun i j => .int (i % j)) := opI fun i j _ _ _ _ _ hc q => by
  have h1 : (0 : Int) < j := hc
  exact mod_int' (by omega) (by rw [Int.fmod_eq_emod_of_nonneg i (by omega)]; exact q)
end
def scal : V → V → Bool
  | .non, .non => true | .non, .int _ => true | .int _, .non => true | .non, .bl _ => true | .bl _, .non => true | .non, .str _ => true | .str _, .non => true
  | .int _, .int _ => true | .bl _, .bl _ => true | .str _, .str _ => true | .byt _, .byt _ => true
  | .int _, .str _ => true | .str _, .int _ => true | .bl _, .str _ => true | .str _, .bl _ => true
  | _, _ => false
def rEq : R2 := fun x y H Q => scal x y = true ∧ Q (.bl (decide (x = y))) H
def rNe : R2 := fun x y H Q => scal x y = true ∧ Q (.bl (!decide (x = y))) H
theorem dec_int {i j : Int} : decide (V.int i = V.int j) = (i == j) := by
  rw [Bool.eq_iff_iff]
  simp
theorem dec_bl {i j : Bool} : decide (V.bl i = V.bl j) = (i == j) := by
  rw [Bool.eq_iff_iff]
  simp
theorem dec_str {i j : Str} : decide (V.str i = V.str j) = (i == j) := by
  rw [Bool.eq_iff_iff]
  simp
theorem dec_byt {i j : Array UInt8} : decide (V.byt i = V.byt j) = (i.toList == j.toList) := by
  rw [Bool.eq_iff_iff]
  cases i
  cases j
  simp
section
variable {X : Cx} {a b c : Expr} {ta tb tc : TE} {pos : Pos}
theorem fin_bl {pins : List (Addr × Obj)} {σ : St} {H : Hp} {s : Shared} {Q : VK} {k k' : Bool} (I : Inv X pins σ H s) (q : Q (.bl k) H) (e : k = k') : EP X pins σ Q (.bool k') s := by
  subst e
  exact ⟨.bl k, H, I, rfl, q⟩
theorem op_eq : OpR X (compareOp .Eq) rEq := by
  intro pins s σ H x y v u Q I rx ry h
  obtain ⟨hs, q⟩ := h
  cases x with
  | non =>
    cases rx
    cases y with
    | non => cases ry; exact PySem.EqNone.eq_none_none (fin_bl I q (by simp))
    | bl j => cases ry; exact PySem.EqNone.eq_none_bool (fin_bl I q (by simp))
    | int j => obtain ⟨t', rfl⟩ := ry; exact PySem.EqNone.eq_none_int (fin_bl I q (by simp))
    | str j => obtain ⟨t', rfl⟩ := ry; exact PySem.EqNone.eq_none_str (fin_bl I q (by simp))
    | _ => exact absurd (show false = true from hs) Bool.false_ne_true
  | bl i =>
    cases rx
    cases y with
    | non => cases ry; exact PySem.EqNone.eq_bool_none (fin_bl I q (by simp))
    | bl j => cases ry; exact eq_bool (fin_bl I q dec_bl)
    | str j => obtain ⟨t', rfl⟩ := ry; exact PySem.EqMixed.eq_bool_str (fin_bl I q (by simp))
    | _ => exact absurd (show false = true from hs) Bool.false_ne_true
  | int i =>
    obtain ⟨t, rfl⟩ := rx
    cases y with
    | non => cases ry; exact PySem.EqNone.eq_int_none (fin_bl I q (by simp))
    | int j => obtain ⟨t', rfl⟩ := ry; exact eq_int (fin_bl I q dec_int)
    | str j => obtain ⟨t', rfl⟩ := ry; exact PySem.EqMixed.eq_int_str (fin_bl I q (by simp))
    | _ => exact absurd (show false = true from hs) Bool.false_ne_true
  | str i =>
    obtain ⟨t, rfl⟩ := rx
    cases y with
    | non => cases ry; exact PySem.EqNone.eq_str_none (fin_bl I q (by simp))
    | bl j => cases ry; exact PySem.EqMixed.eq_str_bool (fin_bl I q (by simp))
    | int j => obtain ⟨t', rfl⟩ := ry; exact PySem.EqMixed.eq_str_int (fin_bl I q (by simp))
    | str j => obtain ⟨t', rfl⟩ := ry; exact eq_str (fin_bl I q dec_str)
    | _ => exact absurd (show false = true from hs) Bool.false_ne_true
  | byt i =>
    obtain ⟨t, rfl⟩ := rx
    cases y with
    | byt j => obtain ⟨t', rfl⟩ := ry; exact PySem.W.eq_bytes (fin_bl I q dec_byt)
    | _ => exact absurd (show false = true from hs) Bool.false_ne_true
  | _ => cases y <;> exact absurd (show false = true from hs) Bool.false_ne_true
theorem op_ne : OpR X (compareOp .NotEq) rNe := by
  intro pins s σ H x y v u Q I rx ry h
  obtain ⟨hs, q⟩ := h
  cases x with
  | non =>
    cases rx
    cases y with
    | non => cases ry; exact PySem.EqNone.ne_none_none (fin_bl I q (by simp))
    | bl j => cases ry; exact PySem.EqNone.ne_none_bool (fin_bl I q (by simp))
    | int j => obtain ⟨t', rfl⟩ := ry; exact PySem.EqNone.ne_none_int (fin_bl I q (by simp))
    | str j => obtain ⟨t', rfl⟩ := ry; exact PySem.EqNone.ne_none_str (fin_bl I q (by simp))
    | _ => exact absurd (show false = true from hs) Bool.false_ne_true
  | bl i =>
    cases rx
    cases y with
    | non => cases ry; exact PySem.EqNone.ne_bool_none (fin_bl I q (by simp))
    | bl j => cases ry; exact ne_bool (fin_bl I q (congrArg not dec_bl))
    | str j => obtain ⟨t', rfl⟩ := ry; exact PySem.EqMixed.ne_bool_str (fin_bl I q (by simp))
    | _ => exact absurd (show false = true from hs) Bool.false_ne_true
  | int i =>
    obtain ⟨t, rfl⟩ := rx
    cases y with
    | non => cases ry; exact PySem.EqNone.ne_int_none (fin_bl I q (by simp))
    | int j => obtain ⟨t', rfl⟩ := ry; exact ne_int (fin_bl I q (congrArg not dec_int))
    | str j => obtain ⟨t', rfl⟩ := ry; exact PySem.EqMixed.ne_int_str (fin_bl I q (by simp))
    | _ => exact absurd (show false = true from hs) Bool.false_ne_true
  | str i =>
    obtain ⟨t, rfl⟩ := rx
    cases y with
    | non => cases ry; exact PySem.EqNone.ne_str_none (fin_bl I q (by simp))
    | bl j => cases ry; exact PySem.EqMixed.ne_str_bool (fin_bl I q (by simp))
    | int j => obtain ⟨t', rfl⟩ := ry; exact PySem.EqMixed.ne_str_int (fin_bl I q (by simp))
    | str j => obtain ⟨t', rfl⟩ := ry; exact ne_str (fin_bl I q (congrArg not dec_str))
    | _ => exact absurd (show false = true from hs) Bool.false_ne_true
  | byt i =>
    obtain ⟨t, rfl⟩ := rx
    cases y with
    | byt j => obtain ⟨t', rfl⟩ := ry; exact PySem.W.ne_bytes (fin_bl I q (congrArg not dec_byt))
    | _ => exact absurd (show false = true from hs) Bool.false_ne_true
  | _ => cases y <;> exact absurd (show false = true from hs) Bool.false_ne_true
theorem op_lt : OpR X (compareOp .Lt) (rI0 fun i j => .bl (decide (i < j))) := opB0 fun _ _ _ _ _ _ _ q => lt_int q
theorem op_gt : OpR X (compareOp .Gt) (rI0 fun i j => .bl (decide (j < i))) := opB0 fun _ _ _ _ _ _ _ q => gt_int q
theorem op_lt_str : OpR X (compareOp .Lt) (fun x y H Q => ∃ i j, x = .str i ∧ y = .str j ∧ Q (.bl (decide (i.cps.toList < j.cps.toList))) H) := by
  intro pins s σ H x y v u Q I rx ry h
  obtain ⟨i, j, rfl, rfl, q⟩ := h
  obtain ⟨t, rfl⟩ := rx
  obtain ⟨t', rfl⟩ := ry
  exact lt_str (fin_bl I q rfl)
theorem op_in_str : OpR X (compareOp .In) (fun x y H Q => ∃ i j, x = .str i ∧ y = .str j ∧ Q (.bl (!(Builtin.Str.occurrences j i 0 j.length 1).isEmpty)) H) := by
  intro pins s σ H x y v u Q I rx ry h
  obtain ⟨i, j, rfl, rfl, q⟩ := h
  obtain ⟨t, rfl⟩ := rx
  obtain ⟨t', rfl⟩ := ry
  exact in_str (fin_bl I q rfl)
theorem op_notin_str : OpR X (compareOp .NotIn) (fun x y H Q => ∃ i j, x = .str i ∧ y = .str j ∧ Q (.bl (!(!(Builtin.Str.occurrences j i 0 j.length 1).isEmpty))) H) := by
  intro pins s σ H x y v u Q I rx ry h
  obtain ⟨i, j, rfl, rfl, q⟩ := h
  obtain ⟨t, rfl⟩ := rx
  obtain ⟨t', rfl⟩ := ry
  exact notIn_str (fin_bl I q rfl)
theorem OpR.or {f : Value → Value → Sem Value} {r r' : R2} (h : OpR X f r) (h' : OpR X f r') : OpR X f (fun x y H Q => r x y H Q ∨ r' x y H Q) := by
  intro pins s σ H x y v u Q I rx ry q
  rcases q with q | q
  · exact h pins s σ H x y v u Q I rx ry q
  · exact h' pins s σ H x y v u Q I rx ry q
theorem nomark (b : Expr) {op : CmpOp} (h : op ≠ .In := by decide) (h2 : op ≠ .NotIn := by decide) : behindInMarks op b = false := by
  have e1 : (op == CmpOp.In) = false := by cases op <;> first | rfl | exact absurd rfl h
  have e2 : (op == CmpOp.NotIn) = false := by cases op <;> first | rfl | exact absurd rfl h2
  cases b <;> simp [behindInMarks, e1, e2]
theorem pe_cmpR {op : CmpOp} {r : R2} (ho : OpR X (compareOp op) r) (ha : PE X a ta) (hb : PE X b tb) (hm : behindInMarks op b = false) : PE X (.Compare a [op] [b] pos) (tOp r ta tb) := by
  intro pins s σ H Q I h
  exact wpAny_Compare1 (binT ha hb I h fun v u s2 x y H2 I2 rx ry q => ho pins s2 σ H2 x y v u Q I2 rx ry q) hm
def tTest (t : TE) : TT := fun σ H Q => t σ H fun x H' => ∃ k, x = .bl k ∧ Q k H'
theorem pt_cmpR {op : CmpOp} {r : R2} (ho : OpR X (compareOp op) r) (ha : PE X a ta) (hb : PE X b tb) (hm : behindInMarks op b = false) : PT X (.Compare a [op] [b] pos) (tTest (tOp r ta tb)) := by
  intro pins s σ H Q I h
  refine wpAny_isTrue_Compare1 (thn (ha pins s σ H _ I h) fun v s1 ⟨x, H1, I1, r1, q1⟩ => thn (hb pins s1 σ H1 _ I1 q1) fun u s2 ⟨y, H2, I2, r2, q2⟩ =>
    thn (ho pins s2 σ H2 x y v u _ I2 r1 r2 q2) fun c s3 ⟨z, H3, I3, r3, k, e, q3⟩ => ?_) hm
  subst e
  cases r3
  exact wpAny_truthy_bool ⟨H3, I3, q3⟩
def TruV (K : PySem.W.Frag) (x : V) (H : Hp) (k : Bool) : Prop :=
  match x with
  | .non => k = false
  | .bl b => k = b
  | .int i => k = (i != 0)
  | .str y => y.length ≤ sizeLine ∧ k = ((y.length : Int) != 0)
  | .byt y => y.size ≤ sizeLine ∧ k = ((y.size : Int) != 0)
  | .ref p => (∃ xs, SqL K H p xs ∧ k = !xs.isEmpty) ∨ (∃ xs, SqT K H p xs ∧ k = !xs.isEmpty) ∨ ∃ kvs, H p = some (.dK kvs) ∧ k = !kvs.isEmpty
  | _ => False
theorem isEmpty_kv {κ : Type} {kvs : List (κ × V)} {vs : List (κ × Value)} (r : KV kvs vs) : (!vs.isEmpty) = !kvs.isEmpty := by
  cases r <;> rfl
theorem isEmpty_of {xs : List V} {its : List Value} (r : Vals xs its) : (!its.toArray.isEmpty) = !xs.isEmpty := by
  cases r <;> simp
theorem line63 : (sizeLine : Nat) < 2 ^ 63 := by rw [sizeLine_eq]; decide
theorem tru_ok : TruR X (fun x H Q => ∃ k, TruV X.K x H k ∧ Q k H) := by
  intro pins s σ H x v Q I rx h
  obtain ⟨k, e, q⟩ := h
  have hl := line63
  have hs : sizeLine = 16777216 := sizeLine_eq
  cases x with
  | non =>
    cases rx
    have e' : k = false := e
    subst e'
    exact truthy_none ⟨H, I, q⟩
  | bl b =>
    cases rx
    have e' : k = b := e
    subst e'
    exact wpAny_truthy_bool ⟨H, I, q⟩
  | int i =>
    obtain ⟨t, rfl⟩ := rx
    have e' : k = (i != 0) := e
    subst e'
    exact PySem.P.truthy_int ⟨H, I, q⟩
  | str y =>
    obtain ⟨t, rfl⟩ := rx
    obtain ⟨hy, e'⟩ : y.length ≤ sizeLine ∧ k = ((y.length : Int) != 0) := e
    subst e'
    exact PySem.P.truthy_str (by omega) ⟨H, I.tok _, q⟩
  | byt y =>
    obtain ⟨t, rfl⟩ := rx
    obtain ⟨hy, e'⟩ : y.size ≤ sizeLine ∧ k = ((y.size : Int) != 0) := e
    subst e'
    exact PySem.W.truthy_bytes (by omega) ⟨H, I.tok _, q⟩
  | ref p =>
    cases rx
    have e' : (∃ xs, SqL X.K H p xs ∧ k = !xs.isEmpty) ∨ (∃ xs, SqT X.K H p xs ∧ k = !xs.isEmpty) ∨ ∃ kvs, H p = some (.dK kvs) ∧ k = !kvs.isEmpty := e
    rcases e' with ⟨xs, hx, e'⟩ | ⟨xs, hx, e'⟩ | ⟨kvs, hx, e'⟩
    · subst e'
      obtain ⟨its, r, pl, hz⟩ := I.list hx
      have hlen := r.length
      exact wpAny_truthy_list pl.isList (by simp only [List.size_toArray]; omega) ⟨H, I.tok _, by rw [isEmpty_of r]; exact q⟩
    · subst e'
      obtain ⟨its, r, pl, hz⟩ := I.tuple hx
      have hlen := r.length
      exact truthy_tuple pl (by simp only [List.size_toArray]; omega) ⟨H, I.tok _, by rw [isEmpty_of r]; exact q⟩
    · subst e'
      obtain ⟨hz, hS, vs, r, m⟩ : kvs.length ≤ sizeLine ∧ (p == sysModules) = false ∧ ∃ vs, KV kvs vs ∧ s.heap.DictOf (mixKind X.prog X.w) p vs := I.hok p _ hx
      have hlen : kvs.length = vs.length := Paired.length r
      exact wpAny_truthy_dict hS m (by omega) ⟨H, I.tok _, by rw [isEmpty_kv r]; exact q⟩
  | _ => exact (show False from e).elim
theorem pt_truth (ha : PE X a ta) (he : ∀ whole, isTrue a X.env whole = (do let v ← whole; standAt a.pos; holding [v] (truthy v))) :
    PT X a (fun σ H Q => ta σ H fun x H' => ∃ k, TruV X.K x H' k ∧ Q k H') := by
  intro pins s σ H Q I h
  exact isTrue_plain (thn (ha pins s σ H _ I h) fun v s1 ⟨x, H1, I1, r1, q1⟩ => tru_ok pins s1 σ H1 x v Q I1 r1 q1) (he _)
theorem op_add_str : OpR X (binaryOp .Add) (fun x y H Q => ∃ i j, x = .str i ∧ y = .str j ∧ i.length + j.length ≤ sizeLine ∧ Q (.str (i ++ j)) H) := by
  intro pins s σ H x y v u Q I rx ry h
  obtain ⟨i, j, rfl, rfl, hz, q⟩ := h
  obtain ⟨t, rfl⟩ := rx
  obtain ⟨t', rfl⟩ := ry
  exact wpAny_with_toks (n := 1) I.tk (add_str (fun t' tk htk => ⟨.str (i ++ j), H, I.tok _ htk, ⟨_, rfl⟩, q⟩) hz)
theorem vals1 {x : V} {us : List Value} (r : Vals [x] us) : ∃ u, us = [u] ∧ RelV x u := by
  cases r with
  | cons r1 r2 => cases r2; exact ⟨_, rfl, r1⟩
theorem vals2 {x y : V} {us : List Value} (r : Vals [x, y] us) : ∃ u w', us = [u, w'] ∧ RelV x u ∧ RelV y w' := by
  cases r with
  | cons r1 r2 =>
    cases r2 with
    | cons r3 r4 => cases r4; exact ⟨_, _, rfl, r1, r3⟩
end
end L2
namespace L2
open PySem PySem.Spec PyProof.Rows
structure ObjM (h : Heap) (x dx C : Addr) (mA : Str → Option Value) : Prop where
  obj : h.get? x = some (PySem.W.instObj C dx)
  ns : h.Ns1 dx mA
  ne : dx ≠ x
theorem lookIn_ns {h : Heap} {dx : Addr} {mA : Str → Option Value} (n : h.Ns1 dx mA) : ∃ od, h.get? dx = some od ∧ ∀ name, PySem.W.lookIn name od = some (mA name) := by
  obtain ⟨o, es, ep, ho, hd, hk, _, hm⟩ := n
  refine ⟨o, ho, fun name => ?_⟩
  have e := hm name
  unfold nsFind findBy at e
  rw [← Array.find?_toList] at e
  unfold PySem.W.lookIn
  rw [hd]
  dsimp only
  split
  · rename_i y q
    rw [q] at e
    exact congrArg some e
  · rename_i q
    rw [q] at e
    have a : es.toList.any (·.refKey) = false := by
      rw [List.any_eq_false]
      intro y hy
      obtain ⟨z, t, hkey⟩ := hk y (Array.mem_toList_iff.mp hy)
      simp [DictEntry.refKey, hkey]
    have a' : ¬ es.toList.any (·.refKey) = true := by rw [a]; exact Bool.false_ne_true
    rw [if_neg a']
    exact congrArg some e
theorem ObjM.look {h : Heap} {x dx C : Addr} {mA : Str → Option Value} (I : ObjM h x dx C mA) : ∃ od, PySem.W.InstAt h x (PySem.W.instObj C dx) C (some od) ∧ ∀ name, PySem.W.lookIn name od = some (mA name) :=
  let ⟨od, ho, hl⟩ := lookIn_ns I.ns
  ⟨od, ⟨I.obj, rfl, rfl, ho⟩, hl⟩
theorem RelO.some_of {v : V} {o : Option Value} (r : RelO (some v) o) : ∃ u, o = some u ∧ RelV v u := by
  cases o with
  | none => exact (show False from r).elim
  | some u => exact ⟨u, rfl, r⟩
section
variable {P : Program} {w : World} {H H' : Hp} {h h' : Heap} {a C dx : Addr} {fs fs' : List (Str × V)}
theorem ins_get (hok : HOk P w H h) (e : H a = some (.ins C dx fs)) : ∃ mA, ObjM h a dx C mA ∧ (∀ f, RelO (fs.lookup f) (mA f)) ∧ PySem.Within mA (fs.map (·.1)) ∧ fs.length ≤ 1000 ∧ H dx = some (.own a) := by
  obtain ⟨d, z, ne, ob, mA, n, r, q⟩ := (show ObjOk P w H h a (.ins C dx fs) from hok a _ e)
  exact ⟨mA, ⟨ob, n, ne⟩, r, q, z, d⟩
end
structure Cls (K : PySem.W.Frag) (C : Addr) : Prop where
  pg : PySem.W.plainGet K C Str.empty = true
  hd : PySem.W.hasDictIn K C = true
  po : PySem.W.plainOver K C = true
  sa : PySem.W.findIn K (.ref C) "__setattr__" = some (some (.builtin "object.__setattr__"))
theorem Cls.get {K : PySem.W.Frag} {C : Addr} (c : Cls K C) (f : Str) : PySem.W.plainGet K C f = true := c.pg
def NoAttr (K : PySem.W.Frag) (C : Addr) (f : Str) : Prop := PySem.W.findIn K (.ref C) f = some none
structure Con (K : PySem.W.Frag) (C : Addr) (f : Str) (v : V) (u : Value) : Prop where
  at_ : PySem.W.findIn K (.ref C) f = some (some u)
  rel : RelV v u
  get : PySem.W.specialIn K u "__get__" = some none
  cp : PySem.W.copiedNames.contains f = false
structure Meth (K : PySem.W.Frag) (C : Addr) (m : Str) (f : Addr) : Prop where
  at_ : PySem.W.findIn K (.ref C) m = some (some (.ref f))
  fn : PySem.W.isFn K (.ref f) = true
  kp : PySem.W.keepIn K (.ref f) = true
section
variable {X : Cx} {pins : List (Addr × Obj)} {σ : St} {H : Hp} {s : Shared} {A : Around} {E : Value → Shared → Prop} {Q : Value → Shared → Prop} {c : Value} {b : Bool}
inductive TyOf (K : PySem.W.Frag) (H : Hp) : V → Value → Prop where
  | non : TyOf K H .non (.type "NoneType")
  | bl (x : Bool) : TyOf K H (.bl x) (.type "bool")
  | int (i : Int) : TyOf K H (.int i) (.type "int")
  | str (x : Str) : TyOf K H (.str x) (.type "str")
  | flt (x : UInt64) : TyOf K H (.flt x) (.type "float")
  | lst {a : Addr} {xs : List V} (e : H a = some (.lst xs)) : TyOf K H (.ref a) (.type "list")
  | frz {a : Addr} {o : Obj} {xs : List V} (e : H a = some (.frz o (.lst xs))) : TyOf K H (.ref a) (.type "list")
  | tup {a : Addr} {xs : List V} (e : H a = some (.tup xs)) : TyOf K H (.ref a) (.type "tuple")
  | dK {a : Addr} {kvs : List (Key × V)} (e : H a = some (.dK kvs)) : TyOf K H (.ref a) (.type "dict")
  | dT {a : Addr} {kvs : List (List Key × V)} (e : H a = some (.dT kvs)) : TyOf K H (.ref a) (.type "dict")
  | ins {a C dx : Addr} {fs : List (Str × V)} (e : H a = some (.ins C dx fs)) (cl : Cls K C) (ha : PySem.W.findIn K (.ref C) "__class__" = some (some (.builtin "object.__class__")))
      (hn : PySem.W.specialIn K (.builtin "object.__class__") "__get__" = some (some (.builtin "getset_descriptor.__get__"))) (htk : PySem.W.takesIn K (.builtin "object.__class__") = some true)
      (hm : PySem.W.mroIn K C (.type "object") = some true) : TyOf K H (.ref a) (.ref C)
theorem isinst_ok {x : V} {u t : Value} (I : Inv X pins σ H s) (rx : RelV x u) (ty : TyOf X.K H x t) (e : PySem.W.kitOne X.K t c = some b) (h : ∀ tk, Q (.bool b) { s with toks := tk }) :
    wpAny (model X.prog X.w) A (call (.builtin "isinstance") [u, c]) Q E s := by
  cases ty with
  | non => cases (show u = Value.none from rx); exact PySem.W.kia_one PySem.W.kitx_none I.kIn True.intro e (fun z => nomatch z) h
  | bl y => cases (show u = Value.bool y from rx); exact PySem.W.kia_one PySem.W.kitx_bool I.kIn True.intro e (fun z => nomatch z) h
  | int i => obtain ⟨t, q⟩ := (show ∃ t, u = Value.int i t from rx); cases q; exact PySem.W.kia_one PySem.W.kitx_int I.kIn True.intro e (fun z => nomatch z) h
  | str y => obtain ⟨t, q⟩ := (show ∃ t, u = Value.str y t from rx); cases q; exact PySem.W.kia_one PySem.W.kitx_str I.kIn True.intro e (fun z => nomatch z) h
  | flt y => obtain ⟨t, q⟩ := (show ∃ t, u = Value.float y t from rx); cases q; exact PySem.W.kia_one PySem.W.kitx_float I.kIn True.intro e (fun z => nomatch z) h
  | @lst a xs ea =>
    cases (show u = Value.ref a from rx)
    obtain ⟨_, _, n, _, h1⟩ := (show ObjOk X.prog X.w H s.heap a (.lst xs) from I.hok a _ ea)
    exact PySem.W.kia_one PySem.W.kitx_list I.kIn ⟨_, h1, rfl⟩ e (fun z => nomatch z) h
  | @frz a ob xs ea =>
    cases (show u = Value.ref a from rx)
    obtain ⟨_, _, _, n, _, h1⟩ := (show ObjOk X.prog X.w H s.heap a (.frz ob (.lst xs)) from I.hok a _ ea)
    exact PySem.W.kia_one PySem.W.kitx_list I.kIn ⟨_, h1, rfl⟩ e (fun z => nomatch z) h
  | @tup a xs ea =>
    cases (show u = Value.ref a from rx)
    obtain ⟨_, _, _, p⟩ := (show ObjOk X.prog X.w H s.heap a (.tup xs) from I.hok a _ ea)
    obtain ⟨o, h1, h2, _⟩ := p
    exact PySem.W.kia_one PySem.W.kitx_tuple I.kIn ⟨o, h1, h2⟩ e (fun z => nomatch z) h
  | @dK a kvs ea =>
    cases (show u = Value.ref a from rx)
    obtain ⟨_, _, vs, _, p⟩ := (show ObjOk X.prog X.w H s.heap a (.dK kvs) from I.hok a _ ea)
    obtain ⟨o, es, ep, h1, h2, _⟩ := p
    exact PySem.W.kia_one PySem.W.kitx_dict I.kIn ⟨o, h1, h2.1⟩ e (fun z => nomatch z) h
  | @dT a kvs ea =>
    cases (show u = Value.ref a from rx)
    obtain ⟨_, _, xs, _, o, es, ep, h1, h2, _⟩ := (show ObjOk X.prog X.w H s.heap a (.dT kvs) from I.hok a _ ea)
    exact PySem.W.kia_one PySem.W.kitx_dict I.kIn ⟨o, h1, h2.1⟩ e (fun z => nomatch z) h
  | @ins a C dx fs ea cl ha hn htk hm =>
    cases (show u = Value.ref a from rx)
    obtain ⟨mA, O, _⟩ := ins_get I.hok ea
    obtain ⟨od, J, _⟩ := O.look
    exact PySem.W.kia_one (PySem.W.kitx_own (cl.get _) cl.hd ha hn htk hm) I.kIn J e (fun z => nomatch z) h
end
end L2
namespace L2
open PySem PySem.Spec PyProof.Rows
structure Room (k : Nat) (A : Around) : Prop where
  hd : A.handled = none
  dp : A.depth + 3 * k + 5 < recursionLimit
  un : A.units + 16 * k + 200 < cLine
theorem Room.mono {j k : Nat} {A : Around} (r : Room k A) (h : j ≤ k) : Room j A := ⟨r.hd, by have := r.dp; omega, by have := r.un; omega⟩
theorem Room.deeper {k : Nat} {A : Around} (r : Room (k + 1) A) (env : Env) : Room k (A.deeper env) :=
  ⟨r.hd, by have := r.dp; show A.depth + 1 + 3 * k + 5 < _; omega, by have := r.un; show A.units + 3 + 16 * k + 200 < _; omega⟩
theorem Room.depth {k : Nat} {A : Around} (r : Room k A) : A.depth < recursionLimit := by have := r.dp; omega
theorem Room.units {k : Nat} {A : Around} (r : Room k A) : A.units + 64 < cLine := by have := r.un; omega
theorem Room.units0 {k : Nat} {A : Around} (r : Room k A) : A.units < cLine := by have := r.un; omega
def tNil : TA := fun _ H Q => Q [] H
def tCons (ta : TE) (tr : TA) : TA := fun σ H Q => ta σ H fun x H1 => tr σ H1 fun xs H2 => Q (x :: xs) H2
section
variable {X : Cx} {e : Expr} {es : List Expr} {te : TE} {t : TA} {pos : Pos}
theorem pa_nil : PA X [] tNil := fun _ _ _ _ H Q I h => Calls.spliced_nil ⟨[], H, I, .nil, h⟩
theorem pa_cons (ha : PE X e te) (hr : PA X es t) (hs : starEach (e :: es) X.env = (false, eval e X.env) :: starEach es X.env := by rfl) : PA X (e :: es) (tCons te t) := by
  intro pos pins s σ H Q I h
  rw [hs]
  show wpAny _ _ (spliced ((false, eval e X.env) :: backTo pos (starEach es X.env))) _ _ s
  refine Calls.spliced_cons (thn (ha pins s σ H _ I h) fun u s1 ⟨x, H1, I1, r1, q1⟩ => ?_)
  exact thn (hr pos pins s1 σ H1 _ I1 q1) fun us s2 ⟨xs, H2, I2, r2, q2⟩ => ⟨x :: xs, H2, I2, .cons r1 r2, q2⟩
def tTup (t : TA) : TE := fun σ H Q => t σ H fun xs H1 => xs.length ≤ sizeLine ∧ ∀ p, H1 p = none → Q (.ref p) (upd H1 p (.tup xs))
def tLst (t : TA) : TE := fun σ H Q => t σ H fun xs H1 => xs.length ≤ sizeLine ∧ ∀ p, H1 p = none → Q (.ref p) (upd H1 p (.lst xs))
theorem pe_tup {x1} (h : PA X es t) : PE X (.Tuple es x1 pos) (tTup t) := by
  intro pins s σ H Q I hq
  refine wpAny_Tuple_spliced (thn (h pos pins s σ H _ I hq) fun us s1 ⟨xs, H1, I1, r, z, q⟩ => ⟨by rw [← r.length]; exact z, ?_⟩)
  have hf : H1 s1.heap.objs.size = none := I1.hok.fresh (Nat.le_refl _)
  refine ⟨.ref s1.heap.objs.size, upd H1 s1.heap.objs.size (.tup xs), I1.laid (t' := s1.toks) (fun b u e => Heap.get?_push_of_some _ e) (Nat.le_refl _) ?_, rfl, q _ hf⟩
  exact ⟨z, us, r, ⟨_, Heap.get?_push_size _ rfl, rfl, _, rfl⟩⟩
theorem pe_lst (h : PA X es t) : PE X (.List es pos) (tLst t) := by
  intro pins s σ H Q I hq
  refine wpAny_List_spliced (thn (h pos pins s σ H _ I hq) fun us s1 ⟨xs, H1, I1, r, z, q⟩ => ⟨by rw [← r.length]; exact z, ?_⟩)
  have hf : H1 s1.heap.objs.size = none := I1.hok.fresh (Nat.le_refl _)
  refine ⟨.ref s1.heap.objs.size, upd H1 s1.heap.objs.size (.lst xs), I1.laid (t' := s1.toks) (fun b u e => Heap.get?_push_of_some _ e) (Nat.le_refl _) ?_, rfl, q _ hf⟩
  exact ⟨z, us, 0, r, Heap.get?_push_size _ rfl⟩
end
abbrev Sp := List V → Hp → VK → XK → Prop
abbrev CXT := List Env → Hp → Shared → XK → Value → Shared → Prop
structure Env0 (P : Program) (w : World) (K : PySem.W.Frag) (mg : Str → Option Value) (base : Heap) (A : Around) (outer : List Env) (s : Shared) (H : Hp) : Prop where
  frames : A.frames = some outer
  mod : Mod K mg base
  bs : ∀ b o, base.get? b = some o → s.heap.get? b = some o ∧ H b = none
  bsz : base.objs.size ≤ s.heap.objs.size
  funs : s.heap.FunFrames base outer
  frf : ∀ b ∈ frs outer, H b = none
  hok : HOk P w H s.heap
  bare : AllBare s.gens
def CE (outer : List Env) (P : Program) (w : World) (H : Hp) (s : Shared) (Q : VK) (u : Value) (s' : Shared) : Prop :=
  ∃ v H', s'.os = s.os ∧ AllBare s'.gens ∧ Un (frs outer) [] H H' s.heap s'.heap ∧ HOk P w H' s'.heap ∧ RelV v u ∧ Q v H'
def CR (CX : CXT) (outer : List Env) (P : Program) (w : World) (H : Hp) (s : Shared) (Q : VK) (E : XK) (r : Result) (s' : Shared) : Prop :=
  match r with
  | .ok (.ret u) => CE outer P w H s Q u s'
  | .ok _ => False
  | .error e => CX outer H s E e s'
structure FnOk (P : Program) (w : World) (K : PySem.W.Frag) (mg : Str → Option Value) (base : Heap) (CX : CXT) (k : Nat) (f : Addr) (fd : FuncData) (ps : List Str) (sp : Sp) : Prop where
  len : ∀ vs H Q E, sp vs H Q E → vs.length = ps.length
  run : ∀ (A : Around) (outer : List Env) (s : Shared) (H : Hp) (args : Args) (us : List Value) (vs : List V) (Q : VK) (E : XK), Room k A → Env0 P w K mg base A outer s H → (0 < s.toks ∨ ∃ p ∈ ps, fd.scope.names.lookup p = some .local) → BindsTo s fd args (ps.zip us) → Vals vs us → sp vs H Q E →
    codeAny (model P w) A (.call (.ref f) args) (CR CX outer P w H s Q E) s
section
variable {X : Cx} {pins : List (Addr × Obj)} {σ : St} {H : Hp} {s s' : Shared}
theorem Inv.env0 (I : Inv X pins σ H s) : Env0 X.prog X.w X.K X.mg X.base X.A X.stack s H :=
  ⟨I.ok.frames, I.ok.mod, I.bs, Nat.le_trans I.ok.bsz I.sz, I.stack, I.stkFree, I.hok, I.bare⟩
theorem Inv.after {Q : VK} {u : Value} (I : Inv X pins σ H s) (h : CE X.stack X.prog X.w H s Q u s') (ht : 0 < s'.toks) : EP X pins σ Q u s' := by
  obtain ⟨v, H', os, bare, un, hok, r, q⟩ := h
  obtain ⟨hh, g, d, t, os'⟩ := s'
  obtain rfl : os' = s.os := os
  exact ⟨v, H', I.call (h' := hh) (g' := g) (d' := d) (t' := t) (ch := []) un hok bare (fun b z => absurd z (by simp)) ht, r, q⟩
end
def tCall (sp : Sp) (dvs : List V) (E : XK) (t : TA) : TE := fun σ H Q => t σ H fun vs H1 => sp (vs ++ dvs) H1 Q E
def Binds (K : PySem.W.Frag) (fd : FuncData) (ps : List Str) (ds : List Value) : Prop :=
  ∀ (s : Shared) (us : List Value), K.In s.heap → (us ++ ds).length = ps.length → BindsTo s fd ⟨us, []⟩ (ps.zip (us ++ ds))
theorem Binds.all {K : PySem.W.Frag} {fd : FuncData} {ps : List Str} (h : ∀ us : List Value, us.length = ps.length → bindArgs fd ⟨us, []⟩ = pure (ps.zip us)) : Binds K fd ps [] := fun s us _ hl => by
  rw [List.append_nil] at hl ⊢
  exact .of_eq (h us hl)
def Passes (CX : CXT) (X : Cx) (E : XK) : Prop := ∀ (pins : List (Addr × Obj)) (σ : St) (H : Hp) (s : Shared) (e : Value) (s' : Shared), Inv X pins σ H s → CX X.stack H s E e s' → X.xe e s'
section
variable {X : Cx} {CX : CXT} {k : Nat} {f C : Addr} {fd : FuncData} {ps : List Str} {sp : Sp} {dvs : List V} {ds : List Value} {E : XK} {x m : Str} {p pos apos : Pos} {e o : Expr} {es : List Expr} {ta : TE} {t : TA}
theorem run_fn {pins : List (Addr × Obj)} {σ : St} {H : Hp} {s : Shared} {Q : VK} {us : List Value} {vs : List V} (F : FnOk X.prog X.w X.K X.mg X.base CX k f fd ps sp) (hr : Room k X.A) (hb : Binds X.K fd ps ds) (hd : Vals dvs ds) (hx : Passes CX X E)
    (I : Inv X pins σ H s) (r : Vals vs us) (h : sp (vs ++ dvs) H Q E) : wpAny (model X.prog X.w) X.A (call (.ref f) us) (EP X pins σ Q) X.xe s := by
  have r2 : Vals (vs ++ dvs) (us ++ ds) := r.append hd
  have hl : (us ++ ds).length = ps.length := by rw [← r2.length]; exact F.len _ _ _ _ h
  refine wpAny_call (codeAny_mono (codeAny_toks_of (n := 1) I.tk (F.run X.A X.stack s H ⟨us, []⟩ (us ++ ds) (vs ++ dvs) Q E hr I.env0 (.inl I.tk) (hb s us I.kIn hl) r2 h)) fun r s' ⟨htk, hq⟩ => ?_)
  cases r with
  | error e => exact hx pins σ H s e s' I hq
  | ok fl =>
    cases fl with
    | ret u => exact I.after hq htk
    | next => exact False.elim hq
    | brk => exact False.elim hq
    | cont => exact False.elim hq
theorem pe_call (F : FnOk X.prog X.w X.K X.mg X.base CX k f fd ps sp) (hr : Room k X.A) (hg : Gl X x) (hm : X.mg x = some (.ref f)) (hk : PySem.W.keepIn X.K (.ref f) = true) (hb : Binds X.K fd ps ds) (hd : Vals dvs ds) (hx : Passes CX X E)
    (ha : PA X (e :: es) t) (hdb : (x == ("__debug__" : Str)) = false := by decide) (he : starEach (e :: es) X.env = (false, eval e X.env) :: starEach es X.env := by rfl) (hpl : (backTo pos (starEach es X.env)).any (·.1) = false := by rfl) :
    PE X (.Call (.Name x p) (e :: es) [] pos) (tCall sp dvs E t) := by
  intro pins s σ H Q I h
  refine wpAny_Call_Name_kw (ld_glob I hg hm ?_ hdb)
  refine PySem.W.callWith_K (h₀ := X.base) I.ok.mod.kin hk (thn (ha pos pins s σ H _ I h) fun us s1 ⟨vs, H1, I1, r, q⟩ => ⟨I1.kIn, ?_⟩) he hpl
  exact run_fn F hr hb hd hx I1 r q
structure Mk (K : PySem.W.Frag) (C f : Addr) : Prop where
  makes : PySem.W.makesIn K C = true
  init : PySem.W.findIn K (.ref C) "__init__" = some (some (.ref f))
  fn : PySem.W.isFn K (.ref f) = true
  kp : PySem.W.keepIn K (.ref C) = true
end
section
variable {X : Cx} {CX : CXT} {k : Nat} {f C : Addr} {fd : FuncData} {ps ks : List Str} {sp : Sp} {E : XK} {x m : Str} {p pos apos kpos : Pos} {e o : Expr} {es : List Expr} {kws : List Keyword} {te ta : TE} {t tk : TA} {nm : Option Str}
structure KBinds (K : PySem.W.Frag) (fd : FuncData) (ps ks : List Str) (g : List Value → List Value → List Value) (gV : List V → List V → List V) : Prop where
  to : ∀ (s : Shared) (us ws : List Value), K.In s.heap → (g us ws).length = ps.length → BindsTo s fd ⟨us, ks.zip ws⟩ (ps.zip (g us ws))
  rel : ∀ {vs : List V} {us : List Value} {zs : List V} {ws : List Value}, Vals vs us → Vals zs ws → Vals (gV vs zs) (g us ws)
variable {g : List Value → List Value → List Value} {gV : List V → List V → List V}
end
structure FnScope (N P : List Str) (sc : Scope) : Prop where
  kind : sc.kind = .function
  co : sc.isCoroutine = false
  gen : sc.isGenerator = false
  nd : N.Nodup
  pre : N.take P.length = P
  par : ∀ x ∈ P, sc.names.lookup x = some .local ∨ sc.names.lookup x = some .cell
  nofree : ∀ y ∈ sc.names, y.2 ≠ .free
theorem bindL_out {kindOf : Str → Option NameKind} {x : Str} : ∀ {binds : List (Str × Value)} {m : Str → Option Value}, (∀ v, (x, v) ∉ binds) → bindL kindOf binds m x = m x
  | [], _, _ => rfl
  | (n, v) :: r, m, h => by
    unfold bindL
    rw [bindL_out fun w hw => h w (List.mem_cons_of_mem _ hw)]
    split
    · have : x ≠ n := by rintro rfl; exact h v List.mem_cons_self
      simp [this]
    · rfl
theorem bindC_out {kindOf : Str → Option NameKind} {x : Str} : ∀ {binds : List (Str × Value)} {m : Str → Option Value}, (∀ v, (x, v) ∉ binds) → bindC kindOf binds m x = m x
  | [], _, _ => rfl
  | (n, v) :: r, m, h => by
    unfold bindC
    rw [bindC_out fun w hw => h w (List.mem_cons_of_mem _ hw)]
    split
    · rfl
    · have : x ≠ n := by rintro rfl; exact h v List.mem_cons_self
      simp [this]
theorem bindL_get {kindOf : Str → Option NameKind} {x : Str} {v : Value} : ∀ {P : List Str} {vs : List Value} {i : Nat} {m : Str → Option Value}, P.Nodup → P[i]? = some x → vs[i]? = some v → kindOf x = some .local →
    bindL kindOf (P.zip vs) m x = some v
  | [], _, _, _, _, h, _, _ => by simp at h
  | _ :: _, [], _, _, _, _, h, _ => by simp at h
  | p :: P, w :: vs, 0, m, nd, h1, h2, hk => by
    simp at h1 h2; subst h1; subst h2
    show bindL kindOf ((p, w) :: P.zip vs) m p = _
    unfold bindL
    rw [bindL_out fun v hv => (List.nodup_cons.mp nd).1 (List.of_mem_zip hv).1, if_pos hk]
    simp
  | p :: P, w :: vs, i + 1, m, nd, h1, h2, hk => by
    show bindL kindOf ((p, w) :: P.zip vs) m x = _
    unfold bindL
    exact bindL_get (i := i) (List.nodup_cons.mp nd).2 (by simpa using h1) (by simpa using h2) hk
theorem bindC_get {kindOf : Str → Option NameKind} {x : Str} {v : Value} : ∀ {P : List Str} {vs : List Value} {i : Nat} {m : Str → Option Value}, P.Nodup → P[i]? = some x → vs[i]? = some v → kindOf x ≠ some .local →
    bindC kindOf (P.zip vs) m x = some v
  | [], _, _, _, _, h, _, _ => by simp at h
  | _ :: _, [], _, _, _, _, h, _ => by simp at h
  | p :: P, w :: vs, 0, m, nd, h1, h2, hk => by
    simp at h1 h2; subst h1; subst h2
    show bindC kindOf ((p, w) :: P.zip vs) m p = _
    unfold bindC
    rw [bindC_out fun v hv => (List.nodup_cons.mp nd).1 (List.of_mem_zip hv).1, if_neg hk]
    simp
  | p :: P, w :: vs, i + 1, m, nd, h1, h2, hk => by
    show bindC kindOf ((p, w) :: P.zip vs) m x = _
    unfold bindC
    exact bindC_get (i := i) (List.nodup_cons.mp nd).2 (by simpa using h1) (by simpa using h2) hk
def start (N : List Str) (vs : List V) : St := vs.map some ++ List.replicate (N.length - vs.length) none
def cxOf (CX : CXT) (P : Program) (w : World) (K : PySem.W.Frag) (mg : Str → Option Value) (base : Heap) (N : List Str) (qual : Str) (scope : Scope) (f : Addr) (cd : Value) (A : Around) (outer : List Env) (s : Shared) (H : Hp) (E : XK) : Cx where
  prog := P
  w := w
  K := K
  mg := mg
  base := base
  A := A.deeper (envOfC qual scope s.heap.objs.size f cd)
  N := N
  s₀ := s
  H₀ := H
  env := envOfC qual scope s.heap.objs.size f cd
  outer := outer
  stack := envOfC qual scope s.heap.objs.size f cd :: outer
  ex := []
  calm := true
  fn := fun _ => true
  pn := []
  xe := fun e s' => wpAny (model P w) (A.deeper (envOfC qual scope s.heap.objs.size f cd)) (leaving (envOfC qual scope s.heap.objs.size f cd) e) (fun _ s'' => CX outer H s E e s'') (fun e' s'' => CX outer H s E e' s'') s'
theorem cell_has {sc : Scope} {n : Nat} {x : Str} (h : sc.names.lookup x = some .cell) : ∃ c, (cellsFrom n sc.names []).lookup x = some c := by
  have q := PySem.W.cellsFrom_some sc.names n [] (.inl h)
  exact Option.isSome_iff_exists.mp q
theorem bindParamsT {M : Model} {A : Around} {E : Value → Shared → Prop} {s₀ : Shared} {env : Env} (f : Str × Value → PUnit → Sem (ForInStep PUnit)) (hf : ∀ n v u, f (n, v) u = (do storeName env n v; pure (.yield ⟨⟩))) (hk : env.scope.kind = .function) :
    ∀ (binds : List (Str × Value)) (m cm : Str → Option Value) (s : Shared) (Q : PUnit → Shared → Prop), InCallC s₀ env.locals m env.cells cm s →
      (∀ x ∈ binds, env.kindOf x.1 = some .local ∨ (env.kindOf x.1 = some .cell ∧ (env.cells.lookup x.1).isSome = true)) →
      (∀ s', InCallC s₀ env.locals (bindL env.kindOf binds m) env.cells (bindC env.kindOf binds cm) s' → ((0 < s.toks ∨ ∃ b ∈ binds, env.kindOf b.1 = some .local) → 0 < s'.toks) → Q ⟨⟩ s') → wpAny M A (forIn binds ⟨⟩ f) Q E s
  | [], m, cm, s, Q, x, _, h => by
    rw [List.forIn_nil]
    exact wpAny_pure (h s x fun z => z.elim id fun ⟨b, hb, _⟩ => absurd hb (by simp))
  | (n, v) :: r, m, cm, s, Q, x, hkind, h => by
    rw [List.forIn_cons, hf]
    have hr : ∀ y ∈ r, env.kindOf y.1 = some .local ∨ (env.kindOf y.1 = some .cell ∧ (env.cells.lookup y.1).isSome = true) := fun y hy => hkind y (List.mem_cons_of_mem _ hy)
    rcases hkind (n, v) List.mem_cons_self with hl | ⟨hl, hc⟩
    · refine wpAny_bind (wpAny_bind (wpAny_storeName_local hl x.toInCall.ns (fun h' hn' hs' => wpAny_pure (bindParamsT f hf hk r (fun y => if y = n then some v else m y) cm _ Q ⟨⟨?_, hn', fun b o e => ?_, x.toInCall.fresh⟩, fun k c hc => ?_, x.apart, x.above⟩ hr fun s'' x'' ht => h s'' ?_ fun _ => ht (.inl (Nat.succ_pos _)))) (by rw [hk]; rfl)))
      · obtain ⟨h₁, tk, rfl⟩ := x.toInCall.same
        exact ⟨h', _, rfl⟩
      · exact hs'.extBut b o (Nat.ne_of_lt (Nat.lt_of_lt_of_le (Heap.lt_size e) x.toInCall.fresh)) (x.toInCall.keep b o e)
      · exact (x.cell k c hc).sameBut hs' (Nat.ne_of_gt (x.above k c (PySem.mem_of_lookup hc)))
      · unfold bindL bindC; rw [if_pos hl, if_pos hl]; exact x''
    · obtain ⟨c, hc⟩ := Option.isSome_iff_exists.mp hc
      have hnl : ¬ env.kindOf n = some .local := by rw [hl]; decide
      refine wpAny_bind (wpAny_bind (wpAny_with_toks (n := s.toks) (Nat.le_refl _) (stCC x hk hl hc fun s' x' hle => wpAny_pure (bindParamsT f hf hk r m _ s' Q x' hr fun s'' x'' ht => h s'' ?_ fun z => ht ?_))))
      · unfold bindL bindC; rw [if_neg hnl, if_neg hnl]; exact x''
      · rcases z with z | ⟨b, hb, hbl⟩
        · exact .inl (Nat.lt_of_lt_of_le z hle)
        · rcases List.mem_cons.mp hb with rfl | hb
          · exact absurd hbl hnl
          · exact .inr ⟨b, hb, hbl⟩
theorem newEnvT {M : Model} {A : Around} {E : Value → Shared → Prop} {s : Shared} {scope : Scope} {globals : Addr} {binds : List (Str × Value)} {qual : Str} {func : Option Addr} {code : Value} {builtins : Addr} {Q : Env → Shared → Prop}
    (hk : scope.kind = .function)
    (hkind : ∀ x ∈ binds, scope.names.lookup x.1 = some .local ∨ (scope.names.lookup x.1 = some .cell ∧ ((cellsFrom (s.heap.objs.size + 1) scope.names []).lookup x.1).isSome = true))
    (hQ : ∀ env, env = newEnv scope s.heap.objs.size globals (cellsFrom (s.heap.objs.size + 1) scope.names []) qual func code none builtins →
      ∀ s', InCallC s env.locals (bindL env.kindOf binds fun _ => none) env.cells (bindC env.kindOf binds fun _ => none) s' → ((0 < s.toks ∨ ∃ b ∈ binds, scope.names.lookup b.1 = some .local) → 0 < s'.toks) → Q env s') :
    wpAny M A (newFunctionEnv scope globals [] binds qual func code none builtins) Q E s := by
  simp only [newFunctionEnv, Option.isSome_none, Bool.false_eq_true, if_false]
  refine wpAny_bind (wpAny_alloc ?_)
  refine wpAny_bind (wpAny_layCells _ (fun name kind cells => by cases hkc : kind == NameKind.cell <;> simp [hkc]) _ _ _ _ ?_)
  have ok := cellsFrom_ok scope.names (s.heap.push { cls := .type "frame", data := .dict #[] }) (s.heap.objs.size + 1) [] ⟨fun _ _ hm => (nomatch hm), List.Pairwise.nil⟩ (by rw [Heap.size_push]; exact Nat.le_refl _)
  rw [Heap.size_push] at ok
  rw [show ({ s with heap := s.heap.push { cls := .type "frame", data := .dict #[] } } : Shared).heap.objs.size = s.heap.objs.size + 1 from Heap.size_push ..]
  refine wpAny_bind (bindParamsT (s₀ := s) (env := newEnv scope s.heap.objs.size globals (cellsFrom (s.heap.objs.size + 1) scope.names []) qual func code none builtins)
    _ (fun _ _ _ => rfl) hk binds (fun _ => none) (fun _ => none) _ _
    ⟨⟨⟨_, _, rfl⟩, (Heap.Ns.new s.heap (.type "frame")).keeps (pushCells_keeps _ _), fun b o e => pushCells_keeps _ _ b o (Heap.get?_push_of_some _ e), Nat.le_refl _⟩,
      fun n c hc => (ok.empty n c (PySem.mem_of_lookup hc)).1, ok.apart, fun n c hm => (ok.empty n c hm).2⟩
    hkind fun s' x ht => wpAny_pure (hQ _ rfl s' x ht))
theorem inv_start {CX : CXT} {P : Program} {w : World} {K : PySem.W.Frag} {mg : Str → Option Value} {base : Heap} {N ps : List Str} {qual : Str} {scope : Scope} {f : Addr} {cd : Value} {A : Around} {outer : List Env} {s s1 : Shared} {H : Hp} {E : XK} {us : List Value} {vs : List V}
    (S : FnScope N ps scope) (hd : A.handled = none) (e0 : Env0 P w K mg base A outer s H) (hl : vs.length = ps.length) (r : Vals vs us)
    (x : InCallC s s.heap.objs.size (bindL (envOfC qual scope s.heap.objs.size f cd).kindOf (ps.zip us) fun _ => none) (cellsFrom (s.heap.objs.size + 1) scope.names []) (bindC (envOfC qual scope s.heap.objs.size f cd).kindOf (ps.zip us) fun _ => none) s1) (ht : 0 < s1.toks) :
    Inv (cxOf CX P w K mg base N qual scope f cd A outer s H E) [] (start N vs) H s1 := by
  have hpl : ps.length ≤ N.length := by have := congrArg List.length S.pre; rw [List.length_take] at this; omega
  obtain ⟨h1, tk, rfl, hk⟩ := x.done
  have noA : ∀ b : Addr, b ∉ (cxOf CX P w K mg base N qual scope f cd A outer s H E).ex := fun b z => absurd (show b ∈ ([] : List Addr) from z) (by simp)
  refine ⟨⟨e0.mod, S.kind, rfl, rfl, Nat.le_refl _, fun y z c h1 h2 => ?_, fun y hy => ?_, fun y c _ h => ?_, fun _ => hd, Around.frames_deeper e0.frames, .inr ⟨rfl, rfl⟩, fun b z => absurd z (noA b), e0.bs, e0.bsz, fun b _ _ => noA b, fun b z => absurd z (noA b), e0.funs, e0.frf⟩,
    rfl, e0.bare, Un.kept hk, ⟨_, x.toInCall.ns, fun i y v h1 h2 h3 => ?_⟩, fun y c h => ⟨_, x.cell y c h⟩, e0.hok.fresh (Nat.le_refl _), fun y c h => ?_, fun p hp => absurd (show p ∈ ([] : List (Addr × Obj)) from hp) (by simp), e0.hok.kept hk, ?_, ht⟩
  · exact name_of_addr x.apart (PySem.mem_of_lookup h1) (PySem.mem_of_lookup h2)
  · have hy : scope.names.lookup y = some .cell ∨ scope.names.lookup y = some .free := hy
    rcases hy with hy | hy
    · exact cell_has hy
    · exact absurd rfl (S.nofree _ (PySem.mem_of_lookup hy))
  · exact Nat.le_of_lt (x.above y c (PySem.mem_of_lookup h))
  · have hi : i < vs.length := by
      unfold start at h2
      by_cases hi : i < vs.length
      · exact hi
      · rw [List.getElem?_append_right (by simpa using hi)] at h2
        rw [List.getElem?_replicate] at h2
        split at h2 <;> cases h2
    have ha : vs[i]? = some v := by
      unfold start at h2
      rw [List.getElem?_append_left (by simpa using hi), List.getElem?_map] at h2
      cases e : vs[i]? with
      | none => rw [e] at h2; cases h2
      | some a => rw [e] at h2; cases h2; rfl
    obtain ⟨u, hu, rv⟩ := r.get ha
    have hp : ps[i]? = some y := by
      rw [← S.pre, List.getElem?_take_of_lt (by omega)]; exact h1
    have ndP : ps.Nodup := by rw [← S.pre]; exact S.nd.sublist (List.take_sublist _ _)
    refine ⟨u, rv, ?_⟩
    rcases S.par y (List.mem_of_getElem? hp) with k | k
    · exact .inl ⟨k, bindL_get ndP hp hu k⟩
    · obtain ⟨c, e⟩ := cell_has (n := s.heap.objs.size + 1) k
      refine .inr ⟨.inl k, c, e, ?_⟩
      have q := x.cell y c e
      rw [bindC_get ndP hp hu (by show scope.names.lookup y ≠ _; rw [k]; decide)] at q
      exact q
  · exact e0.hok.fresh (Nat.le_of_lt (x.above y c (PySem.mem_of_lookup h)))
  · unfold start
    show _ = N.length
    rw [List.length_append, List.length_map, List.length_replicate]
    omega
theorem fn_of {CX : CXT} {P : Program} {w : World} {K : PySem.W.Frag} {mg : Str → Option Value} {base : Heap} {k : Nat} {f : Addr} {name qual : Str} {params : Arguments} {body : List Stmt} {scope : Scope} {dV kV doc pm cdv ct oc : Value} {an od : Option Addr}
    {osl : Array (Option Value)} {N ps : List Str} {sp : Sp} (lk : K.lookup f = some ⟨oc, od, .func (PySem.W.fnOf name qual params body scope dV kV doc pm an cdv ct), osl⟩) (hcd : PySem.W.codeIn K cdv qual = true) (S : FnScope N ps scope)
    (len : ∀ vs H Q E, sp vs H Q E → vs.length = ps.length)
    (hbody : ∀ (A : Around) (outer : List Env) (s : Shared) (H : Hp) (vs : List V) (Q : VK) (E : XK), Room k (A.deeper (envOfC qual scope s.heap.objs.size f cdv)) → sp vs H Q E →
      ∃ t, PSs (cxOf CX P w K mg base N qual scope f cdv A outer s H E) body t ∧ t { nx := fun _ H' => Q .non H', rt := Q } (start N vs) H) :
    FnOk P w K mg base CX (k + 1) f (PySem.W.fnOf name qual params body scope dV kV doc pm an cdv ct) ps sp := by
  refine ⟨len, fun A outer s H args us vs Q E hr e0 htk hb r hsp => ?_⟩
  have hl := len _ _ _ _ hsp
  have KX : K.In s.heap := e0.mod.kin.keeps fun b o e => (e0.bs b o e).1
  have lim : s.heap.NoLimit := e0.mod.nolimit.keeps fun b o e => (e0.bs b o e).1
  have hkind : ∀ y ∈ ps.zip us, scope.names.lookup y.1 = some .local ∨ (scope.names.lookup y.1 = some .cell ∧ ((cellsFrom (s.heap.objs.size + 1) scope.names []).lookup y.1).isSome = true) := fun ⟨n, v⟩ hy => by
    rcases S.par n (List.of_mem_zip hy).1 with q | q
    · exact .inl q
    · exact .inr ⟨q, PySem.W.cellsFrom_some _ _ _ (.inl q)⟩
  refine codeAny_call_function hr.depth (KX _ _ lk) rfl S.co S.gen rfl (PySem.W.codeRec_of KX hcd) (hb _ _ _ _ ?_)
  refine newEnvT S.kind hkind fun env he s1 x htk1 => ?_
  subst he
  refine ⟨lim.keeps x.toInCall.keep, codeAny_func ?_⟩
  obtain ⟨t, ht, hq⟩ := hbody A outer s H vs Q E (hr.deeper _) hsp
  have I : Inv (cxOf CX P w K mg base N qual scope f cdv A outer s H E) [] (start N vs) H s1 := inv_start S hr.hd e0 hl r x (htk1 (htk.imp id fun ⟨p, hp, hpl⟩ => by
    obtain ⟨i, hi, e⟩ := List.mem_iff_getElem.mp hp
    have hu : i < us.length := by rw [← r.length, hl]; exact hi
    exact ⟨(p, us[i]), List.mem_iff_getElem.mpr ⟨i, by rw [List.length_zip]; omega, by rw [List.getElem_zip, e]⟩, hpl⟩))
  refine wpAny_mono (ht [] s1 (start N vs) H _ I hq) (fun fl s' hs => ?_) fun e s' hs => hs
  have fin : ∀ {σ' : St} {H' : Hp} {v : V} {u : Value}, Inv (cxOf CX P w K mg base N qual scope f cdv A outer s H E) [] σ' H' s' → RelV v u → Q v H' → CE outer P w H s Q u s' :=
    fun {σ' H' v u} J rv q => ⟨v, H', J.os, J.bare, J.base, J.hok, rv, q⟩
  cases fl with
  | ret u =>
    obtain ⟨v, σ', H', J, rv, q⟩ := hs
    exact fin J rv q
  | next =>
    obtain ⟨σ', H', J, q⟩ := hs
    exact fin (v := V.non) (u := Value.none) J rfl q
  | brk =>
    obtain ⟨_, _, _, q⟩ := hs
    exact False.elim q
  | cont =>
    obtain ⟨_, _, _, q⟩ := hs
    exact False.elim q
end L2
namespace L2
open PySem PySem.Spec PyProof.Rows
section
variable {X : Cx} {x : Str} {p pos : Pos} {e : Expr} {es : List Expr} {t : TA} {id T : String} {r : List V → Hp → VK → Prop}
def tCB (r : List V → Hp → VK → Prop) (t : TA) : TE := fun σ H Q => t σ H fun vs H1 => r vs H1 Q
theorem pe_callB (hc : CallR X (.builtin id) r) (hg : Gl X x) (hm : X.mg x = none) (hv : bootBuiltins x = some (.builtin id)) (ha : PA X (e :: es) t) (hn : x ≠ "__name__" := by decide) (hdb : (x == ("__debug__" : Str)) = false := by decide)
    (he : starEach (e :: es) X.env = (false, eval e X.env) :: starEach es X.env := by rfl) (hpl : (backTo pos (starEach es X.env)).any (·.1) = false := by rfl) : PE X (.Call (.Name x p) (e :: es) [] pos) (tCB r t) := by
  intro pins s σ H Q I h
  refine wpAny_Call_Name_kw (ld_blt I hg hm hv ?_ hn hdb)
  exact PyProof.Rows.callWith_builtin1 (thn (ha pos pins s σ H _ I h) fun us s1 ⟨vs, H1, I1, r1, q1⟩ => hc pins s1 σ H1 vs us Q I1 r1 q1) he hpl
theorem pe_callTy (hc : CallR X (.type T) r) (hg : Gl X x) (hm : X.mg x = none) (hv : bootBuiltins x = some (.type T)) (ha : PA X (e :: es) t) (hn : x ≠ "__name__" := by decide) (hdb : (x == ("__debug__" : Str)) = false := by decide)
    (he : starEach (e :: es) X.env = (false, eval e X.env) :: starEach es X.env := by rfl) (hpl : (backTo pos (starEach es X.env)).any (·.1) = false := by rfl) : PE X (.Call (.Name x p) (e :: es) [] pos) (tCB r t) := by
  intro pins s σ H Q I h
  refine wpAny_Call_Name_kw (ld_blt I hg hm hv ?_ hn hdb)
  exact PyProof.Rows.callWith_type1 (thn (ha pos pins s σ H _ I h) fun us s1 ⟨vs, H1, I1, r1, q1⟩ => hc pins s1 σ H1 vs us Q I1 r1 q1) he hpl
end
end L2
namespace HT
open PySem PyProof.Rows
section
variable {prog : Program} {w : World} {A : Around} {E : Value → Shared → Prop} {s : Shared}
theorem cat_tup {t b : Addr} {vs ws : List Value} {Q : Value → Shared → Prop} (ht : IsTup s.heap t vs.toArray) (hb : IsTup s.heap b ws.toArray) (hv : vs ≠ [])
    (h1 : ws = [] → Q (.ref t) s) (h2 : ws ≠ [] → Q (.ref s.heap.objs.size) { s with heap := s.heap.push { cls := .type "tuple", data := .seq (vs ++ ws).toArray } })
    (hsz : vs.length + ws.length ≤ sizeLine) : wpAny (model prog w) A (binaryOp .Add (.ref t) (.ref b)) Q E s := by
  obtain ⟨⟨cls, dd, data, sl⟩, ho, hc, n, hd⟩ := id ht
  obtain ⟨⟨cls2, dd2, data2, sl2⟩, ho2, hc2, n2, hd2⟩ := id hb
  simp only at hc hd hc2 hd2
  subst hc hd hc2 hd2
  have e : vs.toArray ++ ws.toArray = (vs ++ ws).toArray := by simp
  by_cases hw : ws = []
  · exact concat_meets ⟨_, ho, rfl⟩ ⟨_, ho2, rfl⟩ noFill_tuple_add seq_tuple_add PySem.F.slot_tuple_add PySem.F.entry_tuple_add (PySem.F.args_tuple_add_2 _ _)
      (tuple_addW1 t b vs.toArray ws.toArray n n2 dd dd2 sl sl2 (by simpa using hv) (by simp [hw])) ⟨ho, ho2, h1 hw⟩
  · refine concat_meets ⟨_, ho, rfl⟩ ⟨_, ho2, rfl⟩ noFill_tuple_add seq_tuple_add PySem.F.slot_tuple_add PySem.F.entry_tuple_add (PySem.F.args_tuple_add_2 _ _)
      (tuple_addW2 t b vs.toArray ws.toArray n n2 dd dd2 sl sl2 (by simpa using hv) (by simpa using hw) (by rw [List.size_toArray, List.size_toArray]; exact hsz)) ⟨ho, ho2, ?_⟩
    rw [e]
    exact h2 hw
def sIx (n d : Nat) : Option Int → Nat
  | none => d
  | some v => if v < 0 then (v + (n : Int)).toNat else min v.toNat n
theorem sIx_le (n d : Nat) (hd : d ≤ n) (o : Option Int) : sIx n d o ≤ n := by
  cases o with
  | none => exact hd
  | some v =>
    show (if v < 0 then (v + (n : Int)).toNat else min v.toNat n) ≤ n
    by_cases hv : v < 0
    · rw [if_pos hv]; omega
    · rw [if_neg hv]; exact Nat.min_le_right _ _
theorem clip_eq (v : Int) (n d : Nat) : (if v < 0 then max (v + (n : Int)) 0 else min v (n : Int)) = ((sIx n d (some v) : Nat) : Int) := by
  show (if v < 0 then max (v + (n : Int)) 0 else min v (n : Int)) = (((if v < 0 then (v + (n : Int)).toNat else min v.toNat n) : Nat) : Int)
  by_cases hv : v < 0
  · simp only [if_pos hv]; omega
  · simp only [if_neg hv]; omega
theorem adjust_gen (lo hi : Option Int) (n : Nat) : Builtin.Slice.sliceAdjust lo hi 1 (n : Int) = (((sIx n 0 lo : Nat) : Int), ((sIx n n hi : Nat) : Int)) := by
  have h1 : ¬ ((1 : Int) < 0) := by omega
  unfold Builtin.Slice.sliceAdjust
  simp only [h1, if_false]
  refine Prod.ext ?_ ?_
  · cases lo with
    | none => rfl
    | some v => exact clip_eq v n 0
  · cases hi with
    | none => rfl
    | some v => exact clip_eq v n n
theorem places_gen (i j : Nat) : Builtin.Slice.slicePlaces (i : Int) (j : Int) 1 = j - i := by
  unfold Builtin.Slice.slicePlaces
  have h1 : (1 : Int) > 0 := by omega
  simp only [h1, if_true, Int.ediv_one]
  split <;> omega
theorem slicePart_ {v : Value} {o : Option Int} {Q : Option Int → Shared → Prop} (p : IsPart v o) (h : Q o s) : wpAny (model prog w) A (Builtin.Slice.slicePartIndex v) Q E s := by
  cases p with
  | none => exact slicePart_none h
  | int i t => exact slicePart_int h
theorem sliceApplied_gen {sl : Addr} {vl vu : Value} {lo hi : Option Int} {n : Nat} {Q : Int × Int × Nat → Shared → Prop} (hs : s.heap.IsSliceOf sl vl vu .none) (pl : IsPart vl lo) (pu : IsPart vu hi)
    (h : Q (((sIx n 0 lo : Nat) : Int), 1, sIx n n hi - sIx n 0 lo) s) : wpAny (model prog w) A (Builtin.Slice.sliceApplied (.ref sl) (pure (n : Int))) Q E s := by
  obtain ⟨os, hos, hcs, hds⟩ := id hs
  unfold Builtin.Slice.sliceApplied Builtin.Slice.sliceFields
  refine wpAny_bind (wpAny_bind (wpAny_field hos hds (x := vl) rfl (wpAny_bind (wpAny_field hos hds (x := vu) rfl (wpAny_bind (wpAny_field hos hds (x := .none) rfl (wpAny_pure ?_)))))))
  refine wpAny_bind (slicePart_none ?_)
  show wpAny _ _ (if ((1 : Int) == 0) = true then _ else _) _ _ s
  rw [if_neg (by decide)]
  refine wpAny_bind (slicePart_ pl (wpAny_bind (slicePart_ pu (wpAny_bind (wpAny_pure ?_)))))
  show wpAny _ _ (match Builtin.Slice.sliceAdjust lo hi 1 (n : Int) with | (lo, hi) => pure (lo, (1 : Int), Builtin.Slice.slicePlaces lo hi 1)) _ _ s
  rw [adjust_gen lo hi n]
  show wpAny _ _ (pure (((sIx n 0 lo : Nat) : Int), (1 : Int), Builtin.Slice.slicePlaces ((sIx n 0 lo : Nat) : Int) ((sIx n n hi : Nat) : Int) 1)) _ _ s
  rw [places_gen]
  exact wpAny_pure h
theorem pick_gen (xs : Array Value) (i k : Nat) : ((List.range k).filterMap fun (m : Nat) => xs[((i : Int) + (m : Int) * 1).toNat]?).toArray = ((xs.toList.drop i).take k).toArray := by
  have e : (fun (m : Nat) => xs[((i : Int) + (m : Int) * 1).toNat]?) = fun m => xs[i + m]? := by
    funext m
    have : ((i : Int) + (m : Int) * 1).toNat = i + m := by omega
    rw [this]
  rw [e]
  have := pick_run xs i k
  rw [List.filterMap_map] at this
  have e2 : ((fun x => xs[x]?) ∘ fun x => i + x) = fun m => xs[i + m]? := rfl
  rw [e2] at this
  rw [this]
theorem getItem_tuple_cut {t sl : Addr} {items : Array Value} {vl vu : Value} {lo hi : Option Int} {Q : Value → Shared → Prop} (ht : IsTup s.heap t items) (hs : s.heap.IsSliceOf sl vl vu .none) (pl : IsPart vl lo) (pu : IsPart vu hi)
    (hw : ¬ (sIx items.size 0 lo = 0 ∧ sIx items.size items.size hi = items.size))
    (h : Q (.ref s.heap.objs.size) { s with heap := s.heap.push { cls := .type "tuple", data := .seq ((items.toList.drop (sIx items.size 0 lo)).take (sIx items.size items.size hi - sIx items.size 0 lo)).toArray } })
    (hsz : items.size ≤ sizeLine) : wpAny (model prog w) A (getItem (.ref t) (.ref sl)) Q E s := by
  have htake : sizeOk (.seq ((items.toList.drop (sIx items.size 0 lo)).take (sIx items.size items.size hi - sIx items.size 0 lo)).toArray) := by
    show ((items.toList.drop (sIx items.size 0 lo)).take (sIx items.size items.size hi - sIx items.size 0 lo)).toArray.size ≤ sizeLine
    rw [List.size_toArray, List.length_take, List.length_drop, Array.length_toList]
    omega
  have hj : sIx items.size items.size hi ≤ items.size := sIx_le _ _ (Nat.le_refl _) hi
  obtain ⟨os, hos, hcs, hds⟩ := id hs
  have hTs : s.TypeIs (.ref sl) "slice" := ⟨os, hos, hcs⟩
  unfold getItem
  try with_reducible refine wpAny_holding ?_
  first | refine wpAny_bind (wpAny_pure ?_) | skip
  refine wpAny_bind (wpAny_sequenceKey ht.typeIs (by decide) ?_)
  refine wpAny_bind (wpAny_callSpecial?_slot (name := Str.ofString "__getitem__") ht.typeIs PyProof.Rows.slot_tuple_getitem
    (wpAny_call_entry PyProof.Rows.slot_tuple_getitem ht.typeIs entry_tuple_getitem ?_ (args_tuple_getitem _ _)))
  show wpAny _ _ (Builtin.Tuple.tupleItemsOf (.ref t) >>= _) _ _ s
  refine wpAny_bind (tupleItemsOf_ ht ?_)
  refine wpAny_bind (wpAny_typeOf hTs ?_)
  rw [if_pos (by decide)]
  refine wpAny_bind (sliceApplied_gen hs pl pu ?_)
  have hno : ¬ ((((sIx items.size 0 lo : Nat) : Int) == 0 && (1 : Int) == 1 && (sIx items.size items.size hi - sIx items.size 0 lo) == items.size) = true) := by
    intro q
    rw [Bool.and_eq_true, Bool.and_eq_true] at q
    have q1 : ((sIx items.size 0 lo : Nat) : Int) = 0 := eq_of_beq q.1.1
    have q2 : sIx items.size items.size hi - sIx items.size 0 lo = items.size := eq_of_beq q.2
    exact hw ⟨by omega, by omega⟩
  show wpAny _ _ (if (((sIx items.size 0 lo : Nat) : Int) == 0 && (1 : Int) == 1 && (sIx items.size items.size hi - sIx items.size 0 lo) == items.size) = true then _ else _) _ _ s
  rw [if_neg hno, pick_gen]
  first
    | exact wpAny_bind (m := Builtin.Tuple.tupleExact _) (wpAny_newObj_type (wpAny_pure ⟨_, rfl, wpAny_pure h⟩) htake)
    | exact wpAny_bind (m := Builtin.Tuple.tupleExact _) (wpAny_newObj_type (wpAny_bind (wpAny_pure (wpAny_pure ⟨_, rfl, wpAny_pure h⟩))) htake)
    | exact wpAny_bind (wpAny_bind (m := Builtin.Tuple.tupleExact _) (wpAny_newObj_type (wpAny_pure (wpAny_pure ⟨_, rfl, wpAny_pure h⟩)) htake))
    | exact wpAny_bind (wpAny_bind (m := Builtin.Tuple.tupleExact _) (wpAny_newObj_type (wpAny_pure ⟨_, rfl, wpAny_pure h⟩) htake))
end
end HT
namespace L2
open PySem PySem.Spec PyProof.Rows
abbrev TO := St → Hp → (Option Int → Hp → Prop) → Prop
def PO (X : Cx) (e : Option Expr) (t : TO) : Prop :=
  ∀ (pins : List (Addr × Obj)) (s : Shared) (σ : St) (H : Hp) (Q : Option Int → Hp → Prop), Inv X pins σ H s → t σ H Q →
    wpAny (model X.prog X.w) X.A (evalPart e X.env) (fun u s' => ∃ o H', Inv X pins σ H' s' ∧ IsPart u o ∧ Q o H') X.xe s
def tNoPart : TO := fun _ H Q => Q none H
def tPart (t : TE) : TO := fun σ H Q => t σ H fun x H1 => ∃ i, x = .int i ∧ Q (some i) H1
section
variable {X : Cx} {e : Expr} {te : TE} {lo hi : Option Expr} {tl th : TO} {pos p2 : Pos}
theorem po_none : PO X none tNoPart := by
  intro pins s σ H Q I h
  rw [evalPart_none]
  exact wpAny_pure ⟨none, H, I, .none, h⟩
theorem po_some (h : PE X e te) : PO X (some e) (tPart te) := by
  intro pins s σ H Q I hw
  rw [evalPart_some]
  refine thn (h pins s σ H _ I hw) fun u s1 ⟨x, H1, I1, r1, q1⟩ => ?_
  obtain ⟨i, rfl, q⟩ := q1
  obtain ⟨t, rfl⟩ := r1
  exact ⟨some i, H1, I1, .int i t, q⟩
def SlR (X : Cx) (r : V → Option Int → Option Int → Hp → VK → Prop) : Prop :=
  ∀ (pins : List (Addr × Obj)) (s : Shared) (σ : St) (H : Hp) (x : V) (v vl vu : Value) (lo hi : Option Int) (sl : Addr) (Q : VK), Inv X pins σ H s → RelV x v → s.heap.IsSliceOf sl vl vu .none → IsPart vl lo → IsPart vu hi → r x lo hi H Q →
    ∃ T id, typeLookup (.type T) "__getitem__" = pure (some (.builtin id)) ∧ s.TypeIs v T ∧ wpAny (model X.prog X.w) X.A (getItem v (.ref sl)) (EP X pins σ Q) X.xe s
def tSl (r : V → Option Int → Option Int → Hp → VK → Prop) (te : TE) (tl th : TO) : TE := fun σ H Q => te σ H fun x H1 => tl σ H1 fun l H2 => th σ H2 fun u H3 => r x l u H3 Q
theorem pe_slice {r : V → Option Int → Option Int → Hp → VK → Prop} (hr : SlR X r) (he : PE X e te) (hl : PO X lo tl) (hu : PO X hi th) : PE X (.Subscript e (.Slice lo hi none p2) pos) (tSl r te tl th) := by
  intro pins s σ H Q I h
  refine Subscript_ (thn (he pins s σ H _ I h) fun v s1 ⟨x, H1, I1, r1, q1⟩ => ?_)
  refine wpAny_Slice (thn (hl pins s1 σ H1 _ I1 q1) fun vl s2 ⟨l, H2, I2, pl, q2⟩ => thn (hu pins s2 σ H2 _ I2 q2) fun vu s3 ⟨u, H3, I3, pu, q3⟩ => ?_)
  rw [evalPart_none]
  refine wpAny_pure ?_
  have I4 : Inv X pins σ H3 { s3 with heap := s3.heap.push { cls := .type "slice", data := .fields #[vl, vu, .none] } } := I3.kept (t' := s3.toks) fun b ob q => Heap.get?_push_of_some _ q
  obtain ⟨T, id, hT, ht, hg⟩ := hr pins { s3 with heap := s3.heap.push { cls := .type "slice", data := .fields #[vl, vu, .none] } } σ H3 x v vl vu l u s3.heap.objs.size Q I4 r1 (Heap.IsSliceOf.new ..) pl pu q3
  show wpAny (model X.prog X.w) X.A (subscriptTail e (.Slice lo hi none p2) v (.ref s3.heap.objs.size)) (EP X pins σ Q) X.xe { s3 with heap := s3.heap.push { cls := .type "slice", data := .fields #[vl, vu, .none] } }
  exact tail_any (ops := [.ref s3.heap.objs.size, v]) ht hT hg (by with_unfolding_all rfl)
def cutV (xs : List V) (lo hi : Option Int) : List V := (xs.drop (HT.sIx xs.length 0 lo)).take (HT.sIx xs.length xs.length hi - HT.sIx xs.length 0 lo)
theorem cutV_length (xs : List V) (lo hi : Option Int) : (cutV xs lo hi).length ≤ xs.length := by
  unfold cutV
  rw [List.length_take, List.length_drop]
  omega
def rSlT (K : PySem.W.Frag) : V → Option Int → Option Int → Hp → VK → Prop := fun x lo hi H Q => ∃ a xs, x = .ref a ∧ SqT K H a xs ∧
  ¬ (HT.sIx xs.length 0 lo = 0 ∧ HT.sIx xs.length xs.length hi = xs.length) ∧ ∀ p, H p = none → Q (.ref p) (upd H p (.tup (cutV xs lo hi)))
theorem sl_tup : SlR X (rSlT X.K) := by
  intro pins s σ H x v vl vu lo hi sl Q I rx hs pl pu h
  obtain ⟨a, xs, rfl, hx, hw, q⟩ := h
  cases rx
  obtain ⟨its, r, ht, hz⟩ := I.tuple hx
  have hlen : its.toArray.size = xs.length := by rw [List.size_toArray]; exact r.length.symm
  refine ⟨"tuple", _, PyProof.Rows.slot_tuple_getitem.lookup, ht.typeIs, ?_⟩
  refine HT.getItem_tuple_cut ht hs pl pu (by rw [hlen]; exact hw) ?_ (by rw [hlen]; exact hz)
  rw [hlen]
  refine ⟨.ref s.heap.objs.size, _, I.laid (t' := s.toks) (o := .tup (cutV xs lo hi)) (fun b ob q => Heap.get?_push_of_some _ q) (Nat.le_refl _) ?_, rfl, q _ (I.hok.fresh (Nat.le_refl _))⟩
  exact ⟨Nat.le_trans (cutV_length xs lo hi) hz, _, (r.drop (HT.sIx xs.length 0 lo)).take (HT.sIx xs.length xs.length hi - HT.sIx xs.length 0 lo), IsTup.new _ _⟩
def rCatT (K : PySem.W.Frag) : R2 := fun x y H Q => ∃ a b xs ys, x = .ref a ∧ y = .ref b ∧ SqT K H a xs ∧ SqT K H b ys ∧ xs ≠ [] ∧ xs.length + ys.length ≤ sizeLine ∧
  (ys = [] → Q (.ref a) H) ∧ (ys ≠ [] → ∀ p, H p = none → Q (.ref p) (upd H p (.tup (xs ++ ys))))
theorem Vals.nil_iff {xs : List V} {us : List Value} (r : Vals xs us) : us = [] ↔ xs = [] := by
  cases r with
  | nil => simp
  | cons _ _ => simp
theorem op_catT : OpR X (binaryOp .Add) (rCatT X.K) := by
  intro pins s σ H x y v u Q I rx ry h
  obtain ⟨a, b, xs, ys, rfl, rfl, ha, hb, hx, hz, q1, q2⟩ := h
  cases rx
  cases ry
  obtain ⟨its, r1, p1, _⟩ := I.tuple ha
  obtain ⟨its2, r2, p2, _⟩ := I.tuple hb
  refine HT.cat_tup p1 p2 (fun z => hx (r1.nil_iff.mp z)) (fun z => ⟨.ref a, H, I, rfl, q1 (r2.nil_iff.mp z)⟩) (fun z => ?_) (by rw [← r1.length, ← r2.length]; exact hz)
  refine ⟨.ref s.heap.objs.size, _, I.laid (t' := s.toks) (o := .tup (xs ++ ys)) (fun b ob q => Heap.get?_push_of_some _ q) (Nat.le_refl _) ?_, rfl, q2 (fun w => z (r2.nil_iff.mpr w)) _ (I.hok.fresh (Nat.le_refl _))⟩
  exact ⟨by rw [List.length_append]; exact hz, _, r1.append r2, IsTup.new _ _⟩
end
end L2
namespace L2
open PySem PySem.Spec PyProof.Rows
def ixN (n : Nat) (i : Int) : Option Nat := if 0 ≤ i then (if i < n then some i.toNat else none) else if -(n : Int) ≤ i then some (i + n).toNat else none
def atI {α : Type} (xs : List α) (i : Int) : Option α := (ixN xs.length i).bind fun j => xs[j]?
theorem ixN_seq {n : Nat} {i : Int} {j : Nat} (h : ixN n i = some j) : seqIndex? i n = some j ∧ j < n ∧ -(n : Int) ≤ i ∧ i < n := by
  unfold ixN at h
  by_cases h0 : 0 ≤ i
  · rw [if_pos h0] at h
    by_cases h1 : i < n
    · rw [if_pos h1] at h
      have e : i.toNat = j := Option.some.inj h
      exact ⟨by rw [seqIndex_of h0 h1, e], by omega, by omega, h1⟩
    · rw [if_neg h1] at h; cases h
  · rw [if_neg h0] at h
    by_cases h1 : -(n : Int) ≤ i
    · rw [if_pos h1] at h
      have e : (i + n).toNat = j := Option.some.inj h
      exact ⟨by rw [seqIndex_neg (by omega) h1, e], by omega, h1, by omega⟩
    · rw [if_neg h1] at h; cases h
theorem atI_get {α : Type} {xs : List α} {i : Int} {v : α} (h : atI xs i = some v) : ∃ j, seqIndex? i xs.length = some j ∧ xs[j]? = some v ∧ j < xs.length ∧ -(xs.length : Int) ≤ i ∧ i < xs.length := by
  unfold atI at h
  cases e : ixN xs.length i with
  | none => rw [e] at h; cases h
  | some j =>
    rw [e] at h
    obtain ⟨h1, h2, h3, h4⟩ := ixN_seq e
    exact ⟨j, h1, h, h2, h3, h4⟩
def PlainIx (b : Expr) : Prop := ∀ o i, subscripted b false o i = operate [o, i] (getItem o i)
def IxR (X : Cx) (r : R2) : Prop :=
  ∀ (value slice : Expr) (pins : List (Addr × Obj)) (s : Shared) (σ : St) (H : Hp) (x y : V) (v u : Value) (Q : VK), Inv X pins σ H s → RelV x v → RelV y u → r x y H Q →
    subscripted slice false v u = operate [v, u] (getItem v u) → wpAny (model X.prog X.w) X.A (subscriptTail value slice v u) (EP X pins σ Q) X.xe s
def MtR (X : Cx) (id : String) (r : V → List V → Hp → VK → Prop) : Prop :=
  ∀ (pins : List (Addr × Obj)) (s : Shared) (σ : St) (H : Hp) (x : V) (xs : List V) (v : Value) (us : List Value) (Q : VK), Inv X pins σ H s → RelV x v → Vals xs us → r x xs H Q →
    wpAny (model X.prog X.w) X.A (call (.builtin id) (v :: us)) (EP X pins σ Q) X.xe s
section
variable {X : Cx} {a b : Expr} {ta tb : TE} {pos : Pos}
theorem IxR.or {r r' : R2} (h : IxR X r) (h' : IxR X r') : IxR X (fun x y H Q => r x y H Q ∨ r' x y H Q) := by
  intro value slice pins s σ H x y v u Q I rx ry q hs
  rcases q with q | q
  · exact h value slice pins s σ H x y v u Q I rx ry q hs
  · exact h' value slice pins s σ H x y v u Q I rx ry q hs
theorem pe_ix {r : R2} (hr : IxR X r) (ha : PE X a ta) (hb : PE X b tb) (hs : PlainIx b) : PE X (.Subscript a b pos) (tOp r ta tb) := by
  intro pins s σ H Q I h
  exact Subscript_ (binT ha hb I h fun v u s2 x y H2 I2 rx ry q => hr a b pins s2 σ H2 x y v u Q I2 rx ry q (hs _ _))
def rIxL (K : PySem.W.Frag) : R2 := fun x y H Q => ∃ p xs i v, x = .ref p ∧ y = .int i ∧ SqL K H p xs ∧ atI xs i = some v ∧ Q v H
def rIxT (K : PySem.W.Frag) : R2 := fun x y H Q => ∃ p xs i v, x = .ref p ∧ y = .int i ∧ SqT K H p xs ∧ atI xs i = some v ∧ Q v H
def rIxS : R2 := fun x y H Q => ∃ z i c, x = .str z ∧ y = .int i ∧ z.length ≤ sizeLine ∧ atI z.cps.toList i = some c ∧ Q (.str ⟨#[c]⟩) H
theorem ix_list : IxR X (rIxL X.K) := by
  intro value slice pins s σ H x y v u Q I rx ry h hs
  obtain ⟨p, xs, i, z, rfl, rfl, hq, he, q⟩ := h
  cases rx
  obtain ⟨t, rfl⟩ := ry
  obtain ⟨its, r, pl, hz⟩ := I.list hq
  obtain ⟨j, h1, h2, h3, h4, h5⟩ := atI_get he
  obtain ⟨w, ew, rw'⟩ := r.get h2
  have hl := r.length
  have hn := line63
  have fin : EP X pins σ Q w s := ⟨z, H, I, rw', q⟩
  by_cases h0 : 0 ≤ i
  · have hj : i.toNat = j := by
      rw [seqIndex_of h0 h5] at h1
      exact Option.some.inj h1
    exact item_listR pl.isList h0 (by omega) (by rw [hj]; simpa using ew) fin hs
  · have hj : (i + (its.toArray.size : Int)).toNat = j := by
      rw [seqIndex_neg (by omega) h4] at h1
      rw [List.size_toArray, ← hl]
      exact Option.some.inj h1
    exact subscriptTail_builtinR (x := w) pl.isList.typeIs slot_list_getitem.lookup
      (wpAny_getItem_list_neg (Q := fun r s' => r = w ∧ EP X pins σ Q r s') pl.isList (by omega) (by rw [List.size_toArray] <;> omega) (by omega) (by rw [hj]; simpa using ew) ⟨rfl, fin⟩) hs
theorem ix_tup : IxR X (rIxT X.K) := by
  intro value slice pins s σ H x y v u Q I rx ry h hs
  obtain ⟨p, xs, i, z, rfl, rfl, hq, he, q⟩ := h
  cases rx
  obtain ⟨t, rfl⟩ := ry
  obtain ⟨its, r, pl, hz⟩ := I.tuple hq
  obtain ⟨j, h1, h2, h3, h4, h5⟩ := atI_get he
  obtain ⟨w, ew, rw'⟩ := r.get h2
  have hl := r.length
  have hn := line63
  have fin : EP X pins σ Q w s := ⟨z, H, I, rw', q⟩
  exact subscriptTail_builtinR (x := w) pl.typeIs slot_tuple_getitem.lookup
    (getItem_tuple (j := j) (Q := fun r s' => r = w ∧ EP X pins σ Q r s') pl (by omega) (by omega) (by rw [List.size_toArray, ← hl]; exact h1) (by simpa using ew) ⟨rfl, fin⟩) hs
theorem ix_str : IxR X rIxS := by
  intro value slice pins s σ H x y v u Q I rx ry h hs
  obtain ⟨z, i, c, rfl, rfl, hz, he, q⟩ := h
  obtain ⟨t, rfl⟩ := rx
  obtain ⟨t', rfl⟩ := ry
  obtain ⟨j, h1, h2, h3, h4, h5⟩ := atI_get he
  have hl : z.cps.toList.length = z.length := by simp [Str.length]
  rw [hl] at h1 h4 h5
  have hn := line63
  exact tail_any (typeIs_str s z t) slot_str_getitem.lookup (getItem_str (c := c) (by
    have e1 : decide (i < -(2 ^ 63 : Int)) = false := decide_eq_false (by omega)
    have e2 : decide (i ≥ 2 ^ 63) = false := decide_eq_false (by omega)
    rw [e1, e2, Bool.or_false]) (by rw [h1]; simpa using h2) ⟨.str ⟨#[c]⟩, H, I.tok _, ⟨_, rfl⟩, q⟩) hs
theorem mapSeq_set (its : List Value) (n j : Nat) (u : Value) : Obj.mapSeq (·.setIfInBounds j u) { cls := .type "list", data := .seq its.toArray n } = { cls := .type "list", data := .seq (its.set j u).toArray n } := by
  simp [Obj.mapSeq]
theorem Inv.lst {pins : List (Addr × Obj)} {σ : St} {H : Hp} {s : Shared} {p : Addr} {xs : List V} (I : Inv X pins σ H s) (h : H p = some (.lst xs)) :
    ∃ (its : List Value) (n : Nat), Vals xs its ∧ s.heap.get? p = some { cls := .type "list", data := .seq its.toArray n } ∧ xs.length ≤ sizeLine := by
  obtain ⟨z, its, n, r, e⟩ := I.hok p _ h
  exact ⟨its, n, r, e, z⟩
theorem Inv.lstUpd {pins : List (Addr × Obj)} {σ : St} {H : Hp} {s : Shared} {p : Addr} {xs ys : List V} {its its' : List Value} {n n' : Nat} {f : Obj → Obj} (I : Inv X pins σ H s) (h : H p = some (.lst xs))
    (ho : s.heap.get? p = some { cls := .type "list", data := .seq its.toArray n }) (hf : f { cls := .type "list", data := .seq its.toArray n } = { cls := .type "list", data := .seq its'.toArray n' }) (r : Vals ys its') (hz : ys.length ≤ sizeLine) (t : Nat) (ht : 0 < t := by first | exact Nat.succ_pos _ | assumption | exact Inv.tk (by assumption) | omega) :
    Inv X pins σ (upd H p (.lst ys)) { s with heap := s.heap.update p f, toks := t } := by
  have e : (s.heap.update p f).get? p = some { cls := .type "list", data := .seq its'.toArray n' } := by
    rw [Heap.get?_update_self f ho (by rw [hf] <;> rfl), hf]
  refine I.write (x := p) (e := p) (by rw [h]; trivial) (.inl rfl) (fun b u hb q => (Heap.get?_update_other _ _ (Ne.symm hb)).trans q) ⟨_, e⟩ ?_
  exact ⟨hz, its', n', r, e⟩
def rSetL : V → V → V → Hp → (Hp → Prop) → Prop := fun o i v H Q => ∃ p xs k j, o = .ref p ∧ i = .int k ∧ H p = some (.lst xs) ∧ ixN xs.length k = some j ∧ Q (upd H p (.lst (xs.set j v)))
theorem set_list : PSet X rSetL := by
  intro pins s σ H o i v ov iv u Q I ro ri rv h
  obtain ⟨p, xs, k, j, rfl, rfl, hp, hj, q⟩ := h
  cases ro
  obtain ⟨t, rfl⟩ := ri
  obtain ⟨its, n, r, ho, hz⟩ := I.lst hp
  obtain ⟨h1, h2, h3, h4⟩ := ixN_seq hj
  have hl := r.length
  have hn := line63
  have I' : Inv X pins σ (upd H p (.lst (xs.set j v))) { s with heap := s.heap.update p (Obj.mapSeq (·.setIfInBounds j u)) } :=
    I.lstUpd hp ho (mapSeq_set its n j u) (r.set rv j) (by rw [List.length_set]; exact hz) s.toks
  by_cases h0 : 0 ≤ k
  · have hk : k.toNat = j := by
      rw [seqIndex_of h0 h4] at h1
      exact Option.some.inj h1
    exact PySem.W.ki_setAt ho h0 (by omega) (by rw [List.size_toArray, ← hl]; exact h4) (by rw [hk]; exact ⟨_, I', q⟩)
  · have hk : (k + (its.toArray.size : Int)).toNat = j := by
      rw [seqIndex_neg (by omega) h3] at h1
      rw [List.size_toArray, ← hl]
      exact Option.some.inj h1
    exact PySem.W.ki_setBack ho (by omega) (by rw [List.size_toArray, ← hl]; exact h3) (by omega) (by rw [hk]; exact ⟨_, I', q⟩)
theorem slice_bounds (lo hi : Option Int) (n : Nat) : (sliceBounds lo hi none n).1 = ((HT.sIx n 0 lo : Nat) : Int) ∧ (sliceBounds lo hi none n).2.1 = ((HT.sIx n n hi : Nat) : Int) ∧ (sliceBounds lo hi none n).2.2 = 1 := by
  refine ⟨?_, ?_, rfl⟩
  · cases lo with
    | none => simp [sliceBounds, HT.sIx]
    | some i =>
      simp only [sliceBounds, HT.sIx, Option.getD_none, show (1 : Int) > 0 by decide, if_true]
      by_cases h : i < 0
      · simp only [h, if_true] <;> omega
      · simp only [h, if_false] <;> omega
  · cases hi with
    | none => simp [sliceBounds, HT.sIx]
    | some i =>
      simp only [sliceBounds, HT.sIx, Option.getD_none, show (1 : Int) > 0 by decide, if_true]
      by_cases h : i < 0
      · simp only [h, if_true] <;> omega
      · simp only [h, if_false] <;> omega
theorem slicePick_cut (its : List Value) (lo hi : Option Int) : slicePick its.toArray lo hi none = ((its.drop (HT.sIx its.length 0 lo)).take (HT.sIx its.length its.length hi - HT.sIx its.length 0 lo)).toArray := by
  obtain ⟨h1, h2, h3⟩ := slice_bounds lo hi its.toArray.size
  unfold slicePick
  rw [h1, h2, h3]
  simp only [sliceRange_one, pick_run, List.size_toArray] <;> rfl
def rSlL (K : PySem.W.Frag) : V → Option Int → Option Int → Hp → VK → Prop := fun x lo hi H Q => ∃ a xs, x = .ref a ∧ SqL K H a xs ∧ ∀ p, H p = none → Q (.ref p) (upd H p (.lst (cutV xs lo hi)))
theorem sl_list : SlR X (rSlL X.K) := by
  intro pins s σ H x v vl vu lo hi sl Q I rx hs pl pu h
  obtain ⟨a, xs, rfl, hx, q⟩ := h
  cases rx
  obtain ⟨its, r, ht, hz⟩ := I.list hx
  have hlen := r.length
  refine ⟨"list", _, slot_list_getitem.lookup, ht.isList.typeIs, ?_⟩
  refine wpAny_getItem_list_slice ht.isList hs pl pu .none (by simp) ?_ (by rw [List.size_toArray] <;> omega)
  rw [slicePick_cut, ← hlen]
  refine ⟨.ref s.heap.objs.size, _, I.laid (t' := s.toks) (o := .lst (cutV xs lo hi)) (fun b ob q => Heap.get?_push_of_some _ q) (Nat.le_refl _) ?_, rfl, q _ (I.hok.fresh (Nat.le_refl _))⟩
  exact ⟨Nat.le_trans (cutV_length xs lo hi) hz, _, 0, (r.drop (HT.sIx xs.length 0 lo)).take (HT.sIx xs.length xs.length hi - HT.sIx xs.length 0 lo), Heap.get?_push_size _ rfl⟩
def flatV : V → Bool
  | .non => true
  | .bl _ => true
  | .int _ => true
  | .str _ => true
  | _ => false
def eqV : V → V → Bool
  | .non, .non => true
  | .bl a, .bl b => a == b
  | .bl a, .int b => (if a then 1 else 0) == b
  | .int a, .bl b => a == (if b then 1 else 0)
  | .int a, .int b => a == b
  | .str a, .str b => a == b
  | _, _ => false
theorem eqAt_V {A : Around} {s : Shared} {y x : V} {u v : Value} (ry : RelV y u) (rx : RelV x v) (fy : flatV y = true) (fx : flatV x = true) : SeqAt.EqAt A s u v (eqV y x) := by
  cases y with
  | non =>
    cases ry
    cases x with
    | non => cases rx; exact SeqAt.EqAt.same _
    | bl b => cases rx; exact SeqAt.EqAt.none_bool b
    | int b => obtain ⟨t, rfl⟩ := rx; exact SeqAt.EqAt.none_int b t
    | str b => obtain ⟨t, rfl⟩ := rx; exact SeqAt.EqAt.none_str b t
    | _ => exact absurd (show false = true from fx) Bool.false_ne_true
  | bl a =>
    cases ry
    cases x with
    | non => cases rx; exact SeqAt.EqAt.bool_none a
    | bl b => cases rx; exact SeqAt.EqAt.bool_bool a b
    | int b => obtain ⟨t, rfl⟩ := rx; exact SeqAt.EqAt.bool_int a b t
    | str b => obtain ⟨t, rfl⟩ := rx; exact SeqAt.EqAt.bool_str a b t
    | _ => exact absurd (show false = true from fx) Bool.false_ne_true
  | int a =>
    obtain ⟨t', rfl⟩ := ry
    cases x with
    | non => cases rx; exact SeqAt.EqAt.int_none a t'
    | bl b => cases rx; exact SeqAt.EqAt.int_bool a t' b
    | int b => obtain ⟨t, rfl⟩ := rx; exact SeqAt.EqAt.int_int a t' b t
    | str b => obtain ⟨t, rfl⟩ := rx; exact SeqAt.EqAt.int_str a t' b t
    | _ => exact absurd (show false = true from fx) Bool.false_ne_true
  | str a =>
    obtain ⟨t', rfl⟩ := ry
    cases x with
    | non => cases rx; exact SeqAt.EqAt.str_none a t'
    | bl b => cases rx; exact SeqAt.EqAt.str_bool a t' b
    | int b => obtain ⟨t, rfl⟩ := rx; exact SeqAt.EqAt.str_int a t' b t
    | str b => obtain ⟨t, rfl⟩ := rx; exact SeqAt.EqAt.str_str a t' b t
    | _ => exact absurd (show false = true from fx) Bool.false_ne_true
  | _ => exact absurd (show false = true from fy) Bool.false_ne_true
def eqU (x : V) (u : Value) : Bool := match u with
  | .none => eqV .non x
  | .bool b => eqV (.bl b) x
  | .int i _ => eqV (.int i) x
  | .str z _ => eqV (.str z) x
  | _ => false
theorem eqU_of {x y : V} {u : Value} (r : RelV y u) (f : flatV y = true) : eqU x u = eqV y x := by
  cases y with
  | non => cases r; rfl
  | bl b => cases r; rfl
  | int i => obtain ⟨t, rfl⟩ := r; rfl
  | str z => obtain ⟨t, rfl⟩ := r; rfl
  | _ => exact absurd (show false = true from f) Bool.false_ne_true
theorem any_eqU {x : V} : ∀ {xs : List V} {us : List Value}, Vals xs us → xs.all flatV = true → us.any (eqU x) = xs.any fun y => eqV y x
  | _, _, .nil, _ => rfl
  | y :: xs, u :: us, .cons r t, f => by
    rw [List.all_cons, Bool.and_eq_true] at f
    rw [List.any_cons, List.any_cons, eqU_of r f.1, any_eqU t f.2]
theorem mem_eqAt {A : Around} {s : Shared} {x : V} {v : Value} (rx : RelV x v) (fx : flatV x = true) : ∀ {xs : List V} {us : List Value}, Vals xs us → xs.all flatV = true → ∀ u ∈ us, SeqAt.EqAt A s u v (eqU x u)
  | _, _, .nil, _ => fun u hu => by cases hu
  | y :: xs, u :: us, .cons r t, f => fun u' hu => by
    rw [List.all_cons, Bool.and_eq_true] at f
    rcases List.mem_cons.mp hu with rfl | hu
    · rw [eqU_of r f.1]; exact eqAt_V r rx f.1 fx
    · exact mem_eqAt rx fx t f.2 u' hu
def inV (x : V) (xs : List V) : Bool := xs.any fun y => eqV y x
def rIn (K : PySem.W.Frag) (neg : Bool) : R2 := fun x y H Q => ∃ p xs, y = .ref p ∧ (SqL K H p xs ∨ SqT K H p xs) ∧ flatV x = true ∧ xs.all flatV = true ∧ Q (.bl (if neg then !inV x xs else inV x xs)) H
theorem op_in_seq : OpR X (compareOp .In) (rIn X.K false) := by
  intro pins s σ H x y v u Q I rx ry h
  obtain ⟨p, xs, rfl, hq, fx, fs, q⟩ := h
  cases ry
  rcases hq with hq | hq
  · obtain ⟨its, r, pl, hz⟩ := I.list hq
    refine SeqAt.in_listAt (eqU x) pl.isList (fun w hw => mem_eqAt rx fx r fs w (by simpa using hw)) ⟨.bl _, H, I, rfl, ?_⟩
    rw [show its.toArray.any (eqU x) = its.any (eqU x) by simp, any_eqU r fs]
    exact q
  · obtain ⟨its, r, pl, hz⟩ := I.tuple hq
    refine SeqAt.in_tupleAt (eqU x) pl (fun w hw => mem_eqAt rx fx r fs w (by simpa using hw)) ⟨.bl _, H, I, rfl, ?_⟩
    rw [show its.toArray.any (eqU x) = its.any (eqU x) by simp, any_eqU r fs]
    exact q
theorem op_notIn_seq : OpR X (compareOp .NotIn) (rIn X.K true) := by
  intro pins s σ H x y v u Q I rx ry h
  obtain ⟨p, xs, rfl, hq, fx, fs, q⟩ := h
  cases ry
  rcases hq with hq | hq
  · obtain ⟨its, r, pl, hz⟩ := I.list hq
    refine SeqAt.notIn_listAt (eqU x) pl.isList (fun w hw => mem_eqAt rx fx r fs w (by simpa using hw)) ⟨.bl _, H, I, rfl, ?_⟩
    rw [show its.toArray.any (eqU x) = its.any (eqU x) by simp, any_eqU r fs]
    exact q
  · obtain ⟨its, r, pl, hz⟩ := I.tuple hq
    refine SeqAt.notIn_tupleAt (eqU x) pl (fun w hw => mem_eqAt rx fx r fs w (by simpa using hw)) ⟨.bl _, H, I, rfl, ?_⟩
    rw [show its.toArray.any (eqU x) = its.any (eqU x) by simp, any_eqU r fs]
    exact q
theorem call_len_seq : CallR X (.builtin "len") (fun xs H Q => ∃ p ys, xs = [.ref p] ∧ (SqL X.K H p ys ∨ SqT X.K H p ys) ∧ Q (.int ys.length) H) := by
  intro pins s σ H xs us Q I r h
  obtain ⟨p, ys, rfl, hq, q⟩ := h
  obtain ⟨u, rfl, rx⟩ := vals1 r
  cases rx
  have hn := line63
  rcases hq with hq | hq
  · obtain ⟨its, r', pl, hz⟩ := I.list hq
    have hlen := r'.length
    exact Calls.call_len_list pl.isList (by simp only [List.size_toArray] <;> omega) ⟨.int ys.length, H, I.tok _, ⟨s.toks + 1, by rw [List.size_toArray, hlen]⟩, q⟩
  · obtain ⟨its, r', pl, hz⟩ := I.tuple hq
    have hlen := r'.length
    exact len_tuple pl (by simp only [List.size_toArray] <;> omega) ⟨.int ys.length, H, I.tok _, ⟨s.toks + 1, by rw [List.size_toArray, hlen]⟩, q⟩
theorem call_len_str : CallR X (.builtin "len") (fun xs H Q => ∃ z, xs = [.str z] ∧ z.length ≤ sizeLine ∧ Q (.int z.length) H) := by
  intro pins s σ H xs us Q I r h
  obtain ⟨z, rfl, hz, q⟩ := h
  obtain ⟨u, rfl, t, rfl⟩ := vals1 r
  have hn := line63
  exact len_str (by omega) ⟨.int z.length, H, I.tok _, ⟨_, rfl⟩, q⟩
theorem CallR.or {f : Value} {r r' : List V → Hp → VK → Prop} (h : CallR X f r) (h' : CallR X f r') : CallR X f (fun xs H Q => r xs H Q ∨ r' xs H Q) := by
  intro pins s σ H xs us Q I rs q
  rcases q with q | q
  · exact h pins s σ H xs us Q I rs q
  · exact h' pins s σ H xs us Q I rs q
theorem call_list_of : CallR X (.type "list") (fun xs H Q => ∃ p ys, xs = [.ref p] ∧ (SqL X.K H p ys ∨ SqT X.K H p ys) ∧ ∀ l, H l = none → Q (.ref l) (upd H l (.lst ys))) := by
  intro pins s σ H xs us Q I r h
  obtain ⟨p, ys, rfl, hq, q⟩ := h
  obtain ⟨u, rfl, rx⟩ := vals1 r
  cases rx
  have fin : ∀ (its : List Value), Vals ys its → ys.length ≤ sizeLine → ∀ (h' : Heap) (c' : Nat), (∀ b o', s.heap.get? b = some o' → h'.get? b = some o') →
      h'.get? s.heap.objs.size = some { cls := .type "list", dict := none, data := .seq its.toArray c', slots := #[] } → EP X pins σ Q (.ref s.heap.objs.size) { s with heap := h' } := fun its r' hz h' c' kp e =>
    ⟨.ref s.heap.objs.size, _, I.laid (t' := s.toks) kp (Nat.le_refl _) (show ObjOk X.prog X.w _ h' _ (.lst ys) from ⟨hz, its, c', r', e⟩), rfl, q _ (I.hok.fresh (Nat.le_refl _))⟩
  rcases hq with hq | hq
  · obtain ⟨its, r', pl, hz⟩ := I.list hq
    have hlen := r'.length
    obtain ⟨o, ho, hc, n, hd⟩ := pl.isList
    exact call_list_seq p (.inl rfl) ho hc hd (fun h' c' kp e => fin its r' hz h' c' kp e) (by simp only [List.size_toArray] <;> omega)
  · obtain ⟨its, r', pl, hz⟩ := I.tuple hq
    have hlen := r'.length
    obtain ⟨o, ho, hc, n, hd⟩ := pl
    exact call_list_seq p (.inr rfl) ho hc hd (fun h' c' kp e => fin its r' hz h' c' kp e) (by simp only [List.size_toArray] <;> omega)
theorem call_tuple_of : CallR X (.type "tuple") (fun xs H Q => ∃ p ys, xs = [.ref p] ∧ ((SqL X.K H p ys ∧ ∀ l, H l = none → Q (.ref l) (upd H l (.tup ys))) ∨ (SqT X.K H p ys ∧ Q (.ref p) H))) := by
  intro pins s σ H xs us Q I r h
  obtain ⟨p, ys, rfl, h⟩ := h
  obtain ⟨u, rfl, rx⟩ := vals1 r
  cases rx
  rcases h with ⟨hq, q⟩ | ⟨hq, q⟩
  · obtain ⟨its, r', pl, hz⟩ := I.list hq
    have hlen := r'.length
    refine call_tuple_list pl.isList (fun h' kp => ?_) (by simp only [List.size_toArray] <;> omega)
    have I1 : Inv X pins σ H { s with heap := h' } := I.kept (t' := s.toks) kp
    have I2 : Inv X pins σ (upd H h'.objs.size (.tup ys)) { s with heap := h'.push { cls := .type "tuple", data := .seq its.toArray } } :=
      I1.laid (t' := s.toks) (fun b o e => Heap.get?_push_of_some _ e) (Nat.le_refl _) (show ObjOk X.prog X.w _ _ _ (.tup ys) from ⟨hz, its, r', IsTup.new _ _⟩)
    exact ⟨.ref h'.objs.size, _, I2, rfl, q _ (I1.hok.fresh (Nat.le_refl _))⟩
  · obtain ⟨its, r', pl, hz⟩ := I.tuple hq
    exact call_tuple_same pl ⟨.ref p, H, I, rfl, q⟩
def tyV (K : PySem.W.Frag) (T : String) (x : V) (H : Hp) : Prop := match x with
  | .str _ => T = "str"
  | .int _ => T = "int"
  | .ref p => (T = "list" ∧ ∃ xs, SqL K H p xs) ∨ (T = "tuple" ∧ ∃ o, K.lookup p = some o ∧ o.cls = .type "tuple" ∧ o.dict = none) ∨
      (T = "dict" ∧ ((∃ kvs, H p = some (.dK kvs)) ∨ ∃ kvs, H p = some (.dT kvs))) ∨ (T = "set" ∧ ∃ S n, H p = some (.set S n))
  | _ => False
theorem tyV_is {pins : List (Addr × Obj)} {σ : St} {H : Hp} {s : Shared} {T : String} {x : V} {v : Value} (I : Inv X pins σ H s) (r : RelV x v) (ty : tyV X.K T x H) :
    s.TypeIs v T ∧ ∀ a, v = .ref a → ∃ ob, s.heap.get? a = some ob ∧ ob.dict = none := by
  cases x with
  | str z =>
    obtain ⟨t, rfl⟩ := r
    cases (show T = "str" from ty)
    exact ⟨typeIs_str s z t, fun _ e => nomatch e⟩
  | int i =>
    obtain ⟨t, rfl⟩ := r
    cases (show T = "int" from ty)
    exact ⟨typeIs_int s i t, fun _ e => nomatch e⟩
  | ref p =>
    cases r
    rcases ty with ⟨rfl, xs, hq⟩ | ⟨rfl, o, hk, hc, hd⟩ | ⟨rfl, hk⟩ | ⟨rfl, S, n, hk⟩
    · obtain ⟨its, _, pl, _⟩ := I.list hq
      refine ⟨pl.isList.typeIs, fun a e => ?_⟩
      cases e
      obtain ⟨o, n, e, c, hd, _⟩ := pl
      exact ⟨o, e, hd⟩
    · refine ⟨⟨o, I.kIn p o hk, hc⟩, fun a e => ?_⟩
      cases e
      exact ⟨o, I.kIn _ o hk, hd⟩
    · have z : ∃ o, s.heap.get? p = some o ∧ o.ExactDict := by
        rcases hk with ⟨kvs, hk⟩ | ⟨kvs, hk⟩
        · obtain ⟨_, _, _, _, o, _, _, e, ex, _⟩ := I.hok p _ hk
          exact ⟨o, e, ex⟩
        · obtain ⟨_, _, _, _, o, _, _, e, ex, _⟩ := I.hok p _ hk
          exact ⟨o, e, ex⟩
      obtain ⟨o, e, ex⟩ := z
      refine ⟨⟨o, e, ex.1⟩, fun a e2 => ?_⟩
      cases e2
      exact ⟨o, e, ex.2.1⟩
    · obtain ⟨o, _, _, _, e, ex, _⟩ := I.hok p _ hk
      refine ⟨⟨o, e, ex.1⟩, fun a e2 => ?_⟩
      cases e2
      exact ⟨o, e, ex.2.1⟩
  | _ => exact False.elim ty
def tBM (K : PySem.W.Frag) (T : String) (r : V → List V → Hp → VK → Prop) (to : TE) (t : TA) : TE := fun σ H Q => to σ H fun x H1 => tyV K T x H1 ∧ t σ H1 fun xs H2 => r x xs H2 Q
variable {o e : Expr} {es : List Expr} {to : TE} {t : TA} {name : Str} {apos cpos : Pos} {T id : String} {r : V → List V → Hp → VK → Prop}
theorem pe_bm (pa : PlainAttrs T) (slot : Slot T name id) (hty : typeOf (.builtin id) = pure (.type "method_descriptor")) (hm : MtR X id r) (ho : PE X o to) (ha : PA X (e :: es) t)
    (hbase : attributeBase o name X.env (eval o X.env) = eval o X.env := by rfl)
    (hfew : ((backTo cpos (starEach (e :: es) X.env)).all (fun x => !x.1) && (backToKw cpos (keywordEach [] X.env)).all (fun x => x.1.isSome)
      && decide ((e :: es).length + ([] : List Keyword).length + (if ([] : List Keyword).isEmpty then 0 else 1) < 30)) = true := by rfl)
    (hline : (apos.endLine == cpos.line) = true := by rfl) (hs : starEach (e :: es) X.env = (false, eval e X.env) :: starEach es X.env := by rfl) (hplain : (backTo cpos (starEach es X.env)).any (·.1) = false := by rfl) :
    PE X (.Call (.Attribute o name apos) (e :: es) [] cpos) (tBM X.K T r to t) := by
  intro pins s σ H Q I h
  refine wpAny_Call_method_late hbase hfew hline rfl (thn (ho pins s σ H _ I h) fun v s1 ⟨x, H1, I1, r1, ty, q1⟩ => ?_)
  obtain ⟨h1, h2⟩ := tyV_is I1 r1 ty
  refine ⟨T, id, pa, slot, hty, h1, h2, ?_⟩
  have hA := ha cpos pins s1 σ H1 _ I1 q1
  rw [hs] at hA ⊢
  refine Calls.callWith_builtin (by show (false || (backTo cpos (starEach es X.env)).any (·.1)) = false; rw [hplain] <;> rfl) (Calls.evalArgs_plain ?_)
  exact thn hA fun us s2 ⟨vs, H2, I2, r2, q2⟩ => hm pins s2 σ H2 x vs v us Q I2 r1 r2 q2
end
end L2
namespace L2
open PySem PySem.Spec PyProof.Rows
def MtM (X : Cx) (id : String) (r : V → List V → Hp → VK → Prop) : Prop :=
  ∀ (pins : List (Addr × Obj)) (s : Shared) (σ : St) (H : Hp) (x : V) (xs : List V) (v : Value) (us : List Value) (Q : VK), Inv X pins σ H s → RelV x v → Vals xs us → r x xs H Q →
    wpAny (model X.prog X.w) X.A (call (.builtin id) (v :: us)) (EP X pins σ Q) X.xe s
theorem Vals.one : ∀ {x : V} {us : List Value}, Vals [x] us → ∃ u, us = [u] ∧ RelV x u
  | _, _, .cons r .nil => ⟨_, rfl, r⟩
theorem Vals.rep {xs : List V} {us : List Value} (h : Vals xs us) : ∀ k : Nat, Vals (List.replicate k xs).flatten (List.replicate k us).flatten
  | 0 => .nil
  | k + 1 => by
    rw [List.replicate_succ, List.replicate_succ, List.flatten_cons, List.flatten_cons]
    exact Vals.append h (Vals.rep h k)
theorem foldl_rep (its : List Value) : ∀ (k : Nat) (acc : List Value),
    List.foldl (fun x1 x2 => x1 ++ x2) acc.toArray (List.replicate k its.toArray) = (acc ++ (List.replicate k its).flatten).toArray
  | 0, acc => by simp
  | k + 1, acc => by
    have e : acc.toArray ++ its.toArray = (acc ++ its).toArray := by simp
    have e2 : (acc ++ its) ++ (List.replicate k its).flatten = acc ++ (List.replicate (k + 1) its).flatten := by
      rw [List.replicate_succ, List.flatten_cons, List.append_assoc]
    rw [← e2, ← foldl_rep its k (acc ++ its), ← e, List.replicate_succ, List.foldl_cons]
section
variable {X : Cx} {pins : List (Addr × Obj)} {σ : St} {H : Hp} {s : Shared} {l b : Addr} {xs ys zs : List V}
theorem Inv.lset {its its' : List Value} {n : Nat} {f : Array Value → Array Value} {t' : Nat} (I : Inv X pins σ H s) (hH : H l = some (.lst xs))
    (e : s.heap.get? l = some { cls := .type "list", data := .seq its.toArray n }) (hf : f its.toArray = its'.toArray) (hv : Vals ys its') (hz : ys.length ≤ sizeLine) (ht : 0 < t' := by first | exact Nat.succ_pos _ | assumption | exact Inv.tk (by assumption) | omega) :
    Inv X pins σ (upd H l (.lst ys)) { s with heap := s.heap.update l (Obj.mapSeq f), toks := t' } := by
  have q := PySem.IsL.update e f
  rw [hf] at q
  refine I.write (x := l) (e := l) (by rw [hH]; exact trivial) (.inl rfl) (fun b' u hb hu => (Heap.get?_update_other s.heap (Obj.mapSeq f) (Ne.symm hb)).trans hu) ⟨_, q⟩ ?_
  exact ⟨hz, its', _, hv, q⟩
theorem Inv.lnew {its : List Value} {t' : Nat} (I : Inv X pins σ H s) (hv : Vals ys its) (hz : ys.length ≤ sizeLine) (ht : 0 < t' := by first | exact Nat.succ_pos _ | assumption | exact Inv.tk (by assumption) | omega) :
    Inv X pins σ (upd H s.heap.objs.size (.lst ys)) { s with heap := s.heap.push { cls := .type "list", data := .seq its.toArray }, toks := t' } :=
  I.laid (fun _ _ q => Heap.get?_push_of_some _ q) (Nat.le_refl _) ⟨hz, its, 0, hv, Heap.get?_push_size _ rfl⟩
theorem Inv.fresh (I : Inv X pins σ H s) : H s.heap.objs.size = none := I.hok.fresh (Nat.le_refl _)
theorem Inv.lstM (I : Inv X pins σ H s) (hH : H l = some (.lst xs)) : xs.length ≤ sizeLine ∧ ∃ (its : List Value) (n : Nat), Vals xs its ∧ xs.length = its.length ∧ s.heap.get? l = some { cls := .type "list", data := .seq its.toArray n } := by
  obtain ⟨z, its, n, r, e⟩ := I.hok l _ hH
  exact ⟨z, its, n, r, r.length, e⟩
theorem notLongL {n : Nat} (h : n ≤ sizeLine) : Builtin.List.listTooLong n = false := by
  unfold Builtin.List.listTooLong
  exact decide_eq_false (by omega)
end
section
variable {X : Cx}
def rAppend : V → List V → Hp → VK → Prop := fun x vs H Q => ∃ l xs y, x = .ref l ∧ vs = [y] ∧ H l = some (.lst xs) ∧ xs.length < sizeLine ∧ Q .non (upd H l (.lst (xs ++ [y])))
theorem mt_append : MtM X "list.append" rAppend := by
  intro pins s σ H x vs v us Q I rx rv h
  obtain ⟨l, xs, y, rfl, rfl, hH, hz, q⟩ := h
  cases rx
  obtain ⟨u, rfl, ru⟩ := rv.one
  obtain ⟨z, its, n, r, hl, e⟩ := I.lstM hH
  refine call_meets F.slot_list_append ⟨_, e, rfl⟩ F.entry_list_append (F.args_list_append_2 _ _) (PySem.list_append l its.toArray n u (by rw [List.size_toArray]; omega)) ⟨e, ?_⟩
  refine ⟨.non, _, I.lset (its' := its ++ [u]) hH e (by simp) (r.append (.cons ru .nil)) ?_, rfl, q⟩
  rw [List.length_append, List.length_singleton]
  omega
def rCat : R2 := fun x y H Q => ∃ l b xs zs, x = .ref l ∧ y = .ref b ∧ H l = some (.lst xs) ∧ H b = some (.lst zs) ∧ xs.length + zs.length ≤ sizeLine ∧ ∀ p, H p = none → Q (.ref p) (upd H p (.lst (xs ++ zs)))
theorem op_cat : OpR X (binaryOp .Add) rCat := by
  intro pins s σ H x y v u Q I rx ry h
  obtain ⟨l, b, xs, zs, rfl, rfl, hH, hB, hz, q⟩ := h
  cases rx
  cases ry
  obtain ⟨z, its, n, r, hl, e⟩ := I.lstM hH
  obtain ⟨z2, its2, n2, r2, hl2, e2⟩ := I.lstM hB
  refine PySem.P.add_list e e2 ?_ (by rw [List.size_toArray, List.size_toArray]; omega)
  have ea : its.toArray ++ its2.toArray = (its ++ its2).toArray := by simp
  rw [ea]
  exact ⟨.ref _, _, I.lnew (t' := s.toks) (r.append r2) (by rw [List.length_append]; omega), rfl, q _ I.fresh⟩
def rRep : R2 := fun x y H Q => ∃ l k xs, x = .ref l ∧ y = .int k ∧ H l = some (.lst xs) ∧ -(2 ^ 63) ≤ k ∧ k < 2 ^ 63 ∧ xs.length * k.toNat ≤ sizeLine ∧
  ∀ p, H p = none → Q (.ref p) (upd H p (.lst (List.replicate k.toNat xs).flatten))
theorem len_rep {α : Type} (xs : List α) (k : Nat) : (List.replicate k xs).flatten.length = k * xs.length := by
  induction k with
  | zero => simp
  | succ k ih => rw [List.replicate_succ, List.flatten_cons, List.length_append, ih, Nat.succ_mul, Nat.add_comm]
theorem op_rep : OpR X (binaryOp .Mult) rRep := by
  intro pins s σ H x y v u Q I rx ry h
  obtain ⟨l, k, xs, rfl, rfl, hH, h1, h2, hz, q⟩ := h
  cases rx
  obtain ⟨t, rfl⟩ := ry
  obtain ⟨z, its, n, r, hl, e⟩ := I.lstM hH
  have hlen : its.toArray.size * k.toNat ≤ sizeLine := by rw [List.size_toArray, ← hl]; exact hz
  have hcap : ¬ its.toArray.size * k.toNat > (2 ^ 63 - 1) / 8 := by
    have : (sizeLine : Nat) ≤ (2 ^ 63 - 1) / 8 := by decide
    omega
  have hfit : ¬ (!Builtin.List.listFitsIndex k) = true := by
    rw [fitsIndex_both h1 h2]
    exact Bool.false_ne_true
  have hlong : ¬ Builtin.List.listTooLong (its.toArray.size * k.toNat) = true := by
    rw [notLongL hlen]
    exact Bool.false_ne_true
  have hnew : List.foldl (fun x1 x2 => x1 ++ x2) #[] (List.replicate (if its.toArray.isEmpty = true then 0 else k.toNat) its.toArray) = (List.replicate k.toNat its).flatten.toArray := by
    have f0 : ∀ m : Nat, List.foldl (fun x1 x2 => x1 ++ x2) #[] (List.replicate m its.toArray) = (List.replicate m its).flatten.toArray := fun m => by
      have := foldl_rep its m []
      rw [List.nil_append] at this
      exact this
    rw [f0]
    cases its with
    | nil => simp
    | cons a r' => rw [if_neg (by simp)]
  refine wpAny_binaryOp_repeat_ref (T := "list") (U := "int") (by decide) ⟨_, e, rfl⟩ (fun s' => typeIs_int s' k t) noFill_list_mul F.fills_int_mul F.slot_int_rmul repeat_list F.slot_int_index.lookup
    (call_meets F.slot_int_rmul (typeIs_int s k t) F.entry_int_rmul (F.args_int_rmul_2 _ _) (int___rmul___int_list k t l its.toArray n)
      ⟨e, rfl, ⟨_, e, rfl⟩, call_meets F.slot_list_mul ⟨_, e, rfl⟩ F.entry_list_mul (F.args_list_mul_2 _ _) (AutoListH.list___mul___list_int_3 l its.toArray n k t hfit hcap hlong) ⟨e, ?_⟩⟩)
  rw [hnew]
  exact ⟨.ref _, _, I.lnew (t' := s.toks) (r.rep k.toNat) (by rw [len_rep, Nat.mul_comm]; exact hz), rfl, q _ I.fresh⟩
end
section
variable {prog : Program} {w : World} {A : Around} {E : Value → Shared → Prop} {s : Shared}
set_option maxRecDepth 100000 in
end
end L2
namespace L2
open PySem PySem.Spec PyProof.Rows
section
variable {κ : Type} [DecidableEq κ]
def valV (kvs : List (κ × V)) (k : κ) : Option V := (kvs.find? fun kv => decide (kv.1 = k)).map (·.2)
def putK (kvs : List (κ × V)) (k : κ) (v : V) : List (κ × V) :=
  if (kvs.any fun kv => decide (kv.1 = k)) = true then kvs.map (fun kv => if kv.1 = k then (kv.1, v) else kv) else kvs ++ [(k, v)]
def dropK (kvs : List (κ × V)) (k : κ) : List (κ × V) := kvs.filter fun kv => decide (kv.1 ≠ k)
theorem valV_pos {p : κ × V} {r : List (κ × V)} {k : κ} (e : p.1 = k) : valV (p :: r) k = some p.2 := by simp [valV, List.find?_cons, e]
theorem valV_neg {p : κ × V} {r : List (κ × V)} {k : κ} (e : ¬ p.1 = k) : valV (p :: r) k = valV r k := by simp [valV, List.find?_cons, e]
theorem valV_any (k : κ) : ∀ kvs : List (κ × V), (kvs.any fun kv => decide (kv.1 = k)) = (valV kvs k).isSome
  | [] => rfl
  | p :: r => by
    rw [List.any_cons]
    by_cases e : p.1 = k
    · simp only [valV_pos e, decide_eq_true e, Bool.true_or, Option.isSome_some]
    · rw [valV_neg e, decide_eq_false e, Bool.false_or]; exact valV_any k r
theorem length_putK (kvs : List (κ × V)) (k : κ) (v : V) : (putK kvs k v).length ≤ kvs.length + 1 := by
  unfold putK
  split
  · rw [List.length_map]; omega
  · rw [List.length_append, List.length_cons, List.length_nil]; omega
theorem RelO.isSome_eq {o : Option V} {u : Option Value} (r : RelO o u) : o.isSome = u.isSome := by
  cases o with
  | none => cases u with
    | none => rfl
    | some _ => exact (show False from r).elim
  | some _ => cases u with
    | none => exact (show False from r).elim
    | some _ => rfl
theorem RelO.getD {o : Option V} {u : Option Value} {d : V} {d' : Value} (r : RelO o u) (rd : RelV d d') : RelV (o.getD d) (u.getD d') := by
  cases o with
  | none => cases u with
    | none => exact rd
    | some _ => exact (show False from r).elim
  | some _ => cases u with
    | none => exact (show False from r).elim
    | some _ => exact r
theorem KV.val {kvs : List (κ × V)} {vs : List (κ × Value)} (r : KV kvs vs) (k : κ) : RelO (valV kvs k) (valueAt vs k) := by
  unfold KV at r
  induction r with
  | nil => exact True.intro
  | @cons p q ps qs h t ih =>
    obtain ⟨h1, h2⟩ := h
    by_cases e : p.1 = k
    · have e' : q.1 = k := h1.symm.trans e
      have b : valueAt (q :: qs) k = some q.2 := by simp [valueAt, List.find?_cons, e']
      rw [valV_pos e, b]; exact h2
    · have e' : ¬ q.1 = k := fun z => e (h1.trans z)
      have b : valueAt (q :: qs) k = valueAt qs k := by simp [valueAt, List.find?_cons, e']
      rw [valV_neg e, b]; exact ih
theorem KV.any {kvs : List (κ × V)} {vs : List (κ × Value)} (r : KV kvs vs) (k : κ) : (kvs.any fun kv => decide (kv.1 = k)) = vs.any fun kv => decide (kv.1 = k) := by
  unfold KV at r
  induction r with
  | nil => rfl
  | cons h t ih => rw [List.any_cons, List.any_cons, ih, h.1]
theorem KV.repl {kvs : List (κ × V)} {vs : List (κ × Value)} (r : KV kvs vs) (k : κ) {y : V} {u : Value} (ry : RelV y u) :
    KV (kvs.map fun kv => if kv.1 = k then (kv.1, y) else kv) (vs.map fun kv => if kv.1 = k then (kv.1, u) else kv) := by
  unfold KV at r ⊢
  induction r with
  | nil => exact .nil
  | @cons p q ps qs h t ih =>
    rw [List.map_cons, List.map_cons]
    refine .cons ?_ ih
    obtain ⟨h1, h2⟩ := h
    by_cases e : p.1 = k
    · rw [if_pos e, if_pos (h1.symm.trans e)]; exact ⟨h1, ry⟩
    · rw [if_neg e, if_neg (fun z => e (h1.trans z))]; exact ⟨h1, h2⟩
theorem KV.put {kvs : List (κ × V)} {vs : List (κ × Value)} (r : KV kvs vs) (k : κ) {y : V} {u : Value} (ry : RelV y u) : KV (putK kvs k y) (stored vs k u) := by
  unfold putK stored
  rw [r.any k]
  by_cases e : (vs.any fun kv => decide (kv.1 = k)) = true
  · rw [if_pos e, if_pos e]; exact r.repl k ry
  · rw [if_neg e, if_neg e]; exact Paired.snoc r ⟨rfl, ry⟩
theorem KV.drop {kvs : List (κ × V)} {vs : List (κ × Value)} (r : KV kvs vs) (k : κ) : KV (dropK kvs k) (without vs k) := by
  unfold KV at r ⊢
  unfold dropK without
  induction r with
  | nil => exact .nil
  | @cons p q ps qs h t ih =>
    obtain ⟨h1, h2⟩ := h
    rw [List.filter_cons, List.filter_cons]
    by_cases e : p.1 = k
    · have a : ¬ decide (p.1 ≠ k) = true := by simp [e]
      have b : ¬ decide (q.1 ≠ k) = true := by simp [h1.symm.trans e]
      rw [if_neg a, if_neg b]; exact ih
    · have e' : ¬ q.1 = k := fun z => e (h1.trans z)
      have a : decide (p.1 ≠ k) = true := by simp [e]
      have b : decide (q.1 ≠ k) = true := by simp [e']
      rw [if_pos a, if_pos b]; exact .cons ⟨h1, h2⟩ ih
theorem KV.keys {kvs : List (κ × V)} {vs : List (κ × Value)} (r : KV kvs vs) : kvs.map (·.1) = vs.map (·.1) := by
  unfold KV at r
  induction r with
  | nil => rfl
  | cons h t ih => rw [List.map_cons, List.map_cons, ih, h.1]
theorem KV.length {kvs : List (κ × V)} {vs : List (κ × Value)} (r : KV kvs vs) : kvs.length = vs.length := Paired.length r
theorem dropK_le (kvs : List (κ × V)) (k : κ) : (dropK kvs k).length ≤ kvs.length := List.length_filter_le _ _
end
theorem kV_is {P : Program} {w : World} {k : Key} {u : Value} (r : RelV (kV k) u) : (mixKind P w).is k u = true := by
  cases k with
  | inl i => obtain ⟨t, e⟩ := (show ∃ t, u = Value.int i t from r); subst e; exact mixKind_int P w i t
  | inr x => obtain ⟨t, e⟩ := (show ∃ t, u = Value.str x t from r); subst e; exact mixKind_str P w x t
theorem items_are {P : Program} {w : World} : ∀ {ks : List Key} {us : List Value}, Vals (ks.map kV) us → ItemsAre (mixKind P w) ks us
  | [], _, r => by rw [List.map_nil] at r; cases r; exact .nil
  | k :: ks, _, r => by
    rw [List.map_cons] at r
    cases r with
    | cons h t => exact .cons (kV_is h) (items_are t)
abbrev KT (H : Hp) : List (List Key × V) → List (List Key × Addr × Value) → Prop := Paired fun p q => p.1 = q.1 ∧ H q.2.1 = some (.tup (p.1.map kV)) ∧ RelV p.2 q.2.2
theorem KT.val {H : Hp} {kvs : List (List Key × V)} {xs : List (List Key × Addr × Value)} (r : KT H kvs xs) (k : List Key) : RelO (valV kvs k) ((atKey xs k).map (·.2)) := by
  induction r with
  | nil => exact True.intro
  | @cons p q ps qs h t ih =>
    obtain ⟨h1, _, h2⟩ := h
    by_cases e : p.1 = k
    · have e' : q.1 = k := h1.symm.trans e
      have b : atKey (q :: qs) k = some q.2 := by simp [atKey, List.find?_cons, e']
      rw [valV_pos e, b]; exact h2
    · have e' : ¬ q.1 = k := fun z => e (h1.trans z)
      have b : atKey (q :: qs) k = atKey qs k := by simp [atKey, List.find?_cons, e']
      rw [valV_neg e, b]; exact ih
theorem KT.repl {H : Hp} {kvs : List (List Key × V)} {xs : List (List Key × Addr × Value)} (r : KT H kvs xs) (k : List Key) {y : V} {u : Value} (ry : RelV y u) :
    KT H (kvs.map fun kv => if kv.1 = k then (kv.1, y) else kv) (xs.map (putAt k u)) := by
  induction r with
  | nil => exact .nil
  | @cons p q ps qs h t ih =>
    rw [List.map_cons, List.map_cons]
    refine .cons ?_ ih
    obtain ⟨h1, h2, h3⟩ := h
    unfold putAt
    by_cases e : p.1 = k
    · rw [if_pos e, if_pos (h1.symm.trans e)]; exact ⟨h1, h2, ry⟩
    · rw [if_neg e, if_neg (fun z => e (h1.trans z))]; exact ⟨h1, h2, h3⟩
theorem KT.put {H : Hp} {kvs : List (List Key × V)} {xs : List (List Key × Addr × Value)} (r : KT H kvs xs) (k : List Key) {b : Addr} {y : V} {u : Value} (hb : H b = some (.tup (k.map kV))) (ry : RelV y u) :
    KT H (putK kvs k y) (storedH xs k b u) := by
  have e : (kvs.any fun kv => decide (kv.1 = k)) = (atKey xs k).isSome := by
    rw [valV_any, (r.val k).isSome_eq, Option.isSome_map]
  unfold putK storedH
  rw [e]
  by_cases q : (atKey xs k).isSome = true
  · rw [if_pos q, if_pos q]; exact r.repl k ry
  · rw [if_neg q, if_neg q]; exact Paired.snoc r ⟨rfl, hb, ry⟩
theorem KT.keeps {H H' : Hp} {kvs : List (List Key × V)} {xs : List (List Key × Addr × Value)} (r : KT H kvs xs) (ht : ∀ b ys, H b = some (.tup ys) → H' b = some (.tup ys)) : KT H' kvs xs :=
  Paired.mapP r fun _ _ z => ⟨z.1, ht _ _ z.2.1, z.2.2⟩
section
variable {P : Program} {w : World} {H : Hp} {h : Heap} {a : Addr}
theorem rd_of {u : HO} (ok : HOk P w H h) (e : Rd H a u) : ObjOk P w H h a u := e.ok ok
theorem dk_rd {kvs : List (Key × V)} (ok : HOk P w H h) (e : Rd H a (.dK kvs)) : kvs.length ≤ sizeLine ∧ (a == sysModules) = false ∧ ∃ vs, KV kvs vs ∧ h.DictOf (mixKind P w) a vs :=
  show ObjOk P w H h a (.dK kvs) from rd_of ok e
theorem dk_of {kvs : List (Key × V)} (ok : HOk P w H h) (e : H a = some (.dK kvs)) : kvs.length ≤ sizeLine ∧ (a == sysModules) = false ∧ ∃ vs, KV kvs vs ∧ h.DictOf (mixKind P w) a vs := dk_rd ok (.inl e)
theorem key_of {ks : List Key} (ok : HOk P w H h) (e : H a = some (.tup (ks.map kV))) : (tupleKind (mixKind P w)).is h ks a := by
  obtain ⟨_, its, r, o, h1, h2, n, h3⟩ := (show ObjOk P w H h a (.tup (ks.map kV)) from ok a _ e)
  exact ⟨o, its.toArray, n, h1, h2, h3, by simpa using items_are r⟩
theorem dt_rd {kvs : List (List Key × V)} (ok : HOk P w H h) (e : Rd H a (.dT kvs)) : kvs.length ≤ sizeLine ∧ (a == sysModules) = false ∧
    ∃ xs, KT H kvs xs ∧ h.DictOfH (tupleKind (mixKind P w)) a xs := by
  obtain ⟨z, y, xs, r, o, es, ep, h1, h2, h3, h4, h5⟩ := (show ObjOk P w H h a (.dT kvs) from rd_of ok e)
  refine ⟨z, y, xs, r, o, es, ep, h1, h2, h3, h4, fun x hx => ?_, h5⟩
  have all : ∀ {l : List (List Key × V)} {m : List (List Key × Addr × Value)}, KT H l m → ∀ x ∈ m, (tupleKind (mixKind P w)).is h x.1 x.2.1 := by
    intro l m q
    induction q with
    | nil => intro x hx; exact nomatch hx
    | @cons p q ps qs hq t ih =>
      intro x hx
      rcases List.mem_cons.mp hx with e | hx
      · subst e
        exact key_of ok (by rw [← hq.1]; exact hq.2.1)
      · exact ih x hx
  exact all r x hx
theorem dt_of {kvs : List (List Key × V)} (ok : HOk P w H h) (e : H a = some (.dT kvs)) : kvs.length ≤ sizeLine ∧ (a == sysModules) = false ∧
    ∃ xs, KT H kvs xs ∧ h.DictOfH (tupleKind (mixKind P w)) a xs := dt_rd ok (.inl e)
end
def DGet (H : Hp) (a : Addr) (y : V) (r : Option V) : Prop :=
  (∃ kvs k, Rd H a (.dK kvs) ∧ y = kV k ∧ r = valV kvs k) ∨ ∃ kvs k b, Rd H a (.dT kvs) ∧ y = .ref b ∧ H b = some (.tup (k.map kV)) ∧ r = valV kvs k
def DPut (H : Hp) (a : Addr) (y v : V) (H' : Hp) : Prop :=
  (∃ kvs k, H a = some (.dK kvs) ∧ y = kV k ∧ kvs.length < sizeLine ∧ H' = upd H a (.dK (putK kvs k v))) ∨
  ∃ kvs k b, H a = some (.dT kvs) ∧ y = .ref b ∧ H b = some (.tup (k.map kV)) ∧ kvs.length < sizeLine ∧ H' = upd H a (.dT (putK kvs k v))
theorem DGet.k {H : Hp} {a : Addr} {kvs : List (Key × V)} {k : Key} (e : H a = some (.dK kvs)) : DGet H a (kV k) (valV kvs k) := .inl ⟨kvs, k, .inl e, rfl, rfl⟩
theorem DPut.k {H : Hp} {a : Addr} {kvs : List (Key × V)} {k : Key} {v : V} (e : H a = some (.dK kvs)) (hl : kvs.length < sizeLine) : DPut H a (kV k) v (upd H a (.dK (putK kvs k v))) := .inl ⟨kvs, k, e, rfl, hl, rfl⟩
section
variable {X : Cx} {pins : List (Addr × Obj)} {σ : St} {H : Hp} {s : Shared} {a : Addr} {y v : V} {u r : Value} {o : Option V} {A : Around} {E : Value → Shared → Prop}
theorem Inv.big (I : Inv X pins σ H s) : sysModules < s.heap.objs.size := by
  have h : mainGlobals < s.heap.objs.size := (I.mod.glob.keeps I.bk).lt
  exact Nat.lt_trans (by decide) h
theorem d_getItem {Q : Value → Shared → Prop} (hu : A.units + 1 < cLine) (I : Inv X pins σ H s) (g : DGet H a y (some v)) (ry : RelV y u) (h : ∀ w' s', Inv X pins σ H s' → RelV v w' → Q w' s') :
    wpAny (model X.prog X.w) A (getItem (.ref a) u) Q E s := by
  rcases g with ⟨kvs, k, e, ey, l⟩ | ⟨kvs, k, b, e, ey, eb, l⟩
  · subst ey
    obtain ⟨z, hd, vs, rel, dd⟩ := dk_rd I.hok e
    obtain ⟨w', hw, rw'⟩ := RelO.some_of (v := v) (o := valueAt vs k) (by rw [l]; exact rel.val k)
    exact wpAny_getItem_of (kV_is ry) dd.mapOf hw (h w' _ (I.tok _) rw')
  · subst ey
    cases (show u = Value.ref b from ry)
    obtain ⟨z, hd, xs, rel, dd⟩ := dt_rd I.hok e
    obtain ⟨w', hw, rw'⟩ := RelO.some_of (v := v) (o := (atKey xs k).map (·.2)) (by rw [l]; exact rel.val k)
    obtain ⟨p, hp, hp2⟩ := Option.map_eq_some_iff.mp hw
    refine wpAny_getItem_heap (tupleKind_room_in1 hu) (key_of I.hok eb) dd hp ?_
    rw [hp2]
    exact h w' _ (I.tok _) rw'
theorem d_in {Q : Value → Shared → Prop} (hu : A.units + 1 < cLine) (I : Inv X pins σ H s) (g : DGet H a y o) (ry : RelV y u) (h : ∀ s', Inv X pins σ H s' → Q (.bool o.isSome) s') :
    wpAny (model X.prog X.w) A (compareOp .In u (.ref a)) Q E s := by
  rcases g with ⟨kvs, k, e, ey, l⟩ | ⟨kvs, k, b, e, ey, eb, l⟩
  · subst ey
    obtain ⟨z, hd, vs, rel, dd⟩ := dk_rd I.hok e
    refine wpAny_in_of (kV_is ry) hd dd.mapOf ?_
    rw [← (rel.val k).isSome_eq, ← l]
    exact h _ (I.tok _)
  · subst ey
    cases (show u = Value.ref b from ry)
    obtain ⟨z, hd, xs, rel, dd⟩ := dt_rd I.hok e
    refine wpAny_in_heap (tupleKind_room_in1 hu) (key_of I.hok eb) hd dd ?_
    have q := (rel.val k).isSome_eq
    rw [Option.isSome_map] at q
    rw [← q, ← l]
    exact h _ (I.tok _)
theorem d_notIn {Q : Value → Shared → Prop} (hu : A.units + 1 < cLine) (I : Inv X pins σ H s) (g : DGet H a y o) (ry : RelV y u) (h : ∀ s', Inv X pins σ H s' → Q (.bool (!o.isSome)) s') :
    wpAny (model X.prog X.w) A (compareOp .NotIn u (.ref a)) Q E s := by
  rcases g with ⟨kvs, k, e, ey, l⟩ | ⟨kvs, k, b, e, ey, eb, l⟩
  · subst ey
    obtain ⟨z, hd, vs, rel, dd⟩ := dk_rd I.hok e
    refine wpAny_notIn_of (kV_is ry) hd dd.mapOf ?_
    rw [← (rel.val k).isSome_eq, ← l]
    exact h _ (I.tok _)
  · subst ey
    cases (show u = Value.ref b from ry)
    obtain ⟨z, hd, xs, rel, dd⟩ := dt_rd I.hok e
    refine wpAny_notIn_heap (tupleKind_room_in1 hu) (key_of I.hok eb) hd dd ?_
    have q := (rel.val k).isSome_eq
    rw [Option.isSome_map] at q
    rw [← q, ← l]
    exact h _ (I.tok _)
theorem d_write {h' : Heap} {t' : Nat} {ob : HO} (I : Inv X pins σ H s) (mu : Mut (H a)) (hs : Heap.SameBut a s.heap h') (he : ∃ q, h'.get? a = some q) (new : ObjOk X.prog X.w (upd H a ob) h' a ob) (ht : 0 < t' := by first | exact Nat.succ_pos _ | assumption | exact Inv.tk (by assumption) | omega) :
    Inv X pins σ (upd H a ob) { s with heap := h', toks := t' } :=
  I.write (x := a) (e := a) mu (.inl rfl) (fun b q hb z => (hs.2 b hb).trans z) he new
theorem dk_new {P : Program} {w : World} {H' : Hp} {h' : Heap} {kvs : List (Key × V)} {vs : List (Key × Value)} (z : kvs.length ≤ sizeLine) (hd : (a == sysModules) = false) (rel : KV kvs vs) (dd : h'.DictOf (mixKind P w) a vs) :
    ObjOk P w H' h' a (.dK kvs) := ⟨z, hd, vs, rel, dd⟩
theorem d_setItem {H' : Hp} {Q : Unit → Shared → Prop} (hu : A.units + 1 < cLine) (I : Inv X pins σ H s) (g : DPut H a y v H') (ry : RelV y u) (rv : RelV v r) (h : ∀ s', Inv X pins σ H' s' → Q () s') :
    wpAny (model X.prog X.w) A (setItem (.ref a) u r) Q E s := by
  rcases g with ⟨kvs, k, e, ey, l, eH⟩ | ⟨kvs, k, b, e, ey, eb, l, eH⟩
  · subst ey eH
    obtain ⟨z, hd, vs, rel, dd⟩ := dk_of I.hok e
    have hz : vs.length ≤ sizeLine := by rw [← rel.length]; exact z
    have hl : (putK kvs k v).length ≤ sizeLine := by have := length_putK kvs k v; omega
    refine wpAny_setItem_pairs (hsz := hz) (kV_is ry) dd fun h' dd' hs => h _ ?_
    have he : ∃ q, h'.get? a = some q := let ⟨q, _, _, hq, _⟩ := dd'; ⟨q, hq⟩
    exact d_write I (by rw [e]; exact True.intro) hs he (dk_new hl hd (rel.put k rv) dd')
  · subst ey eH
    cases (show u = Value.ref b from ry)
    obtain ⟨z, hd, xs, rel, dd⟩ := dt_of I.hok e
    have hz : xs.length ≤ sizeLine := by rw [← Paired.length rel]; exact z
    have hl : (putK kvs k v).length ≤ sizeLine := by have := length_putK kvs k v; omega
    refine wpAny_setItem_heap (hsz := hz) (tupleKind_room_in1 hu) (key_of I.hok eb) dd fun h' dd' hs => h _ ?_
    obtain ⟨q, es, ep, hq, h2, h3, h4, _, h5⟩ := dd'
    refine d_write I (by rw [e]; exact True.intro) hs ⟨q, hq⟩ ⟨hl, hd, _, (rel.put k eb rv).keeps fun c ys ec => ?_, q, es, ep, hq, h2, h3, h4, h5⟩
    rw [upd_ne (ne_of ec e (fun z => nomatch z))]
    exact ec
end
section
variable {X : Cx} {pins : List (Addr × Obj)} {σ : St} {H : Hp} {s : Shared} {a : Addr} {kvs : List (Key × V)} {k : Key} {u : Value} {A : Around} {E : Value → Shared → Prop}
theorem d_pop {v : V} {more : List Value} {Q : Value → Shared → Prop} (I : Inv X pins σ H s) (e : H a = some (.dK kvs)) (ry : RelV (kV k) u) (l : valV kvs k = some v) (hm : more = [] ∨ ∃ x, more = [x])
    (h : ∀ w' s', Inv X pins σ (upd H a (.dK (dropK kvs k))) s' → RelV v w' → Q w' s') : wpAny (model X.prog X.w) A (call (.builtin "dict.pop") (.ref a :: u :: more)) Q E s := by
  obtain ⟨z, hd, vs, rel, dd⟩ := dk_of I.hok e
  obtain ⟨w', hw, rw'⟩ := RelO.some_of (v := v) (o := valueAt vs k) (by rw [← l]; exact rel.val k)
  have hp : (keyPart u).isSome = true := by
    cases k with
    | inl i => obtain ⟨t, q⟩ := (show ∃ t, u = Value.int i t from ry); subst q; rfl
    | inr x => obtain ⟨t, q⟩ := (show ∃ t, u = Value.str x t from ry); subst q; rfl
  have ha : argsOk "dict.pop" ⟨.ref a :: u :: more, []⟩ := by
    rcases hm with q | ⟨x, q⟩
    · subst q; exact PySem.F.args_dict_pop_2 _ _
    · subst q; exact PySem.F.args_dict_pop_3 _ _ _
  refine call_meetsIn PySem.F.slot_dict_pop dd.typeIs PySem.F.entry_dict_pop ha (meets_dict_pop_there (mixKind X.prog X.w) a (kV_is ry) more hm hp)
    ⟨vs, w', dd, by rw [← rel.length]; exact z, hw, fun h' dd' hs => h w' _ ?_ rw'⟩
  have he : ∃ q, h'.get? a = some q := let ⟨q, _, _, hq, _⟩ := dd'; ⟨q, hq⟩
  exact d_write I (by rw [e]; exact True.intro) hs he (dk_new (Nat.le_trans (dropK_le kvs k) z) hd (rel.drop k) dd')
theorem d_len {Q : Value → Shared → Prop} (I : Inv X pins σ H s) (e : Rd H a (.dK kvs)) (h : ∀ t s', Inv X pins σ H s' → Q (.int kvs.length t) s') : wpAny (model X.prog X.w) A (call (.builtin "len") [.ref a]) Q E s := by
  obtain ⟨z, hd, vs, rel, dd⟩ := dk_rd I.hok e
  refine call_len_dict hd dd (by rw [← rel.length]; rw [sizeLine_eq] at z; omega) ?_
  rw [← rel.length]
  exact h _ _ (I.tok _)
end
theorem dict_typeIs {X : Cx} {pins : List (Addr × Obj)} {σ : St} {H : Hp} {s : Shared} {a : Addr} {y : V} {o : Option V} (I : Inv X pins σ H s) (g : DGet H a y o) : s.TypeIs (.ref a) "dict" := by
  rcases g with ⟨kvs, k, e, _, _⟩ | ⟨kvs, k, b, e, _, _, _⟩
  · obtain ⟨_, _, vs, _, dd⟩ := dk_rd I.hok e
    exact dd.typeIs
  · obtain ⟨_, _, xs, _, dd⟩ := dt_rd I.hok e
    exact dd.typeIs
def sDPut (td ty tv : TE) : TS := fun D σ H => tv σ H fun v H1 => td σ H1 fun x H2 => ty σ H2 fun y H3 => ∃ a H4, x = .ref a ∧ DPut H3 a y v H4 ∧ D.nx σ H4
section
variable {X : Cx} {o i e value : Expr} {pos pos' tpos : Pos} {td ty tv : TE}
theorem ps_dput (hu : X.A.units + 1 < cLine) (ho : PE X o td) (hi : PE X i ty) (hv : PE X value tv) (hs : swapsWith value (some (.Subscript o i pos')) pos.line X.env = pure false) :
    PS X (.Assign [.Subscript o i pos'] value pos) (sDPut td ty tv) := by
  intro pins s σ H D I h
  refine wpAny_Assign_Subscript (thn (hv pins s σ H _ I h) fun r s1 ⟨v, H1, I1, rv, q1⟩ => thn (ho pins s1 σ H1 _ I1 q1) fun u s2 ⟨x, H2, I2, rx, q2⟩ => thn (hi pins s2 σ H2 _ I2 q2) fun iv s3 ⟨y, H3, I3, ry, a, H4, ex, g, q3⟩ => ?_) hs
  subst ex
  obtain rfl : u = Value.ref a := rx
  exact d_setItem hu I3 g ry rv fun s4 I4 => ⟨σ, H4, I4, q3⟩
end
theorem dk_empty {P : Program} {w : World} {H : Hp} (h : Heap) (hb : sysModules < h.objs.size) : ObjOk P w H (h.push { cls := .type "dict", data := .dict #[] }) h.objs.size (.dK []) :=
  ⟨Nat.zero_le _, beq_eq_false_iff_ne.mpr (Ne.symm (Nat.ne_of_lt hb)), [], .nil, Heap.DictOf.new h⟩
def tDNewK : TE := fun _ H Q => ∀ p, H p = none → Q (.ref p) (upd H p (.dK []))
section
variable {X : Cx} {pos : Pos}
theorem pe_dnewK : PE X (.Dict [] [] pos) tDNewK := fun pins s σ H Q I h =>
  wpAny_Dict_empty ⟨.ref s.heap.objs.size, _, I.laid (a := s.heap.objs.size) (o := .dK []) (t' := s.toks) (fun _ _ q => Heap.get?_push_of_some _ q) (Nat.le_refl _) (dk_empty s.heap I.big), rfl, h _ (I.hok.fresh (Nat.le_refl _))⟩
end
structure M1 (X : Cx) (o : Expr) (m : Str) (apos : Pos) (e : Expr) (cpos : Pos) : Prop where
  base : attributeBase o m X.env (eval o X.env) = eval o X.env
  few : ((backTo cpos (starEach [e] X.env)).all (fun x => !x.1) && (backToKw cpos (keywordEach [] X.env)).all (fun x => x.1.isSome)
    && decide (([e] : List Expr).length + ([] : List Keyword).length + (if ([] : List Keyword).isEmpty then 0 else 1) < 30)) = true
  line : (apos.endLine == cpos.line) = true
  trees : backTo cpos (starEach [e] X.env) = [(false, eval e X.env)]
structure M2 (X : Cx) (o : Expr) (m : Str) (apos : Pos) (e f : Expr) (cpos : Pos) : Prop where
  base : attributeBase o m X.env (eval o X.env) = eval o X.env
  few : ((backTo cpos (starEach [e, f] X.env)).all (fun x => !x.1) && (backToKw cpos (keywordEach [] X.env)).all (fun x => x.1.isSome)
    && decide (([e, f] : List Expr).length + ([] : List Keyword).length + (if ([] : List Keyword).isEmpty then 0 else 1) < 30)) = true
  line : (apos.endLine == cpos.line) = true
  trees : backTo cpos (starEach [e, f] X.env) = [(false, eval e X.env), (false, eval f X.env)]
section
variable {X : Cx} {pins : List (Addr × Obj)} {σ : St} {H : Hp} {s : Shared} {a : Addr} {y d : V} {u r : Value} {o : Option V} {A : Around} {E : Value → Shared → Prop}
theorem d_get1 {Q : Value → Shared → Prop} (hu : A.units + 1 < cLine) (I : Inv X pins σ H s) (g : DGet H a y o) (ry : RelV y u) (h : ∀ w' s', Inv X pins σ H s' → RelV (o.getD .non) w' → Q w' s') :
    wpAny (model X.prog X.w) A (call (.builtin "dict.get") [.ref a, u]) Q E s := by
  rcases g with ⟨kvs, k, e, ey, l⟩ | ⟨kvs, k, b, e, ey, eb, l⟩
  · subst ey
    obtain ⟨z, hd, vs, rel, dd⟩ := dk_rd I.hok e
    refine call_meetsIn PySem.F.slot_dict_get dd.typeIs PySem.F.entry_dict_get (PySem.F.args_dict_get_2 _ _) (meets_dict_get (mixKind X.prog X.w) a (kV_is ry) hd) ⟨_, dd.mapOf, h _ _ (I.tok _) ?_⟩
    rw [l]
    exact (rel.val k).getD rfl
  · subst ey
    cases (show u = Value.ref b from ry)
    obtain ⟨z, hd, xs, rel, dd⟩ := dt_rd I.hok e
    refine call_meetsIn PySem.F.slot_dict_get dd.typeIs PySem.F.entry_dict_get (PySem.F.args_dict_get_2 _ _) (meetsH_dict_get (tupleKind (mixKind X.prog X.w)) a b hd) ⟨tupleKind_room_in1 hu, k, xs, key_of I.hok eb, dd, h _ _ (I.tok _) ?_⟩
    rw [l]
    exact (rel.val k).getD rfl
theorem d_get2 {Q : Value → Shared → Prop} (hu : A.units + 1 < cLine) (I : Inv X pins σ H s) (g : DGet H a y o) (ry : RelV y u) (rd : RelV d r) (h : ∀ w' s', Inv X pins σ H s' → RelV (o.getD d) w' → Q w' s') :
    wpAny (model X.prog X.w) A (call (.builtin "dict.get") [.ref a, u, r]) Q E s := by
  rcases g with ⟨kvs, k, e, ey, l⟩ | ⟨kvs, k, b, e, ey, eb, l⟩
  · subst ey
    obtain ⟨z, hd, vs, rel, dd⟩ := dk_rd I.hok e
    refine call_meetsIn PySem.F.slot_dict_get dd.typeIs PySem.F.entry_dict_get (PySem.F.args_dict_get_3 _ _ _) (meets_dict_get_default (mixKind X.prog X.w) a (kV_is ry) hd r) ⟨_, dd.mapOf, h _ _ (I.tok _) ?_⟩
    rw [l]
    exact (rel.val k).getD rd
  · subst ey
    cases (show u = Value.ref b from ry)
    obtain ⟨z, hd, xs, rel, dd⟩ := dt_rd I.hok e
    refine call_meetsIn PySem.F.slot_dict_get dd.typeIs PySem.F.entry_dict_get (PySem.F.args_dict_get_3 _ _ _) (meetsH_dict_get_default (tupleKind (mixKind X.prog X.w)) a b hd r) ⟨tupleKind_room_in1 hu, k, xs, key_of I.hok eb, dd, h _ _ (I.tok _) ?_⟩
    rw [l]
    exact (rel.val k).getD rd
end
end L2
namespace Att
open PySem PySem.W PySem.Calls PyProof.Rows
theorem ints_of_wellAll {P : Params} {h : Heap} : ∀ (ns : List Int) (vs : List Value), WellAll P h vs (ns.map WData.int) → IntsAre vs ns := by
  intro ns
  induction ns with
  | nil =>
    intro vs w
    rw [List.map_nil] at w
    cases w
    exact .nil
  | cons n ns ih =>
    intro vs w
    rw [List.map_cons] at w
    cases w with
    | cons a b =>
      cases a
      exact .cons _ _ (ih _ b)
theorem script_of {l : OpenLaw} {n : Nat} (hn : l.most = some n) {P : Params} {h : Heap} {args : List WData} {vals : List Value}
    (hpre : l.row.toRowW.claim.pre args = true) (hwl : WellAll P h vals args) :
    ∃ a vs ns, vals = [Value.ref a] ∧ args = [WData.list (ns.map WData.int)] ∧ h.get? a = some { cls := .type "list", data := .seq vs.toArray } ∧ IntsAre vs ns ∧ ns.length ≤ n := by
  have hsh : WShape.hasAll [] args [.list .int] = true := (pre_splitW hpre).1
  have hc : l.pre.holds [] { args := args } = true := (pre_splitW hpre).2
  obtain ⟨d, r, rfl, h1, h2⟩ := hasAllW_cons hsh
  obtain rfl := hasAllW_nil h2
  obtain ⟨xs, rfl, h3⟩ := hasW_list h1
  obtain ⟨ns, rfl⟩ := items_int h3
  have hlen : ns.length ≤ n := by
    unfold OpenLaw.pre at hc
    have h4 : (WTm.not (.lt (.lit (.int (n : Int))) (.len (.arg 0)))).holds [] { args := [.list (ns.map .int)] } = true := by
      have h4 := (holds_andW hc).1
      rw [hn] at h4
      exact h4
    have h5 := condW_of h4 (w_not (w_lt w_lit (w_len_list (w_arg rfl))))
    rw [List.length_map] at h5
    refine Nat.le_of_not_lt fun q => ?_
    have q' : (n : Int) < ((ns.length : Nat) : Int) := by omega
    first
      | (rw [decide_eq_true q'] at h5; exact absurd h5 (by decide))
      | (simp at h5; omega)
  cases hwl with
  | cons w1 w2 =>
    cases w2
    cases w1 with
    | list ho hall => exact ⟨_, _, ns, rfl, rfl, ho, ints_of_wellAll ns _ hall, hlen⟩
theorem post_true (l : OpenLaw) (args : List WData) : l.row.toRowW.claim.post args (.bool true) args = true :=
  postW_of (r := l.row.toRowW) (X := (true == true))
    (show WShape.has [] (.bool true) .bool = true by first | rfl | decide | simp [WShape.has, WShape.arms, WShape.armsAll])
    (show (WTm.eq .res (.lit (.bool true))).value [] { args := args, res := some (.bool true), after := args } = some (.bool (true == true)) from w_eq_bool (w_res rfl) w_lit) rfl
theorem attach_call {l : OpenLaw} {n : Nat} {q : Program} {loose : List Str} {XP : (Str → Option Value) → Heap → Prop} {YP : World → Heap → Prop} {d : DefRec}
    (hn : l.most = some n) (hdf : d.params.defaults = [])
    (call : ∀ (w : World) (s₀ s₁ : Shared) (mg mb : Str → Option Value) (fa : Addr) (o : Obj) (pm cd doc : Value) (a : Addr) (vs : List Value) (ns : List Int),
      Ground q loose [] XP w s₀ mg mb s₁.heap → YP w s₁.heap →
      s₁.heap.get? fa = some o → o.data = .func (docDef d.name d.params d.body d.scope pm cd doc) → s₁.heap.CodeRec cd d.name → mg d.name = some (.ref fa) →
      s₁.heap.get? a = some { cls := .type "list", data := .seq vs.toArray } → IntsAre vs ns → ns.length ≤ n → s₁.gens = #[] →
      codeAny (model l.prog w) callerA (.call (.ref fa) ⟨[.ref a], []⟩) (fun r s' => r = .ok (.ret (.bool true)) ∧ OldK s₁.heap s'.heap ∧ s'.os = s₁.os ∧ AllBare s'.gens) s₁) :
    WalkO q loose XP YP l.row.toRowW d [] (fun f vs => PySem.call f vs) := by
  intro w s₀ s₁ mg mb G Y fa o pm cd doc dV kV ho hd hcd hD hmg hg args vals as hpre hlay hrd hwl hlo
  obtain rfl : dV = .none := Dflts.none hD hdf
  obtain rfl : kV = .none := Dflts.noKw hD
  obtain ⟨a, vs, ns, rfl, rfl, hobj, hints, hlen⟩ := script_of hn hpre hwl
  refine enter_call (codeAny_mono (call w s₀ s₁ mg mb fa o pm cd doc a vs ns G Y ho (fd_plain hd) hcd hmg hobj hints hlen hg) fun r s' hq => ?_)
  obtain ⟨rfl, h2, h3, h4⟩ := hq
  exact ⟨.inl ⟨.bool true, .bool true, [], rfl, fun _ => rfl, .bool true, post_true l _, fun _ => ⟨List.Pairwise.nil, fun _ hm => (nomatch hm)⟩⟩, h2, h3, h4⟩
end Att
namespace L2
open PySem PySem.Spec PyProof.Rows
theorem vals_ints : ∀ {vs : List Value} {ns : List Int}, IntsAre vs ns → Vals (ns.map V.int) vs
  | _, _, .nil => .nil
  | _, _, .cons n t h => .cons ⟨t, rfl⟩ (vals_ints h)
def Only (H : Hp) : Prop := ∀ b, H b = none ∨ ∃ o xs, H b = some (.frz o (.lst xs))
theorem law_call {P : Program} {w : World} {K : PySem.W.Frag} {mg mb : Str → Option Value} {CX : CXT} {k : Nat} {fa a : Addr} {fd : FuncData} {x : Str} {sp : Sp} {s₁ : Shared} {vs : List Value} {ns : List Int}
    (KX : K.In s₁.heap) (hns : s₁.heap.Ns mainGlobals mg) (hb : s₁.heap.Ns builtinsNs mb) (hbb : ∀ x : Str, x ≠ "__name__" → mb x = bootBuiltins x) (hlim : s₁.heap.NoLimit) (hg : s₁.gens = #[])
    (ha : s₁.heap.get? a = some { cls := .type "list", data := .seq vs.toArray }) (hi : IntsAre vs ns) (hl : ns.length ≤ sizeLine) (hr : Room k callerA)
    (F : ∀ base : Heap, K.In base → base.Ns mainGlobals mg → FnOk P w K mg base CX k fa fd [x] sp) (hT : fd.scope.names.lookup x = some .local) (hbind : ∀ (s : Shared) (u : Value), BindsTo s fd ⟨[u], []⟩ [(x, u)])
    (hsp : ∀ H : Hp, Only H → SqL K H a (ns.map V.int) → sp [.ref a] H (fun v _ => v = .bl true) fun _ _ _ => False)
    (hCX : ∀ H e s', CX [] H s₁ (fun _ _ _ => False) e s' → False) :
    codeAny (model P w) callerA (.call (.ref fa) ⟨[.ref a], []⟩) (fun r s' => r = .ok (.ret (.bool true)) ∧ OldK s₁.heap s'.heap ∧ s'.os = s₁.os ∧ AllBare s'.gens) s₁ := by
  have rv := vals_ints hi
  have lenV := hi.length
  have core : ∀ H : Hp, Only H → SqL K H a (ns.map V.int) → HOk P w H s₁.heap → (∀ b, H b ≠ none → b = a) → (H a ≠ none → K.lookup a = none) →
      codeAny (model P w) callerA (.call (.ref fa) ⟨[.ref a], []⟩) (fun r s' => r = .ok (.ret (.bool true)) ∧ OldK s₁.heap s'.heap ∧ s'.os = s₁.os ∧ AllBare s'.gens) s₁ := by
    intro H hO hS hok hA hK
    have base_of : ∀ {b : Addr} {o : Obj}, s₁.heap.get? b = some o → H b = none → (hidT s₁.heap H).get? b = some o := fun e n => hidT_get e n
    have noA : ∀ {b : Addr} {o : Obj} {es : Array DictEntry} {ep : Nat}, s₁.heap.get? b = some o → o.data = .dict es ep → H b = none := fun {b o es ep} e d => by
      cases q : H b with
      | none => rfl
      | some u =>
        have e' : b = a := hA b (by rw [q]; simp)
        subst e'
        rw [ha] at e; cases e
        have d' : Data.seq vs.toArray _ = Data.dict es ep := d
        cases d'
    have nsK : ∀ {b : Addr} {m : Str → Option Value}, s₁.heap.Ns b m → (hidT s₁.heap H).Ns b m := fun {b m} ⟨o, es, ep, e, d, r⟩ => ⟨o, es, ep, base_of e (noA e d), d, r⟩
    have hKb : K.In (hidT s₁.heap H) := fun b o e => base_of (KX b o e) (by
      cases q : H b with
      | none => rfl
      | some u =>
        have e' : b = a := hA b (by rw [q]; simp)
        subst e'
        rw [hK (by rw [q]; simp)] at e; cases e)
    have hM : Mod K mg (hidT s₁.heap H) := ⟨hKb, nsK hns, ⟨mb, nsK hb, hbb⟩, let ⟨mc, h1, h2⟩ := hlim; ⟨mc, nsK h1, h2⟩⟩
    have e0 : Env0 P w K mg (hidT s₁.heap H) callerA [] s₁ H := ⟨rfl, hM, fun b o e => of_hidT e, Nat.le_of_eq (hidT_size _ _), trivial, fun b hb => absurd (show b ∈ ([] : List Addr) from hb) (by simp), hok, .of_eq hg⟩
    refine codeAny_mono ((F _ hKb (nsK hns)).run callerA [] s₁ H ⟨[.ref a], []⟩ [.ref a] [.ref a] _ _ hr e0 (.inr ⟨x, List.mem_singleton.mpr rfl, hT⟩) (hbind s₁ (.ref a)) (.cons rfl .nil) (hsp H hO hS)) fun r s' h => ?_
    cases r with
    | error e => exact (hCX H e s' h).elim
    | ok fl =>
      cases fl with
      | next => exact False.elim h
      | brk => exact False.elim h
      | cont => exact False.elim h
      | ret u =>
        obtain ⟨v, H', os, bare, un, hok', r', q⟩ := h
        have q' : v = .bl true := q
        subst q'
        obtain rfl : u = Value.bool true := r'
        refine ⟨rfl, OldK.of_keep fun b o e => ?_, os, bare⟩
        cases q : H b with
        | none => exact un.keep b o e q (by intro z; exact absurd (show b ∈ ([] : List Addr) from z) (by simp)) (by simp)
        | some u =>
          rcases hO b with z | ⟨ob, xs, z⟩
          · rw [q] at z; cases z
          · have z2 := un.frzs b ob _ z
            obtain ⟨e1, _⟩ := hok b _ z
            obtain ⟨e2, _⟩ := hok' b _ z2
            rw [e] at e1; cases e1
            exact e2
  cases hk : K.lookup a with
  | some o =>
    have e := KX a o hk
    rw [ha] at e
    cases e
    refine core (fun _ => none) (fun _ => .inl rfl) (.inr ⟨_, vs.toArray, _, hk, rfl, rfl, rfl, by rw [List.size_toArray, lenV]; exact hl, by simpa using rv⟩) (fun b u z => by have z' : (none : Option HO) = some u := z; cases z') (fun b z => absurd rfl z) fun z => absurd rfl z
  | none =>
    refine core (fun b => if b = a then some (.frz { cls := .type "list", data := .seq vs.toArray } (.lst (ns.map V.int))) else none) (fun b => ?_) (.inl (.inr ⟨{ cls := .type "list", data := .seq vs.toArray }, if_pos rfl⟩)) (fun b u z => ?_) (fun b z => ?_) fun _ => hk
    · by_cases hb : b = a
      · exact .inr ⟨_, _, if_pos hb⟩
      · exact .inl (if_neg hb)
    · by_cases hb : b = a
      · have z' := (if_pos hb).symm.trans z
        cases z'
        subst hb
        exact ⟨ha, by rw [List.length_map]; exact hl, vs, _, rv, ha⟩
      · have z' := (if_neg hb).symm.trans z
        cases z'
    · by_cases hb : b = a
      · exact hb
      · exact absurd (if_neg hb) z
end L2
namespace L2
open PySem PySem.Spec PyProof.Rows
theorem walk_of {l : PySem.W.OpenLaw} {n k : Nat} {q : Program} {loose : List Str} {XP : (Str → Option Value) → Heap → Prop} {YP : World → Heap → Prop} {d : DefRec} {K : Params → PySem.W.Frag} {CX : World → CXT} {sp : World → Sp} {x : Str}
    (hn : l.most = some n) (hn2 : n ≤ sizeLine) (hdf : d.params.defaults = []) (hr : Room k callerA)
    (hY : ∀ (w : World) (h : Heap), YP w h → (K w.params).In h)
    (F : ∀ (w : World) (mg : Str → Option Value) (fa : Addr) (h : Heap), (K w.params).In h → h.Ns mainGlobals mg → mg d.name = some (.ref fa) →
      ∃ fd : FuncData, (∀ (s : Shared) (u : Value), BindsTo s fd ⟨[u], []⟩ [(x, u)]) ∧ fd.scope.names.lookup x = some .local ∧
        ∀ base : Heap, (K w.params).In base → base.Ns mainGlobals mg → FnOk l.prog w (K w.params) mg base (CX w) k fa fd [x] (sp w))
    (hsp : ∀ (w : World) (H : Hp) (a : Addr) (ns : List Int), ns.length ≤ n → Only H → SqL (K w.params) H a (ns.map V.int) → sp w [.ref a] H (fun v _ => v = .bl true) fun _ _ _ => False)
    (hCX : ∀ (w : World) (H : Hp) (s : Shared) (e : Value) (s' : Shared), CX w [] H s (fun _ _ _ => False) e s' → False) :
    PySem.W.WalkO q loose XP YP l.row.toRowW d [] (fun f vs => PySem.call f vs) := by
  refine Att.attach_call hn hdf fun w s₀ s₁ mg mb fa o pm cd doc a vs ns G Y ho hd hcd hmg hobj hints hlen hg => ?_
  have KX := hY w _ Y
  obtain ⟨fd, hb, hT, hF⟩ := F w mg fa _ KX G.T.g hmg
  exact law_call KX G.T.g G.T.b G.T.builtins G.T.nolimit hg hobj hints (Nat.le_trans hlen hn2) hr hF hT hb (fun H hO hS => hsp w H a ns hlen hO hS) fun H e s' => hCX w H s₁ e s'
end L2
namespace L2
open PySem PySem.Spec PyProof.Rows
def defArgs (s : Stmt) : Arguments := match s with
  | .FunctionDef _ a _ _ _ _ _ _ _ _ => a
  | _ => { posonlyargs := [], args := [], vararg := none, kwonlyargs := [], kw_defaults := [], kwarg := none, defaults := [] }
def defBody (s : Stmt) : List Stmt := match s with
  | .FunctionDef _ _ b _ _ _ _ _ _ _ => b
  | _ => []
def defScope (s : Stmt) : Scope := match s with
  | .FunctionDef _ _ _ _ _ _ sc _ _ _ => sc
  | _ => { kind := .function, names := [], isGenerator := false, isCoroutine := false }
abbrev CX0 : CXT := fun _ _ _ _ _ _ => False
abbrev E0 : XK := fun _ _ _ => False
theorem pass0 {X : Cx} : Passes CX0 X E0 := fun _ _ _ _ _ _ _ h => h.elim
structure Fun (K : PySem.W.Frag) (x qual : Str) (st : Stmt) (f : Addr) (fd : FuncData) : Prop where
  ex : ∃ (oc : Value) (od : Option Addr) (kV doc pm : Value) (an : Option Addr) (cdv ct : Value) (osl : Array (Option Value)),
    fd = PySem.W.fnOf x qual (defArgs st) (defBody st) (defScope st) .none kV doc pm an cdv ct ∧ K.lookup f = some ⟨oc, od, .func fd, osl⟩ ∧ PySem.W.codeIn K cdv qual = true
  kp : PySem.W.keepIn K (.ref f) = true
section
variable {P : Program} {w : World} {K : PySem.W.Frag} {mg : Str → Option Value} {base : Heap}
theorem Fun.ok {x qual : Str} {st : Stmt} {f : Addr} {fd : FuncData} {N ps : List Str} {k : Nat} {sp : Sp} (F : Fun K x qual st f fd) (S : FnScope N ps (defScope st)) (len : ∀ vs H Q E, sp vs H Q E → vs.length = ps.length)
    (hbody : ∀ (cdv : Value) (A : Around) (outer : List Env) (s : Shared) (H : Hp) (vs : List V) (Q : VK) (E : XK), Room k (A.deeper (envOfC qual (defScope st) s.heap.objs.size f cdv)) → sp vs H Q E →
      ∃ t, PSs (cxOf CX0 P w K mg base N qual (defScope st) f cdv A outer s H E).nox (defBody st) t ∧ t { nx := fun _ H' => Q .non H', rt := Q } (start N vs) H) : FnOk P w K mg base CX0 (k + 1) f fd ps sp := by
  obtain ⟨oc, od, kV, doc, pm, an, cdv, ct, osl, rfl, lk, hcd⟩ := F.ex
  refine fn_of lk hcd S len fun A outer s H vs Q E hr hsp => ?_
  obtain ⟨t, h, q⟩ := hbody cdv A outer s H vs Q E hr hsp
  exact ⟨t, h.nox, q⟩
theorem Fun.binds {x qual : Str} {st : Stmt} {f : Addr} {fd : FuncData} {ps : List Str} (F : Fun K x qual st f fd)
    (h : ∀ (kV doc pm : Value) (an : Option Addr) (cdv ct : Value) (us : List Value), us.length = ps.length → bindArgs (PySem.W.fnOf x qual (defArgs st) (defBody st) (defScope st) .none kV doc pm an cdv ct) ⟨us, []⟩ = pure (ps.zip us)) : Binds K fd ps [] := by
  obtain ⟨oc, od, kV, doc, pm, an, cdv, ct, osl, rfl, lk, hcd⟩ := F.ex
  exact .all (h kV doc pm an cdv ct)
theorem fun_mk {x qual : Str} {st : Stmt} {f : Addr} {oc : Value} {od an : Option Addr} {osl : Array (Option Value)} {kV doc pm cdv ct : Value} (l : K.lookup f = some ⟨oc, od, .func (PySem.W.fnOf x qual (defArgs st) (defBody st) (defScope st) .none kV doc pm an cdv ct), osl⟩)
    (c : PySem.W.codeIn K cdv qual = true) (k : PySem.W.keepIn K (.ref f) = true) : Fun K x qual st f (PySem.W.fnOf x qual (defArgs st) (defBody st) (defScope st) .none kV doc pm an cdv ct) := ⟨⟨oc, od, kV, doc, pm, an, cdv, ct, osl, rfl, l, c⟩, k⟩
end
theorem hu_of {A : Around} {k : Nat} (hr : Room k A) : A.units + 1 < cLine := Nat.lt_of_le_of_lt (Nat.add_le_add_left (by decide : 1 ≤ 64) _) hr.units
theorem iteF {A B : Prop} (h : B) : if false = true then A else B := by
  rw [if_neg Bool.false_ne_true]
  exact h
theorem iteT {A B : Prop} (h : A) : if true = true then A else B := by
  rw [if_pos rfl]
  exact h
end L2
namespace L2
open PySem PySem.Spec PyProof.Rows
section
variable {X : Cx}
theorem call_lenD : CallR X (.builtin "len") (fun xs H Q => ∃ a kvs, xs = [V.ref a] ∧ H a = some (.dK kvs) ∧ Q (.int kvs.length) H) := by
  intro pins s σ H xs us Q I r h
  obtain ⟨a, kvs, rfl, ha, q⟩ := h
  obtain ⟨u, rfl, ru⟩ := vals1 r
  cases ru
  exact d_len I (.inl ha) fun t s' I' => ⟨.int kvs.length, H, I', ⟨t, rfl⟩, q⟩
end
end L2
set_option maxHeartbeats 4000000
namespace L2
open PySem PySem.Spec PyProof.Rows
abbrev compCx (X : Cx) (vars : List Str) (scope : Scope) (cl : List (Str × Addr)) (C : Addr) (fp : List Addr) (s₂ : Shared) (H₂ : Hp) : Cx where
  prog := X.prog
  w := X.w
  K := X.K
  mg := X.mg
  base := X.base
  A := X.A
  N := X.N ++ vars
  s₀ := s₂
  H₀ := H₂
  env := compEnvC scope cl C X.env
  outer := X.stack
  stack := X.stack
  ex := fp
  fn := fun _ => false
  calm := X.calm
  pn := []
  xe := fun _ _ => False
def CellsIn (cells : List (Str × Addr)) : List (Str × Addr) → Prop
  | [] => True
  | p :: r => cells.lookup p.1 = some p.2 ∧ CellsIn cells r
theorem CellsIn.get {cells : List (Str × Addr)} : ∀ {cl : List (Str × Addr)} {x : Str} {c : Addr}, CellsIn cells cl → cl.lookup x = some c → cells.lookup x = some c
  | [], _, _, _, e => by simp at e
  | (y, d) :: r, x, c, h, e => by
    cases hx : x == y with
    | true =>
      simp only [List.lookup_cons, hx] at e
      have e1 : x = y := eq_of_beq hx
      subst e1
      rw [← e]
      exact h.1
    | false =>
      simp only [List.lookup_cons, hx] at e
      exact CellsIn.get h.2 e
def okK (on : List (Str × NameKind)) (vars : List Str) (cl : List (Str × Addr)) (x : Str) : NameKind → Bool
  | .local => x == (".0" : Str) || vars.contains x
  | .cell => false
  | .free => (cl.lookup x).isSome && (on.lookup x == some .cell || on.lookup x == some .free)
  | _ => true
structure CompScope (X : Cx) (vars : List Str) (scope : Scope) (cl : List (Str × Addr)) : Prop where
  kind : scope.kind = .function
  clos : closureFor scope X.env = pure cl
  dis : (vars.all fun x => !X.N.contains x) = true
  zero : X.N.contains (".0" : Str) = false
  names : ∀ y ∈ scope.names, y.2 = .local → scope.names.lookup y.1 = some .local
  cells : CellsIn X.env.cells cl
  ok : (scope.names.all fun p => okK X.env.scope.names vars cl p.1 p.2) = true
theorem lookup_relabel {env : Env} {x : Str} : ∀ {names : List (Str × NameKind)},
    (names.map fun (n, k) => if (k == NameKind.free && env.scope.kind == .function && env.kindOf n == some .cell) then (n, NameKind.cell) else (n, k)).lookup x =
      (names.lookup x).map fun k => if (k == NameKind.free && env.scope.kind == .function && env.kindOf x == some .cell) then NameKind.cell else k
  | [] => rfl
  | (n, k) :: r => by
    have ih := @lookup_relabel env x r
    show List.lookup x ((if (k == NameKind.free && env.scope.kind == .function && env.kindOf n == some .cell) = true then (n, NameKind.cell) else (n, k)) :: _) = _
    cases hx : x == n with
    | true =>
      have e : x = n := eq_of_beq hx
      subst e
      by_cases hc : (k == NameKind.free && env.scope.kind == .function && env.kindOf x == some .cell) = true
      · rw [if_pos hc]; simp only [List.lookup_cons, hx, Option.map_some, if_pos hc]
      · rw [if_neg hc]; simp only [List.lookup_cons, hx, Option.map_some, if_neg hc]
    | false =>
      by_cases hc : (k == NameKind.free && env.scope.kind == .function && env.kindOf n == some .cell) = true
      · rw [if_pos hc]; simp only [List.lookup_cons, hx]; exact ih
      · rw [if_neg hc]; simp only [List.lookup_cons, hx]; exact ih
section
variable {X : Cx} {vars : List Str} {scope : Scope} {cl : List (Str × Addr)} {C D : Addr} {fp : List Addr} {s₂ : Shared} {H : Hp} {pins : List (Addr × Obj)} {σ : St}
theorem CompScope.okAt (S : CompScope X vars scope cl) {x : Str} {k : NameKind} (h : scope.names.lookup x = some k) : okK X.env.scope.names vars cl x k = true := by
  have := List.all_eq_true.mp S.ok (x, k) (PySem.mem_of_lookup h)
  exact this
theorem CompScope.noCell (S : CompScope X vars scope cl) : ∀ y ∈ scope.names, y.2 ≠ .cell := fun y hy e => by
  have h := List.all_eq_true.mp S.ok y hy
  rw [e] at h
  exact absurd (show false = true from h) Bool.false_ne_true
theorem CompScope.freeOf (S : CompScope X vars scope cl) {x : Str} (h : (compEnvC scope cl C X.env).kindOf x = some .cell ∨ (compEnvC scope cl C X.env).kindOf x = some .free) : scope.names.lookup x = some .free := by
  have e : (compEnvC scope cl C X.env).kindOf x = (scope.names.lookup x).map fun k => if (k == NameKind.free && X.env.scope.kind == .function && X.env.kindOf x == some .cell) then NameKind.cell else k := lookup_relabel
  rw [e] at h
  cases q : scope.names.lookup x with
  | none => rw [q] at h; simp at h
  | some k =>
    rw [q] at h
    by_cases hk : k = .free
    · rw [hk]
    · have hb : (k == NameKind.free) = false := by simpa using hk
      simp only [Option.map_some, hb, Bool.false_and, Bool.false_eq_true, if_false, Option.some.injEq] at h
      rcases h with h | h
      · subst h
        exact absurd rfl (S.noCell (x, .cell) (PySem.mem_of_lookup q))
      · exact absurd h hk
theorem CompScope.localOf (S : CompScope X vars scope cl) {x : Str} (h : (compEnvC scope cl C X.env).kindOf x = some .local) : scope.names.lookup x = some .local := by
  have e : (compEnvC scope cl C X.env).kindOf x = (scope.names.lookup x).map fun k => if (k == NameKind.free && X.env.scope.kind == .function && X.env.kindOf x == some .cell) then NameKind.cell else k := lookup_relabel
  rw [e] at h
  cases q : scope.names.lookup x with
  | none => rw [q] at h; simp at h
  | some k =>
    rw [q] at h
    simp only [Option.map_some, Option.some.injEq] at h
    split at h
    · cases h
    · rw [h]
theorem comp_start (I : Inv X pins σ H s₂) (S : CompScope X vars scope cl) (hf : ∀ b ∈ fp, FpOk X pins H b) (hob : ∀ b ∈ fp, ∃ o, s₂.heap.get? b = some o)
    {h₁ : Heap} {tk : Nat} (hD : s₂.heap.objs.size ≤ D) (hC : s₂.heap.objs.size ≤ C) (hDC : D ≠ C) {oD : Obj} (eD : h₁.get? D = some oD) (cD : ∀ v, oD.data ≠ .cell v) {m : Str → Option Value} (hn : h₁.Ns C m)
    (old : ∀ b o, s₂.heap.get? b = some o → h₁.get? b = some o) (ht : 0 < tk := by first | exact Nat.succ_pos _ | assumption | exact Inv.tk (by assumption) | omega) :
    Inv (compCx X vars scope cl C fp s₂ H) [(D, oD)] (σ ++ List.replicate vars.length none) H { s₂ with heap := h₁, toks := tk } := by
  have fpst : ∀ b ∈ fp, b ∉ frs X.stack := fun b hb z => by
    rcases List.mem_cons.mp (I.stkSub b z) with e | e
    · exact (hf b hb).2.1 e
    · exact (hf b hb).2.2.1 e
  have cget : ∀ x c, cl.lookup x = some c → X.env.cells.lookup x = some c := fun x c e => S.cells.get e
  have fpl : ∀ b ∈ fp, b < s₂.heap.objs.size := fun b hb => by
    obtain ⟨o, e⟩ := hob b hb
    exact Heap.lt_size e
  have ok : (compCx X vars scope cl C fp s₂ H).Ok := by
    refine ⟨I.ok.mod, S.kind, I.ok.glob, I.ok.blt, hC, fun x y c h1 h2 => I.ok.inj x y c (cget x c h1) (cget y c h2), fun x hx => ?_, fun x c h _ => absurd (show false = true from h) Bool.false_ne_true, I.ok.hd, I.ok.frames, .inl rfl,
      fun b hb => ⟨Nat.ne_of_lt (Nat.lt_of_lt_of_le (fpl b hb) hC), fun x c e z => (hf b hb).2.2.2.2.1 x c (cget x c e) z⟩, I.bs, Nat.le_trans I.ok.bsz I.sz, fun b o e hb => ?_, fpst, I.stack, I.stkFree⟩
    · have q := S.okAt (S.freeOf (C := C) hx)
      have q1 : ((cl.lookup x).isSome && (X.env.scope.names.lookup x == some .cell || X.env.scope.names.lookup x == some .free)) = true := q
      rw [Bool.and_eq_true] at q1
      exact Option.isSome_iff_exists.mp q1.1
    · rcases (hf b hb).2.2.2.1 with z | z
      · exact I.ok.noex b o e z
      · exact absurd (Nat.lt_of_lt_of_le (Heap.lt_size e) (Nat.le_trans I.ok.bsz z)) (Nat.lt_irrefl _)
  have nst : D ∉ frs X.stack := fun z => by
    rcases List.mem_cons.mp (I.stkSub D z) with e | e
    · exact absurd (Nat.lt_of_lt_of_le (e ▸ I.lt) hD) (Nat.lt_irrefl _)
    · exact I.nofs hD e
  refine ⟨ok, rfl, I.bare, Un.kept old, ⟨m, hn, fun i x v h1 h2 h3 => ?_⟩, fun x c e => ?_, I.hok.fresh hC, fun x c e => I.freeC x c (cget x c e), fun p hp => ?_, I.hok.kept old, ?_, ht⟩
  · have hlen := I.len
    have h1' : (X.N ++ vars)[i]? = some x := h1
    by_cases hi : i < σ.length
    · rw [List.getElem?_append_left (by omega)] at h1'
      rw [List.getElem?_append_left hi] at h2
      have inN : X.N.contains x = true := by
        rw [List.contains_iff_exists_mem_beq]
        exact ⟨x, List.mem_of_getElem? h1', by simp⟩
      have hk : (compEnvC scope cl C X.env).kindOf x = some .cell ∨ (compEnvC scope cl C X.env).kindOf x = some .free := by
        rcases h3 with h3 | h3
        · have q := S.okAt (S.localOf (C := C) h3)
          have q1 : (x == (".0" : Str) || vars.contains x) = true := q
          rw [Bool.or_eq_true] at q1
          rcases q1 with q1 | q1
          · have e0 : x = (".0" : Str) := eq_of_beq q1
            rw [e0, S.zero] at inN
            cases inN
          · have q2 := List.all_eq_true.mp S.dis x (by simpa using q1)
            rw [inN] at q2
            cases q2
        · exact h3
      have q := S.okAt (S.freeOf (C := C) hk)
      have q1 : ((cl.lookup x).isSome && (X.env.scope.names.lookup x == some .cell || X.env.scope.names.lookup x == some .free)) = true := q
      rw [Bool.and_eq_true, Bool.or_eq_true] at q1
      obtain ⟨c, hc⟩ := Option.isSome_iff_exists.mp q1.1
      have ho : X.env.scope.names.lookup x = some .cell ∨ X.env.scope.names.lookup x = some .free := by
        rcases q1.2 with z | z
        · exact .inl (eq_of_beq z)
        · exact .inr (eq_of_beq z)
      obtain ⟨m0, _, hl⟩ := I.loc
      obtain ⟨u, r, l⟩ := hl i x v h1' h2 (.inr ho)
      refine ⟨u, r, .inr ⟨hk, c, hc, ?_⟩⟩
      rcases l with ⟨l1, _⟩ | ⟨_, c', e', o, eo, ed⟩
      · have l2 : X.env.scope.names.lookup x = some .local := l1
        rcases ho with z | z
        · rw [l2] at z; cases z
        · rw [l2] at z; cases z
      · rw [cget x c hc] at e'
        cases e'
        exact ⟨o, old _ _ eo, ed⟩
    · rw [List.getElem?_append_right (by omega), List.getElem?_replicate] at h2
      split at h2 <;> cases h2
  · obtain ⟨v, o, eo, ed⟩ := I.cell x c (cget x c e)
    exact ⟨v, o, old _ _ eo, ed⟩
  · have e : p = (D, oD) := by simpa using hp
    subst e
    exact ⟨eD, I.hok.fresh hD, hDC, nst, cD⟩
  · show (σ ++ List.replicate vars.length none).length = (X.N ++ vars).length
    rw [List.length_append, List.length_append, List.length_replicate, I.len]
end
def PIfs (X : Cx) (ifs : List Expr) (t : TT) : Prop :=
  ∀ (pins : List (Addr × Obj)) (s : Shared) (σ : St) (H : Hp) (Q : Bool → Hp → Prop), Inv X pins σ H s → t σ H Q →
    wpAny (model X.prog X.w) X.A (forIn ifs true fun c r => if r = true then do let ok ← isTrue c X.env (eval c X.env); pure (ForInStep.yield ok) else pure (ForInStep.yield r)) (TP X pins σ Q) X.xe s
def tYes : TT := fun _ H Q => Q true H
theorem pifs_nil {X : Cx} : PIfs X [] tYes := fun _ _ _ H _ I h => wpAny_tests_nil ⟨H, I, h⟩
def Wk (σ σ' : St) : Prop := σ.length = σ'.length ∧ ∀ (i : Nat) v, σ[i]? = some (some v) → σ'[i]? = some (some v)
def tComp (n : Nat) (wi : TI) (g : TG) (ti : TT) (te : TE) : TE := fun σ H Q => wi σ H fun J H1 => ∃ W : Nat → Nat → List V → Hp → Prop, (∃ m, W 0 m [] H1) ∧ ∀ i m ys H2, W i m ys H2 → ys.length ≤ sizeLine ∧
  ((J.stop i H2 ∧ ∀ D, H2 D = none → Q (.ref D) (upd H2 D (.lst ys))) ∨
   (J.go i H2 ∧ ∀ x H3, J.yld i H2 x H3 → g x (σ ++ List.replicate n none) H3 fun σ2 H4 => Wk (σ ++ List.replicate n none) σ2 ∧ ti σ2 H4 fun b H5 =>
      if b = true then te σ2 H5 fun y H6 => ∃ m', m' < m ∧ W (i + 1) m' (ys ++ [y]) H6 else ∃ m', m' < m ∧ W (i + 1) m' ys H5))
theorem Inv.track {X : Cx} {pins : List (Addr × Obj)} {σ : St} {H : Hp} {s : Shared} {D : Addr} {o : HO} (I : Inv X pins σ H s) (hD : X.s₀.heap.objs.size ≤ D) (hn : H D = none) (hL : D ≠ X.env.locals)
    (hcl : ∀ x c, X.env.cells.lookup x = some c → c ≠ D) (hp : ∀ p ∈ X.pn ++ pins, p.1 ≠ D) (new : ObjOk X.prog X.w (upd H D o) s.heap D o) : Inv X pins σ (upd H D o) s := by
  have ne : ∀ {b u}, H b = some u → b ≠ D := fun e z => by rw [z, hn] at e; cases e
  refine ⟨I.ok, I.os, I.bare, ⟨I.base.keep, I.base.slot, fun b ob e n hx => ?_, I.base.there, fun b xs e => ?_, fun b ob u e => ?_, fun b ps e => ?_⟩, I.loc, I.cell, ?_, fun x c e => ?_, fun p hp' => ?_, fun b u e => ?_, I.len, I.tk⟩
  · rw [upd_ne (Nat.ne_of_lt (Nat.lt_of_lt_of_le (Heap.lt_size e) hD))]
    exact I.base.free b ob e n hx
  · have q := I.base.tups b xs e
    rw [upd_ne (ne q)]; exact q
  · have q := I.base.frzs b ob u e
    rw [upd_ne (ne q)]; exact q
  · obtain ⟨mo, q⟩ := I.base.tbls b ps e
    exact ⟨mo, by rw [upd_ne (ne q)]; exact q⟩
  · rw [upd_ne (Ne.symm hL)]; exact I.free
  · rw [upd_ne (hcl x c e)]; exact I.freeC x c e
  · obtain ⟨e1, e2, e3, e4, e5⟩ := I.pin p hp'
    exact ⟨e1, by rw [upd_ne (hp p hp')]; exact e2, e3, e4, e5⟩
  · by_cases hb : b = D
    · subst hb; rw [upd_same] at e; cases e; exact new
    · rw [upd_ne hb] at e
      exact (I.hok b u e).stay (fun _ _ _ q => q) (fun c q => by rw [upd_ne (ne q)]; exact q) fun c xs q => by rw [upd_ne (ne q)]; exact q
abbrev lobj (us : List Value) (n : Nat) : Obj := { cls := .type "list", data := .seq us.toArray n }
section
variable {X : Cx} {vars : List Str} {scope : Scope} {cl : List (Str × Addr)} {C D it : Addr} {fp : List Addr} {s₂ : Shared} {H₂ : Hp} {tg elt iter : Expr} {ifs : List Expr} {pos : Pos} {J : It} {tn : Nat → Heap → Prop}
  {g : TG} {ti : TT} {te : TE} {R : Result → Shared → Prop}
theorem comp_loop (hc : X.calm = true) (T : Turn X.prog X.w X.K tg J fp it tn) (hg : PG (compCx X vars scope cl C fp s₂ H₂) tg g) (hi : PIfs (compCx X vars scope cl C fp s₂ H₂) ifs ti) (he : PE (compCx X vars scope cl C fp s₂ H₂) elt te)
    {σ0 : St} (W : Nat → Nat → List V → Hp → Prop) {F : List V → Hp → Prop} (hD0 : s₂.heap.objs.size ≤ D) (hDC : D ≠ C) (hDs : D ∉ frs X.stack) (hDc : ∀ x c, cl.lookup x = some c → c ≠ D)
    (hS : ∀ b ∈ fp, b ≠ C ∧ b ∉ frs X.stack ∧ (∀ x c, cl.lookup x = some c → c ≠ b) ∧ D ≠ b)
    (turn : ∀ i m ys H2, W i m ys H2 → ys.length ≤ sizeLine ∧ ((J.stop i H2 ∧ F ys H2) ∨
      (J.go i H2 ∧ ∀ x H3, J.yld i H2 x H3 → g x σ0 H3 fun σ2 H4 => Wk σ0 σ2 ∧ ti σ2 H4 fun b H5 =>
        if b = true then te σ2 H5 fun y H6 => ∃ m', m' < m ∧ W (i + 1) m' (ys ++ [y]) H6 else ∃ m', m' < m ∧ W (i + 1) m' ys H5)))
    (hR : ∀ s' ys us n H2, Inv (compCx X vars scope cl C fp s₂ H₂) [(D, lobj us n)] σ0 H2 s' → Vals ys us → ys.length ≤ sizeLine → F ys H2 → R (.ok .next) s')
    {s : Shared} {m0 : Nat} {n0 : Nat} {H0 : Hp} (I0 : Inv (compCx X vars scope cl C fp s₂ H₂) [(D, lobj [] n0)] σ0 H0 s) (st0 : tn 0 s.heap) (f0 : ∀ b ∈ fp, H0 b = none) (w0 : W 0 m0 [] H0) :
    codeAny (model X.prog X.w) X.A (.compLoop (.ListComp elt [⟨tg, iter, ifs, 0⟩] scope pos) 0 (.ref it) (.ref D) (compEnvC scope cl C X.env)) R s := by
  have stat : ∀ {H' : Hp} {o : Obj}, (∀ b ∈ fp, H' b = none) → ∀ b ∈ fp, FpOk (compCx X vars scope cl C fp s₂ H₂) [(D, o)] H' b := fun {H' o} hn b hb =>
    ⟨hn b hb, (hS b hb).1, (hS b hb).2.1, .inl hb, (hS b hb).2.2.1, fun p hp => by
      have e : p = (D, o) := by simpa using hp
      subst e
      exact (hS b hb).2.2.2⟩
  refine codeAny_loop rfl (fun n s => ∃ i ys us nn H', Inv (compCx X vars scope cl C fp s₂ H₂) [(D, lobj us nn)] σ0 H' s ∧ Vals ys us ∧ tn i s.heap ∧ (∀ b ∈ fp, H' b = none) ∧ W i n ys H') (fun n s hI => ?_) m0 ⟨0, [], [], n0, H0, I0, .nil, st0, f0, w0⟩
  show wpAny _ X.A ((compTurn (.ListComp elt [⟨tg, iter, ifs, 0⟩] scope pos) 0 (.ref it) (.ref D) (compEnvC scope cl C X.env)).onRaise (fun x => do noteFrame x (compEnvC scope cl C X.env); theTreesLotGoes x)) _ _ s
  refine wpAny_noted ?_
  rw [compTurn_list]
  obtain ⟨i, ys, us, nn, H', I, rv, st, fr, w⟩ := hI
  obtain ⟨hz, tt⟩ := turn i n ys H' w
  refine wpAny_bind (wpAny_standAt (wpAny_bind ?_))
  rcases tt with ⟨stop, q⟩ | ⟨go, q⟩
  · refine wpAny_mono (T.done (compCx X vars scope cl C fp s₂ H₂) rfl rfl rfl hc i _ s σ0 H' _ I (stat fr) st stop) (fun r s1 ⟨hr, I1⟩ => ?_) (fun _ _ e => e)
    subst hr
    exact wpAny_pure (hR s1 ys us nn H' I1 rv hz q)
  · refine wpAny_mono (T.item (compCx X vars scope cl C fp s₂ H₂) rfl rfl rfl hc i _ s σ0 H' _ I (stat fr) st go) (fun r s1 ⟨u, hr, h1⟩ => ?_) (fun _ _ e => e)
    subst hr
    refine wpAny_bind (wpAny_mono h1 (fun _ s2 ⟨x, H3, I3, r3, y3, st3, fr3⟩ => ?_) (fun _ _ e => e))
    have I3' := I3.pinned (stat fr3) (T.obj _ _ st3)
    refine wpAny_bind (wpAny_mono (hg _ s2 σ0 H3 x u _ I3' r3 (q x H3 y3)) (fun _ s3 ⟨σ4, H4, I4, wk, q4⟩ => ?_) (fun _ _ f => False.elim f))
    refine wpAny_bind (wpAny_mono (hi _ s3 σ4 H4 _ I4 q4) (fun b s4 ⟨H5, I5, q5⟩ => ?_) (fun _ _ f => False.elim f))
    have back : ∀ {s7 : Shared} {H7 : Hp} {o : Obj}, Inv (compCx X vars scope cl C fp s₂ H₂) ((D, o) :: pinsAt fp s2.heap) σ4 H7 s7 → tn (i + 1) s7.heap ∧ ∀ b ∈ fp, H7 b = none := fun {s7 H7 o} I7 => by
      refine ⟨T.keep _ _ _ st3 fun b hb ob e => (I7.pin (b, ob) (List.mem_append_right _ (List.mem_cons_of_mem _ (mem_pinsAt hb e)))).1, fun b hb => ?_⟩
      obtain ⟨ob, e, d⟩ := T.obj _ _ st3 b hb
      exact (I7.pin (b, ob) (List.mem_append_right _ (List.mem_cons_of_mem _ (mem_pinsAt hb e)))).2.1
    have one : ∀ {s7 : Shared} {H7 : Hp} {o : Obj}, Inv (compCx X vars scope cl C fp s₂ H₂) ((D, o) :: pinsAt fp s2.heap) σ4 H7 s7 → Inv (compCx X vars scope cl C fp s₂ H₂) [(D, o)] σ0 H7 s7 := fun {s7 H7 o} I7 =>
      (I7.pins_of (pins' := [(D, o)]) fun p hp => by
        have e : p = (D, o) := by simpa using hp
        subst e
        exact I7.pin (D, o) (List.mem_append_right _ List.mem_cons_self)).weak wk.1 wk.2
    cases b with
    | false =>
      obtain ⟨m', hm, w'⟩ := q5
      obtain ⟨b1, b2⟩ := back I5
      exact wpAny_pure ⟨rfl, m', hm, i + 1, ys, us, nn, H5, one I5, rv, b1, b2, w'⟩
    | true =>
      refine wpAny_bind (wpAny_bind (wpAny_mono (he _ s4 σ4 H5 _ I5 q5) (fun v s5 ⟨y, H6, I6, r6, q6⟩ => ?_) (fun _ _ f => False.elim f)))
      obtain ⟨m', hm, w'⟩ := q6
      obtain ⟨eD, nD, _, _, _⟩ := I6.pin (D, lobj us nn) (List.mem_append_right _ List.mem_cons_self)
      have hul : us.toArray.size ≤ sizeLine := by rw [List.size_toArray, ← rv.length]; exact hz
      refine wpAny_bind (wpAny_list_append_plain (hsz := hul) ⟨nn, eD⟩ fun h' hp hs => wpAny_pure (wpAny_pure ⟨rfl, ?_⟩))
      obtain ⟨n', hp⟩ := hp
      have hp' : h'.get? D = some (lobj (us ++ [v]) n') := by rw [hp]; simp
      have I7 : Inv (compCx X vars scope cl C fp s₂ H₂) (pinsAt fp s2.heap) σ4 H6 { s5 with heap := h', toks := s5.toks } := by
        refine Inv.turned (it := D) (I6.pins_of (pins' := pinsAt fp s2.heap) fun p hp => I6.pin p (List.mem_append_right _ (List.mem_cons_of_mem _ hp))) (fun b o hb e => (hs.2 b hb).trans e) nD hDC (.inr hD0) (fun x c e => hDc x c e) fun p hp => ?_
        have hp2 : p ∈ pinsAt fp s2.heap := by simpa using hp
        exact Ne.symm (hS p.1 (of_pinsAt hp2).1).2.2.2
      have I8 : Inv (compCx X vars scope cl C fp s₂ H₂) ((D, lobj (us ++ [v]) n') :: pinsAt fp s2.heap) σ4 H6 { s5 with heap := h', toks := s5.toks } := I7.pins_of fun p hp => by
        rcases List.mem_cons.mp hp with rfl | hp
        · exact ⟨hp', nD, hDC, hDs, fun v z => by cases z⟩
        · exact I7.pin p (List.mem_append_right _ hp)
      obtain ⟨b1, b2⟩ := back I8
      exact ⟨m', hm, i + 1, ys ++ [y], us ++ [v], n', H6, one I8, rv.append (.cons r6 .nil), b1, b2, w'⟩
end
section
variable {X : Cx} {vars : List Str} {scope : Scope} {cl : List (Str × Addr)} {tg elt iter : Expr} {ifs : List Expr} {pos : Pos} {wi : TI} {g : TG} {ti : TT} {te : TE}
theorem comp_block (hc : X.calm = true) (S : CompScope X vars scope cl) (hg : ∀ C fp s₂ H₂, PG (compCx X vars scope cl C fp s₂ H₂) tg g) (ht : ∀ C fp s₂ H₂, PIfs (compCx X vars scope cl C fp s₂ H₂) ifs ti)
    (he : ∀ C fp s₂ H₂, PE (compCx X vars scope cl C fp s₂ H₂) elt te) {pins : List (Addr × Obj)} {σ : St} {s2 : Shared} {E : Value → Shared → Prop} {F : Addr → Hp → Prop} {RR : Value → Addr → Result → Shared → Prop} {itv : Value}
    (h2 : PIE X pins σ tg (fun J H1 => ∃ W : Nat → Nat → List V → Hp → Prop, (∃ m, W 0 m [] H1) ∧ ∀ i m ys H2, W i m ys H2 → ys.length ≤ sizeLine ∧
      ((J.stop i H2 ∧ ∀ D, H2 D = none → F D (upd H2 D (.lst ys))) ∨
       (J.go i H2 ∧ ∀ x H3, J.yld i H2 x H3 → g x (σ ++ List.replicate vars.length none) H3 fun σ2 H4 => Wk (σ ++ List.replicate vars.length none) σ2 ∧ ti σ2 H4 fun b H5 =>
          if b = true then te σ2 H5 fun y H6 => ∃ m', m' < m ∧ W (i + 1) m' (ys ++ [y]) H6 else ∃ m', m' < m ∧ W (i + 1) m' ys H5))) itv s2)
    (hRR : ∀ D C s' H', (∃ m, s'.heap.Ns C m) → C ≠ X.env.locals → (∀ x c, X.env.cells.lookup x = some c → c ≠ C) → Inv X pins σ H' s' → (∀ (h' : Heap), Heap.SameBut C s'.heap h' → ∀ (s'' : Shared), s'' = { s' with heap := h' } → Inv X pins σ H' s'') →
      (∀ (σ' : St) (s3 : Shared), Inv X pins σ' H' s3 → (∃ a, Heap.SameBut a s'.heap s3.heap ∧ (a = X.env.locals ∨ ∃ x, X.env.cells.lookup x = some a)) → ∀ (h' : Heap), Heap.SameBut C s3.heap h' → Inv X pins σ' H' { s3 with heap := h' }) →
      F D H' → RR (.ref D) C (.ok .next) s') :
    wpAny (model X.prog X.w) X.A (newList []) (fun acc s₃ => wpAny (model X.prog X.w) X.A (newFunctionEnv scope X.env.globals cl [] X.env.qual none .none (some X.env)) (fun cenv s₄ =>
      codeAny (model X.prog X.w) X.A (.compStart (.ListComp elt [⟨tg, iter, ifs, 0⟩] scope pos) 0 itv acc { cenv with scope := relabel scope X.env }) (RR acc cenv.locals) s₄) E s₃) E s2 := by
  obtain ⟨it, fp, tn, J, H2, e, I2, T, st2, f2, W, ⟨m0, w0⟩, turn⟩ := h2
  subst e
  refine wpAny_newObj_type (wpAny_newFunctionEnv S.noCell (by intro y hy; simp at hy) (fun h₁ hns₁ hsb₁ => ?_) S.kind)
  dsimp only at hns₁ hsb₁ ⊢
  generalize hH2 : s2.heap.push { cls := .type "list", dict := none, data := .seq ([] : List Value).toArray } = P2 at hns₁ hsb₁ ⊢
  have hC : P2.objs.size = s2.heap.objs.size + 1 := by rw [← hH2, Heap.size_push]
  have hDC : s2.heap.objs.size ≠ P2.objs.size := by rw [hC]; exact Nat.ne_of_lt (Nat.lt_succ_self _)
  have hCle : s2.heap.objs.size ≤ P2.objs.size := by rw [hC]; exact Nat.le_succ _
  have below : ∀ b, b < s2.heap.objs.size → b ≠ P2.objs.size ∧ b ≠ s2.heap.objs.size := fun b hb => ⟨by rw [hC]; exact Nat.ne_of_lt (Nat.lt_succ_of_lt hb), Nat.ne_of_lt hb⟩
  have old : ∀ b o, s2.heap.get? b = some o → h₁.get? b = some o := fun b o e => hsb₁.extBut b o (below b (Heap.lt_size e)).1 (Heap.get?_push_of_some _ (hH2 ▸ Heap.get?_push_of_some _ e))
  have hacc : h₁.get? s2.heap.objs.size = some (lobj [] 0) := hsb₁.extBut _ _ hDC (Heap.get?_push_of_some _ (hH2 ▸ Heap.get?_push_size _ rfl))
  have hst₁ : tn 0 h₁ := T.keep _ _ _ st2 fun b _ o e => old b o e
  have hob : ∀ b ∈ fp, ∃ o, s2.heap.get? b = some o := fun b hb => by
    obtain ⟨o, e, _⟩ := T.obj _ _ st2 b hb
    exact ⟨o, e⟩
  have fpl : ∀ b ∈ fp, b < s2.heap.objs.size := fun b hb => by
    obtain ⟨o, e⟩ := hob b hb
    exact Heap.lt_size e
  have cget : ∀ x c, cl.lookup x = some c → X.env.cells.lookup x = some c := fun x c e => S.cells.get e
  have celt : ∀ x c, X.env.cells.lookup x = some c → c < s2.heap.objs.size := fun x c e => by
    obtain ⟨v, q⟩ := I2.cell x c e
    exact q.lt
  have pint : ∀ p ∈ X.pn ++ pins, p.1 < s2.heap.objs.size := fun p hp => Heap.lt_size (I2.pin p hp).1
  have fpst : ∀ b ∈ fp, b ∉ frs X.stack := fun b hb z => by
    rcases List.mem_cons.mp (I2.stkSub b z) with e | e
    · exact (f2 b hb).2.1 e
    · exact (f2 b hb).2.2.1 e
  have nst : s2.heap.objs.size ∉ frs X.stack := fun z => by
    rcases List.mem_cons.mp (I2.stkSub _ z) with e | e
    · exact absurd (e ▸ I2.lt) (Nat.lt_irrefl _)
    · exact I2.nofs (Nat.le_refl _) e
  have CL : P2.objs.size ≠ X.env.locals := fun z => absurd (Nat.lt_of_lt_of_le (z ▸ I2.lt) hCle) (Nat.lt_irrefl _)
  have CC : ∀ x c, X.env.cells.lookup x = some c → c ≠ P2.objs.size := fun x c e => Nat.ne_of_lt (Nat.lt_of_lt_of_le (celt x c e) hCle)
  have CP : ∀ p ∈ X.pn ++ pins, p.1 ≠ P2.objs.size := fun p hp => Nat.ne_of_lt (Nat.lt_of_lt_of_le (pint p hp) hCle)
  have loop : ∀ s₃ : Shared, s₃ = { s2 with heap := h₁, toks := s2.toks + ([] : List (Str × Value)).length } →
      codeAny (model X.prog X.w) X.A (.compLoop (.ListComp elt [⟨tg, iter, ifs, 0⟩] scope pos) 0 (.ref it) (.ref s2.heap.objs.size) (compEnvC scope cl P2.objs.size X.env)) (RR (.ref s2.heap.objs.size) P2.objs.size) s₃ := by
    rintro s₃ rfl
    have I0 : Inv (compCx X vars scope cl P2.objs.size fp s2 H2) [(s2.heap.objs.size, lobj [] 0)] (σ ++ List.replicate vars.length none) H2 { s2 with heap := h₁, toks := s2.toks + ([] : List (Str × Value)).length } :=
      comp_start I2 S f2 hob (Nat.le_refl _) hCle hDC hacc (fun v z => by cases z) hns₁ old
    refine comp_loop hc T (hg _ _ _ _) (ht _ _ _ _) (he _ _ _ _) (D := s2.heap.objs.size) W (F := fun ys H' => ∀ D, H' D = none → F D (upd H' D (.lst ys))) (Nat.le_refl _) hDC nst (fun x c e => Nat.ne_of_lt (celt x c (cget x c e)))
      (fun b hb => ⟨(below b (fpl b hb)).1, fpst b hb, fun x c e z => (f2 b hb).2.2.2.2.1 x c (cget x c e) z, Nat.ne_of_gt (fpl b hb)⟩) turn ?_ I0 hst₁ (fun b hb => (f2 b hb).1) w0
    intro s' ys us n H' I' rv hz q
    obtain ⟨eD, nD, _, _, _⟩ := I'.pin (s2.heap.objs.size, lobj us n) (List.mem_append_right _ List.mem_cons_self)
    have J1 : Inv X pins σ H' s' := I2.call' I'.os I'.base I'.hok I'.bare (fun b hb => ⟨(f2 b hb).2.2.2.1, (f2 b hb).2.1, (f2 b hb).2.2.2.2.1, (f2 b hb).2.2.2.2.2⟩) I'.tk
    have J2 : Inv X pins σ (upd H' s2.heap.objs.size (.lst ys)) s' := J1.track I2.sz nD (fun z => absurd (z ▸ I2.lt) (Nat.lt_irrefl _)) (fun x c e => Nat.ne_of_lt (celt x c e)) (fun p hp => Nat.ne_of_lt (pint p hp)) ⟨hz, us, n, rv, eD⟩
    have nC : upd H' s2.heap.objs.size (.lst ys) P2.objs.size = none := by
      rw [upd_ne (Ne.symm hDC)]
      exact I'.free
    refine hRR _ _ s' _ ?_ CL CC J2 (fun h' hs s'' e => ?_) (fun σ' s3 I3 _ h' hs => ?_) (q _ nD)
    · obtain ⟨m, hn, _⟩ := I'.loc
      exact ⟨m, hn⟩
    · subst e
      exact J2.turned (t' := s'.toks) (it := P2.objs.size) (fun b o hb e => (hs.2 b hb).trans e) nC CL (.inr (Nat.le_trans I2.sz hCle)) CC CP
    · exact I3.turned (t' := s3.toks) (it := P2.objs.size) (fun b o hb e => (hs.2 b hb).trans e) nC CL (.inr (Nat.le_trans I2.sz hCle)) CC CP
  exact codeAny_compStart_list (loop _ rfl) (T.self _ 0 _ _ _ hst₁ (loop _ rfl))
theorem pe_comp (hc : X.calm = true) (S : CompScope X vars scope cl) (hi : PI X tg iter wi) (hg : ∀ C fp s₂ H₂, PG (compCx X vars scope cl C fp s₂ H₂) tg g) (ht : ∀ C fp s₂ H₂, PIfs (compCx X vars scope cl C fp s₂ H₂) ifs ti)
    (he : ∀ C fp s₂ H₂, PE (compCx X vars scope cl C fp s₂ H₂) elt te) (hs : ∀ x, foldedSetIterable iter X.env x = pure x := by intro _; rfl) : PE X (.ListComp elt [⟨tg, iter, ifs, 0⟩] scope pos) (tComp vars.length wi g ti te) := by
  intro pins s σ H Q I h
  rw [eval_ListComp]
  refine wpAny_comprehension_free (use := none) rfl hs S.clos S.kind S.names (thn (hi pins s σ H _ I h) fun v s1 h1 => thn h1 fun itv s2 h2 => ?_)
  refine comp_block hc S hg ht he (F := fun D H' => Q (.ref D) H') h2 fun D C s' H' hn hCL hCC J2 J3 _ q => ?_
  obtain ⟨m, hn⟩ := hn
  exact ⟨m, hn, fun h' hs' => ⟨.ref D, H', J3 h' hs' _ rfl, rfl, q⟩⟩
theorem ps_setcomp {i : Nat} {y : Str} {py spos : Pos} (hc : X.calm = true) (S : CompScope X vars scope cl) (hN : X.N.Nodup) (hiy : X.N[i]? = some y) (hy : Loc X.env.scope y) (hi : PI X tg iter wi)
    (hg : ∀ C fp s₂ H₂, PG (compCx X vars scope cl C fp s₂ H₂) tg g) (ht : ∀ C fp s₂ H₂, PIfs (compCx X vars scope cl C fp s₂ H₂) ifs ti)
    (he : ∀ C fp s₂ H₂, PE (compCx X vars scope cl C fp s₂ H₂) elt te) (hs : ∀ x, foldedSetIterable iter X.env x = pure x := by intro _; rfl)
    (hsw : swapsWith (.ListComp elt [⟨tg, iter, ifs, 0⟩] scope pos) (some (.Name y py)) spos.line X.env = pure true := by rfl)
    (hf : X.fn y = true ∨ X.env.scope.names.lookup y = some .local := by first | exact .inl rfl | exact .inr rfl | assumption) :
    PS X (.Assign [.Name y py] (.ListComp elt [⟨tg, iter, ifs, 0⟩] scope pos) spos) (tAsg (tComp vars.length wi g ti te) (gName i)) := by
  intro pins s σ H D0 I h
  rw [exec_Assign_Name_used _ _ _ _ hsw]
  refine wpAny_bind (wpAny_standAt (wpAny_bind ?_))
  show wpAny _ X.A (do let _ ← comprehension (.ListComp elt [⟨tg, iter, ifs, 0⟩] scope pos) scope X.env _ (newList []) false (eval iter X.env) (some (assign (.Name y py) X.env))) _ _ s
  refine wpAny_bind (wpAny_mono (wpAny_comprehension_free (use := some (assign (.Name y py) X.env)) (Q := fun _ s' => SP X pins D0 .next s') rfl hs S.clos S.kind S.names
    (thn (hi pins s σ H _ I h) fun v s1 h1 => thn h1 fun itv s2 h2 => ?_)) (fun _ s' hq => wpAny_pure (wpAny_pure hq)) fun _ _ e => e)
  refine comp_block hc S hg ht he (F := fun D H' => D0.nx (σ.set i (some (.ref D))) H') h2 fun D C s' H' hn hCL hCC J2 _ J4 q => ?_
  obtain ⟨m, hn⟩ := hn
  show wpAny _ X.A (assign (.Name y py) X.env (.ref D)) _ _ _
  refine wpAny_assign_Name (store_ok2 J2 hN hiy hy (v := .ref D) rfl (fun s3 I3 ⟨a, hsb, ha⟩ => ?_) hf)
  have hCa : C ≠ a := by
    rcases ha with rfl | ha
    · exact hCL
    · exact Ne.symm (hCC y a ha)
  refine ⟨m, hn.sameBut hsb hCa, fun h' hs' => ⟨σ.set i (some (.ref D)), H', J4 _ s3 I3 ⟨a, hsb, ?_⟩ h' hs', q⟩⟩
  rcases ha with rfl | ha
  · exact .inl rfl
  · exact .inr ⟨y, ha⟩
end
end L2
namespace L2
open PySem PySem.Spec PyProof.Rows
def Its (z : Str) : It := ⟨fun i _ => i < z.length, fun i H x H' => H' = H ∧ ∃ c, z.cps[i]? = some c ∧ x = .str ⟨#[c]⟩, fun i _ => z.length ≤ i⟩
theorem turn_strA {P : Program} {w : World} {K : PySem.W.Frag} {tg : Expr} (it : Addr) (z : Str) (t : Tok) : Turn P w K tg (Its z) [it] it (fun i h => h.IsStrIter it "str_ascii_iterator" z t i) where
  mem := by simp
  obj := fun i h st b hb => by
    have e : b = it := by simpa using hb
    subst e
    obtain ⟨o, e, c, d⟩ := st
    exact ⟨o, e, fun v z => by rw [d] at z; cases z⟩
  keep := fun i h h' st k => let ⟨o, ho, r⟩ := st; ⟨o, k it (by simp) o ho, r⟩
  item := by
    intro X hP hw hK hc i pins s σ H E I hf st hg
    subst hP hw hK
    obtain ⟨f0, f1, f2, f3, f4, f5⟩ := hf it (by simp)
    have hlt : i < z.cps.size := hg
    refine wpAny_pyNext_ascii_item st (c := z.cps[i]) (by simp [hlt]) fun h' st' sb => ?_
    have I1 : Inv X pins σ H { s with heap := h', toks := s.toks + 1 } := I.turned (fun b o hb e => (sb.2 b hb).trans e) f0 f1 f3 f4 f5
    obtain ⟨o, e, c, d⟩ := id st'
    exact ⟨_, rfl, go_of (s := { s with heap := h', toks := s.toks + 1 }) e c d (by decide) ⟨.str ⟨#[z.cps[i]]⟩, H, I1, ⟨_, rfl⟩, ⟨rfl, z.cps[i], by simp [hlt], rfl⟩, st', fun b hb => (hf b hb).1⟩⟩
  done := by
    intro X hP hw hK hc i pins s σ H E I hf st hg
    subst hP hw hK
    obtain ⟨f0, f1, f2, f3, f4, f5⟩ := hf it (by simp)
    have hle : z.cps.size ≤ i := hg
    exact wpAny_pyNext_ascii_end (I.ok.hd hc) st (by simp [hle]) fun h' eb => ⟨rfl, I.turned (t' := s.toks) (fun b o hb e => eb b o hb e) f0 f1 f3 f4 f5⟩
  self := fun _ _ _ _ _ st h => wpAny_pyIter_striter_ascii st h
theorem turn_strW {P : Program} {w : World} {K : PySem.W.Frag} {tg : Expr} (it : Addr) (z : Str) (t : Tok) : Turn P w K tg (Its z) [it] it (fun i h => h.IsStrIter it "str_iterator" z t i) where
  mem := by simp
  obj := fun i h st b hb => by
    have e : b = it := by simpa using hb
    subst e
    obtain ⟨o, e, c, d⟩ := st
    exact ⟨o, e, fun v z => by rw [d] at z; cases z⟩
  keep := fun i h h' st k => let ⟨o, ho, r⟩ := st; ⟨o, k it (by simp) o ho, r⟩
  item := by
    intro X hP hw hK hc i pins s σ H E I hf st hg
    subst hP hw hK
    obtain ⟨f0, f1, f2, f3, f4, f5⟩ := hf it (by simp)
    have hlt : i < z.cps.size := hg
    refine wpAny_pyNext_wide_item st (c := z.cps[i]) (by simp [hlt]) fun h' st' sb => ?_
    have I1 : Inv X pins σ H { s with heap := h', toks := s.toks + 1 } := I.turned (fun b o hb e => (sb.2 b hb).trans e) f0 f1 f3 f4 f5
    obtain ⟨o, e, c, d⟩ := id st'
    exact ⟨_, rfl, go_of (s := { s with heap := h', toks := s.toks + 1 }) e c d (by decide) ⟨.str ⟨#[z.cps[i]]⟩, H, I1, ⟨_, rfl⟩, ⟨rfl, z.cps[i], by simp [hlt], rfl⟩, st', fun b hb => (hf b hb).1⟩⟩
  done := by
    intro X hP hw hK hc i pins s σ H E I hf st hg
    subst hP hw hK
    obtain ⟨f0, f1, f2, f3, f4, f5⟩ := hf it (by simp)
    have hle : z.cps.size ≤ i := hg
    exact wpAny_pyNext_wide_end (I.ok.hd hc) st (by simp [hle]) fun h' eb => ⟨rfl, I.turned (t' := s.toks) (fun b o hb e => eb b o hb e) f0 f1 f3 f4 f5⟩
  self := fun _ _ _ _ _ st h => wpAny_pyIter_striter_wide st h
def iStr (tl : TE) : TI := fun σ H R => tl σ H fun x H1 => ∃ z, x = .str z ∧ R (Its z) H1
theorem pi_str {X : Cx} {tg l : Expr} {tl : TE} (hl : PE X l tl) : PI X tg l (iStr tl) := by
  intro pins s σ H R I h
  refine thn (hl pins s σ H _ I h) fun v s1 ⟨x, H1, I1, r1, q1⟩ => ?_
  obtain ⟨z, e, q⟩ := q1
  subst e
  obtain ⟨t, rfl⟩ := r1
  have fin : ∀ b ∈ [s1.heap.objs.size], FpOk X pins H1 b := fun b hb => by
    have e : b = s1.heap.objs.size := by simpa using hb
    subst e
    exact I1.fpOk (Nat.le_refl _) (I1.hok.fresh (Nat.le_refl _))
  cases ha : z.cps.all (· < 128)
  · refine wpAny_pyIter_wide ha ?_
    exact ⟨s1.heap.objs.size, [s1.heap.objs.size], _, Its z, H1, rfl, I1.kept (t' := s1.toks) fun b o e => Heap.get?_push_of_some _ e, turn_strW _ z t, ⟨_, Heap.get?_push_size _ rfl, rfl, rfl⟩, fin, q⟩
  · refine wpAny_pyIter_ascii ha ?_
    exact ⟨s1.heap.objs.size, [s1.heap.objs.size], _, Its z, H1, rfl, I1.kept (t' := s1.toks) fun b o e => Heap.get?_push_of_some _ e, turn_strA _ z t, ⟨_, Heap.get?_push_size _ rfl, rfl, rfl⟩, fin, q⟩
section
variable {X : Cx}
def cutS (z : Str) (lo hi : Option Int) : Str := ⟨((z.cps.toList.drop (HT.sIx z.length 0 lo)).take (HT.sIx z.length z.length hi - HT.sIx z.length 0 lo)).toArray⟩
theorem strSlice_run (lo hi : Option Int) (n : Nat) : Builtin.Str.strSliceIndices lo hi 1 n = (List.range (HT.sIx n n hi - HT.sIx n 0 lo)).map fun k => HT.sIx n 0 lo + k := by
  have clip : ∀ v : Int, max 0 (min (if v < 0 then v + (n : Int) else v) (n : Int)) = ((HT.sIx n 0 (some v) : Nat) : Int) ∧ max 0 (min (if v < 0 then v + (n : Int) else v) (n : Int)) = ((HT.sIx n n (some v) : Nat) : Int) := fun v => by
    unfold HT.sIx
    by_cases hv : v < 0
    · simp only [if_pos hv]; omega
    · simp only [if_neg hv]; omega
  have key : ∀ a b : Nat, sliceRange (a : Int) (b : Int) 1 = (List.range (b - a)).map fun k => a + k := fun a b => by
    unfold sliceRange
    have hc : (if (1 : Int) > 0 then (if (a : Int) < (b : Int) then ((b : Int) - a + 1 - 1) / 1 else 0) else (if (a : Int) > (b : Int) then ((a : Int) - b - 1 - 1) / (-1) else 0)).toNat = b - a := by
      rw [if_pos (by decide)]
      by_cases h : (a : Int) < (b : Int)
      · rw [if_pos h, Int.ediv_one]; omega
      · rw [if_neg h]; omega
    dsimp only
    rw [hc]
    refine List.map_congr_left fun k _ => ?_
    omega
  unfold Builtin.Str.strSliceIndices
  cases lo with
  | none =>
    cases hi with
    | none => exact key 0 n
    | some v =>
      simp only [show (1 : Int) > 0 by decide, if_true]
      rw [(clip v).2]
      exact key 0 _
  | some u =>
    cases hi with
    | none =>
      simp only [show (1 : Int) > 0 by decide, if_true]
      rw [(clip u).1]
      exact key _ n
    | some v =>
      simp only [show (1 : Int) > 0 by decide, if_true]
      rw [(clip u).1, (clip v).2]
      exact key _ _
theorem pick_at {α : Type} (xs : Array α) (a m : Nat) : ((List.range m).map fun k => a + k).filterMap (xs[·]?) = (xs.toList.drop a).take m := by
  rw [List.filterMap_map]
  induction m generalizing a with
  | zero => simp
  | succ m ih =>
    rw [List.range_succ, List.filterMap_append, ih, List.take_succ]
    congr 1
    simp only [List.filterMap_cons, List.filterMap_nil, Function.comp]
    rw [List.getElem?_drop, Array.getElem?_toList]
    cases xs[a + m]? <;> rfl
theorem slice_cut (z : Str) (lo hi : Option Int) : Txt.slice z lo hi = cutS z lo hi := by
  have h1 := HT.sIx_le z.length 0 (Nat.zero_le _) lo
  have h2 := HT.sIx_le z.length z.length (Nat.le_refl _) hi
  unfold Txt.slice cutS
  rw [strSlice_run, pick_at]
  split
  · rename_i h
    rw [List.length_map, List.length_range] at h
    have h3 : HT.sIx z.length z.length hi - HT.sIx z.length 0 lo = z.length := by
      have h' := (Bool.and_eq_true_iff.mp h).2
      exact eq_of_beq h'
    have e1 : HT.sIx z.length 0 lo = 0 := by omega
    rw [h3, e1, List.drop_zero]
    have hl : z.cps.toList.length = z.length := by simp [Str.length]
    rw [List.take_of_length_le (by omega)]
  · rfl
def rSlS : V → Option Int → Option Int → Hp → VK → Prop := fun x lo hi H Q => ∃ z, x = .str z ∧ z.length ≤ sizeLine ∧ Q (.str (cutS z lo hi)) H
theorem sl_str : SlR X rSlS := by
  intro pins s σ H x v vl vu lo hi sl Q I rx hs pl pu h
  obtain ⟨z, rfl, hz, q⟩ := h
  obtain ⟨t, rfl⟩ := rx
  refine ⟨"str", _, F.slot_str_getitem.lookup, typeIs_str _ _ _, wpAny_with_toks (n := 1) I.tk ?_⟩
  obtain ⟨o, ho, hc, hd⟩ := hs
  have fin : (Txt.slice z lo hi).length ≤ sizeLine ∧ ∀ t' k, 1 ≤ ({ s with toks := k } : Shared).toks → EP X pins σ Q (.str (Txt.slice z lo hi) t') { s with toks := k } :=
    ⟨Nat.le_trans (Txt.slice_le z lo hi) hz, fun t' k hk => ⟨.str (Txt.slice z lo hi), H, I.tok k hk, ⟨_, rfl⟩, by rw [slice_cut]; exact q⟩⟩
  cases pl with
  | none =>
    cases pu with
    | none => exact wpAny_getItem_str_slice (l := none) (u := none) (st := none) ⟨o, ho, hc, hd⟩ rfl (post_val_or_str fin)
    | int j uj => exact wpAny_getItem_str_slice (l := none) (u := some (j, uj)) (st := none) ⟨o, ho, hc, hd⟩ rfl (post_val_or_str fin)
  | int i ui =>
    cases pu with
    | none => exact wpAny_getItem_str_slice (l := some (i, ui)) (u := none) (st := none) ⟨o, ho, hc, hd⟩ rfl (post_val_or_str fin)
    | int j uj => exact wpAny_getItem_str_slice (l := some (i, ui)) (u := some (j, uj)) (st := none) ⟨o, ho, hc, hd⟩ rfl (post_val_or_str fin)
theorem strsAre_of {ys : List Str} : ∀ {us : List Value}, Vals (ys.map V.str) us → StrsAre us ys := by
  induction ys with
  | nil => intro us r; rw [List.map_nil] at r; cases r; exact .nil
  | cons y ys ih =>
    intro us r
    rw [List.map_cons] at r
    cases r with
    | cons r1 r2 =>
      obtain ⟨t, e⟩ := r1
      subst e
      exact .cons y t (ih r2)
def rJoin (K : PySem.W.Frag) : V → List V → Hp → VK → Prop := fun x vs H Q => ∃ z p ys, x = .str z ∧ vs = [.ref p] ∧ (SqL K H p (ys.map V.str) ∨ SqT K H p (ys.map V.str)) ∧ (ys.map (·.length)).sum + ys.length * z.length ≤ 16777216 ∧ Q (.str (Txt.join z ys)) H
theorem mt_join : MtR X "str.join" (rJoin X.K) := by
  intro pins s σ H x vs v us Q I rx rv h
  obtain ⟨z, p, ys, rfl, rfl, hq, hz, q⟩ := h
  obtain ⟨t, rfl⟩ := rx
  obtain ⟨u, rfl, ru⟩ := vals1 rv
  cases ru
  rcases hq with hq | hq
  · obtain ⟨its, r, pl, _⟩ := I.list hq
    exact wpAny_with_toks (n := 1) I.tk (join_list pl.isList (by simpa using strsAre_of r) hz fun t' k hk => ⟨.str (Txt.join z ys), H, I.tok k hk, ⟨_, rfl⟩, q⟩)
  · obtain ⟨its, r, pl, _⟩ := I.tuple hq
    exact wpAny_with_toks (n := 1) I.tk (join_tuple pl (by simpa using strsAre_of r) hz fun t' k hk => ⟨.str (Txt.join z ys), H, I.tok k hk, ⟨_, rfl⟩, q⟩)
end
end L2
namespace L2
open PySem PySem.Spec PyProof.Rows PySem.Builtin.Str
section
variable {X : Cx}
theorem op_mul_str : OpR X (binaryOp .Mult) (fun x y H Q => ∃ z n, x = .str z ∧ y = .int n ∧ MulOk z n ∧ Q (.str (Txt.mul z n)) H) := by
  intro pins s σ H x y v u Q I rx ry h
  obtain ⟨z, n, rfl, rfl, hm, q⟩ := h
  obtain ⟨t, rfl⟩ := rx
  obtain ⟨t', rfl⟩ := ry
  exact wpAny_with_toks (n := 1) I.tk (SB.mul hm fun t' k hk => ⟨.str _, H, I.tok k hk, ⟨_, rfl⟩, q⟩)
theorem bools_at {bs : List Bool} : ∀ {us : List Value}, Vals (bs.map V.bl) us → us = bs.map Value.bool := by
  induction bs with
  | nil => intro us r; rw [List.map_nil] at r; cases r; rfl
  | cons b bs ih =>
    intro us r
    rw [List.map_cons] at r
    cases r with
    | cons r1 r2 => rw [ih r2]; cases r1; rfl
theorem range_all_getD (bs : List Bool) : ((List.range bs.length).all fun i => bs.getD i false) = bs.all id := by
  induction bs with
  | nil => rfl
  | cons b bs ih =>
    rw [List.length_cons, List.range_succ_eq_map, List.all_cons, List.all_map, List.all_cons, ← ih]
    rfl
def rAll (K : PySem.W.Frag) : List V → Hp → VK → Prop := fun xs H Q => ∃ (p : Addr) (bs : List Bool), xs = [.ref p] ∧ SqL K H p (bs.map V.bl) ∧ Q (.bl (bs.all id)) H
theorem call_all (hc : X.calm = true) : CallR X (.builtin "all") (rAll X.K) := by
  intro pins s σ H xs us Q I r h
  obtain ⟨p, bs, rfl, hq, q⟩ := h
  obtain ⟨u, rfl, ru⟩ := vals1 r
  cases ru
  obtain ⟨its, rv, pl, hz⟩ := I.list hq
  have e := bools_at rv
  subst e
  obtain ⟨o, ho, ho2⟩ := pl.isList
  have hlt : p < s.heap.objs.size := Heap.lt_size ho
  refine wpAny_with_toks (n := 1) I.tk (call_all_walk (wpAny_pyIter_list pl.isList ?_))
  refine ⟨s.heap.objs.size, _, _, _, _, _, fun i => bs.getD i false, rfl, Walks.list (show X.A.in1.handled = none from I.ok.hd hc) s.heap.objs.size p (Nat.ne_of_lt hlt) (bs.map Value.bool).toArray, ⟨⟨_, Heap.get?_push_size _ rfl, rfl, rfl⟩, pl.isList.push _⟩, ?_, fun h' tk hk htk => ?_⟩
  · intro i v s' Q' E' hP hQ
    have hP' : (bs.map Value.bool)[i]? = some v := by simpa using hP
    rw [List.getElem?_map] at hP'
    cases hb : bs[i]? with
    | none => rw [hb] at hP'; cases hP'
    | some b =>
      rw [hb] at hP'
      cases hP'
      have e : bs.getD i false = b := by simp [List.getD, hb]
      dsimp only at hQ
      rw [e] at hQ
      exact wpAny_truthy_bool hQ
  · have hk' : ∀ b o, s.heap.get? b = some o → h'.get? b = some o := fun b o e => hk b o (by simpa using Nat.ne_of_lt (Heap.lt_size e)) (Heap.get?_push_of_some _ e)
    refine ⟨.bl (bs.all id), H, I.kept hk' htk, ?_, q⟩
    show Value.bool _ = Value.bool _
    rw [← range_all_getD]
    simp
end
mutual
inductive DatIs (K : PySem.W.Frag) (H : Hp) : V → PyData → Prop
  | non : DatIs K H .non .none
  | bl (b : Bool) : DatIs K H (.bl b) (.bool b)
  | int (i : Int) : DatIs K H (.int i) (.int i)
  | str (x : Str) : DatIs K H (.str x) (.str x)
  | lst {p : Addr} {xs : List V} {ds : List PyData} : SqL K H p xs → DatAll K H xs ds → DatIs K H (.ref p) (.list ds)
  | tup {p : Addr} {xs : List V} {ds : List PyData} : SqT K H p xs → DatAll K H xs ds → DatIs K H (.ref p) (.tuple ds)
inductive DatAll (K : PySem.W.Frag) (H : Hp) : List V → List PyData → Prop
  | nil : DatAll K H [] []
  | cons {v : V} {d : PyData} {vs : List V} {ds : List PyData} : DatIs K H v d → DatAll K H vs ds → DatAll K H (v :: vs) (d :: ds)
end
section
variable {X : Cx} {pins : List (Addr × Obj)} {σ : St} {H : Hp} {s : Shared}
mutual
theorem DatIs.reads (I : Inv X pins σ H s) : ∀ {v : V} {d : PyData} {u : Value}, DatIs X.K H v d → RelV v u → ∃ as, Reads s.heap u d as
  | _, _, _, .non, r => by cases r; exact ⟨_, .none⟩
  | _, _, _, .bl b, r => by cases r; exact ⟨_, .bool b⟩
  | _, _, _, .int i, r => by obtain ⟨t, rfl⟩ := r; exact ⟨_, .int i t⟩
  | _, _, _, .str x, r => by obtain ⟨t, rfl⟩ := r; exact ⟨_, .str x t⟩
  | _, _, _, .lst hq ha, r => by
    cases r
    obtain ⟨its, rv, ⟨o, n, e, hc, hd, hs⟩, _⟩ := I.list hq
    obtain ⟨as, ra⟩ := DatAll.reads I ha rv
    exact ⟨_, .list e hc hs (by simpa using ra)⟩
  | _, _, _, .tup hq ha, r => by
    cases r
    obtain ⟨its, rv, ⟨o, e, hc, n, hs⟩, _⟩ := I.tuple hq
    obtain ⟨as, ra⟩ := DatAll.reads I ha rv
    exact ⟨_, .tuple e hc hs (by simpa using ra)⟩
theorem DatAll.reads (I : Inv X pins σ H s) : ∀ {vs : List V} {ds : List PyData} {us : List Value}, DatAll X.K H vs ds → Vals vs us → ∃ as, ReadsAll s.heap us ds as
  | _, _, _, .nil, r => by cases r; exact ⟨_, .nil⟩
  | _, _, _, .cons h t, r => by
    cases r with
    | cons r1 r2 =>
      obtain ⟨as, ra⟩ := DatIs.reads I h r1
      obtain ⟨bs, rb⟩ := DatAll.reads I t r2
      exact ⟨_, .cons ra rb⟩
end
end
section
variable {X : Cx}
def rEqD (K : PySem.W.Frag) (neg : Bool) : R2 := fun x y H Q => ∃ d e, DatIs K H x d ∧ DatIs K H y e ∧ SeqAt.shaped d = true ∧ SeqAt.shaped e = true ∧ Q (.bl (if neg then !PyData.eqv d e else PyData.eqv d e)) H
theorem op_eqD {k : Nat} (hr : Room k X.A) : OpR X (compareOp .Eq) (rEqD X.K false) := by
  intro pins s σ H x y v u Q I rx ry h
  obtain ⟨d, e, hd, he, sd, se, q⟩ := h
  obtain ⟨as, ra⟩ := hd.reads I rx
  obtain ⟨bs, rb⟩ := he.reads I ry
  exact eq_dataH ra rb sd se hr.units ⟨.bl _, H, I, rfl, q⟩
theorem op_neD {k : Nat} (hr : Room k X.A) : OpR X (compareOp .NotEq) (rEqD X.K true) := by
  intro pins s σ H x y v u Q I rx ry h
  obtain ⟨d, e, hd, he, sd, se, q⟩ := h
  obtain ⟨as, ra⟩ := hd.reads I rx
  obtain ⟨bs, rb⟩ := he.reads I ry
  exact ne_dataH ra rb sd se hr.units ⟨.bl _, H, I, rfl, q⟩
where RelC : V → Value → Prop := fun c cv => (∃ n, c = .ty n ∧ cv = .type n) ∨ ∃ a, c = .ref a ∧ cv = .ref a
end
end L2
namespace L2
open PySem PySem.Spec PyProof.Rows
section
variable {X : Cx}
def uAdd : R2 := fun x y H Q => match x, y with
  | .int i, .int j => Q (.int (i + j)) H
  | .str a, .str b => a.length + b.length ≤ sizeLine ∧ Q (.str (a ++ b)) H
  | .ref l, .ref b => ∃ xs zs, H l = some (.lst xs) ∧ H b = some (.lst zs) ∧ xs.length + zs.length ≤ sizeLine ∧ ∀ p, H p = none → Q (.ref p) (upd H p (.lst (xs ++ zs)))
  | _, _ => False
theorem u_add : OpR X (binaryOp .Add) uAdd := by
  intro pins s σ H x y v u Q I rx ry h
  cases x with
  | int i =>
    cases y with
    | int j => exact op_add pins s σ H _ _ v u Q I rx ry ⟨i, j, rfl, rfl, h⟩
    | _ => exact False.elim h
  | str a =>
    cases y with
    | str b => exact op_add_str pins s σ H _ _ v u Q I rx ry ⟨a, b, rfl, rfl, h⟩
    | _ => exact False.elim h
  | ref l =>
    cases y with
    | ref b =>
      obtain ⟨xs, zs, h1, h2, h3, h4⟩ := h
      exact op_cat pins s σ H _ _ v u Q I rx ry ⟨l, b, xs, zs, rfl, rfl, h1, h2, h3, h4⟩
    | _ => exact False.elim h
  | _ => exact False.elim h
def uMul : R2 := fun x y H Q => match x, y with
  | .int i, .int j => CMul i j ∧ Q (.int (i * j)) H
  | .str z, .int n => MulOk z n ∧ Q (.str (Txt.mul z n)) H
  | _, _ => False
theorem u_mul : OpR X (binaryOp .Mult) uMul := by
  intro pins s σ H x y v u Q I rx ry h
  cases x with
  | int i =>
    cases y with
    | int j => exact op_mul pins s σ H _ _ v u Q I rx ry ⟨i, j, rfl, rfl, h⟩
    | _ => exact False.elim h
  | str z =>
    cases y with
    | int n => exact op_mul_str pins s σ H _ _ v u Q I rx ry ⟨z, n, rfl, rfl, h⟩
    | _ => exact False.elim h
  | _ => exact False.elim h
def uMod : R2 := fun x y H Q => match x, y with
  | .int i, .int j => 0 < j ∧ Q (.int (i % j)) H
  | _, _ => False
theorem u_mod : OpR X (binaryOp .Mod) uMod := by
  intro pins s σ H x y v u Q I rx ry h
  cases x with
  | int i =>
    cases y with
    | int j => exact op_mod pins s σ H _ _ v u Q I rx ry ⟨i, j, rfl, rfl, h⟩
    | _ => exact False.elim h
  | _ => exact False.elim h
def uDiv : R2 := fun x y H Q => match x, y with
  | .int i, .int j => (0 < j ∧ j < 1073741824) ∧ Q (.int (i / j)) H
  | _, _ => False
theorem u_div : OpR X (binaryOp .FloorDiv) uDiv := by
  intro pins s σ H x y v u Q I rx ry h
  cases x with
  | int i =>
    cases y with
    | int j => exact op_fdiv pins s σ H _ _ v u Q I rx ry ⟨i, j, rfl, rfl, h⟩
    | _ => exact False.elim h
  | _ => exact False.elim h
def uLt : R2 := fun x y H Q => match x, y with
  | .int i, .int j => Q (.bl (decide (i < j))) H
  | .str i, .str j => Q (.bl (decide (i.cps.toList < j.cps.toList))) H
  | _, _ => False
theorem u_lt : OpR X (compareOp .Lt) uLt := by
  intro pins s σ H x y v u Q I rx ry h
  cases x with
  | int i =>
    cases y with
    | int j => exact op_lt pins s σ H _ _ v u Q I rx ry ⟨i, j, rfl, rfl, h⟩
    | _ => exact False.elim h
  | str i =>
    cases y with
    | str j => exact op_lt_str pins s σ H _ _ v u Q I rx ry ⟨i, j, rfl, rfl, h⟩
    | _ => exact False.elim h
  | _ => exact False.elim h
def uGt : R2 := fun x y H Q => match x, y with
  | .int i, .int j => Q (.bl (decide (j < i))) H
  | _, _ => False
theorem u_gt : OpR X (compareOp .Gt) uGt := by
  intro pins s σ H x y v u Q I rx ry h
  cases x with
  | int i =>
    cases y with
    | int j => exact op_gt pins s σ H _ _ v u Q I rx ry ⟨i, j, rfl, rfl, h⟩
    | _ => exact False.elim h
  | _ => exact False.elim h
def uIn (K : PySem.W.Frag) (neg : Bool) : R2 := fun x y H Q => match x, y with
  | .str i, .str j => Q (.bl (xor neg (!(Builtin.Str.occurrences j i 0 j.length 1).isEmpty))) H
  | x, .ref p => ∃ xs, (SqL K H p xs ∨ SqT K H p xs) ∧ flatV x = true ∧ xs.all flatV = true ∧ Q (.bl (xor neg (inV x xs))) H
  | _, _ => False
theorem u_in : OpR X (compareOp .In) (uIn X.K false) := by
  intro pins s σ H x y v u Q I rx ry h
  cases y with
  | str j =>
    cases x with
    | str i =>
      have h' : Q (.bl (xor false (!(Builtin.Str.occurrences j i 0 j.length 1).isEmpty))) H := h
      rw [Bool.false_xor] at h'
      exact op_in_str pins s σ H _ _ v u Q I rx ry ⟨i, j, rfl, rfl, h'⟩
    | _ => exact False.elim h
  | ref p =>
    have h' : ∃ xs, (SqL X.K H p xs ∨ SqT X.K H p xs) ∧ flatV x = true ∧ xs.all flatV = true ∧ Q (.bl (xor false (inV x xs))) H := by cases x <;> exact h
    obtain ⟨xs, h1, h2, h3, h4⟩ := h'
    rw [Bool.false_xor] at h4
    exact op_in_seq pins s σ H _ _ v u Q I rx ry ⟨p, xs, rfl, h1, h2, h3, h4⟩
  | _ => cases x <;> exact False.elim h
theorem u_notin : OpR X (compareOp .NotIn) (uIn X.K true) := by
  intro pins s σ H x y v u Q I rx ry h
  cases y with
  | str j =>
    cases x with
    | str i =>
      have h' : Q (.bl (xor true (!(Builtin.Str.occurrences j i 0 j.length 1).isEmpty))) H := h
      rw [Bool.true_xor] at h'
      exact op_notin_str pins s σ H _ _ v u Q I rx ry ⟨i, j, rfl, rfl, h'⟩
    | _ => exact False.elim h
  | ref p =>
    have h' : ∃ xs, (SqL X.K H p xs ∨ SqT X.K H p xs) ∧ flatV x = true ∧ xs.all flatV = true ∧ Q (.bl (xor true (inV x xs))) H := by cases x <;> exact h
    obtain ⟨xs, h1, h2, h3, h4⟩ := h'
    rw [Bool.true_xor] at h4
    exact op_notIn_seq pins s σ H _ _ v u Q I rx ry ⟨p, xs, rfl, h1, h2, h3, h4⟩
  | _ => cases x <;> exact False.elim h
def uIx (K : PySem.W.Frag) : R2 := fun x y H Q => match x, y with
  | .str z, .int i => ∃ c, z.length ≤ sizeLine ∧ atI z.cps.toList i = some c ∧ Q (.str ⟨#[c]⟩) H
  | .ref p, .int i => ∃ xs v, (SqL K H p xs ∨ SqT K H p xs) ∧ atI xs i = some v ∧ Q v H
  | _, _ => False
theorem u_ix : IxR X (uIx X.K) := by
  intro value slice pins s σ H x y v u Q I rx ry h hs
  cases x with
  | str z =>
    cases y with
    | int i =>
      obtain ⟨c, h1, h2, h3⟩ := h
      exact ix_str value slice pins s σ H _ _ v u Q I rx ry ⟨z, i, c, rfl, rfl, h1, h2, h3⟩ hs
    | _ => exact False.elim h
  | ref p =>
    cases y with
    | int i =>
      obtain ⟨xs, c, h1 | h1, h2, h3⟩ := h
      · exact ix_list value slice pins s σ H _ _ v u Q I rx ry ⟨p, xs, i, c, rfl, rfl, h1, h2, h3⟩ hs
      · exact ix_tup value slice pins s σ H _ _ v u Q I rx ry ⟨p, xs, i, c, rfl, rfl, h1, h2, h3⟩ hs
    | _ => exact False.elim h
  | _ => exact False.elim h
def uSl (K : PySem.W.Frag) : V → Option Int → Option Int → Hp → VK → Prop := fun x lo hi H Q => match x with
  | .str z => z.length ≤ sizeLine ∧ Q (.str (cutS z lo hi)) H
  | .ref a => (∃ xs, SqL K H a xs ∧ ∀ p, H p = none → Q (.ref p) (upd H p (.lst (cutV xs lo hi)))) ∨
      (∃ xs, SqT K H a xs ∧ ¬ (HT.sIx xs.length 0 lo = 0 ∧ HT.sIx xs.length xs.length hi = xs.length) ∧ ∀ p, H p = none → Q (.ref p) (upd H p (.tup (cutV xs lo hi))))
  | _ => False
theorem u_sl : SlR X (uSl X.K) := by
  intro pins s σ H x v vl vu lo hi sl Q I rx hs pl pu h
  cases x with
  | str z => exact sl_str pins s σ H _ v vl vu lo hi sl Q I rx hs pl pu ⟨z, rfl, h⟩
  | ref a =>
    rcases h with ⟨xs, h1, h2⟩ | ⟨xs, h1, h2, h3⟩
    · exact sl_list pins s σ H _ v vl vu lo hi sl Q I rx hs pl pu ⟨a, xs, rfl, h1, h2⟩
    · exact sl_tup pins s σ H _ v vl vu lo hi sl Q I rx hs pl pu ⟨a, xs, rfl, h1, h2, h3⟩
  | _ => exact False.elim h
def uLen (K : PySem.W.Frag) : List V → Hp → VK → Prop := fun xs H Q => match xs with
  | [.str z] => z.length ≤ sizeLine ∧ Q (.int z.length) H
  | [.ref p] => ∃ ys, (SqL K H p ys ∨ SqT K H p ys) ∧ Q (.int ys.length) H
  | _ => False
theorem u_len : CallR X (.builtin "len") (uLen X.K) := by
  intro pins s σ H xs us Q I r h
  match xs, h with
  | [.str z], h => exact call_len_str pins s σ H _ us Q I r ⟨z, rfl, h⟩
  | [.ref p], h =>
    obtain ⟨ys, h1, h2⟩ := h
    exact call_len_seq pins s σ H _ us Q I r ⟨p, ys, rfl, h1, h2⟩
end
theorem bt_len : bootBuiltins "len" = some (.builtin "len") := by decide +kernel
theorem bt_all : bootBuiltins "all" = some (.builtin "all") := by decide +kernel
theorem bt_isinstance : bootBuiltins "isinstance" = some (.builtin "isinstance") := by decide +kernel
theorem bt_str : bootBuiltins "str" = some (.type "str") := by decide +kernel
theorem bt_bool : bootBuiltins "bool" = some (.type "bool") := by decide +kernel
theorem bt_list : bootBuiltins "list" = some (.type "list") := by decide +kernel
theorem bt_tuple : bootBuiltins "tuple" = some (.type "tuple") := by decide +kernel
structure Has (P : Program) (w : World) (K : PySem.W.Frag) (mg : Str → Option Value) (base : Heap) (x : Str) (k : Nat) (ps : List Str) (sp : Sp) : Prop where
  ex : ∃ f fd, FnOk P w K mg base CX0 k f fd ps sp ∧ Binds K fd ps [] ∧ PySem.W.keepIn K (.ref f) = true ∧ mg x = some (.ref f)
section
variable {X : Cx} {k kk : Nat} {x : Str} {ps : List Str} {sp : Sp} {e : Expr} {es : List Expr} {t : TA} {p pos : Pos}
theorem pe_callH (h : Has X.prog X.w X.K X.mg X.base x k ps sp) (hr : Room kk X.A) (hk : k ≤ kk) (hg : Gl X x) (ha : PA X (e :: es) t) (hx : Passes CX0 X E0 := by exact pass0) (hdb : (x == ("__debug__" : Str)) = false := by decide)
    (he : starEach (e :: es) X.env = (false, eval e X.env) :: starEach es X.env := by rfl) (hpl : (backTo pos (starEach es X.env)).any (·.1) = false := by rfl) :
    PE X (.Call (.Name x p) (e :: es) [] pos) (tCall sp [] E0 t) := by
  obtain ⟨f, fd, F, b, kp, m⟩ := h.ex
  exact pe_call F (hr.mono hk) hg m kp b .nil hx ha hdb he hpl
structure HasV (mg : Str → Option Value) (x : Str) (v : V) : Prop where
  ex : ∃ u, mg x = some u ∧ RelV v u
end
theorem kit_ty {K : PySem.W.Frag} {A B : String} {b : Bool} (h : (if (Value.type A == Value.type B) = true then some true else if PySem.W.kitMeta B = true then (PySem.fastBuiltinMro A).map (·.contains (Value.type B)) else none) = some b) : PySem.W.kitOne K (.type A) (.type B) = some b := h
end L2
namespace TX
open PySem
def sp (y : Nat) : Nat := if y = 10 then 32 else y
end TX
namespace M
abbrev T := List Nat
inductive Kd where
  | str | int | bool | list | tuple | dict
  deriving DecidableEq
inductive D where
  | non | bl (b : Bool) | int (i : Int) | str (x : T) | tup (ds : List D) | ro (ds : List D) | ref (i : Nat) | ty (n : Kd)
mutual
def D.decEq : (a b : D) → Decidable (a = b)
  | .non, .non => isTrue rfl
  | .bl a, .bl b => if h : a = b then isTrue (by rw [h]) else isFalse (fun e => h (D.bl.inj e))
  | .int a, .int b => if h : a = b then isTrue (by rw [h]) else isFalse (fun e => h (D.int.inj e))
  | .str a, .str b => if h : a = b then isTrue (by rw [h]) else isFalse (fun e => h (D.str.inj e))
  | .ref a, .ref b => if h : a = b then isTrue (by rw [h]) else isFalse (fun e => h (D.ref.inj e))
  | .ty a, .ty b => if h : a = b then isTrue (by rw [h]) else isFalse (fun e => h (D.ty.inj e))
  | .tup a, .tup b => match D.decEqs a b with
    | isTrue h => isTrue (by rw [h])
    | isFalse h => isFalse (fun e => h (D.tup.inj e))
  | .ro a, .ro b => match D.decEqs a b with
    | isTrue h => isTrue (by rw [h])
    | isFalse h => isFalse (fun e => h (D.ro.inj e))
  | .non, .bl _ | .non, .int _ | .non, .str _ | .non, .tup _ | .non, .ro _ | .non, .ref _ | .non, .ty _ => isFalse (fun e => nomatch e)
  | .bl _, .non | .bl _, .int _ | .bl _, .str _ | .bl _, .tup _ | .bl _, .ro _ | .bl _, .ref _ | .bl _, .ty _ => isFalse (fun e => nomatch e)
  | .int _, .non | .int _, .bl _ | .int _, .str _ | .int _, .tup _ | .int _, .ro _ | .int _, .ref _ | .int _, .ty _ => isFalse (fun e => nomatch e)
  | .str _, .non | .str _, .bl _ | .str _, .int _ | .str _, .tup _ | .str _, .ro _ | .str _, .ref _ | .str _, .ty _ => isFalse (fun e => nomatch e)
  | .tup _, .non | .tup _, .bl _ | .tup _, .int _ | .tup _, .str _ | .tup _, .ro _ | .tup _, .ref _ | .tup _, .ty _ => isFalse (fun e => nomatch e)
  | .ro _, .non | .ro _, .bl _ | .ro _, .int _ | .ro _, .str _ | .ro _, .tup _ | .ro _, .ref _ | .ro _, .ty _ => isFalse (fun e => nomatch e)
  | .ref _, .non | .ref _, .bl _ | .ref _, .int _ | .ref _, .str _ | .ref _, .tup _ | .ref _, .ro _ | .ref _, .ty _ => isFalse (fun e => nomatch e)
  | .ty _, .non | .ty _, .bl _ | .ty _, .int _ | .ty _, .str _ | .ty _, .tup _ | .ty _, .ro _ | .ty _, .ref _ => isFalse (fun e => nomatch e)
def D.decEqs : (a b : List D) → Decidable (a = b)
  | [], [] => isTrue rfl
  | [], _ :: _ => isFalse (fun e => nomatch e)
  | _ :: _, [] => isFalse (fun e => nomatch e)
  | a :: r, b :: t => match D.decEq a b, D.decEqs r t with
    | isTrue h, isTrue k => isTrue (by rw [h, k])
    | isFalse h, _ => isFalse (fun e => h (List.cons.inj e).1)
    | _, isFalse k => isFalse (fun e => k (List.cons.inj e).2)
end
instance : DecidableEq D := D.decEq
inductive O where
  | lst (xs : List D) | dct (kvs : List (D × D)) | ins (c : Nat) (fs : List (Option D))
  deriving DecidableEq
abbrev S := List O
abbrev St := List (Option D)
inductive R (α : Type) where
  | ok (a : α) (s : S) | exc (e : D) (s : S) | no
def R.bind {α β : Type} : R α → (α → S → R β) → R β
  | .ok a s, f => f a s
  | .exc e s, _ => .exc e s
  | .no, _ => .no
@[simp] theorem R.bind_ok {α β : Type} (a : α) (s : S) (f : α → S → R β) : (R.ok a s).bind f = f a s := rfl
@[simp] theorem R.bind_no {α β : Type} (f : α → S → R β) : (R.no : R α).bind f = .no := rfl
@[simp] theorem R.bind_exc {α β : Type} (e : D) (s : S) (f : α → S → R β) : (R.exc e s : R α).bind f = .exc e s := rfl
section
variable {α β : Type} {c : Prop} [Decidable c]
@[simp] theorem R.bind_ite (a b : R α) (f : α → S → R β) : (if c then a else b).bind f = if c then a.bind f else b.bind f := by split <;> rfl
@[simp] theorem R.ite_ok (a b : α) (s : S) : (if c then R.ok a s else R.ok b s) = R.ok (if c then a else b) s := by split <;> rfl
@[simp] theorem D.ite_bl (a b : Bool) : (if c then D.bl a else D.bl b) = D.bl (if c then a else b) := by split <;> rfl
@[simp] theorem D.ite_int (a b : Int) : (if c then D.int a else D.int b) = D.int (if c then a else b) := by split <;> rfl
@[simp] theorem D.ite_str (a b : T) : (if c then D.str a else D.str b) = D.str (if c then a else b) := by split <;> rfl
@[simp] theorem D.ite_tup (a b : List D) : (if c then D.tup a else D.tup b) = D.tup (if c then a else b) := by split <;> rfl
@[simp] theorem St.ite_some (a b : D) : (if c then some a else some b) = some (if c then a else b) := by split <;> rfl
@[simp] theorem St.ite_cons (a b : Option D) (r t : St) : (if c then a :: r else b :: t) = (if c then a else b) :: (if c then r else t) := by split <;> rfl
end
abbrev EM := St → S → R D
abbrev TM := St → S → R Bool
abbrev AM := St → S → R (List D)
def SZ : Nat := 16777216
@[simp] def eVar (i : Nat) : EM := fun σ s => match σ[i]? with
  | some (some d) => .ok d s
  | _ => .no
@[simp] def eC (d : D) : EM := fun _ s => .ok d s
@[simp] def eOp (f : D → D → S → R D) (a b : EM) : EM := fun σ s => (a σ s).bind fun x s => (b σ s).bind fun y s => f x y s
@[simp] def aNil : AM := fun _ s => .ok [] s
@[simp] def aCons (a : EM) (r : AM) : AM := fun σ s => (a σ s).bind fun x s => (r σ s).bind fun xs s => .ok (x :: xs) s
@[simp] def eTup (a : AM) : EM := fun σ s => (a σ s).bind fun xs s => if xs.length ≤ SZ then .ok (.tup xs) s else .no
@[simp] def alloc (o : O) (s : S) : R D := .ok (.ref s.length) (s ++ [o])
@[simp] def eLst (a : AM) : EM := fun σ s => (a σ s).bind fun xs s => if xs.length ≤ SZ then alloc (.lst xs) s else .no
@[simp] def lstAt (s : S) (i : Nat) : Option (List D) := match s[i]? with
  | some (.lst xs) => some xs
  | _ => none
@[simp] def opAdd : D → D → S → R D
  | .int i, .int j, s => .ok (.int (i + j)) s
  | .str a, .str b, s => if a.length + b.length ≤ SZ then .ok (.str (a ++ b)) s else .no
  | .tup a, .tup b, s => if a ≠ [] ∧ a.length + b.length ≤ SZ then .ok (.tup (a ++ b)) s else .no
  | .ref i, .ref j, s => match s[i]?, s[j]? with
    | some (.lst xs), some (.lst ys) => if xs.length + ys.length ≤ SZ then alloc (.lst (xs ++ ys)) s else .no
    | _, _ => .no
  | _, _, _ => .no
@[simp] def opSub : D → D → S → R D
  | .int i, .int j, s => .ok (.int (i - j)) s
  | _, _, _ => .no
def small (i : Int) : Bool := decide (i.natAbs < 18446744073709551616)
@[simp] def opMul : D → D → S → R D
  | .int i, .int j, s => if small i || small j then .ok (.int (i * j)) s else .no
  | .str a, .int n, s => if 0 ≤ n ∧ n.natAbs ≤ 1000000 ∧ a.length * n.natAbs ≤ 1000000 then .ok (.str (List.replicate n.toNat a).flatten) s else .no
  | .ref p, .int n, s => match lstAt s p with
    | some xs => if n.natAbs ≤ 1000 ∧ xs.length * n.natAbs ≤ 1000000 then alloc (.lst (List.replicate n.toNat xs).flatten) s else .no
    | none => .no
  | _, _, _ => .no
@[simp] def opDiv : D → D → S → R D
  | .int i, .int j, s => if 0 < j ∧ j.natAbs < 1073741824 then .ok (.int (i / j)) s else .no
  | _, _, _ => .no
@[simp] def opMod : D → D → S → R D
  | .int i, .int j, s => if 0 < j then .ok (.int (i % j)) s else .no
  | _, _, _ => .no
abbrev CM := D → D → S → R Bool
@[simp] def cLt : CM
  | .int i, .int j, s => .ok (decide (i < j)) s
  | .str a, .str b, s => .ok (decide (a < b)) s
  | _, _, _ => .no
@[simp] def cGt : CM
  | .int i, .int j, s => .ok (decide (j < i)) s
  | _, _, _ => .no
inductive P where
  | non | bl (b : Bool) | int (i : Int) | str (x : T) | tup (ps : List P) | lst (ps : List P)
mutual
def P.eqv : P → P → Bool
  | .non, .non => true
  | .bl a, .bl b => a == b
  | .int a, .int b => a == b
  | .bl a, .int b => (if a then 1 else 0) == b
  | .int a, .bl b => a == (if b then 1 else 0)
  | .str a, .str b => a == b
  | .tup a, .tup b => P.eqvs a b
  | .lst a, .lst b => P.eqvs a b
  | _, _ => false
def P.eqvs : List P → List P → Bool
  | [], [] => true
  | a :: r, b :: t => P.eqv a b && P.eqvs r t
  | _, _ => false
end
mutual
def P.dep : P → Nat
  | .tup ps => P.deps ps + 1
  | .lst ps => P.deps ps + 1
  | _ => 0
def P.deps : List P → Nat
  | [] => 0
  | p :: ps => max (P.dep p) (P.deps ps)
end
def toPg (g : Nat → Option P) : D → Option P
  | .non => some .non
  | .bl b => some (.bl b)
  | .int i => some (.int i)
  | .str x => some (.str x)
  | .tup ds => (all ds).map .tup
  | .ro ds => (all ds).map .lst
  | .ref i => g i
  | .ty _ => none
where all : List D → Option (List P)
  | [] => some []
  | d :: ds => match toPg g d, all ds with
    | some p, some ps => some (p :: ps)
    | _, _ => none
def toP : Nat → S → D → Option P
  | 0, _ => toPg fun _ => none
  | n + 1, s => toPg fun i => match lstAt s i with
    | some xs => (toPg.all (fun j => toP n s (.ref j)) xs).map .lst
    | none => none
def DEEP : Nat := 9
def dGet (k : D) (kvs : List (D × D)) : Option D := kvs.lookup k
def dEq (s : S) (ws : List (D × D)) : List (D × D) → Option Bool
  | [] => some true
  | (k, v) :: r => match dGet k ws with
    | none => some false
    | some w => match toP 8 s v, toP 8 s w, dEq s ws r with
      | some p, some q, some b => if P.dep p ≤ 64 ∧ P.dep q ≤ 64 then some (P.eqv p q && b) else none
      | _, _, _ => none
def eqDct (x y : D) (s : S) : R Bool := match x, y with
  | .ref i, .ref j => match s[i]?, s[j]? with
    | some (.dct ks), some (.dct ws) => if ks.length = ws.length then (match dEq s ws ks with | some b => .ok b s | none => .no) else .ok false s
    | _, _ => .no
  | _, _ => .no
@[simp] def eqD (x y : D) (s : S) : R Bool := match x, y with
  | .str a, .str b => .ok (decide (a = b)) s
  | .int a, .int b => .ok (decide (a = b)) s
  | .bl a, .bl b => .ok (decide (a = b)) s
  | .non, .non => .ok true s
  | x, y => match toP DEEP s x, toP DEEP s y with
    | some p, some q => if P.dep p ≤ 64 ∧ P.dep q ≤ 64 then .ok (P.eqv p q) s else .no
    | _, _ => eqDct x y s
@[simp] def cEq : CM := fun x y s => eqD x y s
@[simp] def cNe : CM := fun x y s => (eqD x y s).bind fun b s => .ok (!b) s
def subT (a : T) : T → Bool
  | [] => a.isEmpty
  | c :: r => a.isPrefixOf (c :: r) || subT a r
def flat : D → Bool
  | .non => true
  | .bl _ => true
  | .int _ => true
  | .str _ => true
  | _ => false
def eqF : D → D → Bool
  | .non, .non => true
  | .bl a, .bl b => a == b
  | .int a, .int b => a == b
  | .bl a, .int b => (if a then 1 else 0) == b
  | .int a, .bl b => a == (if b then 1 else 0)
  | .str a, .str b => a == b
  | _, _ => false
def memF (x : D) (xs : List D) : Bool := xs.any fun y => eqF y x
def keyOk : D → Bool
  | .int _ => true
  | .str _ => true
  | _ => false
@[simp] def inD (x y : D) (s : S) : R Bool := match y with
  | .str b => match x with
    | .str a => .ok (subT a b) s
    | _ => .no
  | .tup ys => if flat x && ys.all flat then .ok (memF x ys) s else .no
  | .ro ys => if flat x && ys.all flat then .ok (memF x ys) s else .no
  | .ref i => match s[i]? with
    | some (.lst ys) => if flat x && ys.all flat then .ok (memF x ys) s else .no
    | some (.dct kvs) => if keyOk x then .ok (dGet x kvs).isSome s else .no
    | _ => .no
  | _ => .no
@[simp] def cIn : CM := fun x y s => inD x y s
@[simp] def cNotIn : CM := fun x y s => (inD x y s).bind fun b s => .ok (!b) s
@[simp] def eCmp (c : CM) (a b : EM) : EM := fun σ s => (a σ s).bind fun x s => (b σ s).bind fun y s => (c x y s).bind fun k s => .ok (.bl k) s
@[simp] def tCmp (c : CM) (a b : EM) : TM := fun σ s => (a σ s).bind fun x s => (b σ s).bind fun y s => c x y s
@[simp] def truth : D → S → R Bool
  | .non, s => .ok false s
  | .bl b, s => .ok b s
  | .int i, s => .ok (decide (i ≠ 0)) s
  | .str x, s => if x.length ≤ SZ then .ok (!x.isEmpty) s else .no
  | .tup ds, s => .ok (!ds.isEmpty) s
  | .ro ds, s => .ok (!ds.isEmpty) s
  | .ref i, s => match s[i]? with
    | some (.lst xs) => .ok (!xs.isEmpty) s
    | some (.dct kvs) => .ok (!kvs.isEmpty) s
    | _ => .no
  | .ty _, _ => .no
@[simp] def tTru (a : EM) : TM := fun σ s => (a σ s).bind truth
@[simp] def tNot (a : TM) : TM := fun σ s => (a σ s).bind fun b s => .ok (!b) s
@[simp] def tAnd (a b : TM) : TM := fun σ s => (a σ s).bind fun k s => if k then b σ s else .ok false s
@[simp] def tOr (a b : TM) : TM := fun σ s => (a σ s).bind fun k s => if k then .ok true s else b σ s
@[simp] def asB : D → S → R Bool
  | .bl b, s => .ok b s
  | _, _ => .no
@[simp] def eAnd (a b : EM) : EM := fun σ s => (a σ s).bind fun x s => (asB x s).bind fun k s => if k then b σ s else .ok (.bl false) s
def ixN (n : Nat) (i : Int) : Option Nat := if 0 ≤ i then (if i < n then some i.toNat else none) else if -(n : Int) ≤ i then some (i + n).toNat else none
def atI {α : Type} (xs : List α) (i : Int) : Option α := (ixN xs.length i).bind fun j => xs[j]?
@[simp] def opIx : D → D → S → R D
  | .str x, .int i, s => if x.length ≤ SZ then (match atI x i with | some c => .ok (.str [c]) s | none => .no) else .no
  | .tup xs, .int i, s => match atI xs i with | some d => .ok d s | none => .no
  | .ro xs, .int i, s => match atI xs i with | some d => .ok d s | none => .no
  | .ref p, k, s => match s[p]? with
    | some (.lst xs) => (match k with | .int i => (match atI xs i with | some d => .ok d s | none => .no) | _ => .no)
    | some (.dct kvs) => if keyOk k then (match dGet k kvs with | some d => .ok d s | none => .no) else .no
    | _ => .no
  | _, _, _ => .no
def sIx (n d : Nat) : Option Int → Nat
  | none => d
  | some v => (if v < 0 then max (v + (n : Int)) 0 else min v (n : Int)).toNat
def cut {α : Type} (xs : List α) (lo hi : Option Int) : List α := (xs.drop (sIx xs.length 0 lo)).take (sIx xs.length xs.length hi - sIx xs.length 0 lo)
abbrev OM := St → S → R (Option Int)
@[simp] def oNone : OM := fun _ s => .ok none s
@[simp] def oSome (a : EM) : OM := fun σ s => (a σ s).bind fun x s => match x with | .int i => .ok (some i) s | _ => .no
@[simp] def slD (x : D) (lo hi : Option Int) (s : S) : R D := match x with
  | .str z => if z.length ≤ SZ then .ok (.str (cut z lo hi)) s else .no
  | .tup xs => if sIx xs.length 0 lo = 0 ∧ sIx xs.length xs.length hi = xs.length then .no else .ok (.tup (cut xs lo hi)) s
  | .ro xs => alloc (.lst (cut xs lo hi)) s
  | .ref p => match lstAt s p with
    | some xs => alloc (.lst (cut xs lo hi)) s
    | none => .no
  | _ => .no
@[simp] def eSl (a : EM) (lo hi : OM) : EM := fun σ s => (a σ s).bind fun x s => (lo σ s).bind fun l s => (hi σ s).bind fun h s => slD x l h s
@[simp] def revD (x : D) (s : S) : R D := match x with
  | .ref p => match lstAt s p with
    | some xs => alloc (.lst xs.reverse) s
    | none => .no
  | _ => .no
abbrev F := List D → S → R D
@[simp] def eCall (f : F) (a : AM) : EM := fun σ s => (a σ s).bind fun xs s => f xs s
@[simp] def tyOk (k : Kd) (x : D) (s : S) : Bool := match x with
  | .str _ => (match k with | .str => true | _ => false)
  | .ro _ => (match k with | .list => true | _ => false)
  | .ref p => match s[p]? with
    | some (.lst _) => (match k with | .list => true | _ => false)
    | some (.dct _) => (match k with | .dict => true | _ => false)
    | _ => false
  | _ => false
@[simp] def eM (k : Kd) (f : D → F) (o : EM) (a : AM) : EM := fun σ s => (o σ s).bind fun x s => if tyOk k x s then (a σ s).bind fun xs s => f x xs s else .no
@[simp] def fLen : F
  | [.str x], s => if x.length ≤ SZ then .ok (.int x.length) s else .no
  | [.tup xs], s => .ok (.int xs.length) s
  | [.ro xs], s => .ok (.int xs.length) s
  | [.ref p], s => match s[p]? with
    | some (.lst xs) => .ok (.int xs.length) s
    | some (.dct kvs) => .ok (.int kvs.length) s
    | _ => .no
  | _, _ => .no
@[simp] def isKind (n : Kd) (x : D) (s : S) : R Bool := match x with
  | .non => .ok false s
  | .bl _ => .ok (match n with | .bool => true | .int => true | _ => false) s
  | .int _ => .ok (match n with | .int => true | _ => false) s
  | .str _ => .ok (match n with | .str => true | _ => false) s
  | .tup _ => .ok (match n with | .tuple => true | _ => false) s
  | .ro _ => .ok (match n with | .list => true | _ => false) s
  | .ty _ => .no
  | .ref p => match s[p]? with
    | some (.lst _) => .ok (match n with | .list => true | _ => false) s
    | some (.dct _) => .ok (match n with | .dict => true | _ => false) s
    | _ => .no
@[simp] def fIsi : F
  | [x, .ty n], s => (isKind n x s).bind fun b s => .ok (.bl b) s
  | _, _ => .no
def bools : List D → Option (List Bool)
  | [] => some []
  | .bl b :: r => (bools r).map (b :: ·)
  | _ :: _ => none
def texts : List D → Option (List T)
  | [] => some []
  | .str x :: r => (texts r).map (x :: ·)
  | _ :: _ => none
def intsD : List D → Option (List Int)
  | [] => some []
  | .int x :: r => (intsD r).map (x :: ·)
  | _ :: _ => none
def kAll (xs : List D) (s : S) : R D := match bools xs with
  | some bs => .ok (.bl (bs.all id)) s
  | none => .no
@[simp] def fSeq (k : List D → S → R D) : F
  | [.tup xs], s => k xs s
  | [.ro xs], s => k xs s
  | [.ref p], s => match lstAt s p with
    | some xs => k xs s
    | none => .no
  | _, _ => .no
def joinT (x : T) : List T → T
  | [] => []
  | [y] => y
  | y :: r => y ++ x ++ joinT x r
def kJoin (x : T) (xs : List D) (s : S) : R D := match texts xs with
  | some ys => if (ys.map List.length).sum + ys.length * x.length ≤ SZ then .ok (.str (joinT x ys)) s else .no
  | none => .no
@[simp] def mJoin : D → F
  | .str x, xs, s => fSeq (kJoin x) xs s
  | _, _, _ => .no
def splitT (c : Nat) : T → List T
  | [] => [[]]
  | d :: r => if d = c then [] :: splitT c r else match splitT c r with
    | [] => [[d]]
    | p :: ps => (d :: p) :: ps
@[simp] def fList : F
  | [.tup xs], s => alloc (.lst xs) s
  | [.ro xs], s => alloc (.lst xs) s
  | [.ref p], s => match s[p]? with
    | some (.lst xs) => alloc (.lst xs) s
    | some (.dct kvs) => alloc (.lst (kvs.map (·.1))) s
    | _ => .no
  | _, _ => .no
@[simp] def fDict : F
  | [.ref p], s => match s[p]? with
    | some (.dct kvs) => alloc (.dct kvs) s
    | _ => .no
  | _, _ => .no
@[simp] def fTuple : F
  | [.tup xs], s => .ok (.tup xs) s
  | [.ref p], s => match lstAt s p with
    | some xs => .ok (.tup xs) s
    | none => .no
  | _, _ => .no
@[simp] def mAppend : D → F
  | .ref p, [y], s => match s[p]? with
    | some (.lst xs) => if xs.length < SZ then .ok .non (s.set p (.lst (xs ++ [y]))) else .no
    | _ => .no
  | _, _, _ => .no
def dPut (k v : D) (kvs : List (D × D)) : List (D × D) := if (kvs.any fun p => decide (p.1 = k)) = true then kvs.map fun p => if p.1 = k then (p.1, v) else p else kvs ++ [(k, v)]
def dDrop (k : D) (kvs : List (D × D)) : List (D × D) := kvs.filter fun p => decide (p.1 ≠ k)
@[simp] def eDict0 : EM := fun _ s => alloc (.dct []) s
@[simp] def mGet : D → F
  | .ref p, [k], s => match s[p]? with
    | some (.dct kvs) => if keyOk k then .ok ((dGet k kvs).getD .non) s else .no
    | _ => .no
  | .ref p, [k, d], s => match s[p]? with
    | some (.dct kvs) => if keyOk k then .ok ((dGet k kvs).getD d) s else .no
    | _ => .no
  | _, _, _ => .no
def minT : List T → Option T
  | [] => none
  | x :: r => some (r.foldl (fun b y => if y < b then y else b) x)
def kMin (xs : List D) (s : S) : R D := match texts xs with
  | some ys => (match minT ys with | some y => .ok (.str y) s | none => .no)
  | none => .no
@[simp] def fLst (k : List D → S → R D) : F
  | [.ref p], s => match lstAt s p with
    | some xs => k xs s
    | none => .no
  | _, _ => .no
@[simp] def fMin1 : F := fun xs s => fLst kMin xs s
where insT' (x : T) : List T → List T
  | [] => [x]
  | y :: r => if y < x then y :: insT' x r else x :: y :: r
def idxF (x : D) : List D → Option Nat
  | [] => none
  | y :: r => if eqF y x then some 0 else (idxF x r).map (· + 1)
@[simp] def mIndex : D → F
  | .ref p, [x], s => match lstAt s p with
    | some xs => if flat x && xs.all flat then (match idxF x xs with | some j => .ok (.int j) s | none => .no) else .no
    | none => .no
  | _, _, _ => .no
def dedT : List T → List T → List T
  | acc, [] => acc
  | acc, x :: r => dedT (if acc.contains x then acc else acc ++ [x]) r
@[simp] def fLenSet : F
  | [.ref p], s => match lstAt s p with
    | some xs => (match texts xs with | some ys => if ys.length ≤ 1000 then .ok (.int (dedT [] ys).length) s else .no | none => .no)
    | none => .no
  | _, _ => .no
@[simp] def mInsert : D → F
  | .ref p, [.int i, y], s => match s[p]? with
    | some (.lst xs) => if 0 ≤ i ∧ i ≤ xs.length ∧ xs.length < SZ then .ok .non (s.set p (.lst (xs.take i.toNat ++ y :: xs.drop i.toNat))) else .no
    | _ => .no
  | _, _, _ => .no
@[simp] def mPopD : D → F
  | .ref p, [k], s => match s[p]? with
    | some (.dct kvs) => if keyOk k then (match dGet k kvs with | some v => .ok v (s.set p (.dct (dDrop k kvs))) | none => .no) else .no
    | _ => .no
  | _, _, _ => .no
abbrev Gd := List (Nat × O)
def gdOk (g : Gd) (s : S) : Bool := g.all fun p => decide (s[p.1]? = some p.2)
abbrev IM := St → S → R (List D × Gd)
@[simp] def itD : D → S → R (List D × Gd)
  | .str x, s => if x.length ≤ SZ then .ok (x.map fun c => .str [c], []) s else .no
  | .tup ds, s => .ok (ds, []) s
  | .ro ds, s => .ok (ds, []) s
  | .ref i, s => match s[i]? with
    | some (.lst xs) => .ok (xs, [(i, .lst xs)]) s
    | _ => .no
  | _, _ => .no
@[simp] def iE (a : EM) : IM := fun σ s => (a σ s).bind itD
def rangeD (lo hi : Int) : List D := (List.range (hi - lo).toNat).map fun (k : Nat) => .int (lo + k)
@[simp] def iRange1 (a : EM) : IM := fun σ s => (a σ s).bind fun x s => match x with
  | .int j => if j.natAbs < 4611686018427387904 then .ok (rangeD 0 j, []) s else .no
  | _ => .no
def zipL : List D → List D → List D
  | a :: r, b :: t => .tup [a, b] :: zipL r t
  | _, _ => []
@[simp] def zipP : List D → S → R (List D × Gd)
  | [.ref i, .tup ds], s => (match s[i]? with | some (.lst xs) => .ok (zipL xs ds, [(i, .lst xs)]) s | _ => .no)
  | [.ref i, .ref j], s => (match lstAt s i, lstAt s j with | some xs, some ys => .ok (zipL xs ys, [(i, .lst xs), (j, .lst ys)]) s | _, _ => .no)
  | _, _ => .no
@[simp] def iZip (a b : EM) : IM := fun σ s => (aCons a (aCons b aNil) σ s).bind zipP
abbrev GM := D → St → Option St
@[simp] def gName (i : Nat) : GM := fun d σ => some (σ.set i (some d))
abbrev GMs := List D → St → Option St
@[simp] def gNil : GMs := fun ds σ => match ds with | [] => some σ | _ => none
@[simp] def gCons (g : GM) (r : GMs) : GMs := fun ds σ => match ds with
  | [] => none
  | d :: ds => match g d σ with
    | some σ' => r ds σ'
    | none => none
@[simp] def gTup (g : GMs) : GM := fun d σ => match d with
  | .tup ds => g ds σ
  | _ => none
def compL (g : Gd) (f : D → S → R (Option D)) : List D → S → R (List D)
  | [], s => .ok [] s
  | x :: xs, s => (f x s).bind fun o s => if gdOk g s then (compL g f xs s).bind fun ys s => .ok (match o with | some y => y :: ys | none => ys) s else .no
@[simp] def tYes : TM := fun _ s => .ok true s
@[simp] def compF (n : Nat) (tg : GM) (c : TM) (e : EM) (σ : St) : D → S → R (Option D) := fun x s => match tg x (σ ++ List.replicate n none) with
  | none => .no
  | some σ' => (c σ' s).bind fun b s => if b then (e σ' s).bind fun d s => .ok (some d) s else .ok none s
def compE (n : Nat) (it : IM) (tg : GM) (c : TM) (e : EM) : AM := fun σ s => (it σ s).bind fun p s => if p.1.length ≤ SZ ∧ gdOk p.2 s = true then compL p.2 (compF n tg c e σ) p.1 s else .no
@[simp] def eComp (n : Nat) (it : IM) (tg : GM) (c : TM) (e : EM) : EM := fun σ s => (compE n it tg c e σ s).bind fun ys s => alloc (.lst ys) s
@[simp] def eCompK (k : List D → S → R D) (n : Nat) (it : IM) (tg : GM) (c : TM) (e : EM) : EM := fun σ s => (compE n it tg c e σ s).bind k
inductive RS where
  | nx (σ : St) (s : S) | rt (d : D) (s : S) | bk (σ : St) (s : S) | ct (σ : St) (s : S) | exc (e : D) (σ : St) (s : S) | no
abbrev SM := St → S → RS
def R.stm {α : Type} (r : R α) (σ : St) (f : α → S → RS) : RS := match r with
  | .ok a s => f a s
  | .exc e s => .exc e σ s
  | .no => .no
@[simp] theorem R.stm_ok {α : Type} (a : α) (s : S) (σ : St) (f : α → S → RS) : (R.ok a s).stm σ f = f a s := rfl
@[simp] theorem R.stm_no {α : Type} (σ : St) (f : α → S → RS) : (R.no : R α).stm σ f = .no := rfl
def RS.then (r : RS) (f : SM) : RS := match r with
  | .nx σ s => f σ s
  | r => r
@[simp] theorem RS.then_nx (σ : St) (s : S) (f : SM) : (RS.nx σ s).then f = f σ s := rfl
@[simp] theorem RS.then_rt (d : D) (s : S) (f : SM) : (RS.rt d s).then f = .rt d s := rfl
@[simp] theorem RS.then_no (f : SM) : RS.no.then f = .no := rfl
@[simp] theorem RS.then_bk (σ : St) (s : S) (f : SM) : (RS.bk σ s).then f = .bk σ s := rfl
section
variable {α : Type} {c : Prop} [Decidable c]
@[simp] theorem R.stm_ite (a b : R α) (σ : St) (f : α → S → RS) : (if c then a else b).stm σ f = if c then a.stm σ f else b.stm σ f := by split <;> rfl
@[simp] theorem RS.ite_nx (a b : St) (s : S) : (if c then RS.nx a s else RS.nx b s) = RS.nx (if c then a else b) s := by split <;> rfl
@[simp] theorem RS.ite_rt (a b : D) (s : S) : (if c then RS.rt a s else RS.rt b s) = RS.rt (if c then a else b) s := by split <;> rfl
@[simp] theorem RS.then_ite (a b : RS) (f : SM) : (if c then a else b).then f = if c then a.then f else b.then f := by split <;> rfl
end
@[simp] theorem RS.then_exc (e : D) (σ : St) (s : S) (f : SM) : (RS.exc e σ s).then f = .exc e σ s := rfl
@[simp] theorem R.stm_exc {α : Type} (e : D) (s : S) (σ : St) (f : α → S → RS) : (R.exc e s : R α).stm σ f = .exc e σ s := rfl
@[simp] theorem RS.then_ct (σ : St) (s : S) (f : SM) : (RS.ct σ s).then f = .ct σ s := rfl
@[simp] def sNil : SM := fun σ s => .nx σ s
@[simp] def sSeq (a b : SM) : SM := fun σ s => (a σ s).then b
@[simp] def sExpr (e : EM) : SM := fun σ s => (e σ s).stm σ fun _ s => .nx σ s
@[simp] def sRet (e : EM) : SM := fun σ s => (e σ s).stm σ fun d s => .rt d s
@[simp] def sSet (i : Nat) (e : EM) : SM := fun σ s => (e σ s).stm σ fun d s => .nx (σ.set i (some d)) s
@[simp] def setIx (x k y : D) (s : S) : R Unit := match x with
  | .ref p => (match s[p]? with
    | some (.lst xs) => (match k with
      | .int i => (match ixN xs.length i with | some j => .ok () (s.set p (.lst (xs.set j y))) | none => .no)
      | _ => .no)
    | some (.dct kvs) => if keyOk k && decide (kvs.length < SZ) then .ok () (s.set p (.dct (dPut k y kvs))) else .no
    | _ => .no)
  | _ => .no
@[simp] def sSub (o k e : EM) : SM := fun σ s => (e σ s).stm σ fun y s => (o σ s).stm σ fun x s => (k σ s).stm σ fun k s => (setIx x k y s).stm σ fun _ s => .nx σ s
@[simp] def sIf (c : TM) (a b : SM) : SM := fun σ s => (c σ s).stm σ fun k s => if k then a σ s else b σ s
def forL (g : Gd) (f : D → SM) : List D → SM
  | [], σ, s => .nx σ s
  | x :: xs, σ, s => match f x σ s with
    | .nx σ s => if gdOk g s then forL g f xs σ s else .no
    | .ct σ s => if gdOk g s then forL g f xs σ s else .no
    | .bk σ s => .nx σ s
    | r => r
@[simp] def forF (tg : GM) (b : SM) : D → SM := fun x σ s => match tg x σ with
  | some σ' => b σ' s
  | none => .no
@[simp] def sFor (it : IM) (tg : GM) (b : SM) : SM := fun σ s => (it σ s).stm σ fun p s => if gdOk p.2 s = true then forL p.2 (forF tg b) p.1 σ s else .no
@[simp] def thaw (i : Nat) (kvs : List (D × D)) : RS → RS
  | .nx σ s => if s[i]? = some (.ins 1000 []) then .nx σ (s.set i (.dct kvs)) else .no
  | .bk σ s => if s[i]? = some (.ins 1000 []) then .bk σ (s.set i (.dct kvs)) else .no
  | .ct σ s => if s[i]? = some (.ins 1000 []) then .ct σ (s.set i (.dct kvs)) else .no
  | .rt d s => if s[i]? = some (.ins 1000 []) then .rt d (s.set i (.dct kvs)) else .no
  | _ => .no
@[simp] def sForItems (m : EM) (tg : GM) (b : SM) : SM := fun σ s => (m σ s).stm σ fun x s => match x with
  | .ref i => (match s[i]? with
    | some (.dct kvs) => thaw i kvs (forL [] (forF tg b) (kvs.map fun p => .tup [p.1, p.2]) σ (s.set i (.ins 1000 [])))
    | _ => .no)
  | _ => .no
def whileF : Nat → TM → SM → SM
  | 0, _, _, _, _ => .no
  | n + 1, c, b, σ, s => (c σ s).stm σ fun k s => if k then (match b σ s with
    | .nx σ s => whileF n c b σ s
    | .ct σ s => whileF n c b σ s
    | .bk σ s => .nx σ s
    | r => r) else .nx σ s
def FUEL : Nat := 1000000000000
@[simp] def sWhile (c : TM) (b : SM) : SM := fun σ s => whileF FUEL c b σ s
def RS.out (r : RS) : R D := match r with
  | .rt d s => .ok d s
  | .nx _ s => .ok .non s
  | .exc e _ s => .exc e s
  | _ => .no
@[simp] theorem RS.out_rt (d : D) (s : S) : (RS.rt d s).out = .ok d s := rfl
@[simp] theorem RS.out_nx (σ : St) (s : S) : (RS.nx σ s).out = .ok .non s := rfl
@[simp] theorem RS.out_no : RS.no.out = .no := rfl
@[simp] theorem RS.out_exc (e : D) (σ : St) (s : S) : (RS.exc e σ s).out = .exc e s := rfl
@[simp] theorem RS.out_ite {c : Prop} [Decidable c] (a b : RS) : (if c then a else b).out = if c then a.out else b.out := by split <;> rfl
@[simp] def fn (n : Nat) (b : SM) : F := fun xs s => (b (xs.map some ++ List.replicate (n - xs.length) none) s).out
def D.cl (n : Nat) : D → Bool
  | .ref i => decide (i < n)
  | .tup ds => all ds
  | .ro ds => all ds
  | _ => true
where all : List D → Bool
  | [] => true
  | d :: ds => D.cl n d && all ds
def O.cl (n : Nat) : O → Bool
  | .lst xs => D.cl.all n xs
  | .dct kvs => kvs.all fun p => D.cl n p.1 && D.cl n p.2
  | .ins _ fs => fs.all fun o => match o with | some d => D.cl n d | none => true
def clS (n : Nat) (s : S) : Bool := s.all (O.cl n)
def D.ren (e : List Nat) : D → D
  | .ref i => .ref (e.getD i i)
  | .tup ds => .tup (all ds)
  | .ro ds => .ro (all ds)
  | d => d
where all : List D → List D
  | [] => []
  | d :: ds => D.ren e d :: all ds
def O.ren (e : List Nat) : O → O
  | .lst xs => .lst (D.ren.all e xs)
  | .dct kvs => .dct (kvs.map fun p => (D.ren e p.1, D.ren e p.2))
  | .ins c fs => .ins c (fs.map (Option.map (D.ren e)))
end M
namespace M
structure Emb (n : Nat) (e : List Nat) (S' S1 : S) : Prop where
  len : e.length = S'.length
  nd : e.Nodup
  le : n ≤ S'.length
  old : ∀ i, i < n → e[i]? = some i
  obj : ∀ (i : Nat) o, S'[i]? = some o → ∃ j, e[i]? = some j ∧ S1[j]? = some (O.ren e o) ∧ O.cl S'.length o = true
def Refines (n : Nat) (f q : F) : Prop := ∀ ds S, ds.length = n → clS S.length S = true → D.cl.all S.length ds = true →
  q ds S = .no ∨ ∃ d S' S1 e, q ds S = .ok d S' ∧ f ds S = .ok (D.ren e d) S1 ∧ Emb S.length e S' S1 ∧ D.cl S'.length d = true
section
variable {e : List Nat}
mutual
theorem D.ren_id (h : ∀ i, e.getD i i = i) : ∀ d : D, D.ren e d = d
  | .non => rfl
  | .bl _ => rfl
  | .int _ => rfl
  | .str _ => rfl
  | .ty _ => rfl
  | .ref i => by show D.ref (e.getD i i) = _; rw [h]
  | .tup ds => by show D.tup (D.ren.all e ds) = _; rw [D.rens_id h]
  | .ro ds => by show D.ro (D.ren.all e ds) = _; rw [D.rens_id h]
theorem D.rens_id (h : ∀ i, e.getD i i = i) : ∀ ds : List D, D.ren.all e ds = ds
  | [] => rfl
  | d :: ds => by show D.ren e d :: D.ren.all e ds = _; rw [D.ren_id h, D.rens_id h]
end
theorem O.ren_id (h : ∀ i, e.getD i i = i) (o : O) : O.ren e o = o := by
  cases o with
  | lst xs => show O.lst _ = _; rw [D.rens_id h]
  | dct kvs =>
    show O.dct (kvs.map fun p => (D.ren e p.1, D.ren e p.2)) = _
    have : (fun p : D × D => (D.ren e p.1, D.ren e p.2)) = id := by funext p; rw [D.ren_id h, D.ren_id h]; rfl
    rw [this, List.map_id]
  | ins c fs =>
    show O.ins c (fs.map (Option.map (D.ren e))) = _
    have : Option.map (D.ren e) = id := by funext o; cases o with | none => rfl | some d => show some _ = _; rw [D.ren_id h]; rfl
    rw [this, List.map_id]
theorem range_getD (n i : Nat) : (List.range n).getD i i = i := by
  rw [List.getD_eq_getElem?_getD]
  by_cases h : i < n
  · rw [List.getElem?_range h]; rfl
  · rw [List.getElem?_eq_none (by simp; omega)]; rfl
end
section
variable {e : List Nat} {n : Nat}
mutual
theorem D.ren_old (h : ∀ i, i < n → e[i]? = some i) : ∀ d : D, D.cl n d = true → D.ren e d = d
  | .non, _ => rfl
  | .bl _, _ => rfl
  | .int _, _ => rfl
  | .str _, _ => rfl
  | .ty _, _ => rfl
  | .ref i, c => by
    have hi : i < n := of_decide_eq_true c
    show D.ref (e.getD i i) = _
    rw [List.getD_eq_getElem?_getD, h i hi]; rfl
  | .tup ds, c => by show D.tup (D.ren.all e ds) = _; rw [D.rens_old h ds c]
  | .ro ds, c => by show D.ro (D.ren.all e ds) = _; rw [D.rens_old h ds c]
theorem D.rens_old (h : ∀ i, i < n → e[i]? = some i) : ∀ ds : List D, D.cl.all n ds = true → D.ren.all e ds = ds
  | [], _ => rfl
  | d :: ds, c => by
    have c' : (D.cl n d && D.cl.all n ds) = true := c
    rw [Bool.and_eq_true] at c'
    show D.ren e d :: D.ren.all e ds = _
    rw [D.ren_old h d c'.1, D.rens_old h ds c'.2]
end
theorem O.ren_old (h : ∀ i, i < n → e[i]? = some i) (o : O) (c : O.cl n o = true) : O.ren e o = o := by
  cases o with
  | lst xs => show O.lst _ = _; rw [D.rens_old h xs c]
  | dct kvs =>
    show O.dct (kvs.map fun p => (D.ren e p.1, D.ren e p.2)) = _
    congr 1
    conv => rhs; rw [← List.map_id kvs]
    refine List.map_congr_left fun p hp => ?_
    have c1 := List.all_eq_true.mp c p hp
    rw [Bool.and_eq_true] at c1
    rw [D.ren_old h _ c1.1, D.ren_old h _ c1.2]; rfl
  | ins cc fs =>
    show O.ins cc (fs.map (Option.map (D.ren e))) = _
    congr 1
    conv => rhs; rw [← List.map_id fs]
    refine List.map_congr_left fun p hp => ?_
    cases p with
    | none => rfl
    | some d =>
      have c1 := List.all_eq_true.mp c (some d) hp
      show some _ = some _
      rw [D.ren_old h d c1]
mutual
theorem D.cl_mono {m : Nat} (h : n ≤ m) : ∀ d : D, D.cl n d = true → D.cl m d = true
  | .non, _ => rfl
  | .bl _, _ => rfl
  | .int _, _ => rfl
  | .str _, _ => rfl
  | .ty _, _ => rfl
  | .ref i, c => decide_eq_true (Nat.lt_of_lt_of_le (of_decide_eq_true c) h)
  | .tup ds, c => D.cls_mono h ds c
  | .ro ds, c => D.cls_mono h ds c
theorem D.cls_mono {m : Nat} (h : n ≤ m) : ∀ ds : List D, D.cl.all n ds = true → D.cl.all m ds = true
  | [], _ => rfl
  | d :: ds, c => by
    have c' : (D.cl n d && D.cl.all n ds) = true := c
    rw [Bool.and_eq_true] at c'
    show (D.cl m d && D.cl.all m ds) = true
    rw [D.cl_mono h d c'.1, D.cls_mono h ds c'.2]; rfl
end
theorem O.cl_mono {m : Nat} (h : n ≤ m) (o : O) (c : O.cl n o = true) : O.cl m o = true := by
  cases o with
  | lst xs => exact D.cls_mono h xs c
  | dct kvs =>
    refine List.all_eq_true.mpr fun p hp => ?_
    have c1 := List.all_eq_true.mp c p hp
    rw [Bool.and_eq_true] at c1 ⊢
    exact ⟨D.cl_mono h _ c1.1, D.cl_mono h _ c1.2⟩
  | ins cc fs =>
    refine List.all_eq_true.mpr fun p hp => ?_
    have c1 := List.all_eq_true.mp c p hp
    cases p with
    | none => rfl
    | some d => exact D.cl_mono h d c1
theorem clS_get {S : M.S} (h : clS n S = true) {i : Nat} {o : O} (e : S[i]? = some o) : O.cl n o = true := List.all_eq_true.mp h o (List.mem_of_getElem? e)
end
theorem emb_drop {S S' g : M.S} (hn : S.length ≤ S'.length) (c : clS S'.length S' = true) : Emb S.length (List.range S'.length) S' (S' ++ g) :=
  ⟨by simp, List.nodup_range, hn, fun i hi => by rw [List.getElem?_range (by omega)], fun i o q => by
    have hi : i < S'.length := (List.getElem?_eq_some_iff.mp q).1
    exact ⟨i, by rw [List.getElem?_range hi], by rw [List.getElem?_append_left hi, O.ren_id (range_getD _), q], clS_get c q⟩⟩
theorem emb_new {S g : M.S} {o : O} {j : Nat} (c : clS S.length S = true) (co : O.cl S.length o = true) (hj : (S ++ g)[j]? = some o) (hle : S.length ≤ j) : Emb S.length (List.range S.length ++ [j]) (S ++ [o]) (S ++ g) := by
  have old : ∀ i, i < S.length → (List.range S.length ++ [j])[i]? = some i := fun i hi => by
    rw [List.getElem?_append_left (by simpa using hi), List.getElem?_range hi]
  refine ⟨by simp, ?_, by simp, old, fun i ob q => ?_⟩
  · rw [List.nodup_append]
    refine ⟨List.nodup_range, by simp, fun a ha b hb => ?_⟩
    have h1 := List.mem_range.mp ha
    have h2 : b = j := by simpa using hb
    omega
  · by_cases hi : i < S.length
    · rw [List.getElem?_append_left hi] at q
      have cq := clS_get c q
      exact ⟨i, old i hi, by rw [List.getElem?_append_left hi, O.ren_old old ob cq, q], O.cl_mono (by simp) ob cq⟩
    · rw [List.getElem?_append_right (by omega)] at q
      have hz : i - S.length = 0 := by
        cases hz : i - S.length with
        | zero => rfl
        | succ k => rw [hz] at q; simp at q
      rw [hz] at q
      simp at q
      subst q
      refine ⟨j, ?_, by rw [O.ren_old old o co, hj], O.cl_mono (by simp) o co⟩
      rw [List.getElem?_append_right (by simp; omega)]
      simp [hz]
theorem Refines.pure {n : Nat} {f q : F} (h : ∀ ds S, ds.length = n → clS S.length S = true → D.cl.all S.length ds = true → q ds S = .no ∨ ∃ d g, q ds S = .ok d S ∧ f ds S = .ok d (S ++ g) ∧ D.cl S.length d = true) : Refines n f q := fun ds S hl c ca => by
  rcases h ds S hl c ca with e | ⟨d, g, e1, e2, e3⟩
  · exact .inl e
  · exact .inr ⟨d, S, S ++ g, List.range S.length, e1, by rw [D.ren_id (range_getD _)]; exact e2, emb_drop (Nat.le_refl _) c, e3⟩
theorem Refines.new {n : Nat} {f q : F} (h : ∀ ds S, ds.length = n → clS S.length S = true → D.cl.all S.length ds = true → q ds S = .no ∨ ∃ o j g, q ds S = alloc o S ∧ f ds S = .ok (.ref j) (S ++ g) ∧ (S ++ g)[j]? = some o ∧ S.length ≤ j ∧ O.cl S.length o = true) : Refines n f q := fun ds S hl c ca => by
  rcases h ds S hl c ca with e | ⟨o, j, g, e1, e2, e3, e4, e5⟩
  · exact .inl e
  · refine .inr ⟨.ref S.length, S ++ [o], S ++ g, List.range S.length ++ [j], e1, ?_, emb_new c e5 e3 e4, ?_⟩
    · rw [e2]
      show R.ok (D.ref j) _ = R.ok (D.ref ((List.range S.length ++ [j]).getD S.length S.length)) _
      rw [List.getD_eq_getElem?_getD, List.getElem?_append_right (by simp)]
      simp
    · show decide (S.length < (S ++ [o]).length) = true
      simp
noncomputable def chS (m : F) : F := fun ds s => @dite (R D) (∃ d g, m ds s = .ok d (s ++ g) ∧ D.cl s.length d = true) (Classical.propDecidable _) (fun h => .ok h.choose s) (fun _ => .no)
theorem chS_rf {n : Nat} (m : F) : Refines n m (chS m) := Refines.pure fun ds S hl c ca => by
  unfold chS
  by_cases h : ∃ d g, m ds S = .ok d (S ++ g) ∧ D.cl S.length d = true
  · obtain ⟨g, e, k⟩ := h.choose_spec
    exact .inr ⟨h.choose, g, by rw [dif_pos h], e, k⟩
  · exact .inl (by rw [dif_neg h])
theorem chS_at {m : F} {ds : List D} {s g : S} {d : D} (e : m ds s = .ok d (s ++ g)) (k : D.cl s.length d = true) : chS m ds s = .ok d s := by
  have h : ∃ d g, m ds s = .ok d (s ++ g) ∧ D.cl s.length d = true := ⟨d, g, e, k⟩
  obtain ⟨g', e', _⟩ := h.choose_spec
  have e2 : d = h.choose := by
    have e3 := e.symm.trans e'
    injection e3
  unfold chS
  rw [dif_pos h, ← e2]
end M
namespace M
theorem compL_map {g : Gd} {f : D → S → R (Option D)} {s : S} {h : D → D} (hg : gdOk g s = true) : ∀ {xs : List D}, (∀ x ∈ xs, f x s = .ok (some (h x)) s) → compL g f xs s = .ok (xs.map h) s
  | [], _ => rfl
  | x :: xs, e => by
    show (f x s).bind _ = _
    rw [e x List.mem_cons_self, R.bind_ok, if_pos hg, compL_map hg fun y hy => e y (List.mem_cons_of_mem _ hy)]
    rfl
theorem comp_map {n : Nat} {it : IM} {tg : GM} {e : EM} {σ : St} {s : S} {xs : List D} {g : Gd} (h : D → D) (hi : it σ s = .ok (xs, g) s) (hl : xs.length ≤ SZ) (hg : gdOk g s = true) (he : ∀ x ∈ xs, compF n tg tYes e σ x s = .ok (some (h x)) s) : compE n it tg tYes e σ s = .ok (xs.map h) s := by
  unfold compE
  rw [hi, R.bind_ok, if_pos ⟨hl, hg⟩]
  exact compL_map hg he
theorem comp_range {n : Nat} {it : IM} {tg : GM} {e : EM} {σ : St} {s : S} {lo hi : Int} (h : Nat → D) (hit : it σ s = .ok (rangeD lo hi, []) s) (hl : (hi - lo).toNat ≤ SZ) (he : ∀ k : Nat, k < (hi - lo).toNat → compF n tg tYes e σ (.int (lo + k)) s = .ok (some (h k)) s) :
    compE n it tg tYes e σ s = .ok ((List.range (hi - lo).toNat).map h) s := by
  have := comp_map (n := n) (tg := tg) (e := e) (fun d => match d with | .int i => h (i - lo).toNat | d => d) hit (by simpa [rangeD] using hl) rfl fun x hx => by
    obtain ⟨k, hk, rfl⟩ := List.mem_map.mp hx
    have e : (lo + (k : Int) - lo).toNat = k := by omega
    rw [he k (List.mem_range.mp hk)]
    show R.ok (some (h k)) s = R.ok (some (h (lo + (k : Int) - lo).toNat)) s
    rw [e]
  rw [this]
  unfold rangeD
  rw [List.map_map]
  have e2 : ∀ k : Nat, (lo + (k : Int) - lo).toNat = k := fun k => by omega
  have e3 : ((fun d => match d with | .int i => h (i - lo).toNat | d => d) ∘ fun (k : Nat) => D.int (lo + k)) = h := by
    funext k
    show h (lo + (k : Int) - lo).toNat = h k
    rw [e2]
  rw [e3]
theorem bools_map {α : Type} (f : α → Bool) (xs : List α) : bools (xs.map fun x => .bl (f x)) = some (xs.map f) := by
  induction xs with
  | nil => rfl
  | cons x xs ih => show (bools (xs.map fun x => D.bl (f x))).map _ = _; rw [ih]; rfl
theorem all_map {α : Type} (f : α → Bool) (xs : List α) (s : S) : kAll (xs.map fun x => .bl (f x)) s = .ok (.bl (xs.all f)) s := by
  unfold kAll
  rw [bools_map]
  simp [List.all_map]
theorem cut_le {α : Type} (xs : List α) (lo hi : Option Int) : (cut xs lo hi).length ≤ xs.length := by
  unfold cut
  rw [List.length_take, List.length_drop]; omega
theorem cut_hi {α : Type} (xs : List α) {k : Int} (h : 0 ≤ k) : cut xs none (some k) = xs.take k.toNat := by
  unfold cut sIx
  have : ¬ k < 0 := by omega
  simp only [List.drop_zero, if_neg this, Nat.sub_zero]
  by_cases hk : k ≤ xs.length
  · rw [show (min k (xs.length : Int)).toNat = k.toNat by omega]
  · rw [List.take_of_length_le (by omega), List.take_of_length_le (by omega)]
theorem cut_lo {α : Type} (xs : List α) {k : Int} (h : 0 ≤ k) : cut xs (some k) none = xs.drop k.toNat := by
  unfold cut sIx
  have : ¬ k < 0 := by omega
  simp only [if_neg this]
  by_cases hk : k ≤ xs.length
  · rw [show (min k (xs.length : Int)).toNat = k.toNat by omega, List.take_of_length_le (by rw [List.length_drop]; omega)]
  · rw [List.drop_of_length_le (by omega), List.drop_of_length_le (by omega)]; simp
theorem texts_map {α : Type} (f : α → T) (xs : List α) : texts (xs.map fun x => .str (f x)) = some (xs.map f) := by
  induction xs with
  | nil => rfl
  | cons x xs ih => show (texts (xs.map fun x => D.str (f x))).map _ = _; rw [ih]; rfl
theorem texts_str (xs : List T) : texts (xs.map .str) = some xs := by
  have := texts_map (fun x : T => x) xs
  rwa [List.map_id'] at this
theorem joinT_flatten (xs : List T) : joinT [] xs = xs.flatten := by
  induction xs with
  | nil => rfl
  | cons x xs ih =>
    cases xs with
    | nil => simp [joinT]
    | cons y ys => show x ++ [] ++ joinT [] (y :: ys) = _; rw [ih]; simp
theorem flatten_ones {α β : Type} (f : α → β) (xs : List α) : (xs.map fun x => [f x]).flatten = xs.map f := by
  induction xs with
  | nil => rfl
  | cons x xs ih => rw [List.map_cons, List.flatten_cons, ih]; rfl
theorem sum_ones {α : Type} (f : α → Nat) (xs : List α) : ((xs.map fun x => [f x]).map List.length).sum = xs.length := by
  induction xs with
  | nil => rfl
  | cons x xs ih => rw [List.map_cons, List.map_cons, List.sum_cons, ih, List.length_cons]; show 1 + xs.length = xs.length + 1; omega
theorem join_ones {α : Type} (f : α → Nat) (xs : List α) (s : S) (h : xs.length ≤ SZ) : kJoin [] (xs.map fun x => .str [f x]) s = .ok (.str (xs.map f)) s := by
  unfold kJoin
  rw [texts_map]
  dsimp only
  rw [if_pos, joinT_flatten, flatten_ones]
  rw [sum_ones]
  simpa using h
theorem cl_strs (n : Nat) : ∀ ts : List T, D.cl.all n (ts.map .str) = true
  | [] => rfl
  | _ :: ts => by
    show (D.cl n (.str _) && D.cl.all n (ts.map .str)) = true
    rw [cl_strs n ts]; rfl
theorem mem_strs (x : T) : ∀ ts : List T, memF (.str x) (ts.map .str) = ts.contains x
  | [] => rfl
  | t :: ts => by
    have := mem_strs x ts
    unfold memF at this ⊢
    rw [List.map_cons, List.any_cons, this, List.contains_cons]
    simp [eqF, BEq.comm (a := t)]
theorem flat_strs (ts : List T) : (ts.map D.str).all flat = true := by
  rw [List.all_map]; exact List.all_eq_true.mpr fun _ _ => rfl
theorem atI_pos {α : Type} {xs : List α} {k : Int} (h0 : 0 ≤ k) (h : k < xs.length) (d : α) : atI xs k = some (xs.getD k.toNat d) := by
  unfold atI ixN
  rw [if_pos h0, if_pos h]
  have hk : k.toNat < xs.length := by omega
  simp [List.getD_eq_getElem?_getD, hk]
theorem app_get {S : M.S} {p : Nat} {o : O} (e : S[p]? = some o) (g : M.S) : (S ++ g)[p]? = some o := by
  rw [List.getElem?_append_left (List.getElem?_eq_some_iff.mp e).1]
  exact e
theorem forL_step {g : Gd} {f : D → SM} (I : Nat → St → S → Prop) : ∀ (xs : List D) (i : Nat) (σ : St) (s : S), I i σ s → (∀ (j : Nat) x, xs[j]? = some x → ∀ σ s, I (i + j) σ s → ∃ σ' s', f x σ s = .nx σ' s' ∧ gdOk g s' = true ∧ I (i + j + 1) σ' s') → ∃ σ' s', forL g f xs σ s = .nx σ' s' ∧ I (i + xs.length) σ' s'
  | [], i, σ, s, h, _ => ⟨σ, s, rfl, h⟩
  | x :: xs, i, σ, s, h, e => by
    obtain ⟨σ1, s1, e1, hg, h1⟩ := e 0 x rfl σ s h
    obtain ⟨σ2, s2, e2, h2⟩ := forL_step I xs (i + 1) σ1 s1 h1 fun j y hy σ s hI => by
      have := e (j + 1) y (by simpa using hy) σ s (by rw [show i + (j + 1) = i + 1 + j by omega]; exact hI)
      rwa [show i + (j + 1) + 1 = i + 1 + j + 1 by omega] at this
    refine ⟨σ2, s2, ?_, by rw [List.length_cons, show i + (xs.length + 1) = i + 1 + xs.length by omega]; exact h2⟩
    show (match f x σ s with | .nx σ s => if gdOk g s then forL g f xs σ s else .no | .ct σ s => if gdOk g s then forL g f xs σ s else .no | .bk σ s => .nx σ s | r => r) = _
    rw [e1]
    dsimp only
    rw [if_pos hg, e2]
theorem gdOk_app {g : Gd} {s t : S} (h : gdOk g s = true) : gdOk g (s ++ t) = true := by
  unfold gdOk at h ⊢
  rw [List.all_eq_true] at h ⊢
  intro p hp
  exact decide_eq_true (app_get (of_decide_eq_true (h p hp)) t)
theorem compL_grow {g : Gd} {f : D → S → R (Option D)} {s0 : S} {h : D → D} (hg : gdOk g s0 = true) : ∀ {xs : List D} (t : S), (∀ x ∈ xs, ∀ t, ∃ t', f x (s0 ++ t) = .ok (some (h x)) (s0 ++ t')) → ∃ t', compL g f xs (s0 ++ t) = .ok (xs.map h) (s0 ++ t')
  | [], t, _ => ⟨t, rfl⟩
  | x :: xs, t, e => by
    obtain ⟨t1, e1⟩ := e x List.mem_cons_self t
    obtain ⟨t2, e2⟩ := compL_grow hg (xs := xs) t1 fun y hy => e y (List.mem_cons_of_mem _ hy)
    refine ⟨t2, ?_⟩
    show (f x (s0 ++ t)).bind _ = _
    rw [e1, R.bind_ok, if_pos (gdOk_app hg), e2]
    rfl
theorem comp_grow {n : Nat} {it : IM} {tg : GM} {e : EM} {σ : St} {s : S} {xs : List D} {g : Gd} (h : D → D) (hi : it σ s = .ok (xs, g) s) (hl : xs.length ≤ SZ) (hg : gdOk g s = true) (he : ∀ x ∈ xs, ∀ t, ∃ t', compF n tg tYes e σ x (s ++ t) = .ok (some (h x)) (s ++ t')) : ∃ t', compE n it tg tYes e σ s = .ok (xs.map h) (s ++ t') := by
  unfold compE
  rw [hi, R.bind_ok, if_pos ⟨hl, hg⟩]
  have := compL_grow (t := []) hg he
  rwa [List.append_nil] at this
theorem P_strs (g : Nat → Option P) : ∀ ts : List T, toPg.all g (ts.map .str) = some (ts.map P.str)
  | [] => rfl
  | t :: ts => by
    show (match toPg g (.str t), toPg.all g (ts.map .str) with | some p, some ps => some (p :: ps) | _, _ => none) = _
    rw [P_strs g ts]
    rfl
theorem deps_strs : ∀ ts : List T, P.deps (ts.map P.str) = 0
  | [] => by simp [P.deps]
  | t :: ts => by simp [P.deps, P.dep, deps_strs ts]
theorem eqvs_strs : ∀ ts us : List T, P.eqvs (ts.map P.str) (us.map P.str) = decide (ts = us)
  | [], [] => by simp [P.eqvs]
  | [], u :: us => by simp [P.eqvs]
  | t :: ts, [] => by simp [P.eqvs]
  | t :: ts, u :: us => by
    simp only [List.map_cons, P.eqvs, P.eqv, eqvs_strs ts us]
    by_cases h : t = u <;> by_cases h2 : ts = us <;> simp [h, h2]
theorem eqD_tups (ts us : List T) (s : S) : eqD (.tup (ts.map .str)) (.tup (us.map .str)) s = .ok (decide (ts = us)) s := by
  have h : ∀ vs : List T, toP DEEP s (.tup (vs.map .str)) = some (.tup (vs.map P.str)) := fun vs => by
    show (toPg.all _ (vs.map .str)).map P.tup = _
    rw [P_strs]; rfl
  simp only [eqD, h]
  simp only [P.dep, deps_strs, P.eqv, eqvs_strs]
  rfl
theorem eqD_lists {s : S} {p q : Nat} {ts us : List T} (hp : s[p]? = some (.lst (ts.map .str))) (hq : s[q]? = some (.lst (us.map .str))) : eqD (.ref p) (.ref q) s = .ok (decide (ts = us)) s := by
  have h : ∀ (r : Nat) (vs : List T), s[r]? = some (.lst (vs.map .str)) → toP DEEP s (.ref r) = some (.lst (vs.map P.str)) := fun r vs e => by
    show (match lstAt s r with | some xs => (toPg.all (fun j => toP 8 s (.ref j)) xs).map P.lst | none => none) = _
    have : lstAt s r = some (vs.map .str) := by simp [lstAt, e]
    rw [this]
    show (toPg.all _ (vs.map .str)).map P.lst = _
    rw [P_strs]; rfl
  simp only [eqD, h p ts hp, h q us hq]
  simp only [P.dep, deps_strs, P.eqv, eqvs_strs]
  rfl
end M
namespace L2
open PySem PySem.Spec PyProof.Rows
def ofT (x : M.T) : Str := ⟨x.toArray⟩
theorem ofT_len (x : M.T) : (ofT x).length = x.length := by simp [ofT, Str.length]
theorem ofT_list (x : M.T) : (ofT x).cps.toList = x := by simp [ofT]
theorem ofT_inj {x y : M.T} (h : ofT x = ofT y) : x = y := by rw [← ofT_list x, h, ofT_list]
theorem ofT_app (x y : M.T) : ofT x ++ ofT y = ofT (x ++ y) := by
  show (⟨x.toArray ++ y.toArray⟩ : Str) = _
  simp [ofT]
abbrev okT (x : M.T) : Prop := x.all (fun c => decide (c < 1114112)) = true
theorem okT_app {x y : M.T} (h : okT x) (k : okT y) : okT (x ++ y) := by show (x ++ y).all _ = true; rw [List.all_append, h, k]; rfl
theorem okT_sub {x y : M.T} (h : okT x) (k : ∀ c ∈ y, c ∈ x) : okT y := List.all_eq_true.mpr fun c hc => List.all_eq_true.mp h c (k c hc)
theorem SZ_eq : M.SZ = sizeLine := by rw [sizeLine_eq]; rfl
def RolL (K : PySem.W.Frag) (H : Hp) (a : Addr) (xs : List V) : Prop :=
  (∃ o, H a = some (.frz o (.lst xs))) ∨
    ∃ (o : Obj) (its : Array Value) (n : Nat), K.lookup a = some o ∧ o.cls = .type "list" ∧ o.dict = none ∧ o.data = .seq its n ∧ its.size ≤ sizeLine ∧ Vals xs its.toList
theorem RolL.sq {K : PySem.W.Frag} {H : Hp} {a : Addr} {xs : List V} (h : RolL K H a xs) : SqL K H a xs := by
  rcases h with ⟨o, h⟩ | h
  · exact .inl (.inr ⟨o, h⟩)
  · exact .inr h
structure Le (H H' : Hp) : Prop where
  tups : ∀ b xs, H b = some (.tup xs) → H' b = some (.tup xs)
  frzs : ∀ b o u, H b = some (.frz o u) → H' b = some (.frz o u)
theorem Le.refl (H : Hp) : Le H H := ⟨fun _ _ h => h, fun _ _ _ h => h⟩
theorem Le.trans {H H1 H2 : Hp} (a : Le H H1) (b : Le H1 H2) : Le H H2 := ⟨fun c xs h => b.tups c xs (a.tups c xs h), fun c o u h => b.frzs c o u (a.frzs c o u h)⟩
theorem Le.new {H : Hp} {p : Addr} (h : H p = none) (o : HO) : Le H (upd H p o) :=
  ⟨fun b xs q => by rw [upd_ne (ne_of_none q h)]; exact q, fun b o u q => by rw [upd_ne (ne_of_none q h)]; exact q⟩
theorem Le.put {H : Hp} {p : Addr} (h : Mut (H p)) (o : HO) : Le H (upd H p o) :=
  ⟨fun b xs q => by rw [upd_ne (fun z => by subst z; rw [q] at h; exact h)]; exact q, fun b o u q => by rw [upd_ne (fun z => by subst z; rw [q] at h; exact h)]; exact q⟩
theorem Le.rol {K : PySem.W.Frag} {H H' : Hp} {a : Addr} {xs : List V} (e : Le H H') (h : RolL K H a xs) : RolL K H' a xs := by
  rcases h with ⟨o, h⟩ | h
  · exact .inl ⟨o, e.frzs _ _ _ h⟩
  · exact .inr h
theorem Le.sqT {K : PySem.W.Frag} {H H' : Hp} {a : Addr} {xs : List V} (e : Le H H') (h : SqT K H a xs) : SqT K H' a xs := by
  rcases h with (h | ⟨o, h⟩) | h
  · exact .inl (.inl (e.tups _ _ h))
  · exact .inl (.inr ⟨o, e.frzs _ _ _ h⟩)
  · exact .inr h
def kdName : M.Kd → String
  | .str => "str" | .int => "int" | .bool => "bool" | .list => "list" | .tuple => "tuple" | .dict => "dict"
def RelD (K : PySem.W.Frag) (ρ : List Addr) (H : Hp) : M.D → V → Prop
  | .non, v => v = .non
  | .bl b, v => v = .bl b
  | .int i, v => v = .int i
  | .str x, v => v = .str (ofT x) ∧ okT x
  | .ty n, v => v = .ty (kdName n)
  | .ref i, v => ∃ a, v = .ref a ∧ ρ[i]? = some a
  | .tup ds, v => ∃ a xs, v = .ref a ∧ SqT K H a xs ∧ all ds xs
  | .ro ds, v => ∃ a xs, v = .ref a ∧ RolL K H a xs ∧ all ds xs
where all : List M.D → List V → Prop
  | [], xs => xs = []
  | d :: ds, xs => ∃ y ys, xs = y :: ys ∧ RelD K ρ H d y ∧ all ds ys
abbrev RelDs (K : PySem.W.Frag) (ρ : List Addr) (H : Hp) : List M.D → List V → Prop := RelD.all K ρ H
theorem pre_get {ρ ρ' : List Addr} (h : ρ <+: ρ') {i : Nat} {a : Addr} (e : ρ[i]? = some a) : ρ'[i]? = some a := by
  obtain ⟨t, rfl⟩ := h
  rw [List.getElem?_append_left (List.getElem?_eq_some_iff.mp e).1]
  exact e
section
variable {K : PySem.W.Frag} {ρ ρ' : List Addr} {H H' : Hp}
mutual
theorem RelD.mono (hρ : ρ <+: ρ') (le : Le H H') : ∀ {d : M.D} {v : V}, RelD K ρ H d v → RelD K ρ' H' d v
  | .non, _, h => h
  | .bl _, _, h => h
  | .int _, _, h => h
  | .str _, _, h => h
  | .ty _, _, h => h
  | .ref _, _, ⟨a, e, h⟩ => ⟨a, e, pre_get hρ h⟩
  | .tup _, _, ⟨a, xs, e, h, r⟩ => ⟨a, xs, e, le.sqT h, RelDs.mono hρ le r⟩
  | .ro _, _, ⟨a, xs, e, h, r⟩ => ⟨a, xs, e, le.rol h, RelDs.mono hρ le r⟩
theorem RelDs.mono (hρ : ρ <+: ρ') (le : Le H H') : ∀ {ds : List M.D} {xs : List V}, RelDs K ρ H ds xs → RelDs K ρ' H' ds xs
  | [], _, h => h
  | _ :: _, _, ⟨y, ys, e, h, r⟩ => ⟨y, ys, e, RelD.mono hρ le h, RelDs.mono hρ le r⟩
end
theorem RelDs.length : ∀ {ds : List M.D} {xs : List V}, RelDs K ρ H ds xs → ds.length = xs.length
  | [], _, h => by cases h; rfl
  | _ :: _, _, ⟨_, _, e, _, r⟩ => by subst e; rw [List.length_cons, List.length_cons, RelDs.length r]
theorem RelDs.get : ∀ {ds : List M.D} {xs : List V} {i : Nat} {d : M.D}, RelDs K ρ H ds xs → ds[i]? = some d → ∃ v, xs[i]? = some v ∧ RelD K ρ H d v
  | [], _, _, _, _, e => by simp at e
  | _ :: _, _, 0, _, ⟨y, _, e1, h, _⟩, e => by subst e1; simp at e; subst e; exact ⟨y, rfl, h⟩
  | _ :: _, _, i + 1, d, ⟨_, ys, e1, _, r⟩, e => by
    subst e1
    obtain ⟨v, h1, h2⟩ := RelDs.get (i := i) (d := d) r (by simpa using e)
    exact ⟨v, by simpa using h1, h2⟩
theorem RelDs.app : ∀ {ds es : List M.D} {xs ys : List V}, RelDs K ρ H ds xs → RelDs K ρ H es ys → RelDs K ρ H (ds ++ es) (xs ++ ys)
  | [], _, _, _, h, k => by cases h; exact k
  | _ :: _, _, _, _, ⟨y, ys, e, h, r⟩, k => by subst e; exact ⟨y, _, rfl, h, RelDs.app r k⟩
theorem RelDs.take : ∀ {ds : List M.D} {xs : List V} (n : Nat), RelDs K ρ H ds xs → RelDs K ρ H (ds.take n) (xs.take n)
  | _, _, 0, _ => rfl
  | [], _, _ + 1, h => by cases h; rfl
  | _ :: _, _, n + 1, ⟨y, ys, e, h, r⟩ => by subst e; exact ⟨y, _, rfl, h, RelDs.take n r⟩
theorem RelDs.drop : ∀ {ds : List M.D} {xs : List V} (n : Nat), RelDs K ρ H ds xs → RelDs K ρ H (ds.drop n) (xs.drop n)
  | _, _, 0, h => h
  | [], _, _ + 1, h => by cases h; rfl
  | _ :: _, _, n + 1, ⟨y, ys, e, h, r⟩ => by subst e; exact RelDs.drop n r
theorem RelDs.set {d : M.D} {v : V} (hd : RelD K ρ H d v) : ∀ {ds : List M.D} {xs : List V} (n : Nat), RelDs K ρ H ds xs → RelDs K ρ H (ds.set n d) (xs.set n v)
  | [], _, _, h => by cases h; rfl
  | _ :: _, _, 0, ⟨y, ys, e, h, r⟩ => by subst e; exact ⟨v, ys, rfl, hd, r⟩
  | _ :: _, _, n + 1, ⟨y, ys, e, h, r⟩ => by subst e; exact ⟨y, _, rfl, h, RelDs.set hd n r⟩
end
section
variable {K : PySem.W.Frag} {ρ ρ' : List Addr} {H H' : Hp} {ds es : List M.D} {xs ys : List V}
theorem RelD.all.mono (h : RelD.all K ρ H ds xs) (hρ : ρ <+: ρ') (le : Le H H') : RelD.all K ρ' H' ds xs := RelDs.mono hρ le h
theorem RelD.all.length (h : RelD.all K ρ H ds xs) : ds.length = xs.length := RelDs.length h
theorem RelD.all.app (h : RelD.all K ρ H ds xs) (k : RelD.all K ρ H es ys) : RelD.all K ρ H (ds ++ es) (xs ++ ys) := RelDs.app h k
end
def KeyR : M.D → Key → Prop
  | .int i, k => k = .inl i
  | .str x, k => k = .inr (ofT x) ∧ okT x
  | _, _ => False
abbrev Tab := Nat → Option (Addr × List Str)
structure InsR (K : PySem.W.Frag) (ρ : List Addr) (H : Hp) (N : List Str) (fs : List (Option M.D)) (gs : List (Str × V)) : Prop where
  len : fs.length = N.length
  nd : (gs.map (·.1)).Nodup
  within : ∀ f ∈ gs.map (·.1), f ∈ N
  get : ∀ (i : Nat) (f : Str) (d : M.D), N[i]? = some f → fs[i]? = some (some d) → ∃ v, gs.lookup f = some v ∧ RelD K ρ H d v
def ObR (K : PySem.W.Frag) (Θ : Tab) (ρ : List Addr) (H : Hp) (a : Addr) : M.O → Prop
  | .lst ds => ∃ xs, H a = some (.lst xs) ∧ RelDs K ρ H ds xs
  | .dct kvs => ∃ ks, H a = some (.dK ks) ∧ Paired (fun (p : M.D × M.D) (q : Key × V) => KeyR p.1 q.1 ∧ RelD K ρ H p.2 q.2) kvs ks
  | .ins c fs => (Θ c = none ∧ fs = [] ∧ ∃ u, H a = some u) ∨ ∃ C dx gs N, H a = some (.ins C dx gs) ∧ Θ c = some (C, N) ∧ InsR K ρ H N fs gs
structure RepS (K : PySem.W.Frag) (Θ : Tab) (ρ : List Addr) (S : M.S) (H : Hp) : Prop where
  len : ρ.length = S.length
  nd : ρ.Nodup
  obj : ∀ (i : Nat) (o : M.O), S[i]? = some o → ∃ a, ρ[i]? = some a ∧ ObR K Θ ρ H a o
structure RelSt (K : PySem.W.Frag) (ρ : List Addr) (H : Hp) (σ' : M.St) (σ : St) : Prop where
  len : σ'.length = σ.length
  get : ∀ (i : Nat) (d : M.D), σ'[i]? = some (some d) → ∃ v, σ[i]? = some (some v) ∧ RelD K ρ H d v
section
variable {K : PySem.W.Frag} {Θ : Tab} {ρ ρ' : List Addr} {H H' : Hp} {S : M.S}
theorem RelSt.mono {σ' : M.St} {σ : St} (h : RelSt K ρ H σ' σ) (hρ : ρ <+: ρ') (le : Le H H') : RelSt K ρ' H' σ' σ :=
  ⟨h.len, fun i d e => let ⟨v, h1, h2⟩ := h.get i d e; ⟨v, h1, h2.mono hρ le⟩⟩
theorem RelSt.set {σ' : M.St} {σ : St} {d : M.D} {v : V} (h : RelSt K ρ H σ' σ) (hd : RelD K ρ H d v) (i : Nat) : RelSt K ρ H (σ'.set i (some d)) (σ.set i (some v)) := by
  refine ⟨by rw [List.length_set, List.length_set, h.len], fun j e q => ?_⟩
  by_cases hj : i = j
  · subst hj
    by_cases hl : i < σ'.length
    · rw [List.getElem?_set_self hl] at q
      cases q
      exact ⟨v, by rw [List.getElem?_set_self (h.len ▸ hl)], hd⟩
    · rw [List.getElem?_eq_none (by rw [List.length_set]; omega)] at q
      cases q
  · rw [List.getElem?_set_ne hj] at q
    rw [List.getElem?_set_ne hj]
    exact h.get j e q
theorem RelSt.more {σ' : M.St} {σ : St} (h : RelSt K ρ H σ' σ) (n : Nat) : RelSt K ρ H (σ' ++ List.replicate n none) (σ ++ List.replicate n none) := by
  refine ⟨by simp [h.len], fun i d q => ?_⟩
  by_cases hl : i < σ'.length
  · rw [List.getElem?_append_left hl] at q
    rw [List.getElem?_append_left (h.len ▸ hl)]
    exact h.get i d q
  · rw [List.getElem?_append_right (by omega), List.getElem?_replicate] at q
    split at q <;> cases q
theorem RepS.tracked (h : RepS K Θ ρ S H) {a : Addr} (m : a ∈ ρ) : ∃ o, H a = some o := by
  obtain ⟨i, hi, e⟩ := List.mem_iff_getElem.mp m
  have hl : i < S.length := h.len ▸ hi
  obtain ⟨a', e1, r⟩ := h.obj i S[i] (by simp [hl])
  rw [List.getElem?_eq_getElem hi, e] at e1
  cases e1
  cases q : S[i] with
  | lst ds => rw [q] at r; obtain ⟨xs, e2, _⟩ := r; exact ⟨_, e2⟩
  | dct kvs => rw [q] at r; obtain ⟨xs, e2, _⟩ := r; exact ⟨_, e2⟩
  | ins c fs => rw [q] at r; rcases r with ⟨_, _, u, e2⟩ | ⟨_, _, _, _, e2, _⟩ <;> exact ⟨_, e2⟩
theorem RepS.fresh (h : RepS K Θ ρ S H) {p : Addr} (hp : H p = none) : p ∉ ρ := fun m => by
  obtain ⟨o, e⟩ := h.tracked m
  rw [hp] at e; cases e
theorem ObR.stay {a : Addr} {o : M.O} (h : ObR K Θ ρ H a o) (hρ : ρ <+: ρ') (le : Le H H') (e : H' a = H a) : ObR K Θ ρ' H' a o := by
  cases o with
  | lst ds => obtain ⟨xs, e1, r⟩ := h; exact ⟨xs, e.trans e1, r.mono hρ le⟩
  | dct kvs => obtain ⟨ks, e1, r⟩ := h; exact ⟨ks, e.trans e1, Paired.mapP r fun p q z => ⟨z.1, z.2.mono hρ le⟩⟩
  | ins c fs =>
    rcases h with ⟨f1, f2, u, f3⟩ | ⟨C, dx, gs, N, e1, e2, r⟩
    · exact .inl ⟨f1, f2, u, e.trans f3⟩
    exact .inr ⟨C, dx, gs, N, e.trans e1, e2, r.len, r.nd, r.within, fun i f d h1 h2 => let ⟨v, k1, k2⟩ := r.get i f d h1 h2; ⟨v, k1, k2.mono hρ le⟩⟩
theorem RepS.stay (h : RepS K Θ ρ S H) (le : Le H H') (e : ∀ a ∈ ρ, H' a = H a) : RepS K Θ ρ S H' :=
  ⟨h.len, h.nd, fun i o q => let ⟨a, h1, h2⟩ := h.obj i o q; ⟨a, h1, h2.stay (List.prefix_refl _) le (e a (List.mem_of_getElem? h1))⟩⟩
theorem RepS.aside (h : RepS K Θ ρ S H) {p : Addr} (hp : H p = none) (o : HO) : RepS K Θ ρ S (upd H p o) :=
  h.stay (Le.new hp o) fun a m => upd_ne (fun z => h.fresh hp (z ▸ m))
theorem RepS.alloc (h : RepS K Θ ρ S H) {p : Addr} (hp : H p = none) {o : M.O} {u : HO} (r : ObR K Θ (ρ ++ [p]) (upd H p u) p o) : RepS K Θ (ρ ++ [p]) (S ++ [o]) (upd H p u) := by
  refine ⟨by simp [h.len], ?_, fun i ob q => ?_⟩
  · rw [List.nodup_append]
    refine ⟨h.nd, by simp, fun a ha b hb => ?_⟩
    have hb' : b = p := by simpa using hb
    rw [hb']
    exact fun z => h.fresh hp (z ▸ ha)
  · by_cases hl : i < S.length
    · rw [List.getElem?_append_left hl] at q
      obtain ⟨a, h1, h2⟩ := h.obj i ob q
      refine ⟨a, pre_get (List.prefix_append _ _) h1, h2.stay (List.prefix_append _ _) (Le.new hp u) (upd_ne fun z => h.fresh hp (z ▸ List.mem_of_getElem? h1))⟩
    · rw [List.getElem?_append_right (by omega)] at q
      have hi : i - S.length = 0 := by
        cases hz : i - S.length with
        | zero => rfl
        | succ k => rw [hz] at q; simp at q
      rw [hi] at q
      simp at q
      subst q
      refine ⟨p, ?_, r⟩
      rw [List.getElem?_append_right (by rw [h.len]; omega), h.len, hi]
      rfl
theorem nodup_at {α : Type} {ρ : List α} (hN : ρ.Nodup) {i j : Nat} {x : α} (a : ρ[i]? = some x) (b : ρ[j]? = some x) : i = j := by
  induction ρ generalizing i j with
  | nil => simp at a
  | cons y r ih =>
    rw [List.nodup_cons] at hN
    cases i with
    | zero =>
      cases j with
      | zero => rfl
      | succ j =>
        simp at a b
        subst a
        exact absurd (List.mem_of_getElem? b) hN.1
    | succ i =>
      cases j with
      | zero =>
        simp at a b
        subst b
        exact absurd (List.mem_of_getElem? a) hN.1
      | succ j =>
        simp at a b
        rw [ih hN.2 a b]
theorem nodup_of {α : Type} {l : List α} (h : ∀ (i j : Nat) x, l[i]? = some x → l[j]? = some x → i = j) : l.Nodup := by
  induction l with
  | nil => exact List.nodup_nil
  | cons y r ih =>
    refine List.nodup_cons.mpr ⟨fun m => ?_, ih fun i j x a b => ?_⟩
    · obtain ⟨j, hj, e⟩ := List.mem_iff_getElem.mp m
      have := h 0 (j + 1) y (by simp) (by simp [e, hj])
      omega
    · have := h (i + 1) (j + 1) x (by simpa using a) (by simpa using b)
      omega
theorem nodup_get {α : Type} {l : List α} (hN : l.Nodup) {i j : Nat} (hi : i < l.length) (hj : j < l.length) (e : l[i] = l[j]) : i = j :=
  nodup_at hN (x := l[i]) (by simp [hi]) (by rw [e]; simp [hj])
theorem RepS.put (h : RepS K Θ ρ S H) {i : Nat} {a : Addr} (ha : ρ[i]? = some a) {o : M.O} {u : HO} (mu : Mut (H a)) (r : ObR K Θ ρ (upd H a u) a o) : RepS K Θ ρ (S.set i o) (upd H a u) := by
  refine ⟨by simp [h.len], h.nd, fun j ob q => ?_⟩
  by_cases hj : i = j
  · subst hj
    by_cases hl : i < S.length
    · rw [List.getElem?_set_self hl] at q
      cases q
      exact ⟨a, ha, r⟩
    · rw [List.getElem?_eq_none (by rw [List.length_set]; omega)] at q
      cases q
  · rw [List.getElem?_set_ne hj] at q
    obtain ⟨b, h1, h2⟩ := h.obj j ob q
    refine ⟨b, h1, h2.stay (List.prefix_refl _) (Le.put mu u) (upd_ne fun z => ?_)⟩
    subst z
    exact hj (nodup_at h.nd ha h1)
end
def Post {α β : Type} (K : PySem.W.Frag) (Θ : Tab) (Rl : List Addr → Hp → α → β → Prop) (ρ : List Addr) (H : Hp) : M.R α → (β → Hp → Prop) → Prop
  | .ok a S', Q => ∀ ρ' H' b, ρ <+: ρ' → Le H H' → RepS K Θ ρ' S' H' → Rl ρ' H' a b → Q b H'
  | .exc _ _, _ => False
  | .no, _ => False
abbrev rB : List Addr → Hp → Bool → Bool → Prop := fun _ _ a b => a = b
abbrev rO : List Addr → Hp → Option Int → Option Int → Prop := fun _ _ a b => a = b
section
variable {K : PySem.W.Frag} {Θ : Tab} {ρ ρ' : List Addr} {H H' : Hp} {S : M.S} {α β γ δ : Type} {Rl : List Addr → Hp → α → β → Prop} {Rk : List Addr → Hp → γ → δ → Prop} {Q : β → Hp → Prop} {Q' : δ → Hp → Prop}
theorem Post.weak {r : M.R α} (h : Post K Θ Rl ρ H r Q) (hρ : ρ <+: ρ') (le : Le H H') : Post K Θ Rl ρ' H' r Q := by
  cases r with
  | ok a s => exact fun ρ2 H2 b p l => h ρ2 H2 b (hρ.trans p) (le.trans l)
  | exc e s => exact h
  | no => exact h
theorem Post.bind {r : M.R α} {f : α → M.S → M.R γ} (h : Post K Θ Rk ρ H (r.bind f) Q')
    (k : ∀ ρ' H' a b S', ρ <+: ρ' → Le H H' → RepS K Θ ρ' S' H' → Rl ρ' H' a b → Post K Θ Rk ρ' H' (f a S') Q' → Q b H') : Post K Θ Rl ρ H r Q := by
  cases r with
  | ok a s => exact fun ρ2 H2 b p l rp rl => k ρ2 H2 a b s p l rp rl (Post.weak h p l)
  | exc e s => exact h
  | no => exact h
theorem Post.here {a : α} {b : β} (h : Post K Θ Rl ρ H (.ok a S) Q) (rp : RepS K Θ ρ S H) (rl : Rl ρ H a b) : Q b H := h ρ H b (List.prefix_refl _) (Le.refl _) rp rl
end
def RdE (K : PySem.W.Frag) (Θ : Tab) (m : M.EM) : TE := fun σ H Q => ∃ ρ σ' S, RelSt K ρ H σ' σ ∧ RepS K Θ ρ S H ∧ Post K Θ (RelD K) ρ H (m σ' S) Q
def RdT (K : PySem.W.Frag) (Θ : Tab) (m : M.TM) : TT := fun σ H Q => ∃ ρ σ' S, RelSt K ρ H σ' σ ∧ RepS K Θ ρ S H ∧ Post K Θ rB ρ H (m σ' S) Q
def RdA (K : PySem.W.Frag) (Θ : Tab) (m : M.AM) : TA := fun σ H Q => ∃ ρ σ' S, RelSt K ρ H σ' σ ∧ RepS K Θ ρ S H ∧ Post K Θ (RelDs K) ρ H (m σ' S) Q
def RdO (K : PySem.W.Frag) (Θ : Tab) (m : M.OM) : TO := fun σ H Q => ∃ ρ σ' S, RelSt K ρ H σ' σ ∧ RepS K Θ ρ S H ∧ Post K Θ rO ρ H (m σ' S) Q
abbrev ME (X : Cx) (Θ : Tab) (e : Expr) (m : M.EM) : Prop := PE X e (RdE X.K Θ m)
@[irreducible] def WE (X : Cx) (Θ : Tab) (e : Expr) (m : M.EM) : Prop := ME X Θ e m
abbrev MT (X : Cx) (Θ : Tab) (e : Expr) (m : M.TM) : Prop := PT X e (RdT X.K Θ m)
@[irreducible] def WT (X : Cx) (Θ : Tab) (e : Expr) (m : M.TM) : Prop := MT X Θ e m
abbrev MW (X : Cx) (Θ : Tab) (e : Expr) (m : M.TM) : Prop := PW X e (RdT X.K Θ m)
@[irreducible] def WW (X : Cx) (Θ : Tab) (e : Expr) (m : M.TM) : Prop := MW X Θ e m
abbrev MA (X : Cx) (Θ : Tab) (es : List Expr) (m : M.AM) : Prop := PA X es (RdA X.K Θ m)
@[irreducible] def WA (X : Cx) (Θ : Tab) (es : List Expr) (m : M.AM) : Prop := MA X Θ es m
abbrev MO (X : Cx) (Θ : Tab) (e : Option Expr) (m : M.OM) : Prop := PO X e (RdO X.K Θ m)
@[irreducible] def WO (X : Cx) (Θ : Tab) (e : Option Expr) (m : M.OM) : Prop := MO X Θ e m
theorem PE.imp {X : Cx} {e : Expr} {t t' : TE} (h : PE X e t) (i : ∀ σ H Q, t' σ H Q → t σ H Q) : PE X e t' := fun pins s σ H Q I q => h pins s σ H Q I (i σ H Q q)
theorem PT.imp {X : Cx} {e : Expr} {t t' : TT} (h : PT X e t) (i : ∀ σ H Q, t' σ H Q → t σ H Q) : PT X e t' := fun pins s σ H Q I q => h pins s σ H Q I (i σ H Q q)
theorem PW.imp {X : Cx} {e : Expr} {t t' : TT} (h : PW X e t) (i : ∀ σ H Q, t' σ H Q → t σ H Q) : PW X e t' := fun wh pins s σ H Q I q => h wh pins s σ H Q I (i σ H Q q)
theorem PA.imp {X : Cx} {es : List Expr} {t t' : TA} (h : PA X es t) (i : ∀ σ H Q, t' σ H Q → t σ H Q) : PA X es t' := fun pos pins s σ H Q I q => h pos pins s σ H Q I (i σ H Q q)
theorem PO.imp {X : Cx} {e : Option Expr} {t t' : TO} (h : PO X e t) (i : ∀ σ H Q, t' σ H Q → t σ H Q) : PO X e t' := fun pins s σ H Q I q => h pins s σ H Q I (i σ H Q q)
def notStar : Expr → Bool
  | .Starred _ _ => false
  | _ => true
theorem star_cons {e : Expr} {es : List Expr} {env : Env} (h : notStar e = true) : starEach (e :: es) env = (false, eval e env) :: starEach es env := by
  cases e <;> first | rfl | cases h
theorem star_any {env : Env} {pos : Pos} : ∀ {es : List Expr}, es.all notStar = true → (backTo pos (starEach es env)).any (·.1) = false
  | [], _ => rfl
  | e :: es, h => by
    rw [List.all_cons, Bool.and_eq_true] at h
    rw [star_cons h.1]
    show (false || (backTo pos (starEach es env)).any (·.1)) = false
    rw [star_any h.2]; rfl
theorem star_all {env : Env} {pos : Pos} : ∀ {es : List Expr}, es.all notStar = true → (backTo pos (starEach es env)).all (fun x => !x.1) = true
  | [], _ => rfl
  | e :: es, h => by
    rw [List.all_cons, Bool.and_eq_true] at h
    rw [star_cons h.1]
    show (true && (backTo pos (starEach es env)).all (fun x => !x.1)) = true
    rw [star_all h.2]; rfl
theorem star_few {env : Env} {pos : Pos} {es : List Expr} (h : es.all notStar = true) (hl : es.length < 30) : ((backTo pos (starEach es env)).all (fun x => !x.1) && (backToKw pos (keywordEach [] env)).all (fun x => x.1.isSome)
    && decide (es.length + ([] : List Keyword).length + (if ([] : List Keyword).isEmpty then 0 else 1) < 30)) = true := by
  rw [star_all h, Bool.true_and, Bool.and_eq_true]
  exact ⟨rfl, decide_eq_true (by simpa using hl)⟩
section
variable {X : Cx} {Θ : Tab} {a b c : Expr} {pos : Pos} {ma mb mc : M.EM} {ta tb : M.TM} {rest : List Expr}
theorem me_var (i : Nat) {x : Str} (hN : X.N[i]? = some x := by rfl) (hv : Vis X.env.scope x := by first | exact Or.inl rfl | exact Or.inr (Or.inl rfl) | exact Or.inr (Or.inr rfl)) (hd : (x == ("__debug__" : Str)) = false := by decide)
    (hcd : (x == ("__classdict__" : Str)) = false := by decide) : ME X Θ (.Name x pos) (M.eVar i) := (pe_var hN hv hd hcd).imp fun σ H Q ⟨ρ, σ', S, st, rp, h⟩ => by
  unfold M.eVar at h
  split at h
  · rename_i d e
    obtain ⟨v, e1, r⟩ := st.get i d e
    exact ⟨v, e1, h.here rp r⟩
  · exact h.elim
theorem w_me_var (i : Nat) {x : Str} (hN : X.N[i]? = some x := by rfl) (hv : Vis X.env.scope x := by first | exact Or.inl rfl | exact Or.inr (Or.inl rfl) | exact Or.inr (Or.inr rfl)) (hd : (x == ("__debug__" : Str)) = false := by decide)
    (hcd : (x == ("__classdict__" : Str)) = false := by decide) : WE X Θ (.Name x pos) (M.eVar i) := by with_unfolding_all exact me_var i (x := x) hN hv hd hcd
theorem me_of {e : Expr} {v : V} {d : M.D} (h : PE X e (tC v)) (r : ∀ ρ H, RelD X.K ρ H d v) : ME X Θ e (M.eC d) := h.imp fun σ H Q ⟨ρ, σ', S, st, rp, h⟩ => h.here rp (r ρ H)
theorem me_int {i : Int} {j : Nat} : ME X Θ (.Constant (.int i) j pos) (M.eC (.int i)) := me_of pe_int fun _ _ => rfl
theorem w_me_int {i : Int} {j : Nat} : WE X Θ (.Constant (.int i) j pos) (M.eC (.int i)) := by with_unfolding_all exact me_int (i := i) (j := j)
theorem me_bl {k : Bool} {j : Nat} : ME X Θ (.Constant (.bool k) j pos) (M.eC (.bl k)) := me_of pe_bl fun _ _ => rfl
theorem w_me_bl {k : Bool} {j : Nat} : WE X Θ (.Constant (.bool k) j pos) (M.eC (.bl k)) := by with_unfolding_all exact me_bl (k := k) (j := j)
theorem me_non {j : Nat} : ME X Θ (.Constant .none j pos) (M.eC .non) := me_of pe_non fun _ _ => rfl
theorem w_me_non {j : Nat} : WE X Θ (.Constant .none j pos) (M.eC .non) := by with_unfolding_all exact me_non (j := j)
theorem me_str {y : M.T} {x : Str} {j : Nat} (h : x = ofT y) (ok : okT y) : ME X Θ (.Constant (.str x) j pos) (M.eC (.str y)) := me_of pe_str fun _ _ => by rw [h]; exact ⟨rfl, ok⟩
theorem w_me_str {y : M.T} {x : Str} {j : Nat} (h : x = ofT y) (ok : okT y) : WE X Θ (.Constant (.str x) j pos) (M.eC (.str y)) := by with_unfolding_all exact me_str (y := y) (x := x) (j := j) h ok
theorem me_ty (n : M.Kd) {x : Str} (hg : Gl X x) (hm : X.mg x = none) (hv : bootBuiltins x = some (.type (kdName n))) (hn : x ≠ "__name__" := by decide) (hd : (x == ("__debug__" : Str)) = false := by decide) : ME X Θ (.Name x pos) (M.eC (.ty n)) :=
  me_of (pe_bltn (v := .ty (kdName n)) hg hm hv rfl hn hd) fun _ _ => rfl
theorem w_me_ty (n : M.Kd) {x : Str} (hg : Gl X x) (hm : X.mg x = none) (hv : bootBuiltins x = some (.type (kdName n))) (hn : x ≠ "__name__" := by decide) (hd : (x == ("__debug__" : Str)) = false := by decide) : WE X Θ (.Name x pos) (M.eC (.ty n)) := by with_unfolding_all exact me_ty n (x := x) hg hm hv hn hd
def Ad2 (K : PySem.W.Frag) (Θ : Tab) (f : M.D → M.D → M.S → M.R M.D) (r : R2) : Prop := ∀ ρ H S x y X Y Q, RepS K Θ ρ S H → RelD K ρ H x X → RelD K ρ H y Y → Post K Θ (RelD K) ρ H (f x y S) Q → r X Y H Q
def AdC (K : PySem.W.Frag) (Θ : Tab) (f : M.CM) (r : R2) : Prop := ∀ ρ H S x y X Y (Q : VK), RepS K Θ ρ S H → RelD K ρ H x X → RelD K ρ H y Y → Post K Θ rB ρ H (f x y S) (fun b H' => Q (.bl b) H') → r X Y H Q
def AdN (K : PySem.W.Frag) (Θ : Tab) (f : M.F) (r : List V → Hp → VK → Prop) : Prop := ∀ ρ H S xs Xs Q, RepS K Θ ρ S H → RelDs K ρ H xs Xs → Post K Θ (RelD K) ρ H (f xs S) Q → r Xs H Q
def AdM (K : PySem.W.Frag) (Θ : Tab) (f : M.D → M.F) (r : V → List V → Hp → VK → Prop) : Prop :=
  ∀ ρ H S x xs X Xs Q, RepS K Θ ρ S H → RelD K ρ H x X → RelDs K ρ H xs Xs → Post K Θ (RelD K) ρ H (f x xs S) Q → r X Xs H Q
theorem me_op {op : Operator} {f : M.D → M.D → M.S → M.R M.D} {r : R2} (ho : OpR X (binaryOp op) r) (ad : Ad2 X.K Θ f r) (ha : ME X Θ a ma) (hb : ME X Θ b mb) : ME X Θ (.BinOp a op b pos) (M.eOp f ma mb) :=
  (pe_op ho ha hb).imp fun σ H Q ⟨ρ, σ', S, st, rp, h⟩ => ⟨ρ, σ', S, st, rp, Post.bind h fun ρ1 H1 x X1 S1 p1 l1 rp1 rx h1 => ⟨ρ1, σ', S1, st.mono p1 l1, rp1,
    Post.bind h1 fun ρ2 H2 y Y S2 p2 l2 rp2 ry h2 => ad ρ2 H2 S2 x y X1 Y Q rp2 (rx.mono p2 l2) ry h2⟩⟩
theorem w_me_op {op : Operator} {f : M.D → M.D → M.S → M.R M.D} {r : R2} (ho : OpR X (binaryOp op) r) (ad : Ad2 X.K Θ f r) (ha : WE X Θ a ma) (hb : WE X Θ b mb) : WE X Θ (.BinOp a op b pos) (M.eOp f ma mb) := by with_unfolding_all exact me_op (op := op) (f := f) (r := r) ho ad ha hb
def plainB : Expr → Bool
  | .Slice _ _ _ _ => false
  | .Tuple _ _ _ => false
  | _ => true
theorem plain_of {b : Expr} (h : plainB b = true) : PlainIx b := fun o i => by
  cases b <;> first | rfl | cases h
theorem me_ix {f : M.D → M.D → M.S → M.R M.D} {r : R2} (ho : IxR X r) (ad : Ad2 X.K Θ f r) (ha : ME X Θ a ma) (hb : ME X Θ b mb) (hs : plainB b = true := by rfl) : ME X Θ (.Subscript a b pos) (M.eOp f ma mb) :=
  (pe_ix ho ha hb (plain_of hs)).imp fun σ H Q ⟨ρ, σ', S, st, rp, h⟩ => ⟨ρ, σ', S, st, rp, Post.bind h fun ρ1 H1 x X1 S1 p1 l1 rp1 rx h1 => ⟨ρ1, σ', S1, st.mono p1 l1, rp1,
    Post.bind h1 fun ρ2 H2 y Y S2 p2 l2 rp2 ry h2 => ad ρ2 H2 S2 x y X1 Y Q rp2 (rx.mono p2 l2) ry h2⟩⟩
theorem w_me_ix {f : M.D → M.D → M.S → M.R M.D} {r : R2} (ho : IxR X r) (ad : Ad2 X.K Θ f r) (ha : WE X Θ a ma) (hb : WE X Θ b mb) (hs : plainB b = true := by rfl) : WE X Θ (.Subscript a b pos) (M.eOp f ma mb) := by with_unfolding_all exact me_ix (f := f) (r := r) ho ad ha hb hs
theorem me_cmp {op : CmpOp} {f : M.CM} {r : R2} (ho : OpR X (compareOp op) r) (ad : AdC X.K Θ f r) (ha : ME X Θ a ma) (hb : ME X Θ b mb) (hm : behindInMarks op b = false) : ME X Θ (.Compare a [op] [b] pos) (M.eCmp f ma mb) :=
  (pe_cmpR ho ha hb hm).imp fun σ H Q ⟨ρ, σ', S, st, rp, h⟩ => ⟨ρ, σ', S, st, rp, Post.bind h fun ρ1 H1 x X1 S1 p1 l1 rp1 rx h1 => ⟨ρ1, σ', S1, st.mono p1 l1, rp1,
    Post.bind h1 fun ρ2 H2 y Y S2 p2 l2 rp2 ry h2 => ad ρ2 H2 S2 x y X1 Y Q rp2 (rx.mono p2 l2) ry (Post.bind h2 fun ρ3 H3 k k' S3 p3 l3 rp3 e h3 => by cases e; exact h3.here rp3 rfl)⟩⟩
theorem w_me_cmp {op : CmpOp} {f : M.CM} {r : R2} (ho : OpR X (compareOp op) r) (ad : AdC X.K Θ f r) (ha : WE X Θ a ma) (hb : WE X Θ b mb) (hm : behindInMarks op b = false) : WE X Θ (.Compare a [op] [b] pos) (M.eCmp f ma mb) := by with_unfolding_all exact me_cmp (op := op) (f := f) (r := r) ho ad ha hb hm
theorem mt_cmp {op : CmpOp} {f : M.CM} {r : R2} (ho : OpR X (compareOp op) r) (ad : AdC X.K Θ f r) (ha : ME X Θ a ma) (hb : ME X Θ b mb) (hm : behindInMarks op b = false) : MT X Θ (.Compare a [op] [b] pos) (M.tCmp f ma mb) :=
  (pt_cmpR ho ha hb hm).imp fun σ H Q ⟨ρ, σ', S, st, rp, h⟩ => ⟨ρ, σ', S, st, rp, Post.bind h fun ρ1 H1 x X1 S1 p1 l1 rp1 rx h1 => ⟨ρ1, σ', S1, st.mono p1 l1, rp1,
    Post.bind h1 fun ρ2 H2 y Y S2 p2 l2 rp2 ry h2 => ad ρ2 H2 S2 x y X1 Y _ rp2 (rx.mono p2 l2) ry (by
      revert h2
      cases f x y S2 with
      | ok k s => exact fun h2 ρ3 H3 k' p3 l3 rp3 e => ⟨k', rfl, h2 ρ3 H3 k' p3 l3 rp3 e⟩
      | exc e s => exact fun h2 => h2
      | no => exact fun h2 => h2)⟩⟩
theorem w_mt_cmp {op : CmpOp} {f : M.CM} {r : R2} (ho : OpR X (compareOp op) r) (ad : AdC X.K Θ f r) (ha : WE X Θ a ma) (hb : WE X Θ b mb) (hm : behindInMarks op b = false) : WT X Θ (.Compare a [op] [b] pos) (M.tCmp f ma mb) := by with_unfolding_all exact mt_cmp (op := op) (f := f) (r := r) ho ad ha hb hm
theorem mw_one_and (ha : MT X Θ a ta) : MW X Θ (.BoolOp .And [a] pos) ta := pw_and1 ha
theorem w_mw_one_and (ha : WT X Θ a ta) : WW X Θ (.BoolOp .And [a] pos) ta := by with_unfolding_all exact mw_one_and ha
theorem mw_one_or (ha : MT X Θ a ta) : MW X Θ (.BoolOp .Or [a] pos) ta := pw_or1 ha
theorem w_mw_one_or (ha : WT X Θ a ta) : WW X Θ (.BoolOp .Or [a] pos) ta := by with_unfolding_all exact mw_one_or ha
theorem mw_and (ha : MT X Θ a ta) (hb : MW X Θ (.BoolOp .And (b :: rest) pos) tb) : MW X Θ (.BoolOp .And (a :: b :: rest) pos) (M.tAnd ta tb) :=
  (pw_and ha hb).imp fun σ H Q ⟨ρ, σ', S, st, rp, h⟩ => ⟨ρ, σ', S, st, rp, Post.bind h fun ρ1 H1 k k' S1 p1 l1 rp1 e h1 => by
    cases e
    cases k with
    | true => exact iteT ⟨ρ1, σ', S1, st.mono p1 l1, rp1, h1⟩
    | false => exact iteF (Post.here (b := false) h1 rp1 rfl)⟩
theorem w_mw_and (ha : WT X Θ a ta) (hb : WW X Θ (.BoolOp .And (b :: rest) pos) tb) : WW X Θ (.BoolOp .And (a :: b :: rest) pos) (M.tAnd ta tb) := by with_unfolding_all exact mw_and ha hb
theorem mw_or (ha : MT X Θ a ta) (hb : MW X Θ (.BoolOp .Or (b :: rest) pos) tb) : MW X Θ (.BoolOp .Or (a :: b :: rest) pos) (M.tOr ta tb) :=
  (pw_or ha hb).imp fun σ H Q ⟨ρ, σ', S, st, rp, h⟩ => ⟨ρ, σ', S, st, rp, Post.bind h fun ρ1 H1 k k' S1 p1 l1 rp1 e h1 => by
    cases e
    cases k with
    | true => exact iteT (Post.here (b := true) h1 rp1 rfl)
    | false => exact iteF ⟨ρ1, σ', S1, st.mono p1 l1, rp1, h1⟩⟩
theorem w_mw_or (ha : WT X Θ a ta) (hb : WW X Θ (.BoolOp .Or (b :: rest) pos) tb) : WW X Θ (.BoolOp .Or (a :: b :: rest) pos) (M.tOr ta tb) := by with_unfolding_all exact mw_or ha hb
theorem mt_not (ha : MT X Θ a ta) : MT X Θ (.UnaryOp .Not a pos) (M.tNot ta) := (pt_not ha).imp fun σ H Q ⟨ρ, σ', S, st, rp, h⟩ => ⟨ρ, σ', S, st, rp, Post.bind h fun ρ1 H1 k k' S1 p1 l1 rp1 e h1 => by
  cases e; exact Post.here (b := !k) h1 rp1 rfl⟩
theorem w_mt_not (ha : WT X Θ a ta) : WT X Θ (.UnaryOp .Not a pos) (M.tNot ta) := by with_unfolding_all exact mt_not ha
theorem me_one {op} (ha : ME X Θ a ma) : ME X Θ (.BoolOp op [a] pos) ma := pe_one ha
theorem w_me_one {op} (ha : WE X Θ a ma) : WE X Θ (.BoolOp op [a] pos) ma := by with_unfolding_all exact me_one (op := op) ha
theorem asB_bl {K : PySem.W.Frag} {γ δ : Type} {Rk : List Addr → Hp → γ → δ → Prop} {ρ : List Addr} {H : Hp} {x : M.D} {v : V} {S : M.S} {f : Bool → M.S → M.R γ} {Q : δ → Hp → Prop} (r : RelD K ρ H x v) (h : Post K Θ Rk ρ H ((M.asB x S).bind f) Q) : ∃ k, v = .bl k ∧ Post K Θ Rk ρ H (f k S) Q := by
  cases x with
  | bl b => cases r; exact ⟨b, rfl, h⟩
  | _ => exact h.elim
theorem me_and (ha : ME X Θ a ma) (hb : ME X Θ (.BoolOp .And (b :: rest) pos) mb) : ME X Θ (.BoolOp .And (a :: b :: rest) pos) (M.eAnd ma mb) :=
  (pe_and ha hb).imp fun σ H Q ⟨ρ, σ', S, st, rp, h⟩ => ⟨ρ, σ', S, st, rp, Post.bind h fun ρ1 H1 x X1 S1 p1 l1 rp1 rx h1 => by
    obtain ⟨k, e, h2⟩ := asB_bl rx h1
    refine ⟨k, e, ?_⟩
    cases k with
    | true => exact iteT ⟨ρ1, σ', S1, st.mono p1 l1, rp1, h2⟩
    | false => exact iteF (Post.here (b := V.bl false) h2 rp1 rfl)⟩
theorem w_me_and (ha : WE X Θ a ma) (hb : WE X Θ (.BoolOp .And (b :: rest) pos) mb) : WE X Θ (.BoolOp .And (a :: b :: rest) pos) (M.eAnd ma mb) := by with_unfolding_all exact me_and ha hb
theorem ma_nil : MA X Θ [] M.aNil := pa_nil.imp fun σ H Q ⟨ρ, σ', S, st, rp, h⟩ => Post.here (b := []) h rp rfl
theorem w_ma_nil : WA X Θ [] M.aNil := by with_unfolding_all exact ma_nil
theorem ma_cons {e : Expr} {es : List Expr} {r : M.AM} (ha : ME X Θ e ma) (hr : MA X Θ es r) (hs : notStar e = true := by rfl) : MA X Θ (e :: es) (M.aCons ma r) :=
  (pa_cons ha hr (star_cons hs)).imp fun σ H Q ⟨ρ, σ', S, st, rp, h⟩ => ⟨ρ, σ', S, st, rp, Post.bind h fun ρ1 H1 x X1 S1 p1 l1 rp1 rx h1 => ⟨ρ1, σ', S1, st.mono p1 l1, rp1,
    Post.bind h1 fun ρ2 H2 ys Ys S2 p2 l2 rp2 ry h2 => h2.here rp2 ⟨X1, Ys, rfl, rx.mono p2 l2, ry⟩⟩⟩
theorem w_ma_cons {e : Expr} {es : List Expr} {r : M.AM} (ha : WE X Θ e ma) (hr : WA X Θ es r) (hs : notStar e = true := by rfl) : WA X Θ (e :: es) (M.aCons ma r) := by with_unfolding_all exact ma_cons (e := e) (es := es) (r := r) ha hr hs
theorem me_tup {es : List Expr} {r : M.AM} {x1} (hr : MA X Θ es r) : ME X Θ (.Tuple es x1 pos) (M.eTup r) := (pe_tup hr).imp fun σ H Q ⟨ρ, σ', S, st, rp, h⟩ => ⟨ρ, σ', S, st, rp, Post.bind h fun ρ1 H1 xs Xs S1 p1 l1 rp1 rx h1 => by
  by_cases hl : xs.length ≤ M.SZ
  · rw [if_pos hl] at h1
    rw [SZ_eq, rx.length] at hl
    exact ⟨hl, fun p hp => h1 ρ1 _ _ (List.prefix_refl _) (Le.new hp _) (rp1.aside hp _) ⟨p, Xs, rfl, SqT.of upd_same, rx.mono (List.prefix_refl _) (Le.new hp _)⟩⟩
  · rw [if_neg hl] at h1
    exact h1.elim⟩
theorem w_me_tup {es : List Expr} {r : M.AM} {x1} (hr : WA X Θ es r) : WE X Θ (.Tuple es x1 pos) (M.eTup r) := by with_unfolding_all exact me_tup (es := es) (r := r) (x1 := x1) hr
theorem Post.alloc {K : PySem.W.Frag} {ρ : List Addr} {H : Hp} {S : M.S} {ds : List M.D} {xs : List V} {Q : VK} (h : Post K Θ (RelD K) ρ H (M.alloc (.lst ds) S) Q) (rp : RepS K Θ ρ S H) (r : RelDs K ρ H ds xs) {p : Addr} (hp : H p = none) : Q (.ref p) (upd H p (.lst xs)) :=
  h (ρ ++ [p]) _ _ (List.prefix_append _ _) (Le.new hp _) (rp.alloc hp ⟨xs, upd_same, r.mono (List.prefix_append _ _) (Le.new hp _)⟩) ⟨p, rfl, by rw [← rp.len]; simp⟩
theorem me_lst {es : List Expr} {r : M.AM} (hr : MA X Θ es r) : ME X Θ (.List es pos) (M.eLst r) := (pe_lst hr).imp fun σ H Q ⟨ρ, σ', S, st, rp, h⟩ => ⟨ρ, σ', S, st, rp, Post.bind h fun ρ1 H1 xs Xs S1 p1 l1 rp1 rx h1 => by
  by_cases hl : xs.length ≤ M.SZ
  · rw [if_pos hl] at h1
    rw [SZ_eq, rx.length] at hl
    exact ⟨hl, fun p hp => h1.alloc rp1 rx hp⟩
  · rw [if_neg hl] at h1
    exact h1.elim⟩
theorem w_me_lst {es : List Expr} {r : M.AM} (hr : WA X Θ es r) : WE X Θ (.List es pos) (M.eLst r) := by with_unfolding_all exact me_lst (es := es) (r := r) hr
theorem mo_none : MO X Θ none M.oNone := po_none.imp fun σ H Q ⟨ρ, σ', S, st, rp, h⟩ => Post.here (b := none) h rp rfl
theorem w_mo_none : WO X Θ none M.oNone := by with_unfolding_all exact mo_none
theorem mo_some (ha : ME X Θ a ma) : MO X Θ (some a) (M.oSome ma) := (po_some ha).imp fun σ H Q ⟨ρ, σ', S, st, rp, h⟩ => ⟨ρ, σ', S, st, rp, Post.bind h fun ρ1 H1 x X1 S1 p1 l1 rp1 rx h1 => by
  cases x with
  | int i => cases rx; exact ⟨i, rfl, Post.here (b := some i) h1 rp1 rfl⟩
  | _ => exact h1.elim⟩
theorem w_mo_some (ha : WE X Θ a ma) : WO X Θ (some a) (M.oSome ma) := by with_unfolding_all exact mo_some ha
theorem me_sl {lo hi : Option Expr} {p2 : Pos} {ml mh : M.OM} {r : V → Option Int → Option Int → Hp → VK → Prop} (hr : SlR X r) (ad : ∀ ρ H S x X1 l u Q, RepS X.K Θ ρ S H → RelD X.K ρ H x X1 → Post X.K Θ (RelD X.K) ρ H (M.slD x l u S) Q → r X1 l u H Q) (ha : ME X Θ a ma) (hl : MO X Θ lo ml) (hh : MO X Θ hi mh) :
    ME X Θ (.Subscript a (.Slice lo hi none p2) pos) (M.eSl ma ml mh) := (pe_slice hr ha hl hh).imp fun σ H Q ⟨ρ, σ', S, st, rp, h⟩ => ⟨ρ, σ', S, st, rp, Post.bind h fun ρ1 H1 x X1 S1 p1 l1 rp1 rx h1 => ⟨ρ1, σ', S1, st.mono p1 l1, rp1,
    Post.bind h1 fun ρ2 H2 l l' S2 p2 l2 rp2 e2 h2 => by
      cases e2
      exact ⟨ρ2, σ', S2, st.mono (p1.trans p2) (l1.trans l2), rp2, Post.bind h2 fun ρ3 H3 u u' S3 p3 l3 rp3 e3 h3 => by
        cases e3
        exact ad ρ3 H3 S3 x X1 l u Q rp3 (rx.mono (p2.trans p3) (l2.trans l3)) h3⟩⟩⟩
theorem w_me_sl {lo hi : Option Expr} {p2 : Pos} {ml mh : M.OM} {r : V → Option Int → Option Int → Hp → VK → Prop} (hr : SlR X r) (ad : ∀ ρ H S x X1 l u Q, RepS X.K Θ ρ S H → RelD X.K ρ H x X1 → Post X.K Θ (RelD X.K) ρ H (M.slD x l u S) Q → r X1 l u H Q) (ha : WE X Θ a ma) (hl : WO X Θ lo ml) (hh : WO X Θ hi mh) :
    WE X Θ (.Subscript a (.Slice lo hi none p2) pos) (M.eSl ma ml mh) := by with_unfolding_all exact me_sl (lo := lo) (hi := hi) (p2 := p2) (ml := ml) (mh := mh) (r := r) hr ad ha hl hh
theorem me_callB {x : Str} {p : Pos} {id : String} {e : Expr} {es : List Expr} {f : M.F} {r : List V → Hp → VK → Prop} {m : M.AM} (hc : CallR X (.builtin id) r) (ad : AdN X.K Θ f r) (hg : Gl X x) (hm : X.mg x = none) (hv : bootBuiltins x = some (.builtin id)) (ha : MA X Θ (e :: es) m)
    (hn : x ≠ "__name__" := by decide) (hdb : (x == ("__debug__" : Str)) = false := by decide) (he : notStar e = true := by rfl) (hpl : es.all notStar = true := by rfl) :
    ME X Θ (.Call (.Name x p) (e :: es) [] pos) (M.eCall f m) := (pe_callB hc hg hm hv ha hn hdb (star_cons he) (star_any hpl)).imp fun σ H Q ⟨ρ, σ', S, st, rp, h⟩ => ⟨ρ, σ', S, st, rp, Post.bind h fun ρ1 H1 xs Xs S1 p1 l1 rp1 rx h1 => ad ρ1 H1 S1 xs Xs Q rp1 rx h1⟩
theorem w_me_callB {x : Str} {p : Pos} {id : String} {e : Expr} {es : List Expr} {f : M.F} {r : List V → Hp → VK → Prop} {m : M.AM} (hc : CallR X (.builtin id) r) (ad : AdN X.K Θ f r) (hg : Gl X x) (hm : X.mg x = none) (hv : bootBuiltins x = some (.builtin id)) (ha : WA X Θ (e :: es) m)
    (hn : x ≠ "__name__" := by decide) (hdb : (x == ("__debug__" : Str)) = false := by decide) (he : notStar e = true := by rfl) (hpl : es.all notStar = true := by rfl) :
    WE X Θ (.Call (.Name x p) (e :: es) [] pos) (M.eCall f m) := by with_unfolding_all exact me_callB (x := x) (p := p) (id := id) (e := e) (es := es) (f := f) (r := r) (m := m) hc ad hg hm hv ha hn hdb he hpl
theorem me_callTy {x : Str} {p : Pos} {T : String} {e : Expr} {es : List Expr} {f : M.F} {r : List V → Hp → VK → Prop} {m : M.AM} (hc : CallR X (.type T) r) (ad : AdN X.K Θ f r) (hg : Gl X x) (hm : X.mg x = none) (hv : bootBuiltins x = some (.type T)) (ha : MA X Θ (e :: es) m)
    (hn : x ≠ "__name__" := by decide) (hdb : (x == ("__debug__" : Str)) = false := by decide) (he : notStar e = true := by rfl) (hpl : es.all notStar = true := by rfl) :
    ME X Θ (.Call (.Name x p) (e :: es) [] pos) (M.eCall f m) := (pe_callTy hc hg hm hv ha hn hdb (star_cons he) (star_any hpl)).imp fun σ H Q ⟨ρ, σ', S, st, rp, h⟩ => ⟨ρ, σ', S, st, rp, Post.bind h fun ρ1 H1 xs Xs S1 p1 l1 rp1 rx h1 => ad ρ1 H1 S1 xs Xs Q rp1 rx h1⟩
theorem w_me_callTy {x : Str} {p : Pos} {T : String} {e : Expr} {es : List Expr} {f : M.F} {r : List V → Hp → VK → Prop} {m : M.AM} (hc : CallR X (.type T) r) (ad : AdN X.K Θ f r) (hg : Gl X x) (hm : X.mg x = none) (hv : bootBuiltins x = some (.type T)) (ha : WA X Θ (e :: es) m)
    (hn : x ≠ "__name__" := by decide) (hdb : (x == ("__debug__" : Str)) = false := by decide) (he : notStar e = true := by rfl) (hpl : es.all notStar = true := by rfl) :
    WE X Θ (.Call (.Name x p) (e :: es) [] pos) (M.eCall f m) := by with_unfolding_all exact me_callTy (x := x) (p := p) (T := T) (e := e) (es := es) (f := f) (r := r) (m := m) hc ad hg hm hv ha hn hdb he hpl
theorem tyOk_is {K : PySem.W.Frag} {ρ : List Addr} {H : Hp} {S : M.S} {k : M.Kd} {x : M.D} {v : V} (rp : RepS K Θ ρ S H) (r : RelD K ρ H x v) (h : M.tyOk k x S = true) : tyV K (kdName k) v H := by
  cases x with
  | str z => obtain ⟨rfl, _⟩ := r; cases k <;> first | rfl | cases h
  | ro ds =>
    obtain ⟨a, xs, rfl, q, _⟩ := r
    cases k <;> first | exact .inl ⟨rfl, xs, q.sq⟩ | cases h
  | ref i =>
    obtain ⟨a, rfl, e⟩ := r
    cases q : S[i]? with
    | none => simp [M.tyOk, q] at h
    | some o =>
      cases o with
      | lst xs =>
        obtain ⟨b, e1, zs, e2, _⟩ := rp.obj _ _ q
        rw [e] at e1; cases e1
        cases k <;> first | exact .inl ⟨rfl, zs, SqL.of e2⟩ | simp [M.tyOk, q] at h
      | dct xs =>
        obtain ⟨b, e1, zs, e2, _⟩ := rp.obj _ _ q
        rw [e] at e1; cases e1
        cases k <;> first | exact .inr (.inr (.inl ⟨rfl, .inl ⟨zs, e2⟩⟩)) | simp [M.tyOk, q] at h
      | ins c fs => simp [M.tyOk, q] at h
  | _ => cases h
theorem me_m {k : M.Kd} {T : String} {f : M.D → M.F} {r : V → List V → Hp → VK → Prop} {o e : Expr} {es : List Expr} {mo : M.EM} {m : M.AM} {name : Str} {apos cpos : Pos} {id : String} (pa : PlainAttrs T) (slot : Slot T name id) (hty : typeOf (.builtin id) = pure (.type "method_descriptor")) (hm : MtR X id r) (ad : AdM X.K Θ f r) (hT : T = kdName k) (ho : ME X Θ o mo) (ha : MA X Θ (e :: es) m)
    (hbase : attributeBase o name X.env (eval o X.env) = eval o X.env := by rfl)
    (hfew : (e :: es).length < 30 := by exact Nat.le_of_ble_eq_true rfl) (hline : (apos.endLine == cpos.line) = true := by rfl) (hs : notStar e = true := by rfl) (hplain : es.all notStar = true := by rfl) :
    ME X Θ (.Call (.Attribute o name apos) (e :: es) [] cpos) (M.eM k f mo m) := (pe_bm pa slot hty hm ho ha hbase (star_few (by rw [List.all_cons, hs, hplain]; rfl) hfew) hline (star_cons hs) (star_any hplain)).imp fun σ H Q ⟨ρ, σ', S, st, rp, h⟩ => ⟨ρ, σ', S, st, rp, Post.bind h fun ρ1 H1 x X1 S1 p1 l1 rp1 rx h1 => by
  cases ht : M.tyOk k x S1 with
  | false => rw [ht] at h1; exact h1.elim
  | true =>
    rw [ht] at h1
    exact ⟨hT ▸ tyOk_is rp1 rx ht, ρ1, σ', S1, st.mono p1 l1, rp1, Post.bind h1 fun ρ2 H2 xs Xs S2 p2 l2 rp2 rxs h2 => ad ρ2 H2 S2 x xs X1 Xs Q rp2 (rx.mono p2 l2) rxs h2⟩⟩
theorem w_me_m {k : M.Kd} {T : String} {f : M.D → M.F} {r : V → List V → Hp → VK → Prop} {o e : Expr} {es : List Expr} {mo : M.EM} {m : M.AM} {name : Str} {apos cpos : Pos} {id : String} (pa : PlainAttrs T) (slot : Slot T name id) (hty : typeOf (.builtin id) = pure (.type "method_descriptor")) (hm : MtR X id r) (ad : AdM X.K Θ f r) (hT : T = kdName k) (ho : WE X Θ o mo) (ha : WA X Θ (e :: es) m)
    (hbase : attributeBase o name X.env (eval o X.env) = eval o X.env := by rfl)
    (hfew : (e :: es).length < 30 := by exact Nat.le_of_ble_eq_true rfl) (hline : (apos.endLine == cpos.line) = true := by rfl) (hs : notStar e = true := by rfl) (hplain : es.all notStar = true := by rfl) :
    WE X Θ (.Call (.Attribute o name apos) (e :: es) [] cpos) (M.eM k f mo m) := by with_unfolding_all exact me_m (k := k) (T := T) (f := f) (r := r) (o := o) (e := e) (es := es) (mo := mo) (m := m) (name := name) (apos := apos) (cpos := cpos) (id := id) pa slot hty hm ad hT ho ha hbase hfew hline hs hplain
end
end L2
namespace L2
open PySem PySem.Spec PyProof.Rows
def PostS (K : PySem.W.Frag) (Θ : Tab) (ρ : List Addr) (H : Hp) : M.RS → Ends → Prop
  | .nx σ1 S1, D => ∀ ρ' H' σ, ρ <+: ρ' → Le H H' → RepS K Θ ρ' S1 H' → RelSt K ρ' H' σ1 σ → D.nx σ H'
  | .rt d S1, D => ∀ ρ' H' v, ρ <+: ρ' → Le H H' → RepS K Θ ρ' S1 H' → RelD K ρ' H' d v → D.rt v H'
  | .bk σ1 S1, D => ∀ ρ' H' σ, ρ <+: ρ' → Le H H' → RepS K Θ ρ' S1 H' → RelSt K ρ' H' σ1 σ → D.bk σ H'
  | .ct σ1 S1, D => ∀ ρ' H' σ, ρ <+: ρ' → Le H H' → RepS K Θ ρ' S1 H' → RelSt K ρ' H' σ1 σ → D.ct σ H'
  | .exc _ _ _, _ => False
  | .no, _ => False
def RdS (K : PySem.W.Frag) (Θ : Tab) (m : M.SM) : TS := fun D σ H => ∃ ρ σ' S, RelSt K ρ H σ' σ ∧ RepS K Θ ρ S H ∧ PostS K Θ ρ H (m σ' S) D
abbrev MS (X : Cx) (Θ : Tab) (st : Stmt) (m : M.SM) : Prop := PS X st (RdS X.K Θ m)
@[irreducible] def WS (X : Cx) (Θ : Tab) (st : Stmt) (m : M.SM) : Prop := MS X Θ st m
abbrev MSs (X : Cx) (Θ : Tab) (st : List Stmt) (m : M.SM) : Prop := PSs X st (RdS X.K Θ m)
@[irreducible] def WSs (X : Cx) (Θ : Tab) (st : List Stmt) (m : M.SM) : Prop := MSs X Θ st m
theorem PS.imp {X : Cx} {e : Stmt} {t t' : TS} (h : PS X e t) (i : ∀ D σ H, t' D σ H → t D σ H) : PS X e t' := fun pins s σ H D I q => h pins s σ H D I (i D σ H q)
theorem PSs.imp {X : Cx} {e : List Stmt} {t t' : TS} (h : PSs X e t) (i : ∀ D σ H, t' D σ H → t D σ H) : PSs X e t' := fun pins s σ H D I q => h pins s σ H D I (i D σ H q)
section
variable {K : PySem.W.Frag} {Θ : Tab} {ρ ρ' : List Addr} {H H' : Hp} {S : M.S} {α β : Type} {Rl : List Addr → Hp → α → β → Prop} {Q : β → Hp → Prop} {D D' : Ends}
theorem PostS.weak {r : M.RS} (h : PostS K Θ ρ H r D) (hρ : ρ <+: ρ') (le : Le H H') : PostS K Θ ρ' H' r D := by
  cases r with
  | nx a s => exact fun ρ2 H2 b p l => h ρ2 H2 b (hρ.trans p) (le.trans l)
  | rt a s => exact fun ρ2 H2 b p l => h ρ2 H2 b (hρ.trans p) (le.trans l)
  | bk a s => exact fun ρ2 H2 b p l => h ρ2 H2 b (hρ.trans p) (le.trans l)
  | ct a s => exact fun ρ2 H2 b p l => h ρ2 H2 b (hρ.trans p) (le.trans l)
  | exc e a s => exact h
  | no => exact h
theorem PostS.stm {r : M.R α} {σ : M.St} {f : α → M.S → M.RS} (h : PostS K Θ ρ H (r.stm σ f) D)
    (k : ∀ ρ' H' a b S', ρ <+: ρ' → Le H H' → RepS K Θ ρ' S' H' → Rl ρ' H' a b → PostS K Θ ρ' H' (f a S') D → Q b H') : Post K Θ Rl ρ H r Q := by
  cases r with
  | ok a s => exact fun ρ2 H2 b p l rp rl => k ρ2 H2 a b s p l rp rl (PostS.weak h p l)
  | exc e s => exact h
  | no => exact h
theorem PostS.nx {σ1 : M.St} {σ : St} (h : PostS K Θ ρ H (.nx σ1 S) D) (rp : RepS K Θ ρ S H) (st : RelSt K ρ H σ1 σ) : D.nx σ H := h ρ H σ (List.prefix_refl _) (Le.refl _) rp st
theorem PostS.rt {d : M.D} {v : V} (h : PostS K Θ ρ H (.rt d S) D) (rp : RepS K Θ ρ S H) (r : RelD K ρ H d v) : D.rt v H := h ρ H v (List.prefix_refl _) (Le.refl _) rp r
end
section
variable {X : Cx} {Θ : Tab} {e : Expr} {pos : Pos} {m : M.EM} {st : Stmt} {rest : List Stmt} {ms mr : M.SM}
theorem mss_nil : MSs X Θ [] M.sNil := pss_nil.imp fun D σ H ⟨ρ, σ', S, st, rp, h⟩ => h.nx rp st
theorem w_mss_nil : WSs X Θ [] M.sNil := by with_unfolding_all exact mss_nil
theorem mss_one (h : MS X Θ st ms) : MSs X Θ [st] ms := pss_one h
theorem w_mss_one (h : WS X Θ st ms) : WSs X Θ [st] ms := by with_unfolding_all exact mss_one h
theorem mss_cons (h1 : MS X Θ st ms) (h2 : MSs X Θ rest mr) : MSs X Θ (st :: rest) (M.sSeq ms mr) := (pss_cons h1 h2).imp fun D σ H ⟨ρ, σ', S, st, rp, h⟩ => ⟨ρ, σ', S, st, rp, by
  have h' : PostS X.K Θ ρ H ((ms σ' S).then mr) D := h
  revert h'
  cases ms σ' S with
  | nx a s => exact fun h' ρ2 H2 σ2 p l rp2 st2 => ⟨ρ2, a, s, st2, rp2, PostS.weak h' p l⟩
  | rt a s => exact fun h' => h'
  | bk a s => exact fun h' => h'
  | ct a s => exact fun h' => h'
  | exc e a s => exact fun h' => h'
  | no => exact fun h' => h'⟩
theorem w_mss_cons (h1 : WS X Θ st ms) (h2 : WSs X Θ rest mr) : WSs X Θ (st :: rest) (M.sSeq ms mr) := by with_unfolding_all exact mss_cons h1 h2
theorem ms_expr (he : ME X Θ e m) (hs : swapsWith e none pos.line X.env = pure false := by rfl) : MS X Θ (.Expr e pos) (M.sExpr m) := (ps_expr he hs).imp fun D σ H ⟨ρ, σ', S, st, rp, h⟩ => ⟨ρ, σ', S, st, rp, PostS.stm h fun ρ1 H1 x X1 S1 p1 l1 rp1 rx h1 => h1.nx rp1 (st.mono p1 l1)⟩
theorem w_ms_expr (he : WE X Θ e m) (hs : swapsWith e none pos.line X.env = pure false := by rfl) : WS X Θ (.Expr e pos) (M.sExpr m) := by with_unfolding_all exact ms_expr he hs
theorem ms_ret (he : ME X Θ e m) : MS X Θ (.Return (some e) pos) (M.sRet m) := (ps_ret he).imp fun D σ H ⟨ρ, σ', S, st, rp, h⟩ => ⟨ρ, σ', S, st, rp, PostS.stm h fun ρ1 H1 x X1 S1 p1 l1 rp1 rx h1 => h1.rt rp1 rx⟩
theorem w_ms_ret (he : WE X Θ e m) : WS X Θ (.Return (some e) pos) (M.sRet m) := by with_unfolding_all exact ms_ret he
theorem ms_set {i : Nat} {x : Str} {pos' : Pos} (hN : X.N.Nodup) (hi : X.N[i]? = some x) (hx : Loc X.env.scope x) (he : ME X Θ e m) (hs : swapsWith e (some (.Name x pos')) pos.line X.env = pure false := by kernel_rfl) (hf : X.fn x = true ∨ X.env.scope.names.lookup x = some .local := by first | exact .inl rfl | exact .inr rfl | assumption) :
    MS X Θ (.Assign [.Name x pos'] e pos) (M.sSet i m) := (ps_set hN hi hx he hs hf).imp fun D σ H ⟨ρ, σ', S, st, rp, h⟩ => ⟨ρ, σ', S, st, rp, PostS.stm h fun ρ1 H1 x X1 S1 p1 l1 rp1 rx h1 => h1.nx rp1 ((st.mono p1 l1).set rx i)⟩
theorem w_ms_set {i : Nat} {x : Str} {pos' : Pos} (hN : X.N.Nodup) (hi : X.N[i]? = some x) (hx : Loc X.env.scope x) (he : WE X Θ e m) (hs : swapsWith e (some (.Name x pos')) pos.line X.env = pure false := by kernel_rfl) (hf : X.fn x = true ∨ X.env.scope.names.lookup x = some .local := by first | exact .inl rfl | exact .inr rfl | assumption) :
    WS X Θ (.Assign [.Name x pos'] e pos) (M.sSet i m) := by with_unfolding_all exact ms_set (i := i) (x := x) (pos' := pos') hN hi hx he hs hf
theorem ms_if {c : Expr} {a b : List Stmt} {tc : M.TM} {ma mb : M.SM} (hc : MT X Θ c tc) (ha : MSs X Θ a ma) (hb : MSs X Θ b mb) : MS X Θ (.If c a b pos) (M.sIf tc ma mb) := (ps_if hc ha hb).imp fun D σ H ⟨ρ, σ', S, st, rp, h⟩ => ⟨ρ, σ', S, st, rp, PostS.stm h fun ρ1 H1 k k' S1 p1 l1 rp1 ek h1 => by
  cases ek
  cases k with
  | true => exact iteT ⟨ρ1, σ', S1, st.mono p1 l1, rp1, h1⟩
  | false => exact iteF ⟨ρ1, σ', S1, st.mono p1 l1, rp1, h1⟩⟩
theorem w_ms_if {c : Expr} {a b : List Stmt} {tc : M.TM} {ma mb : M.SM} (hc : WT X Θ c tc) (ha : WSs X Θ a ma) (hb : WSs X Θ b mb) : WS X Θ (.If c a b pos) (M.sIf tc ma mb) := by with_unfolding_all exact ms_if (c := c) (a := a) (b := b) (tc := tc) (ma := ma) (mb := mb) hc ha hb
end
def RdG (K : PySem.W.Frag) (Θ : Tab) (js : List Nat) (g : M.GM) : TG := fun v σ H Q => ∃ ρ σ' S d, RelSt K ρ H σ' σ ∧ RepS K Θ ρ S H ∧ RelD K ρ H d v ∧ ∃ σ1, g d σ' = some σ1 ∧
  ∀ H' σ2, Le H H' → RepS K Θ ρ S H' → RelSt K ρ H' σ1 σ2 → σ2.length = σ.length → (∀ j, j ∉ js → σ2[j]? = σ[j]?) → Q σ2 H'
abbrev MG (X : Cx) (Θ : Tab) (js : List Nat) (tg : Expr) (g : M.GM) : Prop := PG X tg (RdG X.K Θ js g)
@[irreducible] def WG (X : Cx) (Θ : Tab) (js : List Nat) (tg : Expr) (g : M.GM) : Prop := MG X Θ js tg g
theorem PG.imp {X : Cx} {e : Expr} {t t' : TG} (h : PG X e t) (i : ∀ v σ H Q, t' v σ H Q → t v σ H Q) : PG X e t' := fun pins s σ H v u Q I r q => h pins s σ H v u Q I r (i v σ H Q q)
theorem mg_name {X : Cx} {Θ : Tab} {pos : Pos} {i : Nat} {x : Str} (hN : X.N.Nodup) (hi : X.N[i]? = some x) (hx : Loc X.env.scope x) (hf : X.fn x = true ∨ X.env.scope.names.lookup x = some .local := by first | exact .inl rfl | exact .inr rfl | assumption) :
    MG X Θ [i] (.Name x pos) (M.gName i) := (pg_name hN hi hx hf).imp fun v σ H Q ⟨ρ, σ', S, d, st, rp, rv, σ1, e, h⟩ => by
  cases e
  exact h H _ (Le.refl _) rp (st.set rv i) (by rw [List.length_set]) fun j hj => List.getElem?_set_ne (fun z => hj (by rw [z]; simp))
theorem w_mg_name {X : Cx} {Θ : Tab} {pos : Pos} {i : Nat} {x : Str} (hN : X.N.Nodup) (hi : X.N[i]? = some x) (hx : Loc X.env.scope x) (hf : X.fn x = true ∨ X.env.scope.names.lookup x = some .local := by first | exact .inl rfl | exact .inr rfl | assumption) :
    WG X Θ [i] (.Name x pos) (M.gName i) := by with_unfolding_all exact mg_name (X := X) (Θ := Θ) (pos := pos) (i := i) (x := x) hN hi hx hf
def RdGs (K : PySem.W.Frag) (Θ : Tab) (js : List Nat) (g : M.GMs) : TGs := fun vs σ H Q => ∃ ρ σ' S ds, RelSt K ρ H σ' σ ∧ RepS K Θ ρ S H ∧ RelDs K ρ H ds vs ∧ ∃ σ1, g ds σ' = some σ1 ∧
  ∀ H' σ2, Le H H' → RepS K Θ ρ S H' → RelSt K ρ H' σ1 σ2 → σ2.length = σ.length → (∀ j, j ∉ js → σ2[j]? = σ[j]?) → Q σ2 H'
abbrev MGs (X : Cx) (Θ : Tab) (js : List Nat) (ts : List Expr) (g : M.GMs) : Prop := PGs X ts (RdGs X.K Θ js g)
@[irreducible] def WGs (X : Cx) (Θ : Tab) (js : List Nat) (ts : List Expr) (g : M.GMs) : Prop := MGs X Θ js ts g
theorem PGs.imp {X : Cx} {e : List Expr} {t t' : TGs} (h : PGs X e t) (i : ∀ v σ H Q, t' v σ H Q → t v σ H Q) : PGs X e t' := fun pins s σ H v u Q I r q => h pins s σ H v u Q I r (i v σ H Q q)
theorem mgs_nil {X : Cx} {Θ : Tab} : MGs X Θ [] [] M.gNil := pgs_nil.imp fun vs σ H Q ⟨ρ, σ', S, ds, st, rp, rv, σ1, e, h⟩ => by
  cases ds with
  | nil => cases rv; cases e; exact ⟨rfl, h H σ (Le.refl _) rp st rfl fun _ _ => rfl⟩
  | cons d ds => cases e
theorem w_mgs_nil {X : Cx} {Θ : Tab} : WGs X Θ [] [] M.gNil := by with_unfolding_all exact mgs_nil (X := X) (Θ := Θ)
theorem mgs_cons {X : Cx} {Θ : Tab} {e : Expr} {es : List Expr} {g : M.GM} {gs : M.GMs} {js ks : List Nat} (h1 : MG X Θ js e g) (h2 : MGs X Θ ks es gs) (hp : ∀ {t : TG} {u : TGs}, PG X e t → PGs X es u → PGs X (e :: es) (gCons t u)) : MGs X Θ (js ++ ks) (e :: es) (M.gCons g gs) :=
  (hp h1 h2).imp fun vs σ H Q ⟨ρ, σ', S, ds, st, rp, rv, σ1, eq, h⟩ => by
    cases ds with
    | nil => cases eq
    | cons d ds =>
      obtain ⟨y, ys, rfl, r1, r2⟩ := rv
      have eq' : (match g d σ' with | some σ' => gs ds σ' | none => none) = some σ1 := eq
      cases q : g d σ' with
      | none => rw [q] at eq'; cases eq'
      | some σm =>
        rw [q] at eq'
        refine ⟨y, ys, rfl, ρ, σ', S, d, st, rp, r1, σm, q, fun H' σ2 le rp2 st2 hl hj => ⟨ρ, σm, S, ds, st2, rp2, r2.mono (List.prefix_refl _) le, σ1, eq', fun H'' σ3 le2 rp3 st3 hl3 hj3 => h H'' σ3 (le.trans le2) rp3 st3 (hl3.trans hl) fun j hjk => ?_⟩⟩
        rw [List.mem_append] at hjk
        rw [hj3 j fun z => hjk (.inr z), hj j fun z => hjk (.inl z)]
theorem w_mgs_cons {X : Cx} {Θ : Tab} {e : Expr} {es : List Expr} {g : M.GM} {gs : M.GMs} {js ks : List Nat} (h1 : WG X Θ js e g) (h2 : WGs X Θ ks es gs) (hp : ∀ {t : TG} {u : TGs}, PG X e t → PGs X es u → PGs X (e :: es) (gCons t u)) : WGs X Θ (js ++ ks) (e :: es) (M.gCons g gs) := by with_unfolding_all exact mgs_cons (X := X) (Θ := Θ) (e := e) (es := es) (g := g) (gs := gs) (js := js) (ks := ks) h1 h2 hp
theorem mg_tup {X : Cx} {Θ : Tab} {es : List Expr} {g : M.GMs} {js : List Nat} {tg : Expr} {n : Nat} (h : PG X tg (gTup X.K n (RdGs X.K Θ js g))) (hn : ∀ ds σ σ1, g ds σ = some σ1 → ds.length = n) : MG X Θ js tg (M.gTup g) := h.imp fun v σ H Q ⟨ρ, σ', S, d, st, rp, rv, σ1, eq, h⟩ => by
  cases d with
  | tup ds =>
    obtain ⟨a, xs, rfl, hq, r⟩ := rv
    exact ⟨a, xs, rfl, hq, by rw [← r.length]; exact hn ds σ' σ1 eq, ρ, σ', S, ds, st, rp, r, σ1, eq, h⟩
  | _ => cases eq
structure ItR (K : PySem.W.Frag) (Θ : Tab) (ρ : List Addr) (H : Hp) (J : It) (xs : List M.D) (g : M.Gd) : Prop where
  go : ∀ (i : Nat) ρ' S' H', ρ <+: ρ' → Le H H' → RepS K Θ ρ' S' H' → M.gdOk g S' = true → i < xs.length → J.go i H'
  yld : ∀ (i : Nat) ρ' S' H' v H2, ρ <+: ρ' → Le H H' → RepS K Θ ρ' S' H' → M.gdOk g S' = true → i < xs.length → J.yld i H' v H2 → ∃ d, xs[i]? = some d ∧ RelD K ρ' H2 d v ∧ Le H' H2 ∧ RepS K Θ ρ' S' H2
  stop : ∀ ρ' S' H', ρ <+: ρ' → Le H H' → RepS K Θ ρ' S' H' → M.gdOk g S' = true → J.stop xs.length H'
def RdI (K : PySem.W.Frag) (Θ : Tab) (m : M.IM) : TI := fun σ H R => ∃ ρ σ' S, RelSt K ρ H σ' σ ∧ RepS K Θ ρ S H ∧
  Post K Θ (fun ρ' H' (p : List M.D × M.Gd) (J : It) => ItR K Θ ρ' H' J p.1 p.2) ρ H ((m σ' S).bind fun p s => if M.gdOk p.2 s then .ok p s else .no) R
abbrev MI (X : Cx) (Θ : Tab) (tg iter : Expr) (m : M.IM) : Prop := PI X tg iter (RdI X.K Θ m)
@[irreducible] def WI (X : Cx) (Θ : Tab) (tg iter : Expr) (m : M.IM) : Prop := MI X Θ tg iter m
theorem PI.imp {X : Cx} {tg e : Expr} {t t' : TI} (h : PI X tg e t) (i : ∀ σ H R, t' σ H R → t σ H R) : PI X tg e t' := fun pins s σ H R I q => h pins s σ H R I (i σ H R q)
theorem PI.or {X : Cx} {tg e : Expr} {t t' : TI} (h : PI X tg e t) (h' : PI X tg e t') : PI X tg e (fun σ H R => t σ H R ∨ t' σ H R) := fun pins s σ H R I q => by
  rcases q with q | q
  · exact h pins s σ H R I q
  · exact h' pins s σ H R I q
section
variable {X : Cx} {Θ : Tab} {tg e : Expr} {m : M.EM}
theorem itr_list {K : PySem.W.Frag} {ρ : List Addr} {H : Hp} {i : Nat} {a : Addr} {ds : List M.D} (ha : ρ[i]? = some a) : ItR K Θ ρ H (Itl K a) ds [(i, .lst ds)] := by
  have key : ∀ {ρ' : List Addr} {S' : M.S} {H' : Hp}, ρ <+: ρ' → RepS K Θ ρ' S' H' → M.gdOk [(i, .lst ds)] S' = true → ∃ zs, H' a = some (.lst zs) ∧ RelDs K ρ' H' ds zs := fun {ρ' S' H'} p rp g => by
    have g' : S'[i]? = some (M.O.lst ds) := by simpa [M.gdOk] using g
    obtain ⟨b, e1, zs, e2, r⟩ := rp.obj i _ g'
    rw [pre_get p ha] at e1; cases e1
    exact ⟨zs, e2, r⟩
  refine ⟨fun j ρ' S' H' p l rp g hj => ?_, fun j ρ' S' H' v H2 p l rp g hj y => ?_, fun ρ' S' H' p l rp g => ?_⟩
  · obtain ⟨zs, e, r⟩ := key p rp g
    obtain ⟨v, e1, _⟩ := r.get (i := j) (d := ds[j]) (by simp [hj])
    exact ⟨zs, v, SqL.of e, e1⟩
  · obtain ⟨zs, e, r⟩ := key p rp g
    obtain ⟨v', e1, rv⟩ := r.get (i := j) (d := ds[j]) (by simp [hj])
    obtain ⟨rfl, y2⟩ := y
    have y3 := y2 zs (SqL.of e)
    rw [e1] at y3; cases y3
    exact ⟨ds[j], by simp [hj], rv, Le.refl _, rp⟩
  · obtain ⟨zs, e, r⟩ := key p rp g
    exact ⟨zs, SqL.of e, Nat.le_of_eq r.length.symm⟩
theorem itr_ro {K : PySem.W.Frag} {ρ : List Addr} {H : Hp} {a : Addr} {ds : List M.D} {xs : List V} (hq : RolL K H a xs) (r : RelDs K ρ H ds xs) : ItR K Θ ρ H (Itl K a) ds [] := by
  refine ⟨fun j ρ' S' H' p l rp g hj => ?_, fun j ρ' S' H' v H2 p l rp g hj y => ?_, fun ρ' S' H' p l rp g => ?_⟩
  · obtain ⟨v, e1, _⟩ := r.get (i := j) (d := ds[j]) (by simp [hj])
    exact ⟨xs, v, (l.rol hq).sq, e1⟩
  · obtain ⟨v', e1, rv⟩ := (r.mono p l).get (i := j) (d := ds[j]) (by simp [hj])
    obtain ⟨rfl, y2⟩ := y
    have y3 := y2 xs (l.rol hq).sq
    rw [e1] at y3; cases y3
    exact ⟨ds[j], by simp [hj], rv, Le.refl _, rp⟩
  · exact ⟨xs, (l.rol hq).sq, Nat.le_of_eq r.length.symm⟩
theorem itr_tup {K : PySem.W.Frag} {ρ : List Addr} {H : Hp} {a : Addr} {ds : List M.D} {xs : List V} (hq : SqT K H a xs) (r : RelDs K ρ H ds xs) : ItR K Θ ρ H (Itt K a) ds [] := by
  refine ⟨fun j ρ' S' H' p l rp g hj => ?_, fun j ρ' S' H' v H2 p l rp g hj y => ?_, fun ρ' S' H' p l rp g => ?_⟩
  · obtain ⟨v, e1, _⟩ := r.get (i := j) (d := ds[j]) (by simp [hj])
    exact ⟨xs, v, l.sqT hq, e1⟩
  · obtain ⟨v', e1, rv⟩ := (r.mono p l).get (i := j) (d := ds[j]) (by simp [hj])
    obtain ⟨rfl, y2⟩ := y
    have y3 := y2 xs (l.sqT hq)
    rw [e1] at y3; cases y3
    exact ⟨ds[j], by simp [hj], rv, Le.refl _, rp⟩
  · exact ⟨xs, l.sqT hq, Nat.le_of_eq r.length.symm⟩
theorem itr_str {K : PySem.W.Frag} {ρ : List Addr} {H : Hp} {x : M.T} (ok : okT x) : ItR K Θ ρ H (Its (ofT x)) (x.map fun c => .str [c]) [] := by
  refine ⟨fun j ρ' S' H' p l rp g hj => ?_, fun j ρ' S' H' v H2 p l rp g hj y => ?_, fun ρ' S' H' p l rp g => ?_⟩
  · rw [List.length_map] at hj
    show j < (ofT x).length
    rw [ofT_len]; exact hj
  · obtain ⟨rfl, c, hc, rfl⟩ := y
    have hc' : x[j]? = some c := by simpa [ofT] using hc
    exact ⟨.str [c], by rw [List.getElem?_map, hc']; rfl, ⟨rfl, okT_sub ok fun d hd => by rw [List.mem_singleton.mp hd]; exact List.mem_of_getElem? hc'⟩, Le.refl _, rp⟩
  · show (ofT x).length ≤ _
    rw [ofT_len, List.length_map]; exact Nat.le_refl _
theorem itr_range {K : PySem.W.Frag} {ρ : List Addr} {H : Hp} {lo hi : Int} : ItR K Θ ρ H (Itr lo (hi - lo).toNat) (M.rangeD lo hi) [] := by
  refine ⟨fun j ρ' S' H' p l rp g hj => ?_, fun j ρ' S' H' v H2 p l rp g hj y => ?_, fun ρ' S' H' p l rp g => ?_⟩
  · show j < _
    simpa [M.rangeD] using hj
  · obtain ⟨rfl, rfl⟩ := y
    have hj' : j < (hi - lo).toNat := by simpa [M.rangeD] using hj
    exact ⟨.int (lo + j), by unfold M.rangeD; rw [List.getElem?_map, List.getElem?_range hj']; rfl, rfl, Le.refl _, rp⟩
  · show _ ≤ _
    simp [M.rangeD]
theorem mi_e (he : ME X Θ e m) : MI X Θ tg e (M.iE m) := (PI.or (pi_list he) (PI.or (pi_tup he) (pi_str he))).imp fun σ H R ⟨ρ, σ', S, st, rp, h⟩ => by
  have h' : Post X.K Θ _ ρ H (((m σ' S).bind M.itD).bind fun p s => if M.gdOk p.2 s then .ok p s else .no) R := h
  clear h
  cases hm : m σ' S with
  | no => rw [hm] at h'; exact h'.elim
  | exc a s => rw [hm] at h'; exact h'.elim
  | ok d S1 =>
    rw [hm] at h'
    have go : ∀ {Q : VK}, (∀ ρ1 H1 v, ρ <+: ρ1 → Le H H1 → RepS X.K Θ ρ1 S1 H1 → RelD X.K ρ1 H1 d v → Q v H1) → RdE X.K Θ m σ H Q := fun q => ⟨ρ, σ', S, st, rp, by rw [hm]; exact q⟩
    cases d with
    | str x =>
      refine .inr (.inr (go fun ρ1 H1 v p l rp1 rv => ?_))
      have h2 : Post X.K Θ _ ρ H ((if x.length ≤ M.SZ then .ok (x.map fun c => M.D.str [c], []) S1 else M.R.no).bind fun p s => if M.gdOk p.2 s then .ok p s else .no) R := h'
      by_cases hl : x.length ≤ M.SZ
      · rw [if_pos hl] at h2
        exact ⟨ofT x, rv.1, h2 ρ1 H1 _ p l rp1 (itr_str rv.2)⟩
      · rw [if_neg hl] at h2
        exact h2.elim
    | tup ds =>
      refine .inr (.inl (go fun ρ1 H1 v p l rp1 rv => ?_))
      obtain ⟨a, xs, rfl, hq, r⟩ := rv
      exact ⟨a, rfl, ⟨xs, hq⟩, h' ρ1 H1 _ p l rp1 (itr_tup hq r)⟩
    | ro ds =>
      refine .inl (go fun ρ1 H1 v p l rp1 rv => ?_)
      obtain ⟨a, xs, rfl, hq, r⟩ := rv
      exact ⟨a, rfl, ⟨xs, hq.sq⟩, h' ρ1 H1 _ p l rp1 (itr_ro hq r)⟩
    | ref i =>
      have h2 : Post X.K Θ _ ρ H ((match S1[i]? with
        | some (.lst xs) => M.R.ok (xs, [(i, M.O.lst xs)]) S1
        | _ => .no).bind fun p s => if M.gdOk p.2 s then .ok p s else .no) R := h'
      cases q : S1[i]? with
      | none => rw [q] at h2; exact h2.elim
      | some o =>
        rw [q] at h2
        cases o with
        | lst xs =>
          refine .inl (go fun ρ1 H1 v p l rp1 rv => ?_)
          obtain ⟨a, rfl, e1⟩ := rv
          obtain ⟨b, e2, zs, e3, r⟩ := rp1.obj i _ q
          rw [e1] at e2; cases e2
          have hg : M.gdOk [(i, M.O.lst xs)] S1 = true := by simp [M.gdOk, q]
          have h3 : Post X.K Θ _ ρ H (if M.gdOk [(i, M.O.lst xs)] S1 then M.R.ok (xs, [(i, M.O.lst xs)]) S1 else .no) R := h2
          rw [if_pos hg] at h3
          exact ⟨a, rfl, ⟨zs, SqL.of e3⟩, h3 ρ1 H1 _ p l rp1 (itr_list e1)⟩
        | dct kvs => exact h2.elim
        | ins c fs => exact h2.elim
    | non => exact h'.elim
    | bl b => exact h'.elim
    | int b => exact h'.elim
    | ty b => exact h'.elim
theorem w_mi_e (he : WE X Θ e m) : WI X Θ tg e (M.iE m) := by with_unfolding_all exact mi_e he
theorem mi_range1 {p pos : Pos} (hg : Gl X "range") (hm : X.mg "range" = none) (he : ME X Θ e m) (hs : notStar e = true := by rfl) : MI X Θ tg (.Call (.Name "range" p) [e] [] pos) (M.iRange1 m) :=
  (pi_range1 hg hm (ma_cons he ma_nil hs) (star_cons hs)).imp fun σ H R ⟨ρ, σ', S, st, rp, h⟩ => ⟨ρ, σ', S, st, rp, by
    have h' : Post X.K Θ _ ρ H (((m σ' S).bind fun x s => match x with
      | .int j => if j.natAbs < 4611686018427387904 then M.R.ok (M.rangeD 0 j, ([] : M.Gd)) s else .no
      | _ => .no).bind fun p s => if M.gdOk p.2 s then .ok p s else .no) R := h
    show Post X.K Θ _ ρ H ((m σ' S).bind fun x s => (M.R.ok [] s).bind fun xs s => .ok (x :: xs) s) _
    cases hm : m σ' S with
    | no => rw [hm] at h'; exact h'.elim
    | exc a s => rw [hm] at h'; exact h'.elim
    | ok d S1 =>
      rw [hm] at h'
      intro ρ1 H1 vs p l rp1 rv
      obtain ⟨v, ys, rfl, rv, hy⟩ := rv
      cases hy
      cases d with
      | int j =>
        cases rv
        have h2 : Post X.K Θ _ ρ H ((if j.natAbs < 4611686018427387904 then M.R.ok (M.rangeD 0 j, ([] : M.Gd)) S1 else .no).bind fun p s => if M.gdOk p.2 s then .ok p s else .no) R := h'
        by_cases hj : j.natAbs < 4611686018427387904
        · rw [if_pos hj] at h2
          refine ⟨j, rfl, by omega, by omega, ?_⟩
          have := h2 ρ1 H1 _ p l rp1 (itr_range (lo := 0) (hi := j))
          rw [Int.sub_zero] at this
          exact this
        · rw [if_neg hj] at h2
          exact h2.elim
      | _ => exact h'.elim⟩
theorem w_mi_range1 {p pos : Pos} (hg : Gl X "range") (hm : X.mg "range" = none) (he : WE X Θ e m) (hs : notStar e = true := by rfl) : WI X Θ tg (.Call (.Name "range" p) [e] [] pos) (M.iRange1 m) := by with_unfolding_all exact mi_range1 (p := p) (pos := pos) hg hm he hs
end
section
variable {X : Cx} {Θ : Tab} {pos : Pos}
theorem ms_while {c : Expr} {body : List Stmt} {tc : M.TM} {mb : M.SM} (hp : PassesOwn (model X.prog X.w) X.A X.env X.xe) (hc : MT X Θ c tc) (hb : MSs X Θ body mb) : MS X Θ (.While c body [] pos) (M.sWhile tc mb) :=
  (ps_while hp hc hb).imp fun D σ H ⟨ρ, σ', S, st, rp, h⟩ => by
    refine ⟨fun k σ2 H2 => ∃ ρ2 σ2' S2, RelSt X.K ρ2 H2 σ2' σ2 ∧ RepS X.K Θ ρ2 S2 H2 ∧ PostS X.K Θ ρ2 H2 (M.whileF k tc mb σ2' S2) D, ⟨M.FUEL, ρ, σ', S, st, rp, h⟩, ?_⟩
    rintro k σ2 H2 ⟨ρ2, σ2', S2, st2, rp2, h2⟩
    cases k with
    | zero => exact h2.elim
    | succ k =>
      refine ⟨ρ2, σ2', S2, st2, rp2, PostS.stm h2 fun ρ3 H3 b b' S3 p3 l3 rp3 eb h3 => ?_⟩
      cases eb
      cases b with
      | false => exact iteF (PostS.nx (σ := σ2) h3 rp3 (st2.mono p3 l3))
      | true =>
        refine iteT ⟨fun σ4 H4 => ∃ ρ4 σ4' S4, RelSt X.K ρ4 H4 σ4' σ4 ∧ RepS X.K Θ ρ4 S4 H4 ∧ PostS X.K Θ ρ4 H4 (M.whileF k tc mb σ4' S4) D, fun σ4 H4 q => ⟨k, Nat.lt_succ_self k, q⟩, ρ3, σ2', S3, st2.mono p3 l3, rp3, ?_⟩
        have h4 : PostS X.K Θ ρ3 H3 (match mb σ2' S3 with
          | .nx σ s => M.whileF k tc mb σ s
          | .ct σ s => M.whileF k tc mb σ s
          | .bk σ s => .nx σ s
          | r => r) D := h3
        revert h4
        cases mb σ2' S3 with
        | nx a s => exact fun h4 ρ4 H4 σ4 p4 l4 rp4 st4 => ⟨ρ4, a, s, st4, rp4, PostS.weak h4 p4 l4⟩
        | ct a s => exact fun h4 ρ4 H4 σ4 p4 l4 rp4 st4 => ⟨ρ4, a, s, st4, rp4, PostS.weak h4 p4 l4⟩
        | bk a s => exact fun h4 => h4
        | rt a s => exact fun h4 => h4
        | exc e a s => exact fun h4 => h4
        | no => exact fun h4 => h4
theorem w_ms_while {c : Expr} {body : List Stmt} {tc : M.TM} {mb : M.SM} (hp : PassesOwn (model X.prog X.w) X.A X.env X.xe) (hc : WT X Θ c tc) (hb : WSs X Θ body mb) : WS X Θ (.While c body [] pos) (M.sWhile tc mb) := by with_unfolding_all exact ms_while (c := c) (body := body) (tc := tc) (mb := mb) hp hc hb
theorem for_W {K : PySem.W.Frag} {g : M.GM} {js : List Nat} {mb : M.SM} {xs : List M.D} {gd : M.Gd} {J : It} {ρ1 : List Addr} {H1 : Hp} {σ : St} {σ' : M.St} {S1 : M.S} {D : Ends} (itr : ItR K Θ ρ1 H1 J xs gd) (st : RelSt K ρ1 H1 σ' σ) (rp1 : RepS K Θ ρ1 S1 H1) (hgd : M.gdOk gd S1 = true) (h2 : PostS K Θ ρ1 H1 (M.forL gd (M.forF g mb) xs σ' S1) D) :
    ∃ W : Nat → Nat → St → Hp → Prop, (∃ m, W 0 m σ H1) ∧ ∀ i m σ H, W i m σ H →
      (J.stop i H ∧ D.nx σ H) ∨ (J.go i H ∧ ∃ N : St → Hp → Prop, (∀ σ' H', N σ' H' → ∃ m', m' < m ∧ W (i + 1) m' σ' H') ∧ ∀ x H', J.yld i H x H' → RdG K Θ js g x σ H' fun σ2 H2 => RdS K Θ mb { D with nx := N, ct := N, bk := D.nx } σ2 H2) := by
  refine ⟨fun i k σ2 H2 => ∃ ρ2 σ2' S2, ρ1 <+: ρ2 ∧ Le H1 H2 ∧ RelSt K ρ2 H2 σ2' σ2 ∧ RepS K Θ ρ2 S2 H2 ∧ M.gdOk gd S2 = true ∧ k = xs.length - i ∧ i ≤ xs.length ∧ PostS K Θ ρ2 H2 (M.forL gd (M.forF g mb) (xs.drop i) σ2' S2) D,
    ⟨xs.length, ρ1, σ', S1, List.prefix_refl _, Le.refl _, st, rp1, hgd, rfl, Nat.zero_le _, h2⟩, ?_⟩
  rintro i k σ2 H2 ⟨ρ2, σ2', S2, p2, l2, st2, rp2, g2, rfl, hi2, h3⟩
  by_cases hlt : i < xs.length
  · refine .inr ⟨itr.go i ρ2 S2 H2 p2 l2 rp2 g2 hlt, fun σ3 H3 => ∃ ρ3 σ3' S3, ρ1 <+: ρ3 ∧ Le H1 H3 ∧ RelSt K ρ3 H3 σ3' σ3 ∧ RepS K Θ ρ3 S3 H3 ∧ M.gdOk gd S3 = true ∧ PostS K Θ ρ3 H3 (M.forL gd (M.forF g mb) (xs.drop (i + 1)) σ3' S3) D,
      fun σ3 H3 ⟨ρ3, σ3', S3, a1, a2, a3, a4, a5, a6⟩ => ⟨xs.length - (i + 1), by omega, ρ3, σ3', S3, a1, a2, a3, a4, a5, rfl, hlt, a6⟩, fun x H' y => ?_⟩
    obtain ⟨d, ed, rd, ld, rpd⟩ := itr.yld i ρ2 S2 H2 x H' p2 l2 rp2 g2 hlt y
    have edr : xs.drop i = d :: xs.drop (i + 1) := by
      obtain ⟨_, e⟩ := List.getElem?_eq_some_iff.mp ed
      rw [List.drop_eq_getElem_cons hlt, e]
    rw [edr] at h3
    have h4 : PostS K Θ ρ2 H2 (match (match g d σ2' with | some σ' => mb σ' S2 | none => M.RS.no) with
      | .nx σ s => if M.gdOk gd s then M.forL gd (M.forF g mb) (xs.drop (i + 1)) σ s else .no
      | .ct σ s => if M.gdOk gd s then M.forL gd (M.forF g mb) (xs.drop (i + 1)) σ s else .no
      | .bk σ s => .nx σ s
      | r => r) D := h3
    cases hgq : g d σ2' with
    | none => rw [hgq] at h4; exact h4.elim
    | some σ1 =>
      rw [hgq] at h4
      refine ⟨ρ2, σ2', S2, d, st2.mono (List.prefix_refl _) ld, rpd, rd, σ1, hgq, fun H'' σ3 le3 rp3 st3 _ _ => ⟨ρ2, σ1, S2, st3, rp3, ?_⟩⟩
      have h5 := PostS.weak h4 (List.prefix_refl _) (ld.trans le3)
      have h6 : PostS K Θ ρ2 H'' (match mb σ1 S2 with
        | .nx σ s => if M.gdOk gd s then M.forL gd (M.forF g mb) (xs.drop (i + 1)) σ s else .no
        | .ct σ s => if M.gdOk gd s then M.forL gd (M.forF g mb) (xs.drop (i + 1)) σ s else .no
        | .bk σ s => .nx σ s
        | r => r) D := h5
      have more : ∀ (a : M.St) (s : M.S), PostS K Θ ρ2 H'' (if M.gdOk gd s then M.forL gd (M.forF g mb) (xs.drop (i + 1)) a s else .no) D → ∀ ρ4 H4 σ4, ρ2 <+: ρ4 → Le H'' H4 → RepS K Θ ρ4 s H4 → RelSt K ρ4 H4 a σ4 →
          ∃ ρ3 σ3' S3, ρ1 <+: ρ3 ∧ Le H1 H4 ∧ RelSt K ρ3 H4 σ3' σ4 ∧ RepS K Θ ρ3 S3 H4 ∧ M.gdOk gd S3 = true ∧ PostS K Θ ρ3 H4 (M.forL gd (M.forF g mb) (xs.drop (i + 1)) σ3' S3) D := fun a s h7 ρ4 H4 σ4 p4 l4 rp4 st4 => by
        by_cases hs : M.gdOk gd s = true
        · rw [if_pos hs] at h7
          exact ⟨ρ4, a, s, p2.trans p4, l2.trans (ld.trans (le3.trans l4)), st4, rp4, hs, PostS.weak h7 p4 l4⟩
        · rw [if_neg hs] at h7; exact h7.elim
      revert h6
      cases mb σ1 S2 with
      | nx a s => exact fun h6 => more a s h6
      | ct a s => exact fun h6 => more a s h6
      | bk a s => exact fun h6 => h6
      | rt a s => exact fun h6 => h6
      | exc e a s => exact fun h6 => h6
      | no => exact fun h6 => h6
  · have e : i = xs.length := by omega
    subst e
    rw [List.drop_length] at h3
    exact .inl ⟨itr.stop ρ2 S2 H2 p2 l2 rp2 g2, PostS.nx (σ := σ2) h3 rp2 st2⟩
theorem ms_for {tg iter : Expr} {body : List Stmt} {it : M.IM} {g : M.GM} {js : List Nat} {mb : M.SM} (hp : PassesOwn (model X.prog X.w) X.A X.env X.xe) (hc : X.calm = true) (hi : MI X Θ tg iter it) (hg : MG X Θ js tg g) (hb : MSs X Θ body mb)
    (hs : ∀ x, foldedSetIterable iter X.env x = pure x := by intro _; rfl) : MS X Θ (.For tg iter body [] pos) (M.sFor it g mb) :=
  (ps_for hp hc hi hg hb hs).imp fun D σ H ⟨ρ, σ', S, st, rp, h⟩ => ⟨ρ, σ', S, st, rp, by
    have h' : PostS X.K Θ ρ H ((it σ' S).stm σ' fun p s => if M.gdOk p.2 s = true then M.forL p.2 (M.forF g mb) p.1 σ' s else .no) D := h
    cases hit : it σ' S with
    | no => rw [hit] at h'; exact h'.elim
    | exc a s => rw [hit] at h'; exact h'.elim
    | ok p S1 =>
      rw [hit] at h'
      obtain ⟨xs, gd⟩ := p
      show Post X.K Θ _ ρ H (if M.gdOk gd S1 then M.R.ok (xs, gd) S1 else .no) _
      have h2 : PostS X.K Θ ρ H (if M.gdOk gd S1 = true then M.forL gd (M.forF g mb) xs σ' S1 else .no) D := h'
      by_cases hgd : M.gdOk gd S1 = true
      case neg => rw [if_neg hgd] at h2; exact h2.elim
      rw [if_pos hgd] at h2
      rw [if_pos hgd]
      intro ρ1 H1 J p1 l1 rp1 (itr : ItR X.K Θ ρ1 H1 J xs gd)
      exact for_W itr (st.mono p1 l1) rp1 hgd (PostS.weak h2 p1 l1)⟩
theorem w_ms_for {tg iter : Expr} {body : List Stmt} {it : M.IM} {g : M.GM} {js : List Nat} {mb : M.SM} (hp : PassesOwn (model X.prog X.w) X.A X.env X.xe) (hc : X.calm = true) (hi : WI X Θ tg iter it) (hg : WG X Θ js tg g) (hb : WSs X Θ body mb)
    (hs : ∀ x, foldedSetIterable iter X.env x = pure x := by intro _; rfl) : WS X Θ (.For tg iter body [] pos) (M.sFor it g mb) := by with_unfolding_all exact ms_for (tg := tg) (iter := iter) (body := body) (it := it) (g := g) (js := js) (mb := mb) hp hc hi hg hb hs
theorem comp_W {K : PySem.W.Frag} {n : Nat} {it : M.IM} {g : M.GM} {js : List Nat} {tc : M.TM} {me : M.EM} {σ : St} {σ' : M.St} {S : M.S} {ρ : List Addr} {H : Hp} {R : List V → Hp → Prop} (st : RelSt K ρ H σ' σ) (rp : RepS K Θ ρ S H) (hj : ∀ j ∈ js, σ.length ≤ j)
    (h : Post K Θ (RelDs K) ρ H (M.compE n it g tc me σ' S) R) :
    RdI K Θ it σ H fun J H1 => ∃ W : Nat → Nat → List V → Hp → Prop, (∃ m, W 0 m [] H1) ∧ ∀ i m ys H2, W i m ys H2 → ys.length ≤ sizeLine ∧
      ((J.stop i H2 ∧ R ys H2) ∨
       (J.go i H2 ∧ ∀ x H3, J.yld i H2 x H3 → RdG K Θ js g x (σ ++ List.replicate n none) H3 fun σ2 H4 => Wk (σ ++ List.replicate n none) σ2 ∧ RdT K Θ tc σ2 H4 fun b H5 =>
          if b = true then RdE K Θ me σ2 H5 fun y H6 => ∃ m', m' < m ∧ W (i + 1) m' (ys ++ [y]) H6 else ∃ m', m' < m ∧ W (i + 1) m' ys H5)) := by
  refine ⟨ρ, σ', S, st, rp, ?_⟩
  have h' : Post K Θ (RelDs K) ρ H ((it σ' S).bind fun p s => if p.1.length ≤ M.SZ ∧ M.gdOk p.2 s = true then M.compL p.2 (M.compF n g tc me σ') p.1 s else .no) R := h
  cases hit : it σ' S with
  | no => rw [hit] at h'; exact h'.elim
  | exc a s => rw [hit] at h'; exact h'.elim
  | ok p S1 =>
    rw [hit] at h'
    obtain ⟨xs, gd⟩ := p
    show Post K Θ _ ρ H (if M.gdOk gd S1 then M.R.ok (xs, gd) S1 else .no) _
    have h2 : Post K Θ (RelDs K) ρ H (if xs.length ≤ M.SZ ∧ M.gdOk gd S1 = true then M.compL gd (M.compF n g tc me σ') xs S1 else .no) R := h'
    by_cases hgd : xs.length ≤ M.SZ ∧ M.gdOk gd S1 = true
    case neg => rw [if_neg hgd] at h2; exact h2.elim
    rw [if_pos hgd] at h2
    rw [if_pos hgd.2]
    intro ρ1 H1 J p1 l1 rp1 (itr : ItR K Θ ρ1 H1 J xs gd)
    refine ⟨fun i k ys H2 => ∃ ρ2 S2 ds, ρ1 <+: ρ2 ∧ Le H1 H2 ∧ RepS K Θ ρ2 S2 H2 ∧ M.gdOk gd S2 = true ∧ RelDs K ρ2 H2 ds ys ∧ ds.length ≤ i ∧ k = xs.length - i ∧ i ≤ xs.length ∧ Post K Θ (RelDs K) ρ2 H2 ((M.compL gd (M.compF n g tc me σ') (xs.drop i) S2).bind fun es s => .ok (ds ++ es) s) R,
      ⟨xs.length, ρ1, S1, [], List.prefix_refl _, Le.refl _, rp1, hgd.2, rfl, Nat.le_refl _, rfl, Nat.zero_le _, ?_⟩, ?_⟩
    · have h3 := Post.weak h2 p1 l1
      revert h3
      show Post K Θ (RelDs K) ρ1 H1 (M.compL gd (M.compF n g tc me σ') xs S1) R → _
      rw [List.drop_zero]
      cases M.compL gd (M.compF n g tc me σ') xs S1 with
      | ok a s => exact fun h3 => h3
      | exc e s => exact fun h3 => h3
      | no => exact fun h3 => h3
    rintro i k ys H2 ⟨ρ2, S2, ds, p2, l2, rp2, g2, rds, hdl, rfl, hi2, h3⟩
    refine ⟨by rw [← rds.length, ← SZ_eq]; omega, ?_⟩
    by_cases hlt : i < xs.length
    · refine .inr ⟨itr.go i ρ2 S2 H2 p2 l2 rp2 g2 hlt, fun x H3 y => ?_⟩
      obtain ⟨d, ed, rd, ld, rpd⟩ := itr.yld i ρ2 S2 H2 x H3 p2 l2 rp2 g2 hlt y
      have edr : xs.drop i = d :: xs.drop (i + 1) := by
        obtain ⟨_, e⟩ := List.getElem?_eq_some_iff.mp ed
        rw [List.drop_eq_getElem_cons hlt, e]
      rw [edr] at h3
      have h4 : Post K Θ (RelDs K) ρ2 H2 (((match g d (σ' ++ List.replicate n none) with
          | none => M.R.no
          | some σ1 => (tc σ1 S2).bind fun b s => if b then (me σ1 s).bind fun d s => .ok (some d) s else .ok none s).bind fun o s =>
            if M.gdOk gd s then (M.compL gd (M.compF n g tc me σ') (xs.drop (i + 1)) s).bind fun ys s => .ok (match o with | some y => y :: ys | none => ys) s else .no).bind fun es s => .ok (ds ++ es) s) R := h3
      cases hgq : g d (σ' ++ List.replicate n none) with
      | none => rw [hgq] at h4; exact h4.elim
      | some σ1 =>
        rw [hgq] at h4
        refine ⟨ρ2, σ' ++ List.replicate n none, S2, d, ((st.mono (p1.trans p2) (l1.trans (l2.trans ld))).more n), rpd, rd, σ1, hgq, fun H4 σ2 le4 rp4 st4 hl4 hj4 => ⟨⟨hl4.symm, fun j v e => ?_⟩, ρ2, σ1, S2, st4, rp4, ?_⟩⟩
        · by_cases hjj : j ∈ js
          · rw [List.getElem?_append_right (hj j hjj), List.getElem?_replicate] at e
            split at e <;> cases e
          · rw [hj4 j hjj]; exact e
        · have h5 := Post.weak h4 (List.prefix_refl _) (ld.trans le4)
          dsimp only at h5
          cases htc : tc σ1 S2 with
          | no => rw [htc] at h5; exact h5.elim
          | exc a s => rw [htc] at h5; exact h5.elim
          | ok b S3 =>
            rw [htc] at h5
            intro ρ5 H5 b' p5 l5 rp5 eb
            cases eb
            have next : ∀ (o : Option M.D) (s : M.S) (ρ6 : List Addr) (H6 : Hp) (zs : List V), ρ2 <+: ρ6 → Le H4 H6 → RepS K Θ ρ6 s H6 → RelDs K ρ6 H6 (match o with | some y => ds ++ [y] | none => ds) zs →
                Post K Θ (RelDs K) ρ6 H6 ((if M.gdOk gd s then (M.compL gd (M.compF n g tc me σ') (xs.drop (i + 1)) s).bind fun ys s => .ok (match o with | some y => y :: ys | none => ys) s else .no).bind fun es s => .ok (ds ++ es) s) R →
                ∃ m', m' < xs.length - i ∧ ∃ ρ2 S2 es, ρ1 <+: ρ2 ∧ Le H1 H6 ∧ RepS K Θ ρ2 S2 H6 ∧ M.gdOk gd S2 = true ∧ RelDs K ρ2 H6 es zs ∧ es.length ≤ i + 1 ∧ m' = xs.length - (i + 1) ∧ i + 1 ≤ xs.length ∧
                  Post K Θ (RelDs K) ρ2 H6 ((M.compL gd (M.compF n g tc me σ') (xs.drop (i + 1)) S2).bind fun fs s => .ok (es ++ fs) s) R := fun o s ρ6 H6 zs p6 l6 rp6 rz h6 => by
              by_cases hs : M.gdOk gd s = true
              case neg => rw [if_neg hs] at h6; exact h6.elim
              rw [if_pos hs] at h6
              refine ⟨xs.length - (i + 1), by omega, ρ6, s, _, p2.trans p6, l2.trans (ld.trans (le4.trans l6)), rp6, hs, rz, ?_, rfl, hlt, ?_⟩
              · cases o <;> simp <;> omega
              · revert h6
                cases M.compL gd (M.compF n g tc me σ') (xs.drop (i + 1)) s with
                | ok a s2 =>
                  intro h6
                  cases o with
                  | none => exact h6
                  | some y =>
                    show Post K Θ (RelDs K) ρ6 H6 (.ok (ds ++ [y] ++ a) s2) R
                    rw [List.append_assoc]
                    exact h6
                | exc e s => exact fun h6 => h6
                | no => exact fun h6 => h6
            cases b with
            | false => exact iteF (next none S3 ρ5 H5 ys p5 l5 rp5 (rds.mono p5 (ld.trans (le4.trans l5))) (Post.weak h5 p5 l5))
            | true =>
              refine iteT ⟨ρ5, σ1, S3, st4.mono p5 l5, rp5, ?_⟩
              have h6 := Post.weak h5 p5 l5
              cases hme : me σ1 S3 with
              | no =>
                have h7 : Post K Θ (RelDs K) ρ5 H5 ((((me σ1 S3).bind fun d s => M.R.ok (some d) s).bind fun o s => if M.gdOk gd s then (M.compL gd (M.compF n g tc me σ') (xs.drop (i + 1)) s).bind fun ys s => .ok (match o with | some y => y :: ys | none => ys) s else .no).bind fun es s => .ok (ds ++ es) s) R := h6
                rw [hme] at h7; exact h7.elim
              | exc a s =>
                have h7 : Post K Θ (RelDs K) ρ5 H5 ((((me σ1 S3).bind fun d s => M.R.ok (some d) s).bind fun o s => if M.gdOk gd s then (M.compL gd (M.compF n g tc me σ') (xs.drop (i + 1)) s).bind fun ys s => .ok (match o with | some y => y :: ys | none => ys) s else .no).bind fun es s => .ok (ds ++ es) s) R := h6
                rw [hme] at h7; exact h7.elim
              | ok y S6 =>
                have h7 : Post K Θ (RelDs K) ρ5 H5 ((((me σ1 S3).bind fun d s => M.R.ok (some d) s).bind fun o s => if M.gdOk gd s then (M.compL gd (M.compF n g tc me σ') (xs.drop (i + 1)) s).bind fun ys s => .ok (match o with | some y => y :: ys | none => ys) s else .no).bind fun es s => .ok (ds ++ es) s) R := h6
                rw [hme] at h7
                intro ρ6 H6 v p6 l6 rp6 rv
                exact next (some y) S6 ρ6 H6 (ys ++ [v]) (p5.trans p6) (l5.trans l6) rp6 ((rds.mono (p5.trans p6) (ld.trans (le4.trans (l5.trans l6)))).app ⟨v, [], rfl, rv, rfl⟩) (Post.weak h7 p6 l6)
    · have e : i = xs.length := by omega
      subst e
      rw [List.drop_length] at h3
      refine .inl ⟨itr.stop ρ2 S2 H2 p2 l2 rp2 g2, ?_⟩
      have h4 : Post K Θ (RelDs K) ρ2 H2 (.ok (ds ++ []) S2) R := h3
      rw [List.append_nil] at h4
      exact h4.here rp2 rds
end
end L2
namespace L2
open PySem PySem.Spec PyProof.Rows
section
variable {X : Cx} {Θ : Tab} {pos : Pos} {vars : List Str} {scope : Scope} {cl : List (Str × Addr)} {tg elt iter : Expr} {ifs : List Expr} {it : M.IM} {g : M.GM} {js : List Nat} {tc : M.TM} {me : M.EM}
theorem comp_rd {pins : List (Addr × Obj)} {s : Shared} {σ : St} {H : Hp} (I : Inv X pins σ H s) (hj : ∀ j ∈ js, X.N.length ≤ j) {ρ : List Addr} {σ' : M.St} {S : M.S} (st : RelSt X.K ρ H σ' σ) (rp : RepS X.K Θ ρ S H) {Q : VK} {n : Nat}
    (h : Post X.K Θ (RelDs X.K) ρ H (M.compE n it g tc me σ' S) fun ys H2 => ∀ D, H2 D = none → Q (.ref D) (upd H2 D (.lst ys))) :
    tComp n (RdI X.K Θ it) (RdG X.K Θ js g) (RdT X.K Θ tc) (RdE X.K Θ me) σ H Q := comp_W st rp (fun j hjj => by rw [I.len]; exact hj j hjj) h
theorem ms_setcomp {i : Nat} {y : Str} {py spos : Pos} (hc : X.calm = true) (C : CompScope X vars scope cl) (hN : X.N.Nodup) (hiy : X.N[i]? = some y) (hy : Loc X.env.scope y) (hi : MI X Θ tg iter it) (hg : ∀ C fp s₂ H₂, MG (compCx X vars scope cl C fp s₂ H₂) Θ js tg g) (ht : ∀ C fp s₂ H₂, PIfs (compCx X vars scope cl C fp s₂ H₂) ifs (RdT X.K Θ tc))
    (he : ∀ C fp s₂ H₂, ME (compCx X vars scope cl C fp s₂ H₂) Θ elt me) (hj' : (js.all fun j => decide (X.N.length ≤ j)) = true) (hs : ∀ x, foldedSetIterable iter X.env x = pure x := by intro _; rfl)
    (hsw : swapsWith (.ListComp elt [⟨tg, iter, ifs, 0⟩] scope pos) (some (.Name y py)) spos.line X.env = pure true := by rfl)
    (hf : X.fn y = true ∨ X.env.scope.names.lookup y = some .local := by first | exact .inl rfl | exact .inr rfl | assumption) :
    MS X Θ (.Assign [.Name y py] (.ListComp elt [⟨tg, iter, ifs, 0⟩] scope pos) spos) (M.sSet i (M.eComp vars.length it g tc me)) := by
  intro pins s σ H D I ⟨ρ, σ', S, st, rp, h⟩
  have hj : ∀ j ∈ js, X.N.length ≤ j := fun j hjj => of_decide_eq_true (List.all_eq_true.mp hj' j hjj)
  refine ps_setcomp hc C hN hiy hy hi hg ht he hs hsw hf pins s σ H D I (comp_rd I hj st rp ?_)
  have h' : PostS X.K Θ ρ H (((M.compE vars.length it g tc me σ' S).bind fun ys s => M.alloc (.lst ys) s).stm σ' fun d s => .nx (σ'.set i (some d)) s) D := h
  cases hm : M.compE vars.length it g tc me σ' S with
  | no => rw [hm] at h'; exact h'.elim
  | exc a s => rw [hm] at h'; exact h'.elim
  | ok ds S1 =>
    rw [hm] at h'
    intro ρ1 H1 ys p1 l1 rp1 r1 E hE
    have h2 : PostS X.K Θ ρ H (.nx (σ'.set i (some (.ref S1.length))) (S1 ++ [.lst ds])) D := h'
    have rp2 : RepS X.K Θ (ρ1 ++ [E]) (S1 ++ [.lst ds]) (upd H1 E (.lst ys)) := rp1.alloc hE ⟨ys, upd_same, r1.mono (List.prefix_append _ _) (Le.new hE _)⟩
    exact h2 (ρ1 ++ [E]) _ _ (p1.trans (List.prefix_append _ _)) (l1.trans (Le.new hE _)) rp2 (((st.mono p1 l1).mono (List.prefix_append _ _) (Le.new hE _)).set (show RelD X.K (ρ1 ++ [E]) (upd H1 E (.lst ys)) (.ref S1.length) (.ref E) from ⟨E, rfl, by rw [← rp1.len]; simp⟩) i)
theorem w_ms_setcomp {i : Nat} {y : Str} {py spos : Pos} (hc : X.calm = true) (C : CompScope X vars scope cl) (hN : X.N.Nodup) (hiy : X.N[i]? = some y) (hy : Loc X.env.scope y) (hi : WI X Θ tg iter it) (hg : ∀ C fp s₂ H₂, WG (compCx X vars scope cl C fp s₂ H₂) Θ js tg g) (ht : ∀ C fp s₂ H₂, PIfs (compCx X vars scope cl C fp s₂ H₂) ifs (RdT X.K Θ tc))
    (he : ∀ C fp s₂ H₂, WE (compCx X vars scope cl C fp s₂ H₂) Θ elt me) (hj' : (js.all fun j => decide (X.N.length ≤ j)) = true) (hs : ∀ x, foldedSetIterable iter X.env x = pure x := by intro _; rfl)
    (hsw : swapsWith (.ListComp elt [⟨tg, iter, ifs, 0⟩] scope pos) (some (.Name y py)) spos.line X.env = pure true := by rfl)
    (hf : X.fn y = true ∨ X.env.scope.names.lookup y = some .local := by first | exact .inl rfl | exact .inr rfl | assumption) :
    WS X Θ (.Assign [.Name y py] (.ListComp elt [⟨tg, iter, ifs, 0⟩] scope pos) spos) (M.sSet i (M.eComp vars.length it g tc me)) := by with_unfolding_all exact ms_setcomp (i := i) (y := y) (py := py) (spos := spos) hc C hN hiy hy hi hg ht he hj' hs hsw hf
def AdK (K : PySem.W.Frag) (Θ : Tab) (k : List M.D → M.S → M.R M.D) (r : List V → Hp → VK → Prop) : Prop := ∀ ρ H S ds ys p Q, RepS K Θ ρ S H → RelDs K ρ H ds ys → SqL K H p ys → Post K Θ (RelD K) ρ H (k ds S) Q → r [.ref p] H Q
theorem me_callC {x : Str} {p : Pos} {id : String} {pos2 : Pos} {k : List M.D → M.S → M.R M.D} {r : List V → Hp → VK → Prop} (hcr : CallR X (.builtin id) r) (ad : AdK X.K Θ k r) (hgl : Gl X x) (hm : X.mg x = none) (hv : bootBuiltins x = some (.builtin id))
    (hc : X.calm = true) (C : CompScope X vars scope cl) (hi : MI X Θ tg iter it) (hg : ∀ C fp s₂ H₂, MG (compCx X vars scope cl C fp s₂ H₂) Θ js tg g) (ht : ∀ C fp s₂ H₂, PIfs (compCx X vars scope cl C fp s₂ H₂) ifs (RdT X.K Θ tc))
    (he : ∀ C fp s₂ H₂, ME (compCx X vars scope cl C fp s₂ H₂) Θ elt me) (hj' : (js.all fun j => decide (X.N.length ≤ j)) = true) (hs : ∀ x, foldedSetIterable iter X.env x = pure x := by intro _; rfl)
    (hn : x ≠ "__name__" := by decide) (hdb : (x == ("__debug__" : Str)) = false := by decide)
    :
    ME X Θ (.Call (.Name x p) [.ListComp elt [⟨tg, iter, ifs, 0⟩] scope pos] [] pos2) (M.eCompK k vars.length it g tc me) := by
  intro pins s σ H Q I ⟨ρ, σ', S, st, rp, h⟩
  have hj : ∀ j ∈ js, X.N.length ≤ j := fun j hjj => of_decide_eq_true (List.all_eq_true.mp hj' j hjj)
  refine pe_callB hcr hgl hm hv (pa_cons (pe_comp (g := RdG X.K Θ js g) (ti := RdT X.K Θ tc) (te := RdE X.K Θ me) hc C hi hg ht he hs) pa_nil (star_cons rfl)) hn hdb (star_cons rfl) rfl pins s σ H Q I ?_
  show tComp vars.length _ _ _ _ σ H (fun x H1 => r [x] H1 Q)
  refine comp_rd I hj st rp (Post.bind h fun ρ1 H1 ds ys S1 p1 l1 rp1 r1 h1 D hD => ?_)
  exact ad ρ1 _ S1 ds ys D Q (rp1.aside hD _) (r1.mono (List.prefix_refl _) (Le.new hD _)) (SqL.of upd_same) (Post.weak h1 (List.prefix_refl _) (Le.new hD _))
theorem w_me_callC {x : Str} {p : Pos} {id : String} {pos2 : Pos} {k : List M.D → M.S → M.R M.D} {r : List V → Hp → VK → Prop} (hcr : CallR X (.builtin id) r) (ad : AdK X.K Θ k r) (hgl : Gl X x) (hm : X.mg x = none) (hv : bootBuiltins x = some (.builtin id))
    (hc : X.calm = true) (C : CompScope X vars scope cl) (hi : WI X Θ tg iter it) (hg : ∀ C fp s₂ H₂, WG (compCx X vars scope cl C fp s₂ H₂) Θ js tg g) (ht : ∀ C fp s₂ H₂, PIfs (compCx X vars scope cl C fp s₂ H₂) ifs (RdT X.K Θ tc))
    (he : ∀ C fp s₂ H₂, WE (compCx X vars scope cl C fp s₂ H₂) Θ elt me) (hj' : (js.all fun j => decide (X.N.length ≤ j)) = true) (hs : ∀ x, foldedSetIterable iter X.env x = pure x := by intro _; rfl)
    (hn : x ≠ "__name__" := by decide) (hdb : (x == ("__debug__" : Str)) = false := by decide)
    :
    WE X Θ (.Call (.Name x p) [.ListComp elt [⟨tg, iter, ifs, 0⟩] scope pos] [] pos2) (M.eCompK k vars.length it g tc me) := by with_unfolding_all exact me_callC (x := x) (p := p) (id := id) (pos2 := pos2) (k := k) (r := r) hcr ad hgl hm hv hc C hi hg ht he hj' hs hn hdb
theorem me_joinC {y : M.T} {z : Str} {j : Nat} {p apos cpos : Pos} (hz : z = ofT y) (hc : X.calm = true) (C : CompScope X vars scope cl) (hi : MI X Θ tg iter it) (hg : ∀ C fp s₂ H₂, MG (compCx X vars scope cl C fp s₂ H₂) Θ js tg g) (ht : ∀ C fp s₂ H₂, PIfs (compCx X vars scope cl C fp s₂ H₂) ifs (RdT X.K Θ tc))
    (he : ∀ C fp s₂ H₂, ME (compCx X vars scope cl C fp s₂ H₂) Θ elt me) (hj' : (js.all fun j => decide (X.N.length ≤ j)) = true) (ad : ∀ ρ H S ds ys p Q, RepS X.K Θ ρ S H → RelDs X.K ρ H ds ys → SqL X.K H p ys → Post X.K Θ (RelD X.K) ρ H (M.kJoin y ds S) Q → rJoin X.K (.str (ofT y)) [.ref p] H Q) (hs : ∀ x, foldedSetIterable iter X.env x = pure x := by intro _; rfl)
    (hline : (apos.endLine == cpos.line) = true := by rfl)
    :
    ME X Θ (.Call (.Attribute (.Constant (.str z) j p) "join" apos) [.ListComp elt [⟨tg, iter, ifs, 0⟩] scope pos] [] cpos) (M.eCompK (M.kJoin y) vars.length it g tc me) := by
  intro pins s σ H Q I ⟨ρ, σ', S, st, rp, h⟩
  have hj : ∀ j ∈ js, X.N.length ≤ j := fun j hjj => of_decide_eq_true (List.all_eq_true.mp hj' j hjj)
  subst hz
  refine pe_bm PySem.F.plainAttrs_str PySem.F.slot_str_join PySem.F.type_str_join mt_join pe_str (pa_cons (pe_comp (g := RdG X.K Θ js g) (ti := RdT X.K Θ tc) (te := RdE X.K Θ me) hc C hi hg ht he hs) pa_nil (star_cons rfl)) rfl (star_few rfl (show 1 < 30 by decide)) hline (star_cons rfl) rfl pins s σ H Q I ?_
  refine ⟨rfl, comp_rd I hj st rp (Post.bind h fun ρ1 H1 ds ys S1 p1 l1 rp1 r1 h1 D hD => ?_)⟩
  exact ad ρ1 _ S1 ds ys D Q (rp1.aside hD _) (r1.mono (List.prefix_refl _) (Le.new hD _)) (SqL.of upd_same) (Post.weak h1 (List.prefix_refl _) (Le.new hD _))
theorem w_me_joinC {y : M.T} {z : Str} {j : Nat} {p apos cpos : Pos} (hz : z = ofT y) (hc : X.calm = true) (C : CompScope X vars scope cl) (hi : WI X Θ tg iter it) (hg : ∀ C fp s₂ H₂, WG (compCx X vars scope cl C fp s₂ H₂) Θ js tg g) (ht : ∀ C fp s₂ H₂, PIfs (compCx X vars scope cl C fp s₂ H₂) ifs (RdT X.K Θ tc))
    (he : ∀ C fp s₂ H₂, WE (compCx X vars scope cl C fp s₂ H₂) Θ elt me) (hj' : (js.all fun j => decide (X.N.length ≤ j)) = true) (ad : ∀ ρ H S ds ys p Q, RepS X.K Θ ρ S H → RelDs X.K ρ H ds ys → SqL X.K H p ys → Post X.K Θ (RelD X.K) ρ H (M.kJoin y ds S) Q → rJoin X.K (.str (ofT y)) [.ref p] H Q) (hs : ∀ x, foldedSetIterable iter X.env x = pure x := by intro _; rfl)
    (hline : (apos.endLine == cpos.line) = true := by rfl)
    :
    WE X Θ (.Call (.Attribute (.Constant (.str z) j p) "join" apos) [.ListComp elt [⟨tg, iter, ifs, 0⟩] scope pos] [] cpos) (M.eCompK (M.kJoin y) vars.length it g tc me) := by with_unfolding_all exact me_joinC (y := y) (z := z) (j := j) (p := p) (apos := apos) (cpos := cpos) hz hc C hi hg ht he hj' ad hs hline
end
def SpM (K : PySem.W.Frag) (Θ : Tab) (n : Nat) (f : M.F) : Sp := fun vs H Q _ => ∃ ρ ds S, ds.length = n ∧ RelDs K ρ H ds vs ∧ RepS K Θ ρ S H ∧ Post K Θ (RelD K) ρ H (f ds S) Q
def Arity (m : M.AM) (n : Nat) : Prop := ∀ σ s xs s', m σ s = .ok xs s' → xs.length = n
theorem ar_nil : Arity M.aNil 0 := fun σ s xs s' h => by cases h; rfl
theorem ar_cons {a : M.EM} {r : M.AM} {n : Nat} (h : Arity r n) : Arity (M.aCons a r) (n + 1) := fun σ s xs s' e => by
  have e' : ((a σ s).bind fun x s => (r σ s).bind fun xs s => M.R.ok (x :: xs) s) = .ok xs s' := e
  cases ha : a σ s with
  | no => rw [ha] at e'; cases e'
  | exc a s => rw [ha] at e'; cases e'
  | ok d S1 =>
    rw [ha] at e'
    have e2 : ((r σ S1).bind fun xs s => M.R.ok (d :: xs) s) = .ok xs s' := e'
    cases hr : r σ S1 with
    | no => rw [hr] at e2; cases e2
    | exc a s => rw [hr] at e2; cases e2
    | ok ds S2 =>
      rw [hr] at e2
      cases e2
      rw [List.length_cons, h _ _ _ _ hr]
section
variable {X : Cx} {Θ : Tab} {pos p : Pos} {x : Str} {ps : List Str} {e : Expr} {es : List Expr} {f : M.F} {m : M.AM} {k kk n : Nat}
theorem me_call (h : Has X.prog X.w X.K X.mg X.base x k ps (SpM X.K Θ n f)) (hr : Room kk X.A) (hk : k ≤ kk) (hg : Gl X x) (ha : MA X Θ (e :: es) m) (ar : Arity m n) (hx : Passes CX0 X E0 := by exact pass0) (hdb : (x == ("__debug__" : Str)) = false := by decide)
    (he : notStar e = true := by rfl) (hpl : es.all notStar = true := by rfl) : ME X Θ (.Call (.Name x p) (e :: es) [] pos) (M.eCall f m) :=
  (pe_callH h hr hk hg ha hx hdb (star_cons he) (star_any hpl)).imp fun σ H Q ⟨ρ, σ', S, st, rp, h⟩ => ⟨ρ, σ', S, st, rp, by
    have h' : Post X.K Θ (RelD X.K) ρ H ((m σ' S).bind fun xs s => f xs s) Q := h
    cases hm : m σ' S with
    | no => rw [hm] at h'; exact h'.elim
    | exc a s => rw [hm] at h'; exact h'.elim
    | ok ds S1 =>
      rw [hm] at h'
      intro ρ1 H1 vs p1 l1 rp1 r1
      rw [List.append_nil]
      exact ⟨ρ1, ds, S1, ar _ _ _ _ hm, r1, rp1, Post.weak h' p1 l1⟩⟩
theorem w_me_call (h : Has X.prog X.w X.K X.mg X.base x k ps (SpM X.K Θ n f)) (hr : Room kk X.A) (hk : k ≤ kk) (hg : Gl X x) (ha : WA X Θ (e :: es) m) (ar : Arity m n) (hx : Passes CX0 X E0 := by exact pass0) (hdb : (x == ("__debug__" : Str)) = false := by decide)
    (he : notStar e = true := by rfl) (hpl : es.all notStar = true := by rfl) : WE X Θ (.Call (.Name x p) (e :: es) [] pos) (M.eCall f m) := by with_unfolding_all exact me_call h hr hk hg ha ar hx hdb he hpl
end
section
variable {K : PySem.W.Frag} {Θ : Tab} {ρ ρ' : List Addr} {H : Hp} {e : List Nat}
mutual
theorem RelD.unren (hρ : ∀ (i j : Nat) a, e[i]? = some j → ρ[j]? = some a → ρ'[i]? = some a) : ∀ {d : M.D} {v : V}, M.D.cl e.length d = true → RelD K ρ H (M.D.ren e d) v → RelD K ρ' H d v
  | .non, _, _, h => h
  | .bl _, _, _, h => h
  | .int _, _, _, h => h
  | .str _, _, _, h => h
  | .ty _, _, _, h => h
  | .ref i, _, c, ⟨a, h1, h2⟩ => by
    have hi : i < e.length := of_decide_eq_true c
    refine ⟨a, h1, hρ i (e.getD i i) a ?_ h2⟩
    rw [List.getD_eq_getElem?_getD, List.getElem?_eq_getElem hi]; rfl
  | .tup _, _, c, ⟨a, xs, h1, h2, h3⟩ => ⟨a, xs, h1, h2, RelDs.unren hρ c h3⟩
  | .ro _, _, c, ⟨a, xs, h1, h2, h3⟩ => ⟨a, xs, h1, h2, RelDs.unren hρ c h3⟩
theorem RelDs.unren (hρ : ∀ (i j : Nat) a, e[i]? = some j → ρ[j]? = some a → ρ'[i]? = some a) : ∀ {ds : List M.D} {xs : List V}, M.D.cl.all e.length ds = true → RelDs K ρ H (M.D.ren.all e ds) xs → RelDs K ρ' H ds xs
  | [], _, _, h => h
  | d :: ds, _, c, ⟨y, ys, h1, h2, h3⟩ => by
    have c' : (M.D.cl e.length d && M.D.cl.all e.length ds) = true := c
    rw [Bool.and_eq_true] at c'
    exact ⟨y, ys, h1, RelD.unren hρ c'.1 h2, RelDs.unren hρ c'.2 h3⟩
end
theorem ObR.unren (hρ : ∀ (i j : Nat) a, e[i]? = some j → ρ[j]? = some a → ρ'[i]? = some a) {a : Addr} {o : M.O} (c : M.O.cl e.length o = true) (h : ObR K Θ ρ H a (M.O.ren e o)) : ObR K Θ ρ' H a o := by
  cases o with
  | lst ds => obtain ⟨xs, h1, h2⟩ := h; exact ⟨xs, h1, RelDs.unren hρ c h2⟩
  | dct kvs =>
    obtain ⟨ks, h1, h2⟩ := h
    refine ⟨ks, h1, ?_⟩
    have c' : ∀ p ∈ kvs, (M.D.cl e.length p.1 && M.D.cl e.length p.2) = true := List.all_eq_true.mp c
    clear h1
    revert h2 c'
    clear c
    induction kvs generalizing ks with
    | nil => intro h2 c'; cases h2; exact .nil
    | cons p kvs ih =>
      intro h2 c'
      rw [List.map_cons] at h2
      cases h2 with
      | cons r1 r2 =>
        have c1 := c' p List.mem_cons_self
        rw [Bool.and_eq_true] at c1
        refine .cons ⟨?_, RelD.unren hρ c1.2 r1.2⟩ (ih _ r2 (fun q hq => c' q (List.mem_cons_of_mem _ hq)))
        have hk := r1.1
        revert hk
        cases p.1 <;> exact fun hk => hk
  | ins cc fs =>
    rcases h with ⟨f1, f2, f3⟩ | ⟨C, dx, gs, N, h1, h2, h3⟩
    · exact .inl ⟨f1, List.map_eq_nil_iff.mp f2, f3⟩
    refine .inr ⟨C, dx, gs, N, h1, h2, by rw [← h3.len]; simp, h3.nd, h3.within, fun i f d q1 q2 => ?_⟩
    obtain ⟨v, k1, k2⟩ := h3.get i f (M.D.ren e d) q1 (by rw [List.getElem?_map, q2]; rfl)
    refine ⟨v, k1, RelD.unren hρ ?_ k2⟩
    have := List.all_eq_true.mp c (some d) (List.mem_of_getElem? q2)
    exact this
theorem Post.gc {S S' S1 : M.S} {d : M.D} {Q : VK} (em : M.Emb S.length e S' S1) (cd : M.D.cl S'.length d = true) (rp : RepS K Θ ρ S H) (h : Post K Θ (RelD K) ρ H (.ok d S') Q) : Post K Θ (RelD K) ρ H (.ok (M.D.ren e d) S1) Q := by
  intro ρ1 H1 v p1 l1 rp1 r1
  have hlt : ∀ {i j : Nat}, e[i]? = some j → j < ρ1.length := fun {i j} q => by
    have hi : i < S'.length := by rw [← em.len]; exact (List.getElem?_eq_some_iff.mp q).1
    obtain ⟨j', q1, q2, _⟩ := em.obj i S'[i] (by simp [hi])
    rw [q] at q1; cases q1
    rw [rp1.len]; exact (List.getElem?_eq_some_iff.mp q2).1
  have hρ : ∀ (i j : Nat) a, e[i]? = some j → ρ1[j]? = some a → (e.map fun j => ρ1.getD j 0)[i]? = some a := fun i j a q1 q2 => by
    rw [List.getElem?_map, q1, Option.map_some, List.getD_eq_getElem?_getD, q2]; rfl
  refine h (e.map fun j => ρ1.getD j 0) H1 v ?_ l1 ⟨by rw [List.length_map, em.len], ?_, fun i o q => ?_⟩ (RelD.unren hρ (by rw [em.len]; exact cd) r1)
  · refine List.prefix_iff_getElem?.mpr fun i hi => ?_
    have hi' : i < S.length := rp.len ▸ hi
    exact hρ i i _ (em.old i hi') (pre_get p1 (List.getElem?_eq_getElem hi))
  · refine nodup_of fun i j x a b => ?_
    rw [List.getElem?_map] at a b
    cases ei : e[i]? with
    | none => rw [ei] at a; cases a
    | some k =>
      cases ej : e[j]? with
      | none => rw [ej] at b; cases b
      | some l =>
        rw [ei, Option.map_some, List.getD_eq_getElem?_getD, List.getElem?_eq_getElem (hlt ei)] at a
        rw [ej, Option.map_some, List.getD_eq_getElem?_getD, List.getElem?_eq_getElem (hlt ej)] at b
        have e1 : ρ1[k]'(hlt ei) = x := by simpa using a
        have e2 : ρ1[l]'(hlt ej) = x := by simpa using b
        have e3 := nodup_get rp1.nd (hlt ei) (hlt ej) (e1.trans e2.symm)
        subst e3
        exact nodup_at em.nd ei ej
  · obtain ⟨j, q1, q2, q3⟩ := em.obj i o q
    obtain ⟨a, q4, q5⟩ := rp1.obj j _ q2
    exact ⟨a, hρ i j a q1 q4, ObR.unren hρ (by rw [em.len]; exact q3) q5⟩
end
section
variable {K : PySem.W.Frag} {Θ : Tab} {ρ : List Addr} {H : Hp}
mutual
theorem RelD.cl : ∀ {d : M.D} {v : V}, RelD K ρ H d v → M.D.cl ρ.length d = true
  | .non, _, _ => rfl
  | .bl _, _, _ => rfl
  | .int _, _, _ => rfl
  | .str _, _, _ => rfl
  | .ty _, _, _ => rfl
  | .ref _, _, ⟨a, _, h2⟩ => decide_eq_true (List.getElem?_eq_some_iff.mp h2).1
  | .tup _, _, ⟨_, _, _, _, h⟩ => RelDs.cl h
  | .ro _, _, ⟨_, _, _, _, h⟩ => RelDs.cl h
theorem RelDs.cl : ∀ {ds : List M.D} {xs : List V}, RelDs K ρ H ds xs → M.D.cl.all ρ.length ds = true
  | [], _, _ => rfl
  | d :: ds, _, ⟨_, _, _, h1, h2⟩ => by
    show (M.D.cl ρ.length d && M.D.cl.all ρ.length ds) = true
    rw [RelD.cl h1, RelDs.cl h2]; rfl
end
theorem RepS.cl {S : M.S} (rp : RepS K Θ ρ S H) : M.clS S.length S = true := by
  refine List.all_eq_true.mpr fun o ho => ?_
  obtain ⟨i, hi, rfl⟩ := List.mem_iff_getElem.mp ho
  obtain ⟨a, h1, h2⟩ := rp.obj i S[i] (by simp [hi])
  rw [← rp.len]
  revert h2
  cases S[i] with
  | lst ds => exact fun ⟨xs, _, r⟩ => r.cl
  | dct kvs =>
    intro ⟨ks, _, r⟩
    refine List.all_eq_true.mpr fun p hp => ?_
    have : ∀ {kvs : List (M.D × M.D)} {ks : List (Key × V)}, Paired (fun (p : M.D × M.D) (q : Key × V) => KeyR p.1 q.1 ∧ RelD K ρ H p.2 q.2) kvs ks → p ∈ kvs → (M.D.cl ρ.length p.1 && M.D.cl ρ.length p.2) = true := by
      intro kvs ks r hp
      induction r with
      | nil => cases hp
      | cons r1 r2 ih =>
        rcases List.mem_cons.mp hp with rfl | hp
        · rw [r1.2.cl, Bool.and_true]
          have hk := r1.1
          revert hk
          cases p.1 <;> first | exact fun _ => rfl | exact fun hk => hk.elim
        · exact ih hp
    exact this r hp
  | ins c fs =>
    intro h
    refine List.all_eq_true.mpr fun od hod => ?_
    rcases h with ⟨_, f2, _⟩ | ⟨C, dx, gs, N, _, _, r⟩
    · rw [f2] at hod; cases hod
    cases od with
    | none => rfl
    | some d =>
      obtain ⟨j, hj, ej⟩ := List.mem_iff_getElem.mp hod
      have hN : j < N.length := r.len ▸ hj
      obtain ⟨v, _, rv⟩ := r.get j N[j] d (by simp [hN]) (by rw [List.getElem?_eq_getElem hj, ej])
      exact rv.cl
end
section
variable {P : Program} {w : World} {K : PySem.W.Frag} {mg : Str → Option Value} {base : Heap} {Θ : Tab}
theorem start_rel {ρ : List Addr} {H : Hp} {ds : List M.D} {vs : List V} (r : RelDs K ρ H ds vs) (N : List Str) : RelSt K ρ H (ds.map some ++ List.replicate (N.length - ds.length) none) (start N vs) := by
  have hl := r.length
  refine ⟨by simp [start, hl], fun i d q => ?_⟩
  unfold start
  by_cases hi : i < ds.length
  · rw [List.getElem?_append_left (by simpa using hi), List.getElem?_map] at q
    cases e : ds[i]? with
    | none => rw [e] at q; cases q
    | some d' =>
      rw [e] at q
      cases q
      obtain ⟨v, e1, rv⟩ := r.get e
      refine ⟨v, ?_, rv⟩
      rw [List.getElem?_append_left (by simp; omega), List.getElem?_map, e1]; rfl
  · rw [List.getElem?_append_right (by simp; omega), List.getElem?_replicate] at q
    split at q <;> cases q
theorem fun_M {x qual : Str} {st : Stmt} {f : Addr} {fd : FuncData} {N ps : List Str} {k : Nat} {b : M.SM} {q : M.F} (F : Fun K x qual st f fd) (Sc : FnScope N ps (defScope st)) (rf : M.Refines ps.length (M.fn N.length b) q)
    (hbody : ∀ (cdv : Value) (A : Around) (outer : List Env) (s : Shared) (H : Hp) (E : XK), Room k (A.deeper (envOfC qual (defScope st) s.heap.objs.size f cdv)) →
      MSs (cxOf CX0 P w K mg base N qual (defScope st) f cdv A outer s H E).nox Θ (defBody st) b) : FnOk P w K mg base CX0 (k + 1) f fd ps (SpM K Θ ps.length q) := by
  refine F.ok (k := k) Sc (fun vs H Q E h => ?_) (fun cdv A outer s H vs Q E hr h => ?_)
  · obtain ⟨ρ, ds, S, hl, r, _⟩ := h
    rw [← r.length, hl]
  · obtain ⟨ρ, ds, S, hl, r, rp, h⟩ := h
    refine ⟨_, hbody cdv A outer s H E hr, ρ, _, S, start_rel r N, rp, ?_⟩
    rcases rf ds S hl rp.cl (rp.len ▸ r.cl) with e | ⟨d, S', S1, em, e1, e2, emb, cd⟩
    · rw [e] at h; exact h.elim
    · rw [e1] at h
      have h2 := Post.gc emb cd rp h
      have e3 : (b (ds.map some ++ List.replicate (N.length - ds.length) none) S).out = .ok (M.D.ren em d) S1 := e2
      show PostS K Θ ρ H (b (ds.map some ++ List.replicate (N.length - ds.length) none) S) _
      revert e3
      cases b (ds.map some ++ List.replicate (N.length - ds.length) none) S with
      | rt a s => intro e3; cases e3; exact h2
      | nx a s =>
        intro e3
        have e4 : M.R.ok M.D.non s = .ok (M.D.ren em d) S1 := e3
        injection e4 with e5 e6
        subst e6
        rw [← e5] at h2
        exact fun ρ1 H1 σ1 p1 l1 rp1 _ => h2 ρ1 H1 .non p1 l1 rp1 rfl
      | bk a s => intro e3; cases e3
      | ct a s => intro e3; cases e3
      | exc e a s => intro e3; cases e3
      | no => intro e3; cases e3
theorem w_fun_M {x qual : Str} {st : Stmt} {f : Addr} {fd : FuncData} {N ps : List Str} {k : Nat} {b : M.SM} {q : M.F} (F : Fun K x qual st f fd) (Sc : FnScope N ps (defScope st)) (rf : M.Refines ps.length (M.fn N.length b) q)
    (hbody : ∀ (cdv : Value) (A : Around) (outer : List Env) (s : Shared) (H : Hp) (E : XK), Room k (A.deeper (envOfC qual (defScope st) s.heap.objs.size f cdv)) →
      WSs (cxOf CX0 P w K mg base N qual (defScope st) f cdv A outer s H E).nox Θ (defBody st) b) : FnOk P w K mg base CX0 (k + 1) f fd ps (SpM K Θ ps.length q) := by with_unfolding_all exact fun_M (x := x) (qual := qual) (st := st) (f := f) (fd := fd) (N := N) (ps := ps) (k := k) (b := b) (q := q) F Sc rf hbody
end
end L2
namespace L2
open PySem PySem.Spec PyProof.Rows
section
variable {K : PySem.W.Frag} {Θ : Tab}
theorem small_is {i : Int} (h : M.small i = true) : -(2 ^ 64) < i ∧ i < 2 ^ 64 := by
  have h' : i.natAbs < 18446744073709551616 := of_decide_eq_true h
  exact ⟨by omega, by omega⟩
theorem ad_div : Ad2 K Θ M.opDiv uDiv := by
  intro ρ H S x y X Y Q rp rx ry h
  cases x with
  | int i =>
    cases y with
    | int j =>
      cases rx; cases ry
      have h' : Post K Θ (RelD K) ρ H (if 0 < j ∧ j.natAbs < 1073741824 then M.R.ok (M.D.int (i / j)) S else .no) Q := h
      by_cases hc : 0 < j ∧ j.natAbs < 1073741824
      · rw [if_pos hc] at h'; exact ⟨⟨hc.1, by omega⟩, Post.here (b := V.int (i / j)) h' rp rfl⟩
      · rw [if_neg hc] at h'; exact h'.elim
    | _ => exact h.elim
  | _ => exact h.elim
theorem ad_mod : Ad2 K Θ M.opMod uMod := by
  intro ρ H S x y X Y Q rp rx ry h
  cases x with
  | int i =>
    cases y with
    | int j =>
      cases rx; cases ry
      have h' : Post K Θ (RelD K) ρ H (if 0 < j then M.R.ok (M.D.int (i % j)) S else .no) Q := h
      by_cases hc : 0 < j
      · rw [if_pos hc] at h'; exact ⟨hc, Post.here (b := V.int (i % j)) h' rp rfl⟩
      · rw [if_neg hc] at h'; exact h'.elim
    | _ => exact h.elim
  | _ => exact h.elim
theorem lst_at {ρ : List Addr} {S : M.S} {H : Hp} (rp : RepS K Θ ρ S H) {i : Nat} {a : Addr} (ha : ρ[i]? = some a) {xs : List M.D} (q : S[i]? = some (.lst xs)) : ∃ zs, H a = some (.lst zs) ∧ RelDs K ρ H xs zs := by
  obtain ⟨b, e1, zs, e2, r⟩ := rp.obj i _ q
  rw [ha] at e1; cases e1
  exact ⟨zs, e2, r⟩
theorem ad_add : Ad2 K Θ M.opAdd (fun x y H Q => uAdd x y H Q ∨ rCatT K x y H Q) := by
  intro ρ H S x y X Y Q rp rx ry h
  cases x with
  | int i =>
    cases y with
    | int j => cases rx; cases ry; exact .inl (Post.here (b := V.int (i + j)) h rp rfl)
    | _ => exact h.elim
  | str a =>
    cases y with
    | str b =>
      obtain ⟨rfl, oka⟩ := rx
      obtain ⟨rfl, okb⟩ := ry
      have h' : Post K Θ (RelD K) ρ H (if a.length + b.length ≤ M.SZ then M.R.ok (M.D.str (a ++ b)) S else .no) Q := h
      by_cases hc : a.length + b.length ≤ M.SZ
      · rw [if_pos hc] at h'
        refine .inl ⟨by rw [ofT_len, ofT_len, ← SZ_eq]; exact hc, ?_⟩
        rw [ofT_app]
        exact Post.here (b := V.str (ofT (a ++ b))) h' rp ⟨rfl, okT_app oka okb⟩
      · rw [if_neg hc] at h'; exact h'.elim
    | _ => exact h.elim
  | tup a =>
    cases y with
    | tup b =>
      obtain ⟨l, xs, rfl, hq, r⟩ := rx
      obtain ⟨l', ys, rfl, hq', r'⟩ := ry
      have h' : Post K Θ (RelD K) ρ H (if a ≠ [] ∧ a.length + b.length ≤ M.SZ then M.R.ok (M.D.tup (a ++ b)) S else .no) Q := h
      by_cases hc : a ≠ [] ∧ a.length + b.length ≤ M.SZ
      · rw [if_pos hc] at h'
        refine .inr ⟨l, l', xs, ys, rfl, rfl, hq, hq', fun z => hc.1 ?_, by rw [← r.length, ← r'.length, ← SZ_eq]; exact hc.2, fun hy => ?_, fun hy p hp => ?_⟩
        · subst z
          have := r.length
          exact List.length_eq_zero_iff.mp this
        · subst hy
          have hb : b = [] := List.length_eq_zero_iff.mp r'.length
          subst hb
          rw [List.append_nil] at h'
          exact Post.here h' rp ⟨l, xs, rfl, hq, r⟩
        · exact h' ρ _ _ (List.prefix_refl _) (Le.new hp _) (rp.aside hp _) ⟨p, _, rfl, SqT.of upd_same, (r.app r').mono (List.prefix_refl _) (Le.new hp _)⟩
      · rw [if_neg hc] at h'; exact h'.elim
    | _ => exact h.elim
  | ref i =>
    cases y with
    | ref j =>
      obtain ⟨a, rfl, ea⟩ := rx
      obtain ⟨b, rfl, eb⟩ := ry
      have h' : Post K Θ (RelD K) ρ H (match S[i]?, S[j]? with
        | some (.lst xs), some (.lst ys) => if xs.length + ys.length ≤ M.SZ then M.alloc (.lst (xs ++ ys)) S else .no
        | _, _ => .no) Q := h
      split at h'
      · rename_i xs ys q1 q2
        obtain ⟨zs, e1, r1⟩ := lst_at rp ea q1
        obtain ⟨ws, e2, r2⟩ := lst_at rp eb q2
        by_cases hc : xs.length + ys.length ≤ M.SZ
        · rw [if_pos hc] at h'
          exact .inl ⟨zs, ws, e1, e2, by rw [← r1.length, ← r2.length, ← SZ_eq]; exact hc, fun p hp => h'.alloc rp (r1.app r2) hp⟩
        · rw [if_neg hc] at h'; exact h'.elim
      · exact h'.elim
    | _ => exact h.elim
  | _ => exact h.elim
theorem ad_lt : AdC K Θ M.cLt uLt := by
  intro ρ H S x y X Y Q rp rx ry h
  cases x with
  | int i =>
    cases y with
    | int j => cases rx; cases ry; exact Post.here (b := decide (i < j)) h rp rfl
    | _ => exact h.elim
  | str a =>
    cases y with
    | str b =>
      obtain ⟨rfl, _⟩ := rx
      obtain ⟨rfl, _⟩ := ry
      show Q (.bl (decide ((ofT a).cps.toList < (ofT b).cps.toList))) H
      rw [ofT_list, ofT_list]
      exact Post.here (b := decide (a < b)) h rp rfl
    | _ => exact h.elim
  | _ => exact h.elim
theorem ad_gt : AdC K Θ M.cGt uGt := by
  intro ρ H S x y X Y Q rp rx ry h
  cases x with
  | int i =>
    cases y with
    | int j => cases rx; cases ry; exact Post.here (b := decide (j < i)) h rp rfl
    | _ => exact h.elim
  | _ => exact h.elim
theorem atI_rel {ρ : List Addr} {H : Hp} {ds : List M.D} {xs : List V} {i : Int} {d : M.D} (r : RelDs K ρ H ds xs) (e : M.atI ds i = some d) : ∃ v, atI xs i = some v ∧ RelD K ρ H d v := by
  unfold M.atI at e
  cases q : M.ixN ds.length i with
  | none => rw [q] at e; cases e
  | some j =>
    rw [q] at e
    obtain ⟨v, e1, rv⟩ := r.get (i := j) e
    have q' : ixN xs.length i = some j := by rw [← r.length]; exact q
    exact ⟨v, by unfold atI; rw [q']; exact e1, rv⟩
end
end L2
namespace L2
open PySem PySem.Spec PyProof.Rows
section
variable {K : PySem.W.Frag} {Θ : Tab}
theorem mt_tru {X : Cx} {a : Expr} {ma : M.EM} (ha : ME X Θ a ma) (he : ∀ whole, isTrue a X.env whole = (do let v ← whole; standAt a.pos; holding [v] (truthy v)) := by intro _; rfl) : MT X Θ a (M.tTru ma) :=
  (pt_truth ha he).imp fun σ H Q ⟨ρ, σ', S, st, rp, h⟩ => ⟨ρ, σ', S, st, rp, Post.bind h fun ρ1 H1 x X1 S1 p1 l1 rp1 rx h1 => by
    cases x with
    | non => cases rx; exact ⟨false, rfl, Post.here (b := false) h1 rp1 rfl⟩
    | bl b => cases rx; exact ⟨b, rfl, Post.here (b := b) h1 rp1 rfl⟩
    | int i => cases rx; exact ⟨_, rfl, Post.here (b := (i != 0)) h1 rp1 (by show decide (i ≠ 0) = (i != 0); by_cases hi : i = 0 <;> simp [hi])⟩
    | str z =>
      obtain ⟨rfl, _⟩ := rx
      by_cases hz : z.length ≤ M.SZ
      · simp only [M.truth, if_pos hz] at h1
        refine ⟨_, ⟨by rw [ofT_len, ← SZ_eq]; exact hz, rfl⟩, Post.here (b := (((ofT z).length : Int) != 0)) h1 rp1 ?_⟩
        show (!z.isEmpty) = _
        rw [ofT_len]
        cases z <;> simp <;> omega
      · simp only [M.truth, if_neg hz] at h1; exact h1.elim
    | tup ds =>
      obtain ⟨l, xs, rfl, hq, r⟩ := rx
      refine ⟨_, .inr (.inl ⟨xs, hq, rfl⟩), Post.here (b := !xs.isEmpty) h1 rp1 ?_⟩
      show (!ds.isEmpty) = _
      have := r.length
      cases ds <;> cases xs <;> first | rfl | cases this
    | ro ds =>
      obtain ⟨l, xs, rfl, hq, r⟩ := rx
      refine ⟨_, .inl ⟨xs, hq.sq, rfl⟩, Post.here (b := !xs.isEmpty) h1 rp1 ?_⟩
      show (!ds.isEmpty) = _
      have := r.length
      cases ds <;> cases xs <;> first | rfl | cases this
    | ref p =>
      obtain ⟨a, rfl, ea⟩ := rx
      cases q : S1[p]? with
      | none => simp [M.truth, q] at h1; exact h1.elim
      | some o =>
        cases o with
        | lst xs =>
          simp only [M.truth, q] at h1
          obtain ⟨zs, e1, r⟩ := lst_at rp1 ea q
          refine ⟨_, .inl ⟨zs, SqL.of e1, rfl⟩, Post.here (b := !zs.isEmpty) h1 rp1 ?_⟩
          show (!xs.isEmpty) = _
          have := r.length
          cases xs <;> cases zs <;> first | rfl | cases this
        | dct kvs =>
          simp only [M.truth, q] at h1
          obtain ⟨b, e1, zs, e2, r⟩ := rp1.obj _ _ q
          rw [ea] at e1; cases e1
          refine ⟨_, .inr (.inr ⟨zs, e2, rfl⟩), Post.here (b := !zs.isEmpty) h1 rp1 ?_⟩
          cases r <;> rfl
        | ins c fs => simp [M.truth, q] at h1; exact h1.elim
    | ty n => exact h1.elim⟩
theorem w_mt_tru {X : Cx} {a : Expr} {ma : M.EM} (ha : WE X Θ a ma) (he : ∀ whole, isTrue a X.env whole = (do let v ← whole; standAt a.pos; holding [v] (truthy v)) := by intro _; rfl) : WT X Θ a (M.tTru ma) := by with_unfolding_all exact mt_tru (X := X) (a := a) (ma := ma) ha he
inductive TyM (K : PySem.W.Frag) (H : Hp) : V → String → Prop where
  | of {x : V} {A : String} (h : TyOf K H x (.type A)) : TyM K H x A
  | sqT {a : Addr} {xs : List V} (h : SqT K H a xs) : TyM K H (.ref a) "tuple"
  | sqL {a : Addr} {xs : List V} (h : SqL K H a xs) : TyM K H (.ref a) "list"
def rIsK (K : PySem.W.Frag) : List V → Hp → VK → Prop := fun xs H Q => ∃ x n A b, xs = [x, .ty n] ∧ TyM K H x A ∧ PySem.W.kitOne K (.type A) (.type n) = some b ∧ Q (.bl b) H
theorem call_isK {X : Cx} : CallR X (.builtin "isinstance") (rIsK X.K) := by
  intro pins s σ H xs us Q I r h
  obtain ⟨x, n, A, b, rfl, ty, e, q⟩ := h
  obtain ⟨u, w', rfl, ru, rc⟩ := vals2 r
  cases rc
  cases ty with
  | of h => exact wpAny_with_toks (n := 1) I.tk (isinst_ok I ru h e fun tk hk => ⟨.bl b, H, I.tok tk hk, rfl, q⟩)
  | sqT h =>
    cases ru
    obtain ⟨its, _, ⟨o, h1, h2, _⟩, _⟩ := I.tuple h
    exact wpAny_with_toks (n := 1) I.tk (PySem.W.kia_one PySem.W.kitx_tuple I.kIn ⟨o, h1, h2⟩ e (fun z => nomatch z) fun tk hk => ⟨.bl b, H, I.tok tk hk, rfl, q⟩)
  | sqL h =>
    cases ru
    obtain ⟨its, _, ⟨o, n, h1, h2, _⟩, _⟩ := I.list h
    exact wpAny_with_toks (n := 1) I.tk (PySem.W.kia_one PySem.W.kitx_list I.kIn ⟨o, h1, h2⟩ e (fun z => nomatch z) fun tk hk => ⟨.bl b, H, I.tok tk hk, rfl, q⟩)
theorem kit_all (n : M.Kd) : PySem.W.kitOne K (.type "NoneType") (.type (kdName n)) = some false ∧ PySem.W.kitOne K (.type "bool") (.type (kdName n)) = some (match n with | .bool => true | .int => true | _ => false) ∧
    PySem.W.kitOne K (.type "int") (.type (kdName n)) = some (match n with | .int => true | _ => false) ∧ PySem.W.kitOne K (.type "str") (.type (kdName n)) = some (match n with | .str => true | _ => false) ∧
    PySem.W.kitOne K (.type "tuple") (.type (kdName n)) = some (match n with | .tuple => true | _ => false) ∧ PySem.W.kitOne K (.type "list") (.type (kdName n)) = some (match n with | .list => true | _ => false) ∧
    PySem.W.kitOne K (.type "dict") (.type (kdName n)) = some (match n with | .dict => true | _ => false) := by
  cases n <;> exact ⟨kit_ty (by decide +kernel), kit_ty (by decide +kernel), kit_ty (by decide +kernel), kit_ty (by decide +kernel), kit_ty (by decide +kernel), kit_ty (by decide +kernel), kit_ty (by decide +kernel)⟩
theorem ad_isi : AdN K Θ M.fIsi (rIsK K) := by
  intro ρ H S xs Xs Q rp rx h
  match xs, rx, h with
  | [x, .ty n], rx, h =>
    obtain ⟨v, _, rfl, rv, _, _, rfl, rfl, rfl⟩ := rx
    obtain ⟨k1, k2, k3, k4, k5, k6, k7⟩ := kit_all (K := K) n
    have fin : ∀ {A : String} {b : Bool}, M.isKind n x S = .ok b S → TyM K H v A → PySem.W.kitOne K (.type A) (.type (kdName n)) = some b → rIsK K [v, .ty (kdName n)] H Q := fun {A b} e ty k => by
      have h' : Post K Θ (RelD K) ρ H ((M.isKind n x S).bind fun b s => .ok (.bl b) s) Q := h
      rw [e] at h'
      exact ⟨v, kdName n, A, b, rfl, ty, k, Post.here (b := V.bl b) h' rp rfl⟩
    cases x with
    | non => cases rv; exact fin rfl (.of .non) k1
    | bl b => cases rv; exact fin rfl (.of (.bl b)) k2
    | int i => cases rv; exact fin rfl (.of (.int i)) k3
    | str z => obtain ⟨rfl, _⟩ := rv; exact fin rfl (.of (.str _)) k4
    | tup ds => obtain ⟨l, ys, rfl, hq, r⟩ := rv; exact fin rfl (.sqT hq) k5
    | ro ds => obtain ⟨l, ys, rfl, hq, r⟩ := rv; exact fin rfl (.sqL hq.sq) k6
    | ty m => exact h.elim
    | ref p =>
      obtain ⟨a, rfl, ea⟩ := rv
      cases q : S[p]? with
      | none => simp [M.fIsi, M.isKind, q] at h; exact h.elim
      | some o =>
        cases o with
        | lst xs =>
          obtain ⟨zs, e1, r⟩ := lst_at rp ea q
          refine fin ?_ (.sqL (SqL.of e1)) k6
          simp only [M.isKind, q] <;> (cases n <;> rfl)
        | dct kvs =>
          obtain ⟨b, e1, zs, e2, r⟩ := rp.obj _ _ q
          rw [ea] at e1; cases e1
          refine fin ?_ (.of (.dK e2)) k7
          simp only [M.isKind, q] <;> (cases n <;> rfl)
        | ins c fs => simp [M.fIsi, M.isKind, q] at h; exact h.elim
  | [_, .non], _, h => exact h.elim
  | [_, .bl _], _, h => exact h.elim
  | [_, .int _], _, h => exact h.elim
  | [_, .str _], _, h => exact h.elim
  | [_, .tup _], _, h => exact h.elim
  | [_, .ro _], _, h => exact h.elim
  | [_, .ref _], _, h => exact h.elim
  | [], _, h => exact h.elim
  | [_], _, h => exact h.elim
  | _ :: b :: _ :: _, _, h => cases b <;> exact h.elim
def ofP : M.P → PyData
  | .non => .none
  | .bl b => .bool b
  | .int i => .int i
  | .str x => .str (ofT x)
  | .tup ps => .tuple (all ps)
  | .lst ps => .list (all ps)
where all : List M.P → List PyData
  | [] => []
  | p :: ps => ofP p :: all ps
theorem beq_ofT (x y : M.T) : (ofT x == ofT y) = (x == y) := by
  by_cases h : x = y
  · subst h; simp
  · rw [beq_eq_false_iff_ne.mpr h, beq_eq_false_iff_ne.mpr fun e => h (ofT_inj e)]
mutual
theorem eqv_ofP : ∀ p q : M.P, PyData.eqv (ofP p) (ofP q) = M.P.eqv p q
  | .non, .non => rfl
  | .non, .bl _ => rfl
  | .non, .int _ => rfl
  | .non, .str _ => rfl
  | .non, .tup _ => rfl
  | .non, .lst _ => rfl
  | .bl _, .non => rfl
  | .bl _, .bl _ => rfl
  | .bl _, .int _ => rfl
  | .bl _, .str _ => rfl
  | .bl _, .tup _ => rfl
  | .bl _, .lst _ => rfl
  | .int _, .non => rfl
  | .int _, .bl _ => rfl
  | .int _, .int _ => rfl
  | .int _, .str _ => rfl
  | .int _, .tup _ => rfl
  | .int _, .lst _ => rfl
  | .str _, .non => rfl
  | .str _, .bl _ => rfl
  | .str _, .int _ => rfl
  | .str x, .str y => beq_ofT x y
  | .str _, .tup _ => rfl
  | .str _, .lst _ => rfl
  | .tup _, .non => rfl
  | .tup _, .bl _ => rfl
  | .tup _, .int _ => rfl
  | .tup _, .str _ => rfl
  | .tup ps, .tup qs => eqvs_ofP ps qs
  | .tup _, .lst _ => rfl
  | .lst _, .non => rfl
  | .lst _, .bl _ => rfl
  | .lst _, .int _ => rfl
  | .lst _, .str _ => rfl
  | .lst _, .tup _ => rfl
  | .lst ps, .lst qs => eqvs_ofP ps qs
theorem eqvs_ofP : ∀ ps qs : List M.P, PyData.eqvAll (ofP.all ps) (ofP.all qs) = M.P.eqvs ps qs
  | [], [] => rfl
  | [], _ :: _ => rfl
  | _ :: _, [] => rfl
  | p :: ps, q :: qs => by
    show (PyData.eqv (ofP p) (ofP q) && PyData.eqvAll (ofP.all ps) (ofP.all qs)) = (M.P.eqv p q && M.P.eqvs ps qs)
    rw [eqv_ofP p q, eqvs_ofP ps qs]
end
mutual
theorem dep_ofP : ∀ p : M.P, PyData.depth (ofP p) = M.P.dep p
  | .non => rfl
  | .bl _ => rfl
  | .int _ => rfl
  | .str _ => rfl
  | .tup ps => by show PyData.depthAll (ofP.all ps) + 1 = M.P.deps ps + 1; rw [deps_ofP ps]
  | .lst ps => by show PyData.depthAll (ofP.all ps) + 1 = M.P.deps ps + 1; rw [deps_ofP ps]
theorem deps_ofP : ∀ ps : List M.P, PyData.depthAll (ofP.all ps) = M.P.deps ps
  | [] => rfl
  | p :: ps => by show max (PyData.depth (ofP p)) (PyData.depthAll (ofP.all ps)) = max (M.P.dep p) (M.P.deps ps); rw [dep_ofP p, deps_ofP ps]
end
section
variable {ρ : List Addr} {H : Hp}
mutual
theorem dat_g {g : Nat → Option M.P} (hg : ∀ i p v, g i = some p → RelD K ρ H (.ref i) v → DatIs K H v (ofP p) ∧ (ofP p).canLay0 = true) : ∀ {d : M.D} {p : M.P} {v : V}, M.toPg g d = some p → RelD K ρ H d v → DatIs K H v (ofP p) ∧ (ofP p).canLay0 = true
  | .non, _, _, e, r => by cases e; cases r; exact ⟨.non, rfl⟩
  | .bl _, _, _, e, r => by cases e; cases r; exact ⟨.bl _, rfl⟩
  | .int _, _, _, e, r => by cases e; cases r; exact ⟨.int _, rfl⟩
  | .str x, _, _, e, r => by
    cases e
    obtain ⟨rfl, ok⟩ := r
    refine ⟨.str _, ?_⟩
    show PyData.strOk (ofT x) = true
    unfold PyData.strOk ofT
    have ok' : x.all (fun c => decide (c < 1114112)) = true := ok
    simpa using ok'
  | .tup ds, _, _, e, r => by
    obtain ⟨l, xs, rfl, hq, rr⟩ := r
    have e' : (M.toPg.all g ds).map M.P.tup = some _ := e
    cases q : M.toPg.all g ds with
    | none => rw [q] at e'; cases e'
    | some ps =>
      rw [q] at e'
      cases e'
      obtain ⟨h1, h2⟩ := dats_g hg q rr
      exact ⟨.tup hq h1, h2⟩
  | .ro ds, _, _, e, r => by
    obtain ⟨l, xs, rfl, hq, rr⟩ := r
    have e' : (M.toPg.all g ds).map M.P.lst = some _ := e
    cases q : M.toPg.all g ds with
    | none => rw [q] at e'; cases e'
    | some ps =>
      rw [q] at e'
      cases e'
      obtain ⟨h1, h2⟩ := dats_g hg q rr
      exact ⟨.lst hq.sq h1, h2⟩
  | .ref i, _, _, e, r => hg i _ _ e r
  | .ty _, _, _, e, _ => by cases e
theorem dats_g {g : Nat → Option M.P} (hg : ∀ i p v, g i = some p → RelD K ρ H (.ref i) v → DatIs K H v (ofP p) ∧ (ofP p).canLay0 = true) : ∀ {ds : List M.D} {ps : List M.P} {xs : List V}, M.toPg.all g ds = some ps → RelDs K ρ H ds xs → DatAll K H xs (ofP.all ps) ∧ PyData.canLayAll0 (ofP.all ps) = true
  | [], _, _, e, r => by cases e; cases r; exact ⟨.nil, rfl⟩
  | d :: ds, _, _, e, r => by
    obtain ⟨y, ys, rfl, r1, r2⟩ := r
    have e' : (match M.toPg g d, M.toPg.all g ds with | some p, some ps => some (p :: ps) | _, _ => none) = some _ := e
    cases q1 : M.toPg g d with
    | none => rw [q1] at e'; cases e'
    | some p =>
      cases q2 : M.toPg.all g ds with
      | none => rw [q1, q2] at e'; cases e'
      | some ps =>
        rw [q1, q2] at e'
        cases e'
        obtain ⟨h1, h2⟩ := dat_g hg q1 r1
        obtain ⟨h3, h4⟩ := dats_g hg q2 r2
        refine ⟨.cons h1 h3, ?_⟩
        show (PyData.canLay0 (ofP p) && PyData.canLayAll0 (ofP.all ps)) = true
        rw [h2, h4]; rfl
end
theorem dat_of {S : M.S} (rp : RepS K Θ ρ S H) : ∀ (n : Nat) {d : M.D} {p : M.P} {v : V}, M.toP n S d = some p → RelD K ρ H d v → DatIs K H v (ofP p) ∧ (ofP p).canLay0 = true
  | 0, _, _, _, e, r => dat_g (fun i p v e _ => by cases e) e r
  | n + 1, _, _, _, e, r => dat_g (fun i p v e r => by
      obtain ⟨a, rfl, ea⟩ := r
      have e' : (match M.lstAt S i with | some xs => (M.toPg.all (fun j => M.toP n S (.ref j)) xs).map M.P.lst | none => none) = some p := e
      cases q : S[i]? with
      | none => simp [M.lstAt, q] at e'
      | some o =>
        cases o with
        | lst xs =>
          simp only [M.lstAt, q] at e'
          obtain ⟨zs, e1, rr⟩ := lst_at rp ea q
          cases q2 : M.toPg.all (fun j => M.toP n S (.ref j)) xs with
          | none => rw [q2] at e'; cases e'
          | some ps =>
            rw [q2] at e'
            cases e'
            obtain ⟨h1, h2⟩ := dats_g (fun j p v e r => dat_of rp n e r) q2 rr
            exact ⟨.lst (SqL.of e1) h1, h2⟩
        | dct kvs => simp [M.lstAt, q] at e'
        | ins c fs => simp [M.lstAt, q] at e') e r
end
abbrev DR (K : PySem.W.Frag) (ρ : List Addr) (H : Hp) : List (M.D × M.D) → List (Key × V) → Prop := Paired fun p q => KeyR p.1 q.1 ∧ RelD K ρ H p.2 q.2
theorem keyR_inj {d e : M.D} {a b : Key} (ha : KeyR d a) (hb : KeyR e b) : (a = b) = (d = e) := by
  cases d with
  | int i =>
    cases ha
    cases e with
    | int j => cases hb; exact propext ⟨fun z => by cases z; rfl, fun z => by cases z; rfl⟩
    | str y => obtain ⟨rfl, _⟩ := hb; exact propext ⟨fun z => (nomatch z), fun z => (nomatch z)⟩
    | _ => exact hb.elim
  | str x =>
    obtain ⟨rfl, _⟩ := ha
    cases e with
    | int j => cases hb; exact propext ⟨fun z => (nomatch z), fun z => (nomatch z)⟩
    | str y => obtain ⟨rfl, _⟩ := hb; exact propext ⟨fun z => by rw [ofT_inj (Sum.inr.inj z)], fun z => by cases z; rfl⟩
    | _ => exact hb.elim
  | _ => exact ha.elim
theorem keyR_of {ρ : List Addr} {H : Hp} {d : M.D} {v : V} (h : M.keyOk d = true) (r : RelD K ρ H d v) : ∃ k, KeyR d k ∧ v = kV k := by
  cases d with
  | int i => cases r; exact ⟨.inl i, rfl, rfl⟩
  | str x => obtain ⟨rfl, ok⟩ := r; exact ⟨.inr (ofT x), ⟨rfl, ok⟩, rfl⟩
  | _ => cases h
section
variable {ρ : List Addr} {H : Hp} {kvs : List (M.D × M.D)} {ks : List (Key × V)} {d : M.D} {k : Key}
theorem DR.val (r : DR K ρ H kvs ks) (hk : KeyR d k) : match M.dGet d kvs with | some e => ∃ v, valV ks k = some v ∧ RelD K ρ H e v | none => valV ks k = none := by
  induction r with
  | nil => exact rfl
  | @cons p q ps qs h t ih =>
    have e := keyR_inj h.1 hk
    by_cases hd : p.1 = d
    · have hq : q.1 = k := e.mpr hd
      rw [valV_pos hq, M.dGet, List.lookup_cons, beq_iff_eq.mpr hd.symm]
      exact ⟨_, rfl, h.2⟩
    · have hq : ¬ q.1 = k := fun z => hd (e.mp z)
      rw [valV_neg hq, M.dGet, List.lookup_cons, beq_eq_false_iff_ne.mpr (Ne.symm hd)]
      exact ih
theorem DR.any (r : DR K ρ H kvs ks) (hk : KeyR d k) : (ks.any fun kv => decide (kv.1 = k)) = kvs.any fun kv => decide (kv.1 = d) := by
  induction r with
  | nil => rfl
  | @cons p q ps qs h t ih =>
    rw [List.any_cons, List.any_cons, ih]
    congr 1
    exact decide_eq_decide.mpr (keyR_inj h.1 hk ▸ Iff.rfl)
theorem DR.put (r : DR K ρ H kvs ks) (hk : KeyR d k) {e : M.D} {v : V} (rv : RelD K ρ H e v) : DR K ρ H (M.dPut d e kvs) (putK ks k v) := by
  unfold M.dPut putK
  rw [r.any hk]
  by_cases ha : (kvs.any fun kv => decide (kv.1 = d)) = true
  · rw [if_pos ha, if_pos ha]
    clear ha
    induction r with
    | nil => exact .nil
    | @cons p q ps qs h t ih =>
      rw [List.map_cons, List.map_cons]
      refine .cons ?_ ih
      have eq := keyR_inj h.1 hk
      by_cases hd : p.1 = d
      · rw [if_pos hd, if_pos (eq.mpr hd)]; exact ⟨h.1, rv⟩
      · rw [if_neg hd, if_neg fun z => hd (eq.mp z)]; exact h
  · rw [if_neg ha, if_neg ha]
    exact Paired.snoc r ⟨hk, rv⟩
theorem DR.drop (r : DR K ρ H kvs ks) (hk : KeyR d k) : DR K ρ H (M.dDrop d kvs) (dropK ks k) := by
  unfold M.dDrop dropK
  induction r with
  | nil => exact .nil
  | @cons p q ps qs h t ih =>
    have eq := keyR_inj h.1 hk
    rw [List.filter_cons, List.filter_cons]
    by_cases hd : p.1 = d
    · rw [if_neg (by simp [hd]), if_neg (by simp [eq.mpr hd])]; exact ih
    · rw [if_pos (by simp [hd]), if_pos (show decide (q.1 ≠ k) = true from decide_eq_true fun z => hd (eq.mp z))]; exact .cons h ih
end
theorem dct_at {ρ : List Addr} {S : M.S} {H : Hp} (rp : RepS K Θ ρ S H) {i : Nat} {a : Addr} (ha : ρ[i]? = some a) {kvs : List (M.D × M.D)} (q : S[i]? = some (.dct kvs)) : ∃ ks, H a = some (.dK ks) ∧ DR K ρ H kvs ks := by
  obtain ⟨b, e1, zs, e2, r⟩ := rp.obj i _ q
  rw [ha] at e1; cases e1
  exact ⟨zs, e2, r⟩
inductive HitsV (K : PySem.W.Frag) (H : Hp) (kb : List (Key × V)) : List (Key × V) → Bool → Prop where
  | nil : HitsV K H kb [] true
  | miss {k : Key} {v : V} {r : List (Key × V)} (h : valV kb k = none) : HitsV K H kb ((k, v) :: r) false
  | hit {k : Key} {v y : V} {r : List (Key × V)} {d e : PyData} {b : Bool} (h : valV kb k = some y) (hd : DatIs K H v d) (he : DatIs K H y e) (sd : SeqAt.shaped d = true) (se : SeqAt.shaped e = true) (t : HitsV K H kb r b) : HitsV K H kb ((k, v) :: r) (PyData.eqv d e && b)
def rDEq (neg : Bool) (K : PySem.W.Frag) : R2 := fun x y H Q => ∃ a b ka kb r, x = .ref a ∧ y = .ref b ∧ H a = some (.dK ka) ∧ H b = some (.dK kb) ∧ (ka.length = kb.length → HitsV K H kb ka r) ∧ Q (.bl (if neg then !(ka.length == kb.length && r) else (ka.length == kb.length && r))) H
theorem hits_of {X : Cx} {pins : List (Addr × Obj)} {σ : St} {H : Hp} {s : Shared} {A : Around} (I : Inv X pins σ H s) (hu : A.units + 64 < cLine) {kb : List (Key × V)} {vb : List (Key × Value)} (rb : KV kb vb) : ∀ {ka : List (Key × V)} {va : List (Key × Value)} {r : Bool}, KV ka va → HitsV X.K H kb ka r → PySem.W.KeqHits A s vb va r
  | _, _, _, ra, .nil => by cases ra; exact .nil
  | _, _, _, ra, .miss h => by
    cases ra with
    | @cons p q ps qs h1 t =>
      obtain ⟨k, v⟩ := q
      have hk : _ = k := h1.1
      have hv := rb.val k
      rw [← hk, h] at hv
      refine .miss ?_
      rw [← hk]
      cases q2 : valueAt vb _ with
      | none => rfl
      | some w => rw [q2] at hv; exact hv.elim
  | _, _, _, ra, .hit h hd he sd se t => by
    cases ra with
    | @cons p q ps qs h1 t1 =>
      obtain ⟨k, v⟩ := q
      have hk : _ = k := h1.1
      have hv := rb.val k
      rw [← hk, h] at hv
      cases q2 : valueAt vb k with
      | none => rw [hk, q2] at hv; exact hv.elim
      | some w =>
        rw [hk, q2] at hv
        obtain ⟨as, r1⟩ := hd.reads I h1.2
        obtain ⟨bs, r2⟩ := he.reads I hv
        exact .hit q2 (SeqAt.eqAt_reads _ _ A s _ _ as bs r1 r2 (SeqAt.canLay_of_shaped sd) (SeqAt.canLay_of_shaped se) (SeqAt.room_of_shaped sd hu)) (hits_of I hu rb t1 t)
theorem op_dEq {X : Cx} {k : Nat} (hr : Room k X.A) : OpR X (compareOp .Eq) (rDEq false X.K) := by
  intro pins s σ H x y v u Q I rx ry h
  obtain ⟨a, b, ka, kb, r, rfl, rfl, ha, hb, hh, q⟩ := h
  cases rx; cases ry
  obtain ⟨za, la, va, ra, da⟩ := dk_of I.hok ha
  obtain ⟨zb, lb, vb, rb, db⟩ := dk_of I.hok hb
  refine PySem.W.keq_eq la lb da db hr.units0 (fun e => hits_of I (by show X.A.units + 1 + 64 < _; have := hr.un; omega) rb ra (hh (by rw [ra.length, rb.length]; exact e))) ⟨.bl _, H, I, rfl, ?_⟩
  rw [← ra.length, ← rb.length]
  exact q
theorem op_dNe {X : Cx} {k : Nat} (hr : Room k X.A) : OpR X (compareOp .NotEq) (rDEq true X.K) := by
  intro pins s σ H x y v u Q I rx ry h
  obtain ⟨a, b, ka, kb, r, rfl, rfl, ha, hb, hh, q⟩ := h
  cases rx; cases ry
  obtain ⟨za, la, va, ra, da⟩ := dk_of I.hok ha
  obtain ⟨zb, lb, vb, rb, db⟩ := dk_of I.hok hb
  refine PySem.W.keq_ne la lb da db hr.units0 (fun e => hits_of I (by show X.A.units + 1 + 64 < _; have := hr.un; omega) rb ra (hh (by rw [ra.length, rb.length]; exact e))) ⟨.bl _, H, I, rfl, ?_⟩
  rw [← ra.length, ← rb.length]
  exact q
theorem hits_dEq {ρ : List Addr} {H : Hp} {S : M.S} (rp : RepS K Θ ρ S H) {ws : List (M.D × M.D)} {kb : List (Key × V)} (rb : DR K ρ H ws kb) : ∀ {ks : List (M.D × M.D)} {ka : List (Key × V)} {b : Bool}, DR K ρ H ks ka → M.dEq S ws ks = some b → HitsV K H kb ka b
  | _, _, _, .nil, e => by cases e; exact .nil
  | (k, v) :: ks, (kk, vv) :: ka, b, .cons h t, e => by
    have hv := DR.val rb h.1
    unfold M.dEq at e
    cases q : M.dGet k ws with
    | none =>
      rw [q] at e hv
      cases e
      exact .miss hv
    | some w =>
      rw [q] at e hv
      obtain ⟨y, hy, ry⟩ := hv
      dsimp only at e
      cases q1 : M.toP 8 S v with
      | none => rw [q1] at e; cases e
      | some p1 =>
        cases q2 : M.toP 8 S w with
        | none => rw [q1, q2] at e; cases e
        | some p2 =>
          cases q3 : M.dEq S ws ks with
          | none => rw [q1, q2, q3] at e; cases e
          | some b' =>
            rw [q1, q2, q3] at e
            dsimp only at e
            by_cases hc : M.P.dep p1 ≤ 64 ∧ M.P.dep p2 ≤ 64
            · rw [if_pos hc] at e
              cases e
              obtain ⟨d1, c1⟩ := dat_of rp _ q1 h.2
              obtain ⟨d2, c2⟩ := dat_of rp _ q2 ry
              rw [← eqv_ofP]
              refine .hit hy d1 d2 ?_ ?_ (hits_dEq rp rb t q3)
              · unfold SeqAt.shaped; rw [c1, Bool.true_and, dep_ofP]; exact decide_eq_true hc.1
              · unfold SeqAt.shaped; rw [c2, Bool.true_and, dep_ofP]; exact decide_eq_true hc.2
            · rw [if_neg hc] at e; cases e
theorem eqDct_is {ρ : List Addr} {H : Hp} {S : M.S} {x y : M.D} {X1 Y : V} {Q' : Bool → Hp → Prop} (rp : RepS K Θ ρ S H) (rx : RelD K ρ H x X1) (ry : RelD K ρ H y Y) (h : Post K Θ rB ρ H (M.eqDct x y S) Q') :
    ∃ a b ka kb r, X1 = .ref a ∧ Y = .ref b ∧ H a = some (.dK ka) ∧ H b = some (.dK kb) ∧ (ka.length = kb.length → HitsV K H kb ka r) ∧ Q' (ka.length == kb.length && r) H := by
  unfold M.eqDct at h
  split at h
  · rename_i i j
    split at h
    · rename_i ks ws e1 e2
      obtain ⟨a, rfl, ha⟩ := rx
      obtain ⟨b, rfl, hb⟩ := ry
      obtain ⟨ka, h1, r1⟩ := dct_at rp ha e1
      obtain ⟨kb, h2, r2⟩ := dct_at rp hb e2
      have l1 := Paired.length r1
      have l2 := Paired.length r2
      split at h
      · rename_i hl
        split at h
        · rename_i bb q
          refine ⟨a, b, ka, kb, bb, rfl, rfl, h1, h2, fun _ => hits_dEq rp r2 r1 q, ?_⟩
          rw [show (ka.length == kb.length) = true by rw [beq_iff_eq]; omega, Bool.true_and]
          exact Post.here (b := bb) h rp rfl
        · exact h.elim
      · rename_i hl
        refine ⟨a, b, ka, kb, false, rfl, rfl, h1, h2, fun e => absurd (by omega) hl, ?_⟩
        rw [Bool.and_false]
        exact Post.here (b := false) h rp rfl
    · exact h.elim
  · exact h.elim
def rEqM (K : PySem.W.Frag) (neg : Bool) : R2 := fun x y H Q => (scal x y = true ∧ Q (.bl (if neg then !decide (x = y) else decide (x = y))) H) ∨ rEqD K neg x y H Q ∨ rDEq neg K x y H Q
theorem op_eqM {X : Cx} {k : Nat} (hr : Room k X.A) : OpR X (compareOp .Eq) (rEqM X.K false) := by
  intro pins s σ H x y v u Q I rx ry h
  rcases h with h | h | h
  · exact op_eq pins s σ H x y v u Q I rx ry h
  · exact op_eqD hr pins s σ H x y v u Q I rx ry h
  · exact op_dEq hr pins s σ H x y v u Q I rx ry h
theorem op_neM {X : Cx} {k : Nat} (hr : Room k X.A) : OpR X (compareOp .NotEq) (rEqM X.K true) := by
  intro pins s σ H x y v u Q I rx ry h
  rcases h with h | h | h
  · exact op_ne pins s σ H x y v u Q I rx ry h
  · exact op_neD hr pins s σ H x y v u Q I rx ry h
  · exact op_dNe hr pins s σ H x y v u Q I rx ry h
theorem eq_core {ρ : List Addr} {H : Hp} {S : M.S} {x y : M.D} {X1 Y : V} {Q' : Bool → Hp → Prop} (rp : RepS K Θ ρ S H) (rx : RelD K ρ H x X1) (ry : RelD K ρ H y Y) (h : Post K Θ rB ρ H (M.eqD x y S) Q') :
    (scal X1 Y = true ∧ Q' (decide (X1 = Y)) H) ∨ (∃ d e, DatIs K H X1 d ∧ DatIs K H Y e ∧ SeqAt.shaped d = true ∧ SeqAt.shaped e = true ∧ Q' (PyData.eqv d e) H) ∨ ∃ a b ka kb r, X1 = .ref a ∧ Y = .ref b ∧ H a = some (.dK ka) ∧ H b = some (.dK kb) ∧ (ka.length = kb.length → HitsV K H kb ka r) ∧ Q' (ka.length == kb.length && r) H := by
  have gen : ∀ {p q : M.P}, M.toP M.DEEP S x = some p → M.toP M.DEEP S y = some q → M.P.dep p ≤ 64 ∧ M.P.dep q ≤ 64 → Q' (M.P.eqv p q) H → ∃ d e, DatIs K H X1 d ∧ DatIs K H Y e ∧ SeqAt.shaped d = true ∧ SeqAt.shaped e = true ∧ Q' (PyData.eqv d e) H := fun {p q} e1 e2 hd hq => by
    obtain ⟨d1, c1⟩ := dat_of rp _ e1 rx
    obtain ⟨d2, c2⟩ := dat_of rp _ e2 ry
    refine ⟨_, _, d1, d2, ?_, ?_, by rw [eqv_ofP]; exact hq⟩
    · unfold SeqAt.shaped; rw [c1, Bool.true_and, dep_ofP]; exact decide_eq_true hd.1
    · unfold SeqAt.shaped; rw [c2, Bool.true_and, dep_ofP]; exact decide_eq_true hd.2
  have rest : Post K Θ rB ρ H (match M.toP M.DEEP S x, M.toP M.DEEP S y with
      | some p, some q => if M.P.dep p ≤ 64 ∧ M.P.dep q ≤ 64 then M.R.ok (M.P.eqv p q) S else .no
      | _, _ => M.eqDct x y S) Q' → (∃ d e, DatIs K H X1 d ∧ DatIs K H Y e ∧ SeqAt.shaped d = true ∧ SeqAt.shaped e = true ∧ Q' (PyData.eqv d e) H) ∨ ∃ a b ka kb r, X1 = .ref a ∧ Y = .ref b ∧ H a = some (.dK ka) ∧ H b = some (.dK kb) ∧ (ka.length = kb.length → HitsV K H kb ka r) ∧ Q' (ka.length == kb.length && r) H := fun h' => by
    cases e1 : M.toP M.DEEP S x with
    | none => rw [e1] at h'; exact .inr (eqDct_is rp rx ry h')
    | some p =>
      cases e2 : M.toP M.DEEP S y with
      | none => rw [e1, e2] at h'; exact .inr (eqDct_is rp rx ry h')
      | some q =>
        rw [e1, e2] at h'
        dsimp only at h'
        by_cases hc : M.P.dep p ≤ 64 ∧ M.P.dep q ≤ 64
        · rw [if_pos hc] at h'; exact .inl <| gen e1 e2 hc (Post.here (b := M.P.eqv p q) h' rp rfl)
        · rw [if_neg hc] at h'; exact h'.elim
  have sc : ∀ {b : Bool}, scal X1 Y = true → decide (X1 = Y) = b → M.eqD x y S = .ok b S → (scal X1 Y = true ∧ Q' (decide (X1 = Y)) H) := fun {b} h1 h2 h3 => by
    rw [h3] at h
    rw [h2]
    exact ⟨h1, Post.here (b := b) h rp rfl⟩
  cases x with
  | str a =>
    cases y with
    | str b =>
      obtain ⟨rfl, _⟩ := rx
      obtain ⟨rfl, _⟩ := ry
      refine .inl (sc rfl ?_ rfl)
      by_cases hab : a = b
      · subst hab; simp
      · rw [decide_eq_false hab, decide_eq_false fun e => hab (ofT_inj (V.str.inj e))]
    | _ => exact .inr (rest h)
  | int a =>
    cases y with
    | int b =>
      cases rx; cases ry
      refine .inl (sc rfl ?_ rfl)
      by_cases hab : a = b
      · subst hab; simp
      · rw [decide_eq_false hab, decide_eq_false fun e => hab (V.int.inj e)]
    | _ => exact .inr (rest h)
  | bl a =>
    cases y with
    | bl b =>
      cases rx; cases ry
      refine .inl (sc rfl ?_ rfl)
      by_cases hab : a = b
      · subst hab; simp
      · rw [decide_eq_false hab, decide_eq_false fun e => hab (V.bl.inj e)]
    | _ => exact .inr (rest h)
  | non =>
    cases y with
    | non => cases rx; cases ry; exact .inl (sc rfl rfl rfl)
    | _ => exact .inr (rest h)
  | _ => exact .inr (rest h)
theorem ad_eq : AdC K Θ M.cEq (rEqM K false) := by
  intro ρ H S x y X1 Y Q rp rx ry h
  rcases eq_core rp rx ry h with h | ⟨d, e, h1, h2, h3, h4, h5⟩ | ⟨a, b, ka, kb, r, h⟩
  · exact .inl h
  · exact .inr (.inl ⟨d, e, h1, h2, h3, h4, h5⟩)
  · exact .inr (.inr ⟨a, b, ka, kb, r, h⟩)
theorem ad_ne : AdC K Θ M.cNe (rEqM K true) := by
  intro ρ H S x y X1 Y Q rp rx ry h
  have h' : Post K Θ rB ρ H (M.eqD x y S) (fun b H' => Q (.bl (!b)) H') := Post.bind h fun ρ1 H1 b b' S1 p1 l1 rp1 e h1 => by cases e; exact Post.here (b := !b) h1 rp1 rfl
  rcases eq_core rp rx ry h' with h | ⟨d, e, h1, h2, h3, h4, h5⟩ | ⟨a, b, ka, kb, r, h⟩
  · exact .inl h
  · exact .inr (.inl ⟨d, e, h1, h2, h3, h4, h5⟩)
  · exact .inr (.inr ⟨a, b, ka, kb, r, h⟩)
end
end L2
namespace L2
open PySem PySem.Spec PyProof.Rows
section
variable {K : PySem.W.Frag} {Θ : Tab}
theorem sIx_eq (n d : Nat) (o : Option Int) : M.sIx n d o = HT.sIx n d o := by
  cases o with
  | none => rfl
  | some v =>
    have := HT.clip_eq v n d
    show (if v < 0 then max (v + (n : Int)) 0 else min v (n : Int)).toNat = _
    rw [this]; simp
theorem cut_mem {x : M.T} {lo hi : Option Int} : ∀ c ∈ M.cut x lo hi, c ∈ x := fun c hc => List.mem_of_mem_drop (List.mem_of_mem_take hc)
theorem cut_rel {ρ : List Addr} {H : Hp} {ds : List M.D} {xs : List V} (r : RelDs K ρ H ds xs) (lo hi : Option Int) : RelDs K ρ H (M.cut ds lo hi) (cutV xs lo hi) := by
  unfold M.cut cutV
  rw [sIx_eq, sIx_eq, r.length]
  exact (r.drop _).take _
theorem ad_sl : ∀ ρ H S x X1 l u Q, RepS K Θ ρ S H → RelD K ρ H x X1 → Post K Θ (RelD K) ρ H (M.slD x l u S) Q → uSl K X1 l u H Q := by
  intro ρ H S x X1 l u Q rp rx h
  cases x with
  | str z =>
    obtain ⟨rfl, ok⟩ := rx
    by_cases hz : z.length ≤ M.SZ
    · simp only [M.slD, if_pos hz] at h
      refine ⟨by rw [ofT_len, ← SZ_eq]; exact hz, Post.here h rp ⟨?_, okT_sub ok cut_mem⟩⟩
      show V.str (cutS (ofT z) l u) = V.str (ofT (M.cut z l u))
      unfold cutS M.cut ofT
      have e : (⟨z.toArray⟩ : Str).length = z.length := by simp [Str.length]
      rw [e, sIx_eq, sIx_eq]
    · simp only [M.slD, if_neg hz] at h; exact h.elim
  | tup ds =>
    obtain ⟨a, xs, rfl, hq, r⟩ := rx
    by_cases hc : M.sIx ds.length 0 l = 0 ∧ M.sIx ds.length ds.length u = ds.length
    · simp only [M.slD, if_pos hc] at h; exact h.elim
    · simp only [M.slD, if_neg hc] at h
      refine .inr ⟨xs, hq, ?_, fun p hp => h ρ _ _ (List.prefix_refl _) (Le.new hp _) (rp.aside hp _) ⟨p, _, rfl, SqT.of upd_same, (cut_rel r l u).mono (List.prefix_refl _) (Le.new hp _)⟩⟩
      rw [sIx_eq, sIx_eq, r.length] at hc
      exact hc
  | ro ds =>
    obtain ⟨a, xs, rfl, hq, r⟩ := rx
    exact .inl ⟨xs, hq.sq, fun p hp => Post.alloc h rp (cut_rel r l u) hp⟩
  | ref p =>
    obtain ⟨a, rfl, ea⟩ := rx
    cases q : S[p]? with
    | none => simp [M.slD, M.lstAt, q] at h; exact h.elim
    | some o =>
      cases o with
      | lst xs =>
        simp only [M.slD, M.lstAt, q] at h
        obtain ⟨zs, e1, r⟩ := lst_at rp ea q
        exact .inl ⟨zs, SqL.of e1, fun p hp => Post.alloc h rp (cut_rel r l u) hp⟩
      | dct kvs => simp [M.slD, M.lstAt, q] at h; exact h.elim
      | ins c fs => simp [M.slD, M.lstAt, q] at h; exact h.elim
  | _ => exact h.elim
theorem bools_rel {ρ : List Addr} {H : Hp} : ∀ {ds : List M.D} {ys : List V} {bs : List Bool}, M.bools ds = some bs → RelDs K ρ H ds ys → ys = bs.map V.bl
  | [], _, _, e, r => by cases e; cases r; rfl
  | .bl b :: ds, _, _, e, r => by
    obtain ⟨y, ys, rfl, r1, r2⟩ := r
    cases r1
    have e' : (M.bools ds).map (b :: ·) = some _ := e
    cases q : M.bools ds with
    | none => rw [q] at e'; cases e'
    | some cs => rw [q] at e'; cases e'; rw [bools_rel q r2]; rfl
  | .non :: _, _, _, e, _ => by cases e
  | .int _ :: _, _, _, e, _ => by cases e
  | .str _ :: _, _, _, e, _ => by cases e
  | .tup _ :: _, _, _, e, _ => by cases e
  | .ro _ :: _, _, _, e, _ => by cases e
  | .ref _ :: _, _, _, e, _ => by cases e
  | .ty _ :: _, _, _, e, _ => by cases e
theorem adk_all : AdK K Θ M.kAll (rAll K) := by
  intro ρ H S ds ys p Q rp r hq h
  cases e : M.bools ds with
  | none => simp only [M.kAll, e] at h; exact h.elim
  | some bs =>
    simp only [M.kAll, e] at h
    have := bools_rel e r
    subst this
    exact ⟨p, bs, rfl, hq, Post.here (b := V.bl (bs.all id)) h rp rfl⟩
theorem texts_rel {ρ : List Addr} {H : Hp} : ∀ {ds : List M.D} {ys : List V} {ts : List M.T}, M.texts ds = some ts → RelDs K ρ H ds ys → ys = (ts.map ofT).map V.str ∧ ∀ t ∈ ts, okT t
  | [], _, _, e, r => by cases e; cases r; exact ⟨rfl, fun t h => by cases h⟩
  | .str x :: ds, _, _, e, r => by
    obtain ⟨y, ys, rfl, r1, r2⟩ := r
    obtain ⟨rfl, ok⟩ := r1
    have e' : (M.texts ds).map (x :: ·) = some _ := e
    cases q : M.texts ds with
    | none => rw [q] at e'; cases e'
    | some cs =>
      rw [q] at e'
      cases e'
      obtain ⟨h1, h2⟩ := texts_rel q r2
      refine ⟨by rw [h1]; rfl, fun t ht => ?_⟩
      rcases List.mem_cons.mp ht with rfl | ht
      · exact ok
      · exact h2 t ht
  | .non :: _, _, _, e, _ => by cases e
  | .int _ :: _, _, _, e, _ => by cases e
  | .bl _ :: _, _, _, e, _ => by cases e
  | .tup _ :: _, _, _, e, _ => by cases e
  | .ro _ :: _, _, _, e, _ => by cases e
  | .ref _ :: _, _, _, e, _ => by cases e
  | .ty _ :: _, _, _, e, _ => by cases e
theorem join_fold (x : M.T) : ∀ (ys : List M.T) (acc : M.T), ((ys.map ofT).foldl (fun acc p => acc ++ (ofT x).cps ++ p.cps) acc.toArray) = (acc ++ (ys.map (x ++ ·)).flatten).toArray
  | [], acc => by simp
  | y :: ys, acc => by
    rw [List.map_cons, List.foldl_cons]
    have e : acc.toArray ++ (ofT x).cps ++ (ofT y).cps = (acc ++ x ++ y).toArray := by simp [ofT]
    rw [e, join_fold x ys]
    simp
theorem joinT_flat (x y : M.T) : ∀ ys : List M.T, M.joinT x (y :: ys) = y ++ (ys.map (x ++ ·)).flatten
  | [] => by simp [M.joinT]
  | z :: ys => by
    show y ++ x ++ M.joinT x (z :: ys) = _
    rw [joinT_flat x z ys]; simp
theorem join_eq (x : M.T) (ys : List M.T) : Txt.join (ofT x) (ys.map ofT) = ofT (M.joinT x ys) := by
  cases ys with
  | nil => rfl
  | cons y ys =>
    show (⟨(((y :: ys).map ofT).drop 1).foldl (fun acc p => acc ++ (ofT x).cps ++ p.cps) (((y :: ys).map ofT).headD Str.empty).cps⟩ : Str) = _
    rw [joinT_flat, List.map_cons, List.drop_one, List.tail_cons]
    have := join_fold x ys y
    show (⟨(ys.map ofT).foldl _ y.toArray⟩ : Str) = _
    rw [this]; rfl
theorem okT_join {x : M.T} (hx : okT x) : ∀ {ys : List M.T}, (∀ t ∈ ys, okT t) → okT (M.joinT x ys)
  | [], _ => rfl
  | [y], h => h y (by simp)
  | y :: z :: ys, h => okT_app (okT_app (h y (by simp)) hx) (okT_join hx fun t ht => h t (List.mem_cons_of_mem _ ht))
theorem len_sum (ts : List M.T) : ((ts.map ofT).map (·.length)).sum = (ts.map List.length).sum := by
  rw [List.map_map]
  exact congrArg List.sum (List.map_congr_left fun t _ => ofT_len t)
theorem adk_join {y : M.T} (hy : okT y) : ∀ ρ H S ds ys p Q, RepS K Θ ρ S H → RelDs K ρ H ds ys → (SqL K H p ys ∨ SqT K H p ys) → Post K Θ (RelD K) ρ H (M.kJoin y ds S) Q → rJoin K (.str (ofT y)) [.ref p] H Q := by
  intro ρ H S ds ys p Q rp r hq h
  cases e : M.texts ds with
  | none => simp only [M.kJoin, e] at h; exact h.elim
  | some ts =>
    obtain ⟨rfl, ok⟩ := texts_rel e r
    by_cases hz : (ts.map List.length).sum + ts.length * y.length ≤ M.SZ
    · simp only [M.kJoin, e, if_pos hz] at h
      refine ⟨ofT y, p, ts.map ofT, rfl, rfl, hq, ?_, ?_⟩
      · rw [len_sum, List.length_map, ofT_len]; exact hz
      · rw [join_eq]; exact Post.here h rp ⟨rfl, okT_join hy ok⟩
    · simp only [M.kJoin, e, if_neg hz] at h; exact h.elim
theorem ad_join : AdM K Θ M.mJoin (rJoin K) := by
  intro ρ H S x xs X1 Xs Q rp rx rxs h
  cases x with
  | str y =>
    obtain ⟨rfl, ok⟩ := rx
    match xs, rxs, h with
    | [.tup ds], rxs, h =>
      obtain ⟨_, _, rfl, ⟨l, ys, rfl, hq, r⟩, rfl⟩ := rxs
      exact adk_join ok ρ H S ds ys l Q rp r (.inr hq) h
    | [.ro ds], rxs, h =>
      obtain ⟨_, _, rfl, ⟨l, ys, rfl, hq, r⟩, rfl⟩ := rxs
      exact adk_join ok ρ H S ds ys l Q rp r (.inl hq.sq) h
    | [.ref p], rxs, h =>
      obtain ⟨_, _, rfl, ⟨a, rfl, ea⟩, rfl⟩ := rxs
      cases q : S[p]? with
      | none => simp [M.mJoin, M.fSeq, M.lstAt, q] at h; exact h.elim
      | some o =>
        cases o with
        | lst xs =>
          simp only [M.mJoin, M.fSeq, M.lstAt, q] at h
          obtain ⟨zs, e1, r⟩ := lst_at rp ea q
          exact adk_join ok ρ H S xs zs a Q rp r (.inl (SqL.of e1)) h
        | dct kvs => simp [M.mJoin, M.fSeq, M.lstAt, q] at h; exact h.elim
        | ins c fs => simp [M.mJoin, M.fSeq, M.lstAt, q] at h; exact h.elim
    | [.non], _, h => exact h.elim
    | [.bl _], _, h => exact h.elim
    | [.int _], _, h => exact h.elim
    | [.str _], _, h => exact h.elim
    | [.ty _], _, h => exact h.elim
    | [], _, h => exact h.elim
    | a :: _ :: _, _, h => cases a <;> exact h.elim
  | _ => exact h.elim
end
end L2
namespace L2
open PySem PySem.Spec PyProof.Rows
section
variable {K : PySem.W.Frag} {Θ : Tab}
theorem foldl_rep_cps (a : M.T) : ∀ (n : Nat) (acc : Array Nat), (List.replicate n a.toArray).foldl (· ++ ·) acc = acc ++ ((List.replicate n a).flatten).toArray
  | 0, acc => by simp
  | n + 1, acc => by
    rw [List.replicate_succ, List.foldl_cons, foldl_rep_cps a n, List.replicate_succ, List.flatten_cons]
    simp
theorem mul_rep (a : M.T) (n : Int) (h0 : 0 ≤ n) : Txt.mul (ofT a) n = ofT (List.replicate n.toNat a).flatten := by
  unfold Txt.mul
  by_cases h1 : n < 1
  · have e : n.toNat = 0 := by omega
    rw [if_pos h1, e]; rfl
  · rw [if_neg h1]
    by_cases h2 : (n == 1 || (ofT a).length == 0) = true
    · rw [if_pos h2]
      rw [Bool.or_eq_true] at h2
      rcases h2 with h2 | h2
      · have e : n = 1 := eq_of_beq h2
        subst e
        simp
      · have e : a.length = 0 := by rw [← ofT_len]; exact eq_of_beq h2
        have e2 : a = [] := List.length_eq_zero_iff.mp e
        subst e2
        simp [ofT]
    · rw [if_neg h2]
      have := foldl_rep_cps a n.toNat #[]
      show (⟨(List.replicate n.toNat a.toArray).foldl (· ++ ·) #[]⟩ : Str) = _
      rw [this]; simp [ofT]
theorem mul_ok (a : M.T) (n : Int) (h0 : 0 ≤ n) (h1 : n ≤ 1000000) (h2 : a.length * n.toNat ≤ 1000000) : MulOk (ofT a) n := by
  refine ⟨?_, fun h3 _ => ?_, fun h3 _ => ?_⟩
  · rw [Bool.or_eq_false_iff]
    exact ⟨decide_eq_false (by omega), decide_eq_false (by omega)⟩
  · rw [ofT_len]
    have hn : 1 ≤ n.toNat := by omega
    have ha : a.length ≤ 1000000 := Nat.le_trans (Nat.le_mul_of_pos_right _ (by omega)) h2
    have hd : (1000000 : Int) ≤ (2 ^ 63 - 1) / n := Int.le_ediv_of_mul_le (by omega) (by omega)
    omega
  · rw [ofT_len]
    unfold Builtin.Str.tooLong
    exact decide_eq_false (by rw [sizeLine_eq]; omega)
def rMulM : R2 := fun x y H Q => uMul x y H Q ∨ rRep x y H Q
theorem u_mulM {X : Cx} : OpR X (binaryOp .Mult) rMulM := OpR.or u_mul op_rep
theorem RelDs.flat {ρ : List Addr} {H : Hp} {ds : List M.D} {xs : List V} (h : RelDs K ρ H ds xs) : ∀ n : Nat, RelDs K ρ H (List.replicate n ds).flatten (List.replicate n xs).flatten
  | 0 => rfl
  | n + 1 => by
    rw [List.replicate_succ, List.replicate_succ, List.flatten_cons, List.flatten_cons]
    exact RelDs.app h (RelDs.flat h n)
theorem ad_mul : Ad2 K Θ M.opMul rMulM := by
  intro ρ H S x y X Y Q rp rx ry h
  cases x with
  | int i =>
    cases y with
    | int j =>
      cases rx; cases ry
      have h' : Post K Θ (RelD K) ρ H (if (M.small i || M.small j) = true then M.R.ok (M.D.int (i * j)) S else .no) Q := h
      by_cases hc : (M.small i || M.small j) = true
      · rw [if_pos hc] at h'
        refine .inl ⟨?_, Post.here (b := V.int (i * j)) h' rp rfl⟩
        rw [Bool.or_eq_true] at hc
        rcases hc with hc | hc
        · exact .inl (small_is hc)
        · exact .inr (small_is hc)
      · rw [if_neg hc] at h'; exact h'.elim
    | _ => exact h.elim
  | str a =>
    cases y with
    | int n =>
      obtain ⟨rfl, oka⟩ := rx
      cases ry
      have h' : Post K Θ (RelD K) ρ H (if 0 ≤ n ∧ n.natAbs ≤ 1000000 ∧ a.length * n.natAbs ≤ 1000000 then M.R.ok (M.D.str (List.replicate n.toNat a).flatten) S else .no) Q := h
      by_cases hc : 0 ≤ n ∧ n.natAbs ≤ 1000000 ∧ a.length * n.natAbs ≤ 1000000
      · rw [if_pos hc] at h'
        have hn : n.natAbs = n.toNat := by omega
        refine .inl ⟨mul_ok a n hc.1 (by omega) (by rw [← hn]; exact hc.2.2), ?_⟩
        show Q (.str (Txt.mul (ofT a) n)) H
        rw [mul_rep a n hc.1]
        refine Post.here h' rp ⟨rfl, okT_sub oka fun c hc => ?_⟩
        obtain ⟨l, hl, hcl⟩ := List.mem_flatten.mp hc
        rw [(List.mem_replicate.mp hl).2] at hcl
        exact hcl
      · rw [if_neg hc] at h'; exact h'.elim
    | _ => exact h.elim
  | ref p =>
    cases y with
    | int n =>
      cases ry
      have h' : Post K Θ (RelD K) ρ H (match M.lstAt S p with | some xs => if n.natAbs ≤ 1000 ∧ xs.length * n.natAbs ≤ 1000000 then M.alloc (.lst (List.replicate n.toNat xs).flatten) S else .no | none => .no) Q := h
      cases q : S[p]? with
      | none => simp only [M.lstAt, q] at h'; exact h'.elim
      | some o =>
        cases o with
        | lst ds =>
          simp only [M.lstAt, q] at h'
          obtain ⟨a, rfl, ea⟩ := rx
          obtain ⟨zs, e1, r⟩ := lst_at rp ea q
          by_cases hc : n.natAbs ≤ 1000 ∧ ds.length * n.natAbs ≤ 1000000
          · rw [if_pos hc] at h'
            have hn : n.toNat ≤ n.natAbs := by omega
            refine .inr ⟨a, n, zs, rfl, rfl, e1, by omega, by omega, ?_, fun p hp => Post.alloc h' rp (RelDs.flat r n.toNat) hp⟩
            have hm := Nat.mul_le_mul_left ds.length hn
            rw [← r.length, sizeLine_eq]
            omega
          · rw [if_neg hc] at h'; exact h'.elim
        | dct _ => simp only [M.lstAt, q] at h'; exact h'.elim
        | ins _ _ => simp only [M.lstAt, q] at h'; exact h'.elim
    | _ => exact h.elim
  | _ => exact h.elim
def rIxM (K : PySem.W.Frag) : R2 := fun x y H Q => uIx K x y H Q ∨ ∃ a v, x = .ref a ∧ DGet H a y (some v) ∧ Q v H
theorem ix_M {X : Cx} {k : Nat} (hr : Room k X.A) : IxR X (rIxM X.K) := by
  refine IxR.or u_ix ?_
  intro value slice pins s σ H x y v u Q I rx ry h hs
  obtain ⟨a, w', rfl, g, q⟩ := h
  cases rx
  exact tail_any (dict_typeIs I g) PySem.F.slot_dict_getitem.lookup (d_getItem (hu_of hr) I g ry fun w2 s3 I3 rw' => ⟨w', H, I3, rw', q⟩) hs
def rLenM (K : PySem.W.Frag) : List V → Hp → VK → Prop := fun xs H Q => uLen K xs H Q ∨ ∃ a kvs, xs = [V.ref a] ∧ H a = some (.dK kvs) ∧ Q (.int kvs.length) H
theorem call_lenM {X : Cx} : CallR X (.builtin "len") (rLenM X.K) := CallR.or u_len call_lenD
theorem ad_ix : Ad2 K Θ M.opIx (rIxM K) := by
  intro ρ H S x y X Y Q rp rx ry h
  cases x with
  | str a =>
    cases y with
    | int i =>
      obtain ⟨rfl, oka⟩ := rx
      cases ry
      have h' : Post K Θ (RelD K) ρ H (if a.length ≤ M.SZ then (match M.atI a i with | some c => M.R.ok (M.D.str [c]) S | none => .no) else .no) Q := h
      by_cases hc : a.length ≤ M.SZ
      · rw [if_pos hc] at h'
        cases q : M.atI a i with
        | none => rw [q] at h'; exact h'.elim
        | some c =>
          rw [q] at h'
          refine .inl ⟨c, by rw [ofT_len, ← SZ_eq]; exact hc, ?_, Post.here (b := V.str (ofT [c])) h' rp ⟨rfl, okT_sub oka fun d hd => by
            have e : d = c := by simpa using hd
            rw [e]
            unfold M.atI at q
            cases qi : M.ixN a.length i with
            | none => rw [qi] at q; cases q
            | some j => rw [qi] at q; exact List.mem_of_getElem? q⟩⟩
          rw [ofT_list]; exact q
      · rw [if_neg hc] at h'; exact h'.elim
    | _ => exact h.elim
  | tup ds =>
    cases y with
    | int i =>
      obtain ⟨l, xs, rfl, hq, r⟩ := rx
      cases ry
      have h' : Post K Θ (RelD K) ρ H (match M.atI ds i with | some d => M.R.ok d S | none => .no) Q := h
      cases q : M.atI ds i with
      | none => rw [q] at h'; exact h'.elim
      | some d =>
        rw [q] at h'
        obtain ⟨v, e1, rv⟩ := atI_rel r q
        exact .inl ⟨xs, v, .inr hq, e1, Post.here h' rp rv⟩
    | _ => exact h.elim
  | ro ds =>
    cases y with
    | int i =>
      obtain ⟨l, xs, rfl, hq, r⟩ := rx
      cases ry
      have h' : Post K Θ (RelD K) ρ H (match M.atI ds i with | some d => M.R.ok d S | none => .no) Q := h
      cases q : M.atI ds i with
      | none => rw [q] at h'; exact h'.elim
      | some d =>
        rw [q] at h'
        obtain ⟨v, e1, rv⟩ := atI_rel r q
        exact .inl ⟨xs, v, .inl hq.sq, e1, Post.here h' rp rv⟩
    | _ => exact h.elim
  | ref p =>
    obtain ⟨a, rfl, ea⟩ := rx
    cases q : S[p]? with
    | none => simp [M.opIx, q] at h; exact h.elim
    | some o =>
      cases o with
      | lst xs =>
        cases y with
        | int i =>
          cases ry
          obtain ⟨zs, e1, r⟩ := lst_at rp ea q
          cases q2 : M.atI xs i with
          | none => simp [M.opIx, q, q2] at h; exact h.elim
          | some d =>
            simp [M.opIx, q, q2] at h
            obtain ⟨v, e2, rv⟩ := atI_rel r q2
            exact .inl ⟨zs, v, .inl (SqL.of e1), e2, Post.here h rp rv⟩
        | _ => simp [M.opIx, q] at h; exact h.elim
      | dct kvs =>
        by_cases hk : M.keyOk y = true
        case neg => simp [M.opIx, q, hk] at h; exact h.elim
        obtain ⟨ks, e1, r⟩ := dct_at rp ea q
        obtain ⟨k, h1, rfl⟩ := keyR_of hk ry
        have hv := r.val h1
        cases q2 : M.dGet y kvs with
        | none => simp [M.opIx, q, hk, q2] at h; exact h.elim
        | some d =>
          simp [M.opIx, q, hk, q2] at h
          rw [q2] at hv
          obtain ⟨v, e2, rv⟩ := hv
          refine .inr ⟨a, v, rfl, ?_, Post.here h rp rv⟩
          rw [← e2]
          exact DGet.k e1
      | ins c fs => simp [M.opIx, q] at h; exact h.elim
  | _ => exact h.elim
theorem ad_len : AdN K Θ M.fLen (rLenM K) := by
  intro ρ H S xs Xs Q rp rx h
  match xs, rx, h with
  | [.str a], rx, h =>
    obtain ⟨_, _, rfl, ⟨rfl, _⟩, rfl⟩ := rx
    have h' : Post K Θ (RelD K) ρ H (if a.length ≤ M.SZ then M.R.ok (M.D.int a.length) S else .no) Q := h
    by_cases hc : a.length ≤ M.SZ
    · rw [if_pos hc] at h'
      refine .inl ⟨by rw [ofT_len, ← SZ_eq]; exact hc, ?_⟩
      rw [ofT_len]
      exact Post.here (b := V.int a.length) h' rp rfl
    · rw [if_neg hc] at h'; exact h'.elim
  | [.tup ds], rx, h =>
    obtain ⟨_, _, rfl, ⟨l, ys, rfl, hq, r⟩, rfl⟩ := rx
    exact .inl ⟨ys, .inr hq, by rw [← r.length]; exact Post.here (b := V.int ds.length) h rp rfl⟩
  | [.ro ds], rx, h =>
    obtain ⟨_, _, rfl, ⟨l, ys, rfl, hq, r⟩, rfl⟩ := rx
    exact .inl ⟨ys, .inl hq.sq, by rw [← r.length]; exact Post.here (b := V.int ds.length) h rp rfl⟩
  | [.ref p], rx, h =>
    obtain ⟨_, _, rfl, ⟨a, rfl, ea⟩, rfl⟩ := rx
    cases q : S[p]? with
    | none => simp [M.fLen, q] at h; exact h.elim
    | some o =>
      cases o with
      | lst xs =>
        simp [M.fLen, q] at h
        obtain ⟨zs, e1, r⟩ := lst_at rp ea q
        exact .inl ⟨zs, .inl (SqL.of e1), by rw [← r.length]; exact Post.here (b := V.int xs.length) h rp rfl⟩
      | dct kvs =>
        simp [M.fLen, q] at h
        obtain ⟨ks, e1, r⟩ := dct_at rp ea q
        exact .inr ⟨a, ks, rfl, e1, by rw [← Paired.length r]; exact Post.here (b := V.int kvs.length) h rp rfl⟩
      | ins c fs => simp [M.fLen, q] at h; exact h.elim
  | [.non], _, h => exact h.elim
  | [.bl _], _, h => exact h.elim
  | [.int _], _, h => exact h.elim
  | [.ty _], _, h => exact h.elim
  | [], _, h => exact h.elim
  | a :: _ :: _, _, h => cases a <;> exact h.elim
def rInM (K : PySem.W.Frag) (neg : Bool) : R2 := fun x y H Q => uIn K neg x y H Q ∨ ∃ a o, y = .ref a ∧ DGet H a x o ∧ Q (.bl (xor neg o.isSome)) H
theorem op_inM {X : Cx} {k : Nat} (hr : Room k X.A) : OpR X (compareOp .In) (rInM X.K false) := by
  refine OpR.or u_in ?_
  intro pins s σ H x y v u Q I rx ry h
  obtain ⟨a, o, rfl, g, q⟩ := h
  cases ry
  exact d_in (hu_of hr) I g rx fun s' I' => ⟨.bl o.isSome, H, I', rfl, by rw [Bool.false_xor] at q; exact q⟩
theorem op_notInM {X : Cx} {k : Nat} (hr : Room k X.A) : OpR X (compareOp .NotIn) (rInM X.K true) := by
  refine OpR.or u_notin ?_
  intro pins s σ H x y v u Q I rx ry h
  obtain ⟨a, o, rfl, g, q⟩ := h
  cases ry
  exact d_notIn (hu_of hr) I g rx fun s' I' => ⟨.bl (!o.isSome), H, I', rfl, by rw [Bool.true_xor] at q; exact q⟩
theorem flat_rel {ρ : List Addr} {H : Hp} {d : M.D} {v : V} (r : RelD K ρ H d v) : flatV v = M.flat d := by
  cases d with
  | non => cases r; rfl
  | bl _ => cases r; rfl
  | int _ => cases r; rfl
  | str _ => obtain ⟨rfl, _⟩ := r; rfl
  | ty _ => cases r; rfl
  | ref _ => obtain ⟨_, rfl, _⟩ := r; rfl
  | tup _ => obtain ⟨_, _, rfl, _⟩ := r; rfl
  | ro _ => obtain ⟨_, _, rfl, _⟩ := r; rfl
theorem eqF_rel {ρ : List Addr} {H : Hp} {d e : M.D} {v u : V} (r : RelD K ρ H d v) (q : RelD K ρ H e u) : eqV v u = M.eqF d e := by
  cases d with
  | non =>
    cases r
    cases e with
    | str _ => obtain ⟨rfl, _⟩ := q; rfl
    | ref _ => obtain ⟨_, rfl, _⟩ := q; rfl
    | tup _ => obtain ⟨_, _, rfl, _⟩ := q; rfl
    | ro _ => obtain ⟨_, _, rfl, _⟩ := q; rfl
    | _ => cases q; rfl
  | bl _ =>
    cases r
    cases e with
    | str _ => obtain ⟨rfl, _⟩ := q; rfl
    | ref _ => obtain ⟨_, rfl, _⟩ := q; rfl
    | tup _ => obtain ⟨_, _, rfl, _⟩ := q; rfl
    | ro _ => obtain ⟨_, _, rfl, _⟩ := q; rfl
    | _ => cases q; rfl
  | int _ =>
    cases r
    cases e with
    | str _ => obtain ⟨rfl, _⟩ := q; rfl
    | ref _ => obtain ⟨_, rfl, _⟩ := q; rfl
    | tup _ => obtain ⟨_, _, rfl, _⟩ := q; rfl
    | ro _ => obtain ⟨_, _, rfl, _⟩ := q; rfl
    | _ => cases q; rfl
  | str x =>
    obtain ⟨rfl, _⟩ := r
    cases e with
    | str y => obtain ⟨rfl, _⟩ := q; exact beq_ofT x y
    | ref _ => obtain ⟨_, rfl, _⟩ := q; rfl
    | tup _ => obtain ⟨_, _, rfl, _⟩ := q; rfl
    | ro _ => obtain ⟨_, _, rfl, _⟩ := q; rfl
    | _ => cases q; rfl
  | ty _ => cases r; rfl
  | ref _ => obtain ⟨_, rfl, _⟩ := r; rfl
  | tup _ => obtain ⟨_, _, rfl, _⟩ := r; rfl
  | ro _ => obtain ⟨_, _, rfl, _⟩ := r; rfl
theorem flats_rel {ρ : List Addr} {H : Hp} : ∀ {ds : List M.D} {xs : List V}, RelDs K ρ H ds xs → xs.all flatV = ds.all M.flat
  | [], _, r => by cases r; rfl
  | _ :: _, _, ⟨y, ys, e, r1, r2⟩ => by subst e; rw [List.all_cons, List.all_cons, flat_rel r1, flats_rel r2]
theorem memF_rel {ρ : List Addr} {H : Hp} {x : M.D} {v : V} (rx : RelD K ρ H x v) : ∀ {ds : List M.D} {xs : List V}, RelDs K ρ H ds xs → inV v xs = M.memF x ds
  | [], _, r => by cases r; rfl
  | _ :: _, _, ⟨y, ys, e, r1, r2⟩ => by
    subst e
    unfold inV M.memF
    rw [List.any_cons, List.any_cons, eqF_rel r1 rx]
    have := memF_rel rx r2
    unfold inV M.memF at this
    rw [this]
theorem subT_iff (a : M.T) : ∀ b : M.T, M.subT a b = true ↔ ∃ i, i + a.length ≤ b.length ∧ (b.drop i).take a.length = a
  | [] => by
    simp only [M.subT, List.isEmpty_iff]
    constructor
    · rintro rfl; exact ⟨0, by simp, by simp⟩
    · rintro ⟨i, h, e⟩
      simp at h
      exact h.2
  | c :: r => by
    simp only [M.subT, Bool.or_eq_true, subT_iff a r]
    constructor
    · rintro (h | ⟨i, h, e⟩)
      · have := List.isPrefixOf_iff_prefix.mp h
        exact ⟨0, by simpa using this.length_le, by simpa using (List.prefix_iff_eq_take.mp this).symm⟩
      · exact ⟨i + 1, by simp; omega, by simpa using e⟩
    · rintro ⟨i, h, e⟩
      cases i with
      | zero => left; exact List.isPrefixOf_iff_prefix.mpr (List.prefix_iff_eq_take.mpr (by simpa using e.symm))
      | succ i => right; exact ⟨i, by simp at h; omega, by simpa using e⟩
theorem at_iff (a b : M.T) (i : Nat) : StrLaws.At (ofT b) (ofT a) (ofT b).length i ↔ (i + a.length ≤ b.length ∧ (b.drop i).take a.length = a) := by
  unfold StrLaws.At Builtin.Str.subAt
  rw [ofT_len, ofT_len]
  refine and_congr_right fun _ => ?_
  rw [beq_iff_eq]
  constructor
  · intro h
    have := congrArg Array.toList h
    simpa [ofT, List.extract_eq_take_drop] using this
  · intro h
    apply Array.ext'
    simpa [ofT, List.extract_eq_take_drop] using h
theorem sub_occ (a b : M.T) : (!(Builtin.Str.occurrences (ofT b) (ofT a) 0 (ofT b).length 1).isEmpty) = M.subT a b := by
  rcases StrLaws.occ_head (ofT b) (ofT a) 1 (by decide) with ⟨e, h⟩ | ⟨i, r, e, h, _⟩
  · rw [e]
    have : ¬ M.subT a b = true := fun q => by
      obtain ⟨i, q⟩ := (subT_iff a b).mp q
      exact h i ((at_iff a b i).mpr q)
    simpa using this
  · rw [e]
    have := (subT_iff a b).mpr ⟨i, (at_iff a b i).mp h⟩
    simp [this]
theorem in_core {neg : Bool} {ρ : List Addr} {H : Hp} {S : M.S} {x y : M.D} {X1 Y : V} {Q : VK} (rp : RepS K Θ ρ S H) (rx : RelD K ρ H x X1) (ry : RelD K ρ H y Y) (h : Post K Θ rB ρ H (M.inD x y S) (fun b H' => Q (.bl (xor neg b)) H')) : rInM K neg X1 Y H Q := by
  have seq : ∀ {ds : List M.D} {xs : List V} {a : Addr}, (SqL K H a xs ∨ SqT K H a xs) → RelDs K ρ H ds xs → Post K Θ rB ρ H (if (M.flat x && ds.all M.flat) = true then M.R.ok (M.memF x ds) S else .no) (fun b H' => Q (.bl (xor neg b)) H') → uIn K neg X1 (.ref a) H Q := fun {ds xs a} hq r h' => by
    by_cases hc : (M.flat x && ds.all M.flat) = true
    · rw [if_pos hc] at h'
      rw [Bool.and_eq_true, ← flat_rel rx, ← flats_rel r] at hc
      have := Post.here (b := M.memF x ds) h' rp rfl
      rw [← memF_rel rx r] at this
      have g : ∃ xs, (SqL K H a xs ∨ SqT K H a xs) ∧ flatV X1 = true ∧ xs.all flatV = true ∧ Q (.bl (xor neg (inV X1 xs))) H := ⟨xs, hq, hc.1, hc.2, this⟩
      cases X1 <;> exact g
    · rw [if_neg hc] at h'; exact h'.elim
  cases y with
  | str b =>
    cases x with
    | str a =>
      obtain ⟨rfl, _⟩ := rx
      obtain ⟨rfl, _⟩ := ry
      refine .inl ?_
      show Q (.bl (xor neg (!(Builtin.Str.occurrences (ofT b) (ofT a) 0 (ofT b).length 1).isEmpty))) H
      rw [sub_occ]
      exact Post.here (b := M.subT a b) h rp rfl
    | _ => exact h.elim
  | tup ds =>
    obtain ⟨l, xs, rfl, hq, r⟩ := ry
    exact .inl (seq (.inr hq) r h)
  | ro ds =>
    obtain ⟨l, xs, rfl, hq, r⟩ := ry
    exact .inl (seq (.inl hq.sq) r h)
  | ref p =>
    obtain ⟨a, rfl, ea⟩ := ry
    cases q : S[p]? with
    | none => simp [M.inD, q] at h; exact h.elim
    | some o =>
      cases o with
      | lst ds =>
        obtain ⟨zs, e1, r⟩ := lst_at rp ea q
        refine .inl (seq (.inl (SqL.of e1)) r ?_)
        simp only [M.inD, q] at h
        exact h
      | dct kvs =>
        by_cases hk : M.keyOk x = true
        case neg => simp [M.inD, q, hk] at h; exact h.elim
        simp only [M.inD, q, if_pos hk] at h
        obtain ⟨ks, e1, r⟩ := dct_at rp ea q
        obtain ⟨k, h1, rfl⟩ := keyR_of hk rx
        have hv := r.val h1
        refine .inr ⟨a, valV ks k, rfl, DGet.k e1, ?_⟩
        have e2 : (valV ks k).isSome = (M.dGet x kvs).isSome := by
          cases q2 : M.dGet x kvs with
          | none => rw [q2] at hv; rw [hv]; rfl
          | some d => rw [q2] at hv; obtain ⟨v, e2, _⟩ := hv; rw [e2]; rfl
        rw [e2]
        exact Post.here (b := (M.dGet x kvs).isSome) h rp rfl
      | ins c fs => simp [M.inD, q] at h; exact h.elim
  | _ => exact h.elim
theorem ad_in : AdC K Θ M.cIn (rInM K false) := by
  intro ρ H S x y X1 Y Q rp rx ry h
  refine in_core rp rx ry ?_
  have h' : Post K Θ rB ρ H (M.inD x y S) (fun b H' => Q (.bl b) H') := h
  revert h'
  cases M.inD x y S with
  | ok b s => exact fun h' ρ1 H1 b' p l rp1 e => by cases e; rw [Bool.false_xor]; exact h' ρ1 H1 b p l rp1 rfl
  | exc e s => exact fun h' => h'
  | no => exact fun h' => h'
theorem ad_notIn : AdC K Θ M.cNotIn (rInM K true) := by
  intro ρ H S x y X1 Y Q rp rx ry h
  exact in_core rp rx ry (Post.bind h fun ρ1 H1 b b' S1 p1 l1 rp1 e h1 => by cases e; rw [Bool.true_xor]; exact Post.here (b := !b) h1 rp1 rfl)
theorem mt_ofw {X : Cx} {e : Expr} {m : M.TM} (h : MW X Θ e m) : MT X Θ e m := PW.pt h
theorem w_mt_ofw {X : Cx} {e : Expr} {m : M.TM} (h : WW X Θ e m) : WT X Θ e m := by with_unfolding_all exact mt_ofw (X := X) (e := e) (m := m) h
theorem pifs_yes {X : Cx} : PIfs X [] (RdT X.K Θ M.tYes) := fun pins s σ H Q I ⟨ρ, σ', S, st, rp, h⟩ => pifs_nil pins s σ H Q I (Post.here (b := true) h rp rfl)
theorem len_2 {g1 g2 : M.GM} : ∀ ds σ σ1, (M.gCons g1 (M.gCons g2 M.gNil)) ds σ = some σ1 → ds.length = 2 := fun ds σ σ1 e => by
  match ds, e with
  | [], e => cases e
  | [a], e =>
    simp [M.gCons] at e
    split at e <;> cases e
  | [a, b], _ => rfl
  | a :: b :: c :: r, e =>
    simp [M.gCons, M.gNil] at e
    split at e
    · split at e <;> cases e
    · cases e
theorem ints_rel {ρ : List Addr} {H : Hp} : ∀ ns : List Int, RelDs K ρ H (ns.map .int) (ns.map V.int)
  | [] => rfl
  | n :: ns => ⟨_, _, rfl, rfl, ints_rel ns⟩
theorem law_sp {f : M.F} (ht : ∀ ns : List Int, ns.length ≤ 63 → ∃ s, f [.ro (ns.map .int)] [] = .ok (.bl true) s) {H : Hp} {a : Addr} {ns : List Int} {E : XK} (hl : ns.length ≤ 63) (hO : Only H) (hS : SqL K H a (ns.map V.int)) : SpM K Θ 1 f [.ref a] H (fun v _ => v = .bl true) E := by
  obtain ⟨s, e⟩ := ht ns hl
  refine ⟨[], [.ro (ns.map .int)], [], rfl, ⟨_, _, rfl, ⟨a, ns.map V.int, rfl, ?_, ints_rel ns⟩, rfl⟩, ⟨rfl, List.nodup_nil, fun i o q => by simp at q⟩, ?_⟩
  · rcases hS with (h | h) | h
    · rcases hO a with z | ⟨o, xs, z⟩
      · rw [h] at z; cases z
      · rw [h] at z; cases z
    · exact .inl h
    · exact .inr h
  · rw [e]
    exact fun ρ' H' b _ _ _ r => r
end
section
variable {P : Program} {w : World} {K : PySem.W.Frag} {mg : Str → Option Value} {base : Heap} {Θ : Tab}
theorem fun_M0 {x qual : Str} {st : Stmt} {f : Addr} {fd : FuncData} {N ps : List Str} {k : Nat} {b : M.SM} (F : Fun K x qual st f fd) (Sc : FnScope N ps (defScope st))
    (hbody : ∀ (cdv : Value) (A : Around) (outer : List Env) (s : Shared) (H : Hp) (E : XK), Room k (A.deeper (envOfC qual (defScope st) s.heap.objs.size f cdv)) →
      MSs (cxOf CX0 P w K mg base N qual (defScope st) f cdv A outer s H E).nox Θ (defBody st) b) : FnOk P w K mg base CX0 (k + 1) f fd ps (SpM K Θ ps.length (M.fn N.length b)) := by
  refine F.ok (k := k) Sc (fun vs H Q E h => ?_) (fun cdv A outer s H vs Q E hr h => ?_)
  · obtain ⟨ρ, ds, S, hl, r, _⟩ := h
    rw [← r.length, hl]
  · obtain ⟨ρ, ds, S, hl, r, rp, h⟩ := h
    refine ⟨_, hbody cdv A outer s H E hr, ρ, _, S, start_rel r N, rp, ?_⟩
    have h' : Post K Θ (RelD K) ρ H (b (ds.map some ++ List.replicate (N.length - ds.length) none) S).out Q := h
    show PostS K Θ ρ H (b (ds.map some ++ List.replicate (N.length - ds.length) none) S) _
    revert h'
    cases b (ds.map some ++ List.replicate (N.length - ds.length) none) S with
    | rt a s => exact fun h' => h'
    | nx a s => exact fun h' ρ1 H1 σ1 p1 l1 rp1 _ => h' ρ1 H1 .non p1 l1 rp1 rfl
    | bk a s => exact fun h' => h'.elim
    | ct a s => exact fun h' => h'.elim
    | exc e a s => exact fun h' => h'
    | no => exact fun h' => h'
theorem w_fun_M0 {x qual : Str} {st : Stmt} {f : Addr} {fd : FuncData} {N ps : List Str} {k : Nat} {b : M.SM} (F : Fun K x qual st f fd) (Sc : FnScope N ps (defScope st))
    (hbody : ∀ (cdv : Value) (A : Around) (outer : List Env) (s : Shared) (H : Hp) (E : XK), Room k (A.deeper (envOfC qual (defScope st) s.heap.objs.size f cdv)) →
      WSs (cxOf CX0 P w K mg base N qual (defScope st) f cdv A outer s H E).nox Θ (defBody st) b) : FnOk P w K mg base CX0 (k + 1) f fd ps (SpM K Θ ps.length (M.fn N.length b)) := by with_unfolding_all exact fun_M0 (x := x) (qual := qual) (st := st) (f := f) (fd := fd) (N := N) (ps := ps) (k := k) (b := b) F Sc hbody
end
theorem bt_min : bootBuiltins "min" = some (.builtin "min") := by decide +kernel
end L2
namespace L2
open PySem PySem.Spec PyProof.Rows PySem.Builtin.Str
section
variable {K : PySem.W.Frag} {Θ : Tab}
theorem ref_lst {ρ : List Addr} {H : Hp} {S : M.S} {p : Nat} {X : V} {ds : List M.D} (rp : RepS K Θ ρ S H) (rx : RelD K ρ H (.ref p) X) (e : S[p]? = some (.lst ds)) : ∃ a xs, X = .ref a ∧ ρ[p]? = some a ∧ H a = some (.lst xs) ∧ RelDs K ρ H ds xs := by
  obtain ⟨a, rfl, ha⟩ := rx
  obtain ⟨b, hb, xs, hx, r⟩ := rp.obj p _ e
  rw [ha] at hb; cases hb
  exact ⟨a, xs, rfl, ha, hx, r⟩
theorem mut_lst {H : Hp} {a : Addr} {xs : List V} (h : H a = some (.lst xs)) : Mut (H a) := by rw [h]; trivial
theorem ad_append : AdM K Θ M.mAppend rAppend := by
  intro ρ H S x xs X Xs Q rp rx rxs h
  unfold M.mAppend at h
  split at h
  · rename_i p y
    obtain ⟨Y, r, rfl, ry, rfl⟩ := rxs
    split at h
    · rename_i ds e
      obtain ⟨a, zs, rfl, ha, hx, rz⟩ := ref_lst rp rx e
      split at h
      · rename_i hl
        have le := Le.put (mut_lst hx) (.lst (zs ++ [Y]))
        refine ⟨a, zs, Y, rfl, rfl, hx, by rw [← SZ_eq, ← rz.length]; exact hl, ?_⟩
        exact h ρ _ _ (List.prefix_refl _) le (rp.put ha (mut_lst hx) ⟨_, upd_same, (rz.mono (List.prefix_refl _) le).app ⟨_, _, rfl, ry.mono (List.prefix_refl _) le, rfl⟩⟩) rfl
      · exact h.elim
    · exact h.elim
  · exact h.elim
end
end L2
namespace L2
open PySem PySem.Spec PyProof.Rows
section
variable {Θ : Tab}
theorem PS.or {X : Cx} {st : Stmt} {t t' : TS} (h : PS X st t) (h' : PS X st t') : PS X st (fun D σ H => t D σ H ∨ t' D σ H) := fun pins s σ H D I q => by
  rcases q with q | q
  · exact h pins s σ H D I q
  · exact h' pins s σ H D I q
theorem mg_tupM {X : Cx} {es : List Expr} {g : M.GMs} {js : List Nat} {k : Nat} {pos : Pos} {n : Nat} (hc : X.calm = true) (h : MGs X Θ js es g) (hl : ∀ ds σ σ1, g ds σ = some σ1 → ds.length = n) (hn : (assignEach es X.env).length = n := by rfl) (hst : (assignEach es X.env).findIdx? (·.1) = none := by rfl) : MG X Θ js (.Tuple es k pos) (M.gTup g) :=
  mg_tup (es := es) (pg_tup hc h hn hst) hl
theorem w_mg_tupM {X : Cx} {es : List Expr} {g : M.GMs} {js : List Nat} {k : Nat} {pos : Pos} {n : Nat} (hc : X.calm = true) (h : WGs X Θ js es g) (hl : ∀ ds σ σ1, g ds σ = some σ1 → ds.length = n) (hn : (assignEach es X.env).length = n := by rfl) (hst : (assignEach es X.env).findIdx? (·.1) = none := by rfl) : WG X Θ js (.Tuple es k pos) (M.gTup g) := by with_unfolding_all exact mg_tupM (X := X) (es := es) (g := g) (js := js) (k := k) (pos := pos) (n := n) hc h hl hn hst
theorem mut_dK {H : Hp} {a : Addr} {ks : List (Key × V)} (h : H a = some (.dK ks)) : Mut (H a) := by rw [h]; trivial
theorem ms_sub {X : Cx} {o i e : Expr} {mo mi me : M.EM} {pos pos' : Pos} {n : Nat} (hr : Room n X.A) (ho : ME X Θ o mo) (hi : ME X Θ i mi) (he : ME X Θ e me)
    (ha : ∀ v, assign (.Subscript o i pos') X.env v = (do
      let ov ← holding [v] (eval o X.env)
      let iv ← holding [v, ov] (eval i X.env)
      standAt pos'
      holding [v, ov, iv] (setItem ov iv v)
      release [v, ov, iv] []) := by intro _; rfl)
    (hs : swapsWithSole [.Subscript o i pos'] e pos.line X.env = pure false := by rfl) (hw : swappedStores [.Subscript o i pos'] e X.env = pure none := by rfl) (h1 : (assignEach [.Subscript o i pos'] X.env).map (·.2) = [assign (.Subscript o i pos') X.env] := by rfl)
    (hs2 : swapsWith e (some (.Subscript o i pos')) pos.line X.env = pure false := by rfl) : MS X Θ (.Assign [.Subscript o i pos'] e pos) (M.sSub mo mi me) :=
  (PS.or (ps_asg he (pg_sub ho hi set_list ha) hs hw h1) (ps_dput (by have := hr.units; omega) ho hi he hs2)).imp fun D σ H ⟨ρ, σ', S, st, rp, h⟩ => by
    have h0 : PostS X.K Θ ρ H ((me σ' S).stm σ' fun y s => (mo σ' s).stm σ' fun x s => (mi σ' s).stm σ' fun k s => (M.setIx x k y s).stm σ' fun _ s => .nx σ' s) D := h
    clear h
    cases hE : me σ' S with
    | no => rw [hE] at h0; exact h0.elim
    | exc a s => rw [hE] at h0; exact h0.elim
    | ok y S1 =>
      rw [hE, M.R.stm_ok] at h0
      cases hO : mo σ' S1 with
      | no => rw [hO] at h0; exact h0.elim
      | exc a s => rw [hO] at h0; exact h0.elim
      | ok x S2 =>
        rw [hO, M.R.stm_ok] at h0
        cases hI : mi σ' S2 with
        | no => rw [hI] at h0; exact h0.elim
        | exc a s => rw [hI] at h0; exact h0.elim
        | ok k S3 =>
          rw [hI, M.R.stm_ok] at h0
          cases x with
          | ref p =>
            cases q : S3[p]? with
            | none => simp only [M.setIx, q] at h0; exact h0.elim
            | some ob =>
              cases ob with
              | lst xs =>
                cases k with
                | int j =>
                  cases hj : M.ixN xs.length j with
                  | none => simp only [M.setIx, q, hj] at h0; exact h0.elim
                  | some j' =>
                    simp only [M.setIx, q, hj, M.R.stm_ok] at h0
                    refine .inl ⟨ρ, σ', S, st, rp, ?_⟩
                    rw [hE]
                    intro ρ1 H1 Y p1 l1 rp1 ry
                    refine ⟨ρ1, σ', S1, st.mono p1 l1, rp1, ?_⟩
                    rw [hO]
                    intro ρ2 H2 Xv p2 l2 rp2 rx
                    refine ⟨ρ2, σ', S2, st.mono (p1.trans p2) (l1.trans l2), rp2, ?_⟩
                    rw [hI]
                    intro ρ3 H3 Kv p3 l3 rp3 rk
                    obtain ⟨a, zs, rfl, ha, hx, rz⟩ := ref_lst rp3 (rx.mono p3 l3) q
                    cases rk
                    have le := Le.put (mut_lst hx) (.lst (zs.set j' Y))
                    refine ⟨a, zs, j, j', rfl, rfl, hx, by rw [← rz.length]; exact hj, ?_⟩
                    exact h0 ρ3 _ σ (p1.trans (p2.trans p3)) (l1.trans (l2.trans (l3.trans le))) (rp3.put ha (mut_lst hx) ⟨_, upd_same, RelDs.set (ry.mono (p2.trans p3) (l2.trans (l3.trans le))) j' (rz.mono (List.prefix_refl _) le)⟩) (st.mono (p1.trans (p2.trans p3)) (l1.trans (l2.trans (l3.trans le))))
                | _ => simp only [M.setIx, q] at h0; exact h0.elim
              | dct kvs =>
                cases hk : (M.keyOk k && decide (kvs.length < M.SZ)) with
                | false => simp only [M.setIx, q, hk] at h0; exact h0.elim
                | true =>
                  have hk2 : (if (M.keyOk k && decide (kvs.length < M.SZ)) = true then M.R.ok () (S3.set p (.dct (M.dPut k y kvs))) else .no) = M.R.ok () (S3.set p (.dct (M.dPut k y kvs))) := if_pos hk
                  simp only [M.setIx, q, hk2, M.R.stm_ok] at h0
                  rw [Bool.and_eq_true] at hk
                  refine .inr ⟨ρ, σ', S, st, rp, ?_⟩
                  rw [hE]
                  intro ρ1 H1 Y p1 l1 rp1 ry
                  refine ⟨ρ1, σ', S1, st.mono p1 l1, rp1, ?_⟩
                  rw [hO]
                  intro ρ2 H2 Xv p2 l2 rp2 rx
                  refine ⟨ρ2, σ', S2, st.mono (p1.trans p2) (l1.trans l2), rp2, ?_⟩
                  rw [hI]
                  intro ρ3 H3 Kv p3 l3 rp3 rk
                  obtain ⟨a, rfl, ea⟩ := rx.mono p3 l3
                  obtain ⟨b, e1, ks, e2, r⟩ := rp3.obj _ _ q
                  rw [ea] at e1; cases e1
                  obtain ⟨kk, hkk, rfl⟩ := keyR_of hk.1 rk
                  have le := Le.put (mut_dK e2) (.dK (putK ks kk Y))
                  refine ⟨a, _, rfl, DPut.k e2 (by rw [← Paired.length r, ← SZ_eq]; exact of_decide_eq_true hk.2), ?_⟩
                  have r' : DR X.K ρ3 (upd H3 a (.dK (putK ks kk Y))) kvs ks := Paired.mapP r fun a b z => ⟨z.1, z.2.mono (List.prefix_refl _) le⟩
                  exact h0 ρ3 _ σ (p1.trans (p2.trans p3)) (l1.trans (l2.trans (l3.trans le))) (rp3.put ea (mut_dK e2) ⟨_, upd_same, DR.put r' hkk (ry.mono (p2.trans p3) (l2.trans (l3.trans le)))⟩) (st.mono (p1.trans (p2.trans p3)) (l1.trans (l2.trans (l3.trans le))))
              | ins c fs => simp only [M.setIx, q] at h0; exact h0.elim
          | _ => exact h0.elim
theorem w_ms_sub {X : Cx} {o i e : Expr} {mo mi me : M.EM} {pos pos' : Pos} {n : Nat} (hr : Room n X.A) (ho : WE X Θ o mo) (hi : WE X Θ i mi) (he : WE X Θ e me)
    (ha : ∀ v, assign (.Subscript o i pos') X.env v = (do
      let ov ← holding [v] (eval o X.env)
      let iv ← holding [v, ov] (eval i X.env)
      standAt pos'
      holding [v, ov, iv] (setItem ov iv v)
      release [v, ov, iv] []) := by intro _; rfl)
    (hs : swapsWithSole [.Subscript o i pos'] e pos.line X.env = pure false := by rfl) (hw : swappedStores [.Subscript o i pos'] e X.env = pure none := by rfl) (h1 : (assignEach [.Subscript o i pos'] X.env).map (·.2) = [assign (.Subscript o i pos') X.env] := by rfl)
    (hs2 : swapsWith e (some (.Subscript o i pos')) pos.line X.env = pure false := by rfl) : WS X Θ (.Assign [.Subscript o i pos'] e pos) (M.sSub mo mi me) := by with_unfolding_all exact ms_sub (X := X) (o := o) (i := i) (e := e) (mo := mo) (mi := mi) (me := me) (pos := pos) (pos' := pos') (n := n) hr ho hi he ha hs hw h1 hs2
end
end L2
namespace L2
open PySem PySem.Spec PyProof.Rows
section
variable {K : PySem.W.Frag} {Θ : Tab}
theorem vals_get : ∀ {xs : List V} {us : List Value}, xs.length = us.length → (∀ (j : Nat) u, us[j]? = some u → ∃ x, xs[j]? = some x ∧ RelV x u) → Vals xs us
  | [], [], _, _ => .nil
  | [], _ :: _, h, _ => by simp at h
  | _ :: _, [], h, _ => by simp at h
  | x :: xs, u :: us, h, k => by
    obtain ⟨y, e, r⟩ := k 0 u rfl
    cases e
    exact .cons r (vals_get (by simpa using h) fun j u hu => by
      obtain ⟨y, e, r⟩ := k (j + 1) u (by simpa using hu)
      exact ⟨y, by simpa using e, r⟩)
theorem kV_rel {P : Program} {w : World} {k : Key} {v : Value} (h : (mixKind P w).is k v = true) : RelV (kV k) v := by
  rcases keyIs_shape (k := k) (v := v) h with ⟨i, t, rfl, rfl⟩ | ⟨x, t, rfl, rfl⟩
  · exact ⟨t, rfl⟩
  · exact ⟨t, rfl⟩
def rListM (K : PySem.W.Frag) : List V → Hp → VK → Prop := fun xs H Q => (∃ p ys, xs = [.ref p] ∧ (SqL K H p ys ∨ SqT K H p ys) ∧ ∀ l, H l = none → Q (.ref l) (upd H l (.lst ys))) ∨
  ∃ p ks, xs = [.ref p] ∧ H p = some (.dK ks) ∧ ∀ l, H l = none → Q (.ref l) (upd H l (.lst (ks.map fun kv => kV kv.1)))
theorem call_listM {X : Cx} {k : Nat} (hr : Room k X.A) : CallR X (.type "list") (rListM X.K) := by
  intro pins s σ H xs us Q I r h
  rcases h with h | ⟨p, ks, rfl, hp, q⟩
  · exact call_list_of pins s σ H xs us Q I r h
  · obtain ⟨u, rfl, ru⟩ := vals1 r
    cases ru
    obtain ⟨z, lo, vs, rv, dd⟩ := dk_of I.hok hp
    obtain ⟨ep, da⟩ := dd.dictAt
    have hl := rv.length
    refine wpAny_with_toks (n := 1) I.tk (PySem.W.kdl_call (PySem.W.kdl_dict lo) hr.hd da (by omega) fun h' tk acc c' keep hS it htk => ?_)
    obtain ⟨hsz, hit⟩ := it
    refine ⟨.ref s.heap.objs.size, _, I.laid (t' := tk) (o := .lst (ks.map fun kv => kV kv.1)) keep (Nat.le_refl _) ⟨by rw [List.length_map]; exact z, acc.toList, c', vals_get (by simp; omega) fun j u hu => ?_, by simpa using hS⟩ htk, rfl, q _ (I.hok.fresh (Nat.le_refl _))⟩
    obtain ⟨k, x, e, hk⟩ := hit j u (by simpa using hu)
    have hj : j < ks.length := by have := (List.getElem?_eq_some_iff.mp e).1; omega
    have ek : (ks.map (·.1))[j]? = some k := by rw [rv.keys, List.getElem?_map, e]; rfl
    refine ⟨kV k, ?_, kV_rel hk⟩
    rw [List.getElem?_map] at ek ⊢
    cases q2 : ks[j]? with
    | none => rw [q2] at ek; cases ek
    | some kv => rw [q2] at ek; cases ek; rfl
theorem keys_rel {ρ : List Addr} {H : Hp} : ∀ {kvs : List (M.D × M.D)} {ks : List (Key × V)}, DR K ρ H kvs ks → RelDs K ρ H (kvs.map (·.1)) (ks.map fun kv => kV kv.1)
  | _, _, .nil => rfl
  | (d, _) :: _, (k, _) :: _, .cons h t => by
    refine ⟨_, _, rfl, ?_, keys_rel t⟩
    have h1 : KeyR d k := h.1
    cases d with
    | int i => cases h1; rfl
    | str x => obtain ⟨rfl, ok⟩ := h1; exact ⟨rfl, ok⟩
    | _ => exact h1.elim
theorem ad_list : AdN K Θ M.fList (rListM K) := by
  intro ρ H S xs Xs Q rp rxs h
  unfold M.fList at h
  split at h
  · obtain ⟨Y, r, rfl, ⟨a, zs, rfl, hq, rz⟩, rfl⟩ := rxs
    exact .inl ⟨a, zs, rfl, .inr hq, fun p hp => Post.alloc h rp rz hp⟩
  · obtain ⟨Y, r, rfl, ⟨a, zs, rfl, hq, rz⟩, rfl⟩ := rxs
    exact .inl ⟨a, zs, rfl, .inl hq.sq, fun p hp => Post.alloc h rp rz hp⟩
  · rename_i p
    obtain ⟨Y, r, rfl, ry, rfl⟩ := rxs
    split at h
    · rename_i ds e
      obtain ⟨a, zs, rfl, ha, hx, rz⟩ := ref_lst rp ry e
      exact .inl ⟨a, zs, rfl, .inl (SqL.of hx), fun p hp => Post.alloc h rp rz hp⟩
    · rename_i kvs e
      obtain ⟨a, rfl, ha⟩ := ry
      obtain ⟨ks, e2, r⟩ := dct_at rp ha e
      exact .inr ⟨a, ks, rfl, e2, fun p hp => Post.alloc h rp (keys_rel r) hp⟩
    · exact h.elim
  · exact h.elim
theorem alloc_dct {ρ : List Addr} {H : Hp} {S : M.S} {kvs : List (M.D × M.D)} {ks : List (Key × V)} {Q : VK} (h : Post K Θ (RelD K) ρ H (M.alloc (.dct kvs) S) Q) (rp : RepS K Θ ρ S H) (r : DR K ρ H kvs ks) {p : Addr} (hp : H p = none) : Q (.ref p) (upd H p (.dK ks)) :=
  h (ρ ++ [p]) _ _ (List.prefix_append _ _) (Le.new hp _) (rp.alloc hp ⟨ks, upd_same, Paired.mapP r fun _ _ z => ⟨z.1, z.2.mono (List.prefix_append _ _) (Le.new hp _)⟩⟩) ⟨p, rfl, by rw [← rp.len]; simp⟩
theorem me_dnew {X : Cx} {pos : Pos} : ME X Θ (.Dict [] [] pos) M.eDict0 := pe_dnewK.imp fun σ H Q ⟨ρ, σ', S, st, rp, h⟩ => fun p hp => alloc_dct (kvs := []) h rp .nil hp
theorem w_me_dnew {X : Cx} {pos : Pos} : WE X Θ (.Dict [] [] pos) M.eDict0 := by with_unfolding_all exact me_dnew (X := X) (pos := pos)
def bestS {α : Type} (c : α → α → Bool) (y : α) (ys : List α) : α := ys.foldl (fun b z => if c z b then z else b) y
theorem arg_best {α : Type} (c : α → α → Bool) (y : α) (ys : List α) : ∀ k, k ≤ ys.length → (y :: ys).getD (argBest (fun i j => c ((y :: ys).getD i y) ((y :: ys).getD j y)) k) y = bestS c y (ys.take k)
  | 0, _ => rfl
  | k + 1, h => by
    have ih := arg_best c y ys k (by omega)
    have e : ys.take (k + 1) = ys.take k ++ [(y :: ys).getD (k + 1) y] := by
      rw [List.take_succ, List.getElem?_eq_getElem (by omega)]
      simp [List.getD_eq_getElem?_getD, show k < ys.length by omega]
    rw [e]
    unfold bestS at ih ⊢
    rw [List.foldl_append, ← ih]
    show (y :: ys).getD (if c ((y :: ys).getD (k + 1) y) ((y :: ys).getD (argBest _ k) y) then k + 1 else argBest _ k) y = _
    split
    · rename_i hc; simp only [List.foldl_cons, List.foldl_nil]; rw [if_pos hc]
    · rename_i hc; simp only [List.foldl_cons, List.foldl_nil]; rw [if_neg hc]
theorem vals_at {ys : List Str} {its : List Value} (r : Vals (ys.map V.str) its) {i : Nat} {v : Value} (h : its[i]? = some v) (d : Str) : ∃ t, v = .str (ys.getD i d) t := by
  have hl := r.length
  have hi : i < its.length := (List.getElem?_eq_some_iff.mp h).1
  rw [List.length_map] at hl
  obtain ⟨u, hu, ru⟩ := r.get (i := i) (x := V.str (ys.getD i d)) (by rw [List.getElem?_map, List.getD_eq_getElem?_getD, List.getElem?_eq_getElem (by omega)]; rfl)
  rw [h] at hu
  cases hu
  exact ru
def rBest (K : PySem.W.Frag) (c : Str → Str → Bool) : List V → Hp → VK → Prop := fun xs H Q => ∃ p y ys, xs = [.ref p] ∧ SqL K H p ((y :: ys).map V.str) ∧ Q (.str (bestS c y ys)) H
def ltS (x y : Str) : Bool := decide (x.cps.toList < y.cps.toList)
theorem call_minM {X : Cx} {k : Nat} (hr : Room k X.A) : CallR X (.builtin "min") (rBest X.K ltS) := by
  intro pins s σ H xs us Q I r h
  obtain ⟨p, y, ys, rfl, hq, q⟩ := h
  obtain ⟨u, rfl, ru⟩ := vals1 r
  cases ru
  obtain ⟨its, rv, pl, hz⟩ := I.list hq
  have hlen : its.length = ys.length + 1 := by have := rv.length; simp at this; omega
  obtain ⟨o, ho, ho2⟩ := pl.isList
  have hlt : p < s.heap.objs.size := Heap.lt_size ho
  refine wpAny_with_toks (n := 1) I.tk (call_min_walk (wpAny_pyIter_list pl.isList ?_))
  refine ⟨s.heap.objs.size, _, _, _, _, _, fun i j => ltS ((y :: ys).getD i y) ((y :: ys).getD j y), rfl, Walks.list (show X.A.in1.handled = none from hr.hd) s.heap.objs.size p (Nat.ne_of_lt hlt) its.toArray, ⟨⟨_, Heap.get?_push_size _ rfl, rfl, rfl⟩, pl.isList.push _⟩, ?_, by simp [hlen], ?_, fun v h' tk hP hk htk => ?_⟩
  · intro b hb
    rw [Heap.size_push]
    rcases List.mem_cons.mp hb with rfl | hb
    · exact Nat.lt_succ_self _
    · have : b = p := by simpa using hb
      rw [this]; exact Nat.lt_succ_of_lt hlt
  · intro i j vi vj s' Q' E' hi hj hQ
    obtain ⟨t, rfl⟩ := vals_at rv (v := vi) (by simpa using hi) y
    obtain ⟨t', rfl⟩ := vals_at rv (v := vj) (by simpa using hj) y
    exact lt_str hQ
  · have hk' : ∀ b o, s.heap.get? b = some o → h'.get? b = some o := fun b o e => hk b o (by simpa using Nat.ne_of_lt (Heap.lt_size e)) (Heap.get?_push_of_some _ e)
    obtain ⟨t, rfl⟩ := vals_at rv (v := v) (i := argBest (fun i j => ltS ((y :: ys).getD i y) ((y :: ys).getD j y)) (its.toArray.size - 1)) (by rw [← List.getElem?_toArray]; exact hP) y
    refine ⟨.str (bestS ltS y ys), H, I.kept hk' htk, ⟨t, ?_⟩, q⟩
    rw [show its.toArray.size - 1 = ys.length by simp [hlen], arg_best ltS y ys ys.length (Nat.le_refl _), List.take_length]
theorem bestS_eq {c : Str → Str → Bool} {d : M.T → M.T → Bool} (h : ∀ x y, c (ofT x) (ofT y) = d x y) : ∀ (ys : List M.T) (y : M.T), bestS c (ofT y) (ys.map ofT) = ofT (ys.foldl (fun b z => if d z b then z else b) y)
  | [], y => rfl
  | z :: ys, y => by
    have ih := bestS_eq h ys
    unfold bestS at ih ⊢
    rw [List.map_cons, List.foldl_cons, List.foldl_cons, h]
    split
    · exact ih z
    · exact ih y
theorem ok_fold {f : M.T → M.T → Bool} : ∀ (ys : List M.T) (y : M.T), okT y → (∀ t ∈ ys, okT t) → okT (ys.foldl (fun b z => if f z b then z else b) y)
  | [], _, h, _ => h
  | z :: ys, y, h, k => by
    rw [List.foldl_cons]
    refine ok_fold ys _ ?_ fun t ht => k t (List.mem_cons_of_mem _ ht)
    split
    · exact k z List.mem_cons_self
    · exact h
theorem ad_min : AdN K Θ M.fMin1 (rBest K ltS) := by
  intro ρ H S xs Xs Q rp rxs h
  unfold M.fMin1 M.fLst at h
  split at h
  · rename_i p
    obtain ⟨Y, r, rfl, ry, rfl⟩ := rxs
    split at h
    · rename_i ds e
      have e' : S[p]? = some (.lst ds) := by
        unfold M.lstAt at e
        split at e
        · rename_i ds' e1; cases e; exact e1
        · cases e
      obtain ⟨a, zs, rfl, ha, hx, rz⟩ := ref_lst rp ry e'
      unfold M.kMin at h
      split at h
      · rename_i ts et
        obtain ⟨rfl, hok⟩ := texts_rel et rz
        split at h
        · rename_i y ey
          cases ts with
          | nil => cases ey
          | cons t ts =>
            cases ey
            refine ⟨a, ofT t, ts.map ofT, rfl, SqL.of hx, ?_⟩
            rw [bestS_eq (d := fun x y => decide (x < y)) (fun x y => by unfold ltS; rw [ofT_list, ofT_list])]
            have e3 : (ts.foldl (fun b z => if (fun x y => decide (x < y)) z b then z else b) t) = ts.foldl (fun b y => if y < b then y else b) t := by
              congr 1
              funext b z
              simp
            refine Post.here h rp ⟨by rw [e3], ?_⟩
            have := ok_fold (f := fun x y => decide (x < y)) ts t (hok t (by simp)) fun u hu => hok u (by simp [hu])
            rwa [e3] at this
        · exact h.elim
      · exact h.elim
    · exact h.elim
  · exact h.elim
def rIndex (K : PySem.W.Frag) : V → List V → Hp → VK → Prop := fun x vs H Q => ∃ p xs y j, x = .ref p ∧ vs = [y] ∧ SqL K H p xs ∧ flatV y = true ∧ xs.all flatV = true ∧ j < xs.length ∧ (∀ z, xs[j]? = some z → eqV z y = true) ∧ (∀ m z, m < j → xs[m]? = some z → eqV z y = false) ∧ Q (.int (j : Nat)) H
theorem mt_indexM {X : Cx} : MtR X "list.index" (rIndex X.K) := by
  intro pins s σ H x vs v us Q I rx rv h
  obtain ⟨p, xs, y, j, rfl, rfl, hq, fy, fs, hj, hit, hno, q⟩ := h
  cases rx
  obtain ⟨u, rfl, ru⟩ := vals1 rv
  obtain ⟨its, r, pl, hz⟩ := I.list hq
  have hlen := r.length
  obtain ⟨⟨c, dct, dt, sl⟩, hl, hc, n, hd⟩ := pl.isList
  replace hc : c = .type "list" := hc
  replace hd : dt = .seq its.toArray n := hd
  subst hc hd
  have hE : ∀ (m : Nat) (hm : m < its.toArray.size), ∃ z, xs[m]? = some z ∧ eqU y its.toArray[m] = eqV z y := fun m hm => by
    have hm' : m < xs.length := by simp at hm; omega
    obtain ⟨w, hw, rw'⟩ := r.get (i := m) (x := xs[m]) (by simp [hm'])
    have e : its.toArray[m] = w := by
      have := (List.getElem?_eq_some_iff.mp hw).2
      simpa using this
    refine ⟨xs[m], by simp [hm'], ?_⟩
    rw [e]
    exact eqU_of rw' (List.all_eq_true.mp fs _ (List.getElem_mem hm'))
  refine call_meets F.slot_list_index ⟨_, hl, rfl⟩ F.entry_list_index (F.args_list_index_2 _ _) (SeqAt.list_indexAt p its.toArray n dct sl u (eqU y) j (by simp; omega) (by have : sizeLine < 2 ^ 62 := by decide
                                                                                                                                                                            omega) ?_ ?_) ⟨hl, fun w hw => mem_eqAt ru fy r fs w (by simpa using hw), ⟨.int (j : Nat), H, I.tok _, ⟨_, rfl⟩, q⟩⟩
  · obtain ⟨z, e1, e2⟩ := hE j (by simp; omega)
    rw [e2]; exact hit z e1
  · intro m hm hmj
    obtain ⟨z, e1, e2⟩ := hE m hm
    rw [e2]; exact hno m z hmj e1
theorem idx_of {K : PySem.W.Frag} {ρ : List Addr} {H : Hp} {x : M.D} {X1 : V} (rx : RelD K ρ H x X1) (fx : M.flat x = true) : ∀ {ds : List M.D} {xs : List V} {j : Nat}, RelDs K ρ H ds xs → ds.all M.flat = true → M.idxF x ds = some j →
    j < xs.length ∧ (∀ z, xs[j]? = some z → eqV z X1 = true) ∧ ∀ m z, m < j → xs[m]? = some z → eqV z X1 = false
  | [], _, _, _, _, e => by cases e
  | d :: ds, _, j, ⟨y, ys, rfl, ry, r⟩, f, e => by
    rw [List.all_cons, Bool.and_eq_true] at f
    have he : eqV y X1 = M.eqF d x := eqF_rel ry rx
    unfold M.idxF at e
    split at e
    · rename_i h
      cases e
      refine ⟨by simp, fun z hz => ?_, fun m z hm => by omega⟩
      simp at hz
      subst hz
      rw [he]; exact h
    · rename_i h
      cases q : M.idxF x ds with
      | none => rw [q] at e; cases e
      | some j' =>
        rw [q] at e
        have e2 : some (j' + 1) = some j := e
        cases e2
        obtain ⟨h1, h2, h3⟩ := idx_of rx fx r f.2 q
        refine ⟨by simp; omega, fun z hz => h2 z (by simpa using hz), fun m z hm hz => ?_⟩
        cases m with
        | zero =>
          simp at hz
          subst hz
          rw [he]
          exact Bool.eq_false_iff.mpr h
        | succ m => exact h3 m z (by omega) (by simpa using hz)
theorem ad_index : AdM K Θ M.mIndex (rIndex K) := by
  intro ρ H S x xs X Xs Q rp rx rxs h
  unfold M.mIndex at h
  split at h
  · rename_i p y
    obtain ⟨Y, r, rfl, ry, rfl⟩ := rxs
    split at h
    · rename_i ds e
      have e' : S[p]? = some (.lst ds) := by
        unfold M.lstAt at e
        split at e
        · rename_i ds' e1; cases e; exact e1
        · cases e
      obtain ⟨a, zs, rfl, ha, hx, rz⟩ := ref_lst rp rx e'
      split at h
      · rename_i hf
        rw [Bool.and_eq_true] at hf
        split at h
        · rename_i j ej
          obtain ⟨h1, h2, h3⟩ := idx_of ry hf.1 rz hf.2 ej
          exact ⟨a, zs, Y, j, rfl, rfl, SqL.of hx, (flat_rel ry).trans hf.1, (flats_rel rz).trans hf.2, h1, h2, h3, Post.here h rp rfl⟩
        · exact h.elim
      · exact h.elim
    · exact h.elim
  · exact h.elim
end
end L2
namespace L2
open PySem PySem.Spec PyProof.Rows
section
variable {P : Program} {w : World} {A : Around} {E : Value → Shared → Prop} {s : Shared}
theorem tnext_item {it t : Addr} {i : Nat} {xs : Array Value} {x : Value} {Q : Value → Shared → Prop} (hi : s.heap.IsTupleIter it t i) (ht : s.heap.IsTuple t xs) (hx : xs[i]? = some x)
    (q : ∀ h', h'.IsTupleIter it t (i + 1) → Heap.SameBut it s.heap h' → Q x { s with heap := h' }) : wpAny (model P w) A (Builtin.SmallTypes.nextOf (.ref it)) Q E s := by
  obtain ⟨oi, gi, ci, di⟩ := id hi
  obtain ⟨ot, gt, _, nt, dt⟩ := ht
  unfold Builtin.SmallTypes.nextOf
  refine wpAny_bind (wpAny_callSpecial?_slot (name := Str.ofString "__next__") hi.typeIs PySem.F.slot_tuple_iterator_next (wpAny_call_entry PySem.F.slot_tuple_iterator_next hi.typeIs PySem.F.entry_tuple_iterator_next ?_ (PySem.F.args_tuple_iterator_next_1 _)))
  show wpAny (model P w) _ (field (.ref it) 0 >>= _) _ _ s
  refine wpAny_bind (wpAny_field gi di (x := .ref t) rfl ?_)
  rw [if_neg (show ¬ ((Value.ref t == Value.none) = true) from Bool.false_ne_true)]
  show wpAny (model P w) _ (field (.ref it) 1 >>= _) _ _ s
  refine wpAny_bind (wpAny_field gi di (x := .int i 0) rfl ?_)
  refine wpAny_bind (wpAny_seqItems gt dt ?_)
  simp only [Int.toNat_natCast, hx]
  refine wpAny_bind (wpAny_setField gi di (by simp) (wpAny_pure ⟨x, rfl, wpAny_pure (q _ ?_ (Heap.SameBut.update ..))⟩))
  refine ⟨_, Heap.get?_update_self _ gi (Obj.isFreed_of_fields (Obj.data_mapFields di _)), (Obj.cls_mapFields ..).trans ci, ?_⟩
  rw [Obj.data_mapFields di]; simp [rawInt]
theorem tnext_end {it t : Addr} {i : Nat} {xs : Array Value} {Q : Value → Shared → Prop} (hh : A.handled = none) (hi : s.heap.IsTupleIter it t i) (ht : s.heap.IsTuple t xs) (hx : xs[i]? = none)
    (q : ∀ h' e, Heap.ExtBut it s.heap h' → (∃ o, h'.get? e = some o ∧ o.cls = .type "StopIteration") → E (.ref e) { s with heap := h' }) : wpAny (model P w) A (Builtin.SmallTypes.nextOf (.ref it)) Q E s := by
  obtain ⟨oi, gi, ci, di⟩ := id hi
  obtain ⟨ot, gt, _, nt, dt⟩ := ht
  unfold Builtin.SmallTypes.nextOf
  refine wpAny_bind (wpAny_callSpecial?_slot (name := Str.ofString "__next__") hi.typeIs PySem.F.slot_tuple_iterator_next (wpAny_call_entry PySem.F.slot_tuple_iterator_next hi.typeIs PySem.F.entry_tuple_iterator_next ?_ (PySem.F.args_tuple_iterator_next_1 _)))
  show wpAny (model P w) _ (field (.ref it) 0 >>= _) _ _ s
  refine wpAny_bind (wpAny_field gi di (x := .ref t) rfl ?_)
  rw [if_neg (show ¬ ((Value.ref t == Value.none) = true) from Bool.false_ne_true)]
  show wpAny (model P w) _ (field (.ref it) 1 >>= _) _ _ s
  refine wpAny_bind (wpAny_field gi di (x := .int i 0) rfl ?_)
  refine wpAny_bind (wpAny_seqItems gt dt ?_)
  simp only [Int.toNat_natCast, hx]
  refine wpAny_bind (wpAny_rule (wpAny_bind (wpAny_setField gi di (by simp) ?_)))
  show wpAny (model P w) _ (newExc (.type "StopIteration") [] >>= _) _ _ _
  refine wpAny_bind ?_
  simp only [newExc, newTuple]
  refine wpAny_bind (wpAny_newObj_type ?_ (by size_fits))
  refine wpAny_bind (m := firstArgMember _ _) (wpAny_of_eq (a := Value.none) (by first | rfl | (simp only [firstArgMember]; rfl)) ?_)
  refine wpAny_newObj_type ?_ (by size_fits)
  simp only [raiseNew]
  refine wpAny_bind (wpAny_handled ?_)
  first | rw [show A.in1.handled = none from hh] | rw [hh]
  refine wpAny_bind (wpAny_pure (wpAny_throw ?_))
  exact q _ _ (((Heap.SameBut.update ..).extBut.push _).push _) ⟨_, Heap.get?_push_size _ rfl, rfl⟩
def ZipF (h : Heap) (z TI TO : Addr) (f0 : Value) (b : Bool) : Prop := h.get? z = some { cls := .type "zip", dict := none, data := .fields #[f0, .bool b, .bool false, .ref TI, .ref TO], slots := #[] }
structure ZSt (z TI TO i1 i2 l1 l2 : Addr) (xs ys : Array Value) (i : Nat) (h : Heap) : Prop where
  zp : ∃ f0 b, ZipF h z TI TO f0 b ∧ ((i = 0 ∧ f0 = .none) ∨ ∃ (T : Addr) (o : Obj), f0 = rawInt T ∧ h.get? T = some o)
  ti : IsPair h TI (.ref i1) (.ref i2)
  to : ∃ a b, IsPair h TO a b
  n1 : h.IsTupleIter i1 l1 i
  n2 : h.IsTupleIter i2 l2 i
  t1 : h.IsTuple l1 xs
  t2 : h.IsTuple l2 ys
theorem upd_pair {T : Addr} {a b x : Value} {k : Nat} {Q : Unit → Shared → Prop} (hT : IsPair s.heap T a b) (q : ∀ h', h'.get? T = some { cls := .type "tuple", data := .seq ((#[a, b] : Array Value).setIfInBounds k x) } → Heap.SameBut T s.heap h' → Q () { s with heap := h' }) :
    wpAny (model P w) A (updateSeq T (·.setIfInBounds k x)) Q E s := wpAny_updateSeq_pair hT q
structure ZLp (lo z TO i1 i2 S : Addr) (xs ys : List Value) (h0 h : Heap) (ps : List Addr) : Prop where
  its : ∀ (j : Nat) p, ps[j]? = some p → lo ≤ p ∧ ∃ x y, xs[j]? = some x ∧ ys[j]? = some y ∧ IsPair h p x y
  keep : ∀ b o, b ≠ S → b ≠ z → b ≠ TO → b ≠ i1 → b ≠ i2 → h0.get? b = some o → h.get? b = some o
  nd : ps.Nodup
theorem bt_zip : bootBuiltins "zip" = some (.type "zip") := by decide +kernel
end
end L2
namespace L2
open PySem PySem.Spec PyProof.Rows
inductive Lays : Hp → List (V × V) → List V → Hp → Prop
  | nil (H : Hp) : Lays H [] [] H
  | cons {H H' : Hp} {a : Addr} {x y : V} {r : List (V × V)} {zs : List V} (h : H a = none) (t : Lays (upd H a (.tup [x, y])) r zs H') : Lays H ((x, y) :: r) (.ref a :: zs) H'
end L2
namespace L2
open PySem PySem.Spec PyProof.Rows
section
variable {K : PySem.W.Frag} {Θ : Tab}
def rTupM (K : PySem.W.Frag) : List V → Hp → VK → Prop := fun xs H Q => ∃ p ys, xs = [.ref p] ∧ ((SqL K H p ys ∧ ∀ l, H l = none → Q (.ref l) (upd H l (.tup ys))) ∨ (SqT K H p ys ∧ Q (.ref p) H))
theorem call_tupleM {X : Cx} : CallR X (.type "tuple") (rTupM X.K) := call_tuple_of
theorem ad_tuple : AdN K Θ M.fTuple (rTupM K) := by
  intro ρ H S xs Xs Q rp rxs h
  unfold M.fTuple at h
  split at h
  · rename_i ds
    obtain ⟨Y, r, rfl, ry, rfl⟩ := rxs
    obtain ⟨a, zs, rfl, hq, rz⟩ := id ry
    exact ⟨a, zs, rfl, .inr ⟨hq, Post.here h rp ry⟩⟩
  · rename_i p
    obtain ⟨Y, r, rfl, ry, rfl⟩ := rxs
    split at h
    · rename_i ds e
      have e' : S[p]? = some (.lst ds) := by
        unfold M.lstAt at e
        split at e
        · rename_i ds' e1; cases e; exact e1
        · cases e
      obtain ⟨a, zs, rfl, ha, hx, rz⟩ := ref_lst rp ry e'
      exact ⟨a, zs, rfl, .inl ⟨SqL.of hx, fun l hl => h ρ _ _ (List.prefix_refl _) (Le.new hl _) (rp.aside hl _) ⟨l, zs, rfl, .inl (.inl upd_same), rz.mono (List.prefix_refl _) (Le.new hl _)⟩⟩⟩
    · exact h.elim
  · exact h.elim
end
end L2
namespace L2
open PySem PySem.Spec PyProof.Rows
structure ClsM (K : PySem.W.Frag) (Θ : Tab) (c : Nat) (C : Addr) (N : List Str) : Prop where
  tab : Θ c = some (C, N)
  cl : Cls K C
  no : ∀ f ∈ N, NoAttr K C f
  few : N.length < 999
  nd : N.Nodup
structure HasM (P : Program) (w : World) (K : PySem.W.Frag) (mg : Str → Option Value) (base : Heap) (C : Addr) (m : Str) (k : Nat) (ps : List Str) (sp : Sp) : Prop where
  ex : ∃ f fd, FnOk P w K mg base CX0 k f fd ps sp ∧ Binds K fd ps [] ∧ Meth K C m f
structure HasC (P : Program) (w : World) (K : PySem.W.Frag) (mg : Str → Option Value) (base : Heap) (C : Addr) (x : Str) (k : Nat) (ps : List Str) (sp : Sp) : Prop where
  ex : ∃ f fd, FnOk P w K mg base CX0 k f fd ps sp ∧ Binds K fd ps [] ∧ Mk K C f ∧ mg x = some (.ref C)
end L2
namespace L2
open PySem PySem.Spec PyProof.Rows
def SIt (b : Bool) (h : Heap) (it a : Addr) (i : Nat) : Prop := match b with | true => h.IsListIter it a i | false => h.IsTupleIter it a i
def SSq (b : Bool) (h : Heap) (a : Addr) (xs : Array Value) : Prop := match b with | true => h.IsList a xs | false => h.IsTuple a xs
theorem SIt.at {b : Bool} {h h' : Heap} {it a : Addr} {i : Nat} (x : SIt b h it a i) (e : ∀ o, h.get? it = some o → h'.get? it = some o) : SIt b h' it a i := match b, x with | true, x => Heap.IsListIter.at x e | false, x => Heap.IsTupleIter.at x e
theorem SIt.ex {b : Bool} {h h' : Heap} {it a c : Addr} {i : Nat} (x : SIt b h it a i) (e : Heap.SameBut c h h') (n : it ≠ c) : SIt b h' it a i := x.at fun o g => e.extBut _ _ n g
theorem SSq.at {b : Bool} {h h' : Heap} {a : Addr} {xs : Array Value} (x : SSq b h a xs) (e : ∀ o, h.get? a = some o → h'.get? a = some o) : SSq b h' a xs := match b, x with | true, ⟨o, g, r⟩ => ⟨o, e o g, r⟩ | false, ⟨o, g, r⟩ => ⟨o, e o g, r⟩
theorem SSq.ex {b : Bool} {h h' : Heap} {a c : Addr} {xs : Array Value} (x : SSq b h a xs) (e : Heap.SameBut c h h') (n : a ≠ c) : SSq b h' a xs := x.at fun o g => e.extBut _ _ n g
theorem SIt.ob {b : Bool} {h : Heap} {it a : Addr} {i : Nat} (x : SIt b h it a i) : ∃ o, h.get? it = some o ∧ ∀ v, o.data ≠ .cell v := match b, x with
  | true, ⟨o, g, c, d⟩ => ⟨o, g, fun v z => by rw [d] at z; cases z⟩
  | false, ⟨o, g, c, d⟩ => ⟨o, g, fun v z => by rw [d] at z; cases z⟩
section
variable {P : Program} {w : World} {A : Around} {E : Value → Shared → Prop} {s : Shared}
theorem snext_item {b : Bool} {it t : Addr} {i : Nat} {xs : Array Value} {x : Value} {Q : Value → Shared → Prop} (hi : SIt b s.heap it t i) (ht : SSq b s.heap t xs) (hx : xs[i]? = some x)
    (q : ∀ h', SIt b h' it t (i + 1) → Heap.SameBut it s.heap h' → Q x { s with heap := h' }) : wpAny (model P w) A (Builtin.SmallTypes.nextOf (.ref it)) Q E s :=
  match b, hi, ht, q with
  | true, hi, ht, q => wpAny_nextOf_list_item hi ht hx q
  | false, hi, ht, q => tnext_item hi ht hx q
theorem snext_end {b : Bool} {it t : Addr} {i : Nat} {xs : Array Value} {Q : Value → Shared → Prop} (hh : A.handled = none) (hi : SIt b s.heap it t i) (ht : SSq b s.heap t xs) (hx : xs[i]? = none)
    (q : ∀ h' e, Heap.ExtBut it s.heap h' → (∃ o, h'.get? e = some o ∧ o.cls = .type "StopIteration") → E (.ref e) { s with heap := h' }) : wpAny (model P w) A (Builtin.SmallTypes.nextOf (.ref it)) Q E s :=
  match b, hi, ht with
  | true, hi, ht => wpAny_nextOf_list_end hh hi ht hx q
  | false, hi, ht => tnext_end hh hi ht hx q
structure ZAt (b1 b2 : Bool) (z TI TO i1 i2 l1 l2 : Addr) (i : Nat) (h : Heap) : Prop where
  zp : IsZip h z TI TO .none
  ti : IsPair h TI (.ref i1) (.ref i2)
  to : ∃ a b, IsPair h TO a b
  n1 : SIt b1 h i1 l1 i
  n2 : SIt b2 h i2 l2 i
theorem zl_item {b1 b2 : Bool} {z TI TO i1 i2 l1 l2 : Addr} {i : Nat} {xs ys : Array Value} {x y : Value} {elts : List Expr} {kt : _} {tp : Pos} {Q : Value → Shared → Prop} (D : ZipApart z TI TO i1 i2 l1 l2) (st : ZAt b1 b2 z TI TO i1 i2 l1 l2 i s.heap) (t1 : SSq b1 s.heap l1 xs) (t2 : SSq b2 s.heap l2 ys) (hx : xs[i]? = some x) (hy : ys[i]? = some y)
    (q : ∀ h', ZAt b1 b2 z TI TO i1 i2 l1 l2 (i + 1) h' → IsPair h' s.heap.objs.size x y → (∀ c o, c ≠ z → c ≠ TO → c ≠ i1 → c ≠ i2 → s.heap.get? c = some o → h'.get? c = some o) → Q (.ref s.heap.objs.size) { s with heap := h' }) :
    wpAny (model P w) A (pyNext (.ref z)) (fun r s1 => ∃ u, r = some u ∧ wpAny (model P w) A (letOwnedTupleGo (.Tuple elts kt tp) (.ref z) u) (fun _ s2 => Q u s2) E s1) E s := by
  obtain ⟨hz, hTI, ⟨a0, b0, hTO⟩, h1, h2⟩ := st
  have hT : s.TypeIs (.ref z) "zip" := ⟨_, hz, rfl⟩
  unfold pyNext
  refine wpAny_bind (wpAny_attempt (wpAny_callSpecial?_slot (name := Str.ofString "__next__") hT PySem.F.slot_zip_next (wpAny_call_entry PySem.F.slot_zip_next hT PySem.F.entry_zip_next ?_ (PySem.F.args_zip_next_1 _))))
  show wpAny (model P w) _ (field (.ref z) 2 >>= _) _ _ _
  refine wpAny_bind (wpAny_field hz rfl (x := .bool false) rfl ?_)
  show wpAny (model P w) _ (field (.ref z) 3 >>= _) _ _ _
  refine wpAny_bind (wpAny_field hz rfl (x := .ref TI) rfl ?_)
  refine wpAny_bind (wpAny_seqItems hTI rfl ?_)
  show wpAny (model P w) _ (Builtin.SmallTypes.ownedTupleIsFree (.ref z) >>= _) _ _ _
  refine wpAny_bind ?_
  unfold Builtin.SmallTypes.ownedTupleIsFree
  refine wpAny_bind (wpAny_field hz rfl (x := .none) rfl (wpAny_pure ?_))
  simp only [if_true]
  refine wpAny_bind (wpAny_rule ?_)
  refine wpAny_bind (wpAny_field hz rfl (x := .ref TO) rfl ?_)
  refine wpAny_bind (wpAny_setField_rec hz (by simp) fun g1 z1 e1 => ?_)
  replace z1 : IsZip g1 z TI TO .ellipsis := z1
  refine wpAny_bind ?_
  simp only [List.zipIdx_cons, List.zipIdx_nil, List.forIn_cons, List.forIn_nil]
  refine wpAny_bind (wpAny_bind (wpAny_onRaise ?_))
  show wpAny (model P w) _ (Builtin.SmallTypes.nextOf (.ref i1) >>= _) _ _ _
  refine wpAny_bind (snext_item (h1.ex e1 D.i1z) (t1.ex e1 D.l1z) hx fun g2 n12 e2 => wpAny_pure ?_)
  have to2 : IsPair g2 TO a0 b0 := e2.extBut _ _ D.TOi1 (e1.extBut _ _ D.TOz hTO)
  refine wpAny_bind (wpAny_seqItems to2 rfl ?_)
  refine wpAny_bind (upd_pair to2 fun g3 to3 e3 => ?_)
  replace to3 : IsPair g3 TO x b0 := to3
  refine wpAny_bind (wpAny_letGo (wpAny_pure ?_))
  refine wpAny_bind (wpAny_bind (wpAny_onRaise ?_))
  show wpAny (model P w) _ (Builtin.SmallTypes.nextOf (.ref i2) >>= _) _ _ _
  refine wpAny_bind (snext_item (((h2.ex e1 D.i2z).ex e2 D.i12.symm).ex e3 D.TOi2.symm) (((t2.ex e1 D.l2z).ex e2 D.l2i1).ex e3 D.l2TO) hy fun g4 n24 e4 => wpAny_pure ?_)
  have to4 : IsPair g4 TO x b0 := e4.extBut _ _ D.TOi2 to3
  refine wpAny_bind (wpAny_seqItems to4 rfl ?_)
  refine wpAny_bind (upd_pair to4 fun g5 to5 e5 => ?_)
  replace to5 : IsPair g5 TO x y := to5
  refine wpAny_bind (wpAny_letGo (wpAny_pure (wpAny_pure ?_)))
  refine wpAny_bind (wpAny_seqItems to5 rfl ?_)
  refine wpAny_bind (wpAny_newTuple ?_)
  have sz : g5.objs.size = s.heap.objs.size := by rw [e5.1, e4.1, e3.1, e2.1, e1.1]
  have z5 : IsZip g5 z TI TO .ellipsis := e5.extBut _ _ D.TOz.symm (e4.extBut _ _ D.i2z.symm (e3.extBut _ _ D.TOz.symm (e2.extBut _ _ D.i1z.symm z1)))
  have k5 : ∀ c o, c ≠ z → c ≠ TO → c ≠ i1 → c ≠ i2 → s.heap.get? c = some o → g5.get? c = some o := fun c o c1 c2 c3 c4 e => e5.extBut _ _ c2 (e4.extBut _ _ c4 (e3.extBut _ _ c2 (e2.extBut _ _ c3 (e1.extBut _ _ c1 e))))
  have m1 : SIt b1 g5 i1 l1 (i + 1) := ((n12.ex e3 D.TOi1.symm).ex e4 D.i12).ex e5 D.TOi1.symm
  have m2 : SIt b2 g5 i2 l2 (i + 1) := n24.ex e5 D.TOi2.symm
  have zl : z < g5.objs.size := Heap.lt_size z5
  show wpAny (model P w) _ (Builtin.SmallTypes.ownedTupleHandOut (.ref z) (.ref g5.objs.size) >>= _) _ _ _
  refine wpAny_bind ?_
  unfold Builtin.SmallTypes.ownedTupleHandOut
  have z6 : IsZip (g5.push { cls := .type "tuple", data := .seq #[x, y] }) z TI TO .ellipsis := Heap.get?_push_of_some _ z5
  refine wpAny_bind (wpAny_setField_rec z6 (by simp) fun g7 z7 e7 => ?_)
  replace z7 : IsZip g7 z TI TO (rawInt g5.objs.size) := z7
  refine wpAny_setField_rec z7 (by simp) fun g8 z8 e8 => ?_
  replace z8 : IsZip g8 z TI TO (rawInt g5.objs.size) := z8
  have up : ∀ c o, c ≠ z → g5.get? c = some o → g8.get? c = some o := fun c o c1 e => e8.extBut _ _ c1 (e7.extBut _ _ c1 (Heap.get?_push_of_some _ e))
  have T8 : IsPair g8 g5.objs.size x y := e8.extBut _ _ (Nat.ne_of_gt zl) (e7.extBut _ _ (Nat.ne_of_gt zl) (Heap.get?_push_size _ rfl))
  refine wpAny_pure ⟨_, rfl, wpAny_pure ⟨_, rfl, ?_⟩⟩
  refine wpAny_letOwnedTupleGo_zip z8 fun g9 z9 e9 => ?_
  have up9 : ∀ c o, c ≠ z → g5.get? c = some o → g9.get? c = some o := fun c o c1 e => e9.extBut _ _ c1 (up c o c1 e)
  have T9 : IsPair g9 g5.objs.size x y := e9.extBut _ _ (Nat.ne_of_gt zl) T8
  rw [sz] at T9
  show Q (.ref g5.objs.size) _
  rw [sz]
  exact q g9 ⟨z9, up9 _ _ D.TIz (k5 _ _ D.TIz D.TITO D.TIi1 D.TIi2 hTI), ⟨_, _, up9 _ _ D.TOz to5⟩, m1.at fun o e => up9 _ o D.i1z e, m2.at fun o e => up9 _ o D.i2z e⟩ T9 fun c o c1 c2 c3 c4 e => up9 c o c1 (k5 c o c1 c2 c3 c4 e)
theorem zl_end {b1 b2 : Bool} {z TI TO i1 i2 l1 l2 : Addr} {i : Nat} {xs ys : Array Value} {Q : Option Value → Shared → Prop} (hh : A.handled = none) (D : ZipApart z TI TO i1 i2 l1 l2) (st : ZAt b1 b2 z TI TO i1 i2 l1 l2 i s.heap) (t1 : SSq b1 s.heap l1 xs) (t2 : SSq b2 s.heap l2 ys) (hend : xs[i]? = none ∨ ys[i]? = none)
    (q : ∀ h', (∀ c o, c ≠ z → c ≠ TO → c ≠ i1 → c ≠ i2 → s.heap.get? c = some o → h'.get? c = some o) → Q none { s with heap := h' }) : wpAny (model P w) A (pyNext (.ref z)) Q E s := by
  obtain ⟨hz, hTI, ⟨a0, b0, hTO⟩, h1, h2⟩ := st
  have hT : s.TypeIs (.ref z) "zip" := ⟨_, hz, rfl⟩
  unfold pyNext
  have fin : ∀ h' e, (∀ c o, c ≠ z → c ≠ TO → c ≠ i1 → c ≠ i2 → s.heap.get? c = some o → h'.get? c = some o) → (∃ o, h'.get? e = some o ∧ o.cls = .type "StopIteration") → wpAny (model P w) A (do if ← isInstance (.ref e) (.type "StopIteration") then return none else throw (.ref e)) Q E { s with heap := h' } := fun h' e hk ⟨o, ho, hc⟩ => by
    refine wpAny_bind (wpAny_isInstance (T := "StopIteration") (b := true) ⟨o, ho, hc⟩ isSubtype_stop ?_)
    exact wpAny_pure (q _ hk)
  refine wpAny_bind (wpAny_attempt (wpAny_callSpecial?_slot (name := Str.ofString "__next__") hT PySem.F.slot_zip_next (wpAny_call_entry PySem.F.slot_zip_next hT PySem.F.entry_zip_next ?_ (PySem.F.args_zip_next_1 _))))
  show wpAny (model P w) _ (field (.ref z) 2 >>= _) _ _ _
  refine wpAny_bind (wpAny_field hz rfl (x := .bool false) rfl ?_)
  show wpAny (model P w) _ (field (.ref z) 3 >>= _) _ _ _
  refine wpAny_bind (wpAny_field hz rfl (x := .ref TI) rfl ?_)
  refine wpAny_bind (wpAny_seqItems hTI rfl ?_)
  show wpAny (model P w) _ (Builtin.SmallTypes.ownedTupleIsFree (.ref z) >>= _) _ _ _
  refine wpAny_bind ?_
  unfold Builtin.SmallTypes.ownedTupleIsFree
  refine wpAny_bind (wpAny_field hz rfl (x := .none) rfl (wpAny_pure ?_))
  simp only [if_true]
  refine wpAny_bind (wpAny_rule ?_)
  refine wpAny_bind (wpAny_field hz rfl (x := .ref TO) rfl ?_)
  refine wpAny_bind (wpAny_setField_rec hz (by simp) fun g1 z1 e1 => ?_)
  replace z1 : IsZip g1 z TI TO .ellipsis := z1
  refine wpAny_bind ?_
  simp only [List.zipIdx_cons, List.zipIdx_nil, List.forIn_cons, List.forIn_nil]
  refine wpAny_bind (wpAny_bind (wpAny_onRaise ?_))
  show wpAny (model P w) _ (Builtin.SmallTypes.nextOf (.ref i1) >>= _) _ _ _
  cases hx : xs[i]? with
  | none =>
    refine wpAny_bind (snext_end hh (h1.ex e1 D.i1z) (t1.ex e1 D.l1z) hx fun g2 e e2 he => ?_)
    obtain ⟨oe, hoe, hce⟩ := he
    have z2 : IsZip g2 z TI TO .ellipsis := e2 _ _ D.i1z.symm z1
    have hez : e ≠ z := fun x => by subst x; rw [z2] at hoe; cases hoe; simp at hce
    refine wpAny_setField_rec z2 (by simp) fun g3 _ e3 => fin g3 e (fun c o c1 _ c3 _ x => e3.extBut _ _ c1 (e2 _ _ c3 (e1.extBut _ _ c1 x))) ⟨oe, e3.extBut _ _ hez hoe, hce⟩
  | some x =>
    have hy : ys[i]? = none := by rcases hend with h | h; rw [hx] at h; cases h; exact h
    refine wpAny_bind (snext_item (h1.ex e1 D.i1z) (t1.ex e1 D.l1z) hx fun g2 n12 e2 => wpAny_pure ?_)
    have to2 : IsPair g2 TO a0 b0 := e2.extBut _ _ D.TOi1 (e1.extBut _ _ D.TOz hTO)
    refine wpAny_bind (wpAny_seqItems to2 rfl ?_)
    refine wpAny_bind (upd_pair to2 fun g3 to3 e3 => ?_)
    refine wpAny_bind (wpAny_letGo (wpAny_pure ?_))
    refine wpAny_bind (wpAny_bind (wpAny_onRaise ?_))
    show wpAny (model P w) _ (Builtin.SmallTypes.nextOf (.ref i2) >>= _) _ _ _
    refine wpAny_bind (snext_end hh (((h2.ex e1 D.i2z).ex e2 D.i12.symm).ex e3 D.TOi2.symm) (((t2.ex e1 D.l2z).ex e2 D.l2i1).ex e3 D.l2TO) hy fun g4 e e4 he => ?_)
    obtain ⟨oe, hoe, hce⟩ := he
    have z4 : IsZip g4 z TI TO .ellipsis := e4 _ _ D.i2z.symm (e3.extBut _ _ D.TOz.symm (e2.extBut _ _ D.i1z.symm z1))
    have hez : e ≠ z := fun x => by subst x; rw [z4] at hoe; cases hoe; simp at hce
    refine wpAny_setField_rec z4 (by simp) fun g5 _ e5 => fin g5 e (fun c o c1 c2 c3 c4 x => e5.extBut _ _ c1 (e4 _ _ c4 (e3.extBut _ _ c2 (e2.extBut _ _ c3 (e1.extBut _ _ c1 x))))) ⟨oe, e5.extBut _ _ hez hoe, hce⟩
abbrev zu1 (h : Heap) (a : Addr) : Heap := h.push { cls := .type "list_iterator", data := .fields #[.ref a, .int 0 0] }
abbrev zu2 (h : Heap) (a b : Addr) : Heap := (zu1 h a).push { cls := .type "tuple_iterator", data := .fields #[.ref b, .int 0 0] }
abbrev zu3 (h : Heap) (a b : Addr) : Heap := (zu2 h a b).push { cls := .type "tuple", data := .seq #[.ref h.objs.size, .ref (zu1 h a).objs.size] }
abbrev zu4 (h : Heap) (a b : Addr) : Heap := (zu3 h a b).push { cls := .type "tuple", data := .seq #[.none, .none] }
abbrev zu5 (h : Heap) (a b : Addr) : Heap := (zu4 h a b).push { cls := .type "zip", data := .fields #[.none, .bool false, .bool false, .ref (zu2 h a b).objs.size, .ref (zu3 h a b).objs.size] }
theorem meets_zipU (l1 l2 : Addr) (xs ys : Array Value) :
    Meets (Builtin.«zip.__new__» ⟨[.type "zip", .ref l1, .ref l2], []⟩) (fun _ R s => s.heap.IsList l1 xs ∧ s.heap.IsTuple l2 ys ∧ R (.ok (.ret (.ref (zu4 s.heap l1 l2).objs.size))) { s with heap := zu5 s.heap l1 l2 }) :=
  .of_wp fun prog w A R s h => by
    obtain ⟨hp, g, d, tk, os⟩ := s; obtain ⟨t1, t2, h⟩ := h
    have hsub := sub_zip
    have T1 : Heap.IsList (Shared.heap ⟨hp, g, d, tk, os⟩) l1 xs := t1
    have T2 : Heap.IsTuple (Shared.heap ⟨hp.push { cls := .type "list_iterator", data := .fields #[.ref l1, .int 0 0] }, g, d, tk, os⟩) l2 ys := Heap.IsTuple.push t2 _
    wp_walk using wpAny_pyIter_list T1, wpAny_pyIter_tuple T2
    exact ⟨_, rfl, h⟩
theorem call_zipU {l1 l2 : Addr} {xs ys : Array Value} {Q : Value → Shared → Prop} (h1 : s.heap.IsList l1 xs) (h2 : s.heap.IsTuple l2 ys)
    (q : ∀ h', ZAt true false (s.heap.objs.size + 4) (s.heap.objs.size + 2) (s.heap.objs.size + 3) s.heap.objs.size (s.heap.objs.size + 1) l1 l2 0 h' → (∀ b o, s.heap.get? b = some o → h'.get? b = some o) → Q (.ref (s.heap.objs.size + 4)) { s with heap := h' }) :
    wpAny (model P w) A (call (.type "zip") [.ref l1, .ref l2]) Q E s := by
  refine callType_new PySem.F.called_zip (by decide) (PySem.F.typeCall_zip_2 _ _) (PySem.F.newCall_zip_2 _ _) (fun obj => PySem.F.args_object_init_3 obj _ _) PySem.F.entry_zip_new (meets_zipU l1 l2 xs ys) ⟨h1, h2, ?_⟩
  have n1 : (zu1 s.heap l1).objs.size = s.heap.objs.size + 1 := Heap.size_push ..
  have n2 : (zu2 s.heap l1 l2).objs.size = s.heap.objs.size + 2 := by rw [Heap.size_push, n1]
  have n3 : (zu3 s.heap l1 l2).objs.size = s.heap.objs.size + 3 := by rw [Heap.size_push, n2]
  have n4 : (zu4 s.heap l1 l2).objs.size = s.heap.objs.size + 4 := by rw [Heap.size_push, n3]
  have up : ∀ {h : Heap} {o p b}, h.get? b = some o → (h.push p).get? b = some o := fun e => Heap.get?_push_of_some _ e
  have g5 : (zu5 s.heap l1 l2).get? (zu4 s.heap l1 l2).objs.size = some _ := Heap.get?_push_size _ rfl
  have g4 : (zu5 s.heap l1 l2).get? (zu3 s.heap l1 l2).objs.size = some _ := up (Heap.get?_push_size _ rfl)
  have g3 : (zu5 s.heap l1 l2).get? (zu2 s.heap l1 l2).objs.size = some _ := up (up (Heap.get?_push_size _ rfl))
  have g2 : (zu5 s.heap l1 l2).get? (zu1 s.heap l1).objs.size = some _ := up (up (up (Heap.get?_push_size _ rfl)))
  have g1 : (zu5 s.heap l1 l2).get? s.heap.objs.size = some _ := up (up (up (up (Heap.get?_push_size _ rfl))))
  show _ ∧ _
  rw [n2, n3, n4] at g5
  rw [n1, n2] at g3
  rw [n3] at g4
  rw [n1] at g2
  rw [n4]
  exact ⟨⟨_, g5, rfl⟩, q _ ⟨g5, g3, ⟨_, _, g4⟩, ⟨_, g1, rfl, rfl⟩, ⟨_, g2, rfl, rfl⟩⟩ fun b o e => up (up (up (up (up e))))⟩
end
def Sqb (b : Bool) (K : PySem.W.Frag) (H : Hp) (a : Addr) (xs : List V) : Prop := match b with | true => SqL K H a xs | false => SqT K H a xs
theorem Inv.sqb {b : Bool} {X : Cx} {pins : List (Addr × Obj)} {σ : St} {H : Hp} {s : Shared} {a : Addr} {xs : List V} (I : Inv X pins σ H s) (h : Sqb b X.K H a xs) : ∃ its : List Value, Vals xs its ∧ SSq b s.heap a its.toArray := match b, h with
  | true, h => let ⟨its, r, p, _⟩ := I.list h; ⟨its, r, p.isList⟩
  | false, h => let ⟨its, r, p, _⟩ := I.tuple h; ⟨its, r, p⟩
theorem Inv.sqb_inj {b : Bool} {X : Cx} {pins : List (Addr × Obj)} {σ : St} {H : Hp} {s : Shared} {a : Addr} {xs ys : List V} (I : Inv X pins σ H s) (h : Sqb b X.K H a xs) (h' : Sqb b X.K H a ys) : xs = ys := match b, h, h' with
  | true, h, h' => I.list_inj h h'
  | false, h, h' => I.tuple_inj h h'
def Itz (K : PySem.W.Frag) (b1 b2 : Bool) (a b : Addr) : It :=
  ⟨fun i H => ∃ xs ys x y, Sqb b1 K H a xs ∧ Sqb b2 K H b ys ∧ xs[i]? = some x ∧ ys[i]? = some y, fun i H v H' => ∃ p x y, H p = none ∧ v = .ref p ∧ H' = upd H p (.tup [x, y]) ∧ ∀ xs ys, Sqb b1 K H a xs → Sqb b2 K H b ys → xs[i]? = some x ∧ ys[i]? = some y, fun i H => ∃ xs ys, Sqb b1 K H a xs ∧ Sqb b2 K H b ys ∧ (xs.length ≤ i ∨ ys.length ≤ i)⟩
theorem Inv.turnedL {X : Cx} {pins : List (Addr × Obj)} {σ : St} {H : Hp} {s : Shared} {h' : Heap} {t' : Nat} {ch : List Addr} (I : Inv X pins σ H s) (fp : ∀ b ∈ ch, FpOk X pins H b)
    (k : ∀ b q, b ∉ ch → s.heap.get? b = some q → h'.get? b = some q) (ht : 0 < t') : Inv X pins σ H { s with heap := h', toks := t' } := by
  have nch : ∀ {b : Addr} {u : HO}, H b = some u → b ∉ ch := fun q z => by rw [(fp _ z).1] at q; cases q
  refine I.step (g' := s.gens) (d' := s.drawn) (ch := ch) (fun b hb => ⟨(fp b hb).2.2.2.1, (fp b hb).2.1, (fp b hb).2.2.2.2.1, (fp b hb).2.2.2.2.2⟩) (fun b q _ _ hc g _ => k b q hc g) (fun b q _ _ hc g _ => ⟨q.slots, k b q hc g⟩)
    (fun _ _ _ _ n => n) (fun b q hc g => ⟨q, k b q hc g⟩) (fun _ _ g => g) (fun _ _ _ g => g) (fun b ps g => ⟨#[], by rw [g]; simp⟩) (fun m hm => ?_) (fun b u g => ?_) I.bare ht
  · obtain ⟨q, es, ep, ho, r⟩ := hm
    exact ⟨q, es, ep, k _ q (fun z => (fp _ z).2.1 rfl) ho, r⟩
  · refine (I.hok b u g).stay (fun c v hc q => ?_) (fun c q => q) fun c xs q => q
    rcases hc with z | z
    · rw [z] at q ⊢; exact k _ _ (nch g) q
    · exact k _ _ (nch z) q
theorem turn_zip {P : Program} {w : World} {K : PySem.W.Frag} {elts : List Expr} {kt : _} {tp : Pos} {b1 b2 : Bool} (a b z TI TO i1 i2 : Addr) (D : ZipApart z TI TO i1 i2 a b) : Turn P w K (.Tuple elts kt tp) (Itz K b1 b2 a b) [z, TI, TO, i1, i2] z (fun i h => ZAt b1 b2 z TI TO i1 i2 a b i h) where
  mem := by simp
  obj := fun i h st c hc => by
    obtain ⟨hz, hTI, ⟨a0, b0, hTO⟩, h1, h2⟩ := st
    simp only [List.mem_cons, List.not_mem_nil, or_false] at hc
    rcases hc with rfl | rfl | rfl | rfl | rfl
    · exact ⟨_, hz, fun v z => nomatch z⟩
    · exact ⟨_, hTI, fun v z => nomatch z⟩
    · exact ⟨_, hTO, fun v z => nomatch z⟩
    · exact h1.ob
    · exact h2.ob
  keep := fun i h h' ⟨hz, hTI, ⟨a0, b0, hTO⟩, h1, h2⟩ k => ⟨k z (by simp) _ hz, k TI (by simp) _ hTI, ⟨a0, b0, k TO (by simp) _ hTO⟩, h1.at fun o g => k i1 (by simp) o g, h2.at fun o g => k i2 (by simp) o g⟩
  item := by
    intro X hP hw hK hc i pins s σ H E I hf st hg
    subst hP hw hK
    obtain ⟨xs, ys, x, y, hq1, hq2, hx, hy⟩ := hg
    obtain ⟨itx, rx, px⟩ := I.sqb hq1
    obtain ⟨ity, ry, py⟩ := I.sqb hq2
    obtain ⟨u, hu, ru⟩ := rx.get hx
    obtain ⟨v, hv, rv⟩ := ry.get hy
    refine zl_item D st px py (x := u) (y := v) (by simpa using hu) (by simpa using hv) fun h' st' gT hk => ?_
    have lt : ∀ c ∈ [z, TI, TO, i1, i2], c < s.heap.objs.size := fun c hc => by
      obtain ⟨hz, hTI, ⟨a0, b0, hTO⟩, h1, h2⟩ := st
      simp only [List.mem_cons, List.not_mem_nil, or_false] at hc
      rcases hc with rfl | rfl | rfl | rfl | rfl
      · exact Heap.lt_size hz
      · exact Heap.lt_size hTI
      · exact Heap.lt_size hTO
      · obtain ⟨o, g, _⟩ := h1.ob; exact Heap.lt_size g
      · obtain ⟨o, g, _⟩ := h2.ob; exact Heap.lt_size g
    have I1 : Inv X pins σ H { s with heap := h', toks := s.toks } := I.turnedL (ch := [z, TI, TO, i1, i2]) hf (fun c o hc g => by
      simp only [List.mem_cons, List.not_mem_nil, or_false, not_or] at hc
      exact hk c o hc.1 hc.2.2.1 hc.2.2.2.1 hc.2.2.2.2 g) I.tk
    have hn : H s.heap.objs.size = none := I.hok.fresh (Nat.le_refl _)
    have I2 : Inv X pins σ (upd H s.heap.objs.size (.tup [x, y])) { s with heap := h' } := I1.track I.sz hn (Nat.ne_of_gt I.lt) (fun x c e => by obtain ⟨v, hv⟩ := I.cell x c e; exact Nat.ne_of_lt hv.lt) (fun p hp => Nat.ne_of_lt (Heap.lt_size (I.pin p hp).1))
      ⟨show 2 ≤ sizeLine by decide, [u, v], .cons ru (.cons rv .nil), ⟨_, gT, rfl, _, rfl⟩⟩
    refine ⟨.ref s.heap.objs.size, _, I2, rfl, ⟨_, x, y, hn, rfl, rfl, fun xs' ys' h1 h2 => by rw [I.sqb_inj h1 hq1, I.sqb_inj h2 hq2]; exact ⟨hx, hy⟩⟩, st', fun c hc => ?_⟩
    rw [upd_ne (Nat.ne_of_lt (lt c hc))]
    exact (hf c hc).1
  done := by
    intro X hP hw hK hc i pins s σ H E I hf st hg
    subst hP hw hK
    obtain ⟨xs, ys, hq1, hq2, hx⟩ := hg
    obtain ⟨itx, rx, px⟩ := I.sqb hq1
    obtain ⟨ity, ry, py⟩ := I.sqb hq2
    have e1 := rx.length
    have e2 := ry.length
    exact zl_end (I.ok.hd hc) D st px py (hx.imp (fun h => by simp; omega) fun h => by simp; omega) fun h' hk => ⟨rfl, I.turnedL (t' := s.toks) (ch := [z, TI, TO, i1, i2]) hf (fun c o hc g => by
      simp only [List.mem_cons, List.not_mem_nil, or_false, not_or] at hc
      exact hk c o hc.1 hc.2.2.1 hc.2.2.2.1 hc.2.2.2.2 g) I.tk⟩
  self := fun _ _ _ _ _ st h => wpAny_pyIter_zip st.zp h
def iZp (K : PySem.W.Frag) (ta : TA) : TI := fun σ H R => ta σ H fun vs H1 => ∃ a b xs ys, vs = [.ref a, .ref b] ∧ SqL K H1 a xs ∧ SqT K H1 b ys ∧ R (Itz K true false a b) H1
theorem pi_zip {X : Cx} {a b : Expr} {ta : TA} {p pos : Pos} {elts : List Expr} {kt : _} {tp : Pos} (hg : Gl X "zip") (hm : X.mg "zip" = none) (ha : PA X [a, b] ta) (hsa : notStar a = true) (hsb : notStar b = true) : PI X (.Tuple elts kt tp) (.Call (.Name "zip" p) [a, b] [] pos) (iZp X.K ta) := by
  intro pins s σ H R I h
  refine Call_ (ld_blt I hg hm bt_zip (PyProof.Rows.callWith_type1 (thn (ha pos pins s σ H _ I h) fun us s1 ⟨vs, H1, I1, r1, q1⟩ => ?_) (star_cons hsa) (star_any (by simp [hsb]))))
  obtain ⟨a', b', xs, ys, e, hq, hq2, q⟩ := q1
  subst e
  obtain ⟨u1, u2, rfl, e1, e2⟩ : ∃ u1 u2, us = [u1, u2] ∧ u1 = .ref a' ∧ u2 = .ref b' := by
    cases r1 with
    | cons c1 t1 =>
      cases t1 with
      | cons c2 t2 => cases t2; exact ⟨_, _, rfl, c1, c2⟩
  subst e1 e2
  obtain ⟨itx, rx, px, _⟩ := I1.list hq
  obtain ⟨ity, ry, py, _⟩ := I1.tuple hq2
  have la : a' < s1.heap.objs.size := by obtain ⟨o, e, _⟩ := px.isList; exact Heap.lt_size e
  have lb : b' < s1.heap.objs.size := py.lt
  refine call_zipU px.isList py fun h' st hk => ?_
  refine wpAny_pyIter_zip st.zp ⟨_, _, _, _, H1, rfl, I1.kept (t' := s1.toks) hk, turn_zip a' b' _ _ _ _ _ (PySem.W.ktu_apart _ _ _ la lb), st, fun c hc => ?_, q⟩
  have le : s1.heap.objs.size ≤ c := by
    simp only [List.mem_cons, List.not_mem_nil, or_false] at hc
    rcases hc with rfl | rfl | rfl | rfl | rfl
    · exact Nat.le_add_right _ _
    · exact Nat.le_add_right _ _
    · exact Nat.le_add_right _ _
    · exact Nat.le_refl _
    · exact Nat.le_add_right _ _
  exact I1.fpOk le (I1.hok.fresh le)
section
variable {Θ : Tab}
theorem zipL_at : ∀ (ds es : List M.D) (i : Nat), (M.zipL ds es)[i]? = match ds[i]?, es[i]? with | some d, some e => some (.tup [d, e]) | _, _ => none
  | [], _, i => by simp [M.zipL]
  | d :: ds, [], i => by
    have e : ([] : List M.D)[i]? = none := rfl
    have z : M.zipL (d :: ds) [] = [] := by simp [M.zipL]
    rw [z, e]
    cases (d :: ds)[i]? <;> rfl
  | d :: ds, e :: es, 0 => by simp [M.zipL]
  | d :: ds, e :: es, i + 1 => by
    rw [M.zipL, List.getElem?_cons_succ, List.getElem?_cons_succ, List.getElem?_cons_succ]
    exact zipL_at ds es i
theorem zipL_len : ∀ (ds es : List M.D), (M.zipL ds es).length = min ds.length es.length
  | [], _ => by simp [M.zipL]
  | _ :: _, [] => by simp [M.zipL]
  | d :: ds, e :: es => by rw [M.zipL, List.length_cons, zipL_len, List.length_cons, List.length_cons]; omega
theorem itr_zip {K : PySem.W.Frag} {ρ : List Addr} {H : Hp} {a b : Addr} {b1 b2 : Bool} {ds es : List M.D} {g : M.Gd} (key : ∀ {ρ' : List Addr} {S' : M.S} {H' : Hp}, ρ <+: ρ' → Le H H' → RepS K Θ ρ' S' H' → M.gdOk g S' = true → ∃ zs ws, Sqb b1 K H' a zs ∧ Sqb b2 K H' b ws ∧ RelDs K ρ' H' ds zs ∧ RelDs K ρ' H' es ws) : ItR K Θ ρ H (Itz K b1 b2 a b) (M.zipL ds es) g := by
  refine ⟨fun j ρ' S' H' p l rp g hj => ?_, fun j ρ' S' H' v H2 p l rp g hj y => ?_, fun ρ' S' H' p l rp g => ?_⟩
  · rw [zipL_len] at hj
    obtain ⟨zs, ws, q1, q2, r1, r2⟩ := key p l rp g
    obtain ⟨v, e1, _⟩ := r1.get (i := j) (d := ds[j]) (by simp)
    obtain ⟨v2, e2, _⟩ := r2.get (i := j) (d := es[j]) (by simp)
    exact ⟨zs, ws, v, v2, q1, q2, e1, e2⟩
  · rw [zipL_len] at hj
    obtain ⟨zs, ws, q1, q2, r1, r2⟩ := key p l rp g
    obtain ⟨v1, e1, rv1⟩ := r1.get (i := j) (d := ds[j]) (by simp)
    obtain ⟨v2, e2, rv2⟩ := r2.get (i := j) (d := es[j]) (by simp)
    obtain ⟨q, x, x2, hn, rfl, rfl, y2⟩ := y
    obtain ⟨y3, y4⟩ := y2 zs ws q1 q2
    rw [e1] at y3; cases y3
    rw [e2] at y4; cases y4
    have f1 : ds[j]? = some ds[j] := List.getElem?_eq_getElem _
    have f2 : es[j]? = some es[j] := List.getElem?_eq_getElem _
    refine ⟨.tup [ds[j], es[j]], by rw [zipL_at, f1, f2], ?_, Le.new hn _, rp.aside hn _⟩
    exact ⟨q, _, rfl, SqT.of upd_same, _, _, rfl, rv1.mono (List.prefix_refl _) (Le.new hn _), _, _, rfl, rv2.mono (List.prefix_refl _) (Le.new hn _), rfl⟩
  · obtain ⟨zs, ws, q1, q2, r1, r2⟩ := key p l rp g
    exact ⟨zs, ws, q1, q2, by rw [zipL_len, ← r1.length, ← r2.length]; omega⟩
def iZq (K : PySem.W.Frag) (ta : TA) : TI := fun σ H R => ta σ H fun vs H1 => ∃ a b xs ys, vs = [.ref a, .ref b] ∧ SqL K H1 a xs ∧ SqL K H1 b ys ∧ R (Itz K true true a b) H1
theorem pi_zipL {X : Cx} {a b : Expr} {ta : TA} {p pos : Pos} {elts : List Expr} {kt : _} {tp : Pos} (hg : Gl X "zip") (hm : X.mg "zip" = none) (ha : PA X [a, b] ta) (hsa : notStar a = true) (hsb : notStar b = true) : PI X (.Tuple elts kt tp) (.Call (.Name "zip" p) [a, b] [] pos) (iZq X.K ta) := by
  intro pins s σ H R I h
  refine Call_ (ld_blt I hg hm bt_zip (PyProof.Rows.callWith_type1 (thn (ha pos pins s σ H _ I h) fun us s1 ⟨vs, H1, I1, r1, q1⟩ => ?_) (star_cons hsa) (star_any (by simp [hsb]))))
  obtain ⟨a', b', xs, ys, e, hq, hq2, q⟩ := q1
  subst e
  obtain ⟨u1, u2, rfl, e1, e2⟩ : ∃ u1 u2, us = [u1, u2] ∧ u1 = .ref a' ∧ u2 = .ref b' := by
    cases r1 with
    | cons c1 t1 =>
      cases t1 with
      | cons c2 t2 => cases t2; exact ⟨_, _, rfl, c1, c2⟩
  subst e1 e2
  obtain ⟨itx, rx, px, _⟩ := I1.list hq
  obtain ⟨ity, ry, py, _⟩ := I1.list hq2
  have la : a' < s1.heap.objs.size := by obtain ⟨o, e, _⟩ := px.isList; exact Heap.lt_size e
  have lb : b' < s1.heap.objs.size := by obtain ⟨o, e, _⟩ := py.isList; exact Heap.lt_size e
  refine call_zip_2 px.isList py.isList fun h' z1 z2 z3 z4 z5 _ hk => ?_
  refine wpAny_pyIter_zip z1 ⟨_, _, _, _, H1, rfl, I1.kept (t' := s1.toks) hk, turn_zip (b1 := true) (b2 := true) a' b' _ _ _ _ _ (PySem.W.ktu_apart _ _ _ la lb), ⟨z1, z2, ⟨_, _, z3⟩, z4, z5⟩, fun c hc => ?_, q⟩
  have le : s1.heap.objs.size ≤ c := by
    simp only [List.mem_cons, List.not_mem_nil, or_false] at hc
    rcases hc with rfl | rfl | rfl | rfl | rfl
    · exact Nat.le_add_right _ _
    · exact Nat.le_add_right _ _
    · exact Nat.le_add_right _ _
    · exact Nat.le_refl _
    · exact Nat.le_add_right _ _
  exact I1.fpOk le (I1.hok.fresh le)
theorem lstAt_get {S : M.S} {p : Nat} {ds : List M.D} (e : M.lstAt S p = some ds) : S[p]? = some (.lst ds) := by
  unfold M.lstAt at e
  split at e
  · rename_i ds' e1; cases e; exact e1
  · cases e
theorem mi_zip {X : Cx} {e e' : Expr} {m m' : M.EM} {p pos tp : Pos} {elts : List Expr} {kt : _} (hg : Gl X "zip") (hm : X.mg "zip" = none) (he : ME X Θ e m) (he' : ME X Θ e' m') (hs : notStar e = true := by rfl) (hs' : notStar e' = true := by rfl) : MI X Θ (.Tuple elts kt tp) (.Call (.Name "zip" p) [e, e'] [] pos) (M.iZip m m') :=
  (PI.or (pi_zip hg hm (ma_cons he (ma_cons he' ma_nil hs') hs) hs hs') (pi_zipL hg hm (ma_cons he (ma_cons he' ma_nil hs') hs) hs hs')).imp fun σ H R ⟨ρ, σ', S, st, rp, h⟩ => by
    have h' : Post X.K Θ _ ρ H (((M.aCons m (M.aCons m' M.aNil) σ' S).bind M.zipP).bind fun p s => if M.gdOk p.2 s then .ok p s else .no) R := h
    clear h
    cases hm : M.aCons m (M.aCons m' M.aNil) σ' S with
    | no => rw [hm] at h'; exact h'.elim
    | exc a s => rw [hm] at h'; exact h'.elim
    | ok ds S1 =>
      rw [hm] at h'
      have go : ∀ {Q : List V → Hp → Prop}, (∀ ρ1 H1 vs, ρ <+: ρ1 → Le H H1 → RepS X.K Θ ρ1 S1 H1 → RelDs X.K ρ1 H1 ds vs → Q vs H1) → RdA X.K Θ (M.aCons m (M.aCons m' M.aNil)) σ H Q := fun q => ⟨ρ, σ', S, st, rp, by rw [hm]; exact q⟩
      have h2 : Post X.K Θ _ ρ H ((M.zipP ds S1).bind fun p s => if M.gdOk p.2 s then .ok p s else .no) R := h'
      clear h'
      unfold M.zipP at h2
      split at h2
      · rename_i i es
        refine .inl (go fun ρ1 H1 vs p l rp1 rv => ?_)
        obtain ⟨v, ys, rfl, ⟨a, rfl, e1⟩, v2, ys2, rfl, ⟨b, ws, rfl, hq, rz⟩, rfl⟩ := rv
        cases q : S1[i]? with
        | none => rw [q] at h2; exact h2.elim
        | some o =>
          rw [q] at h2
          cases o with
          | lst xs =>
            obtain ⟨b', e2, zs, e3, r⟩ := rp1.obj i _ q
            rw [e1] at e2; cases e2
            have hg : M.gdOk [(i, M.O.lst xs)] S1 = true := by simp [M.gdOk, q]
            have h3 : Post X.K Θ _ ρ H (if M.gdOk [(i, M.O.lst xs)] S1 then M.R.ok (M.zipL xs es, [(i, M.O.lst xs)]) S1 else .no) R := h2
            rw [if_pos hg] at h3
            refine ⟨a, b, zs, ws, rfl, SqL.of e3, hq, h3 ρ1 H1 _ p l rp1 (itr_zip fun {ρ' S' H'} p' l' rp' g' => ?_)⟩
            have g2 : S'[i]? = some (M.O.lst xs) := by simpa [M.gdOk] using g'
            obtain ⟨b2, f1, us, f2, r2⟩ := rp'.obj i _ g2
            rw [pre_get p' e1] at f1; cases f1
            exact ⟨us, ws, SqL.of f2, l'.sqT hq, r2, rz.mono p' l'⟩
          | dct kvs => exact h2.elim
          | ins c fs => exact h2.elim
      · rename_i i j
        refine .inr (go fun ρ1 H1 vs p l rp1 rv => ?_)
        obtain ⟨v, ys, rfl, ⟨a, rfl, e1⟩, v2, ys2, rfl, ⟨b, rfl, e1'⟩, rfl⟩ := rv
        cases q : M.lstAt S1 i with
        | none => rw [q] at h2; exact h2.elim
        | some xs =>
          cases q' : M.lstAt S1 j with
          | none => rw [q, q'] at h2; exact h2.elim
          | some ys =>
            rw [q, q'] at h2
            have w1 := lstAt_get q
            have w2 := lstAt_get q'
            obtain ⟨b', e2, zs, e3, r⟩ := rp1.obj i _ w1
            rw [e1] at e2; cases e2
            obtain ⟨b2', e2', zs', e3', r'⟩ := rp1.obj j _ w2
            rw [e1'] at e2'; cases e2'
            have hg : M.gdOk [(i, M.O.lst xs), (j, M.O.lst ys)] S1 = true := by simp [M.gdOk, w1, w2]
            have h3 : Post X.K Θ _ ρ H (if M.gdOk [(i, M.O.lst xs), (j, M.O.lst ys)] S1 then M.R.ok (M.zipL xs ys, [(i, M.O.lst xs), (j, M.O.lst ys)]) S1 else .no) R := h2
            rw [if_pos hg] at h3
            refine ⟨a, b, zs, zs', rfl, SqL.of e3, SqL.of e3', h3 ρ1 H1 _ p l rp1 (itr_zip fun {ρ' S' H'} p' l' rp' g' => ?_)⟩
            have g2 : S'[i]? = some (M.O.lst xs) ∧ S'[j]? = some (M.O.lst ys) := by simpa [M.gdOk] using g'
            obtain ⟨c1, f1, us, f2, r2⟩ := rp'.obj i _ g2.1
            rw [pre_get p' e1] at f1; cases f1
            obtain ⟨c2, f1', us', f2', r2'⟩ := rp'.obj j _ g2.2
            rw [pre_get p' e1'] at f1'; cases f1'
            exact ⟨us, us', SqL.of f2, SqL.of f2', r2, r2'⟩
      · exact h2.elim
theorem w_mi_zip {X : Cx} {e e' : Expr} {m m' : M.EM} {p pos tp : Pos} {elts : List Expr} {kt : _} (hg : Gl X "zip") (hm : X.mg "zip" = none) (he : WE X Θ e m) (he' : WE X Θ e' m') (hs : notStar e = true := by rfl) (hs' : notStar e' = true := by rfl) : WI X Θ (.Tuple elts kt tp) (.Call (.Name "zip" p) [e, e'] [] pos) (M.iZip m m') := by with_unfolding_all exact mi_zip (X := X) (e := e) (e' := e') (m := m) (m' := m') (p := p) (pos := pos) (tp := tp) (elts := elts) (kt := kt) hg hm he he' hs hs'
end
end L2
namespace L2
open PySem PySem.Spec PyProof.Rows
def rInsert : V → List V → Hp → VK → Prop := fun x vs H Q => ∃ l xs y, ∃ i : Int, x = .ref l ∧ vs = [.int i, y] ∧ H l = some (.lst xs) ∧ 0 ≤ i ∧ i ≤ xs.length ∧ xs.length < sizeLine ∧ Q .non (upd H l (.lst (xs.take i.toNat ++ y :: xs.drop i.toNat)))
section
variable {X : Cx} {Θ : Tab} {K : PySem.W.Frag}
theorem vals_take : ∀ (n : Nat) {xs : List V} {us : List Value}, Vals xs us → Vals (xs.take n) (us.take n)
  | 0, _, _, _ => .nil
  | _ + 1, _, _, .nil => .nil
  | n + 1, _, _, .cons h t => .cons h (vals_take n t)
theorem vals_drop : ∀ (n : Nat) {xs : List V} {us : List Value}, Vals xs us → Vals (xs.drop n) (us.drop n)
  | 0, _, _, h => h
  | _ + 1, _, _, .nil => .nil
  | n + 1, _, _, .cons _ t => vals_drop n t
theorem relDs_take {ρ : List Addr} {H : Hp} : ∀ (n : Nat) {ds : List M.D} {xs : List V}, RelDs K ρ H ds xs → RelDs K ρ H (ds.take n) (xs.take n)
  | 0, _, _, _ => rfl
  | _ + 1, [], xs, h => by cases h; rfl
  | n + 1, d :: ds, xs, h => by
    obtain ⟨x, ys, rfl, rx, r⟩ := h
    exact ⟨x, _, rfl, rx, relDs_take n r⟩
theorem relDs_drop {ρ : List Addr} {H : Hp} : ∀ (n : Nat) {ds : List M.D} {xs : List V}, RelDs K ρ H ds xs → RelDs K ρ H (ds.drop n) (xs.drop n)
  | 0, _, _, h => h
  | _ + 1, [], xs, h => by cases h; rfl
  | n + 1, d :: ds, xs, h => by
    obtain ⟨x, ys, rfl, rx, r⟩ := h
    exact relDs_drop n r
theorem mt_insertM : MtM X "list.insert" rInsert := by
  intro pins s σ H x vs v us Q I rx rv h
  obtain ⟨l, xs, y, i, rfl, rfl, hH, h0, hi, hz, q⟩ := h
  cases rx
  obtain ⟨u1, u2, rfl, e1, e2⟩ : ∃ u1 u2, us = [u1, u2] ∧ RelV (.int i) u1 ∧ RelV y u2 := by
    cases rv with
    | cons c1 t1 =>
      cases t1 with
      | cons c2 t2 => cases t2; exact ⟨_, _, rfl, c1, c2⟩
  obtain ⟨t, rfl⟩ := e1
  obtain ⟨z, its, n, r, hl, e⟩ := I.lstM hH
  have hz2 := hz
  rw [sizeLine_eq] at hz2
  have hf : Builtin.List.listFitsIndex i = true := by unfold Builtin.List.listFitsIndex; rw [Bool.and_eq_true]; exact ⟨decide_eq_true (by omega), decide_eq_true (by omega)⟩
  refine call_meets F.slot_list_insert ⟨_, e, rfl⟩ F.entry_list_insert (F.args_list_insert_3 _ _ _) (AutoSeq1.list_insert_list_int_val_1 l its.toArray n i t u2 (by simp [hf]) (by rw [List.size_toArray]; omega)) ⟨e, ?_⟩
  refine ⟨.non, _, I.lset (its' := its.take i.toNat ++ u2 :: its.drop i.toNat) hH e ?_ ((vals_take _ r).append (.cons e2 (vals_drop _ r))) ?_, rfl, q⟩
  · have hk : (if i < 0 then (i + ((its.toArray.size : Nat) : Int)).toNat else min i.toNat its.toArray.size) = i.toNat := by
      rw [if_neg (by omega), List.size_toArray]; omega
    show (its.toArray.extract 0 (if i < 0 then (i + ((its.toArray.size : Nat) : Int)).toNat else min i.toNat its.toArray.size)).push u2 ++ its.toArray.extract (if i < 0 then (i + ((its.toArray.size : Nat) : Int)).toNat else min i.toNat its.toArray.size) = _
    rw [hk]
    apply Array.toList_inj.mp
    simp [List.extract_eq_drop_take]
    exact List.take_of_length_le (by rw [List.length_drop]; exact Nat.le_refl _)
  · rw [List.length_append, List.length_cons, List.length_take, List.length_drop]
    omega
theorem ad_insert : AdM K Θ M.mInsert rInsert := by
  intro ρ H S x xs X Xs Q rp rx rxs h
  unfold M.mInsert at h
  split at h
  · rename_i p i y
    obtain ⟨Y0, r0, rfl, ry0, Y, r, rfl, ry, rfl⟩ := rxs
    cases ry0
    split at h
    · rename_i ds e
      obtain ⟨a, zs, rfl, ha, hx, rz⟩ := ref_lst rp rx e
      split at h
      · rename_i hl
        have le := Le.put (mut_lst hx) (.lst (zs.take i.toNat ++ Y :: zs.drop i.toNat))
        refine ⟨a, zs, Y, i, rfl, rfl, hx, hl.1, by rw [← rz.length]; exact hl.2.1, by rw [← SZ_eq, ← rz.length]; exact hl.2.2, ?_⟩
        have rz' := rz.mono (List.prefix_refl _) le
        exact h ρ _ _ (List.prefix_refl _) le (rp.put ha (mut_lst hx) ⟨_, upd_same, (relDs_take _ rz').app ⟨_, _, rfl, ry.mono (List.prefix_refl _) le, relDs_drop _ rz'⟩⟩) rfl
      · exact h.elim
    · exact h.elim
  · exact h.elim
def rGetM : V → List V → Hp → VK → Prop := fun x vs H Q => ∃ a y o, x = .ref a ∧ DGet H a y o ∧ ((vs = [y] ∧ Q (o.getD .non) H) ∨ ∃ d, vs = [y, d] ∧ Q (o.getD d) H)
theorem mt_getM {k : Nat} (hr : Room k X.A) : MtM X "dict.get" rGetM := by
  intro pins s σ H x vs v us Q I rx rv h
  obtain ⟨a, y, o, rfl, g, q⟩ := h
  cases rx
  rcases q with ⟨rfl, q⟩ | ⟨d, rfl, q⟩
  · obtain ⟨u, rfl, ru⟩ := rv.one
    exact d_get1 (hu_of hr) I g ru fun w' s' I' r' => ⟨_, H, I', r', q⟩
  · obtain ⟨u1, u2, rfl, e1, e2⟩ : ∃ u1 u2, us = [u1, u2] ∧ RelV y u1 ∧ RelV d u2 := by
      cases rv with
      | cons c1 t1 =>
        cases t1 with
        | cons c2 t2 => cases t2; exact ⟨_, _, rfl, c1, c2⟩
    exact d_get2 (hu_of hr) I g e1 e2 fun w' s' I' r' => ⟨_, H, I', r', q⟩
theorem ad_get : AdM K Θ M.mGet rGetM := by
  intro ρ H S x xs X Xs Q rp rx rxs h
  unfold M.mGet at h
  split at h
  · rename_i p y
    obtain ⟨Y, r, rfl, ry, rfl⟩ := rxs
    split at h
    · rename_i kvs q
      obtain ⟨a, rfl, ea⟩ := rx
      split at h
      · rename_i hk
        obtain ⟨ks, e1, r⟩ := dct_at rp ea q
        obtain ⟨k, h1, rfl⟩ := keyR_of hk ry
        have hv := r.val h1
        refine ⟨a, _, valV ks k, rfl, DGet.k e1, .inl ⟨rfl, ?_⟩⟩
        cases q2 : M.dGet y kvs with
        | none => rw [q2] at hv h; rw [show valV ks k = none from hv]; exact Post.here h rp rfl
        | some d =>
          rw [q2] at hv h
          obtain ⟨v, e2, rv⟩ := hv
          rw [e2]
          exact Post.here h rp rv
      · exact h.elim
    · exact h.elim
  · rename_i p y d
    obtain ⟨Y, r, rfl, ry, Z, r2, rfl, rz, rfl⟩ := rxs
    split at h
    · rename_i kvs q
      obtain ⟨a, rfl, ea⟩ := rx
      split at h
      · rename_i hk
        obtain ⟨ks, e1, r⟩ := dct_at rp ea q
        obtain ⟨k, h1, rfl⟩ := keyR_of hk ry
        have hv := r.val h1
        refine ⟨a, _, valV ks k, rfl, DGet.k e1, .inr ⟨Z, rfl, ?_⟩⟩
        cases q2 : M.dGet y kvs with
        | none => rw [q2] at hv h; rw [show valV ks k = none from hv]; exact Post.here h rp rz
        | some d =>
          rw [q2] at hv h
          obtain ⟨v, e2, rv⟩ := hv
          rw [e2]
          exact Post.here h rp rv
      · exact h.elim
    · exact h.elim
  · exact h.elim
def rPopM : V → List V → Hp → VK → Prop := fun x vs H Q => ∃ a kvs k v, x = .ref a ∧ vs = [kV k] ∧ H a = some (.dK kvs) ∧ valV kvs k = some v ∧ Q v (upd H a (.dK (dropK kvs k)))
theorem mt_popDM {k : Nat} (_hr : Room k X.A) : MtM X "dict.pop" rPopM := by
  intro pins s σ H x vs v us Q I rx rv h
  obtain ⟨a, kvs, k, w, rfl, rfl, hH, hv, q⟩ := h
  cases rx
  obtain ⟨u, rfl, ru⟩ := rv.one
  exact d_pop (more := []) I hH ru hv (.inl rfl) fun w' s' I' r' => ⟨w, _, I', r', q⟩
theorem ad_popD : AdM K Θ M.mPopD rPopM := by
  intro ρ H S x xs X Xs Q rp rx rxs h
  unfold M.mPopD at h
  split at h
  · rename_i p y
    obtain ⟨Y, r, rfl, ry, rfl⟩ := rxs
    split at h
    · rename_i kvs q
      obtain ⟨a, rfl, ea⟩ := rx
      split at h
      · rename_i hk
        obtain ⟨b, e1, ks, e2, r⟩ := rp.obj _ _ q
        rw [ea] at e1; cases e1
        obtain ⟨k, h1, rfl⟩ := keyR_of hk ry
        have hv := DR.val r h1
        cases q2 : M.dGet y kvs with
        | none => rw [q2] at h; exact h.elim
        | some d =>
          rw [q2] at hv h
          obtain ⟨v, e3, rv⟩ := hv
          have le := Le.put (mut_dK e2) (.dK (dropK ks k))
          refine ⟨a, ks, k, v, rfl, rfl, e2, e3, ?_⟩
          have r' : DR K ρ (upd H a (.dK (dropK ks k))) kvs ks := Paired.mapP r fun a b z => ⟨z.1, z.2.mono (List.prefix_refl _) le⟩
          exact h ρ _ _ (List.prefix_refl _) le (rp.put ea (mut_dK e2) ⟨_, upd_same, DR.drop r' h1⟩) (rv.mono (List.prefix_refl _) le)
      · exact h.elim
    · exact h.elim
  · exact h.elim
end
end L2
namespace L2
open PySem PySem.Spec PyProof.Rows
def metS (xs : List Str) : Nat → List Str
  | 0 => []
  | i + 1 => match xs[i]? with
    | some x => if x ∈ metS xs i then metS xs i else metS xs i ++ [x]
    | none => metS xs i
theorem metS_le (xs : List Str) : ∀ i, (metS xs i).length ≤ i
  | 0 => Nat.le_refl _
  | i + 1 => by
    have := metS_le xs i
    unfold metS
    split
    · split
      · omega
      · simp; omega
    · omega
theorem metS_step {xs : List Str} {i : Nat} {x : Str} (e : xs[i]? = some x) : metS xs (i + 1) = if x ∈ metS xs i then metS xs i else metS xs i ++ [x] := by rw [metS, e]
abbrev SetS (P : Program) (w : World) (h : Heap) (a : Addr) (l : List Str) : Prop := h.SetOf (PySem.strKind P w) a (fun k => decide (k ∈ l)) l.length
theorem SetS.at {P : Program} {w : World} {h h' : Heap} {a : Addr} {l : List Str} (x : SetS P w h a l) (e : ∀ o, h.get? a = some o → h'.get? a = some o) : SetS P w h' a l := by
  obtain ⟨o, es, ep, t, ho, rest⟩ := x
  exact ⟨o, es, ep, t, e _ ho, rest⟩
section
variable {P : Program} {w : World} {A : Around} {E : Value → Shared → Prop} {s : Shared}
theorem set_loop {R : Result → Shared → Prop} {I : Addr} {fp wr : List Addr} {G : Array GenState → Array GenState → Prop} {xs : List Str} {Pv : Nat → Value → Prop} {St : Nat → Shared → Prop} (W : WalksS P w A.in1 I fp wr G xs.length Pv St) (D : Addr) (hD : D ∉ fp) (hv : ∀ i v, Pv i v → ∃ x t, xs[i]? = some x ∧ v = .str x t) (hb : xs.length + 1 < scanBound) :
    ∀ (k i : Nat) (s : Shared), xs.length - i = k → i ≤ xs.length → St i s → SetS P w s.heap D (metS xs i) → (∀ s', Moved (D :: wr) G s s' → SetS P w s'.heap D (metS xs xs.length) → R (.ok (.ret .none)) s') →
      codeAny (model P w) A (.builtin "set.update.loop" ⟨[.ref D, .ref I], []⟩) R s := by
  have nw : D ∉ wr := fun h => hD (W.sub _ h)
  have sb : ∀ b ∈ wr, b ∈ D :: wr := fun b hb => List.mem_cons_of_mem _ hb
  intro k
  induction k with
  | zero =>
    intro i s hk hi st hS hR
    have e : i = xs.length := by omega
    subst e
    refine codeAny_builtin PyProof.Rows.F.entry_set_update_loop ?_
    rw [Around.under_plainId PyProof.Rows.F.plain_set_update_loop _]
    show wpAny (model P w) A.in1 (pyNext (.ref I) >>= _) _ _ s
    refine wpAny_bind (W.done s _ _ st fun s' hm => ?_)
    show wpAny (model P w) A.in1 (ret Value.none) _ _ s'
    exact wpAny_pure (hR s' (hm.mono sb) (hS.at fun o ho => hm.heap D _ nw ho))
  | succ k ih =>
    intro i s hk hi st hS hR
    have lt : i < xs.length := by omega
    refine codeAny_builtin PyProof.Rows.F.entry_set_update_loop ?_
    rw [Around.under_plainId PyProof.Rows.F.plain_set_update_loop _]
    show wpAny (model P w) A.in1 (pyNext (.ref I) >>= _) _ _ s
    refine wpAny_bind (W.item i s _ _ lt st fun v s' hP st' hm => ?_)
    obtain ⟨x, t, ex, rfl⟩ := hv i v hP
    have hS1 : SetS P w s'.heap D (metS xs i) := hS.at fun o ho => hm.heap D _ nw ho
    have hx : (PySem.strKind P w).is x (.str x t) = true := by simp [PySem.strKind, Value.isStrOf]
    show wpAny (model P w) A.in1 (holding [Value.str x t] (setAdd D (.str x t)) >>= _) _ _ s'
    refine wpAny_bind (wpAny_holding ?_)
    unfold setAdd
    refine wpAny_holding ?_
    refine wpAny_bind ((PySem.strKind P w).pyHash (k := x) hx ?_)
    have room : (metS xs i).length + 1 < scanBound := by have := metS_le xs i; omega
    refine wpAny_setAddHashed_of (knd := PySem.strKind P w) (s := { s' with toks := s'.toks + 1 }) hx rfl hS1 room fun h' hs hS2 => ?_
    have hS3 : SetS P w h' D (metS xs (i + 1)) := by
      refine SetOf_congr hS2 (fun k' => ?_) ?_
      · rw [metS_step ex]
        by_cases c : x ∈ metS xs i
        · rw [if_pos c]
          by_cases d : k' = x
          · subst d; simp [c]
          · simp [d]
        · rw [if_neg c]; simp
      · rw [metS_step ex]
        by_cases c : x ∈ metS xs i
        · rw [if_pos c, if_pos (decide_eq_true c)]
        · rw [if_neg c, if_neg (by simp [c])]; simp
    refine wpAny_pure ⟨plainId_quiet PyProof.Rows.F.plain_set_update_loop _, ih (i + 1) _ (by omega) lt (W.frame _ s' _ _ st' (Nat.le_succ _) fun b hb o e => ?_) hS3 fun s2 hm2 hS4 => ?_⟩
    · rw [hs.2 b (fun h : b = D => hD (by rw [← h]; exact hb))]; exact e
    · refine hR s2 (Moved.trans W.gtrans ((hm.mono sb).then_heap (Nat.le_succ _) fun b o hb e => ?_) hm2) hS4
      rw [hs.2 b (fun h : b = D => hb (by rw [h]; exact List.mem_cons_self))]; exact e
set_option maxHeartbeats 4000000 in
theorem call_setS {l : Addr} {its : List Value} {xs : List Str} {Q : Value → Shared → Prop} (hh : A.handled = none) (hl : s.heap.IsList l its.toArray) (hn : its.length = xs.length) (hi : ∀ (i : Nat) (v : Value), its[i]? = some v → ∃ x t, xs[i]? = some x ∧ v = .str x t) (hb : xs.length + 1 < scanBound)
    (q : ∀ (h' : Heap) (tk : Nat), s.toks ≤ tk → SetS P w h' s.heap.objs.size (metS xs xs.length) → (∀ b o, s.heap.get? b = some o → h'.get? b = some o) → Q (.ref s.heap.objs.size) { s with heap := h', toks := tk }) :
    wpAny (model P w) A (call (.type "set") [.ref l]) Q E s := by
  obtain ⟨c, tl, hmro⟩ := PySem.F.called_set.mro
  have hmade := PySem.F.called_set.made
  have hsub := PySem.F.called_set.sub
  have h1 := PySem.F.called_set.notType
  have h2 := PySem.F.called_set.canCreate
  have hct := PySem.F.typeCall_set_1 (.ref l)
  refine wpAny_call (codeAny_of_tree ?_)
  show wpAny (model P w) _ (callAny (.type "set") _) _ _ _
  refine wpAny_pure ⟨Code.quiet_builtin _ (by decide +kernel), codeAny_builtin PySem.F.entry_type_call ?_⟩
  rw [Around.under_plain (weight_type_call_type "set" [.ref l] []) rfl]
  repeat (any_goals (first | assumption | wp_step))
  refine codeAny_mono (code_set_new_1 (.ref l) (E := E) (Q₁ := fun obj s1 => ∃ b : Bool, obj = .ref s.heap.objs.size ∧ s1 = { s with heap := s.heap.push { cls := .type "set", dict := none, data := .set #[] 0 (.fresh 0 0 b) } }) fun b => ⟨b, rfl, rfl⟩) fun r s1 hr => ?_
  cases r with
  | error e => exact hr
  | ok fl =>
    cases fl with
    | ret obj =>
      obtain ⟨b, rfl, rfl⟩ := hr
      have g0 : (s.heap.push { cls := .type "set", dict := none, data := .set #[] 0 (.fresh 0 0 b) }).get? s.heap.objs.size = some { cls := .type "set", dict := none, data := .set #[] 0 (.fresh 0 0 b) } := Heap.get?_push_size _ rfl
      have hT : Shared.TypeIs { s with heap := s.heap.push { cls := .type "set", dict := none, data := .set #[] 0 (.fresh 0 0 b) } } (.ref s.heap.objs.size) "set" := ⟨_, g0, rfl⟩
      have hli := PySem.F.called_set.init.lookup
      have hbi := PySem.F.called_set.init.bind (.ref s.heap.objs.size)
      repeat (any_goals (first | assumption | wp_step))
      refine codeAny_mono (codeAny_call_builtin (R := wants (fun r s2 => r = .none ∧ ∃ h' tk, s.toks ≤ tk ∧ s2 = { s with heap := h', toks := tk } ∧ SetS P w h' s.heap.objs.size (metS xs xs.length) ∧ ∀ b o, s.heap.get? b = some o → h'.get? b = some o) E) PySem.F.called_set.init.plain PySem.F.entry_set_init (check_set_init_1 hT ?_)) fun r2 s2 hr2 => ?_
      · have lt : l < s.heap.objs.size := by obtain ⟨o, e, _⟩ := hl; exact Heap.lt_size e
        obtain ⟨⟨oc, od, oda, osl⟩, gl, cl, nl, dl⟩ := hl
        simp only at cl dl
        subst cl; subst dl
        have gl1 : (s.heap.push { cls := .type "set", dict := none, data := .set #[] 0 (.fresh 0 0 b) }).get? l = some { cls := .type "list", dict := od, data := .seq its.toArray nl, slots := osl } := Heap.get?_push_of_some _ gl
        have k1 := PySem.F.sub_list_set
        have k2 := PySem.F.sub_list_frozenset
        have k3 : (Value.type "list" == Value.type "dict") = false := by decide
        have hl1 : (s.heap.push { cls := .type "set", dict := none, data := .set #[] 0 (.fresh 0 0 b) }).IsList l its.toArray := ⟨_, gl1, rfl, nl, rfl⟩
        unfold Builtin.«set.__init__» noKeywords Builtin.Frozenset.updateFrom
        generalize hPI : pyIter = PI
        wp_walk
        subst hPI
        refine wpAny_pyIter_list hl1 ?_
        refine wpAny_bind (wpAny_runValue ?_)
        have n1 : (s.heap.push { cls := .type "set", dict := none, data := .set #[] 0 (.fresh 0 0 b) }).objs.size = s.heap.objs.size + 1 := Heap.size_push ..
        have ni : l ≠ (s.heap.push { cls := .type "set", dict := none, data := .set #[] 0 (.fresh 0 0 b) }).objs.size := by rw [n1]; exact Nat.ne_of_lt (Nat.lt_succ_of_lt lt)
        have nf : s.heap.objs.size ∉ [(s.heap.push { cls := .type "set", dict := none, data := .set #[] 0 (.fresh 0 0 b) }).objs.size, l] := by
          rw [n1]
          intro hm
          rcases List.mem_cons.mp hm with e | hm
          · exact absurd e (Nat.ne_of_lt (Nat.lt_succ_self _))
          · exact absurd (List.mem_singleton.mp hm) (Nat.ne_of_gt lt)
        have W := (Walks.list (prog := P) (w := w) (A := A.in1.in1.in1) hh _ l ni its.toArray).toS
        have ez : its.toArray.size = xs.length := by rw [List.size_toArray]; exact hn
        rw [ez] at W
        refine set_loop W s.heap.objs.size nf (fun i v hv => hi i v (by simpa using hv)) hb xs.length 0 _ (by omega) (Nat.zero_le _) ⟨⟨_, Heap.get?_push_size _ rfl, rfl, rfl⟩, hl1.push _⟩ ?_ fun s' hm hS' => ?_
        · exact SetOf_congr ((setObjOf_fresh (knd := PySem.strKind P w) b).setOf (Heap.get?_push_of_some _ g0) (by unfold scanBound; omega)) (fun _ => rfl) rfl
        · rw [Moved.eq_with hm]
          refine wpAny_pure ?_
          show wpAny (model P w) _ (ret Value.none) _ _ _
          refine wpAny_pure ⟨rfl, _, _, hm.toks, rfl, hS', fun c o e => hm.heap c o (fun hmem => ?_) (Heap.get?_push_of_some _ (Heap.get?_push_of_some _ e))⟩
          have hc := Heap.lt_size e
          rcases List.mem_cons.mp hmem with e' | hmem
          · exact Nat.ne_of_lt hc e'
          · have e' := List.mem_singleton.mp hmem
            rw [n1] at e'
            exact Nat.ne_of_lt (Nat.lt_succ_of_lt hc) e'
      · cases r2 with
        | error e => exact hr2
        | ok f2 =>
          cases f2 with
          | ret r =>
            obtain ⟨rfl, h', tk, ht, rfl, hS', hk⟩ := hr2
            repeat (any_goals (first | assumption | wp_step))
            exact q _ _ ht hS' hk
          | _ => exact hr2.elim
    | _ => exact hr.elim
theorem len_setS {a : Addr} {l : List Str} {Q : Value → Shared → Prop} (h : SetS P w s.heap a l) (q : Q (.int l.length (s.toks + 1)) { s with toks := s.toks + 1 + 1 }) : wpAny (model P w) A (call (.builtin "len") [.ref a]) Q E s := by
  obtain ⟨o, es, ep, t, ho, hex, hd, _, _, hb, hf, hn⟩ := h
  have hb' : es.size < 4096 := hb
  refine call_len_set ho hex hd hf (by omega) ?_
  rw [hn]
  exact q
end
def rLenSet (K : PySem.W.Frag) : List V → Hp → VK → Prop := fun vs H Q => ∃ a xs, vs = [.ref a] ∧ SqL K H a (xs.map V.str) ∧ xs.length ≤ 1000 ∧ Q (.int (metS xs xs.length).length) H
section
variable {X : Cx} {Θ : Tab} {xl xz : Str} {pl pz pos pos2 : Pos} {a : Expr} {t : TA} {k : Nat}
theorem vals_strAt : ∀ {xs : List Str} {us : List Value}, Vals (xs.map V.str) us → ∀ (i : Nat) (v : Value), us[i]? = some v → ∃ x t, xs[i]? = some x ∧ v = .str x t
  | [], _, .nil, i, v, e => by simp at e
  | x :: xs, _, .cons h r, 0, v, e => by
    obtain ⟨t, ht⟩ := (show ∃ t, _ = Value.str x t from h)
    cases e
    exact ⟨x, t, rfl, ht⟩
  | x :: xs, _, .cons h r, i + 1, v, e => vals_strAt r i v e
theorem pe_lenset (hr : Room k X.A) (hgl : Gl X xl) (hml : X.mg xl = none) (hvl : bootBuiltins xl = some (.builtin "len")) (hgz : Gl X xz) (hmz : X.mg xz = none) (hvz : bootBuiltins xz = some (.type "set")) (ha : PA X [a] t)
    (hnl : xl ≠ "__name__" := by decide) (hdl : (xl == ("__debug__" : Str)) = false := by decide) (hnz : xz ≠ "__name__" := by decide) (hdz : (xz == ("__debug__" : Str)) = false := by decide) (hsa : notStar a = true := by rfl) :
    PE X (.Call (.Name xl pl) [.Call (.Name xz pz) [a] [] pos2] [] pos) (tCB (rLenSet X.K) t) := by
  intro pins s σ H Q I h
  refine wpAny_Call_Name_kw (ld_blt I hgl hml hvl ?_ hnl hdl)
  refine PyProof.Rows.callWith_builtin1 ?_ (star_cons rfl) rfl
  rw [star_cons (e := .Call (.Name xz pz) [a] [] pos2) (es := []) rfl]
  refine Calls.spliced_cons ?_
  refine wpAny_Call_Name_kw (ld_blt I hgz hmz hvz ?_ hnz hdz)
  refine PyProof.Rows.callWith_type1 (thn (ha pos2 pins s σ H _ I h) fun us s1 ⟨vs, H1, I1, r1, q1⟩ => ?_) (star_cons hsa) (star_any (by simp))
  obtain ⟨p, xs, rfl, hp, hz, q⟩ := q1
  obtain ⟨u1, rfl, e1⟩ : ∃ u1, us = [u1] ∧ u1 = .ref p := by
    cases r1 with
    | cons c1 t1 => cases t1; exact ⟨_, rfl, c1⟩
  subst e1
  obtain ⟨its, rv, pl, _⟩ := I1.list hp
  have ez := rv.length
  rw [List.length_map] at ez
  refine call_setS (A := X.A) (xs := xs) hr.hd pl.isList (by omega) (vals_strAt rv) (by unfold scanBound; omega) fun h' tk ht hS hk => ?_
  refine Calls.spliced_nil ?_
  have I2 : Inv X pins σ H1 { s1 with heap := h', toks := tk } := I1.kept (t' := tk) hk (Nat.lt_of_lt_of_le I1.tk ht)
  refine len_setS (s := { s1 with heap := h', toks := tk }) hS ⟨.int (metS xs xs.length).length, H1, ?_, ⟨_, rfl⟩, q⟩
  exact I2.kept (t' := tk + 1 + 1) fun b o e => e
theorem met_ded (ts : List M.T) : ∀ i, i ≤ ts.length → metS (ts.map ofT) i = (M.dedT [] (ts.take i)).map ofT := by
  have app : ∀ (xs acc : List M.T) (x : M.T), M.dedT acc (xs ++ [x]) = if (M.dedT acc xs).contains x then M.dedT acc xs else M.dedT acc xs ++ [x] := by
    intro xs
    induction xs with
    | nil => intro acc x; rfl
    | cons y xs ih => intro acc x; exact ih _ x
  intro i
  induction i with
  | zero => intro _; rfl
  | succ i ih =>
    intro hi
    have e : ts[i]? = some ts[i] := List.getElem?_eq_getElem (by omega)
    have e2 : (ts.map ofT)[i]? = some (ofT ts[i]) := by rw [List.getElem?_map, e]; rfl
    rw [metS_step e2, ih (by omega), List.take_succ, e]
    show _ = (M.dedT [] (ts.take i ++ [ts[i]])).map ofT
    rw [app]
    have hm : (ofT ts[i] ∈ (M.dedT [] (ts.take i)).map ofT) ↔ (M.dedT [] (ts.take i)).contains ts[i] = true := by
      rw [List.mem_map]
      constructor
      · rintro ⟨y, hy, ey⟩
        rw [← ofT_inj ey]
        simpa using hy
      · intro h
        exact ⟨ts[i], by simpa using h, rfl⟩
    by_cases c : (M.dedT [] (ts.take i)).contains ts[i] = true
    · rw [if_pos (hm.mpr c), if_pos c]
    · rw [if_neg (fun z => c (hm.mp z)), if_neg c, List.map_append]; rfl
theorem ad_lenset {K : PySem.W.Frag} : AdN K Θ M.fLenSet (rLenSet K) := by
  intro ρ H S xs Xs Q rp rxs h
  unfold M.fLenSet at h
  split at h
  · rename_i p
    obtain ⟨Y, r, rfl, ry, rfl⟩ := rxs
    cases e : M.lstAt S p with
    | none => rw [e] at h; exact h.elim
    | some ds =>
      rw [e] at h
      dsimp only at h
      obtain ⟨a, zs, rfl, ha, hx, rz⟩ := ref_lst rp ry (lstAt_get e)
      cases et : M.texts ds with
      | none => rw [et] at h; exact h.elim
      | some ts =>
        rw [et] at h
        obtain ⟨rfl, _⟩ := texts_rel et rz
        have h2 : Post K Θ (RelD K) ρ H (if ts.length ≤ 1000 then M.R.ok (M.D.int (M.dedT [] ts).length) S else .no) Q := h
        by_cases hl : ts.length ≤ 1000
        · rw [if_pos hl] at h2
          refine ⟨a, ts.map ofT, rfl, SqL.of hx, by rw [List.length_map]; exact hl, ?_⟩
          have em := met_ded ts ts.length (Nat.le_refl _)
          rw [List.take_length] at em
          rw [List.length_map, em, List.length_map]
          exact Post.here (b := V.int (M.dedT [] ts).length) h2 rp rfl
        · rw [if_neg hl] at h2; exact h2.elim
  · exact h.elim
theorem me_lenset {m : M.AM} (hr : Room k X.A) (hgl : Gl X xl) (hml : X.mg xl = none) (hvl : bootBuiltins xl = some (.builtin "len")) (hgz : Gl X xz) (hmz : X.mg xz = none) (hvz : bootBuiltins xz = some (.type "set")) (ha : MA X Θ [a] m)
    (hnl : xl ≠ "__name__" := by decide) (hdl : (xl == ("__debug__" : Str)) = false := by decide) (hnz : xz ≠ "__name__" := by decide) (hdz : (xz == ("__debug__" : Str)) = false := by decide) (hsa : notStar a = true := by rfl) :
    ME X Θ (.Call (.Name xl pl) [.Call (.Name xz pz) [a] [] pos2] [] pos) (M.eCall M.fLenSet m) :=
  (pe_lenset hr hgl hml hvl hgz hmz hvz ha hnl hdl hnz hdz hsa).imp fun σ H Q ⟨ρ, σ', S, st, rp, h⟩ => ⟨ρ, σ', S, st, rp, Post.bind h fun ρ1 H1 xs Xs S1 p1 l1 rp1 rx h1 => ad_lenset ρ1 H1 S1 xs Xs Q rp1 rx h1⟩
theorem w_me_lenset {m : M.AM} (hr : Room k X.A) (hgl : Gl X xl) (hml : X.mg xl = none) (hvl : bootBuiltins xl = some (.builtin "len")) (hgz : Gl X xz) (hmz : X.mg xz = none) (hvz : bootBuiltins xz = some (.type "set")) (ha : WA X Θ [a] m)
    (hnl : xl ≠ "__name__" := by decide) (hdl : (xl == ("__debug__" : Str)) = false := by decide) (hnz : xz ≠ "__name__" := by decide) (hdz : (xz == ("__debug__" : Str)) = false := by decide) (hsa : notStar a = true := by rfl) :
    WE X Θ (.Call (.Name xl pl) [.Call (.Name xz pz) [a] [] pos2] [] pos) (M.eCall M.fLenSet m) := by with_unfolding_all exact me_lenset (m := m) hr hgl hml hvl hgz hmz hvz ha hnl hdl hnz hdz hsa
theorem bt_set : bootBuiltins "set" = some (.type "set") := by decide +kernel
end
end L2
namespace L2
open PySem PySem.Spec PyProof.Rows
theorem Inv.swapD {X : Cx} {pins : List (Addr × Obj)} {σ : St} {H : Hp} {s : Shared} {a : Addr} {u0 u1 : HO} (I : Inv X pins σ H s) (e : H a = some u0) (n1 : ∀ xs, u0 ≠ .tup xs) (n2 : ∀ o u, X.H₀ a ≠ some (.frz o u)) (n3 : ∀ ps, u0 ≠ .tbl ps) (n4 : ∀ x, u0 ≠ .own x)
    (new : ObjOk X.prog X.w (upd H a u1) s.heap a u1) : Inv X pins σ (upd H a u1) s := by
  have nn : ∀ {b}, H b = none → b ≠ a := fun z q => by rw [q, e] at z; cases z
  refine ⟨I.ok, I.os, I.bare, ⟨I.base.keep, I.base.slot, fun b ob q n hx => ?_, I.base.there, fun b xs q => ?_, fun b ob u q => ?_, fun b ps q => ?_⟩, I.loc, I.cell, ?_, fun x c q => ?_, fun p hp' => ?_, fun b u q => ?_, I.len, I.tk⟩
  · have z := I.base.free b ob q n hx
    rw [upd_ne (nn z)]; exact z
  · have z := I.base.tups b xs q
    rw [upd_ne (fun w => by rw [w, e] at z; cases z; exact n1 xs rfl)]; exact z
  · have z := I.base.frzs b ob u q
    rw [upd_ne (fun w => by rw [w] at q; exact n2 _ _ q)]; exact z
  · obtain ⟨mo, z⟩ := I.base.tbls b ps q
    exact ⟨mo, by rw [upd_ne (fun w => by rw [w, e] at z; cases z; exact n3 _ rfl)]; exact z⟩
  · rw [upd_ne (nn I.free)]; exact I.free
  · rw [upd_ne (nn (I.freeC x c q))]; exact I.freeC x c q
  · obtain ⟨e1, e2, e3, e4, e5⟩ := I.pin p hp'
    exact ⟨e1, by rw [upd_ne (nn e2)]; exact e2, e3, e4, e5⟩
  · by_cases hb : b = a
    · subst hb; rw [upd_same] at q; cases q; exact new
    · rw [upd_ne hb] at q
      exact (I.hok b u q).stay (fun _ _ _ q => q) (fun c z => by rw [upd_ne (fun w => by rw [w, e] at z; cases z; exact n4 _ rfl)]; exact z) fun c xs z => by rw [upd_ne (fun w => by rw [w, e] at z; cases z; exact n1 _ rfl)]; exact z
theorem Inv.dict_base {X : Cx} {pins : List (Addr × Obj)} {σ : St} {H : Hp} {s : Shared} {a : Addr} {kvs : List (Key × V)} (I : Inv X pins σ H s) (e : H a = some (.dK kvs)) : ∀ o u, X.H₀ a ≠ some (.frz o u) := fun o u q => by
  have z := I.base.frzs a o u q
  rw [e] at z; cases z
theorem Inv.freeze {X : Cx} {pins : List (Addr × Obj)} {σ : St} {H : Hp} {s : Shared} {a : Addr} {kvs : List (Key × V)} (I : Inv X pins σ H s) (e : H a = some (.dK kvs)) :
    ∃ o vs ep, KV kvs vs ∧ (∀ h : Heap, h.get? a = some o → h.DictAt (mixKind X.prog X.w) a vs ep) ∧ s.heap.get? a = some o ∧ Inv X pins σ (upd H a (.frz o (.dK kvs))) s := by
  have x := I.hok a _ e
  obtain ⟨z, hd, vs, rel, o, es, ep, ho, r⟩ := id x
  refine ⟨o, vs, ep, rel, fun h q => ⟨o, es, q, r⟩, ho, I.swapD e (fun _ q => nomatch q) (I.dict_base e) (fun _ q => nomatch q) (fun _ q => nomatch q) ⟨ho, z, hd, vs, rel, o, es, ep, ho, r⟩⟩
theorem Inv.thaw {X : Cx} {pins : List (Addr × Obj)} {σ : St} {H : Hp} {s : Shared} {a : Addr} {o : Obj} {kvs : List (Key × V)} (I : Inv X pins σ H s) (e : H a = some (.frz o (.dK kvs))) (n2 : ∀ o u, X.H₀ a ≠ some (.frz o u)) : Inv X pins σ (upd H a (.dK kvs)) s := by
  obtain ⟨_, z, hd, vs, rel, dd⟩ := (show ObjOk X.prog X.w H s.heap a (.frz o (.dK kvs)) from I.hok a _ e)
  exact I.swapD e (fun _ q => nomatch q) n2 (fun _ q => nomatch q) (fun _ q => nomatch q) ⟨z, hd, vs, rel, dd⟩
def Iti (a : Addr) (o : Obj) (kvs : List (Key × V)) : It :=
  ⟨fun i H => H a = some (.frz o (.dK kvs)) ∧ ∃ p, kvs[i]? = some p, fun i H v H' => ∃ q p, H q = none ∧ v = .ref q ∧ kvs[i]? = some p ∧ H' = upd H q (.tup [kV p.1, p.2]), fun i H => H a = some (.frz o (.dK kvs)) ∧ kvs.length ≤ i⟩
theorem is_kV {P : Program} {w : World} {k : Key} {u : Value} (h : (mixKind P w).is k u = true) : RelV (kV k) u := by
  rcases keyIs_shape h with ⟨i, t, rfl, rfl⟩ | ⟨x, t, rfl, rfl⟩
  · exact ⟨t, rfl⟩
  · exact ⟨t, rfl⟩
theorem kv_get : ∀ {kvs : List (Key × V)} {vs : List (Key × Value)} {i : Nat} {p : Key × V}, KV kvs vs → kvs[i]? = some p → ∃ q, vs[i]? = some q ∧ p.1 = q.1 ∧ RelV p.2 q.2
  | _, _, 0, _, .cons h _, e => by cases e; exact ⟨_, rfl, h⟩
  | _ :: ks, _ :: ws, n + 1, p, .cons _ t, e => by
    obtain ⟨q, hq, r⟩ := kv_get (kvs := ks) (vs := ws) (i := n) (p := p) t (by simpa using e)
    exact ⟨q, by simpa using hq, r⟩
  | _, _, _, _, .nil, e => by simp at e
theorem entry_itemit : entryFor table "dict_itemiterator.__iter__" = some Builtin.«dict_keyiterator.__iter__» :=
  entryFor_alias (id' := "dict_keyiterator.__iter__") (by kernel_rfl) (by first | rfl | decide +kernel | (unfold String.splitOn; simp +decide [String.splitOnAux])) (by decide +kernel) (by kernel_rfl)
theorem turn_items {P : Program} {w : World} {K : PySem.W.Frag} {elts : List Expr} {kt : _} {tp : Pos} (a it : Addr) (o : Obj) (kvs : List (Key × V)) (vs : List (Key × Value)) (ep : Nat) (rel : KV kvs vs) (hd : ∀ h : Heap, h.get? a = some o → h.DictAt (mixKind P w) a vs ep) :
    Turn P w K (.Tuple elts kt tp) (Iti a o kvs) [it] it (fun i h => ∃ x y, IsItemIter h it a i vs.length ep x y) where
  mem := by simp
  obj := fun i h ⟨x, y, hi⟩ b hb => by
    have z : b = it := by simpa using hb
    subst z
    exact ⟨_, hi, fun v z => nomatch z⟩
  keep := fun i h h' ⟨x, y, hi⟩ k => ⟨x, y, k it (by simp) _ hi⟩
  item := by
    intro X hP hw hK hc i pins s σ H E I hf ⟨x, y, hi⟩ hg
    subst hP hw hK
    obtain ⟨ha, p, hp⟩ := hg
    obtain ⟨go, _⟩ := (show ObjOk X.prog X.w H s.heap a (.frz o (.dK kvs)) from I.hok a _ ha)
    obtain ⟨q, hq, r1, r2⟩ := kv_get rel hp
    obtain ⟨k, v⟩ := q
    obtain ⟨f0, f1, f2, f3, f4, f5⟩ := hf it (by simp)
    have hit : it ≠ s.heap.objs.size := Nat.ne_of_lt (Heap.lt_size hi)
    refine wpAny_pyNext_items_item hi (hd _ go) hq fun key h' hk ho hT hsz kk => ?_
    refine ⟨_, rfl, wpAny_letOwnedTupleGo_items ho fun h2 hi2 hs2 => ?_⟩
    have hn : H s.heap.objs.size = none := I.hok.fresh (Nat.le_refl _)
    have I1 : Inv X pins σ H { s with heap := h2, toks := s.toks } := I.turnedL (ch := [it]) hf (fun b ob hb g => by
      have nb : b ≠ it := fun z => hb (by simp [z])
      exact hs2.extBut _ _ nb (kk b ob nb g)) I.tk
    have I2 : Inv X pins σ (upd H s.heap.objs.size (.tup [kV p.1, p.2])) { s with heap := h2 } := I1.track I.sz hn (Nat.ne_of_gt I.lt) (fun x c e => by obtain ⟨v, hv⟩ := I.cell x c e; exact Nat.ne_of_lt hv.lt) (fun p hp => Nat.ne_of_lt (Heap.lt_size (I.pin p hp).1))
      ⟨show 2 ≤ sizeLine by decide, [key, v], .cons (by rw [r1]; exact is_kV hk) (.cons r2 .nil), ⟨_, hs2.extBut _ _ (Ne.symm hit) hT, rfl, _, rfl⟩⟩
    refine ⟨.ref s.heap.objs.size, _, I2, rfl, ⟨_, p, hn, rfl, hp, rfl⟩, ⟨_, _, hi2⟩, fun c hc => ?_⟩
    have z : c = it := by simpa using hc
    subst z
    rw [upd_ne hit]
    exact f0
  done := by
    intro X hP hw hK hc i pins s σ H E I hf ⟨x, y, hi⟩ hg
    subst hP hw hK
    obtain ⟨ha, hl⟩ := hg
    obtain ⟨go, _⟩ := (show ObjOk X.prog X.w H s.heap a (.frz o (.dK kvs)) from I.hok a _ ha)
    have el : kvs.length = vs.length := Paired.length rel
    exact wpAny_pyNext_items_end (I.ok.hd hc) hi (hd _ go) (List.getElem?_eq_none (by omega)) fun h' hk => ⟨rfl, I.turnedL (t' := s.toks) (ch := [it]) hf (fun b ob hb g => hk b ob (fun z => hb (by simp [z])) g) I.tk⟩
  self := fun A i s Q E ⟨x, y, hi⟩ h => by
    have hT : s.TypeIs (.ref it) "dict_itemiterator" := ⟨_, hi, rfl⟩
    refine wpAny_pyIter_slot hT PySem.F.slot_dict_itemiterator_iter (wpAny_call_entry PySem.F.slot_dict_itemiterator_iter hT entry_itemit ?_ (PySem.F.args_dict_itemiterator_iter_1 _))
    show wpAny (model P w) _ (ret (.ref it)) _ _ s
    exact wpAny_pure ⟨_, rfl, "dict_itemiterator", _, hT, PySem.F.slot_dict_itemiterator_next.lookup, h⟩
def iItm (H₀ : Hp) (te : TE) : TI := fun σ H R => te σ H fun v H1 => ∃ a kvs, v = .ref a ∧ H1 a = some (.dK kvs) ∧ ∀ o, (∀ o u, H₀ a ≠ some (.frz o u)) → R (Iti a o kvs) (upd H1 a (.frz o (.dK kvs)))
theorem pi_items {X : Cx} {e : Expr} {te : TE} {apos cpos : Pos} {elts : List Expr} {kt : _} {tp : Pos} (he : PE X e te)
    (hbase : attributeBase e "items" X.env (eval e X.env) = eval e X.env := by rfl) (hline : (apos.endLine == cpos.line) = true := by rfl) : PI X (.Tuple elts kt tp) (.Call (.Attribute e "items" apos) [] [] cpos) (iItm X.H₀ te) := by
  intro pins s σ H R I h
  refine wpAny_Call_method0_late hbase hline (thn (he pins s σ H _ I h) fun v s1 ⟨x, H1, I1, r1, q1⟩ => ?_)
  obtain ⟨a, kvs, rfl, ha, q⟩ := q1
  have ty : tyV X.K "dict" (.ref a) H1 := Or.inr (Or.inr (Or.inl ⟨rfl, Or.inl ⟨kvs, ha⟩⟩))
  obtain ⟨t1, t2⟩ := tyV_is (T := "dict") I1 r1 ty
  obtain rfl : v = Value.ref a := r1
  have x := I1.hok a _ ha
  obtain ⟨z, hd, vs, rel, dd⟩ := id x
  refine ⟨"dict", "dict.items", PySem.F.plainAttrs_dict, PySem.F.slot_dict_items, PySem.F.type_dict_items, t1, t2, Calls.callWith_builtin rfl (PySem.evalArgs_none ?_)⟩
  refine call_meetsIn PySem.F.slot_dict_items dd.typeIs PySem.F.entry_dict_items (PySem.F.args_dict_items_1 _) (meets_dict_items (mixKind X.prog X.w) a hd) ⟨⟨vs, dd⟩, ?_⟩
  obtain ⟨o, vs', ep, rel', hD, go, I2⟩ := I1.freeze ha
  have up : ∀ {h : Heap} {o p b}, h.get? b = some o → (h.push p).get? b = some o := fun e => Heap.get?_push_of_some _ e
  refine wpAny_pyIter_items ⟨_, Heap.get?_push_size _ rfl, rfl, rfl⟩ (hD _ (up go)) ?_
  have n1 : (s1.heap.push { cls := .type "dict_items", data := .fields #[.ref a] }).objs.size = s1.heap.objs.size + 1 := Heap.size_push ..
  refine ⟨s1.heap.objs.size + 1, [s1.heap.objs.size + 1], _, _, upd H1 a (.frz o (.dK kvs)), by rw [← n1], I2.kept (t' := s1.toks) (fun b ob e => up (up e)), turn_items a _ o kvs vs' ep rel' hD, ⟨Value.none, Value.none, ?_⟩, fun b hb => ?_, q o (I1.dict_base ha)⟩
  · have g := Heap.get?_push_size (h := s1.heap.push { cls := .type "dict_items", data := .fields #[.ref a] }) (o := { cls := .type "dict_itemiterator", data := .fields #[.none, .bool false, .ref a, .int 0 0, .int vs'.length 0, .int ep 0, .none, .none] }) rfl
    rw [n1] at g
    exact g
  · have zb : b = s1.heap.objs.size + 1 := by simpa using hb
    subst zb
    exact I2.fpOk (Nat.le_succ _) (I2.hok.fresh (Nat.le_succ _))
section
variable {K : PySem.W.Frag} {Θ : Tab} {ρ : List Addr} {H H' : Hp}
mutual
theorem RelD.move (hT : ∀ b xs, SqT K H b xs → SqT K H' b xs) (hR : ∀ b xs, RolL K H b xs → RolL K H' b xs) : ∀ {d : M.D} {v : V}, RelD K ρ H d v → RelD K ρ H' d v
  | .non, _, h => h
  | .bl _, _, h => h
  | .int _, _, h => h
  | .str _, _, h => h
  | .ty _, _, h => h
  | .ref _, _, h => h
  | .tup _, _, ⟨a, xs, e, h, r⟩ => ⟨a, xs, e, hT a xs h, RelDs.move hT hR r⟩
  | .ro _, _, ⟨a, xs, e, h, r⟩ => ⟨a, xs, e, hR a xs h, RelDs.move hT hR r⟩
theorem RelDs.move (hT : ∀ b xs, SqT K H b xs → SqT K H' b xs) (hR : ∀ b xs, RolL K H b xs → RolL K H' b xs) : ∀ {ds : List M.D} {xs : List V}, RelDs K ρ H ds xs → RelDs K ρ H' ds xs
  | [], _, h => h
  | _ :: _, _, ⟨y, ys, e, h, r⟩ => ⟨y, ys, e, RelD.move hT hR h, RelDs.move hT hR r⟩
end
section
variable {a : Addr} {o : Obj} {ks : List (Key × V)} (ha : H a = some (.frz o (.dK ks)))
include ha
theorem thaw_T : ∀ b xs, SqT K H b xs → SqT K (upd H a (.dK ks)) b xs := fun b xs h => by
  rcases h with (h | ⟨o', h⟩) | h
  · exact .inl (.inl (by rw [upd_ne (fun z => by rw [z, ha] at h; cases h)]; exact h))
  · exact .inl (.inr ⟨o', by rw [upd_ne (fun z => by rw [z, ha] at h; cases h)]; exact h⟩)
  · exact .inr h
theorem thaw_R : ∀ b xs, RolL K H b xs → RolL K (upd H a (.dK ks)) b xs := fun b xs h => by
  rcases h with ⟨o', h⟩ | h
  · exact .inl ⟨o', by rw [upd_ne (fun z => by rw [z, ha] at h; cases h)]; exact h⟩
  · exact .inr h
theorem RelD.thaw {d : M.D} {v : V} (r : RelD K ρ H d v) : RelD K ρ (upd H a (.dK ks)) d v := RelD.move (thaw_T ha) (thaw_R ha) r
theorem RelSt.thaw {σ' : M.St} {σ : St} (h : RelSt K ρ H σ' σ) : RelSt K ρ (upd H a (.dK ks)) σ' σ :=
  ⟨h.len, fun i d e => let ⟨v, h1, h2⟩ := h.get i d e; ⟨v, h1, RelD.thaw ha h2⟩⟩
theorem ObR.thaw {b : Addr} {ob : M.O} (nb : b ≠ a) (h : ObR K Θ ρ H b ob) : ObR K Θ ρ (upd H a (.dK ks)) b ob := by
  have e := upd_ne (H := H) (o := .dK ks) nb
  cases ob with
  | lst ds => obtain ⟨xs, e1, r⟩ := h; exact ⟨xs, e.trans e1, RelDs.move (thaw_T ha) (thaw_R ha) r⟩
  | dct kvs => obtain ⟨ks, e1, r⟩ := h; exact ⟨ks, e.trans e1, Paired.mapP r fun p q z => ⟨z.1, RelD.thaw ha z.2⟩⟩
  | ins c fs =>
    rcases h with ⟨f1, f2, u, f3⟩ | ⟨C, dx, gs, N, e1, e2, r⟩
    · exact .inl ⟨f1, f2, u, e.trans f3⟩
    exact .inr ⟨C, dx, gs, N, e.trans e1, e2, r.len, r.nd, r.within, fun i f d h1 h2 => let ⟨v, k1, k2⟩ := r.get i f d h1 h2; ⟨v, k1, RelD.thaw ha k2⟩⟩
theorem RepS.thaw {S : M.S} {i : Nat} {kvs : List (M.D × M.D)} (h : RepS K Θ ρ S H) (hi : ρ[i]? = some a) (r : Paired (fun (p : M.D × M.D) (q : Key × V) => KeyR p.1 q.1 ∧ RelD K ρ (upd H a (.dK ks)) p.2 q.2) kvs ks) : RepS K Θ ρ (S.set i (.dct kvs)) (upd H a (.dK ks)) := by
  refine ⟨by simp [h.len], h.nd, fun j ob q => ?_⟩
  by_cases hj : i = j
  · subst hj
    by_cases hl : i < S.length
    · rw [List.getElem?_set_self hl] at q
      cases q
      exact ⟨a, hi, ks, upd_same, r⟩
    · rw [List.getElem?_eq_none (by rw [List.length_set]; omega)] at q
      cases q
  · rw [List.getElem?_set_ne hj] at q
    obtain ⟨b, h1, h2⟩ := h.obj j ob q
    exact ⟨b, h1, ObR.thaw ha (fun z => hj (nodup_at h.nd hi (z ▸ h1))) h2⟩
end
theorem paired_at {α β : Type} {R : α → β → Prop} : ∀ {xs : List α} {ys : List β} {i : Nat} {y : β}, Paired R xs ys → ys[i]? = some y → ∃ x, xs[i]? = some x ∧ R x y
  | _, _, 0, _, .cons h _, e => by cases e; exact ⟨_, rfl, h⟩
  | _ :: ks, _ :: ws, n + 1, p, .cons _ t, e => by
    obtain ⟨q, hq, r⟩ := paired_at (xs := ks) (ys := ws) (i := n) (y := p) t (by simpa using e)
    exact ⟨q, by simpa using hq, r⟩
  | _, _, _, _, .nil, e => by simp at e
theorem KeyR.rel {d : M.D} {k : Key} (h : KeyR d k) : RelD K ρ H d (kV k) := by
  cases d with
  | int i => cases h; rfl
  | str x => obtain ⟨rfl, ok⟩ := h; exact ⟨rfl, ok⟩
  | _ => exact h.elim
theorem itr_items {a : Addr} {o : Obj} {kvs : List (M.D × M.D)} {ks : List (Key × V)} (ha : H a = some (.frz o (.dK ks))) (r : Paired (fun (p : M.D × M.D) (q : Key × V) => KeyR p.1 q.1 ∧ RelD K ρ H p.2 q.2) kvs ks) : ItR K Θ ρ H (Iti a o ks) (kvs.map fun p => .tup [p.1, p.2]) [] := by
  have el : kvs.length = ks.length := Paired.length r
  refine ⟨fun j ρ' S' H' p l rp g hj => ?_, fun j ρ' S' H' v H2 p l rp g hj y => ?_, fun ρ' S' H' p l rp g => ?_⟩
  · rw [List.length_map, el] at hj
    exact ⟨l.frzs _ _ _ ha, ks[j], by simp [hj]⟩
  · obtain ⟨q, kv, hn, rfl, hk, rfl⟩ := y
    obtain ⟨x, hx, r1, r2⟩ := paired_at r hk
    have ln := Le.new hn (.tup [kV kv.1, kv.2])
    exact ⟨.tup [x.1, x.2], by rw [List.getElem?_map, hx]; rfl, ⟨q, _, rfl, SqT.of upd_same, _, _, rfl, KeyR.rel r1, _, _, rfl, r2.mono p (l.trans ln), rfl⟩, ln, rp.aside hn _⟩
  · exact ⟨l.frzs _ _ _ ha, by rw [List.length_map, el]; exact Nat.le_refl _⟩
end
def thawE (H₀ : Hp) (D : Ends) : Ends where
  nx := fun σ H => ∃ a o ks, H a = some (.frz o (.dK ks)) ∧ (∀ o u, H₀ a ≠ some (.frz o u)) ∧ D.nx σ (upd H a (.dK ks))
  rt := fun v H => ∃ a o ks, H a = some (.frz o (.dK ks)) ∧ (∀ o u, H₀ a ≠ some (.frz o u)) ∧ D.rt v (upd H a (.dK ks))
  bk := fun σ H => ∃ a o ks, H a = some (.frz o (.dK ks)) ∧ (∀ o u, H₀ a ≠ some (.frz o u)) ∧ D.bk σ (upd H a (.dK ks))
  ct := fun σ H => ∃ a o ks, H a = some (.frz o (.dK ks)) ∧ (∀ o u, H₀ a ≠ some (.frz o u)) ∧ D.ct σ (upd H a (.dK ks))
theorem ps_thaw {X : Cx} {st : Stmt} {t : TS} (h : PS X st t) : PS X st fun D σ H => t (thawE X.H₀ D) σ H := fun pins s σ H D I q => thn (h pins s σ H _ I q) fun f s1 z => by
  cases f with
  | next => obtain ⟨σ1, H1, I1, a, o, ks, e, n, d⟩ := z; exact ⟨σ1, _, I1.thaw e n, d⟩
  | brk => obtain ⟨σ1, H1, I1, a, o, ks, e, n, d⟩ := z; exact ⟨σ1, _, I1.thaw e n, d⟩
  | cont => obtain ⟨σ1, H1, I1, a, o, ks, e, n, d⟩ := z; exact ⟨σ1, _, I1.thaw e n, d⟩
  | ret u => obtain ⟨v, σ1, H1, I1, r, a, o, ks, e, n, d⟩ := z; exact ⟨v, σ1, _, I1.thaw e n, r, d⟩
section
variable {X : Cx} {Θ : Tab}
theorem post_thaw {K : PySem.W.Frag} {H₀ : Hp} {ρ : List Addr} {H : Hp} {i : Nat} {a : Addr} {o : Obj} {kvs : List (M.D × M.D)} {ks : List (Key × V)} {r : M.RS} {D : Ends} (hi : ρ[i]? = some a) (ha : H a = some (.dK ks)) (n : ∀ o u, H₀ a ≠ some (.frz o u)) (pr : Paired (fun (p : M.D × M.D) (q : Key × V) => KeyR p.1 q.1 ∧ RelD K ρ H p.2 q.2) kvs ks)
    (h : PostS K Θ ρ H (M.thaw i kvs r) D) : PostS K Θ ρ (upd H a (.frz o (.dK ks))) r (thawE H₀ D) := by
  have key : ∀ {ρ' : List Addr} {H' : Hp} {S : M.S}, ρ <+: ρ' → Le (upd H a (.frz o (.dK ks))) H' → RepS K Θ ρ' S H' → H' a = some (.frz o (.dK ks)) ∧ Le H (upd H' a (.dK ks)) ∧ RepS K Θ ρ' (S.set i (.dct kvs)) (upd H' a (.dK ks)) := fun {ρ' H' S} p l rp => by
    have e := l.frzs a o (.dK ks) upd_same
    have le : Le H (upd H' a (.dK ks)) := by
      refine ⟨fun b xs q => ?_, fun b ob u q => ?_⟩
      · have nb : b ≠ a := fun z => by rw [z, ha] at q; cases q
        rw [upd_ne nb]
        exact l.tups b xs (by rw [upd_ne nb]; exact q)
      · have nb : b ≠ a := fun z => by rw [z, ha] at q; cases q
        rw [upd_ne nb]
        exact l.frzs b ob u (by rw [upd_ne nb]; exact q)
    exact ⟨e, le, rp.thaw e (pre_get p hi) (Paired.mapP pr fun x y z => ⟨z.1, z.2.mono p le⟩)⟩
  cases r with
  | nx σ1 S1 =>
    intro ρ' H' σ p l rp st
    obtain ⟨e, le, rp'⟩ := key p l rp
    have h' : PostS K Θ ρ H (if S1[i]? = some (.ins 1000 []) then .nx σ1 (S1.set i (.dct kvs)) else .no) D := h
    split at h'
    · exact ⟨a, o, ks, e, n, h' ρ' _ σ p le rp' (RelSt.thaw e st)⟩
    · exact h'.elim
  | bk σ1 S1 =>
    intro ρ' H' σ p l rp st
    obtain ⟨e, le, rp'⟩ := key p l rp
    have h' : PostS K Θ ρ H (if S1[i]? = some (.ins 1000 []) then .bk σ1 (S1.set i (.dct kvs)) else .no) D := h
    split at h'
    · exact ⟨a, o, ks, e, n, h' ρ' _ σ p le rp' (RelSt.thaw e st)⟩
    · exact h'.elim
  | ct σ1 S1 =>
    intro ρ' H' σ p l rp st
    obtain ⟨e, le, rp'⟩ := key p l rp
    have h' : PostS K Θ ρ H (if S1[i]? = some (.ins 1000 []) then .ct σ1 (S1.set i (.dct kvs)) else .no) D := h
    split at h'
    · exact ⟨a, o, ks, e, n, h' ρ' _ σ p le rp' (RelSt.thaw e st)⟩
    · exact h'.elim
  | rt d S1 =>
    intro ρ' H' v p l rp rv
    obtain ⟨e, le, rp'⟩ := key p l rp
    have h' : PostS K Θ ρ H (if S1[i]? = some (.ins 1000 []) then .rt d (S1.set i (.dct kvs)) else .no) D := h
    split at h'
    · exact ⟨a, o, ks, e, n, h' ρ' _ v p le rp' (RelD.thaw e rv)⟩
    · exact h'.elim
  | exc e σ1 S1 => exact h
  | no => exact h
theorem ms_forItems {e : Expr} {m : M.EM} {elts : List Expr} {kt : _} {tp pos apos cpos : Pos} {body : List Stmt} {g : M.GM} {js : List Nat} {mb : M.SM} (hp : PassesOwn (model X.prog X.w) X.A X.env X.xe) (hc : X.calm = true) (hΘ : Θ 1000 = none) (he : ME X Θ e m) (hg : MG X Θ js (.Tuple elts kt tp) g) (hb : MSs X Θ body mb)
    (hbase : attributeBase e "items" X.env (eval e X.env) = eval e X.env := by rfl) (hline : (apos.endLine == cpos.line) = true := by rfl) (hs : ∀ x, foldedSetIterable (.Call (.Attribute e "items" apos) [] [] cpos) X.env x = pure x := by intro _; rfl) : MS X Θ (.For (.Tuple elts kt tp) (.Call (.Attribute e "items" apos) [] [] cpos) body [] pos) (M.sForItems m g mb) :=
  (ps_thaw (ps_for hp hc (pi_items he hbase hline) hg hb hs)).imp fun D σ H ⟨ρ, σ', S, st, rp, h⟩ => by
    refine ⟨ρ, σ', S, st, rp, PostS.stm h fun ρ1 H1 d v S1 p1 l1 rp1 rv h1 => ?_⟩
    cases d with
    | ref i =>
      obtain ⟨a, rfl, hi⟩ := rv
      have h1' : PostS X.K Θ ρ1 H1 (match S1[i]? with
        | some (.dct kvs) => M.thaw i kvs (M.forL [] (M.forF g mb) (kvs.map fun p => .tup [p.1, p.2]) σ' (S1.set i (.ins 1000 [])))
        | _ => .no) D := h1
      cases q : S1[i]? with
      | none => rw [q] at h1'; exact h1'.elim
      | some ob =>
        rw [q] at h1'
        cases ob with
        | dct kvs =>
          obtain ⟨b, hb', ks, ha, pr⟩ := rp1.obj i _ q
          rw [hi] at hb'; cases hb'
          refine ⟨a, ks, rfl, ha, fun o n => ?_⟩
          have le : Le H1 (upd H1 a (.frz o (.dK ks))) := Le.put (mut_dK ha) _
          exact for_W (itr_items upd_same (Paired.mapP pr fun x y z => ⟨z.1, z.2.mono (List.prefix_refl _) le⟩)) (st.mono p1 (l1.trans le)) (rp1.put (o := .ins 1000 []) hi (mut_dK ha) (Or.inl ⟨hΘ, rfl, _, upd_same⟩)) rfl (post_thaw hi ha n pr h1')
        | lst xs => exact h1'.elim
        | ins c fs => exact h1'.elim
    | _ => exact h1.elim
theorem w_ms_forItems {e : Expr} {m : M.EM} {elts : List Expr} {kt : _} {tp pos apos cpos : Pos} {body : List Stmt} {g : M.GM} {js : List Nat} {mb : M.SM} (hp : PassesOwn (model X.prog X.w) X.A X.env X.xe) (hc : X.calm = true) (hΘ : Θ 1000 = none) (he : WE X Θ e m) (hg : WG X Θ js (.Tuple elts kt tp) g) (hb : WSs X Θ body mb)
    (hbase : attributeBase e "items" X.env (eval e X.env) = eval e X.env := by rfl) (hline : (apos.endLine == cpos.line) = true := by rfl) (hs : ∀ x, foldedSetIterable (.Call (.Attribute e "items" apos) [] [] cpos) X.env x = pure x := by intro _; rfl) : WS X Θ (.For (.Tuple elts kt tp) (.Call (.Attribute e "items" apos) [] [] cpos) body [] pos) (M.sForItems m g mb) := by with_unfolding_all exact ms_forItems (e := e) (m := m) (elts := elts) (kt := kt) (tp := tp) (pos := pos) (apos := apos) (cpos := cpos) (body := body) (g := g) (js := js) (mb := mb) hp hc hΘ he hg hb hbase hline hs
end
end L2
set_option maxHeartbeats 4000000
namespace M
noncomputable section
def b__law_cell : SM :=
    (sSeq (sIf (tCmp cLt (eVar 1) (eCall fLen (aCons (eVar 0) aNil)))
    (sRet (eOp opIx (eVar 0) (eVar 1)))
    sNil)
    (sRet (eC (.int 0))))
def m__law_cell : F := fn 2 b__law_cell
def cellD (xs : List D) (k : Int) : D := xs.getD k.toNat (.int 0)
def q__law_cell : F
  | [.ro xs, .int k], s => if 0 ≤ k then .ok (cellD xs k) s else .no
  | _, _ => .no
theorem atI_in {α : Type} {xs : List α} {k : Int} (h0 : 0 ≤ k) (h : k < xs.length) (d : α) : atI xs k = some (xs.getD k.toNat d) := by
  unfold atI ixN
  rw [if_pos h0, if_pos h]
  have hk : k.toNat < xs.length := by omega
  simp [List.getD_eq_getElem?_getD, hk]
theorem cl_getD {n : Nat} {xs : List D} (h : D.cl.all n xs = true) (k : Nat) (d : D) (hd : D.cl n d = true) : D.cl n (xs.getD k d) = true := by
  induction xs generalizing k with
  | nil => exact hd
  | cons x xs ih =>
    have h' : (D.cl n x && D.cl.all n xs) = true := h
    rw [Bool.and_eq_true] at h'
    cases k with
    | zero => exact h'.1
    | succ k => exact ih h'.2 k
theorem rf__law_cell : Refines 2 m__law_cell q__law_cell := Refines.pure fun ds S hl c ca => by
  match ds, hl with
  | [a, b], _ =>
    cases a with
    | ro xs =>
      cases b with
      | int k =>
        by_cases h0 : 0 ≤ k
        · refine .inr ⟨cellD xs k, [], by simp [q__law_cell, h0], ?_, ?_⟩
          · by_cases h : k < (xs.length : Int)
            · simp [m__law_cell, b__law_cell, h, atI_in h0 h (.int 0), cellD]
            · have h2 : cellD xs k = .int 0 := by unfold cellD; rw [List.getD_eq_getElem?_getD, List.getElem?_eq_none (by omega)]; rfl
              simp [m__law_cell, b__law_cell, h, h2]
          · have ca' : (D.cl.all S.length xs && true) = true := ca
            rw [Bool.and_true] at ca'
            exact cl_getD ca' _ _ rfl
        · exact .inl (by simp [q__law_cell, h0])
      | _ => exact .inl rfl
    | _ => exact .inl rfl
def b__law_mixed : SM :=
    (sRet (eOp opMod (eOp opMul (eOp opAdd (eVar 0) (eOp opMul (eC (.int 7919)) (eVar 1))) (eC (.int 48271))) (eC (.int 2147483647))))
def m__law_mixed : F := fn 2 b__law_mixed
def mix (c k : Int) : Int := (c + 7919 * k) * 48271 % 2147483647
def q__law_mixed : F
  | [.int c, .int k], s => .ok (.int (mix c k)) s
  | _, _ => .no
theorem rf__law_mixed : Refines 2 m__law_mixed q__law_mixed := Refines.pure fun ds S hl c ca => by
  match ds, hl with
  | [a, b], _ =>
    cases a with
    | int c =>
      cases b with
      | int k =>
        have h1 : small 7919 = true := by decide
        have h2 : small 48271 = true := by decide
        exact .inr ⟨_, [], rfl, by simp [m__law_mixed, b__law_mixed, h1, h2, mix], rfl⟩
      | _ => exact .inl rfl
    | _ => exact .inl rfl
def p__law_name_1 : SM :=
    (sSet 2 (eC (.str [97, 98, 99, 100, 101, 102, 103, 104, 105, 106, 107, 108, 109, 110, 111, 112, 113, 114, 115, 116, 117, 118, 119, 120, 121, 122, 46, 42, 48, 32, 90, 10])))
def p__law_name_2 : SM :=
    (sSet 3 (eCall q__law_mixed (aCons (eVar 0) (aCons (eC (.int 5)) aNil))))
def p__law_name_3 : SM :=
    (sSet 4 (eCompK (kJoin []) 1 (iRange1 (eOp opMod (eVar 3) (eC (.int 9)))) (gName 6) tYes (eOp opIx (eVar 2) (eOp opMod (eCall q__law_mixed (aCons (eVar 0) (aCons (eVar 6) aNil))) (eC (.int 32))))))
def p__law_name_4 : SM :=
    (sIf (tAnd (tTru (eVar 1)) (tCmp cGt (eOp opMod (eVar 0) (eC (.int 3))) (eC (.int 0))))
    (sSeq (sSet 4 (eOp opIx (eVar 1) (eOp opMod (eVar 3) (eCall fLen (aCons (eVar 1) aNil)))))
    (sSeq (sSet 4 (eOp opAdd (eVar 4) (eSl (eC (.str [97])) (oSome (eCall fLen (aCons (eVar 4) aNil))) oNone)))
    (sSeq (sSet 5 (eOp opMod (eOp opDiv (eVar 3) (eC (.int 60))) (eCall fLen (aCons (eVar 4) aNil))))
    (sSet 4 (eOp opAdd (eOp opAdd (eSl (eVar 4) oNone (oSome (eVar 5))) (eOp opIx (eVar 2) (eOp opMod (eOp opDiv (eVar 3) (eC (.int 720))) (eC (.int 32))))) (eSl (eVar 4) (oSome (eOp opAdd (eVar 5) (eC (.int 1)))) oNone))))))
    sNil)
def p__law_name_5 : SM :=
    (sWhile (tCmp cIn (eVar 4) (eVar 1))
    (sSet 4 (eOp opAdd (eVar 4) (eOp opIx (eVar 2) (eOp opMod (eCall q__law_mixed (aCons (eVar 0) (aCons (eCall fLen (aCons (eVar 4) aNil)) aNil))) (eC (.int 32)))))))
def p__law_name_6 : SM :=
    (sRet (eVar 4))
def b__law_name : SM := (sSeq p__law_name_1 (sSeq p__law_name_2 (sSeq p__law_name_3 (sSeq p__law_name_4 (sSeq p__law_name_5 p__law_name_6)))))
def m__law_name : F := fn 6 b__law_name
def signs32 : T := [97, 98, 99, 100, 101, 102, 103, 104, 105, 106, 107, 108, 109, 110, 111, 112, 113, 114, 115, 116, 117, 118, 119, 120, 121, 122, 46, 42, 48, 32, 90, 10]
def sg (i : Int) : Nat := signs32.getD (i % 32).toNat 0
theorem at32 (i : Int) : atI signs32 (i % 32) = some (sg i) :=
  atI_pos (Int.emod_nonneg _ (by decide)) (by rw [show (signs32.length : Int) = 32 from by decide]; exact Int.emod_lt_of_pos _ (by decide)) 0
theorem z32 : signs32.length ≤ SZ := by decide
def f0T (c : Int) : T := (List.range (mix c 5 % 9).toNat).map fun (j : Nat) => sg (mix c j)
def f1T (c : Int) (taken : List T) : T := taken.getD (mix c 5 % taken.length).toNat []
def f2T (c : Int) (taken : List T) : T := f1T c taken ++ ([97] : T).drop (f1T c taken).length
def f3T (c : Int) (taken : List T) : T := (f2T c taken).take (mix c 5 / 60 % (f2T c taken).length).toNat ++ sg (mix c 5 / 720) :: (f2T c taken).drop ((mix c 5 / 60 % (f2T c taken).length).toNat + 1)
def baseT (c : Int) (taken : List T) : T := if taken ≠ [] ∧ 0 < c % 3 then f3T c taken else f0T c
def growT (c : Int) (taken : List T) : Nat → T → T
  | 0, f => f
  | n + 1, f => if f ∈ taken then growT c taken n (f ++ [sg (mix c f.length)]) else f
def nameT (c : Int) (taken : List T) : T := growT c taken 1000 (baseT c taken)
theorem f0_len (c : Int) : (f0T c).length ≤ 8 := by
  unfold f0T
  have h0 := Int.emod_nonneg (mix c 5) (show (9 : Int) ≠ 0 by decide)
  have h1 := Int.emod_lt_of_pos (mix c 5) (show (0 : Int) < 9 by decide)
  rw [List.length_map, List.length_range]; omega
theorem f1_len {c : Int} {taken : List T} {n : Nat} (h : ∀ t ∈ taken, t.length ≤ n) : (f1T c taken).length ≤ n := by
  unfold f1T
  rw [List.getD_eq_getElem?_getD]
  cases q : taken[(mix c 5 % taken.length).toNat]? with
  | none => simp
  | some t => exact h t (List.mem_of_getElem? q)
theorem f2_len {c : Int} {taken : List T} : 1 ≤ (f2T c taken).length ∧ (f2T c taken).length ≤ (f1T c taken).length + 1 := by
  unfold f2T
  rw [List.length_append, List.length_drop]
  simp only [List.length_cons, List.length_nil]
  omega
theorem f3_len {c : Int} {taken : List T} : (f3T c taken).length = (f2T c taken).length := by
  unfold f3T
  have h := (f2_len (c := c) (taken := taken)).1
  have h0 := Int.emod_nonneg (mix c 5 / 60) (show ((f2T c taken).length : Int) ≠ 0 by omega)
  have h1 := Int.emod_lt_of_pos (mix c 5 / 60) (show (0 : Int) < ((f2T c taken).length : Int) by omega)
  rw [List.length_append, List.length_take, List.length_cons, List.length_drop]
  omega
theorem base_len {c : Int} {taken : List T} {n : Nat} (hn : 8 ≤ n) (h : ∀ t ∈ taken, t.length ≤ n) : (baseT c taken).length ≤ n + 1 := by
  unfold baseT
  split
  · rw [f3_len]
    have := f1_len (c := c) h
    have := (f2_len (c := c) (taken := taken)).2
    omega
  · have := f0_len c
    omega
theorem grow_len {c : Int} {taken : List T} {n : Nat} (h : ∀ t ∈ taken, t.length ≤ n) : ∀ (k : Nat) (f : T), f.length ≤ n + 1 → (growT c taken k f).length ≤ n + 1
  | 0, f, hf => hf
  | k + 1, f, hf => by
    unfold growT
    split
    · rename_i hm
      exact grow_len h k _ (by have := h f hm; rw [List.length_append]; simp; omega)
    · exact hf
theorem name_len {c : Int} {taken : List T} {n : Nat} (hn : 8 ≤ n) (h : ∀ t ∈ taken, t.length ≤ n) : (nameT c taken).length ≤ n + 1 := grow_len h _ _ (base_len hn h)
def q__law_name : F
  | [.int c, .ref p], s => match s[p]? with
    | some (.lst ds) => (match texts ds with
      | some taken => if taken.length ≤ 100 ∧ (∀ t ∈ taken, t.length ≤ 200) then .ok (.str (nameT c taken)) s else .no
      | none => .no)
    | _ => .no
  | _, _ => .no
theorem texts_eq : ∀ {ds : List D} {rs : List T}, texts ds = some rs → ds = rs.map .str
  | [], rs, h => by simp [texts] at h; subst h; rfl
  | .str x :: ds, rs, h => by
    unfold texts at h
    cases q : texts ds with
    | none => simp [q] at h
    | some ys => simp [q] at h; subst h; rw [texts_eq q]; rfl
  | .non :: _, _, h => by simp [texts] at h
  | .bl _ :: _, _, h => by simp [texts] at h
  | .int _ :: _, _, h => by simp [texts] at h
  | .ty _ :: _, _, h => by simp [texts] at h
  | .ref _ :: _, _, h => by simp [texts] at h
  | .tup _ :: _, _, h => by simp [texts] at h
  | .ro _ :: _, _, h => by simp [texts] at h
abbrev whBody : SM := (sSet 4 (eOp opAdd (eVar 4) (eOp opIx (eVar 2) (eOp opMod (eCall q__law_mixed (aCons (eVar 0) (aCons (eCall fLen (aCons (eVar 4) aNil)) aNil))) (eC (.int 32))))))
theorem wh_name {S : M.S} {p : Nat} {taken : List T} {c : Int} {w3 v5 : Option D} (hp : S[p]? = some (.lst (taken.map .str))) (h : ∀ t ∈ taken, t.length ≤ 200) : ∀ (k : Nat) (f : T), 201 ≤ f.length + k → f.length ≤ 1000 → ∀ N K, k < N → k ≤ K → whileF N (tCmp cIn (eVar 4) (eVar 1)) whBody [some (.int c), some (.ref p), some (.str signs32), w3, some (.str f), v5] S = .nx [some (.int c), some (.ref p), some (.str signs32), w3, some (.str (growT c taken K f)), v5] S
  | k, f, hk, hf, N, K, hN, hK => by
    have hm : inD (.str f) (.ref p) S = .ok (decide (f ∈ taken)) S := by
      have fl : (taken.map D.str).all flat = true := flat_strs _
      simp only [inD, hp]
      rw [if_pos (by rw [fl]; rfl), mem_strs]
      simp
    obtain ⟨N', rfl⟩ : ∃ N', N = N' + 1 := ⟨N - 1, by omega⟩
    by_cases hin : f ∈ taken
    · have hl := h f hin
      obtain ⟨k', rfl⟩ : ∃ k', k = k' + 1 := ⟨k - 1, by omega⟩
      obtain ⟨K', rfl⟩ : ∃ K', K = K' + 1 := ⟨K - 1, by omega⟩
      have ih := wh_name hp h (c := c) (w3 := w3) (v5 := v5) k' (f ++ [sg (mix c f.length)]) (by rw [List.length_append]; simp; omega) (by rw [List.length_append]; simp; omega) N' K' (by omega) (by omega)
      have z1 : f.length ≤ SZ := by unfold SZ; omega
      have z2 : f.length + 1 ≤ SZ := by unfold SZ; omega
      show (((tCmp cIn (eVar 4) (eVar 1)) _ _).stm _ _) = _
      have e1 : (tCmp cIn (eVar 4) (eVar 1)) [some (.int c), some (.ref p), some (.str signs32), w3, some (.str f), v5] S = .ok true S := by
        show ((R.ok (D.str f) S).bind fun x s => (R.ok (D.ref p) s).bind fun y s => inD x y s) = _
        rw [R.bind_ok, R.bind_ok, hm]
        simp [hin]
      have e2 : whBody [some (.int c), some (.ref p), some (.str signs32), w3, some (.str f), v5] S = .nx [some (.int c), some (.ref p), some (.str signs32), w3, some (.str (f ++ [sg (mix c f.length)])), v5] S := by
        simp [q__law_mixed, z1, z32, at32, z2]
      rw [e1, R.stm_ok, if_pos rfl, e2]
      show whileF N' _ _ _ _ = _
      rw [ih]
      show _ = RS.nx [_, _, _, _, some (.str (if f ∈ taken then growT c taken K' (f ++ [sg (mix c f.length)]) else f)), _] S
      rw [if_pos hin]
    · show (((tCmp cIn (eVar 4) (eVar 1)) _ _).stm _ _) = _
      have e1 : (tCmp cIn (eVar 4) (eVar 1)) [some (.int c), some (.ref p), some (.str signs32), w3, some (.str f), v5] S = .ok false S := by
        show ((R.ok (D.str f) S).bind fun x s => (R.ok (D.ref p) s).bind fun y s => inD x y s) = _
        rw [R.bind_ok, R.bind_ok, hm]
        simp [hin]
      rw [e1, R.stm_ok, if_neg Bool.false_ne_true]
      cases K with
      | zero => rfl
      | succ K' =>
        show _ = RS.nx [_, _, _, _, some (.str (if f ∈ taken then growT c taken K' (f ++ [sg (mix c f.length)]) else f)), _] S
        rw [if_neg hin]
theorem name_123 (c : Int) (p : Nat) (S : M.S) (r : SM) : (p__law_name_1 [some (.int c), some (.ref p), none, none, none, none] S).then (sSeq p__law_name_2 (sSeq p__law_name_3 r)) = r [some (.int c), some (.ref p), some (.str signs32), some (.int (mix c 5)), some (.str (f0T c)), none] S := by
  have h0 := Int.emod_nonneg (mix c 5) (show (9 : Int) ≠ 0 by decide)
  have h1 := Int.emod_lt_of_pos (mix c 5) (show (0 : Int) < 9 by decide)
  have hit : iRange1 (eOp opMod (eVar 3) (eC (.int 9))) [some (.int c), some (.ref p), some (.str signs32), some (.int (mix c 5)), none, none] S = .ok (rangeD 0 (mix c 5 % 9), []) S := by
    simp
    omega
  have := comp_range (n := 1) (tg := gName 6) (e := (eOp opIx (eVar 2) (eOp opMod (eCall q__law_mixed (aCons (eVar 0) (aCons (eVar 6) aNil))) (eC (.int 32))))) (fun k => .str [sg (mix c k)]) hit (by unfold SZ; omega) fun k _ => by
    simp [q__law_mixed, z32, at32]
  rw [show ((mix c 5 % 9) - 0).toNat = (mix c 5 % 9).toNat by omega] at this
  have hz : (List.range (mix c 5 % 9).toNat).length ≤ SZ := by rw [List.length_range]; unfold SZ; omega
  have el : ([97, 98, 99, 100, 101, 102, 103, 104, 105, 106, 107, 108, 109, 110, 111, 112, 113, 114, 115, 116, 117, 118, 119, 120, 121, 122, 46, 42, 48, 32, 90, 10] : T) = signs32 := rfl
  simp [p__law_name_1, p__law_name_2, p__law_name_3, q__law_mixed, el, this, join_ones _ _ _ hz]
  rfl
theorem name_4 (c : Int) (p : Nat) (S : M.S) (taken : List T) (hp : S[p]? = some (.lst (taken.map .str))) (ht : taken.length ≤ 100) (h : ∀ t ∈ taken, t.length ≤ 200) : ∃ v, ∀ r, (p__law_name_4 [some (.int c), some (.ref p), some (.str signs32), some (.int (mix c 5)), some (.str (f0T c)), none] S).then r = r [some (.int c), some (.ref p), some (.str signs32), some (.int (mix c 5)), some (.str (baseT c taken)), v] S := by
  by_cases hc : taken ≠ [] ∧ 0 < c % 3
  · have hne : taken ≠ [] := hc.1
    have hlp : 0 < taken.length := List.length_pos_iff.mpr hne
    have hi0 := Int.emod_nonneg (mix c 5) (show (taken.length : Int) ≠ 0 by omega)
    have hi1 := Int.emod_lt_of_pos (mix c 5) (show (0 : Int) < (taken.length : Int) by omega)
    have ha : atI (taken.map D.str) (mix c 5 % (taken.length : Int)) = some (.str (f1T c taken)) := by
      have hl : (mix c 5 % (taken.length : Int)).toNat < taken.length := by omega
      rw [atI_pos hi0 (by rw [List.length_map]; omega) (.str [])]
      simp [f1T, List.getD_eq_getElem?_getD, hl]
    have l1 := f1_len (c := c) h
    have l2 := f2_len (c := c) (taken := taken)
    have g0 := Int.emod_nonneg (mix c 5 / 60) (show ((f2T c taken).length : Int) ≠ 0 by omega)
    have g1 := Int.emod_lt_of_pos (mix c 5 / 60) (show (0 : Int) < ((f2T c taken).length : Int) by omega)
    have c1 : cut ([97] : T) (some ((f1T c taken).length : Int)) none = ([97] : T).drop (f1T c taken).length := by rw [cut_lo _ (by omega)]; simp
    have c2 : cut (f2T c taken) none (some (mix c 5 / 60 % ((f2T c taken).length : Int))) = (f2T c taken).take (mix c 5 / 60 % ((f2T c taken).length : Int)).toNat := cut_hi _ g0
    have c3 : cut (f2T c taken) (some (mix c 5 / 60 % ((f2T c taken).length : Int) + 1)) none = (f2T c taken).drop ((mix c 5 / 60 % ((f2T c taken).length : Int)).toNat + 1) := by
      rw [cut_lo _ (by omega), show (mix c 5 / 60 % ((f2T c taken).length : Int) + 1).toNat = (mix c 5 / 60 % ((f2T c taken).length : Int)).toNat + 1 by omega]
    have hb : baseT c taken = f3T c taken := if_pos hc
    have z1 : (f1T c taken).length ≤ SZ := by unfold SZ; omega
    have z2 : (f2T c taken).length ≤ SZ := by unfold SZ; omega
    have z3 : (f1T c taken).length + (([97] : T).drop (f1T c taken).length).length ≤ SZ := by rw [List.length_drop]; simp; unfold SZ; omega
    have p2 : (0 : Int) < ((f2T c taken).length : Int) := by omega
    have zz1 : (1 : Nat) ≤ SZ := by decide
    refine ⟨some (.int (mix c 5 / 60 % ((f2T c taken).length : Int))), fun r => ?_⟩
    rw [hb]
    have e1 : f1T c taken ++ ([97] : T).drop (f1T c taken).length = f2T c taken := rfl
    have hc3 : (0 : Int) < c % 3 := hc.2
    generalize hf2 : f2T c taken = f2 at *
    generalize hat : mix c 5 / 60 % (f2.length : Int) = at5 at *
    have z4 : (f2.take at5.toNat).length + 1 ≤ SZ := by rw [List.length_take]; unfold SZ; omega
    have z5 : (f2.take at5.toNat).length + 1 + (f2.drop (at5.toNat + 1)).length ≤ SZ := by rw [List.length_take, List.length_drop]; unfold SZ; omega
    have ef : f3T c taken = f2.take at5.toNat ++ sg (mix c 5 / 720) :: f2.drop (at5.toNat + 1) := by unfold f3T; rw [hf2, hat]
    rw [ef]
    have ne2 : (taken.map D.str).isEmpty = false := by cases taken with | nil => exact absurd rfl hne | cons _ _ => rfl
    have plen : (0 : Int) < (taken.length : Int) := by omega
    simp only [List.length_take, List.length_drop] at z4 z5 z3
    simp [p__law_name_4, hp, ne2, hc3, plen, ha, z1, zz1, c1, z3, e1, z2, p2, hat, c2, c3, z32, at32, z4, z5, hne]
    have hZ : SZ = 16777216 := rfl
    rw [if_pos hlp, if_pos (by omega), if_pos (by omega)]
  · have hb : baseT c taken = f0T c := if_neg hc
    refine ⟨none, fun r => ?_⟩
    rw [hb]
    by_cases hne : taken = []
    · simp [p__law_name_4, hp, hne]
    · have hc3 : ¬ (0 : Int) < c % 3 := fun e => hc ⟨hne, e⟩
      have ne2 : (taken.map D.str).isEmpty = false := by cases taken with | nil => exact absurd rfl hne | cons _ _ => rfl
      simp [p__law_name_4, hp, hne, hc3]
theorem rf__law_name : Refines 2 m__law_name q__law_name := Refines.pure fun ds S hl c ca => by
  match ds, hl with
  | [a, b], _ =>
    cases a with
    | int c =>
      cases b with
      | ref p =>
        cases e : S[p]? with
        | none => exact .inl (by simp [q__law_name, e])
        | some o =>
          cases o with
          | lst es =>
            cases q : texts es with
            | none => exact .inl (by simp [q__law_name, e, q])
            | some taken =>
              by_cases hz : taken.length ≤ 100 ∧ (∀ t ∈ taken, t.length ≤ 200)
              · have er := texts_eq q
                subst er
                refine .inr ⟨.str (nameT c taken), [], by simp [q__law_name, e, q, hz]; exact hz.2, ?_, rfl⟩
                obtain ⟨v, e4⟩ := name_4 c p S taken e hz.1 hz.2
                have hbl := base_len (c := c) (n := 200) (by omega) hz.2
                have e5 := wh_name (c := c) (w3 := some (.int (mix c 5))) (v5 := v) e hz.2 201 (baseT c taken) (by omega) (by omega) FUEL 1000 (by decide) (by omega)
                show ((p__law_name_1 [some (.int c), some (.ref p), none, none, none, none] S).then (sSeq p__law_name_2 (sSeq p__law_name_3 (sSeq p__law_name_4 (sSeq p__law_name_5 p__law_name_6))))).out = _
                rw [name_123]
                show ((p__law_name_4 _ _).then _).out = _
                rw [e4]
                show ((whileF FUEL (tCmp cIn (eVar 4) (eVar 1)) whBody _ _).then _).out = _
                rw [e5]
                simp [p__law_name_6, nameT]
              · exact .inl (by simp [q__law_name, e, q]; intro h1; simpa using fun h2 => hz ⟨h1, h2⟩)
          | dct _ => exact .inl (by simp [q__law_name, e])
          | ins _ _ => exact .inl (by simp [q__law_name, e])
      | _ => exact .inl rfl
    | _ => exact .inl rfl
def p__law_names_1 : SM :=
    (sSet 2 (eCall q__law_cell (aCons (eVar 0) (aCons (eVar 1) aNil))))
def p__law_names_2 : SM :=
    (sSet 3 (eOp opAdd (eC (.int 1)) (eOp opMod (eVar 2) (eC (.int 9)))))
def p__law_names_3 : SM :=
    (sIf (tCmp cEq (eOp opMod (eOp opDiv (eVar 2) (eC (.int 9))) (eC (.int 6))) (eC (.int 1)))
    (sSet 3 (eOp opAdd (eC (.int 1)) (eOp opMod (eOp opDiv (eVar 2) (eC (.int 54))) (eC (.int 60)))))
    sNil)
def p__law_names_4 : SM :=
    (sSet 4 (eLst aNil))
def p__law_names_5 : SM :=
    (sFor (iRange1 (eVar 3)) (gName 5)
    (sExpr (eM .list mAppend (eVar 4) (aCons (eCall q__law_name (aCons (eCall q__law_mixed (aCons (eCall q__law_cell (aCons (eVar 0) (aCons (eOp opAdd (eOp opAdd (eVar 1) (eC (.int 1))) (eOp opMod (eVar 5) (eC (.int 4)))) aNil))) (aCons (eVar 5) aNil))) (aCons (eVar 4) aNil))) aNil))))
def p__law_names_6 : SM :=
    (sRet (eVar 4))
def b__law_names : SM := (sSeq p__law_names_1 (sSeq p__law_names_2 (sSeq p__law_names_3 (sSeq p__law_names_4 (sSeq p__law_names_5 p__law_names_6)))))
def m__law_names : F := fn 6 b__law_names
def cellI (ns : List Int) (k : Int) : Int := ns.getD k.toNat 0
def namesT (ns : List Int) (b : Int) : Nat → List T
  | 0 => []
  | k + 1 => namesT ns b k ++ [nameT (mix (cellI ns (b + 1 + (k : Int) % 4)) k) (namesT ns b k)]
theorem names_len (ns : List Int) (b : Int) : ∀ k, (namesT ns b k).length = k
  | 0 => rfl
  | k + 1 => by rw [namesT, List.length_append, names_len ns b k]; rfl
theorem names_ok (ns : List Int) (b : Int) : ∀ k, ∀ t ∈ namesT ns b k, t.length ≤ 20 + k
  | 0, t, h => by cases h
  | k + 1, t, h => by
    rw [namesT] at h
    rcases List.mem_append.mp h with h | h
    · have := names_ok ns b k t h; omega
    · have e := List.mem_singleton.mp h
      subst e
      exact name_len (n := 20 + k) (by omega) (names_ok ns b k)
def manyI (c : Int) : Int := if c / 9 % 6 = 1 then 1 + c / 54 % 60 else 1 + c % 9
theorem many_le (c : Int) : 1 ≤ manyI c ∧ manyI c ≤ 60 := by
  unfold manyI
  have h1 := Int.emod_nonneg (c / 54) (show (60 : Int) ≠ 0 by decide)
  have h2 := Int.emod_lt_of_pos (c / 54) (show (0 : Int) < 60 by decide)
  have h3 := Int.emod_nonneg c (show (9 : Int) ≠ 0 by decide)
  have h4 := Int.emod_lt_of_pos c (show (0 : Int) < 9 by decide)
  split <;> omega
def q__law_names : F
  | [.ro xs, .int b], s => match intsD xs with
    | some ns => if 0 ≤ b then alloc (.lst ((namesT ns b (manyI (cellI ns b)).toNat).map .str)) s else .no
    | none => .no
  | _, _ => .no
theorem intsD_eq : ∀ {ds : List D} {ns : List Int}, intsD ds = some ns → ds = ns.map .int
  | [], ns, h => by simp [intsD] at h; subst h; rfl
  | .int x :: ds, ns, h => by
    unfold intsD at h
    cases q : intsD ds with
    | none => simp [q] at h
    | some ys => simp [q] at h; subst h; rw [intsD_eq q]; rfl
  | .non :: _, _, h => by simp [intsD] at h
  | .bl _ :: _, _, h => by simp [intsD] at h
  | .str _ :: _, _, h => by simp [intsD] at h
  | .ty _ :: _, _, h => by simp [intsD] at h
  | .ref _ :: _, _, h => by simp [intsD] at h
  | .tup _ :: _, _, h => by simp [intsD] at h
  | .ro _ :: _, _, h => by simp [intsD] at h
theorem intsD_map : ∀ ns : List Int, intsD (ns.map .int) = some ns
  | [] => rfl
  | n :: ns => by show (intsD (ns.map .int)).map _ = _; rw [intsD_map ns]; rfl
theorem cell_ints (ns : List Int) (k : Int) (s : M.S) (h : 0 ≤ k) : q__law_cell [.ro (ns.map .int), .int k] s = .ok (.int (cellI ns k)) s := by
  simp only [q__law_cell, if_pos h, cellD, cellI]
  rw [List.getD_eq_getElem?_getD, List.getD_eq_getElem?_getD, List.getElem?_map]
  cases ns[k.toNat]? <;> rfl
theorem rf__law_names : Refines 2 m__law_names q__law_names := Refines.new fun ds S hl c ca => by
  match ds, hl with
  | [a, b], _ =>
    cases a with
    | ro xs =>
      cases b with
      | int b =>
        cases q : intsD xs with
        | none => exact .inl (by simp [q__law_names, q])
        | some ns =>
          have ex := intsD_eq q
          subst ex
          by_cases h0 : 0 ≤ b
          · have hm := many_le (cellI ns b)
            generalize hMy : manyI (cellI ns b) = my at *
            have e3 : ∀ r, (p__law_names_1 [some (.ro (ns.map .int)), some (.int b), none, none, none, none] S).then (sSeq p__law_names_2 (sSeq p__law_names_3 (sSeq p__law_names_4 r))) = r [some (.ro (ns.map .int)), some (.int b), some (.int (cellI ns b)), some (.int my), some (.ref S.length), none] (S ++ [.lst []]) := fun r => by
              have z0 : (0 : Nat) ≤ SZ := by decide
              have hM : my = if cellI ns b / 9 % 6 = 1 then 1 + cellI ns b / 54 % 60 else 1 + cellI ns b % 9 := by rw [← hMy]; rfl
              by_cases h2 : cellI ns b / 9 % 6 = 1
              · rw [if_pos h2] at hM
                simp [p__law_names_1, p__law_names_2, p__law_names_3, p__law_names_4, cell_ints _ _ _ h0, h2, z0, hM]
              · rw [if_neg h2] at hM
                simp [p__law_names_1, p__law_names_2, p__law_names_3, p__law_names_4, cell_ints _ _ _ h0, h2, z0, hM]
            obtain ⟨σ', s', e5, v5, eσ, es⟩ := forL_step (g := []) (f := forF (gName 5) (sExpr (eM .list mAppend (eVar 4) (aCons (eCall q__law_name (aCons (eCall q__law_mixed (aCons (eCall q__law_cell (aCons (eVar 0) (aCons (eOp opAdd (eOp opAdd (eVar 1) (eC (.int 1))) (eOp opMod (eVar 5) (eC (.int 4)))) aNil))) (aCons (eVar 5) aNil))) (aCons (eVar 4) aNil))) aNil))))
              (fun j σ s => ∃ v5 : Option D, σ = [some (.ro (ns.map .int)), some (.int b), some (.int (cellI ns b)), some (.int my), some (.ref S.length), v5] ∧ s = S ++ [.lst ((namesT ns b j).map .str)]) (rangeD 0 my) 0 [some (.ro (ns.map .int)), some (.int b), some (.int (cellI ns b)), some (.int my), some (.ref S.length), none] (S ++ [.lst []]) ⟨none, rfl, rfl⟩ fun j d hd σ s ⟨v5, eσ, es⟩ => by
                have hj : j < (rangeD 0 my).length := (List.getElem?_eq_some_iff.mp hd).1
                have hj' : j < 60 := by unfold rangeD at hj; rw [List.length_map, List.length_range] at hj; omega
                have ed : d = .int (j : Int) := by
                  unfold rangeD at hd
                  rw [List.getElem?_map] at hd
                  cases q : (List.range (my - 0).toNat)[j]? with
                  | none => rw [q] at hd; cases hd
                  | some k =>
                    rw [q] at hd
                    have hk : k = j := by
                      have := (List.getElem?_eq_some_iff.mp q).2
                      simp at this
                      omega
                    subst hk
                    simp at hd
                    exact hd.symm
                subst ed
                subst eσ
                subst es
                rw [Nat.zero_add]
                have m0 := Int.emod_nonneg (j : Int) (show (4 : Int) ≠ 0 by decide)
                have hc := fun s => cell_ints ns (b + 1 + (j : Int) % 4) s (by omega)
                have hn : ∀ c : Int, q__law_name [.int c, .ref S.length] (S ++ [.lst ((namesT ns b j).map .str)]) = .ok (.str (nameT c (namesT ns b j))) (S ++ [.lst ((namesT ns b j).map .str)]) := fun c => by
                  have hl1 := names_len ns b j
                  have hl2 : ∀ t ∈ namesT ns b j, t.length ≤ 200 := fun t ht => Nat.le_trans (names_ok ns b j t ht) (by omega)
                  simp only [q__law_name, List.getElem?_concat_length, texts_str]
                  rw [if_pos ⟨by omega, hl2⟩]
                have hz : (namesT ns b j).length < SZ := by rw [names_len]; unfold SZ; omega
                refine ⟨[some (.ro (ns.map .int)), some (.int b), some (.int (cellI ns b)), some (.int my), some (.ref S.length), some (.int j)], S ++ [.lst ((namesT ns b (j + 1)).map .str)], ?_, rfl, _, rfl, rfl⟩
                simp [hc, q__law_mixed, hn, hz, namesT]
            have hln : (rangeD 0 my).length = my.toNat := by unfold rangeD; rw [List.length_map, List.length_range]; omega
            rw [Nat.zero_add, hln] at es
            subst eσ
            subst es
            refine .inr ⟨.lst ((namesT ns b my.toNat).map .str), S.length, [.lst ((namesT ns b my.toNat).map .str)], by simp [q__law_names, q, h0, hMy], ?_, by simp, Nat.le_refl _, cl_strs _ _⟩
            show ((p__law_names_1 [some (.ro (ns.map .int)), some (.int b), none, none, none, none] S).then (sSeq p__law_names_2 (sSeq p__law_names_3 (sSeq p__law_names_4 (sSeq p__law_names_5 p__law_names_6))))).out = _
            rw [e3]
            have q1 : my.natAbs < 4611686018427387904 := by omega
            have hg : ∀ s, gdOk [] s = true := fun _ => rfl
            have e6 : ∀ r, (p__law_names_5 [some (.ro (ns.map .int)), some (.int b), some (.int (cellI ns b)), some (.int my), some (.ref S.length), none] (S ++ [.lst []])).then r = r [some (.ro (ns.map .int)), some (.int b), some (.int (cellI ns b)), some (.int my), some (.ref S.length), v5] (S ++ [.lst ((namesT ns b my.toNat).map .str)]) := fun r => by
              simp only [p__law_names_5, sFor, iRange1, eVar, List.getElem?_cons_succ, List.getElem?_cons_zero, R.bind_ok, q1, if_true, R.stm_ok, hg, e5, RS.then_nx]
            show ((p__law_names_5 _ _).then _).out = _
            rw [e6]
            simp [p__law_names_6]
          · exact .inl (by simp [q__law_names, q, h0])
      | _ => exact .inl rfl
    | _ => exact .inl rfl
def b__law_needs : SM :=
    (sSeq (sSet 3 eDict0)
    (sSeq (sFor (iRange1 (eCall fLen (aCons (eVar 1) aNil))) (gName 4)
    (sSeq (sSet 5 (eCall q__law_mixed (aCons (eCall q__law_cell (aCons (eVar 0) (aCons (eOp opAdd (eC (.int 6)) (eOp opMod (eVar 4) (eC (.int 9)))) aNil))) (aCons (eVar 4) aNil))))
    (sSeq (sSet 6 (eComp 1 (iRange1 (eOp opMod (eVar 5) (eC (.int 3)))) (gName 8) tYes (eOp opIx (eVar 2) (eOp opMod (eCall q__law_mixed (aCons (eVar 5) (aCons (eVar 8) aNil))) (eCall fLen (aCons (eVar 2) aNil))))))
    (sSeq (sSet 7 (eOp opMod (eOp opDiv (eVar 5) (eC (.int 3))) (eOp opAdd (eCall fLen (aCons (eVar 6) aNil)) (eC (.int 1)))))
    (sSeq (sExpr (eM .list mInsert (eVar 6) (aCons (eVar 7) (aCons (eOp opIx (eVar 1) (eOp opMod (eOp opAdd (eVar 4) (eC (.int 1))) (eCall fLen (aCons (eVar 1) aNil)))) aNil))))
    (sSub (eVar 3) (eOp opIx (eVar 1) (eVar 4)) (eVar 6)))))))
    (sRet (eVar 3))))
def m__law_needs : F := fn 8 b__law_needs
abbrev q__law_needs : F := m__law_needs
def leastT (t : T) (ts : List T) : T := ts.foldl (fun b y => if y < b then y else b) t
theorem least_mem : ∀ (ts : List T) (t : T), leastT t ts = t ∨ leastT t ts ∈ ts
  | [], t => .inl rfl
  | u :: ts, t => by
    unfold leastT
    rw [List.foldl_cons]
    split
    · rcases least_mem ts u with h | h
      · exact .inr (by unfold leastT at h; rw [h]; simp)
      · exact .inr (List.mem_cons_of_mem _ h)
    · rcases least_mem ts t with h | h
      · exact .inl h
      · exact .inr (List.mem_cons_of_mem _ h)
def placeT (m : T) (ts : List T) : Nat := ts.findIdx (· == m)
theorem idx_strs (m : T) : ∀ ts : List T, m ∈ ts → idxF (.str m) (ts.map .str) = some (placeT m ts)
  | [], h => by cases h
  | t :: ts, h => by
    unfold placeT
    rw [List.map_cons, idxF, List.findIdx_cons]
    by_cases e : t = m
    · subst e; simp [eqF]
    · have hm : m ∈ ts := by
        rcases List.mem_cons.mp h with h | h
        · exact absurd h.symm e
        · exact h
      have := idx_strs m ts hm
      unfold placeT at this
      have hb : (t == m) = false := by simpa using e
      simp [eqF, hb, this]
def minOf : List T → T
  | [] => []
  | t :: ts => leastT t ts
theorem minOf_mem : ∀ {ts : List T}, ts ≠ [] → minOf ts ∈ ts
  | [], h => absurd rfl h
  | t :: ts, _ => by
    rcases least_mem ts t with h | h
    · show leastT t ts ∈ _; rw [h]; simp
    · exact List.mem_cons_of_mem _ h
def DR (s : M.S) : List (D × D) → List (T × List T) → Prop
  | [], [] => True
  | kv :: kvs, p :: nd => (∃ r, kv = (.str p.1, .ref r) ∧ s[r]? = some (.lst (p.2.map .str))) ∧ DR s kvs nd
  | _, _ => False
abbrev Keep (s s' : M.S) : Prop := ∀ (r : Nat) (xs : List D), s[r]? = some (.lst xs) → s'[r]? = some (.lst xs)
theorem Keep.app (s t : M.S) : Keep s (s ++ t) := fun _ _ e => app_get e t
theorem Keep.trans {a b c : M.S} (h : Keep a b) (k : Keep b c) : Keep a c := fun r xs e => k r xs (h r xs e)
theorem Keep.set {s : M.S} {i : Nat} {o o' : O} (e : s[i]? = some o) (n : ∀ xs, o ≠ .lst xs) : Keep s (s.set i o') := fun r xs h => by
  by_cases hr : i = r
  · subst hr; rw [e] at h; cases h; exact absurd rfl (n xs)
  · rw [List.getElem?_set_ne hr]; exact h
theorem DR.mono {s s' : M.S} (k : Keep s s') : ∀ {kvs : List (D × D)} {nd : List (T × List T)}, DR s kvs nd → DR s' kvs nd
  | [], [], _ => trivial
  | _ :: _, _ :: _, ⟨⟨r, e1, e2⟩, h⟩ => ⟨⟨r, e1, k r _ e2⟩, DR.mono k h⟩
  | [], _ :: _, h => h.elim
  | _ :: _, [], h => h.elim
theorem DR.length {s : M.S} : ∀ {kvs : List (D × D)} {nd : List (T × List T)}, DR s kvs nd → kvs.length = nd.length
  | [], [], _ => rfl
  | _ :: _, _ :: _, ⟨_, h⟩ => by rw [List.length_cons, List.length_cons, DR.length h]
  | [], _ :: _, h => h.elim
  | _ :: _, [], h => h.elim
theorem DR.keys {s : M.S} : ∀ {kvs : List (D × D)} {nd : List (T × List T)}, DR s kvs nd → kvs.map (·.1) = nd.map fun p => .str p.1
  | [], [], _ => rfl
  | _ :: _, _ :: _, ⟨⟨r, e1, _⟩, h⟩ => by rw [List.map_cons, List.map_cons, DR.keys h, e1]
  | [], _ :: _, h => h.elim
  | _ :: _, [], h => h.elim
theorem DR.app {s : M.S} : ∀ {kvs kvs' : List (D × D)} {nd nd' : List (T × List T)}, DR s kvs nd → DR s kvs' nd' → DR s (kvs ++ kvs') (nd ++ nd')
  | [], _, [], _, _, k => k
  | _ :: _, _, _ :: _, _, ⟨e, h⟩, k => ⟨e, DR.app h k⟩
  | [], _, _ :: _, _, h, _ => h.elim
  | _ :: _, _, [], _, h, _ => h.elim
theorem DR.get {s : M.S} (x : T) : ∀ {kvs : List (D × D)} {nd : List (T × List T)}, DR s kvs nd → (nd.lookup x = none ∧ dGet (.str x) kvs = none) ∨ ∃ row r, nd.lookup x = some row ∧ dGet (.str x) kvs = some (.ref r) ∧ s[r]? = some (.lst (row.map .str))
  | [], [], _ => .inl ⟨rfl, rfl⟩
  | _ :: kvs, (k, row) :: nd, ⟨⟨r, e1, e2⟩, h⟩ => by
    subst e1
    unfold dGet
    rw [List.lookup_cons, List.lookup_cons]
    by_cases e : x = k
    · subst e
      exact .inr ⟨row, r, by simp, by simp, e2⟩
    · have b1 : (x == k) = false := by simpa using e
      have b2 : (D.str x == D.str k) = false := by simpa using e
      rw [b1, b2]
      exact DR.get x h
  | [], _ :: _, h => h.elim
  | _ :: _, [], h => h.elim
def putA (k : T) (v : List T) (nd : List (T × List T)) : List (T × List T) := if (nd.any fun p => decide (p.1 = k)) = true then nd.map fun p => if p.1 = k then (p.1, v) else p else nd ++ [(k, v)]
theorem DR.any {s : M.S} (k : T) : ∀ {kvs : List (D × D)} {nd : List (T × List T)}, DR s kvs nd → (kvs.any fun p => decide (p.1 = .str k)) = (nd.any fun p => decide (p.1 = k))
  | [], [], _ => rfl
  | _ :: _, _ :: _, ⟨⟨r, e1, e2⟩, h⟩ => by subst e1; rw [List.any_cons, List.any_cons, DR.any k h]; simp
  | [], _ :: _, h => h.elim
  | _ :: _, [], h => h.elim
theorem DR.over {s : M.S} {k : T} {r : Nat} {row : List T} (hr : s[r]? = some (.lst (row.map .str))) : ∀ {kvs : List (D × D)} {nd : List (T × List T)}, DR s kvs nd → DR s (kvs.map fun p => if p.1 = .str k then (p.1, .ref r) else p) (nd.map fun p => if p.1 = k then (p.1, row) else p)
  | [], [], _ => trivial
  | _ :: _, p :: _, ⟨⟨r', e1, e2⟩, h⟩ => by
    subst e1
    refine ⟨?_, DR.over hr h⟩
    by_cases e : p.1 = k
    · subst e; exact ⟨r, by simp, by simpa using hr⟩
    · exact ⟨r', by simp [e], by simpa [e] using e2⟩
  | [], _ :: _, h => h.elim
  | _ :: _, [], h => h.elim
theorem DR.put {s : M.S} {k : T} {r : Nat} {row : List T} {kvs : List (D × D)} {nd : List (T × List T)} (h : DR s kvs nd) (hr : s[r]? = some (.lst (row.map .str))) : DR s (dPut (.str k) (.ref r) kvs) (putA k row nd) := by
  unfold dPut putA
  rw [h.any k]
  split
  · exact h.over hr
  · exact h.app ⟨⟨r, rfl, hr⟩, trivial⟩
theorem DR.drop {s : M.S} (k : T) : ∀ {kvs : List (D × D)} {nd : List (T × List T)}, DR s kvs nd → DR s (dDrop (.str k) kvs) (nd.filter fun p => decide (p.1 ≠ k))
  | [], [], _ => trivial
  | _ :: _, p :: _, ⟨⟨r', e1, e2⟩, h⟩ => by
    subst e1
    unfold dDrop
    rw [List.filter_cons, List.filter_cons]
    by_cases e : p.1 = k
    · subst e; simpa [dDrop] using DR.drop p.1 h
    · simp only [ne_eq, D.str.injEq, e, not_false_eq_true, decide_true, if_true]
      exact ⟨⟨r', rfl, e2⟩, by simpa [dDrop] using DR.drop k h⟩
  | [], _ :: _, h => h.elim
  | _ :: _, [], h => h.elim
def keysA (nd : List (T × List T)) : List T := nd.map (·.1)
theorem any_mem {k : T} {nd : List (T × List T)} : (nd.any fun p => decide (p.1 = k)) = true ↔ k ∈ keysA nd := by
  unfold keysA
  rw [List.any_eq_true, List.mem_map]
  constructor
  · rintro ⟨p, h1, h2⟩; exact ⟨p, h1, of_decide_eq_true h2⟩
  · rintro ⟨p, h1, h2⟩; exact ⟨p, h1, decide_eq_true h2⟩
theorem putA_keys {k : T} {v : List T} {nd : List (T × List T)} : keysA (putA k v nd) = if k ∈ keysA nd then keysA nd else keysA nd ++ [k] := by
  unfold putA
  by_cases h : k ∈ keysA nd
  · rw [if_pos (any_mem.mpr h), if_pos h]
    unfold keysA
    rw [List.map_map]
    refine List.map_congr_left fun p hp => ?_
    simp only [Function.comp]
    split <;> rfl
  · rw [if_neg (fun z => h (any_mem.mp z)), if_neg h]
    unfold keysA
    simp
theorem putA_nodup {k : T} {v : List T} {nd : List (T × List T)} (h : (keysA nd).Nodup) : (keysA (putA k v nd)).Nodup := by
  rw [putA_keys]
  split
  · exact h
  · rename_i q
    rw [List.nodup_append]
    exact ⟨h, by simp, fun a ha b hb z => by simp at hb; subst hb; subst z; exact q ha⟩
theorem putA_mem {k : T} {v : List T} {nd : List (T × List T)} {x : T} (h : x ∈ keysA nd ∨ x = k) : x ∈ keysA (putA k v nd) := by
  rw [putA_keys]
  split
  · rename_i q
    rcases h with h | h
    · exact h
    · rw [h]; exact q
  · rcases h with h | h
    · exact List.mem_append_left _ h
    · rw [h]; simp
theorem putA_len {k : T} {v : List T} {nd : List (T × List T)} : (putA k v nd).length ≤ nd.length + 1 := by
  unfold putA
  split <;> simp
abbrev needBody : SM :=
    (sSeq (sSet 5 (eCall q__law_mixed (aCons (eCall q__law_cell (aCons (eVar 0) (aCons (eOp opAdd (eC (.int 6)) (eOp opMod (eVar 4) (eC (.int 9)))) aNil))) (aCons (eVar 4) aNil))))
    (sSeq (sSet 6 (eComp 1 (iRange1 (eOp opMod (eVar 5) (eC (.int 3)))) (gName 8) tYes (eOp opIx (eVar 2) (eOp opMod (eCall q__law_mixed (aCons (eVar 5) (aCons (eVar 8) aNil))) (eCall fLen (aCons (eVar 2) aNil))))))
    (sSeq (sSet 7 (eOp opMod (eOp opDiv (eVar 5) (eC (.int 3))) (eOp opAdd (eCall fLen (aCons (eVar 6) aNil)) (eC (.int 1)))))
    (sSeq (sExpr (eM .list mInsert (eVar 6) (aCons (eVar 7) (aCons (eOp opIx (eVar 1) (eOp opMod (eOp opAdd (eVar 4) (eC (.int 1))) (eCall fLen (aCons (eVar 1) aNil)))) aNil))))
    (sSub (eVar 3) (eOp opIx (eVar 1) (eVar 4)) (eVar 6))))))
theorem need_eq : b__law_needs = sSeq (sSet 3 eDict0) (sSeq (sFor (iRange1 (eCall fLen (aCons (eVar 1) aNil))) (gName 4) needBody) (sRet (eVar 3))) := rfl
theorem range_at {n : Int} {j : Nat} {d : D} (h : (rangeD 0 n)[j]? = some d) : d = .int j ∧ (j : Int) < n := by
  unfold rangeD at h
  rw [List.getElem?_map] at h
  cases q : (List.range (n - 0).toNat)[j]? with
  | none => rw [q] at h; cases h
  | some k =>
    rw [q] at h
    have h1 := (List.getElem?_eq_some_iff.mp q)
    obtain ⟨h1, h2⟩ := h1
    simp at h1 h2
    subst h2
    simp at h
    exact ⟨h.symm, by omega⟩
theorem range_len (n : Nat) : (rangeD 0 (n : Int)).length = n := by unfold rangeD; simp
theorem at_strs {ts : List T} {k : Int} (h0 : 0 ≤ k) (h : k < ts.length) : atI (ts.map D.str) k = some (.str (ts.getD k.toNat [])) := by
  rw [atI_pos (d := .str []) h0 (by simpa using h), List.getD_eq_getElem?_getD, List.getD_eq_getElem?_getD, List.getElem?_map]
  cases ts[k.toNat]? <;> rfl
theorem row_ok {ns : List Int} {N : List T} (hN : 0 < N.length) {σ : St} {c : Int} {q : Nat} {s : M.S} (hq : s[q]? = some (.lst (N.map .str))) (h2 : σ[2]? = some (some (.ref q))) (h5 : σ[5]? = some (some (.int c))) (hl : σ.length = 8) : ∃ ts : List T, ts.length ≤ 2 ∧ compE 1 (iRange1 (eOp opMod (eVar 5) (eC (.int 3)))) (gName 8) tYes (eOp opIx (eVar 2) (eOp opMod (eCall q__law_mixed (aCons (eVar 5) (aCons (eVar 8) aNil))) (eCall fLen (aCons (eVar 2) aNil)))) σ s = .ok (ts.map .str) s := by
  have m0 := Int.emod_nonneg c (show (3 : Int) ≠ 0 by decide)
  have m1 := Int.emod_lt_of_pos c (show (0 : Int) < 3 by decide)
  have q1 : (c % 3).natAbs < 4611686018427387904 := by omega
  have := comp_range (n := 1) (it := iRange1 (eOp opMod (eVar 5) (eC (.int 3)))) (tg := gName 8) (e := eOp opIx (eVar 2) (eOp opMod (eCall q__law_mixed (aCons (eVar 5) (aCons (eVar 8) aNil))) (eCall fLen (aCons (eVar 2) aNil)))) (σ := σ) (s := s) (lo := 0) (hi := c % 3) (fun k => .str (N.getD (mix c k % (N.length : Int)).toNat [])) (by simp [h5, q1]) (by unfold SZ; omega) fun k hk => by
    have i0 := Int.emod_nonneg (mix c k) (show (N.length : Int) ≠ 0 by omega)
    have i1 := Int.emod_lt_of_pos (mix c k) (show (0 : Int) < N.length by omega)
    have g : ∀ (j : Nat) (v : Option D), σ[j]? = some v → j < 8 → (((σ ++ [none]).set 8 (some (D.int k)))[j]?) = some v := fun j v e hj => by
      rw [List.getElem?_set_ne (by omega), List.getElem?_append_left (by omega), e]
    have g8 : ((σ ++ [none]).set 8 (some (D.int k)))[8]? = some (some (.int k)) := by rw [List.getElem?_set_self (by simp [hl])]
    have hN' : (0 : Int) < N.length := by omega
    have z : (0 : Int) + (k : Int) = k := by omega
    rw [z]
    simp [g 2 _ h2 (by omega), g 5 _ h5 (by omega), g8, hq, q__law_mixed, hN', at_strs i0 i1, List.ne_nil_of_length_pos hN]
  refine ⟨(List.range (c % 3 - 0).toNat).map fun (k : Nat) => N.getD (mix c k % (N.length : Int)).toNat [], by simp; omega, ?_⟩
  rw [this, List.map_map]
  rfl
abbrev NdI (B : M.S) (ring : List T) (q j : Nat) (s : M.S) : Prop := ∃ kvs nd t, s = B ++ .dct kvs :: t ∧ DR s kvs nd ∧ (keysA nd).Nodup ∧ nd.length ≤ j ∧ ∀ i, i < j → ring.getD i [] ∈ keysA nd
theorem need_step {ns : List Int} {ring N : List T} (hR : 0 < ring.length) (hR2 : ring.length ≤ 60) (hN : 0 < N.length) {B : M.S} {p q : Nat} (hp : B[p]? = some (.lst (ring.map .str))) (hq : B[q]? = some (.lst (N.map .str))) {s : M.S} {j : Nat} (hj : j < ring.length) (v4 v5 v6 v7 : Option D) (I : NdI B ring q j s) :
    ∃ v5' v6' v7' s', forF (gName 4) needBody (.int j) [some (.ro (ns.map .int)), some (.ref p), some (.ref q), some (.ref B.length), v4, v5, v6, v7] s = .nx [some (.ro (ns.map .int)), some (.ref p), some (.ref q), some (.ref B.length), some (.int j), v5', v6', v7'] s' ∧ NdI B ring q (j + 1) s' := by
  obtain ⟨kvs, nd, t, rfl, dr, ndp, nl, mem⟩ := I
  have m0 := Int.emod_nonneg (j : Int) (show (9 : Int) ≠ 0 by decide)
  have hc := fun s => cell_ints ns (6 + (j : Int) % 9) s (by omega)
  generalize cellI ns (6 + (j : Int) % 9) = c0 at *
  generalize hc1 : mix c0 j = c at *
  have gp : ∀ g, (B ++ g)[p]? = some (.lst (ring.map .str)) := fun g => app_get hp g
  have gq : ∀ g, (B ++ g)[q]? = some (.lst (N.map .str)) := fun g => app_get hq g
  obtain ⟨ts, tl, ec⟩ := row_ok (ns := ns) (N := N) hN (σ := [some (.ro (ns.map .int)), some (.ref p), some (.ref q), some (.ref B.length), some (.int j), some (.int c), v6, v7]) (c := c) (q := q) (s := B ++ .dct kvs :: t) (gq _) rfl rfl rfl
  have b1 : ∀ r, sSeq (sSet 5 (eCall q__law_mixed (aCons (eCall q__law_cell (aCons (eVar 0) (aCons (eOp opAdd (eC (.int 6)) (eOp opMod (eVar 4) (eC (.int 9)))) aNil))) (aCons (eVar 4) aNil)))) r [some (.ro (ns.map .int)), some (.ref p), some (.ref q), some (.ref B.length), some (.int j), v5, v6, v7] (B ++ .dct kvs :: t) = r [some (.ro (ns.map .int)), some (.ref p), some (.ref q), some (.ref B.length), some (.int j), some (.int c), v6, v7] (B ++ .dct kvs :: t) := fun r => by
    simp [hc, q__law_mixed, hc1]
  have i0 := Int.emod_nonneg (c / 3) (show ((ts.length : Int) + 1) ≠ 0 by omega)
  have i1 := Int.emod_lt_of_pos (c / 3) (show (0 : Int) < (ts.length : Int) + 1 by omega)
  generalize hat : c / 3 % ((ts.length : Int) + 1) = at1 at *
  have k0 := Int.emod_nonneg ((j : Int) + 1) (show (ring.length : Int) ≠ 0 by omega)
  have k1 := Int.emod_lt_of_pos ((j : Int) + 1) (show (0 : Int) < ring.length by omega)
  have ix1 := at_strs (ts := ring) k0 k1
  have ix2 := at_strs (ts := ring) (k := (j : Int)) (by omega) (by omega)
  rw [Int.toNat_natCast] at ix2
  generalize ring.getD (((j : Int) + 1) % (ring.length : Int)).toNat [] = nxt at *
  have hrow : (ts.map D.str).take at1.toNat ++ D.str nxt :: (ts.map D.str).drop at1.toNat = (ts.take at1.toNat ++ nxt :: ts.drop at1.toNat).map D.str := by simp
  have hR' : (0 : Int) < ring.length := by omega
  have hnd : kvs.length < SZ := by rw [dr.length]; unfold SZ; omega
  have z2 : ts.length < SZ := by unfold SZ; omega
  have z3 : (0 : Int) < (ts.length : Int) + 1 := by omega
  refine ⟨some (.int c), some (.ref (B.length + (t.length + 1))), some (.int at1), B ++ .dct (dPut (.str (ring.getD j [])) (.ref (B.length + (t.length + 1))) kvs) :: (t ++ [.lst ((ts.take at1.toNat ++ nxt :: ts.drop at1.toNat).map D.str)]), ?_, _, putA (ring.getD j []) (ts.take at1.toNat ++ nxt :: ts.drop at1.toNat) nd, _, rfl, ?_, putA_nodup ndp, Nat.le_trans putA_len (by omega), fun i hi => ?_⟩
  · show needBody [some (.ro (ns.map .int)), some (.ref p), some (.ref q), some (.ref B.length), some (.int j), v5, v6, v7] (B ++ .dct kvs :: t) = _
    rw [needBody, b1]
    have hi1 : at1 ≤ (ts.length : Int) := by omega
    have e1 : (B ++ O.dct kvs :: (t ++ [O.lst (List.map D.str ts)]))[B.length + (t.length + 1)]? = some (.lst (ts.map .str)) := by
      rw [List.getElem?_append_right (by omega)]; simp [show B.length + (t.length + 1) - B.length = t.length + 1 by omega]
    have e2 : (B ++ O.dct kvs :: (t ++ [O.lst (List.map D.str ts)])).set (B.length + (t.length + 1)) (.lst ((ts.take at1.toNat ++ nxt :: ts.drop at1.toNat).map D.str)) = B ++ .dct kvs :: (t ++ [.lst ((ts.take at1.toNat ++ nxt :: ts.drop at1.toNat).map D.str)]) := by
      rw [List.set_append_right _ _ (by omega)]
      simp [show B.length + (t.length + 1) - B.length = t.length + 1 by omega]
    simp only [sSeq, sSet, eComp, ec, R.bind_ok, alloc, R.stm_ok, RS.then_nx, List.set_cons_succ, List.set_cons_zero]
    simp [e1, hat, z3, gp, hR', ix1, i0, hi1, z2, -List.map_append, -List.map_take, -List.map_drop, -List.map_cons, hrow, e2, ix2, keyOk, hnd, List.ne_nil_of_length_pos hR]
  · have kp : Keep (B ++ .dct kvs :: t) (B ++ .dct (dPut (.str (ring.getD j [])) (.ref (B.length + (t.length + 1))) kvs) :: (t ++ [.lst ((ts.take at1.toNat ++ nxt :: ts.drop at1.toNat).map D.str)])) := by
      have k1 := Keep.set (s := B ++ .dct kvs :: t) (i := B.length) (o := .dct kvs) (o' := .dct (dPut (.str (ring.getD j [])) (.ref (B.length + (t.length + 1))) kvs)) (by simp) (fun _ z => nomatch z)
      have k2 := k1.trans (Keep.app _ [.lst ((ts.take at1.toNat ++ nxt :: ts.drop at1.toNat).map D.str)])
      simpa using k2
    refine (dr.mono kp).put ?_
    rw [List.getElem?_append_right (by omega)]
    simp [show B.length + (t.length + 1) - B.length = t.length + 1 by omega]
  · by_cases e : i = j
    · subst e; exact putA_mem (.inr rfl)
    · exact putA_mem (.inl (mem i (by omega)))
theorem needs_ok {ns : List Int} {ring N : List T} (hR : 0 < ring.length) (hR2 : ring.length ≤ 60) (hN : 0 < N.length) {B : M.S} {p q : Nat} (hp : B[p]? = some (.lst (ring.map .str))) (hq : B[q]? = some (.lst (N.map .str))) :
    ∃ kvs nd t, q__law_needs [.ro (ns.map .int), .ref p, .ref q] B = .ok (.ref B.length) (B ++ .dct kvs :: t) ∧ DR (B ++ .dct kvs :: t) kvs nd ∧ (keysA nd).Nodup ∧ nd.length ≤ 60 ∧ ∀ x ∈ ring, x ∈ keysA nd := by
  obtain ⟨σ', s', e5, ⟨v4, v5, v6, v7, eσ⟩, kvs, nd, t, es, dr, ndp, nl, mem⟩ := forL_step (g := []) (f := forF (gName 4) needBody)
    (fun j σ s => (∃ v4 v5 v6 v7 : Option D, σ = [some (.ro (ns.map .int)), some (.ref p), some (.ref q), some (.ref B.length), v4, v5, v6, v7]) ∧ NdI B ring q j s) (rangeD 0 (ring.length : Int)) 0 [some (.ro (ns.map .int)), some (.ref p), some (.ref q), some (.ref B.length), none, none, none, none] (B ++ [.dct []]) ⟨⟨none, none, none, none, rfl⟩, [], [], [], rfl, trivial, List.nodup_nil, Nat.le_refl _, fun i hi => by omega⟩ fun j d hd σ s ⟨⟨v4, v5, v6, v7, eσ⟩, I⟩ => by
      obtain ⟨rfl, hj⟩ := range_at hd
      subst eσ
      rw [Nat.zero_add] at I ⊢
      obtain ⟨v5', v6', v7', s', e, I'⟩ := need_step (ns := ns) hR hR2 hN hp hq (by omega) v4 v5 v6 v7 I
      exact ⟨_, s', e, rfl, ⟨_, _, _, _, rfl⟩, I'⟩
  rw [range_len, Nat.zero_add] at nl mem
  subst eσ
  subst es
  refine ⟨kvs, nd, t, ?_, dr, ndp, by omega, fun x hx => ?_⟩
  · show ((b__law_needs [some (.ro (ns.map .int)), some (.ref p), some (.ref q), none, none, none, none, none] B).out) = _
    rw [need_eq]
    have q1 : (ring.length : Int).natAbs < 4611686018427387904 := by omega
    have gp : (B ++ [O.dct []])[p]? = some (.lst (ring.map .str)) := app_get hp _
    have hg : ∀ s, gdOk [] s = true := fun _ => rfl
    have e0 : (sSet 3 eDict0) [some (.ro (ns.map .int)), some (.ref p), some (.ref q), none, none, none, none, none] B = .nx [some (.ro (ns.map .int)), some (.ref p), some (.ref q), some (.ref B.length), none, none, none, none] (B ++ [.dct []]) := by simp
    have e1 : (sFor (iRange1 (eCall fLen (aCons (eVar 1) aNil))) (gName 4) needBody) [some (.ro (ns.map .int)), some (.ref p), some (.ref q), some (.ref B.length), none, none, none, none] (B ++ [.dct []]) = .nx [some (.ro (ns.map .int)), some (.ref p), some (.ref q), some (.ref B.length), v4, v5, v6, v7] (B ++ .dct kvs :: t) := by
      simp only [sFor, iRange1, eCall, aCons, aNil, eVar, List.getElem?_cons_succ, List.getElem?_cons_zero, R.bind_ok, fLen, gp, List.length_map, q1, if_true, R.stm_ok, hg, e5]
    show ((((sSet 3 eDict0) _ _).then _).out) = _
    rw [e0, RS.then_nx]
    show ((((sFor _ _ _) _ _).then _).out) = _
    rw [e1]
    simp
  · obtain ⟨i, hi, e⟩ := List.mem_iff_getElem.mp hx
    have := mem i hi
    rw [List.getD_eq_getElem?_getD, List.getElem?_eq_getElem hi, e] at this
    exact this
def p__law_spoilt_1 : SM :=
    (sSet 3 (eOp opMod (eVar 2) (eC (.int 10))))
def p__law_spoilt_2 : SM :=
    (sSet 4 (eOp opMod (eOp opDiv (eVar 2) (eC (.int 10))) (eCall fLen (aCons (eVar 0) aNil))))
def p__law_spoilt_3 : SM :=
    (sSet 5 (eOp opMod (eOp opDiv (eVar 2) (eC (.int 600))) (eCall fLen (aCons (eVar 0) aNil))))
def p__law_spoilt_4 : SM :=
    (sSet 6 (eOp opIx (eLst (aCons (eC (.int 0)) (aCons (eC .non) (aCons (eLst (aCons (eC (.str [97])) aNil)) (aCons (eTup (aCons (eC (.str [97])) aNil)) (aCons (eC (.bl true)) aNil)))))) (eOp opMod (eOp opDiv (eVar 2) (eC (.int 600))) (eC (.int 5)))))
def p__law_spoilt_5 : SM :=
    (sIf (tCmp cEq (eVar 3) (eC (.int 1)))
    (sRet (eOp opAdd (eSl (eVar 0) oNone (oSome (eVar 4))) (eSl (eVar 0) (oSome (eOp opAdd (eVar 4) (eC (.int 1)))) oNone)))
    sNil)
def p__law_spoilt_6 : SM :=
    (sIf (tCmp cEq (eVar 3) (eC (.int 2)))
    (sRet (eOp opAdd (eOp opAdd (eSl (eVar 0) oNone (oSome (eVar 4))) (eLst (aCons (eOp opIx (eVar 0) (eVar 5)) aNil))) (eSl (eVar 0) (oSome (eVar 4)) oNone)))
    sNil)
def p__law_spoilt_7 : SM :=
    (sIf (tCmp cEq (eVar 3) (eC (.int 3)))
    (sSeq (sSet 7 (eCall fList (aCons (eVar 0) aNil)))
    (sSeq (sSub (eVar 7) (eVar 4) (eOp opIx (eVar 0) (eVar 5)))
    (sSeq (sSub (eVar 7) (eVar 5) (eOp opIx (eVar 0) (eVar 4)))
    (sRet (eVar 7)))))
    sNil)
def p__law_spoilt_8 : SM :=
    (sIf (tCmp cEq (eVar 3) (eC (.int 4)))
    (sRet (eOp opAdd (eOp opAdd (eSl (eVar 0) oNone (oSome (eVar 4))) (eLst (aCons (eOp opAdd (eOp opIx (eVar 0) (eVar 4)) (eC (.str [97]))) aNil))) (eSl (eVar 0) (oSome (eOp opAdd (eVar 4) (eC (.int 1)))) oNone)))
    sNil)
def p__law_spoilt_9 : SM :=
    (sIf (tCmp cEq (eVar 3) (eC (.int 5)))
    (sRet (eOp opAdd (eSl (eVar 0) (oSome (eVar 4)) oNone) (eSl (eVar 0) oNone (oSome (eVar 4)))))
    sNil)
def p__law_spoilt_10 : SM :=
    (sIf (tCmp cEq (eVar 3) (eC (.int 6)))
    (sSeq (sSet 8 (eLst (aCons (eCall fTuple (aCons (eVar 0) aNil)) (aCons (eM .str mJoin (eC (.str [])) (aCons (eVar 0) aNil)) (aCons (eC .non) (aCons (eCall fLen (aCons (eVar 0) aNil)) (aCons (eLst aNil) (aCons (eC (.bl true)) (aCons (eOp opIx (eVar 0) (eC (.int 0))) aNil)))))))))
    (sRet (eOp opIx (eVar 8) (eOp opMod (eOp opDiv (eVar 2) (eC (.int 10))) (eC (.int 7))))))
    sNil)
def p__law_spoilt_11 : SM :=
    (sIf (tCmp cEq (eVar 3) (eC (.int 7)))
    (sRet (eOp opAdd (eOp opAdd (eSl (eVar 0) oNone (oSome (eVar 4))) (eLst (aCons (eVar 6) aNil))) (eSl (eVar 0) (oSome (eVar 4)) oNone)))
    sNil)
def p__law_spoilt_12 : SM :=
    (sRet (eVar 0))
def b__law_spoilt : SM := (sSeq p__law_spoilt_1 (sSeq p__law_spoilt_2 (sSeq p__law_spoilt_3 (sSeq p__law_spoilt_4 (sSeq p__law_spoilt_5 (sSeq p__law_spoilt_6 (sSeq p__law_spoilt_7 (sSeq p__law_spoilt_8 (sSeq p__law_spoilt_9 (sSeq p__law_spoilt_10 (sSeq p__law_spoilt_11 p__law_spoilt_12)))))))))))
def m__law_spoilt : F := fn 9 b__law_spoilt
abbrev q__law_spoilt : F := m__law_spoilt
def elOk (s : M.S) : D → Prop
  | .str _ => True
  | .int _ => True
  | .non => True
  | .bl _ => True
  | .tup ds => ds = [.str [97]]
  | .ref r => s[r]? = some (.lst [.str [97]])
  | _ => False
def okThing (s : M.S) (d : D) : Option (List D) → Prop
  | some ds => ∃ p, d = .ref p ∧ s[p]? = some (.lst ds) ∧ ds.length ≤ 200 ∧ ∀ x ∈ ds, elOk s x
  | none => d = .non ∨ (∃ b, d = .bl b) ∨ (∃ i, d = .int i) ∨ (∃ t, d = .str t) ∨ ∃ ts : List T, d = .tup (ts.map .str)
theorem elOk.mono {s s' : M.S} (k : Keep s s') {x : D} (h : elOk s x) : elOk s' x := by
  cases x with
  | ref r => exact k r _ h
  | _ => exact h
theorem okThing.mono {s s' : M.S} (k : Keep s s') {d : D} : ∀ {L : Option (List D)}, okThing s d L → okThing s' d L
  | some _, ⟨p, e1, e2, e3, e4⟩ => ⟨p, e1, k p _ e2, e3, fun x hx => (e4 x hx).mono k⟩
  | none, h => h
theorem mem_cut {α : Type} {xs : List α} {lo hi : Option Int} {x : α} (h : x ∈ cut xs lo hi) : x ∈ xs := List.mem_of_mem_drop (List.mem_of_mem_take h)
theorem el_strs {s : M.S} {ts : List T} {x : D} (h : x ∈ ts.map D.str) : elOk s x := by
  obtain ⟨t, _, rfl⟩ := List.mem_map.mp h
  trivial
theorem spoilt_ok {ring : List T} (hR : 0 < ring.length) (hR2 : ring.length ≤ 60) (hT : ∀ t ∈ ring, t.length ≤ 100) {S : M.S} {p q : Nat} (hp : S[p]? = some (.lst (ring.map .str))) (c : Int) :
    ∃ d t L, q__law_spoilt [.ref p, .ref q, .int c] S = .ok d (S ++ t) ∧ okThing (S ++ t) d L := by
  have pR : (0 : Int) < ring.length := by omega
  have nR := List.ne_nil_of_length_pos hR
  have a0 := Int.emod_nonneg (c / 10) (show (ring.length : Int) ≠ 0 by omega)
  have a1 := Int.emod_lt_of_pos (c / 10) pR
  have o0 := Int.emod_nonneg (c / 600) (show (ring.length : Int) ≠ 0 by omega)
  have o1 := Int.emod_lt_of_pos (c / 600) pR
  have k0 := Int.emod_nonneg (c / 600) (show (5 : Int) ≠ 0 by decide)
  have k1 := Int.emod_lt_of_pos (c / 600) (show (0 : Int) < 5 by decide)
  have gp : ∀ g, (S ++ g)[p]? = some (.lst (ring.map .str)) := fun g => app_get hp g
  have aa : (ring.getD (c / 10 % (ring.length : Int)).toNat []).length ≤ 100 := by
    rw [List.getD_eq_getElem?_getD, List.getElem?_eq_getElem (by omega)]
    exact hT _ (List.getElem_mem _)
  generalize hA : c / 10 % (ring.length : Int) = A at *
  generalize hO : c / 600 % (ring.length : Int) = O1 at *
  generalize hK : c / 600 % 5 = K at *
  have ixA := at_strs a0 a1
  have ixO := at_strs o0 o1
  have nA : ixN ring.length A = some A.toNat := by unfold ixN; rw [if_pos a0, if_pos a1]
  have nO : ixN ring.length O1 = some O1.toNat := by unfold ixN; rw [if_pos o0, if_pos o1]
  have lA : A.toNat < ring.length := by omega
  have lO : O1.toNat < ring.length := by omega
  generalize ring.getD A.toNat [] = tA at *
  generalize ring.getD O1.toNat [] = tO at *
  obtain ⟨odd, hodd, oks⟩ : ∃ odd, atI [D.int 0, D.non, D.ref S.length, D.tup [D.str [97]], D.bl true] K = some odd ∧ ∀ g, elOk (S ++ .lst [.str [97]] :: g) odd := by
    have : K = 0 ∨ K = 1 ∨ K = 2 ∨ K = 3 ∨ K = 4 := by omega
    rcases this with rfl | rfl | rfl | rfl | rfl
    · exact ⟨_, rfl, fun _ => trivial⟩
    · exact ⟨_, rfl, fun _ => trivial⟩
    · exact ⟨_, rfl, fun g => by simp [elOk]⟩
    · exact ⟨_, rfl, fun _ => rfl⟩
    · exact ⟨_, rfl, fun _ => trivial⟩
  have z1 : (1 : Nat) ≤ SZ := by decide
  have z5 : (5 : Nat) ≤ SZ := by decide
  have e4 : ∀ r, (p__law_spoilt_1 [some (.ref p), some (.ref q), some (.int c), none, none, none, none, none, none] S).then (sSeq p__law_spoilt_2 (sSeq p__law_spoilt_3 (sSeq p__law_spoilt_4 r))) = r [some (.ref p), some (.ref q), some (.int c), some (.int (c % 10)), some (.int A), some (.int O1), some odd, none, none] (S ++ [.lst [.str [97]], .lst [.int 0, .non, .ref S.length, .tup [.str [97]], .bl true]]) := fun r => by
    simp [p__law_spoilt_1, p__law_spoilt_2, p__law_spoilt_3, p__law_spoilt_4, hp, hR, pR, nR, hA, hO, hK, z1, z5, hodd]
  have start : ∀ d s, (sSeq p__law_spoilt_5 (sSeq p__law_spoilt_6 (sSeq p__law_spoilt_7 (sSeq p__law_spoilt_8 (sSeq p__law_spoilt_9 (sSeq p__law_spoilt_10 (sSeq p__law_spoilt_11 p__law_spoilt_12)))))) [some (.ref p), some (.ref q), some (.int c), some (.int (c % 10)), some (.int A), some (.int O1), some odd, none, none] (S ++ [.lst [.str [97]], .lst [.int 0, .non, .ref S.length, .tup [.str [97]], .bl true]])).out = .ok d s → q__law_spoilt [.ref p, .ref q, .int c] S = .ok d s := fun d s e => by
    show ((p__law_spoilt_1 [some (.ref p), some (.ref q), some (.int c), none, none, none, none, none, none] S).then (sSeq p__law_spoilt_2 (sSeq p__law_spoilt_3 (sSeq p__law_spoilt_4 _)))).out = _
    rw [e4]
    exact e
  generalize hU : O.lst [.int 0, .non, .ref S.length, .tup [.str [97]], .bl true] = U at *
  have cutl : ∀ (lo hi : Option Int), (cut (ring.map D.str) lo hi).length ≤ 60 := fun lo hi => Nat.le_trans (cut_le _ _ _) (by rw [List.length_map]; exact hR2)
  have zc : ∀ (n : Nat), n ≤ 200 → n ≤ SZ := fun n h => by unfold SZ; omega
  have elc : ∀ {s : M.S} {lo hi : Option Int} {x : D}, x ∈ cut (ring.map D.str) lo hi → elOk s x := fun h => el_strs (mem_cut h)
  have m0 := Int.emod_nonneg c (show (10 : Int) ≠ 0 by decide)
  have m1 := Int.emod_lt_of_pos c (show (0 : Int) < 10 by decide)
  generalize hW : c % 10 = W at *
  have three : ∀ (a b : List D) (x : D) (g : M.S), a.length ≤ 60 → b.length ≤ 60 → (∀ y ∈ a, elOk (S ++ .lst [.str [97]] :: g) y) → (∀ y ∈ b, elOk (S ++ .lst [.str [97]] :: g) y) → elOk (S ++ .lst [.str [97]] :: g) x → (a ++ x :: b).length ≤ 200 ∧ ∀ y ∈ a ++ x :: b, elOk (S ++ .lst [.str [97]] :: g) y := fun a b x g h1 h2 k1 k2 k3 => by
    refine ⟨by simp; omega, fun y hy => ?_⟩
    rcases List.mem_append.mp hy with hy | hy
    · exact k1 y hy
    · rcases List.mem_cons.mp hy with rfl | hy
      · exact k3
      · exact k2 y hy
  by_cases w1 : W = 1
  · subst w1
    refine ⟨.ref (S.length + 4), [.lst [.str [97]], U, .lst (cut (ring.map D.str) none (some A)), .lst (cut (ring.map D.str) (some (A + 1)) none), .lst (cut (ring.map D.str) none (some A) ++ cut (ring.map D.str) (some (A + 1)) none)], some (cut (ring.map D.str) none (some A) ++ cut (ring.map D.str) (some (A + 1)) none), start _ _ ?_, _, rfl, by simp, ?_, fun x hx => ?_⟩
    · have z := zc ((cut (ring.map D.str) none (some A)).length + (cut (ring.map D.str) (some (A + 1)) none).length) (by have := cutl none (some A); have := cutl (some (A + 1)) none; omega)
      simp [p__law_spoilt_5, gp, z]
    · have := cutl none (some A); have := cutl (some (A + 1)) none; simp; omega
    · exact (List.mem_append.mp hx).elim elc elc
  by_cases w2 : W = 2
  · subst w2
    have th := three (cut (ring.map D.str) none (some A)) (cut (ring.map D.str) (some A) none) (.str tO) [U, .lst (cut (ring.map D.str) none (some A)), .lst [.str tO], .lst (cut (ring.map D.str) none (some A) ++ [.str tO]), .lst (cut (ring.map D.str) (some A) none), .lst (cut (ring.map D.str) none (some A) ++ .str tO :: cut (ring.map D.str) (some A) none)] (cutl _ _) (cutl _ _) (fun y => elc) (fun y => elc) trivial
    refine ⟨.ref (S.length + 6), _, some _, start _ _ ?_, _, rfl, ?_, th.1, th.2⟩
    · have z := zc ((cut (ring.map D.str) none (some A)).length + 1) (by have := cutl none (some A); omega)
      have z' := zc ((cut (ring.map D.str) none (some A)).length + 1 + (cut (ring.map D.str) (some A) none).length) (by have := cutl none (some A); have := cutl (some A) none; omega)
      simp [p__law_spoilt_5, p__law_spoilt_6, gp, z, z', ixO, z1]
    · simp
  by_cases w3 : W = 3
  · subst w3
    refine ⟨.ref (S.length + 2), [.lst [.str [97]], U, .lst (((ring.set A.toNat tO).set O1.toNat tA).map D.str)], some (((ring.set A.toNat tO).set O1.toNat tA).map D.str), start _ _ ?_, _, rfl, by simp, by simp; omega, fun x hx => el_strs hx⟩
    simp [p__law_spoilt_5, p__law_spoilt_6, p__law_spoilt_7, gp, ixA, ixO, nA, nO]
  by_cases w4 : W = 4
  · subst w4
    have th := three (cut (ring.map D.str) none (some A)) (cut (ring.map D.str) (some (A + 1)) none) (.str (tA ++ [97])) [U, .lst (cut (ring.map D.str) none (some A)), .lst [.str (tA ++ [97])], .lst (cut (ring.map D.str) none (some A) ++ [.str (tA ++ [97])]), .lst (cut (ring.map D.str) (some (A + 1)) none), .lst (cut (ring.map D.str) none (some A) ++ .str (tA ++ [97]) :: cut (ring.map D.str) (some (A + 1)) none)] (cutl _ _) (cutl _ _) (fun y => elc) (fun y => elc) trivial
    refine ⟨.ref (S.length + 6), _, some _, start _ _ ?_, _, rfl, ?_, th.1, th.2⟩
    · have z := zc ((cut (ring.map D.str) none (some A)).length + 1) (by have := cutl none (some A); omega)
      have z' := zc ((cut (ring.map D.str) none (some A)).length + 1 + (cut (ring.map D.str) (some (A + 1)) none).length) (by have := cutl none (some A); have := cutl (some (A + 1)) none; omega)
      have z2 := zc (tA.length + 1) (by omega)
      simp [p__law_spoilt_5, p__law_spoilt_6, p__law_spoilt_7, p__law_spoilt_8, gp, z, z', z2, ixA, z1]
    · simp
  by_cases w5 : W = 5
  · subst w5
    refine ⟨.ref (S.length + 4), [.lst [.str [97]], U, .lst (cut (ring.map D.str) (some A) none), .lst (cut (ring.map D.str) none (some A)), .lst (cut (ring.map D.str) (some A) none ++ cut (ring.map D.str) none (some A))], some (cut (ring.map D.str) (some A) none ++ cut (ring.map D.str) none (some A)), start _ _ ?_, _, rfl, by simp, ?_, fun x hx => ?_⟩
    · have z := zc ((cut (ring.map D.str) (some A) none).length + (cut (ring.map D.str) none (some A)).length) (by have := cutl none (some A); have := cutl (some A) none; omega)
      simp [p__law_spoilt_5, p__law_spoilt_6, p__law_spoilt_7, p__law_spoilt_8, p__law_spoilt_9, gp, z]
    · have := cutl none (some A); have := cutl (some A) none; simp; omega
    · exact (List.mem_append.mp hx).elim elc elc
  by_cases w6 : W = 6
  · subst w6
    have j0 := Int.emod_nonneg (c / 10) (show (7 : Int) ≠ 0 by decide)
    have j1 := Int.emod_lt_of_pos (c / 10) (show (0 : Int) < 7 by decide)
    obtain ⟨r0, rr, er⟩ : ∃ r0 rr, ring = r0 :: rr := by
      cases q : ring with
      | nil => exact absurd q nR
      | cons a b => exact ⟨a, b, rfl⟩
    have hj : kJoin [] (ring.map D.str) (S ++ [.lst [.str [97]], U]) = .ok (.str (joinT [] ring)) (S ++ [.lst [.str [97]], U]) := by
      unfold kJoin
      rw [texts_str]
      have hs : ∀ l : List T, (∀ t ∈ l, t.length ≤ 100) → (l.map List.length).sum ≤ 100 * l.length := by
        intro l
        induction l with
        | nil => intro _; simp
        | cons t l ih =>
          intro h
          have := ih fun u hu => h u (List.mem_cons_of_mem _ hu)
          have := h t List.mem_cons_self
          simp
          omega
      have := hs ring hT
      dsimp only
      rw [if_pos (by unfold SZ; simp; omega)]
    have h0 : atI (ring.map D.str) 0 = some (.str r0) := by rw [er]; simp [atI, ixN]
    have z0 : (0 : Nat) ≤ SZ := by decide
    have z7 : (7 : Nat) ≤ SZ := by decide
    generalize hJ : c / 10 % 7 = J at *
    have pick : ∀ d, atI [D.tup (ring.map D.str), .str (joinT [] ring), .non, .int ring.length, .ref (S.length + 2), .bl true, .str r0] J = some d → q__law_spoilt [.ref p, .ref q, .int c] S = .ok d (S ++ [.lst [.str [97]], U, .lst [], .lst [D.tup (ring.map D.str), .str (joinT [] ring), .non, .int ring.length, .ref (S.length + 2), .bl true, .str r0]]) := fun d e => start _ _ (by
      simp [p__law_spoilt_5, p__law_spoilt_6, p__law_spoilt_7, p__law_spoilt_8, p__law_spoilt_9, p__law_spoilt_10, gp, hj, h0, z0, z7, hJ, e])
    have : J = 0 ∨ J = 1 ∨ J = 2 ∨ J = 3 ∨ J = 4 ∨ J = 5 ∨ J = 6 := by omega
    rcases this with rfl | rfl | rfl | rfl | rfl | rfl | rfl
    · exact ⟨_, _, none, pick _ rfl, .inr (.inr (.inr (.inr ⟨_, rfl⟩)))⟩
    · exact ⟨_, _, none, pick _ rfl, .inr (.inr (.inr (.inl ⟨_, rfl⟩)))⟩
    · exact ⟨_, _, none, pick _ rfl, .inl rfl⟩
    · exact ⟨_, _, none, pick _ rfl, .inr (.inr (.inl ⟨_, rfl⟩))⟩
    · exact ⟨_, _, some [], pick _ rfl, _, rfl, by simp, by simp, fun x hx => nomatch hx⟩
    · exact ⟨_, _, none, pick _ rfl, .inr (.inl ⟨_, rfl⟩)⟩
    · exact ⟨_, _, none, pick _ rfl, .inr (.inr (.inr (.inl ⟨_, rfl⟩)))⟩
  by_cases w7 : W = 7
  · subst w7
    have th := three (cut (ring.map D.str) none (some A)) (cut (ring.map D.str) (some A) none) odd [U, .lst (cut (ring.map D.str) none (some A)), .lst [odd], .lst (cut (ring.map D.str) none (some A) ++ [odd]), .lst (cut (ring.map D.str) (some A) none), .lst (cut (ring.map D.str) none (some A) ++ odd :: cut (ring.map D.str) (some A) none)] (cutl _ _) (cutl _ _) (fun y => elc) (fun y => elc) (oks _)
    refine ⟨.ref (S.length + 6), _, some _, start _ _ ?_, _, rfl, ?_, th.1, th.2⟩
    · have z := zc ((cut (ring.map D.str) none (some A)).length + 1) (by have := cutl none (some A); omega)
      have z' := zc ((cut (ring.map D.str) none (some A)).length + 1 + (cut (ring.map D.str) (some A) none).length) (by have := cutl none (some A); have := cutl (some A) none; omega)
      simp [p__law_spoilt_5, p__law_spoilt_6, p__law_spoilt_7, p__law_spoilt_8, p__law_spoilt_9, p__law_spoilt_10, p__law_spoilt_11, gp, z, z', z1]
    · simp
  refine ⟨.ref p, [.lst [.str [97]], U], some (ring.map D.str), start _ _ ?_, _, rfl, gp _, by simp; omega, fun x hx => el_strs hx⟩
  simp [p__law_spoilt_5, p__law_spoilt_6, p__law_spoilt_7, p__law_spoilt_8, p__law_spoilt_9, p__law_spoilt_10, p__law_spoilt_11, p__law_spoilt_12, w1, w2, w3, w4, w5, w6, w7]
def p__law_due_1 : SM :=
    (sIf (tOr (tNot (tTru (eCall fIsi (aCons (eVar 1) (aCons (eC (.ty .list)) aNil))))) (tCmp cEq (eVar 1) (eLst aNil)))
    (sRet (eC (.bl false)))
    sNil)
def p__law_due_2 : SM :=
    (sFor (iE (eVar 1)) (gName 2)
    (sIf (tOr (tNot (tTru (eCall fIsi (aCons (eVar 2) (aCons (eC (.ty .str)) aNil))))) (tCmp cNotIn (eVar 2) (eVar 0)))
    (sRet (eC (.bl false)))
    sNil))
def p__law_due_3 : SM :=
    (sIf (tOr (tCmp cNe (eCall fLenSet (aCons (eVar 1) aNil)) (eCall fLen (aCons (eVar 1) aNil))) (tCmp cNe (eOp opIx (eVar 1) (eC (.int 0))) (eCall fMin1 (aCons (eVar 1) aNil))))
    (sRet (eC (.bl false)))
    sNil)
def p__law_due_4 : SM :=
    (sFor (iRange1 (eCall fLen (aCons (eVar 1) aNil))) (gName 3)
    (sIf (tCmp cNotIn (eOp opIx (eVar 1) (eOp opMod (eOp opAdd (eVar 3) (eC (.int 1))) (eCall fLen (aCons (eVar 1) aNil)))) (eOp opIx (eVar 0) (eOp opIx (eVar 1) (eVar 3))))
    (sRet (eC (.bl false)))
    sNil))
def p__law_due_5 : SM :=
    (sRet (eC (.bl true)))
def b__law_due : SM := (sSeq p__law_due_1 (sSeq p__law_due_2 (sSeq p__law_due_3 (sSeq p__law_due_4 p__law_due_5))))
def m__law_due : F := fn 4 b__law_due
noncomputable def q__law_due : F := chS m__law_due
theorem rf__law_due : Refines 2 m__law_due q__law_due := chS_rf _
def ringB (nd : List (T × List T)) : List T → Bool
  | [] => false
  | t0 :: tr => decide ((dedT [] (t0 :: tr)).length = (t0 :: tr).length) && (decide (t0 = leastT t0 tr) && ((t0 :: tr).zip (tr ++ [t0])).all fun p => ((nd.lookup p.1).getD []).contains p.2)
def ringV (nd : List (T × List T)) : Option (List D) → Bool
  | some ds => (match texts ds with | some ts => ringB nd ts | none => false)
  | none => false
theorem texts_eqS : ∀ {ds : List D} {ts : List T}, texts ds = some ts → ds = ts.map .str
  | [], ts, h => by simp [texts] at h; subst h; rfl
  | .str x :: ds, ts, h => by
    unfold texts at h
    cases q : texts ds with
    | none => simp [q] at h
    | some ys => simp [q] at h; subst h; rw [texts_eqS q]; rfl
  | .non :: _, _, h => by simp [texts] at h
  | .bl _ :: _, _, h => by simp [texts] at h
  | .int _ :: _, _, h => by simp [texts] at h
  | .ty _ :: _, _, h => by simp [texts] at h
  | .ref _ :: _, _, h => by simp [texts] at h
  | .tup _ :: _, _, h => by simp [texts] at h
  | .ro _ :: _, _, h => by simp [texts] at h
theorem el_P {s : M.S} {x : D} (h : elOk s x) : ∃ y, toPg (fun j => toP 8 s (.ref j)) x = some y ∧ P.dep y ≤ 1 := by
  cases x with
  | ref r =>
    have h' : s[r]? = some (.lst [.str [97]]) := h
    refine ⟨.lst [.str [97]], ?_, by simp [P.dep, P.deps]⟩
    show (match lstAt s r with | some xs => (toPg.all (fun j => toP 7 s (.ref j)) xs).map P.lst | none => none) = _
    have : lstAt s r = some [.str [97]] := by simp [lstAt, h']
    rw [this]
    rfl
  | tup ds =>
    have h' : ds = [.str [97]] := h
    subst h'
    exact ⟨.tup [.str [97]], rfl, by simp [P.dep, P.deps]⟩
  | ty n => exact h.elim
  | ro n => exact h.elim
  | non => exact ⟨_, rfl, by simp [P.dep]⟩
  | bl b => exact ⟨_, rfl, by simp [P.dep]⟩
  | int b => exact ⟨_, rfl, by simp [P.dep]⟩
  | str b => exact ⟨_, rfl, by simp [P.dep]⟩
theorem els_P {s : M.S} : ∀ {ds : List D}, (∀ x ∈ ds, elOk s x) → ∃ ps, toPg.all (fun j => toP 8 s (.ref j)) ds = some ps ∧ ps.length = ds.length ∧ P.deps ps ≤ 1
  | [], _ => ⟨[], rfl, rfl, by simp [P.deps]⟩
  | d :: ds, h => by
    obtain ⟨y, e1, e2⟩ := el_P (h d List.mem_cons_self)
    obtain ⟨ps, f1, f2, f3⟩ := els_P fun x hx => h x (List.mem_cons_of_mem _ hx)
    refine ⟨y :: ps, ?_, by simp [f2], by simp only [P.deps]; omega⟩
    show (match toPg (fun j => toP 8 s (.ref j)) d, toPg.all (fun j => toP 8 s (.ref j)) ds with | some p, some ps => some (p :: ps) | _, _ => none) = _
    rw [e1, f1]
theorem lst_P {s : M.S} {p : Nat} {ds : List D} (hp : s[p]? = some (.lst ds)) (h : ∀ x ∈ ds, elOk s x) : ∃ ps, toP DEEP s (.ref p) = some (.lst ps) ∧ ps.length = ds.length ∧ P.deps ps ≤ 1 := by
  obtain ⟨ps, f1, f2, f3⟩ := els_P h
  refine ⟨ps, ?_, f2, f3⟩
  show (match lstAt s p with | some xs => (toPg.all (fun j => toP 8 s (.ref j)) xs).map P.lst | none => none) = _
  have : lstAt s p = some ds := by simp [lstAt, hp]
  rw [this]
  show (toPg.all _ ds).map P.lst = _
  rw [f1]
  rfl
def isS : D → Bool
  | .str _ => true
  | _ => false
theorem texts_none : ∀ {ds : List D}, texts ds = none → ds.all isS = false
  | [], h => by simp [texts] at h
  | .str x :: ds, h => by
    unfold texts at h
    cases q : texts ds with
    | none => rw [List.all_cons, texts_none q]; simp
    | some ys => simp [q] at h
  | .non :: _, h => rfl
  | .bl _ :: _, h => rfl
  | .int _ :: _, h => rfl
  | .ty _ :: _, h => rfl
  | .ref _ :: _, h => rfl
  | .tup _ :: _, h => rfl
  | .ro _ :: _, h => rfl
theorem el_kind {s : M.S} {x : D} (h : elOk s x) : isKind .str x s = .ok (isS x) s := by
  cases x with
  | ref r => have h' : s[r]? = some (.lst [.str [97]]) := h; simp [isKind, h', isS]
  | ty n => exact h.elim
  | _ => rfl
theorem forL_chk {g : Gd} {f : D → SM} {s : M.S} {d : D} (hg : gdOk g s = true) (P : D → Bool) (I : St → Prop) : ∀ (xs : List D) (σ : St), I σ → (∀ x ∈ xs, ∀ σ, I σ → if P x = true then ∃ σ', f x σ s = .nx σ' s ∧ I σ' else f x σ s = .rt d s) → if xs.all P = true then ∃ σ', forL g f xs σ s = .nx σ' s ∧ I σ' else forL g f xs σ s = .rt d s
  | [], σ, h, _ => ⟨σ, rfl, h⟩
  | x :: xs, σ, h, e => by
    have e0 := e x List.mem_cons_self σ h
    by_cases hx : P x = true
    · rw [if_pos hx] at e0
      obtain ⟨σ1, e1, h1⟩ := e0
      have ih := forL_chk hg P I xs σ1 h1 fun y hy => e y (List.mem_cons_of_mem _ hy)
      have st : forL g f (x :: xs) σ s = forL g f xs σ1 s := by
        show (match f x σ s with | .nx σ s => if gdOk g s then forL g f xs σ s else .no | .ct σ s => if gdOk g s then forL g f xs σ s else .no | .bk σ s => .nx σ s | r => r) = _
        rw [e1]
        dsimp only
        rw [if_pos hg]
      rw [List.all_cons, hx, Bool.true_and, st]
      exact ih
    · rw [if_neg hx] at e0
      have hx' : P x = false := by simpa using hx
      rw [List.all_cons, hx', Bool.false_and, if_neg (by decide)]
      show (match f x σ s with | .nx σ s => if gdOk g s then forL g f xs σ s else .no | .ct σ s => if gdOk g s then forL g f xs σ s else .no | .bk σ s => .nx σ s | r => r) = _
      rw [e0]
def kn (nd : List (T × List T)) : D → Bool
  | .str t => (nd.lookup t).isSome
  | _ => false
def nxB (nd : List (T × List T)) (ts : List T) : D → Bool
  | .int k => ((nd.lookup (ts.getD k.toNat [])).getD []).contains (ts.getD ((k + 1) % (ts.length : Int)).toNat [])
  | _ => false
theorem nx_all {nd : List (T × List T)} {t0 : T} {tr : List T} : (rangeD 0 ((t0 :: tr).length : Int)).all (nxB nd (t0 :: tr)) = ((t0 :: tr).zip (tr ++ [t0])).all fun p => ((nd.lookup p.1).getD []).contains p.2 := by
  have hb : ∀ k, k < (t0 :: tr).length → (tr ++ [t0])[k]? = (t0 :: tr)[(k + 1) % (t0 :: tr).length]? := fun k hk => by
    by_cases e : k < tr.length
    · rw [List.getElem?_append_left e, Nat.mod_eq_of_lt (by simp; omega)]; simp
    · have ek : k = tr.length := by simp at hk; omega
      subst ek
      rw [List.getElem?_append_right (Nat.le_refl _)]; simp
  rw [Bool.eq_iff_iff, List.all_eq_true, List.all_eq_true]
  constructor
  · intro h p hp
    obtain ⟨k, hk, e⟩ := List.mem_iff_getElem.mp hp
    have hk1 : k < (t0 :: tr).length := by rw [List.length_zip] at hk; omega
    have hk2 : k < (tr ++ [t0]).length := by rw [List.length_zip] at hk; omega
    have := h (.int k) (by
      unfold rangeD
      refine List.mem_map.mpr ⟨k, List.mem_range.mpr (by omega), by simp⟩)
    have e' := e
    rw [List.getElem_zip] at e'
    subst e'
    have q := hb k hk1
    have ea : (((k : Int) + 1) % ((t0 :: tr).length : Int)).toNat = (k + 1) % (t0 :: tr).length := by
      rw [show ((k : Int) + 1) = ((k + 1 : Nat) : Int) by omega, ← Int.natCast_emod, Int.toNat_natCast]
    unfold nxB at this
    dsimp only at this
    rw [ea, Int.toNat_natCast, List.getD_eq_getElem?_getD, List.getD_eq_getElem?_getD, ← q, List.getElem?_eq_getElem hk1, List.getElem?_eq_getElem hk2] at this
    exact this
  · intro h d hd
    unfold rangeD at hd
    obtain ⟨k, hk, e⟩ := List.mem_map.mp hd
    have hk := List.mem_range.mp hk
    have hk1 : k < (t0 :: tr).length := by omega
    have hk2 : k < (tr ++ [t0]).length := by simp at hk1 ⊢; omega
    have e' : d = .int k := by rw [← e]; simp
    subst e'
    have q := hb k hk1
    have ea : (((k : Int) + 1) % ((t0 :: tr).length : Int)).toNat = (k + 1) % (t0 :: tr).length := by
      rw [show ((k : Int) + 1) = ((k + 1 : Nat) : Int) by omega, ← Int.natCast_emod, Int.toNat_natCast]
    have := h ((t0 :: tr)[k], (tr ++ [t0])[k]) (by
      have hz : k < ((t0 :: tr).zip (tr ++ [t0])).length := by rw [List.length_zip]; omega
      have := List.getElem_mem hz
      rwa [List.getElem_zip] at this)
    unfold nxB
    dsimp only
    rw [ea, Int.toNat_natCast, List.getD_eq_getElem?_getD, List.getD_eq_getElem?_getD, ← q, List.getElem?_eq_getElem hk1, List.getElem?_eq_getElem hk2]
    exact this
theorem kn_need {nd : List (T × List T)} {t0 : T} {tr : List T} (h : ((t0 :: tr).map D.str).all (kn nd) = false) : ringB nd (t0 :: tr) = false := by
  cases q : ringB nd (t0 :: tr) with
  | false => rfl
  | true =>
    unfold ringB at q
    rw [Bool.and_eq_true, Bool.and_eq_true, List.all_eq_true] at q
    have q3 := q.2.2
    have : ((t0 :: tr).map D.str).all (kn nd) = true := by
      rw [List.all_eq_true]
      intro x hx
      obtain ⟨t, ht, rfl⟩ := List.mem_map.mp hx
      obtain ⟨k, hk, e⟩ := List.mem_iff_getElem.mp ht
      have hk2 : k < (tr ++ [t0]).length := by simp at hk ⊢; omega
      have hz : k < ((t0 :: tr).zip (tr ++ [t0])).length := by rw [List.length_zip]; omega
      have m := List.getElem_mem hz
      rw [List.getElem_zip] at m
      have := q3 _ m
      dsimp only at this
      rw [e] at this
      show (nd.lookup t).isSome = true
      cases w : nd.lookup t with
      | none => rw [w] at this; simp at this
      | some r => rfl
    rw [h] at this; cases this
theorem get_lst {s : M.S} {p : Nat} {ds : List D} (h : s[p]? = some (.lst ds)) : lstAt s p = some ds := by simp [lstAt, h]
theorem in_dict {s : M.S} {n : Nat} {kvs : List (D × D)} {nd : List (T × List T)} (hn : s[n]? = some (.dct kvs)) (dr : DR s kvs nd) (t : T) : inD (.str t) (.ref n) s = .ok (nd.lookup t).isSome s := by
  simp only [inD, hn]
  rw [if_pos (show keyOk (.str t) = true from rfl)]
  rcases dr.get t with ⟨h1, h2⟩ | ⟨row, r, h1, h2, _⟩
  · rw [h1, h2]; rfl
  · rw [h1, h2]; rfl
theorem in_row {s : M.S} {r : Nat} {row : List T} (h : s[r]? = some (.lst (row.map .str))) (t : T) : inD (.str t) (.ref r) s = .ok (row.contains t) s := by
  simp only [inD, h]
  rw [if_pos (by rw [flat_strs]; rfl), mem_strs]
theorem due_ok {s : M.S} {n : Nat} {kvs : List (D × D)} {nd : List (T × List T)} {d : D} (hn : s[n]? = some (.dct kvs)) (dr : DR s kvs nd) : ∀ {L : Option (List D)}, okThing s d L → q__law_due [.ref n, d] s = .ok (.bl (ringV nd L)) s
  | none, h => by
    have hk : isKind .list d s = .ok false s := by
      rcases h with rfl | ⟨_, rfl⟩ | ⟨_, rfl⟩ | ⟨_, rfl⟩ | ⟨_, rfl⟩ <;> rfl
    refine chS_at (g := []) ?_ rfl
    show ((p__law_due_1 [some (.ref n), some d, none, none] s).then _).out = _
    simp [p__law_due_1, -isKind, hk, ringV]
  | some ds, ⟨p, ed, hp, hl, hel⟩ => by
    subst ed
    have hk : isKind .list (.ref p) s = .ok true s := by simp [isKind, hp]
    cases ds with
    | nil =>
      refine chS_at (g := [.lst []]) ?_ rfl
      have z0 : (0 : Nat) ≤ SZ := by decide
      have e : eqD (.ref p) (.ref s.length) (s ++ [.lst []]) = .ok true (s ++ [.lst []]) := by
        rw [eqD_lists (ts := []) (us := []) (app_get hp _) (by simp)]; simp
      show ((p__law_due_1 [some (.ref n), some (.ref p), none, none] s).then _).out = _
      simp [p__law_due_1, -isKind, hk, z0, -eqD, e, ringV, texts, ringB]
    | cons x xs =>
      have hne : eqD (.ref p) (.ref s.length) (s ++ [.lst []]) = .ok false (s ++ [.lst []]) := by
        obtain ⟨ps, e1, e2, e3⟩ := lst_P (app_get hp [.lst []]) fun y hy => (hel y hy).mono (Keep.app _ _)
        obtain ⟨qs, f1, f2, f3⟩ := lst_P (s := s ++ [.lst []]) (p := s.length) (ds := []) (by simp) (fun y hy => nomatch hy)
        simp only [eqD, e1, f1]
        have g1 : P.dep (.lst ps) ≤ 64 ∧ P.dep (.lst qs) ≤ 64 := by simp only [P.dep]; omega
        rw [if_pos g1]
        cases qs with
        | cons a b => simp at f2
        | nil =>
          cases ps with
          | nil => simp at e2
          | cons a b => rfl
      have hp' := app_get hp [.lst []]
      have hn' := app_get hn [.lst []]
      have dr' := dr.mono (Keep.app s [.lst []])
      have hel' : ∀ y ∈ x :: xs, elOk (s ++ [.lst []]) y := fun y hy => (hel y hy).mono (Keep.app _ _)
      have e1 : ∀ r, (p__law_due_1 [some (.ref n), some (.ref p), none, none] s).then r = r [some (.ref n), some (.ref p), none, none] (s ++ [.lst []]) := fun r => by
        have z0 : (0 : Nat) ≤ SZ := by decide
        simp [p__law_due_1, -isKind, hk, z0, -eqD, hne]
      refine chS_at (g := [.lst []]) ?_ rfl
      show ((p__law_due_1 [some (.ref n), some (.ref p), none, none] s).then _).out = _
      rw [e1]
      generalize s ++ [O.lst []] = s1 at *
      generalize hds : x :: xs = ds at *
      have chk := forL_chk (g := [(p, .lst ds)]) (f := forF (gName 2) (sIf (tOr (tNot (tTru (eCall fIsi (aCons (eVar 2) (aCons (eC (.ty .str)) aNil))))) (tCmp cNotIn (eVar 2) (eVar 0))) (sRet (eC (.bl false))) sNil)) (s := s1) (d := .bl false) (by simp [gdOk, hp']) (kn nd) (fun σ => ∃ v, σ = [some (.ref n), some (.ref p), v, none]) ds [some (.ref n), some (.ref p), none, none] ⟨none, rfl⟩ fun y hy σ ⟨v, e⟩ => by
        subst e
        have ky := el_kind (hel' y hy)
        cases y with
        | str t =>
          have it := in_dict hn' dr' t
          by_cases q : (nd.lookup t).isSome = true
          · rw [q] at it
            rw [if_pos (show kn nd (.str t) = true from q)]
            exact ⟨[some (.ref n), some (.ref p), some (.str t), none], by simp [-inD, it], _, rfl⟩
          · have q' : (nd.lookup t).isSome = false := (Bool.not_eq_true _).mp q
            rw [q'] at it
            rw [if_neg (show ¬ kn nd (.str t) = true from q)]
            simp [-inD, it]
        | _ =>
          rw [if_neg (by simp [kn])]
          simp [-isKind, ky, isS]
      have e2 : ∀ r, (p__law_due_2 [some (.ref n), some (.ref p), none, none] s1).then r = (forL [(p, .lst ds)] (forF (gName 2) (sIf (tOr (tNot (tTru (eCall fIsi (aCons (eVar 2) (aCons (eC (.ty .str)) aNil))))) (tCmp cNotIn (eVar 2) (eVar 0))) (sRet (eC (.bl false))) sNil)) ds [some (.ref n), some (.ref p), none, none] s1).then r := fun r => by
        have hg : gdOk [(p, O.lst ds)] s1 = true := by simp [gdOk, hp']
        simp only [p__law_due_2, sFor, iE, eVar, List.getElem?_cons_succ, List.getElem?_cons_zero, R.bind_ok, itD, hp', R.stm_ok, hg, if_true]
      show ((p__law_due_2 [some (.ref n), some (.ref p), none, none] s1).then _).out = _
      rw [e2]
      by_cases hall : ds.all (kn nd) = true
      · rw [if_pos hall] at chk
        obtain ⟨σ', ef, v, eσ⟩ := chk
        subst eσ
        rw [ef, RS.then_nx]
        cases ht : texts ds with
        | none =>
          have := texts_none ht
          have h2 : ds.all isS = true := by
            rw [List.all_eq_true] at hall ⊢
            intro y hy
            have := hall y hy
            cases y with
            | str t => rfl
            | _ => exact this
          rw [this] at h2; cases h2
        | some ts =>
          have ets := texts_eqS ht
          subst ets
          obtain ⟨t0, tr, rfl⟩ : ∃ t0 tr, ts = t0 :: tr := by
            cases ts with
            | nil => cases hds
            | cons a b => exact ⟨a, b, rfl⟩
          have hv : ringV nd (some ((t0 :: tr).map D.str)) = ringB nd (t0 :: tr) := by show (match texts ((t0 :: tr).map D.str) with | some ts => ringB nd ts | none => false) = _; rw [texts_str]
          rw [hv]
          have hl' : (t0 :: tr).length ≤ 200 := by simpa using hl
          have f1 : fLenSet [.ref p] s1 = .ok (.int (dedT [] (t0 :: tr)).length) s1 := by
            simp only [fLenSet, get_lst hp', texts_str]
            rw [if_pos (by omega)]
          have f2 : fLen [.ref p] s1 = .ok (.int (t0 :: tr).length) s1 := by simp only [fLen, hp', List.length_map]
          have f3 : opIx (.ref p) (.int 0) s1 = .ok (.str t0) s1 := by simp [opIx, hp', atI, ixN]
          have f4 : fMin1 [.ref p] s1 = .ok (.str (leastT t0 tr)) s1 := by
            simp only [fMin1, fLst, get_lst hp', kMin, texts_str]
            rfl
          have e3 : ∀ r, ((p__law_due_3 [some (.ref n), some (.ref p), v, none] s1).then r) = if decide ((dedT [] (t0 :: tr)).length = (t0 :: tr).length) && decide (t0 = leastT t0 tr) then r [some (.ref n), some (.ref p), v, none] s1 else .rt (.bl false) s1 := fun r => by
            simp only [p__law_due_3, sIf, tOr, tCmp, eCall, aCons, aNil, eVar, eC, eOp, List.getElem?_cons_succ, List.getElem?_cons_zero, R.bind_ok, f1, f2, f3, f4, cNe, eqD]
            by_cases a1 : (dedT [] (t0 :: tr)).length = (t0 :: tr).length
            · by_cases a2 : t0 = leastT t0 tr
              · rw [← a2]; simp [a1]
              · simp [a1, a2]
            · have a1' : ¬ ((dedT [] (t0 :: tr)).length : Int) = ((t0 :: tr).length : Int) := by omega
              simp only [a1, a1', decide_false, Bool.false_and, Bool.not_false, if_true, if_false, R.stm_ok, sRet, eC, RS.then_rt]
              simp
          show ((p__law_due_3 [some (.ref n), some (.ref p), v, none] s1).then _).out = _
          rw [e3]
          have hcond : ringB nd (t0 :: tr) = ((decide ((dedT [] (t0 :: tr)).length = (t0 :: tr).length) && decide (t0 = leastT t0 tr)) && (rangeD 0 ((t0 :: tr).length : Int)).all (nxB nd (t0 :: tr))) := by
            rw [nx_all]; unfold ringB; rw [Bool.and_assoc]
          rw [hcond]
          cases hc : decide ((dedT [] (t0 :: tr)).length = (t0 :: tr).length) && decide (t0 = leastT t0 tr) with
          | false => rfl
          | true =>
            rw [if_pos rfl, Bool.true_and]
            have chk2 := forL_chk (g := []) (f := forF (gName 3) (sIf (tCmp cNotIn (eOp opIx (eVar 1) (eOp opMod (eOp opAdd (eVar 3) (eC (.int 1))) (eCall fLen (aCons (eVar 1) aNil)))) (eOp opIx (eVar 0) (eOp opIx (eVar 1) (eVar 3)))) (sRet (eC (.bl false))) sNil)) (s := s1) (d := .bl false) rfl (nxB nd (t0 :: tr)) (fun σ => ∃ w, σ = [some (.ref n), some (.ref p), v, w]) (rangeD 0 ((t0 :: tr).length : Int)) [some (.ref n), some (.ref p), v, none] ⟨none, rfl⟩ fun y hy σ ⟨w, e⟩ => by
              subst e
              obtain ⟨j, hj, ey⟩ := List.mem_iff_getElem.mp hy
              obtain ⟨e', hj2⟩ := range_at (n := ((t0 :: tr).length : Int)) (j := j) (d := y) (by rw [List.getElem?_eq_getElem hj, ey])
              subst e'
              have hj3 : j < (t0 :: tr).length := by omega
              generalize hts : t0 :: tr = ts at *
              have pT : (0 : Int) < (ts.length : Int) := by omega
              have i0 := Int.emod_nonneg ((j : Int) + 1) (show (ts.length : Int) ≠ 0 by omega)
              have i1 := Int.emod_lt_of_pos ((j : Int) + 1) pT
              have x1 := at_strs i0 i1
              have x2 := at_strs (ts := ts) (k := (j : Int)) (by omega) hj2
              have o1 : opIx (.ref p) (.int (((j : Int) + 1) % (ts.length : Int))) s1 = .ok (.str (ts.getD (((j : Int) + 1) % (ts.length : Int)).toNat [])) s1 := by simp only [opIx, hp', x1]
              have o2 : opIx (.ref p) (.int (j : Int)) s1 = .ok (.str (ts.getD (j : Int).toNat [])) s1 := by simp only [opIx, hp', x2]
              have kk : kn nd (.str (ts.getD (j : Int).toNat [])) = true := by
                rw [List.all_eq_true] at hall
                refine hall _ (List.mem_map.mpr ⟨_, ?_, rfl⟩)
                rw [Int.toNat_natCast, List.getD_eq_getElem?_getD, List.getElem?_eq_getElem hj3]
                exact List.getElem_mem _
              have nb : nxB nd ts (.int (j : Int)) = ((nd.lookup (ts.getD (j : Int).toNat [])).getD []).contains (ts.getD (((j : Int) + 1) % (ts.length : Int)).toNat []) := rfl
              rw [nb]
              generalize ts.getD (((j : Int) + 1) % (ts.length : Int)).toNat [] = tb at *
              generalize ts.getD (j : Int).toNat [] = ta at *
              rcases dr'.get ta with ⟨h1, _⟩ | ⟨row, r, h1, h2, h3⟩
              · unfold kn at kk; dsimp only at kk; rw [h1] at kk; cases kk
              · have o3 : opIx (.ref n) (.str ta) s1 = .ok (.ref r) s1 := by
                  simp only [opIx, hn', h2]
                  rfl
                have o4 := in_row h3 tb
                rw [h1]
                show if row.contains tb = true then _ else _
                have body : forF (gName 3) (sIf (tCmp cNotIn (eOp opIx (eVar 1) (eOp opMod (eOp opAdd (eVar 3) (eC (.int 1))) (eCall fLen (aCons (eVar 1) aNil)))) (eOp opIx (eVar 0) (eOp opIx (eVar 1) (eVar 3)))) (sRet (eC (.bl false))) sNil) (.int (j : Int)) [some (.ref n), some (.ref p), v, w] s1 = if !row.contains tb then .rt (.bl false) s1 else .nx [some (.ref n), some (.ref p), v, some (.int j)] s1 := by
                  simp only [forF, gName, List.set_cons_succ, List.set_cons_zero, sIf, tCmp, eOp, eVar, eC, eCall, aCons, aNil, List.getElem?_cons_succ, List.getElem?_cons_zero, R.bind_ok, opAdd, f2, opMod, pT, if_true, o1, o2, o3, cNotIn, o4, R.stm_ok, sRet, sNil]
                rw [body]
                cases row.contains tb with
                | true => exact ⟨_, rfl, _, rfl⟩
                | false => rfl
            have e4 : ∀ r, (p__law_due_4 [some (.ref n), some (.ref p), v, none] s1).then r = (forL [] (forF (gName 3) (sIf (tCmp cNotIn (eOp opIx (eVar 1) (eOp opMod (eOp opAdd (eVar 3) (eC (.int 1))) (eCall fLen (aCons (eVar 1) aNil)))) (eOp opIx (eVar 0) (eOp opIx (eVar 1) (eVar 3)))) (sRet (eC (.bl false))) sNil)) (rangeD 0 ((t0 :: tr).length : Int)) [some (.ref n), some (.ref p), v, none] s1).then r := fun r => by
              have q1 : ((t0 :: tr).length : Int).natAbs < 4611686018427387904 := by omega
              have hg : gdOk [] s1 = true := rfl
              simp only [p__law_due_4, sFor, iRange1, eCall, aCons, aNil, eVar, List.getElem?_cons_succ, List.getElem?_cons_zero, R.bind_ok, f2, q1, if_true, R.stm_ok, hg]
            show ((p__law_due_4 [some (.ref n), some (.ref p), v, none] s1).then _).out = _
            rw [e4]
            by_cases hr : (rangeD 0 ((t0 :: tr).length : Int)).all (nxB nd (t0 :: tr)) = true
            · rw [if_pos hr] at chk2
              obtain ⟨σ2, ef2, w, eσ2⟩ := chk2
              rw [ef2, hr]
              rfl
            · rw [if_neg hr] at chk2
              have hr' : (rangeD 0 ((t0 :: tr).length : Int)).all (nxB nd (t0 :: tr)) = false := by simpa using hr
              rw [chk2, hr']
              rfl
      · rw [if_neg hall] at chk
        rw [chk]
        have hv : ringV nd (some ds) = false := by
          show (match texts ds with | some ts => ringB nd ts | none => false) = false
          cases ht : texts ds with
          | none => rfl
          | some ts =>
            have ets := texts_eqS ht
            subst ets
            cases ts with
            | nil => rfl
            | cons a b => exact kn_need ((Bool.not_eq_true _).mp hall)
        rw [hv]
        rfl
def b_is_row_of_names : SM :=
    (sSeq (sIf (tOr (tNot (tTru (eCall fIsi (aCons (eVar 0) (aCons (eC (.ty .list)) aNil))))) (tCmp cEq (eCall fLen (aCons (eVar 0) aNil)) (eC (.int 0))))
    (sRet (eC (.bl false)))
    sNil)
    (sSeq (sIf (tNot (tTru (eCompK kAll 1 (iE (eVar 0)) (gName 1) tYes (eCall fIsi (aCons (eVar 1) (aCons (eC (.ty .str)) aNil))))))
    (sRet (eC (.bl false)))
    sNil)
    (sRet (eCmp cEq (eCall fLenSet (aCons (eVar 0) aNil)) (eCall fLen (aCons (eVar 0) aNil))))))
def m_is_row_of_names : F := fn 1 b_is_row_of_names
noncomputable def q_is_row_of_names : F := chS m_is_row_of_names
theorem rf_is_row_of_names : Refines 1 m_is_row_of_names q_is_row_of_names := chS_rf _
def rowB : List T → Bool
  | [] => false
  | t0 :: tr => decide ((dedT [] (t0 :: tr)).length = (t0 :: tr).length)
def rowV : Option (List D) → Bool
  | some ds => (match texts ds with | some ts => rowB ts | none => false)
  | none => false
theorem rown_ok {s : M.S} {d : D} : ∀ {L : Option (List D)}, okThing s d L → q_is_row_of_names [d] s = .ok (.bl (rowV L)) s
  | none, h => by
    have hk : isKind .list d s = .ok false s := by
      rcases h with rfl | ⟨_, rfl⟩ | ⟨_, rfl⟩ | ⟨_, rfl⟩ | ⟨_, rfl⟩ <;> rfl
    refine chS_at (g := []) ?_ rfl
    show (b_is_row_of_names [some d] s).out = _
    simp [b_is_row_of_names, -isKind, hk, rowV]
  | some ds, ⟨p, ed, hp, hl, hel⟩ => by
    subst ed
    have hk : isKind .list (.ref p) s = .ok true s := by simp [isKind, hp]
    refine chS_at (g := []) ?_ rfl
    rw [List.append_nil]
    show (b_is_row_of_names [some (.ref p)] s).out = _
    have f2 : fLen [.ref p] s = .ok (.int ds.length) s := by simp only [fLen, hp]
    by_cases h0 : ds = []
    · subst h0
      simp [b_is_row_of_names, -isKind, hk, hp, rowV, texts, rowB]
    have hne : ¬ (ds.length : Int) = 0 := fun z => h0 (List.length_eq_zero_iff.mp (by omega))
    have hc : compE 1 (iE (eVar 0)) (gName 1) tYes (eCall fIsi (aCons (eVar 1) (aCons (eC (.ty .str)) aNil))) [some (.ref p)] s = .ok (ds.map fun x => .bl (isS x)) s :=
      comp_map (g := [(p, .lst ds)]) (fun x => .bl (isS x)) (by simp [hp]) (by unfold SZ; omega) (by simp [gdOk, hp]) fun x hx => by
        have := el_kind (hel x hx)
        simp [-isKind, this]
    have hall := all_map isS ds s
    have c1 : (sIf (tOr (tNot (tTru (eCall fIsi (aCons (eVar 0) (aCons (eC (.ty .list)) aNil))))) (tCmp cEq (eCall fLen (aCons (eVar 0) aNil)) (eC (.int 0)))) (sRet (eC (.bl false))) sNil) [some (.ref p)] s = .nx [some (.ref p)] s := by
      simp [-isKind, hk, hp, h0]
    show ((((sIf _ _ _) _ _).then _).out) = _
    rw [c1, RS.then_nx]
    have c2 : (sIf (tNot (tTru (eCompK kAll 1 (iE (eVar 0)) (gName 1) tYes (eCall fIsi (aCons (eVar 1) (aCons (eC (.ty .str)) aNil)))))) (sRet (eC (.bl false))) sNil) [some (.ref p)] s = if ds.all isS then .nx [some (.ref p)] s else .rt (.bl false) s := by
      simp only [sIf, tNot, tTru, eCompK, hc, R.bind_ok, hall, truth]
      cases ds.all isS <;> simp
    show ((((sIf _ _ _) _ _).then _).out) = _
    rw [c2]
    cases ht : texts ds with
    | none =>
      have hv : rowV (some ds) = false := by show (match texts ds with | some ts => rowB ts | none => false) = false; rw [ht]
      rw [texts_none ht, hv]
      rfl
    | some ts =>
      have hv : rowV (some ds) = rowB ts := by show (match texts ds with | some ts => rowB ts | none => false) = _; rw [ht]
      have ets := texts_eqS ht
      subst ets
      have ha : (ts.map D.str).all isS = true := by
        rw [List.all_eq_true]
        intro x hx
        obtain ⟨t, _, rfl⟩ := List.mem_map.mp hx
        rfl
      rw [ha, if_pos rfl, RS.then_nx, hv]
      have f1 : fLenSet [.ref p] s = .ok (.int (dedT [] ts).length) s := by
        simp only [fLenSet, get_lst hp, texts_str]
        rw [if_pos (by rw [List.length_map] at hl; omega)]
      rw [List.length_map] at f2
      have hB : rowB ts = decide (((dedT [] ts).length : Int) = (ts.length : Int)) := by
        cases ts with
        | nil => exact absurd rfl h0
        | cons a b =>
          show decide _ = _
          refine decide_eq_decide.mpr ?_
          omega
      rw [hB]
      simp only [sRet, eCmp, eCall, aCons, aNil, eVar, List.getElem?_cons_zero, R.bind_ok, f1, f2, cEq, eqD, R.stm_ok]
      rfl
def b_is_ring : SM :=
    (sSeq (sIf (tOr (tNot (tTru (eCall q_is_row_of_names (aCons (eVar 1) aNil)))) (tCmp cNe (eOp opIx (eVar 1) (eC (.int 0))) (eCall fMin1 (aCons (eVar 1) aNil))))
    (sRet (eC (.bl false)))
    sNil)
    (sSeq (sSet 2 (eOp opAdd (eSl (eVar 1) (oSome (eC (.int 1))) oNone) (eSl (eVar 1) oNone (oSome (eC (.int 1))))))
    (sRet (eCompK kAll 2 (iZip (eVar 1) (eVar 2)) (gTup (gCons (gName 3) (gCons (gName 4) gNil))) tYes (eCmp cIn (eVar 4) (eM .dict mGet (eVar 0) (aCons (eVar 3) (aCons (eLst aNil) aNil))))))))
def m_is_ring : F := fn 3 b_is_ring
noncomputable def q_is_ring : F := chS m_is_ring
theorem rf_is_ring : Refines 2 m_is_ring q_is_ring := chS_rf _
theorem zipL_strs : ∀ ts us : List T, zipL (ts.map D.str) (us.map D.str) = (ts.zip us).map fun p => D.tup [.str p.1, .str p.2]
  | [], _ => by simp [zipL]
  | _ :: _, [] => by simp [zipL]
  | t :: ts, u :: us => by
    rw [List.map_cons, List.map_cons, zipL, zipL_strs ts us]
    rfl
def nbD (nd : List (T × List T)) : D → D
  | .tup [.str a, .str b] => .bl (((nd.lookup a).getD []).contains b)
  | _ => .non
theorem nbD_tup (nd : List (T × List T)) (a b : T) : nbD nd (.tup [.str a, .str b]) = .bl (((nd.lookup a).getD []).contains b) := rfl
theorem ring_v {nd : List (T × List T)} {t0 : T} {tr : List T} : ringB nd (t0 :: tr) = (rowB (t0 :: tr) && (decide (t0 = leastT t0 tr) && ((t0 :: tr).zip (tr ++ [t0])).all fun p => ((nd.lookup p.1).getD []).contains p.2)) := rfl
theorem isring_ok {s : M.S} {n : Nat} {kvs : List (D × D)} {nd : List (T × List T)} {d : D} (hn : s[n]? = some (.dct kvs)) (dr : DR s kvs nd) {L : Option (List D)} (h : okThing s d L) : q_is_ring [.ref n, d] s = .ok (.bl (ringV nd L)) s := by
  have hr := rown_ok h
  cases hv : rowV L with
  | false =>
    rw [hv] at hr
    have hz : ringV nd L = false := by
      cases L with
      | none => rfl
      | some ds =>
        show (match texts ds with | some ts => ringB nd ts | none => false) = false
        have hv' : (match texts ds with | some ts => rowB ts | none => false) = false := hv
        cases ht : texts ds with
        | none => rfl
        | some ts =>
          rw [ht] at hv'
          dsimp only at hv' ⊢
          cases ts with
          | nil => rfl
          | cons a b => rw [ring_v, hv']; rfl
    rw [hz]
    refine chS_at (g := []) ?_ rfl
    show (b_is_ring [some (.ref n), some d, none] s).out = _
    simp [b_is_ring, hr]
  | true =>
    rw [hv] at hr
    cases L with
    | none => cases hv
    | some ds =>
      obtain ⟨p, rfl, hp, hl, hel⟩ := h
      have hv' : (match texts ds with | some ts => rowB ts | none => false) = true := hv
      cases ht : texts ds with
      | none => rw [ht] at hv'; cases hv'
      | some ts =>
        rw [ht] at hv'
        dsimp only at hv'
        have hV : ringV nd (some ds) = ringB nd ts := by show (match texts ds with | some ts => ringB nd ts | none => false) = _; rw [ht]
        rw [hV]
        have ets := texts_eqS ht
        subst ets
        cases ts with
        | nil => cases hv'
        | cons t0 tr =>
          rw [ring_v, hv', Bool.true_and]
          have f3 : opIx (.ref p) (.int 0) s = .ok (.str t0) s := by simp [opIx, hp, atI, ixN]
          have f4 : fMin1 [.ref p] s = .ok (.str (leastT t0 tr)) s := by
            simp only [fMin1, fLst, get_lst hp, kMin, texts_str]
            rfl
          have c1 : (sIf (tOr (tNot (tTru (eCall q_is_row_of_names (aCons (eVar 1) aNil)))) (tCmp cNe (eOp opIx (eVar 1) (eC (.int 0))) (eCall fMin1 (aCons (eVar 1) aNil)))) (sRet (eC (.bl false))) sNil) [some (.ref n), some (.ref p), none] s = if t0 = leastT t0 tr then .nx [some (.ref n), some (.ref p), none] s else .rt (.bl false) s := by
            simp only [sIf, tOr, tNot, tTru, eCall, aCons, aNil, eVar, eC, eOp, List.getElem?_cons_succ, List.getElem?_cons_zero, R.bind_ok, hr, truth, tCmp, f3, f4, cNe, eqD]
            by_cases a : t0 = leastT t0 tr
            · rw [← a]; simp
            · simp [a]
          by_cases a : t0 = leastT t0 tr
          case neg =>
            refine chS_at (g := []) ?_ rfl
            show ((((sIf _ _ _) [some (.ref n), some (.ref p), none] s).then _).out) = _
            rw [c1, if_neg a]
            simp [a]
          rw [if_pos a] at c1
          have hb : decide (t0 = leastT t0 tr) = true := decide_eq_true a
          rw [hb, Bool.true_and]
          have u1 : cut ((t0 :: tr).map D.str) (some 1) none = tr.map D.str := by rw [cut_lo _ (by decide)]; simp
          have u2 : cut ((t0 :: tr).map D.str) none (some 1) = [D.str t0] := by rw [cut_hi _ (by decide)]; simp
          have zl : tr.length + 1 ≤ SZ := by simp at hl; unfold SZ; omega
          have c2 : (sSet 2 (eOp opAdd (eSl (eVar 1) (oSome (eC (.int 1))) oNone) (eSl (eVar 1) oNone (oSome (eC (.int 1)))))) [some (.ref n), some (.ref p), none] s = .nx [some (.ref n), some (.ref p), some (.ref (s.length + 2))] (s ++ [.lst (tr.map D.str), .lst [D.str t0], .lst ((tr ++ [t0]).map D.str)]) := by
            have hp' := app_get hp [.lst (tr.map D.str)]
            simp only [sSet, eOp, eSl, eVar, oSome, oNone, eC, List.getElem?_cons_succ, List.getElem?_cons_zero, R.bind_ok, slD, get_lst hp, u1, alloc, get_lst hp', u2]
            simp [zl]
          generalize hg : [O.lst (tr.map D.str), .lst [D.str t0], .lst ((tr ++ [t0]).map D.str)] = G at *
          have hpG := app_get hp G
          have hnG := app_get hn G
          have drG := dr.mono (Keep.app s G)
          have hq : (s ++ G)[s.length + 2]? = some (.lst ((tr ++ [t0]).map D.str)) := by
            rw [← hg, List.getElem?_append_right (by omega), show s.length + 2 - s.length = 2 by omega]
            rfl
          have hz : zipL ((t0 :: tr).map D.str) ((tr ++ [t0]).map D.str) = ((t0 :: tr).zip (tr ++ [t0])).map fun p => D.tup [.str p.1, .str p.2] := zipL_strs _ _
          obtain ⟨t', ec⟩ := comp_grow (n := 2) (it := iZip (eVar 1) (eVar 2)) (tg := gTup (gCons (gName 3) (gCons (gName 4) gNil))) (e := eCmp cIn (eVar 4) (eM .dict mGet (eVar 0) (aCons (eVar 3) (aCons (eLst aNil) aNil)))) (σ := [some (.ref n), some (.ref p), some (.ref (s.length + 2))]) (s := s ++ G) (xs := zipL ((t0 :: tr).map D.str) ((tr ++ [t0]).map D.str)) (g := [(p, .lst ((t0 :: tr).map D.str)), (s.length + 2, .lst ((tr ++ [t0]).map D.str))]) (nbD nd)
            (by simp only [iZip, aCons, aNil, eVar, List.getElem?_cons_succ, List.getElem?_cons_zero, R.bind_ok, zipP, get_lst hpG, get_lst hq]) (by rw [hz, List.length_map, List.length_zip]; simp; omega) (by simp [gdOk, hpG, hq]) fun x hx t => by
              rw [hz] at hx
              obtain ⟨⟨a, b⟩, _, rfl⟩ := List.mem_map.mp hx
              dsimp only
              refine ⟨t ++ [.lst []], ?_⟩
              have hn2 := app_get hnG (t ++ [.lst []])
              have dr2 := drG.mono (Keep.app (s ++ G) (t ++ [.lst []]))
              have z0 : (0 : Nat) ≤ SZ := by decide
              have ty : tyOk .dict (.ref n) (s ++ G ++ t) = true := by simp only [tyOk, app_get hnG t]
              have cl : compF 2 (gTup (gCons (gName 3) (gCons (gName 4) gNil))) tYes (eCmp cIn (eVar 4) (eM .dict mGet (eVar 0) (aCons (eVar 3) (aCons (eLst aNil) aNil)))) [some (.ref n), some (.ref p), some (.ref (s.length + 2))] (.tup [.str a, .str b]) (s ++ G ++ t) = ((inD (.str b) ((dGet (.str a) kvs).getD (.ref (s ++ G ++ t).length)) (s ++ G ++ (t ++ [.lst []]))).bind fun k s => R.ok (D.bl k) s).bind fun d s => .ok (some d) s := by
                simp only [compF, gTup, gCons, gNil, gName, tYes, eCmp, eM, eVar, aCons, aNil, eLst, cIn, List.cons_append, List.nil_append, List.replicate, List.set_cons_succ, List.set_cons_zero, List.getElem?_cons_succ, List.getElem?_cons_zero, R.bind_ok, ty, if_true, List.length_nil, z0, alloc, mGet, ← List.append_assoc] at *
                simp only [hn2, keyOk, if_true, R.bind_ok]
              rw [cl]
              rcases dr2.get a with ⟨h1, h2⟩ | ⟨row, r, h1, h2, h3⟩
              · rw [h2]
                have : (s ++ G ++ (t ++ [O.lst []]))[(s ++ G ++ t).length]? = some (.lst (([] : List T).map D.str)) := by
                  rw [← List.append_assoc]; simp
                show ((inD (.str b) (.ref (s ++ G ++ t).length) _).bind _).bind _ = _
                rw [in_row this b]
                rw [nbD_tup, h1]
                rfl
              · rw [h2]
                show ((inD (.str b) (.ref r) _).bind _).bind _ = _
                rw [in_row h3 b]
                rw [nbD_tup, h1]
                rfl
          have hk : kAll ((zipL ((t0 :: tr).map D.str) ((tr ++ [t0]).map D.str)).map (nbD nd)) (s ++ G ++ t') = .ok (.bl (((t0 :: tr).zip (tr ++ [t0])).all fun p => ((nd.lookup p.1).getD []).contains p.2)) (s ++ G ++ t') := by
            rw [hz, List.map_map]
            exact all_map (fun p : T × T => ((nd.lookup p.1).getD []).contains p.2) _ _
          refine chS_at (g := G ++ t') ?_ rfl
          show ((((sIf _ _ _) [some (.ref n), some (.ref p), none] s).then _).out) = _
          rw [c1, RS.then_nx]
          show ((((sSet _ _) _ _).then _).out) = _
          rw [c2, RS.then_nx]
          simp only [sRet, eCompK, ec, R.bind_ok, hk, R.stm_ok]
          rw [List.append_assoc]
          rfl
def p_law_1 : SM :=
    (sSet 1 (eCall q__law_names (aCons (eVar 0) (aCons (eC (.int 0)) aNil))))
def p_law_2 : SM :=
    (sSet 2 (eOp opAdd (eC (.int 1)) (eOp opMod (eCall q__law_cell (aCons (eVar 0) (aCons (eC (.int 5)) aNil))) (eCall fLen (aCons (eVar 1) aNil)))))
def p_law_3 : SM :=
    (sSet 3 (eM .list mIndex (eVar 1) (aCons (eCall fMin1 (aCons (eSl (eVar 1) oNone (oSome (eVar 2))) aNil)) aNil)))
def p_law_4 : SM :=
    (sSet 4 (eOp opAdd (eSl (eVar 1) (oSome (eVar 3)) (oSome (eVar 2))) (eSl (eVar 1) oNone (oSome (eVar 3)))))
def p_law_5 : SM :=
    (sSet 5 (eCall q__law_needs (aCons (eVar 0) (aCons (eVar 4) (aCons (eVar 1) aNil)))))
def p_law_6 : SM :=
    (sSet 6 (eCall q__law_mixed (aCons (eCall q__law_cell (aCons (eVar 0) (aCons (eC (.int 15)) aNil))) (aCons (eC (.int 3)) aNil))))
def p_law_7 : SM :=
    (sSet 7 (eCall q__law_spoilt (aCons (eVar 4) (aCons (eVar 1) (aCons (eVar 6) aNil)))))
def p_law_8 : SM :=
    (sIf (tCmp cEq (eOp opMod (eVar 6) (eC (.int 10))) (eC (.int 8)))
    (sSub (eVar 5) (eOp opIx (eVar 4) (eOp opMod (eOp opDiv (eVar 6) (eC (.int 10))) (eVar 2))) (eSl (eVar 1) (oSome (eVar 2)) oNone))
    sNil)
def p_law_9 : SM :=
    (sIf (tCmp cEq (eOp opMod (eVar 6) (eC (.int 10))) (eC (.int 9)))
    (sExpr (eM .dict mPopD (eVar 5) (aCons (eOp opIx (eVar 4) (eOp opMod (eOp opDiv (eVar 6) (eC (.int 10))) (eVar 2))) aNil)))
    sNil)
def p_law_10 : SM :=
    (sSet 8 eDict0)
def p_law_11 : SM :=
    (sForItems (eVar 5) (gTup (gCons (gName 9) (gCons (gName 10) gNil)))
    (sSub (eVar 8) (eVar 9) (eCall fList (aCons (eVar 10) aNil))))
def p_law_12 : SM :=
    (sSet 11 (eVar 7))
def p_law_13 : SM :=
    (sIf (tTru (eCall fIsi (aCons (eVar 7) (aCons (eC (.ty .list)) aNil))))
    (sSet 11 (eCall fList (aCons (eVar 7) aNil)))
    sNil)
def p_law_14 : SM :=
    (sSet 12 (eCall q__law_due (aCons (eVar 5) (aCons (eVar 7) aNil))))
def p_law_15 : SM :=
    (sFor (iRange1 (eC (.int 2))) (gName 13)
    (sSeq (sSet 14 (eCall q_is_ring (aCons (eVar 8) (aCons (eVar 7) aNil))))
    (sIf (tOr (tNot (tTru (eCall fIsi (aCons (eVar 14) (aCons (eC (.ty .bool)) aNil))))) (tCmp cNe (eVar 14) (eVar 12)))
    (sRet (eC (.bl false)))
    sNil)))
def p_law_16 : SM :=
    (sRet (eAnd (eCmp cEq (eVar 7) (eVar 11)) (eAnd (eCmp cEq (eVar 8) (eVar 5)) (eCmp cEq (eCall fList (aCons (eVar 8) aNil)) (eCall fList (aCons (eVar 5) aNil))))))
def b_law : SM := (sSeq p_law_1 (sSeq p_law_2 (sSeq p_law_3 (sSeq p_law_4 (sSeq p_law_5 (sSeq p_law_6 (sSeq p_law_7 (sSeq p_law_8 (sSeq p_law_9 (sSeq p_law_10 (sSeq p_law_11 (sSeq p_law_12 (sSeq p_law_13 (sSeq p_law_14 (sSeq p_law_15 p_law_16)))))))))))))))
def m_law : F := fn 15 b_law
theorem cut_map {α β : Type} (f : α → β) (xs : List α) (lo hi : Option Int) : cut (xs.map f) lo hi = (cut xs lo hi).map f := by
  unfold cut
  rw [List.length_map, List.map_take, List.map_drop]
theorem place_take {x : T} {ts : List T} {n : Nat} (h : x ∈ ts.take n) : placeT x ts < n ∧ x ∈ ts := by
  obtain ⟨i, hi, e⟩ := List.mem_iff_getElem.mp h
  rw [List.length_take] at hi
  rw [List.getElem_take] at e
  refine ⟨?_, e ▸ List.getElem_mem _⟩
  unfold placeT
  by_cases hlt : i < ts.findIdx (· == x)
  · have := List.not_of_lt_findIdx hlt
    simp [e] at this
  · omega
theorem DR.at {s : M.S} : ∀ {kvs : List (D × D)} {nd : List (T × List T)} {j : Nat} {kv : D × D}, DR s kvs nd → kvs[j]? = some kv → ∃ p r, nd[j]? = some p ∧ kv = (.str p.1, .ref r) ∧ s[r]? = some (.lst (p.2.map .str))
  | _ :: _, p :: _, 0, _, ⟨⟨r, e1, e2⟩, h⟩, e => by cases e; exact ⟨p, r, rfl, e1, e2⟩
  | _ :: kvs, _ :: nd, j + 1, kv, ⟨_, h⟩, e => by
    obtain ⟨p, r, h1, h2⟩ := DR.at (kvs := kvs) (nd := nd) (j := j) (kv := kv) h (by simpa using e)
    exact ⟨p, r, by simpa using h1, h2⟩
  | [], _, _, _, _, e => by simp at e
  | _ :: _, [], _, _, h, _ => h.elim
theorem putA_new {k : T} {v : List T} {nd : List (T × List T)} (h : k ∉ keysA nd) : putA k v nd = nd ++ [(k, v)] := by
  unfold putA
  rw [if_neg (fun z => h (any_mem.mp z))]
theorem lookup_memA {nd : List (T × List T)} (hn : (keysA nd).Nodup) {p : T × List T} (h : p ∈ nd) : nd.lookup p.1 = some p.2 := by
  induction nd with
  | nil => cases h
  | cons q nd ih =>
    obtain ⟨k, v⟩ := q
    unfold keysA at hn ih
    rw [List.map_cons, List.nodup_cons] at hn
    rw [List.lookup_cons]
    rcases List.mem_cons.mp h with h | h
    · subst h; simp
    · have hne : (p.1 == k) = false := by
        simp only [beq_eq_false_iff_ne, ne_eq]
        exact fun e => hn.1 (by have hm : p.1 ∈ nd.map (fun x => x.1) := List.mem_map_of_mem h; rw [e] at hm; exact hm)
      rw [hne]
      exact ih hn.2 h
theorem dEq_DR {s : M.S} {ws : List (D × D)} {nd0 : List (T × List T)} (hw : DR s ws nd0) (hn : (keysA nd0).Nodup) : ∀ {kvs : List (D × D)} {nd : List (T × List T)}, DR s kvs nd → (∀ p ∈ nd, p ∈ nd0) → dEq s ws kvs = some true
  | [], [], _, _ => rfl
  | _ :: kvs, p :: nd, ⟨⟨r, e1, e2⟩, h⟩, m => by
    subst e1
    have ih := dEq_DR hw hn h fun q hq => m q (List.mem_cons_of_mem _ hq)
    have hp : ∀ (k : Nat) (ts : List T), s[k]? = some (.lst (ts.map .str)) → toP 8 s (.ref k) = some (.lst (ts.map P.str)) := fun k ts e => by
      show (match lstAt s k with | some xs => (toPg.all (fun j => toP 7 s (.ref j)) xs).map P.lst | none => none) = _
      rw [get_lst e]
      show (toPg.all _ (ts.map .str)).map P.lst = _
      rw [P_strs]; rfl
    have lk := lookup_memA hn (m p List.mem_cons_self)
    rcases hw.get p.1 with ⟨h1, _⟩ | ⟨row, r', h1, h2, h3⟩
    · rw [lk] at h1; cases h1
    · rw [lk] at h1
      cases h1
      unfold dEq
      rw [h2, ih]
      simp [hp _ _ e2, hp _ _ h3, P.dep, deps_strs, P.eqv, eqvs_strs]
  | [], _ :: _, h, _ => h.elim
  | _ :: _, [], h, _ => h.elim
theorem eqD_DR {s : M.S} {i j : Nat} {kvs ws : List (D × D)} {nd : List (T × List T)} (hi : s[i]? = some (.dct kvs)) (hj : s[j]? = some (.dct ws)) (h1 : DR s kvs nd) (h2 : DR s ws nd) (hn : (keysA nd).Nodup) : eqD (.ref i) (.ref j) s = .ok true s := by
  have h : ∀ (k : Nat) (kv : List (D × D)), s[k]? = some (.dct kv) → toP DEEP s (.ref k) = none := fun k kv e => by
    show (match lstAt s k with | some xs => (toPg.all (fun j => toP 8 s (.ref j)) xs).map P.lst | none => none) = _
    have : lstAt s k = none := by simp [lstAt, e]
    rw [this]
  simp only [eqD, h i _ hi, h j _ hj, eqDct, hi, hj]
  rw [if_pos (by rw [h1.length, h2.length]), dEq_DR h2 hn h1 fun _ h => h]
mutual
theorem eqv_refl : ∀ p : P, P.eqv p p = true
  | .non => rfl
  | .bl b => by simp [P.eqv]
  | .int b => by simp [P.eqv]
  | .str b => by simp [P.eqv]
  | .tup ps => by simp only [P.eqv]; exact eqvs_refl ps
  | .lst ps => by simp only [P.eqv]; exact eqvs_refl ps
theorem eqvs_refl : ∀ ps : List P, P.eqvs ps ps = true
  | [] => rfl
  | p :: ps => by simp only [P.eqvs, eqv_refl p, eqvs_refl ps, Bool.and_self]
end
theorem eqD_same {s : M.S} {p q : Nat} {ds : List D} (hp : s[p]? = some (.lst ds)) (hq : s[q]? = some (.lst ds)) (h : ∀ x ∈ ds, elOk s x) : eqD (.ref p) (.ref q) s = .ok true s := by
  obtain ⟨ps, e1, e2, e3⟩ := els_P h
  have hh : ∀ k, s[k]? = some (.lst ds) → toP DEEP s (.ref k) = some (.lst ps) := fun k e => by
    show (match lstAt s k with | some xs => (toPg.all (fun j => toP 8 s (.ref j)) xs).map P.lst | none => none) = _
    rw [get_lst e]
    show (toPg.all _ ds).map P.lst = _
    rw [e1]
    rfl
  simp only [eqD, hh p hp, hh q hq]
  rw [if_pos (by simp only [P.dep]; omega)]
  simp only [P.eqv, eqvs_refl]
theorem mid_ok {B : M.S} (hB : B.length = 5) {N ring : List T} (h0 : B[0]? = some (.lst (N.map .str))) (h4 : B[4]? = some (.lst (ring.map .str))) {R0 d : D} {mm c : Int} {v3 : Option D} (hmm : 0 < mm) (hml : mm ≤ ring.length) {kvs : List (D × D)} {nd : List (T × List T)} {t : M.S} (dr : DR (B ++ O.dct kvs :: t) kvs nd) (hn : (keysA nd).Nodup) (hl : nd.length ≤ 60) (mem : ∀ x ∈ ring, x ∈ keysA nd) :
    ∃ kvs' nd' t', (∀ r, (p_law_8 [some R0, some (.ref 0), some (.int mm), v3, some (.ref 4), some (.ref 5), some (.int c), some d, none, none, none, none, none, none, none] (B ++ O.dct kvs :: t)).then (sSeq p_law_9 r) = r [some R0, some (.ref 0), some (.int mm), v3, some (.ref 4), some (.ref 5), some (.int c), some d, none, none, none, none, none, none, none] (B ++ O.dct kvs' :: t')) ∧ DR (B ++ O.dct kvs' :: t') kvs' nd' ∧ (keysA nd').Nodup ∧ nd'.length ≤ 61 ∧ Keep (B ++ O.dct kvs :: t) (B ++ O.dct kvs' :: t') := by
  have g5 : ∀ (k : List (D × D)) (g : M.S), (B ++ O.dct k :: g)[5]? = some (.dct k) := fun k g => by
    rw [List.getElem?_append_right (by omega)]; simp [hB]
  have s5 : ∀ (k k' : List (D × D)) (g : M.S), (B ++ O.dct k :: g).set 5 (.dct k') = B ++ O.dct k' :: g := fun k k' g => by
    rw [List.set_append_right _ _ (by omega)]; simp [hB]
  have g4 : ∀ g, (B ++ g)[4]? = some (.lst (ring.map .str)) := fun g => app_get h4 g
  have g0 : ∀ g, (B ++ g)[0]? = some (.lst (N.map .str)) := fun g => app_get h0 g
  have i0 := Int.emod_nonneg (c / 10) (show mm ≠ 0 by omega)
  have i1 := Int.emod_lt_of_pos (c / 10) hmm
  have ix := at_strs (ts := ring) i0 (by omega)
  have hm : ring.getD (c / 10 % mm).toNat [] ∈ keysA nd := mem _ (by
    rw [List.getD_eq_getElem?_getD, List.getElem?_eq_getElem (by omega)]
    exact List.getElem_mem _)
  generalize ring.getD (c / 10 % mm).toNat [] = x at *
  by_cases w8 : c % 10 = 8
  · have w9 : ¬ c % 10 = 9 := by omega
    have kp : Keep (B ++ O.dct kvs :: t) (B ++ O.dct (dPut (.str x) (.ref (B.length + (t.length + 1))) kvs) :: (t ++ [O.lst ((cut N (some mm) none).map D.str)])) := by
      have k1 := Keep.set (s := B ++ O.dct kvs :: t) (i := B.length) (o := .dct kvs) (o' := .dct (dPut (.str x) (.ref (B.length + (t.length + 1))) kvs)) (by simp) (fun _ z => nomatch z)
      have k2 := k1.trans (Keep.app _ [O.lst ((cut N (some mm) none).map D.str)])
      simpa using k2
    refine ⟨dPut (.str x) (.ref (B.length + (t.length + 1))) kvs, putA x (cut N (some mm) none) nd, t ++ [O.lst ((cut N (some mm) none).map D.str)], fun r => ?_, (dr.mono kp).put ?_, putA_nodup hn, Nat.le_trans putA_len (by omega), kp⟩
    · have hz : kvs.length < SZ := by rw [dr.length]; unfold SZ; omega
      have e : (B ++ O.dct kvs :: t).length = B.length + (t.length + 1) := by simp
      simp [p_law_8, p_law_9, w8, w9, g0, g4, g5, s5, ix, hmm, cut_map, keyOk, hz, -List.length_append, e]
    · rw [List.getElem?_append_right (by omega)]
      simp [show B.length + (t.length + 1) - B.length = t.length + 1 by omega]
  by_cases w9 : c % 10 = 9
  · have kp : Keep (B ++ O.dct kvs :: t) (B ++ O.dct (dDrop (.str x) kvs) :: t) := by
      have k1 := Keep.set (s := B ++ O.dct kvs :: t) (i := B.length) (o := .dct kvs) (o' := .dct (dDrop (.str x) kvs)) (by simp) (fun _ z => nomatch z)
      simpa using k1
    obtain ⟨v, hv⟩ : ∃ v, dGet (.str x) kvs = some v := by
      rcases dr.get x with ⟨h1, h2⟩ | ⟨row, r, h1, h2, _⟩
      · exfalso
        obtain ⟨p, hp, e⟩ := List.mem_map.mp hm
        have := lookup_memA hn hp
        rw [e, h1] at this
        cases this
      · exact ⟨_, h2⟩
    refine ⟨dDrop (.str x) kvs, nd.filter fun p => decide (p.1 ≠ x), t, fun r => ?_, (dr.mono kp).drop x, ?_, Nat.le_trans (List.length_filter_le _ _) (by omega), kp⟩
    · simp [p_law_8, p_law_9, w9, g4, g5, s5, ix, hmm, keyOk, hv]
    · unfold keysA
      exact hn.sublist (List.Sublist.map _ List.filter_sublist)
  · exact ⟨kvs, nd, t, fun r => by simp [p_law_8, p_law_9, w8, w9], dr, hn, by omega, fun _ _ e => e⟩
abbrev hBody : SM := sSub (eVar 8) (eVar 9) (eCall fList (aCons (eVar 10) aNil))
abbrev hTg : GM := gTup (gCons (gName 9) (gCons (gName 10) gNil))
theorem hand_ok {B : M.S} (hB : B.length = 5) {kvs : List (D × D)} {nd : List (T × List T)} {t : M.S} (dr : DR (B ++ O.dct kvs :: t) kvs nd) (hn : (keysA nd).Nodup) (hl : nd.length ≤ 61) {v0 v1 v2 v3 v4 v6 v7 : Option D} :
    ∃ hk g v9 v10, (∀ r, (p_law_10 [v0, v1, v2, v3, v4, some (.ref 5), v6, v7, none, none, none, none, none, none, none] (B ++ O.dct kvs :: t)).then (sSeq p_law_11 r) = r [v0, v1, v2, v3, v4, some (.ref 5), v6, v7, some (.ref (B.length + (t.length + 1))), v9, v10, none, none, none, none] (B ++ O.dct kvs :: (t ++ .dct hk :: g))) ∧ DR (B ++ O.dct kvs :: (t ++ .dct hk :: g)) hk nd := by
  generalize hh : B.length + (t.length + 1) = h
  have kh : Keep (B ++ O.dct kvs :: t) (B ++ O.ins 1000 [] :: t) := by
    have k1 := Keep.set (s := B ++ O.dct kvs :: t) (i := B.length) (o := .dct kvs) (o' := .ins 1000 []) (by simp) (fun _ z => nomatch z)
    simpa using k1
  have gh : ∀ (hk : List (D × D)) (g : M.S), (B ++ O.ins 1000 [] :: (t ++ .dct hk :: g))[h]? = some (.dct hk) := fun hk g => by
    rw [List.getElem?_append_right (by omega), show h - B.length = t.length + 1 by omega, List.getElem?_cons_succ, List.getElem?_append_right (Nat.le_refl _)]; simp
  have sh : ∀ (hk hk' : List (D × D)) (g : M.S), (B ++ O.ins 1000 [] :: (t ++ .dct hk :: g)).set h (.dct hk') = B ++ O.ins 1000 [] :: (t ++ .dct hk' :: g) := fun hk hk' g => by
    rw [List.set_append_right _ _ (by omega), show h - B.length = t.length + 1 by omega, List.set_cons_succ, List.set_append_right _ _ (Nat.le_refl _)]; simp
  obtain ⟨σ', s', e5, ⟨v9, v10, eσ⟩, hk, g, es, drh⟩ := forL_step (g := []) (f := forF hTg hBody)
    (fun j σ s => (∃ v9 v10 : Option D, σ = [v0, v1, v2, v3, v4, some (.ref 5), v6, v7, some (.ref h), v9, v10, none, none, none, none]) ∧ ∃ hk g, s = B ++ O.ins 1000 [] :: (t ++ .dct hk :: g) ∧ DR s hk (nd.take j))
    (kvs.map fun p => D.tup [p.1, p.2]) 0 [v0, v1, v2, v3, v4, some (.ref 5), v6, v7, some (.ref h), none, none, none, none, none, none] (B ++ O.ins 1000 [] :: (t ++ [O.dct []])) ⟨⟨none, none, rfl⟩, [], [], rfl, trivial⟩ fun j x hx σ s ⟨⟨v9, v10, eσ⟩, hk, g, es, drh⟩ => by
      rw [Nat.zero_add] at drh ⊢
      subst eσ
      rw [List.getElem?_map] at hx
      cases q : kvs[j]? with
      | none => rw [q] at hx; cases hx
      | some kv =>
        rw [q] at hx
        have hx' : x = .tup [kv.1, kv.2] := by simpa using hx.symm
        subst hx'
        obtain ⟨p, r, e1, e2, e3⟩ := dr.at q
        subst e2
        have e3' : s[r]? = some (.lst (p.2.map .str)) := by
          have := kh r _ e3
          have := app_get this (.dct hk :: g)
          rw [es]
          simpa using this
        have hj : j < nd.length := (List.getElem?_eq_some_iff.mp e1).1
        have ep : nd[j] = p := (List.getElem?_eq_some_iff.mp e1).2
        have hlen : hk.length < SZ := by rw [drh.length, List.length_take]; unfold SZ; omega
        have gs : s[h]? = some (.dct hk) := by rw [es]; exact gh hk g
        have gs' : (s ++ [O.lst (p.2.map D.str)])[h]? = some (.dct hk) := app_get gs _
        have hs' : (s ++ [O.lst (p.2.map D.str)]).set h (.dct (dPut (.str p.1) (.ref s.length) hk)) = B ++ O.ins 1000 [] :: (t ++ .dct (dPut (.str p.1) (.ref s.length) hk) :: (g ++ [O.lst (p.2.map D.str)])) := by
          rw [es]
          have := sh hk (dPut (.str p.1) (.ref (B ++ O.ins 1000 [] :: (t ++ .dct hk :: g)).length) hk) (g ++ [O.lst (p.2.map D.str)])
          simpa using this
        refine ⟨[v0, v1, v2, v3, v4, some (.ref 5), v6, v7, some (.ref h), some (.str p.1), some (.ref r), none, none, none, none], _, ?_, rfl, ⟨_, _, rfl⟩, dPut (.str p.1) (.ref s.length) hk, g ++ [O.lst (p.2.map D.str)], rfl, ?_⟩
        · rw [← hs']
          simp [e3', gs', keyOk, hlen]
        · rw [← hs']
          have kp : Keep s ((s ++ [O.lst (p.2.map D.str)]).set h (.dct (dPut (.str p.1) (.ref s.length) hk))) := (Keep.app s [O.lst (p.2.map D.str)]).trans (Keep.set gs' (fun _ z => nomatch z))
          have key : p.1 ∉ keysA (nd.take j) := fun z => by
            have hn' := hn
            rw [← List.take_append_drop j nd] at hn'
            unfold keysA at hn' z
            rw [List.map_append, List.nodup_append] at hn'
            refine hn'.2.2 p.1 z p.1 (List.mem_map.mpr ⟨p, ?_, rfl⟩) rfl
            rw [List.drop_eq_getElem_cons hj, ep]
            exact List.mem_cons_self
          have := (drh.mono kp).put (k := p.1) (r := s.length) (row := p.2) ?_
          · rw [putA_new key] at this
            rw [List.take_succ, e1]
            exact this
          · rw [List.getElem?_set_ne (by
              have := (List.getElem?_eq_some_iff.mp gs).1
              omega)]
            simp
  rw [Nat.zero_add, List.length_map, dr.length, List.take_length] at drh
  subst eσ
  subst es
  refine ⟨hk, g, v9, v10, fun r => ?_, ?_⟩
  · have e1 : p_law_10 [v0, v1, v2, v3, v4, some (.ref 5), v6, v7, none, none, none, none, none, none, none] (B ++ O.dct kvs :: t) = .nx [v0, v1, v2, v3, v4, some (.ref 5), v6, v7, some (.ref h), none, none, none, none, none, none] (B ++ O.dct kvs :: (t ++ [O.dct []])) := by
      simp [p_law_10, hh]
    have g5 : (B ++ O.dct kvs :: (t ++ [O.dct []]))[5]? = some (.dct kvs) := by rw [List.getElem?_append_right (by omega)]; simp [hB]
    have s5 : (B ++ O.dct kvs :: (t ++ [O.dct []])).set 5 (.ins 1000 []) = B ++ O.ins 1000 [] :: (t ++ [O.dct []]) := by rw [List.set_append_right _ _ (by omega)]; simp [hB]
    have g6 : (B ++ O.ins 1000 [] :: (t ++ .dct hk :: g))[5]? = some (.ins 1000 []) := by rw [List.getElem?_append_right (by omega)]; simp [hB]
    have s6 : (B ++ O.ins 1000 [] :: (t ++ .dct hk :: g)).set 5 (.dct kvs) = B ++ O.dct kvs :: (t ++ .dct hk :: g) := by rw [List.set_append_right _ _ (by omega)]; simp [hB]
    rw [e1, RS.then_nx]
    show (p_law_11 _ _).then r = _
    simp only [p_law_11, sForItems, eVar, List.getElem?_cons_succ, List.getElem?_cons_zero, R.stm_ok, g5, s5, e5, thaw, g6, s6, if_true, RS.then_nx]
  · have k1 := Keep.set (s := B ++ O.ins 1000 [] :: (t ++ .dct hk :: g)) (i := B.length) (o := .ins 1000 []) (o' := .dct kvs) (by simp) (fun _ z => nomatch z)
    have k2 := drh.mono k1
    simpa using k2
theorem eq_self {s : M.S} {d : D} (h : okThing s d none) : eqD d d s = .ok true s := by
  rcases h with rfl | ⟨_, rfl⟩ | ⟨_, rfl⟩ | ⟨_, rfl⟩ | ⟨_, rfl⟩
  · simp
  · simp
  · simp
  · simp
  · rw [eqD_tups]; simp
theorem end_ok {s : M.S} {h : Nat} {kvs hk : List (D × D)} {nd : List (T × List T)} {d : D} {L : Option (List D)} (h5 : s[5]? = some (.dct kvs)) (hh : s[h]? = some (.dct hk)) (dr : DR s kvs nd) (drh : DR s hk nd) (hn : (keysA nd).Nodup) (ok : okThing s d L) {v0 v1 v2 v3 v4 v6 v9 v10 : Option D} :
    ∃ s', (sSeq p_law_12 (sSeq p_law_13 (sSeq p_law_14 (sSeq p_law_15 p_law_16))) [v0, v1, v2, v3, v4, some (.ref 5), v6, some d, some (.ref h), v9, v10, none, none, none, none] s).out = .ok (.bl true) s' := by
  obtain ⟨dk, g, e13, eqk⟩ : ∃ dk g, (∀ r, sSeq p_law_12 (sSeq p_law_13 r) [v0, v1, v2, v3, v4, some (.ref 5), v6, some d, some (.ref h), v9, v10, none, none, none, none] s = r [v0, v1, v2, v3, v4, some (.ref 5), v6, some d, some (.ref h), v9, v10, some dk, none, none, none] (s ++ g)) ∧ eqD d dk (s ++ g) = .ok true (s ++ g) := by
    cases L with
    | none =>
      have hk : isKind .list d s = .ok false s := by
        rcases ok with rfl | ⟨_, rfl⟩ | ⟨_, rfl⟩ | ⟨_, rfl⟩ | ⟨_, rfl⟩ <;> rfl
      refine ⟨d, [], fun r => by simp [p_law_12, p_law_13, -isKind, hk], ?_⟩
      rw [List.append_nil]
      exact eq_self ok
    | some ds =>
      obtain ⟨p, rfl, hp, hl, hel⟩ := ok
      exact ⟨.ref s.length, [O.lst ds], fun r => by simp [p_law_12, p_law_13, hp], eqD_same (app_get hp _) (by simp) fun x hx => (hel x hx).mono (Keep.app _ _)⟩
  have h5' := app_get h5 g
  have hh' := app_get hh g
  have dr' := dr.mono (Keep.app s g)
  have drh' := drh.mono (Keep.app s g)
  have ok' := ok.mono (Keep.app s g)
  have hk1 := dr'.keys
  have hk2 := drh'.keys
  generalize s ++ g = s1 at *
  have hd := due_ok h5' dr' ok'
  have hr := isring_ok hh' drh' ok'
  generalize ringV nd L = b at *
  have e15 : p_law_15 [v0, v1, v2, v3, v4, some (.ref 5), v6, some d, some (.ref h), v9, v10, some dk, some (.bl b), none, none] s1 = .nx [v0, v1, v2, v3, v4, some (.ref 5), v6, some d, some (.ref h), v9, v10, some dk, some (.bl b), some (.int 1), some (.bl b)] s1 := by
    have hg : ∀ s, gdOk [] s = true := fun _ => rfl
    simp [p_law_15, rangeD, List.range_succ, forL, hr, hg]
  have e14 : p_law_14 [v0, v1, v2, v3, v4, some (.ref 5), v6, some d, some (.ref h), v9, v10, some dk, none, none, none] s1 = .nx [v0, v1, v2, v3, v4, some (.ref 5), v6, some d, some (.ref h), v9, v10, some dk, some (.bl b), none, none] s1 := by
    simp [p_law_14, hd]
  have q2 := eqD_DR hh' h5' drh' dr' hn
  have kk1 : kvs.map (·.1) = (keysA nd).map D.str := by rw [hk1]; unfold keysA; rw [List.map_map]; rfl
  have kk2 : hk.map (·.1) = (keysA nd).map D.str := by rw [hk2]; unfold keysA; rw [List.map_map]; rfl
  have q3 : eqD (.ref s1.length) (.ref (s1.length + 1)) (s1 ++ [O.lst ((keysA nd).map D.str), .lst ((keysA nd).map D.str)]) = .ok true (s1 ++ [O.lst ((keysA nd).map D.str), .lst ((keysA nd).map D.str)]) := by
    rw [eqD_lists (ts := keysA nd) (us := keysA nd) (by simp) (by simp)]; simp
  have l1 : fList [.ref h] s1 = .ok (.ref s1.length) (s1 ++ [O.lst ((keysA nd).map D.str)]) := by
    simp only [fList, hh', kk2, alloc]
  have l2 : fList [.ref 5] (s1 ++ [O.lst ((keysA nd).map D.str)]) = .ok (.ref (s1.length + 1)) (s1 ++ [O.lst ((keysA nd).map D.str), .lst ((keysA nd).map D.str)]) := by
    simp only [fList, app_get h5' _, kk1, alloc]
    simp
  refine ⟨s1 ++ [O.lst ((keysA nd).map D.str), .lst ((keysA nd).map D.str)], ?_⟩
  rw [e13]
  show (((p_law_14 _ _).then _).out) = _
  rw [e14, RS.then_nx]
  show (((p_law_15 _ _).then _).out) = _
  rw [e15, RS.then_nx]
  simp only [p_law_16, sRet, eAnd, eCmp, eVar, eCall, aCons, aNil, List.getElem?_cons_succ, List.getElem?_cons_zero, R.bind_ok, cEq, eqk, q2, asB, if_true, l1, l2, q3, R.stm_ok]
  rfl
theorem law_true (ns : List Int) (hl : ns.length ≤ 63) : ∃ s, m_law [.ro (ns.map .int)] [] = .ok (.bl true) s := by
  have hm := many_le (cellI ns 0)
  have hlN := names_len ns 0 (manyI (cellI ns 0)).toNat
  have hoN := names_ok ns 0 (manyI (cellI ns 0)).toNat
  have hn : ∀ s, q__law_names [.ro (ns.map .int), .int 0] s = .ok (.ref s.length) (s ++ [O.lst ((namesT ns 0 (manyI (cellI ns 0)).toNat).map .str)]) := fun s => by
    simp [q__law_names, intsD_map]
  generalize namesT ns 0 (manyI (cellI ns 0)).toNat = N at *
  have pN : (0 : Int) < (N.length : Int) := by omega
  have pN' : 0 < N.length := by omega
  have nN := List.ne_nil_of_length_pos pN'
  have c5 : ∀ s, q__law_cell [.ro (ns.map .int), .int 5] s = .ok (.int (cellI ns 5)) s := fun s => cell_ints ns 5 s (by decide)
  have c15 : ∀ s, q__law_cell [.ro (ns.map .int), .int 15] s = .ok (.int (cellI ns 15)) s := fun s => cell_ints ns 15 s (by decide)
  have i0 := Int.emod_nonneg (cellI ns 5) (show (N.length : Int) ≠ 0 by omega)
  have i1 := Int.emod_lt_of_pos (cellI ns 5) pN
  generalize hMM : 1 + cellI ns 5 % (N.length : Int) = mm at *
  have ht : cut (N.map D.str) none (some mm) = (N.take mm.toNat).map D.str := by rw [cut_hi _ (by omega)]; simp
  have tl : (N.take mm.toNat).length = mm.toNat := by rw [List.length_take]; omega
  have tne : N.take mm.toNat ≠ [] := fun z => by rw [z] at tl; simp at tl; omega
  have hmin := minOf_mem tne
  obtain ⟨pl, pm⟩ := place_take hmin
  have fm : kMin ((N.take mm.toNat).map D.str) [O.lst (N.map .str), .lst ((N.take mm.toNat).map .str)] = .ok (.str (minOf (N.take mm.toNat))) [O.lst (N.map .str), .lst ((N.take mm.toNat).map .str)] := by
    unfold kMin
    rw [texts_str]
    cases q : N.take mm.toNat with
    | nil => exact absurd q tne
    | cons a b => rfl
  have hix := idx_strs _ _ pm
  generalize minOf (N.take mm.toNat) = m0 at *
  generalize placeT m0 N = P0 at *
  have hc1 : cut (N.map D.str) (some (P0 : Int)) (some mm) = ((N.take mm.toNat).drop P0).map D.str := by
    rw [cut_map]
    congr 1
    unfold cut sIx
    simp only [if_neg (show ¬ (P0 : Int) < 0 by omega), if_neg (show ¬ mm < 0 by omega)]
    rw [List.drop_take]
    have a1 : (min (P0 : Int) (N.length : Int)).toNat = P0 := by omega
    have a2 : (min mm (N.length : Int)).toNat = mm.toNat := by omega
    rw [a1, a2]
  have hc2 : cut (N.map D.str) none (some (P0 : Int)) = (N.take P0).map D.str := by rw [cut_hi _ (by omega)]; simp
  obtain ⟨ring, hring⟩ : ∃ ring, ring = (N.take mm.toNat).drop P0 ++ N.take P0 := ⟨_, rfl⟩
  have rl : (ring.length : Int) = mm := by
    rw [hring, List.length_append, List.length_drop, tl, List.length_take]; omega
  have rT : ∀ t ∈ ring, t.length ≤ 100 := fun t ht => by
    have : t ∈ N := by
      rw [hring] at ht
      rcases List.mem_append.mp ht with h | h
      · exact List.mem_of_mem_take (List.mem_of_mem_drop h)
      · exact List.mem_of_mem_take h
    have := hoN t this
    omega
  have rmap : ((N.take mm.toNat).drop P0).map D.str ++ (N.take P0).map D.str = ring.map D.str := by rw [hring, List.map_append]
  have e4 : ∀ r, (p_law_1 [some (.ro (ns.map .int)), none, none, none, none, none, none, none, none, none, none, none, none, none, none] []).then (sSeq p_law_2 (sSeq p_law_3 (sSeq p_law_4 r))) = r [some (.ro (ns.map .int)), some (.ref 0), some (.int mm), some (.int (P0 : Int)), some (.ref 4), none, none, none, none, none, none, none, none, none, none] [O.lst (N.map .str), .lst ((N.take mm.toNat).map .str), .lst (((N.take mm.toNat).drop P0).map D.str), .lst ((N.take P0).map D.str), .lst (ring.map D.str)] := fun r => by
    have fl : (N.map D.str).all flat = true := flat_strs _
    have z : (((N.take mm.toNat).drop P0).map D.str).length + ((N.take P0).map D.str).length ≤ SZ := by
      rw [List.length_map, List.length_map, List.length_drop, tl, List.length_take]; unfold SZ; omega
    have s1 : ∀ r, (p_law_1 [some (.ro (ns.map .int)), none, none, none, none, none, none, none, none, none, none, none, none, none, none] []).then (sSeq p_law_2 r) = r [some (.ro (ns.map .int)), some (.ref 0), some (.int mm), none, none, none, none, none, none, none, none, none, none, none, none] [O.lst (N.map .str)] := fun r => by
      simp [p_law_1, p_law_2, hn, c5, pN, pN', nN, hMM]
    rw [s1]
    have s3 : p_law_3 [some (.ro (ns.map .int)), some (.ref 0), some (.int mm), none, none, none, none, none, none, none, none, none, none, none, none] [O.lst (N.map .str)] = .nx [some (.ro (ns.map .int)), some (.ref 0), some (.int mm), some (.int (P0 : Int)), none, none, none, none, none, none, none, none, none, none, none] [O.lst (N.map .str), .lst ((N.take mm.toNat).map .str)] := by
      have tk : ∀ s : M.S, s[0]? = some (.lst (N.map D.str)) → tyOk .list (.ref 0) s = true := fun s e => by simp only [tyOk, e]
      have ix : ∀ s : M.S, s[0]? = some (.lst (N.map D.str)) → mIndex (.ref 0) [.str m0] s = .ok (.int (P0 : Int)) s := fun s e => by
        simp only [mIndex, get_lst e]
        rw [if_pos (by rw [fl]; rfl), hix]
      simp only [p_law_3, sSet, eM, eVar, aCons, aNil, eCall, eSl, oNone, oSome, List.getElem?_cons_succ, List.getElem?_cons_zero, R.bind_ok, tk [.lst (N.map D.str)] rfl, if_true, slD, get_lst (s := [O.lst (N.map D.str)]) (p := 0) rfl, ht, alloc, List.length_cons, List.length_nil, List.cons_append, List.nil_append, fMin1, fLst, get_lst (s := [O.lst (N.map D.str), .lst ((N.take mm.toNat).map D.str)]) (p := 1) rfl, fm, ix [.lst (N.map D.str), .lst ((N.take mm.toNat).map D.str)] rfl, R.stm_ok, List.set_cons_succ, List.set_cons_zero]
    show (p_law_3 _ _).then _ = _
    rw [s3, RS.then_nx]
    show (p_law_4 _ _).then _ = _
    simp only [p_law_4, sSet, eOp, eVar, eSl, oNone, oSome, List.getElem?_cons_succ, List.getElem?_cons_zero, R.bind_ok, slD, get_lst (s := [O.lst (N.map D.str), .lst ((N.take mm.toNat).map D.str)]) (p := 0) rfl, hc1, alloc, List.length_cons, List.length_nil, List.cons_append, List.nil_append, get_lst (s := [O.lst (N.map D.str), .lst ((N.take mm.toNat).map D.str), .lst (((N.take mm.toNat).drop P0).map D.str)]) (p := 0) rfl, hc2, opAdd, z, if_true, rmap, R.stm_ok, List.set_cons_succ, List.set_cons_zero, RS.then_nx]
  generalize hBB : [O.lst (N.map .str), .lst ((N.take mm.toNat).map .str), .lst (((N.take mm.toNat).drop P0).map D.str), .lst ((N.take P0).map D.str), .lst (ring.map D.str)] = B at *
  have hB : B.length = 5 := by rw [← hBB]; rfl
  have b0 : B[0]? = some (.lst (N.map .str)) := by rw [← hBB]; rfl
  have b4 : B[4]? = some (.lst (ring.map .str)) := by rw [← hBB]; rfl
  obtain ⟨kvs, nd, t, en, dr, ndn, ndl, mem⟩ := needs_ok (ns := ns) (ring := ring) (N := N) (by omega) (by omega) pN' b4 b0
  rw [hB] at en
  obtain ⟨d, t2, L, esp, ok⟩ := spoilt_ok (ring := ring) (by omega) (by omega) rT (S := B ++ O.dct kvs :: t) (p := 4) (q := 0) (app_get b4 _) (mix (cellI ns 15) 3)
  have dr2 := dr.mono (Keep.app _ t2)
  rw [List.append_assoc, List.cons_append] at dr2 esp ok
  obtain ⟨kvs', nd', t', e9, dr', nd'n, nd'l, kp⟩ := mid_ok hB b0 b4 (R0 := .ro (ns.map .int)) (d := d) (mm := mm) (c := mix (cellI ns 15) 3) (v3 := some (.int (P0 : Int))) (by omega) (by omega) dr2 ndn ndl mem
  obtain ⟨hk, g, v9, v10, e11, drh⟩ := hand_ok hB dr' nd'n nd'l (v0 := some (.ro (ns.map .int))) (v1 := some (.ref 0)) (v2 := some (.int mm)) (v3 := some (.int (P0 : Int))) (v4 := some (.ref 4)) (v6 := some (.int (mix (cellI ns 15) 3))) (v7 := some d)
  have kg : Keep (B ++ O.dct kvs' :: t') (B ++ O.dct kvs' :: (t' ++ .dct hk :: g)) := by
    have := Keep.app (B ++ O.dct kvs' :: t') (.dct hk :: g)
    simpa using this
  have ok2 := ok.mono (kp.trans kg)
  have dr3 := dr'.mono kg
  obtain ⟨s', ee⟩ := end_ok (s := B ++ O.dct kvs' :: (t' ++ .dct hk :: g)) (h := B.length + (t'.length + 1)) (by rw [List.getElem?_append_right (by omega)]; simp [hB]) (by
    rw [List.getElem?_append_right (by omega), show B.length + (t'.length + 1) - B.length = t'.length + 1 by omega, List.getElem?_cons_succ, List.getElem?_append_right (Nat.le_refl _)]; simp) dr3 drh nd'n ok2 (v0 := some (.ro (ns.map .int))) (v1 := some (.ref 0)) (v2 := some (.int mm)) (v3 := some (.int (P0 : Int))) (v4 := some (.ref 4)) (v6 := some (.int (mix (cellI ns 15) 3))) (v9 := v9) (v10 := v10)
  refine ⟨s', ?_⟩
  show ((p_law_1 [some (.ro (ns.map .int)), none, none, none, none, none, none, none, none, none, none, none, none, none, none] []).then (sSeq p_law_2 (sSeq p_law_3 (sSeq p_law_4 (sSeq p_law_5 (sSeq p_law_6 (sSeq p_law_7 (sSeq p_law_8 (sSeq p_law_9 (sSeq p_law_10 (sSeq p_law_11 (sSeq p_law_12 (sSeq p_law_13 (sSeq p_law_14 (sSeq p_law_15 p_law_16))))))))))))))).out = _
  rw [e4]
  have e5 : p_law_5 [some (.ro (ns.map .int)), some (.ref 0), some (.int mm), some (.int (P0 : Int)), some (.ref 4), none, none, none, none, none, none, none, none, none, none] B = .nx [some (.ro (ns.map .int)), some (.ref 0), some (.int mm), some (.int (P0 : Int)), some (.ref 4), some (.ref 5), none, none, none, none, none, none, none, none, none] (B ++ O.dct kvs :: t) := by
    simp only [p_law_5, sSet, eCall, aCons, aNil, eVar, List.getElem?_cons_succ, List.getElem?_cons_zero, R.bind_ok, en, R.stm_ok, List.set_cons_succ, List.set_cons_zero]
  show ((p_law_5 _ _).then _).out = _
  rw [e5, RS.then_nx]
  have e6 : p_law_6 [some (.ro (ns.map .int)), some (.ref 0), some (.int mm), some (.int (P0 : Int)), some (.ref 4), some (.ref 5), none, none, none, none, none, none, none, none, none] (B ++ O.dct kvs :: t) = .nx [some (.ro (ns.map .int)), some (.ref 0), some (.int mm), some (.int (P0 : Int)), some (.ref 4), some (.ref 5), some (.int (mix (cellI ns 15) 3)), none, none, none, none, none, none, none, none] (B ++ O.dct kvs :: t) := by
    simp [p_law_6, c15, q__law_mixed]
  show ((p_law_6 _ _).then _).out = _
  rw [e6, RS.then_nx]
  have e7 : p_law_7 [some (.ro (ns.map .int)), some (.ref 0), some (.int mm), some (.int (P0 : Int)), some (.ref 4), some (.ref 5), some (.int (mix (cellI ns 15) 3)), none, none, none, none, none, none, none, none] (B ++ O.dct kvs :: t) = .nx [some (.ro (ns.map .int)), some (.ref 0), some (.int mm), some (.int (P0 : Int)), some (.ref 4), some (.ref 5), some (.int (mix (cellI ns 15) 3)), some d, none, none, none, none, none, none, none] (B ++ O.dct kvs :: (t ++ t2)) := by
    simp only [p_law_7, sSet, eCall, aCons, aNil, eVar, List.getElem?_cons_succ, List.getElem?_cons_zero, R.bind_ok, esp, R.stm_ok, List.set_cons_succ, List.set_cons_zero]
  show ((p_law_7 _ _).then _).out = _
  rw [e7, RS.then_nx]
  show (((p_law_8 _ _).then (sSeq p_law_9 _)).out) = _
  rw [e9]
  show (((p_law_10 _ _).then (sSeq p_law_11 _)).out) = _
  rw [e11]
  exact ee
end
end M
namespace My
open PySem L2 PyProof.Rows
def top (i : Nat) : Stmt := PySem.Challenge.pw_thingyard_k62_rings_known.main.body.getD i (.Pass ⟨0, 0, 0, 0⟩)
abbrev Θ0 : Tab := fun _ => none
theorem vv {X : Cx} {Θ : Tab} {pos : Pos} {x : Str} (i : Nat) (h1 : X.N[i]? = some x := by rfl) (h2 : Vis X.env.scope x := by exact Or.inl (by kernel_rfl)) (h3 : (x == ("__debug__" : Str)) = false := by kernel_rfl) (h4 : (x == ("__classdict__" : Str)) = false := by kernel_rfl) : WE X Θ (.Name x pos) (M.eVar i) := w_me_var i h1 h2 h3 h4
theorem vc {X : Cx} {Θ : Tab} {pos : Pos} {x : Str} (i : Nat) (h1 : X.N[i]? = some x := by rfl) (h2 : Vis X.env.scope x := by exact Or.inr (Or.inl (by kernel_rfl))) (h3 : (x == ("__debug__" : Str)) = false := by kernel_rfl) (h4 : (x == ("__classdict__" : Str)) = false := by kernel_rfl) : WE X Θ (.Name x pos) (M.eVar i) := w_me_var i h1 h2 h3 h4
theorem zz {X : Cx} {Θ : Tab} {pos : Pos} {y : M.T} {x : Str} {j : Nat} (h : x = ofT y := by decide +kernel) (ok : okT y := by decide +kernel) : WE X Θ (.Constant (.str x) j pos) (M.eC (.str y)) := w_me_str h ok
theorem gk {X : Cx} {x : Str} (h : X.env.kindOf x = some .globalImplicit := by kernel_rfl) : Gl X x := h
abbrev cX (P : Program) (w : World) (K : PySem.W.Frag) (mg : Str → Option Value) (base : Heap) (N : List Str) (n : Str) (st : Stmt) (f : Addr) (cdv : Value) (A : Around) (outer : List Env) (s : Shared) (H : Hp) (E : XK) : Cx := (cxOf CX0 P w K mg base N n (defScope st) f cdv A outer s H E).nox
abbrev RM (k : Nat) (n : Str) (st : Stmt) (A : Around) (s : Shared) (f : Addr) (cdv : Value) : Prop := Room k (A.deeper (envOfC n (defScope st) s.heap.objs.size f cdv))
abbrev bd (st : Stmt) (j : Nat) : Stmt := (defBody st).getD j (.Pass ⟨0, 0, 0, 0⟩)
section
variable (P : Program) (w : World) (K : PySem.W.Frag) (mg : Str → Option Value) (base : Heap)
abbrev T__law_cell : Prop := Has P w K mg base "_law_cell" 1 ["_law_script", "_law_k"] (SpM K Θ0 2 M.q__law_cell)
abbrev T__law_mixed : Prop := Has P w K mg base "_law_mixed" 1 ["_law_cell_here", "_law_k"] (SpM K Θ0 2 M.q__law_mixed)
abbrev T__law_name : Prop := Has P w K mg base "_law_name" 2 ["_law_cell_here", "_law_taken"] (SpM K Θ0 2 M.q__law_name)
abbrev T__law_names : Prop := Has P w K mg base "_law_names" 3 ["_law_script", "_law_base"] (SpM K Θ0 2 M.q__law_names)
abbrev T__law_needs : Prop := Has P w K mg base "_law_needs" 2 ["_law_script", "_law_ring", "_law_names_here"] (SpM K Θ0 3 M.q__law_needs)
abbrev T__law_spoilt : Prop := Has P w K mg base "_law_spoilt" 1 ["_law_ring", "_law_names_here", "_law_cell_here"] (SpM K Θ0 3 M.q__law_spoilt)
abbrev T__law_due : Prop := Has P w K mg base "_law_due" 1 ["_law_needs_here", "_law_thing"] (SpM K Θ0 2 M.q__law_due)
abbrev T_is_row_of_names : Prop := Has P w K mg base "is_row_of_names" 1 ["thing"] (SpM K Θ0 1 M.q_is_row_of_names)
abbrev T_is_ring : Prop := Has P w K mg base "is_ring" 2 ["needs", "names"] (SpM K Θ0 2 M.q_is_ring)
end
variable {P : Program} {w : World} {K : PySem.W.Frag} {mg : Str → Option Value} {base : Heap} {f : Addr} {fd : FuncData} {cdv : Value} {A : Around} {outer : List Env} {s : Shared} {H : Hp} {E : XK}
abbrev s__law_cell : Stmt := top 4
abbrev N__law_cell : List Str := ["_law_script", "_law_k"]
theorem sc__law_cell : FnScope N__law_cell ["_law_script", "_law_k"] (defScope s__law_cell) := ⟨rfl, rfl, rfl, by decide +kernel, rfl, by decide +kernel, by decide +kernel⟩
theorem ok__law_cell (F : Fun K "_law_cell" "_law_cell" s__law_cell f fd) (b_len : mg "len" = none) :
    FnOk P w K mg base CX0 1 f fd ["_law_script", "_law_k"] (SpM K Θ0 2 M.q__law_cell) := by
  refine w_fun_M (b := M.b__law_cell) F sc__law_cell M.rf__law_cell fun cdv A outer s H E hr => ?_
  unfold M.b__law_cell
  exact (w_mss_cons (w_ms_if (w_mt_cmp u_lt ad_lt (vv 1) (w_me_callB call_lenM ad_len gk b_len bt_len (w_ma_cons (vv 0) w_ma_nil)) (nomark _))
    (w_mss_one (w_ms_ret (w_me_ix (ix_M hr) ad_ix (vv 0) (vv 1))))
    w_mss_nil)
    (w_mss_one (w_ms_ret w_me_int)))
abbrev s__law_mixed : Stmt := top 5
abbrev N__law_mixed : List Str := ["_law_cell_here", "_law_k"]
theorem sc__law_mixed : FnScope N__law_mixed ["_law_cell_here", "_law_k"] (defScope s__law_mixed) := ⟨rfl, rfl, rfl, by decide +kernel, rfl, by decide +kernel, by decide +kernel⟩
theorem ok__law_mixed (F : Fun K "_law_mixed" "_law_mixed" s__law_mixed f fd) :
    FnOk P w K mg base CX0 1 f fd ["_law_cell_here", "_law_k"] (SpM K Θ0 2 M.q__law_mixed) := by
  refine w_fun_M (b := M.b__law_mixed) F sc__law_mixed M.rf__law_mixed fun cdv A outer s H E hr => ?_
  unfold M.b__law_mixed
  exact (w_mss_one (w_ms_ret (w_me_op u_mod ad_mod (w_me_op u_mulM ad_mul (w_me_op (OpR.or u_add op_catT) ad_add (vv 0) (w_me_op u_mulM ad_mul w_me_int (vv 1))) w_me_int) w_me_int)))
abbrev s__law_name : Stmt := top 6
abbrev N__law_name : List Str := ["_law_cell_here", "_law_taken", "_law_signs", "_law_left", "_law_found", "_law_at"]
theorem sc__law_name : FnScope N__law_name ["_law_cell_here", "_law_taken"] (defScope s__law_name) := ⟨rfl, rfl, rfl, by decide +kernel, rfl, by decide +kernel, by decide +kernel⟩
theorem nd__law_name_1 : (["_law_cell_here", "_law_taken", "_law_signs", "_law_left", "_law_found", "_law_at", "_law_j"] : List Str).Nodup := by decide +kernel
theorem ps__law_name_1 (hr : RM 1 "_law_name" s__law_name A s f cdv) : WS (cX P w K mg base N__law_name "_law_name" s__law_name f cdv A outer s H E) Θ0 (bd s__law_name 0) M.p__law_name_1 := by
  unfold M.p__law_name_1
  exact (w_ms_set (i := 2) sc__law_name.nd rfl (Or.inr (by kernel_rfl)) zz)
theorem ps__law_name_2 (h__law_mixed : T__law_mixed P w K mg base) (hr : RM 1 "_law_name" s__law_name A s f cdv) : WS (cX P w K mg base N__law_name "_law_name" s__law_name f cdv A outer s H E) Θ0 (bd s__law_name 1) M.p__law_name_2 := by
  unfold M.p__law_name_2
  exact (w_ms_set (i := 3) sc__law_name.nd rfl (Or.inl (by kernel_rfl)) (w_me_call h__law_mixed hr (by decide) gk (w_ma_cons (vc 0) (w_ma_cons w_me_int w_ma_nil)) (ar_cons (ar_cons ar_nil))))
theorem ps__law_name_3 (h__law_mixed : T__law_mixed P w K mg base) (b_range : mg "range" = none) (hr : RM 1 "_law_name" s__law_name A s f cdv) : WS (cX P w K mg base N__law_name "_law_name" s__law_name f cdv A outer s H E) Θ0 (bd s__law_name 2) M.p__law_name_3 := by
  unfold M.p__law_name_3
  exact (w_ms_set (i := 4) sc__law_name.nd rfl (Or.inl (by kernel_rfl)) (w_me_joinC (by decide +kernel) (vars := ["_law_j"]) rfl ⟨rfl, rfl, (by kernel_rfl), (by kernel_rfl), (by decide +kernel), ⟨(by kernel_rfl), (by kernel_rfl), trivial⟩, (by kernel_rfl)⟩ (w_mi_range1 gk b_range (w_me_op u_mod ad_mod (vv 3) w_me_int)) (fun _ _ _ _ => (w_mg_name (i := 6) nd__law_name_1 rfl (Or.inl (by kernel_rfl)) (.inr (by kernel_rfl)))) (fun _ _ _ _ => pifs_yes) (fun _ _ _ _ => (w_me_ix (ix_M hr) ad_ix (vc 2) (w_me_op u_mod ad_mod (w_me_call h__law_mixed hr (by decide) gk (w_ma_cons (vc 0) (w_ma_cons (vv 6) w_ma_nil)) (ar_cons (ar_cons ar_nil))) w_me_int))) (by kernel_rfl) (fun ρ H S ds ys p Q rp r hq h => adk_join (by decide +kernel) ρ H S ds ys p Q rp r (.inl hq) h)))
theorem ps__law_name_4 (b_len : mg "len" = none) (hr : RM 1 "_law_name" s__law_name A s f cdv) : WS (cX P w K mg base N__law_name "_law_name" s__law_name f cdv A outer s H E) Θ0 (bd s__law_name 3) M.p__law_name_4 := by
  unfold M.p__law_name_4
  exact (w_ms_if (w_mt_ofw (w_mw_and (w_mt_tru (vv 1)) (w_mw_one_and (w_mt_cmp u_gt ad_gt (w_me_op u_mod ad_mod (vc 0) w_me_int) w_me_int (nomark _)))))
    (w_mss_cons (w_ms_set (i := 4) sc__law_name.nd rfl (Or.inl (by kernel_rfl)) (w_me_ix (ix_M hr) ad_ix (vv 1) (w_me_op u_mod ad_mod (vv 3) (w_me_callB call_lenM ad_len gk b_len bt_len (w_ma_cons (vv 1) w_ma_nil)))))
    (w_mss_cons (w_ms_set (i := 4) sc__law_name.nd rfl (Or.inl (by kernel_rfl)) (w_me_op (OpR.or u_add op_catT) ad_add (vv 4) (w_me_sl u_sl ad_sl zz (w_mo_some (w_me_callB call_lenM ad_len gk b_len bt_len (w_ma_cons (vv 4) w_ma_nil))) w_mo_none)))
    (w_mss_cons (w_ms_set (i := 5) sc__law_name.nd rfl (Or.inl (by kernel_rfl)) (w_me_op u_mod ad_mod (w_me_op u_div ad_div (vv 3) w_me_int) (w_me_callB call_lenM ad_len gk b_len bt_len (w_ma_cons (vv 4) w_ma_nil))))
    (w_mss_one (w_ms_set (i := 4) sc__law_name.nd rfl (Or.inl (by kernel_rfl)) (w_me_op (OpR.or u_add op_catT) ad_add (w_me_op (OpR.or u_add op_catT) ad_add (w_me_sl u_sl ad_sl (vv 4) w_mo_none (w_mo_some (vv 5))) (w_me_ix (ix_M hr) ad_ix (vc 2) (w_me_op u_mod ad_mod (w_me_op u_div ad_div (vv 3) w_me_int) w_me_int))) (w_me_sl u_sl ad_sl (vv 4) (w_mo_some (w_me_op (OpR.or u_add op_catT) ad_add (vv 5) w_me_int)) w_mo_none)))))))
    w_mss_nil)
theorem ps__law_name_5 (h__law_mixed : T__law_mixed P w K mg base) (b_len : mg "len" = none) (hr : RM 1 "_law_name" s__law_name A s f cdv) : WS (cX P w K mg base N__law_name "_law_name" s__law_name f cdv A outer s H E) Θ0 (bd s__law_name 4) M.p__law_name_5 := by
  unfold M.p__law_name_5
  exact (w_ms_while PassesOwn.never (w_mt_cmp (op_inM hr) ad_in (vv 4) (vv 1) (by rfl))
    (w_mss_one (w_ms_set (i := 4) sc__law_name.nd rfl (Or.inl (by kernel_rfl)) (w_me_op (OpR.or u_add op_catT) ad_add (vv 4) (w_me_ix (ix_M hr) ad_ix (vc 2) (w_me_op u_mod ad_mod (w_me_call h__law_mixed hr (by decide) gk (w_ma_cons (vc 0) (w_ma_cons (w_me_callB call_lenM ad_len gk b_len bt_len (w_ma_cons (vv 4) w_ma_nil)) w_ma_nil)) (ar_cons (ar_cons ar_nil))) w_me_int))))))
theorem ps__law_name_6 (hr : RM 1 "_law_name" s__law_name A s f cdv) : WS (cX P w K mg base N__law_name "_law_name" s__law_name f cdv A outer s H E) Θ0 (bd s__law_name 5) M.p__law_name_6 := by
  unfold M.p__law_name_6
  exact (w_ms_ret (vv 4))
theorem ok__law_name (F : Fun K "_law_name" "_law_name" s__law_name f fd) (h__law_mixed : T__law_mixed P w K mg base) (b_len : mg "len" = none) (b_range : mg "range" = none) :
    FnOk P w K mg base CX0 2 f fd ["_law_cell_here", "_law_taken"] (SpM K Θ0 2 M.q__law_name) := by
  refine w_fun_M (b := M.b__law_name) F sc__law_name M.rf__law_name fun cdv A outer s H E hr => ?_
  unfold M.b__law_name
  exact (w_mss_cons (ps__law_name_1 hr) (w_mss_cons (ps__law_name_2 h__law_mixed hr) (w_mss_cons (ps__law_name_3 h__law_mixed b_range hr) (w_mss_cons (ps__law_name_4 b_len hr) (w_mss_cons (ps__law_name_5 h__law_mixed b_len hr) (w_mss_one (ps__law_name_6 hr)))))))
abbrev s__law_names : Stmt := top 7
abbrev N__law_names : List Str := ["_law_script", "_law_base", "_law_first", "_law_many", "_law_taken", "_law_k"]
theorem sc__law_names : FnScope N__law_names ["_law_script", "_law_base"] (defScope s__law_names) := ⟨rfl, rfl, rfl, by decide +kernel, rfl, by decide +kernel, by decide +kernel⟩
theorem ps__law_names_1 (h__law_cell : T__law_cell P w K mg base) (hr : RM 2 "_law_names" s__law_names A s f cdv) : WS (cX P w K mg base N__law_names "_law_names" s__law_names f cdv A outer s H E) Θ0 (bd s__law_names 0) M.p__law_names_1 := by
  unfold M.p__law_names_1
  exact (w_ms_set (i := 2) sc__law_names.nd rfl (Or.inl (by kernel_rfl)) (w_me_call h__law_cell hr (by decide) gk (w_ma_cons (vv 0) (w_ma_cons (vv 1) w_ma_nil)) (ar_cons (ar_cons ar_nil))))
theorem ps__law_names_2 (hr : RM 2 "_law_names" s__law_names A s f cdv) : WS (cX P w K mg base N__law_names "_law_names" s__law_names f cdv A outer s H E) Θ0 (bd s__law_names 1) M.p__law_names_2 := by
  unfold M.p__law_names_2
  exact (w_ms_set (i := 3) sc__law_names.nd rfl (Or.inl (by kernel_rfl)) (w_me_op (OpR.or u_add op_catT) ad_add w_me_int (w_me_op u_mod ad_mod (vv 2) w_me_int)))
theorem ps__law_names_3 (hr : RM 2 "_law_names" s__law_names A s f cdv) : WS (cX P w K mg base N__law_names "_law_names" s__law_names f cdv A outer s H E) Θ0 (bd s__law_names 2) M.p__law_names_3 := by
  unfold M.p__law_names_3
  exact (w_ms_if (w_mt_cmp (op_eqM hr) ad_eq (w_me_op u_mod ad_mod (w_me_op u_div ad_div (vv 2) w_me_int) w_me_int) w_me_int (nomark _))
    (w_mss_one (w_ms_set (i := 3) sc__law_names.nd rfl (Or.inl (by kernel_rfl)) (w_me_op (OpR.or u_add op_catT) ad_add w_me_int (w_me_op u_mod ad_mod (w_me_op u_div ad_div (vv 2) w_me_int) w_me_int))))
    w_mss_nil)
theorem ps__law_names_4 (hr : RM 2 "_law_names" s__law_names A s f cdv) : WS (cX P w K mg base N__law_names "_law_names" s__law_names f cdv A outer s H E) Θ0 (bd s__law_names 3) M.p__law_names_4 := by
  unfold M.p__law_names_4
  exact (w_ms_set (i := 4) sc__law_names.nd rfl (Or.inl (by kernel_rfl)) (w_me_lst w_ma_nil))
theorem ps__law_names_5 (h__law_cell : T__law_cell P w K mg base) (h__law_name : T__law_name P w K mg base) (h__law_mixed : T__law_mixed P w K mg base) (b_range : mg "range" = none) (hr : RM 2 "_law_names" s__law_names A s f cdv) : WS (cX P w K mg base N__law_names "_law_names" s__law_names f cdv A outer s H E) Θ0 (bd s__law_names 4) M.p__law_names_5 := by
  unfold M.p__law_names_5
  exact (w_ms_for PassesOwn.never rfl (w_mi_range1 gk b_range (vv 3)) (w_mg_name (i := 5) sc__law_names.nd rfl (Or.inl (by kernel_rfl)) (.inl rfl))
    (w_mss_one (w_ms_expr (w_me_m PySem.F.plainAttrs_list PySem.F.slot_list_append PySem.F.type_list_append mt_append ad_append rfl (vv 4) (w_ma_cons (w_me_call h__law_name hr (by decide) gk (w_ma_cons (w_me_call h__law_mixed hr (by decide) gk (w_ma_cons (w_me_call h__law_cell hr (by decide) gk (w_ma_cons (vv 0) (w_ma_cons (w_me_op (OpR.or u_add op_catT) ad_add (w_me_op (OpR.or u_add op_catT) ad_add (vv 1) w_me_int) (w_me_op u_mod ad_mod (vv 5) w_me_int)) w_ma_nil)) (ar_cons (ar_cons ar_nil))) (w_ma_cons (vv 5) w_ma_nil)) (ar_cons (ar_cons ar_nil))) (w_ma_cons (vv 4) w_ma_nil)) (ar_cons (ar_cons ar_nil))) w_ma_nil)))))
theorem ps__law_names_6 (hr : RM 2 "_law_names" s__law_names A s f cdv) : WS (cX P w K mg base N__law_names "_law_names" s__law_names f cdv A outer s H E) Θ0 (bd s__law_names 5) M.p__law_names_6 := by
  unfold M.p__law_names_6
  exact (w_ms_ret (vv 4))
theorem ok__law_names (F : Fun K "_law_names" "_law_names" s__law_names f fd) (h__law_cell : T__law_cell P w K mg base) (h__law_name : T__law_name P w K mg base) (h__law_mixed : T__law_mixed P w K mg base) (b_range : mg "range" = none) :
    FnOk P w K mg base CX0 3 f fd ["_law_script", "_law_base"] (SpM K Θ0 2 M.q__law_names) := by
  refine w_fun_M (b := M.b__law_names) F sc__law_names M.rf__law_names fun cdv A outer s H E hr => ?_
  unfold M.b__law_names
  exact (w_mss_cons (ps__law_names_1 h__law_cell hr) (w_mss_cons (ps__law_names_2 hr) (w_mss_cons (ps__law_names_3 hr) (w_mss_cons (ps__law_names_4 hr) (w_mss_cons (ps__law_names_5 h__law_cell h__law_name h__law_mixed b_range hr) (w_mss_one (ps__law_names_6 hr)))))))
abbrev s__law_needs : Stmt := top 8
abbrev N__law_needs : List Str := ["_law_script", "_law_ring", "_law_names_here", "_law_needs_here", "_law_k", "_law_cell_here", "_law_row", "_law_at"]
theorem sc__law_needs : FnScope N__law_needs ["_law_script", "_law_ring", "_law_names_here"] (defScope s__law_needs) := ⟨rfl, rfl, rfl, by decide +kernel, rfl, by decide +kernel, by decide +kernel⟩
theorem nd__law_needs_1 : (["_law_script", "_law_ring", "_law_names_here", "_law_needs_here", "_law_k", "_law_cell_here", "_law_row", "_law_at", "_law_j"] : List Str).Nodup := by decide +kernel
theorem ok__law_needs (F : Fun K "_law_needs" "_law_needs" s__law_needs f fd) (h__law_mixed : T__law_mixed P w K mg base) (h__law_cell : T__law_cell P w K mg base) (b_range : mg "range" = none) (b_len : mg "len" = none) :
    FnOk P w K mg base CX0 2 f fd ["_law_script", "_law_ring", "_law_names_here"] (SpM K Θ0 3 M.q__law_needs) := by
  refine w_fun_M0 (N := N__law_needs) (b := M.b__law_needs) F sc__law_needs fun cdv A outer s H E hr => ?_
  unfold M.b__law_needs
  exact (w_mss_cons (w_ms_set (i := 3) sc__law_needs.nd rfl (Or.inl (by kernel_rfl)) w_me_dnew)
    (w_mss_cons (w_ms_for PassesOwn.never rfl (w_mi_range1 gk b_range (w_me_callB call_lenM ad_len gk b_len bt_len (w_ma_cons (vv 1) w_ma_nil))) (w_mg_name (i := 4) sc__law_needs.nd rfl (Or.inl (by kernel_rfl)) (.inl rfl))
    (w_mss_cons (w_ms_set (i := 5) sc__law_needs.nd rfl (Or.inr (by kernel_rfl)) (w_me_call h__law_mixed hr (by decide) gk (w_ma_cons (w_me_call h__law_cell hr (by decide) gk (w_ma_cons (vv 0) (w_ma_cons (w_me_op (OpR.or u_add op_catT) ad_add w_me_int (w_me_op u_mod ad_mod (vv 4) w_me_int)) w_ma_nil)) (ar_cons (ar_cons ar_nil))) (w_ma_cons (vv 4) w_ma_nil)) (ar_cons (ar_cons ar_nil))))
    (w_mss_cons (w_ms_setcomp (vars := ["_law_j"]) (i := 6) rfl ⟨rfl, rfl, (by kernel_rfl), (by kernel_rfl), (by decide +kernel), ⟨(by kernel_rfl), (by kernel_rfl), trivial⟩, (by kernel_rfl)⟩ sc__law_needs.nd rfl (Or.inl (by kernel_rfl)) (w_mi_range1 gk b_range (w_me_op u_mod ad_mod (vc 5) w_me_int)) (fun _ _ _ _ => (w_mg_name (i := 8) nd__law_needs_1 rfl (Or.inl (by kernel_rfl)) (.inr (by kernel_rfl)))) (fun _ _ _ _ => pifs_yes) (fun _ _ _ _ => (w_me_ix (ix_M hr) ad_ix (vc 2) (w_me_op u_mod ad_mod (w_me_call h__law_mixed hr (by decide) gk (w_ma_cons (vc 5) (w_ma_cons (vv 8) w_ma_nil)) (ar_cons (ar_cons ar_nil))) (w_me_callB call_lenM ad_len gk b_len bt_len (w_ma_cons (vc 2) w_ma_nil))))) (by kernel_rfl))
    (w_mss_cons (w_ms_set (i := 7) sc__law_needs.nd rfl (Or.inl (by kernel_rfl)) (w_me_op u_mod ad_mod (w_me_op u_div ad_div (vc 5) w_me_int) (w_me_op (OpR.or u_add op_catT) ad_add (w_me_callB call_lenM ad_len gk b_len bt_len (w_ma_cons (vv 6) w_ma_nil)) w_me_int)))
    (w_mss_cons (w_ms_expr (w_me_m PySem.F.plainAttrs_list PySem.F.slot_list_insert PySem.F.type_list_insert mt_insertM ad_insert rfl (vv 6) (w_ma_cons (vv 7) (w_ma_cons (w_me_ix (ix_M hr) ad_ix (vv 1) (w_me_op u_mod ad_mod (w_me_op (OpR.or u_add op_catT) ad_add (vv 4) w_me_int) (w_me_callB call_lenM ad_len gk b_len bt_len (w_ma_cons (vv 1) w_ma_nil)))) w_ma_nil))))
    (w_mss_one (w_ms_sub hr (vv 3) (w_me_ix (ix_M hr) ad_ix (vv 1) (vv 4)) (vv 6))))))))
    (w_mss_one (w_ms_ret (vv 3)))))
abbrev s__law_spoilt : Stmt := top 9
abbrev N__law_spoilt : List Str := ["_law_ring", "_law_names_here", "_law_cell_here", "_law_way", "_law_at", "_law_other", "_law_odd", "_law_row", "_law_some"]
theorem sc__law_spoilt : FnScope N__law_spoilt ["_law_ring", "_law_names_here", "_law_cell_here"] (defScope s__law_spoilt) := ⟨rfl, rfl, rfl, by decide +kernel, rfl, by decide +kernel, by decide +kernel⟩
theorem ps__law_spoilt_1 (hr : RM 0 "_law_spoilt" s__law_spoilt A s f cdv) : WS (cX P w K mg base N__law_spoilt "_law_spoilt" s__law_spoilt f cdv A outer s H E) Θ0 (bd s__law_spoilt 0) M.p__law_spoilt_1 := by
  unfold M.p__law_spoilt_1
  exact (w_ms_set (i := 3) sc__law_spoilt.nd rfl (Or.inl (by kernel_rfl)) (w_me_op u_mod ad_mod (vv 2) w_me_int))
theorem ps__law_spoilt_2 (b_len : mg "len" = none) (hr : RM 0 "_law_spoilt" s__law_spoilt A s f cdv) : WS (cX P w K mg base N__law_spoilt "_law_spoilt" s__law_spoilt f cdv A outer s H E) Θ0 (bd s__law_spoilt 1) M.p__law_spoilt_2 := by
  unfold M.p__law_spoilt_2
  exact (w_ms_set (i := 4) sc__law_spoilt.nd rfl (Or.inl (by kernel_rfl)) (w_me_op u_mod ad_mod (w_me_op u_div ad_div (vv 2) w_me_int) (w_me_callB call_lenM ad_len gk b_len bt_len (w_ma_cons (vv 0) w_ma_nil))))
theorem ps__law_spoilt_3 (b_len : mg "len" = none) (hr : RM 0 "_law_spoilt" s__law_spoilt A s f cdv) : WS (cX P w K mg base N__law_spoilt "_law_spoilt" s__law_spoilt f cdv A outer s H E) Θ0 (bd s__law_spoilt 2) M.p__law_spoilt_3 := by
  unfold M.p__law_spoilt_3
  exact (w_ms_set (i := 5) sc__law_spoilt.nd rfl (Or.inl (by kernel_rfl)) (w_me_op u_mod ad_mod (w_me_op u_div ad_div (vv 2) w_me_int) (w_me_callB call_lenM ad_len gk b_len bt_len (w_ma_cons (vv 0) w_ma_nil))))
theorem ps__law_spoilt_4 (hr : RM 0 "_law_spoilt" s__law_spoilt A s f cdv) : WS (cX P w K mg base N__law_spoilt "_law_spoilt" s__law_spoilt f cdv A outer s H E) Θ0 (bd s__law_spoilt 3) M.p__law_spoilt_4 := by
  unfold M.p__law_spoilt_4
  exact (w_ms_set (i := 6) sc__law_spoilt.nd rfl (Or.inl (by kernel_rfl)) (w_me_ix (ix_M hr) ad_ix (w_me_lst (w_ma_cons w_me_int (w_ma_cons w_me_non (w_ma_cons (w_me_lst (w_ma_cons zz w_ma_nil)) (w_ma_cons (w_me_tup (w_ma_cons zz w_ma_nil)) (w_ma_cons w_me_bl w_ma_nil)))))) (w_me_op u_mod ad_mod (w_me_op u_div ad_div (vv 2) w_me_int) w_me_int)))
theorem ps__law_spoilt_5 (hr : RM 0 "_law_spoilt" s__law_spoilt A s f cdv) : WS (cX P w K mg base N__law_spoilt "_law_spoilt" s__law_spoilt f cdv A outer s H E) Θ0 (bd s__law_spoilt 4) M.p__law_spoilt_5 := by
  unfold M.p__law_spoilt_5
  exact (w_ms_if (w_mt_cmp (op_eqM hr) ad_eq (vv 3) w_me_int (nomark _))
    (w_mss_one (w_ms_ret (w_me_op (OpR.or u_add op_catT) ad_add (w_me_sl u_sl ad_sl (vv 0) w_mo_none (w_mo_some (vv 4))) (w_me_sl u_sl ad_sl (vv 0) (w_mo_some (w_me_op (OpR.or u_add op_catT) ad_add (vv 4) w_me_int)) w_mo_none))))
    w_mss_nil)
theorem ps__law_spoilt_6 (hr : RM 0 "_law_spoilt" s__law_spoilt A s f cdv) : WS (cX P w K mg base N__law_spoilt "_law_spoilt" s__law_spoilt f cdv A outer s H E) Θ0 (bd s__law_spoilt 5) M.p__law_spoilt_6 := by
  unfold M.p__law_spoilt_6
  exact (w_ms_if (w_mt_cmp (op_eqM hr) ad_eq (vv 3) w_me_int (nomark _))
    (w_mss_one (w_ms_ret (w_me_op (OpR.or u_add op_catT) ad_add (w_me_op (OpR.or u_add op_catT) ad_add (w_me_sl u_sl ad_sl (vv 0) w_mo_none (w_mo_some (vv 4))) (w_me_lst (w_ma_cons (w_me_ix (ix_M hr) ad_ix (vv 0) (vv 5)) w_ma_nil))) (w_me_sl u_sl ad_sl (vv 0) (w_mo_some (vv 4)) w_mo_none))))
    w_mss_nil)
theorem ps__law_spoilt_7 (b_list : mg "list" = none) (hr : RM 0 "_law_spoilt" s__law_spoilt A s f cdv) : WS (cX P w K mg base N__law_spoilt "_law_spoilt" s__law_spoilt f cdv A outer s H E) Θ0 (bd s__law_spoilt 6) M.p__law_spoilt_7 := by
  unfold M.p__law_spoilt_7
  exact (w_ms_if (w_mt_cmp (op_eqM hr) ad_eq (vv 3) w_me_int (nomark _))
    (w_mss_cons (w_ms_set (i := 7) sc__law_spoilt.nd rfl (Or.inl (by kernel_rfl)) (w_me_callTy (call_listM hr) ad_list gk b_list bt_list (w_ma_cons (vv 0) w_ma_nil)))
    (w_mss_cons (w_ms_sub hr (vv 7) (vv 4) (w_me_ix (ix_M hr) ad_ix (vv 0) (vv 5)))
    (w_mss_cons (w_ms_sub hr (vv 7) (vv 5) (w_me_ix (ix_M hr) ad_ix (vv 0) (vv 4)))
    (w_mss_one (w_ms_ret (vv 7))))))
    w_mss_nil)
theorem ps__law_spoilt_8 (hr : RM 0 "_law_spoilt" s__law_spoilt A s f cdv) : WS (cX P w K mg base N__law_spoilt "_law_spoilt" s__law_spoilt f cdv A outer s H E) Θ0 (bd s__law_spoilt 7) M.p__law_spoilt_8 := by
  unfold M.p__law_spoilt_8
  exact (w_ms_if (w_mt_cmp (op_eqM hr) ad_eq (vv 3) w_me_int (nomark _))
    (w_mss_one (w_ms_ret (w_me_op (OpR.or u_add op_catT) ad_add (w_me_op (OpR.or u_add op_catT) ad_add (w_me_sl u_sl ad_sl (vv 0) w_mo_none (w_mo_some (vv 4))) (w_me_lst (w_ma_cons (w_me_op (OpR.or u_add op_catT) ad_add (w_me_ix (ix_M hr) ad_ix (vv 0) (vv 4)) zz) w_ma_nil))) (w_me_sl u_sl ad_sl (vv 0) (w_mo_some (w_me_op (OpR.or u_add op_catT) ad_add (vv 4) w_me_int)) w_mo_none))))
    w_mss_nil)
theorem ps__law_spoilt_9 (hr : RM 0 "_law_spoilt" s__law_spoilt A s f cdv) : WS (cX P w K mg base N__law_spoilt "_law_spoilt" s__law_spoilt f cdv A outer s H E) Θ0 (bd s__law_spoilt 8) M.p__law_spoilt_9 := by
  unfold M.p__law_spoilt_9
  exact (w_ms_if (w_mt_cmp (op_eqM hr) ad_eq (vv 3) w_me_int (nomark _))
    (w_mss_one (w_ms_ret (w_me_op (OpR.or u_add op_catT) ad_add (w_me_sl u_sl ad_sl (vv 0) (w_mo_some (vv 4)) w_mo_none) (w_me_sl u_sl ad_sl (vv 0) w_mo_none (w_mo_some (vv 4))))))
    w_mss_nil)
theorem ps__law_spoilt_10 (b_len : mg "len" = none) (b_tuple : mg "tuple" = none) (hr : RM 0 "_law_spoilt" s__law_spoilt A s f cdv) : WS (cX P w K mg base N__law_spoilt "_law_spoilt" s__law_spoilt f cdv A outer s H E) Θ0 (bd s__law_spoilt 9) M.p__law_spoilt_10 := by
  unfold M.p__law_spoilt_10
  exact (w_ms_if (w_mt_cmp (op_eqM hr) ad_eq (vv 3) w_me_int (nomark _))
    (w_mss_cons (w_ms_set (i := 8) sc__law_spoilt.nd rfl (Or.inl (by kernel_rfl)) (w_me_lst (w_ma_cons (w_me_callTy call_tupleM ad_tuple gk b_tuple bt_tuple (w_ma_cons (vv 0) w_ma_nil)) (w_ma_cons (w_me_m PySem.F.plainAttrs_str PySem.F.slot_str_join PySem.F.type_str_join mt_join ad_join rfl zz (w_ma_cons (vv 0) w_ma_nil)) (w_ma_cons w_me_non (w_ma_cons (w_me_callB call_lenM ad_len gk b_len bt_len (w_ma_cons (vv 0) w_ma_nil)) (w_ma_cons (w_me_lst w_ma_nil) (w_ma_cons w_me_bl (w_ma_cons (w_me_ix (ix_M hr) ad_ix (vv 0) w_me_int) w_ma_nil)))))))))
    (w_mss_one (w_ms_ret (w_me_ix (ix_M hr) ad_ix (vv 8) (w_me_op u_mod ad_mod (w_me_op u_div ad_div (vv 2) w_me_int) w_me_int)))))
    w_mss_nil)
theorem ps__law_spoilt_11 (hr : RM 0 "_law_spoilt" s__law_spoilt A s f cdv) : WS (cX P w K mg base N__law_spoilt "_law_spoilt" s__law_spoilt f cdv A outer s H E) Θ0 (bd s__law_spoilt 10) M.p__law_spoilt_11 := by
  unfold M.p__law_spoilt_11
  exact (w_ms_if (w_mt_cmp (op_eqM hr) ad_eq (vv 3) w_me_int (nomark _))
    (w_mss_one (w_ms_ret (w_me_op (OpR.or u_add op_catT) ad_add (w_me_op (OpR.or u_add op_catT) ad_add (w_me_sl u_sl ad_sl (vv 0) w_mo_none (w_mo_some (vv 4))) (w_me_lst (w_ma_cons (vv 6) w_ma_nil))) (w_me_sl u_sl ad_sl (vv 0) (w_mo_some (vv 4)) w_mo_none))))
    w_mss_nil)
theorem ps__law_spoilt_12 (hr : RM 0 "_law_spoilt" s__law_spoilt A s f cdv) : WS (cX P w K mg base N__law_spoilt "_law_spoilt" s__law_spoilt f cdv A outer s H E) Θ0 (bd s__law_spoilt 11) M.p__law_spoilt_12 := by
  unfold M.p__law_spoilt_12
  exact (w_ms_ret (vv 0))
theorem ok__law_spoilt (F : Fun K "_law_spoilt" "_law_spoilt" s__law_spoilt f fd) (b_len : mg "len" = none) (b_list : mg "list" = none) (b_tuple : mg "tuple" = none) :
    FnOk P w K mg base CX0 1 f fd ["_law_ring", "_law_names_here", "_law_cell_here"] (SpM K Θ0 3 M.q__law_spoilt) := by
  refine w_fun_M0 (N := N__law_spoilt) (b := M.b__law_spoilt) F sc__law_spoilt fun cdv A outer s H E hr => ?_
  unfold M.b__law_spoilt
  exact (w_mss_cons (ps__law_spoilt_1 hr) (w_mss_cons (ps__law_spoilt_2 b_len hr) (w_mss_cons (ps__law_spoilt_3 b_len hr) (w_mss_cons (ps__law_spoilt_4 hr) (w_mss_cons (ps__law_spoilt_5 hr) (w_mss_cons (ps__law_spoilt_6 hr) (w_mss_cons (ps__law_spoilt_7 b_list hr) (w_mss_cons (ps__law_spoilt_8 hr) (w_mss_cons (ps__law_spoilt_9 hr) (w_mss_cons (ps__law_spoilt_10 b_len b_tuple hr) (w_mss_cons (ps__law_spoilt_11 hr) (w_mss_one (ps__law_spoilt_12 hr)))))))))))))
abbrev s__law_due : Stmt := top 10
abbrev N__law_due : List Str := ["_law_needs_here", "_law_thing", "_law_name_here", "_law_k"]
theorem sc__law_due : FnScope N__law_due ["_law_needs_here", "_law_thing"] (defScope s__law_due) := ⟨rfl, rfl, rfl, by decide +kernel, rfl, by decide +kernel, by decide +kernel⟩
theorem ps__law_due_1 (b_isinstance : mg "isinstance" = none) (b_list : mg "list" = none) (hr : RM 0 "_law_due" s__law_due A s f cdv) : WS (cX P w K mg base N__law_due "_law_due" s__law_due f cdv A outer s H E) Θ0 (bd s__law_due 0) M.p__law_due_1 := by
  unfold M.p__law_due_1
  exact (w_ms_if (w_mt_ofw (w_mw_or (w_mt_not (w_mt_tru (w_me_callB call_isK ad_isi gk b_isinstance bt_isinstance (w_ma_cons (vv 1) (w_ma_cons (w_me_ty .list gk b_list bt_list) w_ma_nil))))) (w_mw_one_or (w_mt_cmp (op_eqM hr) ad_eq (vv 1) (w_me_lst w_ma_nil) (nomark _)))))
    (w_mss_one (w_ms_ret w_me_bl))
    w_mss_nil)
theorem ps__law_due_2 (b_isinstance : mg "isinstance" = none) (b_str : mg "str" = none) (hr : RM 0 "_law_due" s__law_due A s f cdv) : WS (cX P w K mg base N__law_due "_law_due" s__law_due f cdv A outer s H E) Θ0 (bd s__law_due 1) M.p__law_due_2 := by
  unfold M.p__law_due_2
  exact (w_ms_for PassesOwn.never rfl (w_mi_e (vv 1)) (w_mg_name (i := 2) sc__law_due.nd rfl (Or.inl (by kernel_rfl)) (.inl rfl))
    (w_mss_one (w_ms_if (w_mt_ofw (w_mw_or (w_mt_not (w_mt_tru (w_me_callB call_isK ad_isi gk b_isinstance bt_isinstance (w_ma_cons (vv 2) (w_ma_cons (w_me_ty .str gk b_str bt_str) w_ma_nil))))) (w_mw_one_or (w_mt_cmp (op_notInM hr) ad_notIn (vv 2) (vv 0) (by rfl)))))
    (w_mss_one (w_ms_ret w_me_bl))
    w_mss_nil)))
theorem ps__law_due_3 (b_len : mg "len" = none) (b_min : mg "min" = none) (b_set : mg "set" = none) (hr : RM 0 "_law_due" s__law_due A s f cdv) : WS (cX P w K mg base N__law_due "_law_due" s__law_due f cdv A outer s H E) Θ0 (bd s__law_due 2) M.p__law_due_3 := by
  unfold M.p__law_due_3
  exact (w_ms_if (w_mt_ofw (w_mw_or (w_mt_cmp (op_neM hr) ad_ne (w_me_lenset hr gk b_len bt_len gk b_set bt_set (w_ma_cons (vv 1) w_ma_nil)) (w_me_callB call_lenM ad_len gk b_len bt_len (w_ma_cons (vv 1) w_ma_nil)) (nomark _)) (w_mw_one_or (w_mt_cmp (op_neM hr) ad_ne (w_me_ix (ix_M hr) ad_ix (vv 1) w_me_int) (w_me_callB (call_minM hr) ad_min gk b_min bt_min (w_ma_cons (vv 1) w_ma_nil)) (nomark _)))))
    (w_mss_one (w_ms_ret w_me_bl))
    w_mss_nil)
theorem ps__law_due_4 (b_range : mg "range" = none) (b_len : mg "len" = none) (hr : RM 0 "_law_due" s__law_due A s f cdv) : WS (cX P w K mg base N__law_due "_law_due" s__law_due f cdv A outer s H E) Θ0 (bd s__law_due 3) M.p__law_due_4 := by
  unfold M.p__law_due_4
  exact (w_ms_for PassesOwn.never rfl (w_mi_range1 gk b_range (w_me_callB call_lenM ad_len gk b_len bt_len (w_ma_cons (vv 1) w_ma_nil))) (w_mg_name (i := 3) sc__law_due.nd rfl (Or.inl (by kernel_rfl)) (.inl rfl))
    (w_mss_one (w_ms_if (w_mt_cmp (op_notInM hr) ad_notIn (w_me_ix (ix_M hr) ad_ix (vv 1) (w_me_op u_mod ad_mod (w_me_op (OpR.or u_add op_catT) ad_add (vv 3) w_me_int) (w_me_callB call_lenM ad_len gk b_len bt_len (w_ma_cons (vv 1) w_ma_nil)))) (w_me_ix (ix_M hr) ad_ix (vv 0) (w_me_ix (ix_M hr) ad_ix (vv 1) (vv 3))) (by rfl))
    (w_mss_one (w_ms_ret w_me_bl))
    w_mss_nil)))
theorem ps__law_due_5 (hr : RM 0 "_law_due" s__law_due A s f cdv) : WS (cX P w K mg base N__law_due "_law_due" s__law_due f cdv A outer s H E) Θ0 (bd s__law_due 4) M.p__law_due_5 := by
  unfold M.p__law_due_5
  exact (w_ms_ret w_me_bl)
theorem ok__law_due (F : Fun K "_law_due" "_law_due" s__law_due f fd) (b_range : mg "range" = none) (b_len : mg "len" = none) (b_isinstance : mg "isinstance" = none) (b_list : mg "list" = none) (b_min : mg "min" = none) (b_str : mg "str" = none) (b_set : mg "set" = none) :
    FnOk P w K mg base CX0 1 f fd ["_law_needs_here", "_law_thing"] (SpM K Θ0 2 M.q__law_due) := by
  refine w_fun_M (b := M.b__law_due) F sc__law_due M.rf__law_due fun cdv A outer s H E hr => ?_
  unfold M.b__law_due
  exact (w_mss_cons (ps__law_due_1 b_isinstance b_list hr) (w_mss_cons (ps__law_due_2 b_isinstance b_str hr) (w_mss_cons (ps__law_due_3 b_len b_min b_set hr) (w_mss_cons (ps__law_due_4 b_range b_len hr) (w_mss_one (ps__law_due_5 hr))))))
abbrev s_is_row_of_names : Stmt := top 1
abbrev N_is_row_of_names : List Str := ["thing"]
theorem sc_is_row_of_names : FnScope N_is_row_of_names ["thing"] (defScope s_is_row_of_names) := ⟨rfl, rfl, rfl, by decide +kernel, rfl, by decide +kernel, by decide +kernel⟩
theorem nd_is_row_of_names_1 : (["thing", "name"] : List Str).Nodup := by decide +kernel
theorem ok_is_row_of_names (F : Fun K "is_row_of_names" "is_row_of_names" s_is_row_of_names f fd) (b_all : mg "all" = none) (b_len : mg "len" = none) (b_isinstance : mg "isinstance" = none) (b_list : mg "list" = none) (b_set : mg "set" = none) (b_str : mg "str" = none) :
    FnOk P w K mg base CX0 1 f fd ["thing"] (SpM K Θ0 1 M.q_is_row_of_names) := by
  refine w_fun_M (b := M.b_is_row_of_names) F sc_is_row_of_names M.rf_is_row_of_names fun cdv A outer s H E hr => ?_
  unfold M.b_is_row_of_names
  exact (w_mss_cons (w_ms_if (w_mt_ofw (w_mw_or (w_mt_not (w_mt_tru (w_me_callB call_isK ad_isi gk b_isinstance bt_isinstance (w_ma_cons (vv 0) (w_ma_cons (w_me_ty .list gk b_list bt_list) w_ma_nil))))) (w_mw_one_or (w_mt_cmp (op_eqM hr) ad_eq (w_me_callB call_lenM ad_len gk b_len bt_len (w_ma_cons (vv 0) w_ma_nil)) w_me_int (nomark _)))))
    (w_mss_one (w_ms_ret w_me_bl))
    w_mss_nil)
    (w_mss_cons (w_ms_if (w_mt_not (w_mt_tru (w_me_callC (call_all rfl) adk_all gk b_all bt_all (vars := ["name"]) rfl ⟨rfl, rfl, (by kernel_rfl), (by kernel_rfl), (by decide +kernel), trivial, (by kernel_rfl)⟩ (w_mi_e (vv 0)) (fun _ _ _ _ => (w_mg_name (i := 1) nd_is_row_of_names_1 rfl (Or.inl (by kernel_rfl)) (.inr (by kernel_rfl)))) (fun _ _ _ _ => pifs_yes) (fun _ _ _ _ => (w_me_callB call_isK ad_isi gk b_isinstance bt_isinstance (w_ma_cons (vv 1) (w_ma_cons (w_me_ty .str gk b_str bt_str) w_ma_nil)))) (by kernel_rfl))))
    (w_mss_one (w_ms_ret w_me_bl))
    w_mss_nil)
    (w_mss_one (w_ms_ret (w_me_cmp (op_eqM hr) ad_eq (w_me_lenset hr gk b_len bt_len gk b_set bt_set (w_ma_cons (vv 0) w_ma_nil)) (w_me_callB call_lenM ad_len gk b_len bt_len (w_ma_cons (vv 0) w_ma_nil)) (nomark _))))))
abbrev s_is_ring : Stmt := top 2
abbrev N_is_ring : List Str := ["needs", "names", "behind"]
theorem sc_is_ring : FnScope N_is_ring ["needs", "names"] (defScope s_is_ring) := ⟨rfl, rfl, rfl, by decide +kernel, rfl, by decide +kernel, by decide +kernel⟩
theorem nd_is_ring_1 : (["needs", "names", "behind", "name", "other"] : List Str).Nodup := by decide +kernel
theorem ok_is_ring (F : Fun K "is_ring" "is_ring" s_is_ring f fd) (h_is_row_of_names : T_is_row_of_names P w K mg base) (b_all : mg "all" = none) (b_min : mg "min" = none) (b_zip : mg "zip" = none) :
    FnOk P w K mg base CX0 2 f fd ["needs", "names"] (SpM K Θ0 2 M.q_is_ring) := by
  refine w_fun_M (b := M.b_is_ring) F sc_is_ring M.rf_is_ring fun cdv A outer s H E hr => ?_
  unfold M.b_is_ring
  exact (w_mss_cons (w_ms_if (w_mt_ofw (w_mw_or (w_mt_not (w_mt_tru (w_me_call h_is_row_of_names hr (by decide) gk (w_ma_cons (vv 1) w_ma_nil) (ar_cons ar_nil)))) (w_mw_one_or (w_mt_cmp (op_neM hr) ad_ne (w_me_ix (ix_M hr) ad_ix (vv 1) w_me_int) (w_me_callB (call_minM hr) ad_min gk b_min bt_min (w_ma_cons (vv 1) w_ma_nil)) (nomark _)))))
    (w_mss_one (w_ms_ret w_me_bl))
    w_mss_nil)
    (w_mss_cons (w_ms_set (i := 2) sc_is_ring.nd rfl (Or.inl (by kernel_rfl)) (w_me_op (OpR.or u_add op_catT) ad_add (w_me_sl u_sl ad_sl (vv 1) (w_mo_some w_me_int) w_mo_none) (w_me_sl u_sl ad_sl (vv 1) w_mo_none (w_mo_some w_me_int))))
    (w_mss_one (w_ms_ret (w_me_callC (call_all rfl) adk_all gk b_all bt_all (vars := ["name", "other"]) rfl ⟨rfl, rfl, (by kernel_rfl), (by kernel_rfl), (by decide +kernel), ⟨(by kernel_rfl), trivial⟩, (by kernel_rfl)⟩ (w_mi_zip gk b_zip (vv 1) (vv 2)) (fun _ _ _ _ => (w_mg_tupM (n := 2) rfl (w_mgs_cons (w_mg_name (i := 3) nd_is_ring_1 rfl (Or.inl (by kernel_rfl)) (.inr (by kernel_rfl))) (w_mgs_cons (w_mg_name (i := 4) nd_is_ring_1 rfl (Or.inl (by kernel_rfl)) (.inr (by kernel_rfl))) w_mgs_nil (fun a b => pgs_cons a b)) (fun a b => pgs_cons a b)) (len_2))) (fun _ _ _ _ => pifs_yes) (fun _ _ _ _ => (w_me_cmp (op_inM hr) ad_in (vv 4) (w_me_m PySem.F.plainAttrs_dict PySem.F.slot_dict_get PySem.F.type_dict_get (mt_getM hr) ad_get rfl (vc 0) (w_ma_cons (vv 3) (w_ma_cons (w_me_lst w_ma_nil) w_ma_nil))) (by rfl))) (by kernel_rfl))))))
abbrev s_law : Stmt := top 11
abbrev N_law : List Str := ["_law_script", "_law_names_here", "_law_many", "_law_least", "_law_ring", "_law_needs_here", "_law_cell_here", "_law_thing", "_law_handed", "_law_name_here", "_law_others", "_law_kept", "_law_due_here", "_law_turn", "_law_found"]
theorem sc_law : FnScope N_law ["_law_script"] (defScope s_law) := ⟨rfl, rfl, rfl, by decide +kernel, rfl, by decide +kernel, by decide +kernel⟩
theorem ps_law_1 (h__law_names : T__law_names P w K mg base) (hr : RM 3 "law" s_law A s f cdv) : WS (cX P w K mg base N_law "law" s_law f cdv A outer s H E) Θ0 (bd s_law 0) M.p_law_1 := by
  unfold M.p_law_1
  exact (w_ms_set (i := 1) sc_law.nd rfl (Or.inl (by kernel_rfl)) (w_me_call h__law_names hr (by decide) gk (w_ma_cons (vv 0) (w_ma_cons w_me_int w_ma_nil)) (ar_cons (ar_cons ar_nil))))
theorem ps_law_2 (h__law_cell : T__law_cell P w K mg base) (b_len : mg "len" = none) (hr : RM 3 "law" s_law A s f cdv) : WS (cX P w K mg base N_law "law" s_law f cdv A outer s H E) Θ0 (bd s_law 1) M.p_law_2 := by
  unfold M.p_law_2
  exact (w_ms_set (i := 2) sc_law.nd rfl (Or.inl (by kernel_rfl)) (w_me_op (OpR.or u_add op_catT) ad_add w_me_int (w_me_op u_mod ad_mod (w_me_call h__law_cell hr (by decide) gk (w_ma_cons (vv 0) (w_ma_cons w_me_int w_ma_nil)) (ar_cons (ar_cons ar_nil))) (w_me_callB call_lenM ad_len gk b_len bt_len (w_ma_cons (vv 1) w_ma_nil)))))
theorem ps_law_3 (b_min : mg "min" = none) (hr : RM 3 "law" s_law A s f cdv) : WS (cX P w K mg base N_law "law" s_law f cdv A outer s H E) Θ0 (bd s_law 2) M.p_law_3 := by
  unfold M.p_law_3
  exact (w_ms_set (i := 3) sc_law.nd rfl (Or.inl (by kernel_rfl)) (w_me_m PySem.F.plainAttrs_list PySem.F.slot_list_index PySem.F.type_list_index mt_indexM ad_index rfl (vv 1) (w_ma_cons (w_me_callB (call_minM hr) ad_min gk b_min bt_min (w_ma_cons (w_me_sl u_sl ad_sl (vv 1) w_mo_none (w_mo_some (vv 2))) w_ma_nil)) w_ma_nil)))
theorem ps_law_4 (hr : RM 3 "law" s_law A s f cdv) : WS (cX P w K mg base N_law "law" s_law f cdv A outer s H E) Θ0 (bd s_law 3) M.p_law_4 := by
  unfold M.p_law_4
  exact (w_ms_set (i := 4) sc_law.nd rfl (Or.inl (by kernel_rfl)) (w_me_op (OpR.or u_add op_catT) ad_add (w_me_sl u_sl ad_sl (vv 1) (w_mo_some (vv 3)) (w_mo_some (vv 2))) (w_me_sl u_sl ad_sl (vv 1) w_mo_none (w_mo_some (vv 3)))))
theorem ps_law_5 (h__law_needs : T__law_needs P w K mg base) (hr : RM 3 "law" s_law A s f cdv) : WS (cX P w K mg base N_law "law" s_law f cdv A outer s H E) Θ0 (bd s_law 4) M.p_law_5 := by
  unfold M.p_law_5
  exact (w_ms_set (i := 5) sc_law.nd rfl (Or.inl (by kernel_rfl)) (w_me_call h__law_needs hr (by decide) gk (w_ma_cons (vv 0) (w_ma_cons (vv 4) (w_ma_cons (vv 1) w_ma_nil))) (ar_cons (ar_cons (ar_cons ar_nil)))))
theorem ps_law_6 (h__law_mixed : T__law_mixed P w K mg base) (h__law_cell : T__law_cell P w K mg base) (hr : RM 3 "law" s_law A s f cdv) : WS (cX P w K mg base N_law "law" s_law f cdv A outer s H E) Θ0 (bd s_law 5) M.p_law_6 := by
  unfold M.p_law_6
  exact (w_ms_set (i := 6) sc_law.nd rfl (Or.inl (by kernel_rfl)) (w_me_call h__law_mixed hr (by decide) gk (w_ma_cons (w_me_call h__law_cell hr (by decide) gk (w_ma_cons (vv 0) (w_ma_cons w_me_int w_ma_nil)) (ar_cons (ar_cons ar_nil))) (w_ma_cons w_me_int w_ma_nil)) (ar_cons (ar_cons ar_nil))))
theorem ps_law_7 (h__law_spoilt : T__law_spoilt P w K mg base) (hr : RM 3 "law" s_law A s f cdv) : WS (cX P w K mg base N_law "law" s_law f cdv A outer s H E) Θ0 (bd s_law 6) M.p_law_7 := by
  unfold M.p_law_7
  exact (w_ms_set (i := 7) sc_law.nd rfl (Or.inl (by kernel_rfl)) (w_me_call h__law_spoilt hr (by decide) gk (w_ma_cons (vv 4) (w_ma_cons (vv 1) (w_ma_cons (vv 6) w_ma_nil))) (ar_cons (ar_cons (ar_cons ar_nil)))))
theorem ps_law_8 (hr : RM 3 "law" s_law A s f cdv) : WS (cX P w K mg base N_law "law" s_law f cdv A outer s H E) Θ0 (bd s_law 7) M.p_law_8 := by
  unfold M.p_law_8
  exact (w_ms_if (w_mt_cmp (op_eqM hr) ad_eq (w_me_op u_mod ad_mod (vv 6) w_me_int) w_me_int (nomark _))
    (w_mss_one (w_ms_sub hr (vv 5) (w_me_ix (ix_M hr) ad_ix (vv 4) (w_me_op u_mod ad_mod (w_me_op u_div ad_div (vv 6) w_me_int) (vv 2))) (w_me_sl u_sl ad_sl (vv 1) (w_mo_some (vv 2)) w_mo_none)))
    w_mss_nil)
theorem ps_law_9 (hr : RM 3 "law" s_law A s f cdv) : WS (cX P w K mg base N_law "law" s_law f cdv A outer s H E) Θ0 (bd s_law 8) M.p_law_9 := by
  unfold M.p_law_9
  exact (w_ms_if (w_mt_cmp (op_eqM hr) ad_eq (w_me_op u_mod ad_mod (vv 6) w_me_int) w_me_int (nomark _))
    (w_mss_one (w_ms_expr (w_me_m PySem.F.plainAttrs_dict PySem.F.slot_dict_pop PySem.F.type_dict_pop (mt_popDM hr) ad_popD rfl (vv 5) (w_ma_cons (w_me_ix (ix_M hr) ad_ix (vv 4) (w_me_op u_mod ad_mod (w_me_op u_div ad_div (vv 6) w_me_int) (vv 2))) w_ma_nil))))
    w_mss_nil)
theorem ps_law_10 (hr : RM 3 "law" s_law A s f cdv) : WS (cX P w K mg base N_law "law" s_law f cdv A outer s H E) Θ0 (bd s_law 9) M.p_law_10 := by
  unfold M.p_law_10
  exact (w_ms_set (i := 8) sc_law.nd rfl (Or.inl (by kernel_rfl)) w_me_dnew)
theorem ps_law_11 (b_list : mg "list" = none) (hr : RM 3 "law" s_law A s f cdv) : WS (cX P w K mg base N_law "law" s_law f cdv A outer s H E) Θ0 (bd s_law 10) M.p_law_11 := by
  unfold M.p_law_11
  exact (w_ms_forItems PassesOwn.never rfl rfl (vv 5) (w_mg_tupM (n := 2) rfl (w_mgs_cons (w_mg_name (i := 9) sc_law.nd rfl (Or.inl (by kernel_rfl)) (.inl rfl)) (w_mgs_cons (w_mg_name (i := 10) sc_law.nd rfl (Or.inl (by kernel_rfl)) (.inl rfl)) w_mgs_nil (fun a b => pgs_cons a b)) (fun a b => pgs_cons a b)) (len_2))
    (w_mss_one (w_ms_sub hr (vv 8) (vv 9) (w_me_callTy (call_listM hr) ad_list gk b_list bt_list (w_ma_cons (vv 10) w_ma_nil)))))
theorem ps_law_12 (hr : RM 3 "law" s_law A s f cdv) : WS (cX P w K mg base N_law "law" s_law f cdv A outer s H E) Θ0 (bd s_law 11) M.p_law_12 := by
  unfold M.p_law_12
  exact (w_ms_set (i := 11) sc_law.nd rfl (Or.inl (by kernel_rfl)) (vv 7))
theorem ps_law_13 (b_isinstance : mg "isinstance" = none) (b_list : mg "list" = none) (hr : RM 3 "law" s_law A s f cdv) : WS (cX P w K mg base N_law "law" s_law f cdv A outer s H E) Θ0 (bd s_law 12) M.p_law_13 := by
  unfold M.p_law_13
  exact (w_ms_if (w_mt_tru (w_me_callB call_isK ad_isi gk b_isinstance bt_isinstance (w_ma_cons (vv 7) (w_ma_cons (w_me_ty .list gk b_list bt_list) w_ma_nil))))
    (w_mss_one (w_ms_set (i := 11) sc_law.nd rfl (Or.inl (by kernel_rfl)) (w_me_callTy (call_listM hr) ad_list gk b_list bt_list (w_ma_cons (vv 7) w_ma_nil))))
    w_mss_nil)
theorem ps_law_14 (h__law_due : T__law_due P w K mg base) (hr : RM 3 "law" s_law A s f cdv) : WS (cX P w K mg base N_law "law" s_law f cdv A outer s H E) Θ0 (bd s_law 13) M.p_law_14 := by
  unfold M.p_law_14
  exact (w_ms_set (i := 12) sc_law.nd rfl (Or.inl (by kernel_rfl)) (w_me_call h__law_due hr (by decide) gk (w_ma_cons (vv 5) (w_ma_cons (vv 7) w_ma_nil)) (ar_cons (ar_cons ar_nil))))
theorem ps_law_15 (h_is_ring : T_is_ring P w K mg base) (b_isinstance : mg "isinstance" = none) (b_range : mg "range" = none) (b_bool : mg "bool" = none) (hr : RM 3 "law" s_law A s f cdv) : WS (cX P w K mg base N_law "law" s_law f cdv A outer s H E) Θ0 (bd s_law 14) M.p_law_15 := by
  unfold M.p_law_15
  exact (w_ms_for PassesOwn.never rfl (w_mi_range1 gk b_range w_me_int) (w_mg_name (i := 13) sc_law.nd rfl (Or.inl (by kernel_rfl)) (.inl rfl))
    (w_mss_cons (w_ms_set (i := 14) sc_law.nd rfl (Or.inl (by kernel_rfl)) (w_me_call h_is_ring hr (by decide) gk (w_ma_cons (vv 8) (w_ma_cons (vv 7) w_ma_nil)) (ar_cons (ar_cons ar_nil))))
    (w_mss_one (w_ms_if (w_mt_ofw (w_mw_or (w_mt_not (w_mt_tru (w_me_callB call_isK ad_isi gk b_isinstance bt_isinstance (w_ma_cons (vv 14) (w_ma_cons (w_me_ty .bool gk b_bool bt_bool) w_ma_nil))))) (w_mw_one_or (w_mt_cmp (op_neM hr) ad_ne (vv 14) (vv 12) (nomark _)))))
    (w_mss_one (w_ms_ret w_me_bl))
    w_mss_nil))))
theorem ps_law_16 (b_list : mg "list" = none) (hr : RM 3 "law" s_law A s f cdv) : WS (cX P w K mg base N_law "law" s_law f cdv A outer s H E) Θ0 (bd s_law 15) M.p_law_16 := by
  unfold M.p_law_16
  exact (w_ms_ret (w_me_and (w_me_cmp (op_eqM hr) ad_eq (vv 7) (vv 11) (nomark _)) (w_me_and (w_me_cmp (op_eqM hr) ad_eq (vv 8) (vv 5) (nomark _)) (w_me_one (w_me_cmp (op_eqM hr) ad_eq (w_me_callTy (call_listM hr) ad_list gk b_list bt_list (w_ma_cons (vv 8) w_ma_nil)) (w_me_callTy (call_listM hr) ad_list gk b_list bt_list (w_ma_cons (vv 5) w_ma_nil)) (nomark _))))))
theorem ok_law (F : Fun K "law" "law" s_law f fd) (h__law_names : T__law_names P w K mg base) (h__law_needs : T__law_needs P w K mg base) (h__law_mixed : T__law_mixed P w K mg base) (h__law_spoilt : T__law_spoilt P w K mg base) (h__law_due : T__law_due P w K mg base) (h__law_cell : T__law_cell P w K mg base) (h_is_ring : T_is_ring P w K mg base) (b_isinstance : mg "isinstance" = none) (b_list : mg "list" = none) (b_range : mg "range" = none) (b_min : mg "min" = none) (b_len : mg "len" = none) (b_bool : mg "bool" = none) :
    FnOk P w K mg base CX0 4 f fd ["_law_script"] (SpM K Θ0 1 M.m_law) := by
  refine w_fun_M0 (N := N_law) (b := M.b_law) F sc_law fun cdv A outer s H E hr => ?_
  unfold M.b_law
  exact (w_mss_cons (ps_law_1 h__law_names hr) (w_mss_cons (ps_law_2 h__law_cell b_len hr) (w_mss_cons (ps_law_3 b_min hr) (w_mss_cons (ps_law_4 hr) (w_mss_cons (ps_law_5 h__law_needs hr) (w_mss_cons (ps_law_6 h__law_mixed h__law_cell hr) (w_mss_cons (ps_law_7 h__law_spoilt hr) (w_mss_cons (ps_law_8 hr) (w_mss_cons (ps_law_9 hr) (w_mss_cons (ps_law_10 hr) (w_mss_cons (ps_law_11 b_list hr) (w_mss_cons (ps_law_12 hr) (w_mss_cons (ps_law_13 b_isinstance b_list hr) (w_mss_cons (ps_law_14 h__law_due hr) (w_mss_cons (ps_law_15 h_is_ring b_isinstance b_range b_bool hr) (w_mss_one (ps_law_16 b_list hr)))))))))))))))))
theorem all_mk {l : PySem.W.OpenLaw} {w : World} {K : PySem.W.Frag} {h : Heap} {mg : Str → Option Value} {fa f1 f2 f3 f4 f5 f6 f7 f8 f9 f10 : Addr} (X : K.In h) (G : h.Ns mainGlobals mg) (hfa : mg "law" = some (.ref fa))
    {od1 an1 od2 an2 od3 an3 od4 an4 od5 an5 od6 an6 od7 an7 od8 an8 od9 an9 od10 an10 : Option Addr} {sl1 sl2 sl3 sl4 sl5 sl6 sl7 sl8 sl9 sl10 : Array (Option Value)} {oc1 kV1 dc1 pm1 cd1 ct1 oc2 kV2 dc2 pm2 cd2 ct2 oc3 kV3 dc3 pm3 cd3 ct3 oc4 kV4 dc4 pm4 cd4 ct4 oc5 kV5 dc5 pm5 cd5 ct5 oc6 kV6 dc6 pm6 cd6 ct6 oc7 kV7 dc7 pm7 cd7 ct7 oc8 kV8 dc8 pm8 cd8 ct8 oc9 kV9 dc9 pm9 cd9 ct9 oc10 kV10 dc10 pm10 cd10 ct10 : Value}
    (a1 : PySem.W.nsIn K mainGlobals "_law_cell" = some (some (.ref f1))) (l1 : K.lookup f1 = some ⟨oc1, od1, .func (PySem.W.fnOf "_law_cell" "_law_cell" (defArgs s__law_cell) (defBody s__law_cell) (defScope s__law_cell) .none kV1 dc1 pm1 an1 cd1 ct1), sl1⟩) (c1 : PySem.W.codeIn K cd1 "_law_cell" = true) (k1 : PySem.W.keepIn K (.ref f1) = true)
    (a2 : PySem.W.nsIn K mainGlobals "_law_mixed" = some (some (.ref f2))) (l2 : K.lookup f2 = some ⟨oc2, od2, .func (PySem.W.fnOf "_law_mixed" "_law_mixed" (defArgs s__law_mixed) (defBody s__law_mixed) (defScope s__law_mixed) .none kV2 dc2 pm2 an2 cd2 ct2), sl2⟩) (c2 : PySem.W.codeIn K cd2 "_law_mixed" = true) (k2 : PySem.W.keepIn K (.ref f2) = true)
    (a3 : PySem.W.nsIn K mainGlobals "_law_name" = some (some (.ref f3))) (l3 : K.lookup f3 = some ⟨oc3, od3, .func (PySem.W.fnOf "_law_name" "_law_name" (defArgs s__law_name) (defBody s__law_name) (defScope s__law_name) .none kV3 dc3 pm3 an3 cd3 ct3), sl3⟩) (c3 : PySem.W.codeIn K cd3 "_law_name" = true) (k3 : PySem.W.keepIn K (.ref f3) = true)
    (a4 : PySem.W.nsIn K mainGlobals "_law_names" = some (some (.ref f4))) (l4 : K.lookup f4 = some ⟨oc4, od4, .func (PySem.W.fnOf "_law_names" "_law_names" (defArgs s__law_names) (defBody s__law_names) (defScope s__law_names) .none kV4 dc4 pm4 an4 cd4 ct4), sl4⟩) (c4 : PySem.W.codeIn K cd4 "_law_names" = true) (k4 : PySem.W.keepIn K (.ref f4) = true)
    (a5 : PySem.W.nsIn K mainGlobals "_law_needs" = some (some (.ref f5))) (l5 : K.lookup f5 = some ⟨oc5, od5, .func (PySem.W.fnOf "_law_needs" "_law_needs" (defArgs s__law_needs) (defBody s__law_needs) (defScope s__law_needs) .none kV5 dc5 pm5 an5 cd5 ct5), sl5⟩) (c5 : PySem.W.codeIn K cd5 "_law_needs" = true) (k5 : PySem.W.keepIn K (.ref f5) = true)
    (a6 : PySem.W.nsIn K mainGlobals "_law_spoilt" = some (some (.ref f6))) (l6 : K.lookup f6 = some ⟨oc6, od6, .func (PySem.W.fnOf "_law_spoilt" "_law_spoilt" (defArgs s__law_spoilt) (defBody s__law_spoilt) (defScope s__law_spoilt) .none kV6 dc6 pm6 an6 cd6 ct6), sl6⟩) (c6 : PySem.W.codeIn K cd6 "_law_spoilt" = true) (k6 : PySem.W.keepIn K (.ref f6) = true)
    (a7 : PySem.W.nsIn K mainGlobals "_law_due" = some (some (.ref f7))) (l7 : K.lookup f7 = some ⟨oc7, od7, .func (PySem.W.fnOf "_law_due" "_law_due" (defArgs s__law_due) (defBody s__law_due) (defScope s__law_due) .none kV7 dc7 pm7 an7 cd7 ct7), sl7⟩) (c7 : PySem.W.codeIn K cd7 "_law_due" = true) (k7 : PySem.W.keepIn K (.ref f7) = true)
    (a8 : PySem.W.nsIn K mainGlobals "is_row_of_names" = some (some (.ref f8))) (l8 : K.lookup f8 = some ⟨oc8, od8, .func (PySem.W.fnOf "is_row_of_names" "is_row_of_names" (defArgs s_is_row_of_names) (defBody s_is_row_of_names) (defScope s_is_row_of_names) .none kV8 dc8 pm8 an8 cd8 ct8), sl8⟩) (c8 : PySem.W.codeIn K cd8 "is_row_of_names" = true) (k8 : PySem.W.keepIn K (.ref f8) = true)
    (a9 : PySem.W.nsIn K mainGlobals "is_ring" = some (some (.ref f9))) (l9 : K.lookup f9 = some ⟨oc9, od9, .func (PySem.W.fnOf "is_ring" "is_ring" (defArgs s_is_ring) (defBody s_is_ring) (defScope s_is_ring) .none kV9 dc9 pm9 an9 cd9 ct9), sl9⟩) (c9 : PySem.W.codeIn K cd9 "is_ring" = true) (k9 : PySem.W.keepIn K (.ref f9) = true)
    (a10 : PySem.W.nsIn K mainGlobals "law" = some (some (.ref f10))) (l10 : K.lookup f10 = some ⟨oc10, od10, .func (PySem.W.fnOf "law" "law" (defArgs s_law) (defBody s_law) (defScope s_law) .none kV10 dc10 pm10 an10 cd10 ct10), sl10⟩) (c10 : PySem.W.codeIn K cd10 "law" = true) (k10 : PySem.W.keepIn K (.ref f10) = true)
    (z_len : PySem.W.nsIn K mainGlobals "len" = some none)
    (z_range : PySem.W.nsIn K mainGlobals "range" = some none)
    (z_list : PySem.W.nsIn K mainGlobals "list" = some none)
    (z_tuple : PySem.W.nsIn K mainGlobals "tuple" = some none)
    (z_isinstance : PySem.W.nsIn K mainGlobals "isinstance" = some none)
    (z_min : PySem.W.nsIn K mainGlobals "min" = some none)
    (z_str : PySem.W.nsIn K mainGlobals "str" = some none)
    (z_set : PySem.W.nsIn K mainGlobals "set" = some none)
    (z_all : PySem.W.nsIn K mainGlobals "all" = some none)
    (z_zip : PySem.W.nsIn K mainGlobals "zip" = some none)
    (z_bool : PySem.W.nsIn K mainGlobals "bool" = some none)
    : ∃ fd : FuncData, (∀ (s : Shared) (v : Value), BindsTo s fd ⟨[v], []⟩ [("_law_script", v)]) ∧ fd.scope.names.lookup ("_law_script" : Str) = some .local ∧ ∀ base : Heap, K.In base → base.Ns mainGlobals mg → FnOk l.prog w K mg base CX0 4 fa fd ["_law_script"] (SpM K Θ0 1 M.m_law) := by
  have e := hfa.symm.trans (PySem.W.mg_of X G a10)
  cases e
  have F1 := fun_mk (x := "_law_cell") (qual := "_law_cell") (st := s__law_cell) l1 c1 k1
  have B1 := F1.binds (ps := ["_law_script", "_law_k"]) fun _ _ _ _ _ _ us hl => match us, hl with | [_, _], _ => rfl
  have F2 := fun_mk (x := "_law_mixed") (qual := "_law_mixed") (st := s__law_mixed) l2 c2 k2
  have B2 := F2.binds (ps := ["_law_cell_here", "_law_k"]) fun _ _ _ _ _ _ us hl => match us, hl with | [_, _], _ => rfl
  have F3 := fun_mk (x := "_law_name") (qual := "_law_name") (st := s__law_name) l3 c3 k3
  have B3 := F3.binds (ps := ["_law_cell_here", "_law_taken"]) fun _ _ _ _ _ _ us hl => match us, hl with | [_, _], _ => rfl
  have F4 := fun_mk (x := "_law_names") (qual := "_law_names") (st := s__law_names) l4 c4 k4
  have B4 := F4.binds (ps := ["_law_script", "_law_base"]) fun _ _ _ _ _ _ us hl => match us, hl with | [_, _], _ => rfl
  have F5 := fun_mk (x := "_law_needs") (qual := "_law_needs") (st := s__law_needs) l5 c5 k5
  have B5 := F5.binds (ps := ["_law_script", "_law_ring", "_law_names_here"]) fun _ _ _ _ _ _ us hl => match us, hl with | [_, _, _], _ => rfl
  have F6 := fun_mk (x := "_law_spoilt") (qual := "_law_spoilt") (st := s__law_spoilt) l6 c6 k6
  have B6 := F6.binds (ps := ["_law_ring", "_law_names_here", "_law_cell_here"]) fun _ _ _ _ _ _ us hl => match us, hl with | [_, _, _], _ => rfl
  have F7 := fun_mk (x := "_law_due") (qual := "_law_due") (st := s__law_due) l7 c7 k7
  have B7 := F7.binds (ps := ["_law_needs_here", "_law_thing"]) fun _ _ _ _ _ _ us hl => match us, hl with | [_, _], _ => rfl
  have F8 := fun_mk (x := "is_row_of_names") (qual := "is_row_of_names") (st := s_is_row_of_names) l8 c8 k8
  have B8 := F8.binds (ps := ["thing"]) fun _ _ _ _ _ _ us hl => match us, hl with | [_], _ => rfl
  have F9 := fun_mk (x := "is_ring") (qual := "is_ring") (st := s_is_ring) l9 c9 k9
  have B9 := F9.binds (ps := ["needs", "names"]) fun _ _ _ _ _ _ us hl => match us, hl with | [_, _], _ => rfl
  have F10 := fun_mk (x := "law") (qual := "law") (st := s_law) l10 c10 k10
  have b_len := PySem.W.mg_none_of X G z_len
  have b_range := PySem.W.mg_none_of X G z_range
  have b_list := PySem.W.mg_none_of X G z_list
  have b_tuple := PySem.W.mg_none_of X G z_tuple
  have b_isinstance := PySem.W.mg_none_of X G z_isinstance
  have b_min := PySem.W.mg_none_of X G z_min
  have b_str := PySem.W.mg_none_of X G z_str
  have b_set := PySem.W.mg_none_of X G z_set
  have b_all := PySem.W.mg_none_of X G z_all
  have b_zip := PySem.W.mg_none_of X G z_zip
  have b_bool := PySem.W.mg_none_of X G z_bool
  refine ⟨PySem.W.fnOf "law" "law" (defArgs s_law) (defBody s_law) (defScope s_law) .none kV10 dc10 pm10 an10 cd10 ct10, fun s v => .of_eq rfl, by kernel_rfl, fun base _ _ => ?_⟩
  have h__law_cell : T__law_cell l.prog w K mg base := ⟨⟨_, _, ok__law_cell F1 b_len, B1, k1, PySem.W.mg_of X G a1⟩⟩
  have h__law_mixed : T__law_mixed l.prog w K mg base := ⟨⟨_, _, ok__law_mixed F2, B2, k2, PySem.W.mg_of X G a2⟩⟩
  have h__law_name : T__law_name l.prog w K mg base := ⟨⟨_, _, ok__law_name F3 h__law_mixed b_len b_range, B3, k3, PySem.W.mg_of X G a3⟩⟩
  have h__law_names : T__law_names l.prog w K mg base := ⟨⟨_, _, ok__law_names F4 h__law_cell h__law_name h__law_mixed b_range, B4, k4, PySem.W.mg_of X G a4⟩⟩
  have h__law_needs : T__law_needs l.prog w K mg base := ⟨⟨_, _, ok__law_needs F5 h__law_mixed h__law_cell b_range b_len, B5, k5, PySem.W.mg_of X G a5⟩⟩
  have h__law_spoilt : T__law_spoilt l.prog w K mg base := ⟨⟨_, _, ok__law_spoilt F6 b_len b_list b_tuple, B6, k6, PySem.W.mg_of X G a6⟩⟩
  have h__law_due : T__law_due l.prog w K mg base := ⟨⟨_, _, ok__law_due F7 b_range b_len b_isinstance b_list b_min b_str b_set, B7, k7, PySem.W.mg_of X G a7⟩⟩
  have h_is_row_of_names : T_is_row_of_names l.prog w K mg base := ⟨⟨_, _, ok_is_row_of_names F8 b_all b_len b_isinstance b_list b_set b_str, B8, k8, PySem.W.mg_of X G a8⟩⟩
  have h_is_ring : T_is_ring l.prog w K mg base := ⟨⟨_, _, ok_is_ring F9 h_is_row_of_names b_all b_min b_zip, B9, k9, PySem.W.mg_of X G a9⟩⟩
  exact ok_law F10 h__law_names h__law_needs h__law_mixed h__law_spoilt h__law_due h__law_cell h_is_ring b_isinstance b_list b_range b_min b_len b_bool
theorem walk {l : PySem.W.OpenLaw} {q : Program} {loose : List Str} {XP : (Str → Option Value) → Heap → Prop} {YP : World → Heap → Prop} {d : DefRec} {K : Params → PySem.W.Frag} (hn : l.most = some 63) (hdf : d.params.defaults = [])
    (hY : ∀ (w : World) (h : Heap), YP w h → (K w.params).In h)
    (F : ∀ (w : World) (mg : Str → Option Value) (fa : Addr) (h : Heap), (K w.params).In h → h.Ns mainGlobals mg → mg d.name = some (.ref fa) →
      ∃ fd : FuncData, (∀ (s : Shared) (u : Value), BindsTo s fd ⟨[u], []⟩ [("_law_script", u)]) ∧ fd.scope.names.lookup ("_law_script" : Str) = some .local ∧ ∀ base : Heap, (K w.params).In base → base.Ns mainGlobals mg → FnOk l.prog w (K w.params) mg base CX0 4 fa fd ["_law_script"] (SpM (K w.params) Θ0 1 M.m_law)) :
    PySem.W.WalkO q loose XP YP l.row.toRowW d [] (fun f vs => PySem.call f vs) :=
  L2.walk_of (n := 63) (k := 4) (x := "_law_script") (CX := fun _ => CX0) (sp := fun w => SpM (K w.params) Θ0 1 M.m_law) hn (by decide) hdf ⟨rfl, by decide, by decide⟩ hY F (fun _ _ _ _ hl hO hS => law_sp M.law_true hl hO hS) fun _ _ _ _ _ z => z
end My
open PySem PySem.W PyProof.Rows
set_option maxRecDepth 100000 in
set_option maxHeartbeats 0 in
theorem PySem.Challenge.cw_thingyard_k62_rings_known_holds : PySem.Challenge.rw_thingyard_k62_rings_known.Holds := by
  w_on; o_law; k_head; (case hw => w_witness2)
  k_fill
  refine My.walk (l := PySem.Challenge.rw_thingyard_k62_rings_known) rfl rfl (fun w h Y => PySem.W.kIn_of Y) ?F
  case F =>
    intro w mg fa h KX G hmg
    refine' My.all_mk KX G hmg ?a1 ?l1 ?c1 ?k1 ?a2 ?l2 ?c2 ?k2 ?a3 ?l3 ?c3 ?k3 ?a4 ?l4 ?c4 ?k4 ?a5 ?l5 ?c5 ?k5 ?a6 ?l6 ?c6 ?k6 ?a7 ?l7 ?c7 ?k7 ?a8 ?l8 ?c8 ?k8 ?a9 ?l9 ?c9 ?k9 ?a10 ?l10 ?c10 ?k10 ?z_len ?z_range ?z_list ?z_tuple ?z_isinstance ?z_min ?z_str ?z_set ?z_all ?z_zip ?z_bool
    (case a1 => k_is)
    (case l1 => k_is)
    (case c1 => k_is)
    (case k1 => k_is)
    (case a2 => k_is)
    (case l2 => k_is)
    (case c2 => k_is)
    (case k2 => k_is)
    (case a3 => k_is)
    (case l3 => k_is)
    (case c3 => k_is)
    (case k3 => k_is)
    (case a4 => k_is)
    (case l4 => k_is)
    (case c4 => k_is)
    (case k4 => k_is)
    (case a5 => k_is)
    (case l5 => k_is)
    (case c5 => k_is)
    (case k5 => k_is)
    (case a6 => k_is)
    (case l6 => k_is)
    (case c6 => k_is)
    (case k6 => k_is)
    (case a7 => k_is)
    (case l7 => k_is)
    (case c7 => k_is)
    (case k7 => k_is)
    (case a8 => k_is)
    (case l8 => k_is)
    (case c8 => k_is)
    (case k8 => k_is)
    (case a9 => k_is)
    (case l9 => k_is)
    (case c9 => k_is)
    (case k9 => k_is)
    (case a10 => k_is)
    (case l10 => k_is)
    (case c10 => k_is)
    (case k10 => k_is)
    (case z_len => k_is)
    (case z_range => k_is)
    (case z_list => k_is)
    (case z_tuple => k_is)
    (case z_isinstance => k_is)
    (case z_min => k_is)
    (case z_str => k_is)
    (case z_set => k_is)
    (case z_all => k_is)
    (case z_zip => k_is)
    (case z_bool => k_is)