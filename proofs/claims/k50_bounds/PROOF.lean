import PyProof.Rows.All
import Wide.All
import OpenK.AllK
import Wide.FinOn
import Lean
import PyProof.EqAt
import PyProof.EqKinds
import PyProof.TupleCall
import PyProof.ExcClass2
import PyProof.InstSpecial
import PyProof.InstStore
import PyProof.InstStoreFacts
import PyProof.StationsW
import PyProof.ExcArgsOwn
import PyProof.ExcAttrAll.ValueError
import PySem.Challenge.RW_thingyard_k50_bounds
set_option Elab.async false
set_option linter.all false
set_option maxRecDepth 100000
set_option compiler.extract_closed false
noncomputable section
namespace L2
open PySem PySem.Spec PyProof.Rows
abbrev Key := Sum Int Str
noncomputable def keyIs : Key → Value → Bool
  | .inl k, v => Value.isInt k v
  | .inr x, v => Value.isStrOf x v
noncomputable def keyH (w : World) : Key → Int
  | .inl k => hashInt k
  | .inr x => hashStr w x
theorem keyIs_shape : ∀ {k : Key} {v : Value}, keyIs k v = true → (∃ i t, k = Sum.inl i ∧ v = Value.int i t) ∨ (∃ x t, k = Sum.inr x ∧ v = Value.str x t)
  | .inl i, v, h => by
    obtain ⟨t, e⟩ := Value.isInt_shape (k := i) (v := v) h
    exact .inl ⟨i, t, rfl, e⟩
  | .inr x, v, h => by
    obtain ⟨t, e⟩ := Value.isStrOf_shape (x := x) (v := v) h
    exact .inr ⟨x, t, rfl, e⟩
theorem keyIs_int (i : Int) (t : Tok) : keyIs (.inl i) (.int i t) = true := by simp [keyIs, Value.isInt]
theorem keyIs_str (x : Str) (t : Tok) : keyIs (.inr x) (.str x t) = true := by simp [keyIs, Value.isStrOf]
theorem key_ll (a b : Int) : decide ((Sum.inl a : Key) = Sum.inl b) = (a == b) := by
  by_cases e : a = b
  · subst e; simp
  · have h : ¬ (Sum.inl a : Key) = Sum.inl b := fun q => e (Sum.inl.inj q)
    rw [decide_eq_false h]
    exact (beq_eq_false_iff_ne.mpr e).symm
theorem key_rr (a b : Str) : decide ((Sum.inr a : Key) = Sum.inr b) = decide (a = b) := by
  by_cases e : a = b
  · subst e; simp
  · have h : ¬ (Sum.inr a : Key) = Sum.inr b := fun q => e (Sum.inr.inj q)
    rw [decide_eq_false h, decide_eq_false e]
theorem key_lr (a : Int) (b : Str) : decide ((Sum.inl a : Key) = Sum.inr b) = false := decide_eq_false (fun q => nomatch q)
theorem key_rl (a : Str) (b : Int) : decide ((Sum.inr a : Key) = Sum.inl b) = false := decide_eq_false (fun q => nomatch q)
def mixKind (prog : Program) (w : World) : PySem.KeyKind prog w Key where
  is := keyIs
  hash := keyH w
  inj := fun v a b ha hb => by
    rcases keyIs_shape ha with ⟨i, t, rfl, rfl⟩ | ⟨x, t, rfl, rfl⟩
    · rcases keyIs_shape hb with ⟨j, u, rfl, e⟩ | ⟨y, u, rfl, e⟩
      · injection e with e1 _; rw [e1]
      · exact nomatch e
    · rcases keyIs_shape hb with ⟨j, u, rfl, e⟩ | ⟨y, u, rfl, e⟩
      · exact nomatch e
      · injection e with e1 _; rw [e1]
  byValue := fun k v h => by
    rcases keyIs_shape h with ⟨i, t, rfl, rfl⟩ | ⟨x, t, rfl, rfl⟩ <;> rfl
  pyHash := fun hv h => by
    rcases keyIs_shape hv with ⟨i, t, rfl, rfl⟩ | ⟨x, t, rfl, rfl⟩
    · exact wpAny_pyHash_int h
    · exact wpAny_pyHash_str h
  eqBool := fun hu hv h => by
    rcases keyIs_shape hu with ⟨i, t, rfl, rfl⟩ | ⟨x, t, rfl, rfl⟩
    · rcases keyIs_shape hv with ⟨j, u, rfl, rfl⟩ | ⟨y, u, rfl, rfl⟩
      · rw [key_ll] at h; exact wpAny_eqBool_int h
      · rw [key_lr] at h; exact SeqAt.EqAt.int_str i t y u _ _ _ _ h
    · rcases keyIs_shape hv with ⟨j, u, rfl, rfl⟩ | ⟨y, u, rfl, rfl⟩
      · rw [key_rl] at h; exact SeqAt.EqAt.str_int x t j u _ _ _ _ h
      · rw [key_rr] at h; exact wpAny_eqBool_str h
  «strs» := fun k x t v h => by
    rcases keyIs_shape h with ⟨i, u, rfl, e⟩ | ⟨y, u, rfl, e⟩
    · exact nomatch e
    · injection e with e1 _
      subst e1
      cases v <;> rfl
theorem mixKind_int (prog : Program) (w : World) (i : Int) (t : Tok) : (mixKind prog w).is (.inl i) (.int i t) = true := keyIs_int i t
theorem mixKind_str (prog : Program) (w : World) (x : Str) (t : Tok) : (mixKind prog w).is (.inr x) (.str x t) = true := keyIs_str x t
end L2
namespace L2
open PySem PySem.Spec PyProof.Rows
inductive V where
  | non | bl (b : Bool) | int (i : Int) | str (x : Str) | byt (b : Array UInt8) | flt (b : UInt64) | ref (a : Addr) | ty (n : String)
  deriving DecidableEq
noncomputable def RelV : V → Value → Prop
  | .non, u => u = Value.none
  | .bl b, u => u = Value.bool b
  | .int i, u => ∃ t, u = Value.int i t
  | .str x, u => ∃ t, u = Value.str x t
  | .byt b, u => ∃ t, u = Value.bytes b t
  | .flt b, u => ∃ t, u = Value.float b t
  | .ref a, u => u = Value.ref a
  | .ty n, u => u = Value.type n
abbrev Vals : List V → List Value → Prop := Paired RelV
theorem Vals.length {xs : List V} {us : List Value} (r : Vals xs us) : xs.length = us.length := Paired.length r
theorem Vals.get : ∀ {xs : List V} {us : List Value} {i : Nat} {x : V}, Vals xs us → xs[i]? = some x → ∃ u, us[i]? = some u ∧ RelV x u
  | _, _, _, _, .nil, e => by simp at e
  | _, _, 0, _, .cons r _, e => by simp at e; subst e; exact ⟨_, rfl, r⟩
  | _, _, i + 1, x, .cons _ t, e => by
    obtain ⟨u, h1, h2⟩ := Vals.get (i := i) (x := x) t (by simpa using e)
    exact ⟨u, by simpa using h1, h2⟩
theorem Vals.set {x : V} {u : Value} (r : RelV x u) : ∀ {xs : List V} {us : List Value} (i : Nat), Vals xs us → Vals (xs.set i x) (us.set i u)
  | _, _, _, .nil => .nil
  | _, _, 0, .cons _ t => .cons r t
  | _, _, i + 1, .cons q t => .cons q (Vals.set r i t)
theorem Vals.append : ∀ {xs ys : List V} {us ws : List Value}, Vals xs us → Vals ys ws → Vals (xs ++ ys) (us ++ ws)
  | _, _, _, _, .nil, s => s
  | _, _, _, _, .cons r t, s => .cons r (Vals.append t s)
def RelO : Option V → Option Value → Prop
  | some v, some u => RelV v u
  | none, none => True
  | _, _ => False
def KV {κ : Type} : List (κ × V) → List (κ × Value) → Prop := Paired fun (p : κ × V) (q : κ × Value) => p.1 = q.1 ∧ RelV p.2 q.2
noncomputable def kV : Key → V
  | .inl i => .int i
  | .inr x => .str x
inductive HO where
  | lst (xs : List V)
  | tup (xs : List V)
  | dK (kvs : List (Key × V)) | dT (kvs : List (List Key × V))
  | set (S : Int → Bool) (n : Nat)
  | ins (C dx : Addr) (fs : List (Str × V))
  | own (x : Addr)
  | xd (fs : List (Str × V))
  | met (f x : Addr)
  | rng (lo hi : Int)
  | frz (o : Obj) (u : HO)
  | tbl (ps : Array Value)
  | ext (φ : Heap → Prop)
abbrev Hp := Addr → Option HO
noncomputable def upd (H : Hp) (a : Addr) (o : HO) : Hp := fun b => if b = a then some o else H b
theorem upd_same {H : Hp} {a : Addr} {o : HO} : upd H a o a = some o := by unfold upd; rw [if_pos rfl]
theorem upd_ne {H : Hp} {a b : Addr} {o : HO} (h : b ≠ a) : upd H a o b = H b := by unfold upd; rw [if_neg h]
theorem ne_of {H : Hp} {a b : Addr} {o u : HO} (h : H a = some o) (h' : H b = some u) (d : o ≠ u) : a ≠ b := by
  intro e; subst e; rw [h] at h'; exact d (Option.some.inj h')
theorem ne_of_none {H : Hp} {a b : Addr} {o : HO} (h : H a = some o) (h' : H b = none) : a ≠ b := by
  intro e; subst e; rw [h] at h'; cases h'
section
variable (P : Program) (w : World)
def ObjOk (H : Hp) (h : Heap) (a : Addr) : HO → Prop
  | .lst xs => xs.length ≤ sizeLine ∧ ∃ (its : List Value) (n : Nat), Vals xs its ∧ h.get? a = some { cls := .type "list", data := .seq its.toArray n }
  | .tup xs => xs.length ≤ sizeLine ∧ ∃ its : List Value, Vals xs its ∧ IsTup h a its.toArray
  | .dK kvs => kvs.length ≤ sizeLine ∧ (a == sysModules) = false ∧ ∃ vs, KV kvs vs ∧ h.DictOf (mixKind P w) a vs
  | .dT kvs => kvs.length ≤ sizeLine ∧ (a == sysModules) = false ∧ ∃ xs : List (List Key × Addr × Value),
      Paired (fun (p : List Key × V) (q : List Key × Addr × Value) => p.1 = q.1 ∧ H q.2.1 = some (.tup (p.1.map kV)) ∧ RelV p.2 q.2.2) kvs xs ∧
      ∃ o es ep, h.get? a = some o ∧ o.ExactDict ∧ o.data = .dict es ep ∧ es.toList = xs.map (entryOfKey (tupleKind (mixKind P w))) ∧ (xs.map (·.1)).Nodup
  | .set S n => h.SetOf (intKind P w) a S n
  | .ins C dx fs => H dx = some (.own a) ∧ fs.length ≤ 1000 ∧ dx ≠ a ∧ h.get? a = some (PySem.W.instObj C dx) ∧
      ∃ mA, h.Ns1 dx mA ∧ (∀ f, RelO (fs.lookup f) (mA f)) ∧ PySem.Within mA (fs.map (·.1))
  | .own _ => ∃ o, h.get? a = some o
  | .xd fs => ∃ mA, h.Ns1 a mA ∧ ∀ f, RelO (fs.lookup f) (mA f)
  | .rng lo hi => ∃ t u v, h.get? a = some { cls := .type "range", data := .fields #[.int lo t, .int hi u, .int 1 v] }
  | .frz o u => h.get? a = some o ∧ ObjOk H h a u
  | .tbl ps => h.get? a = some { cls := .none, data := .fields ps }
  | .met f x => h.get? a = some (PySem.W.methodObj (.ref f) (.ref x))
  | .ext φ => φ h ∧ (∃ o, h.get? a = some o) ∧ ∀ h1 h2 : Heap, φ h1 → (∀ o, h1.get? a = some o → h2.get? a = some o) → φ h2
def HOk (H : Hp) (h : Heap) : Prop := ∀ a o, H a = some o → ObjOk P w H h a o
end
section
variable {P : Program} {w : World} {H H' : Hp} {h h' : Heap} {a : Addr} {o : HO}
theorem ObjOk.lt (x : ObjOk P w H h a o) : a < h.objs.size := by
  cases o with
  | lst xs => obtain ⟨_, _, _, _, e⟩ := x; exact Heap.lt_size e
  | tup xs => obtain ⟨_, _, _, p⟩ := x; exact p.lt
  | dK kvs => obtain ⟨_, _, _, _, o, _, _, e, _⟩ := x; exact Heap.lt_size e
  | dT kvs => obtain ⟨_, _, _, _, o, _, _, e, _⟩ := x; exact Heap.lt_size e
  | set S n => obtain ⟨o, _, _, _, e, _⟩ := x; exact Heap.lt_size e
  | ins C dx fs => obtain ⟨_, _, _, e, _⟩ := x; exact Heap.lt_size e
  | own y => obtain ⟨_, e⟩ := x; exact Heap.lt_size e
  | xd fs => obtain ⟨_, ⟨_, _, _, e, _⟩, _⟩ := x; exact Heap.lt_size e
  | rng lo hi => obtain ⟨_, _, _, e⟩ := x; exact Heap.lt_size e
  | frz ob u => obtain ⟨e, _⟩ := x; exact Heap.lt_size e
  | tbl ps => exact Heap.lt_size (show h.get? a = some _ from x)
  | met f y => exact Heap.lt_size (show h.get? a = some _ from x)
  | ext φ => obtain ⟨_, ⟨_, e⟩, _⟩ := x; exact Heap.lt_size e
theorem Paired.mapP {α β : Type} {F G : α → β → Prop} : ∀ {l₁ : List α} {l₂ : List β}, Paired F l₁ l₂ → (∀ a b, F a b → G a b) → Paired G l₁ l₂
  | _, _, .nil, _ => .nil
  | _, _, .cons r t, f => .cons (f _ _ r) (Paired.mapP t f)
theorem ObjOk.stay (x : ObjOk P w H h a o) (k : ∀ b u, (b = a ∨ H b = some (.own a)) → h.get? b = some u → h'.get? b = some u)
    (ho : ∀ b, H b = some (.own a) → H' b = some (.own a)) (ht : ∀ b xs, H b = some (.tup xs) → H' b = some (.tup xs)) : ObjOk P w H' h' a o := by
  induction o with
  | lst xs => obtain ⟨z, its, n, r, e⟩ := x; exact ⟨z, its, n, r, k _ _ (.inl rfl) e⟩
  | tup xs => obtain ⟨z, its, r, ob, e, c⟩ := x; exact ⟨z, its, r, ob, k _ _ (.inl rfl) e, c⟩
  | dK kvs => obtain ⟨z, y, vs, r, ob, es, ep, e, c⟩ := x; exact ⟨z, y, vs, r, ob, es, ep, k _ _ (.inl rfl) e, c⟩
  | dT kvs =>
    obtain ⟨z, y, xs, r, ob, es, ep, e, c⟩ := x
    exact ⟨z, y, xs, Paired.mapP r fun p q z => ⟨z.1, ht _ _ z.2.1, z.2.2⟩, ob, es, ep, k _ _ (.inl rfl) e, c⟩
  | set S n => obtain ⟨ob, es, ep, t, e, c⟩ := x; exact ⟨ob, es, ep, t, k _ _ (.inl rfl) e, c⟩
  | ins C dx fs =>
    obtain ⟨d, z, ne, e, mA, ⟨od, es, ep, e2, c⟩, r⟩ := x
    exact ⟨ho _ d, z, ne, k _ _ (.inl rfl) e, mA, ⟨od, es, ep, k _ _ (.inr d) e2, c⟩, r⟩
  | own y => obtain ⟨ob, e⟩ := x; exact ⟨ob, k _ _ (.inl rfl) e⟩
  | xd fs => obtain ⟨mA, ⟨od, es, ep, e, c⟩, r⟩ := x; exact ⟨mA, ⟨od, es, ep, k _ _ (.inl rfl) e, c⟩, r⟩
  | rng lo hi => obtain ⟨t, u, v, e⟩ := x; exact ⟨t, u, v, k _ _ (.inl rfl) e⟩
  | frz ob u ih => obtain ⟨e, q⟩ := x; exact ⟨k _ _ (.inl rfl) e, ih q⟩
  | tbl ps =>
    have e : h.get? a = some { cls := .none, data := .fields ps } := x
    show h'.get? a = some { cls := .none, data := .fields ps }
    exact k a _ (.inl rfl) e
  | met f y =>
    have e : h.get? a = some (PySem.W.methodObj (.ref f) (.ref y)) := x
    show h'.get? a = some (PySem.W.methodObj (.ref f) (.ref y))
    exact k a _ (.inl rfl) e
  | ext φ => obtain ⟨p, ⟨o, e⟩, st⟩ := x; exact ⟨st _ _ p fun o q => k _ _ (.inl rfl) q, ⟨o, k _ _ (.inl rfl) e⟩, st⟩
theorem HOk.lt (x : HOk P w H h) (e : H a = some o) : a < h.objs.size := (x a o e).lt
theorem HOk.fresh (x : HOk P w H h) (e : h.objs.size ≤ a) : H a = none := by
  cases q : H a with
  | none => rfl
  | some u => exact absurd (Nat.lt_of_lt_of_le (x.lt q) e) (Nat.lt_irrefl _)
theorem HOk.kept (x : HOk P w H h) (k : ∀ b u, h.get? b = some u → h'.get? b = some u) : HOk P w H h' := fun a o e =>
  (x a o e).stay (fun b u _ q => k b u q) (fun _ q => q) fun _ _ q => q
theorem HOk.laid (x : HOk P w H h) (k : ∀ b u, h.get? b = some u → h'.get? b = some u) (hp : h.objs.size ≤ a) (new : ObjOk P w (upd H a o) h' a o) : HOk P w (upd H a o) h' := fun b u e => by
  have hn := x.fresh hp
  by_cases hb : b = a
  · subst hb; rw [upd_same] at e; cases e; exact new
  · rw [upd_ne hb] at e
    exact (x b u e).stay (fun c v _ q => k c v q) (fun c q => by rw [upd_ne (ne_of_none q hn)]; exact q) fun c xs q => by rw [upd_ne (ne_of_none q hn)]; exact q
end
def Rd (H : Hp) (a : Addr) (u : HO) : Prop := H a = some u ∨ ∃ o, H a = some (.frz o u)
theorem Rd.ok {P : Program} {w : World} {H : Hp} {h : Heap} {a : Addr} {u : HO} (r : Rd H a u) (x : HOk P w H h) : ObjOk P w H h a u := by
  rcases r with r | ⟨o, r⟩
  · exact x a u r
  · obtain ⟨_, q⟩ := x a _ r
    exact q
noncomputable def Mut : Option HO → Prop
  | some (.lst _) => True
  | some (.dK _) => True
  | some (.dT _) => True
  | some (.set _ _) => True
  | some (.ins _ _ _) => True
  | some (.ext _) => True
  | _ => False
section
variable {P : Program} {w : World} {H : Hp} {h h' : Heap} {x e : Addr} {o' : HO}
theorem HOk.write (ok : HOk P w H h) (mu : Mut (H x)) (he : e = x ∨ H e = some (.own x)) (k : ∀ b u, b ≠ e → h.get? b = some u → h'.get? b = some u) (heo : ∃ u, h'.get? e = some u)
    (new : ObjOk P w (upd H x o') h' x o') : HOk P w (upd H x o') h' := fun b u q => by
  have nown : ∀ c y, H c = some (.own y) → c ≠ x := fun c y r z => by subst z; rw [r] at mu; exact mu
  have ntup : ∀ c xs, H c = some (.tup xs) → c ≠ x := fun c xs r z => by subst z; rw [r] at mu; exact mu
  by_cases hb : b = x
  · subst hb; rw [upd_same] at q; cases q; exact new
  · rw [upd_ne hb] at q
    by_cases hbe : b = e
    · have q' : H b = some (.own x) := by
        rcases he with z | z
        · exact absurd (hbe.trans z) hb
        · rw [hbe]; exact z
      rw [q] at q'; cases q'
      obtain ⟨v, hv⟩ := heo
      exact ⟨v, by rw [hbe]; exact hv⟩
    · refine (ok b u q).stay (fun c v hc r => k c v ?_ r) (fun c r => by rw [upd_ne (nown c b r)]; exact r) fun c xs r => by rw [upd_ne (ntup c xs r)]; exact r
      rcases hc with rfl | hc
      · exact hbe
      · rintro rfl
        rcases he with z | z
        · exact nown c b hc z
        · rw [hc] at z; cases z; exact hb rfl
end
structure Un (fs ex : List Addr) (H H' : Hp) (h h' : Heap) : Prop where
  keep : ∀ b o, h.get? b = some o → H b = none → b ∉ fs → b ∉ ex → h'.get? b = some o
  slot : ∀ b o, h.get? b = some o → H b = none → b ∈ fs → b ∉ ex → ∃ sl, h'.get? b = some { o with slots := sl }
  free : ∀ b o, h.get? b = some o → H b = none → b ∉ ex → H' b = none
  there : ∀ b o, h.get? b = some o → b ∉ ex → ∃ o', h'.get? b = some o'
  tups : ∀ b xs, H b = some (.tup xs) → H' b = some (.tup xs)
  frzs : ∀ b o u, H b = some (.frz o u) → H' b = some (.frz o u)
  tbls : ∀ b ps, H b = some (.tbl ps) → ∃ more, H' b = some (.tbl (ps ++ more))
section
variable {fs fs' ex ex' : List Addr} {H H1 H2 : Hp} {h h1 h2 h' : Heap} {a x e : Addr} {o : HO}
theorem Un.any (u : Un fs ex H H1 h h1) {b : Addr} {ob : Obj} (q : h.get? b = some ob) (n : H b = none) (hx : b ∉ ex) : ∃ sl, h1.get? b = some { ob with slots := sl } := by
  by_cases hb : b ∈ fs
  · exact u.slot b ob q n hb hx
  · exact ⟨ob.slots, u.keep b ob q n hb hx⟩
theorem Un.kept (k : ∀ b u, h.get? b = some u → h'.get? b = some u) : Un fs ex H H h h' :=
  ⟨fun b ob q _ _ _ => k b ob q, fun b ob q _ _ _ => ⟨ob.slots, k b ob q⟩, fun _ _ _ n _ => n, fun b ob q _ => ⟨ob, k b ob q⟩, fun _ _ q => q, fun _ _ _ q => q, fun _ ps q => ⟨#[], by rw [q]; simp⟩⟩
theorem Un.refl : Un fs ex H H h h := Un.kept fun _ _ q => q
theorem Un.laid (k : ∀ b u, h.get? b = some u → h'.get? b = some u) (hp : h.objs.size ≤ a) (hn : H a = none) : Un fs ex H (upd H a o) h h' where
  keep := fun b u q _ _ _ => k b u q
  slot := fun b u q _ _ _ => ⟨u.slots, k b u q⟩
  free := fun b u q n _ => by rw [upd_ne (Nat.ne_of_lt (Nat.lt_of_lt_of_le (Heap.lt_size q) hp))]; exact n
  there := fun b u q _ => ⟨u, k b u q⟩
  tups := fun b xs q => by rw [upd_ne (ne_of_none q hn)]; exact q
  frzs := fun b u xs q => by rw [upd_ne (ne_of_none q hn)]; exact q
  tbls := fun b ps q => ⟨#[], by rw [upd_ne (ne_of_none q hn), q]; simp⟩
theorem Un.write (mu : Mut (H x)) (he : e = x ∨ H e = some (.own x)) (k : ∀ b u, b ≠ e → h.get? b = some u → h'.get? b = some u) (heo : ∃ u, h'.get? e = some u) : Un fs ex H (upd H x o) h h' := by
  have hx : ∀ b, H b = none → b ≠ x := fun b n z => by subst z; rw [n] at mu; exact mu
  have hb : ∀ b, H b = none → b ≠ e := fun b n z => by
    subst z
    rcases he with r | r
    · exact hx b n r
    · rw [n] at r; cases r
  have hm : ∀ b u, H b = some u → ¬ Mut (some u) → b ≠ x := fun b u q nm z => by subst z; rw [q] at mu; exact nm mu
  refine ⟨fun b u q n _ _ => k b u (hb b n) q, fun b u q n _ _ => ⟨u.slots, k b u (hb b n) q⟩, fun b u q n _ => by rw [upd_ne (hx b n)]; exact n, fun b u q _ => ?_,
    fun b xs q => by rw [upd_ne (hm b _ q fun z => z)]; exact q, fun b u xs q => by rw [upd_ne (hm b _ q fun z => z)]; exact q, fun b ps q => ⟨#[], by rw [upd_ne (hm b _ q fun z => z), q]; simp⟩⟩
  by_cases hbe : b = e
  · subst hbe; exact heo
  · exact ⟨u, k b u hbe q⟩
end
noncomputable def trk (h : Heap) (H : Hp) : List Addr := (List.range h.objs.size).filter fun a => (H a).isSome
def hidT (h : Heap) (H : Hp) : Heap := PySem.W.hideAll h (trk h H)
theorem hidT_size (h : Heap) (H : Hp) : (hidT h H).objs.size = h.objs.size := PySem.W.hideAll_size _ _
theorem hidT_get {h : Heap} {H : Hp} {b : Addr} {o : Obj} (e : h.get? b = some o) (n : H b = none) : (hidT h H).get? b = some o :=
  PySem.W.hideAll_get _ e fun hm => by
    have q : (H b).isSome = true := (List.mem_filter.mp hm).2
    rw [n] at q; simp at q
theorem of_hidT {h : Heap} {H : Hp} {b : Addr} {o : Obj} (e : (hidT h H).get? b = some o) : h.get? b = some o ∧ H b = none := by
  have e' : h.get? b = some o := PySem.W.of_hideAll (trk h H) e
  refine ⟨e', ?_⟩
  cases q : H b with
  | none => rfl
  | some x =>
    have hm : b ∈ trk h H := List.mem_filter.mpr ⟨List.mem_range.mpr (Heap.lt_size e'), by simp [q]⟩
    have z : (hidT h H).get? b = none := PySem.W.hideAll_none (trk h H) hm
    rw [z] at e; cases e
noncomputable def allNews (g h : Heap) (L : Addr) : List (Addr × Obj) := (List.range h.objs.size).filterMap fun a => if a = L ∨ (g.get? a).isSome = true then none else (h.get? a).map fun o => (a, o)
def rest (g h : Heap) (L d : Addr) : List (Addr × Obj) := (allNews g h L).filter fun p => decide (p.1 ≠ d)
end L2
namespace L2
open PySem PySem.Spec PyProof.Rows
structure Mod (K : PySem.W.Frag) (mg : Str → Option Value) (base : Heap) : Prop where
  kin : K.In base
  glob : base.Ns mainGlobals mg
  blt : ∃ mb, base.Ns builtinsNs mb ∧ ∀ x : Str, x ≠ "__name__" → mb x = bootBuiltins x
  nolimit : base.NoLimit
structure Cx where
  prog : Program
  w : World
  K : PySem.W.Frag
  mg : Str → Option Value
  base : Heap
  A : Around
  N : List Str
  s₀ : Shared
  H₀ : Hp
  env : Env
  outer : List Env
  stack : List Env
  ex : List Addr
  fn : Str → Bool
  calm : Bool
  pn : List (Addr × Obj)
  xe : Value → Shared → Prop
noncomputable def frs (l : List Env) : List Addr := l.filterMap (·.frame)
abbrev Cx.fs (X : Cx) : List Addr := frs X.outer
def Vis (sc : Scope) (x : Str) : Prop := sc.names.lookup x = some .local ∨ sc.names.lookup x = some .cell ∨ sc.names.lookup x = some .free
def Loc (sc : Scope) (x : Str) : Prop := sc.names.lookup x = some .local ∨ sc.names.lookup x = some .cell
def Look (env : Env) (h : Heap) (m : Str → Option Value) (x : Str) (u : Value) : Prop :=
  (env.kindOf x = some .local ∧ m x = some u) ∨ ((env.kindOf x = some .cell ∨ env.kindOf x = some .free) ∧ ∃ c, env.cells.lookup x = some c ∧ h.IsCell c (some u))
structure Cx.Ok (X : Cx) : Prop where
  mod : Mod X.K X.mg X.base
  kind : X.env.scope.kind = .function
  glob : X.env.globals = mainGlobals
  blt : X.env.builtins = builtinsNs
  above : X.s₀.heap.objs.size ≤ X.env.locals
  inj : ∀ x y c, X.env.cells.lookup x = some c → X.env.cells.lookup y = some c → x = y
  has : ∀ x, (X.env.kindOf x = some .cell ∨ X.env.kindOf x = some .free) → ∃ c, X.env.cells.lookup x = some c
  cab : ∀ x c, X.fn x = true → X.env.cells.lookup x = some c → X.s₀.heap.objs.size ≤ c
  hd : X.calm = true → X.A.handled = none
  frames : X.A.frames = some X.stack
  stk : X.stack = X.outer ∨ (X.stack = X.env :: X.outer ∧ X.env.frame = some X.env.locals)
  exf : ∀ b ∈ X.ex, b ≠ X.env.locals ∧ ∀ x c, X.env.cells.lookup x = some c → c ≠ b
  bs : ∀ b o, X.base.get? b = some o → X.s₀.heap.get? b = some o ∧ X.H₀ b = none
  bsz : X.base.objs.size ≤ X.s₀.heap.objs.size
  noex : ∀ b o, X.base.get? b = some o → b ∉ X.ex
  exfs : ∀ b ∈ X.ex, b ∉ X.fs
  funs : X.s₀.heap.FunFrames X.base X.outer
  frf : ∀ b ∈ X.fs, X.H₀ b = none
structure Inv (X : Cx) (pins : List (Addr × Obj)) (σ : List (Option V)) (H : Hp) (s : Shared) : Prop where
  ok : X.Ok
  os : s.os = X.s₀.os
  bare : AllBare s.gens
  base : Un X.fs X.ex X.H₀ H X.s₀.heap s.heap
  loc : ∃ m, s.heap.Ns X.env.locals m ∧ ∀ (i : Nat) (x : Str) (v : V), X.N[i]? = some x → σ[i]? = some (some v) → Vis X.env.scope x → ∃ u, RelV v u ∧ Look X.env s.heap m x u
  cell : ∀ x c, X.env.cells.lookup x = some c → ∃ v, s.heap.IsCell c v
  free : H X.env.locals = none
  freeC : ∀ x c, X.env.cells.lookup x = some c → H c = none
  pin : ∀ p ∈ X.pn ++ pins, s.heap.get? p.1 = some p.2 ∧ H p.1 = none ∧ p.1 ≠ X.env.locals ∧ p.1 ∉ X.fs ∧ ∀ v, p.2.data ≠ .cell v
  hok : HOk X.prog X.w H s.heap
  len : σ.length = X.N.length
  tk : 0 < s.toks
section
variable {X : Cx} {pins : List (Addr × Obj)} {σ : List (Option V)} {H H' : Hp} {s : Shared} {h' : Heap}
theorem Cx.Ok.nofr (ok : X.Ok) {b : Addr} {o : Obj} (e : X.base.get? b = some o) : b ∉ X.fs := fun hb => by
  have := (ok.funs.mem hb).1
  rw [e] at this; cases this
theorem Inv.bs (I : Inv X pins σ H s) : ∀ b o, X.base.get? b = some o → s.heap.get? b = some o ∧ H b = none := fun b o e =>
  ⟨I.base.keep b o (I.ok.bs b o e).1 (I.ok.bs b o e).2 (I.ok.nofr e) (I.ok.noex b o e), I.base.free b o (I.ok.bs b o e).1 (I.ok.bs b o e).2 (I.ok.noex b o e)⟩
theorem Inv.bk (I : Inv X pins σ H s) : ∀ b o, X.base.get? b = some o → s.heap.get? b = some o := fun b o e => (I.bs b o e).1
theorem Inv.mod (I : Inv X pins σ H s) : Mod X.K X.mg X.base := I.ok.mod
theorem Inv.kIn (I : Inv X pins σ H s) : X.K.In s.heap := I.ok.mod.kin.keeps I.bk
theorem Inv.lt (I : Inv X pins σ H s) : X.env.locals < s.heap.objs.size := let ⟨_, hn, _⟩ := I.loc; hn.lt
theorem Inv.sz (I : Inv X pins σ H s) : X.s₀.heap.objs.size ≤ s.heap.objs.size := Nat.le_trans I.ok.above (Nat.le_of_lt I.lt)
theorem Inv.nofs (I : Inv X pins σ H s) {a : Addr} (h : s.heap.objs.size ≤ a) : a ∉ X.fs := fun hb => by
  obtain ⟨_, o, ho, _⟩ := I.ok.funs.mem hb
  exact absurd (Nat.lt_of_lt_of_le (Heap.lt_size ho) (Nat.le_trans I.sz h)) (Nat.lt_irrefl _)
theorem Inv.cne (I : Inv X pins σ H s) : ∀ x c, X.env.cells.lookup x = some c → c ≠ X.env.locals := fun x c e z => by
  obtain ⟨v, o, ho, hd⟩ := I.cell x c e
  obtain ⟨m, ⟨o', es, ep, ho', hd', _⟩, _⟩ := I.loc
  rw [z, ho'] at ho; cases ho; rw [hd'] at hd; cases hd
theorem Inv.funs (I : Inv X pins σ H s) : s.heap.FunFrames X.base X.outer := by
  have all : ∀ (l : List Env), (∀ b ∈ frs l, b ∈ X.fs) → X.s₀.heap.FunFrames X.base l → s.heap.FunFrames X.base l := by
    intro l
    induction l with
    | nil => intro _ _; trivial
    | cons env r ih =>
      intro hs hl
      obtain ⟨hk, ⟨L, o, hf, hn, ho, hd⟩, hr⟩ := hl
      have hL : L ∈ X.fs := hs L (by unfold frs; rw [List.filterMap_cons, hf]; exact List.mem_cons_self)
      obtain ⟨sl, e⟩ := I.base.slot L o ho (I.ok.frf L hL) hL fun z => I.ok.exfs L z hL
      exact ⟨hk, ⟨L, _, hf, hn, e, hd⟩, ih (fun b hb => hs b (by unfold frs; rw [List.filterMap_cons, hf]; exact List.mem_cons_of_mem _ hb)) hr⟩
  exact all X.outer (fun _ hb => hb) I.ok.funs
theorem Inv.stack (I : Inv X pins σ H s) : s.heap.FunFrames X.base X.stack := by
  rcases I.ok.stk with e | ⟨e, hf⟩
  · rw [e]; exact I.funs
  · rw [e]
    obtain ⟨m, hn, _⟩ := I.loc
    refine .cons (by rw [I.ok.kind]; decide) hf hn ?_ I.funs
    exact Heap.get?_none_of_le (Nat.le_trans I.ok.bsz I.ok.above)
theorem Inv.stkSub (I : Inv X pins σ H s) : ∀ b ∈ frs X.stack, b ∈ X.env.locals :: X.fs := fun b hb => by
  rcases I.ok.stk with e | ⟨e, hf⟩
  · rw [e] at hb; exact List.mem_cons_of_mem _ hb
  · rw [e] at hb
    unfold frs at hb
    rw [List.filterMap_cons, hf] at hb
    exact hb
theorem Inv.stkFree (I : Inv X pins σ H s) : ∀ b ∈ frs X.stack, H b = none := fun b hb => by
  rcases List.mem_cons.mp (I.stkSub b hb) with e | hb
  · rw [e]; exact I.free
  · obtain ⟨_, o, ho, _⟩ := I.ok.funs.mem hb
    exact I.base.free b o ho (I.ok.frf b hb) fun z => I.ok.exfs b z hb
theorem Inv.step {g' : Array GenState} {t' : Nat} {d' : Drawn} {ch : List Addr} (I : Inv X pins σ H s)
    (hch : ∀ b ∈ ch, (b ∈ X.ex ∨ X.s₀.heap.objs.size ≤ b) ∧ b ≠ X.env.locals ∧ (∀ x c, X.env.cells.lookup x = some c → c ≠ b) ∧ ∀ p ∈ X.pn ++ pins, p.1 ≠ b)
    (keep : ∀ b o, b ≠ X.env.locals → b ∉ X.fs → b ∉ ch → s.heap.get? b = some o → H b = none → h'.get? b = some o)
    (slot : ∀ b o, b ≠ X.env.locals → b ∈ X.fs → b ∉ ch → s.heap.get? b = some o → H b = none → ∃ sl, h'.get? b = some { o with slots := sl }) (free : ∀ b o, b ∉ ch → s.heap.get? b = some o → H b = none → H' b = none)
    (there : ∀ b o, b ∉ ch → s.heap.get? b = some o → ∃ o', h'.get? b = some o')
    (tups : ∀ b xs, H b = some (.tup xs) → H' b = some (.tup xs)) (frzs : ∀ b o u, H b = some (.frz o u) → H' b = some (.frz o u)) (tbls : ∀ b ps, H b = some (.tbl ps) → ∃ more, H' b = some (.tbl (ps ++ more)))
    (ns : ∀ m, s.heap.Ns X.env.locals m → h'.Ns X.env.locals m) (hok : HOk X.prog X.w H' h') (hg : AllBare g') (ht : 0 < t' := by first | exact Nat.succ_pos _ | assumption | exact Inv.tk (by assumption) | lia) :
    Inv X pins σ H' { s with heap := h', gens := g', drawn := d', toks := t' } := by
  have neL : ∀ b o, X.s₀.heap.get? b = some o → b ≠ X.env.locals := fun b o e => Nat.ne_of_lt (Nat.lt_of_lt_of_le (Heap.lt_size e) I.ok.above)
  have neC : ∀ b o, X.s₀.heap.get? b = some o → b ∉ X.ex → b ∉ ch := fun b o e hx hb => by
    rcases (hch b hb).1 with z | z
    · exact hx z
    · exact absurd (Nat.lt_of_lt_of_le (Heap.lt_size e) z) (Nat.lt_irrefl _)
  have cellK : ∀ x c, X.env.cells.lookup x = some c → ∀ v, s.heap.IsCell c v → h'.IsCell c v := fun x c e v ⟨o, ho, hd⟩ => by
    have nch : c ∉ ch := fun z => (hch c z).2.2.1 x c e rfl
    by_cases hc : c ∈ X.fs
    · obtain ⟨sl, q⟩ := slot c o (I.cne x c e) hc nch ho (I.freeC x c e)
      exact ⟨_, q, hd⟩
    · exact ⟨o, keep c o (I.cne x c e) hc nch ho (I.freeC x c e), hd⟩
  refine ⟨I.ok, I.os, hg, ⟨fun b o e n hb hx => ?_, fun b o e n hb hx => ?_, fun b o e n hx => ?_, fun b o e hx => ?_, fun b xs e => tups b xs (I.base.tups b xs e), fun b o xs e => frzs b o xs (I.base.frzs b o xs e), fun b ps e => ?_⟩, ?_, fun x c e => ?_, ?_, fun x c e => ?_, fun p hp => ?_, hok, I.len, ht⟩
  · exact keep b o (neL b o e) hb (neC b o e hx) (I.base.keep b o e n hb hx) (I.base.free b o e n hx)
  · obtain ⟨sl, e1⟩ := I.base.slot b o e n hb hx
    obtain ⟨sl', e2⟩ := slot b _ (neL b o e) hb (neC b o e hx) e1 (I.base.free b o e n hx)
    exact ⟨sl', e2⟩
  · obtain ⟨o', e1⟩ := I.base.there b o e hx
    exact free b o' (neC b o e hx) e1 (I.base.free b o e n hx)
  · obtain ⟨o', e1⟩ := I.base.there b o e hx
    exact there b o' (neC b o e hx) e1
  · obtain ⟨m1, e1⟩ := I.base.tbls b ps e
    obtain ⟨m2, e2⟩ := tbls b _ e1
    exact ⟨m1 ++ m2, by rw [e2, Array.append_assoc]⟩
  · obtain ⟨m, hn, hl⟩ := I.loc
    refine ⟨m, ns m hn, fun i x v e1 e2 e3 => ?_⟩
    obtain ⟨u, r, l⟩ := hl i x v e1 e2 e3
    refine ⟨u, r, ?_⟩
    rcases l with l | ⟨k, c, e, z⟩
    · exact .inl l
    · exact .inr ⟨k, c, e, cellK x c e _ z⟩
  · obtain ⟨v, z⟩ := I.cell x c e
    exact ⟨v, cellK x c e v z⟩
  · obtain ⟨m, ⟨o, _, _, ho, _⟩, _⟩ := I.loc
    exact free _ o (fun z => (hch _ z).2.1 rfl) ho I.free
  · obtain ⟨v, o, ho, hd⟩ := I.cell x c e
    exact free c o (fun z => (hch c z).2.2.1 x c e rfl) ho (I.freeC x c e)
  · obtain ⟨e, n, ne, nf, d⟩ := I.pin p hp
    have nch : p.1 ∉ ch := fun z => (hch p.1 z).2.2.2 p hp rfl
    exact ⟨keep p.1 p.2 ne nf nch e n, free p.1 p.2 nch e n, ne, nf, d⟩
theorem Inv.un {t' : Nat} (I : Inv X pins σ H s) (u : Un X.fs [] H H' s.heap h') (hok : HOk X.prog X.w H' h') (ht : 0 < t' := by first | exact Nat.succ_pos _ | assumption | exact Inv.tk (by assumption) | lia) : Inv X pins σ H' { s with heap := h', toks := t' } := by
  obtain ⟨m, ⟨o, es, ep, ho, r⟩, _⟩ := id I.loc
  obtain ⟨sl, hL⟩ := u.any ho I.free (by simp)
  exact I.step (g' := s.gens) (d' := s.drawn) (ch := []) (fun _ z => nomatch z) (fun b o _ hb _ e n => u.keep b o e n hb (by simp)) (fun b o _ hb _ e n => u.slot b o e n hb (by simp)) (fun b o _ e n => u.free b o e n (by simp)) (fun b o _ e => u.there b o e (by simp)) u.tups u.frzs u.tbls (fun m' hm => by
    obtain ⟨o', es', ep', ho', r'⟩ := hm
    rw [ho] at ho'; cases ho'
    exact ⟨_, es', ep', hL, r'⟩) hok I.bare ht
theorem Inv.call {g' : Array GenState} {t' : Nat} {d' : Drawn} {ch : List Addr} (I : Inv X pins σ H s) (u : Un (frs X.stack) ch H H' s.heap h') (hok : HOk X.prog X.w H' h') (hg : AllBare g')
    (hch : ∀ b ∈ ch, (b ∈ X.ex ∨ X.s₀.heap.objs.size ≤ b) ∧ b ≠ X.env.locals ∧ (∀ x c, X.env.cells.lookup x = some c → c ≠ b) ∧ ∀ p ∈ X.pn ++ pins, p.1 ≠ b) (ht : 0 < t' := by first | exact Nat.succ_pos _ | assumption | exact Inv.tk (by assumption) | lia) :
    Inv X pins σ H' { s with heap := h', gens := g', drawn := d', toks := t' } := by
  obtain ⟨m, ⟨o, es, ep, ho, r⟩, _⟩ := id I.loc
  obtain ⟨sl, hL⟩ := u.any ho I.free fun z => (hch _ z).2.1 rfl
  exact I.step (ch := ch) hch (fun b o hL hb hc e n => u.keep b o e n (fun z => (List.mem_cons.mp (I.stkSub b z)).elim hL hb) hc) (fun b o _ _ hc e n => u.any e n hc) (fun b o hc e n => u.free b o e n hc) (fun b o hc e => u.there b o e hc) u.tups u.frzs u.tbls (fun m' hm => by
    obtain ⟨o', es', ep', ho', r'⟩ := hm
    rw [ho] at ho'; cases ho'
    exact ⟨_, es', ep', hL, r'⟩) hok hg ht
theorem Inv.turned {t' : Nat} {it : Addr} (I : Inv X pins σ H s) (k : ∀ b o, b ≠ it → s.heap.get? b = some o → h'.get? b = some o) (hn : H it = none) (hL : it ≠ X.env.locals)
    (h1 : it ∈ X.ex ∨ X.s₀.heap.objs.size ≤ it) (h2 : ∀ x c, X.env.cells.lookup x = some c → c ≠ it) (h3 : ∀ p ∈ X.pn ++ pins, p.1 ≠ it) (ht : 0 < t' := by first | exact Nat.succ_pos _ | assumption | exact Inv.tk (by assumption) | lia) : Inv X pins σ H { s with heap := h', toks := t' } := by
  have nit : ∀ b u, H b = some u → b ≠ it := fun b u e z => by rw [z, hn] at e; cases e
  refine I.step (g' := s.gens) (d' := s.drawn) (ch := [it]) (fun b hb => ?_) (fun b o _ _ hc e _ => k b o (fun z => hc (by simp [z])) e) (fun b o _ _ hc e _ => ⟨o.slots, k b o (fun z => hc (by simp [z])) e⟩) (fun _ _ _ _ n => n)
    (fun b o hc e => ⟨o, k b o (fun z => hc (by simp [z])) e⟩) (fun _ _ e => e) (fun _ _ _ e => e) (fun b ps e => ⟨#[], by rw [e]; simp⟩) (fun m hm => ?_) (fun b u e => ?_) I.bare ht
  · have e : b = it := by simpa using hb
    subst e
    exact ⟨h1, hL, h2, h3⟩
  · obtain ⟨o, es, ep, ho, r⟩ := hm
    exact ⟨o, es, ep, k _ o (Ne.symm hL) ho, r⟩
  · refine (I.hok b u e).stay (fun c v hc q => k c v ?_ q) (fun _ q => q) fun _ _ q => q
    rcases hc with z | z
    · rw [z]; exact nit b u e
    · exact nit c _ z
theorem Inv.tok (I : Inv X pins σ H s) (t : Nat) (ht : 0 < t := by first | exact Nat.succ_pos _ | assumption | exact Inv.tk (by assumption) | lia) : Inv X pins σ H { s with toks := t } := I.un (h' := s.heap) (t' := t) Un.refl I.hok ht
theorem Inv.kept {t' : Nat} (I : Inv X pins σ H s) (k : ∀ b u, s.heap.get? b = some u → h'.get? b = some u) (ht : 0 < t' := by first | exact Nat.succ_pos _ | assumption | exact Inv.tk (by assumption) | lia) : Inv X pins σ H { s with heap := h', toks := t' } := I.un (Un.kept k) (I.hok.kept k) ht
theorem Inv.laid {a : Addr} {o : HO} {t' : Nat} (I : Inv X pins σ H s) (k : ∀ b u, s.heap.get? b = some u → h'.get? b = some u) (hp : s.heap.objs.size ≤ a) (new : ObjOk X.prog X.w (upd H a o) h' a o) (ht : 0 < t' := by first | exact Nat.succ_pos _ | assumption | exact Inv.tk (by assumption) | lia) :
    Inv X pins σ (upd H a o) { s with heap := h', toks := t' } := I.un (Un.laid k hp (I.hok.fresh hp)) (I.hok.laid k hp new) ht
theorem Inv.write {x e : Addr} {o : HO} {t' : Nat} (I : Inv X pins σ H s) (mu : Mut (H x)) (he : e = x ∨ H e = some (.own x)) (k : ∀ b u, b ≠ e → s.heap.get? b = some u → h'.get? b = some u) (heo : ∃ u, h'.get? e = some u)
    (new : ObjOk X.prog X.w (upd H x o) h' x o) (ht : 0 < t' := by first | exact Nat.succ_pos _ | assumption | exact Inv.tk (by assumption) | lia) : Inv X pins σ (upd H x o) { s with heap := h', toks := t' } := I.un (Un.write mu he k heo) (I.hok.write mu he k heo new) ht
theorem Inv.pins_of {pins' : List (Addr × Obj)} (I : Inv X pins σ H s) (h : ∀ p ∈ pins', s.heap.get? p.1 = some p.2 ∧ H p.1 = none ∧ p.1 ≠ X.env.locals ∧ p.1 ∉ X.fs ∧ ∀ v, p.2.data ≠ .cell v) : Inv X pins' σ H s :=
  ⟨I.ok, I.os, I.bare, I.base, I.loc, I.cell, I.free, I.freeC, fun p hp => (List.mem_append.mp hp).elim (fun z => I.pin p (List.mem_append_left _ z)) (h p), I.hok, I.len, I.tk⟩
theorem nodup_ix {N : List Str} (hN : N.Nodup) {i j : Nat} {x : Str} (a : N[i]? = some x) (b : N[j]? = some x) : i = j := by
  obtain ⟨h1, e1⟩ := List.getElem?_eq_some_iff.mp a
  obtain ⟨h2, e2⟩ := List.getElem?_eq_some_iff.mp b
  exact (List.getElem_inj hN).mp (e1.trans e2.symm)
theorem store_ok2 {M : Model} {A : Around} {E : Value → Shared → Prop} {i : Nat} {x : Str} {v : V} {u : Value} {Q : Unit → Shared → Prop} (I : Inv X pins σ H s) (hN : X.N.Nodup) (hi : X.N[i]? = some x) (hx : Loc X.env.scope x) (r : RelV v u)
    (h : ∀ s', Inv X pins (σ.set i (some v)) H s' → (∃ a, Heap.SameBut a s.heap s'.heap ∧ (a = X.env.locals ∨ X.env.cells.lookup x = some a)) → Q () s') (hf : X.fn x = true ∨ X.env.scope.names.lookup x = some .local := by first | exact .inl rfl | exact .inr rfl | assumption) : wpAny M A (storeName X.env x u) Q E s := by
  obtain ⟨m, hn, hl⟩ := id I.loc
  have hcls : (X.env.scope.kind == .class || (X.env.scope.kind == .module && X.env.locals != X.env.globals)) = false := by rw [I.ok.kind]; rfl
  have hiσ : i < σ.length := by rw [I.len]; exact (List.getElem?_eq_some_iff.mp hi).1
  have cne := I.cne
  have tracked : ∀ {a : Addr} {h' : Heap}, (∃ o, s.heap.get? a = some o ∧ H a = none) → Heap.SameBut a s.heap h' → HOk X.prog X.w H h' := fun {a h'} ha hs b ob e => by
    obtain ⟨_, _, hfree⟩ := ha
    refine (I.hok b ob e).stay (fun c w' hc q => (hs.2 c ?_).trans q) (fun _ q => q) fun _ _ q => q
    rintro rfl
    rcases hc with rfl | hc
    · rw [hfree] at e; cases e
    · rw [hfree] at hc; cases hc
  rcases hx with hk | hk
  · refine wpAny_storeName_local hk hn (fun h' hn' hs => ?_) hcls
    obtain ⟨oL, _, _, hoL, _⟩ := id hn
    refine h _ ⟨I.ok, I.os, I.bare, ⟨fun b o e n hb hx => ?_, fun b o e n hb hx => ?_, I.base.free, fun b o e hx => ?_, I.base.tups, I.base.frzs, I.base.tbls⟩, ⟨_, hn', fun j y v' e1 e2 e3 => ?_⟩, fun y c e => ?_, I.free, I.freeC, fun p hp => ?_, tracked ⟨oL, hoL, I.free⟩ hs, by simpa using I.len, Nat.succ_pos _⟩ ⟨_, hs, .inl rfl⟩
    · exact (hs.2 b (Nat.ne_of_lt (Nat.lt_of_lt_of_le (Heap.lt_size e) I.ok.above))).trans (I.base.keep b o e n hb hx)
    · obtain ⟨sl, e1⟩ := I.base.slot b o e n hb hx
      exact ⟨sl, (hs.2 b (Nat.ne_of_lt (Nat.lt_of_lt_of_le (Heap.lt_size e) I.ok.above))).trans e1⟩
    · obtain ⟨o', e1⟩ := I.base.there b o e hx
      exact ⟨o', (hs.2 b (Nat.ne_of_lt (Nat.lt_of_lt_of_le (Heap.lt_size e) I.ok.above))).trans e1⟩
    · by_cases hj : j = i
      · subst hj
        rw [hi] at e1; cases e1
        rw [List.getElem?_set_self hiσ] at e2
        cases e2
        exact ⟨u, r, .inl ⟨hk, by simp⟩⟩
      · rw [List.getElem?_set_ne (Ne.symm hj)] at e2
        obtain ⟨u', r', q⟩ := hl j y v' e1 e2 e3
        refine ⟨u', r', ?_⟩
        rcases q with ⟨k, e⟩ | ⟨k, c, e, z⟩
        · refine .inl ⟨k, ?_⟩
          have : y ≠ x := fun e => hj (nodup_ix hN e1 (e ▸ hi))
          simp [this, e]
        · exact .inr ⟨k, c, e, z.sameBut hs (cne y c e)⟩
    · obtain ⟨w', z⟩ := I.cell y c e
      exact ⟨w', z.sameBut hs (cne y c e)⟩
    · obtain ⟨e, n, ne, nf, d⟩ := I.pin p hp
      exact ⟨(hs.2 p.1 ne).trans e, n, ne, nf, d⟩
  · have hfn : X.fn x = true := by
      rcases hf with z | z
      · exact z
      · rw [z] at hk; cases hk
    obtain ⟨c, hc⟩ := I.ok.has x (.inl hk)
    obtain ⟨w', z⟩ := I.cell x c hc
    refine wpAny_storeName_cell I.ok.kind hk hc z (fun h' hc' hs => ?_)
    obtain ⟨oc, hoc, hocd⟩ := id z
    refine h { s with heap := h' } ⟨I.ok, I.os, I.bare, ⟨fun b o e n hb hx => ?_, fun b o e n hb hx => ?_, I.base.free, fun b o e hx => ?_, I.base.tups, I.base.frzs, I.base.tbls⟩, ⟨m, hn.sameBut hs (Ne.symm (cne x c hc)), fun j y v' e1 e2 e3 => ?_⟩, fun y c' e => ?_, I.free, I.freeC, fun p hp => ?_, tracked ⟨oc, hoc, I.freeC x c hc⟩ hs, by simpa using I.len, I.tk⟩ ⟨c, hs, .inr hc⟩
    · exact (hs.2 b (Nat.ne_of_lt (Nat.lt_of_lt_of_le (Heap.lt_size e) (I.ok.cab x c hfn hc)))).trans (I.base.keep b o e n hb hx)
    · obtain ⟨sl, e1⟩ := I.base.slot b o e n hb hx
      exact ⟨sl, (hs.2 b (Nat.ne_of_lt (Nat.lt_of_lt_of_le (Heap.lt_size e) (I.ok.cab x c hfn hc)))).trans e1⟩
    · obtain ⟨o', e1⟩ := I.base.there b o e hx
      exact ⟨o', (hs.2 b (Nat.ne_of_lt (Nat.lt_of_lt_of_le (Heap.lt_size e) (I.ok.cab x c hfn hc)))).trans e1⟩
    · by_cases hj : j = i
      · subst hj
        rw [hi] at e1; cases e1
        rw [List.getElem?_set_self hiσ] at e2
        cases e2
        exact ⟨u, r, .inr ⟨.inl hk, c, hc, hc'⟩⟩
      · rw [List.getElem?_set_ne (Ne.symm hj)] at e2
        obtain ⟨u', r', q⟩ := hl j y v' e1 e2 e3
        refine ⟨u', r', ?_⟩
        rcases q with q | ⟨k, c', e, z'⟩
        · exact .inl q
        · refine .inr ⟨k, c', e, z'.sameBut hs ?_⟩
          rintro rfl
          exact hj (nodup_ix hN e1 (I.ok.inj _ _ _ e hc ▸ hi))
    · by_cases hcc : c' = c
      · subst hcc; exact ⟨_, hc'⟩
      · obtain ⟨w2, z2⟩ := I.cell y c' e
        exact ⟨w2, z2.sameBut hs hcc⟩
    · obtain ⟨e, n, ne, nf, d⟩ := I.pin p hp
      refine ⟨(hs.2 p.1 ?_).trans e, n, ne, nf, d⟩
      intro q
      rw [q, hoc] at e
      have q' : oc = p.2 := Option.some.inj e
      exact d w' (by rw [← q']; exact hocd)
theorem store_ok {M : Model} {A : Around} {E : Value → Shared → Prop} {i : Nat} {x : Str} {v : V} {u : Value} {Q : Unit → Shared → Prop} (I : Inv X pins σ H s) (hN : X.N.Nodup) (hi : X.N[i]? = some x) (hx : Loc X.env.scope x) (r : RelV v u)
    (h : ∀ s', Inv X pins (σ.set i (some v)) H s' → Q () s') (hf : X.fn x = true ∨ X.env.scope.names.lookup x = some .local := by first | exact .inl rfl | exact .inr rfl | assumption) : wpAny M A (storeName X.env x u) Q E s :=
  store_ok2 I hN hi hx r (fun s' I' _ => h s' I') hf
theorem Inv.call' {s' : Shared} {ch : List Addr} (I : Inv X pins σ H s) (ho : s'.os = s.os) (u : Un (frs X.stack) ch H H' s.heap s'.heap) (hok : HOk X.prog X.w H' s'.heap) (hg : AllBare s'.gens)
    (hch : ∀ b ∈ ch, (b ∈ X.ex ∨ X.s₀.heap.objs.size ≤ b) ∧ b ≠ X.env.locals ∧ (∀ x c, X.env.cells.lookup x = some c → c ≠ b) ∧ ∀ p ∈ X.pn ++ pins, p.1 ≠ b) (ht : 0 < s'.toks) : Inv X pins σ H' s' := by
  obtain ⟨h', g', d', t', o'⟩ := s'
  have e : o' = s.os := ho
  subst e
  exact I.call (g' := g') (t' := t') (d' := d') u hok hg hch ht
end
abbrev XK := Value → Option Addr → Hp → Prop
abbrev St := List (Option V)
abbrev VK := V → Hp → Prop
abbrev TE := St → Hp → VK → Prop
abbrev TT := St → Hp → (Bool → Hp → Prop) → Prop
abbrev TA := St → Hp → (List V → Hp → Prop) → Prop
structure Ends where
  nx : St → Hp → Prop
  rt : VK
  bk : St → Hp → Prop := fun _ _ => False
  ct : St → Hp → Prop := fun _ _ => False
abbrev TS := Ends → St → Hp → Prop
def EP (X : Cx) (pins : List (Addr × Obj)) (σ : St) (Q : VK) (u : Value) (s' : Shared) : Prop := ∃ v H', Inv X pins σ H' s' ∧ RelV v u ∧ Q v H'
def TP (X : Cx) (pins : List (Addr × Obj)) (σ : St) (Q : Bool → Hp → Prop) (b : Bool) (s' : Shared) : Prop := ∃ H', Inv X pins σ H' s' ∧ Q b H'
def AP (X : Cx) (pins : List (Addr × Obj)) (σ : St) (Q : List V → Hp → Prop) (us : List Value) (s' : Shared) : Prop := ∃ vs H', Inv X pins σ H' s' ∧ Vals vs us ∧ Q vs H'
def SP (X : Cx) (pins : List (Addr × Obj)) (D : Ends) (f : Flow) (s' : Shared) : Prop :=
  match f with
  | .next => ∃ σ' H', Inv X pins σ' H' s' ∧ D.nx σ' H'
  | .brk => ∃ σ' H', Inv X pins σ' H' s' ∧ D.bk σ' H'
  | .cont => ∃ σ' H', Inv X pins σ' H' s' ∧ D.ct σ' H'
  | .ret u => ∃ v σ' H', Inv X pins σ' H' s' ∧ RelV v u ∧ D.rt v H'
def PE (X : Cx) (e : Expr) (t : TE) : Prop :=
  ∀ (pins : List (Addr × Obj)) (s : Shared) (σ : St) (H : Hp) (Q : VK), Inv X pins σ H s → t σ H Q → wpAny (model X.prog X.w) X.A (eval e X.env) (EP X pins σ Q) X.xe s
def PT (X : Cx) (e : Expr) (t : TT) : Prop :=
  ∀ (pins : List (Addr × Obj)) (s : Shared) (σ : St) (H : Hp) (Q : Bool → Hp → Prop), Inv X pins σ H s → t σ H Q → wpAny (model X.prog X.w) X.A (isTrue e X.env (eval e X.env)) (TP X pins σ Q) X.xe s
def PW (X : Cx) (e : Expr) (t : TT) : Prop :=
  ∀ (whole : Sem Value) (pins : List (Addr × Obj)) (s : Shared) (σ : St) (H : Hp) (Q : Bool → Hp → Prop), Inv X pins σ H s → t σ H Q → wpAny (model X.prog X.w) X.A (isTrue e X.env whole) (TP X pins σ Q) X.xe s
theorem PW.pt {X : Cx} {e : Expr} {t : TT} (h : PW X e t) : PT X e t := h _
def PA (X : Cx) (es : List Expr) (t : TA) : Prop :=
  ∀ (pos : Pos) (pins : List (Addr × Obj)) (s : Shared) (σ : St) (H : Hp) (Q : List V → Hp → Prop), Inv X pins σ H s → t σ H Q → wpAny (model X.prog X.w) X.A (spliced (backTo pos (starEach es X.env))) (AP X pins σ Q) X.xe s
def PS (X : Cx) (st : Stmt) (t : TS) : Prop :=
  ∀ (pins : List (Addr × Obj)) (s : Shared) (σ : St) (H : Hp) (D : Ends), Inv X pins σ H s → t D σ H → wpAny (model X.prog X.w) X.A (exec st X.env) (SP X pins D) X.xe s
def PSs (X : Cx) (st : List Stmt) (t : TS) : Prop :=
  ∀ (pins : List (Addr × Obj)) (s : Shared) (σ : St) (H : Hp) (D : Ends), Inv X pins σ H s → t D σ H → wpAny (model X.prog X.w) X.A (execs st X.env) (SP X pins D) X.xe s
theorem thn {α : Type} {t : Sem α} {Q Q' : α → Shared → Prop} {M : Model} {A : Around} {E : Value → Shared → Prop} {s : Shared} (h : wpAny M A t Q E s) (hQ : ∀ a s, Q a s → Q' a s) : wpAny M A t Q' E s := wpAny_mono h hQ fun _ _ x => x
theorem thn5 {α β γ : Type} {t : Sem α} {a b c : α → Shared → β → γ → Prop} {Q : α → Shared → Prop} {M : Model} {A : Around} {E : Value → Shared → Prop} {s : Shared} (h : wpAny M A t (fun v s => ∃ x y, a v s x y ∧ b v s x y ∧ c v s x y) E s) (q : ∀ v s x y, a v s x y → b v s x y → c v s x y → Q v s) : wpAny M A t Q E s := thn h fun v s z => by
  obtain ⟨x, y, i, j, k⟩ := z
  exact q v s x y i j k
end L2
namespace L2
open PySem PySem.Spec PyProof.Rows
section
variable {X : Cx}
def tVar (i : Nat) : TE := fun σ H Q => ∃ v, σ[i]? = some (some v) ∧ Q v H
def tC (v : V) : TE := fun _ H Q => Q v H
theorem pe_var {i : Nat} {x : Str} {pos : Pos} (hN : X.N[i]? = some x) (hv : Vis X.env.scope x) (hd : (x == ("__debug__" : Str)) = false := by decide) (hcd : (x == ("__classdict__" : Str)) = false := by decide) : PE X (.Name x pos) (tVar i) := by
  intro pins s σ H Q I h
  obtain ⟨v, e, h⟩ := h
  obtain ⟨m, hn, hl⟩ := I.loc
  obtain ⟨u, r, l⟩ := hl i x v hN e hv
  have fin : EP X pins σ Q u s := ⟨v, H, I, r, h⟩
  rcases l with ⟨hk, hm⟩ | ⟨hk, c, hc, hcell⟩
  · exact wpAny_Name (wpAny_loadName_local I.ok.kind hk hn hm fin) hd
  · rcases hk with hk | hk
    · exact wpAny_Name (wpAny_loadName_cell I.ok.kind hk hc hcell fin) hd
    · exact wpAny_Name (wpAny_loadName_free I.ok.kind hk hc hcell fin hcd) hd
theorem pe_int {i j pos} : PE X (.Constant (.int i) j pos) (tC (.int i)) := fun _ _ _ H _ I h => wpAny_Constant_int ⟨.int i, H, I.tok _, ⟨_, rfl⟩, h⟩
theorem pe_bl {b j pos} : PE X (.Constant (.bool b) j pos) (tC (.bl b)) := fun _ _ _ H _ I h => Constant_bool ⟨.bl b, H, I, rfl, h⟩
theorem pe_non {j pos} : PE X (.Constant .none j pos) (tC .non) := fun _ _ _ H _ I h => Constant_none ⟨.non, H, I, rfl, h⟩
theorem pe_str {x j pos} : PE X (.Constant (.str x) j pos) (tC (.str x)) := fun _ _ _ H _ I h => Calls.Constant_str ⟨.str x, H, I.tok _, ⟨_, rfl⟩, h⟩
def Gl (X : Cx) (x : Str) : Prop := X.env.kindOf x = some .globalImplicit
theorem ld_glob {E : Value → Shared → Prop} {pins : List (Addr × Obj)} {s : Shared} {σ : St} {H : Hp} {x : Str} {u : Value} {pos : Pos} {Q : Value → Shared → Prop} (I : Inv X pins σ H s) (hg : Gl X x) (hm : X.mg x = some u) (h : Q u s)
    (hd : (x == ("__debug__" : Str)) = false := by decide) : wpAny (model X.prog X.w) X.A (eval (.Name x pos) X.env) Q E s :=
  Calls.Name_function_global I.ok.kind hg (Calls.loadGlobal_global (by rw [I.ok.glob]; exact I.mod.glob.keeps I.bk) hm h) hd
theorem ld_blt {E : Value → Shared → Prop} {pins : List (Addr × Obj)} {s : Shared} {σ : St} {H : Hp} {x : Str} {u : Value} {pos : Pos} {Q : Value → Shared → Prop} (I : Inv X pins σ H s) (hg : Gl X x) (hm : X.mg x = none) (hv : bootBuiltins x = some u) (h : Q u s)
    (hn : x ≠ "__name__" := by decide) (hd : (x == ("__debug__" : Str)) = false := by decide) : wpAny (model X.prog X.w) X.A (eval (.Name x pos) X.env) Q E s := by
  obtain ⟨mb, h1, h2⟩ := I.mod.blt
  exact Calls.Name_function_global I.ok.kind hg (Calls.loadGlobal_builtin (by rw [I.ok.glob]; exact I.mod.glob.keeps I.bk) hm (by rw [I.ok.blt]; exact h1.keeps I.bk) ((h2 x hn).trans hv) h) hd
theorem pe_glob {x : Str} {v : V} {u : Value} {pos : Pos} (hg : Gl X x) (hm : X.mg x = some u) (r : RelV v u) (hd : (x == ("__debug__" : Str)) = false := by decide) : PE X (.Name x pos) (tC v) :=
  fun _ _ _ H _ I h => ld_glob I hg hm ⟨v, H, I, r, h⟩ hd
theorem pe_bltn {x : Str} {v : V} {u : Value} {pos : Pos} (hg : Gl X x) (hm : X.mg x = none) (hv : bootBuiltins x = some u) (r : RelV v u) (hn : x ≠ "__name__" := by decide) (hd : (x == ("__debug__" : Str)) = false := by decide) : PE X (.Name x pos) (tC v) :=
  fun _ _ _ H _ I h => ld_blt I hg hm hv ⟨v, H, I, r, h⟩ hn hd
variable {a b : Expr} {ta tb : TE} {pos : Pos}
def PC (X : Cx) (op : CmpOp) (a b : Expr) (t : TE) : Prop :=
  ∀ (pins : List (Addr × Obj)) (s : Shared) (σ : St) (H : Hp) (Q : VK), Inv X pins σ H s → t σ H Q →
    wpAny (model X.prog X.w) X.A (eval a X.env) (fun v s₁ => wpAny (model X.prog X.w) X.A (eval b X.env) (fun u s₂ => wpAny (model X.prog X.w) X.A (compareOp op v u) (EP X pins σ Q) X.xe s₂) X.xe s₁) X.xe s
theorem nobehind (b : Expr) {op : CmpOp} (h : op ≠ .In) (h2 : op ≠ .NotIn) : behindInMarks op b = false := by
  have e1 : (op == CmpOp.In) = false := by cases op <;> first | rfl | exact absurd rfl h
  have e2 : (op == CmpOp.NotIn) = false := by cases op <;> first | rfl | exact absurd rfl h2
  cases b <;> simp [behindInMarks, e1, e2]
def tNotN (ta : TE) : TE := fun σ H Q => ta σ H fun x H1 => Q (.bl (!decide (x = .non))) H1
theorem RelV.none_iff {x : V} {v : Value} (r : RelV x v) : (v == Value.none) = decide (x = .non) := by
  cases x with
  | non => cases r; rfl
  | bl _ => cases r; rfl
  | int _ => obtain ⟨t, rfl⟩ := r; rfl
  | str _ => obtain ⟨t, rfl⟩ := r; rfl
  | byt _ => obtain ⟨t, rfl⟩ := r; rfl
  | flt _ => obtain ⟨t, rfl⟩ := r; rfl
  | ref _ => cases r; rfl
  | ty _ => cases r; rfl
theorem pc_notN {j pos'} (ha : PE X a ta) : PC X .IsNot a (.Constant .none j pos') (tNotN ta) := by
  intro pins s σ H Q I h
  refine thn5 (ha pins s σ H _ I h) fun v s1 x H1 I1 r1 q1 => ?_
  exact Constant_none (isnot_none_gen ⟨.bl _, H1, I1, by rw [r1.none_iff]; rfl, q1⟩)
def tB (t : TE) : TT := fun σ H Q => t σ H fun x H1 => ∃ c, x = .bl c ∧ Q c H1
theorem pt_cmp {op : CmpOp} {t : TE} (h : PC X op a b t) (h1 : behindInMarks op b = false := by first | exact nobehind _ (by decide) (by decide) | rfl) : PT X (.Compare a [op] [b] pos) (tB t) := by
  intro pins s σ H Q I hw
  refine wpAny_isTrue_Compare1 (thn (h pins s σ H _ I hw) fun v s1 h1 => thn h1 fun u s2 h2 => thn h2 fun c s3 ⟨x, H1, I1, r1, q1⟩ => ?_) h1
  obtain ⟨d, rfl, q⟩ := q1
  cases r1
  exact wpAny_truthy_bool ⟨H1, I1, q⟩
variable {tA tB' : TT} {rest : List Expr}
def tOr (t u : TT) : TT := fun σ H Q => t σ H fun c H1 => if c = true then Q true H1 else u σ H1 Q
def tNot (t : TT) : TT := fun σ H Q => t σ H fun c H1 => Q (!c) H1
theorem pw_or1 (ha : PT X a tA) : PW X (.BoolOp .Or [a] pos) tA := by
  intro wh pins s σ H Q I h
  refine isTrue_or (thn (ha pins s σ H Q I h) fun c s1 e => ?_)
  cases c with
  | false => exact isTrue_or_nil e
  | true => exact e
theorem pw_or (ha : PT X a tA) (hb : PW X (.BoolOp .Or (b :: rest) pos) tB') : PW X (.BoolOp .Or (a :: b :: rest) pos) (tOr tA tB') := by
  intro wh pins s σ H Q I h
  refine isTrue_or (thn (ha pins s σ H _ I h) fun c s1 ⟨H1, I1, q1⟩ => ?_)
  cases c with
  | true => exact ⟨H1, I1, q1⟩
  | false => exact hb wh pins s1 σ H1 Q I1 q1
theorem pt_not (ha : PT X a tA) : PT X (.UnaryOp .Not a pos) (tNot tA) := by
  intro pins s σ H Q I h
  exact isTrue_not (ha pins s σ H (fun c H1 => Q (!c) H1) I h)
def tAndV (ta tb : TE) : TE := fun σ H Q => ta σ H fun x H1 => ∃ c, x = .bl c ∧ if c = true then tb σ H1 Q else Q (.bl false) H1
def tNotV (ta : TE) : TE := fun σ H Q => ta σ H fun x H1 => ∃ c, x = .bl c ∧ Q (.bl (!c)) H1
theorem pe_one {op} {t : TE} (h : PE X a t) : PE X (.BoolOp op [a] pos) t := fun pins s σ H Q I hw => BoolOp_one (h pins s σ H Q I hw)
theorem pe_and (ha : PE X a ta) (hb : PE X (.BoolOp .And (b :: rest) pos) tb) : PE X (.BoolOp .And (a :: b :: rest) pos) (tAndV ta tb) := by
  intro pins s σ H Q I h
  refine BoolOp_and (thn5 (ha pins s σ H _ I h) fun v s1 x H1 I1 r1 q1 => ?_)
  obtain ⟨c, rfl, q1⟩ := q1
  cases r1
  refine wpAny_truthy_bool ?_
  cases c with
  | true => exact hb pins s1 σ H1 Q I1 q1
  | false => exact ⟨.bl false, H1, I1, rfl, q1⟩
theorem pe_not (ha : PE X a ta) : PE X (.UnaryOp .Not a pos) (tNotV ta) := by
  intro pins s σ H Q I h
  refine UnaryOp_ (thn5 (ha pins s σ H _ I h) fun v s1 x H1 I1 r1 q1 => ?_)
  obtain ⟨c, rfl, q1⟩ := q1
  cases r1
  exact not_of (wpAny_truthy_bool ⟨.bl (!c), H1, I1, rfl, q1⟩)
end
end L2
namespace L2
open PySem PySem.Spec PyProof.Rows
def SqL (K : PySem.W.Frag) (H : Hp) (a : Addr) (xs : List V) : Prop :=
  Rd H a (.lst xs) ∨
    ∃ (o : Obj) (its : Array Value) (n : Nat), K.lookup a = some o ∧ o.cls = .type "list" ∧ o.dict = none ∧ o.data = .seq its n ∧ its.size ≤ sizeLine ∧ Vals xs its.toList
def SqT (K : PySem.W.Frag) (H : Hp) (a : Addr) (xs : List V) : Prop :=
  Rd H a (.tup xs) ∨
    ∃ (o : Obj) (its : Array Value) (n : Nat), K.lookup a = some o ∧ o.cls = .type "tuple" ∧ o.data = .seq its n ∧ its.size ≤ sizeLine ∧ Vals xs its.toList
noncomputable def absV : Value → Option V
  | .none => some .non
  | .bool b => some (.bl b)
  | .int i _ => some (.int i)
  | .str x _ => some (.str x)
  | .bytes b _ => some (.byt b)
  | .float b _ => some (.flt b)
  | .ref a => some (.ref a)
  | .type n => some (.ty n)
  | _ => none
theorem RelV.abs {x : V} {u : Value} (r : RelV x u) : absV u = some x := by
  cases x with
  | non => cases r; rfl
  | bl _ => cases r; rfl
  | int _ => obtain ⟨t, rfl⟩ := r; rfl
  | str _ => obtain ⟨t, rfl⟩ := r; rfl
  | byt _ => obtain ⟨t, rfl⟩ := r; rfl
  | flt _ => obtain ⟨t, rfl⟩ := r; rfl
  | ref _ => cases r; rfl
  | ty _ => cases r; rfl
theorem RelV.inj {x y : V} {u : Value} (r : RelV x u) (q : RelV y u) : x = y := Option.some.inj (r.abs.symm.trans q.abs)
theorem Vals.inj : ∀ {xs ys : List V} {us : List Value}, Vals xs us → Vals ys us → xs = ys
  | _, _, _, .nil, .nil => rfl
  | _, _, _, .cons r t, .cons r' t' => by rw [r.inj r', Vals.inj t t']
section
variable {X : Cx} {pins : List (Addr × Obj)} {σ : St} {H : Hp} {s : Shared} {a : Addr} {xs ys : List V}
theorem SqL.of {K : PySem.W.Frag} (h : H a = some (.lst xs)) : SqL K H a xs := .inl (.inl h)
theorem SqT.of {K : PySem.W.Frag} (h : H a = some (.tup xs)) : SqT K H a xs := .inl (.inl h)
theorem Inv.list (I : Inv X pins σ H s) (h : SqL X.K H a xs) : ∃ its : List Value, Vals xs its ∧ PlainL s.heap a its.toArray ∧ xs.length ≤ sizeLine := by
  rcases h with h | ⟨o, its, n, hk, hc, hd, hs, hz, r⟩
  · obtain ⟨z, its, n, r, e⟩ := h.ok I.hok
    exact ⟨its, r, ⟨_, n, e, rfl, rfl, rfl⟩, z⟩
  · refine ⟨its.toList, r, ⟨o, n, I.kIn a o hk, hc, hd, by simpa using hs⟩, ?_⟩
    have e := r.length
    simp only [Array.length_toList] at e
    lia
theorem Inv.tuple (I : Inv X pins σ H s) (h : SqT X.K H a xs) : ∃ its : List Value, Vals xs its ∧ IsTup s.heap a its.toArray ∧ xs.length ≤ sizeLine := by
  rcases h with h | ⟨o, its, n, hk, hc, hs, hz, r⟩
  · obtain ⟨z, its, r, p⟩ := h.ok I.hok
    exact ⟨its, r, p, z⟩
  · refine ⟨its.toList, r, ⟨o, I.kIn a o hk, hc, n, by simpa using hs⟩, ?_⟩
    have e := r.length
    simp only [Array.length_toList] at e
    lia
theorem Inv.list_inj (I : Inv X pins σ H s) (h : SqL X.K H a xs) (h' : SqL X.K H a ys) : xs = ys := by
  obtain ⟨its, r, ⟨o, n, e, _, _, d⟩, _⟩ := I.list h
  obtain ⟨its', r', ⟨o', n', e', _, _, d'⟩, _⟩ := I.list h'
  rw [e] at e'; cases e'
  rw [d] at d'
  injection d' with d1 _
  have : its = its' := by simpa using congrArg Array.toList d1
  subst this
  exact r.inj r'
theorem Inv.tuple_inj (I : Inv X pins σ H s) (h : SqT X.K H a xs) (h' : SqT X.K H a ys) : xs = ys := by
  obtain ⟨its, r, ⟨o, e, _, n, d⟩, _⟩ := I.tuple h
  obtain ⟨its', r', ⟨o', e', _, n', d'⟩, _⟩ := I.tuple h'
  rw [e] at e'; cases e'
  rw [d] at d'
  injection d' with d1 _
  have : its = its' := by simpa using congrArg Array.toList d1
  subst this
  exact r.inj r'
end
noncomputable abbrev Cx.wish (X : Cx) (E : Value → Shared → Prop) : Cx := { X with xe := E }
abbrev Cx.nox (X : Cx) : Cx := X.wish fun _ _ => False
theorem Cx.Ok.wish {X : Cx} (ok : X.Ok) (E : Value → Shared → Prop) : (X.wish E).Ok :=
  ⟨ok.mod, ok.kind, ok.glob, ok.blt, ok.above, ok.inj, ok.has, ok.cab, ok.hd, ok.frames, ok.stk, ok.exf, ok.bs, ok.bsz, ok.noex, ok.exfs, ok.funs, ok.frf⟩
theorem Cx.Ok.unwish {X : Cx} {E : Value → Shared → Prop} (ok : (X.wish E).Ok) : X.Ok :=
  ⟨ok.mod, ok.kind, ok.glob, ok.blt, ok.above, ok.inj, ok.has, ok.cab, ok.hd, ok.frames, ok.stk, ok.exf, ok.bs, ok.bsz, ok.noex, ok.exfs, ok.funs, ok.frf⟩
section
variable {X : Cx} {pins : List (Addr × Obj)} {σ : St} {H : Hp} {s : Shared} {E : Value → Shared → Prop}
theorem Inv.wish (I : Inv X pins σ H s) (E : Value → Shared → Prop) : Inv (X.wish E) pins σ H s := ⟨I.ok.wish E, I.os, I.bare, I.base, I.loc, I.cell, I.free, I.freeC, I.pin, I.hok, I.len, I.tk⟩
theorem Inv.unwish (I : Inv (X.wish E) pins σ H s) : Inv X pins σ H s := ⟨I.ok.unwish, I.os, I.bare, I.base, I.loc, I.cell, I.free, I.freeC, I.pin, I.hok, I.len, I.tk⟩
theorem SP.unwish {D : Ends} {f : Flow} {s' : Shared} (h : SP (X.wish E) pins D f s') : SP X pins D f s' := by
  cases f with
  | next => obtain ⟨σ', H', I, q⟩ := h; exact ⟨σ', H', I.unwish, q⟩
  | brk => obtain ⟨σ', H', I, q⟩ := h; exact ⟨σ', H', I.unwish, q⟩
  | cont => obtain ⟨σ', H', I, q⟩ := h; exact ⟨σ', H', I.unwish, q⟩
  | ret u => obtain ⟨v, σ', H', I, r, q⟩ := h; exact ⟨v, σ', H', I.unwish, r, q⟩
theorem PSs.nox {st : List Stmt} {t : TS} (h : PSs X.nox st t) : PSs X st t := fun pins s σ H D I hw =>
  wpAny_mono (h pins s σ H D (I.wish _) hw) (fun _ _ q => q.unwish) fun _ _ z => False.elim z
end
section
variable {X : Cx} {st : Stmt} {rest : List Stmt} {t u : TS} {e : Expr} {te : TE} {pos : Pos}
def tNext : TS := fun D σ H => D.nx σ H
def tSeq (t u : TS) : TS := fun D σ H => t { D with nx := u D } σ H
theorem pss_nil : PSs X [] tNext := fun _ _ σ H _ I h => wpAny_execs_nil ⟨σ, H, I, h⟩
theorem pss_cons (h1 : PS X st t) (h2 : PSs X rest u) : PSs X (st :: rest) (tSeq t u) := by
  intro pins s σ H D I h
  refine wpAny_execs_cons (thn (h1 pins s σ H { D with nx := u D } I h) fun f s1 q => ?_)
  cases f with
  | next =>
    obtain ⟨σ', H', I', q⟩ := q
    exact h2 pins s1 σ' H' D I' q
  | ret v => exact q
  | brk => exact q
  | cont => exact q
theorem pss_one (h1 : PS X st t) : PSs X [st] t := by
  intro pins s σ H D I h
  refine wpAny_execs_cons (thn (h1 pins s σ H D I h) fun f s1 q => ?_)
  cases f with
  | next => exact wpAny_execs_nil q
  | ret v => exact q
  | brk => exact q
  | cont => exact q
theorem Inv.quiet {pins : List (Addr × Obj)} {σ : St} {H : Hp} {s : Shared} (I : Inv X pins σ H s) : interactive X.env = false := by simp [interactive, I.ok.kind]
def tDrop (te : TE) : TS := fun D σ H => te σ H fun _ H1 => D.nx σ H1
theorem ps_expr (he : PE X e te) (hs : swapsWith e none pos.line X.env = pure false := by rfl) : PS X (.Expr e pos) (tDrop te) := by
  intro pins s σ H D I h
  exact wpAny_Expr_any (thn5 (he pins s σ H _ I h) fun v s1 x H1 I1 r1 q1 => ⟨σ, H1, I1, q1⟩) I.quiet hs
def tRet (te : TE) : TS := fun D σ H => te σ H D.rt
theorem ps_ret (he : PE X e te) : PS X (.Return (some e) pos) (tRet te) := by
  intro pins s σ H D I h
  exact wpAny_Return_some (thn5 (he pins s σ H _ I h) fun v s1 x H1 I1 r1 q1 => ⟨x, σ, H1, I1, r1, q1⟩)
def tIfS (c : TT) (t u : TS) : TS := fun D σ H => c σ H fun b H1 => if b = true then t D σ H1 else u D σ H1
theorem ps_if {c : Expr} {a b : List Stmt} {tc : TT} (hc : PT X c tc) (ha : PSs X a t) (hb : PSs X b u) : PS X (.If c a b pos) (tIfS tc t u) := by
  intro pins s σ H D I h
  refine wpAny_If (thn (hc pins s σ H _ I h) fun d s1 ⟨H1, I1, q1⟩ => ?_)
  cases d with
  | true => exact ha pins s1 σ H1 D I1 q1
  | false => exact hb pins s1 σ H1 D I1 q1
end
abbrev TG := V → St → Hp → (St → Hp → Prop) → Prop
def PG (X : Cx) (target : Expr) (t : TG) : Prop :=
  ∀ (pins : List (Addr × Obj)) (s : Shared) (σ : St) (H : Hp) (v : V) (u : Value) (Q : St → Hp → Prop), Inv X pins σ H s → RelV v u → t v σ H Q →
    wpAny (model X.prog X.w) X.A (assign target X.env u) (fun _ s' => ∃ σ' H', Inv X pins σ' H' s' ∧ Q σ' H') X.xe s
abbrev TSet := V → V → V → Hp → (Hp → Prop) → Prop
def PSet (X : Cx) (t : TSet) : Prop :=
  ∀ (pins : List (Addr × Obj)) (s : Shared) (σ : St) (H : Hp) (o i v : V) (ov iv u : Value) (Q : Hp → Prop), Inv X pins σ H s → RelV o ov → RelV i iv → RelV v u → t o i v H Q →
    wpAny (model X.prog X.w) X.A (setItem ov iv u) (fun _ s' => ∃ H', Inv X pins σ H' s' ∧ Q H') X.xe s
section
variable {X : Cx} {pos : Pos}
def gName (i : Nat) : TG := fun v σ H Q => Q (σ.set i (some v)) H
theorem pg_name {i : Nat} {x : Str} (hN : X.N.Nodup) (hi : X.N[i]? = some x) (hx : Loc X.env.scope x) (hf : X.fn x = true ∨ X.env.scope.names.lookup x = some .local := by first | exact .inl rfl | exact .inr rfl | assumption) : PG X (.Name x pos) (gName i) := by
  intro pins s σ H v u Q I r h
  exact wpAny_assign_Name (store_ok I hN hi hx r (fun s' I' => ⟨_, H, I', h⟩) hf)
def gSub (to ti : TE) (t : TSet) : TG := fun v σ H Q => to σ H fun o H1 => ti σ H1 fun i H2 => t o i v H2 fun H3 => Q σ H3
theorem pg_sub {o i : Expr} {to ti : TE} {t : TSet} (ho : PE X o to) (hi : PE X i ti) (hs : PSet X t)
    (ha : ∀ v, assign (.Subscript o i pos) X.env v = (do
      let ov ← holding [v] (eval o X.env)
      let iv ← holding [v, ov] (eval i X.env)
      standAt pos
      holding [v, ov, iv] (setItem ov iv v)
      release [v, ov, iv] []) := by intro _; rfl) : PG X (.Subscript o i pos) (gSub to ti t) := by
  intro pins s σ H v u Q I r h
  rw [ha]
  refine wpAny_bind (wpAny_holding (thn5 (ho pins s σ H _ I h) fun ov s1 x H1 I1 r1 q1 => ?_))
  refine wpAny_bind (wpAny_holding (thn5 (hi pins s1 σ H1 _ I1 q1) fun iv s2 y H2 I2 r2 q2 => ?_))
  refine wpAny_bind (wpAny_standAt (wpAny_bind (wpAny_holding (thn (hs pins s2 σ H2 x y v ov iv u _ I2 r1 r2 r q2) fun _ s3 ⟨H3, I3, q3⟩ => ?_))))
  exact wpAny_release ⟨σ, H3, I3, q3⟩
def tAsg (te : TE) (g : TG) : TS := fun D σ H => te σ H fun x H1 => g x σ H1 D.nx
theorem ps_asg {tg e : Expr} {te : TE} {g : TG} (he : PE X e te) (hg : PG X tg g) (hs : swapsWithSole [tg] e pos.line X.env = pure false := by rfl) (hw : swappedStores [tg] e X.env = pure none := by rfl)
    (h1 : (assignEach [tg] X.env).map (·.2) = [assign tg X.env] := by rfl) : PS X (.Assign [tg] e pos) (tAsg te g) := by
  intro pins s σ H D I h
  refine wpAny_Assign_stores (thn5 (he pins s σ H _ I h) fun v s1 x H1 I1 r1 q1 => ?_) hs hw
  rw [h1]
  exact thn (hg pins s1 σ H1 x v _ I1 r1 q1) fun _ s2 q => q
theorem ps_set {i : Nat} {x : Str} {e : Expr} {te : TE} {pos' : Pos} (hN : X.N.Nodup) (hi : X.N[i]? = some x) (hx : Loc X.env.scope x) (he : PE X e te) (hs : swapsWith e (some (.Name x pos')) pos.line X.env = pure false := by rfl) (hf : X.fn x = true ∨ X.env.scope.names.lookup x = some .local := by first | exact .inl rfl | exact .inr rfl | assumption) :
    PS X (.Assign [.Name x pos'] e pos) (tAsg te (gName i)) := by
  intro pins s σ H D I h
  refine wpAny_Assign_Name (thn5 (he pins s σ H _ I h) fun v s1 y H1 I1 r1 q1 => ?_) hs
  exact store_ok I1 hN hi hx r1 (fun s2 I2 => ⟨_, H1, I2, q1⟩) hf
end
structure It where
  go : Nat → Hp → Prop
  yld : Nat → Hp → V → Hp → Prop
  stop : Nat → Hp → Prop
def FpOk (X : Cx) (pins : List (Addr × Obj)) (H : Hp) (b : Addr) : Prop :=
  H b = none ∧ b ≠ X.env.locals ∧ b ∉ X.fs ∧ (b ∈ X.ex ∨ X.s₀.heap.objs.size ≤ b) ∧ (∀ x c, X.env.cells.lookup x = some c → c ≠ b) ∧ ∀ p ∈ X.pn ++ pins, p.1 ≠ b
theorem Inv.fpOk {X : Cx} {pins : List (Addr × Obj)} {σ : St} {H H' : Hp} {s : Shared} {b : Addr} (I : Inv X pins σ H s) (hb : s.heap.objs.size ≤ b) (hn : H' b = none) : FpOk X pins H' b := by
  refine ⟨hn, Nat.ne_of_gt (Nat.lt_of_lt_of_le I.lt hb), I.nofs hb, .inr (Nat.le_trans I.sz hb), fun x c e z => ?_, fun p hp z => ?_⟩
  · obtain ⟨v, q⟩ := I.cell x c e
    exact absurd (Nat.lt_of_lt_of_le q.lt (by rw [z]; exact hb)) (Nat.lt_irrefl _)
  · exact absurd (Nat.lt_of_lt_of_le (Heap.lt_size (I.pin p hp).1) (by rw [z]; exact hb)) (Nat.lt_irrefl _)
structure Turn (P : Program) (w : World) (K : PySem.W.Frag) (tg : Expr) (J : It) (fp : List Addr) (it : Addr) (tn : Nat → Heap → Prop) : Prop where
  mem : it ∈ fp
  obj : ∀ i h, tn i h → ∀ b ∈ fp, ∃ o, h.get? b = some o ∧ ∀ v, o.data ≠ .cell v
  keep : ∀ i h h', tn i h → (∀ b ∈ fp, ∀ o, h.get? b = some o → h'.get? b = some o) → tn i h'
  item : ∀ (X : Cx), X.prog = P → X.w = w → X.K = K → X.calm = true → ∀ (i : Nat) (pins : List (Addr × Obj)) (s : Shared) (σ : St) (H : Hp) (E : Value → Shared → Prop), Inv X pins σ H s → (∀ b ∈ fp, FpOk X pins H b) → tn i s.heap → J.go i H →
    wpAny (model P w) X.A (pyNext (.ref it)) (fun r s1 => ∃ u, r = some u ∧
      wpAny (model P w) X.A (letOwnedTupleGo tg (.ref it) u) (fun _ s2 => ∃ x H', Inv X pins σ H' s2 ∧ RelV x u ∧ J.yld i H x H' ∧ tn (i + 1) s2.heap ∧ ∀ b ∈ fp, H' b = none) E s1) E s
  done : ∀ (X : Cx), X.prog = P → X.w = w → X.K = K → X.calm = true → ∀ (i : Nat) (pins : List (Addr × Obj)) (s : Shared) (σ : St) (H : Hp) (E : Value → Shared → Prop), Inv X pins σ H s → (∀ b ∈ fp, FpOk X pins H b) → tn i s.heap → J.stop i H →
    wpAny (model P w) X.A (pyNext (.ref it)) (fun r s1 => r = none ∧ Inv X pins σ H s1) E s
  self : ∀ (A : Around) (i : Nat) (s : Shared) (Q : Value → Shared → Prop) (E : Value → Shared → Prop), tn i s.heap → Q (.ref it) s → wpAny (model P w) A (pyIter (.ref it)) Q E s
abbrev TI := St → Hp → (It → Hp → Prop) → Prop
def PIE (X : Cx) (pins : List (Addr × Obj)) (σ : St) (tg : Expr) (R : It → Hp → Prop) (itv : Value) (s2 : Shared) : Prop :=
  ∃ (it : Addr) (fp : List Addr) (tn : Nat → Heap → Prop) (J : It) (H' : Hp), itv = .ref it ∧ Inv X pins σ H' s2 ∧ Turn X.prog X.w X.K tg J fp it tn ∧ tn 0 s2.heap ∧ (∀ b ∈ fp, FpOk X pins H' b) ∧ R J H'
def PI (X : Cx) (tg iter : Expr) (wi : TI) : Prop :=
  ∀ (pins : List (Addr × Obj)) (s : Shared) (σ : St) (H : Hp) (R : It → Hp → Prop), Inv X pins σ H s → wi σ H R →
    wpAny (model X.prog X.w) X.A (eval iter X.env) (fun v s1 => wpAny (model X.prog X.w) X.A (pyIter v) (PIE X pins σ tg R) X.xe s1) X.xe s
theorem go_of {M : Model} {A : Around} {E : Value → Shared → Prop} {s : Shared} {tg : Expr} {it : Addr} {u : Value} {o : Obj} {n : String} {vs : Array Value} {Q : Unit → Shared → Prop} (ho : s.heap.get? it = some o) (hc : o.cls = .type n) (hd : o.data = .fields vs)
    (hn : ["enumerate", "zip", "dict_itemiterator", "dict_reverseitemiterator", "odict_iterator", "itertools.zip_longest", "itertools.pairwise"].contains n = false) (hQ : Q () s) : wpAny M A (letOwnedTupleGo tg (.ref it) u) Q E s := by
  unfold letOwnedTupleGo
  cases tg <;> first
    | exact wpAny_pure hQ
    | (cases u <;> first
        | exact wpAny_pure hQ
        | (refine wpAny_bind (wpAny_load ho ?_)
           rw [hc, hd]
           show wpAny M A (if (["enumerate", "zip", "dict_itemiterator", "dict_reverseitemiterator", "odict_iterator", "itertools.zip_longest", "itertools.pairwise"].contains n && vs[0]? == some (rawInt _)) = true then _ else _) Q E s
           rw [if_neg (by intro h; rw [hn, Bool.false_and] at h; cases h)]
           exact wpAny_pure hQ))
noncomputable def Itl (K : PySem.W.Frag) (a : Addr) : It :=
  ⟨fun i H => ∃ xs x, SqL K H a xs ∧ xs[i]? = some x, fun i H x H' => H' = H ∧ ∀ xs, SqL K H a xs → xs[i]? = some x, fun i H => ∃ xs, SqL K H a xs ∧ xs.length ≤ i⟩
noncomputable def Itt (K : PySem.W.Frag) (a : Addr) : It :=
  ⟨fun i H => ∃ xs x, SqT K H a xs ∧ xs[i]? = some x, fun i H x H' => H' = H ∧ ∀ xs, SqT K H a xs → xs[i]? = some x, fun i H => ∃ xs, SqT K H a xs ∧ xs.length ≤ i⟩
noncomputable def Itr (lo : Int) (n : Nat) : It := ⟨fun i _ => i < n, fun i H x H' => H' = H ∧ x = .int (lo + i), fun i _ => n ≤ i⟩
theorem turn_list {P : Program} {w : World} {K : PySem.W.Frag} {tg : Expr} (a it : Addr) : Turn P w K tg (Itl K a) [it] it (fun i h => h.IsListIter it a i) where
  mem := by simp
  obj := fun i h st b hb => by
    have e : b = it := by simpa using hb
    subst e
    obtain ⟨o, e, c, d⟩ := st
    exact ⟨o, e, fun v z => by rw [d] at z; cases z⟩
  keep := fun i h h' st k => st.at fun o e => k it (by simp) o e
  item := by
    intro X hP hw hK hc i pins s σ H E I hf st hg
    subst hP hw hK
    obtain ⟨xs, x, hq, hx⟩ := hg
    obtain ⟨its, rv, p, hz⟩ := I.list hq
    obtain ⟨u, hu, ru⟩ := rv.get hx
    obtain ⟨f0, f1, f2, f3, f4, f5⟩ := hf it (by simp)
    refine wpAny_pyNext_list_item st p.isList (x := u) (by simpa using hu) fun h' st' sb => ?_
    have I1 : Inv X pins σ H { s with heap := h' } := I.turned (t' := s.toks) (fun b o hb e => (sb.2 b hb).trans e) f0 f1 f3 f4 f5
    obtain ⟨o, e, c, d⟩ := id st'
    exact ⟨u, rfl, go_of (s := { s with heap := h' }) e c d (by decide) ⟨x, H, I1, ru, ⟨rfl, fun ys hy => by rw [I.list_inj hy hq]; exact hx⟩, st', fun b hb => (hf b hb).1⟩⟩
  done := by
    intro X hP hw hK hc i pins s σ H E I hf st hg
    subst hP hw hK
    obtain ⟨xs, hq, hx⟩ := hg
    obtain ⟨its, rv, p, hz⟩ := I.list hq
    obtain ⟨f0, f1, f2, f3, f4, f5⟩ := hf it (by simp)
    have hl := rv.length
    exact wpAny_pyNext_list_end (I.ok.hd hc) st p.isList (by simp; lia) fun h' eb => ⟨rfl, I.turned (t' := s.toks) (fun b o hb e => eb b o hb e) f0 f1 f3 f4 f5⟩
  self := fun _ _ _ _ _ st h => wpAny_pyIter_listiter st h
theorem turn_tuple {P : Program} {w : World} {K : PySem.W.Frag} {tg : Expr} (a it : Addr) : Turn P w K tg (Itt K a) [it] it (fun i h => h.IsTupleIter it a i) where
  mem := by simp
  obj := fun i h st b hb => by
    have e : b = it := by simpa using hb
    subst e
    obtain ⟨o, e, c, d⟩ := st
    exact ⟨o, e, fun v z => by rw [d] at z; cases z⟩
  keep := fun i h h' st k => st.at fun o e => k it (by simp) o e
  item := by
    intro X hP hw hK hc i pins s σ H E I hf st hg
    subst hP hw hK
    obtain ⟨xs, x, hq, hx⟩ := hg
    obtain ⟨its, rv, p, hz⟩ := I.tuple hq
    obtain ⟨u, hu, ru⟩ := rv.get hx
    obtain ⟨f0, f1, f2, f3, f4, f5⟩ := hf it (by simp)
    refine wpAny_pyNext_tuple_item st (show s.heap.IsTuple a its.toArray from p) (x := u) (by simpa using hu) fun h' st' sb => ?_
    have I1 : Inv X pins σ H { s with heap := h' } := I.turned (t' := s.toks) (fun b o hb e => (sb.2 b hb).trans e) f0 f1 f3 f4 f5
    obtain ⟨o, e, c, d⟩ := id st'
    exact ⟨u, rfl, go_of (s := { s with heap := h' }) e c d (by decide) ⟨x, H, I1, ru, ⟨rfl, fun ys hy => by rw [I.tuple_inj hy hq]; exact hx⟩, st', fun b hb => (hf b hb).1⟩⟩
  done := by
    intro X hP hw hK hc i pins s σ H E I hf st hg
    subst hP hw hK
    obtain ⟨xs, hq, hx⟩ := hg
    obtain ⟨its, rv, p, hz⟩ := I.tuple hq
    obtain ⟨f0, f1, f2, f3, f4, f5⟩ := hf it (by simp)
    have hl := rv.length
    exact wpAny_pyNext_tuple_end (I.ok.hd hc) st (show s.heap.IsTuple a its.toArray from p) (by simp; lia) fun h' eb => ⟨rfl, I.turned (t' := s.toks) (fun b o hb e => eb b o hb e) f0 f1 f3 f4 f5⟩
  self := fun _ _ _ _ _ st h => wpAny_pyIter_tupleiter st h
theorem turn_range {P : Program} {w : World} {K : PySem.W.Frag} {tg : Expr} (it : Addr) (lo : Int) (n : Nat) : Turn P w K tg (Itr lo n) [it] it (fun i h => IsRangeIter h it (lo + (i : Nat) * 1) ((n : Int) - (i : Nat)) 1) where
  mem := by simp
  obj := fun i h st b hb => by
    have e : b = it := by simpa using hb
    subst e
    exact ⟨_, st, fun v z => by
      have z' : Data.fields _ = Data.cell v := z
      cases z'⟩
  keep := fun i h h' st k => k it (by simp) _ st
  item := by
    intro X hP hw hK hc i pins s σ H E I hf st hg
    subst hP hw hK
    obtain ⟨f0, f1, f2, f3, f4, f5⟩ := hf it (by simp)
    have W := Walks.range (prog := X.prog) (w := X.w) (I.ok.hd hc) it lo 1 n
    refine wpAny_with_toks (n := 1) I.tk (W.item i s _ _ hg st fun v h' tk hv st' kk htk => ?_)
    obtain ⟨t, rfl⟩ := hv
    have I1 : Inv X pins σ H { s with heap := h', toks := tk } := I.turned (fun b o hb e => kk b o (by simpa using hb) e) f0 f1 f3 f4 f5
    refine ⟨_, rfl, go_of (s := { s with heap := h', toks := tk }) (n := "range_iterator") st' rfl rfl (by decide) ⟨.int (lo + i), H, I1, ⟨t, ?_⟩, ⟨rfl, rfl⟩, st', fun b hb => (hf b hb).1⟩⟩
    rw [Int.mul_one]
  done := by
    intro X hP hw hK hc i pins s σ H E I hf st hg
    subst hP hw hK
    obtain ⟨f0, f1, f2, f3, f4, f5⟩ := hf it (by simp)
    exact wpAny_pyNext_range_end (I.ok.hd hc) st (by have : n ≤ i := hg; lia) fun h' eb => ⟨rfl, I.turned (t' := s.toks) (fun b o hb e => eb b o hb e) f0 f1 f3 f4 f5⟩
  self := fun _ _ _ _ _ st h => wpAny_pyIter_rangeiter st h
end L2
namespace L2
open PySem PySem.Spec PyProof.Rows
section
variable {X : Cx} {tg : Expr}
def iList (K : PySem.W.Frag) (tl : TE) : TI := fun σ H R => tl σ H fun x H1 => ∃ a, x = .ref a ∧ (∃ xs, SqL K H1 a xs) ∧ R (Itl K a) H1
def iTup (K : PySem.W.Frag) (tl : TE) : TI := fun σ H R => tl σ H fun x H1 => ∃ a, x = .ref a ∧ (∃ xs, SqT K H1 a xs) ∧ R (Itt K a) H1
theorem pi_list {l : Expr} {tl : TE} (hl : PE X l tl) : PI X tg l (iList X.K tl) := by
  intro pins s σ H R I h
  refine thn5 (hl pins s σ H _ I h) fun v s1 x H1 I1 r1 q1 => ?_
  obtain ⟨a, e, ⟨xs, hq⟩, q⟩ := q1
  subst e
  cases r1
  obtain ⟨its, rv, p, hz⟩ := I1.list hq
  refine wpAny_pyIter_list p.isList ?_
  refine ⟨s1.heap.objs.size, [s1.heap.objs.size], _, _, H1, rfl, I1.kept (t' := s1.toks) fun b o e => Heap.get?_push_of_some _ e, turn_list a _, ⟨_, Heap.get?_push_size _ rfl, rfl, rfl⟩, fun b hb => ?_, q⟩
  have e : b = s1.heap.objs.size := by simpa using hb
  subst e
  exact I1.fpOk (Nat.le_refl _) (I1.hok.fresh (Nat.le_refl _))
theorem pi_tup {l : Expr} {tl : TE} (hl : PE X l tl) : PI X tg l (iTup X.K tl) := by
  intro pins s σ H R I h
  refine thn5 (hl pins s σ H _ I h) fun v s1 x H1 I1 r1 q1 => ?_
  obtain ⟨a, e, ⟨xs, hq⟩, q⟩ := q1
  subst e
  cases r1
  obtain ⟨its, rv, p, hz⟩ := I1.tuple hq
  refine wpAny_pyIter_tuple (show s1.heap.IsTuple a its.toArray from p) ?_
  refine ⟨s1.heap.objs.size, [s1.heap.objs.size], _, _, H1, rfl, I1.kept (t' := s1.toks) fun b o e => Heap.get?_push_of_some _ e, turn_tuple a _, ⟨_, Heap.get?_push_size _ rfl, rfl, rfl⟩, fun b hb => ?_, q⟩
  have e : b = s1.heap.objs.size := by simpa using hb
  subst e
  exact I1.fpOk (Nat.le_refl _) (I1.hok.fresh (Nat.le_refl _))
theorem range_it {pins : List (Addr × Obj)} {σ : St} {H : Hp} {s : Shared} {R : It → Hp → Prop} {E : Value → Shared → Prop} {lo hi : Int} {t u v : Tok} {tk : Nat} (I : Inv X pins σ H s) (h1 : -(2 ^ 62) ≤ lo) (h2 : lo < 2 ^ 62) (h3 : -(2 ^ 62) ≤ hi) (h4 : hi < 2 ^ 62)
    (q : R (Itr lo (hi - lo).toNat) H) (htk : 0 < tk := by first | exact Nat.succ_pos _ | assumption | exact Inv.tk (by assumption) | lia) : wpAny (model X.prog X.w) X.A (pyIter (.ref s.heap.objs.size)) (PIE X pins σ tg R) E { s with heap := s.heap.push { cls := .type "range", data := .fields #[.int lo t, .int hi u, .int 1 v] }, toks := tk } := by
  refine wpAny_pyIter_range (IsRange.new ..) (small_one h1 h2 h3 h4) ?_
  have I1 : Inv X pins σ H { s with heap := s.heap.push { cls := .type "range", data := .fields #[.int lo t, .int hi u, .int 1 v] }, toks := tk } := I.kept fun b o e => Heap.get?_push_of_some _ e
  refine ⟨(s.heap.push { cls := .type "range", data := .fields #[.int lo t, .int hi u, .int 1 v] }).objs.size, [(s.heap.push { cls := .type "range", data := .fields #[.int lo t, .int hi u, .int 1 v] }).objs.size], _, _, H, rfl,
    I1.kept (t' := tk) fun b o e => Heap.get?_push_of_some _ e, turn_range _ lo (hi - lo).toNat, ?_, fun b hb => ?_, q⟩
  · have e1 : lo + ((0 : Nat) : Int) * 1 = lo := by simp
    have e2 : (((hi - lo).toNat : Nat) : Int) - ((0 : Nat) : Int) = Builtin.Range.rangeSize lo hi 1 := by rw [rangeSize_one]; split <;> lia
    show IsRangeIter _ _ (lo + ((0 : Nat) : Int) * 1) ((((hi - lo).toNat : Nat) : Int) - ((0 : Nat) : Int)) 1
    rw [e1, e2]
    exact Heap.get?_push_size _ rfl
  · have e : b = (s.heap.push { cls := .type "range", data := .fields #[.int lo t, .int hi u, .int 1 v] }).objs.size := by simpa using hb
    subst e
    exact I1.fpOk (Nat.le_refl _) (I1.hok.fresh (Nat.le_refl _))
def iRng1 (ta : TA) : TI := fun σ H R => ta σ H fun vs H1 => ∃ j : Int, vs = [.int j] ∧ -(2 ^ 62) ≤ j ∧ j < 2 ^ 62 ∧ R (Itr 0 j.toNat) H1
theorem pi_range1 {a : Expr} {ta : TA} {p pos : Pos} (hg : Gl X "range") (hm : X.mg "range" = none) (ha : PA X [a] ta) (hs : starEach [a] X.env = [(false, eval a X.env)] := by rfl) : PI X tg (.Call (.Name "range" p) [a] [] pos) (iRng1 ta) := by
  intro pins s σ H R I h
  refine Call_ (ld_blt I hg hm boot_range (PyProof.Rows.callWith_type1 (thn5 (ha pos pins s σ H _ I h) fun us s1 vs H1 I1 r1 q1 => ?_) hs rfl))
  obtain ⟨j, e, q1, q2, q⟩ := q1
  subst e
  cases r1 with
  | cons r rr =>
    cases rr
    obtain ⟨t, rfl⟩ := r
    exact call_range_1 (range_it I1 (by lia) (by lia) q1 q2 (by simpa using q))
def tFor (wi : TI) (g : TG) (tb : TS) : TS := fun D σ H => wi σ H fun J H1 => ∃ W : Nat → Nat → St → Hp → Prop, (∃ m, W 0 m σ H1) ∧ ∀ i m σ H, W i m σ H →
  (J.stop i H ∧ D.nx σ H) ∨ (J.go i H ∧ ∃ N : St → Hp → Prop, (∀ σ' H', N σ' H' → ∃ m', m' < m ∧ W (i + 1) m' σ' H') ∧ ∀ x H', J.yld i H x H' → g x σ H' fun σ2 H2 => tb { D with nx := N, ct := N, bk := D.nx } σ2 H2)
noncomputable def pinsAt (fp : List Addr) (h : Heap) : List (Addr × Obj) := fp.filterMap fun b => (h.get? b).map fun o => (b, o)
theorem mem_pinsAt {fp : List Addr} {h : Heap} {b : Addr} {o : Obj} (hb : b ∈ fp) (e : h.get? b = some o) : (b, o) ∈ pinsAt fp h := List.mem_filterMap.mpr ⟨b, hb, by rw [e]; rfl⟩
theorem of_pinsAt {fp : List Addr} {h : Heap} {p : Addr × Obj} (hp : p ∈ pinsAt fp h) : p.1 ∈ fp ∧ h.get? p.1 = some p.2 := by
  obtain ⟨b, hb, e⟩ := List.mem_filterMap.mp hp
  cases q : h.get? b with
  | none => rw [q] at e; cases e
  | some o =>
    rw [q] at e
    have e' : (b, o) = p := Option.some.inj e
    subst e'
    exact ⟨hb, q⟩
theorem Inv.pinned {pins : List (Addr × Obj)} {σ : St} {H : Hp} {s : Shared} {fp : List Addr} (I : Inv X pins σ H s) (hf : ∀ b ∈ fp, FpOk X pins H b) (ho : ∀ b ∈ fp, ∃ o, s.heap.get? b = some o ∧ ∀ v, o.data ≠ .cell v) : Inv X (pins ++ pinsAt fp s.heap) σ H s :=
  I.pins_of fun p hp => (List.mem_append.mp hp).elim (fun z => I.pin p (List.mem_append_right _ z)) fun z => by
    obtain ⟨hb, e⟩ := of_pinsAt z
    obtain ⟨f0, f1, f2, _⟩ := hf p.1 hb
    obtain ⟨o, e', d⟩ := ho p.1 hb
    rw [e] at e'; cases e'
    exact ⟨e, f0, f1, f2, d⟩
theorem Inv.unpinned {pins pl : List (Addr × Obj)} {σ : St} {H : Hp} {s : Shared} (I : Inv X (pins ++ pl) σ H s) : Inv X pins σ H s := I.pins_of fun p hp => I.pin p (List.mem_append_right _ (List.mem_append_left _ hp))
theorem ps_for {iter : Expr} {body : List Stmt} {wi : TI} {g : TG} {tb : TS} {pos : Pos} (hp : PassesOwn (model X.prog X.w) X.A X.env X.xe) (hc : X.calm = true) (hi : PI X tg iter wi) (hg : PG X tg g) (hb : PSs X body tb)
    (hs : ∀ x, foldedSetIterable iter X.env x = pure x := by intro _; rfl) : PS X (.For tg iter body [] pos) (tFor wi g tb) := by
  intro pins s σ H D I h
  refine wpAny_For (thn (hi pins s σ H _ I h) fun v s1 h1 => thn h1 fun itv s2 h2 => ?_) hs
  obtain ⟨it, fp, tn, J, H2, e, I2, T, st2, f2, W, ⟨m0, w0⟩, turn⟩ := h2
  subst e
  have stat : ∀ {H' : Hp}, (∀ b ∈ fp, H' b = none) → ∀ b ∈ fp, FpOk X pins H' b := fun hn b hb => ⟨hn b hb, (f2 b hb).2⟩
  refine codeAny_forLoop_any (fun n s' => ∃ i σ' H', Inv X pins σ' H' s' ∧ tn i s'.heap ∧ (∀ b ∈ fp, H' b = none) ∧ W i n σ' H') ?_ m0 ⟨0, σ, H2, I2, st2, fun b hb => (f2 b hb).1, w0⟩
  rintro n s3 ⟨i, σ3, H3, I3, st3, fr3, w3⟩
  rcases turn i n σ3 H3 w3 with ⟨stop, qn⟩ | ⟨go, N, hN, step⟩
  · refine wpAny_passesOwn hp (thn (T.done X rfl rfl rfl hc i pins s3 σ3 H3 X.xe I3 (stat fr3) st3 stop) fun r s4 ⟨hr, I4⟩ => ?_)
    subst hr
    exact wpAny_execs_nil ⟨σ3, H3, I4, qn⟩
  · refine wpAny_passesOwn hp (thn (T.item X rfl rfl rfl hc i pins s3 σ3 H3 X.xe I3 (stat fr3) st3 go) fun r s4 ⟨u, hr, h4⟩ => ?_)
    subst hr
    refine wpAny_passesOwn hp (thn h4 fun _ s5 ⟨x, H5, I5, r5, y5, st5, fr5⟩ => ?_)
    have I5' := I5.pinned (stat fr5) (T.obj _ _ st5)
    refine wpAny_passesOwn hp (thn (hg _ s5 σ3 H5 x u _ I5' r5 (step x H5 y5)) fun _ s6 ⟨σ6, H6, I6, q6⟩ => ?_)
    refine wpAny_passesOwn hp (thn (hb _ s6 σ6 H6 _ I6 q6) fun f s7 q7 => ?_)
    have again : ∀ {σ7 : St} {H7 : Hp}, Inv X (pins ++ pinsAt fp s5.heap) σ7 H7 s7 → N σ7 H7 → ∃ m, m < n ∧ ∃ i σ' H', Inv X pins σ' H' s7 ∧ tn i s7.heap ∧ (∀ b ∈ fp, H' b = none) ∧ W i m σ' H' := fun {σ7 H7} I7 n7 => by
      obtain ⟨m', hm, w7⟩ := hN σ7 H7 n7
      refine ⟨m', hm, i + 1, σ7, H7, I7.unpinned, T.keep _ _ _ st5 fun b hb o e => (I7.pin (b, o) (List.mem_append_right _ (List.mem_append_right _ (mem_pinsAt hb e)))).1, fun b hb => ?_, w7⟩
      obtain ⟨o, e, d⟩ := T.obj _ _ st5 b hb
      exact (I7.pin (b, o) (List.mem_append_right _ (List.mem_append_right _ (mem_pinsAt hb e)))).2.1
    cases f with
    | next => obtain ⟨σ7, H7, I7, n7⟩ := q7; exact again I7 n7
    | cont => obtain ⟨σ7, H7, I7, n7⟩ := q7; exact again I7 n7
    | brk => obtain ⟨σ7, H7, I7, q7⟩ := q7; exact ⟨σ7, H7, I7.unpinned, q7⟩
    | ret v => obtain ⟨x7, σ7, H7, I7, r7, q7⟩ := q7; exact ⟨x7, σ7, H7, I7.unpinned, r7, q7⟩
end
end L2
namespace L2
open PySem PySem.Spec PyProof.Rows
abbrev R2 := V → V → Hp → VK → Prop
def OpR (X : Cx) (f : Value → Value → Sem Value) (r : R2) : Prop :=
  ∀ (pins : List (Addr × Obj)) (s : Shared) (σ : St) (H : Hp) (x y : V) (v u : Value) (Q : VK), Inv X pins σ H s → RelV x v → RelV y u → r x y H Q →
    wpAny (model X.prog X.w) X.A (f v u) (EP X pins σ Q) X.xe s
def UnR (X : Cx) (f : Value → Sem Value) (r : V → Hp → VK → Prop) : Prop :=
  ∀ (pins : List (Addr × Obj)) (s : Shared) (σ : St) (H : Hp) (x : V) (v : Value) (Q : VK), Inv X pins σ H s → RelV x v → r x H Q →
    wpAny (model X.prog X.w) X.A (f v) (EP X pins σ Q) X.xe s
def CallR (X : Cx) (f : Value) (r : List V → Hp → VK → Prop) : Prop :=
  ∀ (pins : List (Addr × Obj)) (s : Shared) (σ : St) (H : Hp) (xs : List V) (us : List Value) (Q : VK), Inv X pins σ H s → Vals xs us → r xs H Q →
    wpAny (model X.prog X.w) X.A (call f us) (EP X pins σ Q) X.xe s
def TruR (X : Cx) (r : V → Hp → (Bool → Hp → Prop) → Prop) : Prop :=
  ∀ (pins : List (Addr × Obj)) (s : Shared) (σ : St) (H : Hp) (x : V) (v : Value) (Q : Bool → Hp → Prop), Inv X pins σ H s → RelV x v → r x H Q →
    wpAny (model X.prog X.w) X.A (truthy v) (TP X pins σ Q) X.xe s
def tOp (r : R2) (ta tb : TE) : TE := fun σ H Q => ta σ H fun x H1 => tb σ H1 fun y H2 => r x y H2 Q
def tUn (r : V → Hp → VK → Prop) (ta : TE) : TE := fun σ H Q => ta σ H fun x H1 => r x H1 Q
def rI (C : Int → Int → Prop) (g : Int → Int → V) : R2 := fun x y H Q => ∃ i j, x = .int i ∧ y = .int j ∧ C i j ∧ Q (g i j) H
def rI0 (g : Int → Int → V) : R2 := fun x y H Q => ∃ i j, x = .int i ∧ y = .int j ∧ Q (g i j) H
noncomputable def rU (g : Int → V) : V → Hp → VK → Prop := fun x H Q => ∃ i, x = .int i ∧ Q (g i) H
section
variable {X : Cx} {a b c : Expr} {ta tb tc : TE} {pos : Pos}
theorem binT (ha : PE X a ta) (hb : PE X b tb) {pins : List (Addr × Obj)} {s : Shared} {σ : St} {H : Hp} {R : V → V → Hp → Prop} (I : Inv X pins σ H s)
    (h : ta σ H fun x H1 => tb σ H1 fun y H2 => R x y H2) {Q : Value → Shared → Prop} {f : Value → Value → Sem Value}
    (hf : ∀ v u s2 x y H2, Inv X pins σ H2 s2 → RelV x v → RelV y u → R x y H2 → wpAny (model X.prog X.w) X.A (f v u) Q X.xe s2) :
    wpAny (model X.prog X.w) X.A (eval a X.env) (fun v s₁ => wpAny (model X.prog X.w) X.A (eval b X.env) (fun u s₂ => wpAny (model X.prog X.w) X.A (f v u) Q X.xe s₂) X.xe s₁) X.xe s := by
  refine thn5 (ha pins s σ H _ I h) fun v s1 x H1 I1 r1 q1 => ?_
  refine thn5 (hb pins s1 σ H1 _ I1 q1) fun u s2 y H2 I2 r2 q2 => ?_
  exact hf v u s2 x y H2 I2 r1 r2 q2
theorem pe_op {op : Operator} {r : R2} (ho : OpR X (binaryOp op) r) (ha : PE X a ta) (hb : PE X b tb) : PE X (.BinOp a op b pos) (tOp r ta tb) := by
  intro pins s σ H Q I h
  exact wpAny_BinOp (binT ha hb I h fun v u s2 x y H2 I2 rx ry q => ho pins s2 σ H2 x y v u Q I2 rx ry q)
theorem pe_un {op : UnaryOp} {r : V → Hp → VK → Prop} (ho : UnR X (unaryOp op) r) (ha : PE X a ta) : PE X (.UnaryOp op a pos) (tUn r ta) := by
  intro pins s σ H Q I h
  exact UnaryOp_ (thn5 (ha pins s σ H _ I h) fun v s1 x H1 I1 r1 q1 => ho pins s1 σ H1 x v Q I1 r1 q1)
theorem opI {f : Value → Value → Sem Value} {C : Int → Int → Prop} {g : Int → Int → Int}
    (rule : ∀ (i j : Int) (t u : Tok) (s : Shared) (Q : Value → Shared → Prop) (E : Value → Shared → Prop), C i j → Q (.int (g i j) s.toks) { s with toks := s.toks + 1 } → wpAny (model X.prog X.w) X.A (f (.int i t) (.int j u)) Q E s) :
    OpR X f (rI C fun i j => .int (g i j)) := by
  intro pins s σ H x y v u Q I rx ry h
  obtain ⟨i, j, rfl, rfl, hc, q⟩ := h
  obtain ⟨t, rfl⟩ := rx
  obtain ⟨t', rfl⟩ := ry
  exact rule i j t t' s _ _ hc ⟨.int (g i j), H, I.tok _, ⟨_, rfl⟩, q⟩
theorem opI0 {f : Value → Value → Sem Value} {g : Int → Int → Int}
    (rule : ∀ (i j : Int) (t u : Tok) (s : Shared) (Q : Value → Shared → Prop) (E : Value → Shared → Prop), Q (.int (g i j) s.toks) { s with toks := s.toks + 1 } → wpAny (model X.prog X.w) X.A (f (.int i t) (.int j u)) Q E s) :
    OpR X f (rI0 fun i j => .int (g i j)) := by
  intro pins s σ H x y v u Q I rx ry h
  obtain ⟨i, j, rfl, rfl, q⟩ := h
  obtain ⟨t, rfl⟩ := rx
  obtain ⟨t', rfl⟩ := ry
  exact rule i j t t' s _ _ ⟨.int (g i j), H, I.tok _, ⟨_, rfl⟩, q⟩
theorem opB0 {f : Value → Value → Sem Value} {g : Int → Int → Bool}
    (rule : ∀ (i j : Int) (t u : Tok) (s : Shared) (Q : Value → Shared → Prop) (E : Value → Shared → Prop), Q (.bool (g i j)) s → wpAny (model X.prog X.w) X.A (f (.int i t) (.int j u)) Q E s) :
    OpR X f (rI0 fun i j => .bl (g i j)) := by
  intro pins s σ H x y v u Q I rx ry h
  obtain ⟨i, j, rfl, rfl, q⟩ := h
  obtain ⟨t, rfl⟩ := rx
  obtain ⟨t', rfl⟩ := ry
  exact rule i j t t' s _ _ ⟨.bl (g i j), H, I, rfl, q⟩
def CDiv (i j : Int) : Prop := 0 < j ∧ j < 1073741824
def CPow (i j : Int) : Prop := 0 ≤ j ∧ j ≤ 1000000 ∧ i.natAbs < 2 ^ 64
theorem op_add : OpR X (binaryOp .Add) (rI0 fun i j => .int (i + j)) := opI0 fun _ _ _ _ _ _ _ q => add_int q
theorem op_sub : OpR X (binaryOp .Sub) (rI0 fun i j => .int (i - j)) := opI0 fun _ _ _ _ _ _ _ q => sub_int q
theorem op_fdiv : OpR X (binaryOp .FloorDiv) (rI CDiv fun i j => .int (i / j)) := opI fun i j _ _ _ _ _ hc q => by
  have h1 : (0 : Int) < j := hc.1
  have h2 : j < 1073741824 := hc.2
  exact floordiv_int (by lia) (by rw [Int.fdiv_eq_ediv_of_nonneg i (by lia)]; exact q) (.inl (PyProof.noPylong_small (by lia)))
theorem op_mod : OpR X (binaryOp .Mod) (rI (fun _ j => 0 < j) fun i j => .int (i % j)) := opI fun i j _ _ _ _ _ hc q => by
  have h1 : (0 : Int) < j := hc
  exact mod_int' (by lia) (by rw [Int.fmod_eq_emod_of_nonneg i (by lia)]; exact q)
theorem op_pow : OpR X (binaryOp .Pow) (rI CPow fun i j => .int (i ^ j.toNat)) := opI fun _ _ _ _ _ _ _ hc q => pow_int_small hc.1 hc.2.1 hc.2.2 q
theorem unI {f : Value → Sem Value} {g : Int → Int}
    (rule : ∀ (i : Int) (t : Tok) (s : Shared) (Q : Value → Shared → Prop) (E : Value → Shared → Prop), Q (.int (g i) s.toks) { s with toks := s.toks + 1 } → wpAny (model X.prog X.w) X.A (f (.int i t)) Q E s) :
    UnR X f (rU fun i => .int (g i)) := by
  intro pins s σ H x v Q I rx h
  obtain ⟨i, rfl, q⟩ := h
  obtain ⟨t, rfl⟩ := rx
  exact rule i t s _ _ ⟨.int (g i), H, I.tok _, ⟨_, rfl⟩, q⟩
theorem un_neg : UnR X (unaryOp .USub) (rU fun i => .int (-i)) := unI fun _ _ _ _ _ q => neg_int q
end
noncomputable def scal : V → V → Bool
  | .non, .non => true | .non, .int _ => true | .int _, .non => true | .non, .bl _ => true | .bl _, .non => true | .non, .str _ => true | .str _, .non => true
  | .int _, .int _ => true | .bl _, .bl _ => true | .str _, .str _ => true | .byt _, .byt _ => true
  | .int _, .str _ => true | .str _, .int _ => true | .bl _, .str _ => true | .str _, .bl _ => true
  | _, _ => false
def rEq : R2 := fun x y H Q => scal x y = true ∧ Q (.bl (decide (x = y))) H
def rNe : R2 := fun x y H Q => scal x y = true ∧ Q (.bl (!decide (x = y))) H
theorem dec_int {i j : Int} : decide (V.int i = V.int j) = (i == j) := by
  rw [Bool.eq_iff_iff]
  simp
theorem dec_bl {i j : Bool} : decide (V.bl i = V.bl j) = (i == j) := by
  rw [Bool.eq_iff_iff]
  simp
theorem dec_str {i j : Str} : decide (V.str i = V.str j) = (i == j) := by
  rw [Bool.eq_iff_iff]
  simp
theorem dec_byt {i j : Array UInt8} : decide (V.byt i = V.byt j) = (i.toList == j.toList) := by
  rw [Bool.eq_iff_iff]
  cases i
  cases j
  simp
section
variable {X : Cx} {a b c : Expr} {ta tb tc : TE} {pos : Pos}
theorem fin_bl {pins : List (Addr × Obj)} {σ : St} {H : Hp} {s : Shared} {Q : VK} {k k' : Bool} (I : Inv X pins σ H s) (q : Q (.bl k) H) (e : k = k') : EP X pins σ Q (.bool k') s := by
  subst e
  exact ⟨.bl k, H, I, rfl, q⟩
theorem op_eq : OpR X (compareOp .Eq) rEq := by
  intro pins s σ H x y v u Q I rx ry h
  obtain ⟨hs, q⟩ := h
  cases x with
  | non =>
    cases rx
    cases y with
    | non => cases ry; exact PySem.EqNone.eq_none_none (fin_bl I q (by simp))
    | bl j => cases ry; exact PySem.EqNone.eq_none_bool (fin_bl I q (by simp))
    | int j => obtain ⟨t', rfl⟩ := ry; exact PySem.EqNone.eq_none_int (fin_bl I q (by simp))
    | str j => obtain ⟨t', rfl⟩ := ry; exact PySem.EqNone.eq_none_str (fin_bl I q (by simp))
    | _ => exact absurd (show false = true from hs) Bool.false_ne_true
  | bl i =>
    cases rx
    cases y with
    | non => cases ry; exact PySem.EqNone.eq_bool_none (fin_bl I q (by simp))
    | bl j => cases ry; exact eq_bool (fin_bl I q dec_bl)
    | str j => obtain ⟨t', rfl⟩ := ry; exact PySem.EqMixed.eq_bool_str (fin_bl I q (by simp))
    | _ => exact absurd (show false = true from hs) Bool.false_ne_true
  | int i =>
    obtain ⟨t, rfl⟩ := rx
    cases y with
    | non => cases ry; exact PySem.EqNone.eq_int_none (fin_bl I q (by simp))
    | int j => obtain ⟨t', rfl⟩ := ry; exact eq_int (fin_bl I q dec_int)
    | str j => obtain ⟨t', rfl⟩ := ry; exact PySem.EqMixed.eq_int_str (fin_bl I q (by simp))
    | _ => exact absurd (show false = true from hs) Bool.false_ne_true
  | str i =>
    obtain ⟨t, rfl⟩ := rx
    cases y with
    | non => cases ry; exact PySem.EqNone.eq_str_none (fin_bl I q (by simp))
    | bl j => cases ry; exact PySem.EqMixed.eq_str_bool (fin_bl I q (by simp))
    | int j => obtain ⟨t', rfl⟩ := ry; exact PySem.EqMixed.eq_str_int (fin_bl I q (by simp))
    | str j => obtain ⟨t', rfl⟩ := ry; exact eq_str (fin_bl I q dec_str)
    | _ => exact absurd (show false = true from hs) Bool.false_ne_true
  | byt i =>
    obtain ⟨t, rfl⟩ := rx
    cases y with
    | byt j => obtain ⟨t', rfl⟩ := ry; exact PySem.W.eq_bytes (fin_bl I q dec_byt)
    | _ => exact absurd (show false = true from hs) Bool.false_ne_true
  | _ => cases y <;> exact absurd (show false = true from hs) Bool.false_ne_true
theorem op_ne : OpR X (compareOp .NotEq) rNe := by
  intro pins s σ H x y v u Q I rx ry h
  obtain ⟨hs, q⟩ := h
  cases x with
  | non =>
    cases rx
    cases y with
    | non => cases ry; exact PySem.EqNone.ne_none_none (fin_bl I q (by simp))
    | bl j => cases ry; exact PySem.EqNone.ne_none_bool (fin_bl I q (by simp))
    | int j => obtain ⟨t', rfl⟩ := ry; exact PySem.EqNone.ne_none_int (fin_bl I q (by simp))
    | str j => obtain ⟨t', rfl⟩ := ry; exact PySem.EqNone.ne_none_str (fin_bl I q (by simp))
    | _ => exact absurd (show false = true from hs) Bool.false_ne_true
  | bl i =>
    cases rx
    cases y with
    | non => cases ry; exact PySem.EqNone.ne_bool_none (fin_bl I q (by simp))
    | bl j => cases ry; exact ne_bool (fin_bl I q (congrArg not dec_bl))
    | str j => obtain ⟨t', rfl⟩ := ry; exact PySem.EqMixed.ne_bool_str (fin_bl I q (by simp))
    | _ => exact absurd (show false = true from hs) Bool.false_ne_true
  | int i =>
    obtain ⟨t, rfl⟩ := rx
    cases y with
    | non => cases ry; exact PySem.EqNone.ne_int_none (fin_bl I q (by simp))
    | int j => obtain ⟨t', rfl⟩ := ry; exact ne_int (fin_bl I q (congrArg not dec_int))
    | str j => obtain ⟨t', rfl⟩ := ry; exact PySem.EqMixed.ne_int_str (fin_bl I q (by simp))
    | _ => exact absurd (show false = true from hs) Bool.false_ne_true
  | str i =>
    obtain ⟨t, rfl⟩ := rx
    cases y with
    | non => cases ry; exact PySem.EqNone.ne_str_none (fin_bl I q (by simp))
    | bl j => cases ry; exact PySem.EqMixed.ne_str_bool (fin_bl I q (by simp))
    | int j => obtain ⟨t', rfl⟩ := ry; exact PySem.EqMixed.ne_str_int (fin_bl I q (by simp))
    | str j => obtain ⟨t', rfl⟩ := ry; exact ne_str (fin_bl I q (congrArg not dec_str))
    | _ => exact absurd (show false = true from hs) Bool.false_ne_true
  | byt i =>
    obtain ⟨t, rfl⟩ := rx
    cases y with
    | byt j => obtain ⟨t', rfl⟩ := ry; exact PySem.W.ne_bytes (fin_bl I q (congrArg not dec_byt))
    | _ => exact absurd (show false = true from hs) Bool.false_ne_true
  | _ => cases y <;> exact absurd (show false = true from hs) Bool.false_ne_true
theorem op_lt : OpR X (compareOp .Lt) (rI0 fun i j => .bl (decide (i < j))) := opB0 fun _ _ _ _ _ _ _ q => lt_int q
theorem op_le : OpR X (compareOp .LtE) (rI0 fun i j => .bl (decide (i ≤ j))) := opB0 fun _ _ _ _ _ _ _ q => le_int q
theorem op_lt_str : OpR X (compareOp .Lt) (fun x y H Q => ∃ i j, x = .str i ∧ y = .str j ∧ Q (.bl (decide (i.cps.toList < j.cps.toList))) H) := by
  intro pins s σ H x y v u Q I rx ry h
  obtain ⟨i, j, rfl, rfl, q⟩ := h
  obtain ⟨t, rfl⟩ := rx
  obtain ⟨t', rfl⟩ := ry
  exact lt_str (fin_bl I q rfl)
theorem op_notin_str : OpR X (compareOp .NotIn) (fun x y H Q => ∃ i j, x = .str i ∧ y = .str j ∧ Q (.bl (!(!(Builtin.Str.occurrences j i 0 j.length 1).isEmpty))) H) := by
  intro pins s σ H x y v u Q I rx ry h
  obtain ⟨i, j, rfl, rfl, q⟩ := h
  obtain ⟨t, rfl⟩ := rx
  obtain ⟨t', rfl⟩ := ry
  exact notIn_str (fin_bl I q rfl)
theorem OpR.or {f : Value → Value → Sem Value} {r r' : R2} (h : OpR X f r) (h' : OpR X f r') : OpR X f (fun x y H Q => r x y H Q ∨ r' x y H Q) := by
  intro pins s σ H x y v u Q I rx ry q
  rcases q with q | q
  · exact h pins s σ H x y v u Q I rx ry q
  · exact h' pins s σ H x y v u Q I rx ry q
theorem nomark (b : Expr) {op : CmpOp} (h : op ≠ .In := by decide) (h2 : op ≠ .NotIn := by decide) : behindInMarks op b = false := by
  have e1 : (op == CmpOp.In) = false := by cases op <;> first | rfl | exact absurd rfl h
  have e2 : (op == CmpOp.NotIn) = false := by cases op <;> first | rfl | exact absurd rfl h2
  cases b <;> simp [behindInMarks, e1, e2]
theorem pe_cmpR {op : CmpOp} {r : R2} (ho : OpR X (compareOp op) r) (ha : PE X a ta) (hb : PE X b tb) (hm : behindInMarks op b = false) : PE X (.Compare a [op] [b] pos) (tOp r ta tb) := by
  intro pins s σ H Q I h
  exact wpAny_Compare1 (binT ha hb I h fun v u s2 x y H2 I2 rx ry q => ho pins s2 σ H2 x y v u Q I2 rx ry q) hm
def tTest (t : TE) : TT := fun σ H Q => t σ H fun x H' => ∃ k, x = .bl k ∧ Q k H'
theorem pt_cmpR {op : CmpOp} {r : R2} (ho : OpR X (compareOp op) r) (ha : PE X a ta) (hb : PE X b tb) (hm : behindInMarks op b = false) : PT X (.Compare a [op] [b] pos) (tTest (tOp r ta tb)) := by
  intro pins s σ H Q I h
  refine wpAny_isTrue_Compare1 (thn5 (ha pins s σ H _ I h) fun v s1 x H1 I1 r1 q1 => thn5 (hb pins s1 σ H1 _ I1 q1) fun u s2 y H2 I2 r2 q2 =>
    thn5 (ho pins s2 σ H2 x y v u _ I2 r1 r2 q2) fun c s3 z H3 I3 r3 ⟨k, e, q3⟩ => ?_) hm
  subst e
  cases r3
  exact wpAny_truthy_bool ⟨H3, I3, q3⟩
def tChain (r r' : R2) (ta tb tc : TE) : TE := fun σ H Q => ta σ H fun x H1 => tb σ H1 fun y H2 => r x y H2 fun z H3 => ∃ k, z = .bl k ∧
  (if k = true then tc σ H3 fun w' H4 => r' y w' H4 Q else Q (.bl false) H3)
theorem pe_chain {op op' : CmpOp} {r r' : R2} (ho : OpR X (compareOp op) r) (ho' : OpR X (compareOp op') r') (ha : PE X a ta) (hb : PE X b tb) (hc : PE X c tc)
    (hm : lastMarks [op, op'] [b, c] = false := by with_unfolding_all rfl) : PE X (.Compare a [op, op'] [b, c] pos) (tChain r r' ta tb tc) := by
  intro pins s σ H Q I h
  refine Compare_chain (thn5 (ha pins s σ H _ I h) fun v s1 x H1 I1 r1 q1 => chain_link (thn5 (hb pins s1 σ H1 _ I1 q1) fun u s2 y H2 I2 r2 q2 =>
    thn5 (ho pins s2 σ H2 x y v u _ I2 r1 r2 q2) fun d s3 z H3 I3 r3 ⟨k, e, q3⟩ => ?_)) hm
  subst e
  cases r3
  refine wpAny_truthy_bool ?_
  cases k with
  | false => exact ite_ff ⟨.bl false, H3, I3, rfl, q3⟩
  | true => exact ite_tt (chain_last (thn5 (hc pins s3 σ H3 _ I3 q3) fun w' s4 z' H4 I4 r4 q4 => ho' pins s4 σ H4 y z' u w' Q I4 r2 r4 q4))
def TruV (K : PySem.W.Frag) (x : V) (H : Hp) (k : Bool) : Prop :=
  match x with
  | .non => k = false
  | .bl b => k = b
  | .int i => k = (i != 0)
  | .str y => y.length ≤ sizeLine ∧ k = ((y.length : Int) != 0)
  | .byt y => y.size ≤ sizeLine ∧ k = ((y.size : Int) != 0)
  | .ref p => (∃ xs, SqL K H p xs ∧ k = !xs.isEmpty) ∨ (∃ xs, SqT K H p xs ∧ k = !xs.isEmpty) ∨ ∃ kvs, H p = some (.dK kvs) ∧ k = !kvs.isEmpty
  | _ => False
theorem isEmpty_kv {κ : Type} {kvs : List (κ × V)} {vs : List (κ × Value)} (r : KV kvs vs) : (!vs.isEmpty) = !kvs.isEmpty := by
  cases r <;> rfl
theorem isEmpty_of {xs : List V} {its : List Value} (r : Vals xs its) : (!its.toArray.isEmpty) = !xs.isEmpty := by
  cases r <;> simp
theorem line63 : (sizeLine : Nat) < 2 ^ 63 := by rw [sizeLine_eq]; decide
theorem tru_ok : TruR X (fun x H Q => ∃ k, TruV X.K x H k ∧ Q k H) := by
  intro pins s σ H x v Q I rx h
  obtain ⟨k, e, q⟩ := h
  have hl := line63
  have hs : sizeLine = 16777216 := sizeLine_eq
  cases x with
  | non =>
    cases rx
    have e' : k = false := e
    subst e'
    exact truthy_none ⟨H, I, q⟩
  | bl b =>
    cases rx
    have e' : k = b := e
    subst e'
    exact wpAny_truthy_bool ⟨H, I, q⟩
  | int i =>
    obtain ⟨t, rfl⟩ := rx
    have e' : k = (i != 0) := e
    subst e'
    exact PySem.P.truthy_int ⟨H, I, q⟩
  | str y =>
    obtain ⟨t, rfl⟩ := rx
    obtain ⟨hy, e'⟩ : y.length ≤ sizeLine ∧ k = ((y.length : Int) != 0) := e
    subst e'
    exact PySem.P.truthy_str (by lia) ⟨H, I.tok _, q⟩
  | byt y =>
    obtain ⟨t, rfl⟩ := rx
    obtain ⟨hy, e'⟩ : y.size ≤ sizeLine ∧ k = ((y.size : Int) != 0) := e
    subst e'
    exact PySem.W.truthy_bytes (by lia) ⟨H, I.tok _, q⟩
  | ref p =>
    cases rx
    have e' : (∃ xs, SqL X.K H p xs ∧ k = !xs.isEmpty) ∨ (∃ xs, SqT X.K H p xs ∧ k = !xs.isEmpty) ∨ ∃ kvs, H p = some (.dK kvs) ∧ k = !kvs.isEmpty := e
    rcases e' with ⟨xs, hx, e'⟩ | ⟨xs, hx, e'⟩ | ⟨kvs, hx, e'⟩
    · subst e'
      obtain ⟨its, r, pl, hz⟩ := I.list hx
      have hlen := r.length
      exact wpAny_truthy_list pl.isList (by simp only [List.size_toArray]; lia) ⟨H, I.tok _, by rw [isEmpty_of r]; exact q⟩
    · subst e'
      obtain ⟨its, r, pl, hz⟩ := I.tuple hx
      have hlen := r.length
      exact truthy_tuple pl (by simp only [List.size_toArray]; lia) ⟨H, I.tok _, by rw [isEmpty_of r]; exact q⟩
    · subst e'
      obtain ⟨hz, hS, vs, r, m⟩ : kvs.length ≤ sizeLine ∧ (p == sysModules) = false ∧ ∃ vs, KV kvs vs ∧ s.heap.DictOf (mixKind X.prog X.w) p vs := I.hok p _ hx
      have hlen : kvs.length = vs.length := Paired.length r
      exact wpAny_truthy_dict hS m (by lia) ⟨H, I.tok _, by rw [isEmpty_kv r]; exact q⟩
  | _ => exact (show False from e).elim
theorem pt_truth (ha : PE X a ta) (he : ∀ whole, isTrue a X.env whole = (do let v ← whole; standAt a.pos; holding [v] (truthy v))) :
    PT X a (fun σ H Q => ta σ H fun x H' => ∃ k, TruV X.K x H' k ∧ Q k H') := by
  intro pins s σ H Q I h
  exact isTrue_plain (thn5 (ha pins s σ H _ I h) fun v s1 x H1 I1 r1 q1 => tru_ok pins s1 σ H1 x v Q I1 r1 q1) (he _)
theorem op_add_str : OpR X (binaryOp .Add) (fun x y H Q => ∃ i j, x = .str i ∧ y = .str j ∧ i.length + j.length ≤ sizeLine ∧ Q (.str (i ++ j)) H) := by
  intro pins s σ H x y v u Q I rx ry h
  obtain ⟨i, j, rfl, rfl, hz, q⟩ := h
  obtain ⟨t, rfl⟩ := rx
  obtain ⟨t', rfl⟩ := ry
  exact wpAny_with_toks (n := 1) I.tk (add_str (fun t' tk htk => ⟨.str (i ++ j), H, I.tok _ htk, ⟨_, rfl⟩, q⟩) hz)
theorem vals1 {x : V} {us : List Value} (r : Vals [x] us) : ∃ u, us = [u] ∧ RelV x u := by
  cases r with
  | cons r1 r2 => cases r2; exact ⟨_, rfl, r1⟩
theorem vals2 {x y : V} {us : List Value} (r : Vals [x, y] us) : ∃ u w', us = [u, w'] ∧ RelV x u ∧ RelV y w' := by
  cases r with
  | cons r1 r2 =>
    cases r2 with
    | cons r3 r4 => cases r4; exact ⟨_, _, rfl, r1, r3⟩
end
end L2
namespace L2
open PySem PySem.Spec PyProof.Rows
structure ObjM (h : Heap) (x dx C : Addr) (mA : Str → Option Value) : Prop where
  obj : h.get? x = some (PySem.W.instObj C dx)
  ns : h.Ns1 dx mA
  ne : dx ≠ x
theorem lookIn_ns {h : Heap} {dx : Addr} {mA : Str → Option Value} (n : h.Ns1 dx mA) : ∃ od, h.get? dx = some od ∧ ∀ name, PySem.W.lookIn name od = some (mA name) := by
  obtain ⟨o, es, ep, ho, hd, hk, _, hm⟩ := n
  refine ⟨o, ho, fun name => ?_⟩
  have e := hm name
  unfold nsFind findBy at e
  rw [← Array.find?_toList] at e
  unfold PySem.W.lookIn
  rw [hd]
  dsimp only
  split
  · rename_i y q
    rw [q] at e
    exact congrArg some e
  · rename_i q
    rw [q] at e
    have a : es.toList.any (·.refKey) = false := by
      rw [List.any_eq_false]
      intro y hy
      obtain ⟨z, t, hkey⟩ := hk y (Array.mem_toList_iff.mp hy)
      simp [DictEntry.refKey, hkey]
    have a' : ¬ es.toList.any (·.refKey) = true := by rw [a]; exact Bool.false_ne_true
    rw [if_neg a']
    exact congrArg some e
theorem ObjM.look {h : Heap} {x dx C : Addr} {mA : Str → Option Value} (I : ObjM h x dx C mA) : ∃ od, PySem.W.InstAt h x (PySem.W.instObj C dx) C (some od) ∧ ∀ name, PySem.W.lookIn name od = some (mA name) :=
  let ⟨od, ho, hl⟩ := lookIn_ns I.ns
  ⟨od, ⟨I.obj, rfl, rfl, ho⟩, hl⟩
section
variable {prog : Program} {w : World} {A : Around} {E : Value → Shared → Prop} {s : Shared} {K : PySem.W.Frag} {x dx C f : Addr} {mA : Str → Option Value} {name : Str} {v : Value}
theorem get_map {expr : Bool} {Q : Value → Shared → Prop} (X : K.In s.heap) (I : ObjM s.heap x dx C mA) (hg : PySem.W.plainGet K C name = true) (hh : PySem.W.hasDictIn K C = true)
    (ha : PySem.W.findIn K (.ref C) name = some none) (hv : mA name = some v) (hv' : PySem.W.handedIn v = true) (h : Q v { s with toks := s.toks + 1 }) :
    wpAny (model prog w) A (getAttr (.ref x) name expr) Q E s := by
  obtain ⟨od, J, hl⟩ := I.look
  exact PySem.W.get_value X J (PySem.W.plainGet_of hg).1 (PySem.W.findObj_own hh ha rfl (by rw [hl, hv])) hv' h
theorem get_meth {pl : Sem Bool} {Q : Value × List Value → Shared → Prop} (X : K.In s.heap) (I : ObjM s.heap x dx C mA) (hg : PySem.W.plainGet K C name = true)
    (hf : PySem.W.findIn K (.ref C) name = some (some (.ref f))) (ht : PySem.W.isFn K (.ref f) = true) (hv : mA name = none) (h : Q (.ref f, [.ref x]) s) :
    wpAny (model prog w) A (getMethod (.ref x) name pl) Q E s := by
  obtain ⟨od, J, hl⟩ := I.look
  exact PySem.W.method_fn X J (PySem.W.plainGet_of hg).1 (PySem.W.plainGet_of hg).2 hf (beq_iff_eq.mp ht) (by show (PySem.W.lookIn name od).map (·.isSome) = some false; rw [hl, hv]; rfl) h
theorem set_map {ns : List Str} {Q : Unit → Shared → Prop} (X : K.In s.heap) (I : ObjM s.heap x dx C mA)
    (hs : PySem.W.findIn K (.ref C) "__setattr__" = some (some (.builtin "object.__setattr__"))) (hp : PySem.W.plainOver K C = true) (ht : PySem.W.takerIn K C name = some none) (hh : PySem.W.hasDictIn K C = true)
    (hw : PySem.Within mA ns) (hsz : ns.length ≤ sizeLine)
    (h : ∀ h', ObjM h' x dx C (fun y => if y = name then some v else mA y) → Heap.SameBut dx s.heap h' → Q () { s with heap := h', toks := s.toks + 2 }) :
    wpAny (model prog w) A (setAttr (.ref x) name v) Q E s := by
  obtain ⟨od, J, hl⟩ := I.look
  refine PySem.W.set_plain X J hs (PySem.W.osa_open (s := { s with toks := s.toks + 1 }) (r := none) X J hp ht fun b => ?_)
  obtain ⟨cd, hc, hd'⟩ := PySem.W.any_some hh
  have hx : s.heap.get? x = some ⟨.ref C, some dx, .plain, #[]⟩ := I.obj
  refine wpAny_bind (wpAny_pure (wpAny_bind (wpAny_bind (wpAny_loadPart hx (wpAny_bind (PySem.W.Looks.here (s := { s with toks := s.toks + 1 }) (PySem.W.looks_clsIn X hc) ?_))))))
  rw [hd']
  refine wpAny_pure (a := some dx) (wpAny_bind (wpAny_pure (wpAny_bind ?_)))
  refine wpAny_nsSet1 (s := { s with toks := s.toks + 1 }) I.ns fun h' hn2 hs2 => ?_
  obtain ⟨oD, esD, epD, hoD, hdD, hcD⟩ := hn2.count (PySem.Within.cons name v hw)
  refine wpAny_bind (wpAny_lookBehind hoD (by rw [hdD]; exact pastItsLine_dict (Nat.le_trans hcD (by rw [List.length_cons]; lia))) ?_)
  exact wpAny_pure (h _ ⟨(hs2.2 _ (Ne.symm I.ne)).trans I.obj, hn2, I.ne⟩ hs2)
theorem make_map {R : Result → Shared → Prop} {vs : List Value} {kw : List (Str × Value)} (X : K.In s.heap) (hm : PySem.W.makesIn K C = true)
    (hi : PySem.W.findIn K (.ref C) "__init__" = some (some (.ref f))) (hf : PySem.W.typeIn K (.ref f) = some (.type "function"))
    (h : codeAny (model prog w) (A.under (.builtin "type.__call__" ⟨.ref C :: vs, kw⟩)) (.call (.ref f) ⟨.ref (s.heap.objs.size + 1) :: vs, kw⟩) (PySem.W.InitBack (s.heap.objs.size + 1) R)
      { s with heap := (s.heap.push PySem.W.emptyDict).push (PySem.W.instObj C s.heap.objs.size) }) :
    codeAny (model prog w) A (.call (.ref C) ⟨vs, kw⟩) R s := by
  obtain ⟨hh, g, d, t, os⟩ := s
  exact PySem.W.make_core (PySem.W.makes_of X hm) (PySem.W.looks_findIn X hi) (fun self => PySem.W.bind_fn X self hf) (.inl rfl) h
end
noncomputable def putF (f : Str) (v : V) : List (Str × V) → List (Str × V)
  | [] => [(f, v)]
  | (g, x) :: r => if g = f then (g, v) :: r else (g, x) :: putF f v r
theorem lookup_putF (f g : Str) (v : V) : ∀ fs : List (Str × V), (putF f v fs).lookup g = if g = f then some v else fs.lookup g
  | [] => by
    show List.lookup g [(f, v)] = _
    by_cases h : g = f
    · have hb : (g == f) = true := beq_iff_eq.mpr h
      simp only [List.lookup, hb, if_pos h]
    · have hb : (g == f) = false := beq_eq_false_iff_ne.mpr h
      simp only [List.lookup, hb, if_neg h]
  | (k, x) :: r => by
    have ih := lookup_putF f g v r
    rw [show putF f v ((k, x) :: r) = (if k = f then (k, v) :: r else (k, x) :: putF f v r) from rfl]
    by_cases hk : k = f
    · rw [if_pos hk]
      by_cases h : g = k
      · have hb : (g == k) = true := beq_iff_eq.mpr h
        simp only [List.lookup, hb, if_pos (h.trans hk)]
      · have hb : (g == k) = false := beq_eq_false_iff_ne.mpr h
        simp only [List.lookup, hb, if_neg (fun e : g = f => h (e.trans hk.symm))]
    · rw [if_neg hk]
      by_cases h : g = k
      · have hb : (g == k) = true := beq_iff_eq.mpr h
        simp only [List.lookup, hb, if_neg (fun e : g = f => hk (h.symm.trans e))]
      · have hb : (g == k) = false := beq_eq_false_iff_ne.mpr h
        simp only [List.lookup, hb]
        exact ih
theorem keys_putF (f : Str) (v : V) : ∀ fs : List (Str × V), f ∈ (putF f v fs).map (·.1) ∧ ∀ g, g ∈ fs.map (·.1) → g ∈ (putF f v fs).map (·.1)
  | [] => ⟨by simp [putF], fun g h => by simp at h⟩
  | (k, x) :: r => by
    obtain ⟨i1, i2⟩ := keys_putF f v r
    rw [show putF f v ((k, x) :: r) = (if k = f then (k, v) :: r else (k, x) :: putF f v r) from rfl]
    by_cases hk : k = f
    · rw [if_pos hk]
      subst hk
      exact ⟨by simp, fun g h => by simpa using h⟩
    · rw [if_neg hk]
      refine ⟨?_, fun g h => ?_⟩
      · rw [List.map_cons]
        exact List.mem_cons_of_mem _ i1
      · rw [List.map_cons] at h ⊢
        rcases List.mem_cons.mp h with e | e
        · exact List.mem_cons.mpr (.inl e)
        · exact List.mem_cons_of_mem _ (i2 g e)
theorem length_putF (f : Str) (v : V) : ∀ fs : List (Str × V), (putF f v fs).length ≤ fs.length + 1
  | [] => by simp [putF]
  | (k, x) :: r => by
    have ih := length_putF f v r
    rw [show putF f v ((k, x) :: r) = (if k = f then (k, v) :: r else (k, x) :: putF f v r) from rfl]
    by_cases hk : k = f
    · rw [if_pos hk, List.length_cons, List.length_cons]; lia
    · rw [if_neg hk, List.length_cons, List.length_cons]; lia
theorem RelO.some_of {v : V} {o : Option Value} (r : RelO (some v) o) : ∃ u, o = some u ∧ RelV v u := by
  cases o with
  | none => exact (show False from r).elim
  | some u => exact ⟨u, rfl, r⟩
theorem RelO.none_of {o : Option Value} (r : RelO none o) : o = none := by
  cases o with
  | none => rfl
  | some u => exact (show False from r).elim
theorem handed_of {v : V} {u : Value} (r : RelV v u) : PySem.W.handedIn u = true := by
  cases v with
  | non => cases (show u = Value.none from r); rfl
  | bl b => cases (show u = Value.bool b from r); rfl
  | int i => obtain ⟨t, e⟩ := (show ∃ t, u = Value.int i t from r); cases e; rfl
  | str x => obtain ⟨t, e⟩ := (show ∃ t, u = Value.str x t from r); cases e; rfl
  | byt b => obtain ⟨t, e⟩ := (show ∃ t, u = Value.bytes b t from r); cases e; rfl
  | flt b => obtain ⟨t, e⟩ := (show ∃ t, u = Value.float b t from r); cases e; rfl
  | ref a => cases (show u = Value.ref a from r); rfl
  | ty n => cases (show u = Value.type n from r); rfl
section
variable {P : Program} {w : World} {H H' : Hp} {h h' : Heap} {a C dx : Addr} {fs fs' : List (Str × V)}
theorem ins_get (hok : HOk P w H h) (e : H a = some (.ins C dx fs)) : ∃ mA, ObjM h a dx C mA ∧ (∀ f, RelO (fs.lookup f) (mA f)) ∧ PySem.Within mA (fs.map (·.1)) ∧ fs.length ≤ 1000 ∧ H dx = some (.own a) := by
  obtain ⟨d, z, ne, ob, mA, n, r, q⟩ := (show ObjOk P w H h a (.ins C dx fs) from hok a _ e)
  exact ⟨mA, ⟨ob, n, ne⟩, r, q, z, d⟩
end
structure Cls (K : PySem.W.Frag) (C : Addr) : Prop where
  pg : PySem.W.plainGet K C Str.empty = true
  hd : PySem.W.hasDictIn K C = true
  po : PySem.W.plainOver K C = true
  sa : PySem.W.findIn K (.ref C) "__setattr__" = some (some (.builtin "object.__setattr__"))
theorem Cls.get {K : PySem.W.Frag} {C : Addr} (c : Cls K C) (f : Str) : PySem.W.plainGet K C f = true := c.pg
def NoAttr (K : PySem.W.Frag) (C : Addr) (f : Str) : Prop := PySem.W.findIn K (.ref C) f = some none
theorem NoAttr.taker {K : PySem.W.Frag} {C : Addr} {f : Str} (n : NoAttr K C f) : PySem.W.takerIn K C f = some none := by
  unfold PySem.W.takerIn
  rw [show PySem.W.findIn K (.ref C) f = some none from n]
  rfl
structure Meth (K : PySem.W.Frag) (C : Addr) (m : Str) (f : Addr) : Prop where
  at_ : PySem.W.findIn K (.ref C) m = some (some (.ref f))
  fn : PySem.W.isFn K (.ref f) = true
  kp : PySem.W.keepIn K (.ref f) = true
section
variable {X : Cx} {pins : List (Addr × Obj)} {σ : St} {H : Hp} {s : Shared} {a C dx : Addr} {fs : List (Str × V)} {f : Str} {v : V} {A : Around} {E : Value → Shared → Prop}
theorem getattr_ok {b : Bool} {Q : Value → Shared → Prop} (I : Inv X pins σ H s) (e : H a = some (.ins C dx fs)) (c : Cls X.K C) (n : NoAttr X.K C f) (l : fs.lookup f = some v)
    (h : ∀ u s', Inv X pins σ H s' → RelV v u → Q u s') : wpAny (model X.prog X.w) A (getAttr (.ref a) f b) Q E s := by
  obtain ⟨mA, O, r, _, _, _⟩ := ins_get I.hok e
  obtain ⟨u, hu, ru⟩ := RelO.some_of (v := v) (o := mA f) (by rw [← l]; exact r f)
  exact get_map I.kIn O (c.get f) c.hd n hu (handed_of ru) (h u _ (I.tok _) ru)
theorem getmeth_ok {m : Str} {g : Addr} {pl : Sem Bool} {Q : Value × List Value → Shared → Prop} (I : Inv X pins σ H s) (e : H a = some (.ins C dx fs)) (c : Cls X.K C) (k : Meth X.K C m g) (l : fs.lookup m = none)
    (h : Q (.ref g, [.ref a]) s) : wpAny (model X.prog X.w) A (getMethod (.ref a) m pl) Q E s := by
  obtain ⟨mA, O, r, _, _, _⟩ := ins_get I.hok e
  have hn : mA m = none := RelO.none_of (by rw [← l]; exact r m)
  exact get_meth I.kIn O (c.get m) k.at_ k.fn hn h
theorem setattr_ok {y : V} {u : Value} {Q : Unit → Shared → Prop} (I : Inv X pins σ H s) (e : H a = some (.ins C dx fs)) (c : Cls X.K C) (n : NoAttr X.K C f) (hl : fs.length < 1000) (ry : RelV y u)
    (h : ∀ s', Inv X pins σ (upd H a (.ins C dx (putF f y fs))) s' → Q () s') : wpAny (model X.prog X.w) A (setAttr (.ref a) f u) Q E s := by
  obtain ⟨mA, O, r, wi, _, ho⟩ := ins_get I.hok e
  have hz : (fs.map (·.1)).length ≤ sizeLine := by rw [List.length_map, sizeLine_eq]; lia
  refine set_map I.kIn O c.sa c.po n.taker c.hd wi hz fun h' O' sb => h _ ?_
  have hd : ∃ o, h'.get? dx = some o := let ⟨o, _, _, e', _⟩ := O'.ns; ⟨o, e'⟩
  refine I.write (x := a) (e := dx) (by rw [e]; exact True.intro) (.inr ho) (fun b q hb z => (sb.2 b hb).trans z) hd ?_
  refine ⟨by rw [upd_ne O.ne]; exact ho, ?_, O.ne, O'.obj, _, O'.ns, fun g => ?_, fun g hg => ?_⟩
  · have := length_putF f y fs; lia
  · show RelO ((putF f y fs).lookup g) (if g = f then some u else mA g)
    rw [lookup_putF]
    by_cases q : g = f
    · rw [if_pos q, if_pos q]; exact ry
    · rw [if_neg q, if_neg q]; exact r g
  · by_cases q : g = f
    · rw [q]; exact (keys_putF f y fs).1
    · refine (keys_putF f y fs).2 g (wi g fun z => hg ?_)
      show (if g = f then some u else mA g) = none
      rw [if_neg q]; exact z
theorem Inv.made (I : Inv X pins σ H s) : Inv X pins σ (upd (upd H s.heap.objs.size (.own (s.heap.objs.size + 1))) (s.heap.objs.size + 1) (.ins C s.heap.objs.size []))
    { s with heap := (s.heap.push PySem.W.emptyDict).push (PySem.W.instObj C s.heap.objs.size) } := by
  have e1 : (s.heap.push PySem.W.emptyDict).get? s.heap.objs.size = some PySem.W.emptyDict := Heap.get?_push_size s.heap rfl
  have e2 : ((s.heap.push PySem.W.emptyDict).push (PySem.W.instObj C s.heap.objs.size)).get? (s.heap.objs.size + 1) = some (PySem.W.instObj C s.heap.objs.size) := by
    have := Heap.get?_push_size (s.heap.push PySem.W.emptyDict) (o := PySem.W.instObj C s.heap.objs.size) rfl
    rwa [Heap.size_push] at this
  have e3 : (s.heap.push PySem.W.emptyDict).Ns s.heap.objs.size (fun _ => none) := ⟨PySem.W.emptyDict, #[], _, e1, rfl, (fun e he => absurd he (by simp)), fun _ => rfl⟩
  have I1 := I.laid (a := s.heap.objs.size) (o := .own (s.heap.objs.size + 1)) (h' := s.heap.push PySem.W.emptyDict) (t' := s.toks) (fun b u q => Heap.get?_push_of_some _ q) (Nat.le_refl _) ⟨_, e1⟩
  refine I1.laid (a := s.heap.objs.size + 1) (o := .ins C s.heap.objs.size []) (t' := s.toks) (fun b u q => Heap.get?_push_of_some _ q) (Nat.le_of_eq (Heap.size_push _ _)) ?_
  have ne : s.heap.objs.size ≠ s.heap.objs.size + 1 := Nat.ne_of_lt (Nat.lt_succ_self _)
  refine ⟨by rw [upd_ne ne, upd_same], Nat.zero_le _, ne, e2, fun _ => none, (Heap.Ns1.of_empty e3).at fun o q => Heap.get?_push_of_some _ q, fun _ => True.intro, fun y hy => absurd rfl hy⟩
theorem attr_of {prog : Program} {w : World} {env : Env} {e : Expr} {f : Str} {pos : Pos} {s : Shared} {Q : Value → Shared → Prop} (hb : attributeBase e f env (eval e env) = eval e env)
    (h : wpAny (model prog w) A (eval e env) (fun o s₁ => wpAny (model prog w) A (getAttr o f true) Q E s₁) E s) : wpAny (model prog w) A (eval (.Attribute e f pos) env) Q E s :=
  Attribute_any_ h (by rw [arm_eval_Attribute, hb])
end
def tFld (K : PySem.W.Frag) (ta : TE) (f : Str) : TE := fun σ H Q => ta σ H fun x H1 => ∃ a C dx fs v, x = .ref a ∧ H1 a = some (.ins C dx fs) ∧ Cls K C ∧ NoAttr K C f ∧ fs.lookup f = some v ∧ Q v H1
def sFld (K : PySem.W.Frag) (ta tv : TE) (f : Str) : TS := fun D σ H => tv σ H fun y H1 => ta σ H1 fun x H2 => ∃ a C dx fs, x = .ref a ∧ H2 a = some (.ins C dx fs) ∧ Cls K C ∧ NoAttr K C f ∧ fs.length < 1000 ∧
  D.nx σ (upd H2 a (.ins C dx (putF f y fs)))
section
variable {X : Cx} {o e value : Expr} {f : Str} {pos pos' tpos : Pos} {ta tv : TE}
theorem pe_fld (he : PE X e ta) (hb : attributeBase e f X.env (eval e X.env) = eval e X.env) : PE X (.Attribute e f pos) (tFld X.K ta f) := by
  intro pins s σ H Q I h
  refine attr_of hb (thn5 (he pins s σ H _ I h) fun u s1 x H1 I1 rx ⟨a, C, dx, fs, v, ex, ea, c, n, l, q⟩ => ?_)
  subst ex
  obtain rfl : u = Value.ref a := rx
  exact getattr_ok I1 ea c n l fun u' s2 I2 ru => ⟨v, H1, I2, ru, q⟩
theorem ps_fld (ha : PE X o ta) (hv : PE X value tv) (hs : swapsWith value (some (.Attribute o f pos')) pos.line X.env = pure false) : PS X (.Assign [.Attribute o f pos'] value pos) (sFld X.K ta tv f) := by
  intro pins s σ H D I h
  refine plainObj_wpAny_Assign_Attribute (thn5 (hv pins s σ H _ I h) fun u s1 y H1 I1 ry q => thn5 (ha pins s1 σ H1 _ I1 q) fun ov s2 x H2 I2 rx ⟨a, C, dx, fs, ex, ea, c, n, l, q2⟩ => ?_) hs
  subst ex
  obtain rfl : ov = Value.ref a := rx
  exact setattr_ok I2 ea c n l ry fun s3 I3 => ⟨σ, _, I3, q2⟩
end
section
variable {X : Cx} {pins : List (Addr × Obj)} {σ : St} {H : Hp} {s : Shared} {A : Around} {E : Value → Shared → Prop} {Q : Value → Shared → Prop} {c : Value} {b : Bool}
inductive TyOf (K : PySem.W.Frag) (H : Hp) : V → Value → Prop where
  | non : TyOf K H .non (.type "NoneType")
  | bl (x : Bool) : TyOf K H (.bl x) (.type "bool")
  | int (i : Int) : TyOf K H (.int i) (.type "int")
  | str (x : Str) : TyOf K H (.str x) (.type "str")
  | flt (x : UInt64) : TyOf K H (.flt x) (.type "float")
  | lst {a : Addr} {xs : List V} (e : H a = some (.lst xs)) : TyOf K H (.ref a) (.type "list")
  | frz {a : Addr} {o : Obj} {xs : List V} (e : H a = some (.frz o (.lst xs))) : TyOf K H (.ref a) (.type "list")
  | tup {a : Addr} {xs : List V} (e : H a = some (.tup xs)) : TyOf K H (.ref a) (.type "tuple")
  | dK {a : Addr} {kvs : List (Key × V)} (e : H a = some (.dK kvs)) : TyOf K H (.ref a) (.type "dict")
  | dT {a : Addr} {kvs : List (List Key × V)} (e : H a = some (.dT kvs)) : TyOf K H (.ref a) (.type "dict")
  | ins {a C dx : Addr} {fs : List (Str × V)} (e : H a = some (.ins C dx fs)) (cl : Cls K C) (ha : PySem.W.findIn K (.ref C) "__class__" = some (some (.builtin "object.__class__")))
      (hn : PySem.W.specialIn K (.builtin "object.__class__") "__get__" = some (some (.builtin "getset_descriptor.__get__"))) (htk : PySem.W.takesIn K (.builtin "object.__class__") = some true)
      (hm : PySem.W.mroIn K C (.type "object") = some true) : TyOf K H (.ref a) (.ref C)
theorem isinst_ok {x : V} {u t : Value} (I : Inv X pins σ H s) (rx : RelV x u) (ty : TyOf X.K H x t) (e : PySem.W.kitOne X.K t c = some b) (h : ∀ tk, Q (.bool b) { s with toks := tk }) :
    wpAny (model X.prog X.w) A (call (.builtin "isinstance") [u, c]) Q E s := by
  cases ty with
  | non => cases (show u = Value.none from rx); exact PySem.W.kia_one PySem.W.kitx_none I.kIn True.intro e (fun z => nomatch z) h
  | bl y => cases (show u = Value.bool y from rx); exact PySem.W.kia_one PySem.W.kitx_bool I.kIn True.intro e (fun z => nomatch z) h
  | int i => obtain ⟨t, q⟩ := (show ∃ t, u = Value.int i t from rx); cases q; exact PySem.W.kia_one PySem.W.kitx_int I.kIn True.intro e (fun z => nomatch z) h
  | str y => obtain ⟨t, q⟩ := (show ∃ t, u = Value.str y t from rx); cases q; exact PySem.W.kia_one PySem.W.kitx_str I.kIn True.intro e (fun z => nomatch z) h
  | flt y => obtain ⟨t, q⟩ := (show ∃ t, u = Value.float y t from rx); cases q; exact PySem.W.kia_one PySem.W.kitx_float I.kIn True.intro e (fun z => nomatch z) h
  | @lst a xs ea =>
    cases (show u = Value.ref a from rx)
    obtain ⟨_, _, n, _, h1⟩ := (show ObjOk X.prog X.w H s.heap a (.lst xs) from I.hok a _ ea)
    exact PySem.W.kia_one PySem.W.kitx_list I.kIn ⟨_, h1, rfl⟩ e (fun z => nomatch z) h
  | @frz a ob xs ea =>
    cases (show u = Value.ref a from rx)
    obtain ⟨_, _, _, n, _, h1⟩ := (show ObjOk X.prog X.w H s.heap a (.frz ob (.lst xs)) from I.hok a _ ea)
    exact PySem.W.kia_one PySem.W.kitx_list I.kIn ⟨_, h1, rfl⟩ e (fun z => nomatch z) h
  | @tup a xs ea =>
    cases (show u = Value.ref a from rx)
    obtain ⟨_, _, _, p⟩ := (show ObjOk X.prog X.w H s.heap a (.tup xs) from I.hok a _ ea)
    obtain ⟨o, h1, h2, _⟩ := p
    exact PySem.W.kia_one PySem.W.kitx_tuple I.kIn ⟨o, h1, h2⟩ e (fun z => nomatch z) h
  | @dK a kvs ea =>
    cases (show u = Value.ref a from rx)
    obtain ⟨_, _, vs, _, p⟩ := (show ObjOk X.prog X.w H s.heap a (.dK kvs) from I.hok a _ ea)
    obtain ⟨o, es, ep, h1, h2, _⟩ := p
    exact PySem.W.kia_one PySem.W.kitx_dict I.kIn ⟨o, h1, h2.1⟩ e (fun z => nomatch z) h
  | @dT a kvs ea =>
    cases (show u = Value.ref a from rx)
    obtain ⟨_, _, xs, _, o, es, ep, h1, h2, _⟩ := (show ObjOk X.prog X.w H s.heap a (.dT kvs) from I.hok a _ ea)
    exact PySem.W.kia_one PySem.W.kitx_dict I.kIn ⟨o, h1, h2.1⟩ e (fun z => nomatch z) h
  | @ins a C dx fs ea cl ha hn htk hm =>
    cases (show u = Value.ref a from rx)
    obtain ⟨mA, O, _⟩ := ins_get I.hok ea
    obtain ⟨od, J, _⟩ := O.look
    exact PySem.W.kia_one (PySem.W.kitx_own (cl.get _) cl.hd ha hn htk hm) I.kIn J e (fun z => nomatch z) h
end
end L2
namespace L2
open PySem PySem.Spec PyProof.Rows
structure Room (k : Nat) (A : Around) : Prop where
  hd : A.handled = none
  dp : A.depth + 3 * k + 5 < recursionLimit
  un : A.units + 16 * k + 200 < cLine
theorem Room.mono {j k : Nat} {A : Around} (r : Room k A) (h : j ≤ k) : Room j A := ⟨r.hd, by have := r.dp; lia, by have := r.un; lia⟩
theorem Room.deeper {k : Nat} {A : Around} (r : Room (k + 1) A) (env : Env) : Room k (A.deeper env) :=
  ⟨r.hd, by have := r.dp; show A.depth + 1 + 3 * k + 5 < _; lia, by have := r.un; show A.units + 3 + 16 * k + 200 < _; lia⟩
theorem make_depth {A : Around} {C : Addr} {us : List Value} {kw : List (Str × Value)} : (A.under (.builtin "type.__call__" ⟨.ref C :: us, kw⟩)).depth = A.depth + 1 := by
  first | rfl | simp [Around.under, Code.weight, Code.isCreation, Code.isGuard, Code.isCaller, Code.frames, Code.isFrame, guardIds]
theorem make_units {A : Around} {C : Addr} {us : List Value} {kw : List (Str × Value)} : (A.under (.builtin "type.__call__" ⟨.ref C :: us, kw⟩)).units = A.units + 1 := by
  first | rfl | simp [Around.under, Code.cUnits, Code.frames, Code.isFrame]
theorem Room.make {k : Nat} {A : Around} (r : Room (k + 1) A) (C : Addr) (us : List Value) (kw : List (Str × Value)) : Room k (A.under (.builtin "type.__call__" ⟨.ref C :: us, kw⟩)) :=
  ⟨r.hd, by have := r.dp; rw [make_depth]; lia, by have := r.un; rw [make_units]; lia⟩
theorem Room.depth {k : Nat} {A : Around} (r : Room k A) : A.depth < recursionLimit := by have := r.dp; lia
theorem Room.units {k : Nat} {A : Around} (r : Room k A) : A.units + 64 < cLine := by have := r.un; lia
theorem Room.units0 {k : Nat} {A : Around} (r : Room k A) : A.units < cLine := by have := r.un; lia
def tNil : TA := fun _ H Q => Q [] H
def tCons (ta : TE) (tr : TA) : TA := fun σ H Q => ta σ H fun x H1 => tr σ H1 fun xs H2 => Q (x :: xs) H2
section
variable {X : Cx} {e : Expr} {es : List Expr} {te : TE} {t : TA} {pos : Pos}
theorem pa_nil : PA X [] tNil := fun _ _ _ _ H Q I h => Calls.spliced_nil ⟨[], H, I, .nil, h⟩
theorem pa_cons (ha : PE X e te) (hr : PA X es t) (hs : starEach (e :: es) X.env = (false, eval e X.env) :: starEach es X.env := by rfl) : PA X (e :: es) (tCons te t) := by
  intro pos pins s σ H Q I h
  rw [hs]
  show wpAny _ _ (spliced ((false, eval e X.env) :: backTo pos (starEach es X.env))) _ _ s
  refine Calls.spliced_cons (thn5 (ha pins s σ H _ I h) fun u s1 x H1 I1 r1 q1 => ?_)
  exact thn5 (hr pos pins s1 σ H1 _ I1 q1) fun us s2 xs H2 I2 r2 q2 => ⟨x :: xs, H2, I2, .cons r1 r2, q2⟩
def tTup (t : TA) : TE := fun σ H Q => t σ H fun xs H1 => xs.length ≤ sizeLine ∧ ∀ p, H1 p = none → Q (.ref p) (upd H1 p (.tup xs))
def tLst (t : TA) : TE := fun σ H Q => t σ H fun xs H1 => xs.length ≤ sizeLine ∧ ∀ p, H1 p = none → Q (.ref p) (upd H1 p (.lst xs))
theorem pe_tup {x1} (h : PA X es t) : PE X (.Tuple es x1 pos) (tTup t) := by
  intro pins s σ H Q I hq
  refine wpAny_Tuple_spliced (thn5 (h pos pins s σ H _ I hq) fun us s1 xs H1 I1 r ⟨z, q⟩ => ⟨by rw [← r.length]; exact z, ?_⟩)
  have hf : H1 s1.heap.objs.size = none := I1.hok.fresh (Nat.le_refl _)
  refine ⟨.ref s1.heap.objs.size, upd H1 s1.heap.objs.size (.tup xs), I1.laid (t' := s1.toks) (fun b u e => Heap.get?_push_of_some _ e) (Nat.le_refl _) ?_, rfl, q _ hf⟩
  exact ⟨z, us, r, ⟨_, Heap.get?_push_size _ rfl, rfl, _, rfl⟩⟩
theorem pe_lst (h : PA X es t) : PE X (.List es pos) (tLst t) := by
  intro pins s σ H Q I hq
  refine wpAny_List_spliced (thn5 (h pos pins s σ H _ I hq) fun us s1 xs H1 I1 r ⟨z, q⟩ => ⟨by rw [← r.length]; exact z, ?_⟩)
  have hf : H1 s1.heap.objs.size = none := I1.hok.fresh (Nat.le_refl _)
  refine ⟨.ref s1.heap.objs.size, upd H1 s1.heap.objs.size (.lst xs), I1.laid (t' := s1.toks) (fun b u e => Heap.get?_push_of_some _ e) (Nat.le_refl _) ?_, rfl, q _ hf⟩
  exact ⟨z, us, 0, r, Heap.get?_push_size _ rfl⟩
end
abbrev Sp := List V → Hp → VK → XK → Prop
abbrev CXT := List Env → Hp → Shared → XK → Value → Shared → Prop
structure Env0 (P : Program) (w : World) (K : PySem.W.Frag) (mg : Str → Option Value) (base : Heap) (A : Around) (outer : List Env) (s : Shared) (H : Hp) : Prop where
  frames : A.frames = some outer
  mod : Mod K mg base
  bs : ∀ b o, base.get? b = some o → s.heap.get? b = some o ∧ H b = none
  bsz : base.objs.size ≤ s.heap.objs.size
  funs : s.heap.FunFrames base outer
  frf : ∀ b ∈ frs outer, H b = none
  hok : HOk P w H s.heap
  bare : AllBare s.gens
def CE (outer : List Env) (P : Program) (w : World) (H : Hp) (s : Shared) (Q : VK) (u : Value) (s' : Shared) : Prop :=
  ∃ v H', s'.os = s.os ∧ AllBare s'.gens ∧ Un (frs outer) [] H H' s.heap s'.heap ∧ HOk P w H' s'.heap ∧ RelV v u ∧ Q v H'
def CR (CX : CXT) (outer : List Env) (P : Program) (w : World) (H : Hp) (s : Shared) (Q : VK) (E : XK) (r : Result) (s' : Shared) : Prop :=
  match r with
  | .ok (.ret u) => CE outer P w H s Q u s'
  | .ok _ => False
  | .error e => CX outer H s E e s'
structure FnOk (P : Program) (w : World) (K : PySem.W.Frag) (mg : Str → Option Value) (base : Heap) (CX : CXT) (k : Nat) (f : Addr) (fd : FuncData) (ps : List Str) (sp : Sp) : Prop where
  len : ∀ vs H Q E, sp vs H Q E → vs.length = ps.length
  run : ∀ (A : Around) (outer : List Env) (s : Shared) (H : Hp) (args : Args) (us : List Value) (vs : List V) (Q : VK) (E : XK), Room k A → Env0 P w K mg base A outer s H → (0 < s.toks ∨ ∃ p ∈ ps, fd.scope.names.lookup p = some .local) → BindsTo s fd args (ps.zip us) → Vals vs us → sp vs H Q E →
    codeAny (model P w) A (.call (.ref f) args) (CR CX outer P w H s Q E) s
theorem FnOk.imp {P : Program} {w : World} {K : PySem.W.Frag} {mg : Str → Option Value} {base : Heap} {CX : CXT} {k : Nat} {f : Addr} {fd : FuncData} {ps : List Str} {sp sp' : Sp} (F : FnOk P w K mg base CX k f fd ps sp)
    (h : ∀ vs H Q E, sp' vs H Q E → sp vs H Q E) : FnOk P w K mg base CX k f fd ps sp' :=
  ⟨fun vs H Q E q => F.len vs H Q E (h _ _ _ _ q), fun A outer s H args us vs Q E hr he ht hb hv hs => F.run A outer s H args us vs Q E hr he ht hb hv (h _ _ _ _ hs)⟩
theorem Env0.make {P : Program} {w : World} {K : PySem.W.Frag} {mg : Str → Option Value} {base : Heap} {A : Around} {outer : List Env} {s : Shared} {H : Hp} (e : Env0 P w K mg base A outer s H) (C : Addr) (us : List Value) (kw : List (Str × Value)) :
    Env0 P w K mg base (A.under (.builtin "type.__call__" ⟨.ref C :: us, kw⟩)) outer s H := ⟨by first | exact e.frames | (simpa [Around.under, Code.envs, Code.isFrame, pushEnvs] using e.frames), e.mod, e.bs, e.bsz, e.funs, e.frf, e.hok, e.bare⟩
section
variable {X : Cx} {pins : List (Addr × Obj)} {σ : St} {H : Hp} {s s' : Shared}
theorem Inv.env0 (I : Inv X pins σ H s) : Env0 X.prog X.w X.K X.mg X.base X.A X.stack s H :=
  ⟨I.ok.frames, I.ok.mod, I.bs, Nat.le_trans I.ok.bsz I.sz, I.stack, I.stkFree, I.hok, I.bare⟩
theorem Inv.after {Q : VK} {u : Value} (I : Inv X pins σ H s) (h : CE X.stack X.prog X.w H s Q u s') (ht : 0 < s'.toks) : EP X pins σ Q u s' := by
  obtain ⟨v, H', os, bare, un, hok, r, q⟩ := h
  obtain ⟨hh, g, d, t, os'⟩ := s'
  obtain rfl : os' = s.os := os
  exact ⟨v, H', I.call (h' := hh) (g' := g) (d' := d) (t' := t) (ch := []) un hok bare (fun b z => absurd z (by simp)) ht, r, q⟩
end
def tCall (sp : Sp) (dvs : List V) (E : XK) (t : TA) : TE := fun σ H Q => t σ H fun vs H1 => sp (vs ++ dvs) H1 Q E
def tMeth (C : Addr) (m : Str) (sp : Sp) (dvs : List V) (E : XK) (ta : TE) (t : TA) : TE := fun σ H Q => ta σ H fun x H1 => ∃ a dx fs, x = .ref a ∧ H1 a = some (.ins C dx fs) ∧ fs.lookup m = none ∧
  t σ H1 fun vs H2 => sp (x :: (vs ++ dvs)) H2 Q E
def tMake (C : Addr) (sp : Sp) (dvs : List V) (E : XK) (t : TA) : TE := fun σ H Q => t σ H fun vs H1 => ∀ x dx, H1 x = none → H1 dx = none → dx ≠ x →
  sp (.ref x :: (vs ++ dvs)) (upd (upd H1 dx (.own x)) x (.ins C dx [])) (fun v H2 => v = .non ∧ Q (.ref x) H2) E
def Binds (K : PySem.W.Frag) (fd : FuncData) (ps : List Str) (ds : List Value) : Prop :=
  ∀ (s : Shared) (us : List Value), K.In s.heap → (us ++ ds).length = ps.length → BindsTo s fd ⟨us, []⟩ (ps.zip (us ++ ds))
theorem Binds.all {K : PySem.W.Frag} {fd : FuncData} {ps : List Str} (h : ∀ us : List Value, us.length = ps.length → bindArgs fd ⟨us, []⟩ = pure (ps.zip us)) : Binds K fd ps [] := fun s us _ hl => by
  rw [List.append_nil] at hl ⊢
  exact .of_eq (h us hl)
def Passes (CX : CXT) (X : Cx) (E : XK) : Prop := ∀ (pins : List (Addr × Obj)) (σ : St) (H : Hp) (s : Shared) (e : Value) (s' : Shared), Inv X pins σ H s → CX X.stack H s E e s' → X.xe e s'
section
variable {X : Cx} {CX : CXT} {k : Nat} {f C : Addr} {fd : FuncData} {ps : List Str} {sp : Sp} {dvs : List V} {ds : List Value} {E : XK} {x m : Str} {p pos apos : Pos} {e o : Expr} {es : List Expr} {ta : TE} {t : TA}
theorem run_fn {pins : List (Addr × Obj)} {σ : St} {H : Hp} {s : Shared} {Q : VK} {us : List Value} {vs : List V} (F : FnOk X.prog X.w X.K X.mg X.base CX k f fd ps sp) (hr : Room k X.A) (hb : Binds X.K fd ps ds) (hd : Vals dvs ds) (hx : Passes CX X E)
    (I : Inv X pins σ H s) (r : Vals vs us) (h : sp (vs ++ dvs) H Q E) : wpAny (model X.prog X.w) X.A (call (.ref f) us) (EP X pins σ Q) X.xe s := by
  have r2 : Vals (vs ++ dvs) (us ++ ds) := r.append hd
  have hl : (us ++ ds).length = ps.length := by rw [← r2.length]; exact F.len _ _ _ _ h
  refine wpAny_call (codeAny_mono (codeAny_toks_of (n := 1) I.tk (F.run X.A X.stack s H ⟨us, []⟩ (us ++ ds) (vs ++ dvs) Q E hr I.env0 (.inl I.tk) (hb s us I.kIn hl) r2 h)) fun r s' ⟨htk, hq⟩ => ?_)
  cases r with
  | error e => exact hx pins σ H s e s' I hq
  | ok fl =>
    cases fl with
    | ret u => exact I.after hq htk
    | next => exact False.elim hq
    | brk => exact False.elim hq
    | cont => exact False.elim hq
theorem pe_call (F : FnOk X.prog X.w X.K X.mg X.base CX k f fd ps sp) (hr : Room k X.A) (hg : Gl X x) (hm : X.mg x = some (.ref f)) (hk : PySem.W.keepIn X.K (.ref f) = true) (hb : Binds X.K fd ps ds) (hd : Vals dvs ds) (hx : Passes CX X E)
    (ha : PA X (e :: es) t) (hdb : (x == ("__debug__" : Str)) = false := by decide) (he : starEach (e :: es) X.env = (false, eval e X.env) :: starEach es X.env := by rfl) (hpl : (backTo pos (starEach es X.env)).any (·.1) = false := by rfl) :
    PE X (.Call (.Name x p) (e :: es) [] pos) (tCall sp dvs E t) := by
  intro pins s σ H Q I h
  refine wpAny_Call_Name_kw (ld_glob I hg hm ?_ hdb)
  refine PySem.W.callWith_K (h₀ := X.base) I.ok.mod.kin hk (thn5 (ha pos pins s σ H _ I h) fun us s1 vs H1 I1 r q => ⟨I1.kIn, ?_⟩) he hpl
  exact run_fn F hr hb hd hx I1 r q
theorem pe_meth {pl : Sem Bool} (he : PE X o ta) (c : Cls X.K C) (hm : Meth X.K C m f) (F : FnOk X.prog X.w X.K X.mg X.base CX k f fd ps sp) (hr : Room k X.A) (hb : Binds X.K fd ps ds) (hd : Vals dvs ds) (hx : Passes CX X E) (ha : PA X (e :: es) t)
    (hst : starEach (e :: es) X.env = (false, eval e X.env) :: starEach es X.env := by rfl) (hpl : (backTo pos (starEach es X.env)).any (·.1) = false := by rfl)
    (ht : eval (.Call (.Attribute o m apos) (e :: es) [] pos) X.env = (do
      let ov ← eval o X.env
      standAt apos.atName
      let (f, first) ← holding [ov] (getMethod ov m pl)
      callWith pos f first (backTo pos (starEach (e :: es) X.env)) (backToKw pos (keywordEach [] X.env))) := by rfl) :
    PE X (.Call (.Attribute o m apos) (e :: es) [] pos) (tMeth C m sp dvs E ta t) := by
  intro pins s σ H Q I h
  refine PySem.W.methodCall_KW (pl := pl) (thn5 (he pins s σ H _ I h) fun u s1 x H1 I1 rx ⟨a, dx, fs, ex, ea, l, q⟩ => ?_) ht
  subst ex
  obtain rfl : u = Value.ref a := rx
  refine getmeth_ok I1 ea c hm l ?_
  refine PySem.W.callWith_K (first := [.ref a]) (h₀ := X.base) I.ok.mod.kin hm.kp (thn5 (ha pos pins s1 σ H1 _ I1 q) fun us s2 vs H2 I2 r q2 => ⟨I2.kIn, ?_⟩) hst hpl
  exact run_fn (us := .ref a :: us) (vs := .ref a :: vs) F hr hb hd hx I2 (.cons rfl r) q2
theorem pe_meth0 {pl : Sem Bool} (he : PE X o ta) (c : Cls X.K C) (hm : Meth X.K C m f) (F : FnOk X.prog X.w X.K X.mg X.base CX k f fd ps sp) (hr : Room k X.A) (hb : Binds X.K fd ps ds) (hd : Vals dvs ds) (hx : Passes CX X E)
    (ht : eval (.Call (.Attribute o m apos) [] [] pos) X.env = (do
      let ov ← eval o X.env
      standAt apos.atName
      let (f, first) ← holding [ov] (getMethod ov m pl)
      callWith pos f first (backTo pos (starEach [] X.env)) (backToKw pos (keywordEach [] X.env))) := by rfl) :
    PE X (.Call (.Attribute o m apos) [] [] pos) (tMeth C m sp dvs E ta tNil) := by
  intro pins s σ H Q I h
  refine PySem.W.methodCall_KW (pl := pl) (thn5 (he pins s σ H _ I h) fun u s1 x H1 I1 rx ⟨a, dx, fs, ex, ea, l, q⟩ => ?_) ht
  subst ex
  obtain rfl : u = Value.ref a := rx
  refine getmeth_ok I1 ea c hm l ?_
  exact PySem.W.callWith_K0 (first := [.ref a]) I1.kIn hm.kp (run_fn (us := [.ref a]) (vs := [.ref a]) F hr hb hd hx I1 (.cons rfl .nil) q)
structure Mk (K : PySem.W.Frag) (C f : Addr) : Prop where
  makes : PySem.W.makesIn K C = true
  init : PySem.W.findIn K (.ref C) "__init__" = some (some (.ref f))
  fn : PySem.W.isFn K (.ref f) = true
  kp : PySem.W.keepIn K (.ref C) = true
end
structure FnScope (N P : List Str) (sc : Scope) : Prop where
  kind : sc.kind = .function
  co : sc.isCoroutine = false
  gen : sc.isGenerator = false
  nd : N.Nodup
  pre : N.take P.length = P
  par : ∀ x ∈ P, sc.names.lookup x = some .local ∨ sc.names.lookup x = some .cell
  nofree : ∀ y ∈ sc.names, y.2 ≠ .free
theorem bindL_out {kindOf : Str → Option NameKind} {x : Str} : ∀ {binds : List (Str × Value)} {m : Str → Option Value}, (∀ v, (x, v) ∉ binds) → bindL kindOf binds m x = m x
  | [], _, _ => rfl
  | (n, v) :: r, m, h => by
    unfold bindL
    rw [bindL_out fun w hw => h w (List.mem_cons_of_mem _ hw)]
    split
    · have : x ≠ n := by rintro rfl; exact h v List.mem_cons_self
      simp [this]
    · rfl
theorem bindC_out {kindOf : Str → Option NameKind} {x : Str} : ∀ {binds : List (Str × Value)} {m : Str → Option Value}, (∀ v, (x, v) ∉ binds) → bindC kindOf binds m x = m x
  | [], _, _ => rfl
  | (n, v) :: r, m, h => by
    unfold bindC
    rw [bindC_out fun w hw => h w (List.mem_cons_of_mem _ hw)]
    split
    · rfl
    · have : x ≠ n := by rintro rfl; exact h v List.mem_cons_self
      simp [this]
theorem bindL_get {kindOf : Str → Option NameKind} {x : Str} {v : Value} : ∀ {P : List Str} {vs : List Value} {i : Nat} {m : Str → Option Value}, P.Nodup → P[i]? = some x → vs[i]? = some v → kindOf x = some .local →
    bindL kindOf (P.zip vs) m x = some v
  | [], _, _, _, _, h, _, _ => by simp at h
  | _ :: _, [], _, _, _, _, h, _ => by simp at h
  | p :: P, w :: vs, 0, m, nd, h1, h2, hk => by
    simp at h1 h2; subst h1; subst h2
    show bindL kindOf ((p, w) :: P.zip vs) m p = _
    unfold bindL
    rw [bindL_out fun v hv => (List.nodup_cons.mp nd).1 (List.of_mem_zip hv).1, if_pos hk]
    simp
  | p :: P, w :: vs, i + 1, m, nd, h1, h2, hk => by
    show bindL kindOf ((p, w) :: P.zip vs) m x = _
    unfold bindL
    exact bindL_get (i := i) (List.nodup_cons.mp nd).2 (by simpa using h1) (by simpa using h2) hk
theorem bindC_get {kindOf : Str → Option NameKind} {x : Str} {v : Value} : ∀ {P : List Str} {vs : List Value} {i : Nat} {m : Str → Option Value}, P.Nodup → P[i]? = some x → vs[i]? = some v → kindOf x ≠ some .local →
    bindC kindOf (P.zip vs) m x = some v
  | [], _, _, _, _, h, _, _ => by simp at h
  | _ :: _, [], _, _, _, _, h, _ => by simp at h
  | p :: P, w :: vs, 0, m, nd, h1, h2, hk => by
    simp at h1 h2; subst h1; subst h2
    show bindC kindOf ((p, w) :: P.zip vs) m p = _
    unfold bindC
    rw [bindC_out fun v hv => (List.nodup_cons.mp nd).1 (List.of_mem_zip hv).1, if_neg hk]
    simp
  | p :: P, w :: vs, i + 1, m, nd, h1, h2, hk => by
    show bindC kindOf ((p, w) :: P.zip vs) m x = _
    unfold bindC
    exact bindC_get (i := i) (List.nodup_cons.mp nd).2 (by simpa using h1) (by simpa using h2) hk
noncomputable def start (N : List Str) (vs : List V) : St := vs.map some ++ List.replicate (N.length - vs.length) none
noncomputable def cxOf (CX : CXT) (P : Program) (w : World) (K : PySem.W.Frag) (mg : Str → Option Value) (base : Heap) (N : List Str) (qual : Str) (scope : Scope) (f : Addr) (cd : Value) (A : Around) (outer : List Env) (s : Shared) (H : Hp) (E : XK) : Cx where
  prog := P
  w := w
  K := K
  mg := mg
  base := base
  A := A.deeper (envOfC qual scope s.heap.objs.size f cd)
  N := N
  s₀ := s
  H₀ := H
  env := envOfC qual scope s.heap.objs.size f cd
  outer := outer
  stack := envOfC qual scope s.heap.objs.size f cd :: outer
  ex := []
  calm := true
  fn := fun _ => true
  pn := []
  xe := fun e s' => wpAny (model P w) (A.deeper (envOfC qual scope s.heap.objs.size f cd)) (leaving (envOfC qual scope s.heap.objs.size f cd) e) (fun _ s'' => CX outer H s E e s'') (fun e' s'' => CX outer H s E e' s'') s'
theorem cell_has {sc : Scope} {n : Nat} {x : Str} (h : sc.names.lookup x = some .cell) : ∃ c, (cellsFrom n sc.names []).lookup x = some c := by
  have q := PySem.W.cellsFrom_some sc.names n [] (.inl h)
  exact Option.isSome_iff_exists.mp q
theorem bindParamsT {M : Model} {A : Around} {E : Value → Shared → Prop} {s₀ : Shared} {env : Env} (f : Str × Value → PUnit → Sem (ForInStep PUnit)) (hf : ∀ n v u, f (n, v) u = (do storeName env n v; pure (.yield ⟨⟩))) (hk : env.scope.kind = .function) :
    ∀ (binds : List (Str × Value)) (m cm : Str → Option Value) (s : Shared) (Q : PUnit → Shared → Prop), InCallC s₀ env.locals m env.cells cm s →
      (∀ x ∈ binds, env.kindOf x.1 = some .local ∨ (env.kindOf x.1 = some .cell ∧ (env.cells.lookup x.1).isSome = true)) →
      (∀ s', InCallC s₀ env.locals (bindL env.kindOf binds m) env.cells (bindC env.kindOf binds cm) s' → ((0 < s.toks ∨ ∃ b ∈ binds, env.kindOf b.1 = some .local) → 0 < s'.toks) → Q ⟨⟩ s') → wpAny M A (forIn binds ⟨⟩ f) Q E s
  | [], m, cm, s, Q, x, _, h => by
    rw [List.forIn_nil]
    exact wpAny_pure (h s x fun z => z.elim id fun ⟨b, hb, _⟩ => absurd hb (by simp))
  | (n, v) :: r, m, cm, s, Q, x, hkind, h => by
    rw [List.forIn_cons, hf]
    have hr : ∀ y ∈ r, env.kindOf y.1 = some .local ∨ (env.kindOf y.1 = some .cell ∧ (env.cells.lookup y.1).isSome = true) := fun y hy => hkind y (List.mem_cons_of_mem _ hy)
    rcases hkind (n, v) List.mem_cons_self with hl | ⟨hl, hc⟩
    · refine wpAny_bind (wpAny_bind (wpAny_storeName_local hl x.toInCall.ns (fun h' hn' hs' => wpAny_pure (bindParamsT f hf hk r (fun y => if y = n then some v else m y) cm _ Q ⟨⟨?_, hn', fun b o e => ?_, x.toInCall.fresh⟩, fun k c hc => ?_, x.apart, x.above⟩ hr fun s'' x'' ht => h s'' ?_ fun _ => ht (.inl (Nat.succ_pos _)))) (by rw [hk]; rfl)))
      · obtain ⟨h₁, tk, rfl⟩ := x.toInCall.same
        exact ⟨h', _, rfl⟩
      · exact hs'.extBut b o (Nat.ne_of_lt (Nat.lt_of_lt_of_le (Heap.lt_size e) x.toInCall.fresh)) (x.toInCall.keep b o e)
      · exact (x.cell k c hc).sameBut hs' (Nat.ne_of_gt (x.above k c (PySem.mem_of_lookup hc)))
      · unfold bindL bindC; rw [if_pos hl, if_pos hl]; exact x''
    · obtain ⟨c, hc⟩ := Option.isSome_iff_exists.mp hc
      have hnl : ¬ env.kindOf n = some .local := by rw [hl]; decide
      refine wpAny_bind (wpAny_bind (wpAny_with_toks (n := s.toks) (Nat.le_refl _) (stCC x hk hl hc fun s' x' hle => wpAny_pure (bindParamsT f hf hk r m _ s' Q x' hr fun s'' x'' ht => h s'' ?_ fun z => ht ?_))))
      · unfold bindL bindC; rw [if_neg hnl, if_neg hnl]; exact x''
      · rcases z with z | ⟨b, hb, hbl⟩
        · exact .inl (Nat.lt_of_lt_of_le z hle)
        · rcases List.mem_cons.mp hb with rfl | hb
          · exact absurd hbl hnl
          · exact .inr ⟨b, hb, hbl⟩
theorem newEnvT {M : Model} {A : Around} {E : Value → Shared → Prop} {s : Shared} {scope : Scope} {globals : Addr} {binds : List (Str × Value)} {qual : Str} {func : Option Addr} {code : Value} {builtins : Addr} {Q : Env → Shared → Prop}
    (hk : scope.kind = .function)
    (hkind : ∀ x ∈ binds, scope.names.lookup x.1 = some .local ∨ (scope.names.lookup x.1 = some .cell ∧ ((cellsFrom (s.heap.objs.size + 1) scope.names []).lookup x.1).isSome = true))
    (hQ : ∀ env, env = newEnv scope s.heap.objs.size globals (cellsFrom (s.heap.objs.size + 1) scope.names []) qual func code none builtins →
      ∀ s', InCallC s env.locals (bindL env.kindOf binds fun _ => none) env.cells (bindC env.kindOf binds fun _ => none) s' → ((0 < s.toks ∨ ∃ b ∈ binds, scope.names.lookup b.1 = some .local) → 0 < s'.toks) → Q env s') :
    wpAny M A (newFunctionEnv scope globals [] binds qual func code none builtins) Q E s := by
  simp only [newFunctionEnv, Option.isSome_none, Bool.false_eq_true, if_false]
  refine wpAny_bind (wpAny_alloc ?_)
  refine wpAny_bind (wpAny_layCells _ (fun name kind cells => by cases hkc : kind == NameKind.cell <;> simp [hkc]) _ _ _ _ ?_)
  have ok := cellsFrom_ok scope.names (s.heap.push { cls := .type "frame", data := .dict #[] }) (s.heap.objs.size + 1) [] ⟨fun _ _ hm => (nomatch hm), List.Pairwise.nil⟩ (by rw [Heap.size_push]; exact Nat.le_refl _)
  rw [Heap.size_push] at ok
  rw [show ({ s with heap := s.heap.push { cls := .type "frame", data := .dict #[] } } : Shared).heap.objs.size = s.heap.objs.size + 1 from Heap.size_push ..]
  refine wpAny_bind (bindParamsT (s₀ := s) (env := newEnv scope s.heap.objs.size globals (cellsFrom (s.heap.objs.size + 1) scope.names []) qual func code none builtins)
    _ (fun _ _ _ => rfl) hk binds (fun _ => none) (fun _ => none) _ _
    ⟨⟨⟨_, _, rfl⟩, (Heap.Ns.new s.heap (.type "frame")).keeps (pushCells_keeps _ _), fun b o e => pushCells_keeps _ _ b o (Heap.get?_push_of_some _ e), Nat.le_refl _⟩,
      fun n c hc => (ok.empty n c (PySem.mem_of_lookup hc)).1, ok.apart, fun n c hm => (ok.empty n c hm).2⟩
    hkind fun s' x ht => wpAny_pure (hQ _ rfl s' x ht))
theorem inv_start {CX : CXT} {P : Program} {w : World} {K : PySem.W.Frag} {mg : Str → Option Value} {base : Heap} {N ps : List Str} {qual : Str} {scope : Scope} {f : Addr} {cd : Value} {A : Around} {outer : List Env} {s s1 : Shared} {H : Hp} {E : XK} {us : List Value} {vs : List V}
    (S : FnScope N ps scope) (hd : A.handled = none) (e0 : Env0 P w K mg base A outer s H) (hl : vs.length = ps.length) (r : Vals vs us)
    (x : InCallC s s.heap.objs.size (bindL (envOfC qual scope s.heap.objs.size f cd).kindOf (ps.zip us) fun _ => none) (cellsFrom (s.heap.objs.size + 1) scope.names []) (bindC (envOfC qual scope s.heap.objs.size f cd).kindOf (ps.zip us) fun _ => none) s1) (ht : 0 < s1.toks) :
    Inv (cxOf CX P w K mg base N qual scope f cd A outer s H E) [] (start N vs) H s1 := by
  have hpl : ps.length ≤ N.length := by have := congrArg List.length S.pre; rw [List.length_take] at this; lia
  obtain ⟨h1, tk, rfl, hk⟩ := x.done
  have noA : ∀ b : Addr, b ∉ (cxOf CX P w K mg base N qual scope f cd A outer s H E).ex := fun b z => absurd (show b ∈ ([] : List Addr) from z) (by simp)
  refine ⟨⟨e0.mod, S.kind, rfl, rfl, Nat.le_refl _, fun y z c h1 h2 => ?_, fun y hy => ?_, fun y c _ h => ?_, fun _ => hd, Around.frames_deeper e0.frames, .inr ⟨rfl, rfl⟩, fun b z => absurd z (noA b), e0.bs, e0.bsz, fun b _ _ => noA b, fun b z => absurd z (noA b), e0.funs, e0.frf⟩,
    rfl, e0.bare, Un.kept hk, ⟨_, x.toInCall.ns, fun i y v h1 h2 h3 => ?_⟩, fun y c h => ⟨_, x.cell y c h⟩, e0.hok.fresh (Nat.le_refl _), fun y c h => ?_, fun p hp => absurd (show p ∈ ([] : List (Addr × Obj)) from hp) (by simp), e0.hok.kept hk, ?_, ht⟩
  · exact name_of_addr x.apart (PySem.mem_of_lookup h1) (PySem.mem_of_lookup h2)
  · have hy : scope.names.lookup y = some .cell ∨ scope.names.lookup y = some .free := hy
    rcases hy with hy | hy
    · exact cell_has hy
    · exact absurd rfl (S.nofree _ (PySem.mem_of_lookup hy))
  · exact Nat.le_of_lt (x.above y c (PySem.mem_of_lookup h))
  · have hi : i < vs.length := by
      unfold start at h2
      by_cases hi : i < vs.length
      · exact hi
      · rw [List.getElem?_append_right (by simpa using hi)] at h2
        rw [List.getElem?_replicate] at h2
        split at h2 <;> cases h2
    have ha : vs[i]? = some v := by
      unfold start at h2
      rw [List.getElem?_append_left (by simpa using hi), List.getElem?_map] at h2
      cases e : vs[i]? with
      | none => rw [e] at h2; cases h2
      | some a => rw [e] at h2; cases h2; rfl
    obtain ⟨u, hu, rv⟩ := r.get ha
    have hp : ps[i]? = some y := by
      rw [← S.pre, List.getElem?_take_of_lt (by lia)]; exact h1
    have ndP : ps.Nodup := by rw [← S.pre]; exact S.nd.sublist (List.take_sublist _ _)
    refine ⟨u, rv, ?_⟩
    rcases S.par y (List.mem_of_getElem? hp) with k | k
    · exact .inl ⟨k, bindL_get ndP hp hu k⟩
    · obtain ⟨c, e⟩ := cell_has (n := s.heap.objs.size + 1) k
      refine .inr ⟨.inl k, c, e, ?_⟩
      have q := x.cell y c e
      rw [bindC_get ndP hp hu (by show scope.names.lookup y ≠ _; rw [k]; decide)] at q
      exact q
  · exact e0.hok.fresh (Nat.le_of_lt (x.above y c (PySem.mem_of_lookup h)))
  · unfold start
    show _ = N.length
    rw [List.length_append, List.length_map, List.length_replicate]
    lia
theorem fn_of {CX : CXT} {P : Program} {w : World} {K : PySem.W.Frag} {mg : Str → Option Value} {base : Heap} {k : Nat} {f : Addr} {name qual : Str} {params : Arguments} {body : List Stmt} {scope : Scope} {dV kV doc pm cdv ct oc : Value} {an od : Option Addr}
    {osl : Array (Option Value)} {N ps : List Str} {sp : Sp} (lk : K.lookup f = some ⟨oc, od, .func (PySem.W.fnOf name qual params body scope dV kV doc pm an cdv ct), osl⟩) (hcd : PySem.W.codeIn K cdv qual = true) (S : FnScope N ps scope)
    (len : ∀ vs H Q E, sp vs H Q E → vs.length = ps.length)
    (hbody : ∀ (A : Around) (outer : List Env) (s : Shared) (H : Hp) (vs : List V) (Q : VK) (E : XK), Room k (A.deeper (envOfC qual scope s.heap.objs.size f cdv)) → sp vs H Q E →
      ∃ t, PSs (cxOf CX P w K mg base N qual scope f cdv A outer s H E) body t ∧ t { nx := fun _ H' => Q .non H', rt := Q } (start N vs) H) :
    FnOk P w K mg base CX (k + 1) f (PySem.W.fnOf name qual params body scope dV kV doc pm an cdv ct) ps sp := by
  refine ⟨len, fun A outer s H args us vs Q E hr e0 htk hb r hsp => ?_⟩
  have hl := len _ _ _ _ hsp
  have KX : K.In s.heap := e0.mod.kin.keeps fun b o e => (e0.bs b o e).1
  have lim : s.heap.NoLimit := e0.mod.nolimit.keeps fun b o e => (e0.bs b o e).1
  have hkind : ∀ y ∈ ps.zip us, scope.names.lookup y.1 = some .local ∨ (scope.names.lookup y.1 = some .cell ∧ ((cellsFrom (s.heap.objs.size + 1) scope.names []).lookup y.1).isSome = true) := fun ⟨n, v⟩ hy => by
    rcases S.par n (List.of_mem_zip hy).1 with q | q
    · exact .inl q
    · exact .inr ⟨q, PySem.W.cellsFrom_some _ _ _ (.inl q)⟩
  refine codeAny_call_function hr.depth (KX _ _ lk) rfl S.co S.gen rfl (PySem.W.codeRec_of KX hcd) (hb _ _ _ _ ?_)
  refine newEnvT S.kind hkind fun env he s1 x htk1 => ?_
  subst he
  refine ⟨lim.keeps x.toInCall.keep, codeAny_func ?_⟩
  obtain ⟨t, ht, hq⟩ := hbody A outer s H vs Q E (hr.deeper _) hsp
  have I : Inv (cxOf CX P w K mg base N qual scope f cdv A outer s H E) [] (start N vs) H s1 := inv_start S hr.hd e0 hl r x (htk1 (htk.imp id fun ⟨p, hp, hpl⟩ => by
    obtain ⟨i, hi, e⟩ := List.mem_iff_getElem.mp hp
    have hu : i < us.length := by rw [← r.length, hl]; exact hi
    exact ⟨(p, us[i]), List.mem_iff_getElem.mpr ⟨i, by rw [List.length_zip]; lia, by rw [List.getElem_zip, e]⟩, hpl⟩))
  refine wpAny_mono (ht [] s1 (start N vs) H _ I hq) (fun fl s' hs => ?_) fun e s' hs => hs
  have fin : ∀ {σ' : St} {H' : Hp} {v : V} {u : Value}, Inv (cxOf CX P w K mg base N qual scope f cdv A outer s H E) [] σ' H' s' → RelV v u → Q v H' → CE outer P w H s Q u s' :=
    fun {σ' H' v u} J rv q => ⟨v, H', J.os, J.bare, J.base, J.hok, rv, q⟩
  cases fl with
  | ret u =>
    obtain ⟨v, σ', H', J, rv, q⟩ := hs
    exact fin J rv q
  | next =>
    obtain ⟨σ', H', J, q⟩ := hs
    exact fin (v := V.non) (u := Value.none) J rfl q
  | brk =>
    obtain ⟨_, _, _, q⟩ := hs
    exact False.elim q
  | cont =>
    obtain ⟨_, _, _, q⟩ := hs
    exact False.elim q
end L2
namespace L2
open PySem PySem.Spec PyProof.Rows
section
variable {X : Cx} {x : Str} {p pos : Pos} {e : Expr} {es : List Expr} {t : TA} {id T : String} {r : List V → Hp → VK → Prop}
def tCB (r : List V → Hp → VK → Prop) (t : TA) : TE := fun σ H Q => t σ H fun vs H1 => r vs H1 Q
theorem pe_callB (hc : CallR X (.builtin id) r) (hg : Gl X x) (hm : X.mg x = none) (hv : bootBuiltins x = some (.builtin id)) (ha : PA X (e :: es) t) (hn : x ≠ "__name__" := by decide) (hdb : (x == ("__debug__" : Str)) = false := by decide)
    (he : starEach (e :: es) X.env = (false, eval e X.env) :: starEach es X.env := by rfl) (hpl : (backTo pos (starEach es X.env)).any (·.1) = false := by rfl) : PE X (.Call (.Name x p) (e :: es) [] pos) (tCB r t) := by
  intro pins s σ H Q I h
  refine wpAny_Call_Name_kw (ld_blt I hg hm hv ?_ hn hdb)
  exact PyProof.Rows.callWith_builtin1 (thn5 (ha pos pins s σ H _ I h) fun us s1 vs H1 I1 r1 q1 => hc pins s1 σ H1 vs us Q I1 r1 q1) he hpl
theorem pe_callTy (hc : CallR X (.type T) r) (hg : Gl X x) (hm : X.mg x = none) (hv : bootBuiltins x = some (.type T)) (ha : PA X (e :: es) t) (hn : x ≠ "__name__" := by decide) (hdb : (x == ("__debug__" : Str)) = false := by decide)
    (he : starEach (e :: es) X.env = (false, eval e X.env) :: starEach es X.env := by rfl) (hpl : (backTo pos (starEach es X.env)).any (·.1) = false := by rfl) : PE X (.Call (.Name x p) (e :: es) [] pos) (tCB r t) := by
  intro pins s σ H Q I h
  refine wpAny_Call_Name_kw (ld_blt I hg hm hv ?_ hn hdb)
  exact PyProof.Rows.callWith_type1 (thn5 (ha pos pins s σ H _ I h) fun us s1 vs H1 I1 r1 q1 => hc pins s1 σ H1 vs us Q I1 r1 q1) he hpl
end
end L2
namespace HT
open PySem PyProof.Rows
section
variable {prog : Program} {w : World} {A : Around} {E : Value → Shared → Prop} {s : Shared}
theorem cat_tup {t b : Addr} {vs ws : List Value} {Q : Value → Shared → Prop} (ht : IsTup s.heap t vs.toArray) (hb : IsTup s.heap b ws.toArray) (hv : vs ≠ [])
    (h1 : ws = [] → Q (.ref t) s) (h2 : ws ≠ [] → Q (.ref s.heap.objs.size) { s with heap := s.heap.push { cls := .type "tuple", data := .seq (vs ++ ws).toArray } })
    (hsz : vs.length + ws.length ≤ sizeLine) : wpAny (model prog w) A (binaryOp .Add (.ref t) (.ref b)) Q E s := by
  obtain ⟨⟨cls, dd, data, sl⟩, ho, hc, n, hd⟩ := id ht
  obtain ⟨⟨cls2, dd2, data2, sl2⟩, ho2, hc2, n2, hd2⟩ := id hb
  simp only at hc hd hc2 hd2
  subst hc hd hc2 hd2
  have e : vs.toArray ++ ws.toArray = (vs ++ ws).toArray := by simp
  by_cases hw : ws = []
  · exact concat_meets ⟨_, ho, rfl⟩ ⟨_, ho2, rfl⟩ noFill_tuple_add seq_tuple_add PySem.F.slot_tuple_add PySem.F.entry_tuple_add (PySem.F.args_tuple_add_2 _ _)
      (tuple_addW1 t b vs.toArray ws.toArray n n2 dd dd2 sl sl2 (by simpa using hv) (by simp [hw])) ⟨ho, ho2, h1 hw⟩
  · refine concat_meets ⟨_, ho, rfl⟩ ⟨_, ho2, rfl⟩ noFill_tuple_add seq_tuple_add PySem.F.slot_tuple_add PySem.F.entry_tuple_add (PySem.F.args_tuple_add_2 _ _)
      (tuple_addW2 t b vs.toArray ws.toArray n n2 dd dd2 sl sl2 (by simpa using hv) (by simpa using hw) (by rw [List.size_toArray, List.size_toArray]; exact hsz)) ⟨ho, ho2, ?_⟩
    rw [e]
    exact h2 hw
end
end HT
namespace L2
open PySem PySem.Spec PyProof.Rows
abbrev TO := St → Hp → (Option Int → Hp → Prop) → Prop
section
variable {X : Cx} {e : Expr} {te : TE} {lo hi : Option Expr} {tl th : TO} {pos p2 : Pos}
def rCatT (K : PySem.W.Frag) : R2 := fun x y H Q => ∃ a b xs ys, x = .ref a ∧ y = .ref b ∧ SqT K H a xs ∧ SqT K H b ys ∧ xs ≠ [] ∧ xs.length + ys.length ≤ sizeLine ∧
  (ys = [] → Q (.ref a) H) ∧ (ys ≠ [] → ∀ p, H p = none → Q (.ref p) (upd H p (.tup (xs ++ ys))))
theorem Vals.nil_iff {xs : List V} {us : List Value} (r : Vals xs us) : us = [] ↔ xs = [] := by
  cases r with
  | nil => simp
  | cons _ _ => simp
theorem op_catT : OpR X (binaryOp .Add) (rCatT X.K) := by
  intro pins s σ H x y v u Q I rx ry h
  obtain ⟨a, b, xs, ys, rfl, rfl, ha, hb, hx, hz, q1, q2⟩ := h
  cases rx
  cases ry
  obtain ⟨its, r1, p1, _⟩ := I.tuple ha
  obtain ⟨its2, r2, p2, _⟩ := I.tuple hb
  refine HT.cat_tup p1 p2 (fun z => hx (r1.nil_iff.mp z)) (fun z => ⟨.ref a, H, I, rfl, q1 (r2.nil_iff.mp z)⟩) (fun z => ?_) (by rw [← r1.length, ← r2.length]; exact hz)
  refine ⟨.ref s.heap.objs.size, _, I.laid (t' := s.toks) (o := .tup (xs ++ ys)) (fun b ob q => Heap.get?_push_of_some _ q) (Nat.le_refl _) ?_, rfl, q2 (fun w => z (r2.nil_iff.mpr w)) _ (I.hok.fresh (Nat.le_refl _))⟩
  exact ⟨by rw [List.length_append]; exact hz, _, r1.append r2, IsTup.new _ _⟩
end
end L2
namespace L2
open PySem PySem.Spec PyProof.Rows
noncomputable def ixN (n : Nat) (i : Int) : Option Nat := if 0 ≤ i then (if i < n then some i.toNat else none) else if -(n : Int) ≤ i then some (i + n).toNat else none
def atI {α : Type} (xs : List α) (i : Int) : Option α := (ixN xs.length i).bind fun j => xs[j]?
theorem ixN_seq {n : Nat} {i : Int} {j : Nat} (h : ixN n i = some j) : seqIndex? i n = some j ∧ j < n ∧ -(n : Int) ≤ i ∧ i < n := by
  unfold ixN at h
  by_cases h0 : 0 ≤ i
  · rw [if_pos h0] at h
    by_cases h1 : i < n
    · rw [if_pos h1] at h
      have e : i.toNat = j := Option.some.inj h
      exact ⟨by rw [seqIndex_of h0 h1, e], by lia, by lia, h1⟩
    · rw [if_neg h1] at h; cases h
  · rw [if_neg h0] at h
    by_cases h1 : -(n : Int) ≤ i
    · rw [if_pos h1] at h
      have e : (i + n).toNat = j := Option.some.inj h
      exact ⟨by rw [seqIndex_neg (by lia) h1, e], by lia, h1, by lia⟩
    · rw [if_neg h1] at h; cases h
theorem atI_get {α : Type} {xs : List α} {i : Int} {v : α} (h : atI xs i = some v) : ∃ j, seqIndex? i xs.length = some j ∧ xs[j]? = some v ∧ j < xs.length ∧ -(xs.length : Int) ≤ i ∧ i < xs.length := by
  unfold atI at h
  cases e : ixN xs.length i with
  | none => rw [e] at h; cases h
  | some j =>
    rw [e] at h
    obtain ⟨h1, h2, h3, h4⟩ := ixN_seq e
    exact ⟨j, h1, h, h2, h3, h4⟩
def PlainIx (b : Expr) : Prop := ∀ o i, subscripted b false o i = operate [o, i] (getItem o i)
def IxR (X : Cx) (r : R2) : Prop :=
  ∀ (value slice : Expr) (pins : List (Addr × Obj)) (s : Shared) (σ : St) (H : Hp) (x y : V) (v u : Value) (Q : VK), Inv X pins σ H s → RelV x v → RelV y u → r x y H Q →
    subscripted slice false v u = operate [v, u] (getItem v u) → wpAny (model X.prog X.w) X.A (subscriptTail value slice v u) (EP X pins σ Q) X.xe s
def MtR (X : Cx) (id : String) (r : V → List V → Hp → VK → Prop) : Prop :=
  ∀ (pins : List (Addr × Obj)) (s : Shared) (σ : St) (H : Hp) (x : V) (xs : List V) (v : Value) (us : List Value) (Q : VK), Inv X pins σ H s → RelV x v → Vals xs us → r x xs H Q →
    wpAny (model X.prog X.w) X.A (call (.builtin id) (v :: us)) (EP X pins σ Q) X.xe s
section
variable {X : Cx} {a b : Expr} {ta tb : TE} {pos : Pos}
theorem IxR.or {r r' : R2} (h : IxR X r) (h' : IxR X r') : IxR X (fun x y H Q => r x y H Q ∨ r' x y H Q) := by
  intro value slice pins s σ H x y v u Q I rx ry q hs
  rcases q with q | q
  · exact h value slice pins s σ H x y v u Q I rx ry q hs
  · exact h' value slice pins s σ H x y v u Q I rx ry q hs
theorem pe_ix {r : R2} (hr : IxR X r) (ha : PE X a ta) (hb : PE X b tb) (hs : PlainIx b) : PE X (.Subscript a b pos) (tOp r ta tb) := by
  intro pins s σ H Q I h
  exact Subscript_ (binT ha hb I h fun v u s2 x y H2 I2 rx ry q => hr a b pins s2 σ H2 x y v u Q I2 rx ry q (hs _ _))
def rIxL (K : PySem.W.Frag) : R2 := fun x y H Q => ∃ p xs i v, x = .ref p ∧ y = .int i ∧ SqL K H p xs ∧ atI xs i = some v ∧ Q v H
def rIxT (K : PySem.W.Frag) : R2 := fun x y H Q => ∃ p xs i v, x = .ref p ∧ y = .int i ∧ SqT K H p xs ∧ atI xs i = some v ∧ Q v H
def rIxS : R2 := fun x y H Q => ∃ z i c, x = .str z ∧ y = .int i ∧ z.length ≤ sizeLine ∧ atI z.cps.toList i = some c ∧ Q (.str ⟨#[c]⟩) H
theorem ix_list : IxR X (rIxL X.K) := by
  intro value slice pins s σ H x y v u Q I rx ry h hs
  obtain ⟨p, xs, i, z, rfl, rfl, hq, he, q⟩ := h
  cases rx
  obtain ⟨t, rfl⟩ := ry
  obtain ⟨its, r, pl, hz⟩ := I.list hq
  obtain ⟨j, h1, h2, h3, h4, h5⟩ := atI_get he
  obtain ⟨w, ew, rw'⟩ := r.get h2
  have hl := r.length
  have hn := line63
  have fin : EP X pins σ Q w s := ⟨z, H, I, rw', q⟩
  by_cases h0 : 0 ≤ i
  · have hj : i.toNat = j := by
      rw [seqIndex_of h0 h5] at h1
      exact Option.some.inj h1
    exact item_listR pl.isList h0 (by lia) (by rw [hj]; simpa using ew) fin hs
  · have hj : (i + (its.toArray.size : Int)).toNat = j := by
      rw [seqIndex_neg (by lia) h4] at h1
      rw [List.size_toArray, ← hl]
      exact Option.some.inj h1
    exact subscriptTail_builtinR (x := w) pl.isList.typeIs slot_list_getitem.lookup
      (wpAny_getItem_list_neg (Q := fun r s' => r = w ∧ EP X pins σ Q r s') pl.isList (by lia) (by rw [List.size_toArray] <;> lia) (by lia) (by rw [hj]; simpa using ew) ⟨rfl, fin⟩) hs
theorem ix_tup : IxR X (rIxT X.K) := by
  intro value slice pins s σ H x y v u Q I rx ry h hs
  obtain ⟨p, xs, i, z, rfl, rfl, hq, he, q⟩ := h
  cases rx
  obtain ⟨t, rfl⟩ := ry
  obtain ⟨its, r, pl, hz⟩ := I.tuple hq
  obtain ⟨j, h1, h2, h3, h4, h5⟩ := atI_get he
  obtain ⟨w, ew, rw'⟩ := r.get h2
  have hl := r.length
  have hn := line63
  have fin : EP X pins σ Q w s := ⟨z, H, I, rw', q⟩
  exact subscriptTail_builtinR (x := w) pl.typeIs slot_tuple_getitem.lookup
    (getItem_tuple (j := j) (Q := fun r s' => r = w ∧ EP X pins σ Q r s') pl (by lia) (by lia) (by rw [List.size_toArray, ← hl]; exact h1) (by simpa using ew) ⟨rfl, fin⟩) hs
theorem ix_str : IxR X rIxS := by
  intro value slice pins s σ H x y v u Q I rx ry h hs
  obtain ⟨z, i, c, rfl, rfl, hz, he, q⟩ := h
  obtain ⟨t, rfl⟩ := rx
  obtain ⟨t', rfl⟩ := ry
  obtain ⟨j, h1, h2, h3, h4, h5⟩ := atI_get he
  have hl : z.cps.toList.length = z.length := by simp [Str.length]
  rw [hl] at h1 h4 h5
  have hn := line63
  exact tail_any (typeIs_str s z t) slot_str_getitem.lookup (getItem_str (c := c) (by
    have e1 : decide (i < -(2 ^ 63 : Int)) = false := decide_eq_false (by lia)
    have e2 : decide (i ≥ 2 ^ 63) = false := decide_eq_false (by lia)
    rw [e1, e2, Bool.or_false]) (by rw [h1]; simpa using h2) ⟨.str ⟨#[c]⟩, H, I.tok _, ⟨_, rfl⟩, q⟩) hs
theorem mapSeq_set (its : List Value) (n j : Nat) (u : Value) : Obj.mapSeq (·.setIfInBounds j u) { cls := .type "list", data := .seq its.toArray n } = { cls := .type "list", data := .seq (its.set j u).toArray n } := by
  simp [Obj.mapSeq]
theorem Inv.lst {pins : List (Addr × Obj)} {σ : St} {H : Hp} {s : Shared} {p : Addr} {xs : List V} (I : Inv X pins σ H s) (h : H p = some (.lst xs)) :
    ∃ (its : List Value) (n : Nat), Vals xs its ∧ s.heap.get? p = some { cls := .type "list", data := .seq its.toArray n } ∧ xs.length ≤ sizeLine := by
  obtain ⟨z, its, n, r, e⟩ := I.hok p _ h
  exact ⟨its, n, r, e, z⟩
theorem Inv.lstUpd {pins : List (Addr × Obj)} {σ : St} {H : Hp} {s : Shared} {p : Addr} {xs ys : List V} {its its' : List Value} {n n' : Nat} {f : Obj → Obj} (I : Inv X pins σ H s) (h : H p = some (.lst xs))
    (ho : s.heap.get? p = some { cls := .type "list", data := .seq its.toArray n }) (hf : f { cls := .type "list", data := .seq its.toArray n } = { cls := .type "list", data := .seq its'.toArray n' }) (r : Vals ys its') (hz : ys.length ≤ sizeLine) (t : Nat) (ht : 0 < t := by first | exact Nat.succ_pos _ | assumption | exact Inv.tk (by assumption) | lia) :
    Inv X pins σ (upd H p (.lst ys)) { s with heap := s.heap.update p f, toks := t } := by
  have e : (s.heap.update p f).get? p = some { cls := .type "list", data := .seq its'.toArray n' } := by
    rw [Heap.get?_update_self f ho (by rw [hf] <;> rfl), hf]
  refine I.write (x := p) (e := p) (by rw [h]; trivial) (.inl rfl) (fun b u hb q => (Heap.get?_update_other _ _ (Ne.symm hb)).trans q) ⟨_, e⟩ ?_
  exact ⟨hz, its', n', r, e⟩
def rSetL : V → V → V → Hp → (Hp → Prop) → Prop := fun o i v H Q => ∃ p xs k j, o = .ref p ∧ i = .int k ∧ H p = some (.lst xs) ∧ ixN xs.length k = some j ∧ Q (upd H p (.lst (xs.set j v)))
theorem set_list : PSet X rSetL := by
  intro pins s σ H o i v ov iv u Q I ro ri rv h
  obtain ⟨p, xs, k, j, rfl, rfl, hp, hj, q⟩ := h
  cases ro
  obtain ⟨t, rfl⟩ := ri
  obtain ⟨its, n, r, ho, hz⟩ := I.lst hp
  obtain ⟨h1, h2, h3, h4⟩ := ixN_seq hj
  have hl := r.length
  have hn := line63
  have I' : Inv X pins σ (upd H p (.lst (xs.set j v))) { s with heap := s.heap.update p (Obj.mapSeq (·.setIfInBounds j u)) } :=
    I.lstUpd hp ho (mapSeq_set its n j u) (r.set rv j) (by rw [List.length_set]; exact hz) s.toks
  by_cases h0 : 0 ≤ k
  · have hk : k.toNat = j := by
      rw [seqIndex_of h0 h4] at h1
      exact Option.some.inj h1
    exact PySem.W.ki_setAt ho h0 (by lia) (by rw [List.size_toArray, ← hl]; exact h4) (by rw [hk]; exact ⟨_, I', q⟩)
  · have hk : (k + (its.toArray.size : Int)).toNat = j := by
      rw [seqIndex_neg (by lia) h3] at h1
      rw [List.size_toArray, ← hl]
      exact Option.some.inj h1
    exact PySem.W.ki_setBack ho (by lia) (by rw [List.size_toArray, ← hl]; exact h3) (by lia) (by rw [hk]; exact ⟨_, I', q⟩)
noncomputable def flatV : V → Bool
  | .non => true
  | .bl _ => true
  | .int _ => true
  | .str _ => true
  | _ => false
noncomputable def eqV : V → V → Bool
  | .non, .non => true
  | .bl a, .bl b => a == b
  | .bl a, .int b => (if a then 1 else 0) == b
  | .int a, .bl b => a == (if b then 1 else 0)
  | .int a, .int b => a == b
  | .str a, .str b => a == b
  | _, _ => false
theorem eqAt_V {A : Around} {s : Shared} {y x : V} {u v : Value} (ry : RelV y u) (rx : RelV x v) (fy : flatV y = true) (fx : flatV x = true) : SeqAt.EqAt A s u v (eqV y x) := by
  cases y with
  | non =>
    cases ry
    cases x with
    | non => cases rx; exact SeqAt.EqAt.same _
    | bl b => cases rx; exact SeqAt.EqAt.none_bool b
    | int b => obtain ⟨t, rfl⟩ := rx; exact SeqAt.EqAt.none_int b t
    | str b => obtain ⟨t, rfl⟩ := rx; exact SeqAt.EqAt.none_str b t
    | _ => exact absurd (show false = true from fx) Bool.false_ne_true
  | bl a =>
    cases ry
    cases x with
    | non => cases rx; exact SeqAt.EqAt.bool_none a
    | bl b => cases rx; exact SeqAt.EqAt.bool_bool a b
    | int b => obtain ⟨t, rfl⟩ := rx; exact SeqAt.EqAt.bool_int a b t
    | str b => obtain ⟨t, rfl⟩ := rx; exact SeqAt.EqAt.bool_str a b t
    | _ => exact absurd (show false = true from fx) Bool.false_ne_true
  | int a =>
    obtain ⟨t', rfl⟩ := ry
    cases x with
    | non => cases rx; exact SeqAt.EqAt.int_none a t'
    | bl b => cases rx; exact SeqAt.EqAt.int_bool a t' b
    | int b => obtain ⟨t, rfl⟩ := rx; exact SeqAt.EqAt.int_int a t' b t
    | str b => obtain ⟨t, rfl⟩ := rx; exact SeqAt.EqAt.int_str a t' b t
    | _ => exact absurd (show false = true from fx) Bool.false_ne_true
  | str a =>
    obtain ⟨t', rfl⟩ := ry
    cases x with
    | non => cases rx; exact SeqAt.EqAt.str_none a t'
    | bl b => cases rx; exact SeqAt.EqAt.str_bool a t' b
    | int b => obtain ⟨t, rfl⟩ := rx; exact SeqAt.EqAt.str_int a t' b t
    | str b => obtain ⟨t, rfl⟩ := rx; exact SeqAt.EqAt.str_str a t' b t
    | _ => exact absurd (show false = true from fx) Bool.false_ne_true
  | _ => exact absurd (show false = true from fy) Bool.false_ne_true
def eqU (x : V) (u : Value) : Bool := match u with
  | .none => eqV .non x
  | .bool b => eqV (.bl b) x
  | .int i _ => eqV (.int i) x
  | .str z _ => eqV (.str z) x
  | _ => false
theorem eqU_of {x y : V} {u : Value} (r : RelV y u) (f : flatV y = true) : eqU x u = eqV y x := by
  cases y with
  | non => cases r; rfl
  | bl b => cases r; rfl
  | int i => obtain ⟨t, rfl⟩ := r; rfl
  | str z => obtain ⟨t, rfl⟩ := r; rfl
  | _ => exact absurd (show false = true from f) Bool.false_ne_true
theorem any_eqU {x : V} : ∀ {xs : List V} {us : List Value}, Vals xs us → xs.all flatV = true → us.any (eqU x) = xs.any fun y => eqV y x
  | _, _, .nil, _ => rfl
  | y :: xs, u :: us, .cons r t, f => by
    rw [List.all_cons, Bool.and_eq_true] at f
    rw [List.any_cons, List.any_cons, eqU_of r f.1, any_eqU t f.2]
theorem mem_eqAt {A : Around} {s : Shared} {x : V} {v : Value} (rx : RelV x v) (fx : flatV x = true) : ∀ {xs : List V} {us : List Value}, Vals xs us → xs.all flatV = true → ∀ u ∈ us, SeqAt.EqAt A s u v (eqU x u)
  | _, _, .nil, _ => fun u hu => by cases hu
  | y :: xs, u :: us, .cons r t, f => fun u' hu => by
    rw [List.all_cons, Bool.and_eq_true] at f
    rcases List.mem_cons.mp hu with rfl | hu
    · rw [eqU_of r f.1]; exact eqAt_V r rx f.1 fx
    · exact mem_eqAt rx fx t f.2 u' hu
def inV (x : V) (xs : List V) : Bool := xs.any fun y => eqV y x
def rIn (K : PySem.W.Frag) (neg : Bool) : R2 := fun x y H Q => ∃ p xs, y = .ref p ∧ (SqL K H p xs ∨ SqT K H p xs) ∧ flatV x = true ∧ xs.all flatV = true ∧ Q (.bl (if neg then !inV x xs else inV x xs)) H
theorem op_notIn_seq : OpR X (compareOp .NotIn) (rIn X.K true) := by
  intro pins s σ H x y v u Q I rx ry h
  obtain ⟨p, xs, rfl, hq, fx, fs, q⟩ := h
  cases ry
  rcases hq with hq | hq
  · obtain ⟨its, r, pl, hz⟩ := I.list hq
    refine SeqAt.notIn_listAt (eqU x) pl.isList (fun w hw => mem_eqAt rx fx r fs w (by simpa using hw)) ⟨.bl _, H, I, rfl, ?_⟩
    rw [show its.toArray.any (eqU x) = its.any (eqU x) by simp, any_eqU r fs]
    exact q
  · obtain ⟨its, r, pl, hz⟩ := I.tuple hq
    refine SeqAt.notIn_tupleAt (eqU x) pl (fun w hw => mem_eqAt rx fx r fs w (by simpa using hw)) ⟨.bl _, H, I, rfl, ?_⟩
    rw [show its.toArray.any (eqU x) = its.any (eqU x) by simp, any_eqU r fs]
    exact q
theorem call_len_seq : CallR X (.builtin "len") (fun xs H Q => ∃ p ys, xs = [.ref p] ∧ (SqL X.K H p ys ∨ SqT X.K H p ys) ∧ Q (.int ys.length) H) := by
  intro pins s σ H xs us Q I r h
  obtain ⟨p, ys, rfl, hq, q⟩ := h
  obtain ⟨u, rfl, rx⟩ := vals1 r
  cases rx
  have hn := line63
  rcases hq with hq | hq
  · obtain ⟨its, r', pl, hz⟩ := I.list hq
    have hlen := r'.length
    exact Calls.call_len_list pl.isList (by simp only [List.size_toArray] <;> lia) ⟨.int ys.length, H, I.tok _, ⟨s.toks + 1, by rw [List.size_toArray, hlen]⟩, q⟩
  · obtain ⟨its, r', pl, hz⟩ := I.tuple hq
    have hlen := r'.length
    exact len_tuple pl (by simp only [List.size_toArray] <;> lia) ⟨.int ys.length, H, I.tok _, ⟨s.toks + 1, by rw [List.size_toArray, hlen]⟩, q⟩
theorem call_len_str : CallR X (.builtin "len") (fun xs H Q => ∃ z, xs = [.str z] ∧ z.length ≤ sizeLine ∧ Q (.int z.length) H) := by
  intro pins s σ H xs us Q I r h
  obtain ⟨z, rfl, hz, q⟩ := h
  obtain ⟨u, rfl, t, rfl⟩ := vals1 r
  have hn := line63
  exact len_str (by lia) ⟨.int z.length, H, I.tok _, ⟨_, rfl⟩, q⟩
theorem CallR.or {f : Value} {r r' : List V → Hp → VK → Prop} (h : CallR X f r) (h' : CallR X f r') : CallR X f (fun xs H Q => r xs H Q ∨ r' xs H Q) := by
  intro pins s σ H xs us Q I rs q
  rcases q with q | q
  · exact h pins s σ H xs us Q I rs q
  · exact h' pins s σ H xs us Q I rs q
theorem call_list_of : CallR X (.type "list") (fun xs H Q => ∃ p ys, xs = [.ref p] ∧ (SqL X.K H p ys ∨ SqT X.K H p ys) ∧ ∀ l, H l = none → Q (.ref l) (upd H l (.lst ys))) := by
  intro pins s σ H xs us Q I r h
  obtain ⟨p, ys, rfl, hq, q⟩ := h
  obtain ⟨u, rfl, rx⟩ := vals1 r
  cases rx
  have fin : ∀ (its : List Value), Vals ys its → ys.length ≤ sizeLine → ∀ (h' : Heap) (c' : Nat), (∀ b o', s.heap.get? b = some o' → h'.get? b = some o') →
      h'.get? s.heap.objs.size = some { cls := .type "list", dict := none, data := .seq its.toArray c', slots := #[] } → EP X pins σ Q (.ref s.heap.objs.size) { s with heap := h' } := fun its r' hz h' c' kp e =>
    ⟨.ref s.heap.objs.size, _, I.laid (t' := s.toks) kp (Nat.le_refl _) (show ObjOk X.prog X.w _ h' _ (.lst ys) from ⟨hz, its, c', r', e⟩), rfl, q _ (I.hok.fresh (Nat.le_refl _))⟩
  rcases hq with hq | hq
  · obtain ⟨its, r', pl, hz⟩ := I.list hq
    have hlen := r'.length
    obtain ⟨o, ho, hc, n, hd⟩ := pl.isList
    exact call_list_seq p (.inl rfl) ho hc hd (fun h' c' kp e => fin its r' hz h' c' kp e) (by simp only [List.size_toArray] <;> lia)
  · obtain ⟨its, r', pl, hz⟩ := I.tuple hq
    have hlen := r'.length
    obtain ⟨o, ho, hc, n, hd⟩ := pl
    exact call_list_seq p (.inr rfl) ho hc hd (fun h' c' kp e => fin its r' hz h' c' kp e) (by simp only [List.size_toArray] <;> lia)
def tyV (K : PySem.W.Frag) (T : String) (x : V) (H : Hp) : Prop := match x with
  | .str _ => T = "str"
  | .int _ => T = "int"
  | .ref p => (T = "list" ∧ ∃ xs, SqL K H p xs) ∨ (T = "tuple" ∧ ∃ o, K.lookup p = some o ∧ o.cls = .type "tuple" ∧ o.dict = none) ∨
      (T = "dict" ∧ ((∃ kvs, H p = some (.dK kvs)) ∨ (∃ kvs, H p = some (.dT kvs)) ∨ ∃ φ : Heap → Prop, H p = some (.ext φ) ∧ ∀ h, φ h → ∃ o, h.get? p = some o ∧ o.ExactDict)) ∨ (T = "set" ∧ ∃ S n, H p = some (.set S n))
  | _ => False
theorem tyV_is {pins : List (Addr × Obj)} {σ : St} {H : Hp} {s : Shared} {T : String} {x : V} {v : Value} (I : Inv X pins σ H s) (r : RelV x v) (ty : tyV X.K T x H) :
    s.TypeIs v T ∧ ∀ a, v = .ref a → ∃ ob, s.heap.get? a = some ob ∧ ob.dict = none := by
  cases x with
  | str z =>
    obtain ⟨t, rfl⟩ := r
    cases (show T = "str" from ty)
    exact ⟨typeIs_str s z t, fun _ e => nomatch e⟩
  | int i =>
    obtain ⟨t, rfl⟩ := r
    cases (show T = "int" from ty)
    exact ⟨typeIs_int s i t, fun _ e => nomatch e⟩
  | ref p =>
    cases r
    rcases ty with ⟨rfl, xs, hq⟩ | ⟨rfl, o, hk, hc, hd⟩ | ⟨rfl, hk⟩ | ⟨rfl, S, n, hk⟩
    · obtain ⟨its, _, pl, _⟩ := I.list hq
      refine ⟨pl.isList.typeIs, fun a e => ?_⟩
      cases e
      obtain ⟨o, n, e, c, hd, _⟩ := pl
      exact ⟨o, e, hd⟩
    · refine ⟨⟨o, I.kIn p o hk, hc⟩, fun a e => ?_⟩
      cases e
      exact ⟨o, I.kIn _ o hk, hd⟩
    · have z : ∃ o, s.heap.get? p = some o ∧ o.ExactDict := by
        rcases hk with ⟨kvs, hk⟩ | ⟨kvs, hk⟩ | ⟨φ, hk, hz⟩
        · obtain ⟨_, _, _, _, o, _, _, e, ex, _⟩ := I.hok p _ hk
          exact ⟨o, e, ex⟩
        · obtain ⟨_, _, _, _, o, _, _, e, ex, _⟩ := I.hok p _ hk
          exact ⟨o, e, ex⟩
        · exact hz _ (I.hok p _ hk).1
      obtain ⟨o, e, ex⟩ := z
      refine ⟨⟨o, e, ex.1⟩, fun a e2 => ?_⟩
      cases e2
      exact ⟨o, e, ex.2.1⟩
    · obtain ⟨o, _, _, _, e, ex, _⟩ := I.hok p _ hk
      refine ⟨⟨o, e, ex.1⟩, fun a e2 => ?_⟩
      cases e2
      exact ⟨o, e, ex.2.1⟩
  | _ => exact False.elim ty
def tBM (K : PySem.W.Frag) (T : String) (r : V → List V → Hp → VK → Prop) (to : TE) (t : TA) : TE := fun σ H Q => to σ H fun x H1 => tyV K T x H1 ∧ t σ H1 fun xs H2 => r x xs H2 Q
variable {o e : Expr} {es : List Expr} {to : TE} {t : TA} {name : Str} {apos cpos : Pos} {T id : String} {r : V → List V → Hp → VK → Prop}
theorem pe_bm (pa : PlainAttrs T) (slot : Slot T name id) (hty : typeOf (.builtin id) = pure (.type "method_descriptor")) (hm : MtR X id r) (ho : PE X o to) (ha : PA X (e :: es) t)
    (hbase : attributeBase o name X.env (eval o X.env) = eval o X.env := by rfl)
    (hfew : ((backTo cpos (starEach (e :: es) X.env)).all (fun x => !x.1) && (backToKw cpos (keywordEach [] X.env)).all (fun x => x.1.isSome)
      && decide ((e :: es).length + ([] : List Keyword).length + (if ([] : List Keyword).isEmpty then 0 else 1) < 30)) = true := by rfl)
    (hline : (apos.endLine == cpos.line) = true := by rfl) (hs : starEach (e :: es) X.env = (false, eval e X.env) :: starEach es X.env := by rfl) (hplain : (backTo cpos (starEach es X.env)).any (·.1) = false := by rfl) :
    PE X (.Call (.Attribute o name apos) (e :: es) [] cpos) (tBM X.K T r to t) := by
  intro pins s σ H Q I h
  refine wpAny_Call_method_late hbase hfew hline rfl (thn5 (ho pins s σ H _ I h) fun v s1 x H1 I1 r1 ⟨ty, q1⟩ => ?_)
  obtain ⟨h1, h2⟩ := tyV_is I1 r1 ty
  refine ⟨T, id, pa, slot, hty, h1, h2, ?_⟩
  have hA := ha cpos pins s1 σ H1 _ I1 q1
  rw [hs] at hA ⊢
  refine Calls.callWith_builtin (by show (false || (backTo cpos (starEach es X.env)).any (·.1)) = false; rw [hplain] <;> rfl) (Calls.evalArgs_plain ?_)
  exact thn hA fun us s2 ⟨vs, H2, I2, r2, q2⟩ => hm pins s2 σ H2 x vs v us Q I2 r1 r2 q2
end
end L2
namespace L2
open PySem PySem.Spec PyProof.Rows
def MtM (X : Cx) (id : String) (r : V → List V → Hp → VK → Prop) : Prop :=
  ∀ (pins : List (Addr × Obj)) (s : Shared) (σ : St) (H : Hp) (x : V) (xs : List V) (v : Value) (us : List Value) (Q : VK), Inv X pins σ H s → RelV x v → Vals xs us → r x xs H Q →
    wpAny (model X.prog X.w) X.A (call (.builtin id) (v :: us)) (EP X pins σ Q) X.xe s
theorem Vals.one : ∀ {x : V} {us : List Value}, Vals [x] us → ∃ u, us = [u] ∧ RelV x u
  | _, _, .cons r .nil => ⟨_, rfl, r⟩
section
variable {X : Cx} {pins : List (Addr × Obj)} {σ : St} {H : Hp} {s : Shared} {l b : Addr} {xs ys zs : List V}
theorem Inv.lset {its its' : List Value} {n : Nat} {f : Array Value → Array Value} {t' : Nat} (I : Inv X pins σ H s) (hH : H l = some (.lst xs))
    (e : s.heap.get? l = some { cls := .type "list", data := .seq its.toArray n }) (hf : f its.toArray = its'.toArray) (hv : Vals ys its') (hz : ys.length ≤ sizeLine) (ht : 0 < t' := by first | exact Nat.succ_pos _ | assumption | exact Inv.tk (by assumption) | lia) :
    Inv X pins σ (upd H l (.lst ys)) { s with heap := s.heap.update l (Obj.mapSeq f), toks := t' } := by
  have q := PySem.IsL.update e f
  rw [hf] at q
  refine I.write (x := l) (e := l) (by rw [hH]; exact trivial) (.inl rfl) (fun b' u hb hu => (Heap.get?_update_other s.heap (Obj.mapSeq f) (Ne.symm hb)).trans hu) ⟨_, q⟩ ?_
  exact ⟨hz, its', _, hv, q⟩
theorem Inv.lnew {its : List Value} {t' : Nat} (I : Inv X pins σ H s) (hv : Vals ys its) (hz : ys.length ≤ sizeLine) (ht : 0 < t' := by first | exact Nat.succ_pos _ | assumption | exact Inv.tk (by assumption) | lia) :
    Inv X pins σ (upd H s.heap.objs.size (.lst ys)) { s with heap := s.heap.push { cls := .type "list", data := .seq its.toArray }, toks := t' } :=
  I.laid (fun _ _ q => Heap.get?_push_of_some _ q) (Nat.le_refl _) ⟨hz, its, 0, hv, Heap.get?_push_size _ rfl⟩
theorem Inv.fresh (I : Inv X pins σ H s) : H s.heap.objs.size = none := I.hok.fresh (Nat.le_refl _)
theorem Inv.lstM (I : Inv X pins σ H s) (hH : H l = some (.lst xs)) : xs.length ≤ sizeLine ∧ ∃ (its : List Value) (n : Nat), Vals xs its ∧ xs.length = its.length ∧ s.heap.get? l = some { cls := .type "list", data := .seq its.toArray n } := by
  obtain ⟨z, its, n, r, e⟩ := I.hok l _ hH
  exact ⟨z, its, n, r, r.length, e⟩
end
section
variable {X : Cx}
def rAppend : V → List V → Hp → VK → Prop := fun x vs H Q => ∃ l xs y, x = .ref l ∧ vs = [y] ∧ H l = some (.lst xs) ∧ xs.length < sizeLine ∧ Q .non (upd H l (.lst (xs ++ [y])))
theorem mt_append : MtM X "list.append" rAppend := by
  intro pins s σ H x vs v us Q I rx rv h
  obtain ⟨l, xs, y, rfl, rfl, hH, hz, q⟩ := h
  cases rx
  obtain ⟨u, rfl, ru⟩ := rv.one
  obtain ⟨z, its, n, r, hl, e⟩ := I.lstM hH
  refine call_meets F.slot_list_append ⟨_, e, rfl⟩ F.entry_list_append (F.args_list_append_2 _ _) (PySem.list_append l its.toArray n u (by rw [List.size_toArray]; lia)) ⟨e, ?_⟩
  refine ⟨.non, _, I.lset (its' := its ++ [u]) hH e (by simp) (r.append (.cons ru .nil)) ?_, rfl, q⟩
  rw [List.length_append, List.length_singleton]
  lia
def rCat : R2 := fun x y H Q => ∃ l b xs zs, x = .ref l ∧ y = .ref b ∧ H l = some (.lst xs) ∧ H b = some (.lst zs) ∧ xs.length + zs.length ≤ sizeLine ∧ ∀ p, H p = none → Q (.ref p) (upd H p (.lst (xs ++ zs)))
theorem op_cat : OpR X (binaryOp .Add) rCat := by
  intro pins s σ H x y v u Q I rx ry h
  obtain ⟨l, b, xs, zs, rfl, rfl, hH, hB, hz, q⟩ := h
  cases rx
  cases ry
  obtain ⟨z, its, n, r, hl, e⟩ := I.lstM hH
  obtain ⟨z2, its2, n2, r2, hl2, e2⟩ := I.lstM hB
  refine PySem.P.add_list e e2 ?_ (by rw [List.size_toArray, List.size_toArray]; lia)
  have ea : its.toArray ++ its2.toArray = (its ++ its2).toArray := by simp
  rw [ea]
  exact ⟨.ref _, _, I.lnew (t' := s.toks) (r.append r2) (by rw [List.length_append]; lia), rfl, q _ I.fresh⟩
end
section
variable {prog : Program} {w : World} {A : Around} {E : Value → Shared → Prop} {s : Shared}
set_option maxRecDepth 100000 in
end
end L2
namespace L2
open PySem PySem.Spec PyProof.Rows
section
variable {κ : Type} [DecidableEq κ]
noncomputable def valV (kvs : List (κ × V)) (k : κ) : Option V := (kvs.find? fun kv => decide (kv.1 = k)).map (·.2)
noncomputable def putK (kvs : List (κ × V)) (k : κ) (v : V) : List (κ × V) :=
  if (kvs.any fun kv => decide (kv.1 = k)) = true then kvs.map (fun kv => if kv.1 = k then (kv.1, v) else kv) else kvs ++ [(k, v)]
theorem valV_pos {p : κ × V} {r : List (κ × V)} {k : κ} (e : p.1 = k) : valV (p :: r) k = some p.2 := by simp [valV, List.find?_cons, e]
theorem valV_neg {p : κ × V} {r : List (κ × V)} {k : κ} (e : ¬ p.1 = k) : valV (p :: r) k = valV r k := by simp [valV, List.find?_cons, e]
theorem valV_any (k : κ) : ∀ kvs : List (κ × V), (kvs.any fun kv => decide (kv.1 = k)) = (valV kvs k).isSome
  | [] => rfl
  | p :: r => by
    rw [List.any_cons]
    by_cases e : p.1 = k
    · simp only [valV_pos e, decide_eq_true e, Bool.true_or, Option.isSome_some]
    · rw [valV_neg e, decide_eq_false e, Bool.false_or]; exact valV_any k r
theorem length_putK (kvs : List (κ × V)) (k : κ) (v : V) : (putK kvs k v).length ≤ kvs.length + 1 := by
  unfold putK
  split
  · rw [List.length_map]; lia
  · rw [List.length_append, List.length_cons, List.length_nil]; lia
theorem RelO.isSome_eq {o : Option V} {u : Option Value} (r : RelO o u) : o.isSome = u.isSome := by
  cases o with
  | none => cases u with
    | none => rfl
    | some _ => exact (show False from r).elim
  | some _ => cases u with
    | none => exact (show False from r).elim
    | some _ => rfl
theorem KV.val {kvs : List (κ × V)} {vs : List (κ × Value)} (r : KV kvs vs) (k : κ) : RelO (valV kvs k) (valueAt vs k) := by
  unfold KV at r
  induction r with
  | nil => exact True.intro
  | @cons p q ps qs h t ih =>
    obtain ⟨h1, h2⟩ := h
    by_cases e : p.1 = k
    · have e' : q.1 = k := h1.symm.trans e
      have b : valueAt (q :: qs) k = some q.2 := by simp [valueAt, List.find?_cons, e']
      rw [valV_pos e, b]; exact h2
    · have e' : ¬ q.1 = k := fun z => e (h1.trans z)
      have b : valueAt (q :: qs) k = valueAt qs k := by simp [valueAt, List.find?_cons, e']
      rw [valV_neg e, b]; exact ih
theorem KV.any {kvs : List (κ × V)} {vs : List (κ × Value)} (r : KV kvs vs) (k : κ) : (kvs.any fun kv => decide (kv.1 = k)) = vs.any fun kv => decide (kv.1 = k) := by
  unfold KV at r
  induction r with
  | nil => rfl
  | cons h t ih => rw [List.any_cons, List.any_cons, ih, h.1]
theorem KV.repl {kvs : List (κ × V)} {vs : List (κ × Value)} (r : KV kvs vs) (k : κ) {y : V} {u : Value} (ry : RelV y u) :
    KV (kvs.map fun kv => if kv.1 = k then (kv.1, y) else kv) (vs.map fun kv => if kv.1 = k then (kv.1, u) else kv) := by
  unfold KV at r ⊢
  induction r with
  | nil => exact .nil
  | @cons p q ps qs h t ih =>
    rw [List.map_cons, List.map_cons]
    refine .cons ?_ ih
    obtain ⟨h1, h2⟩ := h
    by_cases e : p.1 = k
    · rw [if_pos e, if_pos (h1.symm.trans e)]; exact ⟨h1, ry⟩
    · rw [if_neg e, if_neg (fun z => e (h1.trans z))]; exact ⟨h1, h2⟩
theorem KV.put {kvs : List (κ × V)} {vs : List (κ × Value)} (r : KV kvs vs) (k : κ) {y : V} {u : Value} (ry : RelV y u) : KV (putK kvs k y) (stored vs k u) := by
  unfold putK stored
  rw [r.any k]
  by_cases e : (vs.any fun kv => decide (kv.1 = k)) = true
  · rw [if_pos e, if_pos e]; exact r.repl k ry
  · rw [if_neg e, if_neg e]; exact Paired.snoc r ⟨rfl, ry⟩
theorem KV.keys {kvs : List (κ × V)} {vs : List (κ × Value)} (r : KV kvs vs) : kvs.map (·.1) = vs.map (·.1) := by
  unfold KV at r
  induction r with
  | nil => rfl
  | cons h t ih => rw [List.map_cons, List.map_cons, ih, h.1]
theorem KV.length {kvs : List (κ × V)} {vs : List (κ × Value)} (r : KV kvs vs) : kvs.length = vs.length := Paired.length r
end
theorem kV_is {P : Program} {w : World} {k : Key} {u : Value} (r : RelV (kV k) u) : (mixKind P w).is k u = true := by
  cases k with
  | inl i => obtain ⟨t, e⟩ := (show ∃ t, u = Value.int i t from r); subst e; exact mixKind_int P w i t
  | inr x => obtain ⟨t, e⟩ := (show ∃ t, u = Value.str x t from r); subst e; exact mixKind_str P w x t
theorem items_are {P : Program} {w : World} : ∀ {ks : List Key} {us : List Value}, Vals (ks.map kV) us → ItemsAre (mixKind P w) ks us
  | [], _, r => by rw [List.map_nil] at r; cases r; exact .nil
  | k :: ks, _, r => by
    rw [List.map_cons] at r
    cases r with
    | cons h t => exact .cons (kV_is h) (items_are t)
abbrev KT (H : Hp) : List (List Key × V) → List (List Key × Addr × Value) → Prop := Paired fun p q => p.1 = q.1 ∧ H q.2.1 = some (.tup (p.1.map kV)) ∧ RelV p.2 q.2.2
theorem KT.val {H : Hp} {kvs : List (List Key × V)} {xs : List (List Key × Addr × Value)} (r : KT H kvs xs) (k : List Key) : RelO (valV kvs k) ((atKey xs k).map (·.2)) := by
  induction r with
  | nil => exact True.intro
  | @cons p q ps qs h t ih =>
    obtain ⟨h1, _, h2⟩ := h
    by_cases e : p.1 = k
    · have e' : q.1 = k := h1.symm.trans e
      have b : atKey (q :: qs) k = some q.2 := by simp [atKey, List.find?_cons, e']
      rw [valV_pos e, b]; exact h2
    · have e' : ¬ q.1 = k := fun z => e (h1.trans z)
      have b : atKey (q :: qs) k = atKey qs k := by simp [atKey, List.find?_cons, e']
      rw [valV_neg e, b]; exact ih
theorem KT.repl {H : Hp} {kvs : List (List Key × V)} {xs : List (List Key × Addr × Value)} (r : KT H kvs xs) (k : List Key) {y : V} {u : Value} (ry : RelV y u) :
    KT H (kvs.map fun kv => if kv.1 = k then (kv.1, y) else kv) (xs.map (putAt k u)) := by
  induction r with
  | nil => exact .nil
  | @cons p q ps qs h t ih =>
    rw [List.map_cons, List.map_cons]
    refine .cons ?_ ih
    obtain ⟨h1, h2, h3⟩ := h
    unfold putAt
    by_cases e : p.1 = k
    · rw [if_pos e, if_pos (h1.symm.trans e)]; exact ⟨h1, h2, ry⟩
    · rw [if_neg e, if_neg (fun z => e (h1.trans z))]; exact ⟨h1, h2, h3⟩
theorem KT.put {H : Hp} {kvs : List (List Key × V)} {xs : List (List Key × Addr × Value)} (r : KT H kvs xs) (k : List Key) {b : Addr} {y : V} {u : Value} (hb : H b = some (.tup (k.map kV))) (ry : RelV y u) :
    KT H (putK kvs k y) (storedH xs k b u) := by
  have e : (kvs.any fun kv => decide (kv.1 = k)) = (atKey xs k).isSome := by
    rw [valV_any, (r.val k).isSome_eq, Option.isSome_map]
  unfold putK storedH
  rw [e]
  by_cases q : (atKey xs k).isSome = true
  · rw [if_pos q, if_pos q]; exact r.repl k ry
  · rw [if_neg q, if_neg q]; exact Paired.snoc r ⟨rfl, hb, ry⟩
theorem KT.keeps {H H' : Hp} {kvs : List (List Key × V)} {xs : List (List Key × Addr × Value)} (r : KT H kvs xs) (ht : ∀ b ys, H b = some (.tup ys) → H' b = some (.tup ys)) : KT H' kvs xs :=
  Paired.mapP r fun _ _ z => ⟨z.1, ht _ _ z.2.1, z.2.2⟩
section
variable {P : Program} {w : World} {H : Hp} {h : Heap} {a : Addr}
theorem rd_of {u : HO} (ok : HOk P w H h) (e : Rd H a u) : ObjOk P w H h a u := e.ok ok
theorem dk_rd {kvs : List (Key × V)} (ok : HOk P w H h) (e : Rd H a (.dK kvs)) : kvs.length ≤ sizeLine ∧ (a == sysModules) = false ∧ ∃ vs, KV kvs vs ∧ h.DictOf (mixKind P w) a vs :=
  show ObjOk P w H h a (.dK kvs) from rd_of ok e
theorem dk_of {kvs : List (Key × V)} (ok : HOk P w H h) (e : H a = some (.dK kvs)) : kvs.length ≤ sizeLine ∧ (a == sysModules) = false ∧ ∃ vs, KV kvs vs ∧ h.DictOf (mixKind P w) a vs := dk_rd ok (.inl e)
theorem key_of {ks : List Key} (ok : HOk P w H h) (e : H a = some (.tup (ks.map kV))) : (tupleKind (mixKind P w)).is h ks a := by
  obtain ⟨_, its, r, o, h1, h2, n, h3⟩ := (show ObjOk P w H h a (.tup (ks.map kV)) from ok a _ e)
  exact ⟨o, its.toArray, n, h1, h2, h3, by simpa using items_are r⟩
theorem dt_rd {kvs : List (List Key × V)} (ok : HOk P w H h) (e : Rd H a (.dT kvs)) : kvs.length ≤ sizeLine ∧ (a == sysModules) = false ∧
    ∃ xs, KT H kvs xs ∧ h.DictOfH (tupleKind (mixKind P w)) a xs := by
  obtain ⟨z, y, xs, r, o, es, ep, h1, h2, h3, h4, h5⟩ := (show ObjOk P w H h a (.dT kvs) from rd_of ok e)
  refine ⟨z, y, xs, r, o, es, ep, h1, h2, h3, h4, fun x hx => ?_, h5⟩
  have all : ∀ {l : List (List Key × V)} {m : List (List Key × Addr × Value)}, KT H l m → ∀ x ∈ m, (tupleKind (mixKind P w)).is h x.1 x.2.1 := by
    intro l m q
    induction q with
    | nil => intro x hx; exact nomatch hx
    | @cons p q ps qs hq t ih =>
      intro x hx
      rcases List.mem_cons.mp hx with e | hx
      · subst e
        exact key_of ok (by rw [← hq.1]; exact hq.2.1)
      · exact ih x hx
  exact all r x hx
theorem dt_of {kvs : List (List Key × V)} (ok : HOk P w H h) (e : H a = some (.dT kvs)) : kvs.length ≤ sizeLine ∧ (a == sysModules) = false ∧
    ∃ xs, KT H kvs xs ∧ h.DictOfH (tupleKind (mixKind P w)) a xs := dt_rd ok (.inl e)
end
def DGet (H : Hp) (a : Addr) (y : V) (r : Option V) : Prop :=
  (∃ kvs k, Rd H a (.dK kvs) ∧ y = kV k ∧ r = valV kvs k) ∨ ∃ kvs k b, Rd H a (.dT kvs) ∧ y = .ref b ∧ H b = some (.tup (k.map kV)) ∧ r = valV kvs k
def DPut (H : Hp) (a : Addr) (y v : V) (H' : Hp) : Prop :=
  (∃ kvs k, H a = some (.dK kvs) ∧ y = kV k ∧ kvs.length < sizeLine ∧ H' = upd H a (.dK (putK kvs k v))) ∨
  ∃ kvs k b, H a = some (.dT kvs) ∧ y = .ref b ∧ H b = some (.tup (k.map kV)) ∧ kvs.length < sizeLine ∧ H' = upd H a (.dT (putK kvs k v))
theorem DGet.k {H : Hp} {a : Addr} {kvs : List (Key × V)} {k : Key} (e : H a = some (.dK kvs)) : DGet H a (kV k) (valV kvs k) := .inl ⟨kvs, k, .inl e, rfl, rfl⟩
theorem DPut.k {H : Hp} {a : Addr} {kvs : List (Key × V)} {k : Key} {v : V} (e : H a = some (.dK kvs)) (hl : kvs.length < sizeLine) : DPut H a (kV k) v (upd H a (.dK (putK kvs k v))) := .inl ⟨kvs, k, e, rfl, hl, rfl⟩
section
variable {X : Cx} {pins : List (Addr × Obj)} {σ : St} {H : Hp} {s : Shared} {a : Addr} {y v : V} {u r : Value} {o : Option V} {A : Around} {E : Value → Shared → Prop}
theorem Inv.big (I : Inv X pins σ H s) : sysModules < s.heap.objs.size := by
  have h : mainGlobals < s.heap.objs.size := (I.mod.glob.keeps I.bk).lt
  exact Nat.lt_trans (by decide) h
theorem d_getItem {Q : Value → Shared → Prop} (hu : A.units + 1 < cLine) (I : Inv X pins σ H s) (g : DGet H a y (some v)) (ry : RelV y u) (h : ∀ w' s', Inv X pins σ H s' → RelV v w' → Q w' s') :
    wpAny (model X.prog X.w) A (getItem (.ref a) u) Q E s := by
  rcases g with ⟨kvs, k, e, ey, l⟩ | ⟨kvs, k, b, e, ey, eb, l⟩
  · subst ey
    obtain ⟨z, hd, vs, rel, dd⟩ := dk_rd I.hok e
    obtain ⟨w', hw, rw'⟩ := RelO.some_of (v := v) (o := valueAt vs k) (by rw [l]; exact rel.val k)
    exact wpAny_getItem_of (kV_is ry) dd.mapOf hw (h w' _ (I.tok _) rw')
  · subst ey
    cases (show u = Value.ref b from ry)
    obtain ⟨z, hd, xs, rel, dd⟩ := dt_rd I.hok e
    obtain ⟨w', hw, rw'⟩ := RelO.some_of (v := v) (o := (atKey xs k).map (·.2)) (by rw [l]; exact rel.val k)
    obtain ⟨p, hp, hp2⟩ := Option.map_eq_some_iff.mp hw
    refine wpAny_getItem_heap (tupleKind_room_in1 hu) (key_of I.hok eb) dd hp ?_
    rw [hp2]
    exact h w' _ (I.tok _) rw'
theorem d_notIn {Q : Value → Shared → Prop} (hu : A.units + 1 < cLine) (I : Inv X pins σ H s) (g : DGet H a y o) (ry : RelV y u) (h : ∀ s', Inv X pins σ H s' → Q (.bool (!o.isSome)) s') :
    wpAny (model X.prog X.w) A (compareOp .NotIn u (.ref a)) Q E s := by
  rcases g with ⟨kvs, k, e, ey, l⟩ | ⟨kvs, k, b, e, ey, eb, l⟩
  · subst ey
    obtain ⟨z, hd, vs, rel, dd⟩ := dk_rd I.hok e
    refine wpAny_notIn_of (kV_is ry) hd dd.mapOf ?_
    rw [← (rel.val k).isSome_eq, ← l]
    exact h _ (I.tok _)
  · subst ey
    cases (show u = Value.ref b from ry)
    obtain ⟨z, hd, xs, rel, dd⟩ := dt_rd I.hok e
    refine wpAny_notIn_heap (tupleKind_room_in1 hu) (key_of I.hok eb) hd dd ?_
    have q := (rel.val k).isSome_eq
    rw [Option.isSome_map] at q
    rw [← q, ← l]
    exact h _ (I.tok _)
theorem d_write {h' : Heap} {t' : Nat} {ob : HO} (I : Inv X pins σ H s) (mu : Mut (H a)) (hs : Heap.SameBut a s.heap h') (he : ∃ q, h'.get? a = some q) (new : ObjOk X.prog X.w (upd H a ob) h' a ob) (ht : 0 < t' := by first | exact Nat.succ_pos _ | assumption | exact Inv.tk (by assumption) | lia) :
    Inv X pins σ (upd H a ob) { s with heap := h', toks := t' } :=
  I.write (x := a) (e := a) mu (.inl rfl) (fun b q hb z => (hs.2 b hb).trans z) he new
theorem dk_new {P : Program} {w : World} {H' : Hp} {h' : Heap} {kvs : List (Key × V)} {vs : List (Key × Value)} (z : kvs.length ≤ sizeLine) (hd : (a == sysModules) = false) (rel : KV kvs vs) (dd : h'.DictOf (mixKind P w) a vs) :
    ObjOk P w H' h' a (.dK kvs) := ⟨z, hd, vs, rel, dd⟩
theorem d_setItem {H' : Hp} {Q : Unit → Shared → Prop} (hu : A.units + 1 < cLine) (I : Inv X pins σ H s) (g : DPut H a y v H') (ry : RelV y u) (rv : RelV v r) (h : ∀ s', Inv X pins σ H' s' → Q () s') :
    wpAny (model X.prog X.w) A (setItem (.ref a) u r) Q E s := by
  rcases g with ⟨kvs, k, e, ey, l, eH⟩ | ⟨kvs, k, b, e, ey, eb, l, eH⟩
  · subst ey eH
    obtain ⟨z, hd, vs, rel, dd⟩ := dk_of I.hok e
    have hz : vs.length ≤ sizeLine := by rw [← rel.length]; exact z
    have hl : (putK kvs k v).length ≤ sizeLine := by have := length_putK kvs k v; lia
    refine wpAny_setItem_pairs (hsz := hz) (kV_is ry) dd fun h' dd' hs => h _ ?_
    have he : ∃ q, h'.get? a = some q := let ⟨q, _, _, hq, _⟩ := dd'; ⟨q, hq⟩
    exact d_write I (by rw [e]; exact True.intro) hs he (dk_new hl hd (rel.put k rv) dd')
  · subst ey eH
    cases (show u = Value.ref b from ry)
    obtain ⟨z, hd, xs, rel, dd⟩ := dt_of I.hok e
    have hz : xs.length ≤ sizeLine := by rw [← Paired.length rel]; exact z
    have hl : (putK kvs k v).length ≤ sizeLine := by have := length_putK kvs k v; lia
    refine wpAny_setItem_heap (hsz := hz) (tupleKind_room_in1 hu) (key_of I.hok eb) dd fun h' dd' hs => h _ ?_
    obtain ⟨q, es, ep, hq, h2, h3, h4, _, h5⟩ := dd'
    refine d_write I (by rw [e]; exact True.intro) hs ⟨q, hq⟩ ⟨hl, hd, _, (rel.put k eb rv).keeps fun c ys ec => ?_, q, es, ep, hq, h2, h3, h4, h5⟩
    rw [upd_ne (ne_of ec e (fun z => nomatch z))]
    exact ec
end
section
variable {X : Cx} {pins : List (Addr × Obj)} {σ : St} {H : Hp} {s : Shared} {a : Addr} {kvs : List (Key × V)} {k : Key} {u : Value} {A : Around} {E : Value → Shared → Prop}
theorem d_len {Q : Value → Shared → Prop} (I : Inv X pins σ H s) (e : Rd H a (.dK kvs)) (h : ∀ t s', Inv X pins σ H s' → Q (.int kvs.length t) s') : wpAny (model X.prog X.w) A (call (.builtin "len") [.ref a]) Q E s := by
  obtain ⟨z, hd, vs, rel, dd⟩ := dk_rd I.hok e
  refine call_len_dict hd dd (by rw [← rel.length]; rw [sizeLine_eq] at z; lia) ?_
  rw [← rel.length]
  exact h _ _ (I.tok _)
end
theorem dict_typeIs {X : Cx} {pins : List (Addr × Obj)} {σ : St} {H : Hp} {s : Shared} {a : Addr} {y : V} {o : Option V} (I : Inv X pins σ H s) (g : DGet H a y o) : s.TypeIs (.ref a) "dict" := by
  rcases g with ⟨kvs, k, e, _, _⟩ | ⟨kvs, k, b, e, _, _, _⟩
  · obtain ⟨_, _, vs, _, dd⟩ := dk_rd I.hok e
    exact dd.typeIs
  · obtain ⟨_, _, xs, _, dd⟩ := dt_rd I.hok e
    exact dd.typeIs
def sDPut (td ty tv : TE) : TS := fun D σ H => tv σ H fun v H1 => td σ H1 fun x H2 => ty σ H2 fun y H3 => ∃ a H4, x = .ref a ∧ DPut H3 a y v H4 ∧ D.nx σ H4
section
variable {X : Cx} {o i e value : Expr} {pos pos' tpos : Pos} {td ty tv : TE}
theorem ps_dput (hu : X.A.units + 1 < cLine) (ho : PE X o td) (hi : PE X i ty) (hv : PE X value tv) (hs : swapsWith value (some (.Subscript o i pos')) pos.line X.env = pure false) :
    PS X (.Assign [.Subscript o i pos'] value pos) (sDPut td ty tv) := by
  intro pins s σ H D I h
  refine wpAny_Assign_Subscript (thn5 (hv pins s σ H _ I h) fun r s1 v H1 I1 rv q1 => thn5 (ho pins s1 σ H1 _ I1 q1) fun u s2 x H2 I2 rx q2 => thn5 (hi pins s2 σ H2 _ I2 q2) fun iv s3 y H3 I3 ry ⟨a, H4, ex, g, q3⟩ => ?_) hs
  subst ex
  obtain rfl : u = Value.ref a := rx
  exact d_setItem hu I3 g ry rv fun s4 I4 => ⟨σ, H4, I4, q3⟩
end
end L2
namespace Att
open PySem PySem.W PySem.Calls PyProof.Rows
theorem ints_of_wellAll {P : Params} {h : Heap} : ∀ (ns : List Int) (vs : List Value), WellAll P h vs (ns.map WData.int) → IntsAre vs ns := by
  intro ns
  induction ns with
  | nil =>
    intro vs w
    rw [List.map_nil] at w
    cases w
    exact .nil
  | cons n ns ih =>
    intro vs w
    rw [List.map_cons] at w
    cases w with
    | cons a b =>
      cases a
      exact .cons _ _ (ih _ b)
theorem script_of {l : OpenLaw} {n : Nat} (hn : l.most = some n) {P : Params} {h : Heap} {args : List WData} {vals : List Value}
    (hpre : l.row.toRowW.claim.pre args = true) (hwl : WellAll P h vals args) :
    ∃ a vs ns, vals = [Value.ref a] ∧ args = [WData.list (ns.map WData.int)] ∧ h.get? a = some { cls := .type "list", data := .seq vs.toArray } ∧ IntsAre vs ns ∧ ns.length ≤ n := by
  have hsh : WShape.hasAll [] args [.list .int] = true := (pre_splitW hpre).1
  have hc : l.pre.holds [] { args := args } = true := (pre_splitW hpre).2
  obtain ⟨d, r, rfl, h1, h2⟩ := hasAllW_cons hsh
  obtain rfl := hasAllW_nil h2
  obtain ⟨xs, rfl, h3⟩ := hasW_list h1
  obtain ⟨ns, rfl⟩ := items_int h3
  have hlen : ns.length ≤ n := by
    unfold OpenLaw.pre at hc
    have h4 : (WTm.not (.lt (.lit (.int (n : Int))) (.len (.arg 0)))).holds [] { args := [.list (ns.map .int)] } = true := by
      have h4 := (holds_andW hc).1
      rw [hn] at h4
      exact h4
    have h5 := condW_of h4 (w_not (w_lt w_lit (w_len_list (w_arg rfl))))
    rw [List.length_map] at h5
    refine Nat.le_of_not_lt fun q => ?_
    have q' : (n : Int) < ((ns.length : Nat) : Int) := by lia
    first
      | (rw [decide_eq_true q'] at h5; exact absurd h5 (by decide))
      | (simp at h5; lia)
  cases hwl with
  | cons w1 w2 =>
    cases w2
    cases w1 with
    | list ho hall => exact ⟨_, _, ns, rfl, rfl, ho, ints_of_wellAll ns _ hall, hlen⟩
theorem post_true (l : OpenLaw) (args : List WData) : l.row.toRowW.claim.post args (.bool true) args = true :=
  postW_of (r := l.row.toRowW) (X := (true == true))
    (show WShape.has [] (.bool true) .bool = true by first | rfl | decide | simp [WShape.has, WShape.arms, WShape.armsAll])
    (show (WTm.eq .res (.lit (.bool true))).value [] { args := args, res := some (.bool true), after := args } = some (.bool (true == true)) from w_eq_bool (w_res rfl) w_lit) rfl
theorem attach_call {l : OpenLaw} {n : Nat} {q : Program} {loose : List Str} {XP : (Str → Option Value) → Heap → Prop} {YP : World → Heap → Prop} {d : DefRec}
    (hn : l.most = some n) (hdf : d.params.defaults = [])
    (call : ∀ (w : World) (s₀ s₁ : Shared) (mg mb : Str → Option Value) (fa : Addr) (o : Obj) (pm cd doc : Value) (a : Addr) (vs : List Value) (ns : List Int),
      Ground q loose [] XP w s₀ mg mb s₁.heap → YP w s₁.heap →
      s₁.heap.get? fa = some o → o.data = .func (docDef d.name d.params d.body d.scope pm cd doc) → s₁.heap.CodeRec cd d.name → mg d.name = some (.ref fa) →
      s₁.heap.get? a = some { cls := .type "list", data := .seq vs.toArray } → IntsAre vs ns → ns.length ≤ n → s₁.gens = #[] →
      codeAny (model l.prog w) callerA (.call (.ref fa) ⟨[.ref a], []⟩) (fun r s' => r = .ok (.ret (.bool true)) ∧ OldK s₁.heap s'.heap ∧ s'.os = s₁.os ∧ AllBare s'.gens) s₁) :
    WalkO q loose XP YP l.row.toRowW d [] (fun f vs => PySem.call f vs) := by
  intro w s₀ s₁ mg mb G Y fa o pm cd doc dV kV ho hd hcd hD hmg hg args vals as hpre hlay hrd hwl hlo
  obtain rfl : dV = .none := Dflts.none hD hdf
  obtain rfl : kV = .none := Dflts.noKw hD
  obtain ⟨a, vs, ns, rfl, rfl, hobj, hints, hlen⟩ := script_of hn hpre hwl
  refine enter_call (codeAny_mono (call w s₀ s₁ mg mb fa o pm cd doc a vs ns G Y ho (fd_plain hd) hcd hmg hobj hints hlen hg) fun r s' hq => ?_)
  obtain ⟨rfl, h2, h3, h4⟩ := hq
  exact ⟨.inl ⟨.bool true, .bool true, [], rfl, fun _ => rfl, .bool true, post_true l _, fun _ => ⟨List.Pairwise.nil, fun _ hm => (nomatch hm)⟩⟩, h2, h3, h4⟩
end Att
namespace L2
open PySem PySem.Spec PyProof.Rows
theorem vals_ints : ∀ {vs : List Value} {ns : List Int}, IntsAre vs ns → Vals (ns.map V.int) vs
  | _, _, .nil => .nil
  | _, _, .cons n t h => .cons ⟨t, rfl⟩ (vals_ints h)
def Only (H : Hp) : Prop := ∀ b, H b = none ∨ ∃ o xs, H b = some (.frz o (.lst xs))
theorem law_call {P : Program} {w : World} {K : PySem.W.Frag} {mg mb : Str → Option Value} {CX : CXT} {k : Nat} {fa a : Addr} {fd : FuncData} {x : Str} {sp : Sp} {s₁ : Shared} {vs : List Value} {ns : List Int}
    (KX : K.In s₁.heap) (hns : s₁.heap.Ns mainGlobals mg) (hb : s₁.heap.Ns builtinsNs mb) (hbb : ∀ x : Str, x ≠ "__name__" → mb x = bootBuiltins x) (hlim : s₁.heap.NoLimit) (hg : s₁.gens = #[])
    (ha : s₁.heap.get? a = some { cls := .type "list", data := .seq vs.toArray }) (hi : IntsAre vs ns) (hl : ns.length ≤ sizeLine) (hr : Room k callerA)
    (F : ∀ base : Heap, K.In base → base.Ns mainGlobals mg → FnOk P w K mg base CX k fa fd [x] sp) (hT : fd.scope.names.lookup x = some .local) (hbind : ∀ (s : Shared) (u : Value), BindsTo s fd ⟨[u], []⟩ [(x, u)])
    (hsp : ∀ H : Hp, Only H → SqL K H a (ns.map V.int) → sp [.ref a] H (fun v _ => v = .bl true) fun _ _ _ => False)
    (hCX : ∀ H e s', CX [] H s₁ (fun _ _ _ => False) e s' → False) :
    codeAny (model P w) callerA (.call (.ref fa) ⟨[.ref a], []⟩) (fun r s' => r = .ok (.ret (.bool true)) ∧ OldK s₁.heap s'.heap ∧ s'.os = s₁.os ∧ AllBare s'.gens) s₁ := by
  have rv := vals_ints hi
  have lenV := hi.length
  have core : ∀ H : Hp, Only H → SqL K H a (ns.map V.int) → HOk P w H s₁.heap → (∀ b, H b ≠ none → b = a) → (H a ≠ none → K.lookup a = none) →
      codeAny (model P w) callerA (.call (.ref fa) ⟨[.ref a], []⟩) (fun r s' => r = .ok (.ret (.bool true)) ∧ OldK s₁.heap s'.heap ∧ s'.os = s₁.os ∧ AllBare s'.gens) s₁ := by
    intro H hO hS hok hA hK
    have base_of : ∀ {b : Addr} {o : Obj}, s₁.heap.get? b = some o → H b = none → (hidT s₁.heap H).get? b = some o := fun e n => hidT_get e n
    have noA : ∀ {b : Addr} {o : Obj} {es : Array DictEntry} {ep : Nat}, s₁.heap.get? b = some o → o.data = .dict es ep → H b = none := fun {b o es ep} e d => by
      cases q : H b with
      | none => rfl
      | some u =>
        have e' : b = a := hA b (by rw [q]; simp)
        subst e'
        rw [ha] at e; cases e
        have d' : Data.seq vs.toArray _ = Data.dict es ep := d
        cases d'
    have nsK : ∀ {b : Addr} {m : Str → Option Value}, s₁.heap.Ns b m → (hidT s₁.heap H).Ns b m := fun {b m} ⟨o, es, ep, e, d, r⟩ => ⟨o, es, ep, base_of e (noA e d), d, r⟩
    have hKb : K.In (hidT s₁.heap H) := fun b o e => base_of (KX b o e) (by
      cases q : H b with
      | none => rfl
      | some u =>
        have e' : b = a := hA b (by rw [q]; simp)
        subst e'
        rw [hK (by rw [q]; simp)] at e; cases e)
    have hM : Mod K mg (hidT s₁.heap H) := ⟨hKb, nsK hns, ⟨mb, nsK hb, hbb⟩, let ⟨mc, h1, h2⟩ := hlim; ⟨mc, nsK h1, h2⟩⟩
    have e0 : Env0 P w K mg (hidT s₁.heap H) callerA [] s₁ H := ⟨rfl, hM, fun b o e => of_hidT e, Nat.le_of_eq (hidT_size _ _), trivial, fun b hb => absurd (show b ∈ ([] : List Addr) from hb) (by simp), hok, .of_eq hg⟩
    refine codeAny_mono ((F _ hKb (nsK hns)).run callerA [] s₁ H ⟨[.ref a], []⟩ [.ref a] [.ref a] _ _ hr e0 (.inr ⟨x, List.mem_singleton.mpr rfl, hT⟩) (hbind s₁ (.ref a)) (.cons rfl .nil) (hsp H hO hS)) fun r s' h => ?_
    cases r with
    | error e => exact (hCX H e s' h).elim
    | ok fl =>
      cases fl with
      | next => exact False.elim h
      | brk => exact False.elim h
      | cont => exact False.elim h
      | ret u =>
        obtain ⟨v, H', os, bare, un, hok', r', q⟩ := h
        have q' : v = .bl true := q
        subst q'
        obtain rfl : u = Value.bool true := r'
        refine ⟨rfl, OldK.of_keep fun b o e => ?_, os, bare⟩
        cases q : H b with
        | none => exact un.keep b o e q (by intro z; exact absurd (show b ∈ ([] : List Addr) from z) (by simp)) (by simp)
        | some u =>
          rcases hO b with z | ⟨ob, xs, z⟩
          · rw [q] at z; cases z
          · have z2 := un.frzs b ob _ z
            obtain ⟨e1, _⟩ := hok b _ z
            obtain ⟨e2, _⟩ := hok' b _ z2
            rw [e] at e1; cases e1
            exact e2
  cases hk : K.lookup a with
  | some o =>
    have e := KX a o hk
    rw [ha] at e
    cases e
    refine core (fun _ => none) (fun _ => .inl rfl) (.inr ⟨_, vs.toArray, _, hk, rfl, rfl, rfl, by rw [List.size_toArray, lenV]; exact hl, by simpa using rv⟩) (fun b u z => by have z' : (none : Option HO) = some u := z; cases z') (fun b z => absurd rfl z) fun z => absurd rfl z
  | none =>
    refine core (fun b => if b = a then some (.frz { cls := .type "list", data := .seq vs.toArray } (.lst (ns.map V.int))) else none) (fun b => ?_) (.inl (.inr ⟨{ cls := .type "list", data := .seq vs.toArray }, if_pos rfl⟩)) (fun b u z => ?_) (fun b z => ?_) fun _ => hk
    · by_cases hb : b = a
      · exact .inr ⟨_, _, if_pos hb⟩
      · exact .inl (if_neg hb)
    · by_cases hb : b = a
      · have z' := (if_pos hb).symm.trans z
        cases z'
        subst hb
        exact ⟨ha, by rw [List.length_map]; exact hl, vs, _, rv, ha⟩
      · have z' := (if_neg hb).symm.trans z
        cases z'
    · by_cases hb : b = a
      · exact hb
      · exact absurd (if_neg hb) z
end L2
namespace L2
open PySem PySem.Spec PyProof.Rows
theorem walk_of {l : PySem.W.OpenLaw} {n k : Nat} {q : Program} {loose : List Str} {XP : (Str → Option Value) → Heap → Prop} {YP : World → Heap → Prop} {d : DefRec} {K : Params → PySem.W.Frag} {CX : World → CXT} {sp : World → Sp} {x : Str}
    (hn : l.most = some n) (hn2 : n ≤ sizeLine) (hdf : d.params.defaults = []) (hr : Room k callerA)
    (hY : ∀ (w : World) (h : Heap), YP w h → (K w.params).In h)
    (F : ∀ (w : World) (mg : Str → Option Value) (fa : Addr) (h : Heap), (K w.params).In h → h.Ns mainGlobals mg → mg d.name = some (.ref fa) →
      ∃ fd : FuncData, (∀ (s : Shared) (u : Value), BindsTo s fd ⟨[u], []⟩ [(x, u)]) ∧ fd.scope.names.lookup x = some .local ∧
        ∀ base : Heap, (K w.params).In base → base.Ns mainGlobals mg → FnOk l.prog w (K w.params) mg base (CX w) k fa fd [x] (sp w))
    (hsp : ∀ (w : World) (H : Hp) (a : Addr) (ns : List Int), ns.length ≤ n → Only H → SqL (K w.params) H a (ns.map V.int) → sp w [.ref a] H (fun v _ => v = .bl true) fun _ _ _ => False)
    (hCX : ∀ (w : World) (H : Hp) (s : Shared) (e : Value) (s' : Shared), CX w [] H s (fun _ _ _ => False) e s' → False) :
    PySem.W.WalkO q loose XP YP l.row.toRowW d [] (fun f vs => PySem.call f vs) := by
  refine Att.attach_call hn hdf fun w s₀ s₁ mg mb fa o pm cd doc a vs ns G Y ho hd hcd hmg hobj hints hlen hg => ?_
  have KX := hY w _ Y
  obtain ⟨fd, hb, hT, hF⟩ := F w mg fa _ KX G.T.g hmg
  exact law_call KX G.T.g G.T.b G.T.builtins G.T.nolimit hg hobj hints (Nat.le_trans hlen hn2) hr hF hT hb (fun H hO hS => hsp w H a ns hlen hO hS) fun H e s' => hCX w H s₁ e s'
end L2
namespace L2
open PySem PySem.Spec PyProof.Rows
noncomputable def inClass (s : Stmt) (j : Nat) : Stmt := match s with
  | .ClassDef _ _ _ body _ _ _ _ _ _ _ => body.getD j (.Pass ⟨0, 0, 0, 0⟩)
  | _ => .Pass ⟨0, 0, 0, 0⟩
noncomputable def defArgs (s : Stmt) : Arguments := match s with
  | .FunctionDef _ a _ _ _ _ _ _ _ _ => a
  | _ => { posonlyargs := [], args := [], vararg := none, kwonlyargs := [], kw_defaults := [], kwarg := none, defaults := [] }
noncomputable def defBody (s : Stmt) : List Stmt := match s with
  | .FunctionDef _ _ b _ _ _ _ _ _ _ => b
  | _ => []
noncomputable def defScope (s : Stmt) : Scope := match s with
  | .FunctionDef _ _ _ _ _ _ sc _ _ _ => sc
  | _ => { kind := .function, names := [], isGenerator := false, isCoroutine := false }
abbrev CX0 : CXT := fun _ _ _ _ _ _ => False
abbrev E0 : XK := fun _ _ _ => False
theorem pass0 {X : Cx} : Passes CX0 X E0 := fun _ _ _ _ _ _ _ h => h.elim
structure Fun (K : PySem.W.Frag) (x qual : Str) (st : Stmt) (f : Addr) (fd : FuncData) : Prop where
  ex : ∃ (oc : Value) (od : Option Addr) (kV doc pm : Value) (an : Option Addr) (cdv ct : Value) (osl : Array (Option Value)),
    fd = PySem.W.fnOf x qual (defArgs st) (defBody st) (defScope st) .none kV doc pm an cdv ct ∧ K.lookup f = some ⟨oc, od, .func fd, osl⟩ ∧ PySem.W.codeIn K cdv qual = true
  kp : PySem.W.keepIn K (.ref f) = true
section
variable {P : Program} {w : World} {K : PySem.W.Frag} {mg : Str → Option Value} {base : Heap}
theorem Fun.ok {x qual : Str} {st : Stmt} {f : Addr} {fd : FuncData} {N ps : List Str} {k : Nat} {sp : Sp} (F : Fun K x qual st f fd) (S : FnScope N ps (defScope st)) (len : ∀ vs H Q E, sp vs H Q E → vs.length = ps.length)
    (hbody : ∀ (cdv : Value) (A : Around) (outer : List Env) (s : Shared) (H : Hp) (vs : List V) (Q : VK) (E : XK), Room k (A.deeper (envOfC qual (defScope st) s.heap.objs.size f cdv)) → sp vs H Q E →
      ∃ t, PSs (cxOf CX0 P w K mg base N qual (defScope st) f cdv A outer s H E).nox (defBody st) t ∧ t { nx := fun _ H' => Q .non H', rt := Q } (start N vs) H) : FnOk P w K mg base CX0 (k + 1) f fd ps sp := by
  obtain ⟨oc, od, kV, doc, pm, an, cdv, ct, osl, rfl, lk, hcd⟩ := F.ex
  refine fn_of lk hcd S len fun A outer s H vs Q E hr hsp => ?_
  obtain ⟨t, h, q⟩ := hbody cdv A outer s H vs Q E hr hsp
  exact ⟨t, h.nox, q⟩
theorem Fun.binds {x qual : Str} {st : Stmt} {f : Addr} {fd : FuncData} {ps : List Str} (F : Fun K x qual st f fd)
    (h : ∀ (kV doc pm : Value) (an : Option Addr) (cdv ct : Value) (us : List Value), us.length = ps.length → bindArgs (PySem.W.fnOf x qual (defArgs st) (defBody st) (defScope st) .none kV doc pm an cdv ct) ⟨us, []⟩ = pure (ps.zip us)) : Binds K fd ps [] := by
  obtain ⟨oc, od, kV, doc, pm, an, cdv, ct, osl, rfl, lk, hcd⟩ := F.ex
  exact .all (h kV doc pm an cdv ct)
theorem fun_mk {x qual : Str} {st : Stmt} {f : Addr} {oc : Value} {od an : Option Addr} {osl : Array (Option Value)} {kV doc pm cdv ct : Value} (l : K.lookup f = some ⟨oc, od, .func (PySem.W.fnOf x qual (defArgs st) (defBody st) (defScope st) .none kV doc pm an cdv ct), osl⟩)
    (c : PySem.W.codeIn K cdv qual = true) (k : PySem.W.keepIn K (.ref f) = true) : Fun K x qual st f (PySem.W.fnOf x qual (defArgs st) (defBody st) (defScope st) .none kV doc pm an cdv ct) := ⟨⟨oc, od, kV, doc, pm, an, cdv, ct, osl, rfl, l, c⟩, k⟩
end
theorem hu_of {A : Around} {k : Nat} (hr : Room k A) : A.units + 1 < cLine := Nat.lt_of_le_of_lt (Nat.add_le_add_left (by decide : 1 ≤ 64) _) hr.units
section
variable {X : Cx}
theorem pv (i : Nat) {x : Str} {pos : Pos} (hN : X.N[i]? = some x := by rfl) (hv : Vis X.env.scope x := by first | exact Or.inl rfl | exact Or.inr (Or.inl rfl) | exact Or.inr (Or.inr rfl)) (hd : (x == ("__debug__" : Str)) = false := by decide)
    (hcd : (x == ("__classdict__" : Str)) = false := by decide) : PE X (.Name x pos) (tVar i) := pe_var hN hv hd hcd
end
theorem iteF {A B : Prop} (h : B) : if false = true then A else B := by
  rw [if_neg Bool.false_ne_true]
  exact h
theorem iteT {A B : Prop} (h : A) : if true = true then A else B := by
  rw [if_pos rfl]
  exact h
end L2
namespace L2
open PySem PySem.Spec PyProof.Rows
section
variable {X : Cx}
theorem call_lenD : CallR X (.builtin "len") (fun xs H Q => ∃ a kvs, xs = [V.ref a] ∧ H a = some (.dK kvs) ∧ Q (.int kvs.length) H) := by
  intro pins s σ H xs us Q I r h
  obtain ⟨a, kvs, rfl, ha, q⟩ := h
  obtain ⟨u, rfl, ru⟩ := vals1 r
  cases ru
  exact d_len I (.inl ha) fun t s' I' => ⟨.int kvs.length, H, I', ⟨t, rfl⟩, q⟩
end
end L2
set_option maxHeartbeats 4000000
namespace L2
open PySem PySem.Spec PyProof.Rows
theorem Inv.track {X : Cx} {pins : List (Addr × Obj)} {σ : St} {H : Hp} {s : Shared} {D : Addr} {o : HO} (I : Inv X pins σ H s) (hD : X.s₀.heap.objs.size ≤ D) (hn : H D = none) (hL : D ≠ X.env.locals)
    (hcl : ∀ x c, X.env.cells.lookup x = some c → c ≠ D) (hp : ∀ p ∈ X.pn ++ pins, p.1 ≠ D) (new : ObjOk X.prog X.w (upd H D o) s.heap D o) : Inv X pins σ (upd H D o) s := by
  have ne : ∀ {b u}, H b = some u → b ≠ D := fun e z => by rw [z, hn] at e; cases e
  refine ⟨I.ok, I.os, I.bare, ⟨I.base.keep, I.base.slot, fun b ob e n hx => ?_, I.base.there, fun b xs e => ?_, fun b ob u e => ?_, fun b ps e => ?_⟩, I.loc, I.cell, ?_, fun x c e => ?_, fun p hp' => ?_, fun b u e => ?_, I.len, I.tk⟩
  · rw [upd_ne (Nat.ne_of_lt (Nat.lt_of_lt_of_le (Heap.lt_size e) hD))]
    exact I.base.free b ob e n hx
  · have q := I.base.tups b xs e
    rw [upd_ne (ne q)]; exact q
  · have q := I.base.frzs b ob u e
    rw [upd_ne (ne q)]; exact q
  · obtain ⟨mo, q⟩ := I.base.tbls b ps e
    exact ⟨mo, by rw [upd_ne (ne q)]; exact q⟩
  · rw [upd_ne (Ne.symm hL)]; exact I.free
  · rw [upd_ne (hcl x c e)]; exact I.freeC x c e
  · obtain ⟨e1, e2, e3, e4, e5⟩ := I.pin p hp'
    exact ⟨e1, by rw [upd_ne (hp p hp')]; exact e2, e3, e4, e5⟩
  · by_cases hb : b = D
    · subst hb; rw [upd_same] at e; cases e; exact new
    · rw [upd_ne hb] at e
      exact (I.hok b u e).stay (fun _ _ _ q => q) (fun c q => by rw [upd_ne (ne q)]; exact q) fun c xs q => by rw [upd_ne (ne q)]; exact q
section
variable {X : Cx} {vars : List Str} {scope : Scope} {cl : List (Str × Addr)} {C D it : Addr} {fp : List Addr} {s₂ : Shared} {H₂ : Hp} {tg elt iter : Expr} {ifs : List Expr} {pos : Pos} {J : It} {tn : Nat → Heap → Prop}
  {g : TG} {ti : TT} {te : TE} {R : Result → Shared → Prop}
end
end L2
namespace L2
open PySem PySem.Spec PyProof.Rows
noncomputable def Its (z : Str) : It := ⟨fun i _ => i < z.length, fun i H x H' => H' = H ∧ ∃ c, z.cps[i]? = some c ∧ x = .str ⟨#[c]⟩, fun i _ => z.length ≤ i⟩
theorem turn_strA {P : Program} {w : World} {K : PySem.W.Frag} {tg : Expr} (it : Addr) (z : Str) (t : Tok) : Turn P w K tg (Its z) [it] it (fun i h => h.IsStrIter it "str_ascii_iterator" z t i) where
  mem := by simp
  obj := fun i h st b hb => by
    have e : b = it := by simpa using hb
    subst e
    obtain ⟨o, e, c, d⟩ := st
    exact ⟨o, e, fun v z => by rw [d] at z; cases z⟩
  keep := fun i h h' st k => let ⟨o, ho, r⟩ := st; ⟨o, k it (by simp) o ho, r⟩
  item := by
    intro X hP hw hK hc i pins s σ H E I hf st hg
    subst hP hw hK
    obtain ⟨f0, f1, f2, f3, f4, f5⟩ := hf it (by simp)
    have hlt : i < z.cps.size := hg
    refine wpAny_pyNext_ascii_item st (c := z.cps[i]) (by simp [hlt]) fun h' st' sb => ?_
    have I1 : Inv X pins σ H { s with heap := h', toks := s.toks + 1 } := I.turned (fun b o hb e => (sb.2 b hb).trans e) f0 f1 f3 f4 f5
    obtain ⟨o, e, c, d⟩ := id st'
    exact ⟨_, rfl, go_of (s := { s with heap := h', toks := s.toks + 1 }) e c d (by decide) ⟨.str ⟨#[z.cps[i]]⟩, H, I1, ⟨_, rfl⟩, ⟨rfl, z.cps[i], by simp [hlt], rfl⟩, st', fun b hb => (hf b hb).1⟩⟩
  done := by
    intro X hP hw hK hc i pins s σ H E I hf st hg
    subst hP hw hK
    obtain ⟨f0, f1, f2, f3, f4, f5⟩ := hf it (by simp)
    have hle : z.cps.size ≤ i := hg
    exact wpAny_pyNext_ascii_end (I.ok.hd hc) st (by simp [hle]) fun h' eb => ⟨rfl, I.turned (t' := s.toks) (fun b o hb e => eb b o hb e) f0 f1 f3 f4 f5⟩
  self := fun _ _ _ _ _ st h => wpAny_pyIter_striter_ascii st h
theorem turn_strW {P : Program} {w : World} {K : PySem.W.Frag} {tg : Expr} (it : Addr) (z : Str) (t : Tok) : Turn P w K tg (Its z) [it] it (fun i h => h.IsStrIter it "str_iterator" z t i) where
  mem := by simp
  obj := fun i h st b hb => by
    have e : b = it := by simpa using hb
    subst e
    obtain ⟨o, e, c, d⟩ := st
    exact ⟨o, e, fun v z => by rw [d] at z; cases z⟩
  keep := fun i h h' st k => let ⟨o, ho, r⟩ := st; ⟨o, k it (by simp) o ho, r⟩
  item := by
    intro X hP hw hK hc i pins s σ H E I hf st hg
    subst hP hw hK
    obtain ⟨f0, f1, f2, f3, f4, f5⟩ := hf it (by simp)
    have hlt : i < z.cps.size := hg
    refine wpAny_pyNext_wide_item st (c := z.cps[i]) (by simp [hlt]) fun h' st' sb => ?_
    have I1 : Inv X pins σ H { s with heap := h', toks := s.toks + 1 } := I.turned (fun b o hb e => (sb.2 b hb).trans e) f0 f1 f3 f4 f5
    obtain ⟨o, e, c, d⟩ := id st'
    exact ⟨_, rfl, go_of (s := { s with heap := h', toks := s.toks + 1 }) e c d (by decide) ⟨.str ⟨#[z.cps[i]]⟩, H, I1, ⟨_, rfl⟩, ⟨rfl, z.cps[i], by simp [hlt], rfl⟩, st', fun b hb => (hf b hb).1⟩⟩
  done := by
    intro X hP hw hK hc i pins s σ H E I hf st hg
    subst hP hw hK
    obtain ⟨f0, f1, f2, f3, f4, f5⟩ := hf it (by simp)
    have hle : z.cps.size ≤ i := hg
    exact wpAny_pyNext_wide_end (I.ok.hd hc) st (by simp [hle]) fun h' eb => ⟨rfl, I.turned (t' := s.toks) (fun b o hb e => eb b o hb e) f0 f1 f3 f4 f5⟩
  self := fun _ _ _ _ _ st h => wpAny_pyIter_striter_wide st h
def iStr (tl : TE) : TI := fun σ H R => tl σ H fun x H1 => ∃ z, x = .str z ∧ R (Its z) H1
theorem pi_str {X : Cx} {tg l : Expr} {tl : TE} (hl : PE X l tl) : PI X tg l (iStr tl) := by
  intro pins s σ H R I h
  refine thn5 (hl pins s σ H _ I h) fun v s1 x H1 I1 r1 q1 => ?_
  obtain ⟨z, e, q⟩ := q1
  subst e
  obtain ⟨t, rfl⟩ := r1
  have fin : ∀ b ∈ [s1.heap.objs.size], FpOk X pins H1 b := fun b hb => by
    have e : b = s1.heap.objs.size := by simpa using hb
    subst e
    exact I1.fpOk (Nat.le_refl _) (I1.hok.fresh (Nat.le_refl _))
  cases ha : z.cps.all (· < 128)
  · refine wpAny_pyIter_wide ha ?_
    exact ⟨s1.heap.objs.size, [s1.heap.objs.size], _, Its z, H1, rfl, I1.kept (t' := s1.toks) fun b o e => Heap.get?_push_of_some _ e, turn_strW _ z t, ⟨_, Heap.get?_push_size _ rfl, rfl, rfl⟩, fin, q⟩
  · refine wpAny_pyIter_ascii ha ?_
    exact ⟨s1.heap.objs.size, [s1.heap.objs.size], _, Its z, H1, rfl, I1.kept (t' := s1.toks) fun b o e => Heap.get?_push_of_some _ e, turn_strA _ z t, ⟨_, Heap.get?_push_size _ rfl, rfl, rfl⟩, fin, q⟩
section
variable {X : Cx}
theorem op_le_str : OpR X (compareOp .LtE) (fun x y H Q => ∃ i j, x = .str i ∧ y = .str j ∧ Q (.bl (!decide (j.cps.toList < i.cps.toList))) H) := by
  intro pins s σ H x y v u Q I rx ry h
  obtain ⟨i, j, rfl, rfl, q⟩ := h
  obtain ⟨t, rfl⟩ := rx
  obtain ⟨t', rfl⟩ := ry
  exact PySem.P.le_str (fin_bl I q rfl)
end
end L2
namespace L2
open PySem PySem.Spec PyProof.Rows PySem.Builtin.Str
mutual
inductive DatIs (K : PySem.W.Frag) (H : Hp) : V → PyData → Prop
  | non : DatIs K H .non .none
  | bl (b : Bool) : DatIs K H (.bl b) (.bool b)
  | int (i : Int) : DatIs K H (.int i) (.int i)
  | str (x : Str) : DatIs K H (.str x) (.str x)
  | lst {p : Addr} {xs : List V} {ds : List PyData} : SqL K H p xs → DatAll K H xs ds → DatIs K H (.ref p) (.list ds)
  | tup {p : Addr} {xs : List V} {ds : List PyData} : SqT K H p xs → DatAll K H xs ds → DatIs K H (.ref p) (.tuple ds)
inductive DatAll (K : PySem.W.Frag) (H : Hp) : List V → List PyData → Prop
  | nil : DatAll K H [] []
  | cons {v : V} {d : PyData} {vs : List V} {ds : List PyData} : DatIs K H v d → DatAll K H vs ds → DatAll K H (v :: vs) (d :: ds)
end
section
variable {X : Cx} {pins : List (Addr × Obj)} {σ : St} {H : Hp} {s : Shared}
mutual
theorem DatIs.reads (I : Inv X pins σ H s) : ∀ {v : V} {d : PyData} {u : Value}, DatIs X.K H v d → RelV v u → ∃ as, Reads s.heap u d as
  | _, _, _, .non, r => by cases r; exact ⟨_, .none⟩
  | _, _, _, .bl b, r => by cases r; exact ⟨_, .bool b⟩
  | _, _, _, .int i, r => by obtain ⟨t, rfl⟩ := r; exact ⟨_, .int i t⟩
  | _, _, _, .str x, r => by obtain ⟨t, rfl⟩ := r; exact ⟨_, .str x t⟩
  | _, _, _, .lst hq ha, r => by
    cases r
    obtain ⟨its, rv, ⟨o, n, e, hc, hd, hs⟩, _⟩ := I.list hq
    obtain ⟨as, ra⟩ := DatAll.reads I ha rv
    exact ⟨_, .list e hc hs (by simpa using ra)⟩
  | _, _, _, .tup hq ha, r => by
    cases r
    obtain ⟨its, rv, ⟨o, e, hc, n, hs⟩, _⟩ := I.tuple hq
    obtain ⟨as, ra⟩ := DatAll.reads I ha rv
    exact ⟨_, .tuple e hc hs (by simpa using ra)⟩
theorem DatAll.reads (I : Inv X pins σ H s) : ∀ {vs : List V} {ds : List PyData} {us : List Value}, DatAll X.K H vs ds → Vals vs us → ∃ as, ReadsAll s.heap us ds as
  | _, _, _, .nil, r => by cases r; exact ⟨_, .nil⟩
  | _, _, _, .cons h t, r => by
    cases r with
    | cons r1 r2 =>
      obtain ⟨as, ra⟩ := DatIs.reads I h r1
      obtain ⟨bs, rb⟩ := DatAll.reads I t r2
      exact ⟨_, .cons ra rb⟩
end
end
section
variable {X : Cx}
def rEqD (K : PySem.W.Frag) (neg : Bool) : R2 := fun x y H Q => ∃ d e, DatIs K H x d ∧ DatIs K H y e ∧ SeqAt.shaped d = true ∧ SeqAt.shaped e = true ∧ Q (.bl (if neg then !PyData.eqv d e else PyData.eqv d e)) H
theorem op_eqD {k : Nat} (hr : Room k X.A) : OpR X (compareOp .Eq) (rEqD X.K false) := by
  intro pins s σ H x y v u Q I rx ry h
  obtain ⟨d, e, hd, he, sd, se, q⟩ := h
  obtain ⟨as, ra⟩ := hd.reads I rx
  obtain ⟨bs, rb⟩ := he.reads I ry
  exact eq_dataH ra rb sd se hr.units ⟨.bl _, H, I, rfl, q⟩
theorem op_neD {k : Nat} (hr : Room k X.A) : OpR X (compareOp .NotEq) (rEqD X.K true) := by
  intro pins s σ H x y v u Q I rx ry h
  obtain ⟨d, e, hd, he, sd, se, q⟩ := h
  obtain ⟨as, ra⟩ := hd.reads I rx
  obtain ⟨bs, rb⟩ := he.reads I ry
  exact ne_dataH ra rb sd se hr.units ⟨.bl _, H, I, rfl, q⟩
end
end L2
namespace L2
open PySem PySem.Spec PyProof.Rows
section
variable {X : Cx}
def uAdd : R2 := fun x y H Q => match x, y with
  | .int i, .int j => Q (.int (i + j)) H
  | .str a, .str b => a.length + b.length ≤ sizeLine ∧ Q (.str (a ++ b)) H
  | .ref l, .ref b => ∃ xs zs, H l = some (.lst xs) ∧ H b = some (.lst zs) ∧ xs.length + zs.length ≤ sizeLine ∧ ∀ p, H p = none → Q (.ref p) (upd H p (.lst (xs ++ zs)))
  | _, _ => False
theorem u_add : OpR X (binaryOp .Add) uAdd := by
  intro pins s σ H x y v u Q I rx ry h
  cases x with
  | int i =>
    cases y with
    | int j => exact op_add pins s σ H _ _ v u Q I rx ry ⟨i, j, rfl, rfl, h⟩
    | _ => exact False.elim h
  | str a =>
    cases y with
    | str b => exact op_add_str pins s σ H _ _ v u Q I rx ry ⟨a, b, rfl, rfl, h⟩
    | _ => exact False.elim h
  | ref l =>
    cases y with
    | ref b =>
      obtain ⟨xs, zs, h1, h2, h3, h4⟩ := h
      exact op_cat pins s σ H _ _ v u Q I rx ry ⟨l, b, xs, zs, rfl, rfl, h1, h2, h3, h4⟩
    | _ => exact False.elim h
  | _ => exact False.elim h
def uSub : R2 := fun x y H Q => match x, y with
  | .int i, .int j => Q (.int (i - j)) H
  | _, _ => False
theorem u_sub : OpR X (binaryOp .Sub) uSub := by
  intro pins s σ H x y v u Q I rx ry h
  cases x with
  | int i =>
    cases y with
    | int j => exact op_sub pins s σ H _ _ v u Q I rx ry ⟨i, j, rfl, rfl, h⟩
    | _ => exact False.elim h
  | _ => exact False.elim h
def uMod : R2 := fun x y H Q => match x, y with
  | .int i, .int j => 0 < j ∧ Q (.int (i % j)) H
  | _, _ => False
theorem u_mod : OpR X (binaryOp .Mod) uMod := by
  intro pins s σ H x y v u Q I rx ry h
  cases x with
  | int i =>
    cases y with
    | int j => exact op_mod pins s σ H _ _ v u Q I rx ry ⟨i, j, rfl, rfl, h⟩
    | _ => exact False.elim h
  | _ => exact False.elim h
def uDiv : R2 := fun x y H Q => match x, y with
  | .int i, .int j => (0 < j ∧ j < 1073741824) ∧ Q (.int (i / j)) H
  | _, _ => False
theorem u_div : OpR X (binaryOp .FloorDiv) uDiv := by
  intro pins s σ H x y v u Q I rx ry h
  cases x with
  | int i =>
    cases y with
    | int j => exact op_fdiv pins s σ H _ _ v u Q I rx ry ⟨i, j, rfl, rfl, h⟩
    | _ => exact False.elim h
  | _ => exact False.elim h
def uLt : R2 := fun x y H Q => match x, y with
  | .int i, .int j => Q (.bl (decide (i < j))) H
  | .str i, .str j => Q (.bl (decide (i.cps.toList < j.cps.toList))) H
  | _, _ => False
theorem u_lt : OpR X (compareOp .Lt) uLt := by
  intro pins s σ H x y v u Q I rx ry h
  cases x with
  | int i =>
    cases y with
    | int j => exact op_lt pins s σ H _ _ v u Q I rx ry ⟨i, j, rfl, rfl, h⟩
    | _ => exact False.elim h
  | str i =>
    cases y with
    | str j => exact op_lt_str pins s σ H _ _ v u Q I rx ry ⟨i, j, rfl, rfl, h⟩
    | _ => exact False.elim h
  | _ => exact False.elim h
def uLe : R2 := fun x y H Q => match x, y with
  | .int i, .int j => Q (.bl (decide (i ≤ j))) H
  | .str i, .str j => Q (.bl (!decide (j.cps.toList < i.cps.toList))) H
  | _, _ => False
theorem u_le : OpR X (compareOp .LtE) uLe := by
  intro pins s σ H x y v u Q I rx ry h
  cases x with
  | int i =>
    cases y with
    | int j => exact op_le pins s σ H _ _ v u Q I rx ry ⟨i, j, rfl, rfl, h⟩
    | _ => exact False.elim h
  | str i =>
    cases y with
    | str j => exact op_le_str pins s σ H _ _ v u Q I rx ry ⟨i, j, rfl, rfl, h⟩
    | _ => exact False.elim h
  | _ => exact False.elim h
def uIn (K : PySem.W.Frag) (neg : Bool) : R2 := fun x y H Q => match x, y with
  | .str i, .str j => Q (.bl (xor neg (!(Builtin.Str.occurrences j i 0 j.length 1).isEmpty))) H
  | x, .ref p => ∃ xs, (SqL K H p xs ∨ SqT K H p xs) ∧ flatV x = true ∧ xs.all flatV = true ∧ Q (.bl (xor neg (inV x xs))) H
  | _, _ => False
theorem u_notin : OpR X (compareOp .NotIn) (uIn X.K true) := by
  intro pins s σ H x y v u Q I rx ry h
  cases y with
  | str j =>
    cases x with
    | str i =>
      have h' : Q (.bl (xor true (!(Builtin.Str.occurrences j i 0 j.length 1).isEmpty))) H := h
      rw [Bool.true_xor] at h'
      exact op_notin_str pins s σ H _ _ v u Q I rx ry ⟨i, j, rfl, rfl, h'⟩
    | _ => exact False.elim h
  | ref p =>
    have h' : ∃ xs, (SqL X.K H p xs ∨ SqT X.K H p xs) ∧ flatV x = true ∧ xs.all flatV = true ∧ Q (.bl (xor true (inV x xs))) H := by cases x <;> exact h
    obtain ⟨xs, h1, h2, h3, h4⟩ := h'
    rw [Bool.true_xor] at h4
    exact op_notIn_seq pins s σ H _ _ v u Q I rx ry ⟨p, xs, rfl, h1, h2, h3, h4⟩
  | _ => cases x <;> exact False.elim h
def uIx (K : PySem.W.Frag) : R2 := fun x y H Q => match x, y with
  | .str z, .int i => ∃ c, z.length ≤ sizeLine ∧ atI z.cps.toList i = some c ∧ Q (.str ⟨#[c]⟩) H
  | .ref p, .int i => ∃ xs v, (SqL K H p xs ∨ SqT K H p xs) ∧ atI xs i = some v ∧ Q v H
  | _, _ => False
theorem u_ix : IxR X (uIx X.K) := by
  intro value slice pins s σ H x y v u Q I rx ry h hs
  cases x with
  | str z =>
    cases y with
    | int i =>
      obtain ⟨c, h1, h2, h3⟩ := h
      exact ix_str value slice pins s σ H _ _ v u Q I rx ry ⟨z, i, c, rfl, rfl, h1, h2, h3⟩ hs
    | _ => exact False.elim h
  | ref p =>
    cases y with
    | int i =>
      obtain ⟨xs, c, h1 | h1, h2, h3⟩ := h
      · exact ix_list value slice pins s σ H _ _ v u Q I rx ry ⟨p, xs, i, c, rfl, rfl, h1, h2, h3⟩ hs
      · exact ix_tup value slice pins s σ H _ _ v u Q I rx ry ⟨p, xs, i, c, rfl, rfl, h1, h2, h3⟩ hs
    | _ => exact False.elim h
  | _ => exact False.elim h
noncomputable def uLen (K : PySem.W.Frag) : List V → Hp → VK → Prop := fun xs H Q => match xs with
  | [.str z] => z.length ≤ sizeLine ∧ Q (.int z.length) H
  | [.ref p] => ∃ ys, (SqL K H p ys ∨ SqT K H p ys) ∧ Q (.int ys.length) H
  | _ => False
theorem u_len : CallR X (.builtin "len") (uLen X.K) := by
  intro pins s σ H xs us Q I r h
  cases xs with
  | nil => exact False.elim h
  | cons x xs =>
    cases xs with
    | cons _ _ => cases x <;> exact False.elim h
    | nil =>
      cases x with
      | str z => exact call_len_str pins s σ H _ us Q I r ⟨z, rfl, h⟩
      | ref p =>
        obtain ⟨ys, h1, h2⟩ := h
        exact call_len_seq pins s σ H _ us Q I r ⟨p, ys, rfl, h1, h2⟩
      | _ => exact False.elim h
end
theorem bt_len : bootBuiltins "len" = some (.builtin "len") := by decide +kernel
theorem bt_isinstance : bootBuiltins "isinstance" = some (.builtin "isinstance") := by decide +kernel
theorem bt_int : bootBuiltins "int" = some (.type "int") := by decide +kernel
theorem bt_bool : bootBuiltins "bool" = some (.type "bool") := by decide +kernel
theorem bt_list : bootBuiltins "list" = some (.type "list") := by decide +kernel
structure Has (P : Program) (w : World) (K : PySem.W.Frag) (mg : Str → Option Value) (base : Heap) (x : Str) (k : Nat) (ps : List Str) (sp : Sp) : Prop where
  ex : ∃ f fd, FnOk P w K mg base CX0 k f fd ps sp ∧ Binds K fd ps [] ∧ PySem.W.keepIn K (.ref f) = true ∧ mg x = some (.ref f)
section
variable {X : Cx} {k kk : Nat} {x : Str} {ps : List Str} {sp : Sp} {e : Expr} {es : List Expr} {t : TA} {p pos : Pos}
theorem pe_callH (h : Has X.prog X.w X.K X.mg X.base x k ps sp) (hr : Room kk X.A) (hk : k ≤ kk) (hg : Gl X x) (ha : PA X (e :: es) t) (hx : Passes CX0 X E0 := by exact pass0) (hdb : (x == ("__debug__" : Str)) = false := by decide)
    (he : starEach (e :: es) X.env = (false, eval e X.env) :: starEach es X.env := by rfl) (hpl : (backTo pos (starEach es X.env)).any (·.1) = false := by rfl) :
    PE X (.Call (.Name x p) (e :: es) [] pos) (tCall sp [] E0 t) := by
  obtain ⟨f, fd, F, b, kp, m⟩ := h.ex
  exact pe_call F (hr.mono hk) hg m kp b .nil hx ha hdb he hpl
structure HasV (mg : Str → Option Value) (x : Str) (v : V) : Prop where
  ex : ∃ u, mg x = some u ∧ RelV v u
theorem pe_globH {v : V} (h : HasV X.mg x v) (hg : Gl X x) (hd : (x == ("__debug__" : Str)) = false := by decide) : PE X (.Name x pos) (tC v) := by
  obtain ⟨u, m, r⟩ := h.ex
  exact pe_glob hg m r hd
end
noncomputable def relB : V → Value → Bool
  | .non, .none => true
  | .bl a, .bool b => a == b
  | .int i, .int j _ => i == j
  | .str x, .str y _ => x == y
  | _, _ => false
theorem relB_is {v : V} {u : Value} (h : relB v u = true) : RelV v u := by
  cases v <;> cases u <;> first | exact (Bool.false_ne_true h).elim | rfl | (have e := eq_of_beq h; subst e; first | rfl | exact ⟨_, rfl⟩)
theorem kit_ty {K : PySem.W.Frag} {A B : String} {b : Bool} (h : (if (Value.type A == Value.type B) = true then some true else if PySem.W.kitMeta B = true then (PySem.fastBuiltinMro A).map (·.contains (Value.type B)) else none) = some b) : PySem.W.kitOne K (.type A) (.type B) = some b := h
end L2
namespace TX
open PySem
noncomputable def sp (y : Nat) : Nat := if y = 10 then 32 else y
end TX
namespace TS
open PySem PyProof.Rows
variable {prog : Program} {w : World} {A : Around} {E : Value → Shared → Prop} {s : Shared} {a₀ : Array Keyed} {κ : KeyKind}
abbrev H5 := Option (Array Keyed) × Nat × Nat × Array Keyed × Nat
end TS
namespace M
abbrev T := List Nat
inductive Kd where
  | str | int | bool | list | tuple | dict
  deriving DecidableEq
inductive D where
  | non | bl (b : Bool) | int (i : Int) | str (x : T) | tup (ds : List D) | ro (ds : List D) | ref (i : Nat) | ty (n : Kd)
mutual
noncomputable def D.decEq : (a b : D) → Decidable (a = b)
  | .non, .non => isTrue rfl
  | .bl a, .bl b => if h : a = b then isTrue (by rw [h]) else isFalse (fun e => h (D.bl.inj e))
  | .int a, .int b => if h : a = b then isTrue (by rw [h]) else isFalse (fun e => h (D.int.inj e))
  | .str a, .str b => if h : a = b then isTrue (by rw [h]) else isFalse (fun e => h (D.str.inj e))
  | .ref a, .ref b => if h : a = b then isTrue (by rw [h]) else isFalse (fun e => h (D.ref.inj e))
  | .ty a, .ty b => if h : a = b then isTrue (by rw [h]) else isFalse (fun e => h (D.ty.inj e))
  | .tup a, .tup b => match D.decEqs a b with
    | isTrue h => isTrue (by rw [h])
    | isFalse h => isFalse (fun e => h (D.tup.inj e))
  | .ro a, .ro b => match D.decEqs a b with
    | isTrue h => isTrue (by rw [h])
    | isFalse h => isFalse (fun e => h (D.ro.inj e))
  | .non, .bl _ | .non, .int _ | .non, .str _ | .non, .tup _ | .non, .ro _ | .non, .ref _ | .non, .ty _ => isFalse (fun e => nomatch e)
  | .bl _, .non | .bl _, .int _ | .bl _, .str _ | .bl _, .tup _ | .bl _, .ro _ | .bl _, .ref _ | .bl _, .ty _ => isFalse (fun e => nomatch e)
  | .int _, .non | .int _, .bl _ | .int _, .str _ | .int _, .tup _ | .int _, .ro _ | .int _, .ref _ | .int _, .ty _ => isFalse (fun e => nomatch e)
  | .str _, .non | .str _, .bl _ | .str _, .int _ | .str _, .tup _ | .str _, .ro _ | .str _, .ref _ | .str _, .ty _ => isFalse (fun e => nomatch e)
  | .tup _, .non | .tup _, .bl _ | .tup _, .int _ | .tup _, .str _ | .tup _, .ro _ | .tup _, .ref _ | .tup _, .ty _ => isFalse (fun e => nomatch e)
  | .ro _, .non | .ro _, .bl _ | .ro _, .int _ | .ro _, .str _ | .ro _, .tup _ | .ro _, .ref _ | .ro _, .ty _ => isFalse (fun e => nomatch e)
  | .ref _, .non | .ref _, .bl _ | .ref _, .int _ | .ref _, .str _ | .ref _, .tup _ | .ref _, .ro _ | .ref _, .ty _ => isFalse (fun e => nomatch e)
  | .ty _, .non | .ty _, .bl _ | .ty _, .int _ | .ty _, .str _ | .ty _, .tup _ | .ty _, .ro _ | .ty _, .ref _ => isFalse (fun e => nomatch e)
noncomputable def D.decEqs : (a b : List D) → Decidable (a = b)
  | [], [] => isTrue rfl
  | [], _ :: _ => isFalse (fun e => nomatch e)
  | _ :: _, [] => isFalse (fun e => nomatch e)
  | a :: r, b :: t => match D.decEq a b, D.decEqs r t with
    | isTrue h, isTrue k => isTrue (by rw [h, k])
    | isFalse h, _ => isFalse (fun e => h (List.cons.inj e).1)
    | _, isFalse k => isFalse (fun e => k (List.cons.inj e).2)
end
instance : DecidableEq D := D.decEq
inductive O where
  | lst (xs : List D) | dct (kvs : List (D × D)) | fdc (kvs : List (D × D)) | dtt (kvs : List (D × D)) | ftt (kvs : List (D × D)) | ins (c : Nat) (fs : List (Option D))
  deriving DecidableEq
abbrev S := List O
abbrev St := List (Option D)
inductive R (α : Type) where
  | ok (a : α) (s : S) | exc (e : D) (s : S) | no
noncomputable def R.bind {α β : Type} : R α → (α → S → R β) → R β
  | .ok a s, f => f a s
  | .exc e s, _ => .exc e s
  | .no, _ => .no
@[simp] theorem R.bind_ok {α β : Type} (a : α) (s : S) (f : α → S → R β) : (R.ok a s).bind f = f a s := rfl
@[simp] theorem R.bind_no {α β : Type} (f : α → S → R β) : (R.no : R α).bind f = .no := rfl
@[simp] theorem R.bind_exc {α β : Type} (e : D) (s : S) (f : α → S → R β) : (R.exc e s : R α).bind f = .exc e s := rfl
section
variable {α β : Type} {c : Prop} [Decidable c]
@[simp] theorem R.bind_ite (a b : R α) (f : α → S → R β) : (if c then a else b).bind f = if c then a.bind f else b.bind f := by split <;> rfl
@[simp] theorem R.ite_ok (a b : α) (s : S) : (if c then R.ok a s else R.ok b s) = R.ok (if c then a else b) s := by split <;> rfl
@[simp] theorem D.ite_bl (a b : Bool) : (if c then D.bl a else D.bl b) = D.bl (if c then a else b) := by split <;> rfl
@[simp] theorem D.ite_int (a b : Int) : (if c then D.int a else D.int b) = D.int (if c then a else b) := by split <;> rfl
@[simp] theorem D.ite_str (a b : T) : (if c then D.str a else D.str b) = D.str (if c then a else b) := by split <;> rfl
@[simp] theorem D.ite_tup (a b : List D) : (if c then D.tup a else D.tup b) = D.tup (if c then a else b) := by split <;> rfl
@[simp] theorem St.ite_some (a b : D) : (if c then some a else some b) = some (if c then a else b) := by split <;> rfl
@[simp] theorem St.ite_cons (a b : Option D) (r t : St) : (if c then a :: r else b :: t) = (if c then a else b) :: (if c then r else t) := by split <;> rfl
end
abbrev EM := St → S → R D
abbrev TM := St → S → R Bool
abbrev AM := St → S → R (List D)
noncomputable def SZ : Nat := 16777216
@[simp] noncomputable def eVar (i : Nat) : EM := fun σ s => match σ[i]? with
  | some (some d) => .ok d s
  | _ => .no
@[simp] noncomputable def eC (d : D) : EM := fun _ s => .ok d s
@[simp] def eOp (f : D → D → S → R D) (a b : EM) : EM := fun σ s => (a σ s).bind fun x s => (b σ s).bind fun y s => f x y s
@[simp] def eUn (f : D → S → R D) (a : EM) : EM := fun σ s => (a σ s).bind fun x s => f x s
@[simp] noncomputable def aNil : AM := fun _ s => .ok [] s
@[simp] def aCons (a : EM) (r : AM) : AM := fun σ s => (a σ s).bind fun x s => (r σ s).bind fun xs s => .ok (x :: xs) s
@[simp] def eTup (a : AM) : EM := fun σ s => (a σ s).bind fun xs s => if xs.length ≤ SZ then .ok (.tup xs) s else .no
@[simp] noncomputable def alloc (o : O) (s : S) : R D := .ok (.ref s.length) (s ++ [o])
@[simp] def eLst (a : AM) : EM := fun σ s => (a σ s).bind fun xs s => if xs.length ≤ SZ then alloc (.lst xs) s else .no
@[simp] noncomputable def lstAt (s : S) (i : Nat) : Option (List D) := match s[i]? with
  | some (.lst xs) => some xs
  | _ => none
@[simp] def opAdd : D → D → S → R D
  | .int i, .int j, s => .ok (.int (i + j)) s
  | .str a, .str b, s => if a.length + b.length ≤ SZ then .ok (.str (a ++ b)) s else .no
  | .tup a, .tup b, s => if a ≠ [] ∧ a.length + b.length ≤ SZ then .ok (.tup (a ++ b)) s else .no
  | .ref i, .ref j, s => match s[i]?, s[j]? with
    | some (.lst xs), some (.lst ys) => if xs.length + ys.length ≤ SZ then alloc (.lst (xs ++ ys)) s else .no
    | _, _ => .no
  | _, _, _ => .no
@[simp] noncomputable def opSub : D → D → S → R D
  | .int i, .int j, s => .ok (.int (i - j)) s
  | _, _, _ => .no
@[simp] noncomputable def opDiv : D → D → S → R D
  | .int i, .int j, s => if 0 < j ∧ j.natAbs < 1073741824 then .ok (.int (i / j)) s else .no
  | _, _, _ => .no
@[simp] noncomputable def opMod : D → D → S → R D
  | .int i, .int j, s => if 0 < j then .ok (.int (i % j)) s else .no
  | _, _, _ => .no
@[simp] noncomputable def opPow : D → D → S → R D
  | .int i, .int j, s => if 0 ≤ j ∧ j.natAbs ≤ 1000000 ∧ i.natAbs < 18446744073709551616 then .ok (.int (i ^ j.toNat)) s else .no
  | _, _, _ => .no
@[simp] noncomputable def unNeg : D → S → R D
  | .int i, s => .ok (.int (-i)) s
  | _, _ => .no
abbrev CM := D → D → S → R Bool
@[simp] noncomputable def cLt : CM
  | .int i, .int j, s => .ok (decide (i < j)) s
  | .str a, .str b, s => .ok (decide (a < b)) s
  | _, _, _ => .no
@[simp] noncomputable def cLe : CM
  | .int i, .int j, s => .ok (decide (i ≤ j)) s
  | .str a, .str b, s => .ok (!decide (b < a)) s
  | _, _, _ => .no
inductive P where
  | non | bl (b : Bool) | int (i : Int) | str (x : T) | tup (ps : List P) | lst (ps : List P)
mutual
noncomputable def P.eqv : P → P → Bool
  | .non, .non => true
  | .bl a, .bl b => a == b
  | .int a, .int b => a == b
  | .bl a, .int b => (if a then 1 else 0) == b
  | .int a, .bl b => a == (if b then 1 else 0)
  | .str a, .str b => a == b
  | .tup a, .tup b => P.eqvs a b
  | .lst a, .lst b => P.eqvs a b
  | _, _ => false
noncomputable def P.eqvs : List P → List P → Bool
  | [], [] => true
  | a :: r, b :: t => P.eqv a b && P.eqvs r t
  | _, _ => false
end
mutual
noncomputable def P.dep : P → Nat
  | .tup ps => P.deps ps + 1
  | .lst ps => P.deps ps + 1
  | _ => 0
noncomputable def P.deps : List P → Nat
  | [] => 0
  | p :: ps => max (P.dep p) (P.deps ps)
end
noncomputable def toPg (g : Nat → Option P) : D → Option P
  | .non => some .non
  | .bl b => some (.bl b)
  | .int i => some (.int i)
  | .str x => some (.str x)
  | .tup ds => (all ds).map .tup
  | .ro ds => (all ds).map .lst
  | .ref i => g i
  | .ty _ => none
where all : List D → Option (List P)
  | [] => some []
  | d :: ds => match toPg g d, all ds with
    | some p, some ps => some (p :: ps)
    | _, _ => none
def toP : Nat → S → D → Option P
  | 0, _ => toPg fun _ => none
  | n + 1, s => toPg fun i => match lstAt s i with
    | some xs => (toPg.all (fun j => toP n s (.ref j)) xs).map .lst
    | none => none
noncomputable def DEEP : Nat := 9
noncomputable def dGet (k : D) (kvs : List (D × D)) : Option D := kvs.lookup k
def dEq (s : S) (ws : List (D × D)) : List (D × D) → Option Bool
  | [] => some true
  | (k, v) :: r => match dGet k ws with
    | none => some false
    | some w => match toP 8 s v, toP 8 s w, dEq s ws r with
      | some p, some q, some b => if P.dep p ≤ 64 ∧ P.dep q ≤ 64 then some (P.eqv p q && b) else none
      | _, _, _ => none
def eqDct (x y : D) (s : S) : R Bool := match x, y with
  | .ref i, .ref j => match s[i]?, s[j]? with
    | some (.dct ks), some (.dct ws) => if ks.length = ws.length then (match dEq s ws ks with | some b => .ok b s | none => .no) else .ok false s
    | _, _ => .no
  | _, _ => .no
@[simp] def eqD (x y : D) (s : S) : R Bool := match x, y with
  | .str a, .str b => .ok (decide (a = b)) s
  | .int a, .int b => .ok (decide (a = b)) s
  | .bl a, .bl b => .ok (decide (a = b)) s
  | .non, .non => .ok true s
  | x, y => match toP DEEP s x, toP DEEP s y with
    | some p, some q => if P.dep p ≤ 64 ∧ P.dep q ≤ 64 then .ok (P.eqv p q) s else .no
    | _, _ => eqDct x y s
@[simp] def cEq : CM := fun x y s => eqD x y s
@[simp] def cNe : CM := fun x y s => (eqD x y s).bind fun b s => .ok (!b) s
noncomputable def subT (a : T) : T → Bool
  | [] => a.isEmpty
  | c :: r => a.isPrefixOf (c :: r) || subT a r
noncomputable def flat : D → Bool
  | .non => true
  | .bl _ => true
  | .int _ => true
  | .str _ => true
  | _ => false
noncomputable def eqF : D → D → Bool
  | .non, .non => true
  | .bl a, .bl b => a == b
  | .int a, .int b => a == b
  | .bl a, .int b => (if a then 1 else 0) == b
  | .int a, .bl b => a == (if b then 1 else 0)
  | .str a, .str b => a == b
  | _, _ => false
def memF (x : D) (xs : List D) : Bool := xs.any fun y => eqF y x
noncomputable def keyOk : D → Bool
  | .int _ => true
  | .str _ => true
  | _ => false
@[simp] def inD (x y : D) (s : S) : R Bool := match y with
  | .str b => match x with
    | .str a => .ok (subT a b) s
    | _ => .no
  | .tup ys => if flat x && ys.all flat then .ok (memF x ys) s else .no
  | .ro ys => if flat x && ys.all flat then .ok (memF x ys) s else .no
  | .ref i => match s[i]? with
    | some (.lst ys) => if flat x && ys.all flat then .ok (memF x ys) s else .no
    | some (.dct kvs) => if keyOk x then .ok (dGet x kvs).isSome s else .no
    | some (.fdc kvs) => if keyOk x then .ok (dGet x kvs).isSome s else .no
    | _ => .no
  | _ => .no
@[simp] def eCmp (c : CM) (a b : EM) : EM := fun σ s => (a σ s).bind fun x s => (b σ s).bind fun y s => (c x y s).bind fun k s => .ok (.bl k) s
@[simp] def tCmp (c : CM) (a b : EM) : TM := fun σ s => (a σ s).bind fun x s => (b σ s).bind fun y s => c x y s
@[simp] def eChain (c d : CM) (a b e : EM) : EM := fun σ s => (a σ s).bind fun x s => (b σ s).bind fun y s => (c x y s).bind fun k s =>
  if k then (e σ s).bind fun z s => (d y z s).bind fun k s => .ok (.bl k) s else .ok (.bl false) s
@[simp] noncomputable def isNon : D → Bool
  | .non => true
  | _ => false
@[simp] def tNotN (a : EM) : TM := fun σ s => (a σ s).bind fun x s => .ok (!isNon x) s
@[simp] def truth : D → S → R Bool
  | .non, s => .ok false s
  | .bl b, s => .ok b s
  | .int i, s => .ok (decide (i ≠ 0)) s
  | .str x, s => if x.length ≤ SZ then .ok (!x.isEmpty) s else .no
  | .tup ds, s => .ok (!ds.isEmpty) s
  | .ro ds, s => .ok (!ds.isEmpty) s
  | .ref i, s => match s[i]? with
    | some (.lst xs) => .ok (!xs.isEmpty) s
    | some (.dct kvs) => .ok (!kvs.isEmpty) s
    | _ => .no
  | .ty _, _ => .no
@[simp] def tTru (a : EM) : TM := fun σ s => (a σ s).bind truth
@[simp] def tNot (a : TM) : TM := fun σ s => (a σ s).bind fun b s => .ok (!b) s
@[simp] def tOr (a b : TM) : TM := fun σ s => (a σ s).bind fun k s => if k then .ok true s else b σ s
@[simp] noncomputable def asB : D → S → R Bool
  | .bl b, s => .ok b s
  | _, _ => .no
@[simp] def eNot (a : EM) : EM := fun σ s => (a σ s).bind fun x s => (asB x s).bind fun k s => .ok (.bl (!k)) s
@[simp] def eAnd (a b : EM) : EM := fun σ s => (a σ s).bind fun x s => (asB x s).bind fun k s => if k then b σ s else .ok (.bl false) s
noncomputable def ixN (n : Nat) (i : Int) : Option Nat := if 0 ≤ i then (if i < n then some i.toNat else none) else if -(n : Int) ≤ i then some (i + n).toNat else none
def atI {α : Type} (xs : List α) (i : Int) : Option α := (ixN xs.length i).bind fun j => xs[j]?
@[simp] def opIx : D → D → S → R D
  | .str x, .int i, s => if x.length ≤ SZ then (match atI x i with | some c => .ok (.str [c]) s | none => .no) else .no
  | .tup xs, .int i, s => match atI xs i with | some d => .ok d s | none => .no
  | .ro xs, .int i, s => match atI xs i with | some d => .ok d s | none => .no
  | .ref p, k, s => match s[p]? with
    | some (.lst xs) => (match k with | .int i => (match atI xs i with | some d => .ok d s | none => .no) | _ => .no)
    | some (.dct kvs) => if keyOk k then (match dGet k kvs with | some d => .ok d s | none => .no) else .no
    | some (.fdc kvs) => if keyOk k then (match dGet k kvs with | some d => .ok d s | none => .no) else .no
    | _ => .no
  | _, _, _ => .no
abbrev F := List D → S → R D
@[simp] def eCall (f : F) (a : AM) : EM := fun σ s => (a σ s).bind fun xs s => f xs s
@[simp] noncomputable def tyOk (k : Kd) (x : D) (s : S) : Bool := match x with
  | .str _ => (match k with | .str => true | _ => false)
  | .ro _ => (match k with | .list => true | _ => false)
  | .ref p => match s[p]? with
    | some (.lst _) => (match k with | .list => true | _ => false)
    | some (.dct _) => (match k with | .dict => true | _ => false)
    | some (.dtt _) => (match k with | .dict => true | _ => false)
    | _ => false
  | _ => false
@[simp] def eM (k : Kd) (f : D → F) (o : EM) (a : AM) : EM := fun σ s => (o σ s).bind fun x s => if tyOk k x s then (a σ s).bind fun xs s => f x xs s else .no
@[simp] def eMeth (c : Nat) (f : F) (o : EM) (a : AM) : EM := fun σ s => (o σ s).bind fun x s => match x with
  | .ref p => (match s[p]? with
    | some (.ins c' _) => if c' = c then (a σ s).bind fun xs s => f (x :: xs) s else .no
    | _ => .no)
  | _ => .no
@[simp] def eMake (c : Nat) (n : Nat) (f : F) (a : AM) : EM := fun σ s => (a σ s).bind fun xs s => (f (.ref s.length :: xs) (s ++ [.ins c (List.replicate n none)])).bind fun d s' => if d = .non then .ok (.ref s.length) s' else .no
@[simp] def eFld (c : Nat) (i : Nat) (o : EM) : EM := fun σ s => (o σ s).bind fun x s => match x with
  | .ref p => (match s[p]? with
    | some (.ins c' fs) => if c' = c then (match fs[i]? with | some (some d) => .ok d s | _ => .no) else .no
    | _ => .no)
  | _ => .no
@[simp] def fLen : F
  | [.str x], s => if x.length ≤ SZ then .ok (.int x.length) s else .no
  | [.tup xs], s => .ok (.int xs.length) s
  | [.ro xs], s => .ok (.int xs.length) s
  | [.ref p], s => match s[p]? with
    | some (.lst xs) => .ok (.int xs.length) s
    | some (.dct kvs) => .ok (.int kvs.length) s
    | _ => .no
  | _, _ => .no
@[simp] noncomputable def isKind (n : Kd) (x : D) (s : S) : R Bool := match x with
  | .non => .ok false s
  | .bl _ => .ok (match n with | .bool => true | .int => true | _ => false) s
  | .int _ => .ok (match n with | .int => true | _ => false) s
  | .str _ => .ok (match n with | .str => true | _ => false) s
  | .tup _ => .ok (match n with | .tuple => true | _ => false) s
  | .ro _ => .ok (match n with | .list => true | _ => false) s
  | .ty _ => .no
  | .ref p => match s[p]? with
    | some (.lst _) => .ok (match n with | .list => true | _ => false) s
    | some (.dct _) => .ok (match n with | .dict => true | _ => false) s
    | _ => .no
@[simp] def fIsi : F
  | [x, .ty n], s => (isKind n x s).bind fun b s => .ok (.bl b) s
  | _, _ => .no
@[simp] def fList : F
  | [.tup xs], s => alloc (.lst xs) s
  | [.ro xs], s => alloc (.lst xs) s
  | [.ref p], s => match s[p]? with
    | some (.lst xs) => alloc (.lst xs) s
    | some (.dct kvs) => alloc (.lst (kvs.map (·.1))) s
    | _ => .no
  | _, _ => .no
@[simp] def mAppend : D → F
  | .ref p, [y], s => match s[p]? with
    | some (.lst xs) => if xs.length < SZ then .ok .non (s.set p (.lst (xs ++ [y]))) else .no
    | _ => .no
  | _, _, _ => .no
noncomputable def dPut (k v : D) (kvs : List (D × D)) : List (D × D) := if (kvs.any fun p => decide (p.1 = k)) = true then kvs.map fun p => if p.1 = k then (p.1, v) else p else kvs ++ [(k, v)]
noncomputable def dDrop (k : D) (kvs : List (D × D)) : List (D × D) := kvs.filter fun p => decide (p.1 ≠ k)
abbrev Gd := List (Nat × O)
noncomputable def gdOk (g : Gd) (s : S) : Bool := g.all fun p => decide (s[p.1]? = some p.2)
abbrev IM := St → S → R (List D × Gd)
@[simp] def itD : D → S → R (List D × Gd)
  | .str x, s => if x.length ≤ SZ then .ok (x.map fun c => .str [c], []) s else .no
  | .tup ds, s => .ok (ds, []) s
  | .ro ds, s => .ok (ds, []) s
  | .ref i, s => match s[i]? with
    | some (.lst xs) => .ok (xs, [(i, .lst xs)]) s
    | _ => .no
  | _, _ => .no
@[simp] def iE (a : EM) : IM := fun σ s => (a σ s).bind itD
noncomputable def rangeD (lo hi : Int) : List D := (List.range (hi - lo).toNat).map fun (k : Nat) => .int (lo + k)
@[simp] def iRange1 (a : EM) : IM := fun σ s => (a σ s).bind fun x s => match x with
  | .int j => if j.natAbs < 4611686018427387904 then .ok (rangeD 0 j, []) s else .no
  | _ => .no
abbrev GM := D → St → Option St
@[simp] noncomputable def gName (i : Nat) : GM := fun d σ => some (σ.set i (some d))
inductive RS where
  | nx (σ : St) (s : S) | rt (d : D) (s : S) | bk (σ : St) (s : S) | ct (σ : St) (s : S) | exc (e : D) (σ : St) (s : S) | no
abbrev SM := St → S → RS
noncomputable def R.stm {α : Type} (r : R α) (σ : St) (f : α → S → RS) : RS := match r with
  | .ok a s => f a s
  | .exc e s => .exc e σ s
  | .no => .no
@[simp] theorem R.stm_ok {α : Type} (a : α) (s : S) (σ : St) (f : α → S → RS) : (R.ok a s).stm σ f = f a s := rfl
@[simp] theorem R.stm_no {α : Type} (σ : St) (f : α → S → RS) : (R.no : R α).stm σ f = .no := rfl
noncomputable def RS.then (r : RS) (f : SM) : RS := match r with
  | .nx σ s => f σ s
  | r => r
@[simp] theorem RS.then_nx (σ : St) (s : S) (f : SM) : (RS.nx σ s).then f = f σ s := rfl
@[simp] theorem RS.then_rt (d : D) (s : S) (f : SM) : (RS.rt d s).then f = .rt d s := rfl
@[simp] theorem RS.then_no (f : SM) : RS.no.then f = .no := rfl
@[simp] theorem RS.then_bk (σ : St) (s : S) (f : SM) : (RS.bk σ s).then f = .bk σ s := rfl
section
variable {α : Type} {c : Prop} [Decidable c]
@[simp] theorem R.stm_ite (a b : R α) (σ : St) (f : α → S → RS) : (if c then a else b).stm σ f = if c then a.stm σ f else b.stm σ f := by split <;> rfl
@[simp] theorem RS.ite_nx (a b : St) (s : S) : (if c then RS.nx a s else RS.nx b s) = RS.nx (if c then a else b) s := by split <;> rfl
@[simp] theorem RS.ite_rt (a b : D) (s : S) : (if c then RS.rt a s else RS.rt b s) = RS.rt (if c then a else b) s := by split <;> rfl
@[simp] theorem RS.then_ite (a b : RS) (f : SM) : (if c then a else b).then f = if c then a.then f else b.then f := by split <;> rfl
end
@[simp] theorem RS.then_exc (e : D) (σ : St) (s : S) (f : SM) : (RS.exc e σ s).then f = .exc e σ s := rfl
@[simp] theorem R.stm_exc {α : Type} (e : D) (s : S) (σ : St) (f : α → S → RS) : (R.exc e s : R α).stm σ f = .exc e σ s := rfl
@[simp] theorem RS.then_ct (σ : St) (s : S) (f : SM) : (RS.ct σ s).then f = .ct σ s := rfl
@[simp] noncomputable def sNil : SM := fun σ s => .nx σ s
@[simp] def sSeq (a b : SM) : SM := fun σ s => (a σ s).then b
@[simp] def sExpr (e : EM) : SM := fun σ s => (e σ s).stm σ fun _ s => .nx σ s
@[simp] def sRet (e : EM) : SM := fun σ s => (e σ s).stm σ fun d s => .rt d s
@[simp] def sSet (i : Nat) (e : EM) : SM := fun σ s => (e σ s).stm σ fun d s => .nx (σ.set i (some d)) s
@[simp] def setFld (c : Nat) (i : Nat) (x y : D) (s : S) : R Unit := match x with
  | .ref p => (match s[p]? with
    | some (.ins c' fs) => if c' = c then .ok () (s.set p (.ins c (fs.set i (some y)))) else .no
    | _ => .no)
  | _ => .no
@[simp] def sFld (c : Nat) (i : Nat) (o e : EM) : SM := fun σ s => (e σ s).stm σ fun y s => (o σ s).stm σ fun x s => (setFld c i x y s).stm σ fun _ s => .nx σ s
@[simp] def getFld (c : Nat) (i : Nat) (x : D) (s : S) : R D := match x with
  | .ref p => (match s[p]? with
    | some (.ins c' fs) => if c' = c then (match fs[i]? with | some (some d) => .ok d s | _ => .no) else .no
    | _ => .no)
  | _ => .no
@[simp] def setIx (x k y : D) (s : S) : R Unit := match x with
  | .ref p => (match s[p]? with
    | some (.lst xs) => (match k with
      | .int i => (match ixN xs.length i with | some j => .ok () (s.set p (.lst (xs.set j y))) | none => .no)
      | _ => .no)
    | some (.dct kvs) => if keyOk k && decide (kvs.length < SZ) then .ok () (s.set p (.dct (dPut k y kvs))) else .no
    | _ => .no)
  | _ => .no
@[simp] def sSub (o k e : EM) : SM := fun σ s => (e σ s).stm σ fun y s => (o σ s).stm σ fun x s => (k σ s).stm σ fun k s => (setIx x k y s).stm σ fun _ s => .nx σ s
@[simp] def sIf (c : TM) (a b : SM) : SM := fun σ s => (c σ s).stm σ fun k s => if k then a σ s else b σ s
def forL (g : Gd) (f : D → SM) : List D → SM
  | [], σ, s => .nx σ s
  | x :: xs, σ, s => match f x σ s with
    | .nx σ s => if gdOk g s then forL g f xs σ s else .no
    | .ct σ s => if gdOk g s then forL g f xs σ s else .no
    | .bk σ s => .nx σ s
    | r => r
@[simp] noncomputable def forF (tg : GM) (b : SM) : D → SM := fun x σ s => match tg x σ with
  | some σ' => b σ' s
  | none => .no
@[simp] def sFor (it : IM) (tg : GM) (b : SM) : SM := fun σ s => (it σ s).stm σ fun p s => if gdOk p.2 s = true then forL p.2 (forF tg b) p.1 σ s else .no
noncomputable def RS.out (r : RS) : R D := match r with
  | .rt d s => .ok d s
  | .nx _ s => .ok .non s
  | .exc e _ s => .exc e s
  | _ => .no
@[simp] theorem RS.out_rt (d : D) (s : S) : (RS.rt d s).out = .ok d s := rfl
@[simp] theorem RS.out_nx (σ : St) (s : S) : (RS.nx σ s).out = .ok .non s := rfl
@[simp] theorem RS.out_no : RS.no.out = .no := rfl
@[simp] theorem RS.out_exc (e : D) (σ : St) (s : S) : (RS.exc e σ s).out = .exc e s := rfl
@[simp] theorem RS.out_ite {c : Prop} [Decidable c] (a b : RS) : (if c then a else b).out = if c then a.out else b.out := by split <;> rfl
@[simp] def fn (n : Nat) (b : SM) : F := fun xs s => (b (xs.map some ++ List.replicate (n - xs.length) none) s).out
noncomputable def D.cl (n : Nat) : D → Bool
  | .ref i => decide (i < n)
  | .tup ds => all ds
  | .ro ds => all ds
  | _ => true
where all : List D → Bool
  | [] => true
  | d :: ds => D.cl n d && all ds
noncomputable def kyD : Nat → D → Bool
  | _, .non => true
  | _, .int _ => true
  | _, .str _ => true
  | n + 1, .tup ds => ds.all (kyD n)
  | _, _ => false
def O.cl (n : Nat) : O → Bool
  | .lst xs => D.cl.all n xs
  | .dct kvs => kvs.all fun p => D.cl n p.1 && D.cl n p.2
  | .fdc kvs => kvs.all fun p => D.cl n p.1 && D.cl n p.2
  | .dtt kvs => kvs.all fun p => D.cl n p.1 && D.cl n p.2
  | .ftt kvs => kvs.all fun p => D.cl n p.1 && D.cl n p.2
  | .ins _ fs => fs.all fun o => match o with | some d => D.cl n d | none => true
def clS (n : Nat) (s : S) : Bool := s.all (O.cl n)
noncomputable def D.ren (e : List Nat) : D → D
  | .ref i => .ref (e.getD i i)
  | .tup ds => .tup (all ds)
  | .ro ds => .ro (all ds)
  | d => d
where all : List D → List D
  | [] => []
  | d :: ds => D.ren e d :: all ds
def O.ren (e : List Nat) : O → O
  | .lst xs => .lst (D.ren.all e xs)
  | .dct kvs => .dct (kvs.map fun p => (D.ren e p.1, D.ren e p.2))
  | .fdc kvs => .fdc (kvs.map fun p => (D.ren e p.1, D.ren e p.2))
  | .dtt kvs => .dtt (kvs.map fun p => (D.ren e p.1, D.ren e p.2))
  | .ftt kvs => .ftt (kvs.map fun p => (D.ren e p.1, D.ren e p.2))
  | .ins c fs => .ins c (fs.map (Option.map (D.ren e)))
end M
namespace M
structure Emb (n : Nat) (e : List Nat) (S' S1 : S) : Prop where
  len : e.length = S'.length
  nd : e.Nodup
  le : n ≤ S'.length
  old : ∀ i, i < n → e[i]? = some i
  obj : ∀ (i : Nat) o, S'[i]? = some o → ∃ j, e[i]? = some j ∧ S1[j]? = some (O.ren e o) ∧ O.cl S'.length o = true
def Refines (n : Nat) (f q : F) : Prop := ∀ ds S, ds.length = n → clS S.length S = true → D.cl.all S.length ds = true →
  q ds S = .no ∨ ∃ d S' S1 e, q ds S = .ok d S' ∧ f ds S = .ok (D.ren e d) S1 ∧ Emb S.length e S' S1 ∧ D.cl S'.length d = true
section
variable {e : List Nat}
mutual
theorem D.ren_id (h : ∀ i, e.getD i i = i) : ∀ d : D, D.ren e d = d
  | .non => rfl
  | .bl _ => rfl
  | .int _ => rfl
  | .str _ => rfl
  | .ty _ => rfl
  | .ref i => by show D.ref (e.getD i i) = _; rw [h]
  | .tup ds => by show D.tup (D.ren.all e ds) = _; rw [D.rens_id h]
  | .ro ds => by show D.ro (D.ren.all e ds) = _; rw [D.rens_id h]
theorem D.rens_id (h : ∀ i, e.getD i i = i) : ∀ ds : List D, D.ren.all e ds = ds
  | [] => rfl
  | d :: ds => by show D.ren e d :: D.ren.all e ds = _; rw [D.ren_id h, D.rens_id h]
end
theorem O.ren_id (h : ∀ i, e.getD i i = i) (o : O) : O.ren e o = o := by
  cases o with
  | lst xs => show O.lst _ = _; rw [D.rens_id h]
  | dct kvs =>
    show O.dct (kvs.map fun p => (D.ren e p.1, D.ren e p.2)) = _
    have : (fun p : D × D => (D.ren e p.1, D.ren e p.2)) = id := by funext p; rw [D.ren_id h, D.ren_id h]; rfl
    rw [this, List.map_id]
  | fdc kvs =>
    show O.fdc (kvs.map fun p => (D.ren e p.1, D.ren e p.2)) = _
    have : (fun p : D × D => (D.ren e p.1, D.ren e p.2)) = id := by funext p; rw [D.ren_id h, D.ren_id h]; rfl
    rw [this, List.map_id]
  | dtt kvs =>
    show O.dtt (kvs.map fun p => (D.ren e p.1, D.ren e p.2)) = _
    have : (fun p : D × D => (D.ren e p.1, D.ren e p.2)) = id := by funext p; rw [D.ren_id h, D.ren_id h]; rfl
    rw [this, List.map_id]
  | ftt kvs =>
    show O.ftt (kvs.map fun p => (D.ren e p.1, D.ren e p.2)) = _
    have : (fun p : D × D => (D.ren e p.1, D.ren e p.2)) = id := by funext p; rw [D.ren_id h, D.ren_id h]; rfl
    rw [this, List.map_id]
  | ins c fs =>
    show O.ins c (fs.map (Option.map (D.ren e))) = _
    have : Option.map (D.ren e) = id := by funext o; cases o with | none => rfl | some d => show some _ = _; rw [D.ren_id h]; rfl
    rw [this, List.map_id]
theorem range_getD (n i : Nat) : (List.range n).getD i i = i := by
  rw [List.getD_eq_getElem?_getD]
  by_cases h : i < n
  · rw [List.getElem?_range h]; rfl
  · rw [List.getElem?_eq_none (by simp; lia)]; rfl
end
section
variable {e : List Nat} {n : Nat}
theorem clS_get {S : M.S} (h : clS n S = true) {i : Nat} {o : O} (e : S[i]? = some o) : O.cl n o = true := List.all_eq_true.mp h o (List.mem_of_getElem? e)
end
theorem emb_drop {S S' g : M.S} (hn : S.length ≤ S'.length) (c : clS S'.length S' = true) : Emb S.length (List.range S'.length) S' (S' ++ g) :=
  ⟨by simp, List.nodup_range, hn, fun i hi => by rw [List.getElem?_range (by lia)], fun i o q => by
    have hi : i < S'.length := (List.getElem?_eq_some_iff.mp q).1
    exact ⟨i, by rw [List.getElem?_range hi], by rw [List.getElem?_append_left hi, O.ren_id (range_getD _), q], clS_get c q⟩⟩
theorem Refines.pure {n : Nat} {f q : F} (h : ∀ ds S, ds.length = n → clS S.length S = true → D.cl.all S.length ds = true → q ds S = .no ∨ ∃ d g, q ds S = .ok d S ∧ f ds S = .ok d (S ++ g) ∧ D.cl S.length d = true) : Refines n f q := fun ds S hl c ca => by
  rcases h ds S hl c ca with e | ⟨d, g, e1, e2, e3⟩
  · exact .inl e
  · exact .inr ⟨d, S, S ++ g, List.range S.length, e1, by rw [D.ren_id (range_getD _)]; exact e2, emb_drop (Nat.le_refl _) c, e3⟩
noncomputable def chS (m : F) : F := fun ds s => @dite (R D) (∃ d g, m ds s = .ok d (s ++ g) ∧ D.cl s.length d = true) (Classical.propDecidable _) (fun h => .ok h.choose s) (fun _ => .no)
theorem chS_rf {n : Nat} (m : F) : Refines n m (chS m) := Refines.pure fun ds S hl c ca => by
  unfold chS
  by_cases h : ∃ d g, m ds S = .ok d (S ++ g) ∧ D.cl S.length d = true
  · obtain ⟨g, e, k⟩ := h.choose_spec
    exact .inr ⟨h.choose, g, by rw [dif_pos h], e, k⟩
  · exact .inl (by rw [dif_neg h])
theorem chS_at {m : F} {ds : List D} {s g : S} {d : D} (e : m ds s = .ok d (s ++ g)) (k : D.cl s.length d = true) : chS m ds s = .ok d s := by
  have h : ∃ d g, m ds s = .ok d (s ++ g) ∧ D.cl s.length d = true := ⟨d, g, e, k⟩
  obtain ⟨g', e', _⟩ := h.choose_spec
  have e2 : d = h.choose := by
    have e3 := e.symm.trans e'
    injection e3
  unfold chS
  rw [dif_pos h, ← e2]
end M
namespace M
theorem app_get {S : M.S} {p : Nat} {o : O} (e : S[p]? = some o) (g : M.S) : (S ++ g)[p]? = some o := by
  rw [List.getElem?_append_left (List.getElem?_eq_some_iff.mp e).1]
  exact e
end M
namespace M
def kyT : D → Bool
  | .tup ds => kyD 7 (.tup ds)
  | _ => false
@[simp] noncomputable def dtAt (x : D) (s : S) : Option (Nat × List (D × D)) := match x with
  | .ref p => (match s[p]? with | some (.dtt kvs) => some (p, kvs) | _ => none)
  | _ => none
@[simp] noncomputable def dtRd (x : D) (s : S) : Option (List (D × D)) := match x with
  | .ref p => (match s[p]? with | some (.dtt kvs) => some kvs | some (.ftt kvs) => some kvs | _ => none)
  | _ => none
@[simp] def opIxT (x k : D) (s : S) : R D := match dtRd x s with
  | some kvs => if kyT k then (match dGet k kvs with | some d => .ok d s | none => .no) else .no
  | none => opIx x k s
@[simp] def inL (x : D) (ys : List D) (s : S) (r : R Bool) : R Bool := if kyD 7 x && ys.all (kyD 7) then .ok (ys.contains x) s else r
@[simp] def inT (x y : D) (s : S) : R Bool := match dtAt y s with
  | some (_, kvs) => if kyT x then .ok (dGet x kvs).isSome s else .no
  | none => (match y with
    | .ref i => (match lstAt s i with | some ys => inL x ys s (inD x y s) | none => inD x y s)
    | _ => inD x y s)
@[simp] def cNotInT : CM := fun x y s => (inT x y s).bind fun b s => .ok (!b) s
@[simp] def fLenT : F
  | [x], s => (match dtAt x s with | some (_, kvs) => .ok (.int kvs.length) s | none => fLen [x] s)
  | xs, s => fLen xs s
@[simp] def fListT : F
  | [x], s => (match dtAt x s with | some (_, kvs) => alloc (.lst (kvs.map (·.1))) s | none => fList [x] s)
  | xs, s => fList xs s
@[simp] def setIxT (x k y : D) (s : S) : R Unit := match dtAt x s with
  | some (p, kvs) => if kyT k && decide (kvs.length < SZ) then .ok () (s.set p (.dtt (dPut k y kvs))) else .no
  | none => setIx x k y s
@[simp] def sSubT (o k e : EM) : SM := fun σ s => (e σ s).stm σ fun y s => (o σ s).stm σ fun x s => (k σ s).stm σ fun k s => (setIxT x k y s).stm σ fun _ s => .nx σ s
@[simp] def mPopT : D → F
  | x, [k], s => (match dtAt x s with
    | some (p, kvs) => if kyT k then (match dGet k kvs with | some v => .ok v (s.set p (.dtt (dDrop k kvs))) | none => .no) else .no
    | none => .no)
  | x, [k, d], s => (match dtAt x s with
    | some (p, kvs) => if kyT k then (match dGet k kvs with | some v => .ok v (s.set p (.dtt (dDrop k kvs))) | none => .ok d s) else .no
    | none => .no)
  | _, _, _ => .no
@[simp] def eDict0T : EM := fun _ s => alloc (.dtt []) s
end M
namespace M
def sTryC (c iy je iz : Nat) (e : EM) : SM := fun σ s => match e σ s with
  | .ok d s => .nx (σ.set iy (some d)) s
  | .exc (.tup [.int k, d]) s => if k = c then .nx ((σ.set je none).set iz (some d)) s else .no
  | _ => .no
@[simp] theorem sTryC_ok {c iy je iz : Nat} {e : EM} {σ : St} {s s' : S} {d : D} (h : e σ s = .ok d s') : sTryC c iy je iz e σ s = .nx (σ.set iy (some d)) s' := by unfold sTryC; rw [h]
@[simp] theorem sTryC_exc {c iy je iz : Nat} {e : EM} {σ : St} {s s' : S} {d : D} (h : e σ s = .exc (.tup [.int c, d]) s') : sTryC c iy je iz e σ s = .nx ((σ.set je none).set iz (some d)) s' := by unfold sTryC; rw [h]; simp
def sTryC2 (c iy je iz : Nat) (e : EM) : SM := fun σ s => match e σ s with
  | .ok d s => .nx (σ.set iy (some d)) s
  | .exc (.tup [.int k, d, d']) s => if k = c then .nx ((σ.set je none).set iz (some (.tup [d, d']))) s else .no
  | _ => .no
@[simp] theorem sTryC2_ok {c iy je iz : Nat} {e : EM} {σ : St} {s s' : S} {d : D} (h : e σ s = .ok d s') : sTryC2 c iy je iz e σ s = .nx (σ.set iy (some d)) s' := by unfold sTryC2; rw [h]
@[simp] theorem sTryC2_exc {c iy je iz : Nat} {e : EM} {σ : St} {s s' : S} {d d' : D} (h : e σ s = .exc (.tup [.int c, d, d']) s') : sTryC2 c iy je iz e σ s = .nx ((σ.set je none).set iz (some (.tup [d, d']))) s' := by unfold sTryC2; rw [h]; simp
def sTryP (c : Nat) (e : EM) : SM := fun σ s => match e σ s with
  | .ok d s => .rt d s
  | .exc (.tup [.int k, d]) s => if k = c then .rt (.tup [.non, d]) s else .no
  | _ => .no
@[simp] theorem sTryP_ok {c : Nat} {e : EM} {σ : St} {s s' : S} {d : D} (h : e σ s = .ok d s') : sTryP c e σ s = .rt d s' := by unfold sTryP; rw [h]
@[simp] theorem sTryP_exc {c : Nat} {e : EM} {σ : St} {s s' : S} {d : D} (h : e σ s = .exc (.tup [.int c, d]) s') : sTryP c e σ s = .rt (.tup [.non, d]) s' := by unfold sTryP; rw [h]; simp
end M
namespace M
@[simp] def sRaise0 (c : Nat) (a : AM) : SM := fun σ s => (a σ s).stm σ fun _ s => .exc (.tup [.int c]) σ s
@[simp] def sTryB (c iy je : Nat) (m m2 : EM) : SM := fun σ s => match m σ s with
  | .ok d s => .nx (σ.set iy (some d)) s
  | .exc (.tup [.int k]) s => if k = c then (m2 (σ.set je none) s).stm σ fun d s => .rt d s else .no
  | _ => .no
end M
namespace L2
open PySem PySem.Spec PyProof.Rows
noncomputable def ofT (x : M.T) : Str := ⟨x.toArray⟩
theorem ofT_len (x : M.T) : (ofT x).length = x.length := by simp [ofT, Str.length]
theorem ofT_list (x : M.T) : (ofT x).cps.toList = x := by simp [ofT]
theorem ofT_inj {x y : M.T} (h : ofT x = ofT y) : x = y := by rw [← ofT_list x, h, ofT_list]
theorem ofT_app (x y : M.T) : ofT x ++ ofT y = ofT (x ++ y) := by
  show (⟨x.toArray ++ y.toArray⟩ : Str) = _
  simp [ofT]
abbrev okT (x : M.T) : Prop := x.all (fun c => decide (c < 1114112)) = true
theorem okT_app {x y : M.T} (h : okT x) (k : okT y) : okT (x ++ y) := by show (x ++ y).all _ = true; rw [List.all_append, h, k]; rfl
theorem okT_sub {x y : M.T} (h : okT x) (k : ∀ c ∈ y, c ∈ x) : okT y := List.all_eq_true.mpr fun c hc => List.all_eq_true.mp h c (k c hc)
theorem SZ_eq : M.SZ = sizeLine := by rw [sizeLine_eq]; rfl
def RolL (K : PySem.W.Frag) (H : Hp) (a : Addr) (xs : List V) : Prop :=
  (∃ o, H a = some (.frz o (.lst xs))) ∨
    ∃ (o : Obj) (its : Array Value) (n : Nat), K.lookup a = some o ∧ o.cls = .type "list" ∧ o.dict = none ∧ o.data = .seq its n ∧ its.size ≤ sizeLine ∧ Vals xs its.toList
theorem RolL.sq {K : PySem.W.Frag} {H : Hp} {a : Addr} {xs : List V} (h : RolL K H a xs) : SqL K H a xs := by
  rcases h with ⟨o, h⟩ | h
  · exact .inl (.inr ⟨o, h⟩)
  · exact .inr h
structure Le (H H' : Hp) : Prop where
  tups : ∀ b xs, H b = some (.tup xs) → H' b = some (.tup xs)
  frzs : ∀ b o u, H b = some (.frz o u) → H' b = some (.frz o u)
theorem Le.refl (H : Hp) : Le H H := ⟨fun _ _ h => h, fun _ _ _ h => h⟩
theorem Le.trans {H H1 H2 : Hp} (a : Le H H1) (b : Le H1 H2) : Le H H2 := ⟨fun c xs h => b.tups c xs (a.tups c xs h), fun c o u h => b.frzs c o u (a.frzs c o u h)⟩
theorem Le.new {H : Hp} {p : Addr} (h : H p = none) (o : HO) : Le H (upd H p o) :=
  ⟨fun b xs q => by rw [upd_ne (ne_of_none q h)]; exact q, fun b o u q => by rw [upd_ne (ne_of_none q h)]; exact q⟩
theorem Le.put {H : Hp} {p : Addr} (h : Mut (H p)) (o : HO) : Le H (upd H p o) :=
  ⟨fun b xs q => by rw [upd_ne (fun z => by subst z; rw [q] at h; exact h)]; exact q, fun b o u q => by rw [upd_ne (fun z => by subst z; rw [q] at h; exact h)]; exact q⟩
theorem Le.rol {K : PySem.W.Frag} {H H' : Hp} {a : Addr} {xs : List V} (e : Le H H') (h : RolL K H a xs) : RolL K H' a xs := by
  rcases h with ⟨o, h⟩ | h
  · exact .inl ⟨o, e.frzs _ _ _ h⟩
  · exact .inr h
theorem Le.sqT {K : PySem.W.Frag} {H H' : Hp} {a : Addr} {xs : List V} (e : Le H H') (h : SqT K H a xs) : SqT K H' a xs := by
  rcases h with (h | ⟨o, h⟩) | h
  · exact .inl (.inl (e.tups _ _ h))
  · exact .inl (.inr ⟨o, e.frzs _ _ _ h⟩)
  · exact .inr h
noncomputable def kdName : M.Kd → String
  | .str => "str" | .int => "int" | .bool => "bool" | .list => "list" | .tuple => "tuple" | .dict => "dict"
def RelD (K : PySem.W.Frag) (ρ : List Addr) (H : Hp) : M.D → V → Prop
  | .non, v => v = .non
  | .bl b, v => v = .bl b
  | .int i, v => v = .int i
  | .str x, v => v = .str (ofT x) ∧ okT x
  | .ty n, v => v = .ty (kdName n)
  | .ref i, v => ∃ a, v = .ref a ∧ ρ[i]? = some a
  | .tup ds, v => ∃ a xs, v = .ref a ∧ SqT K H a xs ∧ all ds xs
  | .ro ds, v => ∃ a xs, v = .ref a ∧ RolL K H a xs ∧ all ds xs
where all : List M.D → List V → Prop
  | [], xs => xs = []
  | d :: ds, xs => ∃ y ys, xs = y :: ys ∧ RelD K ρ H d y ∧ all ds ys
abbrev RelDs (K : PySem.W.Frag) (ρ : List Addr) (H : Hp) : List M.D → List V → Prop := RelD.all K ρ H
theorem pre_get {ρ ρ' : List Addr} (h : ρ <+: ρ') {i : Nat} {a : Addr} (e : ρ[i]? = some a) : ρ'[i]? = some a := by
  obtain ⟨t, rfl⟩ := h
  rw [List.getElem?_append_left (List.getElem?_eq_some_iff.mp e).1]
  exact e
section
variable {K : PySem.W.Frag} {ρ ρ' : List Addr} {H H' : Hp}
mutual
theorem RelD.mono (hρ : ρ <+: ρ') (le : Le H H') : ∀ {d : M.D} {v : V}, RelD K ρ H d v → RelD K ρ' H' d v
  | .non, _, h => h
  | .bl _, _, h => h
  | .int _, _, h => h
  | .str _, _, h => h
  | .ty _, _, h => h
  | .ref _, _, ⟨a, e, h⟩ => ⟨a, e, pre_get hρ h⟩
  | .tup _, _, ⟨a, xs, e, h, r⟩ => ⟨a, xs, e, le.sqT h, RelDs.mono hρ le r⟩
  | .ro _, _, ⟨a, xs, e, h, r⟩ => ⟨a, xs, e, le.rol h, RelDs.mono hρ le r⟩
theorem RelDs.mono (hρ : ρ <+: ρ') (le : Le H H') : ∀ {ds : List M.D} {xs : List V}, RelDs K ρ H ds xs → RelDs K ρ' H' ds xs
  | [], _, h => h
  | _ :: _, _, ⟨y, ys, e, h, r⟩ => ⟨y, ys, e, RelD.mono hρ le h, RelDs.mono hρ le r⟩
end
theorem RelDs.length : ∀ {ds : List M.D} {xs : List V}, RelDs K ρ H ds xs → ds.length = xs.length
  | [], _, h => by cases h; rfl
  | _ :: _, _, ⟨_, _, e, _, r⟩ => by subst e; rw [List.length_cons, List.length_cons, RelDs.length r]
theorem RelDs.get : ∀ {ds : List M.D} {xs : List V} {i : Nat} {d : M.D}, RelDs K ρ H ds xs → ds[i]? = some d → ∃ v, xs[i]? = some v ∧ RelD K ρ H d v
  | [], _, _, _, _, e => by simp at e
  | _ :: _, _, 0, _, ⟨y, _, e1, h, _⟩, e => by subst e1; simp at e; subst e; exact ⟨y, rfl, h⟩
  | _ :: _, _, i + 1, d, ⟨_, ys, e1, _, r⟩, e => by
    subst e1
    obtain ⟨v, h1, h2⟩ := RelDs.get (i := i) (d := d) r (by simpa using e)
    exact ⟨v, by simpa using h1, h2⟩
theorem RelDs.app : ∀ {ds es : List M.D} {xs ys : List V}, RelDs K ρ H ds xs → RelDs K ρ H es ys → RelDs K ρ H (ds ++ es) (xs ++ ys)
  | [], _, _, _, h, k => by cases h; exact k
  | _ :: _, _, _, _, ⟨y, ys, e, h, r⟩, k => by subst e; exact ⟨y, _, rfl, h, RelDs.app r k⟩
theorem RelDs.set {d : M.D} {v : V} (hd : RelD K ρ H d v) : ∀ {ds : List M.D} {xs : List V} (n : Nat), RelDs K ρ H ds xs → RelDs K ρ H (ds.set n d) (xs.set n v)
  | [], _, _, h => by cases h; rfl
  | _ :: _, _, 0, ⟨y, ys, e, h, r⟩ => by subst e; exact ⟨v, ys, rfl, hd, r⟩
  | _ :: _, _, n + 1, ⟨y, ys, e, h, r⟩ => by subst e; exact ⟨y, _, rfl, h, RelDs.set hd n r⟩
end
section
variable {K : PySem.W.Frag} {ρ ρ' : List Addr} {H H' : Hp} {ds es : List M.D} {xs ys : List V}
theorem RelD.all.mono (h : RelD.all K ρ H ds xs) (hρ : ρ <+: ρ') (le : Le H H') : RelD.all K ρ' H' ds xs := RelDs.mono hρ le h
theorem RelD.all.length (h : RelD.all K ρ H ds xs) : ds.length = xs.length := RelDs.length h
theorem RelD.all.app (h : RelD.all K ρ H ds xs) (k : RelD.all K ρ H es ys) : RelD.all K ρ H (ds ++ es) (xs ++ ys) := RelDs.app h k
end
def KeyR : M.D → Key → Prop
  | .int i, k => k = .inl i
  | .str x, k => k = .inr (ofT x) ∧ okT x
  | _, _ => False
structure Tab where
  tab : Nat → Option (Addr × List Str)
  ha : M.D → Int := fun _ => 0
  x : XK := fun _ _ _ => False
instance : CoeFun Tab fun _ => Nat → Option (Addr × List Str) := ⟨Tab.tab⟩
def TD (ha : M.D → Int) (a : Addr) (xs : List (M.D × Addr × Value)) (h : Heap) : Prop := xs.length ≤ sizeLine ∧ (a == sysModules) = false ∧ (xs.map (·.1)).Nodup ∧
  ∃ o es ep, h.get? a = some o ∧ o.ExactDict ∧ o.data = .dict es ep ∧ es.toList = xs.map fun x => ⟨ha x.1, .ref x.2.1, x.2.2⟩
def TDr (K : PySem.W.Frag) (ρ : List Addr) (H : Hp) (p : M.D × M.D) (q : M.D × Addr × Value) : Prop := q.1 = p.1 ∧ M.kyD 7 p.1 = true ∧ RelD K ρ H p.1 (.ref q.2.1) ∧ ∃ v, RelD K ρ H p.2 v ∧ RelV v q.2.2
theorem TDr.mono {K : PySem.W.Frag} {ρ ρ' : List Addr} {H H' : Hp} (hρ : ρ <+: ρ') (le : Le H H') {p : M.D × M.D} {q : M.D × Addr × Value} (h : TDr K ρ H p q) : TDr K ρ' H' p q :=
  ⟨h.1, h.2.1, h.2.2.1.mono hρ le, let ⟨v, a, b⟩ := h.2.2.2; ⟨v, a.mono hρ le, b⟩⟩
structure InsR (K : PySem.W.Frag) (ρ : List Addr) (H : Hp) (N : List Str) (fs : List (Option M.D)) (gs : List (Str × V)) : Prop where
  len : fs.length = N.length
  nd : (gs.map (·.1)).Nodup
  within : ∀ f ∈ gs.map (·.1), f ∈ N
  get : ∀ (i : Nat) (f : Str) (d : M.D), N[i]? = some f → fs[i]? = some (some d) → ∃ v, gs.lookup f = some v ∧ RelD K ρ H d v
def ObR (K : PySem.W.Frag) (Θ : Tab) (ρ : List Addr) (H : Hp) (a : Addr) : M.O → Prop
  | .lst ds => ∃ xs, H a = some (.lst xs) ∧ RelDs K ρ H ds xs
  | .dct kvs => ∃ ks, H a = some (.dK ks) ∧ Paired (fun (p : M.D × M.D) (q : Key × V) => KeyR p.1 q.1 ∧ RelD K ρ H p.2 q.2) kvs ks
  | .fdc kvs => ∃ o ks, H a = some (.frz o (.dK ks)) ∧ Paired (fun (p : M.D × M.D) (q : Key × V) => KeyR p.1 q.1 ∧ RelD K ρ H p.2 q.2) kvs ks
  | .dtt kvs => ∃ xs, H a = some (.ext (TD Θ.ha a xs)) ∧ Paired (TDr K ρ H) kvs xs
  | .ftt kvs => ∃ o xs, H a = some (.frz o (.ext (TD Θ.ha a xs))) ∧ Paired (TDr K ρ H) kvs xs
  | .ins c fs => ∃ C dx gs N, H a = some (.ins C dx gs) ∧ Θ c = some (C, N) ∧ InsR K ρ H N fs gs
structure RepS (K : PySem.W.Frag) (Θ : Tab) (ρ : List Addr) (S : M.S) (H : Hp) : Prop where
  len : ρ.length = S.length
  nd : ρ.Nodup
  obj : ∀ (i : Nat) (o : M.O), S[i]? = some o → ∃ a, ρ[i]? = some a ∧ ObR K Θ ρ H a o
structure RelSt (K : PySem.W.Frag) (ρ : List Addr) (H : Hp) (σ' : M.St) (σ : St) : Prop where
  len : σ'.length = σ.length
  get : ∀ (i : Nat) (d : M.D), σ'[i]? = some (some d) → ∃ v, σ[i]? = some (some v) ∧ RelD K ρ H d v
section
variable {K : PySem.W.Frag} {Θ : Tab} {ρ ρ' : List Addr} {H H' : Hp} {S : M.S}
theorem RelSt.mono {σ' : M.St} {σ : St} (h : RelSt K ρ H σ' σ) (hρ : ρ <+: ρ') (le : Le H H') : RelSt K ρ' H' σ' σ :=
  ⟨h.len, fun i d e => let ⟨v, h1, h2⟩ := h.get i d e; ⟨v, h1, h2.mono hρ le⟩⟩
theorem RelSt.set {σ' : M.St} {σ : St} {d : M.D} {v : V} (h : RelSt K ρ H σ' σ) (hd : RelD K ρ H d v) (i : Nat) : RelSt K ρ H (σ'.set i (some d)) (σ.set i (some v)) := by
  refine ⟨by rw [List.length_set, List.length_set, h.len], fun j e q => ?_⟩
  by_cases hj : i = j
  · subst hj
    by_cases hl : i < σ'.length
    · rw [List.getElem?_set_self hl] at q
      cases q
      exact ⟨v, by rw [List.getElem?_set_self (h.len ▸ hl)], hd⟩
    · rw [List.getElem?_eq_none (by rw [List.length_set]; lia)] at q
      cases q
  · rw [List.getElem?_set_ne hj] at q
    rw [List.getElem?_set_ne hj]
    exact h.get j e q
theorem RepS.tracked (h : RepS K Θ ρ S H) {a : Addr} (m : a ∈ ρ) : ∃ o, H a = some o := by
  obtain ⟨i, hi, e⟩ := List.mem_iff_getElem.mp m
  have hl : i < S.length := h.len ▸ hi
  obtain ⟨a', e1, r⟩ := h.obj i S[i] (by simp [hl])
  rw [List.getElem?_eq_getElem hi, e] at e1
  cases e1
  cases q : S[i] with
  | lst ds => rw [q] at r; obtain ⟨xs, e2, _⟩ := r; exact ⟨_, e2⟩
  | dct kvs => rw [q] at r; obtain ⟨xs, e2, _⟩ := r; exact ⟨_, e2⟩
  | fdc kvs => rw [q] at r; obtain ⟨o, xs, e2, _⟩ := r; exact ⟨_, e2⟩
  | dtt kvs => rw [q] at r; obtain ⟨xs, e2, _⟩ := r; exact ⟨_, e2⟩
  | ftt kvs => rw [q] at r; obtain ⟨o, xs, e2, _⟩ := r; exact ⟨_, e2⟩
  | ins c fs => rw [q] at r; obtain ⟨_, _, _, _, e2, _⟩ := r; exact ⟨_, e2⟩
theorem RepS.fresh (h : RepS K Θ ρ S H) {p : Addr} (hp : H p = none) : p ∉ ρ := fun m => by
  obtain ⟨o, e⟩ := h.tracked m
  rw [hp] at e; cases e
theorem ObR.stay {a : Addr} {o : M.O} (h : ObR K Θ ρ H a o) (hρ : ρ <+: ρ') (le : Le H H') (e : H' a = H a) : ObR K Θ ρ' H' a o := by
  cases o with
  | lst ds => obtain ⟨xs, e1, r⟩ := h; exact ⟨xs, e.trans e1, r.mono hρ le⟩
  | dct kvs => obtain ⟨ks, e1, r⟩ := h; exact ⟨ks, e.trans e1, Paired.mapP r fun p q z => ⟨z.1, z.2.mono hρ le⟩⟩
  | fdc kvs => obtain ⟨o, ks, e1, r⟩ := h; exact ⟨o, ks, e.trans e1, Paired.mapP r fun p q z => ⟨z.1, z.2.mono hρ le⟩⟩
  | dtt kvs => obtain ⟨xs, e1, r⟩ := h; exact ⟨xs, e.trans e1, Paired.mapP r fun p q z => z.mono hρ le⟩
  | ftt kvs => obtain ⟨o, xs, e1, r⟩ := h; exact ⟨o, xs, e.trans e1, Paired.mapP r fun p q z => z.mono hρ le⟩
  | ins c fs =>
    obtain ⟨C, dx, gs, N, e1, e2, r⟩ := h
    exact ⟨C, dx, gs, N, e.trans e1, e2, r.len, r.nd, r.within, fun i f d h1 h2 => let ⟨v, k1, k2⟩ := r.get i f d h1 h2; ⟨v, k1, k2.mono hρ le⟩⟩
theorem RepS.stay (h : RepS K Θ ρ S H) (le : Le H H') (e : ∀ a ∈ ρ, H' a = H a) : RepS K Θ ρ S H' :=
  ⟨h.len, h.nd, fun i o q => let ⟨a, h1, h2⟩ := h.obj i o q; ⟨a, h1, h2.stay (List.prefix_refl _) le (e a (List.mem_of_getElem? h1))⟩⟩
theorem RepS.aside (h : RepS K Θ ρ S H) {p : Addr} (hp : H p = none) (o : HO) : RepS K Θ ρ S (upd H p o) :=
  h.stay (Le.new hp o) fun a m => upd_ne (fun z => h.fresh hp (z ▸ m))
theorem RepS.alloc (h : RepS K Θ ρ S H) {p : Addr} (hp : H p = none) {o : M.O} {u : HO} (r : ObR K Θ (ρ ++ [p]) (upd H p u) p o) : RepS K Θ (ρ ++ [p]) (S ++ [o]) (upd H p u) := by
  refine ⟨by simp [h.len], ?_, fun i ob q => ?_⟩
  · rw [List.nodup_append]
    refine ⟨h.nd, by simp, fun a ha b hb => ?_⟩
    have hb' : b = p := by simpa using hb
    rw [hb']
    exact fun z => h.fresh hp (z ▸ ha)
  · by_cases hl : i < S.length
    · rw [List.getElem?_append_left hl] at q
      obtain ⟨a, h1, h2⟩ := h.obj i ob q
      refine ⟨a, pre_get (List.prefix_append _ _) h1, h2.stay (List.prefix_append _ _) (Le.new hp u) (upd_ne fun z => h.fresh hp (z ▸ List.mem_of_getElem? h1))⟩
    · rw [List.getElem?_append_right (by lia)] at q
      have hi : i - S.length = 0 := by
        cases hz : i - S.length with
        | zero => rfl
        | succ k => rw [hz] at q; simp at q
      rw [hi] at q
      simp at q
      subst q
      refine ⟨p, ?_, r⟩
      rw [List.getElem?_append_right (by rw [h.len]; lia), h.len, hi]
      rfl
theorem nodup_at {α : Type} {ρ : List α} (hN : ρ.Nodup) {i j : Nat} {x : α} (a : ρ[i]? = some x) (b : ρ[j]? = some x) : i = j := by
  induction ρ generalizing i j with
  | nil => simp at a
  | cons y r ih =>
    rw [List.nodup_cons] at hN
    cases i with
    | zero =>
      cases j with
      | zero => rfl
      | succ j =>
        simp at a b
        subst a
        exact absurd (List.mem_of_getElem? b) hN.1
    | succ i =>
      cases j with
      | zero =>
        simp at a b
        subst b
        exact absurd (List.mem_of_getElem? a) hN.1
      | succ j =>
        simp at a b
        rw [ih hN.2 a b]
theorem nodup_of {α : Type} {l : List α} (h : ∀ (i j : Nat) x, l[i]? = some x → l[j]? = some x → i = j) : l.Nodup := by
  induction l with
  | nil => exact List.nodup_nil
  | cons y r ih =>
    refine List.nodup_cons.mpr ⟨fun m => ?_, ih fun i j x a b => ?_⟩
    · obtain ⟨j, hj, e⟩ := List.mem_iff_getElem.mp m
      have := h 0 (j + 1) y (by simp) (by simp [e, hj])
      lia
    · have := h (i + 1) (j + 1) x (by simpa using a) (by simpa using b)
      lia
theorem nodup_get {α : Type} {l : List α} (hN : l.Nodup) {i j : Nat} (hi : i < l.length) (hj : j < l.length) (e : l[i] = l[j]) : i = j :=
  nodup_at hN (x := l[i]) (by simp [hi]) (by rw [e]; simp [hj])
theorem RepS.put (h : RepS K Θ ρ S H) {i : Nat} {a : Addr} (ha : ρ[i]? = some a) {o : M.O} {u : HO} (mu : Mut (H a)) (r : ObR K Θ ρ (upd H a u) a o) : RepS K Θ ρ (S.set i o) (upd H a u) := by
  refine ⟨by simp [h.len], h.nd, fun j ob q => ?_⟩
  by_cases hj : i = j
  · subst hj
    by_cases hl : i < S.length
    · rw [List.getElem?_set_self hl] at q
      cases q
      exact ⟨a, ha, r⟩
    · rw [List.getElem?_eq_none (by rw [List.length_set]; lia)] at q
      cases q
  · rw [List.getElem?_set_ne hj] at q
    obtain ⟨b, h1, h2⟩ := h.obj j ob q
    refine ⟨b, h1, h2.stay (List.prefix_refl _) (Le.put mu u) (upd_ne fun z => ?_)⟩
    subst z
    exact hj (nodup_at h.nd ha h1)
end
def XR (K : PySem.W.Frag) (Θ : Tab) (ρ : List Addr) (H : Hp) (d : M.D) (C : Addr) (od : Option Addr) : Prop := ∃ (c : Nat) (ds : List M.D) (N : List Str), d = .tup (.int c :: ds) ∧ Θ c = some (C, N) ∧ ((ds = [] ∧ N = [] ∧ od = none) ∨ ∃ dx vs, od = some dx ∧ H dx = some (.xd (N.zip vs)) ∧ N.length = vs.length ∧ RelDs K ρ H ds vs)
def PostX (K : PySem.W.Frag) (Θ : Tab) (ρ : List Addr) (H : Hp) (d : M.D) (S : M.S) : Prop := ∀ ρ' H' C od, ρ <+: ρ' → Le H H' → RepS K Θ ρ' S H' → XR K Θ ρ' H' d C od → Θ.x (.ref C) od H'
theorem PostX.weak {K : PySem.W.Frag} {Θ : Tab} {ρ ρ' : List Addr} {H H' : Hp} {d : M.D} {S : M.S} (h : PostX K Θ ρ H d S) (hρ : ρ <+: ρ') (le : Le H H') : PostX K Θ ρ' H' d S := fun ρ2 H2 C od p l => h ρ2 H2 C od (hρ.trans p) (le.trans l)
noncomputable def Post {α β : Type} (K : PySem.W.Frag) (Θ : Tab) (Rl : List Addr → Hp → α → β → Prop) (ρ : List Addr) (H : Hp) : M.R α → (β → Hp → Prop) → Prop
  | .ok a S', Q => ∀ ρ' H' b, ρ <+: ρ' → Le H H' → RepS K Θ ρ' S' H' → Rl ρ' H' a b → Q b H'
  | .exc d S', _ => PostX K Θ ρ H d S'
  | .no, _ => False
noncomputable abbrev rB : List Addr → Hp → Bool → Bool → Prop := fun _ _ a b => a = b
section
variable {K : PySem.W.Frag} {Θ : Tab} {ρ ρ' : List Addr} {H H' : Hp} {S : M.S} {α β γ δ : Type} {Rl : List Addr → Hp → α → β → Prop} {Rk : List Addr → Hp → γ → δ → Prop} {Q : β → Hp → Prop} {Q' : δ → Hp → Prop}
theorem Post.weak {r : M.R α} (h : Post K Θ Rl ρ H r Q) (hρ : ρ <+: ρ') (le : Le H H') : Post K Θ Rl ρ' H' r Q := by
  cases r with
  | ok a s => exact fun ρ2 H2 b p l => h ρ2 H2 b (hρ.trans p) (le.trans l)
  | exc e s => exact PostX.weak h hρ le
  | no => exact h
theorem Post.bind {r : M.R α} {f : α → M.S → M.R γ} (h : Post K Θ Rk ρ H (r.bind f) Q')
    (k : ∀ ρ' H' a b S', ρ <+: ρ' → Le H H' → RepS K Θ ρ' S' H' → Rl ρ' H' a b → Post K Θ Rk ρ' H' (f a S') Q' → Q b H') : Post K Θ Rl ρ H r Q := by
  cases r with
  | ok a s => exact fun ρ2 H2 b p l rp rl => k ρ2 H2 a b s p l rp rl (Post.weak h p l)
  | exc e s => exact h
  | no => exact h
theorem Post.here {a : α} {b : β} (h : Post K Θ Rl ρ H (.ok a S) Q) (rp : RepS K Θ ρ S H) (rl : Rl ρ H a b) : Q b H := h ρ H b (List.prefix_refl _) (Le.refl _) rp rl
end
def RdE (K : PySem.W.Frag) (Θ : Tab) (m : M.EM) : TE := fun σ H Q => ∃ ρ σ' S, RelSt K ρ H σ' σ ∧ RepS K Θ ρ S H ∧ Post K Θ (RelD K) ρ H (m σ' S) Q
def RdT (K : PySem.W.Frag) (Θ : Tab) (m : M.TM) : TT := fun σ H Q => ∃ ρ σ' S, RelSt K ρ H σ' σ ∧ RepS K Θ ρ S H ∧ Post K Θ rB ρ H (m σ' S) Q
def RdA (K : PySem.W.Frag) (Θ : Tab) (m : M.AM) : TA := fun σ H Q => ∃ ρ σ' S, RelSt K ρ H σ' σ ∧ RepS K Θ ρ S H ∧ Post K Θ (RelDs K) ρ H (m σ' S) Q
abbrev ME (X : Cx) (Θ : Tab) (e : Expr) (m : M.EM) : Prop := PE X e (RdE X.K Θ m)
@[irreducible] def WE (X : Cx) (Θ : Tab) (e : Expr) (m : M.EM) : Prop := ME X Θ e m
abbrev MT (X : Cx) (Θ : Tab) (e : Expr) (m : M.TM) : Prop := PT X e (RdT X.K Θ m)
@[irreducible] def WT (X : Cx) (Θ : Tab) (e : Expr) (m : M.TM) : Prop := MT X Θ e m
abbrev MW (X : Cx) (Θ : Tab) (e : Expr) (m : M.TM) : Prop := PW X e (RdT X.K Θ m)
@[irreducible] def WW (X : Cx) (Θ : Tab) (e : Expr) (m : M.TM) : Prop := MW X Θ e m
abbrev MA (X : Cx) (Θ : Tab) (es : List Expr) (m : M.AM) : Prop := PA X es (RdA X.K Θ m)
@[irreducible] def WA (X : Cx) (Θ : Tab) (es : List Expr) (m : M.AM) : Prop := MA X Θ es m
theorem PE.imp {X : Cx} {e : Expr} {t t' : TE} (h : PE X e t) (i : ∀ σ H Q, t' σ H Q → t σ H Q) : PE X e t' := fun pins s σ H Q I q => h pins s σ H Q I (i σ H Q q)
theorem PT.imp {X : Cx} {e : Expr} {t t' : TT} (h : PT X e t) (i : ∀ σ H Q, t' σ H Q → t σ H Q) : PT X e t' := fun pins s σ H Q I q => h pins s σ H Q I (i σ H Q q)
theorem PW.imp {X : Cx} {e : Expr} {t t' : TT} (h : PW X e t) (i : ∀ σ H Q, t' σ H Q → t σ H Q) : PW X e t' := fun wh pins s σ H Q I q => h wh pins s σ H Q I (i σ H Q q)
theorem PA.imp {X : Cx} {es : List Expr} {t t' : TA} (h : PA X es t) (i : ∀ σ H Q, t' σ H Q → t σ H Q) : PA X es t' := fun pos pins s σ H Q I q => h pos pins s σ H Q I (i σ H Q q)
theorem PE.up {X : Cx} {Θ : Tab} {e : Expr} {t : TE} {m : M.EM} (h : PE X e t) (i : ∀ σ H Q ρ σ' S, RelSt X.K ρ H σ' σ → RepS X.K Θ ρ S H → Post X.K Θ (RelD X.K) ρ H (m σ' S) Q → t σ H Q) : PE X e (RdE X.K Θ m) := h.imp fun σ H Q ⟨ρ, σ', S, a, b, c⟩ => i σ H Q ρ σ' S a b c
theorem PT.up {X : Cx} {Θ : Tab} {e : Expr} {t : TT} {m : M.TM} (h : PT X e t) (i : ∀ σ H Q ρ σ' S, RelSt X.K ρ H σ' σ → RepS X.K Θ ρ S H → Post X.K Θ rB ρ H (m σ' S) Q → t σ H Q) : PT X e (RdT X.K Θ m) := h.imp fun σ H Q ⟨ρ, σ', S, a, b, c⟩ => i σ H Q ρ σ' S a b c
theorem PW.up {X : Cx} {Θ : Tab} {e : Expr} {t : TT} {m : M.TM} (h : PW X e t) (i : ∀ σ H Q ρ σ' S, RelSt X.K ρ H σ' σ → RepS X.K Θ ρ S H → Post X.K Θ rB ρ H (m σ' S) Q → t σ H Q) : PW X e (RdT X.K Θ m) := h.imp fun σ H Q ⟨ρ, σ', S, a, b, c⟩ => i σ H Q ρ σ' S a b c
theorem PA.up {X : Cx} {Θ : Tab} {es : List Expr} {t : TA} {m : M.AM} (h : PA X es t) (i : ∀ σ H Q ρ σ' S, RelSt X.K ρ H σ' σ → RepS X.K Θ ρ S H → Post X.K Θ (RelDs X.K) ρ H (m σ' S) Q → t σ H Q) : PA X es (RdA X.K Θ m) := h.imp fun σ H Q ⟨ρ, σ', S, a, b, c⟩ => i σ H Q ρ σ' S a b c
noncomputable def notStar : Expr → Bool
  | .Starred _ _ => false
  | _ => true
theorem star_cons {e : Expr} {es : List Expr} {env : Env} (h : notStar e = true) : starEach (e :: es) env = (false, eval e env) :: starEach es env := by
  cases e <;> first | rfl | cases h
theorem star_any {env : Env} {pos : Pos} : ∀ {es : List Expr}, es.all notStar = true → (backTo pos (starEach es env)).any (·.1) = false
  | [], _ => rfl
  | e :: es, h => by
    rw [List.all_cons, Bool.and_eq_true] at h
    rw [star_cons h.1]
    show (false || (backTo pos (starEach es env)).any (·.1)) = false
    rw [star_any h.2]; rfl
theorem star_all {env : Env} {pos : Pos} : ∀ {es : List Expr}, es.all notStar = true → (backTo pos (starEach es env)).all (fun x => !x.1) = true
  | [], _ => rfl
  | e :: es, h => by
    rw [List.all_cons, Bool.and_eq_true] at h
    rw [star_cons h.1]
    show (true && (backTo pos (starEach es env)).all (fun x => !x.1)) = true
    rw [star_all h.2]; rfl
theorem star_few {env : Env} {pos : Pos} {es : List Expr} (h : es.all notStar = true) (hl : es.length < 30) : ((backTo pos (starEach es env)).all (fun x => !x.1) && (backToKw pos (keywordEach [] env)).all (fun x => x.1.isSome)
    && decide (es.length + ([] : List Keyword).length + (if ([] : List Keyword).isEmpty then 0 else 1) < 30)) = true := by
  rw [star_all h, Bool.true_and, Bool.and_eq_true]
  exact ⟨rfl, decide_eq_true (by simpa using hl)⟩
section
variable {X : Cx} {Θ : Tab} {a b c : Expr} {pos : Pos} {ma mb mc : M.EM} {ta tb : M.TM} {rest : List Expr}
theorem w_me_var (i : Nat) {x : Str} (hN : X.N[i]? = some x := by rfl) (hv : Vis X.env.scope x := by first | exact Or.inl rfl | exact Or.inr (Or.inl rfl) | exact Or.inr (Or.inr rfl)) (hd : (x == ("__debug__" : Str)) = false := by decide)
    (hcd : (x == ("__classdict__" : Str)) = false := by decide) : WE X Θ (.Name x pos) (M.eVar i) := by
  delta WE at ⊢
  exact (pe_var hN hv hd hcd).up fun σ H Q ρ σ' S st rp h => by
    unfold M.eVar at h
    split at h
    · rename_i d e
      obtain ⟨v, e1, r⟩ := st.get i d e
      exact ⟨v, e1, h.here rp r⟩
    · exact h.elim
theorem me_of {e : Expr} {v : V} {d : M.D} (h : PE X e (tC v)) (r : ∀ ρ H, RelD X.K ρ H d v) : ME X Θ e (M.eC d) := h.up fun σ H Q ρ σ' S st rp h => h.here rp (r ρ H)
theorem w_me_int {i : Int} {j : Nat} : WE X Θ (.Constant (.int i) j pos) (M.eC (.int i)) := by
  delta WE at ⊢
  exact me_of pe_int fun _ _ => rfl
theorem w_me_bl {k : Bool} {j : Nat} : WE X Θ (.Constant (.bool k) j pos) (M.eC (.bl k)) := by
  delta WE at ⊢
  exact me_of pe_bl fun _ _ => rfl
theorem w_me_non {j : Nat} : WE X Θ (.Constant .none j pos) (M.eC .non) := by
  delta WE at ⊢
  exact me_of pe_non fun _ _ => rfl
theorem w_me_str {y : M.T} {x : Str} {j : Nat} (h : x = ofT y) (ok : okT y) : WE X Θ (.Constant (.str x) j pos) (M.eC (.str y)) := by
  delta WE at ⊢
  exact me_of pe_str fun _ _ => by rw [h]; exact ⟨rfl, ok⟩
theorem w_me_globS {x : Str} {v : V} {d : M.D} (h : HasV X.mg x v) (hg : Gl X x) (r : ∀ ρ H, RelD X.K ρ H d v) (hd : (x == ("__debug__" : Str)) = false := by decide) : WE X Θ (.Name x pos) (M.eC d) := by
  delta WE at ⊢
  exact me_of (pe_globH h hg hd) r
theorem w_me_ty (n : M.Kd) {x : Str} (hg : Gl X x) (hm : X.mg x = none) (hv : bootBuiltins x = some (.type (kdName n))) (hn : x ≠ "__name__" := by decide) (hd : (x == ("__debug__" : Str)) = false := by decide) : WE X Θ (.Name x pos) (M.eC (.ty n)) := by
  delta WE at ⊢
  exact me_of (pe_bltn (v := .ty (kdName n)) hg hm hv rfl hn hd) fun _ _ => rfl
def Ad2 (K : PySem.W.Frag) (Θ : Tab) (f : M.D → M.D → M.S → M.R M.D) (r : R2) : Prop := ∀ ρ H S x y X Y Q, RepS K Θ ρ S H → RelD K ρ H x X → RelD K ρ H y Y → Post K Θ (RelD K) ρ H (f x y S) Q → r X Y H Q
def AdC (K : PySem.W.Frag) (Θ : Tab) (f : M.CM) (r : R2) : Prop := ∀ ρ H S x y X Y (Q : VK), RepS K Θ ρ S H → RelD K ρ H x X → RelD K ρ H y Y → Post K Θ rB ρ H (f x y S) (fun b H' => Q (.bl b) H') → r X Y H Q
def Ad1 (K : PySem.W.Frag) (Θ : Tab) (f : M.D → M.S → M.R M.D) (r : V → Hp → VK → Prop) : Prop := ∀ ρ H S x X Q, RepS K Θ ρ S H → RelD K ρ H x X → Post K Θ (RelD K) ρ H (f x S) Q → r X H Q
def AdN (K : PySem.W.Frag) (Θ : Tab) (f : M.F) (r : List V → Hp → VK → Prop) : Prop := ∀ ρ H S xs Xs Q, RepS K Θ ρ S H → RelDs K ρ H xs Xs → Post K Θ (RelD K) ρ H (f xs S) Q → r Xs H Q
def AdM (K : PySem.W.Frag) (Θ : Tab) (f : M.D → M.F) (r : V → List V → Hp → VK → Prop) : Prop :=
  ∀ ρ H S x xs X Xs Q, RepS K Θ ρ S H → RelD K ρ H x X → RelDs K ρ H xs Xs → Post K Θ (RelD K) ρ H (f x xs S) Q → r X Xs H Q
theorem w_me_op {op : Operator} {f : M.D → M.D → M.S → M.R M.D} {r : R2} (ho : OpR X (binaryOp op) r) (ad : Ad2 X.K Θ f r) (ha : WE X Θ a ma) (hb : WE X Θ b mb) : WE X Θ (.BinOp a op b pos) (M.eOp f ma mb) := by
  delta WE at ha hb ⊢
  exact (pe_op ho ha hb).up fun σ H Q ρ σ' S st rp h => ⟨ρ, σ', S, st, rp, Post.bind h fun ρ1 H1 x X1 S1 p1 l1 rp1 rx h1 => ⟨ρ1, σ', S1, st.mono p1 l1, rp1,
      Post.bind h1 fun ρ2 H2 y Y S2 p2 l2 rp2 ry h2 => ad ρ2 H2 S2 x y X1 Y Q rp2 (rx.mono p2 l2) ry h2⟩⟩
noncomputable def plainB : Expr → Bool
  | .Slice _ _ _ _ => false
  | .Tuple _ _ _ => false
  | _ => true
theorem plain_of {b : Expr} (h : plainB b = true) : PlainIx b := fun o i => by
  cases b <;> first | rfl | cases h
theorem w_me_ix {f : M.D → M.D → M.S → M.R M.D} {r : R2} (ho : IxR X r) (ad : Ad2 X.K Θ f r) (ha : WE X Θ a ma) (hb : WE X Θ b mb) (hs : plainB b = true := by rfl) : WE X Θ (.Subscript a b pos) (M.eOp f ma mb) := by
  delta WE at ha hb ⊢
  exact (pe_ix ho ha hb (plain_of hs)).up fun σ H Q ρ σ' S st rp h => ⟨ρ, σ', S, st, rp, Post.bind h fun ρ1 H1 x X1 S1 p1 l1 rp1 rx h1 => ⟨ρ1, σ', S1, st.mono p1 l1, rp1,
      Post.bind h1 fun ρ2 H2 y Y S2 p2 l2 rp2 ry h2 => ad ρ2 H2 S2 x y X1 Y Q rp2 (rx.mono p2 l2) ry h2⟩⟩
theorem w_me_un {op : UnaryOp} {f : M.D → M.S → M.R M.D} {r : V → Hp → VK → Prop} (ho : UnR X (unaryOp op) r) (ad : Ad1 X.K Θ f r) (ha : WE X Θ a ma) : WE X Θ (.UnaryOp op a pos) (M.eUn f ma) := by
  delta WE at ha ⊢
  exact (pe_un ho ha).up fun σ H Q ρ σ' S st rp h => ⟨ρ, σ', S, st, rp, Post.bind h fun ρ1 H1 x X1 S1 p1 l1 rp1 rx h1 => ad ρ1 H1 S1 x X1 Q rp1 rx h1⟩
theorem w_me_cmp {op : CmpOp} {f : M.CM} {r : R2} (ho : OpR X (compareOp op) r) (ad : AdC X.K Θ f r) (ha : WE X Θ a ma) (hb : WE X Θ b mb) (hm : behindInMarks op b = false) : WE X Θ (.Compare a [op] [b] pos) (M.eCmp f ma mb) := by
  delta WE at ha hb ⊢
  exact (pe_cmpR ho ha hb hm).up fun σ H Q ρ σ' S st rp h => ⟨ρ, σ', S, st, rp, Post.bind h fun ρ1 H1 x X1 S1 p1 l1 rp1 rx h1 => ⟨ρ1, σ', S1, st.mono p1 l1, rp1,
      Post.bind h1 fun ρ2 H2 y Y S2 p2 l2 rp2 ry h2 => ad ρ2 H2 S2 x y X1 Y Q rp2 (rx.mono p2 l2) ry (Post.bind h2 fun ρ3 H3 k k' S3 p3 l3 rp3 e h3 => by cases e; exact h3.here rp3 rfl)⟩⟩
theorem w_mt_cmp {op : CmpOp} {f : M.CM} {r : R2} (ho : OpR X (compareOp op) r) (ad : AdC X.K Θ f r) (ha : WE X Θ a ma) (hb : WE X Θ b mb) (hm : behindInMarks op b = false) : WT X Θ (.Compare a [op] [b] pos) (M.tCmp f ma mb) := by
  delta WE WT at ha hb ⊢
  exact (pt_cmpR ho ha hb hm).up fun σ H Q ρ σ' S st rp h => ⟨ρ, σ', S, st, rp, Post.bind h fun ρ1 H1 x X1 S1 p1 l1 rp1 rx h1 => ⟨ρ1, σ', S1, st.mono p1 l1, rp1,
      Post.bind h1 fun ρ2 H2 y Y S2 p2 l2 rp2 ry h2 => ad ρ2 H2 S2 x y X1 Y _ rp2 (rx.mono p2 l2) ry (by
        revert h2
        cases f x y S2 with
        | ok k s => exact fun h2 ρ3 H3 k' p3 l3 rp3 e => ⟨k', rfl, h2 ρ3 H3 k' p3 l3 rp3 e⟩
        | exc e s => exact fun h2 => h2
        | no => exact fun h2 => h2)⟩⟩
theorem isN_eq {K : PySem.W.Frag} {ρ : List Addr} {H : Hp} {x : M.D} {v : V} (r : RelD K ρ H x v) : decide (v = .non) = M.isNon x := by
  cases x with
  | non => cases r; rfl
  | bl b => cases r; rfl
  | int b => cases r; rfl
  | str b => obtain ⟨rfl, _⟩ := r; rfl
  | ty b => cases r; rfl
  | ref i => obtain ⟨_, rfl, _⟩ := r; rfl
  | tup i => obtain ⟨_, _, rfl, _⟩ := r; rfl
  | ro i => obtain ⟨_, _, rfl, _⟩ := r; rfl
theorem w_mt_notN {j pos'} (ha : WE X Θ a ma) : WT X Θ (.Compare a [.IsNot] [.Constant .none j pos'] pos) (M.tNotN ma) := by
  delta WE WT at ha ⊢
  exact (pt_cmp (pc_notN ha)).up fun σ H Q ρ σ' S st rp h => ⟨ρ, σ', S, st, rp, Post.bind h fun ρ1 H1 x X1 S1 p1 l1 rp1 rx h1 => ⟨_, rfl, by
    rw [isN_eq rx]; exact h1.here rp1 rfl⟩⟩
theorem AdC.to {K : PySem.W.Frag} {f : M.CM} {r : R2} (ad : AdC K Θ f r) {ρ : List Addr} {H : Hp} {S : M.S} {x y : M.D} {X1 Y : V} {Q : VK} {Q' : Bool → Hp → Prop} (rp : RepS K Θ ρ S H) (rx : RelD K ρ H x X1) (ry : RelD K ρ H y Y) (h : Post K Θ rB ρ H (f x y S) Q') (e : ∀ k H', Q' k H' → Q (.bl k) H') : r X1 Y H Q :=
  ad ρ H S x y X1 Y Q rp rx ry (by
    revert h
    cases f x y S with
    | ok k s => exact fun h2 ρ3 H3 k' p3 l3 rp3 q => e _ _ (h2 ρ3 H3 k' p3 l3 rp3 q)
    | exc e s => exact fun h2 => h2
    | no => exact fun h2 => h2)
theorem w_me_chain {op op' : CmpOp} {f g : M.CM} {r r' : R2} (ho : OpR X (compareOp op) r) (ho' : OpR X (compareOp op') r') (ad : AdC X.K Θ f r) (ad' : AdC X.K Θ g r') (ha : WE X Θ a ma) (hb : WE X Θ b mb) (hc : WE X Θ c mc)
    (hm : lastMarks [op, op'] [b, c] = false := by with_unfolding_all rfl) : WE X Θ (.Compare a [op, op'] [b, c] pos) (M.eChain f g ma mb mc) := by
  delta WE at ha hb hc ⊢
  exact (pe_chain ho ho' ha hb hc hm).up fun σ H Q ρ σ' S st rp h => ⟨ρ, σ', S, st, rp, Post.bind h fun ρ1 H1 x X1 S1 p1 l1 rp1 rx h1 => ⟨ρ1, σ', S1, st.mono p1 l1, rp1,
      Post.bind h1 fun ρ2 H2 y Y S2 p2 l2 rp2 ry h2 => ad.to rp2 (rx.mono p2 l2) ry (Post.bind (Rl := rB) (Q := fun k H' => ∃ ρ3 S3, ρ2 <+: ρ3 ∧ Le H2 H' ∧ RepS X.K Θ ρ3 S3 H' ∧ Post X.K Θ (RelD X.K) ρ3 H' (if k = true then (mc σ' S3).bind fun z s => (g y z s).bind fun k s => .ok (.bl k) s else .ok (.bl false) S3) Q) h2
        fun ρ3 H3 k k' S3 p3 l3 rp3 e h3 => by cases e; exact ⟨ρ3, S3, p3, l3, rp3, h3⟩) fun k H3 ⟨ρ3, S3, p3, l3, rp3, h3⟩ => ⟨k, rfl, by
          cases k with
          | false => exact iteF (Post.here (b := V.bl false) h3 rp3 rfl)
          | true =>
            refine iteT ⟨ρ3, σ', S3, st.mono (p1.trans (p2.trans p3)) (l1.trans (l2.trans l3)), rp3, Post.bind h3 fun ρ4 H4 z Z S4 p4 l4 rp4 rz h4 => ad'.to rp4 (ry.mono (p3.trans p4) (l3.trans l4)) rz (Post.bind (Rl := rB) (Q := fun k H' => Q (.bl k) H') h4 fun ρ5 H5 k k' S5 p5 l5 rp5 e h5 => by cases e; exact h5.here rp5 rfl) fun _ _ q => q⟩⟩⟩⟩
theorem w_mw_one_or (ha : WT X Θ a ta) : WW X Θ (.BoolOp .Or [a] pos) ta := by
  delta WT WW at ha ⊢
  exact pw_or1 ha
theorem w_mw_or (ha : WT X Θ a ta) (hb : WW X Θ (.BoolOp .Or (b :: rest) pos) tb) : WW X Θ (.BoolOp .Or (a :: b :: rest) pos) (M.tOr ta tb) := by
  delta WT WW at ha hb ⊢
  exact (pw_or ha hb).up fun σ H Q ρ σ' S st rp h => ⟨ρ, σ', S, st, rp, Post.bind h fun ρ1 H1 k k' S1 p1 l1 rp1 e h1 => by
      cases e
      cases k with
      | true => exact iteT (Post.here (b := true) h1 rp1 rfl)
      | false => exact iteF ⟨ρ1, σ', S1, st.mono p1 l1, rp1, h1⟩⟩
theorem w_mt_not (ha : WT X Θ a ta) : WT X Θ (.UnaryOp .Not a pos) (M.tNot ta) := by
  delta WT at ha ⊢
  exact (pt_not ha).up fun σ H Q ρ σ' S st rp h => ⟨ρ, σ', S, st, rp, Post.bind h fun ρ1 H1 k k' S1 p1 l1 rp1 e h1 => by
    cases e; exact Post.here (b := !k) h1 rp1 rfl⟩
theorem w_me_one {op} (ha : WE X Θ a ma) : WE X Θ (.BoolOp op [a] pos) ma := by
  delta WE at ha ⊢
  exact pe_one ha
theorem asB_bl {K : PySem.W.Frag} {γ δ : Type} {Rk : List Addr → Hp → γ → δ → Prop} {ρ : List Addr} {H : Hp} {x : M.D} {v : V} {S : M.S} {f : Bool → M.S → M.R γ} {Q : δ → Hp → Prop} (r : RelD K ρ H x v) (h : Post K Θ Rk ρ H ((M.asB x S).bind f) Q) : ∃ k, v = .bl k ∧ Post K Θ Rk ρ H (f k S) Q := by
  cases x with
  | bl b => cases r; exact ⟨b, rfl, h⟩
  | _ => exact h.elim
theorem w_me_and (ha : WE X Θ a ma) (hb : WE X Θ (.BoolOp .And (b :: rest) pos) mb) : WE X Θ (.BoolOp .And (a :: b :: rest) pos) (M.eAnd ma mb) := by
  delta WE at ha hb ⊢
  exact (pe_and ha hb).up fun σ H Q ρ σ' S st rp h => ⟨ρ, σ', S, st, rp, Post.bind h fun ρ1 H1 x X1 S1 p1 l1 rp1 rx h1 => by
      obtain ⟨k, e, h2⟩ := asB_bl rx h1
      refine ⟨k, e, ?_⟩
      cases k with
      | true => exact iteT ⟨ρ1, σ', S1, st.mono p1 l1, rp1, h2⟩
      | false => exact iteF (Post.here (b := V.bl false) h2 rp1 rfl)⟩
theorem w_me_not (ha : WE X Θ a ma) : WE X Θ (.UnaryOp .Not a pos) (M.eNot ma) := by
  delta WE at ha ⊢
  exact (pe_not ha).up fun σ H Q ρ σ' S st rp h => ⟨ρ, σ', S, st, rp, Post.bind h fun ρ1 H1 x X1 S1 p1 l1 rp1 rx h1 => by
    obtain ⟨k, e, h2⟩ := asB_bl rx h1
    exact ⟨k, e, Post.here (b := V.bl !k) h2 rp1 rfl⟩⟩
theorem ma_nil : MA X Θ [] M.aNil := pa_nil.up fun σ H Q ρ σ' S st rp h => Post.here (b := []) h rp rfl
theorem w_ma_nil : WA X Θ [] M.aNil := by with_unfolding_all exact ma_nil
theorem ma_cons {e : Expr} {es : List Expr} {r : M.AM} (ha : ME X Θ e ma) (hr : MA X Θ es r) (hs : notStar e = true := by rfl) : MA X Θ (e :: es) (M.aCons ma r) :=
  (pa_cons ha hr (star_cons hs)).up fun σ H Q ρ σ' S st rp h => ⟨ρ, σ', S, st, rp, Post.bind h fun ρ1 H1 x X1 S1 p1 l1 rp1 rx h1 => ⟨ρ1, σ', S1, st.mono p1 l1, rp1,
    Post.bind h1 fun ρ2 H2 ys Ys S2 p2 l2 rp2 ry h2 => h2.here rp2 ⟨X1, Ys, rfl, rx.mono p2 l2, ry⟩⟩⟩
theorem w_ma_cons {e : Expr} {es : List Expr} {r : M.AM} (ha : WE X Θ e ma) (hr : WA X Θ es r) (hs : notStar e = true := by rfl) : WA X Θ (e :: es) (M.aCons ma r) := by with_unfolding_all exact ma_cons (e := e) (es := es) (r := r) ha hr hs
theorem w_me_tup {es : List Expr} {r : M.AM} {x1} (hr : WA X Θ es r) : WE X Θ (.Tuple es x1 pos) (M.eTup r) := by
  delta WA WE at hr ⊢
  exact (pe_tup hr).up fun σ H Q ρ σ' S st rp h => ⟨ρ, σ', S, st, rp, Post.bind h fun ρ1 H1 xs Xs S1 p1 l1 rp1 rx h1 => by
    by_cases hl : xs.length ≤ M.SZ
    · rw [if_pos hl] at h1
      rw [SZ_eq, rx.length] at hl
      exact ⟨hl, fun p hp => h1 ρ1 _ _ (List.prefix_refl _) (Le.new hp _) (rp1.aside hp _) ⟨p, Xs, rfl, SqT.of upd_same, rx.mono (List.prefix_refl _) (Le.new hp _)⟩⟩
    · rw [if_neg hl] at h1
      exact h1.elim⟩
theorem Post.alloc {K : PySem.W.Frag} {ρ : List Addr} {H : Hp} {S : M.S} {ds : List M.D} {xs : List V} {Q : VK} (h : Post K Θ (RelD K) ρ H (M.alloc (.lst ds) S) Q) (rp : RepS K Θ ρ S H) (r : RelDs K ρ H ds xs) {p : Addr} (hp : H p = none) : Q (.ref p) (upd H p (.lst xs)) :=
  h (ρ ++ [p]) _ _ (List.prefix_append _ _) (Le.new hp _) (rp.alloc hp ⟨xs, upd_same, r.mono (List.prefix_append _ _) (Le.new hp _)⟩) ⟨p, rfl, by rw [← rp.len]; simp⟩
theorem w_me_lst {es : List Expr} {r : M.AM} (hr : WA X Θ es r) : WE X Θ (.List es pos) (M.eLst r) := by
  delta WA WE at hr ⊢
  exact (pe_lst hr).up fun σ H Q ρ σ' S st rp h => ⟨ρ, σ', S, st, rp, Post.bind h fun ρ1 H1 xs Xs S1 p1 l1 rp1 rx h1 => by
    by_cases hl : xs.length ≤ M.SZ
    · rw [if_pos hl] at h1
      rw [SZ_eq, rx.length] at hl
      exact ⟨hl, fun p hp => h1.alloc rp1 rx hp⟩
    · rw [if_neg hl] at h1
      exact h1.elim⟩
theorem w_me_callB {x : Str} {p : Pos} {id : String} {e : Expr} {es : List Expr} {f : M.F} {r : List V → Hp → VK → Prop} {m : M.AM} (hc : CallR X (.builtin id) r) (ad : AdN X.K Θ f r) (hg : Gl X x) (hm : X.mg x = none) (hv : bootBuiltins x = some (.builtin id)) (ha : WA X Θ (e :: es) m)
    (hn : x ≠ "__name__" := by decide) (hdb : (x == ("__debug__" : Str)) = false := by decide) (he : notStar e = true := by rfl) (hpl : es.all notStar = true := by rfl) :
    WE X Θ (.Call (.Name x p) (e :: es) [] pos) (M.eCall f m) := by
  delta WA WE at ha ⊢
  exact (pe_callB hc hg hm hv ha hn hdb (star_cons he) (star_any hpl)).up fun σ H Q ρ σ' S st rp h => ⟨ρ, σ', S, st, rp, Post.bind h fun ρ1 H1 xs Xs S1 p1 l1 rp1 rx h1 => ad ρ1 H1 S1 xs Xs Q rp1 rx h1⟩
theorem w_me_callTy {x : Str} {p : Pos} {T : String} {e : Expr} {es : List Expr} {f : M.F} {r : List V → Hp → VK → Prop} {m : M.AM} (hc : CallR X (.type T) r) (ad : AdN X.K Θ f r) (hg : Gl X x) (hm : X.mg x = none) (hv : bootBuiltins x = some (.type T)) (ha : WA X Θ (e :: es) m)
    (hn : x ≠ "__name__" := by decide) (hdb : (x == ("__debug__" : Str)) = false := by decide) (he : notStar e = true := by rfl) (hpl : es.all notStar = true := by rfl) :
    WE X Θ (.Call (.Name x p) (e :: es) [] pos) (M.eCall f m) := by
  delta WA WE at ha ⊢
  exact (pe_callTy hc hg hm hv ha hn hdb (star_cons he) (star_any hpl)).up fun σ H Q ρ σ' S st rp h => ⟨ρ, σ', S, st, rp, Post.bind h fun ρ1 H1 xs Xs S1 p1 l1 rp1 rx h1 => ad ρ1 H1 S1 xs Xs Q rp1 rx h1⟩
theorem tyOk_is {K : PySem.W.Frag} {ρ : List Addr} {H : Hp} {S : M.S} {k : M.Kd} {x : M.D} {v : V} (rp : RepS K Θ ρ S H) (r : RelD K ρ H x v) (h : M.tyOk k x S = true) : tyV K (kdName k) v H := by
  cases x with
  | str z => obtain ⟨rfl, _⟩ := r; cases k <;> first | rfl | cases h
  | ro ds =>
    obtain ⟨a, xs, rfl, q, _⟩ := r
    cases k <;> first | exact .inl ⟨rfl, xs, q.sq⟩ | cases h
  | ref i =>
    obtain ⟨a, rfl, e⟩ := r
    cases q : S[i]? with
    | none => simp [M.tyOk, q] at h
    | some o =>
      cases o with
      | lst xs =>
        obtain ⟨b, e1, zs, e2, _⟩ := rp.obj _ _ q
        rw [e] at e1; cases e1
        cases k <;> first | exact .inl ⟨rfl, zs, SqL.of e2⟩ | simp [M.tyOk, q] at h
      | dct xs =>
        obtain ⟨b, e1, zs, e2, _⟩ := rp.obj _ _ q
        rw [e] at e1; cases e1
        cases k <;> first | exact .inr (.inr (.inl ⟨rfl, .inl ⟨zs, e2⟩⟩)) | simp [M.tyOk, q] at h
      | fdc _ => simp [M.tyOk, q] at h
      | ftt _ => simp [M.tyOk, q] at h
      | dtt xs =>
        obtain ⟨b, e1, zs, e2, _⟩ := rp.obj _ _ q
        rw [e] at e1; cases e1
        cases k <;> first | exact .inr (.inr (.inl ⟨rfl, .inr (.inr ⟨_, e2, fun h z => let ⟨_, _, _, o, _, _, z1, z2, _⟩ := z; ⟨o, z1, z2⟩⟩)⟩)) | simp [M.tyOk, q] at h
      | ins c fs => simp [M.tyOk, q] at h
  | _ => cases h
theorem w_me_m {k : M.Kd} {T : String} {f : M.D → M.F} {r : V → List V → Hp → VK → Prop} {o e : Expr} {es : List Expr} {mo : M.EM} {m : M.AM} {name : Str} {apos cpos : Pos} {id : String} (pa : PlainAttrs T) (slot : Slot T name id) (hty : typeOf (.builtin id) = pure (.type "method_descriptor")) (hm : MtR X id r) (ad : AdM X.K Θ f r) (hT : T = kdName k) (ho : WE X Θ o mo) (ha : WA X Θ (e :: es) m)
    (hbase : attributeBase o name X.env (eval o X.env) = eval o X.env := by rfl)
    (hfew : (e :: es).length < 30 := by exact Nat.le_of_ble_eq_true rfl) (hline : (apos.endLine == cpos.line) = true := by rfl) (hs : notStar e = true := by rfl) (hplain : es.all notStar = true := by rfl) :
    WE X Θ (.Call (.Attribute o name apos) (e :: es) [] cpos) (M.eM k f mo m) := by
  delta WA WE at ho ha ⊢
  exact (pe_bm pa slot hty hm ho ha hbase (star_few (by rw [List.all_cons, hs, hplain]; rfl) hfew) hline (star_cons hs) (star_any hplain)).up fun σ H Q ρ σ' S st rp h => ⟨ρ, σ', S, st, rp, Post.bind h fun ρ1 H1 x X1 S1 p1 l1 rp1 rx h1 => by
    cases ht : M.tyOk k x S1 with
    | false => rw [ht] at h1; exact h1.elim
    | true =>
      rw [ht] at h1
      exact ⟨hT ▸ tyOk_is rp1 rx ht, ρ1, σ', S1, st.mono p1 l1, rp1, Post.bind h1 fun ρ2 H2 xs Xs S2 p2 l2 rp2 rxs h2 => ad ρ2 H2 S2 x xs X1 Xs Q rp2 (rx.mono p2 l2) rxs h2⟩⟩
end
end L2
namespace L2
open PySem PySem.Spec PyProof.Rows
def PostS (K : PySem.W.Frag) (Θ : Tab) (ρ : List Addr) (H : Hp) : M.RS → Ends → Prop
  | .nx σ1 S1, D => ∀ ρ' H' σ, ρ <+: ρ' → Le H H' → RepS K Θ ρ' S1 H' → RelSt K ρ' H' σ1 σ → D.nx σ H'
  | .rt d S1, D => ∀ ρ' H' v, ρ <+: ρ' → Le H H' → RepS K Θ ρ' S1 H' → RelD K ρ' H' d v → D.rt v H'
  | .bk σ1 S1, D => ∀ ρ' H' σ, ρ <+: ρ' → Le H H' → RepS K Θ ρ' S1 H' → RelSt K ρ' H' σ1 σ → D.bk σ H'
  | .ct σ1 S1, D => ∀ ρ' H' σ, ρ <+: ρ' → Le H H' → RepS K Θ ρ' S1 H' → RelSt K ρ' H' σ1 σ → D.ct σ H'
  | .exc d _ S', _ => PostX K Θ ρ H d S'
  | .no, _ => False
def RdS (K : PySem.W.Frag) (Θ : Tab) (m : M.SM) : TS := fun D σ H => ∃ ρ σ' S, RelSt K ρ H σ' σ ∧ RepS K Θ ρ S H ∧ PostS K Θ ρ H (m σ' S) D
abbrev MS (X : Cx) (Θ : Tab) (st : Stmt) (m : M.SM) : Prop := PS X st (RdS X.K Θ m)
@[irreducible] def WS (X : Cx) (Θ : Tab) (st : Stmt) (m : M.SM) : Prop := MS X Θ st m
abbrev MSs (X : Cx) (Θ : Tab) (st : List Stmt) (m : M.SM) : Prop := PSs X st (RdS X.K Θ m)
@[irreducible] def WSs (X : Cx) (Θ : Tab) (st : List Stmt) (m : M.SM) : Prop := MSs X Θ st m
theorem PS.imp {X : Cx} {e : Stmt} {t t' : TS} (h : PS X e t) (i : ∀ D σ H, t' D σ H → t D σ H) : PS X e t' := fun pins s σ H D I q => h pins s σ H D I (i D σ H q)
theorem PSs.imp {X : Cx} {e : List Stmt} {t t' : TS} (h : PSs X e t) (i : ∀ D σ H, t' D σ H → t D σ H) : PSs X e t' := fun pins s σ H D I q => h pins s σ H D I (i D σ H q)
theorem PS.up {X : Cx} {Θ : Tab} {e : Stmt} {t : TS} {m : M.SM} (h : PS X e t) (i : ∀ D σ H ρ σ' S, RelSt X.K ρ H σ' σ → RepS X.K Θ ρ S H → PostS X.K Θ ρ H (m σ' S) D → t D σ H) : PS X e (RdS X.K Θ m) := h.imp fun D σ H ⟨ρ, σ', S, a, b, c⟩ => i D σ H ρ σ' S a b c
theorem PSs.up {X : Cx} {Θ : Tab} {e : List Stmt} {t : TS} {m : M.SM} (h : PSs X e t) (i : ∀ D σ H ρ σ' S, RelSt X.K ρ H σ' σ → RepS X.K Θ ρ S H → PostS X.K Θ ρ H (m σ' S) D → t D σ H) : PSs X e (RdS X.K Θ m) := h.imp fun D σ H ⟨ρ, σ', S, a, b, c⟩ => i D σ H ρ σ' S a b c
section
variable {K : PySem.W.Frag} {Θ : Tab} {ρ ρ' : List Addr} {H H' : Hp} {S : M.S} {α β : Type} {Rl : List Addr → Hp → α → β → Prop} {Q : β → Hp → Prop} {D D' : Ends}
theorem PostS.weak {r : M.RS} (h : PostS K Θ ρ H r D) (hρ : ρ <+: ρ') (le : Le H H') : PostS K Θ ρ' H' r D := by
  cases r with
  | nx a s => exact fun ρ2 H2 b p l => h ρ2 H2 b (hρ.trans p) (le.trans l)
  | rt a s => exact fun ρ2 H2 b p l => h ρ2 H2 b (hρ.trans p) (le.trans l)
  | bk a s => exact fun ρ2 H2 b p l => h ρ2 H2 b (hρ.trans p) (le.trans l)
  | ct a s => exact fun ρ2 H2 b p l => h ρ2 H2 b (hρ.trans p) (le.trans l)
  | exc e a s => exact PostX.weak h hρ le
  | no => exact h
theorem PostS.stm {r : M.R α} {σ : M.St} {f : α → M.S → M.RS} (h : PostS K Θ ρ H (r.stm σ f) D)
    (k : ∀ ρ' H' a b S', ρ <+: ρ' → Le H H' → RepS K Θ ρ' S' H' → Rl ρ' H' a b → PostS K Θ ρ' H' (f a S') D → Q b H') : Post K Θ Rl ρ H r Q := by
  cases r with
  | ok a s => exact fun ρ2 H2 b p l rp rl => k ρ2 H2 a b s p l rp rl (PostS.weak h p l)
  | exc e s => exact h
  | no => exact h
theorem PostS.nx {σ1 : M.St} {σ : St} (h : PostS K Θ ρ H (.nx σ1 S) D) (rp : RepS K Θ ρ S H) (st : RelSt K ρ H σ1 σ) : D.nx σ H := h ρ H σ (List.prefix_refl _) (Le.refl _) rp st
theorem PostS.rt {d : M.D} {v : V} (h : PostS K Θ ρ H (.rt d S) D) (rp : RepS K Θ ρ S H) (r : RelD K ρ H d v) : D.rt v H := h ρ H v (List.prefix_refl _) (Le.refl _) rp r
end
section
variable {X : Cx} {Θ : Tab} {e : Expr} {pos : Pos} {m : M.EM} {st : Stmt} {rest : List Stmt} {ms mr : M.SM}
theorem w_mss_nil : WSs X Θ [] M.sNil := by
  delta WSs at ⊢
  exact pss_nil.up fun D σ H ρ σ' S st rp h => h.nx rp st
theorem w_mss_one (h : WS X Θ st ms) : WSs X Θ [st] ms := by
  delta WS WSs at h ⊢
  exact pss_one h
theorem w_mss_cons (h1 : WS X Θ st ms) (h2 : WSs X Θ rest mr) : WSs X Θ (st :: rest) (M.sSeq ms mr) := by
  delta WS WSs at h1 h2 ⊢
  exact (pss_cons h1 h2).up fun D σ H ρ σ' S st rp h => ⟨ρ, σ', S, st, rp, by
    have h' : PostS X.K Θ ρ H ((ms σ' S).then mr) D := h
    revert h'
    cases ms σ' S with
    | nx a s => exact fun h' ρ2 H2 σ2 p l rp2 st2 => ⟨ρ2, a, s, st2, rp2, PostS.weak h' p l⟩
    | rt a s => exact fun h' => h'
    | bk a s => exact fun h' => h'
    | ct a s => exact fun h' => h'
    | exc e a s => exact fun h' => h'
    | no => exact fun h' => h'⟩
theorem w_ms_expr (he : WE X Θ e m) (hs : swapsWith e none pos.line X.env = pure false := by rfl) : WS X Θ (.Expr e pos) (M.sExpr m) := by
  delta WE WS at he ⊢
  exact (ps_expr he hs).up fun D σ H ρ σ' S st rp h => ⟨ρ, σ', S, st, rp, PostS.stm h fun ρ1 H1 x X1 S1 p1 l1 rp1 rx h1 => h1.nx rp1 (st.mono p1 l1)⟩
theorem w_ms_ret (he : WE X Θ e m) : WS X Θ (.Return (some e) pos) (M.sRet m) := by
  delta WE WS at he ⊢
  exact (ps_ret he).up fun D σ H ρ σ' S st rp h => ⟨ρ, σ', S, st, rp, PostS.stm h fun ρ1 H1 x X1 S1 p1 l1 rp1 rx h1 => h1.rt rp1 rx⟩
theorem w_ms_set {i : Nat} {x : Str} {pos' : Pos} (hN : X.N.Nodup) (hi : X.N[i]? = some x) (hx : Loc X.env.scope x) (he : WE X Θ e m) (hs : swapsWith e (some (.Name x pos')) pos.line X.env = pure false := by kernel_rfl) (hf : X.fn x = true ∨ X.env.scope.names.lookup x = some .local := by first | exact .inl rfl | exact .inr rfl | assumption) :
    WS X Θ (.Assign [.Name x pos'] e pos) (M.sSet i m) := by
  delta WE WS at he ⊢
  exact (ps_set hN hi hx he hs hf).up fun D σ H ρ σ' S st rp h => ⟨ρ, σ', S, st, rp, PostS.stm h fun ρ1 H1 x X1 S1 p1 l1 rp1 rx h1 => h1.nx rp1 ((st.mono p1 l1).set rx i)⟩
theorem w_ms_if {c : Expr} {a b : List Stmt} {tc : M.TM} {ma mb : M.SM} (hc : WT X Θ c tc) (ha : WSs X Θ a ma) (hb : WSs X Θ b mb) : WS X Θ (.If c a b pos) (M.sIf tc ma mb) := by
  delta WS WSs WT at hc ha hb ⊢
  exact (ps_if hc ha hb).up fun D σ H ρ σ' S st rp h => ⟨ρ, σ', S, st, rp, PostS.stm h fun ρ1 H1 k k' S1 p1 l1 rp1 ek h1 => by
    cases ek
    cases k with
    | true => exact iteT ⟨ρ1, σ', S1, st.mono p1 l1, rp1, h1⟩
    | false => exact iteF ⟨ρ1, σ', S1, st.mono p1 l1, rp1, h1⟩⟩
end
def RdG (K : PySem.W.Frag) (Θ : Tab) (js : List Nat) (g : M.GM) : TG := fun v σ H Q => ∃ ρ σ' S d, RelSt K ρ H σ' σ ∧ RepS K Θ ρ S H ∧ RelD K ρ H d v ∧ ∃ σ1, g d σ' = some σ1 ∧
  ∀ H' σ2, Le H H' → RepS K Θ ρ S H' → RelSt K ρ H' σ1 σ2 → σ2.length = σ.length → (∀ j, j ∉ js → σ2[j]? = σ[j]?) → Q σ2 H'
abbrev MG (X : Cx) (Θ : Tab) (js : List Nat) (tg : Expr) (g : M.GM) : Prop := PG X tg (RdG X.K Θ js g)
@[irreducible] def WG (X : Cx) (Θ : Tab) (js : List Nat) (tg : Expr) (g : M.GM) : Prop := MG X Θ js tg g
theorem PG.imp {X : Cx} {e : Expr} {t t' : TG} (h : PG X e t) (i : ∀ v σ H Q, t' v σ H Q → t v σ H Q) : PG X e t' := fun pins s σ H v u Q I r q => h pins s σ H v u Q I r (i v σ H Q q)
theorem w_mg_name {X : Cx} {Θ : Tab} {pos : Pos} {i : Nat} {x : Str} (hN : X.N.Nodup) (hi : X.N[i]? = some x) (hx : Loc X.env.scope x) (hf : X.fn x = true ∨ X.env.scope.names.lookup x = some .local := by first | exact .inl rfl | exact .inr rfl | assumption) :
    WG X Θ [i] (.Name x pos) (M.gName i) := by
  delta WG at ⊢
  exact (pg_name hN hi hx hf).imp fun v σ H Q zq => by
    obtain ⟨ρ, σ', S, d, st, rp, rv, σ1, e, h⟩ := zq
    cases e
    exact h H _ (Le.refl _) rp (st.set rv i) (by rw [List.length_set]) fun j hj => List.getElem?_set_ne (fun z => hj (by rw [z]; simp))
structure ItR (K : PySem.W.Frag) (Θ : Tab) (ρ : List Addr) (H : Hp) (J : It) (xs : List M.D) (g : M.Gd) : Prop where
  go : ∀ (i : Nat) ρ' S' H', ρ <+: ρ' → Le H H' → RepS K Θ ρ' S' H' → M.gdOk g S' = true → i < xs.length → J.go i H'
  yld : ∀ (i : Nat) ρ' S' H' v H2, ρ <+: ρ' → Le H H' → RepS K Θ ρ' S' H' → M.gdOk g S' = true → i < xs.length → J.yld i H' v H2 → ∃ d, xs[i]? = some d ∧ RelD K ρ' H2 d v ∧ Le H' H2 ∧ RepS K Θ ρ' S' H2
  stop : ∀ ρ' S' H', ρ <+: ρ' → Le H H' → RepS K Θ ρ' S' H' → M.gdOk g S' = true → J.stop xs.length H'
def RdI (K : PySem.W.Frag) (Θ : Tab) (m : M.IM) : TI := fun σ H R => ∃ ρ σ' S, RelSt K ρ H σ' σ ∧ RepS K Θ ρ S H ∧
  Post K Θ (fun ρ' H' (p : List M.D × M.Gd) (J : It) => ItR K Θ ρ' H' J p.1 p.2) ρ H ((m σ' S).bind fun p s => if M.gdOk p.2 s then .ok p s else .no) R
abbrev MI (X : Cx) (Θ : Tab) (tg iter : Expr) (m : M.IM) : Prop := PI X tg iter (RdI X.K Θ m)
@[irreducible] def WI (X : Cx) (Θ : Tab) (tg iter : Expr) (m : M.IM) : Prop := MI X Θ tg iter m
theorem PI.imp {X : Cx} {tg e : Expr} {t t' : TI} (h : PI X tg e t) (i : ∀ σ H R, t' σ H R → t σ H R) : PI X tg e t' := fun pins s σ H R I q => h pins s σ H R I (i σ H R q)
theorem PI.or {X : Cx} {tg e : Expr} {t t' : TI} (h : PI X tg e t) (h' : PI X tg e t') : PI X tg e (fun σ H R => t σ H R ∨ t' σ H R) := fun pins s σ H R I q => by
  rcases q with q | q
  · exact h pins s σ H R I q
  · exact h' pins s σ H R I q
section
variable {X : Cx} {Θ : Tab} {tg e : Expr} {m : M.EM}
theorem itr_list {K : PySem.W.Frag} {ρ : List Addr} {H : Hp} {i : Nat} {a : Addr} {ds : List M.D} (ha : ρ[i]? = some a) : ItR K Θ ρ H (Itl K a) ds [(i, .lst ds)] := by
  have key : ∀ {ρ' : List Addr} {S' : M.S} {H' : Hp}, ρ <+: ρ' → RepS K Θ ρ' S' H' → M.gdOk [(i, .lst ds)] S' = true → ∃ zs, H' a = some (.lst zs) ∧ RelDs K ρ' H' ds zs := fun {ρ' S' H'} p rp g => by
    have g' : S'[i]? = some (M.O.lst ds) := by simpa [M.gdOk] using g
    obtain ⟨b, e1, zs, e2, r⟩ := rp.obj i _ g'
    rw [pre_get p ha] at e1; cases e1
    exact ⟨zs, e2, r⟩
  refine ⟨fun j ρ' S' H' p l rp g hj => ?_, fun j ρ' S' H' v H2 p l rp g hj y => ?_, fun ρ' S' H' p l rp g => ?_⟩
  · obtain ⟨zs, e, r⟩ := key p rp g
    obtain ⟨v, e1, _⟩ := r.get (i := j) (d := ds[j]) (by simp [hj])
    exact ⟨zs, v, SqL.of e, e1⟩
  · obtain ⟨zs, e, r⟩ := key p rp g
    obtain ⟨v', e1, rv⟩ := r.get (i := j) (d := ds[j]) (by simp [hj])
    obtain ⟨rfl, y2⟩ := y
    have y3 := y2 zs (SqL.of e)
    rw [e1] at y3; cases y3
    exact ⟨ds[j], by simp [hj], rv, Le.refl _, rp⟩
  · obtain ⟨zs, e, r⟩ := key p rp g
    exact ⟨zs, SqL.of e, Nat.le_of_eq r.length.symm⟩
theorem itr_ro {K : PySem.W.Frag} {ρ : List Addr} {H : Hp} {a : Addr} {ds : List M.D} {xs : List V} (hq : RolL K H a xs) (r : RelDs K ρ H ds xs) : ItR K Θ ρ H (Itl K a) ds [] := by
  refine ⟨fun j ρ' S' H' p l rp g hj => ?_, fun j ρ' S' H' v H2 p l rp g hj y => ?_, fun ρ' S' H' p l rp g => ?_⟩
  · obtain ⟨v, e1, _⟩ := r.get (i := j) (d := ds[j]) (by simp [hj])
    exact ⟨xs, v, (l.rol hq).sq, e1⟩
  · obtain ⟨v', e1, rv⟩ := (r.mono p l).get (i := j) (d := ds[j]) (by simp [hj])
    obtain ⟨rfl, y2⟩ := y
    have y3 := y2 xs (l.rol hq).sq
    rw [e1] at y3; cases y3
    exact ⟨ds[j], by simp [hj], rv, Le.refl _, rp⟩
  · exact ⟨xs, (l.rol hq).sq, Nat.le_of_eq r.length.symm⟩
theorem itr_tup {K : PySem.W.Frag} {ρ : List Addr} {H : Hp} {a : Addr} {ds : List M.D} {xs : List V} (hq : SqT K H a xs) (r : RelDs K ρ H ds xs) : ItR K Θ ρ H (Itt K a) ds [] := by
  refine ⟨fun j ρ' S' H' p l rp g hj => ?_, fun j ρ' S' H' v H2 p l rp g hj y => ?_, fun ρ' S' H' p l rp g => ?_⟩
  · obtain ⟨v, e1, _⟩ := r.get (i := j) (d := ds[j]) (by simp [hj])
    exact ⟨xs, v, l.sqT hq, e1⟩
  · obtain ⟨v', e1, rv⟩ := (r.mono p l).get (i := j) (d := ds[j]) (by simp [hj])
    obtain ⟨rfl, y2⟩ := y
    have y3 := y2 xs (l.sqT hq)
    rw [e1] at y3; cases y3
    exact ⟨ds[j], by simp [hj], rv, Le.refl _, rp⟩
  · exact ⟨xs, l.sqT hq, Nat.le_of_eq r.length.symm⟩
theorem itr_str {K : PySem.W.Frag} {ρ : List Addr} {H : Hp} {x : M.T} (ok : okT x) : ItR K Θ ρ H (Its (ofT x)) (x.map fun c => .str [c]) [] := by
  refine ⟨fun j ρ' S' H' p l rp g hj => ?_, fun j ρ' S' H' v H2 p l rp g hj y => ?_, fun ρ' S' H' p l rp g => ?_⟩
  · rw [List.length_map] at hj
    show j < (ofT x).length
    rw [ofT_len]; exact hj
  · obtain ⟨rfl, c, hc, rfl⟩ := y
    have hc' : x[j]? = some c := by simpa [ofT] using hc
    exact ⟨.str [c], by rw [List.getElem?_map, hc']; rfl, ⟨rfl, okT_sub ok fun d hd => by rw [List.mem_singleton.mp hd]; exact List.mem_of_getElem? hc'⟩, Le.refl _, rp⟩
  · show (ofT x).length ≤ _
    rw [ofT_len, List.length_map]; exact Nat.le_refl _
theorem itr_range {K : PySem.W.Frag} {ρ : List Addr} {H : Hp} {lo hi : Int} : ItR K Θ ρ H (Itr lo (hi - lo).toNat) (M.rangeD lo hi) [] := by
  refine ⟨fun j ρ' S' H' p l rp g hj => ?_, fun j ρ' S' H' v H2 p l rp g hj y => ?_, fun ρ' S' H' p l rp g => ?_⟩
  · show j < _
    simpa [M.rangeD] using hj
  · obtain ⟨rfl, rfl⟩ := y
    have hj' : j < (hi - lo).toNat := by simpa [M.rangeD] using hj
    exact ⟨.int (lo + j), by unfold M.rangeD; rw [List.getElem?_map, List.getElem?_range hj']; rfl, rfl, Le.refl _, rp⟩
  · show _ ≤ _
    simp [M.rangeD]
theorem w_mi_e (he : WE X Θ e m) : WI X Θ tg e (M.iE m) := by
  delta WE WI at he ⊢
  exact (PI.or (pi_list he) (PI.or (pi_tup he) (pi_str he))).imp fun σ H R zq => by
    obtain ⟨ρ, σ', S, st, rp, h⟩ := zq
    have h' : Post X.K Θ _ ρ H (((m σ' S).bind M.itD).bind fun p s => if M.gdOk p.2 s then .ok p s else .no) R := h
    clear h
    cases hm : m σ' S with
    | no => rw [hm] at h'; exact h'.elim
    | exc a s => rw [hm] at h'; exact .inl ⟨ρ, σ', S, st, rp, by rw [hm]; exact h'⟩
    | ok d S1 =>
      rw [hm] at h'
      have go : ∀ {Q : VK}, (∀ ρ1 H1 v, ρ <+: ρ1 → Le H H1 → RepS X.K Θ ρ1 S1 H1 → RelD X.K ρ1 H1 d v → Q v H1) → RdE X.K Θ m σ H Q := fun q => ⟨ρ, σ', S, st, rp, by rw [hm]; exact q⟩
      cases d with
      | str x =>
        refine .inr (.inr (go fun ρ1 H1 v p l rp1 rv => ?_))
        have h2 : Post X.K Θ _ ρ H ((if x.length ≤ M.SZ then .ok (x.map fun c => M.D.str [c], []) S1 else M.R.no).bind fun p s => if M.gdOk p.2 s then .ok p s else .no) R := h'
        by_cases hl : x.length ≤ M.SZ
        · rw [if_pos hl] at h2
          exact ⟨ofT x, rv.1, h2 ρ1 H1 _ p l rp1 (itr_str rv.2)⟩
        · rw [if_neg hl] at h2
          exact h2.elim
      | tup ds =>
        refine .inr (.inl (go fun ρ1 H1 v p l rp1 rv => ?_))
        obtain ⟨a, xs, rfl, hq, r⟩ := rv
        exact ⟨a, rfl, ⟨xs, hq⟩, h' ρ1 H1 _ p l rp1 (itr_tup hq r)⟩
      | ro ds =>
        refine .inl (go fun ρ1 H1 v p l rp1 rv => ?_)
        obtain ⟨a, xs, rfl, hq, r⟩ := rv
        exact ⟨a, rfl, ⟨xs, hq.sq⟩, h' ρ1 H1 _ p l rp1 (itr_ro hq r)⟩
      | ref i =>
        have h2 : Post X.K Θ _ ρ H ((match S1[i]? with
          | some (.lst xs) => M.R.ok (xs, [(i, M.O.lst xs)]) S1
          | _ => .no).bind fun p s => if M.gdOk p.2 s then .ok p s else .no) R := h'
        cases q : S1[i]? with
        | none => rw [q] at h2; exact h2.elim
        | some o =>
          rw [q] at h2
          cases o with
          | lst xs =>
            refine .inl (go fun ρ1 H1 v p l rp1 rv => ?_)
            obtain ⟨a, rfl, e1⟩ := rv
            obtain ⟨b, e2, zs, e3, r⟩ := rp1.obj i _ q
            rw [e1] at e2; cases e2
            have hg : M.gdOk [(i, M.O.lst xs)] S1 = true := by simp [M.gdOk, q]
            have h3 : Post X.K Θ _ ρ H (if M.gdOk [(i, M.O.lst xs)] S1 then M.R.ok (xs, [(i, M.O.lst xs)]) S1 else .no) R := h2
            rw [if_pos hg] at h3
            exact ⟨a, rfl, ⟨zs, SqL.of e3⟩, h3 ρ1 H1 _ p l rp1 (itr_list e1)⟩
          | dct kvs => exact h2.elim
          | fdc _ => exact h2.elim
          | dtt _ => exact h2.elim
          | ftt _ => exact h2.elim
          | ins c fs => exact h2.elim
      | non => exact h'.elim
      | bl b => exact h'.elim
      | int b => exact h'.elim
      | ty b => exact h'.elim
theorem w_mi_range1 {p pos : Pos} (hg : Gl X "range") (hm : X.mg "range" = none) (he : WE X Θ e m) (hs : notStar e = true := by rfl) : WI X Θ tg (.Call (.Name "range" p) [e] [] pos) (M.iRange1 m) := by
  delta WE WI at he ⊢
  exact (pi_range1 hg hm (ma_cons he ma_nil hs) (star_cons hs)).imp fun σ H R ⟨ρ, σ', S, st, rp, h⟩ => ⟨ρ, σ', S, st, rp, by
      have h' : Post X.K Θ _ ρ H (((m σ' S).bind fun x s => match x with
        | .int j => if j.natAbs < 4611686018427387904 then M.R.ok (M.rangeD 0 j, ([] : M.Gd)) s else .no
        | _ => .no).bind fun p s => if M.gdOk p.2 s then .ok p s else .no) R := h
      show Post X.K Θ _ ρ H ((m σ' S).bind fun x s => (M.R.ok [] s).bind fun xs s => .ok (x :: xs) s) _
      cases hm : m σ' S with
      | no => rw [hm] at h'; exact h'.elim
      | exc a s => rw [hm] at h'; exact h'
      | ok d S1 =>
        rw [hm] at h'
        intro ρ1 H1 vs p l rp1 rv
        obtain ⟨v, ys, rfl, rv, hy⟩ := rv
        cases hy
        cases d with
        | int j =>
          cases rv
          have h2 : Post X.K Θ _ ρ H ((if j.natAbs < 4611686018427387904 then M.R.ok (M.rangeD 0 j, ([] : M.Gd)) S1 else .no).bind fun p s => if M.gdOk p.2 s then .ok p s else .no) R := h'
          by_cases hj : j.natAbs < 4611686018427387904
          · rw [if_pos hj] at h2
            refine ⟨j, rfl, by lia, by lia, ?_⟩
            have := h2 ρ1 H1 _ p l rp1 (itr_range (lo := 0) (hi := j))
            rw [Int.sub_zero] at this
            exact this
          · rw [if_neg hj] at h2
            exact h2.elim
        | _ => exact h'.elim⟩
end
section
variable {X : Cx} {Θ : Tab} {pos : Pos}
theorem for_W {K : PySem.W.Frag} {g : M.GM} {js : List Nat} {mb : M.SM} {xs : List M.D} {gd : M.Gd} {J : It} {ρ1 : List Addr} {H1 : Hp} {σ : St} {σ' : M.St} {S1 : M.S} {D : Ends} (itr : ItR K Θ ρ1 H1 J xs gd) (st : RelSt K ρ1 H1 σ' σ) (rp1 : RepS K Θ ρ1 S1 H1) (hgd : M.gdOk gd S1 = true) (h2 : PostS K Θ ρ1 H1 (M.forL gd (M.forF g mb) xs σ' S1) D) :
    ∃ W : Nat → Nat → St → Hp → Prop, (∃ m, W 0 m σ H1) ∧ ∀ i m σ H, W i m σ H →
      (J.stop i H ∧ D.nx σ H) ∨ (J.go i H ∧ ∃ N : St → Hp → Prop, (∀ σ' H', N σ' H' → ∃ m', m' < m ∧ W (i + 1) m' σ' H') ∧ ∀ x H', J.yld i H x H' → RdG K Θ js g x σ H' fun σ2 H2 => RdS K Θ mb { D with nx := N, ct := N, bk := D.nx } σ2 H2) := by
  refine ⟨fun i k σ2 H2 => ∃ ρ2 σ2' S2, ρ1 <+: ρ2 ∧ Le H1 H2 ∧ RelSt K ρ2 H2 σ2' σ2 ∧ RepS K Θ ρ2 S2 H2 ∧ M.gdOk gd S2 = true ∧ k = xs.length - i ∧ i ≤ xs.length ∧ PostS K Θ ρ2 H2 (M.forL gd (M.forF g mb) (xs.drop i) σ2' S2) D,
    ⟨xs.length, ρ1, σ', S1, List.prefix_refl _, Le.refl _, st, rp1, hgd, rfl, Nat.zero_le _, h2⟩, ?_⟩
  rintro i k σ2 H2 ⟨ρ2, σ2', S2, p2, l2, st2, rp2, g2, rfl, hi2, h3⟩
  by_cases hlt : i < xs.length
  · refine .inr ⟨itr.go i ρ2 S2 H2 p2 l2 rp2 g2 hlt, fun σ3 H3 => ∃ ρ3 σ3' S3, ρ1 <+: ρ3 ∧ Le H1 H3 ∧ RelSt K ρ3 H3 σ3' σ3 ∧ RepS K Θ ρ3 S3 H3 ∧ M.gdOk gd S3 = true ∧ PostS K Θ ρ3 H3 (M.forL gd (M.forF g mb) (xs.drop (i + 1)) σ3' S3) D,
      fun σ3 H3 ⟨ρ3, σ3', S3, a1, a2, a3, a4, a5, a6⟩ => ⟨xs.length - (i + 1), by lia, ρ3, σ3', S3, a1, a2, a3, a4, a5, rfl, hlt, a6⟩, fun x H' y => ?_⟩
    obtain ⟨d, ed, rd, ld, rpd⟩ := itr.yld i ρ2 S2 H2 x H' p2 l2 rp2 g2 hlt y
    have edr : xs.drop i = d :: xs.drop (i + 1) := by
      obtain ⟨_, e⟩ := List.getElem?_eq_some_iff.mp ed
      rw [List.drop_eq_getElem_cons hlt, e]
    rw [edr] at h3
    have h4 : PostS K Θ ρ2 H2 (match (match g d σ2' with | some σ' => mb σ' S2 | none => M.RS.no) with
      | .nx σ s => if M.gdOk gd s then M.forL gd (M.forF g mb) (xs.drop (i + 1)) σ s else .no
      | .ct σ s => if M.gdOk gd s then M.forL gd (M.forF g mb) (xs.drop (i + 1)) σ s else .no
      | .bk σ s => .nx σ s
      | r => r) D := h3
    cases hgq : g d σ2' with
    | none => rw [hgq] at h4; exact h4.elim
    | some σ1 =>
      rw [hgq] at h4
      refine ⟨ρ2, σ2', S2, d, st2.mono (List.prefix_refl _) ld, rpd, rd, σ1, hgq, fun H'' σ3 le3 rp3 st3 _ _ => ⟨ρ2, σ1, S2, st3, rp3, ?_⟩⟩
      have h5 := PostS.weak h4 (List.prefix_refl _) (ld.trans le3)
      have h6 : PostS K Θ ρ2 H'' (match mb σ1 S2 with
        | .nx σ s => if M.gdOk gd s then M.forL gd (M.forF g mb) (xs.drop (i + 1)) σ s else .no
        | .ct σ s => if M.gdOk gd s then M.forL gd (M.forF g mb) (xs.drop (i + 1)) σ s else .no
        | .bk σ s => .nx σ s
        | r => r) D := h5
      have more : ∀ (a : M.St) (s : M.S), PostS K Θ ρ2 H'' (if M.gdOk gd s then M.forL gd (M.forF g mb) (xs.drop (i + 1)) a s else .no) D → ∀ ρ4 H4 σ4, ρ2 <+: ρ4 → Le H'' H4 → RepS K Θ ρ4 s H4 → RelSt K ρ4 H4 a σ4 →
          ∃ ρ3 σ3' S3, ρ1 <+: ρ3 ∧ Le H1 H4 ∧ RelSt K ρ3 H4 σ3' σ4 ∧ RepS K Θ ρ3 S3 H4 ∧ M.gdOk gd S3 = true ∧ PostS K Θ ρ3 H4 (M.forL gd (M.forF g mb) (xs.drop (i + 1)) σ3' S3) D := fun a s h7 ρ4 H4 σ4 p4 l4 rp4 st4 => by
        by_cases hs : M.gdOk gd s = true
        · rw [if_pos hs] at h7
          exact ⟨ρ4, a, s, p2.trans p4, l2.trans (ld.trans (le3.trans l4)), st4, rp4, hs, PostS.weak h7 p4 l4⟩
        · rw [if_neg hs] at h7; exact h7.elim
      revert h6
      cases mb σ1 S2 with
      | nx a s => exact fun h6 => more a s h6
      | ct a s => exact fun h6 => more a s h6
      | bk a s => exact fun h6 => h6
      | rt a s => exact fun h6 => h6
      | exc e a s => exact fun h6 => h6
      | no => exact fun h6 => h6
  · have e : i = xs.length := by lia
    subst e
    rw [List.drop_length] at h3
    exact .inl ⟨itr.stop ρ2 S2 H2 p2 l2 rp2 g2, PostS.nx (σ := σ2) h3 rp2 st2⟩
theorem w_ms_for {tg iter : Expr} {body : List Stmt} {it : M.IM} {g : M.GM} {js : List Nat} {mb : M.SM} (hp : PassesOwn (model X.prog X.w) X.A X.env X.xe) (hc : X.calm = true) (hi : WI X Θ tg iter it) (hg : WG X Θ js tg g) (hb : WSs X Θ body mb)
    (hs : ∀ x, foldedSetIterable iter X.env x = pure x := by intro _; rfl) : WS X Θ (.For tg iter body [] pos) (M.sFor it g mb) := by
  delta WG WI WS WSs at hi hg hb ⊢
  exact (ps_for hp hc hi hg hb hs).up fun D σ H ρ σ' S st rp h => ⟨ρ, σ', S, st, rp, by
      have h' : PostS X.K Θ ρ H ((it σ' S).stm σ' fun p s => if M.gdOk p.2 s = true then M.forL p.2 (M.forF g mb) p.1 σ' s else .no) D := h
      cases hit : it σ' S with
      | no => rw [hit] at h'; exact h'.elim
      | exc a s => rw [hit] at h'; exact h'
      | ok p S1 =>
        rw [hit] at h'
        obtain ⟨xs, gd⟩ := p
        show Post X.K Θ _ ρ H (if M.gdOk gd S1 then M.R.ok (xs, gd) S1 else .no) _
        have h2 : PostS X.K Θ ρ H (if M.gdOk gd S1 = true then M.forL gd (M.forF g mb) xs σ' S1 else .no) D := h'
        by_cases hgd : M.gdOk gd S1 = true
        case neg => rw [if_neg hgd] at h2; exact h2.elim
        rw [if_pos hgd] at h2
        rw [if_pos hgd]
        intro ρ1 H1 J p1 l1 rp1 (itr : ItR X.K Θ ρ1 H1 J xs gd)
        exact for_W itr (st.mono p1 l1) rp1 hgd (PostS.weak h2 p1 l1)⟩
end
end L2
namespace L2
open PySem PySem.Spec PyProof.Rows
def SpM (K : PySem.W.Frag) (Θ : Tab) (n : Nat) (f : M.F) : Sp := fun vs H Q _ => ∃ ρ ds S, ds.length = n ∧ RelDs K ρ H ds vs ∧ RepS K Θ ρ S H ∧ Post K Θ (RelD K) ρ H (f ds S) Q
def Arity (m : M.AM) (n : Nat) : Prop := ∀ σ s xs s', m σ s = .ok xs s' → xs.length = n
theorem ar_nil : Arity M.aNil 0 := fun σ s xs s' h => by cases h; rfl
theorem ar_cons {a : M.EM} {r : M.AM} {n : Nat} (h : Arity r n) : Arity (M.aCons a r) (n + 1) := fun σ s xs s' e => by
  have e' : ((a σ s).bind fun x s => (r σ s).bind fun xs s => M.R.ok (x :: xs) s) = .ok xs s' := e
  cases ha : a σ s with
  | no => rw [ha] at e'; cases e'
  | exc a s => rw [ha] at e'; cases e'
  | ok d S1 =>
    rw [ha] at e'
    have e2 : ((r σ S1).bind fun xs s => M.R.ok (d :: xs) s) = .ok xs s' := e'
    cases hr : r σ S1 with
    | no => rw [hr] at e2; cases e2
    | exc a s => rw [hr] at e2; cases e2
    | ok ds S2 =>
      rw [hr] at e2
      cases e2
      rw [List.length_cons, h _ _ _ _ hr]
section
variable {X : Cx} {Θ : Tab} {pos p : Pos} {x : Str} {ps : List Str} {e : Expr} {es : List Expr} {f : M.F} {m : M.AM} {k kk n : Nat}
theorem w_me_call (h : Has X.prog X.w X.K X.mg X.base x k ps (SpM X.K Θ n f)) (hr : Room kk X.A) (hk : k ≤ kk) (hg : Gl X x) (ha : WA X Θ (e :: es) m) (ar : Arity m n) (hx : Passes CX0 X E0 := by exact pass0) (hdb : (x == ("__debug__" : Str)) = false := by decide)
    (he : notStar e = true := by rfl) (hpl : es.all notStar = true := by rfl) : WE X Θ (.Call (.Name x p) (e :: es) [] pos) (M.eCall f m) := by
  delta WA WE at ha ⊢
  exact (pe_callH h hr hk hg ha hx hdb (star_cons he) (star_any hpl)).up fun σ H Q ρ σ' S st rp h => ⟨ρ, σ', S, st, rp, by
      have h' : Post X.K Θ (RelD X.K) ρ H ((m σ' S).bind fun xs s => f xs s) Q := h
      cases hm : m σ' S with
      | no => rw [hm] at h'; exact h'.elim
      | exc a s => rw [hm] at h'; exact h'
      | ok ds S1 =>
        rw [hm] at h'
        intro ρ1 H1 vs p1 l1 rp1 r1
        rw [List.append_nil]
        exact ⟨ρ1, ds, S1, ar _ _ _ _ hm, r1, rp1, Post.weak h' p1 l1⟩⟩
end
theorem ren_ky {e : List Nat} : ∀ {n : Nat} {d : M.D}, M.kyD n (M.D.ren e d) = true → M.D.ren e d = d := by
  intro n
  induction n with
  | zero => intro d h; cases d <;> first | rfl | cases h
  | succ n ih =>
    intro d h
    cases d with
    | tup ds =>
      show M.D.tup (M.D.ren.all e ds) = _
      have h' : (M.D.ren.all e ds).all (M.kyD n) = true := h
      have : ∀ ds : List M.D, (M.D.ren.all e ds).all (M.kyD n) = true → M.D.ren.all e ds = ds := by
        intro ds
        induction ds with
        | nil => intro _; rfl
        | cons d ds ih2 =>
          intro h
          have h2 : (M.kyD n (M.D.ren e d) && (M.D.ren.all e ds).all (M.kyD n)) = true := h
          rw [Bool.and_eq_true] at h2
          show M.D.ren e d :: M.D.ren.all e ds = _
          rw [ih h2.1, ih2 h2.2]
      rw [this ds h']
    | _ => first | rfl | cases h
section
variable {K : PySem.W.Frag} {Θ : Tab} {ρ ρ' : List Addr} {H : Hp} {e : List Nat}
mutual
theorem RelD.unren (hρ : ∀ (i j : Nat) a, e[i]? = some j → ρ[j]? = some a → ρ'[i]? = some a) : ∀ {d : M.D} {v : V}, M.D.cl e.length d = true → RelD K ρ H (M.D.ren e d) v → RelD K ρ' H d v
  | .non, _, _, h => h
  | .bl _, _, _, h => h
  | .int _, _, _, h => h
  | .str _, _, _, h => h
  | .ty _, _, _, h => h
  | .ref i, _, c, ⟨a, h1, h2⟩ => by
    have hi : i < e.length := of_decide_eq_true c
    refine ⟨a, h1, hρ i (e.getD i i) a ?_ h2⟩
    rw [List.getD_eq_getElem?_getD, List.getElem?_eq_getElem hi]; rfl
  | .tup _, _, c, ⟨a, xs, h1, h2, h3⟩ => ⟨a, xs, h1, h2, RelDs.unren hρ c h3⟩
  | .ro _, _, c, ⟨a, xs, h1, h2, h3⟩ => ⟨a, xs, h1, h2, RelDs.unren hρ c h3⟩
theorem RelDs.unren (hρ : ∀ (i j : Nat) a, e[i]? = some j → ρ[j]? = some a → ρ'[i]? = some a) : ∀ {ds : List M.D} {xs : List V}, M.D.cl.all e.length ds = true → RelDs K ρ H (M.D.ren.all e ds) xs → RelDs K ρ' H ds xs
  | [], _, _, h => h
  | d :: ds, _, c, ⟨y, ys, h1, h2, h3⟩ => by
    have c' : (M.D.cl e.length d && M.D.cl.all e.length ds) = true := c
    rw [Bool.and_eq_true] at c'
    exact ⟨y, ys, h1, RelD.unren hρ c'.1 h2, RelDs.unren hρ c'.2 h3⟩
end
theorem ObR.unren (hρ : ∀ (i j : Nat) a, e[i]? = some j → ρ[j]? = some a → ρ'[i]? = some a) {a : Addr} {o : M.O} (c : M.O.cl e.length o = true) (h : ObR K Θ ρ H a (M.O.ren e o)) : ObR K Θ ρ' H a o := by
  cases o with
  | lst ds => obtain ⟨xs, h1, h2⟩ := h; exact ⟨xs, h1, RelDs.unren hρ c h2⟩
  | dct kvs =>
    obtain ⟨ks, h1, h2⟩ := h
    refine ⟨ks, h1, ?_⟩
    have c' : ∀ p ∈ kvs, (M.D.cl e.length p.1 && M.D.cl e.length p.2) = true := List.all_eq_true.mp c
    clear h1
    revert h2 c'
    clear c
    induction kvs generalizing ks with
    | nil => intro h2 c'; cases h2; exact .nil
    | cons p kvs ih =>
      intro h2 c'
      rw [List.map_cons] at h2
      cases h2 with
      | cons r1 r2 =>
        have c1 := c' p List.mem_cons_self
        rw [Bool.and_eq_true] at c1
        refine .cons ⟨?_, RelD.unren hρ c1.2 r1.2⟩ (ih _ r2 (fun q hq => c' q (List.mem_cons_of_mem _ hq)))
        have hk := r1.1
        revert hk
        cases p.1 <;> exact fun hk => hk
  | fdc kvs =>
    obtain ⟨o, ks, h1, h2⟩ := h
    refine ⟨o, ks, h1, ?_⟩
    have c' : ∀ p ∈ kvs, (M.D.cl e.length p.1 && M.D.cl e.length p.2) = true := List.all_eq_true.mp c
    clear h1
    revert h2 c'
    clear c
    induction kvs generalizing ks with
    | nil => intro h2 c'; cases h2; exact .nil
    | cons p kvs ih =>
      intro h2 c'
      rw [List.map_cons] at h2
      cases h2 with
      | cons r1 r2 =>
        have c1 := c' p List.mem_cons_self
        rw [Bool.and_eq_true] at c1
        refine .cons ⟨?_, RelD.unren hρ c1.2 r1.2⟩ (ih _ r2 (fun q hq => c' q (List.mem_cons_of_mem _ hq)))
        have hk := r1.1
        revert hk
        cases p.1 <;> exact fun hk => hk
  | dtt kvs =>
    obtain ⟨xs, h1, h2⟩ := h
    refine ⟨xs, h1, ?_⟩
    have c' : ∀ p ∈ kvs, (M.D.cl e.length p.1 && M.D.cl e.length p.2) = true := List.all_eq_true.mp c
    clear h1
    revert h2 c'
    clear c
    induction kvs generalizing xs with
    | nil => intro h2 c'; cases h2; exact .nil
    | cons p kvs ih =>
      intro h2 c'
      rw [List.map_cons] at h2
      cases h2 with
      | cons r1 r2 =>
        have c1 := c' p List.mem_cons_self
        rw [Bool.and_eq_true] at c1
        obtain ⟨a1, a2, a3, v, a4, a5⟩ := r1
        have e1 := ren_ky a2
        rw [e1] at a1 a2
        exact .cons ⟨a1, a2, RelD.unren hρ c1.1 a3, v, RelD.unren hρ c1.2 a4, a5⟩ (ih _ r2 (fun q hq => c' q (List.mem_cons_of_mem _ hq)))
  | ftt kvs =>
    obtain ⟨o, xs, h1, h2⟩ := h
    refine ⟨o, xs, h1, ?_⟩
    have c' : ∀ p ∈ kvs, (M.D.cl e.length p.1 && M.D.cl e.length p.2) = true := List.all_eq_true.mp c
    clear h1
    revert h2 c'
    clear c
    induction kvs generalizing xs with
    | nil => intro h2 c'; cases h2; exact .nil
    | cons p kvs ih =>
      intro h2 c'
      rw [List.map_cons] at h2
      cases h2 with
      | cons r1 r2 =>
        have c1 := c' p List.mem_cons_self
        rw [Bool.and_eq_true] at c1
        obtain ⟨a1, a2, a3, v, a4, a5⟩ := r1
        have e1 := ren_ky a2
        rw [e1] at a1 a2
        exact .cons ⟨a1, a2, RelD.unren hρ c1.1 a3, v, RelD.unren hρ c1.2 a4, a5⟩ (ih _ r2 (fun q hq => c' q (List.mem_cons_of_mem _ hq)))
  | ins cc fs =>
    obtain ⟨C, dx, gs, N, h1, h2, h3⟩ := h
    refine ⟨C, dx, gs, N, h1, h2, by rw [← h3.len]; simp, h3.nd, h3.within, fun i f d q1 q2 => ?_⟩
    obtain ⟨v, k1, k2⟩ := h3.get i f (M.D.ren e d) q1 (by rw [List.getElem?_map, q2]; rfl)
    refine ⟨v, k1, RelD.unren hρ ?_ k2⟩
    have := List.all_eq_true.mp c (some d) (List.mem_of_getElem? q2)
    exact this
theorem Post.gc {S S' S1 : M.S} {d : M.D} {Q : VK} (em : M.Emb S.length e S' S1) (cd : M.D.cl S'.length d = true) (rp : RepS K Θ ρ S H) (h : Post K Θ (RelD K) ρ H (.ok d S') Q) : Post K Θ (RelD K) ρ H (.ok (M.D.ren e d) S1) Q := by
  intro ρ1 H1 v p1 l1 rp1 r1
  have hlt : ∀ {i j : Nat}, e[i]? = some j → j < ρ1.length := fun {i j} q => by
    have hi : i < S'.length := by rw [← em.len]; exact (List.getElem?_eq_some_iff.mp q).1
    obtain ⟨j', q1, q2, _⟩ := em.obj i S'[i] (by simp [hi])
    rw [q] at q1; cases q1
    rw [rp1.len]; exact (List.getElem?_eq_some_iff.mp q2).1
  have hρ : ∀ (i j : Nat) a, e[i]? = some j → ρ1[j]? = some a → (e.map fun j => ρ1.getD j 0)[i]? = some a := fun i j a q1 q2 => by
    rw [List.getElem?_map, q1, Option.map_some, List.getD_eq_getElem?_getD, q2]; rfl
  refine h (e.map fun j => ρ1.getD j 0) H1 v ?_ l1 ⟨by rw [List.length_map, em.len], ?_, fun i o q => ?_⟩ (RelD.unren hρ (by rw [em.len]; exact cd) r1)
  · refine List.prefix_iff_getElem?.mpr fun i hi => ?_
    have hi' : i < S.length := rp.len ▸ hi
    exact hρ i i _ (em.old i hi') (pre_get p1 (List.getElem?_eq_getElem hi))
  · refine nodup_of fun i j x a b => ?_
    rw [List.getElem?_map] at a b
    cases ei : e[i]? with
    | none => rw [ei] at a; cases a
    | some k =>
      cases ej : e[j]? with
      | none => rw [ej] at b; cases b
      | some l =>
        rw [ei, Option.map_some, List.getD_eq_getElem?_getD, List.getElem?_eq_getElem (hlt ei)] at a
        rw [ej, Option.map_some, List.getD_eq_getElem?_getD, List.getElem?_eq_getElem (hlt ej)] at b
        have e1 : ρ1[k]'(hlt ei) = x := by simpa using a
        have e2 : ρ1[l]'(hlt ej) = x := by simpa using b
        have e3 := nodup_get rp1.nd (hlt ei) (hlt ej) (e1.trans e2.symm)
        subst e3
        exact nodup_at em.nd ei ej
  · obtain ⟨j, q1, q2, q3⟩ := em.obj i o q
    obtain ⟨a, q4, q5⟩ := rp1.obj j _ q2
    exact ⟨a, hρ i j a q1 q4, ObR.unren hρ (by rw [em.len]; exact q3) q5⟩
end
section
variable {K : PySem.W.Frag} {Θ : Tab} {ρ : List Addr} {H : Hp}
mutual
theorem RelD.cl : ∀ {d : M.D} {v : V}, RelD K ρ H d v → M.D.cl ρ.length d = true
  | .non, _, _ => rfl
  | .bl _, _, _ => rfl
  | .int _, _, _ => rfl
  | .str _, _, _ => rfl
  | .ty _, _, _ => rfl
  | .ref _, _, ⟨a, _, h2⟩ => decide_eq_true (List.getElem?_eq_some_iff.mp h2).1
  | .tup _, _, ⟨_, _, _, _, h⟩ => RelDs.cl h
  | .ro _, _, ⟨_, _, _, _, h⟩ => RelDs.cl h
theorem RelDs.cl : ∀ {ds : List M.D} {xs : List V}, RelDs K ρ H ds xs → M.D.cl.all ρ.length ds = true
  | [], _, _ => rfl
  | d :: ds, _, ⟨_, _, _, h1, h2⟩ => by
    show (M.D.cl ρ.length d && M.D.cl.all ρ.length ds) = true
    rw [RelD.cl h1, RelDs.cl h2]; rfl
end
theorem RepS.cl {S : M.S} (rp : RepS K Θ ρ S H) : M.clS S.length S = true := by
  refine List.all_eq_true.mpr fun o ho => ?_
  obtain ⟨i, hi, rfl⟩ := List.mem_iff_getElem.mp ho
  obtain ⟨a, h1, h2⟩ := rp.obj i S[i] (by simp [hi])
  rw [← rp.len]
  revert h2
  cases S[i] with
  | lst ds => exact fun ⟨xs, _, r⟩ => r.cl
  | dct kvs =>
    intro ⟨ks, _, r⟩
    refine List.all_eq_true.mpr fun p hp => ?_
    have : ∀ {kvs : List (M.D × M.D)} {ks : List (Key × V)}, Paired (fun (p : M.D × M.D) (q : Key × V) => KeyR p.1 q.1 ∧ RelD K ρ H p.2 q.2) kvs ks → p ∈ kvs → (M.D.cl ρ.length p.1 && M.D.cl ρ.length p.2) = true := by
      intro kvs ks r hp
      induction r with
      | nil => cases hp
      | cons r1 r2 ih =>
        rcases List.mem_cons.mp hp with rfl | hp
        · rw [r1.2.cl, Bool.and_true]
          have hk := r1.1
          revert hk
          cases p.1 <;> first | exact fun _ => rfl | exact fun hk => hk.elim
        · exact ih hp
    exact this r hp
  | fdc kvs =>
    intro ⟨_, ks, _, r⟩
    refine List.all_eq_true.mpr fun p hp => ?_
    have : ∀ {kvs : List (M.D × M.D)} {ks : List (Key × V)}, Paired (fun (p : M.D × M.D) (q : Key × V) => KeyR p.1 q.1 ∧ RelD K ρ H p.2 q.2) kvs ks → p ∈ kvs → (M.D.cl ρ.length p.1 && M.D.cl ρ.length p.2) = true := by
      intro kvs ks r hp
      induction r with
      | nil => cases hp
      | cons r1 r2 ih =>
        rcases List.mem_cons.mp hp with rfl | hp
        · rw [r1.2.cl, Bool.and_true]
          have hk := r1.1
          revert hk
          cases p.1 <;> first | exact fun _ => rfl | exact fun hk => hk.elim
        · exact ih hp
    exact this r hp
  | dtt kvs =>
    intro ⟨xs, _, r⟩
    refine List.all_eq_true.mpr fun p hp => ?_
    have : ∀ {kvs : List (M.D × M.D)} {xs : List (M.D × Addr × Value)}, Paired (TDr K ρ H) kvs xs → p ∈ kvs → (M.D.cl ρ.length p.1 && M.D.cl ρ.length p.2) = true := by
      intro kvs xs r hp
      induction r with
      | nil => cases hp
      | cons r1 r2 ih =>
        rcases List.mem_cons.mp hp with rfl | hp
        · obtain ⟨_, _, a3, v, a4, _⟩ := r1
          rw [a3.cl, a4.cl]; rfl
        · exact ih hp
    exact this r hp
  | ftt kvs =>
    intro ⟨o, xs, _, r⟩
    refine List.all_eq_true.mpr fun p hp => ?_
    have : ∀ {kvs : List (M.D × M.D)} {xs : List (M.D × Addr × Value)}, Paired (TDr K ρ H) kvs xs → p ∈ kvs → (M.D.cl ρ.length p.1 && M.D.cl ρ.length p.2) = true := by
      intro kvs xs r hp
      induction r with
      | nil => cases hp
      | cons r1 r2 ih =>
        rcases List.mem_cons.mp hp with rfl | hp
        · obtain ⟨_, _, a3, v, a4, _⟩ := r1
          rw [a3.cl, a4.cl]; rfl
        · exact ih hp
    exact this r hp
  | ins c fs =>
    intro ⟨C, dx, gs, N, _, _, r⟩
    refine List.all_eq_true.mpr fun od hod => ?_
    cases od with
    | none => rfl
    | some d =>
      obtain ⟨j, hj, ej⟩ := List.mem_iff_getElem.mp hod
      have hN : j < N.length := r.len ▸ hj
      obtain ⟨v, _, rv⟩ := r.get j N[j] d (by simp [hN]) (by rw [List.getElem?_eq_getElem hj, ej])
      exact rv.cl
end
section
variable {P : Program} {w : World} {K : PySem.W.Frag} {mg : Str → Option Value} {base : Heap} {Θ : Tab}
theorem start_rel {ρ : List Addr} {H : Hp} {ds : List M.D} {vs : List V} (r : RelDs K ρ H ds vs) (N : List Str) : RelSt K ρ H (ds.map some ++ List.replicate (N.length - ds.length) none) (start N vs) := by
  have hl := r.length
  refine ⟨by simp [start, hl], fun i d q => ?_⟩
  unfold start
  by_cases hi : i < ds.length
  · rw [List.getElem?_append_left (by simpa using hi), List.getElem?_map] at q
    cases e : ds[i]? with
    | none => rw [e] at q; cases q
    | some d' =>
      rw [e] at q
      cases q
      obtain ⟨v, e1, rv⟩ := r.get e
      refine ⟨v, ?_, rv⟩
      rw [List.getElem?_append_left (by simp; lia), List.getElem?_map, e1]; rfl
  · rw [List.getElem?_append_right (by simp; lia), List.getElem?_replicate] at q
    split at q <;> cases q
theorem fun_M {x qual : Str} {st : Stmt} {f : Addr} {fd : FuncData} {N ps : List Str} {k : Nat} {b : M.SM} {q : M.F} (F : Fun K x qual st f fd) (Sc : FnScope N ps (defScope st)) (rf : M.Refines ps.length (M.fn N.length b) q)
    (hbody : ∀ (cdv : Value) (A : Around) (outer : List Env) (s : Shared) (H : Hp) (E : XK), Room k (A.deeper (envOfC qual (defScope st) s.heap.objs.size f cdv)) →
      MSs (cxOf CX0 P w K mg base N qual (defScope st) f cdv A outer s H E).nox Θ (defBody st) b) : FnOk P w K mg base CX0 (k + 1) f fd ps (SpM K Θ ps.length q) := by
  refine F.ok (k := k) Sc (fun vs H Q E h => ?_) (fun cdv A outer s H vs Q E hr h => ?_)
  · obtain ⟨ρ, ds, S, hl, r, _⟩ := h
    rw [← r.length, hl]
  · obtain ⟨ρ, ds, S, hl, r, rp, h⟩ := h
    refine ⟨_, hbody cdv A outer s H E hr, ρ, _, S, start_rel r N, rp, ?_⟩
    rcases rf ds S hl rp.cl (rp.len ▸ r.cl) with e | ⟨d, S', S1, em, e1, e2, emb, cd⟩
    · rw [e] at h; exact h.elim
    · rw [e1] at h
      have h2 := Post.gc emb cd rp h
      have e3 : (b (ds.map some ++ List.replicate (N.length - ds.length) none) S).out = .ok (M.D.ren em d) S1 := e2
      show PostS K Θ ρ H (b (ds.map some ++ List.replicate (N.length - ds.length) none) S) _
      revert e3
      cases b (ds.map some ++ List.replicate (N.length - ds.length) none) S with
      | rt a s => intro e3; cases e3; exact h2
      | nx a s =>
        intro e3
        have e4 : M.R.ok M.D.non s = .ok (M.D.ren em d) S1 := e3
        injection e4 with e5 e6
        subst e6
        rw [← e5] at h2
        exact fun ρ1 H1 σ1 p1 l1 rp1 _ => h2 ρ1 H1 .non p1 l1 rp1 rfl
      | bk a s => intro e3; cases e3
      | ct a s => intro e3; cases e3
      | exc e a s => intro e3; cases e3
      | no => intro e3; cases e3
theorem w_fun_M {x qual : Str} {st : Stmt} {f : Addr} {fd : FuncData} {N ps : List Str} {k : Nat} {b : M.SM} {q : M.F} (F : Fun K x qual st f fd) (Sc : FnScope N ps (defScope st)) (rf : M.Refines ps.length (M.fn N.length b) q)
    (hbody : ∀ (cdv : Value) (A : Around) (outer : List Env) (s : Shared) (H : Hp) (E : XK), Room k (A.deeper (envOfC qual (defScope st) s.heap.objs.size f cdv)) →
      WSs (cxOf CX0 P w K mg base N qual (defScope st) f cdv A outer s H E).nox Θ (defBody st) b) : FnOk P w K mg base CX0 (k + 1) f fd ps (SpM K Θ ps.length q) := by with_unfolding_all exact fun_M (x := x) (qual := qual) (st := st) (f := f) (fd := fd) (N := N) (ps := ps) (k := k) (b := b) (q := q) F Sc rf hbody
end
end L2
namespace L2
open PySem PySem.Spec PyProof.Rows
section
variable {K : PySem.W.Frag} {Θ : Tab}
theorem ad_sub : Ad2 K Θ M.opSub uSub := by
  intro ρ H S x y X Y Q rp rx ry h
  cases x with
  | int i =>
    cases y with
    | int j => cases rx; cases ry; exact Post.here (b := V.int (i - j)) h rp rfl
    | _ => exact h.elim
  | _ => exact h.elim
theorem ad_div : Ad2 K Θ M.opDiv uDiv := by
  intro ρ H S x y X Y Q rp rx ry h
  cases x with
  | int i =>
    cases y with
    | int j =>
      cases rx; cases ry
      have h' : Post K Θ (RelD K) ρ H (if 0 < j ∧ j.natAbs < 1073741824 then M.R.ok (M.D.int (i / j)) S else .no) Q := h
      by_cases hc : 0 < j ∧ j.natAbs < 1073741824
      · rw [if_pos hc] at h'; exact ⟨⟨hc.1, by lia⟩, Post.here (b := V.int (i / j)) h' rp rfl⟩
      · rw [if_neg hc] at h'; exact h'.elim
    | _ => exact h.elim
  | _ => exact h.elim
theorem ad_mod : Ad2 K Θ M.opMod uMod := by
  intro ρ H S x y X Y Q rp rx ry h
  cases x with
  | int i =>
    cases y with
    | int j =>
      cases rx; cases ry
      have h' : Post K Θ (RelD K) ρ H (if 0 < j then M.R.ok (M.D.int (i % j)) S else .no) Q := h
      by_cases hc : 0 < j
      · rw [if_pos hc] at h'; exact ⟨hc, Post.here (b := V.int (i % j)) h' rp rfl⟩
      · rw [if_neg hc] at h'; exact h'.elim
    | _ => exact h.elim
  | _ => exact h.elim
theorem lst_at {ρ : List Addr} {S : M.S} {H : Hp} (rp : RepS K Θ ρ S H) {i : Nat} {a : Addr} (ha : ρ[i]? = some a) {xs : List M.D} (q : S[i]? = some (.lst xs)) : ∃ zs, H a = some (.lst zs) ∧ RelDs K ρ H xs zs := by
  obtain ⟨b, e1, zs, e2, r⟩ := rp.obj i _ q
  rw [ha] at e1; cases e1
  exact ⟨zs, e2, r⟩
theorem ad_add : Ad2 K Θ M.opAdd (fun x y H Q => uAdd x y H Q ∨ rCatT K x y H Q) := by
  intro ρ H S x y X Y Q rp rx ry h
  cases x with
  | int i =>
    cases y with
    | int j => cases rx; cases ry; exact .inl (Post.here (b := V.int (i + j)) h rp rfl)
    | _ => exact h.elim
  | str a =>
    cases y with
    | str b =>
      obtain ⟨rfl, oka⟩ := rx
      obtain ⟨rfl, okb⟩ := ry
      have h' : Post K Θ (RelD K) ρ H (if a.length + b.length ≤ M.SZ then M.R.ok (M.D.str (a ++ b)) S else .no) Q := h
      by_cases hc : a.length + b.length ≤ M.SZ
      · rw [if_pos hc] at h'
        refine .inl ⟨by rw [ofT_len, ofT_len, ← SZ_eq]; exact hc, ?_⟩
        rw [ofT_app]
        exact Post.here (b := V.str (ofT (a ++ b))) h' rp ⟨rfl, okT_app oka okb⟩
      · rw [if_neg hc] at h'; exact h'.elim
    | _ => exact h.elim
  | tup a =>
    cases y with
    | tup b =>
      obtain ⟨l, xs, rfl, hq, r⟩ := rx
      obtain ⟨l', ys, rfl, hq', r'⟩ := ry
      have h' : Post K Θ (RelD K) ρ H (if a ≠ [] ∧ a.length + b.length ≤ M.SZ then M.R.ok (M.D.tup (a ++ b)) S else .no) Q := h
      by_cases hc : a ≠ [] ∧ a.length + b.length ≤ M.SZ
      · rw [if_pos hc] at h'
        refine .inr ⟨l, l', xs, ys, rfl, rfl, hq, hq', fun z => hc.1 ?_, by rw [← r.length, ← r'.length, ← SZ_eq]; exact hc.2, fun hy => ?_, fun hy p hp => ?_⟩
        · subst z
          have := r.length
          exact List.length_eq_zero_iff.mp this
        · subst hy
          have hb : b = [] := List.length_eq_zero_iff.mp r'.length
          subst hb
          rw [List.append_nil] at h'
          exact Post.here h' rp ⟨l, xs, rfl, hq, r⟩
        · exact h' ρ _ _ (List.prefix_refl _) (Le.new hp _) (rp.aside hp _) ⟨p, _, rfl, SqT.of upd_same, (r.app r').mono (List.prefix_refl _) (Le.new hp _)⟩
      · rw [if_neg hc] at h'; exact h'.elim
    | _ => exact h.elim
  | ref i =>
    cases y with
    | ref j =>
      obtain ⟨a, rfl, ea⟩ := rx
      obtain ⟨b, rfl, eb⟩ := ry
      have h' : Post K Θ (RelD K) ρ H (match S[i]?, S[j]? with
        | some (.lst xs), some (.lst ys) => if xs.length + ys.length ≤ M.SZ then M.alloc (.lst (xs ++ ys)) S else .no
        | _, _ => .no) Q := h
      split at h'
      · rename_i xs ys q1 q2
        obtain ⟨zs, e1, r1⟩ := lst_at rp ea q1
        obtain ⟨ws, e2, r2⟩ := lst_at rp eb q2
        by_cases hc : xs.length + ys.length ≤ M.SZ
        · rw [if_pos hc] at h'
          exact .inl ⟨zs, ws, e1, e2, by rw [← r1.length, ← r2.length, ← SZ_eq]; exact hc, fun p hp => h'.alloc rp (r1.app r2) hp⟩
        · rw [if_neg hc] at h'; exact h'.elim
      · exact h'.elim
    | _ => exact h.elim
  | _ => exact h.elim
theorem ad_neg : Ad1 K Θ M.unNeg (rU fun i => .int (-i)) := by
  intro ρ H S x X Q rp rx h
  cases x with
  | int i => cases rx; exact ⟨i, rfl, Post.here (b := V.int (-i)) h rp rfl⟩
  | _ => exact h.elim
theorem ad_lt : AdC K Θ M.cLt uLt := by
  intro ρ H S x y X Y Q rp rx ry h
  cases x with
  | int i =>
    cases y with
    | int j => cases rx; cases ry; exact Post.here (b := decide (i < j)) h rp rfl
    | _ => exact h.elim
  | str a =>
    cases y with
    | str b =>
      obtain ⟨rfl, _⟩ := rx
      obtain ⟨rfl, _⟩ := ry
      show Q (.bl (decide ((ofT a).cps.toList < (ofT b).cps.toList))) H
      rw [ofT_list, ofT_list]
      exact Post.here (b := decide (a < b)) h rp rfl
    | _ => exact h.elim
  | _ => exact h.elim
theorem ad_le : AdC K Θ M.cLe uLe := by
  intro ρ H S x y X Y Q rp rx ry h
  cases x with
  | int i =>
    cases y with
    | int j => cases rx; cases ry; exact Post.here (b := decide (i ≤ j)) h rp rfl
    | _ => exact h.elim
  | str a =>
    cases y with
    | str b =>
      obtain ⟨rfl, _⟩ := rx
      obtain ⟨rfl, _⟩ := ry
      show Q (.bl (!decide ((ofT b).cps.toList < (ofT a).cps.toList))) H
      rw [ofT_list, ofT_list]
      exact Post.here (b := !decide (b < a)) h rp rfl
    | _ => exact h.elim
  | _ => exact h.elim
theorem atI_rel {ρ : List Addr} {H : Hp} {ds : List M.D} {xs : List V} {i : Int} {d : M.D} (r : RelDs K ρ H ds xs) (e : M.atI ds i = some d) : ∃ v, atI xs i = some v ∧ RelD K ρ H d v := by
  unfold M.atI at e
  cases q : M.ixN ds.length i with
  | none => rw [q] at e; cases e
  | some j =>
    rw [q] at e
    obtain ⟨v, e1, rv⟩ := r.get (i := j) e
    have q' : ixN xs.length i = some j := by rw [← r.length]; exact q
    exact ⟨v, by unfold atI; rw [q']; exact e1, rv⟩
end
end L2
namespace L2
open PySem PySem.Spec PyProof.Rows
section
variable {K : PySem.W.Frag} {Θ : Tab}
theorem w_mt_tru {X : Cx} {a : Expr} {ma : M.EM} (ha : WE X Θ a ma) (he : ∀ whole, isTrue a X.env whole = (do let v ← whole; standAt a.pos; holding [v] (truthy v)) := by intro _; rfl) : WT X Θ a (M.tTru ma) := by
  delta WE WT at ha ⊢
  exact (pt_truth ha he).up fun σ H Q ρ σ' S st rp h => ⟨ρ, σ', S, st, rp, Post.bind h fun ρ1 H1 x X1 S1 p1 l1 rp1 rx h1 => by
      cases x with
      | non => cases rx; exact ⟨false, rfl, Post.here (b := false) h1 rp1 rfl⟩
      | bl b => cases rx; exact ⟨b, rfl, Post.here (b := b) h1 rp1 rfl⟩
      | int i => cases rx; exact ⟨_, rfl, Post.here (b := (i != 0)) h1 rp1 (by show decide (i ≠ 0) = (i != 0); by_cases hi : i = 0 <;> simp [hi])⟩
      | str z =>
        obtain ⟨rfl, _⟩ := rx
        by_cases hz : z.length ≤ M.SZ
        · simp only [M.truth, if_pos hz] at h1
          refine ⟨_, ⟨by rw [ofT_len, ← SZ_eq]; exact hz, rfl⟩, Post.here (b := (((ofT z).length : Int) != 0)) h1 rp1 ?_⟩
          show (!z.isEmpty) = _
          rw [ofT_len]
          cases z <;> simp <;> lia
        · simp only [M.truth, if_neg hz] at h1; exact h1.elim
      | tup ds =>
        obtain ⟨l, xs, rfl, hq, r⟩ := rx
        refine ⟨_, .inr (.inl ⟨xs, hq, rfl⟩), Post.here (b := !xs.isEmpty) h1 rp1 ?_⟩
        show (!ds.isEmpty) = _
        have := r.length
        cases ds <;> cases xs <;> first | rfl | cases this
      | ro ds =>
        obtain ⟨l, xs, rfl, hq, r⟩ := rx
        refine ⟨_, .inl ⟨xs, hq.sq, rfl⟩, Post.here (b := !xs.isEmpty) h1 rp1 ?_⟩
        show (!ds.isEmpty) = _
        have := r.length
        cases ds <;> cases xs <;> first | rfl | cases this
      | ref p =>
        obtain ⟨a, rfl, ea⟩ := rx
        cases q : S1[p]? with
        | none => simp [M.truth, q] at h1; exact h1.elim
        | some o =>
          cases o with
          | lst xs =>
            simp only [M.truth, q] at h1
            obtain ⟨zs, e1, r⟩ := lst_at rp1 ea q
            refine ⟨_, .inl ⟨zs, SqL.of e1, rfl⟩, Post.here (b := !zs.isEmpty) h1 rp1 ?_⟩
            show (!xs.isEmpty) = _
            have := r.length
            cases xs <;> cases zs <;> first | rfl | cases this
          | dct kvs =>
            simp only [M.truth, q] at h1
            obtain ⟨b, e1, zs, e2, r⟩ := rp1.obj _ _ q
            rw [ea] at e1; cases e1
            refine ⟨_, .inr (.inr ⟨zs, e2, rfl⟩), Post.here (b := !zs.isEmpty) h1 rp1 ?_⟩
            cases r <;> rfl
          | fdc _ => simp [M.truth, q] at h1; exact h1.elim
          | dtt _ => simp [M.truth, q] at h1; exact h1.elim
          | ftt _ => simp [M.truth, q] at h1; exact h1.elim
          | ins c fs => simp [M.truth, q] at h1; exact h1.elim
      | ty n => exact h1.elim⟩
inductive TyM (K : PySem.W.Frag) (H : Hp) : V → String → Prop where
  | of {x : V} {A : String} (h : TyOf K H x (.type A)) : TyM K H x A
  | sqT {a : Addr} {xs : List V} (h : SqT K H a xs) : TyM K H (.ref a) "tuple"
  | sqL {a : Addr} {xs : List V} (h : SqL K H a xs) : TyM K H (.ref a) "list"
noncomputable def rIsK (K : PySem.W.Frag) : List V → Hp → VK → Prop := fun xs H Q => ∃ x n A b, xs = [x, .ty n] ∧ TyM K H x A ∧ PySem.W.kitOne K (.type A) (.type n) = some b ∧ Q (.bl b) H
theorem call_isK {X : Cx} : CallR X (.builtin "isinstance") (rIsK X.K) := by
  intro pins s σ H xs us Q I r h
  obtain ⟨x, n, A, b, rfl, ty, e, q⟩ := h
  obtain ⟨u, w', rfl, ru, rc⟩ := vals2 r
  cases rc
  cases ty with
  | of h => exact wpAny_with_toks (n := 1) I.tk (isinst_ok I ru h e fun tk hk => ⟨.bl b, H, I.tok tk hk, rfl, q⟩)
  | sqT h =>
    cases ru
    obtain ⟨its, _, ⟨o, h1, h2, _⟩, _⟩ := I.tuple h
    exact wpAny_with_toks (n := 1) I.tk (PySem.W.kia_one PySem.W.kitx_tuple I.kIn ⟨o, h1, h2⟩ e (fun z => nomatch z) fun tk hk => ⟨.bl b, H, I.tok tk hk, rfl, q⟩)
  | sqL h =>
    cases ru
    obtain ⟨its, _, ⟨o, n, h1, h2, _⟩, _⟩ := I.list h
    exact wpAny_with_toks (n := 1) I.tk (PySem.W.kia_one PySem.W.kitx_list I.kIn ⟨o, h1, h2⟩ e (fun z => nomatch z) fun tk hk => ⟨.bl b, H, I.tok tk hk, rfl, q⟩)
theorem kit_all (n : M.Kd) : PySem.W.kitOne K (.type "NoneType") (.type (kdName n)) = some false ∧ PySem.W.kitOne K (.type "bool") (.type (kdName n)) = some (match n with | .bool => true | .int => true | _ => false) ∧
    PySem.W.kitOne K (.type "int") (.type (kdName n)) = some (match n with | .int => true | _ => false) ∧ PySem.W.kitOne K (.type "str") (.type (kdName n)) = some (match n with | .str => true | _ => false) ∧
    PySem.W.kitOne K (.type "tuple") (.type (kdName n)) = some (match n with | .tuple => true | _ => false) ∧ PySem.W.kitOne K (.type "list") (.type (kdName n)) = some (match n with | .list => true | _ => false) ∧
    PySem.W.kitOne K (.type "dict") (.type (kdName n)) = some (match n with | .dict => true | _ => false) := by
  cases n <;> exact ⟨kit_ty (by decide +kernel), kit_ty (by decide +kernel), kit_ty (by decide +kernel), kit_ty (by decide +kernel), kit_ty (by decide +kernel), kit_ty (by decide +kernel), kit_ty (by decide +kernel)⟩
theorem ad_isi : AdN K Θ M.fIsi (rIsK K) := by
  intro ρ H S xs Xs Q rp rx h
  match xs, rx, h with
  | [x, .ty n], rx, h =>
    obtain ⟨v, _, rfl, rv, _, _, rfl, rfl, rfl⟩ := rx
    obtain ⟨k1, k2, k3, k4, k5, k6, k7⟩ := kit_all (K := K) n
    have fin : ∀ {A : String} {b : Bool}, M.isKind n x S = .ok b S → TyM K H v A → PySem.W.kitOne K (.type A) (.type (kdName n)) = some b → rIsK K [v, .ty (kdName n)] H Q := fun {A b} e ty k => by
      have h' : Post K Θ (RelD K) ρ H ((M.isKind n x S).bind fun b s => .ok (.bl b) s) Q := h
      rw [e] at h'
      exact ⟨v, kdName n, A, b, rfl, ty, k, Post.here (b := V.bl b) h' rp rfl⟩
    cases x with
    | non => cases rv; exact fin rfl (.of .non) k1
    | bl b => cases rv; exact fin rfl (.of (.bl b)) k2
    | int i => cases rv; exact fin rfl (.of (.int i)) k3
    | str z => obtain ⟨rfl, _⟩ := rv; exact fin rfl (.of (.str _)) k4
    | tup ds => obtain ⟨l, ys, rfl, hq, r⟩ := rv; exact fin rfl (.sqT hq) k5
    | ro ds => obtain ⟨l, ys, rfl, hq, r⟩ := rv; exact fin rfl (.sqL hq.sq) k6
    | ty m => exact h.elim
    | ref p =>
      obtain ⟨a, rfl, ea⟩ := rv
      cases q : S[p]? with
      | none => simp [M.fIsi, M.isKind, q] at h; exact h.elim
      | some o =>
        cases o with
        | lst xs =>
          obtain ⟨zs, e1, r⟩ := lst_at rp ea q
          refine fin ?_ (.sqL (SqL.of e1)) k6
          simp only [M.isKind, q] <;> (cases n <;> rfl)
        | dct kvs =>
          obtain ⟨b, e1, zs, e2, r⟩ := rp.obj _ _ q
          rw [ea] at e1; cases e1
          refine fin ?_ (.of (.dK e2)) k7
          simp only [M.isKind, q] <;> (cases n <;> rfl)
        | fdc _ => simp [M.fIsi, M.isKind, q] at h; exact h.elim
        | dtt _ => simp [M.fIsi, M.isKind, q] at h; exact h.elim
        | ftt _ => simp [M.fIsi, M.isKind, q] at h; exact h.elim
        | ins c fs => simp [M.fIsi, M.isKind, q] at h; exact h.elim
  | [_, .non], _, h => exact h.elim
  | [_, .bl _], _, h => exact h.elim
  | [_, .int _], _, h => exact h.elim
  | [_, .str _], _, h => exact h.elim
  | [_, .tup _], _, h => exact h.elim
  | [_, .ro _], _, h => exact h.elim
  | [_, .ref _], _, h => exact h.elim
  | [], _, h => exact h.elim
  | [_], _, h => exact h.elim
  | _ :: b :: _ :: _, _, h => cases b <;> exact h.elim
def ofP : M.P → PyData
  | .non => .none
  | .bl b => .bool b
  | .int i => .int i
  | .str x => .str (ofT x)
  | .tup ps => .tuple (all ps)
  | .lst ps => .list (all ps)
where all : List M.P → List PyData
  | [] => []
  | p :: ps => ofP p :: all ps
theorem beq_ofT (x y : M.T) : (ofT x == ofT y) = (x == y) := by
  by_cases h : x = y
  · subst h; simp
  · rw [beq_eq_false_iff_ne.mpr h, beq_eq_false_iff_ne.mpr fun e => h (ofT_inj e)]
mutual
theorem eqv_ofP : ∀ p q : M.P, PyData.eqv (ofP p) (ofP q) = M.P.eqv p q
  | .non, .non => rfl
  | .non, .bl _ => rfl
  | .non, .int _ => rfl
  | .non, .str _ => rfl
  | .non, .tup _ => rfl
  | .non, .lst _ => rfl
  | .bl _, .non => rfl
  | .bl _, .bl _ => rfl
  | .bl _, .int _ => rfl
  | .bl _, .str _ => rfl
  | .bl _, .tup _ => rfl
  | .bl _, .lst _ => rfl
  | .int _, .non => rfl
  | .int _, .bl _ => rfl
  | .int _, .int _ => rfl
  | .int _, .str _ => rfl
  | .int _, .tup _ => rfl
  | .int _, .lst _ => rfl
  | .str _, .non => rfl
  | .str _, .bl _ => rfl
  | .str _, .int _ => rfl
  | .str x, .str y => beq_ofT x y
  | .str _, .tup _ => rfl
  | .str _, .lst _ => rfl
  | .tup _, .non => rfl
  | .tup _, .bl _ => rfl
  | .tup _, .int _ => rfl
  | .tup _, .str _ => rfl
  | .tup ps, .tup qs => eqvs_ofP ps qs
  | .tup _, .lst _ => rfl
  | .lst _, .non => rfl
  | .lst _, .bl _ => rfl
  | .lst _, .int _ => rfl
  | .lst _, .str _ => rfl
  | .lst _, .tup _ => rfl
  | .lst ps, .lst qs => eqvs_ofP ps qs
theorem eqvs_ofP : ∀ ps qs : List M.P, PyData.eqvAll (ofP.all ps) (ofP.all qs) = M.P.eqvs ps qs
  | [], [] => rfl
  | [], _ :: _ => rfl
  | _ :: _, [] => rfl
  | p :: ps, q :: qs => by
    show (PyData.eqv (ofP p) (ofP q) && PyData.eqvAll (ofP.all ps) (ofP.all qs)) = (M.P.eqv p q && M.P.eqvs ps qs)
    rw [eqv_ofP p q, eqvs_ofP ps qs]
end
mutual
theorem dep_ofP : ∀ p : M.P, PyData.depth (ofP p) = M.P.dep p
  | .non => rfl
  | .bl _ => rfl
  | .int _ => rfl
  | .str _ => rfl
  | .tup ps => by show PyData.depthAll (ofP.all ps) + 1 = M.P.deps ps + 1; rw [deps_ofP ps]
  | .lst ps => by show PyData.depthAll (ofP.all ps) + 1 = M.P.deps ps + 1; rw [deps_ofP ps]
theorem deps_ofP : ∀ ps : List M.P, PyData.depthAll (ofP.all ps) = M.P.deps ps
  | [] => rfl
  | p :: ps => by show max (PyData.depth (ofP p)) (PyData.depthAll (ofP.all ps)) = max (M.P.dep p) (M.P.deps ps); rw [dep_ofP p, deps_ofP ps]
end
section
variable {ρ : List Addr} {H : Hp}
mutual
theorem dat_g {g : Nat → Option M.P} (hg : ∀ i p v, g i = some p → RelD K ρ H (.ref i) v → DatIs K H v (ofP p) ∧ (ofP p).canLay0 = true) : ∀ {d : M.D} {p : M.P} {v : V}, M.toPg g d = some p → RelD K ρ H d v → DatIs K H v (ofP p) ∧ (ofP p).canLay0 = true
  | .non, _, _, e, r => by cases e; cases r; exact ⟨.non, rfl⟩
  | .bl _, _, _, e, r => by cases e; cases r; exact ⟨.bl _, rfl⟩
  | .int _, _, _, e, r => by cases e; cases r; exact ⟨.int _, rfl⟩
  | .str x, _, _, e, r => by
    cases e
    obtain ⟨rfl, ok⟩ := r
    refine ⟨.str _, ?_⟩
    show PyData.strOk (ofT x) = true
    unfold PyData.strOk ofT
    have ok' : x.all (fun c => decide (c < 1114112)) = true := ok
    simpa using ok'
  | .tup ds, _, _, e, r => by
    obtain ⟨l, xs, rfl, hq, rr⟩ := r
    have e' : (M.toPg.all g ds).map M.P.tup = some _ := e
    cases q : M.toPg.all g ds with
    | none => rw [q] at e'; cases e'
    | some ps =>
      rw [q] at e'
      cases e'
      obtain ⟨h1, h2⟩ := dats_g hg q rr
      exact ⟨.tup hq h1, h2⟩
  | .ro ds, _, _, e, r => by
    obtain ⟨l, xs, rfl, hq, rr⟩ := r
    have e' : (M.toPg.all g ds).map M.P.lst = some _ := e
    cases q : M.toPg.all g ds with
    | none => rw [q] at e'; cases e'
    | some ps =>
      rw [q] at e'
      cases e'
      obtain ⟨h1, h2⟩ := dats_g hg q rr
      exact ⟨.lst hq.sq h1, h2⟩
  | .ref i, _, _, e, r => hg i _ _ e r
  | .ty _, _, _, e, _ => by cases e
theorem dats_g {g : Nat → Option M.P} (hg : ∀ i p v, g i = some p → RelD K ρ H (.ref i) v → DatIs K H v (ofP p) ∧ (ofP p).canLay0 = true) : ∀ {ds : List M.D} {ps : List M.P} {xs : List V}, M.toPg.all g ds = some ps → RelDs K ρ H ds xs → DatAll K H xs (ofP.all ps) ∧ PyData.canLayAll0 (ofP.all ps) = true
  | [], _, _, e, r => by cases e; cases r; exact ⟨.nil, rfl⟩
  | d :: ds, _, _, e, r => by
    obtain ⟨y, ys, rfl, r1, r2⟩ := r
    have e' : (match M.toPg g d, M.toPg.all g ds with | some p, some ps => some (p :: ps) | _, _ => none) = some _ := e
    cases q1 : M.toPg g d with
    | none => rw [q1] at e'; cases e'
    | some p =>
      cases q2 : M.toPg.all g ds with
      | none => rw [q1, q2] at e'; cases e'
      | some ps =>
        rw [q1, q2] at e'
        cases e'
        obtain ⟨h1, h2⟩ := dat_g hg q1 r1
        obtain ⟨h3, h4⟩ := dats_g hg q2 r2
        refine ⟨.cons h1 h3, ?_⟩
        show (PyData.canLay0 (ofP p) && PyData.canLayAll0 (ofP.all ps)) = true
        rw [h2, h4]; rfl
end
theorem dat_of {S : M.S} (rp : RepS K Θ ρ S H) : ∀ (n : Nat) {d : M.D} {p : M.P} {v : V}, M.toP n S d = some p → RelD K ρ H d v → DatIs K H v (ofP p) ∧ (ofP p).canLay0 = true
  | 0, _, _, _, e, r => dat_g (fun i p v e _ => by cases e) e r
  | n + 1, _, _, _, e, r => dat_g (fun i p v e r => by
      obtain ⟨a, rfl, ea⟩ := r
      have e' : (match M.lstAt S i with | some xs => (M.toPg.all (fun j => M.toP n S (.ref j)) xs).map M.P.lst | none => none) = some p := e
      cases q : S[i]? with
      | none => simp [M.lstAt, q] at e'
      | some o =>
        cases o with
        | lst xs =>
          simp only [M.lstAt, q] at e'
          obtain ⟨zs, e1, rr⟩ := lst_at rp ea q
          cases q2 : M.toPg.all (fun j => M.toP n S (.ref j)) xs with
          | none => rw [q2] at e'; cases e'
          | some ps =>
            rw [q2] at e'
            cases e'
            obtain ⟨h1, h2⟩ := dats_g (fun j p v e r => dat_of rp n e r) q2 rr
            exact ⟨.lst (SqL.of e1) h1, h2⟩
        | dct kvs => simp [M.lstAt, q] at e'
        | fdc _ => simp [M.lstAt, q] at e'
        | dtt _ => simp [M.lstAt, q] at e'
        | ftt _ => simp [M.lstAt, q] at e'
        | ins c fs => simp [M.lstAt, q] at e') e r
end
abbrev DR (K : PySem.W.Frag) (ρ : List Addr) (H : Hp) : List (M.D × M.D) → List (Key × V) → Prop := Paired fun p q => KeyR p.1 q.1 ∧ RelD K ρ H p.2 q.2
theorem keyR_inj {d e : M.D} {a b : Key} (ha : KeyR d a) (hb : KeyR e b) : (a = b) = (d = e) := by
  cases d with
  | int i =>
    cases ha
    cases e with
    | int j => cases hb; exact propext ⟨fun z => by cases z; rfl, fun z => by cases z; rfl⟩
    | str y => obtain ⟨rfl, _⟩ := hb; exact propext ⟨fun z => (nomatch z), fun z => (nomatch z)⟩
    | _ => exact hb.elim
  | str x =>
    obtain ⟨rfl, _⟩ := ha
    cases e with
    | int j => cases hb; exact propext ⟨fun z => (nomatch z), fun z => (nomatch z)⟩
    | str y => obtain ⟨rfl, _⟩ := hb; exact propext ⟨fun z => by rw [ofT_inj (Sum.inr.inj z)], fun z => by cases z; rfl⟩
    | _ => exact hb.elim
  | _ => exact ha.elim
theorem keyR_of {ρ : List Addr} {H : Hp} {d : M.D} {v : V} (h : M.keyOk d = true) (r : RelD K ρ H d v) : ∃ k, KeyR d k ∧ v = kV k := by
  cases d with
  | int i => cases r; exact ⟨.inl i, rfl, rfl⟩
  | str x => obtain ⟨rfl, ok⟩ := r; exact ⟨.inr (ofT x), ⟨rfl, ok⟩, rfl⟩
  | _ => cases h
section
variable {ρ : List Addr} {H : Hp} {kvs : List (M.D × M.D)} {ks : List (Key × V)} {d : M.D} {k : Key}
theorem DR.val (r : DR K ρ H kvs ks) (hk : KeyR d k) : match M.dGet d kvs with | some e => ∃ v, valV ks k = some v ∧ RelD K ρ H e v | none => valV ks k = none := by
  induction r with
  | nil => exact rfl
  | @cons p q ps qs h t ih =>
    have e := keyR_inj h.1 hk
    by_cases hd : p.1 = d
    · have hq : q.1 = k := e.mpr hd
      rw [valV_pos hq, M.dGet, List.lookup_cons, beq_iff_eq.mpr hd.symm]
      exact ⟨_, rfl, h.2⟩
    · have hq : ¬ q.1 = k := fun z => hd (e.mp z)
      rw [valV_neg hq, M.dGet, List.lookup_cons, beq_eq_false_iff_ne.mpr (Ne.symm hd)]
      exact ih
theorem DR.any (r : DR K ρ H kvs ks) (hk : KeyR d k) : (ks.any fun kv => decide (kv.1 = k)) = kvs.any fun kv => decide (kv.1 = d) := by
  induction r with
  | nil => rfl
  | @cons p q ps qs h t ih =>
    rw [List.any_cons, List.any_cons, ih]
    congr 1
    exact decide_eq_decide.mpr (keyR_inj h.1 hk ▸ Iff.rfl)
theorem DR.put (r : DR K ρ H kvs ks) (hk : KeyR d k) {e : M.D} {v : V} (rv : RelD K ρ H e v) : DR K ρ H (M.dPut d e kvs) (putK ks k v) := by
  unfold M.dPut putK
  rw [r.any hk]
  by_cases ha : (kvs.any fun kv => decide (kv.1 = d)) = true
  · rw [if_pos ha, if_pos ha]
    clear ha
    induction r with
    | nil => exact .nil
    | @cons p q ps qs h t ih =>
      rw [List.map_cons, List.map_cons]
      refine .cons ?_ ih
      have eq := keyR_inj h.1 hk
      by_cases hd : p.1 = d
      · rw [if_pos hd, if_pos (eq.mpr hd)]; exact ⟨h.1, rv⟩
      · rw [if_neg hd, if_neg fun z => hd (eq.mp z)]; exact h
  · rw [if_neg ha, if_neg ha]
    exact Paired.snoc r ⟨hk, rv⟩
end
theorem dct_at {ρ : List Addr} {S : M.S} {H : Hp} (rp : RepS K Θ ρ S H) {i : Nat} {a : Addr} (ha : ρ[i]? = some a) {kvs : List (M.D × M.D)} (q : S[i]? = some (.dct kvs)) : ∃ ks, H a = some (.dK ks) ∧ DR K ρ H kvs ks := by
  obtain ⟨b, e1, zs, e2, r⟩ := rp.obj i _ q
  rw [ha] at e1; cases e1
  exact ⟨zs, e2, r⟩
theorem fdc_at {ρ : List Addr} {S : M.S} {H : Hp} (rp : RepS K Θ ρ S H) {i : Nat} {a : Addr} (ha : ρ[i]? = some a) {kvs : List (M.D × M.D)} (q : S[i]? = some (.fdc kvs)) : ∃ o ks, H a = some (.frz o (.dK ks)) ∧ DR K ρ H kvs ks := by
  obtain ⟨b, e1, o, zs, e2, r⟩ := rp.obj i _ q
  rw [ha] at e1; cases e1
  exact ⟨o, zs, e2, r⟩
inductive HitsV (K : PySem.W.Frag) (H : Hp) (kb : List (Key × V)) : List (Key × V) → Bool → Prop where
  | nil : HitsV K H kb [] true
  | miss {k : Key} {v : V} {r : List (Key × V)} (h : valV kb k = none) : HitsV K H kb ((k, v) :: r) false
  | hit {k : Key} {v y : V} {r : List (Key × V)} {d e : PyData} {b : Bool} (h : valV kb k = some y) (hd : DatIs K H v d) (he : DatIs K H y e) (sd : SeqAt.shaped d = true) (se : SeqAt.shaped e = true) (t : HitsV K H kb r b) : HitsV K H kb ((k, v) :: r) (PyData.eqv d e && b)
def rDEq (neg : Bool) (K : PySem.W.Frag) : R2 := fun x y H Q => ∃ a b ka kb r, x = .ref a ∧ y = .ref b ∧ H a = some (.dK ka) ∧ H b = some (.dK kb) ∧ (ka.length = kb.length → HitsV K H kb ka r) ∧ Q (.bl (if neg then !(ka.length == kb.length && r) else (ka.length == kb.length && r))) H
theorem hits_of {X : Cx} {pins : List (Addr × Obj)} {σ : St} {H : Hp} {s : Shared} {A : Around} (I : Inv X pins σ H s) (hu : A.units + 64 < cLine) {kb : List (Key × V)} {vb : List (Key × Value)} (rb : KV kb vb) : ∀ {ka : List (Key × V)} {va : List (Key × Value)} {r : Bool}, KV ka va → HitsV X.K H kb ka r → PySem.W.KeqHits A s vb va r
  | _, _, _, ra, .nil => by cases ra; exact .nil
  | _, _, _, ra, .miss h => by
    cases ra with
    | @cons p q ps qs h1 t =>
      obtain ⟨k, v⟩ := q
      have hk : _ = k := h1.1
      have hv := rb.val k
      rw [← hk, h] at hv
      refine .miss ?_
      rw [← hk]
      cases q2 : valueAt vb _ with
      | none => rfl
      | some w => rw [q2] at hv; exact hv.elim
  | _, _, _, ra, .hit h hd he sd se t => by
    cases ra with
    | @cons p q ps qs h1 t1 =>
      obtain ⟨k, v⟩ := q
      have hk : _ = k := h1.1
      have hv := rb.val k
      rw [← hk, h] at hv
      cases q2 : valueAt vb k with
      | none => rw [hk, q2] at hv; exact hv.elim
      | some w =>
        rw [hk, q2] at hv
        obtain ⟨as, r1⟩ := hd.reads I h1.2
        obtain ⟨bs, r2⟩ := he.reads I hv
        exact .hit q2 (SeqAt.eqAt_reads _ _ A s _ _ as bs r1 r2 (SeqAt.canLay_of_shaped sd) (SeqAt.canLay_of_shaped se) (SeqAt.room_of_shaped sd hu)) (hits_of I hu rb t1 t)
theorem op_dEq {X : Cx} {k : Nat} (hr : Room k X.A) : OpR X (compareOp .Eq) (rDEq false X.K) := by
  intro pins s σ H x y v u Q I rx ry h
  obtain ⟨a, b, ka, kb, r, rfl, rfl, ha, hb, hh, q⟩ := h
  cases rx; cases ry
  obtain ⟨za, la, va, ra, da⟩ := dk_of I.hok ha
  obtain ⟨zb, lb, vb, rb, db⟩ := dk_of I.hok hb
  refine PySem.W.keq_eq la lb da db hr.units0 (fun e => hits_of I (by show X.A.units + 1 + 64 < _; have := hr.un; lia) rb ra (hh (by rw [ra.length, rb.length]; exact e))) ⟨.bl _, H, I, rfl, ?_⟩
  rw [← ra.length, ← rb.length]
  exact q
theorem op_dNe {X : Cx} {k : Nat} (hr : Room k X.A) : OpR X (compareOp .NotEq) (rDEq true X.K) := by
  intro pins s σ H x y v u Q I rx ry h
  obtain ⟨a, b, ka, kb, r, rfl, rfl, ha, hb, hh, q⟩ := h
  cases rx; cases ry
  obtain ⟨za, la, va, ra, da⟩ := dk_of I.hok ha
  obtain ⟨zb, lb, vb, rb, db⟩ := dk_of I.hok hb
  refine PySem.W.keq_ne la lb da db hr.units0 (fun e => hits_of I (by show X.A.units + 1 + 64 < _; have := hr.un; lia) rb ra (hh (by rw [ra.length, rb.length]; exact e))) ⟨.bl _, H, I, rfl, ?_⟩
  rw [← ra.length, ← rb.length]
  exact q
theorem hits_dEq {ρ : List Addr} {H : Hp} {S : M.S} (rp : RepS K Θ ρ S H) {ws : List (M.D × M.D)} {kb : List (Key × V)} (rb : DR K ρ H ws kb) : ∀ {ks : List (M.D × M.D)} {ka : List (Key × V)} {b : Bool}, DR K ρ H ks ka → M.dEq S ws ks = some b → HitsV K H kb ka b
  | _, _, _, .nil, e => by cases e; exact .nil
  | (k, v) :: ks, (kk, vv) :: ka, b, .cons h t, e => by
    have hv := DR.val rb h.1
    unfold M.dEq at e
    cases q : M.dGet k ws with
    | none =>
      rw [q] at e hv
      cases e
      exact .miss hv
    | some w =>
      rw [q] at e hv
      obtain ⟨y, hy, ry⟩ := hv
      dsimp only at e
      cases q1 : M.toP 8 S v with
      | none => rw [q1] at e; cases e
      | some p1 =>
        cases q2 : M.toP 8 S w with
        | none => rw [q1, q2] at e; cases e
        | some p2 =>
          cases q3 : M.dEq S ws ks with
          | none => rw [q1, q2, q3] at e; cases e
          | some b' =>
            rw [q1, q2, q3] at e
            dsimp only at e
            by_cases hc : M.P.dep p1 ≤ 64 ∧ M.P.dep p2 ≤ 64
            · rw [if_pos hc] at e
              cases e
              obtain ⟨d1, c1⟩ := dat_of rp _ q1 h.2
              obtain ⟨d2, c2⟩ := dat_of rp _ q2 ry
              rw [← eqv_ofP]
              refine .hit hy d1 d2 ?_ ?_ (hits_dEq rp rb t q3)
              · unfold SeqAt.shaped; rw [c1, Bool.true_and, dep_ofP]; exact decide_eq_true hc.1
              · unfold SeqAt.shaped; rw [c2, Bool.true_and, dep_ofP]; exact decide_eq_true hc.2
            · rw [if_neg hc] at e; cases e
theorem eqDct_is {ρ : List Addr} {H : Hp} {S : M.S} {x y : M.D} {X1 Y : V} {Q' : Bool → Hp → Prop} (rp : RepS K Θ ρ S H) (rx : RelD K ρ H x X1) (ry : RelD K ρ H y Y) (h : Post K Θ rB ρ H (M.eqDct x y S) Q') :
    ∃ a b ka kb r, X1 = .ref a ∧ Y = .ref b ∧ H a = some (.dK ka) ∧ H b = some (.dK kb) ∧ (ka.length = kb.length → HitsV K H kb ka r) ∧ Q' (ka.length == kb.length && r) H := by
  unfold M.eqDct at h
  split at h
  · rename_i i j
    split at h
    · rename_i ks ws e1 e2
      obtain ⟨a, rfl, ha⟩ := rx
      obtain ⟨b, rfl, hb⟩ := ry
      obtain ⟨ka, h1, r1⟩ := dct_at rp ha e1
      obtain ⟨kb, h2, r2⟩ := dct_at rp hb e2
      have l1 := Paired.length r1
      have l2 := Paired.length r2
      split at h
      · rename_i hl
        split at h
        · rename_i bb q
          refine ⟨a, b, ka, kb, bb, rfl, rfl, h1, h2, fun _ => hits_dEq rp r2 r1 q, ?_⟩
          rw [show (ka.length == kb.length) = true by rw [beq_iff_eq]; lia, Bool.true_and]
          exact Post.here (b := bb) h rp rfl
        · exact h.elim
      · rename_i hl
        refine ⟨a, b, ka, kb, false, rfl, rfl, h1, h2, fun e => absurd (by lia) hl, ?_⟩
        rw [Bool.and_false]
        exact Post.here (b := false) h rp rfl
    · exact h.elim
  · exact h.elim
def rEqM (K : PySem.W.Frag) (neg : Bool) : R2 := fun x y H Q => (scal x y = true ∧ Q (.bl (if neg then !decide (x = y) else decide (x = y))) H) ∨ rEqD K neg x y H Q ∨ rDEq neg K x y H Q
theorem op_eqM {X : Cx} {k : Nat} (hr : Room k X.A) : OpR X (compareOp .Eq) (rEqM X.K false) := by
  intro pins s σ H x y v u Q I rx ry h
  rcases h with h | h | h
  · exact op_eq pins s σ H x y v u Q I rx ry h
  · exact op_eqD hr pins s σ H x y v u Q I rx ry h
  · exact op_dEq hr pins s σ H x y v u Q I rx ry h
theorem op_neM {X : Cx} {k : Nat} (hr : Room k X.A) : OpR X (compareOp .NotEq) (rEqM X.K true) := by
  intro pins s σ H x y v u Q I rx ry h
  rcases h with h | h | h
  · exact op_ne pins s σ H x y v u Q I rx ry h
  · exact op_neD hr pins s σ H x y v u Q I rx ry h
  · exact op_dNe hr pins s σ H x y v u Q I rx ry h
theorem eq_core {ρ : List Addr} {H : Hp} {S : M.S} {x y : M.D} {X1 Y : V} {Q' : Bool → Hp → Prop} (rp : RepS K Θ ρ S H) (rx : RelD K ρ H x X1) (ry : RelD K ρ H y Y) (h : Post K Θ rB ρ H (M.eqD x y S) Q') :
    (scal X1 Y = true ∧ Q' (decide (X1 = Y)) H) ∨ (∃ d e, DatIs K H X1 d ∧ DatIs K H Y e ∧ SeqAt.shaped d = true ∧ SeqAt.shaped e = true ∧ Q' (PyData.eqv d e) H) ∨ ∃ a b ka kb r, X1 = .ref a ∧ Y = .ref b ∧ H a = some (.dK ka) ∧ H b = some (.dK kb) ∧ (ka.length = kb.length → HitsV K H kb ka r) ∧ Q' (ka.length == kb.length && r) H := by
  have gen : ∀ {p q : M.P}, M.toP M.DEEP S x = some p → M.toP M.DEEP S y = some q → M.P.dep p ≤ 64 ∧ M.P.dep q ≤ 64 → Q' (M.P.eqv p q) H → ∃ d e, DatIs K H X1 d ∧ DatIs K H Y e ∧ SeqAt.shaped d = true ∧ SeqAt.shaped e = true ∧ Q' (PyData.eqv d e) H := fun {p q} e1 e2 hd hq => by
    obtain ⟨d1, c1⟩ := dat_of rp _ e1 rx
    obtain ⟨d2, c2⟩ := dat_of rp _ e2 ry
    refine ⟨_, _, d1, d2, ?_, ?_, by rw [eqv_ofP]; exact hq⟩
    · unfold SeqAt.shaped; rw [c1, Bool.true_and, dep_ofP]; exact decide_eq_true hd.1
    · unfold SeqAt.shaped; rw [c2, Bool.true_and, dep_ofP]; exact decide_eq_true hd.2
  have rest : Post K Θ rB ρ H (match M.toP M.DEEP S x, M.toP M.DEEP S y with
      | some p, some q => if M.P.dep p ≤ 64 ∧ M.P.dep q ≤ 64 then M.R.ok (M.P.eqv p q) S else .no
      | _, _ => M.eqDct x y S) Q' → (∃ d e, DatIs K H X1 d ∧ DatIs K H Y e ∧ SeqAt.shaped d = true ∧ SeqAt.shaped e = true ∧ Q' (PyData.eqv d e) H) ∨ ∃ a b ka kb r, X1 = .ref a ∧ Y = .ref b ∧ H a = some (.dK ka) ∧ H b = some (.dK kb) ∧ (ka.length = kb.length → HitsV K H kb ka r) ∧ Q' (ka.length == kb.length && r) H := fun h' => by
    cases e1 : M.toP M.DEEP S x with
    | none => rw [e1] at h'; exact .inr (eqDct_is rp rx ry h')
    | some p =>
      cases e2 : M.toP M.DEEP S y with
      | none => rw [e1, e2] at h'; exact .inr (eqDct_is rp rx ry h')
      | some q =>
        rw [e1, e2] at h'
        dsimp only at h'
        by_cases hc : M.P.dep p ≤ 64 ∧ M.P.dep q ≤ 64
        · rw [if_pos hc] at h'; exact .inl <| gen e1 e2 hc (Post.here (b := M.P.eqv p q) h' rp rfl)
        · rw [if_neg hc] at h'; exact h'.elim
  have sc : ∀ {b : Bool}, scal X1 Y = true → decide (X1 = Y) = b → M.eqD x y S = .ok b S → (scal X1 Y = true ∧ Q' (decide (X1 = Y)) H) := fun {b} h1 h2 h3 => by
    rw [h3] at h
    rw [h2]
    exact ⟨h1, Post.here (b := b) h rp rfl⟩
  cases x with
  | str a =>
    cases y with
    | str b =>
      obtain ⟨rfl, _⟩ := rx
      obtain ⟨rfl, _⟩ := ry
      refine .inl (sc rfl ?_ rfl)
      by_cases hab : a = b
      · subst hab; simp
      · rw [decide_eq_false hab, decide_eq_false fun e => hab (ofT_inj (V.str.inj e))]
    | _ => exact .inr (rest h)
  | int a =>
    cases y with
    | int b =>
      cases rx; cases ry
      refine .inl (sc rfl ?_ rfl)
      by_cases hab : a = b
      · subst hab; simp
      · rw [decide_eq_false hab, decide_eq_false fun e => hab (V.int.inj e)]
    | _ => exact .inr (rest h)
  | bl a =>
    cases y with
    | bl b =>
      cases rx; cases ry
      refine .inl (sc rfl ?_ rfl)
      by_cases hab : a = b
      · subst hab; simp
      · rw [decide_eq_false hab, decide_eq_false fun e => hab (V.bl.inj e)]
    | _ => exact .inr (rest h)
  | non =>
    cases y with
    | non => cases rx; cases ry; exact .inl (sc rfl rfl rfl)
    | _ => exact .inr (rest h)
  | _ => exact .inr (rest h)
theorem ad_eq : AdC K Θ M.cEq (rEqM K false) := by
  intro ρ H S x y X1 Y Q rp rx ry h
  rcases eq_core rp rx ry h with h | ⟨d, e, h1, h2, h3, h4, h5⟩ | ⟨a, b, ka, kb, r, h⟩
  · exact .inl h
  · exact .inr (.inl ⟨d, e, h1, h2, h3, h4, h5⟩)
  · exact .inr (.inr ⟨a, b, ka, kb, r, h⟩)
theorem ad_ne : AdC K Θ M.cNe (rEqM K true) := by
  intro ρ H S x y X1 Y Q rp rx ry h
  have h' : Post K Θ rB ρ H (M.eqD x y S) (fun b H' => Q (.bl (!b)) H') := Post.bind h fun ρ1 H1 b b' S1 p1 l1 rp1 e h1 => by cases e; exact Post.here (b := !b) h1 rp1 rfl
  rcases eq_core rp rx ry h' with h | ⟨d, e, h1, h2, h3, h4, h5⟩ | ⟨a, b, ka, kb, r, h⟩
  · exact .inl h
  · exact .inr (.inl ⟨d, e, h1, h2, h3, h4, h5⟩)
  · exact .inr (.inr ⟨a, b, ka, kb, r, h⟩)
end
end L2
namespace L2
open PySem PySem.Spec PyProof.Rows
section
variable {K : PySem.W.Frag} {Θ : Tab}
def rIxM (K : PySem.W.Frag) : R2 := fun x y H Q => uIx K x y H Q ∨ ∃ a v, x = .ref a ∧ DGet H a y (some v) ∧ Q v H
theorem ix_M {X : Cx} {k : Nat} (hr : Room k X.A) : IxR X (rIxM X.K) := by
  refine IxR.or u_ix ?_
  intro value slice pins s σ H x y v u Q I rx ry h hs
  obtain ⟨a, w', rfl, g, q⟩ := h
  cases rx
  exact tail_any (dict_typeIs I g) PySem.F.slot_dict_getitem.lookup (d_getItem (hu_of hr) I g ry fun w2 s3 I3 rw' => ⟨w', H, I3, rw', q⟩) hs
def rLenM (K : PySem.W.Frag) : List V → Hp → VK → Prop := fun xs H Q => uLen K xs H Q ∨ ∃ a kvs, xs = [V.ref a] ∧ H a = some (.dK kvs) ∧ Q (.int kvs.length) H
theorem call_lenM {X : Cx} : CallR X (.builtin "len") (rLenM X.K) := CallR.or u_len call_lenD
theorem ad_ix : Ad2 K Θ M.opIx (rIxM K) := by
  intro ρ H S x y X Y Q rp rx ry h
  cases x with
  | str a =>
    cases y with
    | int i =>
      obtain ⟨rfl, oka⟩ := rx
      cases ry
      have h' : Post K Θ (RelD K) ρ H (if a.length ≤ M.SZ then (match M.atI a i with | some c => M.R.ok (M.D.str [c]) S | none => .no) else .no) Q := h
      by_cases hc : a.length ≤ M.SZ
      · rw [if_pos hc] at h'
        cases q : M.atI a i with
        | none => rw [q] at h'; exact h'.elim
        | some c =>
          rw [q] at h'
          refine .inl ⟨c, by rw [ofT_len, ← SZ_eq]; exact hc, ?_, Post.here (b := V.str (ofT [c])) h' rp ⟨rfl, okT_sub oka fun d hd => by
            have e : d = c := by simpa using hd
            rw [e]
            unfold M.atI at q
            cases qi : M.ixN a.length i with
            | none => rw [qi] at q; cases q
            | some j => rw [qi] at q; exact List.mem_of_getElem? q⟩⟩
          rw [ofT_list]; exact q
      · rw [if_neg hc] at h'; exact h'.elim
    | _ => exact h.elim
  | tup ds =>
    cases y with
    | int i =>
      obtain ⟨l, xs, rfl, hq, r⟩ := rx
      cases ry
      have h' : Post K Θ (RelD K) ρ H (match M.atI ds i with | some d => M.R.ok d S | none => .no) Q := h
      cases q : M.atI ds i with
      | none => rw [q] at h'; exact h'.elim
      | some d =>
        rw [q] at h'
        obtain ⟨v, e1, rv⟩ := atI_rel r q
        exact .inl ⟨xs, v, .inr hq, e1, Post.here h' rp rv⟩
    | _ => exact h.elim
  | ro ds =>
    cases y with
    | int i =>
      obtain ⟨l, xs, rfl, hq, r⟩ := rx
      cases ry
      have h' : Post K Θ (RelD K) ρ H (match M.atI ds i with | some d => M.R.ok d S | none => .no) Q := h
      cases q : M.atI ds i with
      | none => rw [q] at h'; exact h'.elim
      | some d =>
        rw [q] at h'
        obtain ⟨v, e1, rv⟩ := atI_rel r q
        exact .inl ⟨xs, v, .inl hq.sq, e1, Post.here h' rp rv⟩
    | _ => exact h.elim
  | ref p =>
    obtain ⟨a, rfl, ea⟩ := rx
    cases q : S[p]? with
    | none => simp [M.opIx, q] at h; exact h.elim
    | some o =>
      cases o with
      | lst xs =>
        cases y with
        | int i =>
          cases ry
          obtain ⟨zs, e1, r⟩ := lst_at rp ea q
          cases q2 : M.atI xs i with
          | none => simp [M.opIx, q, q2] at h; exact h.elim
          | some d =>
            simp [M.opIx, q, q2] at h
            obtain ⟨v, e2, rv⟩ := atI_rel r q2
            exact .inl ⟨zs, v, .inl (SqL.of e1), e2, Post.here h rp rv⟩
        | _ => simp [M.opIx, q] at h; exact h.elim
      | dct kvs =>
        by_cases hk : M.keyOk y = true
        case neg => simp [M.opIx, q, hk] at h; exact h.elim
        obtain ⟨ks, e1, r⟩ := dct_at rp ea q
        obtain ⟨k, h1, rfl⟩ := keyR_of hk ry
        have hv := r.val h1
        cases q2 : M.dGet y kvs with
        | none => simp [M.opIx, q, hk, q2] at h; exact h.elim
        | some d =>
          simp [M.opIx, q, hk, q2] at h
          rw [q2] at hv
          obtain ⟨v, e2, rv⟩ := hv
          refine .inr ⟨a, v, rfl, ?_, Post.here h rp rv⟩
          rw [← e2]
          exact DGet.k e1
      | dtt _ => simp [M.opIx, q] at h; exact h.elim
      | ftt _ => simp [M.opIx, q] at h; exact h.elim
      | fdc kvs =>
        by_cases hk : M.keyOk y = true
        case neg => simp [M.opIx, q, hk] at h; exact h.elim
        obtain ⟨fo, ks, e1, r⟩ := fdc_at rp ea q
        obtain ⟨k, h1, rfl⟩ := keyR_of hk ry
        have hv := r.val h1
        cases q2 : M.dGet y kvs with
        | none => simp [M.opIx, q, hk, q2] at h; exact h.elim
        | some d =>
          simp [M.opIx, q, hk, q2] at h
          rw [q2] at hv
          obtain ⟨v, e2, rv⟩ := hv
          refine .inr ⟨a, v, rfl, ?_, Post.here h rp rv⟩
          rw [← e2]
          exact (.inl ⟨ks, k, .inr ⟨fo, e1⟩, rfl, rfl⟩)
      | ins c fs => simp [M.opIx, q] at h; exact h.elim
  | _ => exact h.elim
theorem ad_len : AdN K Θ M.fLen (rLenM K) := by
  intro ρ H S xs Xs Q rp rx h
  match xs, rx, h with
  | [.str a], rx, h =>
    obtain ⟨_, _, rfl, ⟨rfl, _⟩, rfl⟩ := rx
    have h' : Post K Θ (RelD K) ρ H (if a.length ≤ M.SZ then M.R.ok (M.D.int a.length) S else .no) Q := h
    by_cases hc : a.length ≤ M.SZ
    · rw [if_pos hc] at h'
      refine .inl ⟨by rw [ofT_len, ← SZ_eq]; exact hc, ?_⟩
      rw [ofT_len]
      exact Post.here (b := V.int a.length) h' rp rfl
    · rw [if_neg hc] at h'; exact h'.elim
  | [.tup ds], rx, h =>
    obtain ⟨_, _, rfl, ⟨l, ys, rfl, hq, r⟩, rfl⟩ := rx
    exact .inl ⟨ys, .inr hq, by rw [← r.length]; exact Post.here (b := V.int ds.length) h rp rfl⟩
  | [.ro ds], rx, h =>
    obtain ⟨_, _, rfl, ⟨l, ys, rfl, hq, r⟩, rfl⟩ := rx
    exact .inl ⟨ys, .inl hq.sq, by rw [← r.length]; exact Post.here (b := V.int ds.length) h rp rfl⟩
  | [.ref p], rx, h =>
    obtain ⟨_, _, rfl, ⟨a, rfl, ea⟩, rfl⟩ := rx
    cases q : S[p]? with
    | none => simp [M.fLen, q] at h; exact h.elim
    | some o =>
      cases o with
      | lst xs =>
        simp [M.fLen, q] at h
        obtain ⟨zs, e1, r⟩ := lst_at rp ea q
        exact .inl ⟨zs, .inl (SqL.of e1), by rw [← r.length]; exact Post.here (b := V.int xs.length) h rp rfl⟩
      | dct kvs =>
        simp [M.fLen, q] at h
        obtain ⟨ks, e1, r⟩ := dct_at rp ea q
        exact .inr ⟨a, ks, rfl, e1, by rw [← Paired.length r]; exact Post.here (b := V.int kvs.length) h rp rfl⟩
      | fdc _ => simp [M.fLen, q] at h; exact h.elim
      | dtt _ => simp [M.fLen, q] at h; exact h.elim
      | ftt _ => simp [M.fLen, q] at h; exact h.elim
      | ins c fs => simp [M.fLen, q] at h; exact h.elim
  | [.non], _, h => exact h.elim
  | [.bl _], _, h => exact h.elim
  | [.int _], _, h => exact h.elim
  | [.ty _], _, h => exact h.elim
  | [], _, h => exact h.elim
  | a :: _ :: _, _, h => cases a <;> exact h.elim
def rInM (K : PySem.W.Frag) (neg : Bool) : R2 := fun x y H Q => uIn K neg x y H Q ∨ ∃ a o, y = .ref a ∧ DGet H a x o ∧ Q (.bl (xor neg o.isSome)) H
theorem op_notInM {X : Cx} {k : Nat} (hr : Room k X.A) : OpR X (compareOp .NotIn) (rInM X.K true) := by
  refine OpR.or u_notin ?_
  intro pins s σ H x y v u Q I rx ry h
  obtain ⟨a, o, rfl, g, q⟩ := h
  cases ry
  exact d_notIn (hu_of hr) I g rx fun s' I' => ⟨.bl (!o.isSome), H, I', rfl, by rw [Bool.true_xor] at q; exact q⟩
theorem flat_rel {ρ : List Addr} {H : Hp} {d : M.D} {v : V} (r : RelD K ρ H d v) : flatV v = M.flat d := by
  cases d with
  | non => cases r; rfl
  | bl _ => cases r; rfl
  | int _ => cases r; rfl
  | str _ => obtain ⟨rfl, _⟩ := r; rfl
  | ty _ => cases r; rfl
  | ref _ => obtain ⟨_, rfl, _⟩ := r; rfl
  | tup _ => obtain ⟨_, _, rfl, _⟩ := r; rfl
  | ro _ => obtain ⟨_, _, rfl, _⟩ := r; rfl
theorem eqF_rel {ρ : List Addr} {H : Hp} {d e : M.D} {v u : V} (r : RelD K ρ H d v) (q : RelD K ρ H e u) : eqV v u = M.eqF d e := by
  cases d with
  | non =>
    cases r
    cases e with
    | str _ => obtain ⟨rfl, _⟩ := q; rfl
    | ref _ => obtain ⟨_, rfl, _⟩ := q; rfl
    | tup _ => obtain ⟨_, _, rfl, _⟩ := q; rfl
    | ro _ => obtain ⟨_, _, rfl, _⟩ := q; rfl
    | _ => cases q; rfl
  | bl _ =>
    cases r
    cases e with
    | str _ => obtain ⟨rfl, _⟩ := q; rfl
    | ref _ => obtain ⟨_, rfl, _⟩ := q; rfl
    | tup _ => obtain ⟨_, _, rfl, _⟩ := q; rfl
    | ro _ => obtain ⟨_, _, rfl, _⟩ := q; rfl
    | _ => cases q; rfl
  | int _ =>
    cases r
    cases e with
    | str _ => obtain ⟨rfl, _⟩ := q; rfl
    | ref _ => obtain ⟨_, rfl, _⟩ := q; rfl
    | tup _ => obtain ⟨_, _, rfl, _⟩ := q; rfl
    | ro _ => obtain ⟨_, _, rfl, _⟩ := q; rfl
    | _ => cases q; rfl
  | str x =>
    obtain ⟨rfl, _⟩ := r
    cases e with
    | str y => obtain ⟨rfl, _⟩ := q; exact beq_ofT x y
    | ref _ => obtain ⟨_, rfl, _⟩ := q; rfl
    | tup _ => obtain ⟨_, _, rfl, _⟩ := q; rfl
    | ro _ => obtain ⟨_, _, rfl, _⟩ := q; rfl
    | _ => cases q; rfl
  | ty _ => cases r; rfl
  | ref _ => obtain ⟨_, rfl, _⟩ := r; rfl
  | tup _ => obtain ⟨_, _, rfl, _⟩ := r; rfl
  | ro _ => obtain ⟨_, _, rfl, _⟩ := r; rfl
theorem flats_rel {ρ : List Addr} {H : Hp} : ∀ {ds : List M.D} {xs : List V}, RelDs K ρ H ds xs → xs.all flatV = ds.all M.flat
  | [], _, r => by cases r; rfl
  | _ :: _, _, ⟨y, ys, e, r1, r2⟩ => by subst e; rw [List.all_cons, List.all_cons, flat_rel r1, flats_rel r2]
theorem memF_rel {ρ : List Addr} {H : Hp} {x : M.D} {v : V} (rx : RelD K ρ H x v) : ∀ {ds : List M.D} {xs : List V}, RelDs K ρ H ds xs → inV v xs = M.memF x ds
  | [], _, r => by cases r; rfl
  | _ :: _, _, ⟨y, ys, e, r1, r2⟩ => by
    subst e
    unfold inV M.memF
    rw [List.any_cons, List.any_cons, eqF_rel r1 rx]
    have := memF_rel rx r2
    unfold inV M.memF at this
    rw [this]
theorem subT_iff (a : M.T) : ∀ b : M.T, M.subT a b = true ↔ ∃ i, i + a.length ≤ b.length ∧ (b.drop i).take a.length = a
  | [] => by
    simp only [M.subT, List.isEmpty_iff]
    constructor
    · rintro rfl; exact ⟨0, by simp, by simp⟩
    · rintro ⟨i, h, e⟩
      simp at h
      exact h.2
  | c :: r => by
    simp only [M.subT, Bool.or_eq_true, subT_iff a r]
    constructor
    · rintro (h | ⟨i, h, e⟩)
      · have := List.isPrefixOf_iff_prefix.mp h
        exact ⟨0, by simpa using this.length_le, by simpa using (List.prefix_iff_eq_take.mp this).symm⟩
      · exact ⟨i + 1, by simp; lia, by simpa using e⟩
    · rintro ⟨i, h, e⟩
      cases i with
      | zero => left; exact List.isPrefixOf_iff_prefix.mpr (List.prefix_iff_eq_take.mpr (by simpa using e.symm))
      | succ i => right; exact ⟨i, by simp at h; lia, by simpa using e⟩
theorem at_iff (a b : M.T) (i : Nat) : StrLaws.At (ofT b) (ofT a) (ofT b).length i ↔ (i + a.length ≤ b.length ∧ (b.drop i).take a.length = a) := by
  unfold StrLaws.At Builtin.Str.subAt
  rw [ofT_len, ofT_len]
  refine and_congr_right fun _ => ?_
  rw [beq_iff_eq]
  constructor
  · intro h
    have := congrArg Array.toList h
    simpa [ofT, List.extract_eq_take_drop] using this
  · intro h
    apply Array.ext'
    simpa [ofT, List.extract_eq_take_drop] using h
theorem sub_occ (a b : M.T) : (!(Builtin.Str.occurrences (ofT b) (ofT a) 0 (ofT b).length 1).isEmpty) = M.subT a b := by
  rcases StrLaws.occ_head (ofT b) (ofT a) 1 (by decide) with ⟨e, h⟩ | ⟨i, r, e, h, _⟩
  · rw [e]
    have : ¬ M.subT a b = true := fun q => by
      obtain ⟨i, q⟩ := (subT_iff a b).mp q
      exact h i ((at_iff a b i).mpr q)
    simpa using this
  · rw [e]
    have := (subT_iff a b).mpr ⟨i, (at_iff a b i).mp h⟩
    simp [this]
theorem in_core {neg : Bool} {ρ : List Addr} {H : Hp} {S : M.S} {x y : M.D} {X1 Y : V} {Q : VK} (rp : RepS K Θ ρ S H) (rx : RelD K ρ H x X1) (ry : RelD K ρ H y Y) (h : Post K Θ rB ρ H (M.inD x y S) (fun b H' => Q (.bl (xor neg b)) H')) : rInM K neg X1 Y H Q := by
  have seq : ∀ {ds : List M.D} {xs : List V} {a : Addr}, (SqL K H a xs ∨ SqT K H a xs) → RelDs K ρ H ds xs → Post K Θ rB ρ H (if (M.flat x && ds.all M.flat) = true then M.R.ok (M.memF x ds) S else .no) (fun b H' => Q (.bl (xor neg b)) H') → uIn K neg X1 (.ref a) H Q := fun {ds xs a} hq r h' => by
    by_cases hc : (M.flat x && ds.all M.flat) = true
    · rw [if_pos hc] at h'
      rw [Bool.and_eq_true, ← flat_rel rx, ← flats_rel r] at hc
      have := Post.here (b := M.memF x ds) h' rp rfl
      rw [← memF_rel rx r] at this
      have g : ∃ xs, (SqL K H a xs ∨ SqT K H a xs) ∧ flatV X1 = true ∧ xs.all flatV = true ∧ Q (.bl (xor neg (inV X1 xs))) H := ⟨xs, hq, hc.1, hc.2, this⟩
      cases X1 <;> exact g
    · rw [if_neg hc] at h'; exact h'.elim
  cases y with
  | str b =>
    cases x with
    | str a =>
      obtain ⟨rfl, _⟩ := rx
      obtain ⟨rfl, _⟩ := ry
      refine .inl ?_
      show Q (.bl (xor neg (!(Builtin.Str.occurrences (ofT b) (ofT a) 0 (ofT b).length 1).isEmpty))) H
      rw [sub_occ]
      exact Post.here (b := M.subT a b) h rp rfl
    | _ => exact h.elim
  | tup ds =>
    obtain ⟨l, xs, rfl, hq, r⟩ := ry
    exact .inl (seq (.inr hq) r h)
  | ro ds =>
    obtain ⟨l, xs, rfl, hq, r⟩ := ry
    exact .inl (seq (.inl hq.sq) r h)
  | ref p =>
    obtain ⟨a, rfl, ea⟩ := ry
    cases q : S[p]? with
    | none => simp [M.inD, q] at h; exact h.elim
    | some o =>
      cases o with
      | lst ds =>
        obtain ⟨zs, e1, r⟩ := lst_at rp ea q
        refine .inl (seq (.inl (SqL.of e1)) r ?_)
        simp only [M.inD, q] at h
        exact h
      | dct kvs =>
        by_cases hk : M.keyOk x = true
        case neg => simp [M.inD, q, hk] at h; exact h.elim
        simp only [M.inD, q, if_pos hk] at h
        obtain ⟨ks, e1, r⟩ := dct_at rp ea q
        obtain ⟨k, h1, rfl⟩ := keyR_of hk rx
        have hv := r.val h1
        refine .inr ⟨a, valV ks k, rfl, DGet.k e1, ?_⟩
        have e2 : (valV ks k).isSome = (M.dGet x kvs).isSome := by
          cases q2 : M.dGet x kvs with
          | none => rw [q2] at hv; rw [hv]; rfl
          | some d => rw [q2] at hv; obtain ⟨v, e2, _⟩ := hv; rw [e2]; rfl
        rw [e2]
        exact Post.here (b := (M.dGet x kvs).isSome) h rp rfl
      | dtt _ => simp [M.inD, q] at h; exact h.elim
      | ftt _ => simp [M.inD, q] at h; exact h.elim
      | fdc kvs =>
        by_cases hk : M.keyOk x = true
        case neg => simp [M.inD, q, hk] at h; exact h.elim
        simp only [M.inD, q, if_pos hk] at h
        obtain ⟨fo, ks, e1, r⟩ := fdc_at rp ea q
        obtain ⟨k, h1, rfl⟩ := keyR_of hk rx
        have hv := r.val h1
        refine .inr ⟨a, valV ks k, rfl, (.inl ⟨ks, k, .inr ⟨fo, e1⟩, rfl, rfl⟩), ?_⟩
        have e2 : (valV ks k).isSome = (M.dGet x kvs).isSome := by
          cases q2 : M.dGet x kvs with
          | none => rw [q2] at hv; rw [hv]; rfl
          | some d => rw [q2] at hv; obtain ⟨v, e2, _⟩ := hv; rw [e2]; rfl
        rw [e2]
        exact Post.here (b := (M.dGet x kvs).isSome) h rp rfl
      | ins c fs => simp [M.inD, q] at h; exact h.elim
  | _ => exact h.elim
theorem w_mt_ofw {X : Cx} {e : Expr} {m : M.TM} (h : WW X Θ e m) : WT X Θ e m := by
  delta WT WW at h ⊢
  exact PW.pt h
theorem ints_rel {ρ : List Addr} {H : Hp} : ∀ ns : List Int, RelDs K ρ H (ns.map .int) (ns.map V.int)
  | [] => rfl
  | n :: ns => ⟨_, _, rfl, rfl, ints_rel ns⟩
theorem law_sp {f : M.F} (ht : ∀ ns : List Int, ns.length ≤ 63 → ∃ s, f [.ro (ns.map .int)] [] = .ok (.bl true) s) {H : Hp} {a : Addr} {ns : List Int} {E : XK} (hl : ns.length ≤ 63) (hO : Only H) (hS : SqL K H a (ns.map V.int)) : SpM K Θ 1 f [.ref a] H (fun v _ => v = .bl true) E := by
  obtain ⟨s, e⟩ := ht ns hl
  refine ⟨[], [.ro (ns.map .int)], [], rfl, ⟨_, _, rfl, ⟨a, ns.map V.int, rfl, ?_, ints_rel ns⟩, rfl⟩, ⟨rfl, List.nodup_nil, fun i o q => by simp at q⟩, ?_⟩
  · rcases hS with (h | h) | h
    · rcases hO a with z | ⟨o, xs, z⟩
      · rw [h] at z; cases z
      · rw [h] at z; cases z
    · exact .inl h
    · exact .inr h
  · rw [e]
    exact fun ρ' H' b _ _ _ r => r
end
section
variable {P : Program} {w : World} {K : PySem.W.Frag} {mg : Str → Option Value} {base : Heap} {Θ : Tab}
theorem fun_M0 {x qual : Str} {st : Stmt} {f : Addr} {fd : FuncData} {N ps : List Str} {k : Nat} {b : M.SM} (F : Fun K x qual st f fd) (Sc : FnScope N ps (defScope st))
    (hbody : ∀ (cdv : Value) (A : Around) (outer : List Env) (s : Shared) (H : Hp) (E : XK), Room k (A.deeper (envOfC qual (defScope st) s.heap.objs.size f cdv)) →
      MSs (cxOf CX0 P w K mg base N qual (defScope st) f cdv A outer s H E).nox Θ (defBody st) b) : FnOk P w K mg base CX0 (k + 1) f fd ps (SpM K Θ ps.length (M.fn N.length b)) := by
  refine F.ok (k := k) Sc (fun vs H Q E h => ?_) (fun cdv A outer s H vs Q E hr h => ?_)
  · obtain ⟨ρ, ds, S, hl, r, _⟩ := h
    rw [← r.length, hl]
  · obtain ⟨ρ, ds, S, hl, r, rp, h⟩ := h
    refine ⟨_, hbody cdv A outer s H E hr, ρ, _, S, start_rel r N, rp, ?_⟩
    have h' : Post K Θ (RelD K) ρ H (b (ds.map some ++ List.replicate (N.length - ds.length) none) S).out Q := h
    show PostS K Θ ρ H (b (ds.map some ++ List.replicate (N.length - ds.length) none) S) _
    revert h'
    cases b (ds.map some ++ List.replicate (N.length - ds.length) none) S with
    | rt a s => exact fun h' => h'
    | nx a s => exact fun h' ρ1 H1 σ1 p1 l1 rp1 _ => h' ρ1 H1 .non p1 l1 rp1 rfl
    | bk a s => exact fun h' => h'.elim
    | ct a s => exact fun h' => h'.elim
    | exc e a s => exact fun h' => h'
    | no => exact fun h' => h'
theorem w_fun_M0 {x qual : Str} {st : Stmt} {f : Addr} {fd : FuncData} {N ps : List Str} {k : Nat} {b : M.SM} (F : Fun K x qual st f fd) (Sc : FnScope N ps (defScope st))
    (hbody : ∀ (cdv : Value) (A : Around) (outer : List Env) (s : Shared) (H : Hp) (E : XK), Room k (A.deeper (envOfC qual (defScope st) s.heap.objs.size f cdv)) →
      WSs (cxOf CX0 P w K mg base N qual (defScope st) f cdv A outer s H E).nox Θ (defBody st) b) : FnOk P w K mg base CX0 (k + 1) f fd ps (SpM K Θ ps.length (M.fn N.length b)) := by with_unfolding_all exact fun_M0 (x := x) (qual := qual) (st := st) (f := f) (fd := fd) (N := N) (ps := ps) (k := k) (b := b) F Sc hbody
end
end L2
namespace L2
open PySem PySem.Spec PyProof.Rows PySem.Builtin.Str
section
variable {K : PySem.W.Frag} {Θ : Tab}
theorem ref_lst {ρ : List Addr} {H : Hp} {S : M.S} {p : Nat} {X : V} {ds : List M.D} (rp : RepS K Θ ρ S H) (rx : RelD K ρ H (.ref p) X) (e : S[p]? = some (.lst ds)) : ∃ a xs, X = .ref a ∧ ρ[p]? = some a ∧ H a = some (.lst xs) ∧ RelDs K ρ H ds xs := by
  obtain ⟨a, rfl, ha⟩ := rx
  obtain ⟨b, hb, xs, hx, r⟩ := rp.obj p _ e
  rw [ha] at hb; cases hb
  exact ⟨a, xs, rfl, ha, hx, r⟩
theorem mut_lst {H : Hp} {a : Addr} {xs : List V} (h : H a = some (.lst xs)) : Mut (H a) := by rw [h]; trivial
theorem ad_append : AdM K Θ M.mAppend rAppend := by
  intro ρ H S x xs X Xs Q rp rx rxs h
  unfold M.mAppend at h
  split at h
  · rename_i p y
    obtain ⟨Y, r, rfl, ry, rfl⟩ := rxs
    split at h
    · rename_i ds e
      obtain ⟨a, zs, rfl, ha, hx, rz⟩ := ref_lst rp rx e
      split at h
      · rename_i hl
        have le := Le.put (mut_lst hx) (.lst (zs ++ [Y]))
        refine ⟨a, zs, Y, rfl, rfl, hx, by rw [← SZ_eq, ← rz.length]; exact hl, ?_⟩
        exact h ρ _ _ (List.prefix_refl _) le (rp.put ha (mut_lst hx) ⟨_, upd_same, (rz.mono (List.prefix_refl _) le).app ⟨_, _, rfl, ry.mono (List.prefix_refl _) le, rfl⟩⟩) rfl
      · exact h.elim
    · exact h.elim
  · exact h.elim
end
end L2
namespace L2
open PySem PySem.Spec PyProof.Rows
section
variable {Θ : Tab}
theorem PS.or {X : Cx} {st : Stmt} {t t' : TS} (h : PS X st t) (h' : PS X st t') : PS X st (fun D σ H => t D σ H ∨ t' D σ H) := fun pins s σ H D I q => by
  rcases q with q | q
  · exact h pins s σ H D I q
  · exact h' pins s σ H D I q
theorem mut_dK {H : Hp} {a : Addr} {ks : List (Key × V)} (h : H a = some (.dK ks)) : Mut (H a) := by rw [h]; trivial
theorem ms_sub {X : Cx} {o i e : Expr} {mo mi me : M.EM} {pos pos' : Pos} {n : Nat} (hr : Room n X.A) (ho : ME X Θ o mo) (hi : ME X Θ i mi) (he : ME X Θ e me)
    (ha : ∀ v, assign (.Subscript o i pos') X.env v = (do
      let ov ← holding [v] (eval o X.env)
      let iv ← holding [v, ov] (eval i X.env)
      standAt pos'
      holding [v, ov, iv] (setItem ov iv v)
      release [v, ov, iv] []) := by intro _; rfl)
    (hs : swapsWithSole [.Subscript o i pos'] e pos.line X.env = pure false := by rfl) (hw : swappedStores [.Subscript o i pos'] e X.env = pure none := by rfl) (h1 : (assignEach [.Subscript o i pos'] X.env).map (·.2) = [assign (.Subscript o i pos') X.env] := by rfl)
    (hs2 : swapsWith e (some (.Subscript o i pos')) pos.line X.env = pure false := by rfl) : MS X Θ (.Assign [.Subscript o i pos'] e pos) (M.sSub mo mi me) :=
  (PS.or (ps_asg he (pg_sub ho hi set_list ha) hs hw h1) (ps_dput (by have := hr.units; lia) ho hi he hs2)).up fun D σ H ρ σ' S st rp h => by
    have h0 : PostS X.K Θ ρ H ((me σ' S).stm σ' fun y s => (mo σ' s).stm σ' fun x s => (mi σ' s).stm σ' fun k s => (M.setIx x k y s).stm σ' fun _ s => .nx σ' s) D := h
    clear h
    cases hE : me σ' S with
    | no => rw [hE] at h0; exact h0.elim
    | exc a s => rw [hE] at h0; exact .inr ⟨ρ, σ', S, st, rp, by rw [hE]; exact (show PostX X.K Θ ρ H a s from h0)⟩
    | ok y S1 =>
      rw [hE, M.R.stm_ok] at h0
      cases hO : mo σ' S1 with
      | no => rw [hO] at h0; exact h0.elim
      | exc a s => rw [hO] at h0; exact .inr ⟨ρ, σ', S, st, rp, by rw [hE]; exact fun ρ1 H1 v p l rp1 rv => ⟨ρ1, σ', S1, st.mono p l, rp1, by rw [hO]; exact PostX.weak (show PostX X.K Θ ρ H a s from h0) p l⟩⟩
      | ok x S2 =>
        rw [hO, M.R.stm_ok] at h0
        cases hI : mi σ' S2 with
        | no => rw [hI] at h0; exact h0.elim
        | exc a s => rw [hI] at h0; exact .inr ⟨ρ, σ', S, st, rp, by rw [hE]; exact fun ρ1 H1 v p l rp1 rv => ⟨ρ1, σ', S1, st.mono p l, rp1, by rw [hO]; exact fun ρ2 H2 v2 p2 l2 rp2 rv2 => ⟨ρ2, σ', S2, st.mono (p.trans p2) (l.trans l2), rp2, by rw [hI]; exact PostX.weak (show PostX X.K Θ ρ H a s from h0) (p.trans p2) (l.trans l2)⟩⟩⟩
        | ok k S3 =>
          rw [hI, M.R.stm_ok] at h0
          cases x with
          | ref p =>
            cases q : S3[p]? with
            | none => simp only [M.setIx, q] at h0; exact h0.elim
            | some ob =>
              cases ob with
              | lst xs =>
                cases k with
                | int j =>
                  cases hj : M.ixN xs.length j with
                  | none => simp only [M.setIx, q, hj] at h0; exact h0.elim
                  | some j' =>
                    simp only [M.setIx, q, hj, M.R.stm_ok] at h0
                    refine .inl ⟨ρ, σ', S, st, rp, ?_⟩
                    rw [hE]
                    intro ρ1 H1 Y p1 l1 rp1 ry
                    refine ⟨ρ1, σ', S1, st.mono p1 l1, rp1, ?_⟩
                    rw [hO]
                    intro ρ2 H2 Xv p2 l2 rp2 rx
                    refine ⟨ρ2, σ', S2, st.mono (p1.trans p2) (l1.trans l2), rp2, ?_⟩
                    rw [hI]
                    intro ρ3 H3 Kv p3 l3 rp3 rk
                    obtain ⟨a, zs, rfl, ha, hx, rz⟩ := ref_lst rp3 (rx.mono p3 l3) q
                    cases rk
                    have le := Le.put (mut_lst hx) (.lst (zs.set j' Y))
                    refine ⟨a, zs, j, j', rfl, rfl, hx, by rw [← rz.length]; exact hj, ?_⟩
                    exact h0 ρ3 _ σ (p1.trans (p2.trans p3)) (l1.trans (l2.trans (l3.trans le))) (rp3.put ha (mut_lst hx) ⟨_, upd_same, RelDs.set (ry.mono (p2.trans p3) (l2.trans (l3.trans le))) j' (rz.mono (List.prefix_refl _) le)⟩) (st.mono (p1.trans (p2.trans p3)) (l1.trans (l2.trans (l3.trans le))))
                | _ => simp only [M.setIx, q] at h0; exact h0.elim
              | dct kvs =>
                cases hk : (M.keyOk k && decide (kvs.length < M.SZ)) with
                | false => simp only [M.setIx, q, hk] at h0; exact h0.elim
                | true =>
                  have hk2 : (if (M.keyOk k && decide (kvs.length < M.SZ)) = true then M.R.ok () (S3.set p (.dct (M.dPut k y kvs))) else .no) = M.R.ok () (S3.set p (.dct (M.dPut k y kvs))) := if_pos hk
                  simp only [M.setIx, q, hk2, M.R.stm_ok] at h0
                  rw [Bool.and_eq_true] at hk
                  refine .inr ⟨ρ, σ', S, st, rp, ?_⟩
                  rw [hE]
                  intro ρ1 H1 Y p1 l1 rp1 ry
                  refine ⟨ρ1, σ', S1, st.mono p1 l1, rp1, ?_⟩
                  rw [hO]
                  intro ρ2 H2 Xv p2 l2 rp2 rx
                  refine ⟨ρ2, σ', S2, st.mono (p1.trans p2) (l1.trans l2), rp2, ?_⟩
                  rw [hI]
                  intro ρ3 H3 Kv p3 l3 rp3 rk
                  obtain ⟨a, rfl, ea⟩ := rx.mono p3 l3
                  obtain ⟨b, e1, ks, e2, r⟩ := rp3.obj _ _ q
                  rw [ea] at e1; cases e1
                  obtain ⟨kk, hkk, rfl⟩ := keyR_of hk.1 rk
                  have le := Le.put (mut_dK e2) (.dK (putK ks kk Y))
                  refine ⟨a, _, rfl, DPut.k e2 (by rw [← Paired.length r, ← SZ_eq]; exact of_decide_eq_true hk.2), ?_⟩
                  have r' : DR X.K ρ3 (upd H3 a (.dK (putK ks kk Y))) kvs ks := Paired.mapP r fun a b z => ⟨z.1, z.2.mono (List.prefix_refl _) le⟩
                  exact h0 ρ3 _ σ (p1.trans (p2.trans p3)) (l1.trans (l2.trans (l3.trans le))) (rp3.put ea (mut_dK e2) ⟨_, upd_same, DR.put r' hkk (ry.mono (p2.trans p3) (l2.trans (l3.trans le)))⟩) (st.mono (p1.trans (p2.trans p3)) (l1.trans (l2.trans (l3.trans le))))
              | fdc _ => simp only [M.setIx, q] at h0; exact h0.elim
              | dtt _ => simp only [M.setIx, q] at h0; exact h0.elim
              | ftt _ => simp only [M.setIx, q] at h0; exact h0.elim
              | ins c fs => simp only [M.setIx, q] at h0; exact h0.elim
          | _ => exact h0.elim
end
end L2
namespace L2
open PySem PySem.Spec PyProof.Rows
section
variable {K : PySem.W.Frag} {Θ : Tab}
theorem vals_get : ∀ {xs : List V} {us : List Value}, xs.length = us.length → (∀ (j : Nat) u, us[j]? = some u → ∃ x, xs[j]? = some x ∧ RelV x u) → Vals xs us
  | [], [], _, _ => .nil
  | [], _ :: _, h, _ => by simp at h
  | _ :: _, [], h, _ => by simp at h
  | x :: xs, u :: us, h, k => by
    obtain ⟨y, e, r⟩ := k 0 u rfl
    cases e
    exact .cons r (vals_get (by simpa using h) fun j u hu => by
      obtain ⟨y, e, r⟩ := k (j + 1) u (by simpa using hu)
      exact ⟨y, by simpa using e, r⟩)
theorem kV_rel {P : Program} {w : World} {k : Key} {v : Value} (h : (mixKind P w).is k v = true) : RelV (kV k) v := by
  rcases keyIs_shape (k := k) (v := v) h with ⟨i, t, rfl, rfl⟩ | ⟨x, t, rfl, rfl⟩
  · exact ⟨t, rfl⟩
  · exact ⟨t, rfl⟩
def rListM (K : PySem.W.Frag) : List V → Hp → VK → Prop := fun xs H Q => (∃ p ys, xs = [.ref p] ∧ (SqL K H p ys ∨ SqT K H p ys) ∧ ∀ l, H l = none → Q (.ref l) (upd H l (.lst ys))) ∨
  ∃ p ks, xs = [.ref p] ∧ H p = some (.dK ks) ∧ ∀ l, H l = none → Q (.ref l) (upd H l (.lst (ks.map fun kv => kV kv.1)))
theorem call_listM {X : Cx} {k : Nat} (hr : Room k X.A) : CallR X (.type "list") (rListM X.K) := by
  intro pins s σ H xs us Q I r h
  rcases h with h | ⟨p, ks, rfl, hp, q⟩
  · exact call_list_of pins s σ H xs us Q I r h
  · obtain ⟨u, rfl, ru⟩ := vals1 r
    cases ru
    obtain ⟨z, lo, vs, rv, dd⟩ := dk_of I.hok hp
    obtain ⟨ep, da⟩ := dd.dictAt
    have hl := rv.length
    refine wpAny_with_toks (n := 1) I.tk (PySem.W.kdl_call (PySem.W.kdl_dict lo) hr.hd da (by lia) fun h' tk acc c' keep hS it htk => ?_)
    obtain ⟨hsz, hit⟩ := it
    refine ⟨.ref s.heap.objs.size, _, I.laid (t' := tk) (o := .lst (ks.map fun kv => kV kv.1)) keep (Nat.le_refl _) ⟨by rw [List.length_map]; exact z, acc.toList, c', vals_get (by simp; lia) fun j u hu => ?_, by simpa using hS⟩ htk, rfl, q _ (I.hok.fresh (Nat.le_refl _))⟩
    obtain ⟨k, x, e, hk⟩ := hit j u (by simpa using hu)
    have hj : j < ks.length := by have := (List.getElem?_eq_some_iff.mp e).1; lia
    have ek : (ks.map (·.1))[j]? = some k := by rw [rv.keys, List.getElem?_map, e]; rfl
    refine ⟨kV k, ?_, kV_rel hk⟩
    rw [List.getElem?_map] at ek ⊢
    cases q2 : ks[j]? with
    | none => rw [q2] at ek; cases ek
    | some kv => rw [q2] at ek; cases ek; rfl
theorem keys_rel {ρ : List Addr} {H : Hp} : ∀ {kvs : List (M.D × M.D)} {ks : List (Key × V)}, DR K ρ H kvs ks → RelDs K ρ H (kvs.map (·.1)) (ks.map fun kv => kV kv.1)
  | _, _, .nil => rfl
  | (d, _) :: _, (k, _) :: _, .cons h t => by
    refine ⟨_, _, rfl, ?_, keys_rel t⟩
    have h1 : KeyR d k := h.1
    cases d with
    | int i => cases h1; rfl
    | str x => obtain ⟨rfl, ok⟩ := h1; exact ⟨rfl, ok⟩
    | _ => exact h1.elim
theorem ad_list : AdN K Θ M.fList (rListM K) := by
  intro ρ H S xs Xs Q rp rxs h
  unfold M.fList at h
  split at h
  · obtain ⟨Y, r, rfl, ⟨a, zs, rfl, hq, rz⟩, rfl⟩ := rxs
    exact .inl ⟨a, zs, rfl, .inr hq, fun p hp => Post.alloc h rp rz hp⟩
  · obtain ⟨Y, r, rfl, ⟨a, zs, rfl, hq, rz⟩, rfl⟩ := rxs
    exact .inl ⟨a, zs, rfl, .inl hq.sq, fun p hp => Post.alloc h rp rz hp⟩
  · rename_i p
    obtain ⟨Y, r, rfl, ry, rfl⟩ := rxs
    split at h
    · rename_i ds e
      obtain ⟨a, zs, rfl, ha, hx, rz⟩ := ref_lst rp ry e
      exact .inl ⟨a, zs, rfl, .inl (SqL.of hx), fun p hp => Post.alloc h rp rz hp⟩
    · rename_i kvs e
      obtain ⟨a, rfl, ha⟩ := ry
      obtain ⟨ks, e2, r⟩ := dct_at rp ha e
      exact .inr ⟨a, ks, rfl, e2, fun p hp => Post.alloc h rp (keys_rel r) hp⟩
    · exact h.elim
  · exact h.elim
end
end L2
namespace L2
open PySem PySem.Spec PyProof.Rows
structure ClsM (K : PySem.W.Frag) (Θ : Tab) (c : Nat) (C : Addr) (N : List Str) : Prop where
  tab : Θ c = some (C, N)
  cl : Cls K C
  no : ∀ f ∈ N, NoAttr K C f
  few : N.length < 999
  nd : N.Nodup
theorem mem_all {α : Type} {Pr : α → Prop} {a : α} {l : List α} (h : Pr a) (k : ∀ x ∈ l, Pr x) : ∀ x ∈ a :: l, Pr x := fun x hx => (List.mem_cons.mp hx).elim (fun e => by rw [e]; exact h) (k x)
structure HasM (P : Program) (w : World) (K : PySem.W.Frag) (mg : Str → Option Value) (base : Heap) (C : Addr) (m : Str) (k : Nat) (ps : List Str) (sp : Sp) : Prop where
  ex : ∃ f fd, FnOk P w K mg base CX0 k f fd ps sp ∧ Binds K fd ps [] ∧ Meth K C m f
theorem nodup_len {α : Type} [DecidableEq α] : ∀ {l N : List α}, l.Nodup → (∀ x ∈ l, x ∈ N) → l.length ≤ N.length
  | [], _, _, _ => Nat.zero_le _
  | a :: l, N, h, k => by
    have ha := k a List.mem_cons_self
    have hn := List.nodup_cons.mp h
    have h1 : l.length ≤ (N.erase a).length := nodup_len hn.2 fun x hx => (List.mem_erase_of_ne (show x ≠ a from fun e => hn.1 (by rw [← e]; exact hx))).mpr (k x (List.mem_cons_of_mem _ hx))
    rw [List.length_erase_of_mem ha] at h1
    have h2 := List.length_pos_of_mem ha
    rw [List.length_cons]
    lia
theorem put_keys (f : Str) (v : V) : ∀ fs : List (Str × V), ∀ g, g ∈ (putF f v fs).map (·.1) → g = f ∨ g ∈ fs.map (·.1)
  | [], g, h => by
    have h' : g ∈ [f] := h
    exact .inl (by simpa using h')
  | (k, x) :: r, g, h => by
    rw [show putF f v ((k, x) :: r) = (if k = f then (k, v) :: r else (k, x) :: putF f v r) from rfl] at h
    by_cases hk : k = f
    · rw [if_pos hk] at h
      exact .inr h
    · rw [if_neg hk, List.map_cons] at h
      rcases List.mem_cons.mp h with e | h
      · exact .inr (by rw [e]; simp)
      · rcases put_keys f v r g h with e | e
        · exact .inl e
        · exact .inr (List.mem_cons_of_mem _ e)
theorem put_nd (f : Str) (v : V) : ∀ fs : List (Str × V), (fs.map (·.1)).Nodup → ((putF f v fs).map (·.1)).Nodup
  | [], _ => by show [f].Nodup; simp
  | (k, x) :: r, h => by
    rw [List.map_cons, List.nodup_cons] at h
    rw [show putF f v ((k, x) :: r) = (if k = f then (k, v) :: r else (k, x) :: putF f v r) from rfl]
    by_cases hk : k = f
    · rw [if_pos hk, List.map_cons, List.nodup_cons]; exact h
    · rw [if_neg hk, List.map_cons, List.nodup_cons]
      refine ⟨fun m => ?_, put_nd f v r h.2⟩
      rcases put_keys f v r k m with e | e
      · exact hk e
      · exact h.1 e
theorem lookup_out {f : Str} : ∀ {gs : List (Str × V)}, f ∉ gs.map (·.1) → gs.lookup f = none
  | [], _ => rfl
  | (g, x) :: r, h => by
    rw [List.map_cons, List.mem_cons, not_or] at h
    have hb : (f == g) = false := beq_eq_false_iff_ne.mpr h.1
    rw [List.lookup_cons, hb]
    exact lookup_out h.2
section
variable {K : PySem.W.Frag} {Θ : Tab} {ρ : List Addr} {H : Hp}
theorem InsR.few {N : List Str} {fs : List (Option M.D)} {gs : List (Str × V)} (r : InsR K ρ H N fs gs) : gs.length ≤ N.length := by
  have := nodup_len r.nd r.within
  rwa [List.length_map] at this
theorem InsR.put {H' : Hp} {N : List Str} {fs : List (Option M.D)} {gs : List (Str × V)} {i : Nat} {f : Str} {d : M.D} {v : V} (r : InsR K ρ H N fs gs) (hN : N.Nodup) (hi : N[i]? = some f) (le : Le H H') (rv : RelD K ρ H' d v) : InsR K ρ H' N (fs.set i (some d)) (putF f v gs) := by
  refine ⟨by rw [List.length_set]; exact r.len, put_nd f v gs r.nd, fun g hg => ?_, fun j g e hj he => ?_⟩
  · rcases put_keys f v gs g hg with z | z
    · rw [z]; exact List.mem_of_getElem? hi
    · exact r.within g z
  · rw [lookup_putF]
    by_cases hij : i = j
    · subst hij
      rw [hi] at hj; cases hj
      rw [if_pos rfl]
      have hl : i < fs.length := by rw [r.len]; exact (List.getElem?_eq_some_iff.mp hi).1
      rw [List.getElem?_set_self hl] at he
      cases he
      exact ⟨v, rfl, rv⟩
    · rw [List.getElem?_set_ne hij] at he
      have hne : ¬ g = f := fun z => hij (nodup_at hN (by rw [hi]) (by rw [hj, z]))
      rw [if_neg hne]
      obtain ⟨u, e1, e2⟩ := r.get j g e hj he
      exact ⟨u, e1, e2.mono (List.prefix_refl _) le⟩
theorem ins_at {S : M.S} {p c : Nat} {a C : Addr} {N : List Str} {fs : List (Option M.D)} (cm : ClsM K Θ c C N) (rp : RepS K Θ ρ S H) (ha : ρ[p]? = some a) (e : S[p]? = some (.ins c fs)) : ∃ dx gs, H a = some (.ins C dx gs) ∧ InsR K ρ H N fs gs := by
  obtain ⟨b, hb, C', dx, gs, N', h1, h2, h3⟩ := rp.obj p _ e
  rw [ha] at hb; cases hb
  rw [cm.tab] at h2; cases h2
  exact ⟨dx, gs, h1, h3⟩
theorem mut_ins {a C dx : Addr} {gs : List (Str × V)} (h : H a = some (.ins C dx gs)) : Mut (H a) := by rw [h]; trivial
theorem fld_post {S : M.S} {c i : Nat} {C : Addr} {N : List Str} {f : Str} {x : M.D} {X1 : V} {Q : VK} (cm : ClsM K Θ c C N) (hi : N[i]? = some f) (rp : RepS K Θ ρ S H) (rx : RelD K ρ H x X1) (h : Post K Θ (RelD K) ρ H (M.getFld c i x S) Q) :
    ∃ a dx fs v, X1 = .ref a ∧ H a = some (.ins C dx fs) ∧ fs.lookup f = some v ∧ Q v H := by
  unfold M.getFld at h
  split at h
  · rename_i p
    split at h
    · rename_i c' fs e
      split at h
      · rename_i hc
        subst hc
        split at h
        · rename_i d ed
          obtain ⟨a, rfl, ha⟩ := rx
          obtain ⟨dx, gs, h1, h3⟩ := ins_at cm rp ha e
          obtain ⟨v, e1, rv⟩ := h3.get i f d hi ed
          exact ⟨a, dx, gs, v, rfl, h1, e1, Post.here h rp rv⟩
        · exact h.elim
      · exact h.elim
    · exact h.elim
  · exact h.elim
theorem w_me_fld {X : Cx} {c i : Nat} {C : Addr} {N : List Str} {f : Str} {e : Expr} {m : M.EM} {pos : Pos} (cm : ClsM X.K Θ c C N) (hi : N[i]? = some f) (he : WE X Θ e m) (hb : attributeBase e f X.env (eval e X.env) = eval e X.env := by rfl) : WE X Θ (.Attribute e f pos) (M.eFld c i m) := by
  delta WE at he ⊢
  exact (pe_fld he hb).up fun σ H Q ρ σ' S st rp h => ⟨ρ, σ', S, st, rp, Post.bind h fun ρ1 H1 x X1 S1 p1 l1 rp1 rx h1 => by
      obtain ⟨a, dx, fs, v, e1, e2, e3, q⟩ := fld_post cm hi rp1 rx h1
      exact ⟨a, C, dx, fs, v, e1, e2, cm.cl, cm.no f (List.mem_of_getElem? hi), e3, q⟩⟩
theorem set_post {S : M.S} {c i : Nat} {C : Addr} {N : List Str} {f : Str} {x y : M.D} {X1 Y : V} {σ1 : M.St} {σ : St} {D : Ends} (cm : ClsM K Θ c C N) (hi : N[i]? = some f) (rp : RepS K Θ ρ S H) (st : RelSt K ρ H σ1 σ) (rx : RelD K ρ H x X1) (ry : RelD K ρ H y Y) (h : PostS K Θ ρ H ((M.setFld c i x y S).stm σ1 fun _ s => .nx σ1 s) D) :
    ∃ a dx fs, X1 = .ref a ∧ H a = some (.ins C dx fs) ∧ fs.length < 1000 ∧ D.nx σ (upd H a (.ins C dx (putF f Y fs))) := by
  unfold M.setFld at h
  split at h
  · rename_i p
    split at h
    · rename_i c' fs e
      split at h
      · rename_i hc
        subst hc
        obtain ⟨a, rfl, ha⟩ := rx
        obtain ⟨dx, gs, h1, h3⟩ := ins_at cm rp ha e
        have le := Le.put (mut_ins h1) (.ins C dx (putF f Y gs))
        refine ⟨a, dx, gs, rfl, h1, by have := h3.few; have := cm.few; lia, ?_⟩
        exact h ρ _ σ (List.prefix_refl _) le (rp.put ha (mut_ins h1) ⟨C, dx, _, N, upd_same, cm.tab, h3.put cm.nd hi le (ry.mono (List.prefix_refl _) le)⟩) (st.mono (List.prefix_refl _) le)
      · exact h.elim
    · exact h.elim
  · exact h.elim
theorem w_ms_fld {X : Cx} {c i : Nat} {C : Addr} {N : List Str} {f : Str} {o e : Expr} {mo m : M.EM} {pos pos' : Pos} (cm : ClsM X.K Θ c C N) (hi : N[i]? = some f) (ho : WE X Θ o mo) (he : WE X Θ e m) (hs : swapsWith e (some (.Attribute o f pos')) pos.line X.env = pure false := by kernel_rfl) : WS X Θ (.Assign [.Attribute o f pos'] e pos) (M.sFld c i mo m) := by
  delta WE WS at ho he ⊢
  exact (ps_fld ho he hs).up fun D σ H ρ σ' S st rp h => ⟨ρ, σ', S, st, rp, PostS.stm h fun ρ1 H1 y Y S1 p1 l1 rp1 ry h1 => ⟨ρ1, σ', S1, st.mono p1 l1, rp1, PostS.stm h1 fun ρ2 H2 x X1 S2 p2 l2 rp2 rx h2 => by
      obtain ⟨a, dx, fs, e1, e2, e3, q⟩ := set_post cm hi rp2 (st.mono (p1.trans p2) (l1.trans l2)) rx (ry.mono p2 l2) h2
      exact ⟨a, C, dx, fs, e1, e2, cm.cl, cm.no f (List.mem_of_getElem? hi), e3, q⟩⟩⟩
theorem lookup_meth {N : List Str} {fs : List (Option M.D)} {gs : List (Str × V)} {m : Str} (r : InsR K ρ H N fs gs) (hm : m ∉ N) : gs.lookup m = none := lookup_out fun z => hm (r.within m z)
theorem w_me_meth {X : Cx} {c k kk n : Nat} {C : Addr} {N ps : List Str} {name : Str} {o e : Expr} {es : List Expr} {mo : M.EM} {m : M.AM} {f : M.F} {pos apos : Pos} {pl : Sem Bool} (cm : ClsM X.K Θ c C N) (h : HasM X.prog X.w X.K X.mg X.base C name k ps (SpM X.K Θ (n + 1) f)) (hr : Room kk X.A) (hk : k ≤ kk) (hm : name ∉ N) (ho : WE X Θ o mo) (ha : WA X Θ (e :: es) m) (ar : Arity m n) (hx : Passes CX0 X E0 := by exact pass0)
    (he : notStar e = true := by rfl) (hpl : es.all notStar = true := by rfl)
    (ht : eval (.Call (.Attribute o name apos) (e :: es) [] pos) X.env = (do
      let ov ← eval o X.env
      standAt apos.atName
      let (f, first) ← holding [ov] (getMethod ov name pl)
      callWith pos f first (backTo pos (starEach (e :: es) X.env)) (backToKw pos (keywordEach [] X.env))) := by rfl) : WE X Θ (.Call (.Attribute o name apos) (e :: es) [] pos) (M.eMeth c f mo m) := by
  delta WA WE at ho ha ⊢
  obtain ⟨g, fd, F, b, mt⟩ := h.ex
  refine (pe_meth ho cm.cl mt F (hr.mono hk) b .nil hx ha (star_cons he) (star_any hpl) ht).up fun σ H Q ρ σ' S st rp h => ⟨ρ, σ', S, st, rp, Post.bind h fun ρ1 H1 x X1 S1 p1 l1 rp1 rx h1 => ?_⟩
  cases x with
  | ref p =>
    have h1' : Post X.K Θ (RelD X.K) ρ1 H1 (match S1[p]? with | some (.ins c' _) => if c' = c then (m σ' S1).bind fun xs s => f (.ref p :: xs) s else .no | _ => .no) Q := h1
    cases q : S1[p]? with
    | none => rw [q] at h1'; exact h1'.elim
    | some ob =>
      rw [q] at h1'
      cases ob with
      | ins c' fs =>
        by_cases hc : c' = c
        · subst hc
          have h2 : Post X.K Θ (RelD X.K) ρ1 H1 (if c' = c' then (m σ' S1).bind fun xs s => f (.ref p :: xs) s else .no) Q := h1'
          rw [if_pos rfl] at h2
          obtain ⟨a, rfl, ha'⟩ := id rx
          obtain ⟨dx, gs, e1, e2⟩ := ins_at cm rp1 ha' q
          refine ⟨a, dx, gs, rfl, e1, lookup_meth e2 hm, ρ1, σ', S1, st.mono p1 l1, rp1, ?_⟩
          cases hM : m σ' S1 with
          | no => rw [hM] at h2; exact h2.elim
          | exc a s => rw [hM] at h2; exact h2
          | ok ds S2 =>
            rw [hM] at h2
            intro ρ2 H2 vs p2 l2 rp2 r2
            rw [List.append_nil]
            exact ⟨ρ2, .ref p :: ds, S2, by rw [List.length_cons, ar _ _ _ _ hM], ⟨_, _, rfl, rx.mono p2 l2, r2⟩, rp2, Post.weak h2 p2 l2⟩
        · have h2 : Post X.K Θ (RelD X.K) ρ1 H1 (if c' = c then (m σ' S1).bind fun xs s => f (.ref p :: xs) s else .no) Q := h1'
          rw [if_neg hc] at h2
          exact h2.elim
      | lst _ => exact h1'.elim
      | dct _ => exact h1'.elim
      | fdc _ => exact h1'.elim
      | dtt _ => exact h1'.elim
      | ftt _ => exact h1'.elim
  | _ => exact h1.elim
theorem w_me_meth0 {X : Cx} {c k kk : Nat} {C : Addr} {N ps : List Str} {name : Str} {o : Expr} {mo : M.EM} {f : M.F} {pos apos : Pos} {pl : Sem Bool} (cm : ClsM X.K Θ c C N) (h : HasM X.prog X.w X.K X.mg X.base C name k ps (SpM X.K Θ 1 f)) (hr : Room kk X.A) (hk : k ≤ kk) (hm : name ∉ N) (ho : WE X Θ o mo) (hx : Passes CX0 X E0 := by exact pass0)
    (ht : eval (.Call (.Attribute o name apos) [] [] pos) X.env = (do
      let ov ← eval o X.env
      standAt apos.atName
      let (f, first) ← holding [ov] (getMethod ov name pl)
      callWith pos f first (backTo pos (starEach [] X.env)) (backToKw pos (keywordEach [] X.env))) := by rfl) : WE X Θ (.Call (.Attribute o name apos) [] [] pos) (M.eMeth c f mo M.aNil) := by
  delta WE at ho ⊢
  obtain ⟨g, fd, F, b, mt⟩ := h.ex
  refine (pe_meth0 ho cm.cl mt F (hr.mono hk) b .nil hx ht).up fun σ H Q ρ σ' S st rp h => ⟨ρ, σ', S, st, rp, Post.bind h fun ρ1 H1 x X1 S1 p1 l1 rp1 rx h1 => ?_⟩
  cases x with
  | ref p =>
    have h1' : Post X.K Θ (RelD X.K) ρ1 H1 (match S1[p]? with | some (.ins c' _) => if c' = c then f [.ref p] S1 else .no | _ => .no) Q := h1
    cases q : S1[p]? with
    | none => rw [q] at h1'; exact h1'.elim
    | some ob =>
      rw [q] at h1'
      cases ob with
      | ins c' fs =>
        by_cases hc : c' = c
        · subst hc
          have h2 : Post X.K Θ (RelD X.K) ρ1 H1 (if c' = c' then f [.ref p] S1 else .no) Q := h1'
          rw [if_pos rfl] at h2
          obtain ⟨a, rfl, ha'⟩ := id rx
          obtain ⟨dx, gs, e1, e2⟩ := ins_at cm rp1 ha' q
          exact ⟨a, dx, gs, rfl, e1, lookup_meth e2 hm, ρ1, [.ref p], S1, rfl, ⟨_, _, rfl, rx, rfl⟩, rp1, h2⟩
        · have h2 : Post X.K Θ (RelD X.K) ρ1 H1 (if c' = c then f [.ref p] S1 else .no) Q := h1'
          rw [if_neg hc] at h2
          exact h2.elim
      | lst _ => exact h1'.elim
      | dct _ => exact h1'.elim
      | fdc _ => exact h1'.elim
      | dtt _ => exact h1'.elim
      | ftt _ => exact h1'.elim
  | _ => exact h1.elim
end
end L2
namespace L2
open PySem PySem.Spec PyProof.Rows
section
variable {P : Program} {w : World} {A : Around} {E : Value → Shared → Prop} {s : Shared}
set_option maxHeartbeats 4000000 in
end
end L2
namespace L2
open PySem PySem.Spec PyProof.Rows
noncomputable def wk : HO → Bool
  | .dK _ => true
  | .ext _ => true
  | _ => false
section
variable {K : PySem.W.Frag} {Θ : Tab} {ρ : List Addr} {H H' : Hp}
section
variable {a : Addr} {o : Obj} {u : HO} (hu : wk u = true) (ha : H a = some (.frz o u))
include hu ha
end
end
end L2
namespace L2
open PySem PySem.Spec PyProof.Rows PySem.SeqAt
section
variable (w : World)
def haD : Nat → M.D → Int
  | _, .non => reduceHash 0xFCA86420
  | _, .int i => hashInt i
  | _, .str x => hashStr w (ofT x)
  | n + 1, .tup ds => reduceHash (Builtin.Tuple.tupleHashOf (ds.map (haD n)))
  | _, _ => 0
end
noncomputable def drD : Nat → M.D → Nat
  | n + 1, .tup ds => (ds.map (drD n)).sum + 1
  | _, _ => 1
mutual
inductive IsV (h : Heap) : Nat → M.D → Value → Prop
  | non {n : Nat} : IsV h n .non .none
  | int {n : Nat} {i : Int} {t : Tok} : IsV h n (.int i) (.int i t)
  | str {n : Nat} {x : M.T} {t : Tok} : IsV h n (.str x) (.str (ofT x) t)
  | tup {n : Nat} {ds : List M.D} {a : Addr} {us : List Value} : h.IsTuple a us.toArray → IsVs h n ds us → IsV h (n + 1) (.tup ds) (.ref a)
inductive IsVs (h : Heap) : Nat → List M.D → List Value → Prop
  | nil {n : Nat} : IsVs h n [] []
  | cons {n : Nat} {d : M.D} {ds : List M.D} {u : Value} {us : List Value} : IsV h n d u → IsVs h n ds us → IsVs h n (d :: ds) (u :: us)
end
theorem tup_one {h : Heap} {a : Addr} {x y : List Value} (p : h.IsTuple a x.toArray) (q : h.IsTuple a y.toArray) : x = y := by
  obtain ⟨o, e, _, n, d⟩ := p
  obtain ⟨o', e', _, n', d'⟩ := q
  rw [e] at e'
  cases e'
  rw [d] at d'
  injection d' with z _
  simpa using z
section
variable {h h' : Heap}
mutual
theorem IsV.inj : ∀ {n : Nat} {x y : M.D} {v : Value}, IsV h n x v → IsV h n y v → x = y
  | _, _, _, _, .non, b => by cases b; rfl
  | _, _, _, _, .int, b => by cases b; rfl
  | _, _, _, _, .str (x := x), b => by
    generalize hv : ofT x = z at b
    cases b
    rw [ofT_inj hv]
  | _, _, _, _, .tup p r, b => by
    cases b with
    | tup q t => rw [tup_one p q] at r; rw [IsVs.inj r t]
theorem IsVs.inj : ∀ {n : Nat} {x y : List M.D} {v : List Value}, IsVs h n x v → IsVs h n y v → x = y
  | _, _, _, _, .nil, b => by cases b; rfl
  | _, _, _, _, .cons p r, b => by
    cases b with
    | cons q t => rw [IsV.inj p q, IsVs.inj r t]
end
mutual
theorem IsV.keep (k : ∀ a us, h.IsTuple a us → h'.IsTuple a us) : ∀ {n : Nat} {x : M.D} {v : Value}, IsV h n x v → IsV h' n x v
  | _, _, _, .non => .non
  | _, _, _, .int => .int
  | _, _, _, .str => .str
  | _, _, _, .tup p r => .tup (k _ _ p) (IsVs.keep k r)
theorem IsVs.keep (k : ∀ a us, h.IsTuple a us → h'.IsTuple a us) : ∀ {n : Nat} {x : List M.D} {v : List Value}, IsVs h n x v → IsVs h' n x v
  | _, _, _, .nil => .nil
  | _, _, _, .cons p r => .cons (IsV.keep k p) (IsVs.keep k r)
end
theorem IsVs.len : ∀ {n : Nat} {x : List M.D} {v : List Value}, IsVs h n x v → x.length = v.length
  | _, _, _, .nil => rfl
  | _, _, _, .cons _ r => by rw [List.length_cons, List.length_cons, r.len]
theorem IsVs.at : ∀ {n : Nat} {x : List M.D} {v : List Value}, IsVs h n x v → ∀ (j : Nat) (h1 : j < x.length) (h2 : j < v.length), IsV h n x[j] v[j]
  | _, _, _, .cons p r, 0, _, _ => p
  | _, _, _, .cons p r, j + 1, h1, h2 => r.at j (by simpa using h1) (by simpa using h2)
end
section
variable {A : Around} {s : Shared}
theorem ofT_beq (x y : M.T) : (ofT x == ofT y) = decide (x = y) := by
  by_cases e : x = y
  · subst e; simp
  · rw [decide_eq_false e]
    exact beq_false_of_ne fun z => e (ofT_inj z)
theorem eq_all {x y : List M.D} : ((List.range (min x.length y.length)).all (fun j => decide (x[j]? = y[j]?)) && x.length == y.length) = decide (x = y) := by
  by_cases e : x = y
  · subst e; simp
  · rw [decide_eq_false e, Bool.and_eq_false_iff]
    by_cases l : x.length = y.length
    · refine .inl ?_
      rw [List.all_eq_false]
      apply Classical.byContradiction
      intro n
      refine e (List.ext_getElem l fun j h1 h2 => ?_)
      have := fun q => n ⟨j, List.mem_range.mpr (by lia), q⟩
      simp [h1, h2] at this
      exact this
    · exact .inr (by simpa using l)
theorem dec_false {α : Type} [DecidableEq α] {x y : α} (h : x ≠ y) : decide (x = y) = false := decide_eq_false h
theorem eqF {A : Around} {x y : M.D} {u v : Value} (h : ¬ x = y) (k : EqAt A s u v false) : EqAt A s u v (decide (x = y)) := by rw [dec_false h]; exact k
theorem int_dec (i j : Int) : decide (M.D.int i = M.D.int j) = (i == j) := by
  by_cases e : i = j
  · subst e; simp
  · rw [dec_false fun z => e (M.D.int.inj z), beq_false_of_ne e]
theorem str_dec (x y : M.T) : decide (M.D.str x = M.D.str y) = (ofT x == ofT y) := by
  rw [ofT_beq]
  by_cases e : x = y
  · subst e; simp
  · rw [dec_false fun z => e (M.D.str.inj z), dec_false e]
theorem tup_eq {n : Nat} {A : Around} {ds es : List M.D} {a b : Addr} {us ws : List Value} (hu : A.units + (n + 1) < cLine)
    (ih : ∀ {A : Around} {x y : M.D} {u v : Value}, A.units + n < cLine → IsV s.heap n x u → IsV s.heap n y v → EqAt A s u v (decide (x = y)))
    (p1 : s.heap.IsTuple a us.toArray) (r1 : IsVs s.heap n ds us) (p2 : s.heap.IsTuple b ws.toArray) (r2 : IsVs s.heap n es ws) : EqAt A s (.ref a) (.ref b) (decide (M.D.tup ds = M.D.tup es)) := by
  have td : decide (M.D.tup ds = M.D.tup es) = decide (ds = es) := by
    by_cases e : ds = es
    · subst e; simp
    · rw [dec_false fun z => e (M.D.tup.inj z), dec_false e]
  rw [td]
  by_cases ab : a = b
  · subst ab
    rw [tup_one p1 p2] at r1
    rw [IsVs.inj r1 r2, decide_eq_true rfl]
    exact EqAt.same _
  · have l1 := r1.len
    have l2 := r2.len
    have z := RcAt.tuples (A := A) (e := fun j => decide (ds[j]? = es[j]?)) p1 p2 (by lia) fun j h1 h2 => by
      have h1' : j < us.length := by simpa using h1
      have h2' : j < ws.length := by simpa using h2
      have := ih (A := A.in1) (by rw [Around.in1_units]; lia) (r1.at j (by lia) h1') (r2.at j (by lia) h2')
      have e : decide (ds[j]? = es[j]?) = decide (ds[j] = es[j]) := by
        rw [List.getElem?_eq_getElem (by lia), List.getElem?_eq_getElem (by lia)]
        by_cases e : ds[j] = es[j]
        · rw [e]; simp
        · rw [dec_false e, dec_false fun z => e (Option.some.inj z)]
      rw [e]
      exact this
    have e1 : us.toArray.size = ds.length := by simp [l1]
    have e2 : ws.toArray.size = es.length := by simp [l2]
    rw [e1, e2, eq_all] at z
    exact EqAt.of_refs ab z
theorem IsV.eq : ∀ {n : Nat} {A : Around} {x y : M.D} {u v : Value}, A.units + n < cLine → IsV s.heap n x u → IsV s.heap n y v → EqAt A s u v (decide (x = y)) := by
  intro n
  induction n with
  | zero =>
    intro A x y u v hu p q
    cases p with
    | non =>
      cases q with
      | non => rw [decide_eq_true rfl]; exact EqAt.same _
      | int => refine eqF (fun z => nomatch z) ?_; exact EqAt.none_int _ _
      | str => refine eqF (fun z => nomatch z) ?_; exact EqAt.none_str _ _
    | int =>
      cases q with
      | non => refine eqF (fun z => nomatch z) ?_; exact EqAt.int_none _ _
      | int => rw [int_dec]; exact EqAt.int_int _ _ _ _
      | str => refine eqF (fun z => nomatch z) ?_; exact EqAt.int_str _ _ _ _
    | str =>
      cases q with
      | non => refine eqF (fun z => nomatch z) ?_; exact EqAt.str_none _ _
      | int => refine eqF (fun z => nomatch z) ?_; exact EqAt.str_int _ _ _ _
      | str => rw [str_dec]; exact EqAt.str_str _ _ _ _
  | succ n ih =>
    intro A x y u v hu p q
    cases p with
    | non =>
      cases q with
      | non => rw [decide_eq_true rfl]; exact EqAt.same _
      | int => refine eqF (fun z => nomatch z) ?_; exact EqAt.none_int _ _
      | str => refine eqF (fun z => nomatch z) ?_; exact EqAt.none_str _ _
      | tup p2 r2 => refine eqF (fun z => nomatch z) ?_; exact EqAt.none_tuple p2 (by lia)
    | int =>
      cases q with
      | non => refine eqF (fun z => nomatch z) ?_; exact EqAt.int_none _ _
      | int => rw [int_dec]; exact EqAt.int_int _ _ _ _
      | str => refine eqF (fun z => nomatch z) ?_; exact EqAt.int_str _ _ _ _
      | tup p2 r2 => refine eqF (fun z => nomatch z) ?_; exact EqAt.int_tuple _ _ p2 (by lia)
    | str =>
      cases q with
      | non => refine eqF (fun z => nomatch z) ?_; exact EqAt.str_none _ _
      | int => refine eqF (fun z => nomatch z) ?_; exact EqAt.str_int _ _ _ _
      | str => rw [str_dec]; exact EqAt.str_str _ _ _ _
      | tup p2 r2 => refine eqF (fun z => nomatch z) ?_; exact EqAt.str_tuple _ _ p2 (by lia)
    | tup p1 r1 =>
      cases q with
      | non => refine eqF (fun z => nomatch z) ?_; exact EqAt.tuple_none p1 (by lia)
      | int => refine eqF (fun z => nomatch z) ?_; exact EqAt.tuple_int _ _ p1 (by lia)
      | str => refine eqF (fun z => nomatch z) ?_; exact EqAt.tuple_str _ _ p1 (by lia)
      | tup p2 r2 => exact tup_eq hu (fun {A x y u v} => ih (A := A) (x := x) (y := y) (u := u) (v := v)) p1 r1 p2 r2
end
section
variable {pg : Program} {w : World} {Er : Value → Shared → Prop}
def HasHash (pg : Program) (w : World) (Er : Value → Shared → Prop) (n : Nat) : Prop := ∀ {A : Around} {s : Shared} {d : M.D} {v : Value} {Q : Int → Shared → Prop}, A.units + n < cLine → IsV s.heap n d v → Q (haD w n d) { s with toks := s.toks + drD n d } → wpAny (model pg w) A (pyHash v) Q Er s
theorem hash_loop {n : Nat} (ih : HasHash pg w Er n) {A : Around} (hu : A.units + n < cLine) : ∀ {vs : List Value} {ds : List M.D} {s : Shared} {b : Array Int} {Q : Array Int → Shared → Prop}, IsVs s.heap n ds vs →
    (∀ b', b'.toList = b.toList ++ ds.map (haD w n) → Q b' { s with toks := s.toks + (ds.map (drD n)).sum }) →
    wpAny (model pg w) A (forIn vs b fun x r => pyHash x >>= fun y => (pure PUnit.unit : Sem PUnit) >>= fun _ => pure (ForInStep.yield (r.push y))) Q Er s := by
  intro vs
  induction vs with
  | nil =>
    intro ds s b Q r h
    cases r
    rw [List.forIn_nil]
    exact wpAny_pure (h b (by simp))
  | cons v vs hv =>
    intro ds s b Q r h
    cases r with
    | @cons _ d ds' _ _ r1 r2 =>
      rw [List.forIn_cons]
      apply wpAny_bind
      apply wpAny_bind
      apply ih hu r1
      apply wpAny_bind
      apply wpAny_pure
      apply wpAny_pure
      refine hv (s := { s with toks := s.toks + drD n d }) r2 fun b' e => ?_
      have := h b' (by rw [e]; simp)
      simpa [Nat.add_assoc] using this
theorem IsV.hash : ∀ n, HasHash pg w Er n := by
  have leaf : ∀ {n : Nat} {A : Around} {s : Shared} {d : M.D} {v : Value} {Q : Int → Shared → Prop}, (∀ ds, d ≠ .tup ds) → IsV s.heap n d v → Q (haD w n d) { s with toks := s.toks + drD n d } → wpAny (model pg w) A (pyHash v) Q Er s := by
    intro n A s d v Q nt p h
    cases p with
    | non =>
      refine PySem.W.pyHash_slot (T := "NoneType") rfl F.slot_NoneType_hash F.entry_NoneType_hash (F.args_NoneType_hash_1 _) (beq_builtin_none _) (.inl rfl) ?_
      apply wpAny_bind
      apply wpAny_pure
      apply wpAny_bind
      apply wpAny_mkInt
      apply wpAny_pure
      exact ⟨_, _, rfl, by cases n <;> exact h⟩
    | int => exact wpAny_pyHash_int (by cases n <;> exact h)
    | str => exact wpAny_pyHash_str (by cases n <;> exact h)
    | tup _ _ => exact absurd rfl (nt _)
  intro n
  induction n with
  | zero => intro A s d v Q hu p h; exact leaf (fun ds e => by subst e; cases p) p h
  | succ n ih =>
    intro A s d v Q hu p h
    cases p with
    | non => exact leaf (fun _ e => by cases e) .non h
    | int => exact leaf (fun _ e => by cases e) .int h
    | str => exact leaf (fun _ e => by cases e) .str h
    | @tup _ ds a us q r =>
      obtain ⟨o, o1, o2, nn, o3⟩ := q
      refine PySem.W.pyHash_slot (T := "tuple") ⟨o, o1, o2⟩ F.slot_tuple_hash F.entry_tuple_hash (F.args_tuple_hash_1 _) (beq_builtin_none _) (.inr (by lia)) ?_
      change wpAny _ _ (Builtin.Tuple.tupleItemsOf (.ref a) >>= _) _ _ s
      apply wpAny_bind
      apply wpAny_tupleItemsOf o1 o3
      apply wpAny_bind
      rw [← Array.forIn_toList]
      refine hash_loop ih (A := A.in1) (by rw [Around.in1_units]; lia) r fun b' e => ?_
      change wpAny _ _ (retInt (Builtin.Tuple.tupleHashOf b'.toList)) _ _ _
      rw [e]
      apply wpAny_bind
      apply wpAny_mkInt
      apply wpAny_pure
      refine ⟨_, _, rfl, ?_⟩
      have h' := h
      simp only [haD, drD] at h'
      simpa [Nat.add_assoc] using h'
theorem IsV.quiet : ∀ {n k : Nat} {A : Around} {s : Shared} {d : M.D} {v : Value} {Q : Bool → Shared → Prop}, n ≤ k → IsV s.heap n d v → Q true s → wpAny (model pg w) A (eqIsQuiet k v) Q Er s := by
  have leaf : ∀ {n k : Nat} {A : Around} {s : Shared} {d : M.D} {v : Value} {Q : Bool → Shared → Prop}, (∀ ds, d ≠ .tup ds) → IsV s.heap n d v → Q true s → wpAny (model pg w) A (eqIsQuiet k v) Q Er s := by
    intro n k A s d v Q nt p q
    have : eqIsQuiet k v = pure true := by
      cases p with
      | non => exact eqIsQuiet_byValue k rfl
      | int => exact eqIsQuiet_byValue k rfl
      | str => exact eqIsQuiet_byValue k rfl
      | tup _ _ => exact absurd rfl (nt _)
    rw [this]
    exact wpAny_pure q
  intro n
  induction n with
  | zero => intro k A s d v Q hk p q; exact leaf (fun ds e => by subst e; cases p) p q
  | succ n ih =>
    intro k A s d v Q hk p q
    cases p with
    | non => exact leaf (n := n) (fun _ e => by cases e) .non q
    | int => exact leaf (n := n) (fun _ e => by cases e) .int q
    | str => exact leaf (n := n) (fun _ e => by cases e) .str q
    | @tup _ ds a us t r =>
      obtain ⟨k, rfl⟩ : ∃ j, k = j + 1 := ⟨k - 1, by lia⟩
      obtain ⟨o, o1, o2, nn, o3⟩ := t
      have ty : s.TypeIs (.ref a) "tuple" := ⟨o, o1, o2⟩
      unfold eqIsQuiet
      apply wpAny_bind
      apply wpAny_specialOf ty F.slot_tuple_eq.lookup
      change wpAny _ _ (isInstance (.ref a) (.type "tuple") >>= _) _ _ s
      apply wpAny_bind
      apply wpAny_isInstance ty isSubtype_tuple_tuple
      simp only [Bool.not_true, Bool.false_eq_true, if_false]
      apply wpAny_bind
      apply wpAny_seqItems o1 o3
      apply wpAny_bind
      change wpAny _ _ (forIn us.toArray _ _) _ _ s
      rw [← Array.forIn_toList]
      refine wpAny_forIn_list _ (fun l b s1 => b.1 = none ∧ s1 = s ∧ ∃ es, IsVs s.heap n es l) _ ?_ ?_ _ _ ⟨rfl, rfl, ds, r⟩
      · intro y l b s1 ⟨e1, e2, es, r'⟩
        cases e2
        cases r' with
        | cons r1 r2 =>
          apply wpAny_bind
          apply ih (by lia) r1
          simp only [Bool.not_true, Bool.false_eq_true, if_false]
          apply wpAny_pure
          exact ⟨rfl, rfl, _, r2⟩
      · intro b s1 ⟨e1, e2, _⟩
        cases e2
        obtain ⟨b1, b2⟩ := b
        cases (show b1 = none from e1)
        exact wpAny_pure q
end
noncomputable def kyK (pg : Program) (w : World) : HeapKind pg w M.D where
  is := fun h d a => (∃ ds, d = .tup ds) ∧ IsV h 7 d (.ref a)
  hash := haD w 7
  draws := drD 7
  room := fun A => A.units + 7 < cLine
  inj := fun p q => IsV.inj p.2 q.2
  keeps := fun {h h' k a d o es ep} p ho hd hs => ⟨p.1, p.2.keep fun b us ⟨ob, e, c, n, dd⟩ => ⟨ob, (hs.2 b (fun z => by subst z; rw [ho] at e; cases e; rw [hd] at dd; cases dd)).trans e, c, n, dd⟩⟩
  pyHash := fun hu p q => IsV.hash 7 hu p.2 q
  eqBool := fun hu p q h => IsV.eq hu p.2 q.2 _ _ _ _ h
  quiet := fun p q => IsV.quiet (by lia) p.2 q
section
variable {pg : Program} {w : World} {κ : Type} [DecidableEq κ] {kn : HeapKind pg w κ} {A : Around} {Er : Value → Shared → Prop} {s : Shared} {d a : Addr} {k : κ} {xs : List (κ × Addr × Value)}
theorem erase_filter : ∀ {xs : List (κ × Addr × Value)} {j : Nat} {p : Addr × Value}, (xs.map (·.1)).Nodup → xs[j]? = some (k, p) → xs.eraseIdx j = xs.filter fun x => decide (x.1 ≠ k)
  | [], _, _, _, h => by simp at h
  | x :: xs, 0, p, nd, h => by
    simp only [List.getElem?_cons_zero, Option.some.injEq] at h
    subst h
    rw [List.map_cons, List.nodup_cons] at nd
    rw [List.eraseIdx_cons_zero, List.filter_cons_of_neg (by simp)]
    refine (List.filter_eq_self.mpr fun y hy => ?_).symm
    refine decide_eq_true fun e => nd.1 ?_
    exact List.mem_map.mpr ⟨y, hy, e⟩
  | x :: xs, j + 1, p, nd, h => by
    rw [List.map_cons, List.nodup_cons] at nd
    have h' : xs[j]? = some (k, p) := by simpa using h
    rw [List.eraseIdx_cons_succ, erase_filter nd.2 h', List.filter_cons_of_pos]
    refine decide_eq_true fun e => nd.1 ?_
    rw [e]
    exact List.mem_map.mpr ⟨(k, p), List.mem_of_getElem? h', rfl⟩
theorem map_erase {α β : Type} (f : α → β) : ∀ (xs : List α) (j : Nat), (xs.map f).eraseIdx j = (xs.eraseIdx j).map f
  | [], _ => rfl
  | _ :: _, 0 => rfl
  | x :: xs, j + 1 => by rw [List.map_cons, List.eraseIdx_cons_succ, List.eraseIdx_cons_succ, List.map_cons, map_erase f xs j]
theorem take_H {Q : Option DictEntry → Shared → Prop} (hu : kn.room A) (hk : kn.is s.heap k a) (hm : s.heap.DictOfH kn d xs) (hz : xs.length ≤ sizeLine)
    (h0 : atKey xs k = none → Q none { s with toks := s.toks + kn.draws k })
    (h1 : ∀ p e h', atKey xs k = some p → e.val = p.2 → h'.DictOfH kn d (xs.filter fun x => decide (x.1 ≠ k)) → Heap.SameBut d s.heap h' → Q (some e) { s with heap := h', toks := s.toks + kn.draws k }) :
    wpAny (model pg w) A (Builtin.Dict.takeOut d (.ref a)) Q Er s := by
  obtain ⟨o, es, ep, ho, hc, hd, he, hi, hn⟩ := hm
  unfold Builtin.Dict.takeOut
  apply wpAny_holding
  apply wpAny_bind
  apply kn.pyHash hu hk
  apply wpAny_bind
  refine wpAny_dictFind_heap (s := { s with toks := s.toks + kn.draws k }) hu hk ho hd he hi hn (fun no => wpAny_pure (h0 (atKey_none_of_get no))) fun j p hj => ?_
  apply wpAny_bind
  refine wpAny_dictEntries (s := { s with toks := s.toks + kn.draws k }) ho hd ?_
  rw [entry_at he j, hj]
  apply wpAny_bind
  have ez := size_of_entries he
  have hj' : j < xs.length := (List.getElem?_eq_some_iff.mp hj).1
  refine wpAny_updateDictKeys (hz := by lia) (s := { s with toks := s.toks + kn.draws k }) ho hd (wpAny_pure (h1 p _ _ (atKey_of_get hn hj) rfl ?_ (Heap.SameBut.update ..)))
  · refine ⟨_, _, ep + 1, Heap.get?_update_self _ ho (Obj.isFreed_of_dict (Obj.data_mapDictKeys hd _)), hc.mapDictKeys _, Obj.data_mapDictKeys hd _, ?_, fun x hx => ?_, ?_⟩
    · rw [← erase_filter hn hj]
      obtain ⟨l⟩ := es
      have hl : l = xs.map (entryOfKey kn) := he
      subst hl
      show (Array.eraseIdxIfInBounds ⟨xs.map (entryOfKey kn)⟩ j).toList = _
      unfold Array.eraseIdxIfInBounds
      rw [dif_pos (by simpa using hj')]
      rw [← map_erase]
      simp
    · exact kn.keeps (hi x ((List.mem_filter.mp hx).1)) ho hd (Heap.SameBut.update ..)
    · exact hn.sublist (List.Sublist.map _ List.filter_sublist)
theorem some_entries {es : Array DictEntry} (hp : atKey xs k ≠ none) (he : es.toList = xs.map (entryOfKey kn)) : es.isEmpty = false := by
  have := size_of_entries he
  cases xs with
  | nil => exact absurd rfl hp
  | cons _ _ =>
    obtain ⟨l⟩ := es
    cases l with
    | nil => simp at this
    | cons _ _ => rfl
theorem meets_pop {more : List Value} (hr : more = [] ∨ ∃ x, more = [x]) : MeetsIn pg w (Builtin.«dict.pop» ⟨.ref d :: .ref a :: more, []⟩) (fun A R s => kn.room A.in1 ∧ ∃ xs k p, kn.is s.heap k a ∧ s.heap.DictOfH kn d xs ∧ xs.length ≤ sizeLine ∧ atKey xs k = some p ∧
    ∀ h', h'.DictOfH kn d (xs.filter fun x => decide (x.1 ≠ k)) → Heap.SameBut d s.heap h' → R (.ok (.ret p.2)) { s with heap := h', toks := s.toks + kn.draws k }) :=
  .of_wp fun A R s zq => by
    obtain ⟨hu, xs, k, p, hk, hm, hz, hp, q⟩ := zq
    obtain ⟨o, es, ep, ho, hc, hd, he, hi, hn⟩ := id hm
    have ne := some_entries (k := k) (fun z => by rw [z] at hp; cases hp) he
    unfold Builtin.«dict.pop»
    apply wpAny_bind
    unfold Builtin.Dict.keyAndDefault
    apply wpAny_bind
    apply wpAny_notOrdered_dict hm.typeIs
    have fin : ∀ (df : Option Value) (e : DictEntry) (h' : Heap), e.val = p.2 → h'.DictOfH kn d (xs.filter fun x => decide (x.1 ≠ k)) → Heap.SameBut d s.heap h' →
        wpAny (model pg w) A.in1 (letGo [e.key] [e.val] >>= fun _ => ret e.val) (fun f s' => ∃ v, f = .done (.ret v) ∧ R (.ok (.ret v)) s') (fun e s' => R (.error e) s') { s with heap := h', toks := s.toks + kn.draws k } := by
      intro df e h' e2 e3 e4
      apply wpAny_bind
      apply wpAny_letGo
      apply wpAny_pure
      exact ⟨_, rfl, by rw [e2]; exact q h' e3 e4⟩
    have kp : ¬ (keyPart (Value.ref a)).isSome = true := by simp [keyPart]
    rcases hr with rfl | ⟨x, rfl⟩
    · change wpAny _ _ (pure (d, Value.ref a, none)) _ _ s
      apply wpAny_pure
      dsimp only
      rw [if_neg kp]
      repeat first
        | (with_reducible refine wpAny_dictEntries ho hd ?_)
        | (with_reducible refine wpAny_pure ?_)
        | (with_reducible refine wpAny_bind ?_)
      rw [if_neg (by rw [ne]; exact Bool.false_ne_true)]
      apply wpAny_bind
      refine take_H hu hk hm hz (fun z => by rw [z] at hp; cases hp) fun p' e h' e1 e2 e3 e4 => ?_
      cases hp.symm.trans e1
      exact fin none e h' e2 e3 e4
    · change wpAny _ _ (pure (d, Value.ref a, some x)) _ _ s
      apply wpAny_pure
      dsimp only
      rw [if_neg kp]
      repeat first
        | (with_reducible refine wpAny_dictEntries ho hd ?_)
        | (with_reducible refine wpAny_pure ?_)
        | (with_reducible refine wpAny_bind ?_)
      rw [if_neg (by rw [ne]; exact Bool.false_ne_true)]
      apply wpAny_bind
      refine take_H hu hk hm hz (fun z => by rw [z] at hp; cases hp) fun p' e h' e1 e2 e3 e4 => ?_
      cases hp.symm.trans e1
      exact fin none e h' e2 e3 e4
theorem meets_pop0 {x : Value} (hs : (d == sysModules) = false) : MeetsIn pg w (Builtin.«dict.pop» ⟨[.ref d, .ref a, x], []⟩) (fun A R s => kn.room A.in1 ∧ ∃ xs k, kn.is s.heap k a ∧ s.heap.DictOfH kn d xs ∧ xs.length ≤ sizeLine ∧ atKey xs k = none ∧
    ∀ t, s.toks ≤ t → R (.ok (.ret x)) { s with toks := t }) :=
  .of_wp fun A R s zq => by
    obtain ⟨hu, xs, k, hk, hm, hz, hp, q⟩ := zq
    obtain ⟨o, es, ep, ho, hc, hd, he, hi, hn⟩ := id hm
    unfold Builtin.«dict.pop»
    apply wpAny_bind
    unfold Builtin.Dict.keyAndDefault
    apply wpAny_bind
    apply wpAny_notOrdered_dict hm.typeIs
    have kp : ¬ (keyPart (Value.ref a)).isSome = true := by simp [keyPart]
    change wpAny _ _ (pure (d, Value.ref a, some x)) _ _ s
    apply wpAny_pure
    dsimp only
    rw [if_neg kp]
    have fin : ∀ t, s.toks ≤ t → wpAny (model pg w) A.in1 (Builtin.Dict.missedRemoval d (.ref a) >>= fun _ => rule "dict.pop.default" >>= fun _ => ret x) (fun f s' => ∃ v, f = .done (.ret v) ∧ R (.ok (.ret v)) s') (fun e s' => R (.error e) s') { s with toks := t } := by
      intro t ht
      apply wpAny_bind
      apply wpAny_missedRemoval_other hs
      apply wpAny_bind
      apply wpAny_rule
      apply wpAny_pure
      exact ⟨_, rfl, q t ht⟩
    cases hE : es.isEmpty with
    | true =>
      repeat first
        | (with_reducible refine wpAny_dictEntries ho hd ?_)
        | (with_reducible refine wpAny_pure ?_)
        | (with_reducible refine wpAny_bind ?_)
      rw [if_pos hE]
      apply wpAny_bind
      apply wpAny_rule
      apply wpAny_bind
      apply wpAny_pure
      exact fin s.toks (Nat.le_refl _)
    | false =>
      repeat first
        | (with_reducible refine wpAny_dictEntries ho hd ?_)
        | (with_reducible refine wpAny_pure ?_)
        | (with_reducible refine wpAny_bind ?_)
      rw [if_neg (by rw [hE]; exact Bool.false_ne_true)]
      apply wpAny_bind
      refine take_H hu hk hm hz (fun _ => ?_) fun p' e h' e1 e2 e3 e4 => ?_
      · exact fin _ (Nat.le_add_right _ _)
      · cases hp.symm.trans e1
end
section
variable {X : Cx} {pins : List (Addr × Obj)} {σ : St} {H : Hp} {s : Shared}
theorem isV_of (I : Inv X pins σ H s) {ρ : List Addr} : ∀ {n : Nat} {d : M.D} {x : V} {u : Value}, M.kyD n d = true → RelD X.K ρ H d x → RelV x u → IsV s.heap n d u := by
  intro n
  induction n with
  | zero =>
    intro d x u k r rv
    cases d with
    | non => cases r; cases rv; exact .non
    | int i => cases r; obtain ⟨t, rfl⟩ := rv; exact .int
    | str z => obtain ⟨rfl, _⟩ := r; obtain ⟨t, rfl⟩ := rv; exact .str
    | _ => cases k
  | succ n ih =>
    intro d x u k r rv
    cases d with
    | non => cases r; cases rv; exact .non
    | int i => cases r; obtain ⟨t, rfl⟩ := rv; exact .int
    | str z => obtain ⟨rfl, _⟩ := r; obtain ⟨t, rfl⟩ := rv; exact .str
    | tup ds =>
      obtain ⟨a, xs, rfl, q, r⟩ := r
      cases rv
      obtain ⟨its, vs, pl, _⟩ := I.tuple q
      have go : ∀ (ds : List M.D) (xs : List V) (its : List Value), ds.all (M.kyD n) = true → RelD.all X.K ρ H ds xs → Vals xs its → IsVs s.heap n ds its := by
        intro ds
        induction ds with
        | nil => intro xs its _ r vs; cases r; cases vs; exact .nil
        | cons d ds ih2 =>
          intro xs its k r vs
          obtain ⟨y, ys, rfl, r1, r2⟩ := r
          rw [List.all_cons, Bool.and_eq_true] at k
          cases vs with
          | cons v1 v2 => exact .cons (ih k.1 r1 v1) (ih2 _ _ k.2 r2 v2)
      exact .tup (us := its) pl (go ds xs its k r vs)
    | _ => cases k
def KyOk (K : PySem.W.Frag) (H : Hp) (d : M.D) (x : V) : Prop := M.kyT d = true ∧ ∃ ρ, RelD K ρ H d x
theorem KyOk.is {d : M.D} {x : V} {u : Value} (k : KyOk X.K H d x) (I : Inv X pins σ H s) (r : RelV x u) : ∃ b, u = .ref b ∧ (kyK X.prog X.w).is s.heap d b := by
  obtain ⟨k, ρ, rd⟩ := k
  cases d with
  | tup ds =>
    have v := isV_of I (n := 7) k rd r
    obtain ⟨a, xs, rfl, _⟩ := rd
    cases r
    exact ⟨a, rfl, ⟨ds, rfl⟩, v⟩
  | _ => cases k
end
section
variable {pg : Program} {w : World} {A : Around} {Er : Value → Shared → Prop} {s : Shared} {d it : Addr} {es : Array DictEntry} {i ep : Nat}
def DAt (h : Heap) (d : Addr) (es : Array DictEntry) (ep : Nat) : Prop := ∃ o, h.get? d = some o ∧ o.ExactDict ∧ o.data = .dict es ep
theorem DAt.ty (x : DAt s.heap d es ep) : s.TypeIs (.ref d) "dict" := let ⟨o, e, c, _⟩ := x; ⟨o, e, c.1⟩
theorem it_dict {Q : Value → Shared → Prop} (ns : (d == sysModules) = false) (x : DAt s.heap d es ep)
    (q : Q (.ref s.heap.objs.size) { s with heap := s.heap.push { cls := .type "dict_keyiterator", data := .fields #[.ref d, .int 0 0, .int es.size 0, .int ep 0] } }) : wpAny (model pg w) A (pyIter (.ref d)) Q Er s := by
  obtain ⟨o, e1, e2, e3⟩ := id x
  refine wpAny_pyIter_slot x.ty F.slot_dict_iter (wpAny_call_entry F.slot_dict_iter x.ty F.entry_dict_iter ?_ (F.args_dict_iter_1 _))
  unfold Builtin.«dict.__iter__» Builtin.Dict.dictSlotNone
  apply wpAny_bind
  apply wpAny_bind
  apply wpAny_notOrdered_dict x.ty
  change wpAny _ _ (pure (Value.ref d)) _ _ s
  apply wpAny_pure
  change wpAny _ _ (Builtin.Dict.showsAll d >>= _) _ _ s
  unfold Builtin.Dict.showsAll
  rw [ns, if_neg Bool.false_ne_true]
  apply wpAny_bind
  apply wpAny_pure
  apply wpAny_bind
  apply wpAny_dictEntries e1 e3
  apply wpAny_bind
  apply wpAny_dictEpoch e1 e3
  apply wpAny_bind
  refine wpAny_newObj_type ?_ (by size_fits)
  apply wpAny_pure
  refine ⟨_, rfl, "dict_keyiterator", _, ⟨_, Heap.get?_push_size _ rfl, rfl⟩, F.slot_dict_keyiterator_next.lookup, ?_⟩
  simpa [rawInt] using q
theorem key_next {Q : PySem.Fin → Shared → Prop} (hi : s.heap.IsKeyIter it d i es.size ep) (x : DAt s.heap d es ep) (hx : i < es.size)
    (q : ∀ h', h'.IsKeyIter it d (i + 1) es.size ep → Heap.SameBut it s.heap h' → Q (.done (.ret es[i].key)) { s with heap := h' }) :
    wpAny (model pg w) A (Builtin.«dict_keyiterator.__next__» ⟨[.ref it], []⟩) Q Er s := by
  have ty := hi.typeIs
  obtain ⟨o, e1, e2, e3⟩ := id hi
  obtain ⟨od, f1, f2, f3⟩ := id x
  apply wpAny_bind
  apply wpAny_pure
  apply wpAny_bind
  apply wpAny_bind
  first
    | refine wpAny_bind (wpAny_typeNameOfWhole_keyiter ty ?_)
    | refine wpAny_bind (wpAny_typeNameOf_keyiter ty ?_)
  apply wpAny_pure
  apply wpAny_bind
  apply wpAny_fieldsOf e1 e3
  have ow : Builtin.Dict_items.ownsTuple "dict_keyiterator" = false := by decide
  simp only [ow, Bool.false_eq_true, if_false]
  change wpAny _ _ (if (Value.ref d == Value.none) = true then _ else _) _ _ s
  rw [if_neg (show ¬ (Value.ref d == Value.none) = true from Bool.false_ne_true)]
  apply wpAny_bind
  apply wpAny_pure
  apply wpAny_bind
  apply wpAny_dictEntries f1 f3
  rw [if_neg (by simp)]
  apply wpAny_bind
  apply wpAny_pure
  apply wpAny_bind
  apply wpAny_dictEpoch f1 f3
  rw [if_neg (by simp)]
  apply wpAny_pure
  have ni : ¬ (i : Int) < 0 := by lia
  simp only [ni, if_false, Int.toNat_natCast, Array.getElem?_eq_getElem hx]
  apply wpAny_bind
  first
    | refine wpAny_bind (wpAny_typeNameOfWhole_keyiter ty ?_)
    | refine wpAny_bind (wpAny_typeNameOf_keyiter ty ?_)
  apply wpAny_pure
  apply wpAny_bind
  apply wpAny_isOneOf_keyiter ty
  change wpAny _ _ (setField (.ref it) 1 (rawInt ((i : Int) + 1)) >>= _) _ _ s
  apply wpAny_bind
  refine wpAny_setField e1 e3 (by simp) ?_
  generalize hg : s.heap.update it (Obj.mapFields (·.setIfInBounds 1 (rawInt ((i : Int) + 1)))) = g
  have gi : g.IsKeyIter it d (i + 1) es.size ep := by
    rw [← hg]
    refine ⟨_, Heap.get?_update_self _ e1 (Obj.isFreed_of_fields (Obj.data_mapFields e3 _)), (Obj.cls_mapFields ..).trans e2, ?_⟩
    rw [Obj.data_mapFields e3]
    simp [rawInt]
  have gs : Heap.SameBut it s.heap g := by rw [← hg]; exact Heap.SameBut.update ..
  apply wpAny_bind
  apply wpAny_holding
  apply wpAny_bind
  apply wpAny_isOneOf_keyiter (s := { s with heap := g }) gi.typeIs
  change wpAny _ _ (pure es[i].key) _ _ _
  apply wpAny_pure
  apply wpAny_pure
  exact q g gi gs
theorem key_end {Q : PySem.Fin → Shared → Prop} (hh : A.handled = none) (hi : s.heap.IsKeyIter it d i es.size ep) (x : DAt s.heap d es ep) (hx : es.size ≤ i)
    (q : ∀ h' e, Heap.ExtBut it s.heap h' → Shared.TypeIs { s with heap := h' } e "StopIteration" → Er e { s with heap := h' }) :
    wpAny (model pg w) A (Builtin.«dict_keyiterator.__next__» ⟨[.ref it], []⟩) Q Er s := by
  have ty := hi.typeIs
  obtain ⟨o, e1, e2, e3⟩ := id hi
  obtain ⟨od, f1, f2, f3⟩ := id x
  apply wpAny_bind
  apply wpAny_pure
  apply wpAny_bind
  apply wpAny_bind
  first
    | refine wpAny_bind (wpAny_typeNameOfWhole_keyiter ty ?_)
    | refine wpAny_bind (wpAny_typeNameOf_keyiter ty ?_)
  apply wpAny_pure
  apply wpAny_bind
  apply wpAny_fieldsOf e1 e3
  have ow : Builtin.Dict_items.ownsTuple "dict_keyiterator" = false := by decide
  simp only [ow, Bool.false_eq_true, if_false]
  change wpAny _ _ (if (Value.ref d == Value.none) = true then _ else _) _ _ s
  rw [if_neg (show ¬ (Value.ref d == Value.none) = true from Bool.false_ne_true)]
  apply wpAny_bind
  apply wpAny_pure
  apply wpAny_bind
  apply wpAny_dictEntries f1 f3
  rw [if_neg (by simp)]
  apply wpAny_bind
  apply wpAny_pure
  apply wpAny_bind
  apply wpAny_dictEpoch f1 f3
  rw [if_neg (by simp)]
  apply wpAny_pure
  have ni : ¬ (i : Int) < 0 := by lia
  simp only [ni, if_false, Int.toNat_natCast, Array.getElem?_eq_none hx]
  apply wpAny_bind
  first
    | refine wpAny_bind (wpAny_typeNameOfWhole_keyiter ty ?_)
    | refine wpAny_bind (wpAny_typeNameOf_keyiter ty ?_)
  apply wpAny_pure
  change wpAny _ _ (setField (.ref it) 0 .none >>= _) _ _ s
  apply wpAny_bind
  refine wpAny_setField e1 e3 (by simp) ?_
  change wpAny _ _ (newExc (.type "StopIteration") [] >>= _) _ _ _
  apply wpAny_bind
  simp only [newExc, newTuple]
  apply wpAny_bind
  refine wpAny_newObj_type ?_ (by size_fits)
  refine wpAny_bind (m := firstArgMember _ _) (wpAny_of_eq (a := Value.none) ?_ ?_)
  · first
      | rfl
      | (simp only [firstArgMember]; rfl)
  refine wpAny_newObj_type ?_ (by size_fits)
  simp only [raiseNew]
  apply wpAny_bind
  apply wpAny_handled
  rw [hh]
  refine wpAny_throw ?_
  exact q _ _ (((Heap.SameBut.update ..).extBut.push _).push _) ⟨_, Heap.get?_push_size _ rfl, rfl⟩
theorem nextK {Q : Option Value → Shared → Prop} (st : s.heap.IsKeyIter it d i es.size ep) (x : DAt s.heap d es ep) (hx : i < es.size)
    (q : ∀ h', h'.IsKeyIter it d (i + 1) es.size ep → Heap.SameBut it s.heap h' → Q (some es[i].key) { s with heap := h' }) : wpAny (model pg w) A (pyNext (.ref it)) Q Er s := by
  unfold pyNext
  apply wpAny_bind
  apply wpAny_attempt
  refine wpAny_callSpecial?_slot (name := Str.ofString "__next__") st.typeIs F.slot_dict_keyiterator_next (wpAny_call_entry F.slot_dict_keyiterator_next st.typeIs F.entry_dict_keyiterator_next ?_ (F.args_dict_keyiterator_next_1 _))
  exact key_next st x hx fun h' k1 k2 => ⟨_, rfl, wpAny_pure (q h' k1 k2)⟩
theorem nextE {Q : Option Value → Shared → Prop} (hh : A.handled = none) (st : s.heap.IsKeyIter it d i es.size ep) (x : DAt s.heap d es ep) (hx : es.size ≤ i)
    (q : ∀ h', Heap.ExtBut it s.heap h' → Q none { s with heap := h' }) : wpAny (model pg w) A (pyNext (.ref it)) Q Er s := by
  unfold pyNext
  apply wpAny_bind
  apply wpAny_attempt
  refine wpAny_callSpecial?_slot (name := Str.ofString "__next__") st.typeIs F.slot_dict_keyiterator_next (wpAny_call_entry F.slot_dict_keyiterator_next st.typeIs F.entry_dict_keyiterator_next ?_ (F.args_dict_keyiterator_next_1 _))
  refine key_end hh st x hx fun h' e k1 k2 => ?_
  apply wpAny_bind
  apply wpAny_isInstance (T := "StopIteration") (b := true) k2 isSubtype_stop
  apply wpAny_pure
  exact q h' k1
theorem walkE (hh : A.handled = none) (ne : d ≠ it) : Walks pg w A it [it, d] [it] es.size (fun i v => ∃ e, es[i]? = some e ∧ v = e.key) (fun i h => h.IsKeyIter it d i es.size ep ∧ DAt h d es ep) where
  sub := fun b hb => List.mem_cons.mpr (.inl (List.mem_singleton.mp hb))
  frame := fun _ _ _ st hk => ⟨st.1.at fun o e => hk it (List.mem_cons_self) o e, let ⟨o, e, r⟩ := st.2; ⟨o, hk d (List.mem_cons_of_mem _ (List.mem_singleton.mpr rfl)) o e, r⟩⟩
  item := fun i s Q E hi st hQ => nextK st.1 st.2 hi fun h' k1 k2 => hQ _ h' s.toks ⟨es[i], by simp [hi], rfl⟩ ⟨k1, let ⟨o, e, r⟩ := st.2; ⟨o, k2.extBut d o ne e, r⟩⟩ fun b o hb e => k2.extBut b o (fun z => hb (by rw [z]; exact List.mem_singleton.mpr rfl)) e
  done := fun s Q E st hQ => nextE hh st.1 st.2 (Nat.le_refl _) fun h' k1 => hQ h' s.toks fun b o hb e => k1 b o (fun z => hb (by rw [z]; exact List.mem_singleton.mpr rfl)) e
  self := fun _ _ _ _ st hQ => wpAny_pyIter_keyiter st.1 hQ
theorem srcE (ns : (d == sysModules) = false) : PySem.W.KdlSrc pg w "dict" d d es.size (fun i v => ∃ e, es[i]? = some e ∧ v = e.key) (fun h => DAt h d es ep) where
  type := fun _ x => x.ty
  there := fun _ ⟨_, e, _⟩ => ⟨Heap.lt_size e, Heap.lt_size e⟩
  keep := fun _ _ ⟨o, e, r⟩ hk => ⟨o, hk d (.inl rfl) o e, r⟩
  notList := by decide
  notTuple := by decide
  hint := fun _ _ _ _ x q => PySem.W.kdl_hint_dict x.ty q
  iter := fun _ _ hh x => ⟨_, _, fun _ _ q => it_dict ns x q, walkE hh (let ⟨_, e, _⟩ := x; Nat.ne_of_lt (Heap.lt_size e)), ⟨_, Heap.get?_push_size _ rfl, rfl, rfl⟩, let ⟨o, e, r⟩ := x; ⟨o, Heap.get?_push_of_some _ e, r⟩⟩
end
section
variable {pg : Program} {w : World} {A : Around} {Er : Value → Shared → Prop} {s : Shared} {d : Addr} {es : Array DictEntry} {ep : Nat}
theorem meets_len (ns : (d == sysModules) = false) : MeetsIn pg w (Builtin.«dict.__len__» ⟨[.ref d], []⟩) (fun _ R s => ∃ es ep, DAt s.heap d es ep ∧ R (.ok (.ret (.int es.size s.toks))) { s with toks := s.toks + 1 }) :=
  .of_wp fun A R s zq => by
    obtain ⟨es, ep, x, q⟩ := zq
    obtain ⟨o, e1, e2, e3⟩ := id x
    change wpAny _ _ (dictSize d >>= _) _ _ s
    unfold dictSize
    apply wpAny_bind
    apply wpAny_bind
    apply wpAny_dictEntries e1 e3
    apply wpAny_pure
    change wpAny _ _ (Builtin.Dict.pendingCount d >>= _) _ _ s
    apply wpAny_bind
    apply wpAny_pendingCount_other ns
    apply wpAny_ret_mkInt
    rw [Nat.add_zero]
    exact q
theorem len_E {Q : Value → Shared → Prop} (ns : (d == sysModules) = false) (x : DAt s.heap d es ep) (z : es.size ≤ sizeLine) (h : ∀ t k, 0 < k → Q (.int es.size t) { s with toks := k }) : wpAny (model pg w) A (call (.builtin "len") [.ref d]) Q Er s := by
  have z' : (es.size : Int) < 2 ^ 63 := by rw [sizeLine_eq] at z; lia
  refine Calls.call_function_entry kind_len plain_len entry_len (args_len1 _) ?_
  unfold Builtin.«len»
  refine wpAny_bind (m := oneArg "len" _) (wpAny_pure ?_)
  refine wpAny_bind (m := callSpecial? (.ref d) (Str.ofString "__len__")) (wpAny_callSpecial?_slot (name := Str.ofString "__len__") x.ty F.slot_dict_len ?_)
  refine call_meetsIn F.slot_dict_len x.ty F.entry_dict_len (F.args_dict_len_1 _) (meets_len ns) ⟨es, ep, x, ?_⟩
  change wpAny _ _ _ _ _ { s with toks := s.toks + 1 }
  apply wpAny_bind
  apply wpAny_holding
  apply wpAny_pure
  apply wpAny_bind
  apply wpAny_letGo
  change wpAny _ _ (if ((es.size : Nat) : Int) < 0 then _ else _) _ _ _
  rw [if_neg (by lia)]
  change wpAny _ _ (if ((es.size : Nat) : Int) ≥ 2 ^ 63 then _ else _) _ _ _
  rw [if_neg (by lia)]
  apply wpAny_bind
  apply wpAny_mkInt
  apply wpAny_pure
  exact ⟨_, rfl, h _ _ (Nat.succ_pos _)⟩
end
section
variable {X : Cx} {pins : List (Addr × Obj)} {σ : St} {H : Hp} {s : Shared} {Θ : Tab} {K : PySem.W.Frag} {ρ : List Addr} {S : M.S}
structure TDt (K : PySem.W.Frag) (H : Hp) (ha : M.D → Int) (a : Addr) (xs : List (M.D × Addr × Value)) : Prop where
  at' : H a = some (.ext (TD ha a xs))
  ks : ∀ q ∈ xs, KyOk K H q.1 (.ref q.2.1)
structure TDx (K : PySem.W.Frag) (H : Hp) (ha : M.D → Int) (a : Addr) (xs : List (M.D × Addr × Value)) : Prop where
  at' : H a = some (.ext (TD ha a xs)) ∨ ∃ o, H a = some (.frz o (.ext (TD ha a xs)))
  ks : ∀ q ∈ xs, KyOk K H q.1 (.ref q.2.1)
theorem TDx.dict {ha : M.D → Int} {a : Addr} {xs : List (M.D × Addr × Value)} (t : TDx X.K H ha a xs) (hw : ha = haD X.w 7) (I : Inv X pins σ H s) : xs.length ≤ sizeLine ∧ (a == sysModules) = false ∧ s.heap.DictOfH (kyK X.prog X.w) a xs := by
  have td : TD ha a xs s.heap := by
    rcases t.at' with e | ⟨o, e⟩
    · exact (I.hok a _ e).1
    · exact (show ObjOk X.prog X.w H s.heap a (.frz o (.ext (TD ha a xs))) from I.hok a _ e).2.1
  obtain ⟨z, y, nd, o, es, ep, h1, h2, h3, h4⟩ := td
  refine ⟨z, y, o, es, ep, h1, h2, h3, by rw [h4, hw]; rfl, fun q hq => ?_, nd⟩
  obtain ⟨b, e, i⟩ := (t.ks q hq).is I rfl
  cases e
  exact i
theorem TDt.dict {ha : M.D → Int} {a : Addr} {xs : List (M.D × Addr × Value)} (t : TDt X.K H ha a xs) (hw : ha = haD X.w 7) (I : Inv X pins σ H s) : xs.length ≤ sizeLine ∧ (a == sysModules) = false ∧ s.heap.DictOfH (kyK X.prog X.w) a xs := TDx.dict ⟨.inl t.at', t.ks⟩ hw I
theorem TDt.obj {ha : M.D → Int} {a : Addr} {xs : List (M.D × Addr × Value)} (t : TDt X.K H ha a xs) (I : Inv X pins σ H s) : (a == sysModules) = false ∧ xs.length ≤ sizeLine ∧ ∃ es ep, DAt s.heap a es ep ∧ es.toList.map (·.key) = xs.map (fun x => Value.ref x.2.1) := by
  obtain ⟨z, y, nd, o, es, ep, h1, h2, h3, h4⟩ := (I.hok a _ t.at').1
  refine ⟨y, z, es, ep, ⟨o, h1, h2, h3⟩, ?_⟩
  rw [h4, List.map_map]
  rfl
theorem td_ok {P : Program} {w : World} {H' : Hp} {h' : Heap} {ha : M.D → Int} {a : Addr} {xs : List (M.D × Addr × Value)} (hw : ha = haD w 7) (z : xs.length ≤ sizeLine) (y : (a == sysModules) = false) (dd : h'.DictOfH (kyK P w) a xs) : ObjOk P w H' h' a (.ext (TD ha a xs)) := by
  obtain ⟨o, es, ep, h1, h2, h3, h4, _, nd⟩ := dd
  refine ⟨⟨z, y, nd, o, es, ep, h1, h2, h3, by rw [h4, hw]; rfl⟩, ⟨o, h1⟩, fun g1 g2 ⟨z, y, nd, o, es, ep, h1, h2⟩ k => ⟨z, y, nd, o, es, ep, k o h1, h2⟩⟩
theorem rm_of {k : Nat} (hr : Room k X.A) : (kyK X.prog X.w).room X.A.in1 := by
  have := hr.units
  show X.A.in1.units + 7 < cLine
  rw [Around.in1_units]
  lia
theorem TDr.ky {p : M.D × M.D} {q : M.D × Addr × Value} (h : TDr K ρ H p q) : KyOk K H q.1 (.ref q.2.1) := by
  obtain ⟨e, k, r, _⟩ := h
  rw [e]
  refine ⟨?_, ρ, r⟩
  revert k r
  cases p.1 with
  | tup ds => exact fun k _ => k
  | non => intro _ r; cases r
  | int i => intro _ r; cases r
  | str z => intro _ r; cases r.1
  | _ => intro k; cases k
theorem td_ks {kvs : List (M.D × M.D)} {xs : List (M.D × Addr × Value)} (r : Paired (TDr K ρ H) kvs xs) : ∀ q ∈ xs, KyOk K H q.1 (.ref q.2.1) := fun q hq => by
  induction r with
  | nil => cases hq
  | cons r1 r2 ih =>
    rcases List.mem_cons.mp hq with rfl | hq
    · exact r1.ky
    · exact ih hq
theorem TDt.of {a : Addr} {kvs : List (M.D × M.D)} {xs : List (M.D × Addr × Value)} {ha : M.D → Int} (e : H a = some (.ext (TD ha a xs))) (r : Paired (TDr K ρ H) kvs xs) : TDt K H ha a xs := ⟨e, td_ks r⟩
theorem rd_at {x : M.D} {v : V} {kvs : List (M.D × M.D)} (rp : RepS K Θ ρ S H) (rx : RelD K ρ H x v) (hd : M.dtRd x S = some kvs) : ∃ a xs, v = .ref a ∧ TDx K H Θ.ha a xs ∧ Paired (TDr K ρ H) kvs xs := by
  cases x with
  | ref i =>
    obtain ⟨a, rfl, ea⟩ := rx
    have hd' : (match S[i]? with | some (.dtt kvs) => some kvs | some (.ftt kvs) => some kvs | _ => none) = some kvs := hd
    split at hd'
    · rename_i kvs' q
      cases hd'
      obtain ⟨b, e1, xs, e2, r⟩ := rp.obj _ _ q
      rw [ea] at e1
      cases e1
      exact ⟨a, xs, rfl, ⟨.inl e2, td_ks r⟩, r⟩
    · rename_i kvs' q
      cases hd'
      obtain ⟨b, e1, o, xs, e2, r⟩ := rp.obj _ _ q
      rw [ea] at e1
      cases e1
      exact ⟨a, xs, rfl, ⟨.inr ⟨o, e2⟩, td_ks r⟩, r⟩
    · cases hd'
  | _ => cases hd
theorem dt_at {x : M.D} {v : V} {p : Nat} {kvs : List (M.D × M.D)} (rp : RepS K Θ ρ S H) (rx : RelD K ρ H x v) (hd : M.dtAt x S = some (p, kvs)) : ∃ a xs, x = .ref p ∧ v = .ref a ∧ ρ[p]? = some a ∧ S[p]? = some (.dtt kvs) ∧ TDt K H Θ.ha a xs ∧ Paired (TDr K ρ H) kvs xs := by
  cases x with
  | ref i =>
    obtain ⟨a, rfl, ea⟩ := rx
    have hd' : (match S[i]? with | some (.dtt kvs) => some (i, kvs) | _ => none) = some (p, kvs) := hd
    split at hd'
    · rename_i kvs' q
      cases hd'
      obtain ⟨b, e1, xs, e2, r⟩ := rp.obj _ _ q
      rw [ea] at e1
      cases e1
      exact ⟨a, xs, rfl, rfl, ea, q, TDt.of e2 r, r⟩
    · cases hd'
  | _ => cases hd
theorem td_get {kvs : List (M.D × M.D)} {xs : List (M.D × Addr × Value)} (r : Paired (TDr K ρ H) kvs xs) (y : M.D) : match M.dGet y kvs with
    | some d => ∃ p v, atKey xs y = some p ∧ RelD K ρ H d v ∧ RelV v p.2
    | none => atKey xs y = none := by
  induction r with
  | nil => rfl
  | @cons p q kvs xs r1 r2 ih =>
    obtain ⟨e, k, _, v, r3, r4⟩ := r1
    unfold M.dGet at ih ⊢
    obtain ⟨p1, p2⟩ := p
    rw [List.lookup_cons]
    by_cases h : y = p1
    · subst h
      rw [show (y == y) = true by simp]
      refine ⟨q.2, v, ?_, r3, r4⟩
      unfold atKey
      rw [List.find?_cons_of_pos (by simpa using e)]
      rfl
    · rw [show (y == p1) = false by simpa using h]
      have : atKey (q :: xs) y = atKey xs y := by
        unfold atKey
        rw [List.find?_cons_of_neg (by
          have e' : q.1 = p1 := e
          rw [e']
          simpa using fun z => h z.symm)]
      rw [this]
      exact ih
theorem ky_of {d : M.D} {v : V} (k : M.kyT d = true) (r : RelD K ρ H d v) : KyOk K H d v := ⟨k, ρ, r⟩
def rIxY (K : PySem.W.Frag) (ha : M.D → Int) : R2 := fun x y H Q => (∃ a xs d p v, x = .ref a ∧ TDx K H ha a xs ∧ KyOk K H d y ∧ atKey xs d = some p ∧ RelV v p.2 ∧ Q v H) ∨ rIxM K x y H Q
theorem ix_T {k : Nat} (hw : Θ.ha = haD X.w 7) (hr : Room k X.A) : IxR X (rIxY X.K Θ.ha) := by
  refine IxR.or ?_ (ix_M hr)
  intro value slice pins s σ H x y v u Q I rx ry h hs
  obtain ⟨a, xs, d, p, w', rfl, t, kk, hp, rv, q⟩ := h
  cases rx
  obtain ⟨z, ns, dd⟩ := t.dict hw I
  obtain ⟨b, rfl, ki⟩ := kk.is I ry
  exact tail_any dd.typeIs PySem.F.slot_dict_getitem.lookup (wpAny_getItem_heap (rm_of hr) ki dd hp ⟨w', H, I.tok _ (Nat.lt_of_lt_of_le I.tk (Nat.le_add_right _ _)), rv, q⟩) hs
theorem ad_ixT : Ad2 K Θ M.opIxT (rIxY K Θ.ha) := by
  intro ρ H S x y X Y Q rp rx ry h
  unfold M.opIxT at h
  split at h
  · rename_i kvs hd
    obtain ⟨a, xs, rfl, t, r⟩ := rd_at rp rx hd
    split at h
    · rename_i hk
      have g := td_get r y
      cases q2 : M.dGet y kvs with
      | none => rw [q2] at h; exact h.elim
      | some d =>
        rw [q2] at h g
        obtain ⟨p, v, e1, e2, e3⟩ := g
        exact .inl ⟨a, xs, y, p, v, rfl, t, ky_of hk ry, e1, e3, Post.here h rp e2⟩
    · exact h.elim
  · exact .inr (ad_ix ρ H S x y X Y Q rp rx ry h)
def rLenY (K : PySem.W.Frag) (ha : M.D → Int) : List V → Hp → VK → Prop := fun vs H Q => (∃ a xs, vs = [V.ref a] ∧ TDt K H ha a xs ∧ Q (.int xs.length) H) ∨ rLenM K vs H Q
theorem call_lenT : CallR X (.builtin "len") (rLenY X.K Θ.ha) := by
  refine CallR.or ?_ call_lenM
  intro pins s σ H xs us Q I r h
  obtain ⟨a, xs, rfl, t, q⟩ := h
  obtain ⟨u, rfl, ru⟩ := vals1 r
  cases ru
  obtain ⟨ns, z, es, ep, x, e⟩ := t.obj I
  have e' : es.size = xs.length := by have := congrArg List.length e; simpa using this
  refine len_E ns x (by lia) fun t k hk => ⟨.int xs.length, H, I.tok _ hk, ⟨t, by rw [e']⟩, q⟩
theorem paired_len {kvs : List (M.D × M.D)} {xs : List (M.D × Addr × Value)} (r : Paired (TDr K ρ H) kvs xs) : kvs.length = xs.length := Paired.length r
theorem ad_lenT : AdN K Θ M.fLenT (rLenY K Θ.ha) := by
  intro ρ H S xs Xs Q rp rxs h
  unfold M.fLenT at h
  split at h
  · rename_i x
    obtain ⟨Y, r, rfl, ry, rfl⟩ := id rxs
    split at h
    · rename_i p kvs hd
      obtain ⟨a, xs, rfl, rfl, ea, q, t, r⟩ := dt_at rp ry hd
      refine .inl ⟨a, xs, rfl, t, ?_⟩
      rw [← paired_len r]
      exact Post.here h rp rfl
    · exact .inr (ad_len ρ H S _ _ Q rp rxs h)
  · exact .inr (ad_len ρ H S _ _ Q rp rxs h)
def rInY (K : PySem.W.Frag) (ha : M.D → Int) (neg : Bool) : R2 := fun x y H Q => (∃ a xs d, y = .ref a ∧ TDt K H ha a xs ∧ KyOk K H d x ∧ Q (.bl (xor neg (atKey xs d).isSome)) H) ∨
  (∃ a vs ds d ρ, y = .ref a ∧ SqL K H a vs ∧ RelDs K ρ H ds vs ∧ RelD K ρ H d x ∧ M.kyD 7 d = true ∧ ds.all (M.kyD 7) = true ∧ Q (.bl (xor neg (ds.contains d))) H) ∨ rInM K neg x y H Q
theorem mem_eq {A : Around} {ds : List M.D} {us : List Value} {d : M.D} {u : Value} (hu : A.units + 7 < cLine) (r : IsVs s.heap 7 ds us) (p : IsV s.heap 7 d u) : ∃ e : Value → Bool, (∀ y ∈ us, EqAt A s y u (e y)) ∧ us.any e = ds.contains d := by
  classical
  refine ⟨fun y => decide (IsV s.heap 7 d y), fun y hy => ?_, ?_⟩
  · have : ∃ c, IsV s.heap 7 c y := by
      clear p
      induction us generalizing ds with
      | nil => cases hy
      | cons v us ih =>
        cases r with
        | cons r1 r2 =>
          rcases List.mem_cons.mp hy with rfl | hy
          · exact ⟨_, r1⟩
          · exact ih r2 hy
    obtain ⟨c, hc⟩ := this
    have z := IsV.eq hu hc p
    have : decide (c = d) = decide (IsV s.heap 7 d y) := by
      by_cases h : c = d
      · subst h; simp [hc]
      · rw [dec_false h, decide_eq_false fun k => h (IsV.inj hc k)]
    show EqAt A s y u (decide (IsV s.heap 7 d y))
    rw [← this]
    exact z
  · induction us generalizing ds with
    | nil => cases r; rfl
    | cons v us ih =>
      cases r with
      | @cons _ c ds' _ _ r1 r2 =>
        rw [List.any_cons, ih r2, List.contains_cons]
        congr 1
        by_cases h : d = c
        · subst h; simp [r1]
        · rw [decide_eq_false fun k => h (IsV.inj k r1)]
          exact (beq_false_of_ne h).symm
theorem ivs_of (I : Inv X pins σ H s) {ρ : List Addr} : ∀ {ds : List M.D} {xs : List V} {us : List Value}, ds.all (M.kyD 7) = true → RelDs X.K ρ H ds xs → Vals xs us → IsVs s.heap 7 ds us := by
  intro ds
  induction ds with
  | nil => intro xs us _ r vs; cases r; cases vs; exact .nil
  | cons d ds ih =>
    intro xs us k r vs
    obtain ⟨y, ys, rfl, r1, r2⟩ := r
    rw [List.all_cons, Bool.and_eq_true] at k
    cases vs with
    | cons v1 v2 => exact .cons (isV_of I k.1 r1 v1) (ih k.2 r2 v2)
theorem op_notInT {k : Nat} (hw : Θ.ha = haD X.w 7) (hr : Room k X.A) : OpR X (compareOp .NotIn) (rInY X.K Θ.ha true) := by
  intro pins s σ H x y v u Q I rx ry h
  rcases h with ⟨a, xs, d, rfl, t, kk, q⟩ | ⟨a, vs, ds, d, ρ, rfl, hq, rs, rd, k1, k2, q⟩ | h
  · cases ry
    obtain ⟨z, ns, dd⟩ := t.dict hw I
    obtain ⟨b, rfl, ki⟩ := kk.is I rx
    refine wpAny_notIn_heap (rm_of hr) ki ns dd ⟨.bl (!(atKey xs d).isSome), H, I.tok _ (Nat.lt_of_lt_of_le I.tk (Nat.le_add_right _ _)), rfl, ?_⟩
    rw [Bool.true_xor] at q
    exact q
  · cases ry
    obtain ⟨its, rv, pl, z⟩ := I.list hq
    obtain ⟨e, h1, h2⟩ := mem_eq (A := X.A.in1) (by have := rm_of hr; exact this) (ivs_of I k2 rs rv) (isV_of I k1 rd rx)
    refine notIn_listAt e pl.isList (fun y hy => h1 y (by simpa using hy)) ?_
    refine ⟨.bl (!ds.contains d), H, I, ?_, ?_⟩
    · show Value.bool _ = _
      rw [← h2]
      simp
    · rw [Bool.true_xor] at q
      exact q
  · exact op_notInM hr pins s σ H x y v u Q I rx ry h
theorem in_coreT {neg : Bool} {x y : M.D} {X1 Y : V} {Q : VK} (rp : RepS K Θ ρ S H) (rx : RelD K ρ H x X1) (ry : RelD K ρ H y Y) (h : Post K Θ rB ρ H (M.inT x y S) (fun b H' => Q (.bl (xor neg b)) H')) : rInY K Θ.ha neg X1 Y H Q := by
  have old : Post K Θ rB ρ H (M.inD x y S) (fun b H' => Q (.bl (xor neg b)) H') → rInY K Θ.ha neg X1 Y H Q := fun h => .inr (.inr (in_core rp rx ry h))
  unfold M.inT at h
  split at h
  · rename_i p kvs hd
    obtain ⟨a, xs, rfl, rfl, ea, q, t, r⟩ := dt_at rp ry hd
    split at h
    · rename_i hk
      refine .inl ⟨a, xs, x, rfl, t, ky_of hk rx, ?_⟩
      have g := td_get r x
      have : (atKey xs x).isSome = (M.dGet x kvs).isSome := by
        cases q2 : M.dGet x kvs with
        | none => rw [q2] at g; rw [g]; rfl
        | some d => rw [q2] at g; obtain ⟨_, _, g, _⟩ := g; rw [g]; rfl
      rw [this]
      exact Post.here (b := (M.dGet x kvs).isSome) h rp rfl
    · exact h.elim
  · split at h
    · rename_i i _
      split at h
      · rename_i ys hy
        unfold M.inL at h
        split at h
        · rename_i hk
          rw [Bool.and_eq_true] at hk
          obtain ⟨a, rfl, ea⟩ := id ry
          have q : S[i]? = some (M.O.lst ys) := by
            unfold M.lstAt at hy
            split at hy
            · rename_i z; cases hy; exact z
            · cases hy
          obtain ⟨zs, e1, r⟩ := lst_at rp ea q
          exact .inr (.inl ⟨a, zs, ys, x, ρ, rfl, SqL.of e1, r, rx, hk.1, hk.2, Post.here (b := ys.contains x) h rp rfl⟩)
        · exact old h
      · exact old h
    · exact old h
theorem ad_notInT : AdC K Θ M.cNotInT (rInY K Θ.ha true) := by
  intro ρ H S x y X1 Y Q rp rx ry h
  exact in_coreT rp rx ry (Post.bind h fun ρ1 H1 b b' S1 p1 l1 rp1 e h1 => by cases e; rw [Bool.true_xor]; exact Post.here (b := !b) h1 rp1 rfl)
def rListY (K : PySem.W.Frag) (ha : M.D → Int) : List V → Hp → VK → Prop := fun vs H Q => (∃ a xs, vs = [V.ref a] ∧ TDt K H ha a xs ∧ ∀ l, H l = none → Q (.ref l) (upd H l (.lst (xs.map fun x => V.ref x.2.1)))) ∨ rListM K vs H Q
theorem call_listT {k : Nat} (hr : Room k X.A) : CallR X (.type "list") (rListY X.K Θ.ha) := by
  refine CallR.or ?_ (call_listM hr)
  intro pins s σ H vs us Q I r h
  obtain ⟨a, xs, rfl, t, q⟩ := h
  obtain ⟨u, rfl, ru⟩ := vals1 r
  cases ru
  obtain ⟨ns, z, es, ep, x, e⟩ := t.obj I
  have e' : es.size = xs.length := by have := congrArg List.length e; simpa using this
  refine wpAny_with_toks (n := 1) I.tk (PySem.W.kdl_call (srcE ns) hr.hd x (by lia) fun h' tk acc c' keep hS it htk => ?_)
  obtain ⟨hsz, hit⟩ := it
  refine ⟨.ref s.heap.objs.size, _, I.laid (t' := tk) (o := .lst (xs.map fun x => V.ref x.2.1)) keep (Nat.le_refl _) ⟨by rw [List.length_map]; exact z, acc.toList, c', vals_get (by simp; lia) fun j u hu => ?_, by simpa using hS⟩ htk, rfl, q _ (I.hok.fresh (Nat.le_refl _))⟩
  obtain ⟨en, h1, rfl⟩ := hit j u (by simpa using hu)
  have h2 : (es.toList.map (·.key))[j]? = some en.key := by
    rw [List.getElem?_map, Array.getElem?_toList, h1]; rfl
  rw [e, List.getElem?_map] at h2
  rw [List.getElem?_map]
  cases q2 : xs[j]? with
  | none => rw [q2] at h2; cases h2
  | some y => rw [q2] at h2; exact ⟨_, rfl, (Option.some.inj h2).symm⟩
theorem keys_relT {kvs : List (M.D × M.D)} {xs : List (M.D × Addr × Value)} (r : Paired (TDr K ρ H) kvs xs) : RelDs K ρ H (kvs.map (·.1)) (xs.map fun x => V.ref x.2.1) := by
  induction r with
  | nil => rfl
  | cons r1 r2 ih => exact ⟨_, _, rfl, r1.2.2.1, ih⟩
theorem ad_listT : AdN K Θ M.fListT (rListY K Θ.ha) := by
  intro ρ H S xs Xs Q rp rxs h
  unfold M.fListT at h
  split at h
  · rename_i x
    obtain ⟨Y, r, rfl, ry, rfl⟩ := id rxs
    split at h
    · rename_i p kvs hd
      obtain ⟨a, xs, rfl, rfl, ea, q, t, r⟩ := dt_at rp ry hd
      exact .inl ⟨a, xs, rfl, t, fun l hl => Post.alloc h rp (keys_relT r) hl⟩
    · exact .inr (ad_list ρ H S _ _ Q rp rxs h)
  · exact .inr (ad_list ρ H S _ _ Q rp rxs h)
end
section
variable {X : Cx} {pins : List (Addr × Obj)} {σ : St} {H : Hp} {s : Shared} {Θ : Tab} {K : PySem.W.Frag} {ρ : List Addr} {S : M.S}
theorem mut_ext {a : Addr} {φ : Heap → Prop} (h : H a = some (.ext φ)) : Mut (H a) := by rw [h]; trivial
theorem td_drop {kvs : List (M.D × M.D)} {xs : List (M.D × Addr × Value)} (r : Paired (TDr K ρ H) kvs xs) (k : M.D) : Paired (TDr K ρ H) (M.dDrop k kvs) (xs.filter fun x => decide (x.1 ≠ k)) := by
  unfold M.dDrop
  induction r with
  | nil => exact .nil
  | @cons p q kvs xs r1 r2 ih =>
    have e : q.1 = p.1 := r1.1
    by_cases h : p.1 = k
    · rw [List.filter_cons_of_neg (by simpa using h), List.filter_cons_of_neg (by rw [e]; simpa using h)]
      exact ih
    · rw [List.filter_cons_of_pos (by simpa using h), List.filter_cons_of_pos (by rw [e]; simpa using h)]
      exact .cons r1 ih
theorem td_any {kvs : List (M.D × M.D)} {xs : List (M.D × Addr × Value)} (r : Paired (TDr K ρ H) kvs xs) (k : M.D) : (kvs.any fun p => decide (p.1 = k)) = (atKey xs k).isSome := by
  induction r with
  | nil => rfl
  | @cons p q kvs xs r1 r2 ih =>
    have e : q.1 = p.1 := r1.1
    rw [List.any_cons, ih]
    unfold atKey
    by_cases h : p.1 = k
    · rw [List.find?_cons_of_pos (by rw [e]; simpa using h)]
      simp [h]
    · rw [List.find?_cons_of_neg (by rw [e]; simpa using h)]
      simp [h]
theorem td_put {kvs : List (M.D × M.D)} {xs : List (M.D × Addr × Value)} (r : Paired (TDr K ρ H) kvs xs) {k d : M.D} {b : Addr} {u : Value} {v : V} (hk : M.kyD 7 k = true) (rk : RelD K ρ H k (.ref b)) (rd : RelD K ρ H d v) (rv : RelV v u) : Paired (TDr K ρ H) (M.dPut k d kvs) (storedH xs k b u) := by
  unfold M.dPut storedH
  rw [td_any r k]
  split
  · induction r with
    | nil => exact .nil
    | @cons p q kvs xs r1 r2 ih =>
      rw [List.map_cons, List.map_cons]
      refine .cons ?_ ?_
      · obtain ⟨e, a2, a3, w, a4, a5⟩ := r1
        unfold putAt
        by_cases h : p.1 = k
        · rw [if_pos h, if_pos (e.trans h)]
          exact ⟨e, a2, a3, v, rd, rv⟩
        · rw [if_neg h, if_neg (fun z => h (e.symm.trans z))]
          exact ⟨e, a2, a3, w, a4, a5⟩
      · by_cases h : (atKey xs k).isSome = true
        · exact ih h
        · have nk : ∀ q ∈ xs, q.1 ≠ k := fun q hq z => h (by
            unfold atKey
            rw [Option.isSome_map, List.find?_isSome]
            exact ⟨q, hq, by simpa using z⟩)
          have : ∀ {kvs : List (M.D × M.D)} {xs : List (M.D × Addr × Value)}, Paired (TDr K ρ H) kvs xs → (∀ q ∈ xs, q.1 ≠ k) → Paired (TDr K ρ H) (kvs.map fun p => if p.1 = k then (p.1, d) else p) (xs.map (putAt k u)) := by
            intro kvs xs r
            induction r with
            | nil => exact fun _ => .nil
            | @cons p q kvs xs r1 r2 ih =>
              intro nk
              have z := nk q List.mem_cons_self
              have e : q.1 = p.1 := r1.1
              rw [List.map_cons, List.map_cons]
              unfold putAt
              rw [if_neg (fun y => z (e.trans y)), if_neg z]
              exact .cons r1 (ih fun q hq => nk q (List.mem_cons_of_mem _ hq))
          exact this r2 nk
  · have : ∀ {kvs : List (M.D × M.D)} {xs : List (M.D × Addr × Value)}, Paired (TDr K ρ H) kvs xs → Paired (TDr K ρ H) (kvs ++ [(k, d)]) (xs ++ [(k, b, u)]) := by
      intro kvs xs r
      induction r with
      | nil => exact .cons ⟨rfl, hk, rk, v, rd, rv⟩ .nil
      | cons r1 r2 ih => exact .cons r1 ih
    exact this r
theorem stored_len {xs : List (M.D × Addr × Value)} {k : M.D} {b : Addr} {u : Value} : (storedH xs k b u).length ≤ xs.length + 1 := by
  unfold storedH
  split <;> simp
def sTPut (K : PySem.W.Frag) (ha : M.D → Int) (td ty tv : TE) : TS := fun D σ H => tv σ H fun v H1 => td σ H1 fun x H2 => ty σ H2 fun y H3 => ∃ a xs d, x = .ref a ∧ TDt K H3 ha a xs ∧ KyOk K H3 d y ∧ xs.length < sizeLine ∧
  ∀ b u, y = .ref b → RelV v u → D.nx σ (upd H3 a (.ext (TD ha a (storedH xs d b u))))
theorem ps_tput {k : Nat} {o i value : Expr} {pos pos' : Pos} {td ty tv : TE} (hw : Θ.ha = haD X.w 7) (hr : Room k X.A) (ho : PE X o td) (hi : PE X i ty) (hv : PE X value tv) (hs : swapsWith value (some (.Subscript o i pos')) pos.line X.env = pure false) :
    PS X (.Assign [.Subscript o i pos'] value pos) (sTPut X.K Θ.ha td ty tv) := by
  intro pins s σ H D I h
  refine wpAny_Assign_Subscript (thn5 (hv pins s σ H _ I h) fun r s1 v H1 I1 rv q1 => thn5 (ho pins s1 σ H1 _ I1 q1) fun u s2 x H2 I2 rx q2 => thn5 (hi pins s2 σ H2 _ I2 q2) fun iv s3 y H3 I3 ry ⟨a, xs, d, ex, t, kk, z, q3⟩ => ?_) hs
  subst ex
  obtain rfl : u = Value.ref a := rx
  obtain ⟨z1, ns, dd⟩ := t.dict hw I3
  obtain ⟨b, rfl, ki⟩ := kk.is I3 ry
  refine wpAny_setItem_heap (hsz := z1) (rm_of hr) ki dd fun h' dd' sb => ?_
  have yb : y = .ref b := by
    obtain ⟨k1, ρ, rd⟩ := kk
    cases d with
    | tup ds => obtain ⟨c, _, rfl, _⟩ := rd; cases ry; rfl
    | _ => cases k1
  have he : ∃ q, h'.get? a = some q := let ⟨q, _, _, hq, _⟩ := dd'; ⟨q, hq⟩
  exact ⟨σ, _, d_write (t' := s3.toks + (kyK X.prog X.w).draws d) I3 (mut_ext t.at') sb he (td_ok hw (by have := stored_len (xs := xs) (k := d) (b := b) (u := r); lia) ns dd') (Nat.lt_of_lt_of_le I3.tk (Nat.le_add_right _ _)), q3 b r yb rv⟩
theorem w_ms_subT {o i e : Expr} {mo mi me : M.EM} {pos pos' : Pos} {n : Nat} (hw : Θ.ha = haD X.w 7) (hr : Room n X.A) (ho : WE X Θ o mo) (hi : WE X Θ i mi) (he : WE X Θ e me)
    (ha : ∀ v, assign (.Subscript o i pos') X.env v = (do
      let ov ← holding [v] (eval o X.env)
      let iv ← holding [v, ov] (eval i X.env)
      standAt pos'
      holding [v, ov, iv] (setItem ov iv v)
      release [v, ov, iv] []) := by intro _; rfl)
    (hs : swapsWithSole [.Subscript o i pos'] e pos.line X.env = pure false := by rfl) (hw' : swappedStores [.Subscript o i pos'] e X.env = pure none := by rfl) (h1 : (assignEach [.Subscript o i pos'] X.env).map (·.2) = [assign (.Subscript o i pos') X.env] := by rfl)
    (hs2 : swapsWith e (some (.Subscript o i pos')) pos.line X.env = pure false := by rfl) : WS X Θ (.Assign [.Subscript o i pos'] e pos) (M.sSubT mo mi me) := by
  delta WE WS at ho hi he ⊢
  exact (PS.or (ps_tput (Θ := Θ) hw hr ho hi he hs2) (ms_sub hr ho hi he ha hs hw' h1 hs2)).up fun D σ H ρ σ' S st rp h => by
      have h0 : PostS X.K Θ ρ H ((me σ' S).stm σ' fun y s => (mo σ' s).stm σ' fun x s => (mi σ' s).stm σ' fun k s => (M.setIxT x k y s).stm σ' fun _ s => .nx σ' s) D := h
      clear h
      cases hE : me σ' S with
      | no => rw [hE] at h0; exact h0.elim
      | exc a s => rw [hE] at h0; exact .inl ⟨ρ, σ', S, st, rp, by rw [hE]; exact (show PostX X.K Θ ρ H a s from h0)⟩
      | ok y S1 =>
        rw [hE, M.R.stm_ok] at h0
        cases hO : mo σ' S1 with
        | no => rw [hO] at h0; exact h0.elim
        | exc a s => rw [hO] at h0; exact .inl ⟨ρ, σ', S, st, rp, by rw [hE]; exact fun ρ1 H1 v p l rp1 rv => ⟨ρ1, σ', S1, st.mono p l, rp1, by rw [hO]; exact PostX.weak (show PostX X.K Θ ρ H a s from h0) p l⟩⟩
        | ok x S2 =>
          rw [hO, M.R.stm_ok] at h0
          cases hI : mi σ' S2 with
          | no => rw [hI] at h0; exact h0.elim
          | exc a s => rw [hI] at h0; exact .inl ⟨ρ, σ', S, st, rp, by rw [hE]; exact fun ρ1 H1 v p l rp1 rv => ⟨ρ1, σ', S1, st.mono p l, rp1, by rw [hO]; exact fun ρ2 H2 v2 p2 l2 rp2 rv2 => ⟨ρ2, σ', S2, st.mono (p.trans p2) (l.trans l2), rp2, by rw [hI]; exact PostX.weak (show PostX X.K Θ ρ H a s from h0) (p.trans p2) (l.trans l2)⟩⟩⟩
          | ok k S3 =>
            rw [hI, M.R.stm_ok] at h0
            cases hd : M.dtAt x S3 with
            | none =>
              refine .inr ⟨ρ, σ', S, st, rp, ?_⟩
              have e0 : M.setIxT x k y S3 = M.setIx x k y S3 := by unfold M.setIxT; rw [hd]
              rw [e0] at h0
              show PostS X.K Θ ρ H ((me σ' S).stm σ' fun y s => (mo σ' s).stm σ' fun x s => (mi σ' s).stm σ' fun k s => (M.setIx x k y s).stm σ' fun _ s => .nx σ' s) D
              rw [hE, M.R.stm_ok, hO, M.R.stm_ok, hI, M.R.stm_ok]
              exact h0
            | some pk =>
              obtain ⟨p, kvs⟩ := pk
              have e0 : M.setIxT x k y S3 = (if (M.kyT k && decide (kvs.length < M.SZ)) = true then M.R.ok () (S3.set p (.dtt (M.dPut k y kvs))) else .no) := by unfold M.setIxT; rw [hd]
              rw [e0] at h0
              cases hk : (M.kyT k && decide (kvs.length < M.SZ)) with
              | false => rw [hk] at h0; exact h0.elim
              | true =>
                rw [hk, if_pos rfl, M.R.stm_ok] at h0
                rw [Bool.and_eq_true] at hk
                refine .inl ⟨ρ, σ', S, st, rp, ?_⟩
                rw [hE]
                intro ρ1 H1 Y p1 l1 rp1 ry
                refine ⟨ρ1, σ', S1, st.mono p1 l1, rp1, ?_⟩
                rw [hO]
                intro ρ2 H2 Xv p2 l2 rp2 rx
                refine ⟨ρ2, σ', S2, st.mono (p1.trans p2) (l1.trans l2), rp2, ?_⟩
                rw [hI]
                intro ρ3 H3 Kv p3 l3 rp3 rk
                obtain ⟨a, xs, rfl, rfl, ea, q, t, r⟩ := dt_at rp3 (rx.mono p3 l3) hd
                have kk := ky_of hk.1 rk
                refine ⟨a, xs, k, rfl, t, kk, by rw [← paired_len r, ← SZ_eq]; exact of_decide_eq_true hk.2, fun b u yb rv => ?_⟩
                subst yb
                have le := Le.put (mut_ext t.at') (.ext (TD Θ.ha a (storedH xs k b u)))
                have hk7 : M.kyD 7 k = true := by
                  have := hk.1
                  revert this
                  cases k <;> first | exact fun z => z | (intro z; cases z)
                have r' := Paired.mapP r fun p q z => TDr.mono (List.prefix_refl _) le z
                exact h0 ρ3 _ σ (p1.trans (p2.trans p3)) (l1.trans (l2.trans (l3.trans le))) (rp3.put ea (mut_ext t.at') ⟨_, upd_same, td_put r' hk7 (rk.mono (List.prefix_refl _) le) (ry.mono (p2.trans p3) (l2.trans (l3.trans le))) rv⟩) (st.mono (p1.trans (p2.trans p3)) (l1.trans (l2.trans (l3.trans le))))
def rPopY (K : PySem.W.Frag) (ha : M.D → Int) : V → List V → Hp → VK → Prop := fun x vs H Q => ∃ a xs d y more, x = .ref a ∧ vs = y :: more ∧ TDt K H ha a xs ∧ KyOk K H d y ∧
  (((more = [] ∨ ∃ m, more = [m]) ∧ ∃ p v, atKey xs d = some p ∧ RelV v p.2 ∧ Q v (upd H a (.ext (TD ha a (xs.filter fun x => decide (x.1 ≠ d)))))) ∨ ∃ m, more = [m] ∧ atKey xs d = none ∧ Q m H)
theorem mt_popT {k : Nat} (hw : Θ.ha = haD X.w 7) (hr : Room k X.A) : MtM X "dict.pop" (rPopY X.K Θ.ha) := by
  intro pins s σ H x vs v us Q I rx rv h
  obtain ⟨a, xs, d, y, more, rfl, rfl, t, kk, h⟩ := h
  cases rx
  cases rv with
  | @cons _ u _ us' r1 r2 =>
    obtain ⟨z, ns, dd⟩ := t.dict hw I
    obtain ⟨b, rfl, ki⟩ := kk.is I r1
    rcases h with ⟨hm, p, w', hp, rv, q⟩ | ⟨m, rfl, hp, q⟩
    · have hm' : us' = [] ∨ ∃ x, us' = [x] := by
        rcases hm with rfl | ⟨m, rfl⟩
        · cases r2; exact .inl rfl
        · cases r2 with | cons _ r3 => cases r3; exact .inr ⟨_, rfl⟩
      have ar : argsOk "dict.pop" ⟨.ref a :: .ref b :: us', []⟩ := by
        rcases hm' with rfl | ⟨x, rfl⟩
        · exact PySem.F.args_dict_pop_2 _ _
        · exact PySem.F.args_dict_pop_3 _ _ _
      refine call_meetsIn PySem.F.slot_dict_pop dd.typeIs PySem.F.entry_dict_pop ar (meets_pop (kn := kyK X.prog X.w) hm') ⟨rm_of hr, xs, d, p, ki, dd, z, hp, fun h' dd' sb => ?_⟩
      have he : ∃ q, h'.get? a = some q := let ⟨q, _, _, hq, _⟩ := dd'; ⟨q, hq⟩
      exact ⟨w', _, d_write (t' := s.toks + (kyK X.prog X.w).draws d) I (mut_ext t.at') sb he (td_ok hw (Nat.le_trans (List.length_filter_le _ _) z) ns dd') (Nat.lt_of_lt_of_le I.tk (Nat.le_add_right _ _)), rv, q⟩
    · cases r2 with
      | cons rm r3 =>
        cases r3
        refine call_meetsIn PySem.F.slot_dict_pop dd.typeIs PySem.F.entry_dict_pop (PySem.F.args_dict_pop_3 _ _ _) (meets_pop0 (kn := kyK X.prog X.w) ns) ⟨rm_of hr, xs, d, ki, dd, z, hp, fun tk hk => ?_⟩
        exact ⟨m, H, I.tok _ (Nat.lt_of_lt_of_le I.tk hk), rm, q⟩
theorem ad_popT : AdM K Θ M.mPopT (rPopY K Θ.ha) := by
  intro ρ H S x xs X Xs Q rp rx rxs h
  unfold M.mPopT at h
  split at h
  · rename_i y
    obtain ⟨Y, r, rfl, ry, rfl⟩ := rxs
    split at h
    · rename_i p kvs hd
      obtain ⟨a, zs, rfl, rfl, ea, q, t, r⟩ := dt_at rp rx hd
      split at h
      · rename_i hk
        have g := td_get r y
        cases q2 : M.dGet y kvs with
        | none => rw [q2] at h; exact h.elim
        | some d =>
          rw [q2] at h g
          obtain ⟨pp, v, e1, e2, e3⟩ := g
          have le := Le.put (mut_ext t.at') (.ext (TD Θ.ha a (zs.filter fun x => decide (x.1 ≠ y))))
          refine ⟨a, zs, y, Y, [], rfl, rfl, t, ky_of hk ry, .inl ⟨.inl rfl, pp, v, e1, e3, ?_⟩⟩
          exact h ρ _ v (List.prefix_refl _) le (rp.put ea (mut_ext t.at') ⟨_, upd_same, Paired.mapP (td_drop r y) fun p q z => TDr.mono (List.prefix_refl _) le z⟩) (e2.mono (List.prefix_refl _) le)
      · exact h.elim
    · exact h.elim
  · rename_i y m
    obtain ⟨Y, r, rfl, ry, Z, r', rfl, rz, rfl⟩ := rxs
    split at h
    · rename_i p kvs hd
      obtain ⟨a, zs, rfl, rfl, ea, q, t, r⟩ := dt_at rp rx hd
      split at h
      · rename_i hk
        have g := td_get r y
        cases q2 : M.dGet y kvs with
        | none =>
          rw [q2] at h g
          exact ⟨a, zs, y, Y, [Z], rfl, rfl, t, ky_of hk ry, .inr ⟨Z, rfl, g, Post.here h rp rz⟩⟩
        | some d =>
          rw [q2] at h g
          obtain ⟨pp, v, e1, e2, e3⟩ := g
          have le := Le.put (mut_ext t.at') (.ext (TD Θ.ha a (zs.filter fun x => decide (x.1 ≠ y))))
          refine ⟨a, zs, y, Y, [Z], rfl, rfl, t, ky_of hk ry, .inl ⟨.inr ⟨Z, rfl⟩, pp, v, e1, e3, ?_⟩⟩
          exact h ρ _ v (List.prefix_refl _) le (rp.put ea (mut_ext t.at') ⟨_, upd_same, Paired.mapP (td_drop r y) fun p q z => TDr.mono (List.prefix_refl _) le z⟩) (e2.mono (List.prefix_refl _) le)
      · exact h.elim
    · exact h.elim
  · exact h.elim
theorem pe_dnewY {pos : Pos} (hw : Θ.ha = haD X.w 7) : PE X (.Dict [] [] pos) (fun _ H Q => ∀ p, H p = none → Q (.ref p) (upd H p (.ext (TD Θ.ha p [])))) := fun pins s σ H Q I h =>
  wpAny_Dict_empty ⟨.ref s.heap.objs.size, _, I.laid (a := s.heap.objs.size) (o := .ext (TD Θ.ha s.heap.objs.size [])) (t' := s.toks) (fun _ _ q => Heap.get?_push_of_some _ q) (Nat.le_refl _) (td_ok hw (Nat.zero_le _) (beq_eq_false_iff_ne.mpr (Ne.symm (Nat.ne_of_lt I.big))) (Heap.DictOfH.new s.heap)), rfl, h _ (I.hok.fresh (Nat.le_refl _))⟩
theorem w_me_dnewT {pos : Pos} (hw : Θ.ha = haD X.w 7) : WE X Θ (.Dict [] [] pos) M.eDict0T := by
  delta WE at ⊢
  exact (pe_dnewY hw).up fun σ H Q ρ σ' S st rp h => fun p hp => by
    have h' : Post X.K Θ (RelD X.K) ρ H (M.alloc (.dtt []) S) Q := h
    exact h' (ρ ++ [p]) _ _ (List.prefix_append _ _) (Le.new hp _) (rp.alloc hp ⟨[], upd_same, .nil⟩) ⟨p, rfl, by rw [← rp.len]; simp⟩
end
theorem ad_pow {K : PySem.W.Frag} {Θ : Tab} : Ad2 K Θ M.opPow (rI CPow fun i j => .int (i ^ j.toNat)) := by
  intro ρ H S x y X Y Q rp rx ry h
  unfold M.opPow at h
  split at h
  · rename_i i j
    cases rx
    cases ry
    split at h
    · rename_i c
      exact ⟨i, j, rfl, rfl, ⟨c.1, by lia, c.2.2⟩, Post.here (b := V.int (i ^ j.toNat)) h rp rfl⟩
    · exact h.elim
  · exact h.elim
end L2
namespace TE
open PySem
noncomputable abbrev bare (C p : Addr) : Obj := { cls := .ref C, data := .fields #[.ref p, .none, .none, .none, .bool false, .none] }
def laid (m : Heap) (C : Addr) (us : List Value) : Heap := (m.push { cls := .type "tuple", data := .seq us.toArray }).push (bare C m.objs.size)
theorem laid_old {m : Heap} {C b : Addr} {us : List Value} {o : Obj} (e : m.get? b = some o) : (laid m C us).get? b = some o :=
  Heap.get?_push_of_some _ (Heap.get?_push_of_some _ e)
theorem laid_new {m : Heap} {C : Addr} {us : List Value} : (laid m C us).get? (m.objs.size + 1) = some (bare C m.objs.size) := by
  unfold laid bare
  heap_get
theorem laid_ns {m : Heap} {C n : Addr} {us : List Value} {f : Str → Option Value} (e : m.Ns n f) : (laid m C us).Ns n f := by
  obtain ⟨a, b, c, e, r⟩ := e
  exact ⟨a, b, c, laid_old e, r⟩
def IsX (m : Heap) (C : Addr) : Prop := ∃ nm q N bs tl hd sn sub ab col dd k0 k1 k2 k3 k5 nw, m.get? C = some (excClassObj nm q C N bs tl hd sn sub ab col dd k0 k1 k2 k3 k5 nw) ∧ tl.contains (.type "BaseException") = true
def NotYet (m : Heap) (C e : Addr) : Prop := ∃ od sl p, m.get? e = some { cls := .ref C, dict := od, data := .fields #[.ref p, .none, .none, .none, .bool false, .none], slots := sl }
theorem raised {mo : Model} {Ar : Around} {Er : Value → Shared → Prop} {en : Env} {s : Shared} {x : Sem Value} {Q : Flow → Shared → Prop} {C : Addr} (nh : Ar.handled = none)
    (hx : wpAny mo Ar x (fun v s' => ∃ e, v = .ref e ∧ IsX s'.heap C ∧ NotYet s'.heap C e ∧ Er v s') Er s) : wpAny mo Ar (raiseStmt en (some x) none) Q Er s := by
  unfold raiseStmt
  apply wpAny_bind
  refine wpAny_mono hx (fun v s' hv => ?_) fun _ _ z => z
  obtain ⟨e, rfl, ⟨nm, q, N, bs, tl, hd, sn, sub, ab, col, dd, k0, k1, k2, k3, k5, nw, cl, ba⟩, ⟨od, sl, p, at'⟩, ok⟩ := hv
  have sb : (Value.ref C :: tl).contains (.type "BaseException") = true := by
    rw [List.contains_cons, ba]
    exact Bool.or_true _
  obtain ⟨m, gs, dr, k, sy⟩ := s'
  repeat first
    | (with_reducible refine wpAny_loadPart_at at' ?_)
    | (with_reducible refine wpAny_loadPart_at cl ?_)
    | (with_reducible refine wpAny_isSubtype_exc cl ?_; rw [sb])
    | wp_step
  exact wpAny_raiseNew_none nh ok
end TE
namespace TE
open PySem PySem.Builtin PySem.Builtin.ObjectAttr
structure Two (m : Heap) (C Y : Addr) (B : String) (tl : List Value) (mC mY : Str → Option Value) : Prop where
  up : mroOf (.type B) = pure tl
  lo : ∃ nm q N bs sn sub ab col dd k0 k1 k2 k3 k5 nw, m.get? C = some (excClassObj nm q C N bs (.ref Y :: tl) true sn sub ab col dd k0 k1 k2 k3 k5 nw) ∧ m.Ns N mC
  hi : ∃ c dd cd sl, m.get? Y = some { cls := c, dict := dd, data := .cls cd, slots := sl } ∧ m.Ns cd.ns mY
section
variable {mo : Model} {Ar : Around} {Er : Value → Shared → Prop} {m : Heap} {gs : Array GenState} {dr : Drawn} {k : Nat} {sy : OsState} {C Y : Addr} {B : String} {tl : List Value} {mC mY : Str → Option Value}
theorem Two.look {n : Str} {o : Option Value} {Q : Option Value → Shared → Prop} (T : Two m C Y B tl mC mY) (n1 : mC n = none) (n2 : mY n = none) (n3 : typeLookup (.type B) n = pure o) (q : Q o ⟨m, gs, dr, k, sy⟩) : wpAny mo Ar (typeLookup (.ref C) n) Q Er ⟨m, gs, dr, k, sy⟩ := by
  obtain ⟨nm, qn, N, bs, sn, sub, ab, col, dd, k0, k1, k2, k3, k5, nw, cl, ns⟩ := T.lo
  obtain ⟨c, dY, cd, sl, cy, ny⟩ := T.hi
  rw [typeLookup_eq, T.up] at n3
  rw [typeLookup_eq]
  apply wpAny_bind
  apply wpAny_mroOf_exc cl
  rw [lookupAlong_cons]
  apply wpAny_bind
  apply wpAny_classOwn_exc cl ns
  rw [n1]
  change wpAny mo Ar (lookupAlong (.ref Y :: tl) n) _ _ _
  rw [lookupAlong_cons]
  apply wpAny_bind
  apply wpAny_classOwn_cls cy ny
  rw [n2]
  exact wpAny_of_eq n3 q
end
end TE
namespace TE
open PySem
noncomputable def Tr (m : Heap) (e : Addr) (oe : Obj) : Option Addr → Prop
  | none => ∃ vs, m.get? e = some oe ∧ oe.data = .fields vs ∧ vs[1]? = some .none
  | some T => ∃ vs ot ts, m.get? e = some oe ∧ oe.data = .fields vs ∧ vs[1]? = some (.ref T) ∧ T ≠ e ∧ m.get? T = some ot ∧ ot.data = .fields ts ∧ ts[3]? = some .none
theorem Tr.at {m : Heap} {e : Addr} {oe : Obj} {t : Option Addr} (h : Tr m e oe t) : ∃ vs, m.get? e = some oe ∧ oe.data = .fields vs ∧ 1 < vs.size := by
  cases t with
  | none => obtain ⟨vs, a, b, c⟩ := h; exact ⟨vs, a, b, (Array.getElem?_eq_some_iff.mp c).1⟩
  | some T => obtain ⟨vs, _, _, a, b, c, _⟩ := h; exact ⟨vs, a, b, (Array.getElem?_eq_some_iff.mp c).1⟩
structure Gone (l : List Env) (e : Addr) (t : Option Addr) (oe : Obj) (m m' : Heap) : Prop where
  size : m.objs.size ≤ m'.objs.size
  far : ∀ b o, m.get? b = some o → b ≠ e → t ≠ some b → b ∉ l.filterMap (·.frame) → m'.get? b = some o
  fra : ∀ b o, m.get? b = some o → b ≠ e → t ≠ some b → b ∈ l.filterMap (·.frame) → ∃ sl, m'.get? b = some { o with slots := sl }
  exc : ∃ oe' T, oe'.cls = oe.cls ∧ oe'.dict = oe.dict ∧ Tr m' e oe' (some T) ∧ m.objs.size ≤ T
  old : ∀ b, t = some b → ∃ o, m'.get? b = some o
section
variable {M : Model} {A : Around} {E : Value → Shared → Prop} {s : Shared} {base : Heap} {env : Env} {outer : List Env} {L e : Addr} {oe : Obj}
theorem entry_on {head : Value} {had : Bool} {vs : Array Value} {Q : Unit → Shared → Prop} (hfr : A.frames = some (env :: outer)) (hl : s.heap.FunFrames base (env :: outer)) (hf : env.frame = some L) (he : s.heap.get? e = some oe) (hd : oe.data = .fields vs) (hz : 1 < vs.size)
    (q : ∀ m', Gone (env :: outer) e none oe s.heap m' → Q () { s with heap := m' }) :
    wpAny M A (do let a ← frameOf env; let pl ← entryPlaceOf L had; let b ← EntryCells.newEntry head a .none (rawInt L) .none pl; setField (.ref e) 1 b) (fun _ s' => wpAny M A (setFlight (.ref e) none) Q E s') E s := by
  have ne : e ∉ (env :: outer).filterMap (·.frame) := fun hm => by
    obtain ⟨_, o, ho, nf⟩ := hl.mem hm
    rw [he] at ho
    cases ho
    exact nf vs hd
  apply wpAny_bind
  refine wpAny_frameOf_fun hfr hl hf fun m1 s1 => ?_
  apply wpAny_bind
  refine wpAny_entryPlaceOf fun pl hp => ?_
  unfold EntryCells.newEntry newFields
  apply wpAny_bind
  refine wpAny_newObj_type ?_ (hp.sizeOk5 _ _ _ _ _)
  obtain ⟨ot, hot⟩ : ∃ ot : Obj, ot = { cls := .type "traceback", dict := none, data := .fields ([head, .ref L, .none, rawInt L, .none] ++ (if pl.isEmpty then List.replicate 6 Value.none else pl)).toArray } := ⟨_, rfl⟩
  rw [← hot]
  have otd : ot.data = .fields ([head, .ref L, .none, rawInt L, .none] ++ (if pl.isEmpty then List.replicate 6 Value.none else pl)).toArray := by rw [hot]
  have e1 : m1.get? e = some oe := (s1.2.1 e ne).trans he
  have e2 : (m1.push ot).get? e = some oe := Heap.get?_push_of_some _ e1
  have fr : ot.isFreed = false := by rw [hot]; rfl
  have t2 : (m1.push ot).get? m1.objs.size = some ot := Heap.get?_push_size _ fr
  have te : m1.objs.size ≠ e := Nat.ne_of_gt (Heap.lt_size e1)
  refine wpAny_setField e2 hd hz ?_
  have d3 := Obj.data_mapFields hd (·.setIfInBounds 1 (Value.ref m1.objs.size))
  obtain ⟨m3, h3⟩ : ∃ m3, m3 = (m1.push ot).update e (Obj.mapFields (·.setIfInBounds 1 (Value.ref m1.objs.size))) := ⟨_, rfl⟩
  have e3 : m3.get? e = some (Obj.mapFields (·.setIfInBounds 1 (Value.ref m1.objs.size)) oe) := by rw [h3]; exact Heap.get?_update_self _ e2 (Obj.isFreed_of_fields d3)
  have t3 : m3.get? m1.objs.size = some ot := by rw [h3, Heap.get?_update_other _ _ te.symm]; exact t2
  change wpAny _ _ (setFlight (.ref e) none) _ _ { s with heap := (m1.push ot).update e _ }
  rw [← h3]
  unfold setFlight
  apply wpAny_bind
  refine wpAny_field e3 d3 (x := .ref m1.objs.size) (by simp [hz]) ?_
  rw [if_pos (show (Value.ref m1.objs.size != Value.none) = true by simp)]
  have z3 : 3 < ([head, .ref L, .none, rawInt L, .none] ++ (if pl.isEmpty then List.replicate 6 Value.none else pl)).toArray.size := by
    simp only [List.size_toArray, List.length_append, List.length_cons, List.length_nil]
    lia
  refine wpAny_setField t3 otd z3 (q _ ?_)
  have sz : m1.objs.size = s.heap.objs.size := s1.1
  have keep : ∀ b o, b ≠ e → m1.get? b = some o → (m3.update m1.objs.size (Obj.mapFields (·.setIfInBounds 3 ((none : Option Addr).elim Value.none fun f => rawInt f)))).get? b = some o := fun b o be hb => by
    have nb : m1.objs.size ≠ b := Nat.ne_of_gt (Heap.lt_size hb)
    rw [Heap.get?_update_other _ _ nb, h3, Heap.get?_update_other _ _ be.symm]
    exact Heap.get?_push_of_some _ hb
  have d4 := Obj.data_mapFields otd (·.setIfInBounds 3 ((none : Option Addr).elim Value.none fun f => rawInt f))
  refine ⟨?_, fun b o hb be _ nf => keep b o be ((s1.2.1 b nf).trans hb), fun b o hb be _ _ => ?_, ?_, fun b hb => by cases hb⟩
  · have : (m3.update m1.objs.size (Obj.mapFields (·.setIfInBounds 3 ((none : Option Addr).elim Value.none fun f => rawInt f)))).objs.size = m1.objs.size + 1 := by
      rw [Heap.size_after_update, h3, Heap.size_after_update, Heap.size_push]
    show s.heap.objs.size ≤ (m3.update m1.objs.size (Obj.mapFields (·.setIfInBounds 3 ((none : Option Addr).elim Value.none fun f => rawInt f)))).objs.size
    lia
  · obtain ⟨sl, hs⟩ := s1.2.2 b o hb
    exact ⟨sl, keep b _ be hs⟩
  · refine ⟨Obj.mapFields (·.setIfInBounds 1 (Value.ref m1.objs.size)) oe, m1.objs.size, Obj.cls_mapFields _ _, ?_, ⟨_, _, _, ?_, d3, by simp [hz], te, Heap.get?_update_self _ t3 (Obj.isFreed_of_fields d4), d4, by simp⟩, by lia⟩
    · obtain ⟨c, dd, dt, sl⟩ := oe
      cases dt <;> rfl
    · rw [Heap.get?_update_other _ _ te]
      exact e3
theorem left_n {t : Option Addr} {Q : Unit → Shared → Prop} (hfr : A.frames = some (env :: outer)) (hl : s.heap.FunFrames base (env :: outer)) (hf : env.frame = some L) (h : Tr s.heap e oe t)
    (q : ∀ m', Gone (env :: outer) e t oe s.heap m' → Q () { s with heap := m' }) : wpAny M A (noteFrame (.ref e) env) (fun _ s' => wpAny M A (setFlight (.ref e) none) Q E s') E s := by
  unfold noteFrame
  simp only [hf]
  cases t with
  | none =>
    obtain ⟨vs, he, hd, h1⟩ := h
    apply wpAny_bind
    refine wpAny_field he hd h1 ?_
    rw [if_neg (by decide)]
    exact entry_on hfr hl hf he hd (Array.getElem?_eq_some_iff.mp h1).1 q
  | some T =>
    obtain ⟨vs, ot, ts, he, hd, h1, nT, hT, hdT, h3⟩ := h
    apply wpAny_bind
    refine wpAny_field he hd h1 ?_
    rw [if_pos (show (Value.ref T != Value.none) = true by simp)]
    apply wpAny_bind
    refine wpAny_field hT hdT h3 ?_
    rw [if_neg (show ¬ (Value.none == rawInt L) = true by simp [rawInt])]
    apply wpAny_bind
    have z3 := (Array.getElem?_eq_some_iff.mp h3).1
    refine wpAny_setField hT hdT z3 ?_
    obtain ⟨m1, hm⟩ : ∃ m1, m1 = s.heap.update T (Obj.mapFields (·.setIfInBounds 3 Value.none)) := ⟨_, rfl⟩
    change wpAny _ _ _ _ _ { s with heap := s.heap.update T _ }
    rw [← hm]
    have oth : ∀ b, b ≠ T → m1.get? b = s.heap.get? b := fun b hb => by rw [hm]; exact Heap.get?_update_other _ _ hb.symm
    have dT := Obj.data_mapFields hdT (·.setIfInBounds 3 Value.none)
    have T1 : m1.get? T = some (Obj.mapFields (·.setIfInBounds 3 Value.none) ot) := by rw [hm]; exact Heap.get?_update_self _ hT (Obj.isFreed_of_fields dT)
    have nTf : T ∉ (env :: outer).filterMap (·.frame) := fun hm' => by
      obtain ⟨_, o, ho, nf⟩ := hl.mem hm'
      rw [hT] at ho
      cases ho
      exact nf ts hdT
    have hl1 : m1.FunFrames base (env :: outer) := hl.of_keeps fun b o hb nf => ⟨o, (oth b fun z => by rw [z, hT] at hb; cases hb; exact nf ts hdT).trans hb, rfl⟩
    refine entry_on (s := { s with heap := m1 }) hfr hl1 hf ((oth e nT.symm).trans he) hd (Array.getElem?_eq_some_iff.mp h1).1 fun m' g => q m' ?_
    have sz : m1.objs.size = s.heap.objs.size := by rw [hm, Heap.size_after_update]
    have gs : m1.objs.size ≤ m'.objs.size := g.size
    refine ⟨by lia, fun b o hb be bt nf => g.far b o ((oth b fun z => bt (by rw [z])).trans hb) be (by simp) nf, fun b o hb be bt nf => g.fra b o ((oth b fun z => bt (by rw [z])).trans hb) be (by simp) nf, ?_, fun b hb => ?_⟩
    · obtain ⟨oe', T', a1, a2, a3, a4⟩ := g.exc
      have a4' : m1.objs.size ≤ T' := a4
      exact ⟨oe', T', a1, a2, a3, by lia⟩
    · cases hb
      exact ⟨_, g.far T _ T1 nT (by simp) nTf⟩
theorem left {t : Option Addr} {Q : Unit → Shared → Prop} (hfr : A.frames = some (env :: outer)) (hl : s.heap.FunFrames base (env :: outer)) (hf : env.frame = some L) (h : Tr s.heap e oe t)
    (q : ∀ m', Gone (env :: outer) e t oe s.heap m' → Q () { s with heap := m' }) : wpAny M A (leaving env (.ref e)) Q E s := by
  unfold leaving
  apply wpAny_bind
  exact left_n hfr hl hf h q
theorem anewX {T : Addr} {Q : Unit → Shared → Prop} (h : Tr s.heap e oe (some T))
    (q : ∀ m', (∀ b o, s.heap.get? b = some o → b ≠ T → m'.get? b = some o) → Tr m' e oe (some T) → Q () { s with heap := m' }) : wpAny M A (setFlight (.ref e) none) Q E s := by
  obtain ⟨vs, ot, ts, he, hd, h1, nT, hT, hdT, h3⟩ := h
  unfold setFlight
  apply wpAny_bind
  refine wpAny_field he hd h1 ?_
  rw [if_pos (show (Value.ref T != Value.none) = true by simp)]
  have z3 := (Array.getElem?_eq_some_iff.mp h3).1
  have d4 := Obj.data_mapFields hdT (·.setIfInBounds 3 ((none : Option Addr).elim Value.none fun f => rawInt f))
  have oth : ∀ b o, s.heap.get? b = some o → b ≠ T → (s.heap.update T (Obj.mapFields (·.setIfInBounds 3 ((none : Option Addr).elim Value.none fun f => rawInt f)))).get? b = some o := fun b o hb nb => by
    rw [Heap.get?_update_other _ _ nb.symm]
    exact hb
  exact wpAny_setField hT hdT z3 (q _ oth ⟨vs, _, _, oth e _ he nT.symm, hd, h1, nT, Heap.get?_update_self _ hT (Obj.isFreed_of_fields d4), d4, by simp [z3]⟩)
end
end TE
namespace TE
open PySem PySem.Builtin
section
variable {pg : Program} {wo : World} {Ar : Around} {Er : Value → Shared → Prop} {m : Heap} {gs : Array GenState} {dr : Drawn} {k : Nat} {sy : OsState} {C Y x p : Addr} {tl : List Value} {mC mY f : Str → Option Value} {n : Str} {v : Value} {o : Obj}
theorem get_ready {w1 : Value} {Q : Unit → Shared → Prop} (T : Two m C Y "ValueError" tl mC mY) (hb : tl.contains (.type "BaseException") = true) (hx : m.get? x = some o) (hc : o.cls = .ref C) (q : Q () ⟨m, gs, dr, k, sy⟩) : wpAny (model pg wo) Ar (checkBuiltinCall "BaseException.__getattribute__" ⟨[.ref x, w1], []⟩) Q Er ⟨m, gs, dr, k, sy⟩ := by
  obtain ⟨nm, qn, N, bs, sn, sub, ab, col, dd, k0, k1, k2, k3, k5, nw, cl, ns⟩ := T.lo
  have sb : (Value.ref C :: .ref Y :: tl).contains (.type "BaseException") = true := by
    rw [List.contains_cons, List.contains_cons, hb, Bool.or_true, Bool.or_true]
  have k1' : builtinKind "BaseException.__getattribute__" = some .slot := by decide +kernel
  have k2' : splitId "BaseException.__getattribute__" = some ("BaseException", "__getattribute__") := by decide +kernel
  have ar := F.args_bexc_ga (.ref x) w1
  simp only [checkBuiltinCall, k1', k2']
  apply wpAny_bind
  unfold isInstance
  repeat first
    | (with_reducible refine wpAny_loadPart_at hx ?_; rw [hc])
    | (with_reducible refine wpAny_isSubtype_exc cl ?_; rw [sb])
    | wp_step
  exact q
end
end TE
namespace L2
open PySem PySem.Spec PyProof.Rows
def XAt (n : Nat) (H : Hp) (h : Heap) (x C : Addr) (od : Option Addr) : Prop := ∃ oe t, TE.Tr h x oe t ∧ oe.cls = .ref C ∧ oe.dict = od ∧ n ≤ x ∧ H x = none ∧ ∀ T, t = some T → n ≤ T ∧ H T = none
def CX1 (P : Program) (w : World) : CXT := fun outer H s E e s' => ∃ x C od H', e = .ref x ∧ s'.os = s.os ∧ AllBare s'.gens ∧ Un (frs outer) [] H H' s.heap s'.heap ∧ HOk P w H' s'.heap ∧ 0 < s'.toks ∧ XAt s.heap.objs.size H' s'.heap x C od ∧ E (.ref C) od H'
structure Wish (X : Cx) (E : XK) : Prop where
  xe : ∃ Er : Value → Shared → Prop, X.xe = fun e s' => wpAny (model X.prog X.w) X.A (leaving X.env e) (fun _ s'' => CX1 X.prog X.w X.outer X.H₀ X.s₀ E e s'') Er s'
  st : X.stack = X.env :: X.outer
  fr : X.env.frame = some X.env.locals
  ex : X.ex = []
theorem wish_of {P : Program} {w : World} {K : PySem.W.Frag} {mg : Str → Option Value} {base : Heap} {N : List Str} {qual : Str} {scope : Scope} {f : Addr} {cd : Value} {A : Around} {outer : List Env} {s : Shared} {H : Hp} {E : XK} : Wish (cxOf (CX1 P w) P w K mg base N qual scope f cd A outer s H E) E := ⟨⟨_, rfl⟩, rfl, rfl, rfl⟩
section
variable {X : Cx} {pins : List (Addr × Obj)} {σ : St} {H : Hp} {s : Shared} {E : XK} {x C : Addr} {od : Option Addr}
theorem Wish.leave (W : Wish X E) (I : Inv X pins σ H s) (a : XAt X.s₀.heap.objs.size H s.heap x C od) (q : E (.ref C) od H) : X.xe (.ref x) s := by
  obtain ⟨Er, hx⟩ := W.xe
  obtain ⟨oe, t, tr, a2, a3, a4, a5, a6⟩ := a
  rw [hx]
  have hfr := I.ok.frames
  have hl := I.stack
  have fre := I.stkFree
  rw [W.st] at hfr hl fre
  have L0 : X.s₀.heap.objs.size ≤ X.env.locals := I.ok.above
  have frm : ∀ b, b ∈ frs (X.env :: X.outer) → b = X.env.locals ∨ b ∈ frs X.outer := fun b hb => by
    unfold frs at hb
    rw [List.filterMap_cons, W.fr] at hb
    exact List.mem_cons.mp hb
  refine TE.left hfr hl W.fr tr fun m' g => ?_
  have far : ∀ b o, s.heap.get? b = some o → b ≠ x → t ≠ some b → b ∉ frs (X.env :: X.outer) → m'.get? b = some o := g.far
  have fra : ∀ b o, s.heap.get? b = some o → b ≠ x → t ≠ some b → ∃ sl, m'.get? b = some { o with slots := sl } := fun b o hb n1 n2 => by
    by_cases hf : b ∈ frs (X.env :: X.outer)
    · exact g.fra b o hb n1 n2 hf
    · exact ⟨o.slots, far b o hb n1 n2 hf⟩
  have young : ∀ b o, X.s₀.heap.get? b = some o → b ≠ x ∧ t ≠ some b ∧ b ≠ X.env.locals := fun b o hb => by
    have := Heap.lt_size hb
    exact ⟨Nat.ne_of_lt (Nat.lt_of_lt_of_le this a4), fun z => Nat.lt_irrefl _ (Nat.lt_of_lt_of_le this (a6 b z).1), Nat.ne_of_lt (Nat.lt_of_lt_of_le this L0)⟩
  have ne : ∀ b, b ∉ X.ex := fun b hb => by rw [W.ex] at hb; cases hb
  refine ⟨x, C, od, H, rfl, I.os, I.bare, ⟨?_, ?_, ?_, ?_, I.base.tups, I.base.frzs, I.base.tbls⟩, ?_, I.tk, ?_, q⟩
  · intro b o hb n nf _
    obtain ⟨y1, y2, y3⟩ := young b o hb
    exact far b o (I.base.keep b o hb n nf (ne b)) y1 y2 fun z => (frm b z).elim y3 nf
  · intro b o hb n hf _
    obtain ⟨y1, y2, y3⟩ := young b o hb
    obtain ⟨sl, e1⟩ := I.base.slot b o hb n hf (ne b)
    obtain ⟨sl', e2⟩ := fra b _ e1 y1 y2
    exact ⟨sl', e2⟩
  · intro b o hb n _
    exact I.base.free b o hb n (ne b)
  · intro b o hb _
    obtain ⟨y1, y2, y3⟩ := young b o hb
    obtain ⟨o', e1⟩ := I.base.there b o hb (ne b)
    obtain ⟨sl, e2⟩ := fra b o' e1 y1 y2
    exact ⟨_, e2⟩
  · intro b u e
    refine (I.hok b u e).stay (fun c v hc hv => ?_) (fun _ z => z) fun _ _ z => z
    have tk : ∃ u, H c = some u := by
      rcases hc with rfl | hc
      · exact ⟨u, e⟩
      · exact ⟨_, hc⟩
    obtain ⟨u', hu⟩ := tk
    refine far c v hv (fun z => by rw [z, a5] at hu; cases hu) (fun z => by rw [(a6 c z).2] at hu; cases hu) fun z => by rw [fre c z] at hu; cases hu
  · obtain ⟨oe', T, b1, b2, b3, b4⟩ := g.exc
    refine ⟨oe', some T, b3, b1.trans a2, b2.trans a3, a4, a5, fun T' e => ?_⟩
    cases e
    have b4' : s.heap.objs.size ≤ T := b4
    exact ⟨Nat.le_trans I.sz b4', I.hok.fresh b4'⟩
end
end L2
namespace L2
open PySem PySem.Spec PyProof.Rows
noncomputable abbrev Tab.w (Θ : Tab) (E : XK) : Tab := { Θ with x := E }
def SpX (K : PySem.W.Frag) (Θ : Tab) (n : Nat) (f : M.F) : Sp := fun vs H Q E => ∃ ρ ds S, ds.length = n ∧ RelDs K ρ H ds vs ∧ RepS K (Θ.w E) ρ S H ∧ Post K (Θ.w E) (RelD K) ρ H (f ds S) Q
section
variable {P : Program} {w : World} {K : PySem.W.Frag} {mg : Str → Option Value} {base : Heap} {Θ : Tab}
theorem fun_X {x qual : Str} {st : Stmt} {f : Addr} {fd : FuncData} {N ps : List Str} {k : Nat} {b : M.SM} (F : Fun K x qual st f fd) (Sc : FnScope N ps (defScope st))
    (hbody : ∀ (cdv : Value) (A : Around) (outer : List Env) (s : Shared) (H : Hp) (E : XK), Room k (A.deeper (envOfC qual (defScope st) s.heap.objs.size f cdv)) →
      Wish (cxOf (CX1 P w) P w K mg base N qual (defScope st) f cdv A outer s H E) E → MSs (cxOf (CX1 P w) P w K mg base N qual (defScope st) f cdv A outer s H E) (Θ.w E) (defBody st) b) : FnOk P w K mg base (CX1 P w) (k + 1) f fd ps (SpX K Θ ps.length (M.fn N.length b)) := by
  obtain ⟨oc, od, kV, doc, pm, an, cdv, ct, osl, rfl, lk, hcd⟩ := F.ex
  refine fn_of lk hcd Sc (fun vs H Q E h => ?_) fun A outer s H vs Q E hr h => ?_
  · obtain ⟨ρ, ds, S, hl, r, _⟩ := h
    rw [← r.length, hl]
  · obtain ⟨ρ, ds, S, hl, r, rp, h⟩ := h
    refine ⟨_, hbody cdv A outer s H E hr wish_of, ρ, _, S, start_rel r N, rp, ?_⟩
    have h' : Post K (Θ.w E) (RelD K) ρ H (b (ds.map some ++ List.replicate (N.length - ds.length) none) S).out Q := h
    show PostS K (Θ.w E) ρ H (b (ds.map some ++ List.replicate (N.length - ds.length) none) S) _
    revert h'
    cases b (ds.map some ++ List.replicate (N.length - ds.length) none) S with
    | rt a s => exact fun h' => h'
    | nx a s => exact fun h' ρ1 H1 σ1 p1 l1 rp1 _ => h' ρ1 H1 .non p1 l1 rp1 rfl
    | bk a s => exact fun h' => h'.elim
    | ct a s => exact fun h' => h'.elim
    | exc e a s => exact fun h' => h'
    | no => exact fun h' => h'.elim
theorem w_fun_X {x qual : Str} {st : Stmt} {f : Addr} {fd : FuncData} {N ps : List Str} {k : Nat} {b : M.SM} (F : Fun K x qual st f fd) (Sc : FnScope N ps (defScope st))
    (hbody : ∀ (cdv : Value) (A : Around) (outer : List Env) (s : Shared) (H : Hp) (E : XK), Room k (A.deeper (envOfC qual (defScope st) s.heap.objs.size f cdv)) →
      Wish (cxOf (CX1 P w) P w K mg base N qual (defScope st) f cdv A outer s H E) E → WSs (cxOf (CX1 P w) P w K mg base N qual (defScope st) f cdv A outer s H E) (Θ.w E) (defBody st) b) : FnOk P w K mg base (CX1 P w) (k + 1) f fd ps (SpX K Θ ps.length (M.fn N.length b)) := by with_unfolding_all exact fun_X (x := x) (qual := qual) (st := st) (f := f) (fd := fd) (N := N) (ps := ps) (k := k) (b := b) F Sc hbody
end
end L2
namespace L2
open PySem PySem.Spec PyProof.Rows
noncomputable abbrev tlV : List Value := [.type "ValueError", .type "Exception", .type "BaseException", .type "object"]
section
variable {X : Cx} {pins : List (Addr × Obj)} {σ : St} {H : Hp} {s : Shared}
def dn (H : Hp) (x : Addr) : Hp := fun b => if b = x then none else H b
theorem dn_at (H : Hp) (x : Addr) : dn H x x = none := if_pos rfl
theorem dn_ne {H : Hp} {x b : Addr} (h : b ≠ x) : dn H x b = H b := if_neg h
theorem dn_none {H : Hp} {x b : Addr} (h : H b = none) : dn H x b = none := by
  unfold dn
  split
  · rfl
  · exact h
theorem Inv.drop {x : Addr} {φ : Heap → Prop} (I : Inv X pins σ H s) (e : H x = some (.ext φ)) : Inv X pins σ (dn H x) s := by
  have ne : ∀ {b u}, H b = some u → (∀ φ, u ≠ .ext φ) → b ≠ x := fun {b u} q n z => by
    rw [z, e] at q
    cases q
    exact n _ rfl
  refine ⟨I.ok, I.os, I.bare, ⟨I.base.keep, I.base.slot, fun b ob q n hx => dn_none (I.base.free b ob q n hx), I.base.there, fun b xs q => ?_, fun b ob u q => ?_, fun b ps q => ?_⟩, I.loc, I.cell, dn_none I.free, fun y c q => dn_none (I.freeC y c q), fun p hp => ?_, fun b u q => ?_, I.len, I.tk⟩
  · have z := I.base.tups b xs q
    rw [dn_ne (ne z fun _ => nofun)]; exact z
  · have z := I.base.frzs b ob u q
    rw [dn_ne (ne z fun _ => nofun)]; exact z
  · obtain ⟨mo, z⟩ := I.base.tbls b ps q
    exact ⟨mo, by rw [dn_ne (ne z fun _ => nofun)]; exact z⟩
  · obtain ⟨a1, a2, a3⟩ := I.pin p hp
    exact ⟨a1, dn_none a2, a3⟩
  · have nb : b ≠ x := fun z => by rw [z, dn_at] at q; cases q
    rw [dn_ne nb] at q
    exact (I.hok b u q).stay (fun _ _ _ z => z) (fun c z => by rw [dn_ne (ne z fun _ => nofun)]; exact z) fun c xs z => by rw [dn_ne (ne z fun _ => nofun)]; exact z
end
end L2
namespace L2
open PySem PySem.Spec PyProof.Rows
section
variable {X : Cx} {pins : List (Addr × Obj)} {σ : St} {H : Hp} {s : Shared} {x : Addr} {oe : Obj} {t : Option Addr}
theorem Inv.gone0 {m' : Heap} (I : Inv X pins σ H s) (st : X.stack = X.env :: X.outer) (fr : X.env.frame = some X.env.locals) (tr : TE.Tr s.heap x oe t) (h0 : X.s₀.heap.objs.size ≤ x) (hx : H x = none) (ht : ∀ T, t = some T → X.s₀.heap.objs.size ≤ T ∧ H T = none)
    (px : ∀ p ∈ X.pn ++ pins, p.1 ≠ x ∧ t ≠ some p.1)
    (far : ∀ b o, s.heap.get? b = some o → b ≠ x → t ≠ some b → b ∉ frs (X.env :: X.outer) → m'.get? b = some o) (fra0 : ∀ b o, s.heap.get? b = some o → b ≠ x → t ≠ some b → b ∈ frs (X.env :: X.outer) → ∃ sl, m'.get? b = some { o with slots := sl }) : Inv X pins σ H { s with heap := m' } := by
  have fre := I.stkFree
  rw [st] at fre
  obtain ⟨ve, ge, de, _⟩ := tr.at
  have isF : ∀ b o, s.heap.get? b = some o → (∀ vs, o.data ≠ .fields vs) → b ≠ x ∧ t ≠ some b := fun b o hb nf => by
    refine ⟨fun z => ?_, fun z => ?_⟩
    · rw [z, ge] at hb; cases hb; exact nf ve de
    · rw [z] at tr
      obtain ⟨_, ot, ts, _, _, _, _, gT, dT, _⟩ := tr
      rw [gT] at hb; cases hb; exact nf ts dT
  have fra : ∀ b o, s.heap.get? b = some o → b ≠ x → t ≠ some b → ∃ sl, m'.get? b = some { o with slots := sl } := fun b o hb n1 n2 => by
    by_cases hf : b ∈ frs (X.env :: X.outer)
    · exact fra0 b o hb n1 n2 hf
    · exact ⟨o.slots, far b o hb n1 n2 hf⟩
  have L0 : X.s₀.heap.objs.size ≤ X.env.locals := I.ok.above
  have frm : ∀ b, b ∈ frs (X.env :: X.outer) → b = X.env.locals ∨ b ∈ frs X.outer := fun b hb => by
    unfold frs at hb
    rw [List.filterMap_cons, fr] at hb
    exact List.mem_cons.mp hb
  have young : ∀ b o, X.s₀.heap.get? b = some o → b ≠ x ∧ t ≠ some b ∧ b ≠ X.env.locals := fun b o hb => by
    have := Heap.lt_size hb
    exact ⟨Nat.ne_of_lt (Nat.lt_of_lt_of_le this h0), fun z => Nat.lt_irrefl _ (Nat.lt_of_lt_of_le this (ht b z).1), Nat.ne_of_lt (Nat.lt_of_lt_of_le this L0)⟩
  have tracked : ∀ b u, H b = some u → ∀ o, s.heap.get? b = some o → m'.get? b = some o := fun b u e o hb => far b o hb (fun z => by rw [z, hx] at e; cases e) (fun z => by rw [(ht b z).2] at e; cases e) fun z => by rw [fre b z] at e; cases e
  have cellK : ∀ c v, s.heap.IsCell c v → m'.IsCell c v := fun c v zq => by
    obtain ⟨o, ho, hd⟩ := zq
    obtain ⟨n1, n2⟩ := isF c o ho fun vs z => by rw [hd] at z; cases z
    obtain ⟨sl, e⟩ := fra c o ho n1 n2
    exact ⟨_, e, hd⟩
  refine ⟨I.ok, I.os, I.bare, ⟨?_, ?_, I.base.free, ?_, I.base.tups, I.base.frzs, I.base.tbls⟩, ?_, ?_, I.free, I.freeC, fun p hp => ?_, fun b u e => ?_, I.len, I.tk⟩
  · intro b o hb n nf hxx
    obtain ⟨y1, y2, y3⟩ := young b o hb
    exact far b o (I.base.keep b o hb n nf hxx) y1 y2 fun z => (frm b z).elim y3 nf
  · intro b o hb n hf hxx
    obtain ⟨y1, y2, y3⟩ := young b o hb
    obtain ⟨sl, e1⟩ := I.base.slot b o hb n hf hxx
    obtain ⟨sl', e2⟩ := fra b _ e1 y1 y2
    exact ⟨sl', e2⟩
  · intro b o hb hxx
    obtain ⟨y1, y2, y3⟩ := young b o hb
    obtain ⟨o', e1⟩ := I.base.there b o hb hxx
    obtain ⟨sl, e2⟩ := fra b o' e1 y1 y2
    exact ⟨_, e2⟩
  · obtain ⟨m, ⟨o, es, ep, ho, hd, r⟩, lk⟩ := I.loc
    obtain ⟨n1, n2⟩ := isF _ o ho fun vs z => by rw [hd] at z; cases z
    obtain ⟨sl, e2⟩ := fra _ o ho n1 n2
    refine ⟨m, ⟨_, es, ep, e2, hd, r⟩, fun i y v a1 a2 a3 => ?_⟩
    obtain ⟨u, b1, b2⟩ := lk i y v a1 a2 a3
    refine ⟨u, b1, ?_⟩
    rcases b2 with b2 | ⟨b2, c, b3, b4⟩
    · exact .inl b2
    · exact .inr ⟨b2, c, b3, cellK c _ b4⟩
  · intro y c e
    obtain ⟨v, hv⟩ := I.cell y c e
    exact ⟨v, cellK c v hv⟩
  · obtain ⟨a1, a2, a3, a4, a5⟩ := I.pin p hp
    obtain ⟨n1, n2⟩ := px p hp
    refine ⟨far p.1 p.2 a1 n1 n2 fun z => (frm p.1 z).elim a3 a4, a2, a3, a4, a5⟩
  · refine (I.hok b u e).stay (fun c v hc hv => ?_) (fun _ z => z) fun _ _ z => z
    rcases hc with rfl | hc
    · exact tracked _ u e v hv
    · exact tracked c _ hc v hv
theorem Inv.gone {m' : Heap} (I : Inv X pins σ H s) (st : X.stack = X.env :: X.outer) (fr : X.env.frame = some X.env.locals) (tr : TE.Tr s.heap x oe t) (h0 : X.s₀.heap.objs.size ≤ x) (hx : H x = none) (ht : ∀ T, t = some T → X.s₀.heap.objs.size ≤ T ∧ H T = none)
    (px : ∀ p ∈ X.pn ++ pins, p.1 ≠ x ∧ t ≠ some p.1) (g : TE.Gone (X.env :: X.outer) x t oe s.heap m') : Inv X pins σ H { s with heap := m' } := I.gone0 st fr tr h0 hx ht px g.far g.fra
end
end L2
namespace L2
open PySem PySem.Spec PyProof.Rows
noncomputable abbrev Cx.xw (X : Cx) (xe : Value → Shared → Prop) : Cx := { X with xe := xe }
section
variable {X : Cx} {pins : List (Addr × Obj)} {σ : St} {H : Hp} {s : Shared} {xe : Value → Shared → Prop}
theorem Inv.xw (I : Inv X pins σ H s) : Inv (X.xw xe) pins σ H s :=
  have o := I.ok
  ⟨⟨o.mod, o.kind, o.glob, o.blt, o.above, o.inj, o.has, o.cab, o.hd, o.frames, o.stk, o.exf, o.bs, o.bsz, o.noex, o.exfs, o.funs, o.frf⟩, I.os, I.bare, I.base, I.loc, I.cell, I.free, I.freeC, I.pin, I.hok, I.len, I.tk⟩
theorem Inv.unxw (I : Inv (X.xw xe) pins σ H s) : Inv X pins σ H s :=
  have o := I.ok
  ⟨⟨o.mod, o.kind, o.glob, o.blt, o.above, o.inj, o.has, o.cab, o.hd, o.frames, o.stk, o.exf, o.bs, o.bsz, o.noex, o.exfs, o.funs, o.frf⟩, I.os, I.bare, I.base, I.loc, I.cell, I.free, I.freeC, I.pin, I.hok, I.len, I.tk⟩
theorem goes_ok {M : Model} {A : Around} {E : Value → Shared → Prop} {j : Nat} {x : Str} {pos : Pos} {Q : Unit → Shared → Prop} (I : Inv X pins σ H s) (hN : X.N.Nodup) (hi : X.N[j]? = some x) (hk : X.env.scope.names.lookup x = some .local)
    (h : ∀ s', Inv X pins (σ.set j none) H s' → Q () s') : wpAny M A (do bindName X.env x .none; unbindBehindTheSuite X.env x pos) Q E s := by
  obtain ⟨m, hn, hl⟩ := id I.loc
  have hcls : (X.env.scope.kind == .class || (X.env.scope.kind == .module && X.env.locals != X.env.globals)) = false := by rw [I.ok.kind]; rfl
  have hjσ : j < σ.length := by rw [I.len]; exact (List.getElem?_eq_some_iff.mp hi).1
  have cne := I.cne
  refine wpAny_nameGoes_keeps hk hn hcls fun h' v hn' hs => ?_
  refine h _ ⟨I.ok, I.os, I.bare, ⟨fun b o e n hb hx => ?_, fun b o e n hb hx => ?_, I.base.free, fun b o e hx => ?_, I.base.tups, I.base.frzs, I.base.tbls⟩, ⟨_, hn', fun i y v' e1 e2 e3 => ?_⟩, fun y c e => ?_, I.free, I.freeC, fun p hp => ?_, fun b ob e => ?_, by simpa using I.len, Nat.succ_pos _⟩
  · exact (hs.2 b (Nat.ne_of_lt (Nat.lt_of_lt_of_le (Heap.lt_size e) I.ok.above))).trans (I.base.keep b o e n hb hx)
  · obtain ⟨sl, e1⟩ := I.base.slot b o e n hb hx
    exact ⟨sl, (hs.2 b (Nat.ne_of_lt (Nat.lt_of_lt_of_le (Heap.lt_size e) I.ok.above))).trans e1⟩
  · obtain ⟨o', e1⟩ := I.base.there b o e hx
    exact ⟨o', (hs.2 b (Nat.ne_of_lt (Nat.lt_of_lt_of_le (Heap.lt_size e) I.ok.above))).trans e1⟩
  · by_cases hj : i = j
    · subst hj
      rw [List.getElem?_set_self hjσ] at e2
      cases e2
    · rw [List.getElem?_set_ne (Ne.symm hj)] at e2
      obtain ⟨u', r', q⟩ := hl i y v' e1 e2 e3
      refine ⟨u', r', ?_⟩
      rcases q with ⟨k, e⟩ | ⟨k, c, e, z⟩
      · refine .inl ⟨k, ?_⟩
        have : y ≠ x := fun e => hj (nodup_ix hN e1 (e ▸ hi))
        simp [this, e]
      · exact .inr ⟨k, c, e, z.sameBut hs (cne y c e)⟩
  · obtain ⟨w', z⟩ := I.cell y c e
    exact ⟨w', z.sameBut hs (cne y c e)⟩
  · obtain ⟨e, n, ne, nf, d⟩ := I.pin p hp
    exact ⟨(hs.2 p.1 ne).trans e, n, ne, nf, d⟩
  · refine (I.hok b ob e).stay (fun c w' hc q => (hs.2 c ?_).trans q) (fun _ q => q) fun _ _ q => q
    rintro rfl
    have fr := I.free
    rcases hc with z | hc
    · rw [← z, fr] at e; cases e
    · rw [fr] at hc; cases hc
end
def PX (X : Cx) (e : Expr) (te : XK → TE) : Prop :=
  ∀ (pins : List (Addr × Obj)) (s : Shared) (σ : St) (H : Hp) (Q : VK) (E : XK) (XE : Value → Shared → Prop), Inv X pins σ H s → te E σ H Q →
    (∀ H1 s1 v s', Inv X pins σ H1 s1 → CX1 X.prog X.w X.stack H1 s1 E v s' → XE v s') → wpAny (model X.prog X.w) X.A (eval e X.env) (EP X pins σ Q) XE s
end L2
namespace L2
open PySem PySem.Spec PyProof.Rows
theorem ObR.w {K : PySem.W.Frag} {Θ : Tab} {E : XK} {ρ : List Addr} {H : Hp} {a : Addr} {o : M.O} : ObR K (Θ.w E) ρ H a o ↔ ObR K Θ ρ H a o := by cases o <;> exact Iff.rfl
theorem RepS.w {K : PySem.W.Frag} {Θ : Tab} {E : XK} {ρ : List Addr} {S : M.S} {H : Hp} (h : RepS K Θ ρ S H) : RepS K (Θ.w E) ρ S H := ⟨h.len, h.nd, fun i o e => let ⟨a, x, y⟩ := h.obj i o e; ⟨a, x, ObR.w.mpr y⟩⟩
theorem RepS.unw {K : PySem.W.Frag} {Θ : Tab} {E : XK} {ρ : List Addr} {S : M.S} {H : Hp} (h : RepS K (Θ.w E) ρ S H) : RepS K Θ ρ S H := ⟨h.len, h.nd, fun i o e => let ⟨a, x, y⟩ := h.obj i o e; ⟨a, x, ObR.w.mp y⟩⟩
def RdX (K : PySem.W.Frag) (Θ : Tab) (m : M.EM) : XK → TE := fun E σ H Q => ∃ ρ σ' S, RelSt K ρ H σ' σ ∧ RepS K (Θ.w E) ρ S H ∧ Post K (Θ.w E) (RelD K) ρ H (m σ' S) Q
abbrev MX (X : Cx) (Θ : Tab) (e : Expr) (m : M.EM) : Prop := PX X e (RdX X.K Θ m)
@[irreducible] def WX (X : Cx) (Θ : Tab) (e : Expr) (m : M.EM) : Prop := MX X Θ e m
end L2
namespace L2
open PySem PySem.Spec PyProof.Rows
section
variable {P : Program} {w : World} {K : PySem.W.Frag} {mg : Str → Option Value} {base : Heap} {Θ : Tab}
theorem Has.wish {x : Str} {k n : Nat} {ps : List Str} {f q : M.F} {E : XK} (h : Has P w K mg base x k ps (SpM K Θ n q)) (rf : M.Refines n f q) : Has P w K mg base x k ps (SpM K (Θ.w E) n q) := by
  obtain ⟨a, fd, F, z⟩ := h.ex
  refine ⟨a, fd, F.imp fun vs H Q E' ⟨ρ, ds, S, hl, r, rp, h⟩ => ⟨ρ, ds, S, hl, r, rp.unw, ?_⟩, z⟩
  rcases rf ds S hl rp.unw.cl (rp.len ▸ r.cl) with e | ⟨d, S', S1, em, e1, _⟩
  · rw [e] at h; exact h.elim
  · rw [e1] at h ⊢
    intro ρ' H' b p l rp' rd
    exact h ρ' H' b p l rp'.w rd
end
end L2
namespace L2
open PySem PySem.Spec PyProof.Rows
noncomputable def isS : Value → Bool
  | .str _ _ => true
  | _ => false
def xStrs (K : PySem.W.Frag) (N : Addr) : Bool := match K.lookup N with
  | some ⟨_, _, .dict es _, _⟩ => es.toList.all fun e => isS e.key
  | _ => false
noncomputable def xNo (K : PySem.W.Frag) (N : Addr) (n : Str) : Bool := match PySem.W.nsIn K N n with
  | some none => true
  | _ => false
theorem ns_K {K : PySem.W.Frag} {N : Addr} (q : xStrs K N = true) : ∃ m, (∀ h : Heap, K.In h → h.Ns N m) ∧ ∀ n r, PySem.W.nsIn K N n = some r → m n = r := by
  unfold xStrs at q
  split at q
  · rename_i c d es ep sl ho
    refine ⟨nsFind es, fun h X => ⟨_, es, ep, X _ _ ho, rfl, fun e he => ?_, fun _ => rfl⟩, fun n r e => ?_⟩
    · have := List.all_eq_true.mp q e (Array.mem_toList_iff.mpr he)
      cases hk : e.key <;> rw [hk] at this <;> first | exact ⟨_, _, rfl⟩ | cases this
    · obtain ⟨l⟩ := es
      unfold PySem.W.nsIn at e
      rw [ho] at e
      dsimp only at e
      unfold nsFind findBy
      rw [List.find?_toArray]
      split at e
      · rename_i e' h'; rw [h']; exact Option.some.inj e
      · rename_i h'
        rw [h']
        split at e
        · cases e
        · exact Option.some.inj e
  · cases q
theorem xNo_is {K : PySem.W.Frag} {N : Addr} {n : Str} (q : xNo K N n = true) : PySem.W.nsIn K N n = some none := by
  unfold xNo at q
  split at q
  · assumption
  · cases q
end L2
namespace L2
open PySem PySem.Spec PyProof.Rows
noncomputable abbrev Cx.hx (X : Cx) (A : Around) : Cx := { X with A := A, calm := false, xe := fun _ _ => False }
section
variable {X : Cx} {pins : List (Addr × Obj)} {σ : St} {H : Hp} {s : Shared} {A : Around}
theorem Inv.hx (I : Inv X pins σ H s) (hf : A.frames = X.A.frames) : Inv (X.hx A) pins σ H s :=
  have o := I.ok
  ⟨⟨o.mod, o.kind, o.glob, o.blt, o.above, o.inj, o.has, o.cab, (fun z => by cases z), hf.trans o.frames, o.stk, o.exf, o.bs, o.bsz, o.noex, o.exfs, o.funs, o.frf⟩, I.os, I.bare, I.base, I.loc, I.cell, I.free, I.freeC, I.pin, I.hok, I.len, I.tk⟩
theorem Inv.unhx (o : X.Ok) (I : Inv (X.hx A) pins σ H s) : Inv X pins σ H s := ⟨o, I.os, I.bare, I.base, I.loc, I.cell, I.free, I.freeC, I.pin, I.hok, I.len, I.tk⟩
end
end L2
namespace L2
open PySem PySem.Spec PyProof.Rows
theorem ClsM.w {K : PySem.W.Frag} {Θ : Tab} {c : Nat} {C : Addr} {N : List Str} {E : XK} (h : ClsM K Θ c C N) : ClsM K (Θ.w E) c C N := ⟨h.1, h.2, h.3, h.4, h.5⟩
end L2
namespace L2
open PySem PySem.Spec PyProof.Rows
structure RoomH (k : Nat) (A : Around) : Prop where
  dp : A.depth + 3 * k + 5 < recursionLimit
  un : A.units + 16 * k + 200 < cLine
theorem Room.h {k : Nat} {A : Around} (r : Room k A) : RoomH k A := ⟨r.dp, r.un⟩
theorem RoomH.mono {j k : Nat} {A : Around} (r : RoomH k A) (h : j ≤ k) : RoomH j A := ⟨by have := r.dp; lia, by have := r.un; lia⟩
theorem RoomH.deeper {k : Nat} {A : Around} (r : RoomH (k + 1) A) (env : Env) : RoomH k (A.deeper env) :=
  ⟨by have := r.dp; show A.depth + 1 + 3 * k + 5 < _; lia, by have := r.un; show A.units + 3 + 16 * k + 200 < _; lia⟩
theorem RoomH.depth {k : Nat} {A : Around} (r : RoomH k A) : A.depth < recursionLimit := by have := r.dp; lia
noncomputable abbrev nhA (A : Around) : Around := { A with handled := none }
structure FnOkH (P : Program) (w : World) (K : PySem.W.Frag) (mg : Str → Option Value) (base : Heap) (CX : CXT) (k : Nat) (f : Addr) (fd : FuncData) (ps : List Str) (sp : Sp) : Prop where
  len : ∀ vs H Q E, sp vs H Q E → vs.length = ps.length
  run : ∀ (A : Around) (outer : List Env) (s : Shared) (H : Hp) (args : Args) (us : List Value) (vs : List V) (Q : VK) (E : XK), RoomH k A → Env0 P w K mg base A outer s H → (0 < s.toks ∨ ∃ p ∈ ps, fd.scope.names.lookup p = some .local) → BindsTo s fd args (ps.zip us) → Vals vs us → sp vs H Q E →
    codeAny (model P w) A (.call (.ref f) args) (CR CX outer P w H s Q E) s
theorem FnOkH.ok {P : Program} {w : World} {K : PySem.W.Frag} {mg : Str → Option Value} {base : Heap} {CX : CXT} {k : Nat} {f : Addr} {fd : FuncData} {ps : List Str} {sp : Sp} (F : FnOkH P w K mg base CX k f fd ps sp) : FnOk P w K mg base CX k f fd ps sp :=
  ⟨F.len, fun A outer s H args us vs Q E hr => F.run A outer s H args us vs Q E hr.h⟩
abbrev cxH (CX : CXT) (P : Program) (w : World) (K : PySem.W.Frag) (mg : Str → Option Value) (base : Heap) (N : List Str) (qual : Str) (scope : Scope) (f : Addr) (cd : Value) (A : Around) (outer : List Env) (s : Shared) (H : Hp) (E : XK) : Cx :=
  { cxOf CX P w K mg base N qual scope f cd A outer s H E with calm := false }
theorem Env0.nh {P : Program} {w : World} {K : PySem.W.Frag} {mg : Str → Option Value} {base : Heap} {A : Around} {outer : List Env} {s : Shared} {H : Hp} (e : Env0 P w K mg base A outer s H) : Env0 P w K mg base (nhA A) outer s H := ⟨e.frames, e.mod, e.bs, e.bsz, e.funs, e.frf, e.hok, e.bare⟩
theorem fnH_of {CX : CXT} {P : Program} {w : World} {K : PySem.W.Frag} {mg : Str → Option Value} {base : Heap} {k : Nat} {f : Addr} {name qual : Str} {params : Arguments} {body : List Stmt} {scope : Scope} {dV kV doc pm cdv ct oc : Value} {an od : Option Addr}
    {osl : Array (Option Value)} {N ps : List Str} {sp : Sp} (lk : K.lookup f = some ⟨oc, od, .func (PySem.W.fnOf name qual params body scope dV kV doc pm an cdv ct), osl⟩) (hcd : PySem.W.codeIn K cdv qual = true) (S : FnScope N ps scope)
    (len : ∀ vs H Q E, sp vs H Q E → vs.length = ps.length)
    (hbody : ∀ (A : Around) (outer : List Env) (s : Shared) (H : Hp) (vs : List V) (Q : VK) (E : XK), RoomH k (A.deeper (envOfC qual scope s.heap.objs.size f cdv)) → sp vs H Q E →
      ∃ t, PSs (cxH CX P w K mg base N qual scope f cdv A outer s H E) body t ∧ t { nx := fun _ H' => Q .non H', rt := Q } (start N vs) H) :
    FnOkH P w K mg base CX (k + 1) f (PySem.W.fnOf name qual params body scope dV kV doc pm an cdv ct) ps sp := by
  refine ⟨len, fun A outer s H args us vs Q E hr e0 htk hb r hsp => ?_⟩
  have hl := len _ _ _ _ hsp
  have KX : K.In s.heap := e0.mod.kin.keeps fun b o e => (e0.bs b o e).1
  have lim : s.heap.NoLimit := e0.mod.nolimit.keeps fun b o e => (e0.bs b o e).1
  have hkind : ∀ y ∈ ps.zip us, scope.names.lookup y.1 = some .local ∨ (scope.names.lookup y.1 = some .cell ∧ ((cellsFrom (s.heap.objs.size + 1) scope.names []).lookup y.1).isSome = true) := fun ⟨n, v⟩ hy => by
    rcases S.par n (List.of_mem_zip hy).1 with q | q
    · exact .inl q
    · exact .inr ⟨q, PySem.W.cellsFrom_some _ _ _ (.inl q)⟩
  refine codeAny_call_function hr.depth (KX _ _ lk) rfl S.co S.gen rfl (PySem.W.codeRec_of KX hcd) (hb _ _ _ _ ?_)
  refine newEnvT S.kind hkind fun env he s1 x htk1 => ?_
  subst he
  refine ⟨lim.keeps x.toInCall.keep, codeAny_func ?_⟩
  obtain ⟨t, ht, hq⟩ := hbody A outer s H vs Q E (hr.deeper _) hsp
  have I0 := inv_start (CX := CX) (qual := qual) (f := f) (cd := cdv) (E := E) S rfl e0.nh hl r x (htk1 (htk.imp id fun ⟨p, hp, hpl⟩ => by
    obtain ⟨i, hi, e⟩ := List.mem_iff_getElem.mp hp
    have hu : i < us.length := by rw [← r.length, hl]; exact hi
    exact ⟨(p, us[i]), List.mem_iff_getElem.mpr ⟨i, by rw [List.length_zip]; lia, by rw [List.getElem_zip, e]⟩, hpl⟩))
  have I : Inv (cxH CX P w K mg base N qual scope f cdv A outer s H E) [] (start N vs) H s1 :=
    have o := I0.ok
    ⟨⟨o.mod, o.kind, o.glob, o.blt, o.above, o.inj, o.has, o.cab, (fun z => by cases z), Around.frames_deeper e0.frames, o.stk, o.exf, o.bs, o.bsz, o.noex, o.exfs, o.funs, o.frf⟩, I0.os, I0.bare, I0.base, I0.loc, I0.cell, I0.free, I0.freeC, I0.pin, I0.hok, I0.len, I0.tk⟩
  refine wpAny_mono (ht [] s1 (start N vs) H _ I hq) (fun fl s' hs => ?_) fun e s' hs => hs
  have fin : ∀ {σ' : St} {H' : Hp} {v : V} {u : Value}, Inv (cxH CX P w K mg base N qual scope f cdv A outer s H E) [] σ' H' s' → RelV v u → Q v H' → CE outer P w H s Q u s' :=
    fun {σ' H' v u} J rv q => ⟨v, H', J.os, J.bare, J.base, J.hok, rv, q⟩
  cases fl with
  | ret u =>
    obtain ⟨v, σ', H', J, rv, q⟩ := hs
    exact fin J rv q
  | next =>
    obtain ⟨σ', H', J, q⟩ := hs
    exact fin (v := V.non) (u := Value.none) J rfl q
  | brk =>
    obtain ⟨_, _, _, q⟩ := hs
    exact False.elim q
  | cont =>
    obtain ⟨_, _, _, q⟩ := hs
    exact False.elim q
section
variable {X : Cx} {CX : CXT} {k : Nat} {f : Addr} {fd : FuncData} {ps : List Str} {sp : Sp} {dvs : List V} {ds : List Value} {E : XK} {x : Str} {p pos : Pos} {e : Expr} {es : List Expr} {t : TA}
theorem run_fnH {pins : List (Addr × Obj)} {σ : St} {H : Hp} {s : Shared} {Q : VK} {us : List Value} {vs : List V} (F : FnOkH X.prog X.w X.K X.mg X.base CX k f fd ps sp) (hr : RoomH k X.A) (hb : Binds X.K fd ps ds) (hd : Vals dvs ds) (hx : Passes CX X E)
    (I : Inv X pins σ H s) (r : Vals vs us) (h : sp (vs ++ dvs) H Q E) : wpAny (model X.prog X.w) X.A (call (.ref f) us) (EP X pins σ Q) X.xe s := by
  have r2 : Vals (vs ++ dvs) (us ++ ds) := r.append hd
  have hl : (us ++ ds).length = ps.length := by rw [← r2.length]; exact F.len _ _ _ _ h
  refine wpAny_call (codeAny_mono (codeAny_toks_of (n := 1) I.tk (F.run X.A X.stack s H ⟨us, []⟩ (us ++ ds) (vs ++ dvs) Q E hr I.env0 (.inl I.tk) (hb s us I.kIn hl) r2 h)) fun r s' ⟨htk, hq⟩ => ?_)
  cases r with
  | error e => exact hx pins σ H s e s' I hq
  | ok fl =>
    cases fl with
    | ret u => exact I.after hq htk
    | next => exact False.elim hq
    | brk => exact False.elim hq
    | cont => exact False.elim hq
theorem pe_callIn (F : FnOkH X.prog X.w X.K X.mg X.base CX k f fd ps sp) (hr : RoomH k X.A) (hg : Gl X x) (hm : X.mg x = some (.ref f)) (hk : PySem.W.keepIn X.K (.ref f) = true) (hb : Binds X.K fd ps ds) (hd : Vals dvs ds) (hx : Passes CX X E)
    (ha : PA X (e :: es) t) (hdb : (x == ("__debug__" : Str)) = false := by decide) (he : starEach (e :: es) X.env = (false, eval e X.env) :: starEach es X.env := by rfl) (hpl : (backTo pos (starEach es X.env)).any (·.1) = false := by rfl) :
    PE X (.Call (.Name x p) (e :: es) [] pos) (tCall sp dvs E t) := by
  intro pins s σ H Q I h
  refine wpAny_Call_Name_kw (ld_glob I hg hm ?_ hdb)
  refine PySem.W.callWith_K (h₀ := X.base) I.ok.mod.kin hk (thn5 (ha pos pins s σ H _ I h) fun us s1 vs H1 I1 r q => ⟨I1.kIn, ?_⟩) he hpl
  exact run_fnH F hr hb hd hx I1 r q
end
end L2
namespace TE
open PySem PySem.Builtin
section
variable {pg : Program} {wo : World} {Ar : Around} {Er : Value → Shared → Prop} {m : Heap} {gs : Array GenState} {dr : Drawn} {k : Nat} {sy : OsState} {C Y x p : Addr} {tl : List Value} {mC mY f : Str → Option Value} {n : Str} {v : Value} {o : Obj} {K : W.Frag} {od : Option Obj}
theorem look_fast {T : String} {n : Str} {r : Option Value} (h : fastLookup T n = some r) : typeLookup (.type T) n = pure r := by
  rw [typeLookup_type, builtinLookup_eq_fast, h]
theorem cls_look : typeLookup (.type "ValueError") "__class__" = pure (some (.builtin "object.__class__")) := look_fast (by decide +kernel)
theorem cls_in {tk : Tok} {Q : PySem.Fin → Shared → Prop} (T : Two m C Y "ValueError" tl mC mY) (X : K.In m) (I : W.InstAt m x o C od) (hm : W.mroIn K C (.type "object") = some true) (n1 : mC "__class__" = none) (n2 : mY "__class__" = none)
    (q : Q (.done (.ret (.ref C))) ⟨m, gs, dr, k, sy⟩) : wpAny (model pg wo) Ar (Builtin.«object.__getattribute__» ⟨[.ref x, .str "__class__" tk], []⟩) Q Er ⟨m, gs, dr, k, sy⟩ := by
  obtain ⟨nm, qn, N, bs, sn, sub, ab, col, dd, k0, k1, k2, k3, k5, nw, cl, ns⟩ := T.lo
  have hx := I.at_
  have hc := I.cls
  have f5 := F.typeOf_object_class
  have f6 := F.slot_gs_get.lookup
  have f7 := F.slot_gs_set.lookup
  unfold Builtin.«object.__getattribute__»
  repeat any_goals first
    | assumption
    | (with_reducible refine wpAny_loadPart_at hx ?_; rw [hc])
    | (with_reducible refine T.look n1 n2 cls_look ?_)
    | wp_step
  refine W.class_get (s := ⟨m, gs, dr, k, sy⟩) X I hm ?_
  repeat any_goals first
    | assumption
    | wp_step
theorem cls_get {Q : Option Value → Shared → Prop} (T : Two m C Y "ValueError" tl mC mY) (X : K.In m) (I : W.InstAt m x o C od) (hm : W.mroIn K C (.type "object") = some true) (hb : tl.contains (.type "BaseException") = true) (g1 : mC "__getattribute__" = none) (g2 : mY "__getattribute__" = none) (h1 : mC "__getattr__" = none) (h2 : mY "__getattr__" = none) (n1 : mC "__class__" = none) (n2 : mY "__class__" = none)
    (q : Q (some (.ref C)) ⟨m, gs, dr, k + 1, sy⟩) : wpAny (model pg wo) Ar (getAttr? (.ref x) "__class__") Q Er ⟨m, gs, dr, k, sy⟩ := by
  have hx := I.at_
  have hc := I.cls
  have fa := F.attr_ValueError
  have bd := fa.ga.bind (.ref x)
  have x2 : (Value.builtin "BaseException.__getattribute__" == Value.builtin "object.__getattribute__") = false := by decide +kernel
  have x1 : (onTheHeap (Value.ref C) && Value.builtin "BaseException.__getattribute__" == Value.builtin "object.__getattribute__") = false := by rw [x2]; rfl
  unfold getAttr? getAttrBy?
  refine wpAny_bind (wpAny_mkText (wpAny_bind (wpAny_attempt ?_)))
  repeat any_goals first
    | assumption
    | (with_reducible refine wpAny_loadPart_at hx ?_; rw [hc])
    | (with_reducible refine T.look g1 g2 fa.ga.lookup ?_)
    | (with_reducible refine T.look h1 h2 F.attrBase_ValueError.noGetattr ?_)
    | wp_step
  refine codeAny_call_builtin fa.ga.plain F.entry_bexc_ga (get_ready T hb hx hc (cls_in T X I hm n1 n2 ?_))
  repeat any_goals first
    | assumption
    | wp_step
end
end TE
namespace L2
open PySem PySem.Spec PyProof.Rows
structure XC0 (K : PySem.W.Frag) (C Y : Addr) (mC mY : Str → Option Value) : Prop where
  two : ∀ h : Heap, K.In h → TE.Two h C Y "ValueError" tlV mC mY
  g1 : mC "__getattribute__" = none
  g2 : mY "__getattribute__" = none
  a1 : mC "__getattr__" = none
  a2 : mY "__getattr__" = none
  n1 : mC "__class__" = none
  n2 : mY "__class__" = none
  hm : PySem.W.mroIn K C (.type "object") = some true
def LiesC (C x : Addr) (od : Option Addr) (h : Heap) : Prop := ∃ oe, h.get? x = some oe ∧ oe.cls = .ref C ∧ oe.dict = od ∧ ∀ c, oe.data ≠ .cls c
def LiesK (C x : Addr) (od : Option Addr) (h : Heap) : Prop := LiesC C x od h ∧ ∀ dx, od = some dx → ∃ o, h.get? dx = some o
theorem LiesK.inst {C x : Addr} {od : Option Addr} {h : Heap} (l : LiesK C x od h) : ∃ ox od, PySem.W.InstAt h x ox C od := by
  obtain ⟨⟨oe, e, c, hd, n⟩, d⟩ := l
  have hn : PySem.W.notCls oe = true := by
    unfold PySem.W.notCls
    split
    · rename_i z; exact absurd z (n _)
    · rfl
  cases od with
  | none => exact ⟨oe, none, e, c, hn, by rw [hd]; trivial⟩
  | some dx =>
    obtain ⟨od, ho⟩ := d dx rfl
    exact ⟨oe, some od, e, c, hn, by rw [hd]; exact ho⟩
theorem kitx_exc {K : PySem.W.Frag} {C Y x : Addr} {od : Option Addr} {mC mY : Str → Option Value} (xc : XC0 K C Y mC mY) : PySem.W.KitX K (.ref x) (.ref C) (LiesK C x od) := by
  refine ⟨fun M h X l => ?_, fun M h X l => ?_, fun h tp dd its n sl X e => ?_, fun {prog w A E Q s} X l q => ?_⟩
  · obtain ⟨ox, od, I⟩ := l.inst
    exact I.type
  · obtain ⟨nm, qn, N, bs, sn, sub, ab, col, dd, k0, k1, k2, k3, k5, nw, cl, ns⟩ := (xc.two h X).lo
    intro A' Q' E' s' k q
    unfold isType loadHead
    exact wpAny_bind (wpAny_loadPart (k _ _ cl) (wpAny_pure q))
  · obtain ⟨nm, qn, N, bs, sn, sub, ab, col, dd, k0, k1, k2, k3, k5, nw, cl, ns⟩ := (xc.two h X).lo
    cases hb : (Value.ref C == Value.ref tp) with
    | false => rfl
    | true =>
      have := eq_of_beq hb
      cases this
      rw [e] at cl
      exact absurd (show Value.type "tuple" = Value.type "type" from congrArg Obj.cls (Option.some.inj cl)) (by decide)
  · obtain ⟨ox, od, I⟩ := l.inst
    exact TE.cls_get (xc.two _ X) X I xc.hm (by decide) xc.g1 xc.g2 xc.a1 xc.a2 xc.n1 xc.n2 q
def XTr (C : Addr) (x : Addr) (H : Hp) : Prop := ∃ od, H x = some (.ext (LiesC C x od)) ∧ ∀ dx, od = some dx → ∃ fs, H dx = some (.xd fs)
theorem XTr.lies {X : Cx} {pins : List (Addr × Obj)} {σ : St} {H : Hp} {s : Shared} {C x : Addr} (I : Inv X pins σ H s) (h : XTr C x H) : ∃ od, LiesK C x od s.heap := by
  obtain ⟨od, hx, hd⟩ := h
  refine ⟨od, (I.hok x _ hx).1, fun dx e => ?_⟩
  obtain ⟨fs, hf⟩ := hd dx e
  obtain ⟨mA, ⟨ob, es, ep, ho, _⟩, _⟩ := I.hok dx _ hf
  exact ⟨ob, ho⟩
noncomputable def rIsX (C : Addr) (c : V) (b : Bool) : List V → Hp → VK → Prop := fun xs H Q => ∃ x, xs = [.ref x, c] ∧ XTr C x H ∧ Q (.bl b) H
theorem call_isX {X : Cx} {C Y : Addr} {mC mY : Str → Option Value} {c : V} {u : Value} {b : Bool} (xc : XC0 X.K C Y mC mY) (hc : ∀ w, RelV c w → w = u) (e : PySem.W.kitOne X.K (.ref C) u = some b) : CallR X (.builtin "isinstance") (rIsX C c b) := by
  intro pins s σ H xs us Q I r h
  obtain ⟨x, rfl, hx, q⟩ := h
  obtain ⟨v, w, rfl, rv, rc⟩ := vals2 r
  cases rv
  rw [hc w rc]
  obtain ⟨od, l⟩ := hx.lies I
  exact wpAny_with_toks (n := 1) I.tk (PySem.W.kia_one (kitx_exc xc) I.kIn l e (fun z => nomatch z) fun tk hk => ⟨.bl b, H, I.tok tk hk, rfl, q⟩)
noncomputable def rIsXs (C : Addr) (vs : List V) (b : Bool) : List V → Hp → VK → Prop := fun xs H Q => ∃ x p, xs = [.ref x, .ref p] ∧ XTr C x H ∧ H p = some (.tup vs) ∧ Q (.bl b) H
theorem call_isXs {X : Cx} {C Y : Addr} {mC mY : Str → Option Value} {cs : List V} {us0 : List Value} {b : Bool} (xc : XC0 X.K C Y mC mY) (hc : ∀ ws, Vals cs ws → ws = us0) (e : PySem.W.kitAny X.K (.ref C) us0 = some b) : CallR X (.builtin "isinstance") (rIsXs C cs b) := by
  intro pins s σ H xs us Q I r h
  obtain ⟨x, p, rfl, hx, hp, q⟩ := h
  obtain ⟨v, w, rfl, rv, rc⟩ := vals2 r
  cases rv
  cases rc
  obtain ⟨od, l⟩ := hx.lies I
  obtain ⟨_, its, vl, o, ho, hcl, n, hn⟩ := (show ObjOk X.prog X.w H s.heap p (.tup cs) from I.hok p _ hp)
  cases hc its vl
  obtain ⟨oc, od', odt, osl⟩ := o
  cases hcl
  cases hn
  exact wpAny_with_toks (n := 1) I.tk (PySem.W.kia_tup (kitx_exc xc) I.kIn l ho e (fun z => nomatch z) fun tk hk => ⟨.bl b, H, I.tok tk hk, rfl, q⟩)
end L2
namespace TE
open PySem PySem.Builtin
def Made0 (m m' : Heap) (C : Addr) : Prop := (∀ b o, m.get? b = some o → m'.get? b = some o) ∧ ∃ t, m'.get? (m.objs.size + 1) = some { cls := .ref C, data := .fields #[.ref t, .none, .none, .none, .bool false, .none] }
section
variable {pg : Program} {wo : World} {Ar : Around} {Er : Value → Shared → Prop} {s : Shared} {en : Env} {C : Addr} {B nw ini : String} {tl : List Value}
def Plain0 (m : Heap) (C : Addr) (tl : List Value) (nw : String) : Prop := ∃ nm q N bs bm hd sn sub ab col dd k0 k1 k2 k3 k5 mN, m.get? C = some (excClassObj nm q C N bs bm hd sn sub ab col dd k0 k1 k2 k3 k5 nw) ∧ OwnTail m tl bm ∧ m.Ns N mN ∧ mN "__init__" = none
theorem made_in0 {m : Heap} {gs : Array GenState} {dr : Drawn} {k : Nat} {sy : OsState} {us : List Value} {Q : PySem.Fin → Shared → Prop} (F : ExcBaseFacts B nw ini tl) (c : Plain0 m C tl nw) (z : us.length ≤ sizeLine)
    (q : ∀ m', Made0 m m' C → Q (.done (.ret (.ref (m.objs.size + 1)))) ⟨m', gs, dr, k, sy⟩) : wpAny (model pg wo) Ar (Builtin.«type.__call__» ⟨.ref C :: us, []⟩) Q Er ⟨m, gs, dr, k, sy⟩ := by
  obtain ⟨nm, qn, N, bs, tl', hd, sn, sub, ab, col, dd, k0, k1, k2, k3, k5, mN, cl, ot, ns, ni⟩ := c
  have mine : (Value.ref C :: tl').contains (.ref C) = true := by simp
  have cl' := laid_old (C := C) (us := us) cl
  repeat first
    | (with_reducible refine wpAny_madeBy_exc cl ?_)
    | (with_reducible refine wpAny_loadPart_at cl ?_)
    | wp_step
  apply codeAny_call_builtin_code (Code.quiet_builtin _ F.quiet)
  apply wpAny_check_new_subT F ot cl
  refine codeAny_exc_new_subT F ot cl ?_ z
  change wpAny _ _ _ _ _ ⟨laid m C us, gs, dr, k, sy⟩
  unfold isInstance
  repeat first
    | (with_reducible refine wpAny_loadPart_at laid_new ?_)
    | (with_reducible refine wpAny_isSubtype_exc cl' ?_; rw [mine])
    | wp_step
  have ot' := ot.keeps (h' := laid m C us) fun _ _ => laid_old
  change wpAny _ _ (typeLookup (.ref C) _) _ _ _
  apply wpAny_typeLookup_tail cl' (laid_ns ns) ot' F.mroIs F.init.lookup
  rw [ni]
  apply wpAny_holding
  apply wpAny_bind
  apply wpAny_of_eq (F.init.bind _)
  apply wpAny_bind
  refine wpAny_call (codeAny_call_builtin F.init.plain F.initEntry (wpAny_check_init_subT F ot' cl' laid_new rfl ?_))
  have hget := laid_new (m := m) (C := C) (us := us)
  unfold laid bare at hget ⊢
  wp_walk
  refine q _ ⟨fun b o hb => ?_, m.objs.size + 2, ?_⟩
  · rw [Heap.get?_update_other _ _ (Nat.ne_of_gt (Nat.lt_succ_of_lt (Heap.lt_size hb)))]
    exact Heap.get?_push_of_some _ (laid_old hb)
  · rw [Heap.get?_update_self _ (Heap.get?_push_of_some _ hget) rfl]
    simp only [Heap.size_push]
    rfl
theorem made0 {m : Heap} {gs : Array GenState} {dr : Drawn} {k : Nat} {sy : OsState} {us : List Value} {Q : Value → Shared → Prop} (F : ExcBaseFacts B nw ini tl) (c : Plain0 m C tl nw) (z : us.length ≤ sizeLine)
    (q : ∀ m', Made0 m m' C → Q (.ref (m.objs.size + 1)) ⟨m', gs, dr, k, sy⟩) : wpAny (model pg wo) Ar (call (.ref C) us) Q Er ⟨m, gs, dr, k, sy⟩ := by
  obtain ⟨nm, qn, N, bs, tl', hd, sn, sub, ab, col, dd, k0, k1, k2, k3, k5, mN, cl, _⟩ := id c
  have l1 := tc_lookup
  have l2 := tc_bind (.ref C)
  have ty : Shared.TypeIs ⟨m, gs, dr, k, sy⟩ (.ref C) "type" := ⟨_, cl, rfl⟩
  apply wpAny_call
  apply codeAny_of_tree
  change wpAny _ _ (callAny (.ref C) _) _ _ _
  repeat any_goals first
    | assumption
    | (with_reducible refine wpAny_loadPart_at cl ?_)
    | wp_step
  constructor
  · rfl
  · exact codeAny_call_builtin_at (Code.quiet_builtin _ (by decide +kernel)) entry_typeCall (wpAny_check_type_call_sub cl (made_in0 F c z q))
theorem raise_call0 {x : Str} {np cp pos : Pos} {es : List Expr} {Q : Flow → Shared → Prop} (F : ExcBaseFacts B nw ini tl) (nh : Ar.handled = none) (pl : (backTo cp (starEach es en)).any (·.1) = false)
    (hx : wpAny (model pg wo) Ar (eval (.Name x np) en) (fun v s1 => v = .ref C ∧ wpAny (model pg wo) Ar (evalArgs (.ref C) true (backTo cp (starEach es en)) []) (fun a s2 => a.kw = [] ∧ a.pos.length ≤ sizeLine ∧ Plain0 s2.heap C tl nw ∧
      ∀ h', Made0 s2.heap h' C → IsX h' C ∧ Er (.ref (s2.heap.objs.size + 1)) { s2 with heap := h' }) Er s1) Er s) :
    wpAny (model pg wo) Ar (exec (.Raise (some (.Call (.Name x np) es [] cp)) none pos) en) Q Er s := by
  rw [arm_exec_Raise]
  simp only [evalOpt, Option.map]
  apply wpAny_bind
  apply wpAny_standAt
  apply raised (C := C) nh
  apply wpAny_bind
  refine wpAny_mono (wpAny_Call_ofName (wpAny_mono hx (fun v s1 h1 => ?_) fun _ _ z => z)) (fun v s3 h3 => wpAny_bind (wpAny_standAt (wpAny_pure h3))) fun _ _ z => z
  rw [h1.1]
  unfold callWith
  apply wpAny_bind
  apply wpAny_holding
  refine wpAny_mono h1.2 (fun a s2 h2 => wpAny_bind (wpAny_standAt ?_)) fun _ _ z => z
  obtain ⟨ps, kw⟩ := a
  obtain ⟨rfl, z, c, h3⟩ := h2
  obtain ⟨m, gs, dr, k, sy⟩ := s2
  obtain ⟨nm, qn, N, bs, bm, hd, sn, sub, ab, col, dd, k0, k1, k2, k3, k5, mN, cl, ot, ns, hi⟩ := c
  simp only [pl]
  apply wpAny_bind
  apply wpAny_keeperOf_exc cl
  apply wpAny_bind
  refine made0 F ⟨nm, qn, N, bs, bm, hd, sn, sub, ab, col, dd, k0, k1, k2, k3, k5, mN, cl, ot, ns, hi⟩ z fun h' me => ?_
  obtain ⟨ix, er⟩ := h3 h' me
  obtain ⟨_, t, at'⟩ := me
  apply wpAny_bind
  apply wpAny_holding
  apply wpAny_point
  exact wpAny_pure ⟨_, rfl, ix, ⟨none, _, t, at'⟩, er⟩
end
end TE
namespace L2
open PySem PySem.Spec PyProof.Rows
def xBase (K : PySem.W.Frag) (C Y : Addr) (ns : List Str) : Bool := match K.lookup C, K.lookup Y with
  | some ⟨cl, _, .cls cd, sl⟩, some ⟨_, _, .cls cy, _⟩ => cl == .type "type" && cd.mro == .ref C :: .ref Y :: tlV && sl == #[sl.getD 0 none, sl.getD 1 none, sl.getD 2 none, sl.getD 3 none, some (.builtin "ValueError.__new__"), sl.getD 5 none] &&
    !cd.hasDel && cd.hasDict && xStrs K cd.ns && xStrs K cy.ns && ns.all (xNo K cd.ns) && ns.all (xNo K cy.ns) && PySem.W.mroIn K C (.type "object") == some true
  | _, _ => false
theorem xbase_of {K : PySem.W.Frag} {C Y : Addr} {ns : List Str} (q : xBase K C Y ns = true) : ∃ mC mY, (∀ h : Heap, K.In h → TE.Two h C Y "ValueError" tlV mC mY) ∧ (∀ h : Heap, K.In h → ("__init__" : Str) ∈ ns → TE.Plain0 h C tlV "ValueError.__new__") ∧ (∀ n ∈ ns, mC n = none ∧ mY n = none) ∧ PySem.W.mroIn K C (.type "object") = some true := by
  unfold xBase at q
  split at q
  · rename_i cl dd cd sl cY dY cy slY ho hY
    simp only [Bool.and_eq_true, Bool.not_eq_true'] at q
    obtain ⟨⟨⟨⟨⟨⟨⟨⟨⟨q1, q2⟩, q3⟩, hdel⟩, hdict⟩, sC⟩, sY⟩, noC⟩, noY⟩, hm⟩ := q
    cases eq_of_beq q1
    have hs := eq_of_beq q3
    have hr := eq_of_beq q2
    obtain ⟨mC, nC, vC⟩ := ns_K sC
    obtain ⟨mY, nY, vY⟩ := ns_K sY
    have oC : ∀ n ∈ ns, mC n = none := fun n hn => vC n none (xNo_is (List.all_eq_true.mp noC n hn))
    have oY : ∀ n ∈ ns, mY n = none := fun n hn => vY n none (xNo_is (List.all_eq_true.mp noY n hn))
    obtain ⟨nm, bs, mro, nsA, qn, hd, sn, sub, ab, col, del⟩ := cd
    cases hr
    cases hdel
    cases hdict
    rw [hs] at ho
    exact ⟨mC, mY, fun h X => ⟨PySem.F.excBase_ValueError.mroIs, ⟨nm, qn, nsA, bs, sn, sub, ab, col, dd, _, _, _, _, _, _, X _ _ ho, nC h X⟩, ⟨cY, dY, cy, slY, X _ _ hY, nY h X⟩⟩,
      fun h X hi => ⟨nm, qn, nsA, bs, _, true, sn, sub, ab, col, dd, _, _, _, _, _, mC, X _ _ ho, .own (X _ _ hY) (nY h X) (oY _ hi) .base, nC h X, oC _ hi⟩, fun n hn => ⟨oC n hn, oY n hn⟩, eq_of_beq hm⟩
  · cases q
def tRaise0 (C : Addr) (E : XK) (t : TA) : TS := fun _ σ H => t σ H fun vs H1 => vs.length ≤ sizeLine ∧ E (.ref C) none H1
theorem ps_raise0 {X : Cx} {E : XK} {C : Addr} {x : Str} {e : Expr} {es : List Expr} {t : TA} {np cp pos : Pos} (W : Wish X E) (hc : X.calm = true) (pc : ∀ h : Heap, X.K.In h → TE.Plain0 h C tlV "ValueError.__new__") (ix : ∀ h : Heap, X.K.In h → TE.IsX h C) (hg : Gl X x) (hm : X.mg x = some (.ref C)) (ha : PA X (e :: es) t) (hdb : (x == ("__debug__" : Str)) = false := by decide)
    (he : starEach (e :: es) X.env = (false, eval e X.env) :: starEach es X.env := by rfl) (hpl : (backTo cp (starEach (e :: es) X.env)).any (·.1) = false := by rfl) : PS X (.Raise (some (.Call (.Name x np) (e :: es) [] cp)) none pos) (tRaise0 C E t) := by
  intro pins s σ H D I h
  refine TE.raise_call0 PySem.F.excBase_ValueError (I.ok.hd hc) hpl (ld_glob I hg hm ⟨rfl, ?_⟩ hdb)
  have ha' := ha cp pins s σ H _ I h
  rw [he] at ha' ⊢
  refine Calls.evalArgs_plain (thn5 ha' fun us s1 vs H1 I1 r hq => ?_)
  obtain ⟨hz, q⟩ := hq
  refine ⟨rfl, by rw [← r.length]; exact hz, pc _ I1.kIn, fun h' me => ?_⟩
  have I2 : Inv X pins σ H1 { s1 with heap := h', toks := s1.toks } := I1.kept me.1
  obtain ⟨_, t', a1⟩ := me
  exact ⟨ix _ I2.kIn, W.leave I2 ⟨_, none, ⟨_, a1, rfl, rfl⟩, rfl, rfl, Nat.le_trans I1.sz (Nat.le_succ _), I1.hok.fresh (Nat.le_succ _), fun T z => by cases z⟩ q⟩
end L2
namespace L2
open PySem PySem.Spec PyProof.Rows
structure HasCX (P : Program) (w : World) (K : PySem.W.Frag) (mg : Str → Option Value) (base : Heap) (C : Addr) (x : Str) (k : Nat) (ps : List Str) (sp : Sp) : Prop where
  ex : ∃ f fd, FnOk P w K mg base (CX1 P w) k f fd ps sp ∧ Binds K fd ps [] ∧ Mk K C f ∧ mg x = some (.ref C)
section
variable {X : Cx} {k : Nat} {f C : Addr} {fd : FuncData} {ps : List Str} {sp : Sp} {x : Str} {p pos : Pos} {e : Expr} {es : List Expr} {t : TA}
theorem px_make (M : Mk X.K C f) (F : FnOk X.prog X.w X.K X.mg X.base (CX1 X.prog X.w) k f fd ps sp) (hr : Room (k + 1) X.A) (hg : Gl X x) (hm : X.mg x = some (.ref C)) (hb : Binds X.K fd ps [])
    (ha : ∀ xe, PA (X.xw xe) (e :: es) t) (hdb : (x == ("__debug__" : Str)) = false := by decide) (he : starEach (e :: es) X.env = (false, eval e X.env) :: starEach es X.env := by rfl) (hpl : (backTo pos (starEach es X.env)).any (·.1) = false := by rfl) :
    PX X (.Call (.Name x p) (e :: es) [] pos) (fun E => tMake C sp [] E t) := by
  intro pins s0 σ H0 Q E XE I0 h hx
  refine wpAny_Call_Name_kw (ld_glob I0 hg hm ?_ hdb)
  refine PySem.W.callWith_K (h₀ := X.base) I0.ok.mod.kin M.kp (thn5 (ha XE pos pins s0 σ H0 _ I0.xw h) fun us s vs H I1' r q => ?_) he hpl
  have I := I1'.unxw
  refine ⟨I.kIn, ?_⟩
  have hq := q (s.heap.objs.size + 1) s.heap.objs.size (I.hok.fresh (Nat.le_succ _)) (I.hok.fresh (Nat.le_refl _)) (Nat.ne_of_lt (Nat.lt_succ_self _))
  rw [List.append_nil] at hq
  have I2 := Inv.made (C := C) I
  have r2 : Vals (V.ref (s.heap.objs.size + 1) :: vs) (Value.ref (s.heap.objs.size + 1) :: us) := .cons rfl r
  have hl : (Value.ref (s.heap.objs.size + 1) :: us).length = ps.length := by
    have e := r2.length
    rw [F.len _ _ _ _ hq] at e
    exact e.symm
  refine wpAny_call (make_map (f := f) I.kIn M.makes M.init (beq_iff_eq.mp M.fn) (codeAny_mono (codeAny_toks_of (n := 1) I2.tk (F.run _ X.stack _ _ ⟨Value.ref (s.heap.objs.size + 1) :: us, []⟩ (Value.ref (s.heap.objs.size + 1) :: us) _ _ E (hr.make C us [])
    (I2.env0.make C us []) (.inl I2.tk) (by have := hb _ (Value.ref (s.heap.objs.size + 1) :: us) I2.kIn (by rw [List.append_nil]; exact hl); rwa [List.append_nil] at this) r2 hq)) fun r s' ⟨htk, hq'⟩ => ?_))
  cases r with
  | error e => exact hx _ _ e s' I2 hq'
  | ok fl =>
    cases fl with
    | ret u =>
      obtain ⟨v, H', I3, rv, ev, q3⟩ := I2.after hq' htk
      subst ev
      exact ⟨rv, ⟨V.ref (s.heap.objs.size + 1), H', I3, rfl, q3⟩⟩
    | next => exact False.elim hq'
    | brk => exact False.elim hq'
    | cont => exact False.elim hq'
end
theorem w_mx_make {X : Cx} {Θ : Tab} {c k kk n nf : Nat} {C : Addr} {N ps : List Str} {x : Str} {e : Expr} {es : List Expr} {m : M.AM} {f : M.F} {pos p : Pos} (cm : ClsM X.K Θ c C N) (h : HasCX X.prog X.w X.K X.mg X.base C x k ps (SpX X.K Θ (n + 1) f)) (hr : Room kk X.A) (hk : k + 1 ≤ kk) (hn : N.length = nf) (hg : Gl X x) (ha : ∀ xe E, WA (X.xw xe) (Θ.w E) (e :: es) m) (ar : Arity m n) (hdb : (x == ("__debug__" : Str)) = false := by decide)
    (he : notStar e = true := by rfl) (hpl : es.all notStar = true := by rfl) : WX X Θ (.Call (.Name x p) (e :: es) [] pos) (M.eMake c nf f m) := by
  delta WA WX at ha ⊢
  obtain ⟨g, fd, F, b, mk, hmg⟩ := h.ex
  intro pins s σ H Q E XE I ⟨ρ, σ', S, st, rp, h⟩ hx
  refine px_make (t := fun σ H Q => ∃ ρ σ' S, RelSt X.K ρ H σ' σ ∧ RepS X.K (Θ.w E) ρ S H ∧ Post X.K (Θ.w E) (RelDs X.K) ρ H (m σ' S) Q) mk F (hr.mono hk) hg hmg b (fun xe => ha xe E) hdb (star_cons he) (star_any hpl) pins s σ H Q E XE I ⟨ρ, σ', S, st, rp, ?_⟩ hx
  have h' : Post X.K (Θ.w E) (RelD X.K) ρ H ((m σ' S).bind fun xs s => (f (.ref s.length :: xs) (s ++ [.ins c (List.replicate nf none)])).bind fun d s' => if d = .non then .ok (.ref s.length) s' else .no) Q := h
  cases hM : m σ' S with
  | no => rw [hM] at h'; exact h'.elim
  | exc a s => rw [hM] at h'; exact h'
  | ok ds S1 =>
    rw [hM, M.R.bind_ok] at h'
    intro ρ1 H1 vs p1 l1 rp1 r1 y dx hy hdx hne
    rw [List.append_nil]
    have l2 : Le H1 (upd H1 dx (.own y)) := Le.new hdx _
    have rp2 := rp1.aside hdx (.own y)
    have hy2 : upd H1 dx (.own y) y = none := by rw [upd_ne (Ne.symm hne)]; exact hy
    have l3 : Le (upd H1 dx (.own y)) (upd (upd H1 dx (.own y)) y (.ins C dx [])) := Le.new hy2 _
    have pre : ρ1 <+: ρ1 ++ [y] := List.prefix_append _ _
    have rp3 : RepS X.K (Θ.w E) (ρ1 ++ [y]) (S1 ++ [.ins c (List.replicate nf none)]) (upd (upd H1 dx (.own y)) y (.ins C dx [])) := by
      refine rp2.alloc hy2 ⟨C, dx, [], N, upd_same, cm.tab, by rw [List.length_replicate]; exact hn.symm, List.nodup_nil, (fun f hf => nomatch hf), fun i f d _ q => ?_⟩
      rw [List.getElem?_replicate] at q
      split at q <;> cases q
    have hlast : (ρ1 ++ [y])[S1.length]? = some y := by rw [← rp1.len]; simp
    refine ⟨ρ1 ++ [y], .ref S1.length :: ds, _, by rw [List.length_cons, ar _ _ _ _ hM], ⟨_, _, rfl, ⟨y, rfl, hlast⟩, r1.mono pre (l2.trans l3)⟩, rp3, ?_⟩
    refine Post.bind (Post.weak h' (p1.trans pre) (l1.trans (l2.trans l3))) fun ρ4 H4 d v S4 p4 l4 rp4 rv h4 => ?_
    by_cases hd : d = .non
    · subst hd
      rw [if_pos rfl] at h4
      cases rv
      exact ⟨rfl, Post.here h4 rp4 ⟨y, rfl, pre_get p4 hlast⟩⟩
    · rw [if_neg hd] at h4
      exact h4.elim
theorem ms_raise0 {X : Cx} {Θ : Tab} {E : XK} {C : Addr} {x : Str} {c : Nat} {e : Expr} {es : List Expr} {m : M.AM} {np cp pos : Pos} (W : Wish X E) (hc : X.calm = true) (pc : ∀ h : Heap, X.K.In h → TE.Plain0 h C tlV "ValueError.__new__") (ix : ∀ h : Heap, X.K.In h → TE.IsX h C) (hΘ : Θ c = some (C, [])) (hg : Gl X x) (hm : X.mg x = some (.ref C)) (ha : MA X (Θ.w E) (e :: es) m) (ar : Arity m 1) (hdb : (x == ("__debug__" : Str)) = false := by decide)
    (he : notStar e = true := by rfl) (hpl : (backTo cp (starEach (e :: es) X.env)).any (·.1) = false := by rfl) : MS X (Θ.w E) (.Raise (some (.Call (.Name x np) (e :: es) [] cp)) none pos) (M.sRaise0 c m) :=
  (ps_raise0 W hc pc ix hg hm ha hdb (star_cons he) hpl).up fun D σ H ρ σ' S st rp h => ⟨ρ, σ', S, st, rp, by
    have h' : PostS X.K (Θ.w E) ρ H ((m σ' S).stm σ' fun _ s => .exc (.tup [.int c]) σ' s) D := h
    cases hm : m σ' S with
    | no => rw [hm] at h'; exact h'.elim
    | exc a s => rw [hm] at h'; exact (show PostX X.K (Θ.w E) ρ H a s from h')
    | ok ds S1 =>
      rw [hm] at h'
      have h2 : PostX X.K (Θ.w E) ρ H (.tup [.int c]) S1 := h'
      intro ρ1 H1 vs p1 l1 rp1 r1
      refine ⟨?_, h2 ρ1 H1 C none p1 l1 rp1 ⟨c, [], [], rfl, hΘ, .inl ⟨rfl, rfl, rfl⟩⟩⟩
      rw [← r1.length, ar _ _ _ _ hm, sizeLine_eq]
      decide⟩
end L2
namespace TE
open PySem PySem.Builtin
section
variable {mo : Model} {Ar : Around} {Er : Value → Shared → Prop} {m : Heap} {gs : Array GenState} {dr : Drawn} {k : Nat} {sy : OsState} {C Y x : Addr} {o : Obj}
def High (m : Heap) (Y : Addr) (tl : List Value) : Prop := ∃ nm q N bs hd sn sub ab col dd k0 k1 k2 k3 k5 nw, m.get? Y = some (excClassObj nm q Y N bs tl hd sn sub ab col dd k0 k1 k2 k3 k5 nw)
theorem hit_up {tl : List Value} {mC mY : Str → Option Value} {Q : Bool → Shared → Prop} (T : Two m C Y "ValueError" tl mC mY) (hy : High m Y tl) (hb : tl.contains (.type "BaseException") = true) (hx : m.get? x = some o) (hc : o.cls = .ref C) (q : Q true ⟨m, gs, dr, k, sy⟩) : wpAny mo Ar (excMatches (.ref x) (.ref Y)) Q Er ⟨m, gs, dr, k, sy⟩ := by
  obtain ⟨nm, qn, N, bs, sn, sub, ab, col, dd, k0, k1, k2, k3, k5, nw, cl, ns⟩ := T.lo
  obtain ⟨_, _, _, _, _, _, _, _, _, _, _, _, _, _, _, _, cy⟩ := hy
  have nt := tc_notTuple
  have u1 : (Value.ref C :: Value.ref Y :: tl).contains (.ref Y) = true := by simp
  have u2 : (Value.ref Y :: tl).contains (.type "BaseException") = true := by rw [List.contains_cons, hb, Bool.or_true]
  unfold excMatches
  repeat first
    | (with_reducible refine wpAny_loadPart_at hx ?_; rw [hc])
    | (with_reducible refine wpAny_loadPart_at cl ?_)
    | (with_reducible refine wpAny_loadPart_at cy ?_)
    | (with_reducible refine wpAny_isSubtype_exc cl ?_; rw [u1])
    | (with_reducible refine wpAny_isSubtype_exc cy ?_; rw [u2])
    | wp_step
  exact q
end
end TE
namespace L2
open PySem PySem.Spec PyProof.Rows
def yIn (K : PySem.W.Frag) (Y : Addr) : Bool := match K.lookup Y with
  | some ⟨cl, _, .cls cd, sl⟩ => cl == .type "type" && cd.mro == .ref Y :: tlV && sl == #[sl.getD 0 none, sl.getD 1 none, sl.getD 2 none, sl.getD 3 none, some (.builtin "ValueError.__new__"), sl.getD 5 none] && !cd.hasDel
  | _ => false
theorem high_of {K : PySem.W.Frag} {Y : Addr} (q : yIn K Y = true) (h : Heap) (X : K.In h) : TE.High h Y tlV := by
  unfold yIn at q
  split at q
  · rename_i cl dd cd sl ho
    simp only [Bool.and_eq_true, Bool.not_eq_true'] at q
    obtain ⟨⟨⟨q1, q2⟩, q3⟩, hdel⟩ := q
    cases eq_of_beq q1
    have hs := eq_of_beq q3
    have hr := eq_of_beq q2
    obtain ⟨nm, bs, mro, nsA, qn, hd, sn, sub, ab, col, del⟩ := cd
    cases hr
    cases hdel
    rw [hs] at ho
    exact ⟨nm, qn, nsA, bs, hd, sn, sub, ab, col, dd, _, _, _, _, _, _, X _ _ ho⟩
  · cases q
def endsK (C x : Addr) (od : Option Addr) (je : Nat) (D : Ends) : Ends where
  nx := fun σ H => (H x = some (.ext (LiesC C x od)) ∧ D.nx (σ.set je none) (dn H x)) ∨ D.nx (σ.set je none) H
  rt := fun v H => (H x = some (.ext (LiesC C x od)) ∧ D.rt v (dn H x)) ∨ D.rt v H
  bk := fun σ H => (H x = some (.ext (LiesC C x od)) ∧ D.bk (σ.set je none) (dn H x)) ∨ D.bk (σ.set je none) H
  ct := fun σ H => (H x = some (.ext (LiesC C x od)) ∧ D.ct (σ.set je none) (dn H x)) ∨ D.ct (σ.set je none) H
def sTryK (PC : Addr → Prop) (iy je : Nat) (te : XK → TE) (th : Addr → TS) : TS := fun D σ H =>
  te (fun cls od H1 => ∃ C, cls = .ref C ∧ PC C ∧ (∀ dx, od = some dx → ∃ fs, H1 dx = some (.xd fs)) ∧ ∀ x, H1 x = none → je < σ.length → th C (endsK C x od je D) (σ.set je (some (.ref x))) (upd H1 x (.ext (LiesC C x od)))) σ H fun v H1 => D.nx (σ.set iy (some v)) H1
section
variable {X : Cx} {Y : Addr} {PC : Addr → Prop} {c n y : Str} {iy je : Nat} {e : Expr} {te : XK → TE} {th : Addr → TS} {b0 : Stmt} {hb : List Stmt} {yp ap cp hp pos : Pos}
theorem ps_tryK (st : X.stack = X.env :: X.outer) (fr : X.env.frame = some X.env.locals) (he : PX X e te) (hh : ∀ C, PC C → ∀ A, A.depth = X.A.depth → A.units = X.A.units → PSs (X.hx A) (b0 :: hb) (th C)) (hy0 : ∀ h : Heap, X.K.In h → TE.High h Y tlV) (xc : ∀ C, PC C → ∃ mC mY, ∀ h : Heap, X.K.In h → TE.Two h C Y "ValueError" tlV mC mY) (hg : Gl X c) (hm : X.mg c = some (.ref Y)) (hN : X.N.Nodup)
    (hy : X.N[iy]? = some y) (ly : Loc X.env.scope y) (fy : X.fn y = true ∨ X.env.scope.names.lookup y = some .local)
    (hn : X.N[je]? = some n) (ln : X.env.scope.names.lookup n = some .local) (hdb : (c == ("__debug__" : Str)) = false)
    (hs1 : swapsWith e (some (.Name y yp)) ap.line X.env = pure false) :
    PS X (.Try [.Assign [.Name y yp] e ap] [.ExceptHandler (some (.Name c cp)) (some n) (b0 :: hb) hp] [] [] pos) (sTryK PC iy je te th) := by
  intro pins s σ H D I h
  refine wpAny_Try_except (wpAny_execs_cons (wpAny_Assign_Name (thn5 (he pins s σ H _ _ _ I h fun H1 s1 v s' I1 hcx => ?_) fun u s1 v H1 I1 r q => store_ok I1 hN hy ly r (fun s2 I2 => ?_) fy) hs1))
  · obtain ⟨x, C, od, H', rfl, os, bare, un, hok, tk, ⟨oe, t, tr, a2, a3, a4, a5, a6⟩, C1, hC, pc, hdx, q⟩ := hcx
    cases hC
    obtain ⟨mC, mY, tw⟩ := xc C pc
    have I2 : Inv X pins σ H' s' := I1.call' os un hok bare (fun b z => absurd z (by simp)) tk
    have hfr := I2.ok.frames
    have hl := I2.stack
    rw [st] at hfr hl
    have L0 : X.s₀.heap.objs.size ≤ s1.heap.objs.size := I1.sz
    have pl : ∀ p ∈ X.pn ++ pins, p.1 < s1.heap.objs.size := fun p hp => Heap.lt_size (I1.pin p hp).1
    refine TE.left_n hfr hl fr tr fun m' g => ?_
    have I3 : Inv X pins σ H' { s' with heap := m' } := I2.gone st fr tr (Nat.le_trans L0 a4) a5 (fun T z => ⟨Nat.le_trans L0 (a6 T z).1, (a6 T z).2⟩) (fun p hp => ⟨Nat.ne_of_lt (Nat.lt_of_lt_of_le (pl p hp) a4), fun z => Nat.lt_irrefl _ (Nat.lt_of_lt_of_le (pl p hp) (a6 _ z).1)⟩) g
    obtain ⟨oe3, T, b1, b2, tr3, b4⟩ := g.exc
    have b4' : s'.heap.objs.size ≤ T := b4
    have hT : H' T = none := I2.hok.fresh b4'
    obtain ⟨ve, ge, de, _⟩ := tr3.at
    refine wpAny_handleBy_cons (codeAny_handlers_test (Calls.Name_function_global I3.ok.kind hg (Calls.loadGlobal_global (by rw [I3.ok.glob]; exact I3.mod.glob.keeps I3.bk) hm ?_) hdb)) (by intro q; cases q)
    refine TE.hit_up (tw _ I3.kIn) (hy0 _ I3.kIn) (by decide) ge (b1.trans a2) (codeAny_handlers_suite_as ?_)
    refine TE.anewX tr3 fun m4 k4 tr4 => ?_
    have I4 : Inv X pins σ H' { s' with heap := m4 } := Inv.gone0 (s := { s' with heap := m' }) I3 st fr tr3 (Nat.le_trans L0 a4) a5 (fun T' z => by cases z; exact ⟨Nat.le_trans I2.sz b4', hT⟩)
      (fun p hp => ⟨Nat.ne_of_lt (Nat.lt_of_lt_of_le (pl p hp) a4), fun z => by cases z; exact Nat.lt_irrefl _ (Nat.lt_of_lt_of_le (Heap.lt_size (I2.pin p hp).1) b4')⟩)
      (fun b o hb _ nT _ => k4 b o hb fun z => nT (by rw [z])) (fun b o hb _ nT _ => ⟨o.slots, k4 b o hb fun z => nT (by rw [z])⟩)
    obtain ⟨v4, ge4, de4, _⟩ := tr4.at
    have nl : x ≠ X.env.locals := fun z => by
      obtain ⟨m, ⟨o, es, ep, ho, hd, _⟩, _⟩ := I4.loc
      rw [← z] at ho
      have := ho.symm.trans ge4
      cases this
      rw [hd] at de4
      cases de4
    have nc : ∀ w a, X.env.cells.lookup w = some a → a ≠ x := fun w a z e => by
      obtain ⟨u, o, ho, hd⟩ := I4.cell w a z
      rw [e] at ho
      have := ho.symm.trans ge4
      cases this
      rw [hd] at de4
      cases de4
    have I5 : Inv X pins σ (upd H' x (.ext (LiesC C x od))) { s' with heap := m4 } := I4.track (Nat.le_trans L0 a4) a5 nl nc (fun p hp => Nat.ne_of_lt (Nat.lt_of_lt_of_le (pl p hp) a4))
      ⟨⟨oe3, ge4, b1.trans a2, b2.trans a3, fun c z => by rw [de4] at z; cases z⟩, ⟨_, ge4⟩, fun h1 h2 ⟨o', g', r'⟩ z2 => ⟨o', z2 _ g', r'⟩⟩
    refine store_ok (v := .ref x) I5 hN hn (.inl ln) rfl (fun s6 I6 => ?_) (.inr ln)
    refine wpAny_mono (hh C pc (X.A.mark (some (.ref x))) rfl rfl pins s6 _ _ (endsK C x od je D) (I6.hx (by rfl)) (q x a5 (by rw [I.len]; exact (List.getElem?_eq_some_iff.mp hn).1))) (fun fl s7 z => ?_) fun _ _ z => z.elim
    cases fl with
    | next =>
      obtain ⟨σ7, H7, I7, z⟩ := z
      exact goes_ok (I7.unhx I.ok) hN hn ln fun s8 I8 => z.elim (fun z => ⟨_, _, I8.drop z.1, z.2⟩) fun z => ⟨_, _, I8, z⟩
    | brk =>
      obtain ⟨σ7, H7, I7, z⟩ := z
      exact goes_ok (I7.unhx I.ok) hN hn ln fun s8 I8 => z.elim (fun z => ⟨_, _, I8.drop z.1, z.2⟩) fun z => ⟨_, _, I8, z⟩
    | cont =>
      obtain ⟨σ7, H7, I7, z⟩ := z
      exact goes_ok (I7.unhx I.ok) hN hn ln fun s8 I8 => z.elim (fun z => ⟨_, _, I8.drop z.1, z.2⟩) fun z => ⟨_, _, I8, z⟩
    | ret u =>
      obtain ⟨v, σ7, H7, I7, r7, z⟩ := z
      exact goes_ok (I7.unhx I.ok) hN hn ln fun s8 I8 => z.elim (fun z => ⟨v, _, _, I8.drop z.1, r7, z.2⟩) fun z => ⟨v, _, _, I8, r7, z⟩
  · exact wpAny_execs_nil (wpAny_execs_nil ⟨_, H1, I2, q⟩)
end
end L2
namespace L2
open PySem PySem.Spec PyProof.Rows
structure HasH (P : Program) (w : World) (K : PySem.W.Frag) (mg : Str → Option Value) (base : Heap) (x : Str) (k : Nat) (ps : List Str) (sp : Sp) : Prop where
  ex : ∃ f fd, FnOkH P w K mg base CX0 k f fd ps sp ∧ Binds K fd ps [] ∧ PySem.W.keepIn K (.ref f) = true ∧ mg x = some (.ref f)
theorem HasH.has {P : Program} {w : World} {K : PySem.W.Frag} {mg : Str → Option Value} {base : Heap} {x : Str} {k : Nat} {ps : List Str} {sp : Sp} (h : HasH P w K mg base x k ps sp) : Has P w K mg base x k ps sp :=
  let ⟨f, fd, F, b, kp, m⟩ := h.ex
  ⟨f, fd, F.ok, b, kp, m⟩
section
variable {P : Program} {w : World} {K : PySem.W.Frag} {mg : Str → Option Value} {base : Heap} {Θ : Tab}
theorem Fun.okH {x qual : Str} {st : Stmt} {f : Addr} {fd : FuncData} {N ps : List Str} {k : Nat} {sp : Sp} (F : Fun K x qual st f fd) (S : FnScope N ps (defScope st)) (len : ∀ vs H Q E, sp vs H Q E → vs.length = ps.length)
    (hbody : ∀ (cdv : Value) (A : Around) (outer : List Env) (s : Shared) (H : Hp) (vs : List V) (Q : VK) (E : XK), RoomH k (A.deeper (envOfC qual (defScope st) s.heap.objs.size f cdv)) → sp vs H Q E →
      ∃ t, PSs (cxH CX0 P w K mg base N qual (defScope st) f cdv A outer s H E).nox (defBody st) t ∧ t { nx := fun _ H' => Q .non H', rt := Q } (start N vs) H) : FnOkH P w K mg base CX0 (k + 1) f fd ps sp := by
  obtain ⟨oc, od, kV, doc, pm, an, cdv, ct, osl, rfl, lk, hcd⟩ := F.ex
  refine fnH_of lk hcd S len fun A outer s H vs Q E hr hsp => ?_
  obtain ⟨t, h, q⟩ := hbody cdv A outer s H vs Q E hr hsp
  exact ⟨t, h.nox, q⟩
theorem fun_MH {x qual : Str} {st : Stmt} {f : Addr} {fd : FuncData} {N ps : List Str} {k : Nat} {b : M.SM} {q : M.F} (F : Fun K x qual st f fd) (Sc : FnScope N ps (defScope st)) (rf : M.Refines ps.length (M.fn N.length b) q)
    (hbody : ∀ (cdv : Value) (A : Around) (outer : List Env) (s : Shared) (H : Hp) (E : XK), RoomH k (A.deeper (envOfC qual (defScope st) s.heap.objs.size f cdv)) →
      MSs (cxH CX0 P w K mg base N qual (defScope st) f cdv A outer s H E).nox Θ (defBody st) b) : FnOkH P w K mg base CX0 (k + 1) f fd ps (SpM K Θ ps.length q) := by
  refine F.okH (k := k) Sc (fun vs H Q E h => ?_) (fun cdv A outer s H vs Q E hr h => ?_)
  · obtain ⟨ρ, ds, S, hl, r, _⟩ := h
    rw [← r.length, hl]
  · obtain ⟨ρ, ds, S, hl, r, rp, h⟩ := h
    refine ⟨_, hbody cdv A outer s H E hr, ρ, _, S, start_rel r N, rp, ?_⟩
    rcases rf ds S hl rp.cl (rp.len ▸ r.cl) with e | ⟨d, S', S1, em, e1, e2, emb, cd⟩
    · rw [e] at h; exact h.elim
    · rw [e1] at h
      have h2 := Post.gc emb cd rp h
      have e3 : (b (ds.map some ++ List.replicate (N.length - ds.length) none) S).out = .ok (M.D.ren em d) S1 := e2
      show PostS K Θ ρ H (b (ds.map some ++ List.replicate (N.length - ds.length) none) S) _
      revert e3
      cases b (ds.map some ++ List.replicate (N.length - ds.length) none) S with
      | rt a s => intro e3; cases e3; exact h2
      | nx a s =>
        intro e3
        have e4 : M.R.ok M.D.non s = .ok (M.D.ren em d) S1 := e3
        injection e4 with e5 e6
        subst e6
        rw [← e5] at h2
        exact fun ρ1 H1 σ1 p1 l1 rp1 _ => h2 ρ1 H1 .non p1 l1 rp1 rfl
      | bk a s => intro e3; cases e3
      | ct a s => intro e3; cases e3
      | exc a b s => intro e3; cases e3
      | no => intro e3; cases e3
theorem w_fun_MH {x qual : Str} {st : Stmt} {f : Addr} {fd : FuncData} {N ps : List Str} {k : Nat} {b : M.SM} {q : M.F} (F : Fun K x qual st f fd) (Sc : FnScope N ps (defScope st)) (rf : M.Refines ps.length (M.fn N.length b) q)
    (hbody : ∀ (cdv : Value) (A : Around) (outer : List Env) (s : Shared) (H : Hp) (E : XK), RoomH k (A.deeper (envOfC qual (defScope st) s.heap.objs.size f cdv)) →
      WSs (cxH CX0 P w K mg base N qual (defScope st) f cdv A outer s H E).nox Θ (defBody st) b) : FnOkH P w K mg base CX0 (k + 1) f fd ps (SpM K Θ ps.length q) := by with_unfolding_all exact fun_MH (x := x) (qual := qual) (st := st) (f := f) (fd := fd) (N := N) (ps := ps) (k := k) (b := b) (q := q) F Sc rf hbody
end
section
variable {X : Cx} {Θ : Tab} {pos p : Pos} {x : Str} {ps : List Str} {e : Expr} {es : List Expr} {f : M.F} {m : M.AM} {k kk n : Nat} {sp : Sp} {t : TA}
theorem pe_callI (h : HasH X.prog X.w X.K X.mg X.base x k ps sp) (hr : RoomH kk X.A) (hk : k ≤ kk) (hg : Gl X x) (ha : PA X (e :: es) t) (hx : Passes CX0 X E0 := by exact pass0) (hdb : (x == ("__debug__" : Str)) = false := by decide)
    (he : starEach (e :: es) X.env = (false, eval e X.env) :: starEach es X.env := by rfl) (hpl : (backTo pos (starEach es X.env)).any (·.1) = false := by rfl) :
    PE X (.Call (.Name x p) (e :: es) [] pos) (tCall sp [] E0 t) := by
  obtain ⟨f, fd, F, b, kp, m⟩ := h.ex
  exact pe_callIn F (hr.mono hk) hg m kp b .nil hx ha hdb he hpl
theorem w_me_callI (h : HasH X.prog X.w X.K X.mg X.base x k ps (SpM X.K Θ n f)) (hr : RoomH kk X.A) (hk : k ≤ kk) (hg : Gl X x) (ha : WA X Θ (e :: es) m) (ar : Arity m n) (hx : Passes CX0 X E0 := by exact pass0) (hdb : (x == ("__debug__" : Str)) = false := by decide)
    (he : notStar e = true := by rfl) (hpl : es.all notStar = true := by rfl) : WE X Θ (.Call (.Name x p) (e :: es) [] pos) (M.eCall f m) := by
  delta WA WE at ha ⊢
  exact (pe_callI h hr hk hg ha hx hdb (star_cons he) (star_any hpl)).up fun σ H Q ρ σ' S st rp h => ⟨ρ, σ', S, st, rp, by
      have h' : Post X.K Θ (RelD X.K) ρ H ((m σ' S).bind fun xs s => f xs s) Q := h
      cases hm : m σ' S with
      | no => rw [hm] at h'; exact h'.elim
      | exc a s => rw [hm] at h'; exact h'
      | ok ds S1 =>
        rw [hm] at h'
        intro ρ1 H1 vs p1 l1 rp1 r1
        rw [List.append_nil]
        exact ⟨ρ1, ds, S1, ar _ _ _ _ hm, r1, rp1, Post.weak h' p1 l1⟩⟩
end
def spX1 (C : Addr) (b : Bool) : Sp := fun vs H Q _ => ∃ x, vs = [.ref x] ∧ XTr C x H ∧ ∀ H', (∀ y, H y ≠ none → H' y = H y) → Q (.bl b) H'
end L2
namespace L2
open PySem PySem.Spec PyProof.Rows
def tDrp (t : TE) : TE := fun σ H Q => t σ H fun v H1 => ∃ x φ, H1 x = some (.ext φ) ∧ Q v (dn H1 x)
theorem pe_drp {X : Cx} {e : Expr} {t : TE} (h : PE X e t) : PE X e (tDrp t) := fun pins s σ H Q I hw =>
  thn5 (h pins s σ H _ I hw) fun u s1 v H1 I1 r q => by
    obtain ⟨x, φ, e, q⟩ := q
    exact ⟨v, dn H1 x, I1.drop e, r, q⟩
section
variable {X : Cx} {Θ : Tab} {C Y : Addr} {mC mY : Str → Option Value} {c n y al : Str} {iy je cn k kk : Nat} {ps : List Str} {e e2 : Expr} {m m2 : M.EM} {yp ap cp np lp hp pos bp rp' cp' : Pos}
theorem ms_tryB (st : X.stack = X.env :: X.outer) (fr : X.env.frame = some X.env.locals) (he : MX X Θ e m) (hΘ : Θ cn = some (C, [])) (tw : ∀ h : Heap, X.K.In h → TE.Two h C Y "ValueError" tlV mC mY) (hy0 : ∀ h : Heap, X.K.In h → TE.High h Y tlV) (hal : HasH X.prog X.w X.K X.mg X.base al k ps (spX1 C true)) (hr : Room kk X.A) (hk : k ≤ kk)
    (h2 : ∀ A, RoomH kk A → ME (X.hx A) Θ e2 m2) (hg : Gl X c) (hm : X.mg c = some (.ref Y)) (hga : Gl X al) (hN : X.N.Nodup)
    (hy : X.N[iy]? = some y) (ly : Loc X.env.scope y) (hn : X.N[je]? = some n) (ln : X.env.scope.names.lookup n = some .local)
    (fy : X.fn y = true ∨ X.env.scope.names.lookup y = some .local := by first | exact .inl rfl | exact .inr rfl)
    (hdb : (c == ("__debug__" : Str)) = false := by decide) (hdn : (n == ("__debug__" : Str)) = false := by decide) (hcd : (n == ("__classdict__" : Str)) = false := by decide) (hda : (al == ("__debug__" : Str)) = false := by decide)
    (hs1 : swapsWith e (some (.Name y yp)) ap.line X.env = pure false := by rfl) (hx0 : (X.stack = X.env :: X.outer) := by rfl) :
    MS X Θ (.Try [.Assign [.Name y yp] e ap] [.ExceptHandler (some (.Name c cp)) (some n) [.Return (some (.BoolOp .And [.Call (.Name al lp) [.Name n np] [] cp', e2] bp)) rp'] hp] [] [] pos) (M.sTryB cn iy je m m2) := by
  have hh : ∀ C', C' = C → ∀ A, A.depth = X.A.depth → A.units = X.A.units → PSs (X.hx A) [.Return (some (.BoolOp .And [.Call (.Name al lp) [.Name n np] [] cp', e2] bp)) rp'] (tRet (tAndV (tDrp (tCall (spX1 C true) [] E0 (tCons (tVar je) tNil))) (RdE X.K Θ m2))) := fun C' _ A ed eu => by
    have ra : RoomH kk A := ⟨by rw [ed]; exact hr.dp, by rw [eu]; exact hr.un⟩
    exact pss_one (ps_ret (pe_and (pe_drp (pe_callI (X := X.hx A) hal ra hk hga (pa_cons (pe_var (X := X.hx A) hn (.inl ln) hdn hcd) pa_nil) pass0 hda rfl rfl)) (pe_one (h2 A ra))))
  refine (ps_tryK (PC := fun C' => C' = C) st fr he hh hy0 (fun C' z => ⟨mC, mY, by rw [z]; exact tw⟩) hg hm hN hy ly fy hn ln hdb hs1).imp fun D σ H ⟨ρ, σ', S, sr, rp, h⟩ => ⟨ρ, σ', S, sr, rp.w, ?_⟩
  unfold M.sTryB at h
  cases hq : m σ' S with
  | no => rw [hq] at h; exact h.elim
  | ok d S1 =>
    rw [hq] at h
    intro ρ' H' b p l r rd
    exact h ρ' H' _ p l r.unw ((sr.mono p l).set rd iy)
  | exc a S1 =>
    rw [hq] at h
    show PostX X.K _ ρ H a S1
    intro ρ' H' C' od p l r ⟨kc, ds, N, ea, ek, alt⟩
    subst ea
    have hod : ∀ dx, od = some dx → ∃ fs, H' dx = some (.xd fs) := by
      rcases alt with ⟨_, _, z⟩ | ⟨dx, vs, z, hdx, _⟩
      · intro dx q; rw [z] at q; cases q
      · intro dx' q; rw [z] at q; cases q; exact ⟨_, hdx⟩
    cases ds with
    | cons d ds => exact h.elim
    | nil =>
      have h9 : PostS X.K Θ ρ H (if (kc : Int) = cn then (m2 (σ'.set je none) S1).stm σ' fun d s => .rt d s else .no) D := h
      by_cases z : (kc : Int) = cn
      · rw [if_pos z] at h9
        obtain rfl : kc = cn := Int.ofNat.inj z
        have ek : Θ kc = some (C', N) := ek
        rw [hΘ] at ek
        cases ek
        refine ⟨C, rfl, rfl, hod, fun x hx lj => ?_⟩
        have nx : ∀ {a : Addr} {o : HO}, H' a = some o → a ≠ x := fun q z => by rw [z, hx] at q; cases q
        refine ⟨.ref x, List.getElem?_set_self lj, x, rfl, ⟨od, upd_same, fun dx q => (hod dx q).imp fun fs w => by rw [upd_ne (nx w)]; exact w⟩, fun H2 keep => ⟨x, _, (keep x (by rw [upd_same]; exact fun z => by cases z)).trans upd_same, true, rfl, ?_⟩⟩
        rw [if_pos rfl]
        have ke : ∀ a o, H' a = some o → dn H2 x a = some o := fun a o q => by
          rw [dn_ne (nx q), keep a (by rw [upd_ne (nx q), q]; exact fun z => by cases z), upd_ne (nx q), q]
        have le : Le H' (dn H2 x) := ⟨fun b xs q => ke b _ q, fun b o u q => ke b _ q⟩
        have r2 := r.unw.stay le fun a ha => by
          obtain ⟨o, q⟩ := r.unw.tracked ha
          rw [ke a o q, q]
        refine ⟨ρ', σ'.set je none, S1, ?_, r2, ?_⟩
        · have := (sr.mono p (l.trans le))
          refine ⟨by rw [List.length_set, List.length_set, this.len], fun i d q => ?_⟩
          by_cases hi : je = i
          · subst hi
            by_cases hl : je < σ'.length
            · rw [List.getElem?_set_self hl] at q; cases q
            · rw [List.getElem?_eq_none (by rw [List.length_set]; lia)] at q; cases q
          · rw [List.getElem?_set_ne hi] at q
            rw [List.getElem?_set_ne hi]
            exact this.get i d q
        · cases hw : m2 (σ'.set je none) S1 with
          | no => rw [hw] at h9; exact h9.elim
          | exc a s => rw [hw] at h9; exact PostX.weak (show PostX X.K Θ ρ H a s from h9) p (l.trans le)
          | ok d s =>
            rw [hw] at h9
            exact fun ρ3 H3 b p3 l3 rp3 rd3 => .inr (h9 ρ3 H3 b (p.trans p3) ((l.trans le).trans l3) rp3 rd3)
      · rw [if_neg z] at h9; exact h9.elim
end
end L2
namespace L2
open PySem PySem.Spec PyProof.Rows
def IsG (K : PySem.W.Frag) (n : Str) (st : Stmt) : Prop := ∃ f, PySem.W.nsIn K mainGlobals n = some (some (.ref f)) ∧ ∃ fd, Fun K n n st f fd
def IsM (K : PySem.W.Frag) (C : Addr) (n q : Str) (st : Stmt) : Prop := ∃ f, PySem.W.findIn K (.ref C) n = some (some (.ref f)) ∧ PySem.W.isFn K (.ref f) = true ∧ ∃ fd, Fun K n q st f fd
section
variable {K : PySem.W.Frag} {h : Heap} {mg : Str → Option Value} {n q x : Str} {st : Stmt} {f C : Addr} {P : Program} {w : World} {base : Heap} {k : Nat} {ps : List Str} {sp : Sp}
theorem isM {oc kV doc pm cdv ct : Value} {od an : Option Addr} {osl : Array (Option Value)} (a : PySem.W.findIn K (.ref C) n = some (some (.ref f))) (i : PySem.W.isFn K (.ref f) = true) (l : K.lookup f = some ⟨oc, od, .func (PySem.W.fnOf n q (defArgs st) (defBody st) (defScope st) .none kV doc pm an cdv ct), osl⟩) (c : PySem.W.codeIn K cdv q = true) (kp : PySem.W.keepIn K (.ref f) = true) : IsM K C n q st := ⟨f, a, i, _, fun_mk l c kp⟩
theorem isG {oc kV doc pm cdv ct : Value} {od an : Option Addr} {osl : Array (Option Value)} (a : PySem.W.nsIn K mainGlobals n = some (some (.ref f))) (l : K.lookup f = some ⟨oc, od, .func (PySem.W.fnOf n n (defArgs st) (defBody st) (defScope st) .none kV doc pm an cdv ct), osl⟩) (c : PySem.W.codeIn K cdv n = true) (kp : PySem.W.keepIn K (.ref f) = true) : IsG K n st := ⟨f, a, _, fun_mk l c kp⟩
def BA (x q : Str) (st : Stmt) (ps : List Str) (us : List Value) : Prop := ∀ (kV doc pm : Value) (an : Option Addr) (cdv ct : Value), bindArgs (PySem.W.fnOf x q (defArgs st) (defBody st) (defScope st) .none kV doc pm an cdv ct) ⟨us, []⟩ = pure (ps.zip us)
def Bnd (x q : Str) (st : Stmt) (ps : List Str) : Prop := ∀ (kV doc pm : Value) (an : Option Addr) (cdv ct : Value) (us : List Value), us.length = ps.length → bindArgs (PySem.W.fnOf x q (defArgs st) (defBody st) (defScope st) .none kV doc pm an cdv ct) ⟨us, []⟩ = pure (ps.zip us)
noncomputable def AllV : Nat → (List Value → Prop) → Prop
  | 0, p => p []
  | n + 1, p => ∀ a, AllV n fun us => p (a :: us)
theorem allV : ∀ (n : Nat) (p : List Value → Prop), AllV n p → ∀ us : List Value, us.length = n → p us
  | 0, p, h, us, e => by
    cases us with
    | nil => exact h
    | cons a us => cases e
  | n + 1, p, h, us, e => by
    cases us with
    | nil => cases e
    | cons a us => exact allV n _ (h a) us (Nat.succ.inj e)
theorem bnd {x q : Str} {st : Stmt} {ps : List Str} (h : AllV ps.length (BA x q st ps)) : Bnd x q st ps := fun kV doc pm an cdv ct us e => allV _ _ h us e kV doc pm an cdv ct
theorem getG (i : IsG K n st) (X : K.In h) (G : h.Ns mainGlobals mg) (b : Bnd n n st ps) : ∃ f fd, Fun K n n st f fd ∧ Binds K fd ps [] ∧ PySem.W.keepIn K (.ref f) = true ∧ mg n = some (.ref f) := by
  obtain ⟨f, a, fd, F⟩ := i
  exact ⟨f, fd, F, F.binds b, F.kp, PySem.W.mg_of X G a⟩
theorem hasG (i : IsG K n st) (X : K.In h) (G : h.Ns mainGlobals mg) (o : ∀ f fd, Fun K n n st f fd → Binds K fd ps [] → PySem.W.keepIn K (.ref f) = true → mg n = some (.ref f) → FnOk P w K mg base CX0 k f fd ps sp) (b : Bnd n n st ps := by exact bnd (by (repeat intro _); rfl)) : Has P w K mg base n k ps sp := by
  obtain ⟨f, fd, F, B, kp, m⟩ := getG i X G b
  exact ⟨f, fd, o f fd F B kp m, B, kp, m⟩
theorem hasM (i : IsM K C n q st) (o : ∀ f fd, Fun K n q st f fd → FnOk P w K mg base CX0 k f fd ps sp) (b : Bnd n q st ps := by exact bnd (by (repeat intro _); rfl)) : HasM P w K mg base C n k ps sp := by
  obtain ⟨f, a, j, fd, F⟩ := i
  exact ⟨f, fd, o f fd F, F.binds b, a, j, F.kp⟩
end
end L2
namespace L2
open PySem PySem.Spec PyProof.Rows
structure HasE0 (K : PySem.W.Frag) (mg : Str → Option Value) (C : Addr) (x y : Str) : Prop where
  ex : ∃ Y mC mY, XC0 K C Y mC mY ∧ (∀ h : Heap, K.In h → TE.Plain0 h C tlV "ValueError.__new__") ∧ (∀ h : Heap, K.In h → TE.High h Y tlV) ∧ mg x = some (.ref C) ∧ mg y = some (.ref Y)
noncomputable abbrev xn0 : List Str := ["__getattribute__", "__getattr__", "__class__", "__init__"]
theorem hasE0 {K : PySem.W.Frag} {h : Heap} {mg : Str → Option Value} {C Y : Addr} {x y : Str} (X : K.In h) (G : h.Ns mainGlobals mg) (a : PySem.W.nsIn K mainGlobals x = some (some (.ref C))) (b : PySem.W.nsIn K mainGlobals y = some (some (.ref Y))) (q : xBase K C Y xn0 = true) (r : yIn K Y = true) : HasE0 K mg C x y := by
  obtain ⟨mC, mY, t, p, n, hm⟩ := xbase_of q
  have m1 := n "__getattribute__" (.head _)
  have m2 := n "__getattr__" (.tail _ (.head _))
  have m3 := n "__class__" (.tail _ (.tail _ (.head _)))
  exact ⟨Y, mC, mY, ⟨t, m1.1, m1.2, m2.1, m2.2, m3.1, m3.2, hm⟩, fun h X => p h X (.tail _ (.tail _ (.tail _ (.head _)))), high_of r, PySem.W.mg_of X G a, PySem.W.mg_of X G b⟩
theorem w_ms_raiseZ {X : Cx} {Θ : Tab} {E : XK} {C : Addr} {x y : Str} {c : Nat} {e : Expr} {es : List Expr} {m : M.AM} {np cp pos : Pos} (h : HasE0 X.K X.mg C x y) (W : Wish X E) (hc : X.calm = true) (hΘ : Θ c = some (C, [])) (hg : Gl X x) (ha : WA X (Θ.w E) (e :: es) m) (ar : Arity m 1) (hdb : (x == ("__debug__" : Str)) = false := by decide)
    (he : notStar e = true := by rfl) (hpl : (backTo cp (starEach (e :: es) X.env)).any (·.1) = false := by rfl) : WS X (Θ.w E) (.Raise (some (.Call (.Name x np) (e :: es) [] cp)) none pos) (M.sRaise0 c m) := by
  delta WA WS at ha ⊢
  obtain ⟨Y, mC, mY, xc, pc, hy, hm, _⟩ := h.ex
  refine ms_raise0 W hc pc (fun h X => ?_) hΘ hg hm ha ar hdb he hpl
  obtain ⟨nm, q, N, bs, sn, sub, ab, col, dd, k0, k1, k2, k3, k5, nw, cl, _⟩ := (xc.two h X).lo
  exact ⟨nm, q, N, bs, _, true, sn, sub, ab, col, dd, k0, k1, k2, k3, k5, nw, cl, by simp⟩
section
variable {X : Cx} {Θ : Tab} {C : Addr} {c n y z al : Str} {iy je cn k kk : Nat} {ps : List Str} {e e2 : Expr} {m m2 : M.EM} {yp ap cp np lp hp pos bp rp' cp' : Pos}
theorem w_ms_tryBZ (h0 : HasE0 X.K X.mg C z c) (st : X.stack = X.env :: X.outer) (fr : X.env.frame = some X.env.locals) (he : WX X Θ e m) (hΘ : Θ cn = some (C, [])) (hal : HasH X.prog X.w X.K X.mg X.base al k ps (spX1 C true)) (hr : Room kk X.A) (hk : k ≤ kk)
    (h2 : ∀ A, RoomH kk A → WE (X.hx A) Θ e2 m2) (hg : Gl X c) (hga : Gl X al) (hN : X.N.Nodup)
    (hy : X.N[iy]? = some y) (ly : Loc X.env.scope y) (hn : X.N[je]? = some n) (ln : X.env.scope.names.lookup n = some .local)
    (fy : X.fn y = true ∨ X.env.scope.names.lookup y = some .local := by first | exact .inl rfl | exact .inr rfl)
    (hdb : (c == ("__debug__" : Str)) = false := by decide) (hdn : (n == ("__debug__" : Str)) = false := by decide) (hcd : (n == ("__classdict__" : Str)) = false := by decide) (hda : (al == ("__debug__" : Str)) = false := by decide)
    (hs1 : swapsWith e (some (.Name y yp)) ap.line X.env = pure false := by rfl) :
    WS X Θ (.Try [.Assign [.Name y yp] e ap] [.ExceptHandler (some (.Name c cp)) (some n) [.Return (some (.BoolOp .And [.Call (.Name al lp) [.Name n np] [] cp', e2] bp)) rp'] hp] [] [] pos) (M.sTryB cn iy je m m2) := by
  delta WE WS WX at he h2 ⊢
  obtain ⟨Y, mC, mY, xc, pc, hy0, _, hm⟩ := h0.ex
  exact ms_tryB st fr he hΘ xc.two hy0 hal hr hk h2 hg hm hga hN hy ly hn ln fy hdb hdn hcd hda hs1 st
end
section
variable {K : PySem.W.Frag} {h : Heap} {mg : Str → Option Value} {n q x : Str} {st : Stmt} {C : Addr} {P : Program} {w : World} {base : Heap} {k : Nat} {ps : List Str} {sp : Sp}
theorem hasGH (i : IsG K n st) (X : K.In h) (G : h.Ns mainGlobals mg) (o : ∀ f fd, Fun K n n st f fd → FnOkH P w K mg base CX0 k f fd ps sp) (b : Bnd n n st ps := by exact bnd (by (repeat intro _); rfl)) : HasH P w K mg base n k ps sp := by
  obtain ⟨f, fd, F, B, kp, m⟩ := getG i X G b
  exact ⟨f, fd, o f fd F, B, kp, m⟩
theorem hasCX (i : IsM K C "__init__" q st) (X : K.In h) (G : h.Ns mainGlobals mg) (a : PySem.W.nsIn K mainGlobals x = some (some (.ref C))) (mk : PySem.W.makesIn K C = true) (kc : PySem.W.keepIn K (.ref C) = true) (o : ∀ f fd, Fun K "__init__" q st f fd → FnOk P w K mg base (CX1 P w) k f fd ps sp) (b : Bnd "__init__" q st ps := by exact bnd (by (repeat intro _); rfl)) : HasCX P w K mg base C x k ps sp := by
  obtain ⟨f, e, j, fd, F⟩ := i
  exact ⟨f, fd, o f fd F, F.binds b, ⟨mk, e, j, kc⟩, PySem.W.mg_of X G a⟩
end
theorem vals_refs : ∀ {l : List Addr} {ws : List Value}, Vals (l.map V.ref) ws → ws = l.map Value.ref
  | [], _, h => by cases h; rfl
  | a :: l, _, h => by
    cases h with
    | cons h1 h2 => rw [vals_refs h2]; cases h1; rfl
end L2
set_option maxHeartbeats 4000000
namespace M
noncomputable section
def p__law_bound_1 : SM :=
    (sSet 1 (eOp opMod (eVar 0) (eC (.int 8))))
def p__law_bound_2 : SM :=
    (sSet 2 (eOp opDiv (eVar 0) (eC (.int 8))))
def p__law_bound_3 : SM :=
    (sIf (tCmp cLt (eVar 1) (eC (.int 2)))
    (sRet (eOp opIxT (eLst (aCons (eUn unNeg (eC (.int 1))) (aCons (eC (.int 0)) (aCons (eC (.int 1)) (aCons (eC (.int 999)) (aCons (eC (.int 1000)) (aCons (eC (.int 1001)) aNil))))))) (eOp opMod (eVar 2) (eC (.int 6)))))
    sNil)
def p__law_bound_4 : SM :=
    (sIf (tCmp cEq (eVar 1) (eC (.int 2)))
    (sRet (eOp opSub (eUn unNeg (eC (.int 1))) (eOp opMod (eVar 2) (eOp opPow (eC (.int 10)) (eC (.int 20))))))
    sNil)
def p__law_bound_5 : SM :=
    (sIf (tCmp cEq (eVar 1) (eC (.int 3)))
    (sRet (eOp opAdd (eC (.int 1001)) (eOp opMod (eVar 2) (eOp opPow (eC (.int 10)) (eC (.int 20))))))
    sNil)
def p__law_bound_6 : SM :=
    (sIf (tCmp cEq (eVar 1) (eC (.int 4)))
    (sRet (eOp opIxT (eLst (aCons (eC (.bl true)) (aCons (eC (.bl false)) (aCons (eC .non) (aCons (eC (.str [53])) (aCons (eC (.str [])) (aCons (eLst (aCons (eC (.int 5)) aNil)) (aCons (eTup (aCons (eC (.int 5)) aNil)) aNil)))))))) (eOp opMod (eVar 2) (eC (.int 7)))))
    sNil)
def p__law_bound_7 : SM :=
    (sRet (eOp opMod (eVar 2) (eC (.int 1001))))
def b__law_bound : SM := (sSeq p__law_bound_1 (sSeq p__law_bound_2 (sSeq p__law_bound_3 (sSeq p__law_bound_4 (sSeq p__law_bound_5 (sSeq p__law_bound_6 p__law_bound_7))))))
def m__law_bound : F := fn 3 b__law_bound
abbrev q__law_bound : F := m__law_bound
def Thg (S : M.S) (d : D) : Prop := (∃ i, d = .int i) ∨ (∃ b, d = .bl b) ∨ d = .non ∨ (∃ t, d = .str t) ∨ (∃ xs, d = .tup xs) ∨ ∃ p xs, d = .ref p ∧ S[p]? = some (.lst xs)
theorem at_i {α : Type} {xs : List α} {k : Int} {n : Nat} {d : α} (hk : k = n) (h : xs[n]? = some d) : atI xs k = some d := by
  subst hk
  have := (List.getElem?_eq_some_iff.mp h).1
  unfold atI ixN
  rw [if_pos (by lia), if_pos (by lia)]
  simpa using h
noncomputable abbrev seven (p : Nat) : List D := [.bl true, .bl false, .non, .str [53], .str [], .ref p, .tup [.int 5]]
theorem bound_ok (c : Int) (S : M.S) : ∃ d g, m__law_bound [.int c] S = .ok d (S ++ g) ∧ Thg (S ++ g) d := by
  have z6 : (6 : Nat) ≤ SZ := by decide
  have z7 : (7 : Nat) ≤ SZ := by decide
  have z1 : (1 : Nat) ≤ SZ := by decide
  have e12 : ∀ r : SM, sSeq p__law_bound_1 (sSeq p__law_bound_2 r) [some (.int c), none, none] S = r [some (.int c), some (.int (c % 8)), some (.int (c / 8))] S := fun r => rfl
  show ∃ d g, (b__law_bound [some (.int c), none, none] S).out = .ok d (S ++ g) ∧ Thg (S ++ g) d
  unfold b__law_bound
  rw [e12]
  generalize c / 8 = r
  by_cases h1 : c % 8 < 2
  · have hr : 0 ≤ r % 6 ∧ r % 6 < 6 := by lia
    obtain ⟨i, hi⟩ : ∃ i, atI ([.int (-1), .int 0, .int 1, .int 999, .int 1000, .int 1001] : List D) (r % 6) = some (.int i) := by
      rcases (by lia : r % 6 = 0 ∨ r % 6 = 1 ∨ r % 6 = 2 ∨ r % 6 = 3 ∨ r % 6 = 4 ∨ r % 6 = 5) with h | h | h | h | h | h <;> rw [h]
      · exact ⟨_, at_i (n := 0) rfl rfl⟩
      · exact ⟨_, at_i (n := 1) rfl rfl⟩
      · exact ⟨_, at_i (n := 2) rfl rfl⟩
      · exact ⟨_, at_i (n := 3) rfl rfl⟩
      · exact ⟨_, at_i (n := 4) rfl rfl⟩
      · exact ⟨_, at_i (n := 5) rfl rfl⟩
    exact ⟨.int i, _, by simp [p__law_bound_3, h1, z6, hi]; rfl, .inl ⟨i, rfl⟩⟩
  · by_cases h2 : c % 8 = 2
    · exact ⟨.int (-1 - r % 100000000000000000000), [], by simp [p__law_bound_3, p__law_bound_4, h2], .inl ⟨_, rfl⟩⟩
    · by_cases h3 : c % 8 = 3
      · exact ⟨.int (1001 + r % 100000000000000000000), [], by simp [p__law_bound_3, p__law_bound_4, p__law_bound_5, h3], .inl ⟨_, rfl⟩⟩
      · by_cases h4 : c % 8 = 4
        · have run : ∀ d, atI (seven S.length) (r % 7) = some d → ((sSeq p__law_bound_3 (sSeq p__law_bound_4 (sSeq p__law_bound_5 (sSeq p__law_bound_6 p__law_bound_7)))) [some (.int c), some (.int (c % 8)), some (.int r)] S).out = .ok d (S ++ [.lst [.int 5], .lst (seven S.length)]) := fun d hd => by
            simp [p__law_bound_3, p__law_bound_4, p__law_bound_5, p__law_bound_6, h4, z7, z1, hd]
          rcases (by lia : r % 7 = 0 ∨ r % 7 = 1 ∨ r % 7 = 2 ∨ r % 7 = 3 ∨ r % 7 = 4 ∨ r % 7 = 5 ∨ r % 7 = 6) with h | h | h | h | h | h | h
          · exact ⟨_, _, run _ (at_i (n := 0) h rfl), .inr (.inl ⟨_, rfl⟩)⟩
          · exact ⟨_, _, run _ (at_i (n := 1) h rfl), .inr (.inl ⟨_, rfl⟩)⟩
          · exact ⟨_, _, run _ (at_i (n := 2) h rfl), .inr (.inr (.inl rfl))⟩
          · exact ⟨_, _, run _ (at_i (n := 3) h rfl), .inr (.inr (.inr (.inl ⟨_, rfl⟩)))⟩
          · exact ⟨_, _, run _ (at_i (n := 4) h rfl), .inr (.inr (.inr (.inl ⟨_, rfl⟩)))⟩
          · exact ⟨_, _, run _ (at_i (n := 5) h rfl), .inr (.inr (.inr (.inr (.inr ⟨S.length, [.int 5], rfl, by simp⟩))))⟩
          · exact ⟨_, _, run _ (at_i (n := 6) h rfl), .inr (.inr (.inr (.inr (.inl ⟨_, rfl⟩))))⟩
        · exact ⟨.int (r % 1001), [], by simp [p__law_bound_3, p__law_bound_4, p__law_bound_5, p__law_bound_6, p__law_bound_7, h1, h2, h3, h4], .inl ⟨_, rfl⟩⟩
noncomputable def isB : D → Bool
  | .int i => decide (0 ≤ i ∧ i ≤ 1000)
  | _ => false
def b__law_cell : SM :=
    (sSeq (sIf (tCmp cLt (eVar 1) (eCall fLenT (aCons (eVar 0) aNil)))
    (sRet (eOp opIxT (eVar 0) (eVar 1)))
    sNil)
    (sRet (eC (.int 0))))
def m__law_cell : F := fn 2 b__law_cell
noncomputable def cellD (xs : List D) (k : Int) : D := xs.getD k.toNat (.int 0)
def q__law_cell : F
  | [.ro xs, .int k], s => if 0 ≤ k then .ok (cellD xs k) s else .no
  | _, _ => .no
theorem atI_in {α : Type} {xs : List α} {k : Int} (h0 : 0 ≤ k) (h : k < xs.length) (d : α) : atI xs k = some (xs.getD k.toNat d) := by
  unfold atI ixN
  rw [if_pos h0, if_pos h]
  have hk : k.toNat < xs.length := by lia
  simp [List.getD_eq_getElem?_getD, hk]
theorem cl_getD {n : Nat} {xs : List D} (h : D.cl.all n xs = true) (k : Nat) (d : D) (hd : D.cl n d = true) : D.cl n (xs.getD k d) = true := by
  induction xs generalizing k with
  | nil => exact hd
  | cons x xs ih =>
    have h' : (D.cl n x && D.cl.all n xs) = true := h
    rw [Bool.and_eq_true] at h'
    cases k with
    | zero => exact h'.1
    | succ k => exact ih h'.2 k
theorem rf__law_cell : Refines 2 m__law_cell q__law_cell := Refines.pure fun ds S hl c ca => by
  match ds, hl with
  | [a, b], _ =>
    cases a with
    | ro xs =>
      cases b with
      | int k =>
        by_cases h0 : 0 ≤ k
        · refine .inr ⟨cellD xs k, [], by simp [q__law_cell, h0], ?_, ?_⟩
          · by_cases h : k < (xs.length : Int)
            · simp [m__law_cell, b__law_cell, h, atI_in h0 h (.int 0), cellD]
            · have h2 : cellD xs k = .int 0 := by unfold cellD; rw [List.getD_eq_getElem?_getD, List.getElem?_eq_none (by lia)]; rfl
              simp [m__law_cell, b__law_cell, h, h2]
          · have ca' : (D.cl.all S.length xs && true) = true := ca
            rw [Bool.and_true] at ca'
            exact cl_getD ca' _ _ rfl
        · exact .inl (by simp [q__law_cell, h0])
      | _ => exact .inl rfl
    | _ => exact .inl rfl
def b_is_bound : SM :=
    (sSeq (sIf (tOr (tNot (tTru (eCall fIsi (aCons (eVar 0) (aCons (eC (.ty .int)) aNil))))) (tTru (eCall fIsi (aCons (eVar 0) (aCons (eC (.ty .bool)) aNil)))))
    (sRet (eC (.bl false)))
    sNil)
    (sRet (eChain cLe cLe (eC (.int 0)) (eVar 0) (eC (.int 1000)))))
def m_is_bound : F := fn 1 b_is_bound
def q_is_bound : F := chS m_is_bound
theorem rf_is_bound : Refines 1 m_is_bound q_is_bound := chS_rf _
theorem is_bound_at {d : D} {s : M.S} (h : Thg s d) : q_is_bound [d] s = .ok (.bl (isB d)) s := by
  refine chS_at (g := []) ?_ rfl
  rw [List.append_nil]
  rcases h with ⟨i, rfl⟩ | ⟨b, rfl⟩ | rfl | ⟨t, rfl⟩ | ⟨xs, rfl⟩ | ⟨p, xs, rfl, e⟩
  · by_cases h : 0 ≤ i
    · simp [m_is_bound, b_is_bound, h, isB]
    · simp [m_is_bound, b_is_bound, h, isB]
  · simp [m_is_bound, b_is_bound, isB]
  · simp [m_is_bound, b_is_bound, isB]
  · simp [m_is_bound, b_is_bound, isB]
  · simp [m_is_bound, b_is_bound, isB]
  · simp [m_is_bound, b_is_bound, isB, e]
def b_Shelf___init__ : SM :=
    (sSeq (sIf (tNot (tTru (eCall q_is_bound (aCons (eVar 1) aNil))))
    (sRaise0 25 (aCons (eC (.str [97, 32, 98, 111, 117, 110, 100, 32, 105, 115, 32, 97, 32, 110, 117, 109, 98, 101, 114, 32, 102, 114, 111, 109, 32, 48, 32, 116, 111, 32, 49, 48, 48, 48])) aNil))
    sNil)
    (sSeq (sFld 5 0 (eVar 0) (eVar 1))
    (sFld 5 1 (eVar 0) eDict0T)))
def m_Shelf___init__ : F := fn 2 b_Shelf___init__
abbrev q_Shelf___init__ : F := m_Shelf___init__
theorem shelf_no {d : D} {S : M.S} {p : Nat} (h : Thg S d) (hb : isB d = false) : m_Shelf___init__ [.ref p, d] S = .exc (.tup [.int 25]) S := by
  have e := is_bound_at h
  simp [m_Shelf___init__, b_Shelf___init__, e, hb]
theorem shelf_yes {d : D} {S : M.S} {p : Nat} (h : Thg S d) (hb : isB d = true) (hp : S[p]? = some (.ins 5 [none, none])) : m_Shelf___init__ [.ref p, d] S = .ok .non (S.set p (.ins 5 [some d, some (.ref S.length)]) ++ [.dtt []]) := by
  have e := is_bound_at h
  have hl := (List.getElem?_eq_some_iff.mp hp).1
  have e1 : (S.set p (.ins 5 [some d, none]))[p]? = some (.ins 5 [some d, none]) := List.getElem?_set_self hl
  have e2 : (S.set p (.ins 5 [some d, none]) ++ [O.dtt []])[p]? = some (.ins 5 [some d, none]) := by
    rw [List.getElem?_append_left (by rw [List.length_set]; exact hl)]; exact e1
  have e3 : (S.set p (.ins 5 [some d, none]) ++ [O.dtt []]).set p (.ins 5 [some d, some (.ref S.length)]) = S.set p (.ins 5 [some d, some (.ref S.length)]) ++ [O.dtt []] := by
    rw [List.set_append_left _ _ (by rw [List.length_set]; exact hl), List.set_set]
  simp [m_Shelf___init__, b_Shelf___init__, e, hb, hp, e1, e2, e3]
def b_Shelf_keys_kept : SM :=
    (sRet (eCall fListT (aCons (eFld 5 1 (eVar 0)) aNil)))
def m_Shelf_keys_kept : F := fn 1 b_Shelf_keys_kept
abbrev q_Shelf_keys_kept : F := m_Shelf_keys_kept
def b__law_whole : SM :=
    (sRet (eAnd (eCall fIsi (aCons (eVar 0) (aCons (eC (.ty .int)) aNil))) (eNot (eCall fIsi (aCons (eVar 0) (aCons (eC (.ty .bool)) aNil))))))
def m__law_whole : F := fn 1 b__law_whole
def q__law_whole : F := chS m__law_whole
theorem rf__law_whole : Refines 1 m__law_whole q__law_whole := chS_rf _
noncomputable def isI : D → Bool
  | .int _ => true
  | _ => false
theorem whole_at {d : D} {s : M.S} (h : Thg s d) : q__law_whole [d] s = .ok (.bl (isI d)) s := by
  refine chS_at (g := []) ?_ rfl
  rw [List.append_nil]
  rcases h with ⟨i, rfl⟩ | ⟨b, rfl⟩ | rfl | ⟨t, rfl⟩ | ⟨xs, rfl⟩ | ⟨p, xs, rfl, e⟩
  · simp [m__law_whole, b__law_whole, isI]
  · simp [m__law_whole, b__law_whole, isI]
  · simp [m__law_whole, b__law_whole, isI]
  · simp [m__law_whole, b__law_whole, isI]
  · simp [m__law_whole, b__law_whole, isI]
  · simp [m__law_whole, b__law_whole, isI, e]
def b__law_is_bound : SM :=
    (sRet (eAnd (eCall q__law_whole (aCons (eVar 0) aNil)) (eAnd (eCmp cLe (eC (.int 0)) (eVar 0)) (eCmp cLe (eVar 0) (eC (.int 1000))))))
def m__law_is_bound : F := fn 1 b__law_is_bound
def q__law_is_bound : F := chS m__law_is_bound
theorem rf__law_is_bound : Refines 1 m__law_is_bound q__law_is_bound := chS_rf _
theorem lbound_at {d : D} {s : M.S} (h : Thg s d) : q__law_is_bound [d] s = .ok (.bl (isB d)) s := by
  refine chS_at (g := []) ?_ rfl
  rw [List.append_nil]
  have w := whole_at h
  rcases h with ⟨i, rfl⟩ | ⟨b, rfl⟩ | rfl | ⟨t, rfl⟩ | ⟨xs, rfl⟩ | ⟨p, xs, rfl, e⟩
  · by_cases h : 0 ≤ i
    · simp [m__law_is_bound, b__law_is_bound, w, isI, h, isB]
    · simp [m__law_is_bound, b__law_is_bound, w, isI, h, isB]
  · simp [m__law_is_bound, b__law_is_bound, w, isI, isB]
  · simp [m__law_is_bound, b__law_is_bound, w, isI, isB]
  · simp [m__law_is_bound, b__law_is_bound, w, isI, isB]
  · simp [m__law_is_bound, b__law_is_bound, w, isI, isB]
  · simp [m__law_is_bound, b__law_is_bound, w, isI, isB]
def p_Shelf_look_1 : SM :=
    (sIf (tCmp cNotInT (eVar 1) (eFld 5 1 (eVar 0)))
    (sRet (eC .non))
    sNil)
def p_Shelf_look_2 : SM :=
    (sSet 2 (eM .dict mPopT (eFld 5 1 (eVar 0)) (aCons (eVar 1) aNil)))
def p_Shelf_look_3 : SM :=
    (sSubT (eFld 5 1 (eVar 0)) (eVar 1) (eVar 2))
def p_Shelf_look_4 : SM :=
    (sRet (eVar 2))
def b_Shelf_look : SM := (sSeq p_Shelf_look_1 (sSeq p_Shelf_look_2 (sSeq p_Shelf_look_3 p_Shelf_look_4)))
def m_Shelf_look : F := fn 3 b_Shelf_look
abbrev q_Shelf_look : F := m_Shelf_look
def p_law_1 : SM :=
    (sSet 1 (eCall q__law_bound (aCons (eCall q__law_cell (aCons (eVar 0) (aCons (eC (.int 0)) aNil))) aNil)))
def p_law_2 : SM :=
    (sSet 2 (eC .non))
def p_law_3 : SM :=
    (sTryB 25 2 3 (eMake 5 2 q_Shelf___init__ (aCons (eVar 1) aNil)) (eNot (eCall q__law_is_bound (aCons (eVar 1) aNil))))
def p_law_4 : SM :=
    (sIf (tOr (tNot (tTru (eCall q__law_is_bound (aCons (eVar 1) aNil)))) (tOr (tNot (tTru (eCall q__law_whole (aCons (eFld 5 0 (eVar 2)) aNil)))) (tCmp cNe (eFld 5 0 (eVar 2)) (eVar 1))))
    (sRet (eC (.bl false)))
    sNil)
def p_law_5 : SM :=
    (sFor (iRange1 (eC (.int 2))) (gName 4)
    (sSeq (sSet 5 (eMeth 5 q_Shelf_keys_kept (eVar 2) aNil))
    (sSeq (sIf (tOr (tNot (tTru (eCall fIsi (aCons (eVar 5) (aCons (eC (.ty .list)) aNil))))) (tCmp cNe (eVar 5) (eLst aNil)))
    (sRet (eC (.bl false)))
    sNil)
    (sSeq (sExpr (eM .list mAppend (eVar 5) (aCons (eTup (aCons (eC (.str [97])) aNil)) aNil)))
    (sFor (iE (eLst (aCons (eTup (aCons (eC (.str [97])) aNil)) (aCons (eTup aNil) (aCons (eTup (aCons (eC .non) (aCons (eC (.int 0)) aNil))) aNil))))) (gName 6)
    (sIf (tNotN (eMeth 5 q_Shelf_look (eVar 2) (aCons (eVar 6) aNil)))
    (sRet (eC (.bl false)))
    sNil))))))
def p_law_6 : SM :=
    (sRet (eC (.bl true)))
def b_law : SM := (sSeq p_law_1 (sSeq p_law_2 (sSeq p_law_3 (sSeq p_law_4 (sSeq p_law_5 p_law_6)))))
def m_law : F := fn 7 b_law
theorem seq_at {a b : SM} {σ : St} {s : S} {r : RS} (h : a σ s = r) : sSeq a b σ s = r.then b := by
  show (a σ s).then b = _
  rw [h]
theorem kept_at {S : M.S} {p d : Nat} {x : D} (ob : S[p]? = some (.ins 5 [some x, some (.ref d)])) (di : S[d]? = some (.dtt [])) : m_Shelf_keys_kept [.ref p] S = .ok (.ref S.length) (S ++ [.lst []]) := by
  simp [m_Shelf_keys_kept, b_Shelf_keys_kept, ob, di]
theorem look_at {S : M.S} {p d : Nat} {x k : D} (hk : kyT k = true) (ob : S[p]? = some (.ins 5 [some x, some (.ref d)])) (di : S[d]? = some (.dtt [])) : m_Shelf_look [.ref p, k] S = .ok .non S := by
  have z : dGet k ([] : List (D × D)) = none := rfl
  simp [m_Shelf_look, b_Shelf_look, p_Shelf_look_1, ob, di, hk, z]
abbrev lwIn : SM := sFor (iE (eLst (aCons (eTup (aCons (eC (.str [97])) aNil)) (aCons (eTup aNil) (aCons (eTup (aCons (eC .non) (aCons (eC (.int 0)) aNil))) aNil))))) (gName 6)
    (sIf (tNotN (eMeth 5 q_Shelf_look (eVar 2) (aCons (eVar 6) aNil)))
    (sRet (eC (.bl false)))
    sNil)
abbrev lwBody : SM := sSeq (sSet 5 (eMeth 5 q_Shelf_keys_kept (eVar 2) aNil))
    (sSeq (sIf (tOr (tNot (tTru (eCall fIsi (aCons (eVar 5) (aCons (eC (.ty .list)) aNil))))) (tCmp cNe (eVar 5) (eLst aNil)))
    (sRet (eC (.bl false)))
    sNil)
    (sSeq (sExpr (eM .list mAppend (eVar 5) (aCons (eTup (aCons (eC (.str [97])) aNil)) aNil))) lwIn))
theorem p5_eq : p_law_5 = sFor (iRange1 (eC (.int 2))) (gName 4) lwBody := rfl
section
variable {v0 v1 v3 v4 v5 v6 : Option D} {p d : Nat} {x : D} {S : M.S}
theorem lw_in (ob : S[p]? = some (.ins 5 [some x, some (.ref d)])) (di : S[d]? = some (.dtt [])) : ∃ w6 g, lwIn [v0, v1, some (.ref p), v3, v4, v5, v6] S = .nx [v0, v1, some (.ref p), v3, v4, v5, w6] (S ++ g) := by
  have ob' := app_get ob [O.lst [.tup [.str [97]], .tup [], .tup [.non, .int 0]]]
  have di' := app_get di [O.lst [.tup [.str [97]], .tup [], .tup [.non, .int 0]]]
  have k1 := look_at (k := .tup [.str [97]]) (by decide) ob' di'
  have k2 := look_at (k := .tup []) (by decide) ob' di'
  have k3 := look_at (k := .tup [.non, .int 0]) (by decide) ob' di'
  have z1 : (1 : Nat) ≤ SZ := by decide
  have z2 : (2 : Nat) ≤ SZ := by decide
  have z3 : (3 : Nat) ≤ SZ := by decide
  refine ⟨some (.tup [.non, .int 0]), [.lst [.tup [.str [97]], .tup [], .tup [.non, .int 0]]], ?_⟩
  simp [lwIn, sFor, forL, gdOk, z1, z2, z3, k1, k2, k3, ob']
theorem lw_step (ob : S[p]? = some (.ins 5 [some x, some (.ref d)])) (di : S[d]? = some (.dtt [])) : ∃ w5 w6 g, lwBody [v0, v1, some (.ref p), v3, v4, v5, v6] S = .nx [v0, v1, some (.ref p), v3, v4, w5, w6] (S ++ g) := by
  have z1 : (1 : Nat) ≤ SZ := by decide
  have z0 : 0 < SZ := by decide
  have kp := kept_at ob di
  have g1 : (S ++ [O.lst []])[S.length]? = some (.lst []) := by simp
  have g2 : (S ++ [O.lst [], O.lst []])[S.length]? = some (.lst []) := by simp
  have g3 : (S ++ [O.lst [], O.lst []])[S.length + 1]? = some (.lst []) := by simp
  have s3 : (S ++ [O.lst [], O.lst []]).set S.length (.lst [.tup [.str [97]]]) = S ++ [O.lst [.tup [.str [97]]], O.lst []] := by simp
  have tp : ∀ i, (S ++ [O.lst [], O.lst []])[i]? = some (.lst []) → toP DEEP (S ++ [O.lst [], O.lst []]) (.ref i) = some (.lst []) := fun i h => by
    unfold DEEP toP toPg lstAt
    rw [h]
    rfl
  have t1 := tp _ g2
  have t2 := tp _ g3
  obtain ⟨w6, g, e⟩ := lw_in (v0 := v0) (v1 := v1) (v3 := v3) (v4 := v4) (v5 := some (.ref S.length)) (v6 := v6) (app_get ob [O.lst [.tup [.str [97]]], O.lst []]) (app_get di [O.lst [.tup [.str [97]]], O.lst []])
  refine ⟨some (.ref S.length), w6, [O.lst [.tup [.str [97]]], O.lst []] ++ g, ?_⟩
  rw [← List.append_assoc, ← e]
  unfold lwBody
  generalize lwIn = R0
  simp [ob, kp, g1, g2, g3, s3, z1, z0, t1, t2, P.dep, P.deps, P.eqv, P.eqvs]
end
theorem thg_app {S : M.S} {d : D} (h : Thg S d) (g : M.S) : Thg (S ++ g) d := by
  rcases h with h | h | h | h | h | ⟨p, xs, h, e⟩
  · exact .inl h
  · exact .inr (.inl h)
  · exact .inr (.inr (.inl h))
  · exact .inr (.inr (.inr (.inl h)))
  · exact .inr (.inr (.inr (.inr (.inl h))))
  · exact .inr (.inr (.inr (.inr (.inr ⟨p, xs, h, app_get e g⟩))))
theorem law_true (ns : List Int) (hl : ns.length ≤ 63) : ∃ s, m_law [.ro (ns.map .int)] [] = .ok (.bl true) s := by
  obtain ⟨c, hc⟩ : ∃ c, cellD (ns.map .int) 0 = .int c := by
    unfold cellD
    cases ns with
    | nil => exact ⟨0, rfl⟩
    | cons a r => exact ⟨a, rfl⟩
  obtain ⟨d, g, hb, ht⟩ := bound_ok c []
  rw [List.nil_append] at hb ht
  show ∃ s, (b_law [some (.ro (ns.map .int)), none, none, none, none, none, none] []).out = _
  have e1 : p_law_1 [some (.ro (ns.map .int)), none, none, none, none, none, none] [] = .nx [some (.ro (ns.map .int)), some d, none, none, none, none, none] g := by
    simp [p_law_1, q__law_cell, hc, hb]
  have e2 : p_law_2 [some (.ro (ns.map .int)), some d, none, none, none, none, none] g = .nx [some (.ro (ns.map .int)), some d, some .non, none, none, none, none] g := rfl
  unfold b_law
  rw [seq_at e1, RS.then_nx, seq_at e2, RS.then_nx]
  have ht1 := thg_app ht [O.ins 5 [none, none]]
  cases hB : isB d with
  | false =>
    have en := shelf_no (p := g.length) ht1 hB
    have el := lbound_at ht1
    have e3 : p_law_3 [some (.ro (ns.map .int)), some d, some .non, none, none, none, none] g = .rt (.bl true) (g ++ [O.ins 5 [none, none]]) := by
      simp [p_law_3, en, el, hB]
    exact ⟨_, by rw [seq_at e3]; rfl⟩
  | true =>
    have hp : (g ++ [O.ins 5 [none, none]])[g.length]? = some (.ins 5 [none, none]) := by simp
    have ey := shelf_yes ht1 hB hp
    have es : (g ++ [O.ins 5 [none, none]]).set g.length (.ins 5 [some d, some (.ref (g ++ [O.ins 5 [none, none]]).length)]) ++ [O.dtt []] = g ++ [O.ins 5 [some d, some (.ref (g.length + 1))], O.dtt []] := by simp
    rw [es] at ey
    have e3 : p_law_3 [some (.ro (ns.map .int)), some d, some .non, none, none, none, none] g = .nx [some (.ro (ns.map .int)), some d, some (.ref g.length), none, none, none, none] (g ++ [O.ins 5 [some d, some (.ref (g.length + 1))], O.dtt []]) := by
      simp [p_law_3, ey]
    have ob : (g ++ [O.ins 5 [some d, some (.ref (g.length + 1))], O.dtt []])[g.length]? = some (.ins 5 [some d, some (.ref (g.length + 1))]) := by simp
    have di : (g ++ [O.ins 5 [some d, some (.ref (g.length + 1))], O.dtt []])[g.length + 1]? = some (.dtt []) := by simp
    have ht2 := thg_app ht [O.ins 5 [some d, some (.ref (g.length + 1))], O.dtt []]
    have el := lbound_at ht2
    have ew := whole_at ht2
    generalize g ++ [O.ins 5 [some d, some (.ref (g.length + 1))], O.dtt []] = S at *
    obtain ⟨i, rfl⟩ : ∃ i, d = .int i := by
      cases d with
      | int i => exact ⟨i, rfl⟩
      | _ => cases hB
    have e4 : p_law_4 [some (.ro (ns.map .int)), some (.int i), some (.ref g.length), none, none, none, none] S = .nx [some (.ro (ns.map .int)), some (.int i), some (.ref g.length), none, none, none, none] S := by
      simp [p_law_4, el, ew, hB, isI, ob]
    obtain ⟨a5, a6, g1, s1⟩ := lw_step (v0 := some (.ro (ns.map .int))) (v1 := some (.int i)) (v3 := none) (v4 := some (.int 0)) (v5 := none) (v6 := none) ob di
    obtain ⟨b5, b6, g2, s2⟩ := lw_step (v0 := some (.ro (ns.map .int))) (v1 := some (.int i)) (v3 := none) (v4 := some (.int 1)) (v5 := a5) (v6 := a6) (app_get ob g1) (app_get di g1)
    have e5 : p_law_5 [some (.ro (ns.map .int)), some (.int i), some (.ref g.length), none, none, none, none] S = .nx [some (.ro (ns.map .int)), some (.int i), some (.ref g.length), none, some (.int 1), b5, b6] (S ++ g1 ++ g2) := by
      rw [p5_eq]
      generalize lwBody = R0 at *
      have hr : iRange1 (eC (.int 2)) [some (.ro (ns.map .int)), some (.int i), some (.ref g.length), none, none, none, none] S = .ok ([.int 0, .int 1], []) S := rfl
      unfold sFor
      rw [hr]
      simp [forL, gdOk, s1, s2]
    refine ⟨S ++ g1 ++ g2, ?_⟩
    rw [seq_at e3, RS.then_nx, seq_at e4, RS.then_nx, seq_at e5, RS.then_nx]
    rfl
end
end M
namespace My
open PySem L2 PyProof.Rows
noncomputable def top (i : Nat) : Stmt := PySem.Challenge.pw_thingyard_k50_bounds.main.body.getD i (.Pass ⟨0, 0, 0, 0⟩)
theorem vv {X : Cx} {Θ : Tab} {pos : Pos} {x : Str} (i : Nat) (h1 : X.N[i]? = some x := by rfl) (h2 : Vis X.env.scope x := by exact Or.inl (by kernel_rfl)) (h3 : (x == ("__debug__" : Str)) = false := by kernel_rfl) (h4 : (x == ("__classdict__" : Str)) = false := by kernel_rfl) : WE X Θ (.Name x pos) (M.eVar i) := w_me_var i h1 h2 h3 h4
theorem zz {X : Cx} {Θ : Tab} {pos : Pos} {y : M.T} {x : Str} {j : Nat} (h : x = ofT y := by decide +kernel) (ok : okT y := by decide +kernel) : WE X Θ (.Constant (.str x) j pos) (M.eC (.str y)) := w_me_str h ok
theorem gk {X : Cx} {x : Str} (h : X.env.kindOf x = some .globalImplicit := by kernel_rfl) : Gl X x := h
abbrev cX (P : Program) (w : World) (K : PySem.W.Frag) (mg : Str → Option Value) (base : Heap) (N : List Str) (n : Str) (st : Stmt) (f : Addr) (cdv : Value) (A : Around) (outer : List Env) (s : Shared) (H : Hp) (E : XK) : Cx := (cxOf CX0 P w K mg base N n (defScope st) f cdv A outer s H E).nox
abbrev RM (k : Nat) (n : Str) (st : Stmt) (A : Around) (s : Shared) (f : Addr) (cdv : Value) : Prop := Room k (A.deeper (envOfC n (defScope st) s.heap.objs.size f cdv))
abbrev bd (st : Stmt) (j : Nat) : Stmt := (defBody st).getD j (.Pass ⟨0, 0, 0, 0⟩)
def lawSp (K : PySem.W.Frag) : Sp := fun vs H Q E => ∀ Θ : Tab, SpM K Θ 1 M.m_law vs H Q E
theorem lawSp_in {K : PySem.W.Frag} {H : Hp} {a : Addr} {ns : List Int} {E : XK} (hl : ns.length ≤ 63) (hO : Only H) (hS : SqL K H a (ns.map V.int)) : lawSp K [.ref a] H (fun v _ => v = .bl true) E := fun _ => law_sp M.law_true hl hO hS
def Θ1 (w : World) (C_Shelf C_BadBound : Addr) : Tab := ⟨fun c => if c = 5 then some (C_Shelf, ["bound", "kept"]) else if c = 25 then some (C_BadBound, []) else none, haD w 7, fun _ _ _ => False⟩
section
variable (P : Program) (w : World) (K : PySem.W.Frag) (mg : Str → Option Value) (base : Heap) (C_Shelf C_BadBound : Addr)
abbrev T__law_bound : Prop := Has P w K mg base "_law_bound" 1 ["_law_cell_here"] (SpM K (Θ1 w C_Shelf C_BadBound) 1 M.q__law_bound)
abbrev T__law_cell : Prop := Has P w K mg base "_law_cell" 1 ["_law_script", "_law_k"] (SpM K (Θ1 w C_Shelf C_BadBound) 2 M.q__law_cell)
abbrev T_is_bound : Prop := Has P w K mg base "is_bound" 1 ["thing"] (SpM K (Θ1 w C_Shelf C_BadBound) 1 M.q_is_bound)
abbrev T_Shelf___init__ : Prop := HasCX P w K mg base C_Shelf "Shelf" 3 ["self", "bound"] (SpX K (Θ1 w C_Shelf C_BadBound) 2 M.q_Shelf___init__)
abbrev T_Shelf_keys_kept : Prop := HasM P w K mg base C_Shelf "keys_kept" 1 ["self"] (SpM K (Θ1 w C_Shelf C_BadBound) 1 M.q_Shelf_keys_kept)
abbrev T__law_whole : Prop := HasH P w K mg base "_law_whole" 1 ["_law_found"] (SpM K (Θ1 w C_Shelf C_BadBound) 1 M.q__law_whole)
abbrev T__law_is_bound : Prop := HasH P w K mg base "_law_is_bound" 2 ["_law_thing"] (SpM K (Θ1 w C_Shelf C_BadBound) 1 M.q__law_is_bound)
abbrev T_Shelf_look : Prop := HasM P w K mg base C_Shelf "look" 1 ["self", "key"] (SpM K (Θ1 w C_Shelf C_BadBound) 2 M.q_Shelf_look)
end
abbrev T__law_alone (P : Program) (w : World) (K : PySem.W.Frag) (mg : Str → Option Value) (base : Heap) (C_BadBound : Addr) : Prop := HasH P w K mg base "_law_alone" 1 ["_law_e"] (spX1 C_BadBound true)
variable {P : Program} {w : World} {K : PySem.W.Frag} {mg : Str → Option Value} {base : Heap} {f : Addr} {fd : FuncData} {cdv : Value} {A : Around} {outer : List Env} {s : Shared} {H : Hp} {E : XK} {C_Shelf C_BadBound : Addr}
abbrev TE_BadBound (P : Program) (w : World) (K : PySem.W.Frag) (mg : Str → Option Value) (base : Heap) (C_BadBound : Addr) : Prop := HasE0 K mg C_BadBound "BadBound" "YardError"
abbrev TC_Shelf (w : World) (K : PySem.W.Frag) (C_Shelf C_BadBound : Addr) : Prop := ClsM K (Θ1 w C_Shelf C_BadBound) 5 C_Shelf ["bound", "kept"]
abbrev s__law_bound : Stmt := top 16
noncomputable abbrev N__law_bound : List Str := ["_law_cell_here", "_law_way", "_law_rest"]
theorem sc__law_bound : FnScope N__law_bound ["_law_cell_here"] (defScope s__law_bound) := ⟨rfl, rfl, rfl, by decide +kernel, rfl, by decide +kernel, by decide +kernel⟩
theorem ps__law_bound_1 (hr : RM 0 "_law_bound" s__law_bound A s f cdv) : WS (cX P w K mg base N__law_bound "_law_bound" s__law_bound f cdv A outer s H E) (Θ1 w C_Shelf C_BadBound) (bd s__law_bound 0) M.p__law_bound_1 := by
  unfold M.p__law_bound_1
  exact (w_ms_set (i := 1) sc__law_bound.nd rfl (Or.inl (by kernel_rfl)) (w_me_op u_mod ad_mod (vv 0) w_me_int))
theorem ps__law_bound_2 (hr : RM 0 "_law_bound" s__law_bound A s f cdv) : WS (cX P w K mg base N__law_bound "_law_bound" s__law_bound f cdv A outer s H E) (Θ1 w C_Shelf C_BadBound) (bd s__law_bound 1) M.p__law_bound_2 := by
  unfold M.p__law_bound_2
  exact (w_ms_set (i := 2) sc__law_bound.nd rfl (Or.inl (by kernel_rfl)) (w_me_op u_div ad_div (vv 0) w_me_int))
theorem ps__law_bound_3 (hr : RM 0 "_law_bound" s__law_bound A s f cdv) : WS (cX P w K mg base N__law_bound "_law_bound" s__law_bound f cdv A outer s H E) (Θ1 w C_Shelf C_BadBound) (bd s__law_bound 2) M.p__law_bound_3 := by
  unfold M.p__law_bound_3
  exact (w_ms_if (w_mt_cmp u_lt ad_lt (vv 1) w_me_int (nomark _))
    (w_mss_one (w_ms_ret (w_me_ix (ix_T rfl hr) ad_ixT (w_me_lst (w_ma_cons (w_me_un un_neg ad_neg w_me_int) (w_ma_cons w_me_int (w_ma_cons w_me_int (w_ma_cons w_me_int (w_ma_cons w_me_int (w_ma_cons w_me_int w_ma_nil))))))) (w_me_op u_mod ad_mod (vv 2) w_me_int))))
    w_mss_nil)
theorem ps__law_bound_4 (hr : RM 0 "_law_bound" s__law_bound A s f cdv) : WS (cX P w K mg base N__law_bound "_law_bound" s__law_bound f cdv A outer s H E) (Θ1 w C_Shelf C_BadBound) (bd s__law_bound 3) M.p__law_bound_4 := by
  unfold M.p__law_bound_4
  exact (w_ms_if (w_mt_cmp (op_eqM hr) ad_eq (vv 1) w_me_int (nomark _))
    (w_mss_one (w_ms_ret (w_me_op u_sub ad_sub (w_me_un un_neg ad_neg w_me_int) (w_me_op u_mod ad_mod (vv 2) (w_me_op op_pow ad_pow w_me_int w_me_int)))))
    w_mss_nil)
theorem ps__law_bound_5 (hr : RM 0 "_law_bound" s__law_bound A s f cdv) : WS (cX P w K mg base N__law_bound "_law_bound" s__law_bound f cdv A outer s H E) (Θ1 w C_Shelf C_BadBound) (bd s__law_bound 4) M.p__law_bound_5 := by
  unfold M.p__law_bound_5
  exact (w_ms_if (w_mt_cmp (op_eqM hr) ad_eq (vv 1) w_me_int (nomark _))
    (w_mss_one (w_ms_ret (w_me_op (OpR.or u_add op_catT) ad_add w_me_int (w_me_op u_mod ad_mod (vv 2) (w_me_op op_pow ad_pow w_me_int w_me_int)))))
    w_mss_nil)
theorem ps__law_bound_6 (hr : RM 0 "_law_bound" s__law_bound A s f cdv) : WS (cX P w K mg base N__law_bound "_law_bound" s__law_bound f cdv A outer s H E) (Θ1 w C_Shelf C_BadBound) (bd s__law_bound 5) M.p__law_bound_6 := by
  unfold M.p__law_bound_6
  exact (w_ms_if (w_mt_cmp (op_eqM hr) ad_eq (vv 1) w_me_int (nomark _))
    (w_mss_one (w_ms_ret (w_me_ix (ix_T rfl hr) ad_ixT (w_me_lst (w_ma_cons w_me_bl (w_ma_cons w_me_bl (w_ma_cons w_me_non (w_ma_cons zz (w_ma_cons zz (w_ma_cons (w_me_lst (w_ma_cons w_me_int w_ma_nil)) (w_ma_cons (w_me_tup (w_ma_cons w_me_int w_ma_nil)) w_ma_nil)))))))) (w_me_op u_mod ad_mod (vv 2) w_me_int))))
    w_mss_nil)
theorem ps__law_bound_7 (hr : RM 0 "_law_bound" s__law_bound A s f cdv) : WS (cX P w K mg base N__law_bound "_law_bound" s__law_bound f cdv A outer s H E) (Θ1 w C_Shelf C_BadBound) (bd s__law_bound 6) M.p__law_bound_7 := by
  unfold M.p__law_bound_7
  exact (w_ms_ret (w_me_op u_mod ad_mod (vv 2) w_me_int))
theorem ok__law_bound (F : Fun K "_law_bound" "_law_bound" s__law_bound f fd) :
    FnOk P w K mg base CX0 1 f fd ["_law_cell_here"] (SpM K (Θ1 w C_Shelf C_BadBound) 1 M.q__law_bound) := by
  refine w_fun_M0 (N := N__law_bound) (b := M.b__law_bound) F sc__law_bound fun cdv A outer s H E hr => ?_
  unfold M.b__law_bound
  exact (w_mss_cons (ps__law_bound_1 hr) (w_mss_cons (ps__law_bound_2 hr) (w_mss_cons (ps__law_bound_3 hr) (w_mss_cons (ps__law_bound_4 hr) (w_mss_cons (ps__law_bound_5 hr) (w_mss_cons (ps__law_bound_6 hr) (w_mss_one (ps__law_bound_7 hr))))))))
abbrev s__law_cell : Stmt := top 14
noncomputable abbrev N__law_cell : List Str := ["_law_script", "_law_k"]
theorem sc__law_cell : FnScope N__law_cell ["_law_script", "_law_k"] (defScope s__law_cell) := ⟨rfl, rfl, rfl, by decide +kernel, rfl, by decide +kernel, by decide +kernel⟩
theorem ok__law_cell (F : Fun K "_law_cell" "_law_cell" s__law_cell f fd) (b_len : mg "len" = none) :
    FnOk P w K mg base CX0 1 f fd ["_law_script", "_law_k"] (SpM K (Θ1 w C_Shelf C_BadBound) 2 M.q__law_cell) := by
  refine w_fun_M (b := M.b__law_cell) F sc__law_cell M.rf__law_cell fun cdv A outer s H E hr => ?_
  unfold M.b__law_cell
  exact (w_mss_cons (w_ms_if (w_mt_cmp u_lt ad_lt (vv 1) (w_me_callB call_lenT ad_lenT gk b_len bt_len (w_ma_cons (vv 0) w_ma_nil)) (nomark _))
    (w_mss_one (w_ms_ret (w_me_ix (ix_T rfl hr) ad_ixT (vv 0) (vv 1))))
    w_mss_nil)
    (w_mss_one (w_ms_ret w_me_int)))
abbrev s_is_bound : Stmt := top 11
noncomputable abbrev N_is_bound : List Str := ["thing"]
theorem sc_is_bound : FnScope N_is_bound ["thing"] (defScope s_is_bound) := ⟨rfl, rfl, rfl, by decide +kernel, rfl, by decide +kernel, by decide +kernel⟩
theorem ok_is_bound (F : Fun K "is_bound" "is_bound" s_is_bound f fd) (b_isinstance : mg "isinstance" = none) (b_bool : mg "bool" = none) (b_int : mg "int" = none) (g_MOST_KEYS : HasV mg "MOST_KEYS" (.int 1000)) :
    FnOk P w K mg base CX0 1 f fd ["thing"] (SpM K (Θ1 w C_Shelf C_BadBound) 1 M.q_is_bound) := by
  refine w_fun_M (b := M.b_is_bound) F sc_is_bound M.rf_is_bound fun cdv A outer s H E hr => ?_
  unfold M.b_is_bound
  exact (w_mss_cons (w_ms_if (w_mt_ofw (w_mw_or (w_mt_not (w_mt_tru (w_me_callB call_isK ad_isi gk b_isinstance bt_isinstance (w_ma_cons (vv 0) (w_ma_cons (w_me_ty .int gk b_int bt_int) w_ma_nil))))) (w_mw_one_or (w_mt_tru (w_me_callB call_isK ad_isi gk b_isinstance bt_isinstance (w_ma_cons (vv 0) (w_ma_cons (w_me_ty .bool gk b_bool bt_bool) w_ma_nil)))))))
    (w_mss_one (w_ms_ret w_me_bl))
    w_mss_nil)
    (w_mss_one (w_ms_ret (w_me_chain u_le u_le ad_le ad_le w_me_int (vv 0) (w_me_globS g_MOST_KEYS gk (fun _ _ => rfl))))))
abbrev s_Shelf___init__ : Stmt := inClass (top 12) 0
noncomputable abbrev N_Shelf___init__ : List Str := ["self", "bound"]
theorem sc_Shelf___init__ : FnScope N_Shelf___init__ ["self", "bound"] (defScope s_Shelf___init__) := ⟨rfl, rfl, rfl, by decide +kernel, rfl, by decide +kernel, by decide +kernel⟩
theorem ok_Shelf___init__ (F : Fun K "__init__" "Shelf.__init__" s_Shelf___init__ f fd) (e_BadBound : TE_BadBound P w K mg base C_BadBound) (c_Shelf : TC_Shelf w K C_Shelf C_BadBound) (h_is_bound : T_is_bound P w K mg base C_Shelf C_BadBound) :
    FnOk P w K mg base (CX1 P w) 3 f fd ["self", "bound"] (SpX K (Θ1 w C_Shelf C_BadBound) 2 M.q_Shelf___init__) := by
  refine w_fun_X (N := N_Shelf___init__) (b := M.b_Shelf___init__) F sc_Shelf___init__ fun cdv A outer s H E hr W => ?_
  unfold M.b_Shelf___init__
  exact (w_mss_cons (w_ms_if (w_mt_not (w_mt_tru (w_me_call (Has.wish h_is_bound M.rf_is_bound) hr (by decide) gk (w_ma_cons (vv 1) w_ma_nil) (ar_cons ar_nil))))
    (w_mss_one (w_ms_raiseZ e_BadBound W rfl rfl gk (w_ma_cons zz w_ma_nil) (ar_cons ar_nil)))
    w_mss_nil)
    (w_mss_cons (w_ms_fld (i := 0) (ClsM.w c_Shelf) rfl (vv 0) (vv 1))
    (w_mss_one (w_ms_fld (i := 1) (ClsM.w c_Shelf) rfl (vv 0) (w_me_dnewT rfl)))))
abbrev s_Shelf_keys_kept : Stmt := inClass (top 12) 3
noncomputable abbrev N_Shelf_keys_kept : List Str := ["self"]
theorem sc_Shelf_keys_kept : FnScope N_Shelf_keys_kept ["self"] (defScope s_Shelf_keys_kept) := ⟨rfl, rfl, rfl, by decide +kernel, rfl, by decide +kernel, by decide +kernel⟩
theorem ok_Shelf_keys_kept (F : Fun K "keys_kept" "Shelf.keys_kept" s_Shelf_keys_kept f fd) (c_Shelf : TC_Shelf w K C_Shelf C_BadBound) (b_list : mg "list" = none) :
    FnOk P w K mg base CX0 1 f fd ["self"] (SpM K (Θ1 w C_Shelf C_BadBound) 1 M.q_Shelf_keys_kept) := by
  refine w_fun_M0 (N := N_Shelf_keys_kept) (b := M.b_Shelf_keys_kept) F sc_Shelf_keys_kept fun cdv A outer s H E hr => ?_
  unfold M.b_Shelf_keys_kept
  exact (w_mss_one (w_ms_ret (w_me_callTy (call_listT hr) ad_listT gk b_list bt_list (w_ma_cons (w_me_fld (i := 1) c_Shelf rfl (vv 0)) w_ma_nil))))
abbrev s__law_whole : Stmt := top 15
noncomputable abbrev N__law_whole : List Str := ["_law_found"]
theorem sc__law_whole : FnScope N__law_whole ["_law_found"] (defScope s__law_whole) := ⟨rfl, rfl, rfl, by decide +kernel, rfl, by decide +kernel, by decide +kernel⟩
theorem ok__law_whole (F : Fun K "_law_whole" "_law_whole" s__law_whole f fd) (b_isinstance : mg "isinstance" = none) (b_int : mg "int" = none) (b_bool : mg "bool" = none) :
    FnOkH P w K mg base CX0 1 f fd ["_law_found"] (SpM K (Θ1 w C_Shelf C_BadBound) 1 M.q__law_whole) := by
  refine w_fun_MH (b := M.b__law_whole) F sc__law_whole M.rf__law_whole fun cdv A outer s H E hr => ?_
  unfold M.b__law_whole
  exact (w_mss_one (w_ms_ret (w_me_and (w_me_callB call_isK ad_isi gk b_isinstance bt_isinstance (w_ma_cons (vv 0) (w_ma_cons (w_me_ty .int gk b_int bt_int) w_ma_nil))) (w_me_one (w_me_not (w_me_callB call_isK ad_isi gk b_isinstance bt_isinstance (w_ma_cons (vv 0) (w_ma_cons (w_me_ty .bool gk b_bool bt_bool) w_ma_nil))))))))
abbrev s__law_is_bound : Stmt := top 17
noncomputable abbrev N__law_is_bound : List Str := ["_law_thing"]
theorem sc__law_is_bound : FnScope N__law_is_bound ["_law_thing"] (defScope s__law_is_bound) := ⟨rfl, rfl, rfl, by decide +kernel, rfl, by decide +kernel, by decide +kernel⟩
theorem ok__law_is_bound (F : Fun K "_law_is_bound" "_law_is_bound" s__law_is_bound f fd) (h__law_whole : T__law_whole P w K mg base C_Shelf C_BadBound) :
    FnOkH P w K mg base CX0 2 f fd ["_law_thing"] (SpM K (Θ1 w C_Shelf C_BadBound) 1 M.q__law_is_bound) := by
  refine w_fun_MH (b := M.b__law_is_bound) F sc__law_is_bound M.rf__law_is_bound fun cdv A outer s H E hr => ?_
  unfold M.b__law_is_bound
  exact (w_mss_one (w_ms_ret (w_me_and (w_me_callI h__law_whole hr (by decide) gk (w_ma_cons (vv 0) w_ma_nil) (ar_cons ar_nil)) (w_me_and (w_me_cmp u_le ad_le w_me_int (vv 0) (nomark _)) (w_me_one (w_me_cmp u_le ad_le (vv 0) w_me_int (nomark _)))))))
abbrev s_Shelf_look : Stmt := inClass (top 12) 1
noncomputable abbrev N_Shelf_look : List Str := ["self", "key", "thing"]
theorem sc_Shelf_look : FnScope N_Shelf_look ["self", "key"] (defScope s_Shelf_look) := ⟨rfl, rfl, rfl, by decide +kernel, rfl, by decide +kernel, by decide +kernel⟩
theorem ps_Shelf_look_1 (c_Shelf : TC_Shelf w K C_Shelf C_BadBound) (hr : RM 0 "Shelf.look" s_Shelf_look A s f cdv) : WS (cX P w K mg base N_Shelf_look "Shelf.look" s_Shelf_look f cdv A outer s H E) (Θ1 w C_Shelf C_BadBound) (bd s_Shelf_look 0) M.p_Shelf_look_1 := by
  unfold M.p_Shelf_look_1
  exact (w_ms_if (w_mt_cmp (op_notInT rfl hr) ad_notInT (vv 1) (w_me_fld (i := 1) c_Shelf rfl (vv 0)) (by rfl))
    (w_mss_one (w_ms_ret w_me_non))
    w_mss_nil)
theorem ps_Shelf_look_2 (c_Shelf : TC_Shelf w K C_Shelf C_BadBound) (hr : RM 0 "Shelf.look" s_Shelf_look A s f cdv) : WS (cX P w K mg base N_Shelf_look "Shelf.look" s_Shelf_look f cdv A outer s H E) (Θ1 w C_Shelf C_BadBound) (bd s_Shelf_look 1) M.p_Shelf_look_2 := by
  unfold M.p_Shelf_look_2
  exact (w_ms_set (i := 2) sc_Shelf_look.nd rfl (Or.inl (by kernel_rfl)) (w_me_m PySem.F.plainAttrs_dict PySem.F.slot_dict_pop PySem.F.type_dict_pop (mt_popT rfl hr) ad_popT rfl (w_me_fld (i := 1) c_Shelf rfl (vv 0)) (w_ma_cons (vv 1) w_ma_nil)))
theorem ps_Shelf_look_3 (c_Shelf : TC_Shelf w K C_Shelf C_BadBound) (hr : RM 0 "Shelf.look" s_Shelf_look A s f cdv) : WS (cX P w K mg base N_Shelf_look "Shelf.look" s_Shelf_look f cdv A outer s H E) (Θ1 w C_Shelf C_BadBound) (bd s_Shelf_look 2) M.p_Shelf_look_3 := by
  unfold M.p_Shelf_look_3
  exact (w_ms_subT rfl hr (w_me_fld (i := 1) c_Shelf rfl (vv 0)) (vv 1) (vv 2))
theorem ps_Shelf_look_4 (hr : RM 0 "Shelf.look" s_Shelf_look A s f cdv) : WS (cX P w K mg base N_Shelf_look "Shelf.look" s_Shelf_look f cdv A outer s H E) (Θ1 w C_Shelf C_BadBound) (bd s_Shelf_look 3) M.p_Shelf_look_4 := by
  unfold M.p_Shelf_look_4
  exact (w_ms_ret (vv 2))
theorem ok_Shelf_look (F : Fun K "look" "Shelf.look" s_Shelf_look f fd) (c_Shelf : TC_Shelf w K C_Shelf C_BadBound) :
    FnOk P w K mg base CX0 1 f fd ["self", "key"] (SpM K (Θ1 w C_Shelf C_BadBound) 2 M.q_Shelf_look) := by
  refine w_fun_M0 (N := N_Shelf_look) (b := M.b_Shelf_look) F sc_Shelf_look fun cdv A outer s H E hr => ?_
  unfold M.b_Shelf_look
  exact (w_mss_cons (ps_Shelf_look_1 c_Shelf hr) (w_mss_cons (ps_Shelf_look_2 c_Shelf hr) (w_mss_cons (ps_Shelf_look_3 c_Shelf hr) (w_mss_one (ps_Shelf_look_4 hr)))))
abbrev s_law : Stmt := top 19
noncomputable abbrev N_law : List Str := ["_law_script", "_law_thing", "_law_shelf", "_law_e", "_law_turn", "_law_found", "_law_key"]
theorem sc_law : FnScope N_law ["_law_script"] (defScope s_law) := ⟨rfl, rfl, rfl, by decide +kernel, rfl, by decide +kernel, by decide +kernel⟩
theorem ps_law_1 (h__law_bound : T__law_bound P w K mg base C_Shelf C_BadBound) (h__law_cell : T__law_cell P w K mg base C_Shelf C_BadBound) (hr : RM 4 "law" s_law A s f cdv) : WS (cX P w K mg base N_law "law" s_law f cdv A outer s H E) (Θ1 w C_Shelf C_BadBound) (bd s_law 0) M.p_law_1 := by
  unfold M.p_law_1
  exact (w_ms_set (i := 1) sc_law.nd rfl (Or.inl (by kernel_rfl)) (w_me_call h__law_bound hr (by decide) gk (w_ma_cons (w_me_call h__law_cell hr (by decide) gk (w_ma_cons (vv 0) (w_ma_cons w_me_int w_ma_nil)) (ar_cons (ar_cons ar_nil))) w_ma_nil) (ar_cons ar_nil)))
theorem ps_law_2 (hr : RM 4 "law" s_law A s f cdv) : WS (cX P w K mg base N_law "law" s_law f cdv A outer s H E) (Θ1 w C_Shelf C_BadBound) (bd s_law 1) M.p_law_2 := by
  unfold M.p_law_2
  exact (w_ms_set (i := 2) sc_law.nd rfl (Or.inl (by kernel_rfl)) w_me_non)
theorem ps_law_3 (e_BadBound : TE_BadBound P w K mg base C_BadBound) (h__law_alone : T__law_alone P w K mg base C_BadBound) (c_Shelf : TC_Shelf w K C_Shelf C_BadBound) (h_Shelf___init__ : T_Shelf___init__ P w K mg base C_Shelf C_BadBound) (h__law_is_bound : T__law_is_bound P w K mg base C_Shelf C_BadBound) (hr : RM 4 "law" s_law A s f cdv) : WS (cX P w K mg base N_law "law" s_law f cdv A outer s H E) (Θ1 w C_Shelf C_BadBound) (bd s_law 2) M.p_law_3 := by
  unfold M.p_law_3
  exact (w_ms_tryBZ (iy := 2) (je := 3) (cn := 25) e_BadBound rfl rfl (w_mx_make c_Shelf h_Shelf___init__ hr (by decide) rfl gk (fun xe E => (w_ma_cons (vv 1) w_ma_nil)) (ar_cons ar_nil)) rfl h__law_alone hr (by decide) (fun A ra => (w_me_not (w_me_callI h__law_is_bound ra (by decide) gk (w_ma_cons (vv 1) w_ma_nil) (ar_cons ar_nil)))) gk gk sc_law.nd rfl (Or.inl (by kernel_rfl)) rfl (by kernel_rfl))
theorem ps_law_4 (c_Shelf : TC_Shelf w K C_Shelf C_BadBound) (h__law_is_bound : T__law_is_bound P w K mg base C_Shelf C_BadBound) (h__law_whole : T__law_whole P w K mg base C_Shelf C_BadBound) (hr : RM 4 "law" s_law A s f cdv) : WS (cX P w K mg base N_law "law" s_law f cdv A outer s H E) (Θ1 w C_Shelf C_BadBound) (bd s_law 3) M.p_law_4 := by
  unfold M.p_law_4
  exact (w_ms_if (w_mt_ofw (w_mw_or (w_mt_not (w_mt_tru (w_me_call (HasH.has h__law_is_bound) hr (by decide) gk (w_ma_cons (vv 1) w_ma_nil) (ar_cons ar_nil)))) (w_mw_or (w_mt_not (w_mt_tru (w_me_call (HasH.has h__law_whole) hr (by decide) gk (w_ma_cons (w_me_fld (i := 0) c_Shelf rfl (vv 2)) w_ma_nil) (ar_cons ar_nil)))) (w_mw_one_or (w_mt_cmp (op_neM hr) ad_ne (w_me_fld (i := 0) c_Shelf rfl (vv 2)) (vv 1) (nomark _))))))
    (w_mss_one (w_ms_ret w_me_bl))
    w_mss_nil)
theorem ps_law_5 (c_Shelf : TC_Shelf w K C_Shelf C_BadBound) (h_Shelf_keys_kept : T_Shelf_keys_kept P w K mg base C_Shelf C_BadBound) (h_Shelf_look : T_Shelf_look P w K mg base C_Shelf C_BadBound) (b_range : mg "range" = none) (b_isinstance : mg "isinstance" = none) (b_list : mg "list" = none) (hr : RM 4 "law" s_law A s f cdv) : WS (cX P w K mg base N_law "law" s_law f cdv A outer s H E) (Θ1 w C_Shelf C_BadBound) (bd s_law 4) M.p_law_5 := by
  unfold M.p_law_5
  exact (w_ms_for PassesOwn.never rfl (w_mi_range1 gk b_range w_me_int) (w_mg_name (i := 4) sc_law.nd rfl (Or.inl (by kernel_rfl)) (.inl rfl))
    (w_mss_cons (w_ms_set (i := 5) sc_law.nd rfl (Or.inl (by kernel_rfl)) (w_me_meth0 c_Shelf h_Shelf_keys_kept hr (by decide) (by decide +kernel) (vv 2)))
    (w_mss_cons (w_ms_if (w_mt_ofw (w_mw_or (w_mt_not (w_mt_tru (w_me_callB call_isK ad_isi gk b_isinstance bt_isinstance (w_ma_cons (vv 5) (w_ma_cons (w_me_ty .list gk b_list bt_list) w_ma_nil))))) (w_mw_one_or (w_mt_cmp (op_neM hr) ad_ne (vv 5) (w_me_lst w_ma_nil) (nomark _)))))
    (w_mss_one (w_ms_ret w_me_bl))
    w_mss_nil)
    (w_mss_cons (w_ms_expr (w_me_m PySem.F.plainAttrs_list PySem.F.slot_list_append PySem.F.type_list_append mt_append ad_append rfl (vv 5) (w_ma_cons (w_me_tup (w_ma_cons zz w_ma_nil)) w_ma_nil)))
    (w_mss_one (w_ms_for PassesOwn.never rfl (w_mi_e (w_me_lst (w_ma_cons (w_me_tup (w_ma_cons zz w_ma_nil)) (w_ma_cons (w_me_tup w_ma_nil) (w_ma_cons (w_me_tup (w_ma_cons w_me_non (w_ma_cons w_me_int w_ma_nil))) w_ma_nil))))) (w_mg_name (i := 6) sc_law.nd rfl (Or.inl (by kernel_rfl)) (.inl rfl))
    (w_mss_one (w_ms_if (w_mt_notN (w_me_meth c_Shelf h_Shelf_look hr (by decide) (by decide +kernel) (vv 2) (w_ma_cons (vv 6) w_ma_nil) (ar_cons ar_nil)))
    (w_mss_one (w_ms_ret w_me_bl))
    w_mss_nil))))))))
theorem ps_law_6 (hr : RM 4 "law" s_law A s f cdv) : WS (cX P w K mg base N_law "law" s_law f cdv A outer s H E) (Θ1 w C_Shelf C_BadBound) (bd s_law 5) M.p_law_6 := by
  unfold M.p_law_6
  exact (w_ms_ret w_me_bl)
theorem ok_law (F : Fun K "law" "law" s_law f fd) (e_BadBound : TE_BadBound P w K mg base C_BadBound) (h__law_alone : T__law_alone P w K mg base C_BadBound) (c_Shelf : TC_Shelf w K C_Shelf C_BadBound) (h__law_bound : T__law_bound P w K mg base C_Shelf C_BadBound) (h__law_cell : T__law_cell P w K mg base C_Shelf C_BadBound) (h_Shelf___init__ : T_Shelf___init__ P w K mg base C_Shelf C_BadBound) (h_Shelf_keys_kept : T_Shelf_keys_kept P w K mg base C_Shelf C_BadBound) (h__law_is_bound : T__law_is_bound P w K mg base C_Shelf C_BadBound) (h__law_whole : T__law_whole P w K mg base C_Shelf C_BadBound) (h_Shelf_look : T_Shelf_look P w K mg base C_Shelf C_BadBound) (b_range : mg "range" = none) (b_isinstance : mg "isinstance" = none) (b_list : mg "list" = none) :
    FnOk P w K mg base CX0 5 f fd ["_law_script"] (SpM K (Θ1 w C_Shelf C_BadBound) 1 M.m_law) := by
  refine w_fun_M0 (N := N_law) (b := M.b_law) F sc_law fun cdv A outer s H E hr => ?_
  unfold M.b_law
  exact (w_mss_cons (ps_law_1 h__law_bound h__law_cell hr) (w_mss_cons (ps_law_2 hr) (w_mss_cons (ps_law_3 e_BadBound h__law_alone c_Shelf h_Shelf___init__ h__law_is_bound hr) (w_mss_cons (ps_law_4 c_Shelf h__law_is_bound h__law_whole hr) (w_mss_cons (ps_law_5 c_Shelf h_Shelf_keys_kept h_Shelf_look b_range b_isinstance b_list hr) (w_mss_one (ps_law_6 hr)))))))
abbrev s__law_alone : Stmt := top 18
theorem sc__law_alone : FnScope ["_law_e", "_law_others"] ["_law_e"] (defScope s__law_alone) := ⟨rfl, rfl, rfl, by decide +kernel, rfl, by decide +kernel, by decide +kernel⟩
theorem ok__law_alone {A1 A2 A3 A4 A5 : Addr} (F : Fun K "_law_alone" "_law_alone" s__law_alone f fd) (e_BadBound : TE_BadBound P w K mg base C_BadBound) (b_isinstance : mg "isinstance" = none) (b_ValueError : mg "ValueError" = none) (m1 : mg "BadText" = some (.ref A1)) (m2 : mg "BadName" = some (.ref A2)) (m3 : mg "BadRecipe" = some (.ref A3)) (m4 : mg "BadBook" = some (.ref A4)) (m5 : mg "NoThing" = some (.ref A5))
    (k5 : PySem.W.kitAny K (.ref C_BadBound) [.ref A1, .ref A2, .ref A3, .ref A4, .ref A5] = some false) (kV : PySem.W.kitOne K (.ref C_BadBound) (.type "ValueError") = some true) : FnOkH P w K mg base CX0 1 f fd ["_law_e"] (spX1 C_BadBound true) := by
  obtain ⟨Y, mC, mY, xc, pc, hy, mB, _⟩ := e_BadBound.ex
  have kB : PySem.W.kitOne K (.ref C_BadBound) (.ref C_BadBound) = some true := by unfold PySem.W.kitOne; rw [if_pos (by simp)]
  refine F.okH (k := 0) (N := ["_law_e", "_law_others"]) sc__law_alone (fun vs H Q E ⟨x, e, _⟩ => by rw [e]; rfl) fun cdv A outer s H vs Q E hr ⟨x, e, hx, q⟩ => ?_
  let X : Cx := (cxH CX0 P w K mg base ["_law_e", "_law_others"] "_law_alone" (defScope s__law_alone) f cdv A outer s H E).nox
  have gx : ∀ {z : Str}, X.env.kindOf z = some .globalImplicit → Gl X z := fun h => h
  have pv : ∀ {p : Pos}, PE X (.Name "_law_e" p) (tVar 0) := pe_var (X := X) rfl (.inl (by kernel_rfl)) (by kernel_rfl) (by kernel_rfl)
  have g : ∀ {z : Str} {a : Addr} {p : Pos}, X.env.kindOf z = some .globalImplicit → mg z = some (.ref a) → (z == ("__debug__" : Str)) = false → PE X (.Name z p) (tC (.ref a)) := fun hg hm hd => pe_glob (X := X) hg hm rfl hd
  refine ⟨_, pss_cons (ps_set (X := X) (i := 1) sc__law_alone.nd rfl (.inl (by kernel_rfl)) (pe_callB (X := X) (call_isXs xc (cs := [.ref A1, .ref A2, .ref A3, .ref A4, .ref A5]) (fun ws h => vals_refs (l := [A1, A2, A3, A4, A5]) h) k5) (gx (by kernel_rfl)) b_isinstance bt_isinstance
      (pa_cons pv (pa_cons (pe_tup (pa_cons (g (by kernel_rfl) m1 (by kernel_rfl)) (pa_cons (g (by kernel_rfl) m2 (by kernel_rfl)) (pa_cons (g (by kernel_rfl) m3 (by kernel_rfl)) (pa_cons (g (by kernel_rfl) m4 (by kernel_rfl)) (pa_cons (g (by kernel_rfl) m5 (by kernel_rfl)) pa_nil)))))) pa_nil))) rfl (.inl rfl))
    (pss_one (ps_ret (pe_and (pe_callB (X := X) (call_isX xc (c := .ref C_BadBound) (fun w h => h) kB) (gx (by kernel_rfl)) b_isinstance bt_isinstance (pa_cons pv (pa_cons (g (by kernel_rfl) mB (by kernel_rfl)) pa_nil)))
      (pe_and (pe_callB (X := X) (call_isX xc (c := .ty "ValueError") (fun w h => h) kV) (gx (by kernel_rfl)) b_isinstance bt_isinstance (pa_cons pv (pa_cons (pe_bltn (X := X) (v := .ty "ValueError") (u := .type "ValueError") (gx (by kernel_rfl)) b_ValueError (by kernel_rfl) rfl (by decide) (by kernel_rfl)) pa_nil)))
      (pe_one (pe_not (pe_var (X := X) (i := 1) rfl (.inl (by kernel_rfl)) (by kernel_rfl) (by kernel_rfl)))))))), ?_⟩
  subst e
  have xt : ∀ {p : Addr}, H p = none → XTr C_BadBound x (upd H p (.tup [.ref A1, .ref A2, .ref A3, .ref A4, .ref A5])) := fun {p} hp => by
    obtain ⟨od, h1, h2⟩ := hx
    exact ⟨od, by rw [upd_ne (ne_of_none h1 hp)]; exact h1, fun dx z => (h2 dx z).imp fun fs w => by rw [upd_ne (ne_of_none w hp)]; exact w⟩
  refine ⟨.ref x, rfl, by rw [sizeLine_eq]; simp, fun p hp => ⟨x, p, rfl, xt hp, upd_same, ?_⟩⟩
  refine ⟨.ref x, rfl, x, rfl, xt hp, true, rfl, ?_⟩
  rw [if_pos rfl]
  refine ⟨.ref x, rfl, x, rfl, xt hp, true, rfl, ?_⟩
  rw [if_pos rfl]
  exact ⟨.bl false, rfl, false, rfl, q _ fun y hy => upd_ne fun z => hy (by rw [z]; exact hp)⟩
theorem all_mk {l : PySem.W.OpenLaw} {w : World} {K : PySem.W.Frag} {h : Heap} {mg : Str → Option Value} {fa f9 : Addr} {C_Shelf C_BadBound : Addr} (X : K.In h) (G : h.Ns mainGlobals mg) (hfa : mg "law" = some (.ref fa))
    {od9 an9 : Option Addr} {sl9 : Array (Option Value)} {oc9 kV9 dc9 pm9 cd9 ct9 : Value}
    {Y_BadBound : Addr} (aC_BadBound : PySem.W.nsIn K mainGlobals "BadBound" = some (some (.ref C_BadBound))) (aY_BadBound : PySem.W.nsIn K mainGlobals "YardError" = some (some (.ref Y_BadBound))) (x_BadBound : xBase K C_BadBound Y_BadBound xn0 = true) (y_BadBound : yIn K Y_BadBound = true)
    {A1 A2 A3 A4 A5 : Addr} (aA1 : PySem.W.nsIn K mainGlobals "BadText" = some (some (.ref A1))) (aA2 : PySem.W.nsIn K mainGlobals "BadName" = some (some (.ref A2))) (aA3 : PySem.W.nsIn K mainGlobals "BadRecipe" = some (some (.ref A3))) (aA4 : PySem.W.nsIn K mainGlobals "BadBook" = some (some (.ref A4))) (aA5 : PySem.W.nsIn K mainGlobals "NoThing" = some (some (.ref A5))) (al : IsG K "_law_alone" s__law_alone) (k5 : PySem.W.kitAny K (.ref C_BadBound) [.ref A1, .ref A2, .ref A3, .ref A4, .ref A5] = some false) (kV : PySem.W.kitOne K (.ref C_BadBound) (.type "ValueError") = some true)
    (aC_Shelf : PySem.W.nsIn K mainGlobals "Shelf" = some (some (.ref C_Shelf))) (pg_Shelf : PySem.W.plainGet K C_Shelf Str.empty = true) (hd_Shelf : PySem.W.hasDictIn K C_Shelf = true) (po_Shelf : PySem.W.plainOver K C_Shelf = true) (sa_Shelf : PySem.W.findIn K (.ref C_Shelf) "__setattr__" = some (some (.builtin "object.__setattr__"))) (mk_Shelf : PySem.W.makesIn K C_Shelf = true) (kc_Shelf : PySem.W.keepIn K (.ref C_Shelf) = true)
    (na_Shelf_0 : PySem.W.findIn K (.ref C_Shelf) "bound" = some none)
    (na_Shelf_1 : PySem.W.findIn K (.ref C_Shelf) "kept" = some none)
    (a1 : IsG K "_law_bound" s__law_bound)
    (a2 : IsG K "_law_cell" s__law_cell)
    (a3 : IsG K "is_bound" s_is_bound)
    (a4 : IsM K C_Shelf "__init__" "Shelf.__init__" s_Shelf___init__)
    (a5 : IsM K C_Shelf "keys_kept" "Shelf.keys_kept" s_Shelf_keys_kept)
    (a6 : IsG K "_law_whole" s__law_whole)
    (a7 : IsG K "_law_is_bound" s__law_is_bound)
    (a8 : IsM K C_Shelf "look" "Shelf.look" s_Shelf_look)
    (a9 : PySem.W.nsIn K mainGlobals "law" = some (some (.ref f9))) (l9 : K.lookup f9 = some ⟨oc9, od9, .func (PySem.W.fnOf "law" "law" (defArgs s_law) (defBody s_law) (defScope s_law) .none kV9 dc9 pm9 an9 cd9 ct9), sl9⟩) (c9 : PySem.W.codeIn K cd9 "law" = true) (k9 : PySem.W.keepIn K (.ref f9) = true)
    (z_len : PySem.W.nsIn K mainGlobals "len" = some none)
    (z_isinstance : PySem.W.nsIn K mainGlobals "isinstance" = some none)
    (z_bool : PySem.W.nsIn K mainGlobals "bool" = some none)
    (z_int : PySem.W.nsIn K mainGlobals "int" = some none)
    (z_list : PySem.W.nsIn K mainGlobals "list" = some none)
    (z_range : PySem.W.nsIn K mainGlobals "range" = some none)
    (z_ValueError : PySem.W.nsIn K mainGlobals "ValueError" = some none)
    {u_MOST_KEYS : Value} (v_MOST_KEYS : PySem.W.nsIn K mainGlobals "MOST_KEYS" = some (some u_MOST_KEYS)) (r_MOST_KEYS : relB (.int 1000) u_MOST_KEYS = true)
    : ∃ fd : FuncData, (∀ (s : Shared) (v : Value), BindsTo s fd ⟨[v], []⟩ [("_law_script", v)]) ∧ fd.scope.names.lookup ("_law_script" : Str) = some .local ∧ ∀ base : Heap, K.In base → base.Ns mainGlobals mg → FnOk l.prog w K mg base CX0 5 fa fd ["_law_script"] (lawSp K) := by
  have e := hfa.symm.trans (PySem.W.mg_of X G a9)
  cases e
  have F9 := fun_mk (x := "law") (qual := "law") (st := s_law) l9 c9 k9
  have b_len := PySem.W.mg_none_of X G z_len
  have b_isinstance := PySem.W.mg_none_of X G z_isinstance
  have b_bool := PySem.W.mg_none_of X G z_bool
  have b_int := PySem.W.mg_none_of X G z_int
  have b_list := PySem.W.mg_none_of X G z_list
  have b_range := PySem.W.mg_none_of X G z_range
  have b_ValueError := PySem.W.mg_none_of X G z_ValueError
  have g_MOST_KEYS : HasV mg "MOST_KEYS" (.int 1000) := ⟨_, PySem.W.mg_of X G v_MOST_KEYS, relB_is r_MOST_KEYS⟩
  have c_Shelf : TC_Shelf w K C_Shelf C_BadBound := ⟨rfl, ⟨pg_Shelf, hd_Shelf, po_Shelf, sa_Shelf⟩, mem_all na_Shelf_0 (mem_all na_Shelf_1 (fun f hf => nomatch hf)), by decide +kernel, by decide +kernel⟩
  refine ⟨(PySem.W.fnOf "law" "law" (defArgs s_law) (defBody s_law) (defScope s_law) .none kV9 dc9 pm9 an9 cd9 ct9), fun s v => .of_eq rfl, by kernel_rfl, fun base _ _ => ?_⟩
  have e_BadBound : TE_BadBound l.prog w K mg base C_BadBound := hasE0 X G aC_BadBound aY_BadBound x_BadBound y_BadBound
  have h__law_alone : T__law_alone l.prog w K mg base C_BadBound := hasGH al X G fun _ _ F => ok__law_alone F e_BadBound b_isinstance b_ValueError (PySem.W.mg_of X G aA1) (PySem.W.mg_of X G aA2) (PySem.W.mg_of X G aA3) (PySem.W.mg_of X G aA4) (PySem.W.mg_of X G aA5) k5 kV
  have h__law_bound : T__law_bound l.prog w K mg base C_Shelf C_BadBound := hasG a1 X G fun _ _ F _ _ _ => ok__law_bound F
  have h__law_cell : T__law_cell l.prog w K mg base C_Shelf C_BadBound := hasG a2 X G fun _ _ F _ _ _ => ok__law_cell F b_len
  have h_is_bound : T_is_bound l.prog w K mg base C_Shelf C_BadBound := hasG a3 X G fun _ _ F _ _ _ => ok_is_bound F b_isinstance b_bool b_int g_MOST_KEYS
  have h_Shelf___init__ : T_Shelf___init__ l.prog w K mg base C_Shelf C_BadBound := hasCX a4 X G aC_Shelf mk_Shelf kc_Shelf fun _ _ F => ok_Shelf___init__ F e_BadBound c_Shelf h_is_bound
  have h_Shelf_keys_kept : T_Shelf_keys_kept l.prog w K mg base C_Shelf C_BadBound := hasM a5 fun _ _ F => ok_Shelf_keys_kept F c_Shelf b_list
  have h__law_whole : T__law_whole l.prog w K mg base C_Shelf C_BadBound := hasGH a6 X G fun _ _ F => ok__law_whole F b_isinstance b_int b_bool
  have h__law_is_bound : T__law_is_bound l.prog w K mg base C_Shelf C_BadBound := hasGH a7 X G fun _ _ F => ok__law_is_bound F h__law_whole
  have h_Shelf_look : T_Shelf_look l.prog w K mg base C_Shelf C_BadBound := hasM a8 fun _ _ F => ok_Shelf_look F c_Shelf
  exact (ok_law F9 e_BadBound h__law_alone c_Shelf h__law_bound h__law_cell h_Shelf___init__ h_Shelf_keys_kept h__law_is_bound h__law_whole h_Shelf_look b_range b_isinstance b_list).imp fun _ _ _ _ h => h _
theorem walk {l : PySem.W.OpenLaw} {q : Program} {loose : List Str} {XP : (Str → Option Value) → Heap → Prop} {YP : World → Heap → Prop} {d : DefRec} {K : Params → PySem.W.Frag} (hn : l.most = some 63) (hdf : d.params.defaults = [])
    (hY : ∀ (w : World) (h : Heap), YP w h → (K w.params).In h)
    (F : ∀ (w : World) (mg : Str → Option Value) (fa : Addr) (h : Heap), (K w.params).In h → h.Ns mainGlobals mg → mg d.name = some (.ref fa) →
      ∃ fd : FuncData, (∀ (s : Shared) (u : Value), BindsTo s fd ⟨[u], []⟩ [("_law_script", u)]) ∧ fd.scope.names.lookup ("_law_script" : Str) = some .local ∧ ∀ base : Heap, (K w.params).In base → base.Ns mainGlobals mg → FnOk l.prog w (K w.params) mg base CX0 5 fa fd ["_law_script"] (lawSp (K w.params))) :
    PySem.W.WalkO q loose XP YP l.row.toRowW d [] (fun f vs => PySem.call f vs) :=
  L2.walk_of (n := 63) (k := 5) (x := "_law_script") (CX := fun _ => CX0) (sp := fun w => lawSp (K w.params)) hn (by decide) hdf ⟨rfl, by decide, by decide⟩ hY F (fun _ _ _ _ hl hO hS => lawSp_in hl hO hS) fun _ _ _ _ _ z => z
end My
open PySem PySem.W PyProof.Rows
set_option maxRecDepth 100000 in
set_option maxHeartbeats 0 in
theorem PySem.Challenge.cw_thingyard_k50_bounds_holds : PySem.Challenge.rw_thingyard_k50_bounds.Holds := by
  w_on; o_law; k_head; (case hw => w_witness2)
  k_fill
  refine My.walk (l := PySem.Challenge.rw_thingyard_k50_bounds) rfl rfl (fun w h Y => PySem.W.kIn_of Y) ?F
  case F =>
    intro w mg fa h KX G hmg
    refine' My.all_mk KX G hmg ?_ ?_ ?x_BadBound ?y_BadBound ?_ ?_ ?_ ?_ ?_ ?_ ?k5 ?kV ?_ ?_ ?_ ?_ ?_ ?_ ?_ ?_ ?_ ?_ ?_ ?_ ?_ ?_ ?_ ?_ ?_ ?_ ?_ ?_ ?_ ?_ ?_ ?_ ?_ ?_ ?_ ?_ ?_ ?r_MOST_KEYS
    all_goals first | k_is | (refine' L2.isG ?a ?l ?c ?k; (case a => k_is); (case l => k_is); (case c => k_is); (case k => k_is)) | (refine' L2.isM ?a ?i ?l ?c ?k; (case a => k_is); (case i => k_is); (case l => k_is); (case c => k_is); (case k => k_is)) | skip
    (case x_BadBound => first | rfl | kernel_rfl)
    (case y_BadBound => first | rfl | kernel_rfl)
    (case k5 => first | rfl | kernel_rfl)
    (case kV => first | rfl | kernel_rfl)
    (case r_MOST_KEYS => rfl)