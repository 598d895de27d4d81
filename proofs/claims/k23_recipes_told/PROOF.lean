import PyProof.Rows.All
import Wide.All
import OpenK.AllK
import Wide.FinOn
import Lean
import PyProof.EqAt
import PyProof.EqKinds
import PyProof.TupleCall
import PySem.Challenge.RW_thingyard_k23_recipes_told
set_option Elab.async false
set_option linter.all false
set_option maxRecDepth 100000
namespace L2
open PySem PySem.Spec PyProof.Rows
abbrev Key := Sum Int Str
def keyIs : Key → Value → Bool
  | .inl k, v => Value.isInt k v
  | .inr x, v => Value.isStrOf x v
def keyH (w : World) : Key → Int
  | .inl k => hashInt k
  | .inr x => hashStr w x
theorem keyIs_shape : ∀ {k : Key} {v : Value}, keyIs k v = true → (∃ i t, k = Sum.inl i ∧ v = Value.int i t) ∨ (∃ x t, k = Sum.inr x ∧ v = Value.str x t)
  | .inl i, v, h => by
    obtain ⟨t, e⟩ := Value.isInt_shape (k := i) (v := v) h
    exact .inl ⟨i, t, rfl, e⟩
  | .inr x, v, h => by
    obtain ⟨t, e⟩ := Value.isStrOf_shape (x := x) (v := v) h
    exact .inr ⟨x, t, rfl, e⟩
theorem keyIs_int (i : Int) (t : Tok) : keyIs (.inl i) (.int i t) = true := by simp [keyIs, Value.isInt]
theorem keyIs_str (x : Str) (t : Tok) : keyIs (.inr x) (.str x t) = true := by simp [keyIs, Value.isStrOf]
theorem key_ll (a b : Int) : decide ((Sum.inl a : Key) = Sum.inl b) = (a == b) := by
  by_cases e : a = b
  · subst e; simp
  · have h : ¬ (Sum.inl a : Key) = Sum.inl b := fun q => e (Sum.inl.inj q)
    rw [decide_eq_false h]
    exact (beq_eq_false_iff_ne.mpr e).symm
theorem key_rr (a b : Str) : decide ((Sum.inr a : Key) = Sum.inr b) = decide (a = b) := by
  by_cases e : a = b
  · subst e; simp
  · have h : ¬ (Sum.inr a : Key) = Sum.inr b := fun q => e (Sum.inr.inj q)
    rw [decide_eq_false h, decide_eq_false e]
theorem key_lr (a : Int) (b : Str) : decide ((Sum.inl a : Key) = Sum.inr b) = false := decide_eq_false (fun q => nomatch q)
theorem key_rl (a : Str) (b : Int) : decide ((Sum.inr a : Key) = Sum.inl b) = false := decide_eq_false (fun q => nomatch q)
def mixKind (prog : Program) (w : World) : PySem.KeyKind prog w Key where
  is := keyIs
  hash := keyH w
  inj := fun v a b ha hb => by
    rcases keyIs_shape ha with ⟨i, t, rfl, rfl⟩ | ⟨x, t, rfl, rfl⟩
    · rcases keyIs_shape hb with ⟨j, u, rfl, e⟩ | ⟨y, u, rfl, e⟩
      · injection e with e1 _; rw [e1]
      · exact nomatch e
    · rcases keyIs_shape hb with ⟨j, u, rfl, e⟩ | ⟨y, u, rfl, e⟩
      · exact nomatch e
      · injection e with e1 _; rw [e1]
  byValue := fun k v h => by
    rcases keyIs_shape h with ⟨i, t, rfl, rfl⟩ | ⟨x, t, rfl, rfl⟩ <;> rfl
  pyHash := fun hv h => by
    rcases keyIs_shape hv with ⟨i, t, rfl, rfl⟩ | ⟨x, t, rfl, rfl⟩
    · exact wpAny_pyHash_int h
    · exact wpAny_pyHash_str h
  eqBool := fun hu hv h => by
    rcases keyIs_shape hu with ⟨i, t, rfl, rfl⟩ | ⟨x, t, rfl, rfl⟩
    · rcases keyIs_shape hv with ⟨j, u, rfl, rfl⟩ | ⟨y, u, rfl, rfl⟩
      · rw [key_ll] at h; exact wpAny_eqBool_int h
      · rw [key_lr] at h; exact SeqAt.EqAt.int_str i t y u _ _ _ _ h
    · rcases keyIs_shape hv with ⟨j, u, rfl, rfl⟩ | ⟨y, u, rfl, rfl⟩
      · rw [key_rl] at h; exact SeqAt.EqAt.str_int x t j u _ _ _ _ h
      · rw [key_rr] at h; exact wpAny_eqBool_str h
  «strs» := fun k x t v h => by
    rcases keyIs_shape h with ⟨i, u, rfl, e⟩ | ⟨y, u, rfl, e⟩
    · exact nomatch e
    · injection e with e1 _
      subst e1
      cases v <;> rfl
theorem mixKind_int (prog : Program) (w : World) (i : Int) (t : Tok) : (mixKind prog w).is (.inl i) (.int i t) = true := keyIs_int i t
theorem mixKind_str (prog : Program) (w : World) (x : Str) (t : Tok) : (mixKind prog w).is (.inr x) (.str x t) = true := keyIs_str x t
end L2
namespace L2
open PySem PySem.Spec PyProof.Rows
inductive V where
  | non | bl (b : Bool) | int (i : Int) | str (x : Str) | byt (b : Array UInt8) | flt (b : UInt64) | ref (a : Addr) | ty (n : String)
  deriving DecidableEq
def RelV : V → Value → Prop
  | .non, u => u = Value.none
  | .bl b, u => u = Value.bool b
  | .int i, u => ∃ t, u = Value.int i t
  | .str x, u => ∃ t, u = Value.str x t
  | .byt b, u => ∃ t, u = Value.bytes b t
  | .flt b, u => ∃ t, u = Value.float b t
  | .ref a, u => u = Value.ref a
  | .ty n, u => u = Value.type n
abbrev Vals : List V → List Value → Prop := Paired RelV
theorem Vals.length {xs : List V} {us : List Value} (r : Vals xs us) : xs.length = us.length := Paired.length r
theorem Vals.get : ∀ {xs : List V} {us : List Value} {i : Nat} {x : V}, Vals xs us → xs[i]? = some x → ∃ u, us[i]? = some u ∧ RelV x u
  | _, _, _, _, .nil, e => by simp at e
  | _, _, 0, _, .cons r _, e => by simp at e; subst e; exact ⟨_, rfl, r⟩
  | _, _, i + 1, x, .cons _ t, e => by
    obtain ⟨u, h1, h2⟩ := Vals.get (i := i) (x := x) t (by simpa using e)
    exact ⟨u, by simpa using h1, h2⟩
theorem Vals.append : ∀ {xs ys : List V} {us ws : List Value}, Vals xs us → Vals ys ws → Vals (xs ++ ys) (us ++ ws)
  | _, _, _, _, .nil, s => s
  | _, _, _, _, .cons r t, s => .cons r (Vals.append t s)
theorem Vals.take : ∀ {xs : List V} {us : List Value} (n : Nat), Vals xs us → Vals (xs.take n) (us.take n)
  | _, _, 0, _ => .nil
  | _, _, _ + 1, .nil => .nil
  | _, _, n + 1, .cons r t => .cons r (Vals.take n t)
theorem Vals.drop : ∀ {xs : List V} {us : List Value} (n : Nat), Vals xs us → Vals (xs.drop n) (us.drop n)
  | _, _, 0, r => r
  | _, _, _ + 1, .nil => .nil
  | _, _, n + 1, .cons _ t => Vals.drop n t
def RelO : Option V → Option Value → Prop
  | some v, some u => RelV v u
  | none, none => True
  | _, _ => False
def KV {κ : Type} : List (κ × V) → List (κ × Value) → Prop := Paired fun (p : κ × V) (q : κ × Value) => p.1 = q.1 ∧ RelV p.2 q.2
def kV : Key → V
  | .inl i => .int i
  | .inr x => .str x
inductive HO where
  | lst (xs : List V)
  | tup (xs : List V)
  | dK (kvs : List (Key × V)) | dT (kvs : List (List Key × V))
  | set (S : Int → Bool) (n : Nat)
  | ins (C dx : Addr) (fs : List (Str × V))
  | own (x : Addr)
  | xd (fs : List (Str × V))
  | met (f x : Addr)
  | rng (lo hi : Int)
  | frz (o : Obj) (u : HO)
  | tbl (ps : Array Value)
  | ext (φ : Heap → Prop)
abbrev Hp := Addr → Option HO
def upd (H : Hp) (a : Addr) (o : HO) : Hp := fun b => if b = a then some o else H b
theorem upd_same {H : Hp} {a : Addr} {o : HO} : upd H a o a = some o := by unfold upd; rw [if_pos rfl]
theorem upd_ne {H : Hp} {a b : Addr} {o : HO} (h : b ≠ a) : upd H a o b = H b := by unfold upd; rw [if_neg h]
theorem ne_of_none {H : Hp} {a b : Addr} {o : HO} (h : H a = some o) (h' : H b = none) : a ≠ b := by
  intro e; subst e; rw [h] at h'; cases h'
section
variable (P : Program) (w : World)
def ObjOk (H : Hp) (h : Heap) (a : Addr) : HO → Prop
  | .lst xs => xs.length ≤ sizeLine ∧ ∃ (its : List Value) (n : Nat), Vals xs its ∧ h.get? a = some { cls := .type "list", data := .seq its.toArray n }
  | .tup xs => xs.length ≤ sizeLine ∧ ∃ its : List Value, Vals xs its ∧ IsTup h a its.toArray
  | .dK kvs => kvs.length ≤ sizeLine ∧ (a == sysModules) = false ∧ ∃ vs, KV kvs vs ∧ h.DictOf (mixKind P w) a vs
  | .dT kvs => kvs.length ≤ sizeLine ∧ (a == sysModules) = false ∧ ∃ xs : List (List Key × Addr × Value),
      Paired (fun (p : List Key × V) (q : List Key × Addr × Value) => p.1 = q.1 ∧ H q.2.1 = some (.tup (p.1.map kV)) ∧ RelV p.2 q.2.2) kvs xs ∧
      ∃ o es ep, h.get? a = some o ∧ o.ExactDict ∧ o.data = .dict es ep ∧ es.toList = xs.map (entryOfKey (tupleKind (mixKind P w))) ∧ (xs.map (·.1)).Nodup
  | .set S n => h.SetOf (intKind P w) a S n
  | .ins C dx fs => H dx = some (.own a) ∧ fs.length ≤ 1000 ∧ dx ≠ a ∧ h.get? a = some (PySem.W.instObj C dx) ∧
      ∃ mA, h.Ns1 dx mA ∧ (∀ f, RelO (fs.lookup f) (mA f)) ∧ PySem.Within mA (fs.map (·.1))
  | .own _ => ∃ o, h.get? a = some o
  | .xd fs => ∃ mA, h.Ns1 a mA ∧ ∀ f, RelO (fs.lookup f) (mA f)
  | .rng lo hi => ∃ t u v, h.get? a = some { cls := .type "range", data := .fields #[.int lo t, .int hi u, .int 1 v] }
  | .frz o u => h.get? a = some o ∧ ObjOk H h a u
  | .tbl ps => h.get? a = some { cls := .none, data := .fields ps }
  | .met f x => h.get? a = some (PySem.W.methodObj (.ref f) (.ref x))
  | .ext φ => φ h ∧ (∃ o, h.get? a = some o) ∧ ∀ h1 h2 : Heap, φ h1 → (∀ o, h1.get? a = some o → h2.get? a = some o) → φ h2
def HOk (H : Hp) (h : Heap) : Prop := ∀ a o, H a = some o → ObjOk P w H h a o
end
section
variable {P : Program} {w : World} {H H' : Hp} {h h' : Heap} {a : Addr} {o : HO}
theorem ObjOk.lt (x : ObjOk P w H h a o) : a < h.objs.size := by
  cases o with
  | lst xs => obtain ⟨_, _, _, _, e⟩ := x; exact Heap.lt_size e
  | tup xs => obtain ⟨_, _, _, p⟩ := x; exact p.lt
  | dK kvs => obtain ⟨_, _, _, _, o, _, _, e, _⟩ := x; exact Heap.lt_size e
  | dT kvs => obtain ⟨_, _, _, _, o, _, _, e, _⟩ := x; exact Heap.lt_size e
  | set S n => obtain ⟨o, _, _, _, e, _⟩ := x; exact Heap.lt_size e
  | ins C dx fs => obtain ⟨_, _, _, e, _⟩ := x; exact Heap.lt_size e
  | own y => obtain ⟨_, e⟩ := x; exact Heap.lt_size e
  | xd fs => obtain ⟨_, ⟨_, _, _, e, _⟩, _⟩ := x; exact Heap.lt_size e
  | rng lo hi => obtain ⟨_, _, _, e⟩ := x; exact Heap.lt_size e
  | frz ob u => obtain ⟨e, _⟩ := x; exact Heap.lt_size e
  | tbl ps => exact Heap.lt_size (show h.get? a = some _ from x)
  | met f y => exact Heap.lt_size (show h.get? a = some _ from x)
  | ext φ => obtain ⟨_, ⟨_, e⟩, _⟩ := x; exact Heap.lt_size e
theorem Paired.mapP {α β : Type} {F G : α → β → Prop} : ∀ {l₁ : List α} {l₂ : List β}, Paired F l₁ l₂ → (∀ a b, F a b → G a b) → Paired G l₁ l₂
  | _, _, .nil, _ => .nil
  | _, _, .cons r t, f => .cons (f _ _ r) (Paired.mapP t f)
theorem ObjOk.stay (x : ObjOk P w H h a o) (k : ∀ b u, (b = a ∨ H b = some (.own a)) → h.get? b = some u → h'.get? b = some u)
    (ho : ∀ b, H b = some (.own a) → H' b = some (.own a)) (ht : ∀ b xs, H b = some (.tup xs) → H' b = some (.tup xs)) : ObjOk P w H' h' a o := by
  induction o with
  | lst xs => obtain ⟨z, its, n, r, e⟩ := x; exact ⟨z, its, n, r, k _ _ (.inl rfl) e⟩
  | tup xs => obtain ⟨z, its, r, ob, e, c⟩ := x; exact ⟨z, its, r, ob, k _ _ (.inl rfl) e, c⟩
  | dK kvs => obtain ⟨z, y, vs, r, ob, es, ep, e, c⟩ := x; exact ⟨z, y, vs, r, ob, es, ep, k _ _ (.inl rfl) e, c⟩
  | dT kvs =>
    obtain ⟨z, y, xs, r, ob, es, ep, e, c⟩ := x
    exact ⟨z, y, xs, Paired.mapP r fun p q z => ⟨z.1, ht _ _ z.2.1, z.2.2⟩, ob, es, ep, k _ _ (.inl rfl) e, c⟩
  | set S n => obtain ⟨ob, es, ep, t, e, c⟩ := x; exact ⟨ob, es, ep, t, k _ _ (.inl rfl) e, c⟩
  | ins C dx fs =>
    obtain ⟨d, z, ne, e, mA, ⟨od, es, ep, e2, c⟩, r⟩ := x
    exact ⟨ho _ d, z, ne, k _ _ (.inl rfl) e, mA, ⟨od, es, ep, k _ _ (.inr d) e2, c⟩, r⟩
  | own y => obtain ⟨ob, e⟩ := x; exact ⟨ob, k _ _ (.inl rfl) e⟩
  | xd fs => obtain ⟨mA, ⟨od, es, ep, e, c⟩, r⟩ := x; exact ⟨mA, ⟨od, es, ep, k _ _ (.inl rfl) e, c⟩, r⟩
  | rng lo hi => obtain ⟨t, u, v, e⟩ := x; exact ⟨t, u, v, k _ _ (.inl rfl) e⟩
  | frz ob u ih => obtain ⟨e, q⟩ := x; exact ⟨k _ _ (.inl rfl) e, ih q⟩
  | tbl ps =>
    have e : h.get? a = some { cls := .none, data := .fields ps } := x
    show h'.get? a = some { cls := .none, data := .fields ps }
    exact k a _ (.inl rfl) e
  | met f y =>
    have e : h.get? a = some (PySem.W.methodObj (.ref f) (.ref y)) := x
    show h'.get? a = some (PySem.W.methodObj (.ref f) (.ref y))
    exact k a _ (.inl rfl) e
  | ext φ => obtain ⟨p, ⟨o, e⟩, st⟩ := x; exact ⟨st _ _ p fun o q => k _ _ (.inl rfl) q, ⟨o, k _ _ (.inl rfl) e⟩, st⟩
theorem HOk.lt (x : HOk P w H h) (e : H a = some o) : a < h.objs.size := (x a o e).lt
theorem HOk.fresh (x : HOk P w H h) (e : h.objs.size ≤ a) : H a = none := by
  cases q : H a with
  | none => rfl
  | some u => exact absurd (Nat.lt_of_lt_of_le (x.lt q) e) (Nat.lt_irrefl _)
theorem HOk.kept (x : HOk P w H h) (k : ∀ b u, h.get? b = some u → h'.get? b = some u) : HOk P w H h' := fun a o e =>
  (x a o e).stay (fun b u _ q => k b u q) (fun _ q => q) fun _ _ q => q
theorem HOk.laid (x : HOk P w H h) (k : ∀ b u, h.get? b = some u → h'.get? b = some u) (hp : h.objs.size ≤ a) (new : ObjOk P w (upd H a o) h' a o) : HOk P w (upd H a o) h' := fun b u e => by
  have hn := x.fresh hp
  by_cases hb : b = a
  · subst hb; rw [upd_same] at e; cases e; exact new
  · rw [upd_ne hb] at e
    exact (x b u e).stay (fun c v _ q => k c v q) (fun c q => by rw [upd_ne (ne_of_none q hn)]; exact q) fun c xs q => by rw [upd_ne (ne_of_none q hn)]; exact q
end
def Rd (H : Hp) (a : Addr) (u : HO) : Prop := H a = some u ∨ ∃ o, H a = some (.frz o u)
theorem Rd.ok {P : Program} {w : World} {H : Hp} {h : Heap} {a : Addr} {u : HO} (r : Rd H a u) (x : HOk P w H h) : ObjOk P w H h a u := by
  rcases r with r | ⟨o, r⟩
  · exact x a u r
  · obtain ⟨_, q⟩ := x a _ r
    exact q
def Mut : Option HO → Prop
  | some (.lst _) => True
  | some (.dK _) => True
  | some (.dT _) => True
  | some (.set _ _) => True
  | some (.ins _ _ _) => True
  | some (.ext _) => True
  | _ => False
section
variable {P : Program} {w : World} {H : Hp} {h h' : Heap} {x e : Addr} {o' : HO}
theorem HOk.write (ok : HOk P w H h) (mu : Mut (H x)) (he : e = x ∨ H e = some (.own x)) (k : ∀ b u, b ≠ e → h.get? b = some u → h'.get? b = some u) (heo : ∃ u, h'.get? e = some u)
    (new : ObjOk P w (upd H x o') h' x o') : HOk P w (upd H x o') h' := fun b u q => by
  have nown : ∀ c y, H c = some (.own y) → c ≠ x := fun c y r z => by subst z; rw [r] at mu; exact mu
  have ntup : ∀ c xs, H c = some (.tup xs) → c ≠ x := fun c xs r z => by subst z; rw [r] at mu; exact mu
  by_cases hb : b = x
  · subst hb; rw [upd_same] at q; cases q; exact new
  · rw [upd_ne hb] at q
    by_cases hbe : b = e
    · have q' : H b = some (.own x) := by
        rcases he with z | z
        · exact absurd (hbe.trans z) hb
        · rw [hbe]; exact z
      rw [q] at q'; cases q'
      obtain ⟨v, hv⟩ := heo
      exact ⟨v, by rw [hbe]; exact hv⟩
    · refine (ok b u q).stay (fun c v hc r => k c v ?_ r) (fun c r => by rw [upd_ne (nown c b r)]; exact r) fun c xs r => by rw [upd_ne (ntup c xs r)]; exact r
      rcases hc with rfl | hc
      · exact hbe
      · rintro rfl
        rcases he with z | z
        · exact nown c b hc z
        · rw [hc] at z; cases z; exact hb rfl
end
structure Un (fs ex : List Addr) (H H' : Hp) (h h' : Heap) : Prop where
  keep : ∀ b o, h.get? b = some o → H b = none → b ∉ fs → b ∉ ex → h'.get? b = some o
  slot : ∀ b o, h.get? b = some o → H b = none → b ∈ fs → b ∉ ex → ∃ sl, h'.get? b = some { o with slots := sl }
  free : ∀ b o, h.get? b = some o → H b = none → b ∉ ex → H' b = none
  there : ∀ b o, h.get? b = some o → b ∉ ex → ∃ o', h'.get? b = some o'
  tups : ∀ b xs, H b = some (.tup xs) → H' b = some (.tup xs)
  frzs : ∀ b o u, H b = some (.frz o u) → H' b = some (.frz o u)
  tbls : ∀ b ps, H b = some (.tbl ps) → ∃ more, H' b = some (.tbl (ps ++ more))
section
variable {fs fs' ex ex' : List Addr} {H H1 H2 : Hp} {h h1 h2 h' : Heap} {a x e : Addr} {o : HO}
theorem Un.any (u : Un fs ex H H1 h h1) {b : Addr} {ob : Obj} (q : h.get? b = some ob) (n : H b = none) (hx : b ∉ ex) : ∃ sl, h1.get? b = some { ob with slots := sl } := by
  by_cases hb : b ∈ fs
  · exact u.slot b ob q n hb hx
  · exact ⟨ob.slots, u.keep b ob q n hb hx⟩
theorem Un.kept (k : ∀ b u, h.get? b = some u → h'.get? b = some u) : Un fs ex H H h h' :=
  ⟨fun b ob q _ _ _ => k b ob q, fun b ob q _ _ _ => ⟨ob.slots, k b ob q⟩, fun _ _ _ n _ => n, fun b ob q _ => ⟨ob, k b ob q⟩, fun _ _ q => q, fun _ _ _ q => q, fun _ ps q => ⟨#[], by rw [q]; simp⟩⟩
theorem Un.refl : Un fs ex H H h h := Un.kept fun _ _ q => q
theorem Un.laid (k : ∀ b u, h.get? b = some u → h'.get? b = some u) (hp : h.objs.size ≤ a) (hn : H a = none) : Un fs ex H (upd H a o) h h' where
  keep := fun b u q _ _ _ => k b u q
  slot := fun b u q _ _ _ => ⟨u.slots, k b u q⟩
  free := fun b u q n _ => by rw [upd_ne (Nat.ne_of_lt (Nat.lt_of_lt_of_le (Heap.lt_size q) hp))]; exact n
  there := fun b u q _ => ⟨u, k b u q⟩
  tups := fun b xs q => by rw [upd_ne (ne_of_none q hn)]; exact q
  frzs := fun b u xs q => by rw [upd_ne (ne_of_none q hn)]; exact q
  tbls := fun b ps q => ⟨#[], by rw [upd_ne (ne_of_none q hn), q]; simp⟩
theorem Un.write (mu : Mut (H x)) (he : e = x ∨ H e = some (.own x)) (k : ∀ b u, b ≠ e → h.get? b = some u → h'.get? b = some u) (heo : ∃ u, h'.get? e = some u) : Un fs ex H (upd H x o) h h' := by
  have hx : ∀ b, H b = none → b ≠ x := fun b n z => by subst z; rw [n] at mu; exact mu
  have hb : ∀ b, H b = none → b ≠ e := fun b n z => by
    subst z
    rcases he with r | r
    · exact hx b n r
    · rw [n] at r; cases r
  have hm : ∀ b u, H b = some u → ¬ Mut (some u) → b ≠ x := fun b u q nm z => by subst z; rw [q] at mu; exact nm mu
  refine ⟨fun b u q n _ _ => k b u (hb b n) q, fun b u q n _ _ => ⟨u.slots, k b u (hb b n) q⟩, fun b u q n _ => by rw [upd_ne (hx b n)]; exact n, fun b u q _ => ?_,
    fun b xs q => by rw [upd_ne (hm b _ q fun z => z)]; exact q, fun b u xs q => by rw [upd_ne (hm b _ q fun z => z)]; exact q, fun b ps q => ⟨#[], by rw [upd_ne (hm b _ q fun z => z), q]; simp⟩⟩
  by_cases hbe : b = e
  · subst hbe; exact heo
  · exact ⟨u, k b u hbe q⟩
end
def trk (h : Heap) (H : Hp) : List Addr := (List.range h.objs.size).filter fun a => (H a).isSome
def hidT (h : Heap) (H : Hp) : Heap := PySem.W.hideAll h (trk h H)
theorem hidT_size (h : Heap) (H : Hp) : (hidT h H).objs.size = h.objs.size := PySem.W.hideAll_size _ _
theorem hidT_get {h : Heap} {H : Hp} {b : Addr} {o : Obj} (e : h.get? b = some o) (n : H b = none) : (hidT h H).get? b = some o :=
  PySem.W.hideAll_get _ e fun hm => by
    have q : (H b).isSome = true := (List.mem_filter.mp hm).2
    rw [n] at q; simp at q
theorem of_hidT {h : Heap} {H : Hp} {b : Addr} {o : Obj} (e : (hidT h H).get? b = some o) : h.get? b = some o ∧ H b = none := by
  have e' : h.get? b = some o := PySem.W.of_hideAll (trk h H) e
  refine ⟨e', ?_⟩
  cases q : H b with
  | none => rfl
  | some x =>
    have hm : b ∈ trk h H := List.mem_filter.mpr ⟨List.mem_range.mpr (Heap.lt_size e'), by simp [q]⟩
    have z : (hidT h H).get? b = none := PySem.W.hideAll_none (trk h H) hm
    rw [z] at e; cases e
def allNews (g h : Heap) (L : Addr) : List (Addr × Obj) := (List.range h.objs.size).filterMap fun a => if a = L ∨ (g.get? a).isSome = true then none else (h.get? a).map fun o => (a, o)
def rest (g h : Heap) (L d : Addr) : List (Addr × Obj) := (allNews g h L).filter fun p => decide (p.1 ≠ d)
end L2
namespace L2
open PySem PySem.Spec PyProof.Rows
structure Mod (K : PySem.W.Frag) (mg : Str → Option Value) (base : Heap) : Prop where
  kin : K.In base
  glob : base.Ns mainGlobals mg
  blt : ∃ mb, base.Ns builtinsNs mb ∧ ∀ x : Str, x ≠ "__name__" → mb x = bootBuiltins x
  nolimit : base.NoLimit
structure Cx where
  prog : Program
  w : World
  K : PySem.W.Frag
  mg : Str → Option Value
  base : Heap
  A : Around
  N : List Str
  s₀ : Shared
  H₀ : Hp
  env : Env
  outer : List Env
  stack : List Env
  ex : List Addr
  fn : Str → Bool
  calm : Bool
  pn : List (Addr × Obj)
  xe : Value → Shared → Prop
def frs (l : List Env) : List Addr := l.filterMap (·.frame)
abbrev Cx.fs (X : Cx) : List Addr := frs X.outer
def Vis (sc : Scope) (x : Str) : Prop := sc.names.lookup x = some .local ∨ sc.names.lookup x = some .cell ∨ sc.names.lookup x = some .free
def Loc (sc : Scope) (x : Str) : Prop := sc.names.lookup x = some .local ∨ sc.names.lookup x = some .cell
def Look (env : Env) (h : Heap) (m : Str → Option Value) (x : Str) (u : Value) : Prop :=
  (env.kindOf x = some .local ∧ m x = some u) ∨ ((env.kindOf x = some .cell ∨ env.kindOf x = some .free) ∧ ∃ c, env.cells.lookup x = some c ∧ h.IsCell c (some u))
structure Cx.Ok (X : Cx) : Prop where
  mod : Mod X.K X.mg X.base
  kind : X.env.scope.kind = .function
  glob : X.env.globals = mainGlobals
  blt : X.env.builtins = builtinsNs
  above : X.s₀.heap.objs.size ≤ X.env.locals
  inj : ∀ x y c, X.env.cells.lookup x = some c → X.env.cells.lookup y = some c → x = y
  has : ∀ x, (X.env.kindOf x = some .cell ∨ X.env.kindOf x = some .free) → ∃ c, X.env.cells.lookup x = some c
  cab : ∀ x c, X.fn x = true → X.env.cells.lookup x = some c → X.s₀.heap.objs.size ≤ c
  hd : X.calm = true → X.A.handled = none
  frames : X.A.frames = some X.stack
  stk : X.stack = X.outer ∨ (X.stack = X.env :: X.outer ∧ X.env.frame = some X.env.locals)
  exf : ∀ b ∈ X.ex, b ≠ X.env.locals ∧ ∀ x c, X.env.cells.lookup x = some c → c ≠ b
  bs : ∀ b o, X.base.get? b = some o → X.s₀.heap.get? b = some o ∧ X.H₀ b = none
  bsz : X.base.objs.size ≤ X.s₀.heap.objs.size
  noex : ∀ b o, X.base.get? b = some o → b ∉ X.ex
  exfs : ∀ b ∈ X.ex, b ∉ X.fs
  funs : X.s₀.heap.FunFrames X.base X.outer
  frf : ∀ b ∈ X.fs, X.H₀ b = none
structure Inv (X : Cx) (pins : List (Addr × Obj)) (σ : List (Option V)) (H : Hp) (s : Shared) : Prop where
  ok : X.Ok
  os : s.os = X.s₀.os
  bare : AllBare s.gens
  base : Un X.fs X.ex X.H₀ H X.s₀.heap s.heap
  loc : ∃ m, s.heap.Ns X.env.locals m ∧ ∀ (i : Nat) (x : Str) (v : V), X.N[i]? = some x → σ[i]? = some (some v) → Vis X.env.scope x → ∃ u, RelV v u ∧ Look X.env s.heap m x u
  cell : ∀ x c, X.env.cells.lookup x = some c → ∃ v, s.heap.IsCell c v
  free : H X.env.locals = none
  freeC : ∀ x c, X.env.cells.lookup x = some c → H c = none
  pin : ∀ p ∈ X.pn ++ pins, s.heap.get? p.1 = some p.2 ∧ H p.1 = none ∧ p.1 ≠ X.env.locals ∧ p.1 ∉ X.fs ∧ ∀ v, p.2.data ≠ .cell v
  hok : HOk X.prog X.w H s.heap
  len : σ.length = X.N.length
  tk : 0 < s.toks
section
variable {X : Cx} {pins : List (Addr × Obj)} {σ : List (Option V)} {H H' : Hp} {s : Shared} {h' : Heap}
theorem Cx.Ok.nofr (ok : X.Ok) {b : Addr} {o : Obj} (e : X.base.get? b = some o) : b ∉ X.fs := fun hb => by
  have := (ok.funs.mem hb).1
  rw [e] at this; cases this
theorem Inv.bs (I : Inv X pins σ H s) : ∀ b o, X.base.get? b = some o → s.heap.get? b = some o ∧ H b = none := fun b o e =>
  ⟨I.base.keep b o (I.ok.bs b o e).1 (I.ok.bs b o e).2 (I.ok.nofr e) (I.ok.noex b o e), I.base.free b o (I.ok.bs b o e).1 (I.ok.bs b o e).2 (I.ok.noex b o e)⟩
theorem Inv.bk (I : Inv X pins σ H s) : ∀ b o, X.base.get? b = some o → s.heap.get? b = some o := fun b o e => (I.bs b o e).1
theorem Inv.mod (I : Inv X pins σ H s) : Mod X.K X.mg X.base := I.ok.mod
theorem Inv.kIn (I : Inv X pins σ H s) : X.K.In s.heap := I.ok.mod.kin.keeps I.bk
theorem Inv.fr (I : Inv X pins σ H s) : ∃ m, Fr X.base X.env.locals s.heap m :=
  let ⟨m, hn, _⟩ := I.loc
  ⟨m, hn, I.bk, Nat.le_trans I.ok.bsz I.ok.above⟩
theorem Inv.lt (I : Inv X pins σ H s) : X.env.locals < s.heap.objs.size := let ⟨_, hn, _⟩ := I.loc; hn.lt
theorem Inv.sz (I : Inv X pins σ H s) : X.s₀.heap.objs.size ≤ s.heap.objs.size := Nat.le_trans I.ok.above (Nat.le_of_lt I.lt)
theorem Inv.nofs (I : Inv X pins σ H s) {a : Addr} (h : s.heap.objs.size ≤ a) : a ∉ X.fs := fun hb => by
  obtain ⟨_, o, ho, _⟩ := I.ok.funs.mem hb
  exact absurd (Nat.lt_of_lt_of_le (Heap.lt_size ho) (Nat.le_trans I.sz h)) (Nat.lt_irrefl _)
theorem Inv.cne (I : Inv X pins σ H s) : ∀ x c, X.env.cells.lookup x = some c → c ≠ X.env.locals := fun x c e z => by
  obtain ⟨v, o, ho, hd⟩ := I.cell x c e
  obtain ⟨m, ⟨o', es, ep, ho', hd', _⟩, _⟩ := I.loc
  rw [z, ho'] at ho; cases ho; rw [hd'] at hd; cases hd
theorem Inv.funs (I : Inv X pins σ H s) : s.heap.FunFrames X.base X.outer := by
  have all : ∀ (l : List Env), (∀ b ∈ frs l, b ∈ X.fs) → X.s₀.heap.FunFrames X.base l → s.heap.FunFrames X.base l := by
    intro l
    induction l with
    | nil => intro _ _; trivial
    | cons env r ih =>
      intro hs hl
      obtain ⟨hk, ⟨L, o, hf, hn, ho, hd⟩, hr⟩ := hl
      have hL : L ∈ X.fs := hs L (by unfold frs; rw [List.filterMap_cons, hf]; exact List.mem_cons_self)
      obtain ⟨sl, e⟩ := I.base.slot L o ho (I.ok.frf L hL) hL fun z => I.ok.exfs L z hL
      exact ⟨hk, ⟨L, _, hf, hn, e, hd⟩, ih (fun b hb => hs b (by unfold frs; rw [List.filterMap_cons, hf]; exact List.mem_cons_of_mem _ hb)) hr⟩
  exact all X.outer (fun _ hb => hb) I.ok.funs
theorem Inv.stack (I : Inv X pins σ H s) : s.heap.FunFrames X.base X.stack := by
  rcases I.ok.stk with e | ⟨e, hf⟩
  · rw [e]; exact I.funs
  · rw [e]
    obtain ⟨m, hn, _⟩ := I.loc
    refine .cons (by rw [I.ok.kind]; decide) hf hn ?_ I.funs
    exact Heap.get?_none_of_le (Nat.le_trans I.ok.bsz I.ok.above)
theorem Inv.stkSub (I : Inv X pins σ H s) : ∀ b ∈ frs X.stack, b ∈ X.env.locals :: X.fs := fun b hb => by
  rcases I.ok.stk with e | ⟨e, hf⟩
  · rw [e] at hb; exact List.mem_cons_of_mem _ hb
  · rw [e] at hb
    unfold frs at hb
    rw [List.filterMap_cons, hf] at hb
    exact hb
theorem Inv.stkFree (I : Inv X pins σ H s) : ∀ b ∈ frs X.stack, H b = none := fun b hb => by
  rcases List.mem_cons.mp (I.stkSub b hb) with e | hb
  · rw [e]; exact I.free
  · obtain ⟨_, o, ho, _⟩ := I.ok.funs.mem hb
    exact I.base.free b o ho (I.ok.frf b hb) fun z => I.ok.exfs b z hb
theorem Inv.step {g' : Array GenState} {t' : Nat} {d' : Drawn} {ch : List Addr} (I : Inv X pins σ H s)
    (hch : ∀ b ∈ ch, (b ∈ X.ex ∨ X.s₀.heap.objs.size ≤ b) ∧ b ≠ X.env.locals ∧ (∀ x c, X.env.cells.lookup x = some c → c ≠ b) ∧ ∀ p ∈ X.pn ++ pins, p.1 ≠ b)
    (keep : ∀ b o, b ≠ X.env.locals → b ∉ X.fs → b ∉ ch → s.heap.get? b = some o → H b = none → h'.get? b = some o)
    (slot : ∀ b o, b ≠ X.env.locals → b ∈ X.fs → b ∉ ch → s.heap.get? b = some o → H b = none → ∃ sl, h'.get? b = some { o with slots := sl }) (free : ∀ b o, b ∉ ch → s.heap.get? b = some o → H b = none → H' b = none)
    (there : ∀ b o, b ∉ ch → s.heap.get? b = some o → ∃ o', h'.get? b = some o')
    (tups : ∀ b xs, H b = some (.tup xs) → H' b = some (.tup xs)) (frzs : ∀ b o u, H b = some (.frz o u) → H' b = some (.frz o u)) (tbls : ∀ b ps, H b = some (.tbl ps) → ∃ more, H' b = some (.tbl (ps ++ more)))
    (ns : ∀ m, s.heap.Ns X.env.locals m → h'.Ns X.env.locals m) (hok : HOk X.prog X.w H' h') (hg : AllBare g') (ht : 0 < t' := by first | exact Nat.succ_pos _ | assumption | exact Inv.tk (by assumption) | omega) :
    Inv X pins σ H' { s with heap := h', gens := g', drawn := d', toks := t' } := by
  have neL : ∀ b o, X.s₀.heap.get? b = some o → b ≠ X.env.locals := fun b o e => Nat.ne_of_lt (Nat.lt_of_lt_of_le (Heap.lt_size e) I.ok.above)
  have neC : ∀ b o, X.s₀.heap.get? b = some o → b ∉ X.ex → b ∉ ch := fun b o e hx hb => by
    rcases (hch b hb).1 with z | z
    · exact hx z
    · exact absurd (Nat.lt_of_lt_of_le (Heap.lt_size e) z) (Nat.lt_irrefl _)
  have cellK : ∀ x c, X.env.cells.lookup x = some c → ∀ v, s.heap.IsCell c v → h'.IsCell c v := fun x c e v ⟨o, ho, hd⟩ => by
    have nch : c ∉ ch := fun z => (hch c z).2.2.1 x c e rfl
    by_cases hc : c ∈ X.fs
    · obtain ⟨sl, q⟩ := slot c o (I.cne x c e) hc nch ho (I.freeC x c e)
      exact ⟨_, q, hd⟩
    · exact ⟨o, keep c o (I.cne x c e) hc nch ho (I.freeC x c e), hd⟩
  refine ⟨I.ok, I.os, hg, ⟨fun b o e n hb hx => ?_, fun b o e n hb hx => ?_, fun b o e n hx => ?_, fun b o e hx => ?_, fun b xs e => tups b xs (I.base.tups b xs e), fun b o xs e => frzs b o xs (I.base.frzs b o xs e), fun b ps e => ?_⟩, ?_, fun x c e => ?_, ?_, fun x c e => ?_, fun p hp => ?_, hok, I.len, ht⟩
  · exact keep b o (neL b o e) hb (neC b o e hx) (I.base.keep b o e n hb hx) (I.base.free b o e n hx)
  · obtain ⟨sl, e1⟩ := I.base.slot b o e n hb hx
    obtain ⟨sl', e2⟩ := slot b _ (neL b o e) hb (neC b o e hx) e1 (I.base.free b o e n hx)
    exact ⟨sl', e2⟩
  · obtain ⟨o', e1⟩ := I.base.there b o e hx
    exact free b o' (neC b o e hx) e1 (I.base.free b o e n hx)
  · obtain ⟨o', e1⟩ := I.base.there b o e hx
    exact there b o' (neC b o e hx) e1
  · obtain ⟨m1, e1⟩ := I.base.tbls b ps e
    obtain ⟨m2, e2⟩ := tbls b _ e1
    exact ⟨m1 ++ m2, by rw [e2, Array.append_assoc]⟩
  · obtain ⟨m, hn, hl⟩ := I.loc
    refine ⟨m, ns m hn, fun i x v e1 e2 e3 => ?_⟩
    obtain ⟨u, r, l⟩ := hl i x v e1 e2 e3
    refine ⟨u, r, ?_⟩
    rcases l with l | ⟨k, c, e, z⟩
    · exact .inl l
    · exact .inr ⟨k, c, e, cellK x c e _ z⟩
  · obtain ⟨v, z⟩ := I.cell x c e
    exact ⟨v, cellK x c e v z⟩
  · obtain ⟨m, ⟨o, _, _, ho, _⟩, _⟩ := I.loc
    exact free _ o (fun z => (hch _ z).2.1 rfl) ho I.free
  · obtain ⟨v, o, ho, hd⟩ := I.cell x c e
    exact free c o (fun z => (hch c z).2.2.1 x c e rfl) ho (I.freeC x c e)
  · obtain ⟨e, n, ne, nf, d⟩ := I.pin p hp
    have nch : p.1 ∉ ch := fun z => (hch p.1 z).2.2.2 p hp rfl
    exact ⟨keep p.1 p.2 ne nf nch e n, free p.1 p.2 nch e n, ne, nf, d⟩
theorem Inv.un {t' : Nat} (I : Inv X pins σ H s) (u : Un X.fs [] H H' s.heap h') (hok : HOk X.prog X.w H' h') (ht : 0 < t' := by first | exact Nat.succ_pos _ | assumption | exact Inv.tk (by assumption) | omega) : Inv X pins σ H' { s with heap := h', toks := t' } := by
  obtain ⟨m, ⟨o, es, ep, ho, r⟩, _⟩ := id I.loc
  obtain ⟨sl, hL⟩ := u.any ho I.free (by simp)
  exact I.step (g' := s.gens) (d' := s.drawn) (ch := []) (fun _ z => nomatch z) (fun b o _ hb _ e n => u.keep b o e n hb (by simp)) (fun b o _ hb _ e n => u.slot b o e n hb (by simp)) (fun b o _ e n => u.free b o e n (by simp)) (fun b o _ e => u.there b o e (by simp)) u.tups u.frzs u.tbls (fun m' hm => by
    obtain ⟨o', es', ep', ho', r'⟩ := hm
    rw [ho] at ho'; cases ho'
    exact ⟨_, es', ep', hL, r'⟩) hok I.bare ht
theorem Inv.call {g' : Array GenState} {t' : Nat} {d' : Drawn} {ch : List Addr} (I : Inv X pins σ H s) (u : Un (frs X.stack) ch H H' s.heap h') (hok : HOk X.prog X.w H' h') (hg : AllBare g')
    (hch : ∀ b ∈ ch, (b ∈ X.ex ∨ X.s₀.heap.objs.size ≤ b) ∧ b ≠ X.env.locals ∧ (∀ x c, X.env.cells.lookup x = some c → c ≠ b) ∧ ∀ p ∈ X.pn ++ pins, p.1 ≠ b) (ht : 0 < t' := by first | exact Nat.succ_pos _ | assumption | exact Inv.tk (by assumption) | omega) :
    Inv X pins σ H' { s with heap := h', gens := g', drawn := d', toks := t' } := by
  obtain ⟨m, ⟨o, es, ep, ho, r⟩, _⟩ := id I.loc
  obtain ⟨sl, hL⟩ := u.any ho I.free fun z => (hch _ z).2.1 rfl
  exact I.step (ch := ch) hch (fun b o hL hb hc e n => u.keep b o e n (fun z => (List.mem_cons.mp (I.stkSub b z)).elim hL hb) hc) (fun b o _ _ hc e n => u.any e n hc) (fun b o hc e n => u.free b o e n hc) (fun b o hc e => u.there b o e hc) u.tups u.frzs u.tbls (fun m' hm => by
    obtain ⟨o', es', ep', ho', r'⟩ := hm
    rw [ho] at ho'; cases ho'
    exact ⟨_, es', ep', hL, r'⟩) hok hg ht
theorem Inv.turned {t' : Nat} {it : Addr} (I : Inv X pins σ H s) (k : ∀ b o, b ≠ it → s.heap.get? b = some o → h'.get? b = some o) (hn : H it = none) (hL : it ≠ X.env.locals)
    (h1 : it ∈ X.ex ∨ X.s₀.heap.objs.size ≤ it) (h2 : ∀ x c, X.env.cells.lookup x = some c → c ≠ it) (h3 : ∀ p ∈ X.pn ++ pins, p.1 ≠ it) (ht : 0 < t' := by first | exact Nat.succ_pos _ | assumption | exact Inv.tk (by assumption) | omega) : Inv X pins σ H { s with heap := h', toks := t' } := by
  have nit : ∀ b u, H b = some u → b ≠ it := fun b u e z => by rw [z, hn] at e; cases e
  refine I.step (g' := s.gens) (d' := s.drawn) (ch := [it]) (fun b hb => ?_) (fun b o _ _ hc e _ => k b o (fun z => hc (by simp [z])) e) (fun b o _ _ hc e _ => ⟨o.slots, k b o (fun z => hc (by simp [z])) e⟩) (fun _ _ _ _ n => n)
    (fun b o hc e => ⟨o, k b o (fun z => hc (by simp [z])) e⟩) (fun _ _ e => e) (fun _ _ _ e => e) (fun b ps e => ⟨#[], by rw [e]; simp⟩) (fun m hm => ?_) (fun b u e => ?_) I.bare ht
  · have e : b = it := by simpa using hb
    subst e
    exact ⟨h1, hL, h2, h3⟩
  · obtain ⟨o, es, ep, ho, r⟩ := hm
    exact ⟨o, es, ep, k _ o (Ne.symm hL) ho, r⟩
  · refine (I.hok b u e).stay (fun c v hc q => k c v ?_ q) (fun _ q => q) fun _ _ q => q
    rcases hc with z | z
    · rw [z]; exact nit b u e
    · exact nit c _ z
theorem Inv.tok (I : Inv X pins σ H s) (t : Nat) (ht : 0 < t := by first | exact Nat.succ_pos _ | assumption | exact Inv.tk (by assumption) | omega) : Inv X pins σ H { s with toks := t } := I.un (h' := s.heap) (t' := t) Un.refl I.hok ht
theorem Inv.kept {t' : Nat} (I : Inv X pins σ H s) (k : ∀ b u, s.heap.get? b = some u → h'.get? b = some u) (ht : 0 < t' := by first | exact Nat.succ_pos _ | assumption | exact Inv.tk (by assumption) | omega) : Inv X pins σ H { s with heap := h', toks := t' } := I.un (Un.kept k) (I.hok.kept k) ht
theorem Inv.laid {a : Addr} {o : HO} {t' : Nat} (I : Inv X pins σ H s) (k : ∀ b u, s.heap.get? b = some u → h'.get? b = some u) (hp : s.heap.objs.size ≤ a) (new : ObjOk X.prog X.w (upd H a o) h' a o) (ht : 0 < t' := by first | exact Nat.succ_pos _ | assumption | exact Inv.tk (by assumption) | omega) :
    Inv X pins σ (upd H a o) { s with heap := h', toks := t' } := I.un (Un.laid k hp (I.hok.fresh hp)) (I.hok.laid k hp new) ht
theorem Inv.write {x e : Addr} {o : HO} {t' : Nat} (I : Inv X pins σ H s) (mu : Mut (H x)) (he : e = x ∨ H e = some (.own x)) (k : ∀ b u, b ≠ e → s.heap.get? b = some u → h'.get? b = some u) (heo : ∃ u, h'.get? e = some u)
    (new : ObjOk X.prog X.w (upd H x o) h' x o) (ht : 0 < t' := by first | exact Nat.succ_pos _ | assumption | exact Inv.tk (by assumption) | omega) : Inv X pins σ (upd H x o) { s with heap := h', toks := t' } := I.un (Un.write mu he k heo) (I.hok.write mu he k heo new) ht
theorem Inv.weak {σ' : List (Option V)} (I : Inv X pins σ H s) (hl : σ'.length = σ.length) (w : ∀ (i : Nat) v, σ'[i]? = some (some v) → σ[i]? = some (some v)) : Inv X pins σ' H s :=
  ⟨I.ok, I.os, I.bare, I.base, let ⟨m, hn, hl'⟩ := I.loc; ⟨m, hn, fun i x v e1 e2 e3 => hl' i x v e1 (w i v e2) e3⟩, I.cell, I.free, I.freeC, I.pin, I.hok, hl.trans I.len, I.tk⟩
theorem Inv.pins_of {pins' : List (Addr × Obj)} (I : Inv X pins σ H s) (h : ∀ p ∈ pins', s.heap.get? p.1 = some p.2 ∧ H p.1 = none ∧ p.1 ≠ X.env.locals ∧ p.1 ∉ X.fs ∧ ∀ v, p.2.data ≠ .cell v) : Inv X pins' σ H s :=
  ⟨I.ok, I.os, I.bare, I.base, I.loc, I.cell, I.free, I.freeC, fun p hp => (List.mem_append.mp hp).elim (fun z => I.pin p (List.mem_append_left _ z)) (h p), I.hok, I.len, I.tk⟩
theorem nodup_ix {N : List Str} (hN : N.Nodup) {i j : Nat} {x : Str} (a : N[i]? = some x) (b : N[j]? = some x) : i = j := by
  obtain ⟨h1, e1⟩ := List.getElem?_eq_some_iff.mp a
  obtain ⟨h2, e2⟩ := List.getElem?_eq_some_iff.mp b
  exact (List.getElem_inj hN).mp (e1.trans e2.symm)
theorem store_ok2 {M : Model} {A : Around} {E : Value → Shared → Prop} {i : Nat} {x : Str} {v : V} {u : Value} {Q : Unit → Shared → Prop} (I : Inv X pins σ H s) (hN : X.N.Nodup) (hi : X.N[i]? = some x) (hx : Loc X.env.scope x) (r : RelV v u)
    (h : ∀ s', Inv X pins (σ.set i (some v)) H s' → (∃ a, Heap.SameBut a s.heap s'.heap ∧ (a = X.env.locals ∨ X.env.cells.lookup x = some a)) → Q () s') (hf : X.fn x = true ∨ X.env.scope.names.lookup x = some .local := by first | exact .inl rfl | exact .inr rfl | assumption) : wpAny M A (storeName X.env x u) Q E s := by
  obtain ⟨m, hn, hl⟩ := id I.loc
  have hcls : (X.env.scope.kind == .class || (X.env.scope.kind == .module && X.env.locals != X.env.globals)) = false := by rw [I.ok.kind]; rfl
  have hiσ : i < σ.length := by rw [I.len]; exact (List.getElem?_eq_some_iff.mp hi).1
  have cne := I.cne
  have tracked : ∀ {a : Addr} {h' : Heap}, (∃ o, s.heap.get? a = some o ∧ H a = none) → Heap.SameBut a s.heap h' → HOk X.prog X.w H h' := fun {a h'} ha hs b ob e => by
    obtain ⟨_, _, hfree⟩ := ha
    refine (I.hok b ob e).stay (fun c w' hc q => (hs.2 c ?_).trans q) (fun _ q => q) fun _ _ q => q
    rintro rfl
    rcases hc with rfl | hc
    · rw [hfree] at e; cases e
    · rw [hfree] at hc; cases hc
  rcases hx with hk | hk
  · refine wpAny_storeName_local hk hn (fun h' hn' hs => ?_) hcls
    obtain ⟨oL, _, _, hoL, _⟩ := id hn
    refine h _ ⟨I.ok, I.os, I.bare, ⟨fun b o e n hb hx => ?_, fun b o e n hb hx => ?_, I.base.free, fun b o e hx => ?_, I.base.tups, I.base.frzs, I.base.tbls⟩, ⟨_, hn', fun j y v' e1 e2 e3 => ?_⟩, fun y c e => ?_, I.free, I.freeC, fun p hp => ?_, tracked ⟨oL, hoL, I.free⟩ hs, by simpa using I.len, Nat.succ_pos _⟩ ⟨_, hs, .inl rfl⟩
    · exact (hs.2 b (Nat.ne_of_lt (Nat.lt_of_lt_of_le (Heap.lt_size e) I.ok.above))).trans (I.base.keep b o e n hb hx)
    · obtain ⟨sl, e1⟩ := I.base.slot b o e n hb hx
      exact ⟨sl, (hs.2 b (Nat.ne_of_lt (Nat.lt_of_lt_of_le (Heap.lt_size e) I.ok.above))).trans e1⟩
    · obtain ⟨o', e1⟩ := I.base.there b o e hx
      exact ⟨o', (hs.2 b (Nat.ne_of_lt (Nat.lt_of_lt_of_le (Heap.lt_size e) I.ok.above))).trans e1⟩
    · by_cases hj : j = i
      · subst hj
        rw [hi] at e1; cases e1
        rw [List.getElem?_set_self hiσ] at e2
        cases e2
        exact ⟨u, r, .inl ⟨hk, by simp⟩⟩
      · rw [List.getElem?_set_ne (Ne.symm hj)] at e2
        obtain ⟨u', r', q⟩ := hl j y v' e1 e2 e3
        refine ⟨u', r', ?_⟩
        rcases q with ⟨k, e⟩ | ⟨k, c, e, z⟩
        · refine .inl ⟨k, ?_⟩
          have : y ≠ x := fun e => hj (nodup_ix hN e1 (e ▸ hi))
          simp [this, e]
        · exact .inr ⟨k, c, e, z.sameBut hs (cne y c e)⟩
    · obtain ⟨w', z⟩ := I.cell y c e
      exact ⟨w', z.sameBut hs (cne y c e)⟩
    · obtain ⟨e, n, ne, nf, d⟩ := I.pin p hp
      exact ⟨(hs.2 p.1 ne).trans e, n, ne, nf, d⟩
  · have hfn : X.fn x = true := by
      rcases hf with z | z
      · exact z
      · rw [z] at hk; cases hk
    obtain ⟨c, hc⟩ := I.ok.has x (.inl hk)
    obtain ⟨w', z⟩ := I.cell x c hc
    refine wpAny_storeName_cell I.ok.kind hk hc z (fun h' hc' hs => ?_)
    obtain ⟨oc, hoc, hocd⟩ := id z
    refine h { s with heap := h' } ⟨I.ok, I.os, I.bare, ⟨fun b o e n hb hx => ?_, fun b o e n hb hx => ?_, I.base.free, fun b o e hx => ?_, I.base.tups, I.base.frzs, I.base.tbls⟩, ⟨m, hn.sameBut hs (Ne.symm (cne x c hc)), fun j y v' e1 e2 e3 => ?_⟩, fun y c' e => ?_, I.free, I.freeC, fun p hp => ?_, tracked ⟨oc, hoc, I.freeC x c hc⟩ hs, by simpa using I.len, I.tk⟩ ⟨c, hs, .inr hc⟩
    · exact (hs.2 b (Nat.ne_of_lt (Nat.lt_of_lt_of_le (Heap.lt_size e) (I.ok.cab x c hfn hc)))).trans (I.base.keep b o e n hb hx)
    · obtain ⟨sl, e1⟩ := I.base.slot b o e n hb hx
      exact ⟨sl, (hs.2 b (Nat.ne_of_lt (Nat.lt_of_lt_of_le (Heap.lt_size e) (I.ok.cab x c hfn hc)))).trans e1⟩
    · obtain ⟨o', e1⟩ := I.base.there b o e hx
      exact ⟨o', (hs.2 b (Nat.ne_of_lt (Nat.lt_of_lt_of_le (Heap.lt_size e) (I.ok.cab x c hfn hc)))).trans e1⟩
    · by_cases hj : j = i
      · subst hj
        rw [hi] at e1; cases e1
        rw [List.getElem?_set_self hiσ] at e2
        cases e2
        exact ⟨u, r, .inr ⟨.inl hk, c, hc, hc'⟩⟩
      · rw [List.getElem?_set_ne (Ne.symm hj)] at e2
        obtain ⟨u', r', q⟩ := hl j y v' e1 e2 e3
        refine ⟨u', r', ?_⟩
        rcases q with q | ⟨k, c', e, z'⟩
        · exact .inl q
        · refine .inr ⟨k, c', e, z'.sameBut hs ?_⟩
          rintro rfl
          exact hj (nodup_ix hN e1 (I.ok.inj _ _ _ e hc ▸ hi))
    · by_cases hcc : c' = c
      · subst hcc; exact ⟨_, hc'⟩
      · obtain ⟨w2, z2⟩ := I.cell y c' e
        exact ⟨w2, z2.sameBut hs hcc⟩
    · obtain ⟨e, n, ne, nf, d⟩ := I.pin p hp
      refine ⟨(hs.2 p.1 ?_).trans e, n, ne, nf, d⟩
      intro q
      rw [q, hoc] at e
      have q' : oc = p.2 := Option.some.inj e
      exact d w' (by rw [← q']; exact hocd)
theorem store_ok {M : Model} {A : Around} {E : Value → Shared → Prop} {i : Nat} {x : Str} {v : V} {u : Value} {Q : Unit → Shared → Prop} (I : Inv X pins σ H s) (hN : X.N.Nodup) (hi : X.N[i]? = some x) (hx : Loc X.env.scope x) (r : RelV v u)
    (h : ∀ s', Inv X pins (σ.set i (some v)) H s' → Q () s') (hf : X.fn x = true ∨ X.env.scope.names.lookup x = some .local := by first | exact .inl rfl | exact .inr rfl | assumption) : wpAny M A (storeName X.env x u) Q E s :=
  store_ok2 I hN hi hx r (fun s' I' _ => h s' I') hf
theorem Inv.call' {s' : Shared} {ch : List Addr} (I : Inv X pins σ H s) (ho : s'.os = s.os) (u : Un (frs X.stack) ch H H' s.heap s'.heap) (hok : HOk X.prog X.w H' s'.heap) (hg : AllBare s'.gens)
    (hch : ∀ b ∈ ch, (b ∈ X.ex ∨ X.s₀.heap.objs.size ≤ b) ∧ b ≠ X.env.locals ∧ (∀ x c, X.env.cells.lookup x = some c → c ≠ b) ∧ ∀ p ∈ X.pn ++ pins, p.1 ≠ b) (ht : 0 < s'.toks) : Inv X pins σ H' s' := by
  obtain ⟨h', g', d', t', o'⟩ := s'
  have e : o' = s.os := ho
  subst e
  exact I.call (g' := g') (t' := t') (d' := d') u hok hg hch ht
end
abbrev XK := Value → Option Addr → Hp → Prop
abbrev St := List (Option V)
abbrev VK := V → Hp → Prop
abbrev TE := St → Hp → VK → Prop
abbrev TT := St → Hp → (Bool → Hp → Prop) → Prop
abbrev TA := St → Hp → (List V → Hp → Prop) → Prop
structure Ends where
  nx : St → Hp → Prop
  rt : VK
  bk : St → Hp → Prop := fun _ _ => False
  ct : St → Hp → Prop := fun _ _ => False
abbrev TS := Ends → St → Hp → Prop
def EP (X : Cx) (pins : List (Addr × Obj)) (σ : St) (Q : VK) (u : Value) (s' : Shared) : Prop := ∃ v H', Inv X pins σ H' s' ∧ RelV v u ∧ Q v H'
def TP (X : Cx) (pins : List (Addr × Obj)) (σ : St) (Q : Bool → Hp → Prop) (b : Bool) (s' : Shared) : Prop := ∃ H', Inv X pins σ H' s' ∧ Q b H'
def AP (X : Cx) (pins : List (Addr × Obj)) (σ : St) (Q : List V → Hp → Prop) (us : List Value) (s' : Shared) : Prop := ∃ vs H', Inv X pins σ H' s' ∧ Vals vs us ∧ Q vs H'
def SP (X : Cx) (pins : List (Addr × Obj)) (D : Ends) (f : Flow) (s' : Shared) : Prop :=
  match f with
  | .next => ∃ σ' H', Inv X pins σ' H' s' ∧ D.nx σ' H'
  | .brk => ∃ σ' H', Inv X pins σ' H' s' ∧ D.bk σ' H'
  | .cont => ∃ σ' H', Inv X pins σ' H' s' ∧ D.ct σ' H'
  | .ret u => ∃ v σ' H', Inv X pins σ' H' s' ∧ RelV v u ∧ D.rt v H'
def PE (X : Cx) (e : Expr) (t : TE) : Prop :=
  ∀ (pins : List (Addr × Obj)) (s : Shared) (σ : St) (H : Hp) (Q : VK), Inv X pins σ H s → t σ H Q → wpAny (model X.prog X.w) X.A (eval e X.env) (EP X pins σ Q) X.xe s
def PT (X : Cx) (e : Expr) (t : TT) : Prop :=
  ∀ (pins : List (Addr × Obj)) (s : Shared) (σ : St) (H : Hp) (Q : Bool → Hp → Prop), Inv X pins σ H s → t σ H Q → wpAny (model X.prog X.w) X.A (isTrue e X.env (eval e X.env)) (TP X pins σ Q) X.xe s
def PW (X : Cx) (e : Expr) (t : TT) : Prop :=
  ∀ (whole : Sem Value) (pins : List (Addr × Obj)) (s : Shared) (σ : St) (H : Hp) (Q : Bool → Hp → Prop), Inv X pins σ H s → t σ H Q → wpAny (model X.prog X.w) X.A (isTrue e X.env whole) (TP X pins σ Q) X.xe s
theorem PW.pt {X : Cx} {e : Expr} {t : TT} (h : PW X e t) : PT X e t := h _
def PA (X : Cx) (es : List Expr) (t : TA) : Prop :=
  ∀ (pos : Pos) (pins : List (Addr × Obj)) (s : Shared) (σ : St) (H : Hp) (Q : List V → Hp → Prop), Inv X pins σ H s → t σ H Q → wpAny (model X.prog X.w) X.A (spliced (backTo pos (starEach es X.env))) (AP X pins σ Q) X.xe s
def PS (X : Cx) (st : Stmt) (t : TS) : Prop :=
  ∀ (pins : List (Addr × Obj)) (s : Shared) (σ : St) (H : Hp) (D : Ends), Inv X pins σ H s → t D σ H → wpAny (model X.prog X.w) X.A (exec st X.env) (SP X pins D) X.xe s
def PSs (X : Cx) (st : List Stmt) (t : TS) : Prop :=
  ∀ (pins : List (Addr × Obj)) (s : Shared) (σ : St) (H : Hp) (D : Ends), Inv X pins σ H s → t D σ H → wpAny (model X.prog X.w) X.A (execs st X.env) (SP X pins D) X.xe s
theorem thn {α : Type} {t : Sem α} {Q Q' : α → Shared → Prop} {M : Model} {A : Around} {E : Value → Shared → Prop} {s : Shared} (h : wpAny M A t Q E s) (hQ : ∀ a s, Q a s → Q' a s) : wpAny M A t Q' E s := wpAny_mono h hQ fun _ _ x => x
end L2
namespace L2
open PySem PySem.Spec PyProof.Rows
section
variable {X : Cx}
def tVar (i : Nat) : TE := fun σ H Q => ∃ v, σ[i]? = some (some v) ∧ Q v H
def tC (v : V) : TE := fun _ H Q => Q v H
theorem pe_var {i : Nat} {x : Str} {pos : Pos} (hN : X.N[i]? = some x) (hv : Vis X.env.scope x) (hd : (x == ("__debug__" : Str)) = false := by decide) (hcd : (x == ("__classdict__" : Str)) = false := by decide) : PE X (.Name x pos) (tVar i) := by
  intro pins s σ H Q I h
  obtain ⟨v, e, h⟩ := h
  obtain ⟨m, hn, hl⟩ := I.loc
  obtain ⟨u, r, l⟩ := hl i x v hN e hv
  have fin : EP X pins σ Q u s := ⟨v, H, I, r, h⟩
  rcases l with ⟨hk, hm⟩ | ⟨hk, c, hc, hcell⟩
  · exact wpAny_Name (wpAny_loadName_local I.ok.kind hk hn hm fin) hd
  · rcases hk with hk | hk
    · exact wpAny_Name (wpAny_loadName_cell I.ok.kind hk hc hcell fin) hd
    · exact wpAny_Name (wpAny_loadName_free I.ok.kind hk hc hcell fin hcd) hd
theorem pe_int {i j pos} : PE X (.Constant (.int i) j pos) (tC (.int i)) := fun _ _ _ H _ I h => wpAny_Constant_int ⟨.int i, H, I.tok _, ⟨_, rfl⟩, h⟩
theorem pe_bl {b j pos} : PE X (.Constant (.bool b) j pos) (tC (.bl b)) := fun _ _ _ H _ I h => Constant_bool ⟨.bl b, H, I, rfl, h⟩
theorem pe_str {x j pos} : PE X (.Constant (.str x) j pos) (tC (.str x)) := fun _ _ _ H _ I h => Calls.Constant_str ⟨.str x, H, I.tok _, ⟨_, rfl⟩, h⟩
def Gl (X : Cx) (x : Str) : Prop := X.env.kindOf x = some .globalImplicit
theorem ld_glob {E : Value → Shared → Prop} {pins : List (Addr × Obj)} {s : Shared} {σ : St} {H : Hp} {x : Str} {u : Value} {pos : Pos} {Q : Value → Shared → Prop} (I : Inv X pins σ H s) (hg : Gl X x) (hm : X.mg x = some u) (h : Q u s)
    (hd : (x == ("__debug__" : Str)) = false := by decide) : wpAny (model X.prog X.w) X.A (eval (.Name x pos) X.env) Q E s :=
  Calls.Name_function_global I.ok.kind hg (Calls.loadGlobal_global (by rw [I.ok.glob]; exact I.mod.glob.keeps I.bk) hm h) hd
theorem ld_blt {E : Value → Shared → Prop} {pins : List (Addr × Obj)} {s : Shared} {σ : St} {H : Hp} {x : Str} {u : Value} {pos : Pos} {Q : Value → Shared → Prop} (I : Inv X pins σ H s) (hg : Gl X x) (hm : X.mg x = none) (hv : bootBuiltins x = some u) (h : Q u s)
    (hn : x ≠ "__name__" := by decide) (hd : (x == ("__debug__" : Str)) = false := by decide) : wpAny (model X.prog X.w) X.A (eval (.Name x pos) X.env) Q E s := by
  obtain ⟨mb, h1, h2⟩ := I.mod.blt
  exact Calls.Name_function_global I.ok.kind hg (Calls.loadGlobal_builtin (by rw [I.ok.glob]; exact I.mod.glob.keeps I.bk) hm (by rw [I.ok.blt]; exact h1.keeps I.bk) ((h2 x hn).trans hv) h) hd
theorem pe_bltn {x : Str} {v : V} {u : Value} {pos : Pos} (hg : Gl X x) (hm : X.mg x = none) (hv : bootBuiltins x = some u) (r : RelV v u) (hn : x ≠ "__name__" := by decide) (hd : (x == ("__debug__" : Str)) = false := by decide) : PE X (.Name x pos) (tC v) :=
  fun _ _ _ H _ I h => ld_blt I hg hm hv ⟨v, H, I, r, h⟩ hn hd
variable {a b : Expr} {ta tb : TE} {pos : Pos}
variable {tA tB' : TT} {rest : List Expr}
def tAnd (t u : TT) : TT := fun σ H Q => t σ H fun c H1 => if c = true then u σ H1 Q else Q false H1
def tOr (t u : TT) : TT := fun σ H Q => t σ H fun c H1 => if c = true then Q true H1 else u σ H1 Q
def tNot (t : TT) : TT := fun σ H Q => t σ H fun c H1 => Q (!c) H1
theorem pw_and1 (ha : PT X a tA) : PW X (.BoolOp .And [a] pos) tA := by
  intro wh pins s σ H Q I h
  refine isTrue_and (thn (ha pins s σ H Q I h) fun c s1 e => ?_)
  cases c with
  | true => exact isTrue_and_nil e
  | false => exact e
theorem pw_or1 (ha : PT X a tA) : PW X (.BoolOp .Or [a] pos) tA := by
  intro wh pins s σ H Q I h
  refine isTrue_or (thn (ha pins s σ H Q I h) fun c s1 e => ?_)
  cases c with
  | false => exact isTrue_or_nil e
  | true => exact e
theorem pw_and (ha : PT X a tA) (hb : PW X (.BoolOp .And (b :: rest) pos) tB') : PW X (.BoolOp .And (a :: b :: rest) pos) (tAnd tA tB') := by
  intro wh pins s σ H Q I h
  refine isTrue_and (thn (ha pins s σ H _ I h) fun c s1 ⟨H1, I1, q1⟩ => ?_)
  cases c with
  | true => exact hb wh pins s1 σ H1 Q I1 q1
  | false => exact ⟨H1, I1, q1⟩
theorem pw_or (ha : PT X a tA) (hb : PW X (.BoolOp .Or (b :: rest) pos) tB') : PW X (.BoolOp .Or (a :: b :: rest) pos) (tOr tA tB') := by
  intro wh pins s σ H Q I h
  refine isTrue_or (thn (ha pins s σ H _ I h) fun c s1 ⟨H1, I1, q1⟩ => ?_)
  cases c with
  | true => exact ⟨H1, I1, q1⟩
  | false => exact hb wh pins s1 σ H1 Q I1 q1
theorem pt_not (ha : PT X a tA) : PT X (.UnaryOp .Not a pos) (tNot tA) := by
  intro pins s σ H Q I h
  exact isTrue_not (ha pins s σ H (fun c H1 => Q (!c) H1) I h)
def tAndV (ta tb : TE) : TE := fun σ H Q => ta σ H fun x H1 => ∃ c, x = .bl c ∧ if c = true then tb σ H1 Q else Q (.bl false) H1
def tNotV (ta : TE) : TE := fun σ H Q => ta σ H fun x H1 => ∃ c, x = .bl c ∧ Q (.bl (!c)) H1
theorem pe_one {op} {t : TE} (h : PE X a t) : PE X (.BoolOp op [a] pos) t := fun pins s σ H Q I hw => BoolOp_one (h pins s σ H Q I hw)
theorem pe_and (ha : PE X a ta) (hb : PE X (.BoolOp .And (b :: rest) pos) tb) : PE X (.BoolOp .And (a :: b :: rest) pos) (tAndV ta tb) := by
  intro pins s σ H Q I h
  refine BoolOp_and (thn (ha pins s σ H _ I h) fun v s1 ⟨x, H1, I1, r1, q1⟩ => ?_)
  obtain ⟨c, rfl, q1⟩ := q1
  cases r1
  refine wpAny_truthy_bool ?_
  cases c with
  | true => exact hb pins s1 σ H1 Q I1 q1
  | false => exact ⟨.bl false, H1, I1, rfl, q1⟩
theorem pe_not (ha : PE X a ta) : PE X (.UnaryOp .Not a pos) (tNotV ta) := by
  intro pins s σ H Q I h
  refine UnaryOp_ (thn (ha pins s σ H _ I h) fun v s1 ⟨x, H1, I1, r1, q1⟩ => ?_)
  obtain ⟨c, rfl, q1⟩ := q1
  cases r1
  exact not_of (wpAny_truthy_bool ⟨.bl (!c), H1, I1, rfl, q1⟩)
def tIf (t : TT) (ta tb : TE) : TE := fun σ H Q => t σ H fun c H1 => if c = true then ta σ H1 Q else tb σ H1 Q
theorem pe_ifExp {c : Expr} (hc : PT X c tA) (ha : PE X a ta) (hb : PE X b tb) : PE X (.IfExp c a b pos) (tIf tA ta tb) := by
  intro pins s σ H Q I h
  refine wpAny_IfExp (thn (hc pins s σ H _ I h) fun d s1 ⟨H1, I1, q1⟩ => ?_)
  cases d with
  | true => exact ha pins s1 σ H1 Q I1 q1
  | false => exact hb pins s1 σ H1 Q I1 q1
end
end L2
namespace L2
open PySem PySem.Spec PyProof.Rows
def SqL (K : PySem.W.Frag) (H : Hp) (a : Addr) (xs : List V) : Prop :=
  Rd H a (.lst xs) ∨
    ∃ (o : Obj) (its : Array Value) (n : Nat), K.lookup a = some o ∧ o.cls = .type "list" ∧ o.dict = none ∧ o.data = .seq its n ∧ its.size ≤ sizeLine ∧ Vals xs its.toList
def SqT (K : PySem.W.Frag) (H : Hp) (a : Addr) (xs : List V) : Prop :=
  Rd H a (.tup xs) ∨
    ∃ (o : Obj) (its : Array Value) (n : Nat), K.lookup a = some o ∧ o.cls = .type "tuple" ∧ o.data = .seq its n ∧ its.size ≤ sizeLine ∧ Vals xs its.toList
def absV : Value → Option V
  | .none => some .non
  | .bool b => some (.bl b)
  | .int i _ => some (.int i)
  | .str x _ => some (.str x)
  | .bytes b _ => some (.byt b)
  | .float b _ => some (.flt b)
  | .ref a => some (.ref a)
  | .type n => some (.ty n)
  | _ => none
theorem RelV.abs {x : V} {u : Value} (r : RelV x u) : absV u = some x := by
  cases x with
  | non => cases r; rfl
  | bl _ => cases r; rfl
  | int _ => obtain ⟨t, rfl⟩ := r; rfl
  | str _ => obtain ⟨t, rfl⟩ := r; rfl
  | byt _ => obtain ⟨t, rfl⟩ := r; rfl
  | flt _ => obtain ⟨t, rfl⟩ := r; rfl
  | ref _ => cases r; rfl
  | ty _ => cases r; rfl
theorem RelV.inj {x y : V} {u : Value} (r : RelV x u) (q : RelV y u) : x = y := Option.some.inj (r.abs.symm.trans q.abs)
theorem Vals.inj : ∀ {xs ys : List V} {us : List Value}, Vals xs us → Vals ys us → xs = ys
  | _, _, _, .nil, .nil => rfl
  | _, _, _, .cons r t, .cons r' t' => by rw [r.inj r', Vals.inj t t']
section
variable {X : Cx} {pins : List (Addr × Obj)} {σ : St} {H : Hp} {s : Shared} {a : Addr} {xs ys : List V}
theorem SqL.of {K : PySem.W.Frag} (h : H a = some (.lst xs)) : SqL K H a xs := .inl (.inl h)
theorem SqT.of {K : PySem.W.Frag} (h : H a = some (.tup xs)) : SqT K H a xs := .inl (.inl h)
theorem Inv.list (I : Inv X pins σ H s) (h : SqL X.K H a xs) : ∃ its : List Value, Vals xs its ∧ PlainL s.heap a its.toArray ∧ xs.length ≤ sizeLine := by
  rcases h with h | ⟨o, its, n, hk, hc, hd, hs, hz, r⟩
  · obtain ⟨z, its, n, r, e⟩ := h.ok I.hok
    exact ⟨its, r, ⟨_, n, e, rfl, rfl, rfl⟩, z⟩
  · refine ⟨its.toList, r, ⟨o, n, I.kIn a o hk, hc, hd, by simpa using hs⟩, ?_⟩
    have e := r.length
    simp only [Array.length_toList] at e
    omega
theorem Inv.tuple (I : Inv X pins σ H s) (h : SqT X.K H a xs) : ∃ its : List Value, Vals xs its ∧ IsTup s.heap a its.toArray ∧ xs.length ≤ sizeLine := by
  rcases h with h | ⟨o, its, n, hk, hc, hs, hz, r⟩
  · obtain ⟨z, its, r, p⟩ := h.ok I.hok
    exact ⟨its, r, p, z⟩
  · refine ⟨its.toList, r, ⟨o, I.kIn a o hk, hc, n, by simpa using hs⟩, ?_⟩
    have e := r.length
    simp only [Array.length_toList] at e
    omega
theorem Inv.list_inj (I : Inv X pins σ H s) (h : SqL X.K H a xs) (h' : SqL X.K H a ys) : xs = ys := by
  obtain ⟨its, r, ⟨o, n, e, _, _, d⟩, _⟩ := I.list h
  obtain ⟨its', r', ⟨o', n', e', _, _, d'⟩, _⟩ := I.list h'
  rw [e] at e'; cases e'
  rw [d] at d'
  injection d' with d1 _
  have : its = its' := by simpa using congrArg Array.toList d1
  subst this
  exact r.inj r'
theorem Inv.tuple_inj (I : Inv X pins σ H s) (h : SqT X.K H a xs) (h' : SqT X.K H a ys) : xs = ys := by
  obtain ⟨its, r, ⟨o, e, _, n, d⟩, _⟩ := I.tuple h
  obtain ⟨its', r', ⟨o', e', _, n', d'⟩, _⟩ := I.tuple h'
  rw [e] at e'; cases e'
  rw [d] at d'
  injection d' with d1 _
  have : its = its' := by simpa using congrArg Array.toList d1
  subst this
  exact r.inj r'
end
abbrev Cx.wish (X : Cx) (E : Value → Shared → Prop) : Cx := { X with xe := E }
abbrev Cx.nox (X : Cx) : Cx := X.wish fun _ _ => False
theorem Cx.Ok.wish {X : Cx} (ok : X.Ok) (E : Value → Shared → Prop) : (X.wish E).Ok :=
  ⟨ok.mod, ok.kind, ok.glob, ok.blt, ok.above, ok.inj, ok.has, ok.cab, ok.hd, ok.frames, ok.stk, ok.exf, ok.bs, ok.bsz, ok.noex, ok.exfs, ok.funs, ok.frf⟩
theorem Cx.Ok.unwish {X : Cx} {E : Value → Shared → Prop} (ok : (X.wish E).Ok) : X.Ok :=
  ⟨ok.mod, ok.kind, ok.glob, ok.blt, ok.above, ok.inj, ok.has, ok.cab, ok.hd, ok.frames, ok.stk, ok.exf, ok.bs, ok.bsz, ok.noex, ok.exfs, ok.funs, ok.frf⟩
section
variable {X : Cx} {pins : List (Addr × Obj)} {σ : St} {H : Hp} {s : Shared} {E : Value → Shared → Prop}
theorem Inv.wish (I : Inv X pins σ H s) (E : Value → Shared → Prop) : Inv (X.wish E) pins σ H s := ⟨I.ok.wish E, I.os, I.bare, I.base, I.loc, I.cell, I.free, I.freeC, I.pin, I.hok, I.len, I.tk⟩
theorem Inv.unwish (I : Inv (X.wish E) pins σ H s) : Inv X pins σ H s := ⟨I.ok.unwish, I.os, I.bare, I.base, I.loc, I.cell, I.free, I.freeC, I.pin, I.hok, I.len, I.tk⟩
theorem SP.unwish {D : Ends} {f : Flow} {s' : Shared} (h : SP (X.wish E) pins D f s') : SP X pins D f s' := by
  cases f with
  | next => obtain ⟨σ', H', I, q⟩ := h; exact ⟨σ', H', I.unwish, q⟩
  | brk => obtain ⟨σ', H', I, q⟩ := h; exact ⟨σ', H', I.unwish, q⟩
  | cont => obtain ⟨σ', H', I, q⟩ := h; exact ⟨σ', H', I.unwish, q⟩
  | ret u => obtain ⟨v, σ', H', I, r, q⟩ := h; exact ⟨v, σ', H', I.unwish, r, q⟩
theorem PSs.nox {st : List Stmt} {t : TS} (h : PSs X.nox st t) : PSs X st t := fun pins s σ H D I hw =>
  wpAny_mono (h pins s σ H D (I.wish _) hw) (fun _ _ q => q.unwish) fun _ _ z => False.elim z
end
section
variable {X : Cx} {st : Stmt} {rest : List Stmt} {t u : TS} {e : Expr} {te : TE} {pos : Pos}
def tNext : TS := fun D σ H => D.nx σ H
def tSeq (t u : TS) : TS := fun D σ H => t { D with nx := u D } σ H
theorem pss_nil : PSs X [] tNext := fun _ _ σ H _ I h => wpAny_execs_nil ⟨σ, H, I, h⟩
theorem pss_cons (h1 : PS X st t) (h2 : PSs X rest u) : PSs X (st :: rest) (tSeq t u) := by
  intro pins s σ H D I h
  refine wpAny_execs_cons (thn (h1 pins s σ H { D with nx := u D } I h) fun f s1 q => ?_)
  cases f with
  | next =>
    obtain ⟨σ', H', I', q⟩ := q
    exact h2 pins s1 σ' H' D I' q
  | ret v => exact q
  | brk => exact q
  | cont => exact q
theorem pss_one (h1 : PS X st t) : PSs X [st] t := by
  intro pins s σ H D I h
  refine wpAny_execs_cons (thn (h1 pins s σ H D I h) fun f s1 q => ?_)
  cases f with
  | next => exact wpAny_execs_nil q
  | ret v => exact q
  | brk => exact q
  | cont => exact q
theorem Inv.quiet {pins : List (Addr × Obj)} {σ : St} {H : Hp} {s : Shared} (I : Inv X pins σ H s) : interactive X.env = false := by simp [interactive, I.ok.kind]
def tDrop (te : TE) : TS := fun D σ H => te σ H fun _ H1 => D.nx σ H1
theorem ps_expr (he : PE X e te) (hs : swapsWith e none pos.line X.env = pure false := by rfl) : PS X (.Expr e pos) (tDrop te) := by
  intro pins s σ H D I h
  exact wpAny_Expr_any (thn (he pins s σ H _ I h) fun v s1 ⟨x, H1, I1, r1, q1⟩ => ⟨σ, H1, I1, q1⟩) I.quiet hs
def tRet (te : TE) : TS := fun D σ H => te σ H D.rt
theorem ps_ret (he : PE X e te) : PS X (.Return (some e) pos) (tRet te) := by
  intro pins s σ H D I h
  exact wpAny_Return_some (thn (he pins s σ H _ I h) fun v s1 ⟨x, H1, I1, r1, q1⟩ => ⟨x, σ, H1, I1, r1, q1⟩)
def tIfS (c : TT) (t u : TS) : TS := fun D σ H => c σ H fun b H1 => if b = true then t D σ H1 else u D σ H1
theorem ps_if {c : Expr} {a b : List Stmt} {tc : TT} (hc : PT X c tc) (ha : PSs X a t) (hb : PSs X b u) : PS X (.If c a b pos) (tIfS tc t u) := by
  intro pins s σ H D I h
  refine wpAny_If (thn (hc pins s σ H _ I h) fun d s1 ⟨H1, I1, q1⟩ => ?_)
  cases d with
  | true => exact ha pins s1 σ H1 D I1 q1
  | false => exact hb pins s1 σ H1 D I1 q1
end
abbrev TG := V → St → Hp → (St → Hp → Prop) → Prop
abbrev TGs := List V → St → Hp → (St → Hp → Prop) → Prop
def PG (X : Cx) (target : Expr) (t : TG) : Prop :=
  ∀ (pins : List (Addr × Obj)) (s : Shared) (σ : St) (H : Hp) (v : V) (u : Value) (Q : St → Hp → Prop), Inv X pins σ H s → RelV v u → t v σ H Q →
    wpAny (model X.prog X.w) X.A (assign target X.env u) (fun _ s' => ∃ σ' H', Inv X pins σ' H' s' ∧ Q σ' H') X.xe s
def PGs (X : Cx) (ts : List Expr) (t : TGs) : Prop :=
  ∀ (pins : List (Addr × Obj)) (s : Shared) (σ : St) (H : Hp) (vs : List V) (us : List Value) (Q : St → Hp → Prop), Inv X pins σ H s → Vals vs us → t vs σ H Q →
    wpAny (model X.prog X.w) X.A (assignInOrder ((assignEach ts X.env).map (·.2)) us) (fun _ s' => ∃ σ' H', Inv X pins σ' H' s' ∧ Q σ' H') X.xe s
section
variable {X : Cx} {pos : Pos}
def gName (i : Nat) : TG := fun v σ H Q => Q (σ.set i (some v)) H
theorem pg_name {i : Nat} {x : Str} (hN : X.N.Nodup) (hi : X.N[i]? = some x) (hx : Loc X.env.scope x) (hf : X.fn x = true ∨ X.env.scope.names.lookup x = some .local := by first | exact .inl rfl | exact .inr rfl | assumption) : PG X (.Name x pos) (gName i) := by
  intro pins s σ H v u Q I r h
  exact wpAny_assign_Name (store_ok I hN hi hx r (fun s' I' => ⟨_, H, I', h⟩) hf)
def gNil : TGs := fun vs σ H Q => vs = [] ∧ Q σ H
def gCons (t : TG) (u : TGs) : TGs := fun vs σ H Q => ∃ v r, vs = v :: r ∧ t v σ H fun σ' H' => u r σ' H' Q
theorem pgs_nil : PGs X [] gNil := by
  intro pins s σ H vs us Q I r h
  obtain ⟨e, h⟩ := h
  subst e
  cases r
  exact assignInOrder_nil ⟨σ, H, I, h⟩
theorem pgs_cons {e : Expr} {es : List Expr} {t : TG} {u : TGs} (h1 : PG X e t) (h2 : PGs X es u)
    (hs : (assignEach (e :: es) X.env).map (·.2) = assign e X.env :: (assignEach es X.env).map (·.2) := by rfl) : PGs X (e :: es) (gCons t u) := by
  intro pins s σ H vs us Q I r h
  obtain ⟨v, vr, e1, h⟩ := h
  subst e1
  cases r with
  | cons r rr =>
    rw [hs]
    refine assignInOrder_cons (thn (h1 pins s σ H _ _ _ I r h) fun _ s1 ⟨σ1, H1, I1, q1⟩ => ?_)
    exact h2 pins s1 σ1 H1 _ _ Q I1 rr q1
def gTup (K : PySem.W.Frag) (n : Nat) (t : TGs) : TG := fun v σ H Q => ∃ a xs, v = .ref a ∧ SqT K H a xs ∧ xs.length = n ∧ t xs σ H Q
theorem pg_tup {es : List Expr} {k : Nat} {t : TGs} {n : Nat} (hc : X.calm = true) (h : PGs X es t)
    (hn : (assignEach es X.env).length = n := by rfl) (hst : (assignEach es X.env).findIdx? (·.1) = none := by rfl) : PG X (.Tuple es k pos) (gTup X.K n t) := by
  intro pins s σ H v u Q I r hw
  obtain ⟨a, xs, e1, hq, hl, hw⟩ := hw
  subst e1
  cases r
  obtain ⟨its, rv, ht, hz⟩ := I.tuple hq
  refine assign_Tuple_tuple (I.ok.hd hc) ht (by simp [hn, ← hl, rv.length]) hst fun h' hx => ?_
  have I1 : Inv X pins σ H { s with heap := h' } := I.kept (t' := s.toks) fun b o e => hx b o (Nat.ne_of_lt (Heap.lt_size e)) e
  exact h pins _ σ H xs _ Q I1 (by simpa using rv) hw
def tAsg (te : TE) (g : TG) : TS := fun D σ H => te σ H fun x H1 => g x σ H1 D.nx
theorem ps_asg {tg e : Expr} {te : TE} {g : TG} (he : PE X e te) (hg : PG X tg g) (hs : swapsWithSole [tg] e pos.line X.env = pure false := by rfl) (hw : swappedStores [tg] e X.env = pure none := by rfl)
    (h1 : (assignEach [tg] X.env).map (·.2) = [assign tg X.env] := by rfl) : PS X (.Assign [tg] e pos) (tAsg te g) := by
  intro pins s σ H D I h
  refine wpAny_Assign_stores (thn (he pins s σ H _ I h) fun v s1 ⟨x, H1, I1, r1, q1⟩ => ?_) hs hw
  rw [h1]
  exact thn (hg pins s1 σ H1 x v _ I1 r1 q1) fun _ s2 q => q
theorem ps_set {i : Nat} {x : Str} {e : Expr} {te : TE} {pos' : Pos} (hN : X.N.Nodup) (hi : X.N[i]? = some x) (hx : Loc X.env.scope x) (he : PE X e te) (hs : swapsWith e (some (.Name x pos')) pos.line X.env = pure false := by rfl) (hf : X.fn x = true ∨ X.env.scope.names.lookup x = some .local := by first | exact .inl rfl | exact .inr rfl | assumption) :
    PS X (.Assign [.Name x pos'] e pos) (tAsg te (gName i)) := by
  intro pins s σ H D I h
  refine wpAny_Assign_Name (thn (he pins s σ H _ I h) fun v s1 ⟨y, H1, I1, r1, q1⟩ => ?_) hs
  exact store_ok I1 hN hi hx r1 (fun s2 I2 => ⟨_, H1, I2, q1⟩) hf
end
section
variable {X : Cx} {pos : Pos}
def tWhile (c : TT) (tb : TS) : TS := fun D σ H => ∃ W : Nat → St → Hp → Prop, (∃ m, W m σ H) ∧ ∀ m σ H, W m σ H →
  c σ H fun b H1 => if b = true then ∃ N : St → Hp → Prop, (∀ σ' H', N σ' H' → ∃ m', m' < m ∧ W m' σ' H') ∧ tb { D with nx := N, ct := N, bk := D.nx } σ H1 else D.nx σ H1
theorem ps_while {c : Expr} {body : List Stmt} {tc : TT} {tb : TS} (hp : PassesOwn (model X.prog X.w) X.A X.env X.xe) (hc : PT X c tc) (hb : PSs X body tb) : PS X (.While c body [] pos) (tWhile tc tb) := by
  intro pins s σ H D I h
  obtain ⟨W, ⟨m0, w0⟩, turn⟩ := h
  refine wpAny_While (codeAny_whileLoop (fun n s' => ∃ σ' H', Inv X pins σ' H' s' ∧ W n σ' H') ?_ m0 ⟨σ, H, I, w0⟩)
  rintro n s1 ⟨σ1, H1, I1, w1⟩
  refine wpAny_passesOwn hp (thn (hc pins s1 σ1 H1 _ I1 (turn n σ1 H1 w1)) fun b s2 ⟨H2, I2, q2⟩ => ?_)
  cases b with
  | true =>
    obtain ⟨N, hN, q2⟩ := q2
    rw [if_pos rfl]
    refine wpAny_passesOwn hp (thn (hb pins s2 σ1 H2 _ I2 q2) fun f s3 q3 => ?_)
    cases f with
    | next =>
      obtain ⟨σ3, H3, I3, n3⟩ := q3
      obtain ⟨m', hm, w3⟩ := hN σ3 H3 n3
      exact ⟨m', hm, σ3, H3, I3, w3⟩
    | cont =>
      obtain ⟨σ3, H3, I3, n3⟩ := q3
      obtain ⟨m', hm, w3⟩ := hN σ3 H3 n3
      exact ⟨m', hm, σ3, H3, I3, w3⟩
    | brk => exact q3
    | ret v => exact q3
  | false =>
    rw [if_neg Bool.false_ne_true]
    exact wpAny_execs_nil ⟨σ1, H2, I2, q2⟩
end
structure It where
  go : Nat → Hp → Prop
  yld : Nat → Hp → V → Hp → Prop
  stop : Nat → Hp → Prop
def FpOk (X : Cx) (pins : List (Addr × Obj)) (H : Hp) (b : Addr) : Prop :=
  H b = none ∧ b ≠ X.env.locals ∧ b ∉ X.fs ∧ (b ∈ X.ex ∨ X.s₀.heap.objs.size ≤ b) ∧ (∀ x c, X.env.cells.lookup x = some c → c ≠ b) ∧ ∀ p ∈ X.pn ++ pins, p.1 ≠ b
theorem Inv.fpOk {X : Cx} {pins : List (Addr × Obj)} {σ : St} {H H' : Hp} {s : Shared} {b : Addr} (I : Inv X pins σ H s) (hb : s.heap.objs.size ≤ b) (hn : H' b = none) : FpOk X pins H' b := by
  refine ⟨hn, Nat.ne_of_gt (Nat.lt_of_lt_of_le I.lt hb), I.nofs hb, .inr (Nat.le_trans I.sz hb), fun x c e z => ?_, fun p hp z => ?_⟩
  · obtain ⟨v, q⟩ := I.cell x c e
    exact absurd (Nat.lt_of_lt_of_le q.lt (by rw [z]; exact hb)) (Nat.lt_irrefl _)
  · exact absurd (Nat.lt_of_lt_of_le (Heap.lt_size (I.pin p hp).1) (by rw [z]; exact hb)) (Nat.lt_irrefl _)
structure Turn (P : Program) (w : World) (K : PySem.W.Frag) (tg : Expr) (J : It) (fp : List Addr) (it : Addr) (tn : Nat → Heap → Prop) : Prop where
  mem : it ∈ fp
  obj : ∀ i h, tn i h → ∀ b ∈ fp, ∃ o, h.get? b = some o ∧ ∀ v, o.data ≠ .cell v
  keep : ∀ i h h', tn i h → (∀ b ∈ fp, ∀ o, h.get? b = some o → h'.get? b = some o) → tn i h'
  item : ∀ (X : Cx), X.prog = P → X.w = w → X.K = K → X.calm = true → ∀ (i : Nat) (pins : List (Addr × Obj)) (s : Shared) (σ : St) (H : Hp) (E : Value → Shared → Prop), Inv X pins σ H s → (∀ b ∈ fp, FpOk X pins H b) → tn i s.heap → J.go i H →
    wpAny (model P w) X.A (pyNext (.ref it)) (fun r s1 => ∃ u, r = some u ∧
      wpAny (model P w) X.A (letOwnedTupleGo tg (.ref it) u) (fun _ s2 => ∃ x H', Inv X pins σ H' s2 ∧ RelV x u ∧ J.yld i H x H' ∧ tn (i + 1) s2.heap ∧ ∀ b ∈ fp, H' b = none) E s1) E s
  done : ∀ (X : Cx), X.prog = P → X.w = w → X.K = K → X.calm = true → ∀ (i : Nat) (pins : List (Addr × Obj)) (s : Shared) (σ : St) (H : Hp) (E : Value → Shared → Prop), Inv X pins σ H s → (∀ b ∈ fp, FpOk X pins H b) → tn i s.heap → J.stop i H →
    wpAny (model P w) X.A (pyNext (.ref it)) (fun r s1 => r = none ∧ Inv X pins σ H s1) E s
  self : ∀ (A : Around) (i : Nat) (s : Shared) (Q : Value → Shared → Prop) (E : Value → Shared → Prop), tn i s.heap → Q (.ref it) s → wpAny (model P w) A (pyIter (.ref it)) Q E s
abbrev TI := St → Hp → (It → Hp → Prop) → Prop
def PIE (X : Cx) (pins : List (Addr × Obj)) (σ : St) (tg : Expr) (R : It → Hp → Prop) (itv : Value) (s2 : Shared) : Prop :=
  ∃ (it : Addr) (fp : List Addr) (tn : Nat → Heap → Prop) (J : It) (H' : Hp), itv = .ref it ∧ Inv X pins σ H' s2 ∧ Turn X.prog X.w X.K tg J fp it tn ∧ tn 0 s2.heap ∧ (∀ b ∈ fp, FpOk X pins H' b) ∧ R J H'
def PI (X : Cx) (tg iter : Expr) (wi : TI) : Prop :=
  ∀ (pins : List (Addr × Obj)) (s : Shared) (σ : St) (H : Hp) (R : It → Hp → Prop), Inv X pins σ H s → wi σ H R →
    wpAny (model X.prog X.w) X.A (eval iter X.env) (fun v s1 => wpAny (model X.prog X.w) X.A (pyIter v) (PIE X pins σ tg R) X.xe s1) X.xe s
theorem go_of {M : Model} {A : Around} {E : Value → Shared → Prop} {s : Shared} {tg : Expr} {it : Addr} {u : Value} {o : Obj} {n : String} {vs : Array Value} {Q : Unit → Shared → Prop} (ho : s.heap.get? it = some o) (hc : o.cls = .type n) (hd : o.data = .fields vs)
    (hn : ["enumerate", "zip", "dict_itemiterator", "dict_reverseitemiterator", "odict_iterator", "itertools.zip_longest", "itertools.pairwise"].contains n = false) (hQ : Q () s) : wpAny M A (letOwnedTupleGo tg (.ref it) u) Q E s := by
  unfold letOwnedTupleGo
  cases tg <;> first
    | exact wpAny_pure hQ
    | (cases u <;> first
        | exact wpAny_pure hQ
        | (refine wpAny_bind (wpAny_load ho ?_)
           rw [hc, hd]
           show wpAny M A (if (["enumerate", "zip", "dict_itemiterator", "dict_reverseitemiterator", "odict_iterator", "itertools.zip_longest", "itertools.pairwise"].contains n && vs[0]? == some (rawInt _)) = true then _ else _) Q E s
           rw [if_neg (by intro h; rw [hn, Bool.false_and] at h; cases h)]
           exact wpAny_pure hQ))
def Itl (K : PySem.W.Frag) (a : Addr) : It :=
  ⟨fun i H => ∃ xs x, SqL K H a xs ∧ xs[i]? = some x, fun i H x H' => H' = H ∧ ∀ xs, SqL K H a xs → xs[i]? = some x, fun i H => ∃ xs, SqL K H a xs ∧ xs.length ≤ i⟩
def Itt (K : PySem.W.Frag) (a : Addr) : It :=
  ⟨fun i H => ∃ xs x, SqT K H a xs ∧ xs[i]? = some x, fun i H x H' => H' = H ∧ ∀ xs, SqT K H a xs → xs[i]? = some x, fun i H => ∃ xs, SqT K H a xs ∧ xs.length ≤ i⟩
def Itr (lo : Int) (n : Nat) : It := ⟨fun i _ => i < n, fun i H x H' => H' = H ∧ x = .int (lo + i), fun i _ => n ≤ i⟩
theorem turn_list {P : Program} {w : World} {K : PySem.W.Frag} {tg : Expr} (a it : Addr) : Turn P w K tg (Itl K a) [it] it (fun i h => h.IsListIter it a i) where
  mem := by simp
  obj := fun i h st b hb => by
    have e : b = it := by simpa using hb
    subst e
    obtain ⟨o, e, c, d⟩ := st
    exact ⟨o, e, fun v z => by rw [d] at z; cases z⟩
  keep := fun i h h' st k => st.at fun o e => k it (by simp) o e
  item := by
    intro X hP hw hK hc i pins s σ H E I hf st hg
    subst hP hw hK
    obtain ⟨xs, x, hq, hx⟩ := hg
    obtain ⟨its, rv, p, hz⟩ := I.list hq
    obtain ⟨u, hu, ru⟩ := rv.get hx
    obtain ⟨f0, f1, f2, f3, f4, f5⟩ := hf it (by simp)
    refine wpAny_pyNext_list_item st p.isList (x := u) (by simpa using hu) fun h' st' sb => ?_
    have I1 : Inv X pins σ H { s with heap := h' } := I.turned (t' := s.toks) (fun b o hb e => (sb.2 b hb).trans e) f0 f1 f3 f4 f5
    obtain ⟨o, e, c, d⟩ := id st'
    exact ⟨u, rfl, go_of (s := { s with heap := h' }) e c d (by decide) ⟨x, H, I1, ru, ⟨rfl, fun ys hy => by rw [I.list_inj hy hq]; exact hx⟩, st', fun b hb => (hf b hb).1⟩⟩
  done := by
    intro X hP hw hK hc i pins s σ H E I hf st hg
    subst hP hw hK
    obtain ⟨xs, hq, hx⟩ := hg
    obtain ⟨its, rv, p, hz⟩ := I.list hq
    obtain ⟨f0, f1, f2, f3, f4, f5⟩ := hf it (by simp)
    have hl := rv.length
    exact wpAny_pyNext_list_end (I.ok.hd hc) st p.isList (by simp; omega) fun h' eb => ⟨rfl, I.turned (t' := s.toks) (fun b o hb e => eb b o hb e) f0 f1 f3 f4 f5⟩
  self := fun _ _ _ _ _ st h => wpAny_pyIter_listiter st h
theorem turn_tuple {P : Program} {w : World} {K : PySem.W.Frag} {tg : Expr} (a it : Addr) : Turn P w K tg (Itt K a) [it] it (fun i h => h.IsTupleIter it a i) where
  mem := by simp
  obj := fun i h st b hb => by
    have e : b = it := by simpa using hb
    subst e
    obtain ⟨o, e, c, d⟩ := st
    exact ⟨o, e, fun v z => by rw [d] at z; cases z⟩
  keep := fun i h h' st k => st.at fun o e => k it (by simp) o e
  item := by
    intro X hP hw hK hc i pins s σ H E I hf st hg
    subst hP hw hK
    obtain ⟨xs, x, hq, hx⟩ := hg
    obtain ⟨its, rv, p, hz⟩ := I.tuple hq
    obtain ⟨u, hu, ru⟩ := rv.get hx
    obtain ⟨f0, f1, f2, f3, f4, f5⟩ := hf it (by simp)
    refine wpAny_pyNext_tuple_item st (show s.heap.IsTuple a its.toArray from p) (x := u) (by simpa using hu) fun h' st' sb => ?_
    have I1 : Inv X pins σ H { s with heap := h' } := I.turned (t' := s.toks) (fun b o hb e => (sb.2 b hb).trans e) f0 f1 f3 f4 f5
    obtain ⟨o, e, c, d⟩ := id st'
    exact ⟨u, rfl, go_of (s := { s with heap := h' }) e c d (by decide) ⟨x, H, I1, ru, ⟨rfl, fun ys hy => by rw [I.tuple_inj hy hq]; exact hx⟩, st', fun b hb => (hf b hb).1⟩⟩
  done := by
    intro X hP hw hK hc i pins s σ H E I hf st hg
    subst hP hw hK
    obtain ⟨xs, hq, hx⟩ := hg
    obtain ⟨its, rv, p, hz⟩ := I.tuple hq
    obtain ⟨f0, f1, f2, f3, f4, f5⟩ := hf it (by simp)
    have hl := rv.length
    exact wpAny_pyNext_tuple_end (I.ok.hd hc) st (show s.heap.IsTuple a its.toArray from p) (by simp; omega) fun h' eb => ⟨rfl, I.turned (t' := s.toks) (fun b o hb e => eb b o hb e) f0 f1 f3 f4 f5⟩
  self := fun _ _ _ _ _ st h => wpAny_pyIter_tupleiter st h
theorem turn_range {P : Program} {w : World} {K : PySem.W.Frag} {tg : Expr} (it : Addr) (lo : Int) (n : Nat) : Turn P w K tg (Itr lo n) [it] it (fun i h => IsRangeIter h it (lo + (i : Nat) * 1) ((n : Int) - (i : Nat)) 1) where
  mem := by simp
  obj := fun i h st b hb => by
    have e : b = it := by simpa using hb
    subst e
    exact ⟨_, st, fun v z => by
      have z' : Data.fields _ = Data.cell v := z
      cases z'⟩
  keep := fun i h h' st k => k it (by simp) _ st
  item := by
    intro X hP hw hK hc i pins s σ H E I hf st hg
    subst hP hw hK
    obtain ⟨f0, f1, f2, f3, f4, f5⟩ := hf it (by simp)
    have W := Walks.range (prog := X.prog) (w := X.w) (I.ok.hd hc) it lo 1 n
    refine wpAny_with_toks (n := 1) I.tk (W.item i s _ _ hg st fun v h' tk hv st' kk htk => ?_)
    obtain ⟨t, rfl⟩ := hv
    have I1 : Inv X pins σ H { s with heap := h', toks := tk } := I.turned (fun b o hb e => kk b o (by simpa using hb) e) f0 f1 f3 f4 f5
    refine ⟨_, rfl, go_of (s := { s with heap := h', toks := tk }) (n := "range_iterator") st' rfl rfl (by decide) ⟨.int (lo + i), H, I1, ⟨t, ?_⟩, ⟨rfl, rfl⟩, st', fun b hb => (hf b hb).1⟩⟩
    rw [Int.mul_one]
  done := by
    intro X hP hw hK hc i pins s σ H E I hf st hg
    subst hP hw hK
    obtain ⟨f0, f1, f2, f3, f4, f5⟩ := hf it (by simp)
    exact wpAny_pyNext_range_end (I.ok.hd hc) st (by have : n ≤ i := hg; omega) fun h' eb => ⟨rfl, I.turned (t' := s.toks) (fun b o hb e => eb b o hb e) f0 f1 f3 f4 f5⟩
  self := fun _ _ _ _ _ st h => wpAny_pyIter_rangeiter st h
end L2
namespace L2
open PySem PySem.Spec PyProof.Rows
section
variable {X : Cx} {tg : Expr}
def iList (K : PySem.W.Frag) (tl : TE) : TI := fun σ H R => tl σ H fun x H1 => ∃ a, x = .ref a ∧ (∃ xs, SqL K H1 a xs) ∧ R (Itl K a) H1
def iTup (K : PySem.W.Frag) (tl : TE) : TI := fun σ H R => tl σ H fun x H1 => ∃ a, x = .ref a ∧ (∃ xs, SqT K H1 a xs) ∧ R (Itt K a) H1
theorem pi_list {l : Expr} {tl : TE} (hl : PE X l tl) : PI X tg l (iList X.K tl) := by
  intro pins s σ H R I h
  refine thn (hl pins s σ H _ I h) fun v s1 ⟨x, H1, I1, r1, q1⟩ => ?_
  obtain ⟨a, e, ⟨xs, hq⟩, q⟩ := q1
  subst e
  cases r1
  obtain ⟨its, rv, p, hz⟩ := I1.list hq
  refine wpAny_pyIter_list p.isList ?_
  refine ⟨s1.heap.objs.size, [s1.heap.objs.size], _, _, H1, rfl, I1.kept (t' := s1.toks) fun b o e => Heap.get?_push_of_some _ e, turn_list a _, ⟨_, Heap.get?_push_size _ rfl, rfl, rfl⟩, fun b hb => ?_, q⟩
  have e : b = s1.heap.objs.size := by simpa using hb
  subst e
  exact I1.fpOk (Nat.le_refl _) (I1.hok.fresh (Nat.le_refl _))
theorem pi_tup {l : Expr} {tl : TE} (hl : PE X l tl) : PI X tg l (iTup X.K tl) := by
  intro pins s σ H R I h
  refine thn (hl pins s σ H _ I h) fun v s1 ⟨x, H1, I1, r1, q1⟩ => ?_
  obtain ⟨a, e, ⟨xs, hq⟩, q⟩ := q1
  subst e
  cases r1
  obtain ⟨its, rv, p, hz⟩ := I1.tuple hq
  refine wpAny_pyIter_tuple (show s1.heap.IsTuple a its.toArray from p) ?_
  refine ⟨s1.heap.objs.size, [s1.heap.objs.size], _, _, H1, rfl, I1.kept (t' := s1.toks) fun b o e => Heap.get?_push_of_some _ e, turn_tuple a _, ⟨_, Heap.get?_push_size _ rfl, rfl, rfl⟩, fun b hb => ?_, q⟩
  have e : b = s1.heap.objs.size := by simpa using hb
  subst e
  exact I1.fpOk (Nat.le_refl _) (I1.hok.fresh (Nat.le_refl _))
theorem range_it {pins : List (Addr × Obj)} {σ : St} {H : Hp} {s : Shared} {R : It → Hp → Prop} {E : Value → Shared → Prop} {lo hi : Int} {t u v : Tok} {tk : Nat} (I : Inv X pins σ H s) (h1 : -(2 ^ 62) ≤ lo) (h2 : lo < 2 ^ 62) (h3 : -(2 ^ 62) ≤ hi) (h4 : hi < 2 ^ 62)
    (q : R (Itr lo (hi - lo).toNat) H) (htk : 0 < tk := by first | exact Nat.succ_pos _ | assumption | exact Inv.tk (by assumption) | omega) : wpAny (model X.prog X.w) X.A (pyIter (.ref s.heap.objs.size)) (PIE X pins σ tg R) E { s with heap := s.heap.push { cls := .type "range", data := .fields #[.int lo t, .int hi u, .int 1 v] }, toks := tk } := by
  refine wpAny_pyIter_range (IsRange.new ..) (small_one h1 h2 h3 h4) ?_
  have I1 : Inv X pins σ H { s with heap := s.heap.push { cls := .type "range", data := .fields #[.int lo t, .int hi u, .int 1 v] }, toks := tk } := I.kept fun b o e => Heap.get?_push_of_some _ e
  refine ⟨(s.heap.push { cls := .type "range", data := .fields #[.int lo t, .int hi u, .int 1 v] }).objs.size, [(s.heap.push { cls := .type "range", data := .fields #[.int lo t, .int hi u, .int 1 v] }).objs.size], _, _, H, rfl,
    I1.kept (t' := tk) fun b o e => Heap.get?_push_of_some _ e, turn_range _ lo (hi - lo).toNat, ?_, fun b hb => ?_, q⟩
  · have e1 : lo + ((0 : Nat) : Int) * 1 = lo := by simp
    have e2 : (((hi - lo).toNat : Nat) : Int) - ((0 : Nat) : Int) = Builtin.Range.rangeSize lo hi 1 := by rw [rangeSize_one]; split <;> omega
    show IsRangeIter _ _ (lo + ((0 : Nat) : Int) * 1) ((((hi - lo).toNat : Nat) : Int) - ((0 : Nat) : Int)) 1
    rw [e1, e2]
    exact Heap.get?_push_size _ rfl
  · have e : b = (s.heap.push { cls := .type "range", data := .fields #[.int lo t, .int hi u, .int 1 v] }).objs.size := by simpa using hb
    subst e
    exact I1.fpOk (Nat.le_refl _) (I1.hok.fresh (Nat.le_refl _))
def iRng1 (ta : TA) : TI := fun σ H R => ta σ H fun vs H1 => ∃ j : Int, vs = [.int j] ∧ -(2 ^ 62) ≤ j ∧ j < 2 ^ 62 ∧ R (Itr 0 j.toNat) H1
theorem pi_range1 {a : Expr} {ta : TA} {p pos : Pos} (hg : Gl X "range") (hm : X.mg "range" = none) (ha : PA X [a] ta) (hs : starEach [a] X.env = [(false, eval a X.env)] := by rfl) : PI X tg (.Call (.Name "range" p) [a] [] pos) (iRng1 ta) := by
  intro pins s σ H R I h
  refine Call_ (ld_blt I hg hm boot_range (PyProof.Rows.callWith_type1 (thn (ha pos pins s σ H _ I h) fun us s1 ⟨vs, H1, I1, r1, q1⟩ => ?_) hs rfl))
  obtain ⟨j, e, q1, q2, q⟩ := q1
  subst e
  cases r1 with
  | cons r rr =>
    cases rr
    obtain ⟨t, rfl⟩ := r
    exact call_range_1 (range_it I1 (by omega) (by omega) q1 q2 (by simpa using q))
def tFor (wi : TI) (g : TG) (tb : TS) : TS := fun D σ H => wi σ H fun J H1 => ∃ W : Nat → Nat → St → Hp → Prop, (∃ m, W 0 m σ H1) ∧ ∀ i m σ H, W i m σ H →
  (J.stop i H ∧ D.nx σ H) ∨ (J.go i H ∧ ∃ N : St → Hp → Prop, (∀ σ' H', N σ' H' → ∃ m', m' < m ∧ W (i + 1) m' σ' H') ∧ ∀ x H', J.yld i H x H' → g x σ H' fun σ2 H2 => tb { D with nx := N, ct := N, bk := D.nx } σ2 H2)
def pinsAt (fp : List Addr) (h : Heap) : List (Addr × Obj) := fp.filterMap fun b => (h.get? b).map fun o => (b, o)
theorem mem_pinsAt {fp : List Addr} {h : Heap} {b : Addr} {o : Obj} (hb : b ∈ fp) (e : h.get? b = some o) : (b, o) ∈ pinsAt fp h := List.mem_filterMap.mpr ⟨b, hb, by rw [e]; rfl⟩
theorem of_pinsAt {fp : List Addr} {h : Heap} {p : Addr × Obj} (hp : p ∈ pinsAt fp h) : p.1 ∈ fp ∧ h.get? p.1 = some p.2 := by
  obtain ⟨b, hb, e⟩ := List.mem_filterMap.mp hp
  cases q : h.get? b with
  | none => rw [q] at e; cases e
  | some o =>
    rw [q] at e
    have e' : (b, o) = p := Option.some.inj e
    subst e'
    exact ⟨hb, q⟩
theorem Inv.pinned {pins : List (Addr × Obj)} {σ : St} {H : Hp} {s : Shared} {fp : List Addr} (I : Inv X pins σ H s) (hf : ∀ b ∈ fp, FpOk X pins H b) (ho : ∀ b ∈ fp, ∃ o, s.heap.get? b = some o ∧ ∀ v, o.data ≠ .cell v) : Inv X (pins ++ pinsAt fp s.heap) σ H s :=
  I.pins_of fun p hp => (List.mem_append.mp hp).elim (fun z => I.pin p (List.mem_append_right _ z)) fun z => by
    obtain ⟨hb, e⟩ := of_pinsAt z
    obtain ⟨f0, f1, f2, _⟩ := hf p.1 hb
    obtain ⟨o, e', d⟩ := ho p.1 hb
    rw [e] at e'; cases e'
    exact ⟨e, f0, f1, f2, d⟩
theorem Inv.unpinned {pins pl : List (Addr × Obj)} {σ : St} {H : Hp} {s : Shared} (I : Inv X (pins ++ pl) σ H s) : Inv X pins σ H s := I.pins_of fun p hp => I.pin p (List.mem_append_right _ (List.mem_append_left _ hp))
theorem ps_for {iter : Expr} {body : List Stmt} {wi : TI} {g : TG} {tb : TS} {pos : Pos} (hp : PassesOwn (model X.prog X.w) X.A X.env X.xe) (hc : X.calm = true) (hi : PI X tg iter wi) (hg : PG X tg g) (hb : PSs X body tb)
    (hs : ∀ x, foldedSetIterable iter X.env x = pure x := by intro _; rfl) : PS X (.For tg iter body [] pos) (tFor wi g tb) := by
  intro pins s σ H D I h
  refine wpAny_For (thn (hi pins s σ H _ I h) fun v s1 h1 => thn h1 fun itv s2 h2 => ?_) hs
  obtain ⟨it, fp, tn, J, H2, e, I2, T, st2, f2, W, ⟨m0, w0⟩, turn⟩ := h2
  subst e
  have stat : ∀ {H' : Hp}, (∀ b ∈ fp, H' b = none) → ∀ b ∈ fp, FpOk X pins H' b := fun hn b hb => ⟨hn b hb, (f2 b hb).2⟩
  refine codeAny_forLoop_any (fun n s' => ∃ i σ' H', Inv X pins σ' H' s' ∧ tn i s'.heap ∧ (∀ b ∈ fp, H' b = none) ∧ W i n σ' H') ?_ m0 ⟨0, σ, H2, I2, st2, fun b hb => (f2 b hb).1, w0⟩
  rintro n s3 ⟨i, σ3, H3, I3, st3, fr3, w3⟩
  rcases turn i n σ3 H3 w3 with ⟨stop, qn⟩ | ⟨go, N, hN, step⟩
  · refine wpAny_passesOwn hp (thn (T.done X rfl rfl rfl hc i pins s3 σ3 H3 X.xe I3 (stat fr3) st3 stop) fun r s4 ⟨hr, I4⟩ => ?_)
    subst hr
    exact wpAny_execs_nil ⟨σ3, H3, I4, qn⟩
  · refine wpAny_passesOwn hp (thn (T.item X rfl rfl rfl hc i pins s3 σ3 H3 X.xe I3 (stat fr3) st3 go) fun r s4 ⟨u, hr, h4⟩ => ?_)
    subst hr
    refine wpAny_passesOwn hp (thn h4 fun _ s5 ⟨x, H5, I5, r5, y5, st5, fr5⟩ => ?_)
    have I5' := I5.pinned (stat fr5) (T.obj _ _ st5)
    refine wpAny_passesOwn hp (thn (hg _ s5 σ3 H5 x u _ I5' r5 (step x H5 y5)) fun _ s6 ⟨σ6, H6, I6, q6⟩ => ?_)
    refine wpAny_passesOwn hp (thn (hb _ s6 σ6 H6 _ I6 q6) fun f s7 q7 => ?_)
    have again : ∀ {σ7 : St} {H7 : Hp}, Inv X (pins ++ pinsAt fp s5.heap) σ7 H7 s7 → N σ7 H7 → ∃ m, m < n ∧ ∃ i σ' H', Inv X pins σ' H' s7 ∧ tn i s7.heap ∧ (∀ b ∈ fp, H' b = none) ∧ W i m σ' H' := fun {σ7 H7} I7 n7 => by
      obtain ⟨m', hm, w7⟩ := hN σ7 H7 n7
      refine ⟨m', hm, i + 1, σ7, H7, I7.unpinned, T.keep _ _ _ st5 fun b hb o e => (I7.pin (b, o) (List.mem_append_right _ (List.mem_append_right _ (mem_pinsAt hb e)))).1, fun b hb => ?_, w7⟩
      obtain ⟨o, e, d⟩ := T.obj _ _ st5 b hb
      exact (I7.pin (b, o) (List.mem_append_right _ (List.mem_append_right _ (mem_pinsAt hb e)))).2.1
    cases f with
    | next => obtain ⟨σ7, H7, I7, n7⟩ := q7; exact again I7 n7
    | cont => obtain ⟨σ7, H7, I7, n7⟩ := q7; exact again I7 n7
    | brk => obtain ⟨σ7, H7, I7, q7⟩ := q7; exact ⟨σ7, H7, I7.unpinned, q7⟩
    | ret v => obtain ⟨x7, σ7, H7, I7, r7, q7⟩ := q7; exact ⟨x7, σ7, H7, I7.unpinned, r7, q7⟩
end
end L2
namespace L2
open PySem PySem.Spec PyProof.Rows
abbrev R2 := V → V → Hp → VK → Prop
def OpR (X : Cx) (f : Value → Value → Sem Value) (r : R2) : Prop :=
  ∀ (pins : List (Addr × Obj)) (s : Shared) (σ : St) (H : Hp) (x y : V) (v u : Value) (Q : VK), Inv X pins σ H s → RelV x v → RelV y u → r x y H Q →
    wpAny (model X.prog X.w) X.A (f v u) (EP X pins σ Q) X.xe s
def UnR (X : Cx) (f : Value → Sem Value) (r : V → Hp → VK → Prop) : Prop :=
  ∀ (pins : List (Addr × Obj)) (s : Shared) (σ : St) (H : Hp) (x : V) (v : Value) (Q : VK), Inv X pins σ H s → RelV x v → r x H Q →
    wpAny (model X.prog X.w) X.A (f v) (EP X pins σ Q) X.xe s
def CallR (X : Cx) (f : Value) (r : List V → Hp → VK → Prop) : Prop :=
  ∀ (pins : List (Addr × Obj)) (s : Shared) (σ : St) (H : Hp) (xs : List V) (us : List Value) (Q : VK), Inv X pins σ H s → Vals xs us → r xs H Q →
    wpAny (model X.prog X.w) X.A (call f us) (EP X pins σ Q) X.xe s
def TruR (X : Cx) (r : V → Hp → (Bool → Hp → Prop) → Prop) : Prop :=
  ∀ (pins : List (Addr × Obj)) (s : Shared) (σ : St) (H : Hp) (x : V) (v : Value) (Q : Bool → Hp → Prop), Inv X pins σ H s → RelV x v → r x H Q →
    wpAny (model X.prog X.w) X.A (truthy v) (TP X pins σ Q) X.xe s
def tOp (r : R2) (ta tb : TE) : TE := fun σ H Q => ta σ H fun x H1 => tb σ H1 fun y H2 => r x y H2 Q
def tUn (r : V → Hp → VK → Prop) (ta : TE) : TE := fun σ H Q => ta σ H fun x H1 => r x H1 Q
def rI (C : Int → Int → Prop) (g : Int → Int → V) : R2 := fun x y H Q => ∃ i j, x = .int i ∧ y = .int j ∧ C i j ∧ Q (g i j) H
def rI0 (g : Int → Int → V) : R2 := fun x y H Q => ∃ i j, x = .int i ∧ y = .int j ∧ Q (g i j) H
def rU (g : Int → V) : V → Hp → VK → Prop := fun x H Q => ∃ i, x = .int i ∧ Q (g i) H
section
variable {X : Cx} {a b c : Expr} {ta tb tc : TE} {pos : Pos}
theorem binT (ha : PE X a ta) (hb : PE X b tb) {pins : List (Addr × Obj)} {s : Shared} {σ : St} {H : Hp} {R : V → V → Hp → Prop} (I : Inv X pins σ H s)
    (h : ta σ H fun x H1 => tb σ H1 fun y H2 => R x y H2) {Q : Value → Shared → Prop} {f : Value → Value → Sem Value}
    (hf : ∀ v u s2 x y H2, Inv X pins σ H2 s2 → RelV x v → RelV y u → R x y H2 → wpAny (model X.prog X.w) X.A (f v u) Q X.xe s2) :
    wpAny (model X.prog X.w) X.A (eval a X.env) (fun v s₁ => wpAny (model X.prog X.w) X.A (eval b X.env) (fun u s₂ => wpAny (model X.prog X.w) X.A (f v u) Q X.xe s₂) X.xe s₁) X.xe s := by
  refine thn (ha pins s σ H _ I h) fun v s1 ⟨x, H1, I1, r1, q1⟩ => ?_
  refine thn (hb pins s1 σ H1 _ I1 q1) fun u s2 ⟨y, H2, I2, r2, q2⟩ => ?_
  exact hf v u s2 x y H2 I2 r1 r2 q2
theorem pe_op {op : Operator} {r : R2} (ho : OpR X (binaryOp op) r) (ha : PE X a ta) (hb : PE X b tb) : PE X (.BinOp a op b pos) (tOp r ta tb) := by
  intro pins s σ H Q I h
  exact wpAny_BinOp (binT ha hb I h fun v u s2 x y H2 I2 rx ry q => ho pins s2 σ H2 x y v u Q I2 rx ry q)
theorem pe_un {op : UnaryOp} {r : V → Hp → VK → Prop} (ho : UnR X (unaryOp op) r) (ha : PE X a ta) : PE X (.UnaryOp op a pos) (tUn r ta) := by
  intro pins s σ H Q I h
  exact UnaryOp_ (thn (ha pins s σ H _ I h) fun v s1 ⟨x, H1, I1, r1, q1⟩ => ho pins s1 σ H1 x v Q I1 r1 q1)
theorem opI {f : Value → Value → Sem Value} {C : Int → Int → Prop} {g : Int → Int → Int}
    (rule : ∀ (i j : Int) (t u : Tok) (s : Shared) (Q : Value → Shared → Prop) (E : Value → Shared → Prop), C i j → Q (.int (g i j) s.toks) { s with toks := s.toks + 1 } → wpAny (model X.prog X.w) X.A (f (.int i t) (.int j u)) Q E s) :
    OpR X f (rI C fun i j => .int (g i j)) := by
  intro pins s σ H x y v u Q I rx ry h
  obtain ⟨i, j, rfl, rfl, hc, q⟩ := h
  obtain ⟨t, rfl⟩ := rx
  obtain ⟨t', rfl⟩ := ry
  exact rule i j t t' s _ _ hc ⟨.int (g i j), H, I.tok _, ⟨_, rfl⟩, q⟩
theorem opI0 {f : Value → Value → Sem Value} {g : Int → Int → Int}
    (rule : ∀ (i j : Int) (t u : Tok) (s : Shared) (Q : Value → Shared → Prop) (E : Value → Shared → Prop), Q (.int (g i j) s.toks) { s with toks := s.toks + 1 } → wpAny (model X.prog X.w) X.A (f (.int i t) (.int j u)) Q E s) :
    OpR X f (rI0 fun i j => .int (g i j)) := by
  intro pins s σ H x y v u Q I rx ry h
  obtain ⟨i, j, rfl, rfl, q⟩ := h
  obtain ⟨t, rfl⟩ := rx
  obtain ⟨t', rfl⟩ := ry
  exact rule i j t t' s _ _ ⟨.int (g i j), H, I.tok _, ⟨_, rfl⟩, q⟩
theorem opB0 {f : Value → Value → Sem Value} {g : Int → Int → Bool}
    (rule : ∀ (i j : Int) (t u : Tok) (s : Shared) (Q : Value → Shared → Prop) (E : Value → Shared → Prop), Q (.bool (g i j)) s → wpAny (model X.prog X.w) X.A (f (.int i t) (.int j u)) Q E s) :
    OpR X f (rI0 fun i j => .bl (g i j)) := by
  intro pins s σ H x y v u Q I rx ry h
  obtain ⟨i, j, rfl, rfl, q⟩ := h
  obtain ⟨t, rfl⟩ := rx
  obtain ⟨t', rfl⟩ := ry
  exact rule i j t t' s _ _ ⟨.bl (g i j), H, I, rfl, q⟩
def CDiv (i j : Int) : Prop := 0 < j ∧ j < 1073741824
def CMul (i j : Int) : Prop := (-(2 ^ 64) < i ∧ i < 2 ^ 64) ∨ (-(2 ^ 64) < j ∧ j < 2 ^ 64)
theorem CMul.ok {i j : Int} (h : CMul i j) : IntMulOk i j := by
  rcases h with ⟨h1, h2⟩ | ⟨h1, h2⟩
  · exact .of_left (intBits_le_64 h1 h2)
  · exact .of_right (intBits_le_64 h1 h2)
theorem op_add : OpR X (binaryOp .Add) (rI0 fun i j => .int (i + j)) := opI0 fun _ _ _ _ _ _ _ q => add_int q
theorem op_sub : OpR X (binaryOp .Sub) (rI0 fun i j => .int (i - j)) := opI0 fun _ _ _ _ _ _ _ q => sub_int q
theorem op_mul : OpR X (binaryOp .Mult) (rI CMul fun i j => .int (i * j)) := opI fun _ _ _ _ _ _ _ hc q => mul_int q hc.ok
theorem op_fdiv : OpR X (binaryOp .FloorDiv) (rI CDiv fun i j => .int (i / j)) := opI fun i j _ _ _ _ _ hc q => by
  have h1 : (0 : Int) < j := hc.1
  have h2 : j < 1073741824 := hc.2
  exact floordiv_int (by omega) (by rw [Int.fdiv_eq_ediv_of_nonneg i (by omega)]; exact q) (.inl (PyProof.noPylong_small (by omega)))
theorem op_mod : OpR X (binaryOp .Mod) (rI (fun _ j => 0 < j) fun i j => .int (i % j)) := opI fun i j _ _ _ _ _ hc q => by
  have h1 : (0 : Int) < j := hc
  exact mod_int' (by omega) (by rw [Int.fmod_eq_emod_of_nonneg i (by omega)]; exact q)
theorem unI {f : Value → Sem Value} {g : Int → Int}
    (rule : ∀ (i : Int) (t : Tok) (s : Shared) (Q : Value → Shared → Prop) (E : Value → Shared → Prop), Q (.int (g i) s.toks) { s with toks := s.toks + 1 } → wpAny (model X.prog X.w) X.A (f (.int i t)) Q E s) :
    UnR X f (rU fun i => .int (g i)) := by
  intro pins s σ H x v Q I rx h
  obtain ⟨i, rfl, q⟩ := h
  obtain ⟨t, rfl⟩ := rx
  exact rule i t s _ _ ⟨.int (g i), H, I.tok _, ⟨_, rfl⟩, q⟩
theorem un_neg : UnR X (unaryOp .USub) (rU fun i => .int (-i)) := unI fun _ _ _ _ _ q => neg_int q
end
def scal : V → V → Bool
  | .non, .non => true | .non, .int _ => true | .int _, .non => true | .non, .bl _ => true | .bl _, .non => true | .non, .str _ => true | .str _, .non => true
  | .int _, .int _ => true | .bl _, .bl _ => true | .str _, .str _ => true | .byt _, .byt _ => true
  | .int _, .str _ => true | .str _, .int _ => true | .bl _, .str _ => true | .str _, .bl _ => true
  | _, _ => false
def rEq : R2 := fun x y H Q => scal x y = true ∧ Q (.bl (decide (x = y))) H
def rNe : R2 := fun x y H Q => scal x y = true ∧ Q (.bl (!decide (x = y))) H
theorem dec_int {i j : Int} : decide (V.int i = V.int j) = (i == j) := by
  rw [Bool.eq_iff_iff]
  simp
theorem dec_bl {i j : Bool} : decide (V.bl i = V.bl j) = (i == j) := by
  rw [Bool.eq_iff_iff]
  simp
theorem dec_str {i j : Str} : decide (V.str i = V.str j) = (i == j) := by
  rw [Bool.eq_iff_iff]
  simp
theorem dec_byt {i j : Array UInt8} : decide (V.byt i = V.byt j) = (i.toList == j.toList) := by
  rw [Bool.eq_iff_iff]
  cases i
  cases j
  simp
section
variable {X : Cx} {a b c : Expr} {ta tb tc : TE} {pos : Pos}
theorem fin_bl {pins : List (Addr × Obj)} {σ : St} {H : Hp} {s : Shared} {Q : VK} {k k' : Bool} (I : Inv X pins σ H s) (q : Q (.bl k) H) (e : k = k') : EP X pins σ Q (.bool k') s := by
  subst e
  exact ⟨.bl k, H, I, rfl, q⟩
theorem op_eq : OpR X (compareOp .Eq) rEq := by
  intro pins s σ H x y v u Q I rx ry h
  obtain ⟨hs, q⟩ := h
  cases x with
  | non =>
    cases rx
    cases y with
    | non => cases ry; exact PySem.EqNone.eq_none_none (fin_bl I q (by simp))
    | bl j => cases ry; exact PySem.EqNone.eq_none_bool (fin_bl I q (by simp))
    | int j => obtain ⟨t', rfl⟩ := ry; exact PySem.EqNone.eq_none_int (fin_bl I q (by simp))
    | str j => obtain ⟨t', rfl⟩ := ry; exact PySem.EqNone.eq_none_str (fin_bl I q (by simp))
    | _ => exact absurd (show false = true from hs) Bool.false_ne_true
  | bl i =>
    cases rx
    cases y with
    | non => cases ry; exact PySem.EqNone.eq_bool_none (fin_bl I q (by simp))
    | bl j => cases ry; exact eq_bool (fin_bl I q dec_bl)
    | str j => obtain ⟨t', rfl⟩ := ry; exact PySem.EqMixed.eq_bool_str (fin_bl I q (by simp))
    | _ => exact absurd (show false = true from hs) Bool.false_ne_true
  | int i =>
    obtain ⟨t, rfl⟩ := rx
    cases y with
    | non => cases ry; exact PySem.EqNone.eq_int_none (fin_bl I q (by simp))
    | int j => obtain ⟨t', rfl⟩ := ry; exact eq_int (fin_bl I q dec_int)
    | str j => obtain ⟨t', rfl⟩ := ry; exact PySem.EqMixed.eq_int_str (fin_bl I q (by simp))
    | _ => exact absurd (show false = true from hs) Bool.false_ne_true
  | str i =>
    obtain ⟨t, rfl⟩ := rx
    cases y with
    | non => cases ry; exact PySem.EqNone.eq_str_none (fin_bl I q (by simp))
    | bl j => cases ry; exact PySem.EqMixed.eq_str_bool (fin_bl I q (by simp))
    | int j => obtain ⟨t', rfl⟩ := ry; exact PySem.EqMixed.eq_str_int (fin_bl I q (by simp))
    | str j => obtain ⟨t', rfl⟩ := ry; exact eq_str (fin_bl I q dec_str)
    | _ => exact absurd (show false = true from hs) Bool.false_ne_true
  | byt i =>
    obtain ⟨t, rfl⟩ := rx
    cases y with
    | byt j => obtain ⟨t', rfl⟩ := ry; exact PySem.W.eq_bytes (fin_bl I q dec_byt)
    | _ => exact absurd (show false = true from hs) Bool.false_ne_true
  | _ => cases y <;> exact absurd (show false = true from hs) Bool.false_ne_true
theorem op_ne : OpR X (compareOp .NotEq) rNe := by
  intro pins s σ H x y v u Q I rx ry h
  obtain ⟨hs, q⟩ := h
  cases x with
  | non =>
    cases rx
    cases y with
    | non => cases ry; exact PySem.EqNone.ne_none_none (fin_bl I q (by simp))
    | bl j => cases ry; exact PySem.EqNone.ne_none_bool (fin_bl I q (by simp))
    | int j => obtain ⟨t', rfl⟩ := ry; exact PySem.EqNone.ne_none_int (fin_bl I q (by simp))
    | str j => obtain ⟨t', rfl⟩ := ry; exact PySem.EqNone.ne_none_str (fin_bl I q (by simp))
    | _ => exact absurd (show false = true from hs) Bool.false_ne_true
  | bl i =>
    cases rx
    cases y with
    | non => cases ry; exact PySem.EqNone.ne_bool_none (fin_bl I q (by simp))
    | bl j => cases ry; exact ne_bool (fin_bl I q (congrArg not dec_bl))
    | str j => obtain ⟨t', rfl⟩ := ry; exact PySem.EqMixed.ne_bool_str (fin_bl I q (by simp))
    | _ => exact absurd (show false = true from hs) Bool.false_ne_true
  | int i =>
    obtain ⟨t, rfl⟩ := rx
    cases y with
    | non => cases ry; exact PySem.EqNone.ne_int_none (fin_bl I q (by simp))
    | int j => obtain ⟨t', rfl⟩ := ry; exact ne_int (fin_bl I q (congrArg not dec_int))
    | str j => obtain ⟨t', rfl⟩ := ry; exact PySem.EqMixed.ne_int_str (fin_bl I q (by simp))
    | _ => exact absurd (show false = true from hs) Bool.false_ne_true
  | str i =>
    obtain ⟨t, rfl⟩ := rx
    cases y with
    | non => cases ry; exact PySem.EqNone.ne_str_none (fin_bl I q (by simp))
    | bl j => cases ry; exact PySem.EqMixed.ne_str_bool (fin_bl I q (by simp))
    | int j => obtain ⟨t', rfl⟩ := ry; exact PySem.EqMixed.ne_str_int (fin_bl I q (by simp))
    | str j => obtain ⟨t', rfl⟩ := ry; exact ne_str (fin_bl I q (congrArg not dec_str))
    | _ => exact absurd (show false = true from hs) Bool.false_ne_true
  | byt i =>
    obtain ⟨t, rfl⟩ := rx
    cases y with
    | byt j => obtain ⟨t', rfl⟩ := ry; exact PySem.W.ne_bytes (fin_bl I q (congrArg not dec_byt))
    | _ => exact absurd (show false = true from hs) Bool.false_ne_true
  | _ => cases y <;> exact absurd (show false = true from hs) Bool.false_ne_true
theorem op_lt : OpR X (compareOp .Lt) (rI0 fun i j => .bl (decide (i < j))) := opB0 fun _ _ _ _ _ _ _ q => lt_int q
theorem op_gt : OpR X (compareOp .Gt) (rI0 fun i j => .bl (decide (j < i))) := opB0 fun _ _ _ _ _ _ _ q => gt_int q
theorem op_lt_str : OpR X (compareOp .Lt) (fun x y H Q => ∃ i j, x = .str i ∧ y = .str j ∧ Q (.bl (decide (i.cps.toList < j.cps.toList))) H) := by
  intro pins s σ H x y v u Q I rx ry h
  obtain ⟨i, j, rfl, rfl, q⟩ := h
  obtain ⟨t, rfl⟩ := rx
  obtain ⟨t', rfl⟩ := ry
  exact lt_str (fin_bl I q rfl)
theorem op_in_str : OpR X (compareOp .In) (fun x y H Q => ∃ i j, x = .str i ∧ y = .str j ∧ Q (.bl (!(Builtin.Str.occurrences j i 0 j.length 1).isEmpty)) H) := by
  intro pins s σ H x y v u Q I rx ry h
  obtain ⟨i, j, rfl, rfl, q⟩ := h
  obtain ⟨t, rfl⟩ := rx
  obtain ⟨t', rfl⟩ := ry
  exact in_str (fin_bl I q rfl)
theorem OpR.or {f : Value → Value → Sem Value} {r r' : R2} (h : OpR X f r) (h' : OpR X f r') : OpR X f (fun x y H Q => r x y H Q ∨ r' x y H Q) := by
  intro pins s σ H x y v u Q I rx ry q
  rcases q with q | q
  · exact h pins s σ H x y v u Q I rx ry q
  · exact h' pins s σ H x y v u Q I rx ry q
theorem nomark (b : Expr) {op : CmpOp} (h : op ≠ .In := by decide) (h2 : op ≠ .NotIn := by decide) : behindInMarks op b = false := by
  have e1 : (op == CmpOp.In) = false := by cases op <;> first | rfl | exact absurd rfl h
  have e2 : (op == CmpOp.NotIn) = false := by cases op <;> first | rfl | exact absurd rfl h2
  cases b <;> simp [behindInMarks, e1, e2]
theorem pe_cmpR {op : CmpOp} {r : R2} (ho : OpR X (compareOp op) r) (ha : PE X a ta) (hb : PE X b tb) (hm : behindInMarks op b = false) : PE X (.Compare a [op] [b] pos) (tOp r ta tb) := by
  intro pins s σ H Q I h
  exact wpAny_Compare1 (binT ha hb I h fun v u s2 x y H2 I2 rx ry q => ho pins s2 σ H2 x y v u Q I2 rx ry q) hm
def tTest (t : TE) : TT := fun σ H Q => t σ H fun x H' => ∃ k, x = .bl k ∧ Q k H'
theorem pt_cmpR {op : CmpOp} {r : R2} (ho : OpR X (compareOp op) r) (ha : PE X a ta) (hb : PE X b tb) (hm : behindInMarks op b = false) : PT X (.Compare a [op] [b] pos) (tTest (tOp r ta tb)) := by
  intro pins s σ H Q I h
  refine wpAny_isTrue_Compare1 (thn (ha pins s σ H _ I h) fun v s1 ⟨x, H1, I1, r1, q1⟩ => thn (hb pins s1 σ H1 _ I1 q1) fun u s2 ⟨y, H2, I2, r2, q2⟩ =>
    thn (ho pins s2 σ H2 x y v u _ I2 r1 r2 q2) fun c s3 ⟨z, H3, I3, r3, k, e, q3⟩ => ?_) hm
  subst e
  cases r3
  exact wpAny_truthy_bool ⟨H3, I3, q3⟩
def TruV (K : PySem.W.Frag) (x : V) (H : Hp) (k : Bool) : Prop :=
  match x with
  | .non => k = false
  | .bl b => k = b
  | .int i => k = (i != 0)
  | .str y => y.length ≤ sizeLine ∧ k = ((y.length : Int) != 0)
  | .byt y => y.size ≤ sizeLine ∧ k = ((y.size : Int) != 0)
  | .ref p => (∃ xs, SqL K H p xs ∧ k = !xs.isEmpty) ∨ (∃ xs, SqT K H p xs ∧ k = !xs.isEmpty) ∨ ∃ kvs, H p = some (.dK kvs) ∧ k = !kvs.isEmpty
  | _ => False
theorem isEmpty_kv {κ : Type} {kvs : List (κ × V)} {vs : List (κ × Value)} (r : KV kvs vs) : (!vs.isEmpty) = !kvs.isEmpty := by
  cases r <;> rfl
theorem isEmpty_of {xs : List V} {its : List Value} (r : Vals xs its) : (!its.toArray.isEmpty) = !xs.isEmpty := by
  cases r <;> simp
theorem line63 : (sizeLine : Nat) < 2 ^ 63 := by rw [sizeLine_eq]; decide
theorem tru_ok : TruR X (fun x H Q => ∃ k, TruV X.K x H k ∧ Q k H) := by
  intro pins s σ H x v Q I rx h
  obtain ⟨k, e, q⟩ := h
  have hl := line63
  have hs : sizeLine = 16777216 := sizeLine_eq
  cases x with
  | non =>
    cases rx
    have e' : k = false := e
    subst e'
    exact truthy_none ⟨H, I, q⟩
  | bl b =>
    cases rx
    have e' : k = b := e
    subst e'
    exact wpAny_truthy_bool ⟨H, I, q⟩
  | int i =>
    obtain ⟨t, rfl⟩ := rx
    have e' : k = (i != 0) := e
    subst e'
    exact PySem.P.truthy_int ⟨H, I, q⟩
  | str y =>
    obtain ⟨t, rfl⟩ := rx
    obtain ⟨hy, e'⟩ : y.length ≤ sizeLine ∧ k = ((y.length : Int) != 0) := e
    subst e'
    exact PySem.P.truthy_str (by omega) ⟨H, I.tok _, q⟩
  | byt y =>
    obtain ⟨t, rfl⟩ := rx
    obtain ⟨hy, e'⟩ : y.size ≤ sizeLine ∧ k = ((y.size : Int) != 0) := e
    subst e'
    exact PySem.W.truthy_bytes (by omega) ⟨H, I.tok _, q⟩
  | ref p =>
    cases rx
    have e' : (∃ xs, SqL X.K H p xs ∧ k = !xs.isEmpty) ∨ (∃ xs, SqT X.K H p xs ∧ k = !xs.isEmpty) ∨ ∃ kvs, H p = some (.dK kvs) ∧ k = !kvs.isEmpty := e
    rcases e' with ⟨xs, hx, e'⟩ | ⟨xs, hx, e'⟩ | ⟨kvs, hx, e'⟩
    · subst e'
      obtain ⟨its, r, pl, hz⟩ := I.list hx
      have hlen := r.length
      exact wpAny_truthy_list pl.isList (by simp only [List.size_toArray]; omega) ⟨H, I.tok _, by rw [isEmpty_of r]; exact q⟩
    · subst e'
      obtain ⟨its, r, pl, hz⟩ := I.tuple hx
      have hlen := r.length
      exact truthy_tuple pl (by simp only [List.size_toArray]; omega) ⟨H, I.tok _, by rw [isEmpty_of r]; exact q⟩
    · subst e'
      obtain ⟨hz, hS, vs, r, m⟩ : kvs.length ≤ sizeLine ∧ (p == sysModules) = false ∧ ∃ vs, KV kvs vs ∧ s.heap.DictOf (mixKind X.prog X.w) p vs := I.hok p _ hx
      have hlen : kvs.length = vs.length := Paired.length r
      exact wpAny_truthy_dict hS m (by omega) ⟨H, I.tok _, by rw [isEmpty_kv r]; exact q⟩
  | _ => exact (show False from e).elim
theorem pt_truth (ha : PE X a ta) (he : ∀ whole, isTrue a X.env whole = (do let v ← whole; standAt a.pos; holding [v] (truthy v))) :
    PT X a (fun σ H Q => ta σ H fun x H' => ∃ k, TruV X.K x H' k ∧ Q k H') := by
  intro pins s σ H Q I h
  exact isTrue_plain (thn (ha pins s σ H _ I h) fun v s1 ⟨x, H1, I1, r1, q1⟩ => tru_ok pins s1 σ H1 x v Q I1 r1 q1) (he _)
theorem op_add_str : OpR X (binaryOp .Add) (fun x y H Q => ∃ i j, x = .str i ∧ y = .str j ∧ i.length + j.length ≤ sizeLine ∧ Q (.str (i ++ j)) H) := by
  intro pins s σ H x y v u Q I rx ry h
  obtain ⟨i, j, rfl, rfl, hz, q⟩ := h
  obtain ⟨t, rfl⟩ := rx
  obtain ⟨t', rfl⟩ := ry
  exact wpAny_with_toks (n := 1) I.tk (add_str (fun t' tk htk => ⟨.str (i ++ j), H, I.tok _ htk, ⟨_, rfl⟩, q⟩) hz)
theorem vals1 {x : V} {us : List Value} (r : Vals [x] us) : ∃ u, us = [u] ∧ RelV x u := by
  cases r with
  | cons r1 r2 => cases r2; exact ⟨_, rfl, r1⟩
theorem vals2 {x y : V} {us : List Value} (r : Vals [x, y] us) : ∃ u w', us = [u, w'] ∧ RelV x u ∧ RelV y w' := by
  cases r with
  | cons r1 r2 =>
    cases r2 with
    | cons r3 r4 => cases r4; exact ⟨_, _, rfl, r1, r3⟩
theorem call_int1 : CallR X (.type "int") (fun xs H Q => (∃ i, xs = [.int i] ∧ Q (.int i) H) ∨ ∃ k, xs = [.bl k] ∧ Q (.int (if k then 1 else 0)) H) := by
  intro pins s σ H xs us Q I r h
  rcases h with ⟨i, rfl, q⟩ | ⟨k, rfl, q⟩
  · obtain ⟨u, rfl, t, rfl⟩ := vals1 r
    exact call_int_int ⟨.int i, H, I, ⟨_, rfl⟩, q⟩
  · obtain ⟨u, rfl, r1⟩ := vals1 r
    cases r1
    exact call_int_bool ⟨.int (if k then 1 else 0), H, I.tok _, ⟨_, rfl⟩, q⟩
end
end L2
namespace L2
open PySem PySem.Spec PyProof.Rows
structure ObjM (h : Heap) (x dx C : Addr) (mA : Str → Option Value) : Prop where
  obj : h.get? x = some (PySem.W.instObj C dx)
  ns : h.Ns1 dx mA
  ne : dx ≠ x
theorem lookIn_ns {h : Heap} {dx : Addr} {mA : Str → Option Value} (n : h.Ns1 dx mA) : ∃ od, h.get? dx = some od ∧ ∀ name, PySem.W.lookIn name od = some (mA name) := by
  obtain ⟨o, es, ep, ho, hd, hk, _, hm⟩ := n
  refine ⟨o, ho, fun name => ?_⟩
  have e := hm name
  unfold nsFind findBy at e
  rw [← Array.find?_toList] at e
  unfold PySem.W.lookIn
  rw [hd]
  dsimp only
  split
  · rename_i y q
    rw [q] at e
    exact congrArg some e
  · rename_i q
    rw [q] at e
    have a : es.toList.any (·.refKey) = false := by
      rw [List.any_eq_false]
      intro y hy
      obtain ⟨z, t, hkey⟩ := hk y (Array.mem_toList_iff.mp hy)
      simp [DictEntry.refKey, hkey]
    have a' : ¬ es.toList.any (·.refKey) = true := by rw [a]; exact Bool.false_ne_true
    rw [if_neg a']
    exact congrArg some e
theorem ObjM.look {h : Heap} {x dx C : Addr} {mA : Str → Option Value} (I : ObjM h x dx C mA) : ∃ od, PySem.W.InstAt h x (PySem.W.instObj C dx) C (some od) ∧ ∀ name, PySem.W.lookIn name od = some (mA name) :=
  let ⟨od, ho, hl⟩ := lookIn_ns I.ns
  ⟨od, ⟨I.obj, rfl, rfl, ho⟩, hl⟩
theorem RelO.some_of {v : V} {o : Option Value} (r : RelO (some v) o) : ∃ u, o = some u ∧ RelV v u := by
  cases o with
  | none => exact (show False from r).elim
  | some u => exact ⟨u, rfl, r⟩
section
variable {P : Program} {w : World} {H H' : Hp} {h h' : Heap} {a C dx : Addr} {fs fs' : List (Str × V)}
theorem ins_get (hok : HOk P w H h) (e : H a = some (.ins C dx fs)) : ∃ mA, ObjM h a dx C mA ∧ (∀ f, RelO (fs.lookup f) (mA f)) ∧ PySem.Within mA (fs.map (·.1)) ∧ fs.length ≤ 1000 ∧ H dx = some (.own a) := by
  obtain ⟨d, z, ne, ob, mA, n, r, q⟩ := (show ObjOk P w H h a (.ins C dx fs) from hok a _ e)
  exact ⟨mA, ⟨ob, n, ne⟩, r, q, z, d⟩
end
structure Cls (K : PySem.W.Frag) (C : Addr) : Prop where
  pg : PySem.W.plainGet K C Str.empty = true
  hd : PySem.W.hasDictIn K C = true
  po : PySem.W.plainOver K C = true
  sa : PySem.W.findIn K (.ref C) "__setattr__" = some (some (.builtin "object.__setattr__"))
theorem Cls.get {K : PySem.W.Frag} {C : Addr} (c : Cls K C) (f : Str) : PySem.W.plainGet K C f = true := c.pg
def NoAttr (K : PySem.W.Frag) (C : Addr) (f : Str) : Prop := PySem.W.findIn K (.ref C) f = some none
structure Con (K : PySem.W.Frag) (C : Addr) (f : Str) (v : V) (u : Value) : Prop where
  at_ : PySem.W.findIn K (.ref C) f = some (some u)
  rel : RelV v u
  get : PySem.W.specialIn K u "__get__" = some none
  cp : PySem.W.copiedNames.contains f = false
structure Meth (K : PySem.W.Frag) (C : Addr) (m : Str) (f : Addr) : Prop where
  at_ : PySem.W.findIn K (.ref C) m = some (some (.ref f))
  fn : PySem.W.isFn K (.ref f) = true
  kp : PySem.W.keepIn K (.ref f) = true
section
variable {X : Cx} {pins : List (Addr × Obj)} {σ : St} {H : Hp} {s : Shared} {A : Around} {E : Value → Shared → Prop} {Q : Value → Shared → Prop} {c : Value} {b : Bool}
inductive TyOf (K : PySem.W.Frag) (H : Hp) : V → Value → Prop where
  | non : TyOf K H .non (.type "NoneType")
  | bl (x : Bool) : TyOf K H (.bl x) (.type "bool")
  | int (i : Int) : TyOf K H (.int i) (.type "int")
  | str (x : Str) : TyOf K H (.str x) (.type "str")
  | flt (x : UInt64) : TyOf K H (.flt x) (.type "float")
  | lst {a : Addr} {xs : List V} (e : H a = some (.lst xs)) : TyOf K H (.ref a) (.type "list")
  | frz {a : Addr} {o : Obj} {xs : List V} (e : H a = some (.frz o (.lst xs))) : TyOf K H (.ref a) (.type "list")
  | tup {a : Addr} {xs : List V} (e : H a = some (.tup xs)) : TyOf K H (.ref a) (.type "tuple")
  | dK {a : Addr} {kvs : List (Key × V)} (e : H a = some (.dK kvs)) : TyOf K H (.ref a) (.type "dict")
  | dT {a : Addr} {kvs : List (List Key × V)} (e : H a = some (.dT kvs)) : TyOf K H (.ref a) (.type "dict")
  | ins {a C dx : Addr} {fs : List (Str × V)} (e : H a = some (.ins C dx fs)) (cl : Cls K C) (ha : PySem.W.findIn K (.ref C) "__class__" = some (some (.builtin "object.__class__")))
      (hn : PySem.W.specialIn K (.builtin "object.__class__") "__get__" = some (some (.builtin "getset_descriptor.__get__"))) (htk : PySem.W.takesIn K (.builtin "object.__class__") = some true)
      (hm : PySem.W.mroIn K C (.type "object") = some true) : TyOf K H (.ref a) (.ref C)
theorem isinst_ok {x : V} {u t : Value} (I : Inv X pins σ H s) (rx : RelV x u) (ty : TyOf X.K H x t) (e : PySem.W.kitOne X.K t c = some b) (h : ∀ tk, Q (.bool b) { s with toks := tk }) :
    wpAny (model X.prog X.w) A (call (.builtin "isinstance") [u, c]) Q E s := by
  cases ty with
  | non => cases (show u = Value.none from rx); exact PySem.W.kia_one PySem.W.kitx_none I.kIn True.intro e (fun z => nomatch z) h
  | bl y => cases (show u = Value.bool y from rx); exact PySem.W.kia_one PySem.W.kitx_bool I.kIn True.intro e (fun z => nomatch z) h
  | int i => obtain ⟨t, q⟩ := (show ∃ t, u = Value.int i t from rx); cases q; exact PySem.W.kia_one PySem.W.kitx_int I.kIn True.intro e (fun z => nomatch z) h
  | str y => obtain ⟨t, q⟩ := (show ∃ t, u = Value.str y t from rx); cases q; exact PySem.W.kia_one PySem.W.kitx_str I.kIn True.intro e (fun z => nomatch z) h
  | flt y => obtain ⟨t, q⟩ := (show ∃ t, u = Value.float y t from rx); cases q; exact PySem.W.kia_one PySem.W.kitx_float I.kIn True.intro e (fun z => nomatch z) h
  | @lst a xs ea =>
    cases (show u = Value.ref a from rx)
    obtain ⟨_, _, n, _, h1⟩ := (show ObjOk X.prog X.w H s.heap a (.lst xs) from I.hok a _ ea)
    exact PySem.W.kia_one PySem.W.kitx_list I.kIn ⟨_, h1, rfl⟩ e (fun z => nomatch z) h
  | @frz a ob xs ea =>
    cases (show u = Value.ref a from rx)
    obtain ⟨_, _, _, n, _, h1⟩ := (show ObjOk X.prog X.w H s.heap a (.frz ob (.lst xs)) from I.hok a _ ea)
    exact PySem.W.kia_one PySem.W.kitx_list I.kIn ⟨_, h1, rfl⟩ e (fun z => nomatch z) h
  | @tup a xs ea =>
    cases (show u = Value.ref a from rx)
    obtain ⟨_, _, _, p⟩ := (show ObjOk X.prog X.w H s.heap a (.tup xs) from I.hok a _ ea)
    obtain ⟨o, h1, h2, _⟩ := p
    exact PySem.W.kia_one PySem.W.kitx_tuple I.kIn ⟨o, h1, h2⟩ e (fun z => nomatch z) h
  | @dK a kvs ea =>
    cases (show u = Value.ref a from rx)
    obtain ⟨_, _, vs, _, p⟩ := (show ObjOk X.prog X.w H s.heap a (.dK kvs) from I.hok a _ ea)
    obtain ⟨o, es, ep, h1, h2, _⟩ := p
    exact PySem.W.kia_one PySem.W.kitx_dict I.kIn ⟨o, h1, h2.1⟩ e (fun z => nomatch z) h
  | @dT a kvs ea =>
    cases (show u = Value.ref a from rx)
    obtain ⟨_, _, xs, _, o, es, ep, h1, h2, _⟩ := (show ObjOk X.prog X.w H s.heap a (.dT kvs) from I.hok a _ ea)
    exact PySem.W.kia_one PySem.W.kitx_dict I.kIn ⟨o, h1, h2.1⟩ e (fun z => nomatch z) h
  | @ins a C dx fs ea cl ha hn htk hm =>
    cases (show u = Value.ref a from rx)
    obtain ⟨mA, O, _⟩ := ins_get I.hok ea
    obtain ⟨od, J, _⟩ := O.look
    exact PySem.W.kia_one (PySem.W.kitx_own (cl.get _) cl.hd ha hn htk hm) I.kIn J e (fun z => nomatch z) h
end
end L2
namespace L2
open PySem PySem.Spec PyProof.Rows
structure Room (k : Nat) (A : Around) : Prop where
  hd : A.handled = none
  dp : A.depth + 3 * k + 5 < recursionLimit
  un : A.units + 16 * k + 200 < cLine
theorem Room.mono {j k : Nat} {A : Around} (r : Room k A) (h : j ≤ k) : Room j A := ⟨r.hd, by have := r.dp; omega, by have := r.un; omega⟩
theorem Room.deeper {k : Nat} {A : Around} (r : Room (k + 1) A) (env : Env) : Room k (A.deeper env) :=
  ⟨r.hd, by have := r.dp; show A.depth + 1 + 3 * k + 5 < _; omega, by have := r.un; show A.units + 3 + 16 * k + 200 < _; omega⟩
theorem Room.depth {k : Nat} {A : Around} (r : Room k A) : A.depth < recursionLimit := by have := r.dp; omega
theorem Room.units {k : Nat} {A : Around} (r : Room k A) : A.units + 64 < cLine := by have := r.un; omega
theorem Room.units0 {k : Nat} {A : Around} (r : Room k A) : A.units < cLine := by have := r.un; omega
def tNil : TA := fun _ H Q => Q [] H
def tCons (ta : TE) (tr : TA) : TA := fun σ H Q => ta σ H fun x H1 => tr σ H1 fun xs H2 => Q (x :: xs) H2
section
variable {X : Cx} {e : Expr} {es : List Expr} {te : TE} {t : TA} {pos : Pos}
theorem pa_nil : PA X [] tNil := fun _ _ _ _ H Q I h => Calls.spliced_nil ⟨[], H, I, .nil, h⟩
theorem pa_cons (ha : PE X e te) (hr : PA X es t) (hs : starEach (e :: es) X.env = (false, eval e X.env) :: starEach es X.env := by rfl) : PA X (e :: es) (tCons te t) := by
  intro pos pins s σ H Q I h
  rw [hs]
  show wpAny _ _ (spliced ((false, eval e X.env) :: backTo pos (starEach es X.env))) _ _ s
  refine Calls.spliced_cons (thn (ha pins s σ H _ I h) fun u s1 ⟨x, H1, I1, r1, q1⟩ => ?_)
  exact thn (hr pos pins s1 σ H1 _ I1 q1) fun us s2 ⟨xs, H2, I2, r2, q2⟩ => ⟨x :: xs, H2, I2, .cons r1 r2, q2⟩
def tTup (t : TA) : TE := fun σ H Q => t σ H fun xs H1 => xs.length ≤ sizeLine ∧ ∀ p, H1 p = none → Q (.ref p) (upd H1 p (.tup xs))
def tLst (t : TA) : TE := fun σ H Q => t σ H fun xs H1 => xs.length ≤ sizeLine ∧ ∀ p, H1 p = none → Q (.ref p) (upd H1 p (.lst xs))
theorem pe_tup {x1} (h : PA X es t) : PE X (.Tuple es x1 pos) (tTup t) := by
  intro pins s σ H Q I hq
  refine wpAny_Tuple_spliced (thn (h pos pins s σ H _ I hq) fun us s1 ⟨xs, H1, I1, r, z, q⟩ => ⟨by rw [← r.length]; exact z, ?_⟩)
  have hf : H1 s1.heap.objs.size = none := I1.hok.fresh (Nat.le_refl _)
  refine ⟨.ref s1.heap.objs.size, upd H1 s1.heap.objs.size (.tup xs), I1.laid (t' := s1.toks) (fun b u e => Heap.get?_push_of_some _ e) (Nat.le_refl _) ?_, rfl, q _ hf⟩
  exact ⟨z, us, r, ⟨_, Heap.get?_push_size _ rfl, rfl, _, rfl⟩⟩
theorem pe_lst (h : PA X es t) : PE X (.List es pos) (tLst t) := by
  intro pins s σ H Q I hq
  refine wpAny_List_spliced (thn (h pos pins s σ H _ I hq) fun us s1 ⟨xs, H1, I1, r, z, q⟩ => ⟨by rw [← r.length]; exact z, ?_⟩)
  have hf : H1 s1.heap.objs.size = none := I1.hok.fresh (Nat.le_refl _)
  refine ⟨.ref s1.heap.objs.size, upd H1 s1.heap.objs.size (.lst xs), I1.laid (t' := s1.toks) (fun b u e => Heap.get?_push_of_some _ e) (Nat.le_refl _) ?_, rfl, q _ hf⟩
  exact ⟨z, us, 0, r, Heap.get?_push_size _ rfl⟩
end
abbrev Sp := List V → Hp → VK → XK → Prop
abbrev CXT := List Env → Hp → Shared → XK → Value → Shared → Prop
structure Env0 (P : Program) (w : World) (K : PySem.W.Frag) (mg : Str → Option Value) (base : Heap) (A : Around) (outer : List Env) (s : Shared) (H : Hp) : Prop where
  frames : A.frames = some outer
  mod : Mod K mg base
  bs : ∀ b o, base.get? b = some o → s.heap.get? b = some o ∧ H b = none
  bsz : base.objs.size ≤ s.heap.objs.size
  funs : s.heap.FunFrames base outer
  frf : ∀ b ∈ frs outer, H b = none
  hok : HOk P w H s.heap
  bare : AllBare s.gens
def CE (outer : List Env) (P : Program) (w : World) (H : Hp) (s : Shared) (Q : VK) (u : Value) (s' : Shared) : Prop :=
  ∃ v H', s'.os = s.os ∧ AllBare s'.gens ∧ Un (frs outer) [] H H' s.heap s'.heap ∧ HOk P w H' s'.heap ∧ RelV v u ∧ Q v H'
def CR (CX : CXT) (outer : List Env) (P : Program) (w : World) (H : Hp) (s : Shared) (Q : VK) (E : XK) (r : Result) (s' : Shared) : Prop :=
  match r with
  | .ok (.ret u) => CE outer P w H s Q u s'
  | .ok _ => False
  | .error e => CX outer H s E e s'
structure FnOk (P : Program) (w : World) (K : PySem.W.Frag) (mg : Str → Option Value) (base : Heap) (CX : CXT) (k : Nat) (f : Addr) (fd : FuncData) (ps : List Str) (sp : Sp) : Prop where
  len : ∀ vs H Q E, sp vs H Q E → vs.length = ps.length
  run : ∀ (A : Around) (outer : List Env) (s : Shared) (H : Hp) (args : Args) (us : List Value) (vs : List V) (Q : VK) (E : XK), Room k A → Env0 P w K mg base A outer s H → (0 < s.toks ∨ ∃ p ∈ ps, fd.scope.names.lookup p = some .local) → BindsTo s fd args (ps.zip us) → Vals vs us → sp vs H Q E →
    codeAny (model P w) A (.call (.ref f) args) (CR CX outer P w H s Q E) s
section
variable {X : Cx} {pins : List (Addr × Obj)} {σ : St} {H : Hp} {s s' : Shared}
theorem Inv.env0 (I : Inv X pins σ H s) : Env0 X.prog X.w X.K X.mg X.base X.A X.stack s H :=
  ⟨I.ok.frames, I.ok.mod, I.bs, Nat.le_trans I.ok.bsz I.sz, I.stack, I.stkFree, I.hok, I.bare⟩
theorem Inv.after {Q : VK} {u : Value} (I : Inv X pins σ H s) (h : CE X.stack X.prog X.w H s Q u s') (ht : 0 < s'.toks) : EP X pins σ Q u s' := by
  obtain ⟨v, H', os, bare, un, hok, r, q⟩ := h
  obtain ⟨hh, g, d, t, os'⟩ := s'
  obtain rfl : os' = s.os := os
  exact ⟨v, H', I.call (h' := hh) (g' := g) (d' := d) (t' := t) (ch := []) un hok bare (fun b z => absurd z (by simp)) ht, r, q⟩
end
def tCall (sp : Sp) (dvs : List V) (E : XK) (t : TA) : TE := fun σ H Q => t σ H fun vs H1 => sp (vs ++ dvs) H1 Q E
def Binds (K : PySem.W.Frag) (fd : FuncData) (ps : List Str) (ds : List Value) : Prop :=
  ∀ (s : Shared) (us : List Value), K.In s.heap → (us ++ ds).length = ps.length → BindsTo s fd ⟨us, []⟩ (ps.zip (us ++ ds))
theorem Binds.all {K : PySem.W.Frag} {fd : FuncData} {ps : List Str} (h : ∀ us : List Value, us.length = ps.length → bindArgs fd ⟨us, []⟩ = pure (ps.zip us)) : Binds K fd ps [] := fun s us _ hl => by
  rw [List.append_nil] at hl ⊢
  exact .of_eq (h us hl)
def Passes (CX : CXT) (X : Cx) (E : XK) : Prop := ∀ (pins : List (Addr × Obj)) (σ : St) (H : Hp) (s : Shared) (e : Value) (s' : Shared), Inv X pins σ H s → CX X.stack H s E e s' → X.xe e s'
section
variable {X : Cx} {CX : CXT} {k : Nat} {f C : Addr} {fd : FuncData} {ps : List Str} {sp : Sp} {dvs : List V} {ds : List Value} {E : XK} {x m : Str} {p pos apos : Pos} {e o : Expr} {es : List Expr} {ta : TE} {t : TA}
theorem run_fn {pins : List (Addr × Obj)} {σ : St} {H : Hp} {s : Shared} {Q : VK} {us : List Value} {vs : List V} (F : FnOk X.prog X.w X.K X.mg X.base CX k f fd ps sp) (hr : Room k X.A) (hb : Binds X.K fd ps ds) (hd : Vals dvs ds) (hx : Passes CX X E)
    (I : Inv X pins σ H s) (r : Vals vs us) (h : sp (vs ++ dvs) H Q E) : wpAny (model X.prog X.w) X.A (call (.ref f) us) (EP X pins σ Q) X.xe s := by
  have r2 : Vals (vs ++ dvs) (us ++ ds) := r.append hd
  have hl : (us ++ ds).length = ps.length := by rw [← r2.length]; exact F.len _ _ _ _ h
  refine wpAny_call (codeAny_mono (codeAny_toks_of (n := 1) I.tk (F.run X.A X.stack s H ⟨us, []⟩ (us ++ ds) (vs ++ dvs) Q E hr I.env0 (.inl I.tk) (hb s us I.kIn hl) r2 h)) fun r s' ⟨htk, hq⟩ => ?_)
  cases r with
  | error e => exact hx pins σ H s e s' I hq
  | ok fl =>
    cases fl with
    | ret u => exact I.after hq htk
    | next => exact False.elim hq
    | brk => exact False.elim hq
    | cont => exact False.elim hq
theorem pe_call (F : FnOk X.prog X.w X.K X.mg X.base CX k f fd ps sp) (hr : Room k X.A) (hg : Gl X x) (hm : X.mg x = some (.ref f)) (hk : PySem.W.keepIn X.K (.ref f) = true) (hb : Binds X.K fd ps ds) (hd : Vals dvs ds) (hx : Passes CX X E)
    (ha : PA X (e :: es) t) (hdb : (x == ("__debug__" : Str)) = false := by decide) (he : starEach (e :: es) X.env = (false, eval e X.env) :: starEach es X.env := by rfl) (hpl : (backTo pos (starEach es X.env)).any (·.1) = false := by rfl) :
    PE X (.Call (.Name x p) (e :: es) [] pos) (tCall sp dvs E t) := by
  intro pins s σ H Q I h
  refine wpAny_Call_Name_kw (ld_glob I hg hm ?_ hdb)
  refine PySem.W.callWith_K (h₀ := X.base) I.ok.mod.kin hk (thn (ha pos pins s σ H _ I h) fun us s1 ⟨vs, H1, I1, r, q⟩ => ⟨I1.kIn, ?_⟩) he hpl
  exact run_fn F hr hb hd hx I1 r q
theorem pe_call0 (F : FnOk X.prog X.w X.K X.mg X.base CX k f fd ps sp) (hr : Room k X.A) (hg : Gl X x) (hm : X.mg x = some (.ref f)) (hk : PySem.W.keepIn X.K (.ref f) = true) (hb : Binds X.K fd ps ds) (hd : Vals dvs ds) (hx : Passes CX X E)
    (hdb : (x == ("__debug__" : Str)) = false := by decide) : PE X (.Call (.Name x p) [] [] pos) (tCall sp dvs E tNil) := by
  intro pins s σ H Q I h
  refine wpAny_Call_Name_kw (ld_glob I hg hm ?_ hdb)
  exact PySem.W.callWith_K0 I.kIn hk (run_fn (us := []) F hr hb hd hx I .nil h)
structure Mk (K : PySem.W.Frag) (C f : Addr) : Prop where
  makes : PySem.W.makesIn K C = true
  init : PySem.W.findIn K (.ref C) "__init__" = some (some (.ref f))
  fn : PySem.W.isFn K (.ref f) = true
  kp : PySem.W.keepIn K (.ref C) = true
end
section
variable {X : Cx} {CX : CXT} {k : Nat} {f C : Addr} {fd : FuncData} {ps ks : List Str} {sp : Sp} {E : XK} {x m : Str} {p pos apos kpos : Pos} {e o : Expr} {es : List Expr} {kws : List Keyword} {te ta : TE} {t tk : TA} {nm : Option Str}
structure KBinds (K : PySem.W.Frag) (fd : FuncData) (ps ks : List Str) (g : List Value → List Value → List Value) (gV : List V → List V → List V) : Prop where
  to : ∀ (s : Shared) (us ws : List Value), K.In s.heap → (g us ws).length = ps.length → BindsTo s fd ⟨us, ks.zip ws⟩ (ps.zip (g us ws))
  rel : ∀ {vs : List V} {us : List Value} {zs : List V} {ws : List Value}, Vals vs us → Vals zs ws → Vals (gV vs zs) (g us ws)
variable {g : List Value → List Value → List Value} {gV : List V → List V → List V}
end
structure FnScope (N P : List Str) (sc : Scope) : Prop where
  kind : sc.kind = .function
  co : sc.isCoroutine = false
  gen : sc.isGenerator = false
  nd : N.Nodup
  pre : N.take P.length = P
  par : ∀ x ∈ P, sc.names.lookup x = some .local ∨ sc.names.lookup x = some .cell
  nofree : ∀ y ∈ sc.names, y.2 ≠ .free
theorem bindL_out {kindOf : Str → Option NameKind} {x : Str} : ∀ {binds : List (Str × Value)} {m : Str → Option Value}, (∀ v, (x, v) ∉ binds) → bindL kindOf binds m x = m x
  | [], _, _ => rfl
  | (n, v) :: r, m, h => by
    unfold bindL
    rw [bindL_out fun w hw => h w (List.mem_cons_of_mem _ hw)]
    split
    · have : x ≠ n := by rintro rfl; exact h v List.mem_cons_self
      simp [this]
    · rfl
theorem bindC_out {kindOf : Str → Option NameKind} {x : Str} : ∀ {binds : List (Str × Value)} {m : Str → Option Value}, (∀ v, (x, v) ∉ binds) → bindC kindOf binds m x = m x
  | [], _, _ => rfl
  | (n, v) :: r, m, h => by
    unfold bindC
    rw [bindC_out fun w hw => h w (List.mem_cons_of_mem _ hw)]
    split
    · rfl
    · have : x ≠ n := by rintro rfl; exact h v List.mem_cons_self
      simp [this]
theorem bindL_get {kindOf : Str → Option NameKind} {x : Str} {v : Value} : ∀ {P : List Str} {vs : List Value} {i : Nat} {m : Str → Option Value}, P.Nodup → P[i]? = some x → vs[i]? = some v → kindOf x = some .local →
    bindL kindOf (P.zip vs) m x = some v
  | [], _, _, _, _, h, _, _ => by simp at h
  | _ :: _, [], _, _, _, _, h, _ => by simp at h
  | p :: P, w :: vs, 0, m, nd, h1, h2, hk => by
    simp at h1 h2; subst h1; subst h2
    show bindL kindOf ((p, w) :: P.zip vs) m p = _
    unfold bindL
    rw [bindL_out fun v hv => (List.nodup_cons.mp nd).1 (List.of_mem_zip hv).1, if_pos hk]
    simp
  | p :: P, w :: vs, i + 1, m, nd, h1, h2, hk => by
    show bindL kindOf ((p, w) :: P.zip vs) m x = _
    unfold bindL
    exact bindL_get (i := i) (List.nodup_cons.mp nd).2 (by simpa using h1) (by simpa using h2) hk
theorem bindC_get {kindOf : Str → Option NameKind} {x : Str} {v : Value} : ∀ {P : List Str} {vs : List Value} {i : Nat} {m : Str → Option Value}, P.Nodup → P[i]? = some x → vs[i]? = some v → kindOf x ≠ some .local →
    bindC kindOf (P.zip vs) m x = some v
  | [], _, _, _, _, h, _, _ => by simp at h
  | _ :: _, [], _, _, _, _, h, _ => by simp at h
  | p :: P, w :: vs, 0, m, nd, h1, h2, hk => by
    simp at h1 h2; subst h1; subst h2
    show bindC kindOf ((p, w) :: P.zip vs) m p = _
    unfold bindC
    rw [bindC_out fun v hv => (List.nodup_cons.mp nd).1 (List.of_mem_zip hv).1, if_neg hk]
    simp
  | p :: P, w :: vs, i + 1, m, nd, h1, h2, hk => by
    show bindC kindOf ((p, w) :: P.zip vs) m x = _
    unfold bindC
    exact bindC_get (i := i) (List.nodup_cons.mp nd).2 (by simpa using h1) (by simpa using h2) hk
def start (N : List Str) (vs : List V) : St := vs.map some ++ List.replicate (N.length - vs.length) none
def cxOf (CX : CXT) (P : Program) (w : World) (K : PySem.W.Frag) (mg : Str → Option Value) (base : Heap) (N : List Str) (qual : Str) (scope : Scope) (f : Addr) (cd : Value) (A : Around) (outer : List Env) (s : Shared) (H : Hp) (E : XK) : Cx where
  prog := P
  w := w
  K := K
  mg := mg
  base := base
  A := A.deeper (envOfC qual scope s.heap.objs.size f cd)
  N := N
  s₀ := s
  H₀ := H
  env := envOfC qual scope s.heap.objs.size f cd
  outer := outer
  stack := envOfC qual scope s.heap.objs.size f cd :: outer
  ex := []
  calm := true
  fn := fun _ => true
  pn := []
  xe := fun e s' => wpAny (model P w) (A.deeper (envOfC qual scope s.heap.objs.size f cd)) (leaving (envOfC qual scope s.heap.objs.size f cd) e) (fun _ s'' => CX outer H s E e s'') (fun e' s'' => CX outer H s E e' s'') s'
theorem cell_has {sc : Scope} {n : Nat} {x : Str} (h : sc.names.lookup x = some .cell) : ∃ c, (cellsFrom n sc.names []).lookup x = some c := by
  have q := PySem.W.cellsFrom_some sc.names n [] (.inl h)
  exact Option.isSome_iff_exists.mp q
theorem bindParamsT {M : Model} {A : Around} {E : Value → Shared → Prop} {s₀ : Shared} {env : Env} (f : Str × Value → PUnit → Sem (ForInStep PUnit)) (hf : ∀ n v u, f (n, v) u = (do storeName env n v; pure (.yield ⟨⟩))) (hk : env.scope.kind = .function) :
    ∀ (binds : List (Str × Value)) (m cm : Str → Option Value) (s : Shared) (Q : PUnit → Shared → Prop), InCallC s₀ env.locals m env.cells cm s →
      (∀ x ∈ binds, env.kindOf x.1 = some .local ∨ (env.kindOf x.1 = some .cell ∧ (env.cells.lookup x.1).isSome = true)) →
      (∀ s', InCallC s₀ env.locals (bindL env.kindOf binds m) env.cells (bindC env.kindOf binds cm) s' → ((0 < s.toks ∨ ∃ b ∈ binds, env.kindOf b.1 = some .local) → 0 < s'.toks) → Q ⟨⟩ s') → wpAny M A (forIn binds ⟨⟩ f) Q E s
  | [], m, cm, s, Q, x, _, h => by
    rw [List.forIn_nil]
    exact wpAny_pure (h s x fun z => z.elim id fun ⟨b, hb, _⟩ => absurd hb (by simp))
  | (n, v) :: r, m, cm, s, Q, x, hkind, h => by
    rw [List.forIn_cons, hf]
    have hr : ∀ y ∈ r, env.kindOf y.1 = some .local ∨ (env.kindOf y.1 = some .cell ∧ (env.cells.lookup y.1).isSome = true) := fun y hy => hkind y (List.mem_cons_of_mem _ hy)
    rcases hkind (n, v) List.mem_cons_self with hl | ⟨hl, hc⟩
    · refine wpAny_bind (wpAny_bind (wpAny_storeName_local hl x.toInCall.ns (fun h' hn' hs' => wpAny_pure (bindParamsT f hf hk r (fun y => if y = n then some v else m y) cm _ Q ⟨⟨?_, hn', fun b o e => ?_, x.toInCall.fresh⟩, fun k c hc => ?_, x.apart, x.above⟩ hr fun s'' x'' ht => h s'' ?_ fun _ => ht (.inl (Nat.succ_pos _)))) (by rw [hk]; rfl)))
      · obtain ⟨h₁, tk, rfl⟩ := x.toInCall.same
        exact ⟨h', _, rfl⟩
      · exact hs'.extBut b o (Nat.ne_of_lt (Nat.lt_of_lt_of_le (Heap.lt_size e) x.toInCall.fresh)) (x.toInCall.keep b o e)
      · exact (x.cell k c hc).sameBut hs' (Nat.ne_of_gt (x.above k c (PySem.mem_of_lookup hc)))
      · unfold bindL bindC; rw [if_pos hl, if_pos hl]; exact x''
    · obtain ⟨c, hc⟩ := Option.isSome_iff_exists.mp hc
      have hnl : ¬ env.kindOf n = some .local := by rw [hl]; decide
      refine wpAny_bind (wpAny_bind (wpAny_with_toks (n := s.toks) (Nat.le_refl _) (stCC x hk hl hc fun s' x' hle => wpAny_pure (bindParamsT f hf hk r m _ s' Q x' hr fun s'' x'' ht => h s'' ?_ fun z => ht ?_))))
      · unfold bindL bindC; rw [if_neg hnl, if_neg hnl]; exact x''
      · rcases z with z | ⟨b, hb, hbl⟩
        · exact .inl (Nat.lt_of_lt_of_le z hle)
        · rcases List.mem_cons.mp hb with rfl | hb
          · exact absurd hbl hnl
          · exact .inr ⟨b, hb, hbl⟩
theorem newEnvT {M : Model} {A : Around} {E : Value → Shared → Prop} {s : Shared} {scope : Scope} {globals : Addr} {binds : List (Str × Value)} {qual : Str} {func : Option Addr} {code : Value} {builtins : Addr} {Q : Env → Shared → Prop}
    (hk : scope.kind = .function)
    (hkind : ∀ x ∈ binds, scope.names.lookup x.1 = some .local ∨ (scope.names.lookup x.1 = some .cell ∧ ((cellsFrom (s.heap.objs.size + 1) scope.names []).lookup x.1).isSome = true))
    (hQ : ∀ env, env = newEnv scope s.heap.objs.size globals (cellsFrom (s.heap.objs.size + 1) scope.names []) qual func code none builtins →
      ∀ s', InCallC s env.locals (bindL env.kindOf binds fun _ => none) env.cells (bindC env.kindOf binds fun _ => none) s' → ((0 < s.toks ∨ ∃ b ∈ binds, scope.names.lookup b.1 = some .local) → 0 < s'.toks) → Q env s') :
    wpAny M A (newFunctionEnv scope globals [] binds qual func code none builtins) Q E s := by
  simp only [newFunctionEnv, Option.isSome_none, Bool.false_eq_true, if_false]
  refine wpAny_bind (wpAny_alloc ?_)
  refine wpAny_bind (wpAny_layCells _ (fun name kind cells => by cases hkc : kind == NameKind.cell <;> simp [hkc]) _ _ _ _ ?_)
  have ok := cellsFrom_ok scope.names (s.heap.push { cls := .type "frame", data := .dict #[] }) (s.heap.objs.size + 1) [] ⟨fun _ _ hm => (nomatch hm), List.Pairwise.nil⟩ (by rw [Heap.size_push]; exact Nat.le_refl _)
  rw [Heap.size_push] at ok
  rw [show ({ s with heap := s.heap.push { cls := .type "frame", data := .dict #[] } } : Shared).heap.objs.size = s.heap.objs.size + 1 from Heap.size_push ..]
  refine wpAny_bind (bindParamsT (s₀ := s) (env := newEnv scope s.heap.objs.size globals (cellsFrom (s.heap.objs.size + 1) scope.names []) qual func code none builtins)
    _ (fun _ _ _ => rfl) hk binds (fun _ => none) (fun _ => none) _ _
    ⟨⟨⟨_, _, rfl⟩, (Heap.Ns.new s.heap (.type "frame")).keeps (pushCells_keeps _ _), fun b o e => pushCells_keeps _ _ b o (Heap.get?_push_of_some _ e), Nat.le_refl _⟩,
      fun n c hc => (ok.empty n c (PySem.mem_of_lookup hc)).1, ok.apart, fun n c hm => (ok.empty n c hm).2⟩
    hkind fun s' x ht => wpAny_pure (hQ _ rfl s' x ht))
theorem inv_start {CX : CXT} {P : Program} {w : World} {K : PySem.W.Frag} {mg : Str → Option Value} {base : Heap} {N ps : List Str} {qual : Str} {scope : Scope} {f : Addr} {cd : Value} {A : Around} {outer : List Env} {s s1 : Shared} {H : Hp} {E : XK} {us : List Value} {vs : List V}
    (S : FnScope N ps scope) (hd : A.handled = none) (e0 : Env0 P w K mg base A outer s H) (hl : vs.length = ps.length) (r : Vals vs us)
    (x : InCallC s s.heap.objs.size (bindL (envOfC qual scope s.heap.objs.size f cd).kindOf (ps.zip us) fun _ => none) (cellsFrom (s.heap.objs.size + 1) scope.names []) (bindC (envOfC qual scope s.heap.objs.size f cd).kindOf (ps.zip us) fun _ => none) s1) (ht : 0 < s1.toks) :
    Inv (cxOf CX P w K mg base N qual scope f cd A outer s H E) [] (start N vs) H s1 := by
  have hpl : ps.length ≤ N.length := by have := congrArg List.length S.pre; rw [List.length_take] at this; omega
  obtain ⟨h1, tk, rfl, hk⟩ := x.done
  have noA : ∀ b : Addr, b ∉ (cxOf CX P w K mg base N qual scope f cd A outer s H E).ex := fun b z => absurd (show b ∈ ([] : List Addr) from z) (by simp)
  refine ⟨⟨e0.mod, S.kind, rfl, rfl, Nat.le_refl _, fun y z c h1 h2 => ?_, fun y hy => ?_, fun y c _ h => ?_, fun _ => hd, Around.frames_deeper e0.frames, .inr ⟨rfl, rfl⟩, fun b z => absurd z (noA b), e0.bs, e0.bsz, fun b _ _ => noA b, fun b z => absurd z (noA b), e0.funs, e0.frf⟩,
    rfl, e0.bare, Un.kept hk, ⟨_, x.toInCall.ns, fun i y v h1 h2 h3 => ?_⟩, fun y c h => ⟨_, x.cell y c h⟩, e0.hok.fresh (Nat.le_refl _), fun y c h => ?_, fun p hp => absurd (show p ∈ ([] : List (Addr × Obj)) from hp) (by simp), e0.hok.kept hk, ?_, ht⟩
  · exact name_of_addr x.apart (PySem.mem_of_lookup h1) (PySem.mem_of_lookup h2)
  · have hy : scope.names.lookup y = some .cell ∨ scope.names.lookup y = some .free := hy
    rcases hy with hy | hy
    · exact cell_has hy
    · exact absurd rfl (S.nofree _ (PySem.mem_of_lookup hy))
  · exact Nat.le_of_lt (x.above y c (PySem.mem_of_lookup h))
  · have hi : i < vs.length := by
      unfold start at h2
      by_cases hi : i < vs.length
      · exact hi
      · rw [List.getElem?_append_right (by simpa using hi)] at h2
        rw [List.getElem?_replicate] at h2
        split at h2 <;> cases h2
    have ha : vs[i]? = some v := by
      unfold start at h2
      rw [List.getElem?_append_left (by simpa using hi), List.getElem?_map] at h2
      cases e : vs[i]? with
      | none => rw [e] at h2; cases h2
      | some a => rw [e] at h2; cases h2; rfl
    obtain ⟨u, hu, rv⟩ := r.get ha
    have hp : ps[i]? = some y := by
      rw [← S.pre, List.getElem?_take_of_lt (by omega)]; exact h1
    have ndP : ps.Nodup := by rw [← S.pre]; exact S.nd.sublist (List.take_sublist _ _)
    refine ⟨u, rv, ?_⟩
    rcases S.par y (List.mem_of_getElem? hp) with k | k
    · exact .inl ⟨k, bindL_get ndP hp hu k⟩
    · obtain ⟨c, e⟩ := cell_has (n := s.heap.objs.size + 1) k
      refine .inr ⟨.inl k, c, e, ?_⟩
      have q := x.cell y c e
      rw [bindC_get ndP hp hu (by show scope.names.lookup y ≠ _; rw [k]; decide)] at q
      exact q
  · exact e0.hok.fresh (Nat.le_of_lt (x.above y c (PySem.mem_of_lookup h)))
  · unfold start
    show _ = N.length
    rw [List.length_append, List.length_map, List.length_replicate]
    omega
theorem fn_of {CX : CXT} {P : Program} {w : World} {K : PySem.W.Frag} {mg : Str → Option Value} {base : Heap} {k : Nat} {f : Addr} {name qual : Str} {params : Arguments} {body : List Stmt} {scope : Scope} {dV kV doc pm cdv ct oc : Value} {an od : Option Addr}
    {osl : Array (Option Value)} {N ps : List Str} {sp : Sp} (lk : K.lookup f = some ⟨oc, od, .func (PySem.W.fnOf name qual params body scope dV kV doc pm an cdv ct), osl⟩) (hcd : PySem.W.codeIn K cdv qual = true) (S : FnScope N ps scope)
    (len : ∀ vs H Q E, sp vs H Q E → vs.length = ps.length)
    (hbody : ∀ (A : Around) (outer : List Env) (s : Shared) (H : Hp) (vs : List V) (Q : VK) (E : XK), Room k (A.deeper (envOfC qual scope s.heap.objs.size f cdv)) → sp vs H Q E →
      ∃ t, PSs (cxOf CX P w K mg base N qual scope f cdv A outer s H E) body t ∧ t { nx := fun _ H' => Q .non H', rt := Q } (start N vs) H) :
    FnOk P w K mg base CX (k + 1) f (PySem.W.fnOf name qual params body scope dV kV doc pm an cdv ct) ps sp := by
  refine ⟨len, fun A outer s H args us vs Q E hr e0 htk hb r hsp => ?_⟩
  have hl := len _ _ _ _ hsp
  have KX : K.In s.heap := e0.mod.kin.keeps fun b o e => (e0.bs b o e).1
  have lim : s.heap.NoLimit := e0.mod.nolimit.keeps fun b o e => (e0.bs b o e).1
  have hkind : ∀ y ∈ ps.zip us, scope.names.lookup y.1 = some .local ∨ (scope.names.lookup y.1 = some .cell ∧ ((cellsFrom (s.heap.objs.size + 1) scope.names []).lookup y.1).isSome = true) := fun ⟨n, v⟩ hy => by
    rcases S.par n (List.of_mem_zip hy).1 with q | q
    · exact .inl q
    · exact .inr ⟨q, PySem.W.cellsFrom_some _ _ _ (.inl q)⟩
  refine codeAny_call_function hr.depth (KX _ _ lk) rfl S.co S.gen rfl (PySem.W.codeRec_of KX hcd) (hb _ _ _ _ ?_)
  refine newEnvT S.kind hkind fun env he s1 x htk1 => ?_
  subst he
  refine ⟨lim.keeps x.toInCall.keep, codeAny_func ?_⟩
  obtain ⟨t, ht, hq⟩ := hbody A outer s H vs Q E (hr.deeper _) hsp
  have I : Inv (cxOf CX P w K mg base N qual scope f cdv A outer s H E) [] (start N vs) H s1 := inv_start S hr.hd e0 hl r x (htk1 (htk.imp id fun ⟨p, hp, hpl⟩ => by
    obtain ⟨i, hi, e⟩ := List.mem_iff_getElem.mp hp
    have hu : i < us.length := by rw [← r.length, hl]; exact hi
    exact ⟨(p, us[i]), List.mem_iff_getElem.mpr ⟨i, by rw [List.length_zip]; omega, by rw [List.getElem_zip, e]⟩, hpl⟩))
  refine wpAny_mono (ht [] s1 (start N vs) H _ I hq) (fun fl s' hs => ?_) fun e s' hs => hs
  have fin : ∀ {σ' : St} {H' : Hp} {v : V} {u : Value}, Inv (cxOf CX P w K mg base N qual scope f cdv A outer s H E) [] σ' H' s' → RelV v u → Q v H' → CE outer P w H s Q u s' :=
    fun {σ' H' v u} J rv q => ⟨v, H', J.os, J.bare, J.base, J.hok, rv, q⟩
  cases fl with
  | ret u =>
    obtain ⟨v, σ', H', J, rv, q⟩ := hs
    exact fin J rv q
  | next =>
    obtain ⟨σ', H', J, q⟩ := hs
    exact fin (v := V.non) (u := Value.none) J rfl q
  | brk =>
    obtain ⟨_, _, _, q⟩ := hs
    exact False.elim q
  | cont =>
    obtain ⟨_, _, _, q⟩ := hs
    exact False.elim q
end L2
namespace L2
open PySem PySem.Spec PyProof.Rows
section
variable {X : Cx} {x : Str} {p pos : Pos} {e : Expr} {es : List Expr} {t : TA} {id T : String} {r : List V → Hp → VK → Prop}
def tCB (r : List V → Hp → VK → Prop) (t : TA) : TE := fun σ H Q => t σ H fun vs H1 => r vs H1 Q
theorem pe_callB (hc : CallR X (.builtin id) r) (hg : Gl X x) (hm : X.mg x = none) (hv : bootBuiltins x = some (.builtin id)) (ha : PA X (e :: es) t) (hn : x ≠ "__name__" := by decide) (hdb : (x == ("__debug__" : Str)) = false := by decide)
    (he : starEach (e :: es) X.env = (false, eval e X.env) :: starEach es X.env := by rfl) (hpl : (backTo pos (starEach es X.env)).any (·.1) = false := by rfl) : PE X (.Call (.Name x p) (e :: es) [] pos) (tCB r t) := by
  intro pins s σ H Q I h
  refine wpAny_Call_Name_kw (ld_blt I hg hm hv ?_ hn hdb)
  exact PyProof.Rows.callWith_builtin1 (thn (ha pos pins s σ H _ I h) fun us s1 ⟨vs, H1, I1, r1, q1⟩ => hc pins s1 σ H1 vs us Q I1 r1 q1) he hpl
theorem pe_callTy (hc : CallR X (.type T) r) (hg : Gl X x) (hm : X.mg x = none) (hv : bootBuiltins x = some (.type T)) (ha : PA X (e :: es) t) (hn : x ≠ "__name__" := by decide) (hdb : (x == ("__debug__" : Str)) = false := by decide)
    (he : starEach (e :: es) X.env = (false, eval e X.env) :: starEach es X.env := by rfl) (hpl : (backTo pos (starEach es X.env)).any (·.1) = false := by rfl) : PE X (.Call (.Name x p) (e :: es) [] pos) (tCB r t) := by
  intro pins s σ H Q I h
  refine wpAny_Call_Name_kw (ld_blt I hg hm hv ?_ hn hdb)
  exact PyProof.Rows.callWith_type1 (thn (ha pos pins s σ H _ I h) fun us s1 ⟨vs, H1, I1, r1, q1⟩ => hc pins s1 σ H1 vs us Q I1 r1 q1) he hpl
end
end L2
namespace HT
open PySem PyProof.Rows
section
variable {prog : Program} {w : World} {A : Around} {E : Value → Shared → Prop} {s : Shared}
theorem cat_tup {t b : Addr} {vs ws : List Value} {Q : Value → Shared → Prop} (ht : IsTup s.heap t vs.toArray) (hb : IsTup s.heap b ws.toArray) (hv : vs ≠ [])
    (h1 : ws = [] → Q (.ref t) s) (h2 : ws ≠ [] → Q (.ref s.heap.objs.size) { s with heap := s.heap.push { cls := .type "tuple", data := .seq (vs ++ ws).toArray } })
    (hsz : vs.length + ws.length ≤ sizeLine) : wpAny (model prog w) A (binaryOp .Add (.ref t) (.ref b)) Q E s := by
  obtain ⟨⟨cls, dd, data, sl⟩, ho, hc, n, hd⟩ := id ht
  obtain ⟨⟨cls2, dd2, data2, sl2⟩, ho2, hc2, n2, hd2⟩ := id hb
  simp only at hc hd hc2 hd2
  subst hc hd hc2 hd2
  have e : vs.toArray ++ ws.toArray = (vs ++ ws).toArray := by simp
  by_cases hw : ws = []
  · exact concat_meets ⟨_, ho, rfl⟩ ⟨_, ho2, rfl⟩ noFill_tuple_add seq_tuple_add PySem.F.slot_tuple_add PySem.F.entry_tuple_add (PySem.F.args_tuple_add_2 _ _)
      (tuple_addW1 t b vs.toArray ws.toArray n n2 dd dd2 sl sl2 (by simpa using hv) (by simp [hw])) ⟨ho, ho2, h1 hw⟩
  · refine concat_meets ⟨_, ho, rfl⟩ ⟨_, ho2, rfl⟩ noFill_tuple_add seq_tuple_add PySem.F.slot_tuple_add PySem.F.entry_tuple_add (PySem.F.args_tuple_add_2 _ _)
      (tuple_addW2 t b vs.toArray ws.toArray n n2 dd dd2 sl sl2 (by simpa using hv) (by simpa using hw) (by rw [List.size_toArray, List.size_toArray]; exact hsz)) ⟨ho, ho2, ?_⟩
    rw [e]
    exact h2 hw
def sIx (n d : Nat) : Option Int → Nat
  | none => d
  | some v => if v < 0 then (v + (n : Int)).toNat else min v.toNat n
theorem sIx_le (n d : Nat) (hd : d ≤ n) (o : Option Int) : sIx n d o ≤ n := by
  cases o with
  | none => exact hd
  | some v =>
    show (if v < 0 then (v + (n : Int)).toNat else min v.toNat n) ≤ n
    by_cases hv : v < 0
    · rw [if_pos hv]; omega
    · rw [if_neg hv]; exact Nat.min_le_right _ _
theorem clip_eq (v : Int) (n d : Nat) : (if v < 0 then max (v + (n : Int)) 0 else min v (n : Int)) = ((sIx n d (some v) : Nat) : Int) := by
  show (if v < 0 then max (v + (n : Int)) 0 else min v (n : Int)) = (((if v < 0 then (v + (n : Int)).toNat else min v.toNat n) : Nat) : Int)
  by_cases hv : v < 0
  · simp only [if_pos hv]; omega
  · simp only [if_neg hv]; omega
theorem adjust_gen (lo hi : Option Int) (n : Nat) : Builtin.Slice.sliceAdjust lo hi 1 (n : Int) = (((sIx n 0 lo : Nat) : Int), ((sIx n n hi : Nat) : Int)) := by
  have h1 : ¬ ((1 : Int) < 0) := by omega
  unfold Builtin.Slice.sliceAdjust
  simp only [h1, if_false]
  refine Prod.ext ?_ ?_
  · cases lo with
    | none => rfl
    | some v => exact clip_eq v n 0
  · cases hi with
    | none => rfl
    | some v => exact clip_eq v n n
theorem places_gen (i j : Nat) : Builtin.Slice.slicePlaces (i : Int) (j : Int) 1 = j - i := by
  unfold Builtin.Slice.slicePlaces
  have h1 : (1 : Int) > 0 := by omega
  simp only [h1, if_true, Int.ediv_one]
  split <;> omega
theorem slicePart_ {v : Value} {o : Option Int} {Q : Option Int → Shared → Prop} (p : IsPart v o) (h : Q o s) : wpAny (model prog w) A (Builtin.Slice.slicePartIndex v) Q E s := by
  cases p with
  | none => exact slicePart_none h
  | int i t => exact slicePart_int h
theorem sliceApplied_gen {sl : Addr} {vl vu : Value} {lo hi : Option Int} {n : Nat} {Q : Int × Int × Nat → Shared → Prop} (hs : s.heap.IsSliceOf sl vl vu .none) (pl : IsPart vl lo) (pu : IsPart vu hi)
    (h : Q (((sIx n 0 lo : Nat) : Int), 1, sIx n n hi - sIx n 0 lo) s) : wpAny (model prog w) A (Builtin.Slice.sliceApplied (.ref sl) (pure (n : Int))) Q E s := by
  obtain ⟨os, hos, hcs, hds⟩ := id hs
  unfold Builtin.Slice.sliceApplied Builtin.Slice.sliceFields
  refine wpAny_bind (wpAny_bind (wpAny_field hos hds (x := vl) rfl (wpAny_bind (wpAny_field hos hds (x := vu) rfl (wpAny_bind (wpAny_field hos hds (x := .none) rfl (wpAny_pure ?_)))))))
  refine wpAny_bind (slicePart_none ?_)
  show wpAny _ _ (if ((1 : Int) == 0) = true then _ else _) _ _ s
  rw [if_neg (by decide)]
  refine wpAny_bind (slicePart_ pl (wpAny_bind (slicePart_ pu (wpAny_bind (wpAny_pure ?_)))))
  show wpAny _ _ (match Builtin.Slice.sliceAdjust lo hi 1 (n : Int) with | (lo, hi) => pure (lo, (1 : Int), Builtin.Slice.slicePlaces lo hi 1)) _ _ s
  rw [adjust_gen lo hi n]
  show wpAny _ _ (pure (((sIx n 0 lo : Nat) : Int), (1 : Int), Builtin.Slice.slicePlaces ((sIx n 0 lo : Nat) : Int) ((sIx n n hi : Nat) : Int) 1)) _ _ s
  rw [places_gen]
  exact wpAny_pure h
theorem pick_gen (xs : Array Value) (i k : Nat) : ((List.range k).filterMap fun (m : Nat) => xs[((i : Int) + (m : Int) * 1).toNat]?).toArray = ((xs.toList.drop i).take k).toArray := by
  have e : (fun (m : Nat) => xs[((i : Int) + (m : Int) * 1).toNat]?) = fun m => xs[i + m]? := by
    funext m
    have : ((i : Int) + (m : Int) * 1).toNat = i + m := by omega
    rw [this]
  rw [e]
  have := pick_run xs i k
  rw [List.filterMap_map] at this
  have e2 : ((fun x => xs[x]?) ∘ fun x => i + x) = fun m => xs[i + m]? := rfl
  rw [e2] at this
  rw [this]
theorem getItem_tuple_cut {t sl : Addr} {items : Array Value} {vl vu : Value} {lo hi : Option Int} {Q : Value → Shared → Prop} (ht : IsTup s.heap t items) (hs : s.heap.IsSliceOf sl vl vu .none) (pl : IsPart vl lo) (pu : IsPart vu hi)
    (hw : ¬ (sIx items.size 0 lo = 0 ∧ sIx items.size items.size hi = items.size))
    (h : Q (.ref s.heap.objs.size) { s with heap := s.heap.push { cls := .type "tuple", data := .seq ((items.toList.drop (sIx items.size 0 lo)).take (sIx items.size items.size hi - sIx items.size 0 lo)).toArray } })
    (hsz : items.size ≤ sizeLine) : wpAny (model prog w) A (getItem (.ref t) (.ref sl)) Q E s := by
  have htake : sizeOk (.seq ((items.toList.drop (sIx items.size 0 lo)).take (sIx items.size items.size hi - sIx items.size 0 lo)).toArray) := by
    show ((items.toList.drop (sIx items.size 0 lo)).take (sIx items.size items.size hi - sIx items.size 0 lo)).toArray.size ≤ sizeLine
    rw [List.size_toArray, List.length_take, List.length_drop, Array.length_toList]
    omega
  have hj : sIx items.size items.size hi ≤ items.size := sIx_le _ _ (Nat.le_refl _) hi
  obtain ⟨os, hos, hcs, hds⟩ := id hs
  have hTs : s.TypeIs (.ref sl) "slice" := ⟨os, hos, hcs⟩
  unfold getItem
  try with_reducible refine wpAny_holding ?_
  first | refine wpAny_bind (wpAny_pure ?_) | skip
  refine wpAny_bind (wpAny_sequenceKey ht.typeIs (by decide) ?_)
  refine wpAny_bind (wpAny_callSpecial?_slot (name := Str.ofString "__getitem__") ht.typeIs PyProof.Rows.slot_tuple_getitem
    (wpAny_call_entry PyProof.Rows.slot_tuple_getitem ht.typeIs entry_tuple_getitem ?_ (args_tuple_getitem _ _)))
  show wpAny _ _ (Builtin.Tuple.tupleItemsOf (.ref t) >>= _) _ _ s
  refine wpAny_bind (tupleItemsOf_ ht ?_)
  refine wpAny_bind (wpAny_typeOf hTs ?_)
  rw [if_pos (by decide)]
  refine wpAny_bind (sliceApplied_gen hs pl pu ?_)
  have hno : ¬ ((((sIx items.size 0 lo : Nat) : Int) == 0 && (1 : Int) == 1 && (sIx items.size items.size hi - sIx items.size 0 lo) == items.size) = true) := by
    intro q
    rw [Bool.and_eq_true, Bool.and_eq_true] at q
    have q1 : ((sIx items.size 0 lo : Nat) : Int) = 0 := eq_of_beq q.1.1
    have q2 : sIx items.size items.size hi - sIx items.size 0 lo = items.size := eq_of_beq q.2
    exact hw ⟨by omega, by omega⟩
  show wpAny _ _ (if (((sIx items.size 0 lo : Nat) : Int) == 0 && (1 : Int) == 1 && (sIx items.size items.size hi - sIx items.size 0 lo) == items.size) = true then _ else _) _ _ s
  rw [if_neg hno, pick_gen]
  first
    | exact wpAny_bind (m := Builtin.Tuple.tupleExact _) (wpAny_newObj_type (wpAny_pure ⟨_, rfl, wpAny_pure h⟩) htake)
    | exact wpAny_bind (m := Builtin.Tuple.tupleExact _) (wpAny_newObj_type (wpAny_bind (wpAny_pure (wpAny_pure ⟨_, rfl, wpAny_pure h⟩))) htake)
    | exact wpAny_bind (wpAny_bind (m := Builtin.Tuple.tupleExact _) (wpAny_newObj_type (wpAny_pure (wpAny_pure ⟨_, rfl, wpAny_pure h⟩)) htake))
    | exact wpAny_bind (wpAny_bind (m := Builtin.Tuple.tupleExact _) (wpAny_newObj_type (wpAny_pure ⟨_, rfl, wpAny_pure h⟩) htake))
end
end HT
namespace L2
open PySem PySem.Spec PyProof.Rows
abbrev TO := St → Hp → (Option Int → Hp → Prop) → Prop
def PO (X : Cx) (e : Option Expr) (t : TO) : Prop :=
  ∀ (pins : List (Addr × Obj)) (s : Shared) (σ : St) (H : Hp) (Q : Option Int → Hp → Prop), Inv X pins σ H s → t σ H Q →
    wpAny (model X.prog X.w) X.A (evalPart e X.env) (fun u s' => ∃ o H', Inv X pins σ H' s' ∧ IsPart u o ∧ Q o H') X.xe s
def tNoPart : TO := fun _ H Q => Q none H
def tPart (t : TE) : TO := fun σ H Q => t σ H fun x H1 => ∃ i, x = .int i ∧ Q (some i) H1
section
variable {X : Cx} {e : Expr} {te : TE} {lo hi : Option Expr} {tl th : TO} {pos p2 : Pos}
theorem po_none : PO X none tNoPart := by
  intro pins s σ H Q I h
  rw [evalPart_none]
  exact wpAny_pure ⟨none, H, I, .none, h⟩
theorem po_some (h : PE X e te) : PO X (some e) (tPart te) := by
  intro pins s σ H Q I hw
  rw [evalPart_some]
  refine thn (h pins s σ H _ I hw) fun u s1 ⟨x, H1, I1, r1, q1⟩ => ?_
  obtain ⟨i, rfl, q⟩ := q1
  obtain ⟨t, rfl⟩ := r1
  exact ⟨some i, H1, I1, .int i t, q⟩
def SlR (X : Cx) (r : V → Option Int → Option Int → Hp → VK → Prop) : Prop :=
  ∀ (pins : List (Addr × Obj)) (s : Shared) (σ : St) (H : Hp) (x : V) (v vl vu : Value) (lo hi : Option Int) (sl : Addr) (Q : VK), Inv X pins σ H s → RelV x v → s.heap.IsSliceOf sl vl vu .none → IsPart vl lo → IsPart vu hi → r x lo hi H Q →
    ∃ T id, typeLookup (.type T) "__getitem__" = pure (some (.builtin id)) ∧ s.TypeIs v T ∧ wpAny (model X.prog X.w) X.A (getItem v (.ref sl)) (EP X pins σ Q) X.xe s
def tSl (r : V → Option Int → Option Int → Hp → VK → Prop) (te : TE) (tl th : TO) : TE := fun σ H Q => te σ H fun x H1 => tl σ H1 fun l H2 => th σ H2 fun u H3 => r x l u H3 Q
theorem pe_slice {r : V → Option Int → Option Int → Hp → VK → Prop} (hr : SlR X r) (he : PE X e te) (hl : PO X lo tl) (hu : PO X hi th) : PE X (.Subscript e (.Slice lo hi none p2) pos) (tSl r te tl th) := by
  intro pins s σ H Q I h
  refine Subscript_ (thn (he pins s σ H _ I h) fun v s1 ⟨x, H1, I1, r1, q1⟩ => ?_)
  refine wpAny_Slice (thn (hl pins s1 σ H1 _ I1 q1) fun vl s2 ⟨l, H2, I2, pl, q2⟩ => thn (hu pins s2 σ H2 _ I2 q2) fun vu s3 ⟨u, H3, I3, pu, q3⟩ => ?_)
  rw [evalPart_none]
  refine wpAny_pure ?_
  have I4 : Inv X pins σ H3 { s3 with heap := s3.heap.push { cls := .type "slice", data := .fields #[vl, vu, .none] } } := I3.kept (t' := s3.toks) fun b ob q => Heap.get?_push_of_some _ q
  obtain ⟨T, id, hT, ht, hg⟩ := hr pins { s3 with heap := s3.heap.push { cls := .type "slice", data := .fields #[vl, vu, .none] } } σ H3 x v vl vu l u s3.heap.objs.size Q I4 r1 (Heap.IsSliceOf.new ..) pl pu q3
  show wpAny (model X.prog X.w) X.A (subscriptTail e (.Slice lo hi none p2) v (.ref s3.heap.objs.size)) (EP X pins σ Q) X.xe { s3 with heap := s3.heap.push { cls := .type "slice", data := .fields #[vl, vu, .none] } }
  exact tail_any (ops := [.ref s3.heap.objs.size, v]) ht hT hg (by with_unfolding_all rfl)
def cutV (xs : List V) (lo hi : Option Int) : List V := (xs.drop (HT.sIx xs.length 0 lo)).take (HT.sIx xs.length xs.length hi - HT.sIx xs.length 0 lo)
theorem cutV_length (xs : List V) (lo hi : Option Int) : (cutV xs lo hi).length ≤ xs.length := by
  unfold cutV
  rw [List.length_take, List.length_drop]
  omega
def rSlT (K : PySem.W.Frag) : V → Option Int → Option Int → Hp → VK → Prop := fun x lo hi H Q => ∃ a xs, x = .ref a ∧ SqT K H a xs ∧
  ¬ (HT.sIx xs.length 0 lo = 0 ∧ HT.sIx xs.length xs.length hi = xs.length) ∧ ∀ p, H p = none → Q (.ref p) (upd H p (.tup (cutV xs lo hi)))
theorem sl_tup : SlR X (rSlT X.K) := by
  intro pins s σ H x v vl vu lo hi sl Q I rx hs pl pu h
  obtain ⟨a, xs, rfl, hx, hw, q⟩ := h
  cases rx
  obtain ⟨its, r, ht, hz⟩ := I.tuple hx
  have hlen : its.toArray.size = xs.length := by rw [List.size_toArray]; exact r.length.symm
  refine ⟨"tuple", _, PyProof.Rows.slot_tuple_getitem.lookup, ht.typeIs, ?_⟩
  refine HT.getItem_tuple_cut ht hs pl pu (by rw [hlen]; exact hw) ?_ (by rw [hlen]; exact hz)
  rw [hlen]
  refine ⟨.ref s.heap.objs.size, _, I.laid (t' := s.toks) (o := .tup (cutV xs lo hi)) (fun b ob q => Heap.get?_push_of_some _ q) (Nat.le_refl _) ?_, rfl, q _ (I.hok.fresh (Nat.le_refl _))⟩
  exact ⟨Nat.le_trans (cutV_length xs lo hi) hz, _, (r.drop (HT.sIx xs.length 0 lo)).take (HT.sIx xs.length xs.length hi - HT.sIx xs.length 0 lo), IsTup.new _ _⟩
def rCatT (K : PySem.W.Frag) : R2 := fun x y H Q => ∃ a b xs ys, x = .ref a ∧ y = .ref b ∧ SqT K H a xs ∧ SqT K H b ys ∧ xs ≠ [] ∧ xs.length + ys.length ≤ sizeLine ∧
  (ys = [] → Q (.ref a) H) ∧ (ys ≠ [] → ∀ p, H p = none → Q (.ref p) (upd H p (.tup (xs ++ ys))))
theorem Vals.nil_iff {xs : List V} {us : List Value} (r : Vals xs us) : us = [] ↔ xs = [] := by
  cases r with
  | nil => simp
  | cons _ _ => simp
theorem op_catT : OpR X (binaryOp .Add) (rCatT X.K) := by
  intro pins s σ H x y v u Q I rx ry h
  obtain ⟨a, b, xs, ys, rfl, rfl, ha, hb, hx, hz, q1, q2⟩ := h
  cases rx
  cases ry
  obtain ⟨its, r1, p1, _⟩ := I.tuple ha
  obtain ⟨its2, r2, p2, _⟩ := I.tuple hb
  refine HT.cat_tup p1 p2 (fun z => hx (r1.nil_iff.mp z)) (fun z => ⟨.ref a, H, I, rfl, q1 (r2.nil_iff.mp z)⟩) (fun z => ?_) (by rw [← r1.length, ← r2.length]; exact hz)
  refine ⟨.ref s.heap.objs.size, _, I.laid (t' := s.toks) (o := .tup (xs ++ ys)) (fun b ob q => Heap.get?_push_of_some _ q) (Nat.le_refl _) ?_, rfl, q2 (fun w => z (r2.nil_iff.mpr w)) _ (I.hok.fresh (Nat.le_refl _))⟩
  exact ⟨by rw [List.length_append]; exact hz, _, r1.append r2, IsTup.new _ _⟩
end
end L2
namespace L2
open PySem PySem.Spec PyProof.Rows
def ixN (n : Nat) (i : Int) : Option Nat := if 0 ≤ i then (if i < n then some i.toNat else none) else if -(n : Int) ≤ i then some (i + n).toNat else none
def atI {α : Type} (xs : List α) (i : Int) : Option α := (ixN xs.length i).bind fun j => xs[j]?
theorem ixN_seq {n : Nat} {i : Int} {j : Nat} (h : ixN n i = some j) : seqIndex? i n = some j ∧ j < n ∧ -(n : Int) ≤ i ∧ i < n := by
  unfold ixN at h
  by_cases h0 : 0 ≤ i
  · rw [if_pos h0] at h
    by_cases h1 : i < n
    · rw [if_pos h1] at h
      have e : i.toNat = j := Option.some.inj h
      exact ⟨by rw [seqIndex_of h0 h1, e], by omega, by omega, h1⟩
    · rw [if_neg h1] at h; cases h
  · rw [if_neg h0] at h
    by_cases h1 : -(n : Int) ≤ i
    · rw [if_pos h1] at h
      have e : (i + n).toNat = j := Option.some.inj h
      exact ⟨by rw [seqIndex_neg (by omega) h1, e], by omega, h1, by omega⟩
    · rw [if_neg h1] at h; cases h
theorem atI_get {α : Type} {xs : List α} {i : Int} {v : α} (h : atI xs i = some v) : ∃ j, seqIndex? i xs.length = some j ∧ xs[j]? = some v ∧ j < xs.length ∧ -(xs.length : Int) ≤ i ∧ i < xs.length := by
  unfold atI at h
  cases e : ixN xs.length i with
  | none => rw [e] at h; cases h
  | some j =>
    rw [e] at h
    obtain ⟨h1, h2, h3, h4⟩ := ixN_seq e
    exact ⟨j, h1, h, h2, h3, h4⟩
def PlainIx (b : Expr) : Prop := ∀ o i, subscripted b false o i = operate [o, i] (getItem o i)
def IxR (X : Cx) (r : R2) : Prop :=
  ∀ (value slice : Expr) (pins : List (Addr × Obj)) (s : Shared) (σ : St) (H : Hp) (x y : V) (v u : Value) (Q : VK), Inv X pins σ H s → RelV x v → RelV y u → r x y H Q →
    subscripted slice false v u = operate [v, u] (getItem v u) → wpAny (model X.prog X.w) X.A (subscriptTail value slice v u) (EP X pins σ Q) X.xe s
def MtR (X : Cx) (id : String) (r : V → List V → Hp → VK → Prop) : Prop :=
  ∀ (pins : List (Addr × Obj)) (s : Shared) (σ : St) (H : Hp) (x : V) (xs : List V) (v : Value) (us : List Value) (Q : VK), Inv X pins σ H s → RelV x v → Vals xs us → r x xs H Q →
    wpAny (model X.prog X.w) X.A (call (.builtin id) (v :: us)) (EP X pins σ Q) X.xe s
section
variable {X : Cx} {a b : Expr} {ta tb : TE} {pos : Pos}
theorem IxR.or {r r' : R2} (h : IxR X r) (h' : IxR X r') : IxR X (fun x y H Q => r x y H Q ∨ r' x y H Q) := by
  intro value slice pins s σ H x y v u Q I rx ry q hs
  rcases q with q | q
  · exact h value slice pins s σ H x y v u Q I rx ry q hs
  · exact h' value slice pins s σ H x y v u Q I rx ry q hs
theorem pe_ix {r : R2} (hr : IxR X r) (ha : PE X a ta) (hb : PE X b tb) (hs : PlainIx b) : PE X (.Subscript a b pos) (tOp r ta tb) := by
  intro pins s σ H Q I h
  exact Subscript_ (binT ha hb I h fun v u s2 x y H2 I2 rx ry q => hr a b pins s2 σ H2 x y v u Q I2 rx ry q (hs _ _))
def rIxL (K : PySem.W.Frag) : R2 := fun x y H Q => ∃ p xs i v, x = .ref p ∧ y = .int i ∧ SqL K H p xs ∧ atI xs i = some v ∧ Q v H
def rIxT (K : PySem.W.Frag) : R2 := fun x y H Q => ∃ p xs i v, x = .ref p ∧ y = .int i ∧ SqT K H p xs ∧ atI xs i = some v ∧ Q v H
def rIxS : R2 := fun x y H Q => ∃ z i c, x = .str z ∧ y = .int i ∧ z.length ≤ sizeLine ∧ atI z.cps.toList i = some c ∧ Q (.str ⟨#[c]⟩) H
theorem ix_list : IxR X (rIxL X.K) := by
  intro value slice pins s σ H x y v u Q I rx ry h hs
  obtain ⟨p, xs, i, z, rfl, rfl, hq, he, q⟩ := h
  cases rx
  obtain ⟨t, rfl⟩ := ry
  obtain ⟨its, r, pl, hz⟩ := I.list hq
  obtain ⟨j, h1, h2, h3, h4, h5⟩ := atI_get he
  obtain ⟨w, ew, rw'⟩ := r.get h2
  have hl := r.length
  have hn := line63
  have fin : EP X pins σ Q w s := ⟨z, H, I, rw', q⟩
  by_cases h0 : 0 ≤ i
  · have hj : i.toNat = j := by
      rw [seqIndex_of h0 h5] at h1
      exact Option.some.inj h1
    exact item_listR pl.isList h0 (by omega) (by rw [hj]; simpa using ew) fin hs
  · have hj : (i + (its.toArray.size : Int)).toNat = j := by
      rw [seqIndex_neg (by omega) h4] at h1
      rw [List.size_toArray, ← hl]
      exact Option.some.inj h1
    exact subscriptTail_builtinR (x := w) pl.isList.typeIs slot_list_getitem.lookup
      (wpAny_getItem_list_neg (Q := fun r s' => r = w ∧ EP X pins σ Q r s') pl.isList (by omega) (by rw [List.size_toArray] <;> omega) (by omega) (by rw [hj]; simpa using ew) ⟨rfl, fin⟩) hs
theorem ix_tup : IxR X (rIxT X.K) := by
  intro value slice pins s σ H x y v u Q I rx ry h hs
  obtain ⟨p, xs, i, z, rfl, rfl, hq, he, q⟩ := h
  cases rx
  obtain ⟨t, rfl⟩ := ry
  obtain ⟨its, r, pl, hz⟩ := I.tuple hq
  obtain ⟨j, h1, h2, h3, h4, h5⟩ := atI_get he
  obtain ⟨w, ew, rw'⟩ := r.get h2
  have hl := r.length
  have hn := line63
  have fin : EP X pins σ Q w s := ⟨z, H, I, rw', q⟩
  exact subscriptTail_builtinR (x := w) pl.typeIs slot_tuple_getitem.lookup
    (getItem_tuple (j := j) (Q := fun r s' => r = w ∧ EP X pins σ Q r s') pl (by omega) (by omega) (by rw [List.size_toArray, ← hl]; exact h1) (by simpa using ew) ⟨rfl, fin⟩) hs
theorem ix_str : IxR X rIxS := by
  intro value slice pins s σ H x y v u Q I rx ry h hs
  obtain ⟨z, i, c, rfl, rfl, hz, he, q⟩ := h
  obtain ⟨t, rfl⟩ := rx
  obtain ⟨t', rfl⟩ := ry
  obtain ⟨j, h1, h2, h3, h4, h5⟩ := atI_get he
  have hl : z.cps.toList.length = z.length := by simp [Str.length]
  rw [hl] at h1 h4 h5
  have hn := line63
  exact tail_any (typeIs_str s z t) slot_str_getitem.lookup (getItem_str (c := c) (by
    have e1 : decide (i < -(2 ^ 63 : Int)) = false := decide_eq_false (by omega)
    have e2 : decide (i ≥ 2 ^ 63) = false := decide_eq_false (by omega)
    rw [e1, e2, Bool.or_false]) (by rw [h1]; simpa using h2) ⟨.str ⟨#[c]⟩, H, I.tok _, ⟨_, rfl⟩, q⟩) hs
theorem slice_bounds (lo hi : Option Int) (n : Nat) : (sliceBounds lo hi none n).1 = ((HT.sIx n 0 lo : Nat) : Int) ∧ (sliceBounds lo hi none n).2.1 = ((HT.sIx n n hi : Nat) : Int) ∧ (sliceBounds lo hi none n).2.2 = 1 := by
  refine ⟨?_, ?_, rfl⟩
  · cases lo with
    | none => simp [sliceBounds, HT.sIx]
    | some i =>
      simp only [sliceBounds, HT.sIx, Option.getD_none, show (1 : Int) > 0 by decide, if_true]
      by_cases h : i < 0
      · simp only [h, if_true] <;> omega
      · simp only [h, if_false] <;> omega
  · cases hi with
    | none => simp [sliceBounds, HT.sIx]
    | some i =>
      simp only [sliceBounds, HT.sIx, Option.getD_none, show (1 : Int) > 0 by decide, if_true]
      by_cases h : i < 0
      · simp only [h, if_true] <;> omega
      · simp only [h, if_false] <;> omega
theorem slicePick_cut (its : List Value) (lo hi : Option Int) : slicePick its.toArray lo hi none = ((its.drop (HT.sIx its.length 0 lo)).take (HT.sIx its.length its.length hi - HT.sIx its.length 0 lo)).toArray := by
  obtain ⟨h1, h2, h3⟩ := slice_bounds lo hi its.toArray.size
  unfold slicePick
  rw [h1, h2, h3]
  simp only [sliceRange_one, pick_run, List.size_toArray] <;> rfl
def rSlL (K : PySem.W.Frag) : V → Option Int → Option Int → Hp → VK → Prop := fun x lo hi H Q => ∃ a xs, x = .ref a ∧ SqL K H a xs ∧ ∀ p, H p = none → Q (.ref p) (upd H p (.lst (cutV xs lo hi)))
theorem sl_list : SlR X (rSlL X.K) := by
  intro pins s σ H x v vl vu lo hi sl Q I rx hs pl pu h
  obtain ⟨a, xs, rfl, hx, q⟩ := h
  cases rx
  obtain ⟨its, r, ht, hz⟩ := I.list hx
  have hlen := r.length
  refine ⟨"list", _, slot_list_getitem.lookup, ht.isList.typeIs, ?_⟩
  refine wpAny_getItem_list_slice ht.isList hs pl pu .none (by simp) ?_ (by rw [List.size_toArray] <;> omega)
  rw [slicePick_cut, ← hlen]
  refine ⟨.ref s.heap.objs.size, _, I.laid (t' := s.toks) (o := .lst (cutV xs lo hi)) (fun b ob q => Heap.get?_push_of_some _ q) (Nat.le_refl _) ?_, rfl, q _ (I.hok.fresh (Nat.le_refl _))⟩
  exact ⟨Nat.le_trans (cutV_length xs lo hi) hz, _, 0, (r.drop (HT.sIx xs.length 0 lo)).take (HT.sIx xs.length xs.length hi - HT.sIx xs.length 0 lo), Heap.get?_push_size _ rfl⟩
def flatV : V → Bool
  | .non => true
  | .bl _ => true
  | .int _ => true
  | .str _ => true
  | _ => false
def eqV : V → V → Bool
  | .non, .non => true
  | .bl a, .bl b => a == b
  | .bl a, .int b => (if a then 1 else 0) == b
  | .int a, .bl b => a == (if b then 1 else 0)
  | .int a, .int b => a == b
  | .str a, .str b => a == b
  | _, _ => false
theorem eqAt_V {A : Around} {s : Shared} {y x : V} {u v : Value} (ry : RelV y u) (rx : RelV x v) (fy : flatV y = true) (fx : flatV x = true) : SeqAt.EqAt A s u v (eqV y x) := by
  cases y with
  | non =>
    cases ry
    cases x with
    | non => cases rx; exact SeqAt.EqAt.same _
    | bl b => cases rx; exact SeqAt.EqAt.none_bool b
    | int b => obtain ⟨t, rfl⟩ := rx; exact SeqAt.EqAt.none_int b t
    | str b => obtain ⟨t, rfl⟩ := rx; exact SeqAt.EqAt.none_str b t
    | _ => exact absurd (show false = true from fx) Bool.false_ne_true
  | bl a =>
    cases ry
    cases x with
    | non => cases rx; exact SeqAt.EqAt.bool_none a
    | bl b => cases rx; exact SeqAt.EqAt.bool_bool a b
    | int b => obtain ⟨t, rfl⟩ := rx; exact SeqAt.EqAt.bool_int a b t
    | str b => obtain ⟨t, rfl⟩ := rx; exact SeqAt.EqAt.bool_str a b t
    | _ => exact absurd (show false = true from fx) Bool.false_ne_true
  | int a =>
    obtain ⟨t', rfl⟩ := ry
    cases x with
    | non => cases rx; exact SeqAt.EqAt.int_none a t'
    | bl b => cases rx; exact SeqAt.EqAt.int_bool a t' b
    | int b => obtain ⟨t, rfl⟩ := rx; exact SeqAt.EqAt.int_int a t' b t
    | str b => obtain ⟨t, rfl⟩ := rx; exact SeqAt.EqAt.int_str a t' b t
    | _ => exact absurd (show false = true from fx) Bool.false_ne_true
  | str a =>
    obtain ⟨t', rfl⟩ := ry
    cases x with
    | non => cases rx; exact SeqAt.EqAt.str_none a t'
    | bl b => cases rx; exact SeqAt.EqAt.str_bool a t' b
    | int b => obtain ⟨t, rfl⟩ := rx; exact SeqAt.EqAt.str_int a t' b t
    | str b => obtain ⟨t, rfl⟩ := rx; exact SeqAt.EqAt.str_str a t' b t
    | _ => exact absurd (show false = true from fx) Bool.false_ne_true
  | _ => exact absurd (show false = true from fy) Bool.false_ne_true
def eqU (x : V) (u : Value) : Bool := match u with
  | .none => eqV .non x
  | .bool b => eqV (.bl b) x
  | .int i _ => eqV (.int i) x
  | .str z _ => eqV (.str z) x
  | _ => false
theorem eqU_of {x y : V} {u : Value} (r : RelV y u) (f : flatV y = true) : eqU x u = eqV y x := by
  cases y with
  | non => cases r; rfl
  | bl b => cases r; rfl
  | int i => obtain ⟨t, rfl⟩ := r; rfl
  | str z => obtain ⟨t, rfl⟩ := r; rfl
  | _ => exact absurd (show false = true from f) Bool.false_ne_true
theorem any_eqU {x : V} : ∀ {xs : List V} {us : List Value}, Vals xs us → xs.all flatV = true → us.any (eqU x) = xs.any fun y => eqV y x
  | _, _, .nil, _ => rfl
  | y :: xs, u :: us, .cons r t, f => by
    rw [List.all_cons, Bool.and_eq_true] at f
    rw [List.any_cons, List.any_cons, eqU_of r f.1, any_eqU t f.2]
theorem mem_eqAt {A : Around} {s : Shared} {x : V} {v : Value} (rx : RelV x v) (fx : flatV x = true) : ∀ {xs : List V} {us : List Value}, Vals xs us → xs.all flatV = true → ∀ u ∈ us, SeqAt.EqAt A s u v (eqU x u)
  | _, _, .nil, _ => fun u hu => by cases hu
  | y :: xs, u :: us, .cons r t, f => fun u' hu => by
    rw [List.all_cons, Bool.and_eq_true] at f
    rcases List.mem_cons.mp hu with rfl | hu
    · rw [eqU_of r f.1]; exact eqAt_V r rx f.1 fx
    · exact mem_eqAt rx fx t f.2 u' hu
def inV (x : V) (xs : List V) : Bool := xs.any fun y => eqV y x
def rIn (K : PySem.W.Frag) (neg : Bool) : R2 := fun x y H Q => ∃ p xs, y = .ref p ∧ (SqL K H p xs ∨ SqT K H p xs) ∧ flatV x = true ∧ xs.all flatV = true ∧ Q (.bl (if neg then !inV x xs else inV x xs)) H
theorem op_in_seq : OpR X (compareOp .In) (rIn X.K false) := by
  intro pins s σ H x y v u Q I rx ry h
  obtain ⟨p, xs, rfl, hq, fx, fs, q⟩ := h
  cases ry
  rcases hq with hq | hq
  · obtain ⟨its, r, pl, hz⟩ := I.list hq
    refine SeqAt.in_listAt (eqU x) pl.isList (fun w hw => mem_eqAt rx fx r fs w (by simpa using hw)) ⟨.bl _, H, I, rfl, ?_⟩
    rw [show its.toArray.any (eqU x) = its.any (eqU x) by simp, any_eqU r fs]
    exact q
  · obtain ⟨its, r, pl, hz⟩ := I.tuple hq
    refine SeqAt.in_tupleAt (eqU x) pl (fun w hw => mem_eqAt rx fx r fs w (by simpa using hw)) ⟨.bl _, H, I, rfl, ?_⟩
    rw [show its.toArray.any (eqU x) = its.any (eqU x) by simp, any_eqU r fs]
    exact q
theorem call_len_seq : CallR X (.builtin "len") (fun xs H Q => ∃ p ys, xs = [.ref p] ∧ (SqL X.K H p ys ∨ SqT X.K H p ys) ∧ Q (.int ys.length) H) := by
  intro pins s σ H xs us Q I r h
  obtain ⟨p, ys, rfl, hq, q⟩ := h
  obtain ⟨u, rfl, rx⟩ := vals1 r
  cases rx
  have hn := line63
  rcases hq with hq | hq
  · obtain ⟨its, r', pl, hz⟩ := I.list hq
    have hlen := r'.length
    exact Calls.call_len_list pl.isList (by simp only [List.size_toArray] <;> omega) ⟨.int ys.length, H, I.tok _, ⟨s.toks + 1, by rw [List.size_toArray, hlen]⟩, q⟩
  · obtain ⟨its, r', pl, hz⟩ := I.tuple hq
    have hlen := r'.length
    exact len_tuple pl (by simp only [List.size_toArray] <;> omega) ⟨.int ys.length, H, I.tok _, ⟨s.toks + 1, by rw [List.size_toArray, hlen]⟩, q⟩
theorem call_len_str : CallR X (.builtin "len") (fun xs H Q => ∃ z, xs = [.str z] ∧ z.length ≤ sizeLine ∧ Q (.int z.length) H) := by
  intro pins s σ H xs us Q I r h
  obtain ⟨z, rfl, hz, q⟩ := h
  obtain ⟨u, rfl, t, rfl⟩ := vals1 r
  have hn := line63
  exact len_str (by omega) ⟨.int z.length, H, I.tok _, ⟨_, rfl⟩, q⟩
theorem CallR.or {f : Value} {r r' : List V → Hp → VK → Prop} (h : CallR X f r) (h' : CallR X f r') : CallR X f (fun xs H Q => r xs H Q ∨ r' xs H Q) := by
  intro pins s σ H xs us Q I rs q
  rcases q with q | q
  · exact h pins s σ H xs us Q I rs q
  · exact h' pins s σ H xs us Q I rs q
theorem call_list_of : CallR X (.type "list") (fun xs H Q => ∃ p ys, xs = [.ref p] ∧ (SqL X.K H p ys ∨ SqT X.K H p ys) ∧ ∀ l, H l = none → Q (.ref l) (upd H l (.lst ys))) := by
  intro pins s σ H xs us Q I r h
  obtain ⟨p, ys, rfl, hq, q⟩ := h
  obtain ⟨u, rfl, rx⟩ := vals1 r
  cases rx
  have fin : ∀ (its : List Value), Vals ys its → ys.length ≤ sizeLine → ∀ (h' : Heap) (c' : Nat), (∀ b o', s.heap.get? b = some o' → h'.get? b = some o') →
      h'.get? s.heap.objs.size = some { cls := .type "list", dict := none, data := .seq its.toArray c', slots := #[] } → EP X pins σ Q (.ref s.heap.objs.size) { s with heap := h' } := fun its r' hz h' c' kp e =>
    ⟨.ref s.heap.objs.size, _, I.laid (t' := s.toks) kp (Nat.le_refl _) (show ObjOk X.prog X.w _ h' _ (.lst ys) from ⟨hz, its, c', r', e⟩), rfl, q _ (I.hok.fresh (Nat.le_refl _))⟩
  rcases hq with hq | hq
  · obtain ⟨its, r', pl, hz⟩ := I.list hq
    have hlen := r'.length
    obtain ⟨o, ho, hc, n, hd⟩ := pl.isList
    exact call_list_seq p (.inl rfl) ho hc hd (fun h' c' kp e => fin its r' hz h' c' kp e) (by simp only [List.size_toArray] <;> omega)
  · obtain ⟨its, r', pl, hz⟩ := I.tuple hq
    have hlen := r'.length
    obtain ⟨o, ho, hc, n, hd⟩ := pl
    exact call_list_seq p (.inr rfl) ho hc hd (fun h' c' kp e => fin its r' hz h' c' kp e) (by simp only [List.size_toArray] <;> omega)
theorem call_tuple_of : CallR X (.type "tuple") (fun xs H Q => ∃ p ys, xs = [.ref p] ∧ ((SqL X.K H p ys ∧ ∀ l, H l = none → Q (.ref l) (upd H l (.tup ys))) ∨ (SqT X.K H p ys ∧ Q (.ref p) H))) := by
  intro pins s σ H xs us Q I r h
  obtain ⟨p, ys, rfl, h⟩ := h
  obtain ⟨u, rfl, rx⟩ := vals1 r
  cases rx
  rcases h with ⟨hq, q⟩ | ⟨hq, q⟩
  · obtain ⟨its, r', pl, hz⟩ := I.list hq
    have hlen := r'.length
    refine call_tuple_list pl.isList (fun h' kp => ?_) (by simp only [List.size_toArray] <;> omega)
    have I1 : Inv X pins σ H { s with heap := h' } := I.kept (t' := s.toks) kp
    have I2 : Inv X pins σ (upd H h'.objs.size (.tup ys)) { s with heap := h'.push { cls := .type "tuple", data := .seq its.toArray } } :=
      I1.laid (t' := s.toks) (fun b o e => Heap.get?_push_of_some _ e) (Nat.le_refl _) (show ObjOk X.prog X.w _ _ _ (.tup ys) from ⟨hz, its, r', IsTup.new _ _⟩)
    exact ⟨.ref h'.objs.size, _, I2, rfl, q _ (I1.hok.fresh (Nat.le_refl _))⟩
  · obtain ⟨its, r', pl, hz⟩ := I.tuple hq
    exact call_tuple_same pl ⟨.ref p, H, I, rfl, q⟩
def tyV (K : PySem.W.Frag) (T : String) (x : V) (H : Hp) : Prop := match x with
  | .str _ => T = "str"
  | .int _ => T = "int"
  | .ref p => (T = "list" ∧ ∃ xs, SqL K H p xs) ∨ (T = "tuple" ∧ ∃ o, K.lookup p = some o ∧ o.cls = .type "tuple" ∧ o.dict = none) ∨
      (T = "dict" ∧ ((∃ kvs, H p = some (.dK kvs)) ∨ ∃ kvs, H p = some (.dT kvs))) ∨ (T = "set" ∧ ∃ S n, H p = some (.set S n))
  | _ => False
theorem tyV_is {pins : List (Addr × Obj)} {σ : St} {H : Hp} {s : Shared} {T : String} {x : V} {v : Value} (I : Inv X pins σ H s) (r : RelV x v) (ty : tyV X.K T x H) :
    s.TypeIs v T ∧ ∀ a, v = .ref a → ∃ ob, s.heap.get? a = some ob ∧ ob.dict = none := by
  cases x with
  | str z =>
    obtain ⟨t, rfl⟩ := r
    cases (show T = "str" from ty)
    exact ⟨typeIs_str s z t, fun _ e => nomatch e⟩
  | int i =>
    obtain ⟨t, rfl⟩ := r
    cases (show T = "int" from ty)
    exact ⟨typeIs_int s i t, fun _ e => nomatch e⟩
  | ref p =>
    cases r
    rcases ty with ⟨rfl, xs, hq⟩ | ⟨rfl, o, hk, hc, hd⟩ | ⟨rfl, hk⟩ | ⟨rfl, S, n, hk⟩
    · obtain ⟨its, _, pl, _⟩ := I.list hq
      refine ⟨pl.isList.typeIs, fun a e => ?_⟩
      cases e
      obtain ⟨o, n, e, c, hd, _⟩ := pl
      exact ⟨o, e, hd⟩
    · refine ⟨⟨o, I.kIn p o hk, hc⟩, fun a e => ?_⟩
      cases e
      exact ⟨o, I.kIn _ o hk, hd⟩
    · have z : ∃ o, s.heap.get? p = some o ∧ o.ExactDict := by
        rcases hk with ⟨kvs, hk⟩ | ⟨kvs, hk⟩
        · obtain ⟨_, _, _, _, o, _, _, e, ex, _⟩ := I.hok p _ hk
          exact ⟨o, e, ex⟩
        · obtain ⟨_, _, _, _, o, _, _, e, ex, _⟩ := I.hok p _ hk
          exact ⟨o, e, ex⟩
      obtain ⟨o, e, ex⟩ := z
      refine ⟨⟨o, e, ex.1⟩, fun a e2 => ?_⟩
      cases e2
      exact ⟨o, e, ex.2.1⟩
    · obtain ⟨o, _, _, _, e, ex, _⟩ := I.hok p _ hk
      refine ⟨⟨o, e, ex.1⟩, fun a e2 => ?_⟩
      cases e2
      exact ⟨o, e, ex.2.1⟩
  | _ => exact False.elim ty
def tBM0 (K : PySem.W.Frag) (T : String) (r : V → List V → Hp → VK → Prop) (to : TE) : TE := fun σ H Q => to σ H fun x H1 => tyV K T x H1 ∧ r x [] H1 Q
def tBM (K : PySem.W.Frag) (T : String) (r : V → List V → Hp → VK → Prop) (to : TE) (t : TA) : TE := fun σ H Q => to σ H fun x H1 => tyV K T x H1 ∧ t σ H1 fun xs H2 => r x xs H2 Q
variable {o e : Expr} {es : List Expr} {to : TE} {t : TA} {name : Str} {apos cpos : Pos} {T id : String} {r : V → List V → Hp → VK → Prop}
theorem pe_bm0 (pa : PlainAttrs T) (slot : Slot T name id) (hty : typeOf (.builtin id) = pure (.type "method_descriptor")) (hm : MtR X id r) (ho : PE X o to)
    (hbase : attributeBase o name X.env (eval o X.env) = eval o X.env := by rfl) (hline : (apos.endLine == cpos.line) = true := by rfl) : PE X (.Call (.Attribute o name apos) [] [] cpos) (tBM0 X.K T r to) := by
  intro pins s σ H Q I h
  refine wpAny_Call_method0_late hbase hline (thn (ho pins s σ H _ I h) fun v s1 ⟨x, H1, I1, r1, ty, q1⟩ => ?_)
  obtain ⟨h1, h2⟩ := tyV_is I1 r1 ty
  exact ⟨T, id, pa, slot, hty, h1, h2, Calls.callWith_builtin rfl (PySem.evalArgs_none (hm pins s1 σ H1 x [] v [] Q I1 r1 .nil q1))⟩
theorem pe_bm (pa : PlainAttrs T) (slot : Slot T name id) (hty : typeOf (.builtin id) = pure (.type "method_descriptor")) (hm : MtR X id r) (ho : PE X o to) (ha : PA X (e :: es) t)
    (hbase : attributeBase o name X.env (eval o X.env) = eval o X.env := by rfl)
    (hfew : ((backTo cpos (starEach (e :: es) X.env)).all (fun x => !x.1) && (backToKw cpos (keywordEach [] X.env)).all (fun x => x.1.isSome)
      && decide ((e :: es).length + ([] : List Keyword).length + (if ([] : List Keyword).isEmpty then 0 else 1) < 30)) = true := by rfl)
    (hline : (apos.endLine == cpos.line) = true := by rfl) (hs : starEach (e :: es) X.env = (false, eval e X.env) :: starEach es X.env := by rfl) (hplain : (backTo cpos (starEach es X.env)).any (·.1) = false := by rfl) :
    PE X (.Call (.Attribute o name apos) (e :: es) [] cpos) (tBM X.K T r to t) := by
  intro pins s σ H Q I h
  refine wpAny_Call_method_late hbase hfew hline rfl (thn (ho pins s σ H _ I h) fun v s1 ⟨x, H1, I1, r1, ty, q1⟩ => ?_)
  obtain ⟨h1, h2⟩ := tyV_is I1 r1 ty
  refine ⟨T, id, pa, slot, hty, h1, h2, ?_⟩
  have hA := ha cpos pins s1 σ H1 _ I1 q1
  rw [hs] at hA ⊢
  refine Calls.callWith_builtin (by show (false || (backTo cpos (starEach es X.env)).any (·.1)) = false; rw [hplain] <;> rfl) (Calls.evalArgs_plain ?_)
  exact thn hA fun us s2 ⟨vs, H2, I2, r2, q2⟩ => hm pins s2 σ H2 x vs v us Q I2 r1 r2 q2
end
end L2
namespace L2
open PySem PySem.Spec PyProof.Rows
def MtM (X : Cx) (id : String) (r : V → List V → Hp → VK → Prop) : Prop :=
  ∀ (pins : List (Addr × Obj)) (s : Shared) (σ : St) (H : Hp) (x : V) (xs : List V) (v : Value) (us : List Value) (Q : VK), Inv X pins σ H s → RelV x v → Vals xs us → r x xs H Q →
    wpAny (model X.prog X.w) X.A (call (.builtin id) (v :: us)) (EP X pins σ Q) X.xe s
theorem Vals.one : ∀ {x : V} {us : List Value}, Vals [x] us → ∃ u, us = [u] ∧ RelV x u
  | _, _, .cons r .nil => ⟨_, rfl, r⟩
theorem Vals.zero : ∀ {us : List Value}, Vals [] us → us = []
  | _, .nil => rfl
theorem Vals.dropLast {xs : List V} {us : List Value} (h : Vals xs us) : Vals xs.dropLast us.dropLast := by
  induction h with
  | nil => exact .nil
  | cons r t ih =>
    cases t with
    | nil => exact .nil
    | cons q t' => exact .cons r ih
theorem Vals.reverse {xs : List V} {us : List Value} (h : Vals xs us) : Vals xs.reverse us.reverse := by
  induction h with
  | nil => exact .nil
  | cons r t ih => rw [List.reverse_cons, List.reverse_cons]; exact Vals.append ih (.cons r .nil)
theorem Vals.rep {xs : List V} {us : List Value} (h : Vals xs us) : ∀ k : Nat, Vals (List.replicate k xs).flatten (List.replicate k us).flatten
  | 0 => .nil
  | k + 1 => by
    rw [List.replicate_succ, List.replicate_succ, List.flatten_cons, List.flatten_cons]
    exact Vals.append h (Vals.rep h k)
theorem erase_last {α : Type} (l : List α) : l.eraseIdx (l.length - 1) = l.dropLast := by
  induction l with
  | nil => rfl
  | cons a r ih =>
    cases r with
    | nil => rfl
    | cons b r =>
      have e : (a :: b :: r).length - 1 = ((b :: r).length - 1) + 1 := by
        have h1 : (a :: b :: r).length = r.length + 2 := rfl
        have h2 : (b :: r).length = r.length + 1 := rfl
        omega
      rw [e, List.eraseIdx_cons_succ, ih]
      all_goals rfl
theorem foldl_rep (its : List Value) : ∀ (k : Nat) (acc : List Value),
    List.foldl (fun x1 x2 => x1 ++ x2) acc.toArray (List.replicate k its.toArray) = (acc ++ (List.replicate k its).flatten).toArray
  | 0, acc => by simp
  | k + 1, acc => by
    have e : acc.toArray ++ its.toArray = (acc ++ its).toArray := by simp
    have e2 : (acc ++ its) ++ (List.replicate k its).flatten = acc ++ (List.replicate (k + 1) its).flatten := by
      rw [List.replicate_succ, List.flatten_cons, List.append_assoc]
    rw [← e2, ← foldl_rep its k (acc ++ its), ← e, List.replicate_succ, List.foldl_cons]
section
variable {X : Cx} {pins : List (Addr × Obj)} {σ : St} {H : Hp} {s : Shared} {l b : Addr} {xs ys zs : List V}
theorem Inv.lset {its its' : List Value} {n : Nat} {f : Array Value → Array Value} {t' : Nat} (I : Inv X pins σ H s) (hH : H l = some (.lst xs))
    (e : s.heap.get? l = some { cls := .type "list", data := .seq its.toArray n }) (hf : f its.toArray = its'.toArray) (hv : Vals ys its') (hz : ys.length ≤ sizeLine) (ht : 0 < t' := by first | exact Nat.succ_pos _ | assumption | exact Inv.tk (by assumption) | omega) :
    Inv X pins σ (upd H l (.lst ys)) { s with heap := s.heap.update l (Obj.mapSeq f), toks := t' } := by
  have q := PySem.IsL.update e f
  rw [hf] at q
  refine I.write (x := l) (e := l) (by rw [hH]; exact trivial) (.inl rfl) (fun b' u hb hu => (Heap.get?_update_other s.heap (Obj.mapSeq f) (Ne.symm hb)).trans hu) ⟨_, q⟩ ?_
  exact ⟨hz, its', _, hv, q⟩
theorem Inv.lnew {its : List Value} {t' : Nat} (I : Inv X pins σ H s) (hv : Vals ys its) (hz : ys.length ≤ sizeLine) (ht : 0 < t' := by first | exact Nat.succ_pos _ | assumption | exact Inv.tk (by assumption) | omega) :
    Inv X pins σ (upd H s.heap.objs.size (.lst ys)) { s with heap := s.heap.push { cls := .type "list", data := .seq its.toArray }, toks := t' } :=
  I.laid (fun _ _ q => Heap.get?_push_of_some _ q) (Nat.le_refl _) ⟨hz, its, 0, hv, Heap.get?_push_size _ rfl⟩
theorem Inv.fresh (I : Inv X pins σ H s) : H s.heap.objs.size = none := I.hok.fresh (Nat.le_refl _)
theorem Inv.lstM (I : Inv X pins σ H s) (hH : H l = some (.lst xs)) : xs.length ≤ sizeLine ∧ ∃ (its : List Value) (n : Nat), Vals xs its ∧ xs.length = its.length ∧ s.heap.get? l = some { cls := .type "list", data := .seq its.toArray n } := by
  obtain ⟨z, its, n, r, e⟩ := I.hok l _ hH
  exact ⟨z, its, n, r, r.length, e⟩
theorem notLongL {n : Nat} (h : n ≤ sizeLine) : Builtin.List.listTooLong n = false := by
  unfold Builtin.List.listTooLong
  exact decide_eq_false (by omega)
end
section
variable {X : Cx}
def rAppend : V → List V → Hp → VK → Prop := fun x vs H Q => ∃ l xs y, x = .ref l ∧ vs = [y] ∧ H l = some (.lst xs) ∧ xs.length < sizeLine ∧ Q .non (upd H l (.lst (xs ++ [y])))
theorem mt_append : MtM X "list.append" rAppend := by
  intro pins s σ H x vs v us Q I rx rv h
  obtain ⟨l, xs, y, rfl, rfl, hH, hz, q⟩ := h
  cases rx
  obtain ⟨u, rfl, ru⟩ := rv.one
  obtain ⟨z, its, n, r, hl, e⟩ := I.lstM hH
  refine call_meets F.slot_list_append ⟨_, e, rfl⟩ F.entry_list_append (F.args_list_append_2 _ _) (PySem.list_append l its.toArray n u (by rw [List.size_toArray]; omega)) ⟨e, ?_⟩
  refine ⟨.non, _, I.lset (its' := its ++ [u]) hH e (by simp) (r.append (.cons ru .nil)) ?_, rfl, q⟩
  rw [List.length_append, List.length_singleton]
  omega
def rExtend : V → List V → Hp → VK → Prop := fun x vs H Q => ∃ l b xs zs, x = .ref l ∧ vs = [.ref b] ∧ H l = some (.lst xs) ∧ H b = some (.lst zs) ∧ xs.length + zs.length ≤ sizeLine ∧ Q .non (upd H l (.lst (xs ++ zs)))
theorem mt_extend : MtM X "list.extend" rExtend := by
  intro pins s σ H x vs v us Q I rx rv h
  obtain ⟨l, b, xs, zs, rfl, rfl, hH, hB, hz, q⟩ := h
  cases rx
  obtain ⟨u, rfl, ru⟩ := rv.one
  cases ru
  obtain ⟨z, its, n, r, hl, e⟩ := I.lstM hH
  obtain ⟨z2, its2, n2, r2, hl2, e2⟩ := I.lstM hB
  have hsz : its.toArray.size + its2.toArray.size ≤ sizeLine := by rw [List.size_toArray, List.size_toArray]; omega
  have hlong : ¬ (!its.toArray.isEmpty && Builtin.List.listTooLong (its.toArray.size + its2.toArray.size)) = true := by
    rw [notLongL hsz, Bool.and_false]
    exact Bool.false_ne_true
  refine call_meets F.slot_list_extend ⟨_, e, rfl⟩ F.entry_list_extend (F.args_list_extend_2 _ _)
    (AutoSeq1.list_extend_list_list_0 l its.toArray n b its2.toArray n2 hlong (by rw [List.size_toArray]; omega) (by omega)) ⟨e, e2, ?_⟩
  refine ⟨.non, _, I.lset (its' := its ++ its2) hH e (by simp) (r.append r2) ?_, rfl, q⟩
  rw [List.length_append]
  omega
def rPop : V → List V → Hp → VK → Prop := fun x vs H Q => ∃ l xs y, x = .ref l ∧ vs = [] ∧ H l = some (.lst xs) ∧ xs[xs.length - 1]? = some y ∧ Q y (upd H l (.lst xs.dropLast))
theorem mt_pop : MtM X "list.pop" rPop := by
  intro pins s σ H x vs v us Q I rx rv h
  obtain ⟨l, xs, y, rfl, rfl, hH, hy, q⟩ := h
  cases rx
  have hus := rv.zero
  subst hus
  obtain ⟨z, its, n, r, hl, e⟩ := I.lstM hH
  obtain ⟨u, hu, ru⟩ := r.get hy
  have hy' : its.toArray[its.toArray.size - 1]? = some u := by
    show its.toArray[its.length - 1]? = some u
    rw [← Array.getElem?_toList, ← hl]
    exact hu
  refine call_meets F.slot_list_pop ⟨_, e, rfl⟩ F.entry_list_pop (F.args_list_pop_1 _) (MeetsSeq.list_pop_last l its.toArray n u hy' (by rw [List.size_toArray]; omega)) ⟨e, ?_⟩
  refine ⟨y, _, I.lset (its' := its.dropLast) hH e ?_ r.dropLast ?_, ru, q⟩
  · show its.toArray.eraseIdxIfInBounds (its.toArray.size - 1) = its.dropLast.toArray
    rw [List.size_toArray, List.eraseIdxIfInBounds_toArray, erase_last]
  · rw [List.length_dropLast]
    omega
def rCat : R2 := fun x y H Q => ∃ l b xs zs, x = .ref l ∧ y = .ref b ∧ H l = some (.lst xs) ∧ H b = some (.lst zs) ∧ xs.length + zs.length ≤ sizeLine ∧ ∀ p, H p = none → Q (.ref p) (upd H p (.lst (xs ++ zs)))
theorem op_cat : OpR X (binaryOp .Add) rCat := by
  intro pins s σ H x y v u Q I rx ry h
  obtain ⟨l, b, xs, zs, rfl, rfl, hH, hB, hz, q⟩ := h
  cases rx
  cases ry
  obtain ⟨z, its, n, r, hl, e⟩ := I.lstM hH
  obtain ⟨z2, its2, n2, r2, hl2, e2⟩ := I.lstM hB
  refine PySem.P.add_list e e2 ?_ (by rw [List.size_toArray, List.size_toArray]; omega)
  have ea : its.toArray ++ its2.toArray = (its ++ its2).toArray := by simp
  rw [ea]
  exact ⟨.ref _, _, I.lnew (t' := s.toks) (r.append r2) (by rw [List.length_append]; omega), rfl, q _ I.fresh⟩
def rRep : R2 := fun x y H Q => ∃ l k xs, x = .ref l ∧ y = .int k ∧ H l = some (.lst xs) ∧ -(2 ^ 63) ≤ k ∧ k < 2 ^ 63 ∧ xs.length * k.toNat ≤ sizeLine ∧
  ∀ p, H p = none → Q (.ref p) (upd H p (.lst (List.replicate k.toNat xs).flatten))
theorem len_rep {α : Type} (xs : List α) (k : Nat) : (List.replicate k xs).flatten.length = k * xs.length := by
  induction k with
  | zero => simp
  | succ k ih => rw [List.replicate_succ, List.flatten_cons, List.length_append, ih, Nat.succ_mul, Nat.add_comm]
theorem op_rep : OpR X (binaryOp .Mult) rRep := by
  intro pins s σ H x y v u Q I rx ry h
  obtain ⟨l, k, xs, rfl, rfl, hH, h1, h2, hz, q⟩ := h
  cases rx
  obtain ⟨t, rfl⟩ := ry
  obtain ⟨z, its, n, r, hl, e⟩ := I.lstM hH
  have hlen : its.toArray.size * k.toNat ≤ sizeLine := by rw [List.size_toArray, ← hl]; exact hz
  have hcap : ¬ its.toArray.size * k.toNat > (2 ^ 63 - 1) / 8 := by
    have : (sizeLine : Nat) ≤ (2 ^ 63 - 1) / 8 := by decide
    omega
  have hfit : ¬ (!Builtin.List.listFitsIndex k) = true := by
    rw [fitsIndex_both h1 h2]
    exact Bool.false_ne_true
  have hlong : ¬ Builtin.List.listTooLong (its.toArray.size * k.toNat) = true := by
    rw [notLongL hlen]
    exact Bool.false_ne_true
  have hnew : List.foldl (fun x1 x2 => x1 ++ x2) #[] (List.replicate (if its.toArray.isEmpty = true then 0 else k.toNat) its.toArray) = (List.replicate k.toNat its).flatten.toArray := by
    have f0 : ∀ m : Nat, List.foldl (fun x1 x2 => x1 ++ x2) #[] (List.replicate m its.toArray) = (List.replicate m its).flatten.toArray := fun m => by
      have := foldl_rep its m []
      rw [List.nil_append] at this
      exact this
    rw [f0]
    cases its with
    | nil => simp
    | cons a r' => rw [if_neg (by simp)]
  refine wpAny_binaryOp_repeat_ref (T := "list") (U := "int") (by decide) ⟨_, e, rfl⟩ (fun s' => typeIs_int s' k t) noFill_list_mul F.fills_int_mul F.slot_int_rmul repeat_list F.slot_int_index.lookup
    (call_meets F.slot_int_rmul (typeIs_int s k t) F.entry_int_rmul (F.args_int_rmul_2 _ _) (int___rmul___int_list k t l its.toArray n)
      ⟨e, rfl, ⟨_, e, rfl⟩, call_meets F.slot_list_mul ⟨_, e, rfl⟩ F.entry_list_mul (F.args_list_mul_2 _ _) (AutoListH.list___mul___list_int_3 l its.toArray n k t hfit hcap hlong) ⟨e, ?_⟩⟩)
  rw [hnew]
  exact ⟨.ref _, _, I.lnew (t' := s.toks) (r.rep k.toNat) (by rw [len_rep, Nat.mul_comm]; exact hz), rfl, q _ I.fresh⟩
end
section
variable {prog : Program} {w : World} {A : Around} {E : Value → Shared → Prop} {s : Shared}
set_option maxRecDepth 100000 in
end
end L2
namespace L2
open PySem PySem.Spec PyProof.Rows
section
variable {κ : Type} [DecidableEq κ]
def valV (kvs : List (κ × V)) (k : κ) : Option V := (kvs.find? fun kv => decide (kv.1 = k)).map (·.2)
def putK (kvs : List (κ × V)) (k : κ) (v : V) : List (κ × V) :=
  if (kvs.any fun kv => decide (kv.1 = k)) = true then kvs.map (fun kv => if kv.1 = k then (kv.1, v) else kv) else kvs ++ [(k, v)]
theorem valV_pos {p : κ × V} {r : List (κ × V)} {k : κ} (e : p.1 = k) : valV (p :: r) k = some p.2 := by simp [valV, List.find?_cons, e]
theorem valV_neg {p : κ × V} {r : List (κ × V)} {k : κ} (e : ¬ p.1 = k) : valV (p :: r) k = valV r k := by simp [valV, List.find?_cons, e]
theorem length_putK (kvs : List (κ × V)) (k : κ) (v : V) : (putK kvs k v).length ≤ kvs.length + 1 := by
  unfold putK
  split
  · rw [List.length_map]; omega
  · rw [List.length_append, List.length_cons, List.length_nil]; omega
theorem RelO.isSome_eq {o : Option V} {u : Option Value} (r : RelO o u) : o.isSome = u.isSome := by
  cases o with
  | none => cases u with
    | none => rfl
    | some _ => exact (show False from r).elim
  | some _ => cases u with
    | none => exact (show False from r).elim
    | some _ => rfl
theorem KV.val {kvs : List (κ × V)} {vs : List (κ × Value)} (r : KV kvs vs) (k : κ) : RelO (valV kvs k) (valueAt vs k) := by
  unfold KV at r
  induction r with
  | nil => exact True.intro
  | @cons p q ps qs h t ih =>
    obtain ⟨h1, h2⟩ := h
    by_cases e : p.1 = k
    · have e' : q.1 = k := h1.symm.trans e
      have b : valueAt (q :: qs) k = some q.2 := by simp [valueAt, List.find?_cons, e']
      rw [valV_pos e, b]; exact h2
    · have e' : ¬ q.1 = k := fun z => e (h1.trans z)
      have b : valueAt (q :: qs) k = valueAt qs k := by simp [valueAt, List.find?_cons, e']
      rw [valV_neg e, b]; exact ih
theorem KV.any {kvs : List (κ × V)} {vs : List (κ × Value)} (r : KV kvs vs) (k : κ) : (kvs.any fun kv => decide (kv.1 = k)) = vs.any fun kv => decide (kv.1 = k) := by
  unfold KV at r
  induction r with
  | nil => rfl
  | cons h t ih => rw [List.any_cons, List.any_cons, ih, h.1]
theorem KV.repl {kvs : List (κ × V)} {vs : List (κ × Value)} (r : KV kvs vs) (k : κ) {y : V} {u : Value} (ry : RelV y u) :
    KV (kvs.map fun kv => if kv.1 = k then (kv.1, y) else kv) (vs.map fun kv => if kv.1 = k then (kv.1, u) else kv) := by
  unfold KV at r ⊢
  induction r with
  | nil => exact .nil
  | @cons p q ps qs h t ih =>
    rw [List.map_cons, List.map_cons]
    refine .cons ?_ ih
    obtain ⟨h1, h2⟩ := h
    by_cases e : p.1 = k
    · rw [if_pos e, if_pos (h1.symm.trans e)]; exact ⟨h1, ry⟩
    · rw [if_neg e, if_neg (fun z => e (h1.trans z))]; exact ⟨h1, h2⟩
theorem KV.put {kvs : List (κ × V)} {vs : List (κ × Value)} (r : KV kvs vs) (k : κ) {y : V} {u : Value} (ry : RelV y u) : KV (putK kvs k y) (stored vs k u) := by
  unfold putK stored
  rw [r.any k]
  by_cases e : (vs.any fun kv => decide (kv.1 = k)) = true
  · rw [if_pos e, if_pos e]; exact r.repl k ry
  · rw [if_neg e, if_neg e]; exact Paired.snoc r ⟨rfl, ry⟩
theorem KV.keys {kvs : List (κ × V)} {vs : List (κ × Value)} (r : KV kvs vs) : kvs.map (·.1) = vs.map (·.1) := by
  unfold KV at r
  induction r with
  | nil => rfl
  | cons h t ih => rw [List.map_cons, List.map_cons, ih, h.1]
theorem KV.length {kvs : List (κ × V)} {vs : List (κ × Value)} (r : KV kvs vs) : kvs.length = vs.length := Paired.length r
end
theorem kV_is {P : Program} {w : World} {k : Key} {u : Value} (r : RelV (kV k) u) : (mixKind P w).is k u = true := by
  cases k with
  | inl i => obtain ⟨t, e⟩ := (show ∃ t, u = Value.int i t from r); subst e; exact mixKind_int P w i t
  | inr x => obtain ⟨t, e⟩ := (show ∃ t, u = Value.str x t from r); subst e; exact mixKind_str P w x t
theorem items_are {P : Program} {w : World} : ∀ {ks : List Key} {us : List Value}, Vals (ks.map kV) us → ItemsAre (mixKind P w) ks us
  | [], _, r => by rw [List.map_nil] at r; cases r; exact .nil
  | k :: ks, _, r => by
    rw [List.map_cons] at r
    cases r with
    | cons h t => exact .cons (kV_is h) (items_are t)
abbrev KT (H : Hp) : List (List Key × V) → List (List Key × Addr × Value) → Prop := Paired fun p q => p.1 = q.1 ∧ H q.2.1 = some (.tup (p.1.map kV)) ∧ RelV p.2 q.2.2
theorem KT.val {H : Hp} {kvs : List (List Key × V)} {xs : List (List Key × Addr × Value)} (r : KT H kvs xs) (k : List Key) : RelO (valV kvs k) ((atKey xs k).map (·.2)) := by
  induction r with
  | nil => exact True.intro
  | @cons p q ps qs h t ih =>
    obtain ⟨h1, _, h2⟩ := h
    by_cases e : p.1 = k
    · have e' : q.1 = k := h1.symm.trans e
      have b : atKey (q :: qs) k = some q.2 := by simp [atKey, List.find?_cons, e']
      rw [valV_pos e, b]; exact h2
    · have e' : ¬ q.1 = k := fun z => e (h1.trans z)
      have b : atKey (q :: qs) k = atKey qs k := by simp [atKey, List.find?_cons, e']
      rw [valV_neg e, b]; exact ih
section
variable {P : Program} {w : World} {H : Hp} {h : Heap} {a : Addr}
theorem rd_of {u : HO} (ok : HOk P w H h) (e : Rd H a u) : ObjOk P w H h a u := e.ok ok
theorem dk_rd {kvs : List (Key × V)} (ok : HOk P w H h) (e : Rd H a (.dK kvs)) : kvs.length ≤ sizeLine ∧ (a == sysModules) = false ∧ ∃ vs, KV kvs vs ∧ h.DictOf (mixKind P w) a vs :=
  show ObjOk P w H h a (.dK kvs) from rd_of ok e
theorem dk_of {kvs : List (Key × V)} (ok : HOk P w H h) (e : H a = some (.dK kvs)) : kvs.length ≤ sizeLine ∧ (a == sysModules) = false ∧ ∃ vs, KV kvs vs ∧ h.DictOf (mixKind P w) a vs := dk_rd ok (.inl e)
theorem key_of {ks : List Key} (ok : HOk P w H h) (e : H a = some (.tup (ks.map kV))) : (tupleKind (mixKind P w)).is h ks a := by
  obtain ⟨_, its, r, o, h1, h2, n, h3⟩ := (show ObjOk P w H h a (.tup (ks.map kV)) from ok a _ e)
  exact ⟨o, its.toArray, n, h1, h2, h3, by simpa using items_are r⟩
theorem dt_rd {kvs : List (List Key × V)} (ok : HOk P w H h) (e : Rd H a (.dT kvs)) : kvs.length ≤ sizeLine ∧ (a == sysModules) = false ∧
    ∃ xs, KT H kvs xs ∧ h.DictOfH (tupleKind (mixKind P w)) a xs := by
  obtain ⟨z, y, xs, r, o, es, ep, h1, h2, h3, h4, h5⟩ := (show ObjOk P w H h a (.dT kvs) from rd_of ok e)
  refine ⟨z, y, xs, r, o, es, ep, h1, h2, h3, h4, fun x hx => ?_, h5⟩
  have all : ∀ {l : List (List Key × V)} {m : List (List Key × Addr × Value)}, KT H l m → ∀ x ∈ m, (tupleKind (mixKind P w)).is h x.1 x.2.1 := by
    intro l m q
    induction q with
    | nil => intro x hx; exact nomatch hx
    | @cons p q ps qs hq t ih =>
      intro x hx
      rcases List.mem_cons.mp hx with e | hx
      · subst e
        exact key_of ok (by rw [← hq.1]; exact hq.2.1)
      · exact ih x hx
  exact all r x hx
end
def DGet (H : Hp) (a : Addr) (y : V) (r : Option V) : Prop :=
  (∃ kvs k, Rd H a (.dK kvs) ∧ y = kV k ∧ r = valV kvs k) ∨ ∃ kvs k b, Rd H a (.dT kvs) ∧ y = .ref b ∧ H b = some (.tup (k.map kV)) ∧ r = valV kvs k
theorem DGet.k {H : Hp} {a : Addr} {kvs : List (Key × V)} {k : Key} (e : H a = some (.dK kvs)) : DGet H a (kV k) (valV kvs k) := .inl ⟨kvs, k, .inl e, rfl, rfl⟩
section
variable {X : Cx} {pins : List (Addr × Obj)} {σ : St} {H : Hp} {s : Shared} {a : Addr} {y v : V} {u r : Value} {o : Option V} {A : Around} {E : Value → Shared → Prop}
theorem Inv.big (I : Inv X pins σ H s) : sysModules < s.heap.objs.size := by
  have h : mainGlobals < s.heap.objs.size := (I.mod.glob.keeps I.bk).lt
  exact Nat.lt_trans (by decide) h
theorem d_getItem {Q : Value → Shared → Prop} (hu : A.units + 1 < cLine) (I : Inv X pins σ H s) (g : DGet H a y (some v)) (ry : RelV y u) (h : ∀ w' s', Inv X pins σ H s' → RelV v w' → Q w' s') :
    wpAny (model X.prog X.w) A (getItem (.ref a) u) Q E s := by
  rcases g with ⟨kvs, k, e, ey, l⟩ | ⟨kvs, k, b, e, ey, eb, l⟩
  · subst ey
    obtain ⟨z, hd, vs, rel, dd⟩ := dk_rd I.hok e
    obtain ⟨w', hw, rw'⟩ := RelO.some_of (v := v) (o := valueAt vs k) (by rw [l]; exact rel.val k)
    exact wpAny_getItem_of (kV_is ry) dd.mapOf hw (h w' _ (I.tok _) rw')
  · subst ey
    cases (show u = Value.ref b from ry)
    obtain ⟨z, hd, xs, rel, dd⟩ := dt_rd I.hok e
    obtain ⟨w', hw, rw'⟩ := RelO.some_of (v := v) (o := (atKey xs k).map (·.2)) (by rw [l]; exact rel.val k)
    obtain ⟨p, hp, hp2⟩ := Option.map_eq_some_iff.mp hw
    refine wpAny_getItem_heap (tupleKind_room_in1 hu) (key_of I.hok eb) dd hp ?_
    rw [hp2]
    exact h w' _ (I.tok _) rw'
theorem d_in {Q : Value → Shared → Prop} (hu : A.units + 1 < cLine) (I : Inv X pins σ H s) (g : DGet H a y o) (ry : RelV y u) (h : ∀ s', Inv X pins σ H s' → Q (.bool o.isSome) s') :
    wpAny (model X.prog X.w) A (compareOp .In u (.ref a)) Q E s := by
  rcases g with ⟨kvs, k, e, ey, l⟩ | ⟨kvs, k, b, e, ey, eb, l⟩
  · subst ey
    obtain ⟨z, hd, vs, rel, dd⟩ := dk_rd I.hok e
    refine wpAny_in_of (kV_is ry) hd dd.mapOf ?_
    rw [← (rel.val k).isSome_eq, ← l]
    exact h _ (I.tok _)
  · subst ey
    cases (show u = Value.ref b from ry)
    obtain ⟨z, hd, xs, rel, dd⟩ := dt_rd I.hok e
    refine wpAny_in_heap (tupleKind_room_in1 hu) (key_of I.hok eb) hd dd ?_
    have q := (rel.val k).isSome_eq
    rw [Option.isSome_map] at q
    rw [← q, ← l]
    exact h _ (I.tok _)
theorem d_write {h' : Heap} {t' : Nat} {ob : HO} (I : Inv X pins σ H s) (mu : Mut (H a)) (hs : Heap.SameBut a s.heap h') (he : ∃ q, h'.get? a = some q) (new : ObjOk X.prog X.w (upd H a ob) h' a ob) (ht : 0 < t' := by first | exact Nat.succ_pos _ | assumption | exact Inv.tk (by assumption) | omega) :
    Inv X pins σ (upd H a ob) { s with heap := h', toks := t' } :=
  I.write (x := a) (e := a) mu (.inl rfl) (fun b q hb z => (hs.2 b hb).trans z) he new
theorem dk_new {P : Program} {w : World} {H' : Hp} {h' : Heap} {kvs : List (Key × V)} {vs : List (Key × Value)} (z : kvs.length ≤ sizeLine) (hd : (a == sysModules) = false) (rel : KV kvs vs) (dd : h'.DictOf (mixKind P w) a vs) :
    ObjOk P w H' h' a (.dK kvs) := ⟨z, hd, vs, rel, dd⟩
end
section
variable {X : Cx} {pins : List (Addr × Obj)} {σ : St} {H : Hp} {s : Shared} {a : Addr} {kvs : List (Key × V)} {k : Key} {u : Value} {A : Around} {E : Value → Shared → Prop}
theorem d_len {Q : Value → Shared → Prop} (I : Inv X pins σ H s) (e : Rd H a (.dK kvs)) (h : ∀ t s', Inv X pins σ H s' → Q (.int kvs.length t) s') : wpAny (model X.prog X.w) A (call (.builtin "len") [.ref a]) Q E s := by
  obtain ⟨z, hd, vs, rel, dd⟩ := dk_rd I.hok e
  refine call_len_dict hd dd (by rw [← rel.length]; rw [sizeLine_eq] at z; omega) ?_
  rw [← rel.length]
  exact h _ _ (I.tok _)
end
theorem dict_typeIs {X : Cx} {pins : List (Addr × Obj)} {σ : St} {H : Hp} {s : Shared} {a : Addr} {y : V} {o : Option V} (I : Inv X pins σ H s) (g : DGet H a y o) : s.TypeIs (.ref a) "dict" := by
  rcases g with ⟨kvs, k, e, _, _⟩ | ⟨kvs, k, b, e, _, _, _⟩
  · obtain ⟨_, _, vs, _, dd⟩ := dk_rd I.hok e
    exact dd.typeIs
  · obtain ⟨_, _, xs, _, dd⟩ := dt_rd I.hok e
    exact dd.typeIs
theorem dk_empty {P : Program} {w : World} {H : Hp} (h : Heap) (hb : sysModules < h.objs.size) : ObjOk P w H (h.push { cls := .type "dict", data := .dict #[] }) h.objs.size (.dK []) :=
  ⟨Nat.zero_le _, beq_eq_false_iff_ne.mpr (Ne.symm (Nat.ne_of_lt hb)), [], .nil, Heap.DictOf.new h⟩
def tPairs : List (TE × TE) → St → Hp → (List (V × V) → Hp → Prop) → Prop
  | [], _, H, Q => Q [] H
  | (tk, tv) :: r, σ, H, Q => tk σ H fun x H1 => tv σ H1 fun y H2 => tPairs r σ H2 fun ps H3 => Q ((x, y) :: ps) H3
abbrev VV : List (V × V) → List (Value × Value) → Prop := Paired fun p q => RelV p.1 q.1 ∧ RelV p.2 q.2
def PPs (X : Cx) (pos : Pos) (keys : List (Option Expr)) (values : List Expr) (trs : List (TE × TE)) : Prop :=
  ∀ (pins : List (Addr × Obj)) (s : Shared) (σ : St) (H : Hp) (Q : List (V × V) → Hp → Prop), Inv X pins σ H s → tPairs trs σ H Q →
    wpAny (model X.prog X.w) X.A (evalPairs (pairTrees keys values X.env pos)) (fun vs s' => ∃ ps H', Inv X pins σ H' s' ∧ VV ps vs ∧ Q ps H') X.xe s
theorem pps_nil {X : Cx} {pos : Pos} : PPs X pos [] [] [] := fun pins s σ H Q I h => pairTrees_nil_walk ⟨[], H, I, .nil, h⟩
theorem pps_cons {X : Cx} {pos : Pos} {k v : Expr} {ks : List (Option Expr)} {vs : List Expr} {tk tv : TE} {trs : List (TE × TE)} (hk : PE X k tk) (hv : PE X v tv) (hr : PPs X pos ks vs trs) :
    PPs X pos (some k :: ks) (v :: vs) ((tk, tv) :: trs) := fun pins s σ H Q I h =>
  pairTrees_cons_walk (thn (hk pins s σ H _ I h) fun u s1 ⟨x, H1, I1, rx, q1⟩ => thn (hv pins s1 σ H1 _ I1 q1) fun w2 s2 ⟨y, H2, I2, ry, q2⟩ =>
    thn (hr pins s2 σ H2 _ I2 q2) fun ws s3 ⟨ps, H3, I3, rel, q3⟩ => ⟨(x, y) :: ps, H3, I3, .cons ⟨rx, ry⟩ rel, q3⟩)
def mergeK (kvs more : List (Key × V)) : List (Key × V) := more.foldl (fun acc kv => putK acc kv.1 kv.2) kvs
theorem KV.merge : ∀ {more : List (Key × V)} {rs : List (Key × Value)} {kvs : List (Key × V)} {vs : List (Key × Value)}, KV more rs → KV kvs vs → KV (mergeK kvs more) (merged vs rs) := by
  intro more rs kvs vs r
  unfold KV at r
  induction r generalizing kvs vs with
  | nil => intro q; exact q
  | @cons p q ps qs h t ih =>
    intro r0
    have e : KV (putK kvs p.1 p.2) (stored vs q.1 q.2) := by
      have := r0.put p.1 h.2
      rw [← h.1]; exact this
    exact ih e
theorem length_mergeK : ∀ (more kvs : List (Key × V)), (mergeK kvs more).length ≤ kvs.length + more.length
  | [], kvs => by show kvs.length ≤ kvs.length + 0; omega
  | p :: r, kvs => by
    have h1 := length_mergeK r (putK kvs p.1 p.2)
    have h2 := length_putK kvs p.1 p.2
    show (mergeK (putK kvs p.1 p.2) r).length ≤ _
    rw [List.length_cons]; omega
theorem carries_of {P : Program} {w : World} : ∀ {kvs : List (Key × V)} {ws : List (Value × Value)}, VV (kvs.map fun kv => (kV kv.1, kv.2)) ws → ∃ rs, Carries (mixKind P w) ws rs ∧ KV kvs rs
  | [], _, r => by rw [List.map_nil] at r; cases r; exact ⟨[], True.intro, .nil⟩
  | p :: kvs, _, r => by
    rw [List.map_cons] at r
    cases r with
    | @cons a b as bs h t =>
      obtain ⟨rs, c, q⟩ := carries_of (P := P) (w := w) t
      obtain ⟨b1, b2⟩ := b
      exact ⟨(p.1, b2) :: rs, ⟨kV_is h.1, rfl, c⟩, .cons ⟨rfl, h.2⟩ q⟩
def tDisp (trs : List (TE × TE)) : TE := fun σ H Q => ∀ p, H p = none → tPairs trs σ (upd H p (.dK [])) fun ps H2 => H2 p = some (.dK []) ∧ ∃ kvs : List (Key × V), ps = kvs.map (fun kv => (kV kv.1, kv.2)) ∧ kvs.length ≤ 15 ∧ Q (.ref p) (upd H2 p (.dK (mergeK [] kvs)))
theorem pe_disp {X : Cx} {pos : Pos} {keys : List (Option Expr)} {values : List Expr} {trs : List (TE × TE)} (h : PPs X pos keys values trs) (hall : keys.all (·.isSome) = true) (hl : keys.length = values.length) (h0 : keys ≠ [])
    (h15 : keys.length ≤ 15) : PE X (.Dict keys values pos) (tDisp trs) := by
  intro pins s σ H Q I q
  have hn := I.hok.fresh (Nat.le_refl s.heap.objs.size)
  have I1 := I.laid (a := s.heap.objs.size) (o := .dK []) (h' := s.heap.push { cls := .type "dict", data := .dict #[] }) (t' := s.toks) (fun _ _ q => Heap.get?_push_of_some _ q) (Nat.le_refl _) (dk_empty s.heap I.big)
  refine wpAny_Dict_walk (knd := mixKind X.prog X.w) hall hl h0 h15 (thn (h pins _ σ _ _ I1 (q _ hn)) fun ws s2 ⟨ps, H2, I2, rel, e, kvs, ep, lk, q2⟩ => ?_)
  subst ep
  obtain ⟨rs, c, rk⟩ := carries_of (P := X.prog) (w := X.w) rel
  obtain ⟨z, hd, vs0, r0, dd⟩ := dk_of I2.hok e
  cases r0
  refine ⟨rs, c, dd, fun h' dd' hs => ⟨.ref s.heap.objs.size, _, ?_, rfl, q2⟩⟩
  have hz : (mergeK [] kvs).length ≤ sizeLine := by
    have h1 := length_mergeK kvs []
    rw [List.length_nil] at h1
    rw [sizeLine_eq]; omega
  have he : ∃ q, h'.get? s.heap.objs.size = some q := let ⟨q, _, _, hq, _⟩ := dd'; ⟨q, hq⟩
  exact d_write I2 (by rw [e]; exact True.intro) hs he (dk_new hz hd (rk.merge .nil) dd') (by have z := I2.tk; (try dsimp only at z); (try dsimp only); omega)
structure M1 (X : Cx) (o : Expr) (m : Str) (apos : Pos) (e : Expr) (cpos : Pos) : Prop where
  base : attributeBase o m X.env (eval o X.env) = eval o X.env
  few : ((backTo cpos (starEach [e] X.env)).all (fun x => !x.1) && (backToKw cpos (keywordEach [] X.env)).all (fun x => x.1.isSome)
    && decide (([e] : List Expr).length + ([] : List Keyword).length + (if ([] : List Keyword).isEmpty then 0 else 1) < 30)) = true
  line : (apos.endLine == cpos.line) = true
  trees : backTo cpos (starEach [e] X.env) = [(false, eval e X.env)]
structure M2 (X : Cx) (o : Expr) (m : Str) (apos : Pos) (e f : Expr) (cpos : Pos) : Prop where
  base : attributeBase o m X.env (eval o X.env) = eval o X.env
  few : ((backTo cpos (starEach [e, f] X.env)).all (fun x => !x.1) && (backToKw cpos (keywordEach [] X.env)).all (fun x => x.1.isSome)
    && decide (([e, f] : List Expr).length + ([] : List Keyword).length + (if ([] : List Keyword).isEmpty then 0 else 1) < 30)) = true
  line : (apos.endLine == cpos.line) = true
  trees : backTo cpos (starEach [e, f] X.env) = [(false, eval e X.env), (false, eval f X.env)]
end L2
namespace Att
open PySem PySem.W PySem.Calls PyProof.Rows
theorem ints_of_wellAll {P : Params} {h : Heap} : ∀ (ns : List Int) (vs : List Value), WellAll P h vs (ns.map WData.int) → IntsAre vs ns := by
  intro ns
  induction ns with
  | nil =>
    intro vs w
    rw [List.map_nil] at w
    cases w
    exact .nil
  | cons n ns ih =>
    intro vs w
    rw [List.map_cons] at w
    cases w with
    | cons a b =>
      cases a
      exact .cons _ _ (ih _ b)
theorem script_of {l : OpenLaw} {n : Nat} (hn : l.most = some n) {P : Params} {h : Heap} {args : List WData} {vals : List Value}
    (hpre : l.row.toRowW.claim.pre args = true) (hwl : WellAll P h vals args) :
    ∃ a vs ns, vals = [Value.ref a] ∧ args = [WData.list (ns.map WData.int)] ∧ h.get? a = some { cls := .type "list", data := .seq vs.toArray } ∧ IntsAre vs ns ∧ ns.length ≤ n := by
  have hsh : WShape.hasAll [] args [.list .int] = true := (pre_splitW hpre).1
  have hc : l.pre.holds [] { args := args } = true := (pre_splitW hpre).2
  obtain ⟨d, r, rfl, h1, h2⟩ := hasAllW_cons hsh
  obtain rfl := hasAllW_nil h2
  obtain ⟨xs, rfl, h3⟩ := hasW_list h1
  obtain ⟨ns, rfl⟩ := items_int h3
  have hlen : ns.length ≤ n := by
    unfold OpenLaw.pre at hc
    have h4 : (WTm.not (.lt (.lit (.int (n : Int))) (.len (.arg 0)))).holds [] { args := [.list (ns.map .int)] } = true := by
      have h4 := (holds_andW hc).1
      rw [hn] at h4
      exact h4
    have h5 := condW_of h4 (w_not (w_lt w_lit (w_len_list (w_arg rfl))))
    rw [List.length_map] at h5
    refine Nat.le_of_not_lt fun q => ?_
    have q' : (n : Int) < ((ns.length : Nat) : Int) := by omega
    first
      | (rw [decide_eq_true q'] at h5; exact absurd h5 (by decide))
      | (simp at h5; omega)
  cases hwl with
  | cons w1 w2 =>
    cases w2
    cases w1 with
    | list ho hall => exact ⟨_, _, ns, rfl, rfl, ho, ints_of_wellAll ns _ hall, hlen⟩
theorem post_true (l : OpenLaw) (args : List WData) : l.row.toRowW.claim.post args (.bool true) args = true :=
  postW_of (r := l.row.toRowW) (X := (true == true))
    (show WShape.has [] (.bool true) .bool = true by first | rfl | decide | simp [WShape.has, WShape.arms, WShape.armsAll])
    (show (WTm.eq .res (.lit (.bool true))).value [] { args := args, res := some (.bool true), after := args } = some (.bool (true == true)) from w_eq_bool (w_res rfl) w_lit) rfl
theorem attach_call {l : OpenLaw} {n : Nat} {q : Program} {loose : List Str} {XP : (Str → Option Value) → Heap → Prop} {YP : World → Heap → Prop} {d : DefRec}
    (hn : l.most = some n) (hdf : d.params.defaults = [])
    (call : ∀ (w : World) (s₀ s₁ : Shared) (mg mb : Str → Option Value) (fa : Addr) (o : Obj) (pm cd doc : Value) (a : Addr) (vs : List Value) (ns : List Int),
      Ground q loose [] XP w s₀ mg mb s₁.heap → YP w s₁.heap →
      s₁.heap.get? fa = some o → o.data = .func (docDef d.name d.params d.body d.scope pm cd doc) → s₁.heap.CodeRec cd d.name → mg d.name = some (.ref fa) →
      s₁.heap.get? a = some { cls := .type "list", data := .seq vs.toArray } → IntsAre vs ns → ns.length ≤ n → s₁.gens = #[] →
      codeAny (model l.prog w) callerA (.call (.ref fa) ⟨[.ref a], []⟩) (fun r s' => r = .ok (.ret (.bool true)) ∧ OldK s₁.heap s'.heap ∧ s'.os = s₁.os ∧ AllBare s'.gens) s₁) :
    WalkO q loose XP YP l.row.toRowW d [] (fun f vs => PySem.call f vs) := by
  intro w s₀ s₁ mg mb G Y fa o pm cd doc dV kV ho hd hcd hD hmg hg args vals as hpre hlay hrd hwl hlo
  obtain rfl : dV = .none := Dflts.none hD hdf
  obtain rfl : kV = .none := Dflts.noKw hD
  obtain ⟨a, vs, ns, rfl, rfl, hobj, hints, hlen⟩ := script_of hn hpre hwl
  refine enter_call (codeAny_mono (call w s₀ s₁ mg mb fa o pm cd doc a vs ns G Y ho (fd_plain hd) hcd hmg hobj hints hlen hg) fun r s' hq => ?_)
  obtain ⟨rfl, h2, h3, h4⟩ := hq
  exact ⟨.inl ⟨.bool true, .bool true, [], rfl, fun _ => rfl, .bool true, post_true l _, fun _ => ⟨List.Pairwise.nil, fun _ hm => (nomatch hm)⟩⟩, h2, h3, h4⟩
end Att
namespace L2
open PySem PySem.Spec PyProof.Rows
theorem vals_ints : ∀ {vs : List Value} {ns : List Int}, IntsAre vs ns → Vals (ns.map V.int) vs
  | _, _, .nil => .nil
  | _, _, .cons n t h => .cons ⟨t, rfl⟩ (vals_ints h)
def Only (H : Hp) : Prop := ∀ b, H b = none ∨ ∃ o xs, H b = some (.frz o (.lst xs))
theorem law_call {P : Program} {w : World} {K : PySem.W.Frag} {mg mb : Str → Option Value} {CX : CXT} {k : Nat} {fa a : Addr} {fd : FuncData} {x : Str} {sp : Sp} {s₁ : Shared} {vs : List Value} {ns : List Int}
    (KX : K.In s₁.heap) (hns : s₁.heap.Ns mainGlobals mg) (hb : s₁.heap.Ns builtinsNs mb) (hbb : ∀ x : Str, x ≠ "__name__" → mb x = bootBuiltins x) (hlim : s₁.heap.NoLimit) (hg : s₁.gens = #[])
    (ha : s₁.heap.get? a = some { cls := .type "list", data := .seq vs.toArray }) (hi : IntsAre vs ns) (hl : ns.length ≤ sizeLine) (hr : Room k callerA)
    (F : ∀ base : Heap, K.In base → base.Ns mainGlobals mg → FnOk P w K mg base CX k fa fd [x] sp) (hT : fd.scope.names.lookup x = some .local) (hbind : ∀ (s : Shared) (u : Value), BindsTo s fd ⟨[u], []⟩ [(x, u)])
    (hsp : ∀ H : Hp, Only H → SqL K H a (ns.map V.int) → sp [.ref a] H (fun v _ => v = .bl true) fun _ _ _ => False)
    (hCX : ∀ H e s', CX [] H s₁ (fun _ _ _ => False) e s' → False) :
    codeAny (model P w) callerA (.call (.ref fa) ⟨[.ref a], []⟩) (fun r s' => r = .ok (.ret (.bool true)) ∧ OldK s₁.heap s'.heap ∧ s'.os = s₁.os ∧ AllBare s'.gens) s₁ := by
  have rv := vals_ints hi
  have lenV := hi.length
  have core : ∀ H : Hp, Only H → SqL K H a (ns.map V.int) → HOk P w H s₁.heap → (∀ b, H b ≠ none → b = a) → (H a ≠ none → K.lookup a = none) →
      codeAny (model P w) callerA (.call (.ref fa) ⟨[.ref a], []⟩) (fun r s' => r = .ok (.ret (.bool true)) ∧ OldK s₁.heap s'.heap ∧ s'.os = s₁.os ∧ AllBare s'.gens) s₁ := by
    intro H hO hS hok hA hK
    have base_of : ∀ {b : Addr} {o : Obj}, s₁.heap.get? b = some o → H b = none → (hidT s₁.heap H).get? b = some o := fun e n => hidT_get e n
    have noA : ∀ {b : Addr} {o : Obj} {es : Array DictEntry} {ep : Nat}, s₁.heap.get? b = some o → o.data = .dict es ep → H b = none := fun {b o es ep} e d => by
      cases q : H b with
      | none => rfl
      | some u =>
        have e' : b = a := hA b (by rw [q]; simp)
        subst e'
        rw [ha] at e; cases e
        have d' : Data.seq vs.toArray _ = Data.dict es ep := d
        cases d'
    have nsK : ∀ {b : Addr} {m : Str → Option Value}, s₁.heap.Ns b m → (hidT s₁.heap H).Ns b m := fun {b m} ⟨o, es, ep, e, d, r⟩ => ⟨o, es, ep, base_of e (noA e d), d, r⟩
    have hKb : K.In (hidT s₁.heap H) := fun b o e => base_of (KX b o e) (by
      cases q : H b with
      | none => rfl
      | some u =>
        have e' : b = a := hA b (by rw [q]; simp)
        subst e'
        rw [hK (by rw [q]; simp)] at e; cases e)
    have hM : Mod K mg (hidT s₁.heap H) := ⟨hKb, nsK hns, ⟨mb, nsK hb, hbb⟩, let ⟨mc, h1, h2⟩ := hlim; ⟨mc, nsK h1, h2⟩⟩
    have e0 : Env0 P w K mg (hidT s₁.heap H) callerA [] s₁ H := ⟨rfl, hM, fun b o e => of_hidT e, Nat.le_of_eq (hidT_size _ _), trivial, fun b hb => absurd (show b ∈ ([] : List Addr) from hb) (by simp), hok, .of_eq hg⟩
    refine codeAny_mono ((F _ hKb (nsK hns)).run callerA [] s₁ H ⟨[.ref a], []⟩ [.ref a] [.ref a] _ _ hr e0 (.inr ⟨x, List.mem_singleton.mpr rfl, hT⟩) (hbind s₁ (.ref a)) (.cons rfl .nil) (hsp H hO hS)) fun r s' h => ?_
    cases r with
    | error e => exact (hCX H e s' h).elim
    | ok fl =>
      cases fl with
      | next => exact False.elim h
      | brk => exact False.elim h
      | cont => exact False.elim h
      | ret u =>
        obtain ⟨v, H', os, bare, un, hok', r', q⟩ := h
        have q' : v = .bl true := q
        subst q'
        obtain rfl : u = Value.bool true := r'
        refine ⟨rfl, OldK.of_keep fun b o e => ?_, os, bare⟩
        cases q : H b with
        | none => exact un.keep b o e q (by intro z; exact absurd (show b ∈ ([] : List Addr) from z) (by simp)) (by simp)
        | some u =>
          rcases hO b with z | ⟨ob, xs, z⟩
          · rw [q] at z; cases z
          · have z2 := un.frzs b ob _ z
            obtain ⟨e1, _⟩ := hok b _ z
            obtain ⟨e2, _⟩ := hok' b _ z2
            rw [e] at e1; cases e1
            exact e2
  cases hk : K.lookup a with
  | some o =>
    have e := KX a o hk
    rw [ha] at e
    cases e
    refine core (fun _ => none) (fun _ => .inl rfl) (.inr ⟨_, vs.toArray, _, hk, rfl, rfl, rfl, by rw [List.size_toArray, lenV]; exact hl, by simpa using rv⟩) (fun b u z => by have z' : (none : Option HO) = some u := z; cases z') (fun b z => absurd rfl z) fun z => absurd rfl z
  | none =>
    refine core (fun b => if b = a then some (.frz { cls := .type "list", data := .seq vs.toArray } (.lst (ns.map V.int))) else none) (fun b => ?_) (.inl (.inr ⟨{ cls := .type "list", data := .seq vs.toArray }, if_pos rfl⟩)) (fun b u z => ?_) (fun b z => ?_) fun _ => hk
    · by_cases hb : b = a
      · exact .inr ⟨_, _, if_pos hb⟩
      · exact .inl (if_neg hb)
    · by_cases hb : b = a
      · have z' := (if_pos hb).symm.trans z
        cases z'
        subst hb
        exact ⟨ha, by rw [List.length_map]; exact hl, vs, _, rv, ha⟩
      · have z' := (if_neg hb).symm.trans z
        cases z'
    · by_cases hb : b = a
      · exact hb
      · exact absurd (if_neg hb) z
end L2
namespace L2
open PySem PySem.Spec PyProof.Rows
theorem walk_of {l : PySem.W.OpenLaw} {n k : Nat} {q : Program} {loose : List Str} {XP : (Str → Option Value) → Heap → Prop} {YP : World → Heap → Prop} {d : DefRec} {K : Params → PySem.W.Frag} {CX : World → CXT} {sp : World → Sp} {x : Str}
    (hn : l.most = some n) (hn2 : n ≤ sizeLine) (hdf : d.params.defaults = []) (hr : Room k callerA)
    (hY : ∀ (w : World) (h : Heap), YP w h → (K w.params).In h)
    (F : ∀ (w : World) (mg : Str → Option Value) (fa : Addr) (h : Heap), (K w.params).In h → h.Ns mainGlobals mg → mg d.name = some (.ref fa) →
      ∃ fd : FuncData, (∀ (s : Shared) (u : Value), BindsTo s fd ⟨[u], []⟩ [(x, u)]) ∧ fd.scope.names.lookup x = some .local ∧
        ∀ base : Heap, (K w.params).In base → base.Ns mainGlobals mg → FnOk l.prog w (K w.params) mg base (CX w) k fa fd [x] (sp w))
    (hsp : ∀ (w : World) (H : Hp) (a : Addr) (ns : List Int), ns.length ≤ n → Only H → SqL (K w.params) H a (ns.map V.int) → sp w [.ref a] H (fun v _ => v = .bl true) fun _ _ _ => False)
    (hCX : ∀ (w : World) (H : Hp) (s : Shared) (e : Value) (s' : Shared), CX w [] H s (fun _ _ _ => False) e s' → False) :
    PySem.W.WalkO q loose XP YP l.row.toRowW d [] (fun f vs => PySem.call f vs) := by
  refine Att.attach_call hn hdf fun w s₀ s₁ mg mb fa o pm cd doc a vs ns G Y ho hd hcd hmg hobj hints hlen hg => ?_
  have KX := hY w _ Y
  obtain ⟨fd, hb, hT, hF⟩ := F w mg fa _ KX G.T.g hmg
  exact law_call KX G.T.g G.T.b G.T.builtins G.T.nolimit hg hobj hints (Nat.le_trans hlen hn2) hr hF hT hb (fun H hO hS => hsp w H a ns hlen hO hS) fun H e s' => hCX w H s₁ e s'
end L2
namespace L2
open PySem PySem.Spec PyProof.Rows
def defArgs (s : Stmt) : Arguments := match s with
  | .FunctionDef _ a _ _ _ _ _ _ _ _ => a
  | _ => { posonlyargs := [], args := [], vararg := none, kwonlyargs := [], kw_defaults := [], kwarg := none, defaults := [] }
def defBody (s : Stmt) : List Stmt := match s with
  | .FunctionDef _ _ b _ _ _ _ _ _ _ => b
  | _ => []
def defScope (s : Stmt) : Scope := match s with
  | .FunctionDef _ _ _ _ _ _ sc _ _ _ => sc
  | _ => { kind := .function, names := [], isGenerator := false, isCoroutine := false }
abbrev CX0 : CXT := fun _ _ _ _ _ _ => False
abbrev E0 : XK := fun _ _ _ => False
theorem pass0 {X : Cx} : Passes CX0 X E0 := fun _ _ _ _ _ _ _ h => h.elim
structure Fun (K : PySem.W.Frag) (x qual : Str) (st : Stmt) (f : Addr) (fd : FuncData) : Prop where
  ex : ∃ (oc : Value) (od : Option Addr) (kV doc pm : Value) (an : Option Addr) (cdv ct : Value) (osl : Array (Option Value)),
    fd = PySem.W.fnOf x qual (defArgs st) (defBody st) (defScope st) .none kV doc pm an cdv ct ∧ K.lookup f = some ⟨oc, od, .func fd, osl⟩ ∧ PySem.W.codeIn K cdv qual = true
  kp : PySem.W.keepIn K (.ref f) = true
section
variable {P : Program} {w : World} {K : PySem.W.Frag} {mg : Str → Option Value} {base : Heap}
theorem Fun.ok {x qual : Str} {st : Stmt} {f : Addr} {fd : FuncData} {N ps : List Str} {k : Nat} {sp : Sp} (F : Fun K x qual st f fd) (S : FnScope N ps (defScope st)) (len : ∀ vs H Q E, sp vs H Q E → vs.length = ps.length)
    (hbody : ∀ (cdv : Value) (A : Around) (outer : List Env) (s : Shared) (H : Hp) (vs : List V) (Q : VK) (E : XK), Room k (A.deeper (envOfC qual (defScope st) s.heap.objs.size f cdv)) → sp vs H Q E →
      ∃ t, PSs (cxOf CX0 P w K mg base N qual (defScope st) f cdv A outer s H E).nox (defBody st) t ∧ t { nx := fun _ H' => Q .non H', rt := Q } (start N vs) H) : FnOk P w K mg base CX0 (k + 1) f fd ps sp := by
  obtain ⟨oc, od, kV, doc, pm, an, cdv, ct, osl, rfl, lk, hcd⟩ := F.ex
  refine fn_of lk hcd S len fun A outer s H vs Q E hr hsp => ?_
  obtain ⟨t, h, q⟩ := hbody cdv A outer s H vs Q E hr hsp
  exact ⟨t, h.nox, q⟩
theorem Fun.binds {x qual : Str} {st : Stmt} {f : Addr} {fd : FuncData} {ps : List Str} (F : Fun K x qual st f fd)
    (h : ∀ (kV doc pm : Value) (an : Option Addr) (cdv ct : Value) (us : List Value), us.length = ps.length → bindArgs (PySem.W.fnOf x qual (defArgs st) (defBody st) (defScope st) .none kV doc pm an cdv ct) ⟨us, []⟩ = pure (ps.zip us)) : Binds K fd ps [] := by
  obtain ⟨oc, od, kV, doc, pm, an, cdv, ct, osl, rfl, lk, hcd⟩ := F.ex
  exact .all (h kV doc pm an cdv ct)
theorem fun_mk {x qual : Str} {st : Stmt} {f : Addr} {oc : Value} {od an : Option Addr} {osl : Array (Option Value)} {kV doc pm cdv ct : Value} (l : K.lookup f = some ⟨oc, od, .func (PySem.W.fnOf x qual (defArgs st) (defBody st) (defScope st) .none kV doc pm an cdv ct), osl⟩)
    (c : PySem.W.codeIn K cdv qual = true) (k : PySem.W.keepIn K (.ref f) = true) : Fun K x qual st f (PySem.W.fnOf x qual (defArgs st) (defBody st) (defScope st) .none kV doc pm an cdv ct) := ⟨⟨oc, od, kV, doc, pm, an, cdv, ct, osl, rfl, l, c⟩, k⟩
end
theorem hu_of {A : Around} {k : Nat} (hr : Room k A) : A.units + 1 < cLine := Nat.lt_of_le_of_lt (Nat.add_le_add_left (by decide : 1 ≤ 64) _) hr.units
theorem iteF {A B : Prop} (h : B) : if false = true then A else B := by
  rw [if_neg Bool.false_ne_true]
  exact h
theorem iteT {A B : Prop} (h : A) : if true = true then A else B := by
  rw [if_pos rfl]
  exact h
end L2
namespace L2
open PySem PySem.Spec PyProof.Rows
section
variable {X : Cx}
theorem call_lenD : CallR X (.builtin "len") (fun xs H Q => ∃ a kvs, xs = [V.ref a] ∧ H a = some (.dK kvs) ∧ Q (.int kvs.length) H) := by
  intro pins s σ H xs us Q I r h
  obtain ⟨a, kvs, rfl, ha, q⟩ := h
  obtain ⟨u, rfl, ru⟩ := vals1 r
  cases ru
  exact d_len I (.inl ha) fun t s' I' => ⟨.int kvs.length, H, I', ⟨t, rfl⟩, q⟩
end
end L2
set_option maxHeartbeats 4000000
namespace L2
open PySem PySem.Spec PyProof.Rows
abbrev compCx (X : Cx) (vars : List Str) (scope : Scope) (cl : List (Str × Addr)) (C : Addr) (fp : List Addr) (s₂ : Shared) (H₂ : Hp) : Cx where
  prog := X.prog
  w := X.w
  K := X.K
  mg := X.mg
  base := X.base
  A := X.A
  N := X.N ++ vars
  s₀ := s₂
  H₀ := H₂
  env := compEnvC scope cl C X.env
  outer := X.stack
  stack := X.stack
  ex := fp
  fn := fun _ => false
  calm := X.calm
  pn := []
  xe := fun _ _ => False
def CellsIn (cells : List (Str × Addr)) : List (Str × Addr) → Prop
  | [] => True
  | p :: r => cells.lookup p.1 = some p.2 ∧ CellsIn cells r
theorem CellsIn.get {cells : List (Str × Addr)} : ∀ {cl : List (Str × Addr)} {x : Str} {c : Addr}, CellsIn cells cl → cl.lookup x = some c → cells.lookup x = some c
  | [], _, _, _, e => by simp at e
  | (y, d) :: r, x, c, h, e => by
    cases hx : x == y with
    | true =>
      simp only [List.lookup_cons, hx] at e
      have e1 : x = y := eq_of_beq hx
      subst e1
      rw [← e]
      exact h.1
    | false =>
      simp only [List.lookup_cons, hx] at e
      exact CellsIn.get h.2 e
def okK (on : List (Str × NameKind)) (vars : List Str) (cl : List (Str × Addr)) (x : Str) : NameKind → Bool
  | .local => x == (".0" : Str) || vars.contains x
  | .cell => false
  | .free => (cl.lookup x).isSome && (on.lookup x == some .cell || on.lookup x == some .free)
  | _ => true
structure CompScope (X : Cx) (vars : List Str) (scope : Scope) (cl : List (Str × Addr)) : Prop where
  kind : scope.kind = .function
  clos : closureFor scope X.env = pure cl
  dis : (vars.all fun x => !X.N.contains x) = true
  zero : X.N.contains (".0" : Str) = false
  names : ∀ y ∈ scope.names, y.2 = .local → scope.names.lookup y.1 = some .local
  cells : CellsIn X.env.cells cl
  ok : (scope.names.all fun p => okK X.env.scope.names vars cl p.1 p.2) = true
theorem lookup_relabel {env : Env} {x : Str} : ∀ {names : List (Str × NameKind)},
    (names.map fun (n, k) => if (k == NameKind.free && env.scope.kind == .function && env.kindOf n == some .cell) then (n, NameKind.cell) else (n, k)).lookup x =
      (names.lookup x).map fun k => if (k == NameKind.free && env.scope.kind == .function && env.kindOf x == some .cell) then NameKind.cell else k
  | [] => rfl
  | (n, k) :: r => by
    have ih := @lookup_relabel env x r
    show List.lookup x ((if (k == NameKind.free && env.scope.kind == .function && env.kindOf n == some .cell) = true then (n, NameKind.cell) else (n, k)) :: _) = _
    cases hx : x == n with
    | true =>
      have e : x = n := eq_of_beq hx
      subst e
      by_cases hc : (k == NameKind.free && env.scope.kind == .function && env.kindOf x == some .cell) = true
      · rw [if_pos hc]; simp only [List.lookup_cons, hx, Option.map_some, if_pos hc]
      · rw [if_neg hc]; simp only [List.lookup_cons, hx, Option.map_some, if_neg hc]
    | false =>
      by_cases hc : (k == NameKind.free && env.scope.kind == .function && env.kindOf n == some .cell) = true
      · rw [if_pos hc]; simp only [List.lookup_cons, hx]; exact ih
      · rw [if_neg hc]; simp only [List.lookup_cons, hx]; exact ih
section
variable {X : Cx} {vars : List Str} {scope : Scope} {cl : List (Str × Addr)} {C D : Addr} {fp : List Addr} {s₂ : Shared} {H : Hp} {pins : List (Addr × Obj)} {σ : St}
theorem CompScope.okAt (S : CompScope X vars scope cl) {x : Str} {k : NameKind} (h : scope.names.lookup x = some k) : okK X.env.scope.names vars cl x k = true := by
  have := List.all_eq_true.mp S.ok (x, k) (PySem.mem_of_lookup h)
  exact this
theorem CompScope.noCell (S : CompScope X vars scope cl) : ∀ y ∈ scope.names, y.2 ≠ .cell := fun y hy e => by
  have h := List.all_eq_true.mp S.ok y hy
  rw [e] at h
  exact absurd (show false = true from h) Bool.false_ne_true
theorem CompScope.freeOf (S : CompScope X vars scope cl) {x : Str} (h : (compEnvC scope cl C X.env).kindOf x = some .cell ∨ (compEnvC scope cl C X.env).kindOf x = some .free) : scope.names.lookup x = some .free := by
  have e : (compEnvC scope cl C X.env).kindOf x = (scope.names.lookup x).map fun k => if (k == NameKind.free && X.env.scope.kind == .function && X.env.kindOf x == some .cell) then NameKind.cell else k := lookup_relabel
  rw [e] at h
  cases q : scope.names.lookup x with
  | none => rw [q] at h; simp at h
  | some k =>
    rw [q] at h
    by_cases hk : k = .free
    · rw [hk]
    · have hb : (k == NameKind.free) = false := by simpa using hk
      simp only [Option.map_some, hb, Bool.false_and, Bool.false_eq_true, if_false, Option.some.injEq] at h
      rcases h with h | h
      · subst h
        exact absurd rfl (S.noCell (x, .cell) (PySem.mem_of_lookup q))
      · exact absurd h hk
theorem CompScope.localOf (S : CompScope X vars scope cl) {x : Str} (h : (compEnvC scope cl C X.env).kindOf x = some .local) : scope.names.lookup x = some .local := by
  have e : (compEnvC scope cl C X.env).kindOf x = (scope.names.lookup x).map fun k => if (k == NameKind.free && X.env.scope.kind == .function && X.env.kindOf x == some .cell) then NameKind.cell else k := lookup_relabel
  rw [e] at h
  cases q : scope.names.lookup x with
  | none => rw [q] at h; simp at h
  | some k =>
    rw [q] at h
    simp only [Option.map_some, Option.some.injEq] at h
    split at h
    · cases h
    · rw [h]
theorem comp_start (I : Inv X pins σ H s₂) (S : CompScope X vars scope cl) (hf : ∀ b ∈ fp, FpOk X pins H b) (hob : ∀ b ∈ fp, ∃ o, s₂.heap.get? b = some o)
    {h₁ : Heap} {tk : Nat} (hD : s₂.heap.objs.size ≤ D) (hC : s₂.heap.objs.size ≤ C) (hDC : D ≠ C) {oD : Obj} (eD : h₁.get? D = some oD) (cD : ∀ v, oD.data ≠ .cell v) {m : Str → Option Value} (hn : h₁.Ns C m)
    (old : ∀ b o, s₂.heap.get? b = some o → h₁.get? b = some o) (ht : 0 < tk := by first | exact Nat.succ_pos _ | assumption | exact Inv.tk (by assumption) | omega) :
    Inv (compCx X vars scope cl C fp s₂ H) [(D, oD)] (σ ++ List.replicate vars.length none) H { s₂ with heap := h₁, toks := tk } := by
  have fpst : ∀ b ∈ fp, b ∉ frs X.stack := fun b hb z => by
    rcases List.mem_cons.mp (I.stkSub b z) with e | e
    · exact (hf b hb).2.1 e
    · exact (hf b hb).2.2.1 e
  have cget : ∀ x c, cl.lookup x = some c → X.env.cells.lookup x = some c := fun x c e => S.cells.get e
  have fpl : ∀ b ∈ fp, b < s₂.heap.objs.size := fun b hb => by
    obtain ⟨o, e⟩ := hob b hb
    exact Heap.lt_size e
  have ok : (compCx X vars scope cl C fp s₂ H).Ok := by
    refine ⟨I.ok.mod, S.kind, I.ok.glob, I.ok.blt, hC, fun x y c h1 h2 => I.ok.inj x y c (cget x c h1) (cget y c h2), fun x hx => ?_, fun x c h _ => absurd (show false = true from h) Bool.false_ne_true, I.ok.hd, I.ok.frames, .inl rfl,
      fun b hb => ⟨Nat.ne_of_lt (Nat.lt_of_lt_of_le (fpl b hb) hC), fun x c e z => (hf b hb).2.2.2.2.1 x c (cget x c e) z⟩, I.bs, Nat.le_trans I.ok.bsz I.sz, fun b o e hb => ?_, fpst, I.stack, I.stkFree⟩
    · have q := S.okAt (S.freeOf (C := C) hx)
      have q1 : ((cl.lookup x).isSome && (X.env.scope.names.lookup x == some .cell || X.env.scope.names.lookup x == some .free)) = true := q
      rw [Bool.and_eq_true] at q1
      exact Option.isSome_iff_exists.mp q1.1
    · rcases (hf b hb).2.2.2.1 with z | z
      · exact I.ok.noex b o e z
      · exact absurd (Nat.lt_of_lt_of_le (Heap.lt_size e) (Nat.le_trans I.ok.bsz z)) (Nat.lt_irrefl _)
  have nst : D ∉ frs X.stack := fun z => by
    rcases List.mem_cons.mp (I.stkSub D z) with e | e
    · exact absurd (Nat.lt_of_lt_of_le (e ▸ I.lt) hD) (Nat.lt_irrefl _)
    · exact I.nofs hD e
  refine ⟨ok, rfl, I.bare, Un.kept old, ⟨m, hn, fun i x v h1 h2 h3 => ?_⟩, fun x c e => ?_, I.hok.fresh hC, fun x c e => I.freeC x c (cget x c e), fun p hp => ?_, I.hok.kept old, ?_, ht⟩
  · have hlen := I.len
    have h1' : (X.N ++ vars)[i]? = some x := h1
    by_cases hi : i < σ.length
    · rw [List.getElem?_append_left (by omega)] at h1'
      rw [List.getElem?_append_left hi] at h2
      have inN : X.N.contains x = true := by
        rw [List.contains_iff_exists_mem_beq]
        exact ⟨x, List.mem_of_getElem? h1', by simp⟩
      have hk : (compEnvC scope cl C X.env).kindOf x = some .cell ∨ (compEnvC scope cl C X.env).kindOf x = some .free := by
        rcases h3 with h3 | h3
        · have q := S.okAt (S.localOf (C := C) h3)
          have q1 : (x == (".0" : Str) || vars.contains x) = true := q
          rw [Bool.or_eq_true] at q1
          rcases q1 with q1 | q1
          · have e0 : x = (".0" : Str) := eq_of_beq q1
            rw [e0, S.zero] at inN
            cases inN
          · have q2 := List.all_eq_true.mp S.dis x (by simpa using q1)
            rw [inN] at q2
            cases q2
        · exact h3
      have q := S.okAt (S.freeOf (C := C) hk)
      have q1 : ((cl.lookup x).isSome && (X.env.scope.names.lookup x == some .cell || X.env.scope.names.lookup x == some .free)) = true := q
      rw [Bool.and_eq_true, Bool.or_eq_true] at q1
      obtain ⟨c, hc⟩ := Option.isSome_iff_exists.mp q1.1
      have ho : X.env.scope.names.lookup x = some .cell ∨ X.env.scope.names.lookup x = some .free := by
        rcases q1.2 with z | z
        · exact .inl (eq_of_beq z)
        · exact .inr (eq_of_beq z)
      obtain ⟨m0, _, hl⟩ := I.loc
      obtain ⟨u, r, l⟩ := hl i x v h1' h2 (.inr ho)
      refine ⟨u, r, .inr ⟨hk, c, hc, ?_⟩⟩
      rcases l with ⟨l1, _⟩ | ⟨_, c', e', o, eo, ed⟩
      · have l2 : X.env.scope.names.lookup x = some .local := l1
        rcases ho with z | z
        · rw [l2] at z; cases z
        · rw [l2] at z; cases z
      · rw [cget x c hc] at e'
        cases e'
        exact ⟨o, old _ _ eo, ed⟩
    · rw [List.getElem?_append_right (by omega), List.getElem?_replicate] at h2
      split at h2 <;> cases h2
  · obtain ⟨v, o, eo, ed⟩ := I.cell x c (cget x c e)
    exact ⟨v, o, old _ _ eo, ed⟩
  · have e : p = (D, oD) := by simpa using hp
    subst e
    exact ⟨eD, I.hok.fresh hD, hDC, nst, cD⟩
  · show (σ ++ List.replicate vars.length none).length = (X.N ++ vars).length
    rw [List.length_append, List.length_append, List.length_replicate, I.len]
end
def PIfs (X : Cx) (ifs : List Expr) (t : TT) : Prop :=
  ∀ (pins : List (Addr × Obj)) (s : Shared) (σ : St) (H : Hp) (Q : Bool → Hp → Prop), Inv X pins σ H s → t σ H Q →
    wpAny (model X.prog X.w) X.A (forIn ifs true fun c r => if r = true then do let ok ← isTrue c X.env (eval c X.env); pure (ForInStep.yield ok) else pure (ForInStep.yield r)) (TP X pins σ Q) X.xe s
def tYes : TT := fun _ H Q => Q true H
theorem pifs_nil {X : Cx} : PIfs X [] tYes := fun _ _ _ H _ I h => wpAny_tests_nil ⟨H, I, h⟩
def Wk (σ σ' : St) : Prop := σ.length = σ'.length ∧ ∀ (i : Nat) v, σ[i]? = some (some v) → σ'[i]? = some (some v)
def tComp (n : Nat) (wi : TI) (g : TG) (ti : TT) (te : TE) : TE := fun σ H Q => wi σ H fun J H1 => ∃ W : Nat → Nat → List V → Hp → Prop, (∃ m, W 0 m [] H1) ∧ ∀ i m ys H2, W i m ys H2 → ys.length ≤ sizeLine ∧
  ((J.stop i H2 ∧ ∀ D, H2 D = none → Q (.ref D) (upd H2 D (.lst ys))) ∨
   (J.go i H2 ∧ ∀ x H3, J.yld i H2 x H3 → g x (σ ++ List.replicate n none) H3 fun σ2 H4 => Wk (σ ++ List.replicate n none) σ2 ∧ ti σ2 H4 fun b H5 =>
      if b = true then te σ2 H5 fun y H6 => ∃ m', m' < m ∧ W (i + 1) m' (ys ++ [y]) H6 else ∃ m', m' < m ∧ W (i + 1) m' ys H5))
theorem Inv.track {X : Cx} {pins : List (Addr × Obj)} {σ : St} {H : Hp} {s : Shared} {D : Addr} {o : HO} (I : Inv X pins σ H s) (hD : X.s₀.heap.objs.size ≤ D) (hn : H D = none) (hL : D ≠ X.env.locals)
    (hcl : ∀ x c, X.env.cells.lookup x = some c → c ≠ D) (hp : ∀ p ∈ X.pn ++ pins, p.1 ≠ D) (new : ObjOk X.prog X.w (upd H D o) s.heap D o) : Inv X pins σ (upd H D o) s := by
  have ne : ∀ {b u}, H b = some u → b ≠ D := fun e z => by rw [z, hn] at e; cases e
  refine ⟨I.ok, I.os, I.bare, ⟨I.base.keep, I.base.slot, fun b ob e n hx => ?_, I.base.there, fun b xs e => ?_, fun b ob u e => ?_, fun b ps e => ?_⟩, I.loc, I.cell, ?_, fun x c e => ?_, fun p hp' => ?_, fun b u e => ?_, I.len, I.tk⟩
  · rw [upd_ne (Nat.ne_of_lt (Nat.lt_of_lt_of_le (Heap.lt_size e) hD))]
    exact I.base.free b ob e n hx
  · have q := I.base.tups b xs e
    rw [upd_ne (ne q)]; exact q
  · have q := I.base.frzs b ob u e
    rw [upd_ne (ne q)]; exact q
  · obtain ⟨mo, q⟩ := I.base.tbls b ps e
    exact ⟨mo, by rw [upd_ne (ne q)]; exact q⟩
  · rw [upd_ne (Ne.symm hL)]; exact I.free
  · rw [upd_ne (hcl x c e)]; exact I.freeC x c e
  · obtain ⟨e1, e2, e3, e4, e5⟩ := I.pin p hp'
    exact ⟨e1, by rw [upd_ne (hp p hp')]; exact e2, e3, e4, e5⟩
  · by_cases hb : b = D
    · subst hb; rw [upd_same] at e; cases e; exact new
    · rw [upd_ne hb] at e
      exact (I.hok b u e).stay (fun _ _ _ q => q) (fun c q => by rw [upd_ne (ne q)]; exact q) fun c xs q => by rw [upd_ne (ne q)]; exact q
abbrev lobj (us : List Value) (n : Nat) : Obj := { cls := .type "list", data := .seq us.toArray n }
section
variable {X : Cx} {vars : List Str} {scope : Scope} {cl : List (Str × Addr)} {C D it : Addr} {fp : List Addr} {s₂ : Shared} {H₂ : Hp} {tg elt iter : Expr} {ifs : List Expr} {pos : Pos} {J : It} {tn : Nat → Heap → Prop}
  {g : TG} {ti : TT} {te : TE} {R : Result → Shared → Prop}
theorem comp_loop (hc : X.calm = true) (T : Turn X.prog X.w X.K tg J fp it tn) (hg : PG (compCx X vars scope cl C fp s₂ H₂) tg g) (hi : PIfs (compCx X vars scope cl C fp s₂ H₂) ifs ti) (he : PE (compCx X vars scope cl C fp s₂ H₂) elt te)
    {σ0 : St} (W : Nat → Nat → List V → Hp → Prop) {F : List V → Hp → Prop} (hD0 : s₂.heap.objs.size ≤ D) (hDC : D ≠ C) (hDs : D ∉ frs X.stack) (hDc : ∀ x c, cl.lookup x = some c → c ≠ D)
    (hS : ∀ b ∈ fp, b ≠ C ∧ b ∉ frs X.stack ∧ (∀ x c, cl.lookup x = some c → c ≠ b) ∧ D ≠ b)
    (turn : ∀ i m ys H2, W i m ys H2 → ys.length ≤ sizeLine ∧ ((J.stop i H2 ∧ F ys H2) ∨
      (J.go i H2 ∧ ∀ x H3, J.yld i H2 x H3 → g x σ0 H3 fun σ2 H4 => Wk σ0 σ2 ∧ ti σ2 H4 fun b H5 =>
        if b = true then te σ2 H5 fun y H6 => ∃ m', m' < m ∧ W (i + 1) m' (ys ++ [y]) H6 else ∃ m', m' < m ∧ W (i + 1) m' ys H5)))
    (hR : ∀ s' ys us n H2, Inv (compCx X vars scope cl C fp s₂ H₂) [(D, lobj us n)] σ0 H2 s' → Vals ys us → ys.length ≤ sizeLine → F ys H2 → R (.ok .next) s')
    {s : Shared} {m0 : Nat} {n0 : Nat} {H0 : Hp} (I0 : Inv (compCx X vars scope cl C fp s₂ H₂) [(D, lobj [] n0)] σ0 H0 s) (st0 : tn 0 s.heap) (f0 : ∀ b ∈ fp, H0 b = none) (w0 : W 0 m0 [] H0) :
    codeAny (model X.prog X.w) X.A (.compLoop (.ListComp elt [⟨tg, iter, ifs, 0⟩] scope pos) 0 (.ref it) (.ref D) (compEnvC scope cl C X.env)) R s := by
  have stat : ∀ {H' : Hp} {o : Obj}, (∀ b ∈ fp, H' b = none) → ∀ b ∈ fp, FpOk (compCx X vars scope cl C fp s₂ H₂) [(D, o)] H' b := fun {H' o} hn b hb =>
    ⟨hn b hb, (hS b hb).1, (hS b hb).2.1, .inl hb, (hS b hb).2.2.1, fun p hp => by
      have e : p = (D, o) := by simpa using hp
      subst e
      exact (hS b hb).2.2.2⟩
  refine codeAny_loop rfl (fun n s => ∃ i ys us nn H', Inv (compCx X vars scope cl C fp s₂ H₂) [(D, lobj us nn)] σ0 H' s ∧ Vals ys us ∧ tn i s.heap ∧ (∀ b ∈ fp, H' b = none) ∧ W i n ys H') (fun n s hI => ?_) m0 ⟨0, [], [], n0, H0, I0, .nil, st0, f0, w0⟩
  show wpAny _ X.A ((compTurn (.ListComp elt [⟨tg, iter, ifs, 0⟩] scope pos) 0 (.ref it) (.ref D) (compEnvC scope cl C X.env)).onRaise (fun x => do noteFrame x (compEnvC scope cl C X.env); theTreesLotGoes x)) _ _ s
  refine wpAny_noted ?_
  rw [compTurn_list]
  obtain ⟨i, ys, us, nn, H', I, rv, st, fr, w⟩ := hI
  obtain ⟨hz, tt⟩ := turn i n ys H' w
  refine wpAny_bind (wpAny_standAt (wpAny_bind ?_))
  rcases tt with ⟨stop, q⟩ | ⟨go, q⟩
  · refine wpAny_mono (T.done (compCx X vars scope cl C fp s₂ H₂) rfl rfl rfl hc i _ s σ0 H' _ I (stat fr) st stop) (fun r s1 ⟨hr, I1⟩ => ?_) (fun _ _ e => e)
    subst hr
    exact wpAny_pure (hR s1 ys us nn H' I1 rv hz q)
  · refine wpAny_mono (T.item (compCx X vars scope cl C fp s₂ H₂) rfl rfl rfl hc i _ s σ0 H' _ I (stat fr) st go) (fun r s1 ⟨u, hr, h1⟩ => ?_) (fun _ _ e => e)
    subst hr
    refine wpAny_bind (wpAny_mono h1 (fun _ s2 ⟨x, H3, I3, r3, y3, st3, fr3⟩ => ?_) (fun _ _ e => e))
    have I3' := I3.pinned (stat fr3) (T.obj _ _ st3)
    refine wpAny_bind (wpAny_mono (hg _ s2 σ0 H3 x u _ I3' r3 (q x H3 y3)) (fun _ s3 ⟨σ4, H4, I4, wk, q4⟩ => ?_) (fun _ _ f => False.elim f))
    refine wpAny_bind (wpAny_mono (hi _ s3 σ4 H4 _ I4 q4) (fun b s4 ⟨H5, I5, q5⟩ => ?_) (fun _ _ f => False.elim f))
    have back : ∀ {s7 : Shared} {H7 : Hp} {o : Obj}, Inv (compCx X vars scope cl C fp s₂ H₂) ((D, o) :: pinsAt fp s2.heap) σ4 H7 s7 → tn (i + 1) s7.heap ∧ ∀ b ∈ fp, H7 b = none := fun {s7 H7 o} I7 => by
      refine ⟨T.keep _ _ _ st3 fun b hb ob e => (I7.pin (b, ob) (List.mem_append_right _ (List.mem_cons_of_mem _ (mem_pinsAt hb e)))).1, fun b hb => ?_⟩
      obtain ⟨ob, e, d⟩ := T.obj _ _ st3 b hb
      exact (I7.pin (b, ob) (List.mem_append_right _ (List.mem_cons_of_mem _ (mem_pinsAt hb e)))).2.1
    have one : ∀ {s7 : Shared} {H7 : Hp} {o : Obj}, Inv (compCx X vars scope cl C fp s₂ H₂) ((D, o) :: pinsAt fp s2.heap) σ4 H7 s7 → Inv (compCx X vars scope cl C fp s₂ H₂) [(D, o)] σ0 H7 s7 := fun {s7 H7 o} I7 =>
      (I7.pins_of (pins' := [(D, o)]) fun p hp => by
        have e : p = (D, o) := by simpa using hp
        subst e
        exact I7.pin (D, o) (List.mem_append_right _ List.mem_cons_self)).weak wk.1 wk.2
    cases b with
    | false =>
      obtain ⟨m', hm, w'⟩ := q5
      obtain ⟨b1, b2⟩ := back I5
      exact wpAny_pure ⟨rfl, m', hm, i + 1, ys, us, nn, H5, one I5, rv, b1, b2, w'⟩
    | true =>
      refine wpAny_bind (wpAny_bind (wpAny_mono (he _ s4 σ4 H5 _ I5 q5) (fun v s5 ⟨y, H6, I6, r6, q6⟩ => ?_) (fun _ _ f => False.elim f)))
      obtain ⟨m', hm, w'⟩ := q6
      obtain ⟨eD, nD, _, _, _⟩ := I6.pin (D, lobj us nn) (List.mem_append_right _ List.mem_cons_self)
      have hul : us.toArray.size ≤ sizeLine := by rw [List.size_toArray, ← rv.length]; exact hz
      refine wpAny_bind (wpAny_list_append_plain (hsz := hul) ⟨nn, eD⟩ fun h' hp hs => wpAny_pure (wpAny_pure ⟨rfl, ?_⟩))
      obtain ⟨n', hp⟩ := hp
      have hp' : h'.get? D = some (lobj (us ++ [v]) n') := by rw [hp]; simp
      have I7 : Inv (compCx X vars scope cl C fp s₂ H₂) (pinsAt fp s2.heap) σ4 H6 { s5 with heap := h', toks := s5.toks } := by
        refine Inv.turned (it := D) (I6.pins_of (pins' := pinsAt fp s2.heap) fun p hp => I6.pin p (List.mem_append_right _ (List.mem_cons_of_mem _ hp))) (fun b o hb e => (hs.2 b hb).trans e) nD hDC (.inr hD0) (fun x c e => hDc x c e) fun p hp => ?_
        have hp2 : p ∈ pinsAt fp s2.heap := by simpa using hp
        exact Ne.symm (hS p.1 (of_pinsAt hp2).1).2.2.2
      have I8 : Inv (compCx X vars scope cl C fp s₂ H₂) ((D, lobj (us ++ [v]) n') :: pinsAt fp s2.heap) σ4 H6 { s5 with heap := h', toks := s5.toks } := I7.pins_of fun p hp => by
        rcases List.mem_cons.mp hp with rfl | hp
        · exact ⟨hp', nD, hDC, hDs, fun v z => by cases z⟩
        · exact I7.pin p (List.mem_append_right _ hp)
      obtain ⟨b1, b2⟩ := back I8
      exact ⟨m', hm, i + 1, ys ++ [y], us ++ [v], n', H6, one I8, rv.append (.cons r6 .nil), b1, b2, w'⟩
end
section
variable {X : Cx} {vars : List Str} {scope : Scope} {cl : List (Str × Addr)} {tg elt iter : Expr} {ifs : List Expr} {pos : Pos} {wi : TI} {g : TG} {ti : TT} {te : TE}
theorem comp_block (hc : X.calm = true) (S : CompScope X vars scope cl) (hg : ∀ C fp s₂ H₂, PG (compCx X vars scope cl C fp s₂ H₂) tg g) (ht : ∀ C fp s₂ H₂, PIfs (compCx X vars scope cl C fp s₂ H₂) ifs ti)
    (he : ∀ C fp s₂ H₂, PE (compCx X vars scope cl C fp s₂ H₂) elt te) {pins : List (Addr × Obj)} {σ : St} {s2 : Shared} {E : Value → Shared → Prop} {F : Addr → Hp → Prop} {RR : Value → Addr → Result → Shared → Prop} {itv : Value}
    (h2 : PIE X pins σ tg (fun J H1 => ∃ W : Nat → Nat → List V → Hp → Prop, (∃ m, W 0 m [] H1) ∧ ∀ i m ys H2, W i m ys H2 → ys.length ≤ sizeLine ∧
      ((J.stop i H2 ∧ ∀ D, H2 D = none → F D (upd H2 D (.lst ys))) ∨
       (J.go i H2 ∧ ∀ x H3, J.yld i H2 x H3 → g x (σ ++ List.replicate vars.length none) H3 fun σ2 H4 => Wk (σ ++ List.replicate vars.length none) σ2 ∧ ti σ2 H4 fun b H5 =>
          if b = true then te σ2 H5 fun y H6 => ∃ m', m' < m ∧ W (i + 1) m' (ys ++ [y]) H6 else ∃ m', m' < m ∧ W (i + 1) m' ys H5))) itv s2)
    (hRR : ∀ D C s' H', (∃ m, s'.heap.Ns C m) → C ≠ X.env.locals → (∀ x c, X.env.cells.lookup x = some c → c ≠ C) → Inv X pins σ H' s' → (∀ (h' : Heap), Heap.SameBut C s'.heap h' → ∀ (s'' : Shared), s'' = { s' with heap := h' } → Inv X pins σ H' s'') →
      (∀ (σ' : St) (s3 : Shared), Inv X pins σ' H' s3 → (∃ a, Heap.SameBut a s'.heap s3.heap ∧ (a = X.env.locals ∨ ∃ x, X.env.cells.lookup x = some a)) → ∀ (h' : Heap), Heap.SameBut C s3.heap h' → Inv X pins σ' H' { s3 with heap := h' }) →
      F D H' → RR (.ref D) C (.ok .next) s') :
    wpAny (model X.prog X.w) X.A (newList []) (fun acc s₃ => wpAny (model X.prog X.w) X.A (newFunctionEnv scope X.env.globals cl [] X.env.qual none .none (some X.env)) (fun cenv s₄ =>
      codeAny (model X.prog X.w) X.A (.compStart (.ListComp elt [⟨tg, iter, ifs, 0⟩] scope pos) 0 itv acc { cenv with scope := relabel scope X.env }) (RR acc cenv.locals) s₄) E s₃) E s2 := by
  obtain ⟨it, fp, tn, J, H2, e, I2, T, st2, f2, W, ⟨m0, w0⟩, turn⟩ := h2
  subst e
  refine wpAny_newObj_type (wpAny_newFunctionEnv S.noCell (by intro y hy; simp at hy) (fun h₁ hns₁ hsb₁ => ?_) S.kind)
  dsimp only at hns₁ hsb₁ ⊢
  generalize hH2 : s2.heap.push { cls := .type "list", dict := none, data := .seq ([] : List Value).toArray } = P2 at hns₁ hsb₁ ⊢
  have hC : P2.objs.size = s2.heap.objs.size + 1 := by rw [← hH2, Heap.size_push]
  have hDC : s2.heap.objs.size ≠ P2.objs.size := by rw [hC]; exact Nat.ne_of_lt (Nat.lt_succ_self _)
  have hCle : s2.heap.objs.size ≤ P2.objs.size := by rw [hC]; exact Nat.le_succ _
  have below : ∀ b, b < s2.heap.objs.size → b ≠ P2.objs.size ∧ b ≠ s2.heap.objs.size := fun b hb => ⟨by rw [hC]; exact Nat.ne_of_lt (Nat.lt_succ_of_lt hb), Nat.ne_of_lt hb⟩
  have old : ∀ b o, s2.heap.get? b = some o → h₁.get? b = some o := fun b o e => hsb₁.extBut b o (below b (Heap.lt_size e)).1 (Heap.get?_push_of_some _ (hH2 ▸ Heap.get?_push_of_some _ e))
  have hacc : h₁.get? s2.heap.objs.size = some (lobj [] 0) := hsb₁.extBut _ _ hDC (Heap.get?_push_of_some _ (hH2 ▸ Heap.get?_push_size _ rfl))
  have hst₁ : tn 0 h₁ := T.keep _ _ _ st2 fun b _ o e => old b o e
  have hob : ∀ b ∈ fp, ∃ o, s2.heap.get? b = some o := fun b hb => by
    obtain ⟨o, e, _⟩ := T.obj _ _ st2 b hb
    exact ⟨o, e⟩
  have fpl : ∀ b ∈ fp, b < s2.heap.objs.size := fun b hb => by
    obtain ⟨o, e⟩ := hob b hb
    exact Heap.lt_size e
  have cget : ∀ x c, cl.lookup x = some c → X.env.cells.lookup x = some c := fun x c e => S.cells.get e
  have celt : ∀ x c, X.env.cells.lookup x = some c → c < s2.heap.objs.size := fun x c e => by
    obtain ⟨v, q⟩ := I2.cell x c e
    exact q.lt
  have pint : ∀ p ∈ X.pn ++ pins, p.1 < s2.heap.objs.size := fun p hp => Heap.lt_size (I2.pin p hp).1
  have fpst : ∀ b ∈ fp, b ∉ frs X.stack := fun b hb z => by
    rcases List.mem_cons.mp (I2.stkSub b z) with e | e
    · exact (f2 b hb).2.1 e
    · exact (f2 b hb).2.2.1 e
  have nst : s2.heap.objs.size ∉ frs X.stack := fun z => by
    rcases List.mem_cons.mp (I2.stkSub _ z) with e | e
    · exact absurd (e ▸ I2.lt) (Nat.lt_irrefl _)
    · exact I2.nofs (Nat.le_refl _) e
  have CL : P2.objs.size ≠ X.env.locals := fun z => absurd (Nat.lt_of_lt_of_le (z ▸ I2.lt) hCle) (Nat.lt_irrefl _)
  have CC : ∀ x c, X.env.cells.lookup x = some c → c ≠ P2.objs.size := fun x c e => Nat.ne_of_lt (Nat.lt_of_lt_of_le (celt x c e) hCle)
  have CP : ∀ p ∈ X.pn ++ pins, p.1 ≠ P2.objs.size := fun p hp => Nat.ne_of_lt (Nat.lt_of_lt_of_le (pint p hp) hCle)
  have loop : ∀ s₃ : Shared, s₃ = { s2 with heap := h₁, toks := s2.toks + ([] : List (Str × Value)).length } →
      codeAny (model X.prog X.w) X.A (.compLoop (.ListComp elt [⟨tg, iter, ifs, 0⟩] scope pos) 0 (.ref it) (.ref s2.heap.objs.size) (compEnvC scope cl P2.objs.size X.env)) (RR (.ref s2.heap.objs.size) P2.objs.size) s₃ := by
    rintro s₃ rfl
    have I0 : Inv (compCx X vars scope cl P2.objs.size fp s2 H2) [(s2.heap.objs.size, lobj [] 0)] (σ ++ List.replicate vars.length none) H2 { s2 with heap := h₁, toks := s2.toks + ([] : List (Str × Value)).length } :=
      comp_start I2 S f2 hob (Nat.le_refl _) hCle hDC hacc (fun v z => by cases z) hns₁ old
    refine comp_loop hc T (hg _ _ _ _) (ht _ _ _ _) (he _ _ _ _) (D := s2.heap.objs.size) W (F := fun ys H' => ∀ D, H' D = none → F D (upd H' D (.lst ys))) (Nat.le_refl _) hDC nst (fun x c e => Nat.ne_of_lt (celt x c (cget x c e)))
      (fun b hb => ⟨(below b (fpl b hb)).1, fpst b hb, fun x c e z => (f2 b hb).2.2.2.2.1 x c (cget x c e) z, Nat.ne_of_gt (fpl b hb)⟩) turn ?_ I0 hst₁ (fun b hb => (f2 b hb).1) w0
    intro s' ys us n H' I' rv hz q
    obtain ⟨eD, nD, _, _, _⟩ := I'.pin (s2.heap.objs.size, lobj us n) (List.mem_append_right _ List.mem_cons_self)
    have J1 : Inv X pins σ H' s' := I2.call' I'.os I'.base I'.hok I'.bare (fun b hb => ⟨(f2 b hb).2.2.2.1, (f2 b hb).2.1, (f2 b hb).2.2.2.2.1, (f2 b hb).2.2.2.2.2⟩) I'.tk
    have J2 : Inv X pins σ (upd H' s2.heap.objs.size (.lst ys)) s' := J1.track I2.sz nD (fun z => absurd (z ▸ I2.lt) (Nat.lt_irrefl _)) (fun x c e => Nat.ne_of_lt (celt x c e)) (fun p hp => Nat.ne_of_lt (pint p hp)) ⟨hz, us, n, rv, eD⟩
    have nC : upd H' s2.heap.objs.size (.lst ys) P2.objs.size = none := by
      rw [upd_ne (Ne.symm hDC)]
      exact I'.free
    refine hRR _ _ s' _ ?_ CL CC J2 (fun h' hs s'' e => ?_) (fun σ' s3 I3 _ h' hs => ?_) (q _ nD)
    · obtain ⟨m, hn, _⟩ := I'.loc
      exact ⟨m, hn⟩
    · subst e
      exact J2.turned (t' := s'.toks) (it := P2.objs.size) (fun b o hb e => (hs.2 b hb).trans e) nC CL (.inr (Nat.le_trans I2.sz hCle)) CC CP
    · exact I3.turned (t' := s3.toks) (it := P2.objs.size) (fun b o hb e => (hs.2 b hb).trans e) nC CL (.inr (Nat.le_trans I2.sz hCle)) CC CP
  exact codeAny_compStart_list (loop _ rfl) (T.self _ 0 _ _ _ hst₁ (loop _ rfl))
theorem pe_comp (hc : X.calm = true) (S : CompScope X vars scope cl) (hi : PI X tg iter wi) (hg : ∀ C fp s₂ H₂, PG (compCx X vars scope cl C fp s₂ H₂) tg g) (ht : ∀ C fp s₂ H₂, PIfs (compCx X vars scope cl C fp s₂ H₂) ifs ti)
    (he : ∀ C fp s₂ H₂, PE (compCx X vars scope cl C fp s₂ H₂) elt te) (hs : ∀ x, foldedSetIterable iter X.env x = pure x := by intro _; rfl) : PE X (.ListComp elt [⟨tg, iter, ifs, 0⟩] scope pos) (tComp vars.length wi g ti te) := by
  intro pins s σ H Q I h
  rw [eval_ListComp]
  refine wpAny_comprehension_free (use := none) rfl hs S.clos S.kind S.names (thn (hi pins s σ H _ I h) fun v s1 h1 => thn h1 fun itv s2 h2 => ?_)
  refine comp_block hc S hg ht he (F := fun D H' => Q (.ref D) H') h2 fun D C s' H' hn hCL hCC J2 J3 _ q => ?_
  obtain ⟨m, hn⟩ := hn
  exact ⟨m, hn, fun h' hs' => ⟨.ref D, H', J3 h' hs' _ rfl, rfl, q⟩⟩
theorem ps_setcomp {i : Nat} {y : Str} {py spos : Pos} (hc : X.calm = true) (S : CompScope X vars scope cl) (hN : X.N.Nodup) (hiy : X.N[i]? = some y) (hy : Loc X.env.scope y) (hi : PI X tg iter wi)
    (hg : ∀ C fp s₂ H₂, PG (compCx X vars scope cl C fp s₂ H₂) tg g) (ht : ∀ C fp s₂ H₂, PIfs (compCx X vars scope cl C fp s₂ H₂) ifs ti)
    (he : ∀ C fp s₂ H₂, PE (compCx X vars scope cl C fp s₂ H₂) elt te) (hs : ∀ x, foldedSetIterable iter X.env x = pure x := by intro _; rfl)
    (hsw : swapsWith (.ListComp elt [⟨tg, iter, ifs, 0⟩] scope pos) (some (.Name y py)) spos.line X.env = pure true := by rfl)
    (hf : X.fn y = true ∨ X.env.scope.names.lookup y = some .local := by first | exact .inl rfl | exact .inr rfl | assumption) :
    PS X (.Assign [.Name y py] (.ListComp elt [⟨tg, iter, ifs, 0⟩] scope pos) spos) (tAsg (tComp vars.length wi g ti te) (gName i)) := by
  intro pins s σ H D0 I h
  rw [exec_Assign_Name_used _ _ _ _ hsw]
  refine wpAny_bind (wpAny_standAt (wpAny_bind ?_))
  show wpAny _ X.A (do let _ ← comprehension (.ListComp elt [⟨tg, iter, ifs, 0⟩] scope pos) scope X.env _ (newList []) false (eval iter X.env) (some (assign (.Name y py) X.env))) _ _ s
  refine wpAny_bind (wpAny_mono (wpAny_comprehension_free (use := some (assign (.Name y py) X.env)) (Q := fun _ s' => SP X pins D0 .next s') rfl hs S.clos S.kind S.names
    (thn (hi pins s σ H _ I h) fun v s1 h1 => thn h1 fun itv s2 h2 => ?_)) (fun _ s' hq => wpAny_pure (wpAny_pure hq)) fun _ _ e => e)
  refine comp_block hc S hg ht he (F := fun D H' => D0.nx (σ.set i (some (.ref D))) H') h2 fun D C s' H' hn hCL hCC J2 _ J4 q => ?_
  obtain ⟨m, hn⟩ := hn
  show wpAny _ X.A (assign (.Name y py) X.env (.ref D)) _ _ _
  refine wpAny_assign_Name (store_ok2 J2 hN hiy hy (v := .ref D) rfl (fun s3 I3 ⟨a, hsb, ha⟩ => ?_) hf)
  have hCa : C ≠ a := by
    rcases ha with rfl | ha
    · exact hCL
    · exact Ne.symm (hCC y a ha)
  refine ⟨m, hn.sameBut hsb hCa, fun h' hs' => ⟨σ.set i (some (.ref D)), H', J4 _ s3 I3 ⟨a, hsb, ?_⟩ h' hs', q⟩⟩
  rcases ha with rfl | ha
  · exact .inl rfl
  · exact .inr ⟨y, ha⟩
end
end L2
namespace L2
open PySem PySem.Spec PyProof.Rows
def Its (z : Str) : It := ⟨fun i _ => i < z.length, fun i H x H' => H' = H ∧ ∃ c, z.cps[i]? = some c ∧ x = .str ⟨#[c]⟩, fun i _ => z.length ≤ i⟩
theorem turn_strA {P : Program} {w : World} {K : PySem.W.Frag} {tg : Expr} (it : Addr) (z : Str) (t : Tok) : Turn P w K tg (Its z) [it] it (fun i h => h.IsStrIter it "str_ascii_iterator" z t i) where
  mem := by simp
  obj := fun i h st b hb => by
    have e : b = it := by simpa using hb
    subst e
    obtain ⟨o, e, c, d⟩ := st
    exact ⟨o, e, fun v z => by rw [d] at z; cases z⟩
  keep := fun i h h' st k => let ⟨o, ho, r⟩ := st; ⟨o, k it (by simp) o ho, r⟩
  item := by
    intro X hP hw hK hc i pins s σ H E I hf st hg
    subst hP hw hK
    obtain ⟨f0, f1, f2, f3, f4, f5⟩ := hf it (by simp)
    have hlt : i < z.cps.size := hg
    refine wpAny_pyNext_ascii_item st (c := z.cps[i]) (by simp [hlt]) fun h' st' sb => ?_
    have I1 : Inv X pins σ H { s with heap := h', toks := s.toks + 1 } := I.turned (fun b o hb e => (sb.2 b hb).trans e) f0 f1 f3 f4 f5
    obtain ⟨o, e, c, d⟩ := id st'
    exact ⟨_, rfl, go_of (s := { s with heap := h', toks := s.toks + 1 }) e c d (by decide) ⟨.str ⟨#[z.cps[i]]⟩, H, I1, ⟨_, rfl⟩, ⟨rfl, z.cps[i], by simp [hlt], rfl⟩, st', fun b hb => (hf b hb).1⟩⟩
  done := by
    intro X hP hw hK hc i pins s σ H E I hf st hg
    subst hP hw hK
    obtain ⟨f0, f1, f2, f3, f4, f5⟩ := hf it (by simp)
    have hle : z.cps.size ≤ i := hg
    exact wpAny_pyNext_ascii_end (I.ok.hd hc) st (by simp [hle]) fun h' eb => ⟨rfl, I.turned (t' := s.toks) (fun b o hb e => eb b o hb e) f0 f1 f3 f4 f5⟩
  self := fun _ _ _ _ _ st h => wpAny_pyIter_striter_ascii st h
theorem turn_strW {P : Program} {w : World} {K : PySem.W.Frag} {tg : Expr} (it : Addr) (z : Str) (t : Tok) : Turn P w K tg (Its z) [it] it (fun i h => h.IsStrIter it "str_iterator" z t i) where
  mem := by simp
  obj := fun i h st b hb => by
    have e : b = it := by simpa using hb
    subst e
    obtain ⟨o, e, c, d⟩ := st
    exact ⟨o, e, fun v z => by rw [d] at z; cases z⟩
  keep := fun i h h' st k => let ⟨o, ho, r⟩ := st; ⟨o, k it (by simp) o ho, r⟩
  item := by
    intro X hP hw hK hc i pins s σ H E I hf st hg
    subst hP hw hK
    obtain ⟨f0, f1, f2, f3, f4, f5⟩ := hf it (by simp)
    have hlt : i < z.cps.size := hg
    refine wpAny_pyNext_wide_item st (c := z.cps[i]) (by simp [hlt]) fun h' st' sb => ?_
    have I1 : Inv X pins σ H { s with heap := h', toks := s.toks + 1 } := I.turned (fun b o hb e => (sb.2 b hb).trans e) f0 f1 f3 f4 f5
    obtain ⟨o, e, c, d⟩ := id st'
    exact ⟨_, rfl, go_of (s := { s with heap := h', toks := s.toks + 1 }) e c d (by decide) ⟨.str ⟨#[z.cps[i]]⟩, H, I1, ⟨_, rfl⟩, ⟨rfl, z.cps[i], by simp [hlt], rfl⟩, st', fun b hb => (hf b hb).1⟩⟩
  done := by
    intro X hP hw hK hc i pins s σ H E I hf st hg
    subst hP hw hK
    obtain ⟨f0, f1, f2, f3, f4, f5⟩ := hf it (by simp)
    have hle : z.cps.size ≤ i := hg
    exact wpAny_pyNext_wide_end (I.ok.hd hc) st (by simp [hle]) fun h' eb => ⟨rfl, I.turned (t' := s.toks) (fun b o hb e => eb b o hb e) f0 f1 f3 f4 f5⟩
  self := fun _ _ _ _ _ st h => wpAny_pyIter_striter_wide st h
def iStr (tl : TE) : TI := fun σ H R => tl σ H fun x H1 => ∃ z, x = .str z ∧ R (Its z) H1
theorem pi_str {X : Cx} {tg l : Expr} {tl : TE} (hl : PE X l tl) : PI X tg l (iStr tl) := by
  intro pins s σ H R I h
  refine thn (hl pins s σ H _ I h) fun v s1 ⟨x, H1, I1, r1, q1⟩ => ?_
  obtain ⟨z, e, q⟩ := q1
  subst e
  obtain ⟨t, rfl⟩ := r1
  have fin : ∀ b ∈ [s1.heap.objs.size], FpOk X pins H1 b := fun b hb => by
    have e : b = s1.heap.objs.size := by simpa using hb
    subst e
    exact I1.fpOk (Nat.le_refl _) (I1.hok.fresh (Nat.le_refl _))
  cases ha : z.cps.all (· < 128)
  · refine wpAny_pyIter_wide ha ?_
    exact ⟨s1.heap.objs.size, [s1.heap.objs.size], _, Its z, H1, rfl, I1.kept (t' := s1.toks) fun b o e => Heap.get?_push_of_some _ e, turn_strW _ z t, ⟨_, Heap.get?_push_size _ rfl, rfl, rfl⟩, fin, q⟩
  · refine wpAny_pyIter_ascii ha ?_
    exact ⟨s1.heap.objs.size, [s1.heap.objs.size], _, Its z, H1, rfl, I1.kept (t' := s1.toks) fun b o e => Heap.get?_push_of_some _ e, turn_strA _ z t, ⟨_, Heap.get?_push_size _ rfl, rfl, rfl⟩, fin, q⟩
section
variable {X : Cx}
def cutS (z : Str) (lo hi : Option Int) : Str := ⟨((z.cps.toList.drop (HT.sIx z.length 0 lo)).take (HT.sIx z.length z.length hi - HT.sIx z.length 0 lo)).toArray⟩
theorem strSlice_run (lo hi : Option Int) (n : Nat) : Builtin.Str.strSliceIndices lo hi 1 n = (List.range (HT.sIx n n hi - HT.sIx n 0 lo)).map fun k => HT.sIx n 0 lo + k := by
  have clip : ∀ v : Int, max 0 (min (if v < 0 then v + (n : Int) else v) (n : Int)) = ((HT.sIx n 0 (some v) : Nat) : Int) ∧ max 0 (min (if v < 0 then v + (n : Int) else v) (n : Int)) = ((HT.sIx n n (some v) : Nat) : Int) := fun v => by
    unfold HT.sIx
    by_cases hv : v < 0
    · simp only [if_pos hv]; omega
    · simp only [if_neg hv]; omega
  have key : ∀ a b : Nat, sliceRange (a : Int) (b : Int) 1 = (List.range (b - a)).map fun k => a + k := fun a b => by
    unfold sliceRange
    have hc : (if (1 : Int) > 0 then (if (a : Int) < (b : Int) then ((b : Int) - a + 1 - 1) / 1 else 0) else (if (a : Int) > (b : Int) then ((a : Int) - b - 1 - 1) / (-1) else 0)).toNat = b - a := by
      rw [if_pos (by decide)]
      by_cases h : (a : Int) < (b : Int)
      · rw [if_pos h, Int.ediv_one]; omega
      · rw [if_neg h]; omega
    dsimp only
    rw [hc]
    refine List.map_congr_left fun k _ => ?_
    omega
  unfold Builtin.Str.strSliceIndices
  cases lo with
  | none =>
    cases hi with
    | none => exact key 0 n
    | some v =>
      simp only [show (1 : Int) > 0 by decide, if_true]
      rw [(clip v).2]
      exact key 0 _
  | some u =>
    cases hi with
    | none =>
      simp only [show (1 : Int) > 0 by decide, if_true]
      rw [(clip u).1]
      exact key _ n
    | some v =>
      simp only [show (1 : Int) > 0 by decide, if_true]
      rw [(clip u).1, (clip v).2]
      exact key _ _
theorem pick_at {α : Type} (xs : Array α) (a m : Nat) : ((List.range m).map fun k => a + k).filterMap (xs[·]?) = (xs.toList.drop a).take m := by
  rw [List.filterMap_map]
  induction m generalizing a with
  | zero => simp
  | succ m ih =>
    rw [List.range_succ, List.filterMap_append, ih, List.take_succ]
    congr 1
    simp only [List.filterMap_cons, List.filterMap_nil, Function.comp]
    rw [List.getElem?_drop, Array.getElem?_toList]
    cases xs[a + m]? <;> rfl
theorem slice_cut (z : Str) (lo hi : Option Int) : Txt.slice z lo hi = cutS z lo hi := by
  have h1 := HT.sIx_le z.length 0 (Nat.zero_le _) lo
  have h2 := HT.sIx_le z.length z.length (Nat.le_refl _) hi
  unfold Txt.slice cutS
  rw [strSlice_run, pick_at]
  split
  · rename_i h
    rw [List.length_map, List.length_range] at h
    have h3 : HT.sIx z.length z.length hi - HT.sIx z.length 0 lo = z.length := by
      have h' := (Bool.and_eq_true_iff.mp h).2
      exact eq_of_beq h'
    have e1 : HT.sIx z.length 0 lo = 0 := by omega
    rw [h3, e1, List.drop_zero]
    have hl : z.cps.toList.length = z.length := by simp [Str.length]
    rw [List.take_of_length_le (by omega)]
  · rfl
def rSlS : V → Option Int → Option Int → Hp → VK → Prop := fun x lo hi H Q => ∃ z, x = .str z ∧ z.length ≤ sizeLine ∧ Q (.str (cutS z lo hi)) H
theorem sl_str : SlR X rSlS := by
  intro pins s σ H x v vl vu lo hi sl Q I rx hs pl pu h
  obtain ⟨z, rfl, hz, q⟩ := h
  obtain ⟨t, rfl⟩ := rx
  refine ⟨"str", _, F.slot_str_getitem.lookup, typeIs_str _ _ _, wpAny_with_toks (n := 1) I.tk ?_⟩
  obtain ⟨o, ho, hc, hd⟩ := hs
  have fin : (Txt.slice z lo hi).length ≤ sizeLine ∧ ∀ t' k, 1 ≤ ({ s with toks := k } : Shared).toks → EP X pins σ Q (.str (Txt.slice z lo hi) t') { s with toks := k } :=
    ⟨Nat.le_trans (Txt.slice_le z lo hi) hz, fun t' k hk => ⟨.str (Txt.slice z lo hi), H, I.tok k hk, ⟨_, rfl⟩, by rw [slice_cut]; exact q⟩⟩
  cases pl with
  | none =>
    cases pu with
    | none => exact wpAny_getItem_str_slice (l := none) (u := none) (st := none) ⟨o, ho, hc, hd⟩ rfl (post_val_or_str fin)
    | int j uj => exact wpAny_getItem_str_slice (l := none) (u := some (j, uj)) (st := none) ⟨o, ho, hc, hd⟩ rfl (post_val_or_str fin)
  | int i ui =>
    cases pu with
    | none => exact wpAny_getItem_str_slice (l := some (i, ui)) (u := none) (st := none) ⟨o, ho, hc, hd⟩ rfl (post_val_or_str fin)
    | int j uj => exact wpAny_getItem_str_slice (l := some (i, ui)) (u := some (j, uj)) (st := none) ⟨o, ho, hc, hd⟩ rfl (post_val_or_str fin)
theorem strsAre_of {ys : List Str} : ∀ {us : List Value}, Vals (ys.map V.str) us → StrsAre us ys := by
  induction ys with
  | nil => intro us r; rw [List.map_nil] at r; cases r; exact .nil
  | cons y ys ih =>
    intro us r
    rw [List.map_cons] at r
    cases r with
    | cons r1 r2 =>
      obtain ⟨t, e⟩ := r1
      subst e
      exact .cons y t (ih r2)
def rJoin (K : PySem.W.Frag) : V → List V → Hp → VK → Prop := fun x vs H Q => ∃ z p ys, x = .str z ∧ vs = [.ref p] ∧ (SqL K H p (ys.map V.str) ∨ SqT K H p (ys.map V.str)) ∧ (ys.map (·.length)).sum + ys.length * z.length ≤ 16777216 ∧ Q (.str (Txt.join z ys)) H
theorem mt_join : MtR X "str.join" (rJoin X.K) := by
  intro pins s σ H x vs v us Q I rx rv h
  obtain ⟨z, p, ys, rfl, rfl, hq, hz, q⟩ := h
  obtain ⟨t, rfl⟩ := rx
  obtain ⟨u, rfl, ru⟩ := vals1 rv
  cases ru
  rcases hq with hq | hq
  · obtain ⟨its, r, pl, _⟩ := I.list hq
    exact wpAny_with_toks (n := 1) I.tk (join_list pl.isList (by simpa using strsAre_of r) hz fun t' k hk => ⟨.str (Txt.join z ys), H, I.tok k hk, ⟨_, rfl⟩, q⟩)
  · obtain ⟨its, r, pl, _⟩ := I.tuple hq
    exact wpAny_with_toks (n := 1) I.tk (join_tuple pl (by simpa using strsAre_of r) hz fun t' k hk => ⟨.str (Txt.join z ys), H, I.tok k hk, ⟨_, rfl⟩, q⟩)
theorem vals_strs : ∀ (l : List (Str × Tok)), Vals ((l.map (·.1)).map V.str) (strValues l)
  | [] => .nil
  | (x, t) :: r => .cons ⟨t, rfl⟩ (vals_strs r)
def rSplit : V → List V → Hp → VK → Prop := fun x vs H Q => ∃ z y, x = .str z ∧ vs = [.str y] ∧ (y.length == 0) = false ∧ z.length + 2 ≤ sizeLine ∧ ∀ p, H p = none → Q (.ref p) (upd H p (.lst ((Txt.split z y).map V.str)))
end
end L2
namespace L2
open PySem PySem.Spec PyProof.Rows PySem.Builtin.Str
section
variable {X : Cx}
theorem mt_split : MtR X "str.split" rSplit := by
  intro pins s σ H x vs v us Q I rx rv h
  obtain ⟨z, y, rfl, rfl, hy, hz, q⟩ := h
  obtain ⟨t, rfl⟩ := rx
  obtain ⟨u, rfl, tu, rfl⟩ := vals1 rv
  have hn : (partsBetween z (occurrences z y 0 z.length (z.length + 1)) y.length).length ≤ sizeLine := by
    have e1 := StrLaws.occ_length_le z y 0 z.length (z.length + 1)
    rw [length_partsBetween]; omega
  have fin : ∀ (l : List (Str × Tok)) (k : Nat), l.map (·.1) = Txt.split z y → l.length ≤ sizeLine → 1 ≤ k → EP X pins σ Q (.ref s.heap.objs.size) { s with heap := s.heap.push { cls := .type "list", data := .seq (strValues l).toArray }, toks := k } := fun l k e hl hk => by
    have e2 := vals_strs l
    rw [e] at e2
    have hz2 : ((Txt.split z y).map V.str).length ≤ sizeLine := by rw [List.length_map, ← e, List.length_map]; exact hl
    exact ⟨.ref s.heap.objs.size, _, I.lnew e2 hz2 hk, rfl, q _ I.fresh⟩
  refine wpAny_with_toks (n := 1) I.tk ?_
  cases h1 : (decide (z.length < y.length) || decide (strKind z < strKind y))
  · cases hf : (occurrences z y 0 z.length (z.length + 1)).isEmpty
    · refine call_meets F.slot_str_split (typeIs_str _ _ _) F.entry_str_split (F.args_str_split_2 _ _) (meets_str_split_sep z y t tu h1 hy hf (by omega) hn) ?_
      show wants _ _ _ { s with toks := _, heap := s.heap.push { cls := .type "list", data := .seq (strsFrom s.toks (partsBetween z (occurrences z y 0 z.length (z.length + 1)) y.length)).toArray } }
      rw [strsFrom_eq]
      have e3 := (numbered_texts s.toks (partsBetween z (occurrences z y 0 z.length (z.length + 1)) y.length))
      refine fin (numbered s.toks _) _ (e3.trans ((if_neg (ne_true_of_eq_false h1)).trans (if_neg (ne_true_of_eq_false hf))).symm) ?_
      have e4 := congrArg List.length e3
      rw [List.length_map] at e4
      rw [e4]; exact hn
    · exact call_meets F.slot_str_split (typeIs_str _ _ _) F.entry_str_split (F.args_str_split_2 _ _) (meets_str_split_not_found z y t tu h1 hy hf)
        (fin [(z, t)] s.toks ((if_neg (ne_true_of_eq_false h1)).trans (if_pos hf)).symm (by show 1 ≤ sizeLine; decide))
  · exact call_meets F.slot_str_split (typeIs_str _ _ _) F.entry_str_split (F.args_str_split_2 _ _) (meets_str_split_cannot_occur z y t tu h1)
      (fin [(z, t)] s.toks (if_pos h1).symm (by show 1 ≤ sizeLine; decide))
theorem op_mul_str : OpR X (binaryOp .Mult) (fun x y H Q => ∃ z n, x = .str z ∧ y = .int n ∧ MulOk z n ∧ Q (.str (Txt.mul z n)) H) := by
  intro pins s σ H x y v u Q I rx ry h
  obtain ⟨z, n, rfl, rfl, hm, q⟩ := h
  obtain ⟨t, rfl⟩ := rx
  obtain ⟨t', rfl⟩ := ry
  exact wpAny_with_toks (n := 1) I.tk (SB.mul hm fun t' k hk => ⟨.str _, H, I.tok k hk, ⟨_, rfl⟩, q⟩)
theorem bools_at {bs : List Bool} : ∀ {us : List Value}, Vals (bs.map V.bl) us → us = bs.map Value.bool := by
  induction bs with
  | nil => intro us r; rw [List.map_nil] at r; cases r; rfl
  | cons b bs ih =>
    intro us r
    rw [List.map_cons] at r
    cases r with
    | cons r1 r2 => rw [ih r2]; cases r1; rfl
theorem range_any_getD (bs : List Bool) : ((List.range bs.length).any fun i => bs.getD i false) = bs.any id := by
  induction bs with
  | nil => rfl
  | cons b bs ih =>
    rw [List.length_cons, List.range_succ_eq_map, List.any_cons, List.any_map, List.any_cons, ← ih]
    rfl
def rAny (K : PySem.W.Frag) : List V → Hp → VK → Prop := fun xs H Q => ∃ (p : Addr) (bs : List Bool), xs = [.ref p] ∧ SqL K H p (bs.map V.bl) ∧ Q (.bl (bs.any id)) H
theorem call_any (hc : X.calm = true) : CallR X (.builtin "any") (rAny X.K) := by
  intro pins s σ H xs us Q I r h
  obtain ⟨p, bs, rfl, hq, q⟩ := h
  obtain ⟨u, rfl, ru⟩ := vals1 r
  cases ru
  obtain ⟨its, rv, pl, hz⟩ := I.list hq
  have e := bools_at rv
  subst e
  obtain ⟨o, ho, ho2⟩ := pl.isList
  have hlt : p < s.heap.objs.size := Heap.lt_size ho
  refine wpAny_with_toks (n := 1) I.tk (call_any_walk (wpAny_pyIter_list pl.isList ?_))
  refine ⟨s.heap.objs.size, _, _, _, _, _, fun i => bs.getD i false, rfl, Walks.list (show X.A.in1.handled = none from I.ok.hd hc) s.heap.objs.size p (Nat.ne_of_lt hlt) (bs.map Value.bool).toArray, ⟨⟨_, Heap.get?_push_size _ rfl, rfl, rfl⟩, pl.isList.push _⟩, ?_, fun h' tk hk htk => ?_⟩
  · intro i v s' Q' E' hP hQ
    have hP' : (bs.map Value.bool)[i]? = some v := by simpa using hP
    rw [List.getElem?_map] at hP'
    cases hb : bs[i]? with
    | none => rw [hb] at hP'; cases hP'
    | some b =>
      rw [hb] at hP'
      cases hP'
      have e : bs.getD i false = b := by simp [List.getD, hb]
      dsimp only at hQ
      rw [e] at hQ
      exact wpAny_truthy_bool hQ
  · have hk' : ∀ b o, s.heap.get? b = some o → h'.get? b = some o := fun b o e => hk b o (by simpa using Nat.ne_of_lt (Heap.lt_size e)) (Heap.get?_push_of_some _ e)
    refine ⟨.bl (bs.any id), H, I.kept hk' htk, ?_, q⟩
    show Value.bool _ = Value.bool _
    rw [← range_any_getD]
    simp
end
mutual
inductive DatIs (K : PySem.W.Frag) (H : Hp) : V → PyData → Prop
  | non : DatIs K H .non .none
  | bl (b : Bool) : DatIs K H (.bl b) (.bool b)
  | int (i : Int) : DatIs K H (.int i) (.int i)
  | str (x : Str) : DatIs K H (.str x) (.str x)
  | lst {p : Addr} {xs : List V} {ds : List PyData} : SqL K H p xs → DatAll K H xs ds → DatIs K H (.ref p) (.list ds)
  | tup {p : Addr} {xs : List V} {ds : List PyData} : SqT K H p xs → DatAll K H xs ds → DatIs K H (.ref p) (.tuple ds)
inductive DatAll (K : PySem.W.Frag) (H : Hp) : List V → List PyData → Prop
  | nil : DatAll K H [] []
  | cons {v : V} {d : PyData} {vs : List V} {ds : List PyData} : DatIs K H v d → DatAll K H vs ds → DatAll K H (v :: vs) (d :: ds)
end
section
variable {X : Cx} {pins : List (Addr × Obj)} {σ : St} {H : Hp} {s : Shared}
mutual
theorem DatIs.reads (I : Inv X pins σ H s) : ∀ {v : V} {d : PyData} {u : Value}, DatIs X.K H v d → RelV v u → ∃ as, Reads s.heap u d as
  | _, _, _, .non, r => by cases r; exact ⟨_, .none⟩
  | _, _, _, .bl b, r => by cases r; exact ⟨_, .bool b⟩
  | _, _, _, .int i, r => by obtain ⟨t, rfl⟩ := r; exact ⟨_, .int i t⟩
  | _, _, _, .str x, r => by obtain ⟨t, rfl⟩ := r; exact ⟨_, .str x t⟩
  | _, _, _, .lst hq ha, r => by
    cases r
    obtain ⟨its, rv, ⟨o, n, e, hc, hd, hs⟩, _⟩ := I.list hq
    obtain ⟨as, ra⟩ := DatAll.reads I ha rv
    exact ⟨_, .list e hc hs (by simpa using ra)⟩
  | _, _, _, .tup hq ha, r => by
    cases r
    obtain ⟨its, rv, ⟨o, e, hc, n, hs⟩, _⟩ := I.tuple hq
    obtain ⟨as, ra⟩ := DatAll.reads I ha rv
    exact ⟨_, .tuple e hc hs (by simpa using ra)⟩
theorem DatAll.reads (I : Inv X pins σ H s) : ∀ {vs : List V} {ds : List PyData} {us : List Value}, DatAll X.K H vs ds → Vals vs us → ∃ as, ReadsAll s.heap us ds as
  | _, _, _, .nil, r => by cases r; exact ⟨_, .nil⟩
  | _, _, _, .cons h t, r => by
    cases r with
    | cons r1 r2 =>
      obtain ⟨as, ra⟩ := DatIs.reads I h r1
      obtain ⟨bs, rb⟩ := DatAll.reads I t r2
      exact ⟨_, .cons ra rb⟩
end
end
section
variable {X : Cx}
def rEqD (K : PySem.W.Frag) (neg : Bool) : R2 := fun x y H Q => ∃ d e, DatIs K H x d ∧ DatIs K H y e ∧ SeqAt.shaped d = true ∧ SeqAt.shaped e = true ∧ Q (.bl (if neg then !PyData.eqv d e else PyData.eqv d e)) H
theorem op_eqD {k : Nat} (hr : Room k X.A) : OpR X (compareOp .Eq) (rEqD X.K false) := by
  intro pins s σ H x y v u Q I rx ry h
  obtain ⟨d, e, hd, he, sd, se, q⟩ := h
  obtain ⟨as, ra⟩ := hd.reads I rx
  obtain ⟨bs, rb⟩ := he.reads I ry
  exact eq_dataH ra rb sd se hr.units ⟨.bl _, H, I, rfl, q⟩
theorem op_neD {k : Nat} (hr : Room k X.A) : OpR X (compareOp .NotEq) (rEqD X.K true) := by
  intro pins s σ H x y v u Q I rx ry h
  obtain ⟨d, e, hd, he, sd, se, q⟩ := h
  obtain ⟨as, ra⟩ := hd.reads I rx
  obtain ⟨bs, rb⟩ := he.reads I ry
  exact ne_dataH ra rb sd se hr.units ⟨.bl _, H, I, rfl, q⟩
where RelC : V → Value → Prop := fun c cv => (∃ n, c = .ty n ∧ cv = .type n) ∨ ∃ a, c = .ref a ∧ cv = .ref a
end
end L2
namespace L2
open PySem PySem.Spec PyProof.Rows
section
variable {X : Cx}
def uAdd : R2 := fun x y H Q => match x, y with
  | .int i, .int j => Q (.int (i + j)) H
  | .str a, .str b => a.length + b.length ≤ sizeLine ∧ Q (.str (a ++ b)) H
  | .ref l, .ref b => ∃ xs zs, H l = some (.lst xs) ∧ H b = some (.lst zs) ∧ xs.length + zs.length ≤ sizeLine ∧ ∀ p, H p = none → Q (.ref p) (upd H p (.lst (xs ++ zs)))
  | _, _ => False
theorem u_add : OpR X (binaryOp .Add) uAdd := by
  intro pins s σ H x y v u Q I rx ry h
  cases x with
  | int i =>
    cases y with
    | int j => exact op_add pins s σ H _ _ v u Q I rx ry ⟨i, j, rfl, rfl, h⟩
    | _ => exact False.elim h
  | str a =>
    cases y with
    | str b => exact op_add_str pins s σ H _ _ v u Q I rx ry ⟨a, b, rfl, rfl, h⟩
    | _ => exact False.elim h
  | ref l =>
    cases y with
    | ref b =>
      obtain ⟨xs, zs, h1, h2, h3, h4⟩ := h
      exact op_cat pins s σ H _ _ v u Q I rx ry ⟨l, b, xs, zs, rfl, rfl, h1, h2, h3, h4⟩
    | _ => exact False.elim h
  | _ => exact False.elim h
def uSub : R2 := fun x y H Q => match x, y with
  | .int i, .int j => Q (.int (i - j)) H
  | _, _ => False
theorem u_sub : OpR X (binaryOp .Sub) uSub := by
  intro pins s σ H x y v u Q I rx ry h
  cases x with
  | int i =>
    cases y with
    | int j => exact op_sub pins s σ H _ _ v u Q I rx ry ⟨i, j, rfl, rfl, h⟩
    | _ => exact False.elim h
  | _ => exact False.elim h
def uMul : R2 := fun x y H Q => match x, y with
  | .int i, .int j => CMul i j ∧ Q (.int (i * j)) H
  | .str z, .int n => MulOk z n ∧ Q (.str (Txt.mul z n)) H
  | _, _ => False
theorem u_mul : OpR X (binaryOp .Mult) uMul := by
  intro pins s σ H x y v u Q I rx ry h
  cases x with
  | int i =>
    cases y with
    | int j => exact op_mul pins s σ H _ _ v u Q I rx ry ⟨i, j, rfl, rfl, h⟩
    | _ => exact False.elim h
  | str z =>
    cases y with
    | int n => exact op_mul_str pins s σ H _ _ v u Q I rx ry ⟨z, n, rfl, rfl, h⟩
    | _ => exact False.elim h
  | _ => exact False.elim h
def uMod : R2 := fun x y H Q => match x, y with
  | .int i, .int j => 0 < j ∧ Q (.int (i % j)) H
  | _, _ => False
theorem u_mod : OpR X (binaryOp .Mod) uMod := by
  intro pins s σ H x y v u Q I rx ry h
  cases x with
  | int i =>
    cases y with
    | int j => exact op_mod pins s σ H _ _ v u Q I rx ry ⟨i, j, rfl, rfl, h⟩
    | _ => exact False.elim h
  | _ => exact False.elim h
def uDiv : R2 := fun x y H Q => match x, y with
  | .int i, .int j => (0 < j ∧ j < 1073741824) ∧ Q (.int (i / j)) H
  | _, _ => False
theorem u_div : OpR X (binaryOp .FloorDiv) uDiv := by
  intro pins s σ H x y v u Q I rx ry h
  cases x with
  | int i =>
    cases y with
    | int j => exact op_fdiv pins s σ H _ _ v u Q I rx ry ⟨i, j, rfl, rfl, h⟩
    | _ => exact False.elim h
  | _ => exact False.elim h
def uLt : R2 := fun x y H Q => match x, y with
  | .int i, .int j => Q (.bl (decide (i < j))) H
  | .str i, .str j => Q (.bl (decide (i.cps.toList < j.cps.toList))) H
  | _, _ => False
theorem u_lt : OpR X (compareOp .Lt) uLt := by
  intro pins s σ H x y v u Q I rx ry h
  cases x with
  | int i =>
    cases y with
    | int j => exact op_lt pins s σ H _ _ v u Q I rx ry ⟨i, j, rfl, rfl, h⟩
    | _ => exact False.elim h
  | str i =>
    cases y with
    | str j => exact op_lt_str pins s σ H _ _ v u Q I rx ry ⟨i, j, rfl, rfl, h⟩
    | _ => exact False.elim h
  | _ => exact False.elim h
def uGt : R2 := fun x y H Q => match x, y with
  | .int i, .int j => Q (.bl (decide (j < i))) H
  | _, _ => False
theorem u_gt : OpR X (compareOp .Gt) uGt := by
  intro pins s σ H x y v u Q I rx ry h
  cases x with
  | int i =>
    cases y with
    | int j => exact op_gt pins s σ H _ _ v u Q I rx ry ⟨i, j, rfl, rfl, h⟩
    | _ => exact False.elim h
  | _ => exact False.elim h
def uIn (K : PySem.W.Frag) (neg : Bool) : R2 := fun x y H Q => match x, y with
  | .str i, .str j => Q (.bl (xor neg (!(Builtin.Str.occurrences j i 0 j.length 1).isEmpty))) H
  | x, .ref p => ∃ xs, (SqL K H p xs ∨ SqT K H p xs) ∧ flatV x = true ∧ xs.all flatV = true ∧ Q (.bl (xor neg (inV x xs))) H
  | _, _ => False
theorem u_in : OpR X (compareOp .In) (uIn X.K false) := by
  intro pins s σ H x y v u Q I rx ry h
  cases y with
  | str j =>
    cases x with
    | str i =>
      have h' : Q (.bl (xor false (!(Builtin.Str.occurrences j i 0 j.length 1).isEmpty))) H := h
      rw [Bool.false_xor] at h'
      exact op_in_str pins s σ H _ _ v u Q I rx ry ⟨i, j, rfl, rfl, h'⟩
    | _ => exact False.elim h
  | ref p =>
    have h' : ∃ xs, (SqL X.K H p xs ∨ SqT X.K H p xs) ∧ flatV x = true ∧ xs.all flatV = true ∧ Q (.bl (xor false (inV x xs))) H := by cases x <;> exact h
    obtain ⟨xs, h1, h2, h3, h4⟩ := h'
    rw [Bool.false_xor] at h4
    exact op_in_seq pins s σ H _ _ v u Q I rx ry ⟨p, xs, rfl, h1, h2, h3, h4⟩
  | _ => cases x <;> exact False.elim h
def uIx (K : PySem.W.Frag) : R2 := fun x y H Q => match x, y with
  | .str z, .int i => ∃ c, z.length ≤ sizeLine ∧ atI z.cps.toList i = some c ∧ Q (.str ⟨#[c]⟩) H
  | .ref p, .int i => ∃ xs v, (SqL K H p xs ∨ SqT K H p xs) ∧ atI xs i = some v ∧ Q v H
  | _, _ => False
theorem u_ix : IxR X (uIx X.K) := by
  intro value slice pins s σ H x y v u Q I rx ry h hs
  cases x with
  | str z =>
    cases y with
    | int i =>
      obtain ⟨c, h1, h2, h3⟩ := h
      exact ix_str value slice pins s σ H _ _ v u Q I rx ry ⟨z, i, c, rfl, rfl, h1, h2, h3⟩ hs
    | _ => exact False.elim h
  | ref p =>
    cases y with
    | int i =>
      obtain ⟨xs, c, h1 | h1, h2, h3⟩ := h
      · exact ix_list value slice pins s σ H _ _ v u Q I rx ry ⟨p, xs, i, c, rfl, rfl, h1, h2, h3⟩ hs
      · exact ix_tup value slice pins s σ H _ _ v u Q I rx ry ⟨p, xs, i, c, rfl, rfl, h1, h2, h3⟩ hs
    | _ => exact False.elim h
  | _ => exact False.elim h
def uSl (K : PySem.W.Frag) : V → Option Int → Option Int → Hp → VK → Prop := fun x lo hi H Q => match x with
  | .str z => z.length ≤ sizeLine ∧ Q (.str (cutS z lo hi)) H
  | .ref a => (∃ xs, SqL K H a xs ∧ ∀ p, H p = none → Q (.ref p) (upd H p (.lst (cutV xs lo hi)))) ∨
      (∃ xs, SqT K H a xs ∧ ¬ (HT.sIx xs.length 0 lo = 0 ∧ HT.sIx xs.length xs.length hi = xs.length) ∧ ∀ p, H p = none → Q (.ref p) (upd H p (.tup (cutV xs lo hi))))
  | _ => False
theorem u_sl : SlR X (uSl X.K) := by
  intro pins s σ H x v vl vu lo hi sl Q I rx hs pl pu h
  cases x with
  | str z => exact sl_str pins s σ H _ v vl vu lo hi sl Q I rx hs pl pu ⟨z, rfl, h⟩
  | ref a =>
    rcases h with ⟨xs, h1, h2⟩ | ⟨xs, h1, h2, h3⟩
    · exact sl_list pins s σ H _ v vl vu lo hi sl Q I rx hs pl pu ⟨a, xs, rfl, h1, h2⟩
    · exact sl_tup pins s σ H _ v vl vu lo hi sl Q I rx hs pl pu ⟨a, xs, rfl, h1, h2, h3⟩
  | _ => exact False.elim h
def uLen (K : PySem.W.Frag) : List V → Hp → VK → Prop := fun xs H Q => match xs with
  | [.str z] => z.length ≤ sizeLine ∧ Q (.int z.length) H
  | [.ref p] => ∃ ys, (SqL K H p ys ∨ SqT K H p ys) ∧ Q (.int ys.length) H
  | _ => False
theorem u_len : CallR X (.builtin "len") (uLen X.K) := by
  intro pins s σ H xs us Q I r h
  match xs, h with
  | [.str z], h => exact call_len_str pins s σ H _ us Q I r ⟨z, rfl, h⟩
  | [.ref p], h =>
    obtain ⟨ys, h1, h2⟩ := h
    exact call_len_seq pins s σ H _ us Q I r ⟨p, ys, rfl, h1, h2⟩
end
theorem bt_len : bootBuiltins "len" = some (.builtin "len") := by decide +kernel
theorem bt_any : bootBuiltins "any" = some (.builtin "any") := by decide +kernel
theorem bt_isinstance : bootBuiltins "isinstance" = some (.builtin "isinstance") := by decide +kernel
theorem bt_str : bootBuiltins "str" = some (.type "str") := by decide +kernel
theorem bt_int : bootBuiltins "int" = some (.type "int") := by decide +kernel
theorem bt_list : bootBuiltins "list" = some (.type "list") := by decide +kernel
theorem bt_tuple : bootBuiltins "tuple" = some (.type "tuple") := by decide +kernel
structure Has (P : Program) (w : World) (K : PySem.W.Frag) (mg : Str → Option Value) (base : Heap) (x : Str) (k : Nat) (ps : List Str) (sp : Sp) : Prop where
  ex : ∃ f fd, FnOk P w K mg base CX0 k f fd ps sp ∧ Binds K fd ps [] ∧ PySem.W.keepIn K (.ref f) = true ∧ mg x = some (.ref f)
section
variable {X : Cx} {k kk : Nat} {x : Str} {ps : List Str} {sp : Sp} {e : Expr} {es : List Expr} {t : TA} {p pos : Pos}
theorem pe_callH (h : Has X.prog X.w X.K X.mg X.base x k ps sp) (hr : Room kk X.A) (hk : k ≤ kk) (hg : Gl X x) (ha : PA X (e :: es) t) (hx : Passes CX0 X E0 := by exact pass0) (hdb : (x == ("__debug__" : Str)) = false := by decide)
    (he : starEach (e :: es) X.env = (false, eval e X.env) :: starEach es X.env := by rfl) (hpl : (backTo pos (starEach es X.env)).any (·.1) = false := by rfl) :
    PE X (.Call (.Name x p) (e :: es) [] pos) (tCall sp [] E0 t) := by
  obtain ⟨f, fd, F, b, kp, m⟩ := h.ex
  exact pe_call F (hr.mono hk) hg m kp b .nil hx ha hdb he hpl
theorem pe_callH0 (h : Has X.prog X.w X.K X.mg X.base x k ps sp) (hr : Room kk X.A) (hk : k ≤ kk) (hg : Gl X x) (hx : Passes CX0 X E0 := by exact pass0) (hdb : (x == ("__debug__" : Str)) = false := by decide) :
    PE X (.Call (.Name x p) [] [] pos) (tCall sp [] E0 tNil) := by
  obtain ⟨f, fd, F, b, kp, m⟩ := h.ex
  exact pe_call0 F (hr.mono hk) hg m kp b .nil hx hdb
structure HasV (mg : Str → Option Value) (x : Str) (v : V) : Prop where
  ex : ∃ u, mg x = some u ∧ RelV v u
end
theorem kit_ty {K : PySem.W.Frag} {A B : String} {b : Bool} (h : (if (Value.type A == Value.type B) = true then some true else if PySem.W.kitMeta B = true then (PySem.fastBuiltinMro A).map (·.contains (Value.type B)) else none) = some b) : PySem.W.kitOne K (.type A) (.type B) = some b := h
end L2
namespace TX
open PySem
def splitL (c : Nat) : List Nat → List (List Nat)
  | [] => [[]]
  | d :: r => if d = c then [] :: splitL c r else match splitL c r with
    | [] => [[d]]
    | p :: ps => (d :: p) :: ps
def joinL (c : Nat) : List (List Nat) → List Nat
  | [] => []
  | [p] => p
  | p :: q :: r => p ++ c :: joinL c (q :: r)
theorem splitL_ne (c : Nat) (l : List Nat) : splitL c l ≠ [] := by
  cases l with
  | nil => simp [splitL]
  | cons d r =>
    unfold splitL
    split
    · simp
    · split <;> simp
theorem splitL_free (c : Nat) : ∀ p : List Nat, c ∉ p → splitL c p = [p]
  | [], _ => rfl
  | d :: r, h => by
    have hd : d ≠ c := fun e => h (by simp [e])
    have hr : c ∉ r := fun e => h (List.mem_cons_of_mem _ e)
    unfold splitL
    rw [if_neg hd, splitL_free c r hr]
theorem splitL_app (c : Nat) : ∀ (p r : List Nat), c ∉ p → splitL c (p ++ c :: r) = p :: splitL c r
  | [], r, _ => by
    show splitL c (c :: r) = _
    unfold splitL
    rw [if_pos rfl]
    cases r <;> rfl
  | d :: q, r, h => by
    have hd : d ≠ c := fun e => h (by simp [e])
    have hq : c ∉ q := fun e => h (List.mem_cons_of_mem _ e)
    show splitL c (d :: (q ++ c :: r)) = _
    conv => lhs; unfold splitL
    rw [if_neg hd, splitL_app c q r hq]
theorem splitL_join (c : Nat) : ∀ ps : List (List Nat), ps ≠ [] → (∀ p ∈ ps, c ∉ p) → splitL c (joinL c ps) = ps
  | [], h, _ => absurd rfl h
  | [p], _, h => splitL_free c p (h p (by simp))
  | p :: q :: r, _, h => by
    show splitL c (p ++ c :: joinL c (q :: r)) = _
    rw [splitL_app c p _ (h p (by simp)), splitL_join c (q :: r) (by simp) fun x hx => h x (List.mem_cons_of_mem _ hx)]
theorem join_codes (c : Nat) : ∀ ps : List Str, (Str.join ⟨#[c]⟩ ps).cps.toList = joinL c (ps.map fun p => p.cps.toList)
  | [] => rfl
  | [p] => rfl
  | p :: q :: r => by
    have ih := join_codes c (q :: r)
    show (p ++ (⟨#[c]⟩ : Str) ++ Str.join ⟨#[c]⟩ (q :: r)).cps.toList = p.cps.toList ++ c :: joinL c ((q :: r).map fun p => p.cps.toList)
    rw [← ih]
    show (p.cps ++ #[c] ++ (Str.join ⟨#[c]⟩ (q :: r)).cps).toList = _
    simp
theorem split_ne (x : Str) (c : Nat) : Txt.split x ⟨#[c]⟩ ≠ [] := by
  unfold Txt.split
  split
  · simp
  · split
    · simp
    · rw [StrLaws.partsBetween_eq]
      obtain ⟨p, r, e⟩ := StrLaws.partsFrom_ne x (⟨#[c]⟩ : Str).length 0 (Builtin.Str.occurrences x ⟨#[c]⟩ 0 x.length (x.length + 1))
      rw [e]; simp
theorem split_codes (x : Str) (c : Nat) : (Txt.split x ⟨#[c]⟩).map (fun p => p.cps.toList) = splitL c x.cps.toList := by
  have h1 := StrLaws.join_split x ⟨#[c]⟩
  have h2 := join_codes c (Txt.split x ⟨#[c]⟩)
  rw [h1] at h2
  rw [h2, splitL_join]
  · intro e
    exact split_ne x c (List.map_eq_nil_iff.mp e)
  · intro p hp
    obtain ⟨q, hq, rfl⟩ := List.mem_map.mp hp
    exact StrLaws.split_free x c q hq
def ofL (l : List Nat) : Str := ⟨l.toArray⟩
theorem ofL_toList (x : Str) : ofL x.cps.toList = x := by
  cases x; simp [ofL]
theorem split_eq (x : Str) (c : Nat) : Txt.split x ⟨#[c]⟩ = (splitL c x.cps.toList).map ofL := by
  rw [← split_codes, List.map_map]
  have : (ofL ∘ fun p : Str => p.cps.toList) = id := by
    funext p; exact ofL_toList p
  rw [this, List.map_id]
end TX
namespace TX
open PySem
def sp (y : Nat) : Nat := if y = 10 then 32 else y
end TX
namespace M
abbrev T := List Nat
inductive Kd where
  | str | int | bool | list | tuple | dict
  deriving DecidableEq
inductive D where
  | non | bl (b : Bool) | int (i : Int) | str (x : T) | tup (ds : List D) | ro (ds : List D) | ref (i : Nat) | ty (n : Kd)
mutual
def D.decEq : (a b : D) → Decidable (a = b)
  | .non, .non => isTrue rfl
  | .bl a, .bl b => if h : a = b then isTrue (by rw [h]) else isFalse (fun e => h (D.bl.inj e))
  | .int a, .int b => if h : a = b then isTrue (by rw [h]) else isFalse (fun e => h (D.int.inj e))
  | .str a, .str b => if h : a = b then isTrue (by rw [h]) else isFalse (fun e => h (D.str.inj e))
  | .ref a, .ref b => if h : a = b then isTrue (by rw [h]) else isFalse (fun e => h (D.ref.inj e))
  | .ty a, .ty b => if h : a = b then isTrue (by rw [h]) else isFalse (fun e => h (D.ty.inj e))
  | .tup a, .tup b => match D.decEqs a b with
    | isTrue h => isTrue (by rw [h])
    | isFalse h => isFalse (fun e => h (D.tup.inj e))
  | .ro a, .ro b => match D.decEqs a b with
    | isTrue h => isTrue (by rw [h])
    | isFalse h => isFalse (fun e => h (D.ro.inj e))
  | .non, .bl _ | .non, .int _ | .non, .str _ | .non, .tup _ | .non, .ro _ | .non, .ref _ | .non, .ty _ => isFalse (fun e => nomatch e)
  | .bl _, .non | .bl _, .int _ | .bl _, .str _ | .bl _, .tup _ | .bl _, .ro _ | .bl _, .ref _ | .bl _, .ty _ => isFalse (fun e => nomatch e)
  | .int _, .non | .int _, .bl _ | .int _, .str _ | .int _, .tup _ | .int _, .ro _ | .int _, .ref _ | .int _, .ty _ => isFalse (fun e => nomatch e)
  | .str _, .non | .str _, .bl _ | .str _, .int _ | .str _, .tup _ | .str _, .ro _ | .str _, .ref _ | .str _, .ty _ => isFalse (fun e => nomatch e)
  | .tup _, .non | .tup _, .bl _ | .tup _, .int _ | .tup _, .str _ | .tup _, .ro _ | .tup _, .ref _ | .tup _, .ty _ => isFalse (fun e => nomatch e)
  | .ro _, .non | .ro _, .bl _ | .ro _, .int _ | .ro _, .str _ | .ro _, .tup _ | .ro _, .ref _ | .ro _, .ty _ => isFalse (fun e => nomatch e)
  | .ref _, .non | .ref _, .bl _ | .ref _, .int _ | .ref _, .str _ | .ref _, .tup _ | .ref _, .ro _ | .ref _, .ty _ => isFalse (fun e => nomatch e)
  | .ty _, .non | .ty _, .bl _ | .ty _, .int _ | .ty _, .str _ | .ty _, .tup _ | .ty _, .ro _ | .ty _, .ref _ => isFalse (fun e => nomatch e)
def D.decEqs : (a b : List D) → Decidable (a = b)
  | [], [] => isTrue rfl
  | [], _ :: _ => isFalse (fun e => nomatch e)
  | _ :: _, [] => isFalse (fun e => nomatch e)
  | a :: r, b :: t => match D.decEq a b, D.decEqs r t with
    | isTrue h, isTrue k => isTrue (by rw [h, k])
    | isFalse h, _ => isFalse (fun e => h (List.cons.inj e).1)
    | _, isFalse k => isFalse (fun e => k (List.cons.inj e).2)
end
instance : DecidableEq D := D.decEq
inductive O where
  | lst (xs : List D) | dct (kvs : List (D × D)) | ins (c : Nat) (fs : List (Option D))
  deriving DecidableEq
abbrev S := List O
abbrev St := List (Option D)
inductive R (α : Type) where
  | ok (a : α) (s : S) | exc (e : D) (s : S) | no
def R.bind {α β : Type} : R α → (α → S → R β) → R β
  | .ok a s, f => f a s
  | .exc e s, _ => .exc e s
  | .no, _ => .no
@[simp] theorem R.bind_ok {α β : Type} (a : α) (s : S) (f : α → S → R β) : (R.ok a s).bind f = f a s := rfl
@[simp] theorem R.bind_no {α β : Type} (f : α → S → R β) : (R.no : R α).bind f = .no := rfl
@[simp] theorem R.bind_exc {α β : Type} (e : D) (s : S) (f : α → S → R β) : (R.exc e s : R α).bind f = .exc e s := rfl
section
variable {α β : Type} {c : Prop} [Decidable c]
@[simp] theorem R.bind_ite (a b : R α) (f : α → S → R β) : (if c then a else b).bind f = if c then a.bind f else b.bind f := by split <;> rfl
@[simp] theorem R.ite_ok (a b : α) (s : S) : (if c then R.ok a s else R.ok b s) = R.ok (if c then a else b) s := by split <;> rfl
@[simp] theorem D.ite_bl (a b : Bool) : (if c then D.bl a else D.bl b) = D.bl (if c then a else b) := by split <;> rfl
@[simp] theorem D.ite_int (a b : Int) : (if c then D.int a else D.int b) = D.int (if c then a else b) := by split <;> rfl
@[simp] theorem D.ite_str (a b : T) : (if c then D.str a else D.str b) = D.str (if c then a else b) := by split <;> rfl
@[simp] theorem D.ite_tup (a b : List D) : (if c then D.tup a else D.tup b) = D.tup (if c then a else b) := by split <;> rfl
@[simp] theorem St.ite_some (a b : D) : (if c then some a else some b) = some (if c then a else b) := by split <;> rfl
@[simp] theorem St.ite_cons (a b : Option D) (r t : St) : (if c then a :: r else b :: t) = (if c then a else b) :: (if c then r else t) := by split <;> rfl
end
abbrev EM := St → S → R D
abbrev TM := St → S → R Bool
abbrev AM := St → S → R (List D)
def SZ : Nat := 16777216
@[simp] def eVar (i : Nat) : EM := fun σ s => match σ[i]? with
  | some (some d) => .ok d s
  | _ => .no
@[simp] def eC (d : D) : EM := fun _ s => .ok d s
@[simp] def eOp (f : D → D → S → R D) (a b : EM) : EM := fun σ s => (a σ s).bind fun x s => (b σ s).bind fun y s => f x y s
@[simp] def eUn (f : D → S → R D) (a : EM) : EM := fun σ s => (a σ s).bind fun x s => f x s
@[simp] def aNil : AM := fun _ s => .ok [] s
@[simp] def aCons (a : EM) (r : AM) : AM := fun σ s => (a σ s).bind fun x s => (r σ s).bind fun xs s => .ok (x :: xs) s
@[simp] def eTup (a : AM) : EM := fun σ s => (a σ s).bind fun xs s => if xs.length ≤ SZ then .ok (.tup xs) s else .no
@[simp] def alloc (o : O) (s : S) : R D := .ok (.ref s.length) (s ++ [o])
@[simp] def eLst (a : AM) : EM := fun σ s => (a σ s).bind fun xs s => if xs.length ≤ SZ then alloc (.lst xs) s else .no
@[simp] def lstAt (s : S) (i : Nat) : Option (List D) := match s[i]? with
  | some (.lst xs) => some xs
  | _ => none
@[simp] def opAdd : D → D → S → R D
  | .int i, .int j, s => .ok (.int (i + j)) s
  | .str a, .str b, s => if a.length + b.length ≤ SZ then .ok (.str (a ++ b)) s else .no
  | .tup a, .tup b, s => if a ≠ [] ∧ a.length + b.length ≤ SZ then .ok (.tup (a ++ b)) s else .no
  | .ref i, .ref j, s => match s[i]?, s[j]? with
    | some (.lst xs), some (.lst ys) => if xs.length + ys.length ≤ SZ then alloc (.lst (xs ++ ys)) s else .no
    | _, _ => .no
  | _, _, _ => .no
@[simp] def opSub : D → D → S → R D
  | .int i, .int j, s => .ok (.int (i - j)) s
  | _, _, _ => .no
def small (i : Int) : Bool := decide (i.natAbs < 18446744073709551616)
@[simp] def opMul : D → D → S → R D
  | .int i, .int j, s => if small i || small j then .ok (.int (i * j)) s else .no
  | .str a, .int n, s => if 0 ≤ n ∧ n.natAbs ≤ 1000000 ∧ a.length * n.natAbs ≤ 1000000 then .ok (.str (List.replicate n.toNat a).flatten) s else .no
  | .ref p, .int n, s => match lstAt s p with
    | some xs => if n.natAbs ≤ 1000 ∧ xs.length * n.natAbs ≤ 1000000 then alloc (.lst (List.replicate n.toNat xs).flatten) s else .no
    | none => .no
  | _, _, _ => .no
@[simp] def opDiv : D → D → S → R D
  | .int i, .int j, s => if 0 < j ∧ j.natAbs < 1073741824 then .ok (.int (i / j)) s else .no
  | _, _, _ => .no
@[simp] def opMod : D → D → S → R D
  | .int i, .int j, s => if 0 < j then .ok (.int (i % j)) s else .no
  | _, _, _ => .no
@[simp] def unNeg : D → S → R D
  | .int i, s => .ok (.int (-i)) s
  | _, _ => .no
abbrev CM := D → D → S → R Bool
@[simp] def cLt : CM
  | .int i, .int j, s => .ok (decide (i < j)) s
  | .str a, .str b, s => .ok (decide (a < b)) s
  | _, _, _ => .no
@[simp] def cGt : CM
  | .int i, .int j, s => .ok (decide (j < i)) s
  | _, _, _ => .no
inductive P where
  | non | bl (b : Bool) | int (i : Int) | str (x : T) | tup (ps : List P) | lst (ps : List P)
mutual
def P.eqv : P → P → Bool
  | .non, .non => true
  | .bl a, .bl b => a == b
  | .int a, .int b => a == b
  | .bl a, .int b => (if a then 1 else 0) == b
  | .int a, .bl b => a == (if b then 1 else 0)
  | .str a, .str b => a == b
  | .tup a, .tup b => P.eqvs a b
  | .lst a, .lst b => P.eqvs a b
  | _, _ => false
def P.eqvs : List P → List P → Bool
  | [], [] => true
  | a :: r, b :: t => P.eqv a b && P.eqvs r t
  | _, _ => false
end
mutual
def P.dep : P → Nat
  | .tup ps => P.deps ps + 1
  | .lst ps => P.deps ps + 1
  | _ => 0
def P.deps : List P → Nat
  | [] => 0
  | p :: ps => max (P.dep p) (P.deps ps)
end
def toPg (g : Nat → Option P) : D → Option P
  | .non => some .non
  | .bl b => some (.bl b)
  | .int i => some (.int i)
  | .str x => some (.str x)
  | .tup ds => (all ds).map .tup
  | .ro ds => (all ds).map .lst
  | .ref i => g i
  | .ty _ => none
where all : List D → Option (List P)
  | [] => some []
  | d :: ds => match toPg g d, all ds with
    | some p, some ps => some (p :: ps)
    | _, _ => none
def toP : Nat → S → D → Option P
  | 0, _ => toPg fun _ => none
  | n + 1, s => toPg fun i => match lstAt s i with
    | some xs => (toPg.all (fun j => toP n s (.ref j)) xs).map .lst
    | none => none
def DEEP : Nat := 9
def dGet (k : D) (kvs : List (D × D)) : Option D := kvs.lookup k
def dEq (s : S) (ws : List (D × D)) : List (D × D) → Option Bool
  | [] => some true
  | (k, v) :: r => match dGet k ws with
    | none => some false
    | some w => match toP 8 s v, toP 8 s w, dEq s ws r with
      | some p, some q, some b => if P.dep p ≤ 64 ∧ P.dep q ≤ 64 then some (P.eqv p q && b) else none
      | _, _, _ => none
def eqDct (x y : D) (s : S) : R Bool := match x, y with
  | .ref i, .ref j => match s[i]?, s[j]? with
    | some (.dct ks), some (.dct ws) => if ks.length = ws.length then (match dEq s ws ks with | some b => .ok b s | none => .no) else .ok false s
    | _, _ => .no
  | _, _ => .no
@[simp] def eqD (x y : D) (s : S) : R Bool := match x, y with
  | .str a, .str b => .ok (decide (a = b)) s
  | .int a, .int b => .ok (decide (a = b)) s
  | .bl a, .bl b => .ok (decide (a = b)) s
  | .non, .non => .ok true s
  | x, y => match toP DEEP s x, toP DEEP s y with
    | some p, some q => if P.dep p ≤ 64 ∧ P.dep q ≤ 64 then .ok (P.eqv p q) s else .no
    | _, _ => eqDct x y s
@[simp] def cEq : CM := fun x y s => eqD x y s
@[simp] def cNe : CM := fun x y s => (eqD x y s).bind fun b s => .ok (!b) s
def subT (a : T) : T → Bool
  | [] => a.isEmpty
  | c :: r => a.isPrefixOf (c :: r) || subT a r
def flat : D → Bool
  | .non => true
  | .bl _ => true
  | .int _ => true
  | .str _ => true
  | _ => false
def eqF : D → D → Bool
  | .non, .non => true
  | .bl a, .bl b => a == b
  | .int a, .int b => a == b
  | .bl a, .int b => (if a then 1 else 0) == b
  | .int a, .bl b => a == (if b then 1 else 0)
  | .str a, .str b => a == b
  | _, _ => false
def memF (x : D) (xs : List D) : Bool := xs.any fun y => eqF y x
def keyOk : D → Bool
  | .int _ => true
  | .str _ => true
  | _ => false
@[simp] def inD (x y : D) (s : S) : R Bool := match y with
  | .str b => match x with
    | .str a => .ok (subT a b) s
    | _ => .no
  | .tup ys => if flat x && ys.all flat then .ok (memF x ys) s else .no
  | .ro ys => if flat x && ys.all flat then .ok (memF x ys) s else .no
  | .ref i => match s[i]? with
    | some (.lst ys) => if flat x && ys.all flat then .ok (memF x ys) s else .no
    | some (.dct kvs) => if keyOk x then .ok (dGet x kvs).isSome s else .no
    | _ => .no
  | _ => .no
@[simp] def cIn : CM := fun x y s => inD x y s
@[simp] def eCmp (c : CM) (a b : EM) : EM := fun σ s => (a σ s).bind fun x s => (b σ s).bind fun y s => (c x y s).bind fun k s => .ok (.bl k) s
@[simp] def tCmp (c : CM) (a b : EM) : TM := fun σ s => (a σ s).bind fun x s => (b σ s).bind fun y s => c x y s
def gAt (t : T) : List (T × Int) → Option Int
  | [] => none
  | (k, v) :: r => if k = t then some v else gAt t r
@[simp] def eGGet (ks : List (T × Int)) (a : EM) : EM := fun σ s => (a σ s).bind fun x s => match x with
  | .str t => (match gAt t ks with | some v => .ok (.int v) s | none => .no)
  | _ => .no
@[simp] def truth : D → S → R Bool
  | .non, s => .ok false s
  | .bl b, s => .ok b s
  | .int i, s => .ok (decide (i ≠ 0)) s
  | .str x, s => if x.length ≤ SZ then .ok (!x.isEmpty) s else .no
  | .tup ds, s => .ok (!ds.isEmpty) s
  | .ro ds, s => .ok (!ds.isEmpty) s
  | .ref i, s => match s[i]? with
    | some (.lst xs) => .ok (!xs.isEmpty) s
    | some (.dct kvs) => .ok (!kvs.isEmpty) s
    | _ => .no
  | .ty _, _ => .no
@[simp] def tTru (a : EM) : TM := fun σ s => (a σ s).bind truth
@[simp] def tNot (a : TM) : TM := fun σ s => (a σ s).bind fun b s => .ok (!b) s
@[simp] def tAnd (a b : TM) : TM := fun σ s => (a σ s).bind fun k s => if k then b σ s else .ok false s
@[simp] def tOr (a b : TM) : TM := fun σ s => (a σ s).bind fun k s => if k then .ok true s else b σ s
@[simp] def asB : D → S → R Bool
  | .bl b, s => .ok b s
  | _, _ => .no
@[simp] def eNot (a : EM) : EM := fun σ s => (a σ s).bind fun x s => (asB x s).bind fun k s => .ok (.bl (!k)) s
@[simp] def eAnd (a b : EM) : EM := fun σ s => (a σ s).bind fun x s => (asB x s).bind fun k s => if k then b σ s else .ok (.bl false) s
@[simp] def eIf (c : TM) (a b : EM) : EM := fun σ s => (c σ s).bind fun k s => if k then a σ s else b σ s
def ixN (n : Nat) (i : Int) : Option Nat := if 0 ≤ i then (if i < n then some i.toNat else none) else if -(n : Int) ≤ i then some (i + n).toNat else none
def atI {α : Type} (xs : List α) (i : Int) : Option α := (ixN xs.length i).bind fun j => xs[j]?
@[simp] def opIx : D → D → S → R D
  | .str x, .int i, s => if x.length ≤ SZ then (match atI x i with | some c => .ok (.str [c]) s | none => .no) else .no
  | .tup xs, .int i, s => match atI xs i with | some d => .ok d s | none => .no
  | .ro xs, .int i, s => match atI xs i with | some d => .ok d s | none => .no
  | .ref p, k, s => match s[p]? with
    | some (.lst xs) => (match k with | .int i => (match atI xs i with | some d => .ok d s | none => .no) | _ => .no)
    | some (.dct kvs) => if keyOk k then (match dGet k kvs with | some d => .ok d s | none => .no) else .no
    | _ => .no
  | _, _, _ => .no
def sIx (n d : Nat) : Option Int → Nat
  | none => d
  | some v => (if v < 0 then max (v + (n : Int)) 0 else min v (n : Int)).toNat
def cut {α : Type} (xs : List α) (lo hi : Option Int) : List α := (xs.drop (sIx xs.length 0 lo)).take (sIx xs.length xs.length hi - sIx xs.length 0 lo)
abbrev OM := St → S → R (Option Int)
@[simp] def oNone : OM := fun _ s => .ok none s
@[simp] def oSome (a : EM) : OM := fun σ s => (a σ s).bind fun x s => match x with | .int i => .ok (some i) s | _ => .no
@[simp] def slD (x : D) (lo hi : Option Int) (s : S) : R D := match x with
  | .str z => if z.length ≤ SZ then .ok (.str (cut z lo hi)) s else .no
  | .tup xs => if sIx xs.length 0 lo = 0 ∧ sIx xs.length xs.length hi = xs.length then .no else .ok (.tup (cut xs lo hi)) s
  | .ro xs => alloc (.lst (cut xs lo hi)) s
  | .ref p => match lstAt s p with
    | some xs => alloc (.lst (cut xs lo hi)) s
    | none => .no
  | _ => .no
@[simp] def eSl (a : EM) (lo hi : OM) : EM := fun σ s => (a σ s).bind fun x s => (lo σ s).bind fun l s => (hi σ s).bind fun h s => slD x l h s
abbrev F := List D → S → R D
@[simp] def eCall (f : F) (a : AM) : EM := fun σ s => (a σ s).bind fun xs s => f xs s
@[simp] def tyOk (k : Kd) (x : D) (s : S) : Bool := match x with
  | .str _ => (match k with | .str => true | _ => false)
  | .ro _ => (match k with | .list => true | _ => false)
  | .ref p => match s[p]? with
    | some (.lst _) => (match k with | .list => true | _ => false)
    | some (.dct _) => (match k with | .dict => true | _ => false)
    | _ => false
  | _ => false
@[simp] def eM (k : Kd) (f : D → F) (o : EM) (a : AM) : EM := fun σ s => (o σ s).bind fun x s => if tyOk k x s then (a σ s).bind fun xs s => f x xs s else .no
@[simp] def fLen : F
  | [.str x], s => if x.length ≤ SZ then .ok (.int x.length) s else .no
  | [.tup xs], s => .ok (.int xs.length) s
  | [.ro xs], s => .ok (.int xs.length) s
  | [.ref p], s => match s[p]? with
    | some (.lst xs) => .ok (.int xs.length) s
    | some (.dct kvs) => .ok (.int kvs.length) s
    | _ => .no
  | _, _ => .no
@[simp] def isKind (n : Kd) (x : D) (s : S) : R Bool := match x with
  | .non => .ok false s
  | .bl _ => .ok (match n with | .bool => true | .int => true | _ => false) s
  | .int _ => .ok (match n with | .int => true | _ => false) s
  | .str _ => .ok (match n with | .str => true | _ => false) s
  | .tup _ => .ok (match n with | .tuple => true | _ => false) s
  | .ro _ => .ok (match n with | .list => true | _ => false) s
  | .ty _ => .no
  | .ref p => match s[p]? with
    | some (.lst _) => .ok (match n with | .list => true | _ => false) s
    | some (.dct _) => .ok (match n with | .dict => true | _ => false) s
    | _ => .no
@[simp] def fIsi : F
  | [x, .ty n], s => (isKind n x s).bind fun b s => .ok (.bl b) s
  | _, _ => .no
def bools : List D → Option (List Bool)
  | [] => some []
  | .bl b :: r => (bools r).map (b :: ·)
  | _ :: _ => none
def texts : List D → Option (List T)
  | [] => some []
  | .str x :: r => (texts r).map (x :: ·)
  | _ :: _ => none
def intsD : List D → Option (List Int)
  | [] => some []
  | .int x :: r => (intsD r).map (x :: ·)
  | _ :: _ => none
def kAll (xs : List D) (s : S) : R D := match bools xs with
  | some bs => .ok (.bl (bs.all id)) s
  | none => .no
def kAny (xs : List D) (s : S) : R D := match bools xs with
  | some bs => .ok (.bl (bs.any id)) s
  | none => .no
@[simp] def fSeq (k : List D → S → R D) : F
  | [.tup xs], s => k xs s
  | [.ro xs], s => k xs s
  | [.ref p], s => match lstAt s p with
    | some xs => k xs s
    | none => .no
  | _, _ => .no
def joinT (x : T) : List T → T
  | [] => []
  | [y] => y
  | y :: r => y ++ x ++ joinT x r
def kJoin (x : T) (xs : List D) (s : S) : R D := match texts xs with
  | some ys => if (ys.map List.length).sum + ys.length * x.length ≤ SZ then .ok (.str (joinT x ys)) s else .no
  | none => .no
@[simp] def mJoin : D → F
  | .str x, xs, s => fSeq (kJoin x) xs s
  | _, _, _ => .no
def splitT (c : Nat) : T → List T
  | [] => [[]]
  | d :: r => if d = c then [] :: splitT c r else match splitT c r with
    | [] => [[d]]
    | p :: ps => (d :: p) :: ps
@[simp] def mSplit : D → F
  | .str x, [.str [c]], s => if x.length + 2 ≤ SZ then alloc (.lst ((splitT c x).map .str)) s else .no
  | _, _, _ => .no
@[simp] def fInt : F
  | [.int i], s => .ok (.int i) s
  | [.bl b], s => .ok (.int (if b then 1 else 0)) s
  | _, _ => .no
@[simp] def fList : F
  | [.tup xs], s => alloc (.lst xs) s
  | [.ro xs], s => alloc (.lst xs) s
  | [.ref p], s => match s[p]? with
    | some (.lst xs) => alloc (.lst xs) s
    | some (.dct kvs) => alloc (.lst (kvs.map (·.1))) s
    | _ => .no
  | _, _ => .no
@[simp] def fDict : F
  | [.ref p], s => match s[p]? with
    | some (.dct kvs) => alloc (.dct kvs) s
    | _ => .no
  | _, _ => .no
@[simp] def fTuple : F
  | [.tup xs], s => .ok (.tup xs) s
  | [.ref p], s => match lstAt s p with
    | some xs => .ok (.tup xs) s
    | none => .no
  | _, _ => .no
@[simp] def mAppend : D → F
  | .ref p, [y], s => match s[p]? with
    | some (.lst xs) => if xs.length < SZ then .ok .non (s.set p (.lst (xs ++ [y]))) else .no
    | _ => .no
  | _, _, _ => .no
@[simp] def mPop : D → F
  | .ref p, [], s => match s[p]? with
    | some (.lst xs) => (match xs.getLast? with | some y => .ok y (s.set p (.lst xs.dropLast)) | none => .no)
    | _ => .no
  | _, _, _ => .no
@[simp] def mExtend : D → F
  | .ref p, [.ref q], s => match s[p]?, s[q]? with
    | some (.lst xs), some (.lst ys) => if xs.length + ys.length ≤ SZ ∧ p ≠ q then .ok .non (s.set p (.lst (xs ++ ys))) else .no
    | _, _ => .no
  | _, _, _ => .no
def dPut (k v : D) (kvs : List (D × D)) : List (D × D) := if (kvs.any fun p => decide (p.1 = k)) = true then kvs.map fun p => if p.1 = k then (p.1, v) else p else kvs ++ [(k, v)]
def pairsUp : List D → List (D × D) → Option (List (D × D))
  | [], acc => some acc
  | k :: v :: r, acc => if keyOk k then pairsUp r (dPut k v acc) else none
  | _, _ => none
@[simp] def eDict (a : AM) : EM := fun σ s => (a σ (s ++ [.dct []])).bind fun xs s' => match s'[s.length]? with
  | some (.dct []) => (match pairsUp xs [] with
    | some kvs => if kvs.length ≤ 15 ∧ xs.length ≤ 30 then .ok (.ref s.length) (s'.set s.length (.dct kvs)) else .no
    | none => .no)
  | _ => .no
def minT : List T → Option T
  | [] => none
  | x :: r => some (r.foldl (fun b y => if y < b then y else b) x)
def maxT : List T → Option T
  | [] => none
  | x :: r => some (r.foldl (fun b y => if b < y then y else b) x)
def kMin (xs : List D) (s : S) : R D := match texts xs with
  | some ys => (match minT ys with | some y => .ok (.str y) s | none => .no)
  | none => .no
def maxI : List Int → Option Int
  | [] => none
  | x :: r => some (r.foldl (fun b y => if b < y then y else b) x)
def kMaxI (xs : List D) (s : S) : R D := match intsD xs with
  | some ys => (match maxI ys with | some y => .ok (.int y) s | none => .no)
  | none => .no
def kMax (xs : List D) (s : S) : R D := match texts xs with
  | some ys => (match maxT ys with | some y => .ok (.str y) s | none => .no)
  | none => kMaxI xs s
def kSum (xs : List D) (s : S) : R D := match intsD xs with
  | some ys => .ok (.int ys.sum) s
  | none => .no
@[simp] def fLst (k : List D → S → R D) : F
  | [.ref p], s => match lstAt s p with
    | some xs => k xs s
    | none => .no
  | _, _ => .no
@[simp] def fMax1 : F := fun xs s => fLst kMax xs s
@[simp] def fSum : F := fun xs s => fLst kSum xs s
where insT' (x : T) : List T → List T
  | [] => [x]
  | y :: r => if y < x then y :: insT' x r else x :: y :: r
abbrev Gd := List (Nat × O)
def gdOk (g : Gd) (s : S) : Bool := g.all fun p => decide (s[p.1]? = some p.2)
abbrev IM := St → S → R (List D × Gd)
@[simp] def itD : D → S → R (List D × Gd)
  | .str x, s => if x.length ≤ SZ then .ok (x.map fun c => .str [c], []) s else .no
  | .tup ds, s => .ok (ds, []) s
  | .ro ds, s => .ok (ds, []) s
  | .ref i, s => match s[i]? with
    | some (.lst xs) => .ok (xs, [(i, .lst xs)]) s
    | _ => .no
  | _, _ => .no
@[simp] def iE (a : EM) : IM := fun σ s => (a σ s).bind itD
def rangeD (lo hi : Int) : List D := (List.range (hi - lo).toNat).map fun (k : Nat) => .int (lo + k)
@[simp] def iRange1 (a : EM) : IM := fun σ s => (a σ s).bind fun x s => match x with
  | .int j => if j.natAbs < 4611686018427387904 then .ok (rangeD 0 j, []) s else .no
  | _ => .no
def enumL : Int → List D → List D
  | _, [] => []
  | k, d :: ds => .tup [.int k, d] :: enumL (k + 1) ds
@[simp] def iEnum (k : Int) (a : EM) : IM := fun σ s => (a σ s).bind fun x s => match x with
  | .ro ds => .ok (enumL k ds, []) s
  | .ref i => (match s[i]? with | some (.lst xs) => .ok (enumL k xs, [(i, .lst xs)]) s | _ => .no)
  | _ => .no
def zipL : List D → List D → List D
  | a :: r, b :: t => .tup [a, b] :: zipL r t
  | _, _ => []
@[simp] def zipP : List D → S → R (List D × Gd)
  | [.ref i, .tup ds], s => (match s[i]? with | some (.lst xs) => .ok (zipL xs ds, [(i, .lst xs)]) s | _ => .no)
  | _, _ => .no
@[simp] def iZip (a b : EM) : IM := fun σ s => (aCons a (aCons b aNil) σ s).bind zipP
@[simp] def fListRev : F
  | [.tup xs], s => alloc (.lst xs.reverse) s
  | [.ref p], s => (match lstAt s p with | some xs => alloc (.lst xs.reverse) s | none => .no)
  | _, _ => .no
abbrev GM := D → St → Option St
@[simp] def gName (i : Nat) : GM := fun d σ => some (σ.set i (some d))
abbrev GMs := List D → St → Option St
@[simp] def gNil : GMs := fun ds σ => match ds with | [] => some σ | _ => none
@[simp] def gCons (g : GM) (r : GMs) : GMs := fun ds σ => match ds with
  | [] => none
  | d :: ds => match g d σ with
    | some σ' => r ds σ'
    | none => none
@[simp] def gTup (g : GMs) : GM := fun d σ => match d with
  | .tup ds => g ds σ
  | _ => none
def compL (g : Gd) (f : D → S → R (Option D)) : List D → S → R (List D)
  | [], s => .ok [] s
  | x :: xs, s => (f x s).bind fun o s => if gdOk g s then (compL g f xs s).bind fun ys s => .ok (match o with | some y => y :: ys | none => ys) s else .no
@[simp] def tYes : TM := fun _ s => .ok true s
@[simp] def compF (n : Nat) (tg : GM) (c : TM) (e : EM) (σ : St) : D → S → R (Option D) := fun x s => match tg x (σ ++ List.replicate n none) with
  | none => .no
  | some σ' => (c σ' s).bind fun b s => if b then (e σ' s).bind fun d s => .ok (some d) s else .ok none s
def compE (n : Nat) (it : IM) (tg : GM) (c : TM) (e : EM) : AM := fun σ s => (it σ s).bind fun p s => if p.1.length ≤ SZ ∧ gdOk p.2 s = true then compL p.2 (compF n tg c e σ) p.1 s else .no
@[simp] def eComp (n : Nat) (it : IM) (tg : GM) (c : TM) (e : EM) : EM := fun σ s => (compE n it tg c e σ s).bind fun ys s => alloc (.lst ys) s
@[simp] def eCompK (k : List D → S → R D) (n : Nat) (it : IM) (tg : GM) (c : TM) (e : EM) : EM := fun σ s => (compE n it tg c e σ s).bind k
inductive RS where
  | nx (σ : St) (s : S) | rt (d : D) (s : S) | bk (σ : St) (s : S) | ct (σ : St) (s : S) | exc (e : D) (σ : St) (s : S) | no
abbrev SM := St → S → RS
def R.stm {α : Type} (r : R α) (σ : St) (f : α → S → RS) : RS := match r with
  | .ok a s => f a s
  | .exc e s => .exc e σ s
  | .no => .no
@[simp] theorem R.stm_ok {α : Type} (a : α) (s : S) (σ : St) (f : α → S → RS) : (R.ok a s).stm σ f = f a s := rfl
@[simp] theorem R.stm_no {α : Type} (σ : St) (f : α → S → RS) : (R.no : R α).stm σ f = .no := rfl
def RS.then (r : RS) (f : SM) : RS := match r with
  | .nx σ s => f σ s
  | r => r
@[simp] theorem RS.then_nx (σ : St) (s : S) (f : SM) : (RS.nx σ s).then f = f σ s := rfl
@[simp] theorem RS.then_rt (d : D) (s : S) (f : SM) : (RS.rt d s).then f = .rt d s := rfl
@[simp] theorem RS.then_no (f : SM) : RS.no.then f = .no := rfl
@[simp] theorem RS.then_bk (σ : St) (s : S) (f : SM) : (RS.bk σ s).then f = .bk σ s := rfl
section
variable {α : Type} {c : Prop} [Decidable c]
@[simp] theorem R.stm_ite (a b : R α) (σ : St) (f : α → S → RS) : (if c then a else b).stm σ f = if c then a.stm σ f else b.stm σ f := by split <;> rfl
@[simp] theorem RS.ite_nx (a b : St) (s : S) : (if c then RS.nx a s else RS.nx b s) = RS.nx (if c then a else b) s := by split <;> rfl
@[simp] theorem RS.ite_rt (a b : D) (s : S) : (if c then RS.rt a s else RS.rt b s) = RS.rt (if c then a else b) s := by split <;> rfl
@[simp] theorem RS.then_ite (a b : RS) (f : SM) : (if c then a else b).then f = if c then a.then f else b.then f := by split <;> rfl
end
@[simp] theorem RS.then_exc (e : D) (σ : St) (s : S) (f : SM) : (RS.exc e σ s).then f = .exc e σ s := rfl
@[simp] theorem R.stm_exc {α : Type} (e : D) (s : S) (σ : St) (f : α → S → RS) : (R.exc e s : R α).stm σ f = .exc e σ s := rfl
@[simp] theorem RS.then_ct (σ : St) (s : S) (f : SM) : (RS.ct σ s).then f = .ct σ s := rfl
@[simp] def sNil : SM := fun σ s => .nx σ s
@[simp] def sSeq (a b : SM) : SM := fun σ s => (a σ s).then b
@[simp] def sExpr (e : EM) : SM := fun σ s => (e σ s).stm σ fun _ s => .nx σ s
@[simp] def sRet (e : EM) : SM := fun σ s => (e σ s).stm σ fun d s => .rt d s
@[simp] def sSet (i : Nat) (e : EM) : SM := fun σ s => (e σ s).stm σ fun d s => .nx (σ.set i (some d)) s
@[simp] def sSetG (g : GM) (e : EM) : SM := fun σ s => (e σ s).stm σ fun d s => match g d σ with
  | some σ' => .nx σ' s
  | none => .no
@[simp] def sIf (c : TM) (a b : SM) : SM := fun σ s => (c σ s).stm σ fun k s => if k then a σ s else b σ s
def forL (g : Gd) (f : D → SM) : List D → SM
  | [], σ, s => .nx σ s
  | x :: xs, σ, s => match f x σ s with
    | .nx σ s => if gdOk g s then forL g f xs σ s else .no
    | .ct σ s => if gdOk g s then forL g f xs σ s else .no
    | .bk σ s => .nx σ s
    | r => r
@[simp] def forF (tg : GM) (b : SM) : D → SM := fun x σ s => match tg x σ with
  | some σ' => b σ' s
  | none => .no
@[simp] def sFor (it : IM) (tg : GM) (b : SM) : SM := fun σ s => (it σ s).stm σ fun p s => if gdOk p.2 s = true then forL p.2 (forF tg b) p.1 σ s else .no
def whileF : Nat → TM → SM → SM
  | 0, _, _, _, _ => .no
  | n + 1, c, b, σ, s => (c σ s).stm σ fun k s => if k then (match b σ s with
    | .nx σ s => whileF n c b σ s
    | .ct σ s => whileF n c b σ s
    | .bk σ s => .nx σ s
    | r => r) else .nx σ s
def FUEL : Nat := 1000000000000
@[simp] def sWhile (c : TM) (b : SM) : SM := fun σ s => whileF FUEL c b σ s
def RS.out (r : RS) : R D := match r with
  | .rt d s => .ok d s
  | .nx _ s => .ok .non s
  | .exc e _ s => .exc e s
  | _ => .no
@[simp] theorem RS.out_rt (d : D) (s : S) : (RS.rt d s).out = .ok d s := rfl
@[simp] theorem RS.out_nx (σ : St) (s : S) : (RS.nx σ s).out = .ok .non s := rfl
@[simp] theorem RS.out_no : RS.no.out = .no := rfl
@[simp] theorem RS.out_exc (e : D) (σ : St) (s : S) : (RS.exc e σ s).out = .exc e s := rfl
@[simp] theorem RS.out_ite {c : Prop} [Decidable c] (a b : RS) : (if c then a else b).out = if c then a.out else b.out := by split <;> rfl
@[simp] def fn (n : Nat) (b : SM) : F := fun xs s => (b (xs.map some ++ List.replicate (n - xs.length) none) s).out
def D.cl (n : Nat) : D → Bool
  | .ref i => decide (i < n)
  | .tup ds => all ds
  | .ro ds => all ds
  | _ => true
where all : List D → Bool
  | [] => true
  | d :: ds => D.cl n d && all ds
def O.cl (n : Nat) : O → Bool
  | .lst xs => D.cl.all n xs
  | .dct kvs => kvs.all fun p => D.cl n p.1 && D.cl n p.2
  | .ins _ fs => fs.all fun o => match o with | some d => D.cl n d | none => true
def clS (n : Nat) (s : S) : Bool := s.all (O.cl n)
def D.ren (e : List Nat) : D → D
  | .ref i => .ref (e.getD i i)
  | .tup ds => .tup (all ds)
  | .ro ds => .ro (all ds)
  | d => d
where all : List D → List D
  | [] => []
  | d :: ds => D.ren e d :: all ds
def O.ren (e : List Nat) : O → O
  | .lst xs => .lst (D.ren.all e xs)
  | .dct kvs => .dct (kvs.map fun p => (D.ren e p.1, D.ren e p.2))
  | .ins c fs => .ins c (fs.map (Option.map (D.ren e)))
end M
namespace M
structure Emb (n : Nat) (e : List Nat) (S' S1 : S) : Prop where
  len : e.length = S'.length
  nd : e.Nodup
  le : n ≤ S'.length
  old : ∀ i, i < n → e[i]? = some i
  obj : ∀ (i : Nat) o, S'[i]? = some o → ∃ j, e[i]? = some j ∧ S1[j]? = some (O.ren e o) ∧ O.cl S'.length o = true
def Refines (n : Nat) (f q : F) : Prop := ∀ ds S, ds.length = n → clS S.length S = true → D.cl.all S.length ds = true →
  q ds S = .no ∨ ∃ d S' S1 e, q ds S = .ok d S' ∧ f ds S = .ok (D.ren e d) S1 ∧ Emb S.length e S' S1 ∧ D.cl S'.length d = true
section
variable {e : List Nat}
mutual
theorem D.ren_id (h : ∀ i, e.getD i i = i) : ∀ d : D, D.ren e d = d
  | .non => rfl
  | .bl _ => rfl
  | .int _ => rfl
  | .str _ => rfl
  | .ty _ => rfl
  | .ref i => by show D.ref (e.getD i i) = _; rw [h]
  | .tup ds => by show D.tup (D.ren.all e ds) = _; rw [D.rens_id h]
  | .ro ds => by show D.ro (D.ren.all e ds) = _; rw [D.rens_id h]
theorem D.rens_id (h : ∀ i, e.getD i i = i) : ∀ ds : List D, D.ren.all e ds = ds
  | [] => rfl
  | d :: ds => by show D.ren e d :: D.ren.all e ds = _; rw [D.ren_id h, D.rens_id h]
end
theorem O.ren_id (h : ∀ i, e.getD i i = i) (o : O) : O.ren e o = o := by
  cases o with
  | lst xs => show O.lst _ = _; rw [D.rens_id h]
  | dct kvs =>
    show O.dct (kvs.map fun p => (D.ren e p.1, D.ren e p.2)) = _
    have : (fun p : D × D => (D.ren e p.1, D.ren e p.2)) = id := by funext p; rw [D.ren_id h, D.ren_id h]; rfl
    rw [this, List.map_id]
  | ins c fs =>
    show O.ins c (fs.map (Option.map (D.ren e))) = _
    have : Option.map (D.ren e) = id := by funext o; cases o with | none => rfl | some d => show some _ = _; rw [D.ren_id h]; rfl
    rw [this, List.map_id]
theorem range_getD (n i : Nat) : (List.range n).getD i i = i := by
  rw [List.getD_eq_getElem?_getD]
  by_cases h : i < n
  · rw [List.getElem?_range h]; rfl
  · rw [List.getElem?_eq_none (by simp; omega)]; rfl
end
section
variable {e : List Nat} {n : Nat}
mutual
theorem D.ren_old (h : ∀ i, i < n → e[i]? = some i) : ∀ d : D, D.cl n d = true → D.ren e d = d
  | .non, _ => rfl
  | .bl _, _ => rfl
  | .int _, _ => rfl
  | .str _, _ => rfl
  | .ty _, _ => rfl
  | .ref i, c => by
    have hi : i < n := of_decide_eq_true c
    show D.ref (e.getD i i) = _
    rw [List.getD_eq_getElem?_getD, h i hi]; rfl
  | .tup ds, c => by show D.tup (D.ren.all e ds) = _; rw [D.rens_old h ds c]
  | .ro ds, c => by show D.ro (D.ren.all e ds) = _; rw [D.rens_old h ds c]
theorem D.rens_old (h : ∀ i, i < n → e[i]? = some i) : ∀ ds : List D, D.cl.all n ds = true → D.ren.all e ds = ds
  | [], _ => rfl
  | d :: ds, c => by
    have c' : (D.cl n d && D.cl.all n ds) = true := c
    rw [Bool.and_eq_true] at c'
    show D.ren e d :: D.ren.all e ds = _
    rw [D.ren_old h d c'.1, D.rens_old h ds c'.2]
end
theorem O.ren_old (h : ∀ i, i < n → e[i]? = some i) (o : O) (c : O.cl n o = true) : O.ren e o = o := by
  cases o with
  | lst xs => show O.lst _ = _; rw [D.rens_old h xs c]
  | dct kvs =>
    show O.dct (kvs.map fun p => (D.ren e p.1, D.ren e p.2)) = _
    congr 1
    conv => rhs; rw [← List.map_id kvs]
    refine List.map_congr_left fun p hp => ?_
    have c1 := List.all_eq_true.mp c p hp
    rw [Bool.and_eq_true] at c1
    rw [D.ren_old h _ c1.1, D.ren_old h _ c1.2]; rfl
  | ins cc fs =>
    show O.ins cc (fs.map (Option.map (D.ren e))) = _
    congr 1
    conv => rhs; rw [← List.map_id fs]
    refine List.map_congr_left fun p hp => ?_
    cases p with
    | none => rfl
    | some d =>
      have c1 := List.all_eq_true.mp c (some d) hp
      show some _ = some _
      rw [D.ren_old h d c1]
mutual
theorem D.cl_mono {m : Nat} (h : n ≤ m) : ∀ d : D, D.cl n d = true → D.cl m d = true
  | .non, _ => rfl
  | .bl _, _ => rfl
  | .int _, _ => rfl
  | .str _, _ => rfl
  | .ty _, _ => rfl
  | .ref i, c => decide_eq_true (Nat.lt_of_lt_of_le (of_decide_eq_true c) h)
  | .tup ds, c => D.cls_mono h ds c
  | .ro ds, c => D.cls_mono h ds c
theorem D.cls_mono {m : Nat} (h : n ≤ m) : ∀ ds : List D, D.cl.all n ds = true → D.cl.all m ds = true
  | [], _ => rfl
  | d :: ds, c => by
    have c' : (D.cl n d && D.cl.all n ds) = true := c
    rw [Bool.and_eq_true] at c'
    show (D.cl m d && D.cl.all m ds) = true
    rw [D.cl_mono h d c'.1, D.cls_mono h ds c'.2]; rfl
end
theorem O.cl_mono {m : Nat} (h : n ≤ m) (o : O) (c : O.cl n o = true) : O.cl m o = true := by
  cases o with
  | lst xs => exact D.cls_mono h xs c
  | dct kvs =>
    refine List.all_eq_true.mpr fun p hp => ?_
    have c1 := List.all_eq_true.mp c p hp
    rw [Bool.and_eq_true] at c1 ⊢
    exact ⟨D.cl_mono h _ c1.1, D.cl_mono h _ c1.2⟩
  | ins cc fs =>
    refine List.all_eq_true.mpr fun p hp => ?_
    have c1 := List.all_eq_true.mp c p hp
    cases p with
    | none => rfl
    | some d => exact D.cl_mono h d c1
theorem clS_get {S : M.S} (h : clS n S = true) {i : Nat} {o : O} (e : S[i]? = some o) : O.cl n o = true := List.all_eq_true.mp h o (List.mem_of_getElem? e)
end
theorem emb_drop {S S' g : M.S} (hn : S.length ≤ S'.length) (c : clS S'.length S' = true) : Emb S.length (List.range S'.length) S' (S' ++ g) :=
  ⟨by simp, List.nodup_range, hn, fun i hi => by rw [List.getElem?_range (by omega)], fun i o q => by
    have hi : i < S'.length := (List.getElem?_eq_some_iff.mp q).1
    exact ⟨i, by rw [List.getElem?_range hi], by rw [List.getElem?_append_left hi, O.ren_id (range_getD _), q], clS_get c q⟩⟩
theorem emb_new {S g : M.S} {o : O} {j : Nat} (c : clS S.length S = true) (co : O.cl S.length o = true) (hj : (S ++ g)[j]? = some o) (hle : S.length ≤ j) : Emb S.length (List.range S.length ++ [j]) (S ++ [o]) (S ++ g) := by
  have old : ∀ i, i < S.length → (List.range S.length ++ [j])[i]? = some i := fun i hi => by
    rw [List.getElem?_append_left (by simpa using hi), List.getElem?_range hi]
  refine ⟨by simp, ?_, by simp, old, fun i ob q => ?_⟩
  · rw [List.nodup_append]
    refine ⟨List.nodup_range, by simp, fun a ha b hb => ?_⟩
    have h1 := List.mem_range.mp ha
    have h2 : b = j := by simpa using hb
    omega
  · by_cases hi : i < S.length
    · rw [List.getElem?_append_left hi] at q
      have cq := clS_get c q
      exact ⟨i, old i hi, by rw [List.getElem?_append_left hi, O.ren_old old ob cq, q], O.cl_mono (by simp) ob cq⟩
    · rw [List.getElem?_append_right (by omega)] at q
      have hz : i - S.length = 0 := by
        cases hz : i - S.length with
        | zero => rfl
        | succ k => rw [hz] at q; simp at q
      rw [hz] at q
      simp at q
      subst q
      refine ⟨j, ?_, by rw [O.ren_old old o co, hj], O.cl_mono (by simp) o co⟩
      rw [List.getElem?_append_right (by simp; omega)]
      simp [hz]
theorem Refines.pure {n : Nat} {f q : F} (h : ∀ ds S, ds.length = n → clS S.length S = true → D.cl.all S.length ds = true → q ds S = .no ∨ ∃ d g, q ds S = .ok d S ∧ f ds S = .ok d (S ++ g) ∧ D.cl S.length d = true) : Refines n f q := fun ds S hl c ca => by
  rcases h ds S hl c ca with e | ⟨d, g, e1, e2, e3⟩
  · exact .inl e
  · exact .inr ⟨d, S, S ++ g, List.range S.length, e1, by rw [D.ren_id (range_getD _)]; exact e2, emb_drop (Nat.le_refl _) c, e3⟩
theorem Refines.new {n : Nat} {f q : F} (h : ∀ ds S, ds.length = n → clS S.length S = true → D.cl.all S.length ds = true → q ds S = .no ∨ ∃ o j g, q ds S = alloc o S ∧ f ds S = .ok (.ref j) (S ++ g) ∧ (S ++ g)[j]? = some o ∧ S.length ≤ j ∧ O.cl S.length o = true) : Refines n f q := fun ds S hl c ca => by
  rcases h ds S hl c ca with e | ⟨o, j, g, e1, e2, e3, e4, e5⟩
  · exact .inl e
  · refine .inr ⟨.ref S.length, S ++ [o], S ++ g, List.range S.length ++ [j], e1, ?_, emb_new c e5 e3 e4, ?_⟩
    · rw [e2]
      show R.ok (D.ref j) _ = R.ok (D.ref ((List.range S.length ++ [j]).getD S.length S.length)) _
      rw [List.getD_eq_getElem?_getD, List.getElem?_append_right (by simp)]
      simp
    · show decide (S.length < (S ++ [o]).length) = true
      simp
end M
namespace M
theorem compL_map {g : Gd} {f : D → S → R (Option D)} {s : S} {h : D → D} (hg : gdOk g s = true) : ∀ {xs : List D}, (∀ x ∈ xs, f x s = .ok (some (h x)) s) → compL g f xs s = .ok (xs.map h) s
  | [], _ => rfl
  | x :: xs, e => by
    show (f x s).bind _ = _
    rw [e x List.mem_cons_self, R.bind_ok, if_pos hg, compL_map hg fun y hy => e y (List.mem_cons_of_mem _ hy)]
    rfl
theorem comp_map {n : Nat} {it : IM} {tg : GM} {e : EM} {σ : St} {s : S} {xs : List D} {g : Gd} (h : D → D) (hi : it σ s = .ok (xs, g) s) (hl : xs.length ≤ SZ) (hg : gdOk g s = true) (he : ∀ x ∈ xs, compF n tg tYes e σ x s = .ok (some (h x)) s) : compE n it tg tYes e σ s = .ok (xs.map h) s := by
  unfold compE
  rw [hi, R.bind_ok, if_pos ⟨hl, hg⟩]
  exact compL_map hg he
theorem comp_range {n : Nat} {it : IM} {tg : GM} {e : EM} {σ : St} {s : S} {lo hi : Int} (h : Nat → D) (hit : it σ s = .ok (rangeD lo hi, []) s) (hl : (hi - lo).toNat ≤ SZ) (he : ∀ k : Nat, k < (hi - lo).toNat → compF n tg tYes e σ (.int (lo + k)) s = .ok (some (h k)) s) :
    compE n it tg tYes e σ s = .ok ((List.range (hi - lo).toNat).map h) s := by
  have := comp_map (n := n) (tg := tg) (e := e) (fun d => match d with | .int i => h (i - lo).toNat | d => d) hit (by simpa [rangeD] using hl) rfl fun x hx => by
    obtain ⟨k, hk, rfl⟩ := List.mem_map.mp hx
    have e : (lo + (k : Int) - lo).toNat = k := by omega
    rw [he k (List.mem_range.mp hk)]
    show R.ok (some (h k)) s = R.ok (some (h (lo + (k : Int) - lo).toNat)) s
    rw [e]
  rw [this]
  unfold rangeD
  rw [List.map_map]
  have e2 : ∀ k : Nat, (lo + (k : Int) - lo).toNat = k := fun k => by omega
  have e3 : ((fun d => match d with | .int i => h (i - lo).toNat | d => d) ∘ fun (k : Nat) => D.int (lo + k)) = h := by
    funext k
    show h (lo + (k : Int) - lo).toNat = h k
    rw [e2]
  rw [e3]
theorem bools_map {α : Type} (f : α → Bool) (xs : List α) : bools (xs.map fun x => .bl (f x)) = some (xs.map f) := by
  induction xs with
  | nil => rfl
  | cons x xs ih => show (bools (xs.map fun x => D.bl (f x))).map _ = _; rw [ih]; rfl
theorem any_map {α : Type} (f : α → Bool) (xs : List α) (s : S) : kAny (xs.map fun x => .bl (f x)) s = .ok (.bl (xs.any f)) s := by
  unfold kAny
  rw [bools_map]
  simp [List.any_map]
theorem cut_hi {α : Type} (xs : List α) {k : Int} (h : 0 ≤ k) : cut xs none (some k) = xs.take k.toNat := by
  unfold cut sIx
  have : ¬ k < 0 := by omega
  simp only [List.drop_zero, if_neg this, Nat.sub_zero]
  by_cases hk : k ≤ xs.length
  · rw [show (min k (xs.length : Int)).toNat = k.toNat by omega]
  · rw [List.take_of_length_le (by omega), List.take_of_length_le (by omega)]
theorem cut_lo {α : Type} (xs : List α) {k : Int} (h : 0 ≤ k) : cut xs (some k) none = xs.drop k.toNat := by
  unfold cut sIx
  have : ¬ k < 0 := by omega
  simp only [if_neg this]
  by_cases hk : k ≤ xs.length
  · rw [show (min k (xs.length : Int)).toNat = k.toNat by omega, List.take_of_length_le (by rw [List.length_drop]; omega)]
  · rw [List.drop_of_length_le (by omega), List.drop_of_length_le (by omega)]; simp
theorem texts_map {α : Type} (f : α → T) (xs : List α) : texts (xs.map fun x => .str (f x)) = some (xs.map f) := by
  induction xs with
  | nil => rfl
  | cons x xs ih => show (texts (xs.map fun x => D.str (f x))).map _ = _; rw [ih]; rfl
theorem texts_str (xs : List T) : texts (xs.map .str) = some xs := by
  have := texts_map (fun x : T => x) xs
  rwa [List.map_id'] at this
theorem joinT_flatten (xs : List T) : joinT [] xs = xs.flatten := by
  induction xs with
  | nil => rfl
  | cons x xs ih =>
    cases xs with
    | nil => simp [joinT]
    | cons y ys => show x ++ [] ++ joinT [] (y :: ys) = _; rw [ih]; simp
theorem flatten_ones {α β : Type} (f : α → β) (xs : List α) : (xs.map fun x => [f x]).flatten = xs.map f := by
  induction xs with
  | nil => rfl
  | cons x xs ih => rw [List.map_cons, List.flatten_cons, ih]; rfl
theorem sum_ones {α : Type} (f : α → Nat) (xs : List α) : ((xs.map fun x => [f x]).map List.length).sum = xs.length := by
  induction xs with
  | nil => rfl
  | cons x xs ih => rw [List.map_cons, List.map_cons, List.sum_cons, ih, List.length_cons]; show 1 + xs.length = xs.length + 1; omega
theorem join_ones {α : Type} (f : α → Nat) (xs : List α) (s : S) (h : xs.length ≤ SZ) : kJoin [] (xs.map fun x => .str [f x]) s = .ok (.str (xs.map f)) s := by
  unfold kJoin
  rw [texts_map]
  dsimp only
  rw [if_pos, joinT_flatten, flatten_ones]
  rw [sum_ones]
  simpa using h
theorem cl_strs (n : Nat) : ∀ ts : List T, D.cl.all n (ts.map .str) = true
  | [] => rfl
  | _ :: ts => by
    show (D.cl n (.str _) && D.cl.all n (ts.map .str)) = true
    rw [cl_strs n ts]; rfl
theorem mem_strs (x : T) : ∀ ts : List T, memF (.str x) (ts.map .str) = ts.contains x
  | [] => rfl
  | t :: ts => by
    have := mem_strs x ts
    unfold memF at this ⊢
    rw [List.map_cons, List.any_cons, this, List.contains_cons]
    simp [eqF, BEq.comm (a := t)]
theorem flat_strs (ts : List T) : (ts.map D.str).all flat = true := by
  rw [List.all_map]; exact List.all_eq_true.mpr fun _ _ => rfl
theorem atI_pos {α : Type} {xs : List α} {k : Int} (h0 : 0 ≤ k) (h : k < xs.length) (d : α) : atI xs k = some (xs.getD k.toNat d) := by
  unfold atI ixN
  rw [if_pos h0, if_pos h]
  have hk : k.toNat < xs.length := by omega
  simp [List.getD_eq_getElem?_getD, hk]
theorem app_get {S : M.S} {p : Nat} {o : O} (e : S[p]? = some o) (g : M.S) : (S ++ g)[p]? = some o := by
  rw [List.getElem?_append_left (List.getElem?_eq_some_iff.mp e).1]
  exact e
def keptT : List T := [[111, 102], [105, 102], [105, 115], [116, 104, 101, 110], [101, 108, 115, 101], [101, 97, 99, 104], [100, 111], [105, 116], [98, 97, 99, 107], [102, 105, 114, 115, 116], [114, 101, 115, 116], [99, 111, 117, 110, 116], [115, 111, 114, 116, 101, 100], [102, 97, 105, 108], [108, 105, 110, 101], [109, 111, 114, 101]]
def letterT (x : T) : Bool := !decide (x < [97]) && !decide ([122] < x)
def plainT (x : T) : Bool := decide (1 ≤ x.length) && decide (x.length ≤ 8) && !(keptT.contains x) && x.all fun c => letterT [c]
theorem comp_mapS {n : Nat} {it : IM} {tg : GM} {e : EM} {σ : St} {s s1 : S} {xs : List D} {g : Gd} (h : D → D) (hi : it σ s = .ok (xs, g) s1) (hl : xs.length ≤ SZ) (hg : gdOk g s1 = true) (he : ∀ x ∈ xs, compF n tg tYes e σ x s1 = .ok (some (h x)) s1) : compE n it tg tYes e σ s = .ok (xs.map h) s1 := by
  unfold compE
  rw [hi, R.bind_ok, if_pos ⟨hl, hg⟩]
  exact compL_map hg he
theorem gdOk_app {g : Gd} {s t : S} (h : gdOk g s = true) : gdOk g (s ++ t) = true := by
  unfold gdOk at h ⊢
  rw [List.all_eq_true] at h ⊢
  intro p hp
  exact decide_eq_true (app_get (of_decide_eq_true (h p hp)) t)
end M
namespace L2
open PySem PySem.Spec PyProof.Rows
def ofT (x : M.T) : Str := ⟨x.toArray⟩
theorem ofT_len (x : M.T) : (ofT x).length = x.length := by simp [ofT, Str.length]
theorem ofT_list (x : M.T) : (ofT x).cps.toList = x := by simp [ofT]
theorem ofT_inj {x y : M.T} (h : ofT x = ofT y) : x = y := by rw [← ofT_list x, h, ofT_list]
theorem ofT_app (x y : M.T) : ofT x ++ ofT y = ofT (x ++ y) := by
  show (⟨x.toArray ++ y.toArray⟩ : Str) = _
  simp [ofT]
abbrev okT (x : M.T) : Prop := x.all (fun c => decide (c < 1114112)) = true
theorem okT_app {x y : M.T} (h : okT x) (k : okT y) : okT (x ++ y) := by show (x ++ y).all _ = true; rw [List.all_append, h, k]; rfl
theorem okT_sub {x y : M.T} (h : okT x) (k : ∀ c ∈ y, c ∈ x) : okT y := List.all_eq_true.mpr fun c hc => List.all_eq_true.mp h c (k c hc)
theorem SZ_eq : M.SZ = sizeLine := by rw [sizeLine_eq]; rfl
def RolL (K : PySem.W.Frag) (H : Hp) (a : Addr) (xs : List V) : Prop :=
  (∃ o, H a = some (.frz o (.lst xs))) ∨
    ∃ (o : Obj) (its : Array Value) (n : Nat), K.lookup a = some o ∧ o.cls = .type "list" ∧ o.dict = none ∧ o.data = .seq its n ∧ its.size ≤ sizeLine ∧ Vals xs its.toList
theorem RolL.sq {K : PySem.W.Frag} {H : Hp} {a : Addr} {xs : List V} (h : RolL K H a xs) : SqL K H a xs := by
  rcases h with ⟨o, h⟩ | h
  · exact .inl (.inr ⟨o, h⟩)
  · exact .inr h
structure Le (H H' : Hp) : Prop where
  tups : ∀ b xs, H b = some (.tup xs) → H' b = some (.tup xs)
  frzs : ∀ b o u, H b = some (.frz o u) → H' b = some (.frz o u)
theorem Le.refl (H : Hp) : Le H H := ⟨fun _ _ h => h, fun _ _ _ h => h⟩
theorem Le.trans {H H1 H2 : Hp} (a : Le H H1) (b : Le H1 H2) : Le H H2 := ⟨fun c xs h => b.tups c xs (a.tups c xs h), fun c o u h => b.frzs c o u (a.frzs c o u h)⟩
theorem Le.new {H : Hp} {p : Addr} (h : H p = none) (o : HO) : Le H (upd H p o) :=
  ⟨fun b xs q => by rw [upd_ne (ne_of_none q h)]; exact q, fun b o u q => by rw [upd_ne (ne_of_none q h)]; exact q⟩
theorem Le.put {H : Hp} {p : Addr} (h : Mut (H p)) (o : HO) : Le H (upd H p o) :=
  ⟨fun b xs q => by rw [upd_ne (fun z => by subst z; rw [q] at h; exact h)]; exact q, fun b o u q => by rw [upd_ne (fun z => by subst z; rw [q] at h; exact h)]; exact q⟩
theorem Le.rol {K : PySem.W.Frag} {H H' : Hp} {a : Addr} {xs : List V} (e : Le H H') (h : RolL K H a xs) : RolL K H' a xs := by
  rcases h with ⟨o, h⟩ | h
  · exact .inl ⟨o, e.frzs _ _ _ h⟩
  · exact .inr h
theorem Le.sqT {K : PySem.W.Frag} {H H' : Hp} {a : Addr} {xs : List V} (e : Le H H') (h : SqT K H a xs) : SqT K H' a xs := by
  rcases h with (h | ⟨o, h⟩) | h
  · exact .inl (.inl (e.tups _ _ h))
  · exact .inl (.inr ⟨o, e.frzs _ _ _ h⟩)
  · exact .inr h
def kdName : M.Kd → String
  | .str => "str" | .int => "int" | .bool => "bool" | .list => "list" | .tuple => "tuple" | .dict => "dict"
def RelD (K : PySem.W.Frag) (ρ : List Addr) (H : Hp) : M.D → V → Prop
  | .non, v => v = .non
  | .bl b, v => v = .bl b
  | .int i, v => v = .int i
  | .str x, v => v = .str (ofT x) ∧ okT x
  | .ty n, v => v = .ty (kdName n)
  | .ref i, v => ∃ a, v = .ref a ∧ ρ[i]? = some a
  | .tup ds, v => ∃ a xs, v = .ref a ∧ SqT K H a xs ∧ all ds xs
  | .ro ds, v => ∃ a xs, v = .ref a ∧ RolL K H a xs ∧ all ds xs
where all : List M.D → List V → Prop
  | [], xs => xs = []
  | d :: ds, xs => ∃ y ys, xs = y :: ys ∧ RelD K ρ H d y ∧ all ds ys
abbrev RelDs (K : PySem.W.Frag) (ρ : List Addr) (H : Hp) : List M.D → List V → Prop := RelD.all K ρ H
theorem pre_get {ρ ρ' : List Addr} (h : ρ <+: ρ') {i : Nat} {a : Addr} (e : ρ[i]? = some a) : ρ'[i]? = some a := by
  obtain ⟨t, rfl⟩ := h
  rw [List.getElem?_append_left (List.getElem?_eq_some_iff.mp e).1]
  exact e
section
variable {K : PySem.W.Frag} {ρ ρ' : List Addr} {H H' : Hp}
mutual
theorem RelD.mono (hρ : ρ <+: ρ') (le : Le H H') : ∀ {d : M.D} {v : V}, RelD K ρ H d v → RelD K ρ' H' d v
  | .non, _, h => h
  | .bl _, _, h => h
  | .int _, _, h => h
  | .str _, _, h => h
  | .ty _, _, h => h
  | .ref _, _, ⟨a, e, h⟩ => ⟨a, e, pre_get hρ h⟩
  | .tup _, _, ⟨a, xs, e, h, r⟩ => ⟨a, xs, e, le.sqT h, RelDs.mono hρ le r⟩
  | .ro _, _, ⟨a, xs, e, h, r⟩ => ⟨a, xs, e, le.rol h, RelDs.mono hρ le r⟩
theorem RelDs.mono (hρ : ρ <+: ρ') (le : Le H H') : ∀ {ds : List M.D} {xs : List V}, RelDs K ρ H ds xs → RelDs K ρ' H' ds xs
  | [], _, h => h
  | _ :: _, _, ⟨y, ys, e, h, r⟩ => ⟨y, ys, e, RelD.mono hρ le h, RelDs.mono hρ le r⟩
end
theorem RelDs.length : ∀ {ds : List M.D} {xs : List V}, RelDs K ρ H ds xs → ds.length = xs.length
  | [], _, h => by cases h; rfl
  | _ :: _, _, ⟨_, _, e, _, r⟩ => by subst e; rw [List.length_cons, List.length_cons, RelDs.length r]
theorem RelDs.get : ∀ {ds : List M.D} {xs : List V} {i : Nat} {d : M.D}, RelDs K ρ H ds xs → ds[i]? = some d → ∃ v, xs[i]? = some v ∧ RelD K ρ H d v
  | [], _, _, _, _, e => by simp at e
  | _ :: _, _, 0, _, ⟨y, _, e1, h, _⟩, e => by subst e1; simp at e; subst e; exact ⟨y, rfl, h⟩
  | _ :: _, _, i + 1, d, ⟨_, ys, e1, _, r⟩, e => by
    subst e1
    obtain ⟨v, h1, h2⟩ := RelDs.get (i := i) (d := d) r (by simpa using e)
    exact ⟨v, by simpa using h1, h2⟩
theorem RelDs.app : ∀ {ds es : List M.D} {xs ys : List V}, RelDs K ρ H ds xs → RelDs K ρ H es ys → RelDs K ρ H (ds ++ es) (xs ++ ys)
  | [], _, _, _, h, k => by cases h; exact k
  | _ :: _, _, _, _, ⟨y, ys, e, h, r⟩, k => by subst e; exact ⟨y, _, rfl, h, RelDs.app r k⟩
theorem RelDs.take : ∀ {ds : List M.D} {xs : List V} (n : Nat), RelDs K ρ H ds xs → RelDs K ρ H (ds.take n) (xs.take n)
  | _, _, 0, _ => rfl
  | [], _, _ + 1, h => by cases h; rfl
  | _ :: _, _, n + 1, ⟨y, ys, e, h, r⟩ => by subst e; exact ⟨y, _, rfl, h, RelDs.take n r⟩
theorem RelDs.drop : ∀ {ds : List M.D} {xs : List V} (n : Nat), RelDs K ρ H ds xs → RelDs K ρ H (ds.drop n) (xs.drop n)
  | _, _, 0, h => h
  | [], _, _ + 1, h => by cases h; rfl
  | _ :: _, _, n + 1, ⟨y, ys, e, h, r⟩ => by subst e; exact RelDs.drop n r
theorem RelDs.rev {ds : List M.D} {xs : List V} (h : RelDs K ρ H ds xs) : RelDs K ρ H ds.reverse xs.reverse := by
  induction ds generalizing xs with
  | nil => cases h; rfl
  | cons d ds ih =>
    obtain ⟨y, ys, e, h1, r⟩ := h
    subst e
    rw [List.reverse_cons, List.reverse_cons]
    exact (ih r).app ⟨y, [], rfl, h1, rfl⟩
theorem RelDs.dropLast {ds : List M.D} {xs : List V} (h : RelDs K ρ H ds xs) : RelDs K ρ H ds.dropLast xs.dropLast := by
  rw [List.dropLast_eq_take, List.dropLast_eq_take, h.length]
  exact h.take _
end
section
variable {K : PySem.W.Frag} {ρ ρ' : List Addr} {H H' : Hp} {ds es : List M.D} {xs ys : List V}
theorem RelD.all.mono (h : RelD.all K ρ H ds xs) (hρ : ρ <+: ρ') (le : Le H H') : RelD.all K ρ' H' ds xs := RelDs.mono hρ le h
theorem RelD.all.length (h : RelD.all K ρ H ds xs) : ds.length = xs.length := RelDs.length h
theorem RelD.all.app (h : RelD.all K ρ H ds xs) (k : RelD.all K ρ H es ys) : RelD.all K ρ H (ds ++ es) (xs ++ ys) := RelDs.app h k
end
def KeyR : M.D → Key → Prop
  | .int i, k => k = .inl i
  | .str x, k => k = .inr (ofT x) ∧ okT x
  | _, _ => False
abbrev Tab := Nat → Option (Addr × List Str)
structure InsR (K : PySem.W.Frag) (ρ : List Addr) (H : Hp) (N : List Str) (fs : List (Option M.D)) (gs : List (Str × V)) : Prop where
  len : fs.length = N.length
  nd : (gs.map (·.1)).Nodup
  within : ∀ f ∈ gs.map (·.1), f ∈ N
  get : ∀ (i : Nat) (f : Str) (d : M.D), N[i]? = some f → fs[i]? = some (some d) → ∃ v, gs.lookup f = some v ∧ RelD K ρ H d v
def ObR (K : PySem.W.Frag) (Θ : Tab) (ρ : List Addr) (H : Hp) (a : Addr) : M.O → Prop
  | .lst ds => ∃ xs, H a = some (.lst xs) ∧ RelDs K ρ H ds xs
  | .dct kvs => ∃ ks, H a = some (.dK ks) ∧ Paired (fun (p : M.D × M.D) (q : Key × V) => KeyR p.1 q.1 ∧ RelD K ρ H p.2 q.2) kvs ks
  | .ins c fs => ∃ C dx gs N, H a = some (.ins C dx gs) ∧ Θ c = some (C, N) ∧ InsR K ρ H N fs gs
structure RepS (K : PySem.W.Frag) (Θ : Tab) (ρ : List Addr) (S : M.S) (H : Hp) : Prop where
  len : ρ.length = S.length
  nd : ρ.Nodup
  obj : ∀ (i : Nat) (o : M.O), S[i]? = some o → ∃ a, ρ[i]? = some a ∧ ObR K Θ ρ H a o
structure RelSt (K : PySem.W.Frag) (ρ : List Addr) (H : Hp) (σ' : M.St) (σ : St) : Prop where
  len : σ'.length = σ.length
  get : ∀ (i : Nat) (d : M.D), σ'[i]? = some (some d) → ∃ v, σ[i]? = some (some v) ∧ RelD K ρ H d v
section
variable {K : PySem.W.Frag} {Θ : Tab} {ρ ρ' : List Addr} {H H' : Hp} {S : M.S}
theorem RelSt.mono {σ' : M.St} {σ : St} (h : RelSt K ρ H σ' σ) (hρ : ρ <+: ρ') (le : Le H H') : RelSt K ρ' H' σ' σ :=
  ⟨h.len, fun i d e => let ⟨v, h1, h2⟩ := h.get i d e; ⟨v, h1, h2.mono hρ le⟩⟩
theorem RelSt.set {σ' : M.St} {σ : St} {d : M.D} {v : V} (h : RelSt K ρ H σ' σ) (hd : RelD K ρ H d v) (i : Nat) : RelSt K ρ H (σ'.set i (some d)) (σ.set i (some v)) := by
  refine ⟨by rw [List.length_set, List.length_set, h.len], fun j e q => ?_⟩
  by_cases hj : i = j
  · subst hj
    by_cases hl : i < σ'.length
    · rw [List.getElem?_set_self hl] at q
      cases q
      exact ⟨v, by rw [List.getElem?_set_self (h.len ▸ hl)], hd⟩
    · rw [List.getElem?_eq_none (by rw [List.length_set]; omega)] at q
      cases q
  · rw [List.getElem?_set_ne hj] at q
    rw [List.getElem?_set_ne hj]
    exact h.get j e q
theorem RelSt.more {σ' : M.St} {σ : St} (h : RelSt K ρ H σ' σ) (n : Nat) : RelSt K ρ H (σ' ++ List.replicate n none) (σ ++ List.replicate n none) := by
  refine ⟨by simp [h.len], fun i d q => ?_⟩
  by_cases hl : i < σ'.length
  · rw [List.getElem?_append_left hl] at q
    rw [List.getElem?_append_left (h.len ▸ hl)]
    exact h.get i d q
  · rw [List.getElem?_append_right (by omega), List.getElem?_replicate] at q
    split at q <;> cases q
theorem RepS.tracked (h : RepS K Θ ρ S H) {a : Addr} (m : a ∈ ρ) : ∃ o, H a = some o := by
  obtain ⟨i, hi, e⟩ := List.mem_iff_getElem.mp m
  have hl : i < S.length := h.len ▸ hi
  obtain ⟨a', e1, r⟩ := h.obj i S[i] (by simp [hl])
  rw [List.getElem?_eq_getElem hi, e] at e1
  cases e1
  cases q : S[i] with
  | lst ds => rw [q] at r; obtain ⟨xs, e2, _⟩ := r; exact ⟨_, e2⟩
  | dct kvs => rw [q] at r; obtain ⟨xs, e2, _⟩ := r; exact ⟨_, e2⟩
  | ins c fs => rw [q] at r; obtain ⟨_, _, _, _, e2, _⟩ := r; exact ⟨_, e2⟩
theorem RepS.fresh (h : RepS K Θ ρ S H) {p : Addr} (hp : H p = none) : p ∉ ρ := fun m => by
  obtain ⟨o, e⟩ := h.tracked m
  rw [hp] at e; cases e
theorem ObR.stay {a : Addr} {o : M.O} (h : ObR K Θ ρ H a o) (hρ : ρ <+: ρ') (le : Le H H') (e : H' a = H a) : ObR K Θ ρ' H' a o := by
  cases o with
  | lst ds => obtain ⟨xs, e1, r⟩ := h; exact ⟨xs, e.trans e1, r.mono hρ le⟩
  | dct kvs => obtain ⟨ks, e1, r⟩ := h; exact ⟨ks, e.trans e1, Paired.mapP r fun p q z => ⟨z.1, z.2.mono hρ le⟩⟩
  | ins c fs =>
    obtain ⟨C, dx, gs, N, e1, e2, r⟩ := h
    exact ⟨C, dx, gs, N, e.trans e1, e2, r.len, r.nd, r.within, fun i f d h1 h2 => let ⟨v, k1, k2⟩ := r.get i f d h1 h2; ⟨v, k1, k2.mono hρ le⟩⟩
theorem RepS.stay (h : RepS K Θ ρ S H) (le : Le H H') (e : ∀ a ∈ ρ, H' a = H a) : RepS K Θ ρ S H' :=
  ⟨h.len, h.nd, fun i o q => let ⟨a, h1, h2⟩ := h.obj i o q; ⟨a, h1, h2.stay (List.prefix_refl _) le (e a (List.mem_of_getElem? h1))⟩⟩
theorem RepS.aside (h : RepS K Θ ρ S H) {p : Addr} (hp : H p = none) (o : HO) : RepS K Θ ρ S (upd H p o) :=
  h.stay (Le.new hp o) fun a m => upd_ne (fun z => h.fresh hp (z ▸ m))
theorem RepS.alloc (h : RepS K Θ ρ S H) {p : Addr} (hp : H p = none) {o : M.O} {u : HO} (r : ObR K Θ (ρ ++ [p]) (upd H p u) p o) : RepS K Θ (ρ ++ [p]) (S ++ [o]) (upd H p u) := by
  refine ⟨by simp [h.len], ?_, fun i ob q => ?_⟩
  · rw [List.nodup_append]
    refine ⟨h.nd, by simp, fun a ha b hb => ?_⟩
    have hb' : b = p := by simpa using hb
    rw [hb']
    exact fun z => h.fresh hp (z ▸ ha)
  · by_cases hl : i < S.length
    · rw [List.getElem?_append_left hl] at q
      obtain ⟨a, h1, h2⟩ := h.obj i ob q
      refine ⟨a, pre_get (List.prefix_append _ _) h1, h2.stay (List.prefix_append _ _) (Le.new hp u) (upd_ne fun z => h.fresh hp (z ▸ List.mem_of_getElem? h1))⟩
    · rw [List.getElem?_append_right (by omega)] at q
      have hi : i - S.length = 0 := by
        cases hz : i - S.length with
        | zero => rfl
        | succ k => rw [hz] at q; simp at q
      rw [hi] at q
      simp at q
      subst q
      refine ⟨p, ?_, r⟩
      rw [List.getElem?_append_right (by rw [h.len]; omega), h.len, hi]
      rfl
theorem nodup_at {α : Type} {ρ : List α} (hN : ρ.Nodup) {i j : Nat} {x : α} (a : ρ[i]? = some x) (b : ρ[j]? = some x) : i = j := by
  induction ρ generalizing i j with
  | nil => simp at a
  | cons y r ih =>
    rw [List.nodup_cons] at hN
    cases i with
    | zero =>
      cases j with
      | zero => rfl
      | succ j =>
        simp at a b
        subst a
        exact absurd (List.mem_of_getElem? b) hN.1
    | succ i =>
      cases j with
      | zero =>
        simp at a b
        subst b
        exact absurd (List.mem_of_getElem? a) hN.1
      | succ j =>
        simp at a b
        rw [ih hN.2 a b]
theorem nodup_of {α : Type} {l : List α} (h : ∀ (i j : Nat) x, l[i]? = some x → l[j]? = some x → i = j) : l.Nodup := by
  induction l with
  | nil => exact List.nodup_nil
  | cons y r ih =>
    refine List.nodup_cons.mpr ⟨fun m => ?_, ih fun i j x a b => ?_⟩
    · obtain ⟨j, hj, e⟩ := List.mem_iff_getElem.mp m
      have := h 0 (j + 1) y (by simp) (by simp [e, hj])
      omega
    · have := h (i + 1) (j + 1) x (by simpa using a) (by simpa using b)
      omega
theorem nodup_get {α : Type} {l : List α} (hN : l.Nodup) {i j : Nat} (hi : i < l.length) (hj : j < l.length) (e : l[i] = l[j]) : i = j :=
  nodup_at hN (x := l[i]) (by simp [hi]) (by rw [e]; simp [hj])
theorem RepS.put (h : RepS K Θ ρ S H) {i : Nat} {a : Addr} (ha : ρ[i]? = some a) {o : M.O} {u : HO} (mu : Mut (H a)) (r : ObR K Θ ρ (upd H a u) a o) : RepS K Θ ρ (S.set i o) (upd H a u) := by
  refine ⟨by simp [h.len], h.nd, fun j ob q => ?_⟩
  by_cases hj : i = j
  · subst hj
    by_cases hl : i < S.length
    · rw [List.getElem?_set_self hl] at q
      cases q
      exact ⟨a, ha, r⟩
    · rw [List.getElem?_eq_none (by rw [List.length_set]; omega)] at q
      cases q
  · rw [List.getElem?_set_ne hj] at q
    obtain ⟨b, h1, h2⟩ := h.obj j ob q
    refine ⟨b, h1, h2.stay (List.prefix_refl _) (Le.put mu u) (upd_ne fun z => ?_)⟩
    subst z
    exact hj (nodup_at h.nd ha h1)
end
def Post {α β : Type} (K : PySem.W.Frag) (Θ : Tab) (Rl : List Addr → Hp → α → β → Prop) (ρ : List Addr) (H : Hp) : M.R α → (β → Hp → Prop) → Prop
  | .ok a S', Q => ∀ ρ' H' b, ρ <+: ρ' → Le H H' → RepS K Θ ρ' S' H' → Rl ρ' H' a b → Q b H'
  | .exc _ _, _ => False
  | .no, _ => False
abbrev rB : List Addr → Hp → Bool → Bool → Prop := fun _ _ a b => a = b
abbrev rO : List Addr → Hp → Option Int → Option Int → Prop := fun _ _ a b => a = b
section
variable {K : PySem.W.Frag} {Θ : Tab} {ρ ρ' : List Addr} {H H' : Hp} {S : M.S} {α β γ δ : Type} {Rl : List Addr → Hp → α → β → Prop} {Rk : List Addr → Hp → γ → δ → Prop} {Q : β → Hp → Prop} {Q' : δ → Hp → Prop}
theorem Post.weak {r : M.R α} (h : Post K Θ Rl ρ H r Q) (hρ : ρ <+: ρ') (le : Le H H') : Post K Θ Rl ρ' H' r Q := by
  cases r with
  | ok a s => exact fun ρ2 H2 b p l => h ρ2 H2 b (hρ.trans p) (le.trans l)
  | exc e s => exact h
  | no => exact h
theorem Post.bind {r : M.R α} {f : α → M.S → M.R γ} (h : Post K Θ Rk ρ H (r.bind f) Q')
    (k : ∀ ρ' H' a b S', ρ <+: ρ' → Le H H' → RepS K Θ ρ' S' H' → Rl ρ' H' a b → Post K Θ Rk ρ' H' (f a S') Q' → Q b H') : Post K Θ Rl ρ H r Q := by
  cases r with
  | ok a s => exact fun ρ2 H2 b p l rp rl => k ρ2 H2 a b s p l rp rl (Post.weak h p l)
  | exc e s => exact h
  | no => exact h
theorem Post.here {a : α} {b : β} (h : Post K Θ Rl ρ H (.ok a S) Q) (rp : RepS K Θ ρ S H) (rl : Rl ρ H a b) : Q b H := h ρ H b (List.prefix_refl _) (Le.refl _) rp rl
end
def RdE (K : PySem.W.Frag) (Θ : Tab) (m : M.EM) : TE := fun σ H Q => ∃ ρ σ' S, RelSt K ρ H σ' σ ∧ RepS K Θ ρ S H ∧ Post K Θ (RelD K) ρ H (m σ' S) Q
def RdT (K : PySem.W.Frag) (Θ : Tab) (m : M.TM) : TT := fun σ H Q => ∃ ρ σ' S, RelSt K ρ H σ' σ ∧ RepS K Θ ρ S H ∧ Post K Θ rB ρ H (m σ' S) Q
def RdA (K : PySem.W.Frag) (Θ : Tab) (m : M.AM) : TA := fun σ H Q => ∃ ρ σ' S, RelSt K ρ H σ' σ ∧ RepS K Θ ρ S H ∧ Post K Θ (RelDs K) ρ H (m σ' S) Q
def RdO (K : PySem.W.Frag) (Θ : Tab) (m : M.OM) : TO := fun σ H Q => ∃ ρ σ' S, RelSt K ρ H σ' σ ∧ RepS K Θ ρ S H ∧ Post K Θ rO ρ H (m σ' S) Q
abbrev ME (X : Cx) (Θ : Tab) (e : Expr) (m : M.EM) : Prop := PE X e (RdE X.K Θ m)
@[irreducible] def WE (X : Cx) (Θ : Tab) (e : Expr) (m : M.EM) : Prop := ME X Θ e m
abbrev MT (X : Cx) (Θ : Tab) (e : Expr) (m : M.TM) : Prop := PT X e (RdT X.K Θ m)
@[irreducible] def WT (X : Cx) (Θ : Tab) (e : Expr) (m : M.TM) : Prop := MT X Θ e m
abbrev MW (X : Cx) (Θ : Tab) (e : Expr) (m : M.TM) : Prop := PW X e (RdT X.K Θ m)
@[irreducible] def WW (X : Cx) (Θ : Tab) (e : Expr) (m : M.TM) : Prop := MW X Θ e m
abbrev MA (X : Cx) (Θ : Tab) (es : List Expr) (m : M.AM) : Prop := PA X es (RdA X.K Θ m)
@[irreducible] def WA (X : Cx) (Θ : Tab) (es : List Expr) (m : M.AM) : Prop := MA X Θ es m
abbrev MO (X : Cx) (Θ : Tab) (e : Option Expr) (m : M.OM) : Prop := PO X e (RdO X.K Θ m)
@[irreducible] def WO (X : Cx) (Θ : Tab) (e : Option Expr) (m : M.OM) : Prop := MO X Θ e m
theorem PE.imp {X : Cx} {e : Expr} {t t' : TE} (h : PE X e t) (i : ∀ σ H Q, t' σ H Q → t σ H Q) : PE X e t' := fun pins s σ H Q I q => h pins s σ H Q I (i σ H Q q)
theorem PT.imp {X : Cx} {e : Expr} {t t' : TT} (h : PT X e t) (i : ∀ σ H Q, t' σ H Q → t σ H Q) : PT X e t' := fun pins s σ H Q I q => h pins s σ H Q I (i σ H Q q)
theorem PW.imp {X : Cx} {e : Expr} {t t' : TT} (h : PW X e t) (i : ∀ σ H Q, t' σ H Q → t σ H Q) : PW X e t' := fun wh pins s σ H Q I q => h wh pins s σ H Q I (i σ H Q q)
theorem PA.imp {X : Cx} {es : List Expr} {t t' : TA} (h : PA X es t) (i : ∀ σ H Q, t' σ H Q → t σ H Q) : PA X es t' := fun pos pins s σ H Q I q => h pos pins s σ H Q I (i σ H Q q)
theorem PO.imp {X : Cx} {e : Option Expr} {t t' : TO} (h : PO X e t) (i : ∀ σ H Q, t' σ H Q → t σ H Q) : PO X e t' := fun pins s σ H Q I q => h pins s σ H Q I (i σ H Q q)
def notStar : Expr → Bool
  | .Starred _ _ => false
  | _ => true
theorem star_cons {e : Expr} {es : List Expr} {env : Env} (h : notStar e = true) : starEach (e :: es) env = (false, eval e env) :: starEach es env := by
  cases e <;> first | rfl | cases h
theorem star_any {env : Env} {pos : Pos} : ∀ {es : List Expr}, es.all notStar = true → (backTo pos (starEach es env)).any (·.1) = false
  | [], _ => rfl
  | e :: es, h => by
    rw [List.all_cons, Bool.and_eq_true] at h
    rw [star_cons h.1]
    show (false || (backTo pos (starEach es env)).any (·.1)) = false
    rw [star_any h.2]; rfl
theorem star_all {env : Env} {pos : Pos} : ∀ {es : List Expr}, es.all notStar = true → (backTo pos (starEach es env)).all (fun x => !x.1) = true
  | [], _ => rfl
  | e :: es, h => by
    rw [List.all_cons, Bool.and_eq_true] at h
    rw [star_cons h.1]
    show (true && (backTo pos (starEach es env)).all (fun x => !x.1)) = true
    rw [star_all h.2]; rfl
theorem star_few {env : Env} {pos : Pos} {es : List Expr} (h : es.all notStar = true) (hl : es.length < 30) : ((backTo pos (starEach es env)).all (fun x => !x.1) && (backToKw pos (keywordEach [] env)).all (fun x => x.1.isSome)
    && decide (es.length + ([] : List Keyword).length + (if ([] : List Keyword).isEmpty then 0 else 1) < 30)) = true := by
  rw [star_all h, Bool.true_and, Bool.and_eq_true]
  exact ⟨rfl, decide_eq_true (by simpa using hl)⟩
section
variable {X : Cx} {Θ : Tab} {a b c : Expr} {pos : Pos} {ma mb mc : M.EM} {ta tb : M.TM} {rest : List Expr}
theorem me_var (i : Nat) {x : Str} (hN : X.N[i]? = some x := by rfl) (hv : Vis X.env.scope x := by first | exact Or.inl rfl | exact Or.inr (Or.inl rfl) | exact Or.inr (Or.inr rfl)) (hd : (x == ("__debug__" : Str)) = false := by decide)
    (hcd : (x == ("__classdict__" : Str)) = false := by decide) : ME X Θ (.Name x pos) (M.eVar i) := (pe_var hN hv hd hcd).imp fun σ H Q ⟨ρ, σ', S, st, rp, h⟩ => by
  unfold M.eVar at h
  split at h
  · rename_i d e
    obtain ⟨v, e1, r⟩ := st.get i d e
    exact ⟨v, e1, h.here rp r⟩
  · exact h.elim
theorem w_me_var (i : Nat) {x : Str} (hN : X.N[i]? = some x := by rfl) (hv : Vis X.env.scope x := by first | exact Or.inl rfl | exact Or.inr (Or.inl rfl) | exact Or.inr (Or.inr rfl)) (hd : (x == ("__debug__" : Str)) = false := by decide)
    (hcd : (x == ("__classdict__" : Str)) = false := by decide) : WE X Θ (.Name x pos) (M.eVar i) := by with_unfolding_all exact me_var i (x := x) hN hv hd hcd
theorem me_of {e : Expr} {v : V} {d : M.D} (h : PE X e (tC v)) (r : ∀ ρ H, RelD X.K ρ H d v) : ME X Θ e (M.eC d) := h.imp fun σ H Q ⟨ρ, σ', S, st, rp, h⟩ => h.here rp (r ρ H)
theorem me_int {i : Int} {j : Nat} : ME X Θ (.Constant (.int i) j pos) (M.eC (.int i)) := me_of pe_int fun _ _ => rfl
theorem w_me_int {i : Int} {j : Nat} : WE X Θ (.Constant (.int i) j pos) (M.eC (.int i)) := by with_unfolding_all exact me_int (i := i) (j := j)
theorem me_bl {k : Bool} {j : Nat} : ME X Θ (.Constant (.bool k) j pos) (M.eC (.bl k)) := me_of pe_bl fun _ _ => rfl
theorem w_me_bl {k : Bool} {j : Nat} : WE X Θ (.Constant (.bool k) j pos) (M.eC (.bl k)) := by with_unfolding_all exact me_bl (k := k) (j := j)
theorem me_str {y : M.T} {x : Str} {j : Nat} (h : x = ofT y) (ok : okT y) : ME X Θ (.Constant (.str x) j pos) (M.eC (.str y)) := me_of pe_str fun _ _ => by rw [h]; exact ⟨rfl, ok⟩
theorem w_me_str {y : M.T} {x : Str} {j : Nat} (h : x = ofT y) (ok : okT y) : WE X Θ (.Constant (.str x) j pos) (M.eC (.str y)) := by with_unfolding_all exact me_str (y := y) (x := x) (j := j) h ok
theorem me_ty (n : M.Kd) {x : Str} (hg : Gl X x) (hm : X.mg x = none) (hv : bootBuiltins x = some (.type (kdName n))) (hn : x ≠ "__name__" := by decide) (hd : (x == ("__debug__" : Str)) = false := by decide) : ME X Θ (.Name x pos) (M.eC (.ty n)) :=
  me_of (pe_bltn (v := .ty (kdName n)) hg hm hv rfl hn hd) fun _ _ => rfl
theorem w_me_ty (n : M.Kd) {x : Str} (hg : Gl X x) (hm : X.mg x = none) (hv : bootBuiltins x = some (.type (kdName n))) (hn : x ≠ "__name__" := by decide) (hd : (x == ("__debug__" : Str)) = false := by decide) : WE X Θ (.Name x pos) (M.eC (.ty n)) := by with_unfolding_all exact me_ty n (x := x) hg hm hv hn hd
def Ad2 (K : PySem.W.Frag) (Θ : Tab) (f : M.D → M.D → M.S → M.R M.D) (r : R2) : Prop := ∀ ρ H S x y X Y Q, RepS K Θ ρ S H → RelD K ρ H x X → RelD K ρ H y Y → Post K Θ (RelD K) ρ H (f x y S) Q → r X Y H Q
def AdC (K : PySem.W.Frag) (Θ : Tab) (f : M.CM) (r : R2) : Prop := ∀ ρ H S x y X Y (Q : VK), RepS K Θ ρ S H → RelD K ρ H x X → RelD K ρ H y Y → Post K Θ rB ρ H (f x y S) (fun b H' => Q (.bl b) H') → r X Y H Q
def Ad1 (K : PySem.W.Frag) (Θ : Tab) (f : M.D → M.S → M.R M.D) (r : V → Hp → VK → Prop) : Prop := ∀ ρ H S x X Q, RepS K Θ ρ S H → RelD K ρ H x X → Post K Θ (RelD K) ρ H (f x S) Q → r X H Q
def AdN (K : PySem.W.Frag) (Θ : Tab) (f : M.F) (r : List V → Hp → VK → Prop) : Prop := ∀ ρ H S xs Xs Q, RepS K Θ ρ S H → RelDs K ρ H xs Xs → Post K Θ (RelD K) ρ H (f xs S) Q → r Xs H Q
def AdM (K : PySem.W.Frag) (Θ : Tab) (f : M.D → M.F) (r : V → List V → Hp → VK → Prop) : Prop :=
  ∀ ρ H S x xs X Xs Q, RepS K Θ ρ S H → RelD K ρ H x X → RelDs K ρ H xs Xs → Post K Θ (RelD K) ρ H (f x xs S) Q → r X Xs H Q
theorem me_op {op : Operator} {f : M.D → M.D → M.S → M.R M.D} {r : R2} (ho : OpR X (binaryOp op) r) (ad : Ad2 X.K Θ f r) (ha : ME X Θ a ma) (hb : ME X Θ b mb) : ME X Θ (.BinOp a op b pos) (M.eOp f ma mb) :=
  (pe_op ho ha hb).imp fun σ H Q ⟨ρ, σ', S, st, rp, h⟩ => ⟨ρ, σ', S, st, rp, Post.bind h fun ρ1 H1 x X1 S1 p1 l1 rp1 rx h1 => ⟨ρ1, σ', S1, st.mono p1 l1, rp1,
    Post.bind h1 fun ρ2 H2 y Y S2 p2 l2 rp2 ry h2 => ad ρ2 H2 S2 x y X1 Y Q rp2 (rx.mono p2 l2) ry h2⟩⟩
theorem w_me_op {op : Operator} {f : M.D → M.D → M.S → M.R M.D} {r : R2} (ho : OpR X (binaryOp op) r) (ad : Ad2 X.K Θ f r) (ha : WE X Θ a ma) (hb : WE X Θ b mb) : WE X Θ (.BinOp a op b pos) (M.eOp f ma mb) := by with_unfolding_all exact me_op (op := op) (f := f) (r := r) ho ad ha hb
def plainB : Expr → Bool
  | .Slice _ _ _ _ => false
  | .Tuple _ _ _ => false
  | _ => true
theorem plain_of {b : Expr} (h : plainB b = true) : PlainIx b := fun o i => by
  cases b <;> first | rfl | cases h
theorem me_ix {f : M.D → M.D → M.S → M.R M.D} {r : R2} (ho : IxR X r) (ad : Ad2 X.K Θ f r) (ha : ME X Θ a ma) (hb : ME X Θ b mb) (hs : plainB b = true := by rfl) : ME X Θ (.Subscript a b pos) (M.eOp f ma mb) :=
  (pe_ix ho ha hb (plain_of hs)).imp fun σ H Q ⟨ρ, σ', S, st, rp, h⟩ => ⟨ρ, σ', S, st, rp, Post.bind h fun ρ1 H1 x X1 S1 p1 l1 rp1 rx h1 => ⟨ρ1, σ', S1, st.mono p1 l1, rp1,
    Post.bind h1 fun ρ2 H2 y Y S2 p2 l2 rp2 ry h2 => ad ρ2 H2 S2 x y X1 Y Q rp2 (rx.mono p2 l2) ry h2⟩⟩
theorem w_me_ix {f : M.D → M.D → M.S → M.R M.D} {r : R2} (ho : IxR X r) (ad : Ad2 X.K Θ f r) (ha : WE X Θ a ma) (hb : WE X Θ b mb) (hs : plainB b = true := by rfl) : WE X Θ (.Subscript a b pos) (M.eOp f ma mb) := by with_unfolding_all exact me_ix (f := f) (r := r) ho ad ha hb hs
theorem me_un {op : UnaryOp} {f : M.D → M.S → M.R M.D} {r : V → Hp → VK → Prop} (ho : UnR X (unaryOp op) r) (ad : Ad1 X.K Θ f r) (ha : ME X Θ a ma) : ME X Θ (.UnaryOp op a pos) (M.eUn f ma) :=
  (pe_un ho ha).imp fun σ H Q ⟨ρ, σ', S, st, rp, h⟩ => ⟨ρ, σ', S, st, rp, Post.bind h fun ρ1 H1 x X1 S1 p1 l1 rp1 rx h1 => ad ρ1 H1 S1 x X1 Q rp1 rx h1⟩
theorem w_me_un {op : UnaryOp} {f : M.D → M.S → M.R M.D} {r : V → Hp → VK → Prop} (ho : UnR X (unaryOp op) r) (ad : Ad1 X.K Θ f r) (ha : WE X Θ a ma) : WE X Θ (.UnaryOp op a pos) (M.eUn f ma) := by with_unfolding_all exact me_un (op := op) (f := f) (r := r) ho ad ha
theorem me_cmp {op : CmpOp} {f : M.CM} {r : R2} (ho : OpR X (compareOp op) r) (ad : AdC X.K Θ f r) (ha : ME X Θ a ma) (hb : ME X Θ b mb) (hm : behindInMarks op b = false) : ME X Θ (.Compare a [op] [b] pos) (M.eCmp f ma mb) :=
  (pe_cmpR ho ha hb hm).imp fun σ H Q ⟨ρ, σ', S, st, rp, h⟩ => ⟨ρ, σ', S, st, rp, Post.bind h fun ρ1 H1 x X1 S1 p1 l1 rp1 rx h1 => ⟨ρ1, σ', S1, st.mono p1 l1, rp1,
    Post.bind h1 fun ρ2 H2 y Y S2 p2 l2 rp2 ry h2 => ad ρ2 H2 S2 x y X1 Y Q rp2 (rx.mono p2 l2) ry (Post.bind h2 fun ρ3 H3 k k' S3 p3 l3 rp3 e h3 => by cases e; exact h3.here rp3 rfl)⟩⟩
theorem w_me_cmp {op : CmpOp} {f : M.CM} {r : R2} (ho : OpR X (compareOp op) r) (ad : AdC X.K Θ f r) (ha : WE X Θ a ma) (hb : WE X Θ b mb) (hm : behindInMarks op b = false) : WE X Θ (.Compare a [op] [b] pos) (M.eCmp f ma mb) := by with_unfolding_all exact me_cmp (op := op) (f := f) (r := r) ho ad ha hb hm
theorem mt_cmp {op : CmpOp} {f : M.CM} {r : R2} (ho : OpR X (compareOp op) r) (ad : AdC X.K Θ f r) (ha : ME X Θ a ma) (hb : ME X Θ b mb) (hm : behindInMarks op b = false) : MT X Θ (.Compare a [op] [b] pos) (M.tCmp f ma mb) :=
  (pt_cmpR ho ha hb hm).imp fun σ H Q ⟨ρ, σ', S, st, rp, h⟩ => ⟨ρ, σ', S, st, rp, Post.bind h fun ρ1 H1 x X1 S1 p1 l1 rp1 rx h1 => ⟨ρ1, σ', S1, st.mono p1 l1, rp1,
    Post.bind h1 fun ρ2 H2 y Y S2 p2 l2 rp2 ry h2 => ad ρ2 H2 S2 x y X1 Y _ rp2 (rx.mono p2 l2) ry (by
      revert h2
      cases f x y S2 with
      | ok k s => exact fun h2 ρ3 H3 k' p3 l3 rp3 e => ⟨k', rfl, h2 ρ3 H3 k' p3 l3 rp3 e⟩
      | exc e s => exact fun h2 => h2
      | no => exact fun h2 => h2)⟩⟩
theorem w_mt_cmp {op : CmpOp} {f : M.CM} {r : R2} (ho : OpR X (compareOp op) r) (ad : AdC X.K Θ f r) (ha : WE X Θ a ma) (hb : WE X Θ b mb) (hm : behindInMarks op b = false) : WT X Θ (.Compare a [op] [b] pos) (M.tCmp f ma mb) := by with_unfolding_all exact mt_cmp (op := op) (f := f) (r := r) ho ad ha hb hm
theorem mw_one_and (ha : MT X Θ a ta) : MW X Θ (.BoolOp .And [a] pos) ta := pw_and1 ha
theorem w_mw_one_and (ha : WT X Θ a ta) : WW X Θ (.BoolOp .And [a] pos) ta := by with_unfolding_all exact mw_one_and ha
theorem mw_one_or (ha : MT X Θ a ta) : MW X Θ (.BoolOp .Or [a] pos) ta := pw_or1 ha
theorem w_mw_one_or (ha : WT X Θ a ta) : WW X Θ (.BoolOp .Or [a] pos) ta := by with_unfolding_all exact mw_one_or ha
theorem mw_and (ha : MT X Θ a ta) (hb : MW X Θ (.BoolOp .And (b :: rest) pos) tb) : MW X Θ (.BoolOp .And (a :: b :: rest) pos) (M.tAnd ta tb) :=
  (pw_and ha hb).imp fun σ H Q ⟨ρ, σ', S, st, rp, h⟩ => ⟨ρ, σ', S, st, rp, Post.bind h fun ρ1 H1 k k' S1 p1 l1 rp1 e h1 => by
    cases e
    cases k with
    | true => exact iteT ⟨ρ1, σ', S1, st.mono p1 l1, rp1, h1⟩
    | false => exact iteF (Post.here (b := false) h1 rp1 rfl)⟩
theorem w_mw_and (ha : WT X Θ a ta) (hb : WW X Θ (.BoolOp .And (b :: rest) pos) tb) : WW X Θ (.BoolOp .And (a :: b :: rest) pos) (M.tAnd ta tb) := by with_unfolding_all exact mw_and ha hb
theorem mw_or (ha : MT X Θ a ta) (hb : MW X Θ (.BoolOp .Or (b :: rest) pos) tb) : MW X Θ (.BoolOp .Or (a :: b :: rest) pos) (M.tOr ta tb) :=
  (pw_or ha hb).imp fun σ H Q ⟨ρ, σ', S, st, rp, h⟩ => ⟨ρ, σ', S, st, rp, Post.bind h fun ρ1 H1 k k' S1 p1 l1 rp1 e h1 => by
    cases e
    cases k with
    | true => exact iteT (Post.here (b := true) h1 rp1 rfl)
    | false => exact iteF ⟨ρ1, σ', S1, st.mono p1 l1, rp1, h1⟩⟩
theorem w_mw_or (ha : WT X Θ a ta) (hb : WW X Θ (.BoolOp .Or (b :: rest) pos) tb) : WW X Θ (.BoolOp .Or (a :: b :: rest) pos) (M.tOr ta tb) := by with_unfolding_all exact mw_or ha hb
theorem mt_not (ha : MT X Θ a ta) : MT X Θ (.UnaryOp .Not a pos) (M.tNot ta) := (pt_not ha).imp fun σ H Q ⟨ρ, σ', S, st, rp, h⟩ => ⟨ρ, σ', S, st, rp, Post.bind h fun ρ1 H1 k k' S1 p1 l1 rp1 e h1 => by
  cases e; exact Post.here (b := !k) h1 rp1 rfl⟩
theorem w_mt_not (ha : WT X Θ a ta) : WT X Θ (.UnaryOp .Not a pos) (M.tNot ta) := by with_unfolding_all exact mt_not ha
theorem me_one {op} (ha : ME X Θ a ma) : ME X Θ (.BoolOp op [a] pos) ma := pe_one ha
theorem w_me_one {op} (ha : WE X Θ a ma) : WE X Θ (.BoolOp op [a] pos) ma := by with_unfolding_all exact me_one (op := op) ha
theorem asB_bl {K : PySem.W.Frag} {γ δ : Type} {Rk : List Addr → Hp → γ → δ → Prop} {ρ : List Addr} {H : Hp} {x : M.D} {v : V} {S : M.S} {f : Bool → M.S → M.R γ} {Q : δ → Hp → Prop} (r : RelD K ρ H x v) (h : Post K Θ Rk ρ H ((M.asB x S).bind f) Q) : ∃ k, v = .bl k ∧ Post K Θ Rk ρ H (f k S) Q := by
  cases x with
  | bl b => cases r; exact ⟨b, rfl, h⟩
  | _ => exact h.elim
theorem me_and (ha : ME X Θ a ma) (hb : ME X Θ (.BoolOp .And (b :: rest) pos) mb) : ME X Θ (.BoolOp .And (a :: b :: rest) pos) (M.eAnd ma mb) :=
  (pe_and ha hb).imp fun σ H Q ⟨ρ, σ', S, st, rp, h⟩ => ⟨ρ, σ', S, st, rp, Post.bind h fun ρ1 H1 x X1 S1 p1 l1 rp1 rx h1 => by
    obtain ⟨k, e, h2⟩ := asB_bl rx h1
    refine ⟨k, e, ?_⟩
    cases k with
    | true => exact iteT ⟨ρ1, σ', S1, st.mono p1 l1, rp1, h2⟩
    | false => exact iteF (Post.here (b := V.bl false) h2 rp1 rfl)⟩
theorem w_me_and (ha : WE X Θ a ma) (hb : WE X Θ (.BoolOp .And (b :: rest) pos) mb) : WE X Θ (.BoolOp .And (a :: b :: rest) pos) (M.eAnd ma mb) := by with_unfolding_all exact me_and ha hb
theorem me_not (ha : ME X Θ a ma) : ME X Θ (.UnaryOp .Not a pos) (M.eNot ma) := (pe_not ha).imp fun σ H Q ⟨ρ, σ', S, st, rp, h⟩ => ⟨ρ, σ', S, st, rp, Post.bind h fun ρ1 H1 x X1 S1 p1 l1 rp1 rx h1 => by
  obtain ⟨k, e, h2⟩ := asB_bl rx h1
  exact ⟨k, e, Post.here (b := V.bl !k) h2 rp1 rfl⟩⟩
theorem w_me_not (ha : WE X Θ a ma) : WE X Θ (.UnaryOp .Not a pos) (M.eNot ma) := by with_unfolding_all exact me_not ha
theorem me_ifExp (hc : MT X Θ c ta) (ha : ME X Θ a ma) (hb : ME X Θ b mb) : ME X Θ (.IfExp c a b pos) (M.eIf ta ma mb) := (pe_ifExp hc ha hb).imp fun σ H Q ⟨ρ, σ', S, st, rp, h⟩ => ⟨ρ, σ', S, st, rp, Post.bind h fun ρ1 H1 k k' S1 p1 l1 rp1 e h1 => by
  cases e
  cases k with
  | true => exact iteT ⟨ρ1, σ', S1, st.mono p1 l1, rp1, h1⟩
  | false => exact iteF ⟨ρ1, σ', S1, st.mono p1 l1, rp1, h1⟩⟩
theorem w_me_ifExp (hc : WT X Θ c ta) (ha : WE X Θ a ma) (hb : WE X Θ b mb) : WE X Θ (.IfExp c a b pos) (M.eIf ta ma mb) := by with_unfolding_all exact me_ifExp hc ha hb
theorem ma_nil : MA X Θ [] M.aNil := pa_nil.imp fun σ H Q ⟨ρ, σ', S, st, rp, h⟩ => Post.here (b := []) h rp rfl
theorem w_ma_nil : WA X Θ [] M.aNil := by with_unfolding_all exact ma_nil
theorem ma_cons {e : Expr} {es : List Expr} {r : M.AM} (ha : ME X Θ e ma) (hr : MA X Θ es r) (hs : notStar e = true := by rfl) : MA X Θ (e :: es) (M.aCons ma r) :=
  (pa_cons ha hr (star_cons hs)).imp fun σ H Q ⟨ρ, σ', S, st, rp, h⟩ => ⟨ρ, σ', S, st, rp, Post.bind h fun ρ1 H1 x X1 S1 p1 l1 rp1 rx h1 => ⟨ρ1, σ', S1, st.mono p1 l1, rp1,
    Post.bind h1 fun ρ2 H2 ys Ys S2 p2 l2 rp2 ry h2 => h2.here rp2 ⟨X1, Ys, rfl, rx.mono p2 l2, ry⟩⟩⟩
theorem w_ma_cons {e : Expr} {es : List Expr} {r : M.AM} (ha : WE X Θ e ma) (hr : WA X Θ es r) (hs : notStar e = true := by rfl) : WA X Θ (e :: es) (M.aCons ma r) := by with_unfolding_all exact ma_cons (e := e) (es := es) (r := r) ha hr hs
theorem me_tup {es : List Expr} {r : M.AM} {x1} (hr : MA X Θ es r) : ME X Θ (.Tuple es x1 pos) (M.eTup r) := (pe_tup hr).imp fun σ H Q ⟨ρ, σ', S, st, rp, h⟩ => ⟨ρ, σ', S, st, rp, Post.bind h fun ρ1 H1 xs Xs S1 p1 l1 rp1 rx h1 => by
  by_cases hl : xs.length ≤ M.SZ
  · rw [if_pos hl] at h1
    rw [SZ_eq, rx.length] at hl
    exact ⟨hl, fun p hp => h1 ρ1 _ _ (List.prefix_refl _) (Le.new hp _) (rp1.aside hp _) ⟨p, Xs, rfl, SqT.of upd_same, rx.mono (List.prefix_refl _) (Le.new hp _)⟩⟩
  · rw [if_neg hl] at h1
    exact h1.elim⟩
theorem w_me_tup {es : List Expr} {r : M.AM} {x1} (hr : WA X Θ es r) : WE X Θ (.Tuple es x1 pos) (M.eTup r) := by with_unfolding_all exact me_tup (es := es) (r := r) (x1 := x1) hr
theorem Post.alloc {K : PySem.W.Frag} {ρ : List Addr} {H : Hp} {S : M.S} {ds : List M.D} {xs : List V} {Q : VK} (h : Post K Θ (RelD K) ρ H (M.alloc (.lst ds) S) Q) (rp : RepS K Θ ρ S H) (r : RelDs K ρ H ds xs) {p : Addr} (hp : H p = none) : Q (.ref p) (upd H p (.lst xs)) :=
  h (ρ ++ [p]) _ _ (List.prefix_append _ _) (Le.new hp _) (rp.alloc hp ⟨xs, upd_same, r.mono (List.prefix_append _ _) (Le.new hp _)⟩) ⟨p, rfl, by rw [← rp.len]; simp⟩
theorem me_lst {es : List Expr} {r : M.AM} (hr : MA X Θ es r) : ME X Θ (.List es pos) (M.eLst r) := (pe_lst hr).imp fun σ H Q ⟨ρ, σ', S, st, rp, h⟩ => ⟨ρ, σ', S, st, rp, Post.bind h fun ρ1 H1 xs Xs S1 p1 l1 rp1 rx h1 => by
  by_cases hl : xs.length ≤ M.SZ
  · rw [if_pos hl] at h1
    rw [SZ_eq, rx.length] at hl
    exact ⟨hl, fun p hp => h1.alloc rp1 rx hp⟩
  · rw [if_neg hl] at h1
    exact h1.elim⟩
theorem w_me_lst {es : List Expr} {r : M.AM} (hr : WA X Θ es r) : WE X Θ (.List es pos) (M.eLst r) := by with_unfolding_all exact me_lst (es := es) (r := r) hr
theorem mo_none : MO X Θ none M.oNone := po_none.imp fun σ H Q ⟨ρ, σ', S, st, rp, h⟩ => Post.here (b := none) h rp rfl
theorem w_mo_none : WO X Θ none M.oNone := by with_unfolding_all exact mo_none
theorem mo_some (ha : ME X Θ a ma) : MO X Θ (some a) (M.oSome ma) := (po_some ha).imp fun σ H Q ⟨ρ, σ', S, st, rp, h⟩ => ⟨ρ, σ', S, st, rp, Post.bind h fun ρ1 H1 x X1 S1 p1 l1 rp1 rx h1 => by
  cases x with
  | int i => cases rx; exact ⟨i, rfl, Post.here (b := some i) h1 rp1 rfl⟩
  | _ => exact h1.elim⟩
theorem w_mo_some (ha : WE X Θ a ma) : WO X Θ (some a) (M.oSome ma) := by with_unfolding_all exact mo_some ha
theorem me_sl {lo hi : Option Expr} {p2 : Pos} {ml mh : M.OM} {r : V → Option Int → Option Int → Hp → VK → Prop} (hr : SlR X r) (ad : ∀ ρ H S x X1 l u Q, RepS X.K Θ ρ S H → RelD X.K ρ H x X1 → Post X.K Θ (RelD X.K) ρ H (M.slD x l u S) Q → r X1 l u H Q) (ha : ME X Θ a ma) (hl : MO X Θ lo ml) (hh : MO X Θ hi mh) :
    ME X Θ (.Subscript a (.Slice lo hi none p2) pos) (M.eSl ma ml mh) := (pe_slice hr ha hl hh).imp fun σ H Q ⟨ρ, σ', S, st, rp, h⟩ => ⟨ρ, σ', S, st, rp, Post.bind h fun ρ1 H1 x X1 S1 p1 l1 rp1 rx h1 => ⟨ρ1, σ', S1, st.mono p1 l1, rp1,
    Post.bind h1 fun ρ2 H2 l l' S2 p2 l2 rp2 e2 h2 => by
      cases e2
      exact ⟨ρ2, σ', S2, st.mono (p1.trans p2) (l1.trans l2), rp2, Post.bind h2 fun ρ3 H3 u u' S3 p3 l3 rp3 e3 h3 => by
        cases e3
        exact ad ρ3 H3 S3 x X1 l u Q rp3 (rx.mono (p2.trans p3) (l2.trans l3)) h3⟩⟩⟩
theorem w_me_sl {lo hi : Option Expr} {p2 : Pos} {ml mh : M.OM} {r : V → Option Int → Option Int → Hp → VK → Prop} (hr : SlR X r) (ad : ∀ ρ H S x X1 l u Q, RepS X.K Θ ρ S H → RelD X.K ρ H x X1 → Post X.K Θ (RelD X.K) ρ H (M.slD x l u S) Q → r X1 l u H Q) (ha : WE X Θ a ma) (hl : WO X Θ lo ml) (hh : WO X Θ hi mh) :
    WE X Θ (.Subscript a (.Slice lo hi none p2) pos) (M.eSl ma ml mh) := by with_unfolding_all exact me_sl (lo := lo) (hi := hi) (p2 := p2) (ml := ml) (mh := mh) (r := r) hr ad ha hl hh
theorem me_callB {x : Str} {p : Pos} {id : String} {e : Expr} {es : List Expr} {f : M.F} {r : List V → Hp → VK → Prop} {m : M.AM} (hc : CallR X (.builtin id) r) (ad : AdN X.K Θ f r) (hg : Gl X x) (hm : X.mg x = none) (hv : bootBuiltins x = some (.builtin id)) (ha : MA X Θ (e :: es) m)
    (hn : x ≠ "__name__" := by decide) (hdb : (x == ("__debug__" : Str)) = false := by decide) (he : notStar e = true := by rfl) (hpl : es.all notStar = true := by rfl) :
    ME X Θ (.Call (.Name x p) (e :: es) [] pos) (M.eCall f m) := (pe_callB hc hg hm hv ha hn hdb (star_cons he) (star_any hpl)).imp fun σ H Q ⟨ρ, σ', S, st, rp, h⟩ => ⟨ρ, σ', S, st, rp, Post.bind h fun ρ1 H1 xs Xs S1 p1 l1 rp1 rx h1 => ad ρ1 H1 S1 xs Xs Q rp1 rx h1⟩
theorem w_me_callB {x : Str} {p : Pos} {id : String} {e : Expr} {es : List Expr} {f : M.F} {r : List V → Hp → VK → Prop} {m : M.AM} (hc : CallR X (.builtin id) r) (ad : AdN X.K Θ f r) (hg : Gl X x) (hm : X.mg x = none) (hv : bootBuiltins x = some (.builtin id)) (ha : WA X Θ (e :: es) m)
    (hn : x ≠ "__name__" := by decide) (hdb : (x == ("__debug__" : Str)) = false := by decide) (he : notStar e = true := by rfl) (hpl : es.all notStar = true := by rfl) :
    WE X Θ (.Call (.Name x p) (e :: es) [] pos) (M.eCall f m) := by with_unfolding_all exact me_callB (x := x) (p := p) (id := id) (e := e) (es := es) (f := f) (r := r) (m := m) hc ad hg hm hv ha hn hdb he hpl
theorem me_callTy {x : Str} {p : Pos} {T : String} {e : Expr} {es : List Expr} {f : M.F} {r : List V → Hp → VK → Prop} {m : M.AM} (hc : CallR X (.type T) r) (ad : AdN X.K Θ f r) (hg : Gl X x) (hm : X.mg x = none) (hv : bootBuiltins x = some (.type T)) (ha : MA X Θ (e :: es) m)
    (hn : x ≠ "__name__" := by decide) (hdb : (x == ("__debug__" : Str)) = false := by decide) (he : notStar e = true := by rfl) (hpl : es.all notStar = true := by rfl) :
    ME X Θ (.Call (.Name x p) (e :: es) [] pos) (M.eCall f m) := (pe_callTy hc hg hm hv ha hn hdb (star_cons he) (star_any hpl)).imp fun σ H Q ⟨ρ, σ', S, st, rp, h⟩ => ⟨ρ, σ', S, st, rp, Post.bind h fun ρ1 H1 xs Xs S1 p1 l1 rp1 rx h1 => ad ρ1 H1 S1 xs Xs Q rp1 rx h1⟩
theorem w_me_callTy {x : Str} {p : Pos} {T : String} {e : Expr} {es : List Expr} {f : M.F} {r : List V → Hp → VK → Prop} {m : M.AM} (hc : CallR X (.type T) r) (ad : AdN X.K Θ f r) (hg : Gl X x) (hm : X.mg x = none) (hv : bootBuiltins x = some (.type T)) (ha : WA X Θ (e :: es) m)
    (hn : x ≠ "__name__" := by decide) (hdb : (x == ("__debug__" : Str)) = false := by decide) (he : notStar e = true := by rfl) (hpl : es.all notStar = true := by rfl) :
    WE X Θ (.Call (.Name x p) (e :: es) [] pos) (M.eCall f m) := by with_unfolding_all exact me_callTy (x := x) (p := p) (T := T) (e := e) (es := es) (f := f) (r := r) (m := m) hc ad hg hm hv ha hn hdb he hpl
theorem tyOk_is {K : PySem.W.Frag} {ρ : List Addr} {H : Hp} {S : M.S} {k : M.Kd} {x : M.D} {v : V} (rp : RepS K Θ ρ S H) (r : RelD K ρ H x v) (h : M.tyOk k x S = true) : tyV K (kdName k) v H := by
  cases x with
  | str z => obtain ⟨rfl, _⟩ := r; cases k <;> first | rfl | cases h
  | ro ds =>
    obtain ⟨a, xs, rfl, q, _⟩ := r
    cases k <;> first | exact .inl ⟨rfl, xs, q.sq⟩ | cases h
  | ref i =>
    obtain ⟨a, rfl, e⟩ := r
    cases q : S[i]? with
    | none => simp [M.tyOk, q] at h
    | some o =>
      cases o with
      | lst xs =>
        obtain ⟨b, e1, zs, e2, _⟩ := rp.obj _ _ q
        rw [e] at e1; cases e1
        cases k <;> first | exact .inl ⟨rfl, zs, SqL.of e2⟩ | simp [M.tyOk, q] at h
      | dct xs =>
        obtain ⟨b, e1, zs, e2, _⟩ := rp.obj _ _ q
        rw [e] at e1; cases e1
        cases k <;> first | exact .inr (.inr (.inl ⟨rfl, .inl ⟨zs, e2⟩⟩)) | simp [M.tyOk, q] at h
      | ins c fs => simp [M.tyOk, q] at h
  | _ => cases h
theorem me_m {k : M.Kd} {T : String} {f : M.D → M.F} {r : V → List V → Hp → VK → Prop} {o e : Expr} {es : List Expr} {mo : M.EM} {m : M.AM} {name : Str} {apos cpos : Pos} {id : String} (pa : PlainAttrs T) (slot : Slot T name id) (hty : typeOf (.builtin id) = pure (.type "method_descriptor")) (hm : MtR X id r) (ad : AdM X.K Θ f r) (hT : T = kdName k) (ho : ME X Θ o mo) (ha : MA X Θ (e :: es) m)
    (hbase : attributeBase o name X.env (eval o X.env) = eval o X.env := by rfl)
    (hfew : (e :: es).length < 30 := by exact Nat.le_of_ble_eq_true rfl) (hline : (apos.endLine == cpos.line) = true := by rfl) (hs : notStar e = true := by rfl) (hplain : es.all notStar = true := by rfl) :
    ME X Θ (.Call (.Attribute o name apos) (e :: es) [] cpos) (M.eM k f mo m) := (pe_bm pa slot hty hm ho ha hbase (star_few (by rw [List.all_cons, hs, hplain]; rfl) hfew) hline (star_cons hs) (star_any hplain)).imp fun σ H Q ⟨ρ, σ', S, st, rp, h⟩ => ⟨ρ, σ', S, st, rp, Post.bind h fun ρ1 H1 x X1 S1 p1 l1 rp1 rx h1 => by
  cases ht : M.tyOk k x S1 with
  | false => rw [ht] at h1; exact h1.elim
  | true =>
    rw [ht] at h1
    exact ⟨hT ▸ tyOk_is rp1 rx ht, ρ1, σ', S1, st.mono p1 l1, rp1, Post.bind h1 fun ρ2 H2 xs Xs S2 p2 l2 rp2 rxs h2 => ad ρ2 H2 S2 x xs X1 Xs Q rp2 (rx.mono p2 l2) rxs h2⟩⟩
theorem w_me_m {k : M.Kd} {T : String} {f : M.D → M.F} {r : V → List V → Hp → VK → Prop} {o e : Expr} {es : List Expr} {mo : M.EM} {m : M.AM} {name : Str} {apos cpos : Pos} {id : String} (pa : PlainAttrs T) (slot : Slot T name id) (hty : typeOf (.builtin id) = pure (.type "method_descriptor")) (hm : MtR X id r) (ad : AdM X.K Θ f r) (hT : T = kdName k) (ho : WE X Θ o mo) (ha : WA X Θ (e :: es) m)
    (hbase : attributeBase o name X.env (eval o X.env) = eval o X.env := by rfl)
    (hfew : (e :: es).length < 30 := by exact Nat.le_of_ble_eq_true rfl) (hline : (apos.endLine == cpos.line) = true := by rfl) (hs : notStar e = true := by rfl) (hplain : es.all notStar = true := by rfl) :
    WE X Θ (.Call (.Attribute o name apos) (e :: es) [] cpos) (M.eM k f mo m) := by with_unfolding_all exact me_m (k := k) (T := T) (f := f) (r := r) (o := o) (e := e) (es := es) (mo := mo) (m := m) (name := name) (apos := apos) (cpos := cpos) (id := id) pa slot hty hm ad hT ho ha hbase hfew hline hs hplain
theorem me_m0 {k : M.Kd} {T : String} {f : M.D → M.F} {r : V → List V → Hp → VK → Prop} {o : Expr} {mo : M.EM} {name : Str} {apos cpos : Pos} {id : String} (pa : PlainAttrs T) (slot : Slot T name id) (hty : typeOf (.builtin id) = pure (.type "method_descriptor")) (hm : MtR X id r) (ad : AdM X.K Θ f r) (hT : T = kdName k) (ho : ME X Θ o mo)
    (hbase : attributeBase o name X.env (eval o X.env) = eval o X.env := by rfl) (hline : (apos.endLine == cpos.line) = true := by rfl) :
    ME X Θ (.Call (.Attribute o name apos) [] [] cpos) (M.eM k f mo M.aNil) := (pe_bm0 pa slot hty hm ho hbase hline).imp fun σ H Q ⟨ρ, σ', S, st, rp, h⟩ => ⟨ρ, σ', S, st, rp, Post.bind h fun ρ1 H1 x X1 S1 p1 l1 rp1 rx h1 => by
  cases ht : M.tyOk k x S1 with
  | false => rw [ht] at h1; exact h1.elim
  | true =>
    rw [ht] at h1
    exact ⟨hT ▸ tyOk_is rp1 rx ht, ad ρ1 H1 S1 x [] X1 [] Q rp1 rx rfl h1⟩⟩
theorem w_me_m0 {k : M.Kd} {T : String} {f : M.D → M.F} {r : V → List V → Hp → VK → Prop} {o : Expr} {mo : M.EM} {name : Str} {apos cpos : Pos} {id : String} (pa : PlainAttrs T) (slot : Slot T name id) (hty : typeOf (.builtin id) = pure (.type "method_descriptor")) (hm : MtR X id r) (ad : AdM X.K Θ f r) (hT : T = kdName k) (ho : WE X Θ o mo)
    (hbase : attributeBase o name X.env (eval o X.env) = eval o X.env := by rfl) (hline : (apos.endLine == cpos.line) = true := by rfl) :
    WE X Θ (.Call (.Attribute o name apos) [] [] cpos) (M.eM k f mo M.aNil) := by with_unfolding_all exact me_m0 (k := k) (T := T) (f := f) (r := r) (o := o) (mo := mo) (name := name) (apos := apos) (cpos := cpos) (id := id) pa slot hty hm ad hT ho hbase hline
end
end L2
namespace L2
open PySem PySem.Spec PyProof.Rows
def PostS (K : PySem.W.Frag) (Θ : Tab) (ρ : List Addr) (H : Hp) : M.RS → Ends → Prop
  | .nx σ1 S1, D => ∀ ρ' H' σ, ρ <+: ρ' → Le H H' → RepS K Θ ρ' S1 H' → RelSt K ρ' H' σ1 σ → D.nx σ H'
  | .rt d S1, D => ∀ ρ' H' v, ρ <+: ρ' → Le H H' → RepS K Θ ρ' S1 H' → RelD K ρ' H' d v → D.rt v H'
  | .bk σ1 S1, D => ∀ ρ' H' σ, ρ <+: ρ' → Le H H' → RepS K Θ ρ' S1 H' → RelSt K ρ' H' σ1 σ → D.bk σ H'
  | .ct σ1 S1, D => ∀ ρ' H' σ, ρ <+: ρ' → Le H H' → RepS K Θ ρ' S1 H' → RelSt K ρ' H' σ1 σ → D.ct σ H'
  | .exc _ _ _, _ => False
  | .no, _ => False
def RdS (K : PySem.W.Frag) (Θ : Tab) (m : M.SM) : TS := fun D σ H => ∃ ρ σ' S, RelSt K ρ H σ' σ ∧ RepS K Θ ρ S H ∧ PostS K Θ ρ H (m σ' S) D
abbrev MS (X : Cx) (Θ : Tab) (st : Stmt) (m : M.SM) : Prop := PS X st (RdS X.K Θ m)
@[irreducible] def WS (X : Cx) (Θ : Tab) (st : Stmt) (m : M.SM) : Prop := MS X Θ st m
abbrev MSs (X : Cx) (Θ : Tab) (st : List Stmt) (m : M.SM) : Prop := PSs X st (RdS X.K Θ m)
@[irreducible] def WSs (X : Cx) (Θ : Tab) (st : List Stmt) (m : M.SM) : Prop := MSs X Θ st m
theorem PS.imp {X : Cx} {e : Stmt} {t t' : TS} (h : PS X e t) (i : ∀ D σ H, t' D σ H → t D σ H) : PS X e t' := fun pins s σ H D I q => h pins s σ H D I (i D σ H q)
theorem PSs.imp {X : Cx} {e : List Stmt} {t t' : TS} (h : PSs X e t) (i : ∀ D σ H, t' D σ H → t D σ H) : PSs X e t' := fun pins s σ H D I q => h pins s σ H D I (i D σ H q)
section
variable {K : PySem.W.Frag} {Θ : Tab} {ρ ρ' : List Addr} {H H' : Hp} {S : M.S} {α β : Type} {Rl : List Addr → Hp → α → β → Prop} {Q : β → Hp → Prop} {D D' : Ends}
theorem PostS.weak {r : M.RS} (h : PostS K Θ ρ H r D) (hρ : ρ <+: ρ') (le : Le H H') : PostS K Θ ρ' H' r D := by
  cases r with
  | nx a s => exact fun ρ2 H2 b p l => h ρ2 H2 b (hρ.trans p) (le.trans l)
  | rt a s => exact fun ρ2 H2 b p l => h ρ2 H2 b (hρ.trans p) (le.trans l)
  | bk a s => exact fun ρ2 H2 b p l => h ρ2 H2 b (hρ.trans p) (le.trans l)
  | ct a s => exact fun ρ2 H2 b p l => h ρ2 H2 b (hρ.trans p) (le.trans l)
  | exc e a s => exact h
  | no => exact h
theorem PostS.stm {r : M.R α} {σ : M.St} {f : α → M.S → M.RS} (h : PostS K Θ ρ H (r.stm σ f) D)
    (k : ∀ ρ' H' a b S', ρ <+: ρ' → Le H H' → RepS K Θ ρ' S' H' → Rl ρ' H' a b → PostS K Θ ρ' H' (f a S') D → Q b H') : Post K Θ Rl ρ H r Q := by
  cases r with
  | ok a s => exact fun ρ2 H2 b p l rp rl => k ρ2 H2 a b s p l rp rl (PostS.weak h p l)
  | exc e s => exact h
  | no => exact h
theorem PostS.nx {σ1 : M.St} {σ : St} (h : PostS K Θ ρ H (.nx σ1 S) D) (rp : RepS K Θ ρ S H) (st : RelSt K ρ H σ1 σ) : D.nx σ H := h ρ H σ (List.prefix_refl _) (Le.refl _) rp st
theorem PostS.rt {d : M.D} {v : V} (h : PostS K Θ ρ H (.rt d S) D) (rp : RepS K Θ ρ S H) (r : RelD K ρ H d v) : D.rt v H := h ρ H v (List.prefix_refl _) (Le.refl _) rp r
end
section
variable {X : Cx} {Θ : Tab} {e : Expr} {pos : Pos} {m : M.EM} {st : Stmt} {rest : List Stmt} {ms mr : M.SM}
theorem mss_nil : MSs X Θ [] M.sNil := pss_nil.imp fun D σ H ⟨ρ, σ', S, st, rp, h⟩ => h.nx rp st
theorem w_mss_nil : WSs X Θ [] M.sNil := by with_unfolding_all exact mss_nil
theorem mss_one (h : MS X Θ st ms) : MSs X Θ [st] ms := pss_one h
theorem w_mss_one (h : WS X Θ st ms) : WSs X Θ [st] ms := by with_unfolding_all exact mss_one h
theorem mss_cons (h1 : MS X Θ st ms) (h2 : MSs X Θ rest mr) : MSs X Θ (st :: rest) (M.sSeq ms mr) := (pss_cons h1 h2).imp fun D σ H ⟨ρ, σ', S, st, rp, h⟩ => ⟨ρ, σ', S, st, rp, by
  have h' : PostS X.K Θ ρ H ((ms σ' S).then mr) D := h
  revert h'
  cases ms σ' S with
  | nx a s => exact fun h' ρ2 H2 σ2 p l rp2 st2 => ⟨ρ2, a, s, st2, rp2, PostS.weak h' p l⟩
  | rt a s => exact fun h' => h'
  | bk a s => exact fun h' => h'
  | ct a s => exact fun h' => h'
  | exc e a s => exact fun h' => h'
  | no => exact fun h' => h'⟩
theorem w_mss_cons (h1 : WS X Θ st ms) (h2 : WSs X Θ rest mr) : WSs X Θ (st :: rest) (M.sSeq ms mr) := by with_unfolding_all exact mss_cons h1 h2
theorem ms_expr (he : ME X Θ e m) (hs : swapsWith e none pos.line X.env = pure false := by rfl) : MS X Θ (.Expr e pos) (M.sExpr m) := (ps_expr he hs).imp fun D σ H ⟨ρ, σ', S, st, rp, h⟩ => ⟨ρ, σ', S, st, rp, PostS.stm h fun ρ1 H1 x X1 S1 p1 l1 rp1 rx h1 => h1.nx rp1 (st.mono p1 l1)⟩
theorem w_ms_expr (he : WE X Θ e m) (hs : swapsWith e none pos.line X.env = pure false := by rfl) : WS X Θ (.Expr e pos) (M.sExpr m) := by with_unfolding_all exact ms_expr he hs
theorem ms_ret (he : ME X Θ e m) : MS X Θ (.Return (some e) pos) (M.sRet m) := (ps_ret he).imp fun D σ H ⟨ρ, σ', S, st, rp, h⟩ => ⟨ρ, σ', S, st, rp, PostS.stm h fun ρ1 H1 x X1 S1 p1 l1 rp1 rx h1 => h1.rt rp1 rx⟩
theorem w_ms_ret (he : WE X Θ e m) : WS X Θ (.Return (some e) pos) (M.sRet m) := by with_unfolding_all exact ms_ret he
theorem ms_set {i : Nat} {x : Str} {pos' : Pos} (hN : X.N.Nodup) (hi : X.N[i]? = some x) (hx : Loc X.env.scope x) (he : ME X Θ e m) (hs : swapsWith e (some (.Name x pos')) pos.line X.env = pure false := by kernel_rfl) (hf : X.fn x = true ∨ X.env.scope.names.lookup x = some .local := by first | exact .inl rfl | exact .inr rfl | assumption) :
    MS X Θ (.Assign [.Name x pos'] e pos) (M.sSet i m) := (ps_set hN hi hx he hs hf).imp fun D σ H ⟨ρ, σ', S, st, rp, h⟩ => ⟨ρ, σ', S, st, rp, PostS.stm h fun ρ1 H1 x X1 S1 p1 l1 rp1 rx h1 => h1.nx rp1 ((st.mono p1 l1).set rx i)⟩
theorem w_ms_set {i : Nat} {x : Str} {pos' : Pos} (hN : X.N.Nodup) (hi : X.N[i]? = some x) (hx : Loc X.env.scope x) (he : WE X Θ e m) (hs : swapsWith e (some (.Name x pos')) pos.line X.env = pure false := by kernel_rfl) (hf : X.fn x = true ∨ X.env.scope.names.lookup x = some .local := by first | exact .inl rfl | exact .inr rfl | assumption) :
    WS X Θ (.Assign [.Name x pos'] e pos) (M.sSet i m) := by with_unfolding_all exact ms_set (i := i) (x := x) (pos' := pos') hN hi hx he hs hf
theorem ms_if {c : Expr} {a b : List Stmt} {tc : M.TM} {ma mb : M.SM} (hc : MT X Θ c tc) (ha : MSs X Θ a ma) (hb : MSs X Θ b mb) : MS X Θ (.If c a b pos) (M.sIf tc ma mb) := (ps_if hc ha hb).imp fun D σ H ⟨ρ, σ', S, st, rp, h⟩ => ⟨ρ, σ', S, st, rp, PostS.stm h fun ρ1 H1 k k' S1 p1 l1 rp1 ek h1 => by
  cases ek
  cases k with
  | true => exact iteT ⟨ρ1, σ', S1, st.mono p1 l1, rp1, h1⟩
  | false => exact iteF ⟨ρ1, σ', S1, st.mono p1 l1, rp1, h1⟩⟩
theorem w_ms_if {c : Expr} {a b : List Stmt} {tc : M.TM} {ma mb : M.SM} (hc : WT X Θ c tc) (ha : WSs X Θ a ma) (hb : WSs X Θ b mb) : WS X Θ (.If c a b pos) (M.sIf tc ma mb) := by with_unfolding_all exact ms_if (c := c) (a := a) (b := b) (tc := tc) (ma := ma) (mb := mb) hc ha hb
end
def RdG (K : PySem.W.Frag) (Θ : Tab) (js : List Nat) (g : M.GM) : TG := fun v σ H Q => ∃ ρ σ' S d, RelSt K ρ H σ' σ ∧ RepS K Θ ρ S H ∧ RelD K ρ H d v ∧ ∃ σ1, g d σ' = some σ1 ∧
  ∀ H' σ2, Le H H' → RepS K Θ ρ S H' → RelSt K ρ H' σ1 σ2 → σ2.length = σ.length → (∀ j, j ∉ js → σ2[j]? = σ[j]?) → Q σ2 H'
abbrev MG (X : Cx) (Θ : Tab) (js : List Nat) (tg : Expr) (g : M.GM) : Prop := PG X tg (RdG X.K Θ js g)
@[irreducible] def WG (X : Cx) (Θ : Tab) (js : List Nat) (tg : Expr) (g : M.GM) : Prop := MG X Θ js tg g
theorem PG.imp {X : Cx} {e : Expr} {t t' : TG} (h : PG X e t) (i : ∀ v σ H Q, t' v σ H Q → t v σ H Q) : PG X e t' := fun pins s σ H v u Q I r q => h pins s σ H v u Q I r (i v σ H Q q)
theorem mg_name {X : Cx} {Θ : Tab} {pos : Pos} {i : Nat} {x : Str} (hN : X.N.Nodup) (hi : X.N[i]? = some x) (hx : Loc X.env.scope x) (hf : X.fn x = true ∨ X.env.scope.names.lookup x = some .local := by first | exact .inl rfl | exact .inr rfl | assumption) :
    MG X Θ [i] (.Name x pos) (M.gName i) := (pg_name hN hi hx hf).imp fun v σ H Q ⟨ρ, σ', S, d, st, rp, rv, σ1, e, h⟩ => by
  cases e
  exact h H _ (Le.refl _) rp (st.set rv i) (by rw [List.length_set]) fun j hj => List.getElem?_set_ne (fun z => hj (by rw [z]; simp))
theorem w_mg_name {X : Cx} {Θ : Tab} {pos : Pos} {i : Nat} {x : Str} (hN : X.N.Nodup) (hi : X.N[i]? = some x) (hx : Loc X.env.scope x) (hf : X.fn x = true ∨ X.env.scope.names.lookup x = some .local := by first | exact .inl rfl | exact .inr rfl | assumption) :
    WG X Θ [i] (.Name x pos) (M.gName i) := by with_unfolding_all exact mg_name (X := X) (Θ := Θ) (pos := pos) (i := i) (x := x) hN hi hx hf
def RdGs (K : PySem.W.Frag) (Θ : Tab) (js : List Nat) (g : M.GMs) : TGs := fun vs σ H Q => ∃ ρ σ' S ds, RelSt K ρ H σ' σ ∧ RepS K Θ ρ S H ∧ RelDs K ρ H ds vs ∧ ∃ σ1, g ds σ' = some σ1 ∧
  ∀ H' σ2, Le H H' → RepS K Θ ρ S H' → RelSt K ρ H' σ1 σ2 → σ2.length = σ.length → (∀ j, j ∉ js → σ2[j]? = σ[j]?) → Q σ2 H'
abbrev MGs (X : Cx) (Θ : Tab) (js : List Nat) (ts : List Expr) (g : M.GMs) : Prop := PGs X ts (RdGs X.K Θ js g)
@[irreducible] def WGs (X : Cx) (Θ : Tab) (js : List Nat) (ts : List Expr) (g : M.GMs) : Prop := MGs X Θ js ts g
theorem PGs.imp {X : Cx} {e : List Expr} {t t' : TGs} (h : PGs X e t) (i : ∀ v σ H Q, t' v σ H Q → t v σ H Q) : PGs X e t' := fun pins s σ H v u Q I r q => h pins s σ H v u Q I r (i v σ H Q q)
theorem mgs_nil {X : Cx} {Θ : Tab} : MGs X Θ [] [] M.gNil := pgs_nil.imp fun vs σ H Q ⟨ρ, σ', S, ds, st, rp, rv, σ1, e, h⟩ => by
  cases ds with
  | nil => cases rv; cases e; exact ⟨rfl, h H σ (Le.refl _) rp st rfl fun _ _ => rfl⟩
  | cons d ds => cases e
theorem w_mgs_nil {X : Cx} {Θ : Tab} : WGs X Θ [] [] M.gNil := by with_unfolding_all exact mgs_nil (X := X) (Θ := Θ)
theorem mgs_cons {X : Cx} {Θ : Tab} {e : Expr} {es : List Expr} {g : M.GM} {gs : M.GMs} {js ks : List Nat} (h1 : MG X Θ js e g) (h2 : MGs X Θ ks es gs) (hp : ∀ {t : TG} {u : TGs}, PG X e t → PGs X es u → PGs X (e :: es) (gCons t u)) : MGs X Θ (js ++ ks) (e :: es) (M.gCons g gs) :=
  (hp h1 h2).imp fun vs σ H Q ⟨ρ, σ', S, ds, st, rp, rv, σ1, eq, h⟩ => by
    cases ds with
    | nil => cases eq
    | cons d ds =>
      obtain ⟨y, ys, rfl, r1, r2⟩ := rv
      have eq' : (match g d σ' with | some σ' => gs ds σ' | none => none) = some σ1 := eq
      cases q : g d σ' with
      | none => rw [q] at eq'; cases eq'
      | some σm =>
        rw [q] at eq'
        refine ⟨y, ys, rfl, ρ, σ', S, d, st, rp, r1, σm, q, fun H' σ2 le rp2 st2 hl hj => ⟨ρ, σm, S, ds, st2, rp2, r2.mono (List.prefix_refl _) le, σ1, eq', fun H'' σ3 le2 rp3 st3 hl3 hj3 => h H'' σ3 (le.trans le2) rp3 st3 (hl3.trans hl) fun j hjk => ?_⟩⟩
        rw [List.mem_append] at hjk
        rw [hj3 j fun z => hjk (.inr z), hj j fun z => hjk (.inl z)]
theorem w_mgs_cons {X : Cx} {Θ : Tab} {e : Expr} {es : List Expr} {g : M.GM} {gs : M.GMs} {js ks : List Nat} (h1 : WG X Θ js e g) (h2 : WGs X Θ ks es gs) (hp : ∀ {t : TG} {u : TGs}, PG X e t → PGs X es u → PGs X (e :: es) (gCons t u)) : WGs X Θ (js ++ ks) (e :: es) (M.gCons g gs) := by with_unfolding_all exact mgs_cons (X := X) (Θ := Θ) (e := e) (es := es) (g := g) (gs := gs) (js := js) (ks := ks) h1 h2 hp
theorem mg_tup {X : Cx} {Θ : Tab} {es : List Expr} {g : M.GMs} {js : List Nat} {tg : Expr} {n : Nat} (h : PG X tg (gTup X.K n (RdGs X.K Θ js g))) (hn : ∀ ds σ σ1, g ds σ = some σ1 → ds.length = n) : MG X Θ js tg (M.gTup g) := h.imp fun v σ H Q ⟨ρ, σ', S, d, st, rp, rv, σ1, eq, h⟩ => by
  cases d with
  | tup ds =>
    obtain ⟨a, xs, rfl, hq, r⟩ := rv
    exact ⟨a, xs, rfl, hq, by rw [← r.length]; exact hn ds σ' σ1 eq, ρ, σ', S, ds, st, rp, r, σ1, eq, h⟩
  | _ => cases eq
structure ItR (K : PySem.W.Frag) (Θ : Tab) (ρ : List Addr) (H : Hp) (J : It) (xs : List M.D) (g : M.Gd) : Prop where
  go : ∀ (i : Nat) ρ' S' H', ρ <+: ρ' → Le H H' → RepS K Θ ρ' S' H' → M.gdOk g S' = true → i < xs.length → J.go i H'
  yld : ∀ (i : Nat) ρ' S' H' v H2, ρ <+: ρ' → Le H H' → RepS K Θ ρ' S' H' → M.gdOk g S' = true → i < xs.length → J.yld i H' v H2 → ∃ d, xs[i]? = some d ∧ RelD K ρ' H2 d v ∧ Le H' H2 ∧ RepS K Θ ρ' S' H2
  stop : ∀ ρ' S' H', ρ <+: ρ' → Le H H' → RepS K Θ ρ' S' H' → M.gdOk g S' = true → J.stop xs.length H'
def RdI (K : PySem.W.Frag) (Θ : Tab) (m : M.IM) : TI := fun σ H R => ∃ ρ σ' S, RelSt K ρ H σ' σ ∧ RepS K Θ ρ S H ∧
  Post K Θ (fun ρ' H' (p : List M.D × M.Gd) (J : It) => ItR K Θ ρ' H' J p.1 p.2) ρ H ((m σ' S).bind fun p s => if M.gdOk p.2 s then .ok p s else .no) R
abbrev MI (X : Cx) (Θ : Tab) (tg iter : Expr) (m : M.IM) : Prop := PI X tg iter (RdI X.K Θ m)
@[irreducible] def WI (X : Cx) (Θ : Tab) (tg iter : Expr) (m : M.IM) : Prop := MI X Θ tg iter m
theorem PI.imp {X : Cx} {tg e : Expr} {t t' : TI} (h : PI X tg e t) (i : ∀ σ H R, t' σ H R → t σ H R) : PI X tg e t' := fun pins s σ H R I q => h pins s σ H R I (i σ H R q)
theorem PI.or {X : Cx} {tg e : Expr} {t t' : TI} (h : PI X tg e t) (h' : PI X tg e t') : PI X tg e (fun σ H R => t σ H R ∨ t' σ H R) := fun pins s σ H R I q => by
  rcases q with q | q
  · exact h pins s σ H R I q
  · exact h' pins s σ H R I q
section
variable {X : Cx} {Θ : Tab} {tg e : Expr} {m : M.EM}
theorem itr_list {K : PySem.W.Frag} {ρ : List Addr} {H : Hp} {i : Nat} {a : Addr} {ds : List M.D} (ha : ρ[i]? = some a) : ItR K Θ ρ H (Itl K a) ds [(i, .lst ds)] := by
  have key : ∀ {ρ' : List Addr} {S' : M.S} {H' : Hp}, ρ <+: ρ' → RepS K Θ ρ' S' H' → M.gdOk [(i, .lst ds)] S' = true → ∃ zs, H' a = some (.lst zs) ∧ RelDs K ρ' H' ds zs := fun {ρ' S' H'} p rp g => by
    have g' : S'[i]? = some (M.O.lst ds) := by simpa [M.gdOk] using g
    obtain ⟨b, e1, zs, e2, r⟩ := rp.obj i _ g'
    rw [pre_get p ha] at e1; cases e1
    exact ⟨zs, e2, r⟩
  refine ⟨fun j ρ' S' H' p l rp g hj => ?_, fun j ρ' S' H' v H2 p l rp g hj y => ?_, fun ρ' S' H' p l rp g => ?_⟩
  · obtain ⟨zs, e, r⟩ := key p rp g
    obtain ⟨v, e1, _⟩ := r.get (i := j) (d := ds[j]) (by simp [hj])
    exact ⟨zs, v, SqL.of e, e1⟩
  · obtain ⟨zs, e, r⟩ := key p rp g
    obtain ⟨v', e1, rv⟩ := r.get (i := j) (d := ds[j]) (by simp [hj])
    obtain ⟨rfl, y2⟩ := y
    have y3 := y2 zs (SqL.of e)
    rw [e1] at y3; cases y3
    exact ⟨ds[j], by simp [hj], rv, Le.refl _, rp⟩
  · obtain ⟨zs, e, r⟩ := key p rp g
    exact ⟨zs, SqL.of e, Nat.le_of_eq r.length.symm⟩
theorem itr_ro {K : PySem.W.Frag} {ρ : List Addr} {H : Hp} {a : Addr} {ds : List M.D} {xs : List V} (hq : RolL K H a xs) (r : RelDs K ρ H ds xs) : ItR K Θ ρ H (Itl K a) ds [] := by
  refine ⟨fun j ρ' S' H' p l rp g hj => ?_, fun j ρ' S' H' v H2 p l rp g hj y => ?_, fun ρ' S' H' p l rp g => ?_⟩
  · obtain ⟨v, e1, _⟩ := r.get (i := j) (d := ds[j]) (by simp [hj])
    exact ⟨xs, v, (l.rol hq).sq, e1⟩
  · obtain ⟨v', e1, rv⟩ := (r.mono p l).get (i := j) (d := ds[j]) (by simp [hj])
    obtain ⟨rfl, y2⟩ := y
    have y3 := y2 xs (l.rol hq).sq
    rw [e1] at y3; cases y3
    exact ⟨ds[j], by simp [hj], rv, Le.refl _, rp⟩
  · exact ⟨xs, (l.rol hq).sq, Nat.le_of_eq r.length.symm⟩
theorem itr_tup {K : PySem.W.Frag} {ρ : List Addr} {H : Hp} {a : Addr} {ds : List M.D} {xs : List V} (hq : SqT K H a xs) (r : RelDs K ρ H ds xs) : ItR K Θ ρ H (Itt K a) ds [] := by
  refine ⟨fun j ρ' S' H' p l rp g hj => ?_, fun j ρ' S' H' v H2 p l rp g hj y => ?_, fun ρ' S' H' p l rp g => ?_⟩
  · obtain ⟨v, e1, _⟩ := r.get (i := j) (d := ds[j]) (by simp [hj])
    exact ⟨xs, v, l.sqT hq, e1⟩
  · obtain ⟨v', e1, rv⟩ := (r.mono p l).get (i := j) (d := ds[j]) (by simp [hj])
    obtain ⟨rfl, y2⟩ := y
    have y3 := y2 xs (l.sqT hq)
    rw [e1] at y3; cases y3
    exact ⟨ds[j], by simp [hj], rv, Le.refl _, rp⟩
  · exact ⟨xs, l.sqT hq, Nat.le_of_eq r.length.symm⟩
theorem itr_str {K : PySem.W.Frag} {ρ : List Addr} {H : Hp} {x : M.T} (ok : okT x) : ItR K Θ ρ H (Its (ofT x)) (x.map fun c => .str [c]) [] := by
  refine ⟨fun j ρ' S' H' p l rp g hj => ?_, fun j ρ' S' H' v H2 p l rp g hj y => ?_, fun ρ' S' H' p l rp g => ?_⟩
  · rw [List.length_map] at hj
    show j < (ofT x).length
    rw [ofT_len]; exact hj
  · obtain ⟨rfl, c, hc, rfl⟩ := y
    have hc' : x[j]? = some c := by simpa [ofT] using hc
    exact ⟨.str [c], by rw [List.getElem?_map, hc']; rfl, ⟨rfl, okT_sub ok fun d hd => by rw [List.mem_singleton.mp hd]; exact List.mem_of_getElem? hc'⟩, Le.refl _, rp⟩
  · show (ofT x).length ≤ _
    rw [ofT_len, List.length_map]; exact Nat.le_refl _
theorem itr_range {K : PySem.W.Frag} {ρ : List Addr} {H : Hp} {lo hi : Int} : ItR K Θ ρ H (Itr lo (hi - lo).toNat) (M.rangeD lo hi) [] := by
  refine ⟨fun j ρ' S' H' p l rp g hj => ?_, fun j ρ' S' H' v H2 p l rp g hj y => ?_, fun ρ' S' H' p l rp g => ?_⟩
  · show j < _
    simpa [M.rangeD] using hj
  · obtain ⟨rfl, rfl⟩ := y
    have hj' : j < (hi - lo).toNat := by simpa [M.rangeD] using hj
    exact ⟨.int (lo + j), by unfold M.rangeD; rw [List.getElem?_map, List.getElem?_range hj']; rfl, rfl, Le.refl _, rp⟩
  · show _ ≤ _
    simp [M.rangeD]
theorem mi_e (he : ME X Θ e m) : MI X Θ tg e (M.iE m) := (PI.or (pi_list he) (PI.or (pi_tup he) (pi_str he))).imp fun σ H R ⟨ρ, σ', S, st, rp, h⟩ => by
  have h' : Post X.K Θ _ ρ H (((m σ' S).bind M.itD).bind fun p s => if M.gdOk p.2 s then .ok p s else .no) R := h
  clear h
  cases hm : m σ' S with
  | no => rw [hm] at h'; exact h'.elim
  | exc a s => rw [hm] at h'; exact h'.elim
  | ok d S1 =>
    rw [hm] at h'
    have go : ∀ {Q : VK}, (∀ ρ1 H1 v, ρ <+: ρ1 → Le H H1 → RepS X.K Θ ρ1 S1 H1 → RelD X.K ρ1 H1 d v → Q v H1) → RdE X.K Θ m σ H Q := fun q => ⟨ρ, σ', S, st, rp, by rw [hm]; exact q⟩
    cases d with
    | str x =>
      refine .inr (.inr (go fun ρ1 H1 v p l rp1 rv => ?_))
      have h2 : Post X.K Θ _ ρ H ((if x.length ≤ M.SZ then .ok (x.map fun c => M.D.str [c], []) S1 else M.R.no).bind fun p s => if M.gdOk p.2 s then .ok p s else .no) R := h'
      by_cases hl : x.length ≤ M.SZ
      · rw [if_pos hl] at h2
        exact ⟨ofT x, rv.1, h2 ρ1 H1 _ p l rp1 (itr_str rv.2)⟩
      · rw [if_neg hl] at h2
        exact h2.elim
    | tup ds =>
      refine .inr (.inl (go fun ρ1 H1 v p l rp1 rv => ?_))
      obtain ⟨a, xs, rfl, hq, r⟩ := rv
      exact ⟨a, rfl, ⟨xs, hq⟩, h' ρ1 H1 _ p l rp1 (itr_tup hq r)⟩
    | ro ds =>
      refine .inl (go fun ρ1 H1 v p l rp1 rv => ?_)
      obtain ⟨a, xs, rfl, hq, r⟩ := rv
      exact ⟨a, rfl, ⟨xs, hq.sq⟩, h' ρ1 H1 _ p l rp1 (itr_ro hq r)⟩
    | ref i =>
      have h2 : Post X.K Θ _ ρ H ((match S1[i]? with
        | some (.lst xs) => M.R.ok (xs, [(i, M.O.lst xs)]) S1
        | _ => .no).bind fun p s => if M.gdOk p.2 s then .ok p s else .no) R := h'
      cases q : S1[i]? with
      | none => rw [q] at h2; exact h2.elim
      | some o =>
        rw [q] at h2
        cases o with
        | lst xs =>
          refine .inl (go fun ρ1 H1 v p l rp1 rv => ?_)
          obtain ⟨a, rfl, e1⟩ := rv
          obtain ⟨b, e2, zs, e3, r⟩ := rp1.obj i _ q
          rw [e1] at e2; cases e2
          have hg : M.gdOk [(i, M.O.lst xs)] S1 = true := by simp [M.gdOk, q]
          have h3 : Post X.K Θ _ ρ H (if M.gdOk [(i, M.O.lst xs)] S1 then M.R.ok (xs, [(i, M.O.lst xs)]) S1 else .no) R := h2
          rw [if_pos hg] at h3
          exact ⟨a, rfl, ⟨zs, SqL.of e3⟩, h3 ρ1 H1 _ p l rp1 (itr_list e1)⟩
        | dct kvs => exact h2.elim
        | ins c fs => exact h2.elim
    | non => exact h'.elim
    | bl b => exact h'.elim
    | int b => exact h'.elim
    | ty b => exact h'.elim
theorem w_mi_e (he : WE X Θ e m) : WI X Θ tg e (M.iE m) := by with_unfolding_all exact mi_e he
theorem mi_range1 {p pos : Pos} (hg : Gl X "range") (hm : X.mg "range" = none) (he : ME X Θ e m) (hs : notStar e = true := by rfl) : MI X Θ tg (.Call (.Name "range" p) [e] [] pos) (M.iRange1 m) :=
  (pi_range1 hg hm (ma_cons he ma_nil hs) (star_cons hs)).imp fun σ H R ⟨ρ, σ', S, st, rp, h⟩ => ⟨ρ, σ', S, st, rp, by
    have h' : Post X.K Θ _ ρ H (((m σ' S).bind fun x s => match x with
      | .int j => if j.natAbs < 4611686018427387904 then M.R.ok (M.rangeD 0 j, ([] : M.Gd)) s else .no
      | _ => .no).bind fun p s => if M.gdOk p.2 s then .ok p s else .no) R := h
    show Post X.K Θ _ ρ H ((m σ' S).bind fun x s => (M.R.ok [] s).bind fun xs s => .ok (x :: xs) s) _
    cases hm : m σ' S with
    | no => rw [hm] at h'; exact h'.elim
    | exc a s => rw [hm] at h'; exact h'.elim
    | ok d S1 =>
      rw [hm] at h'
      intro ρ1 H1 vs p l rp1 rv
      obtain ⟨v, ys, rfl, rv, hy⟩ := rv
      cases hy
      cases d with
      | int j =>
        cases rv
        have h2 : Post X.K Θ _ ρ H ((if j.natAbs < 4611686018427387904 then M.R.ok (M.rangeD 0 j, ([] : M.Gd)) S1 else .no).bind fun p s => if M.gdOk p.2 s then .ok p s else .no) R := h'
        by_cases hj : j.natAbs < 4611686018427387904
        · rw [if_pos hj] at h2
          refine ⟨j, rfl, by omega, by omega, ?_⟩
          have := h2 ρ1 H1 _ p l rp1 (itr_range (lo := 0) (hi := j))
          rw [Int.sub_zero] at this
          exact this
        · rw [if_neg hj] at h2
          exact h2.elim
      | _ => exact h'.elim⟩
theorem w_mi_range1 {p pos : Pos} (hg : Gl X "range") (hm : X.mg "range" = none) (he : WE X Θ e m) (hs : notStar e = true := by rfl) : WI X Θ tg (.Call (.Name "range" p) [e] [] pos) (M.iRange1 m) := by with_unfolding_all exact mi_range1 (p := p) (pos := pos) hg hm he hs
end
section
variable {X : Cx} {Θ : Tab} {pos : Pos}
theorem ms_while {c : Expr} {body : List Stmt} {tc : M.TM} {mb : M.SM} (hp : PassesOwn (model X.prog X.w) X.A X.env X.xe) (hc : MT X Θ c tc) (hb : MSs X Θ body mb) : MS X Θ (.While c body [] pos) (M.sWhile tc mb) :=
  (ps_while hp hc hb).imp fun D σ H ⟨ρ, σ', S, st, rp, h⟩ => by
    refine ⟨fun k σ2 H2 => ∃ ρ2 σ2' S2, RelSt X.K ρ2 H2 σ2' σ2 ∧ RepS X.K Θ ρ2 S2 H2 ∧ PostS X.K Θ ρ2 H2 (M.whileF k tc mb σ2' S2) D, ⟨M.FUEL, ρ, σ', S, st, rp, h⟩, ?_⟩
    rintro k σ2 H2 ⟨ρ2, σ2', S2, st2, rp2, h2⟩
    cases k with
    | zero => exact h2.elim
    | succ k =>
      refine ⟨ρ2, σ2', S2, st2, rp2, PostS.stm h2 fun ρ3 H3 b b' S3 p3 l3 rp3 eb h3 => ?_⟩
      cases eb
      cases b with
      | false => exact iteF (PostS.nx (σ := σ2) h3 rp3 (st2.mono p3 l3))
      | true =>
        refine iteT ⟨fun σ4 H4 => ∃ ρ4 σ4' S4, RelSt X.K ρ4 H4 σ4' σ4 ∧ RepS X.K Θ ρ4 S4 H4 ∧ PostS X.K Θ ρ4 H4 (M.whileF k tc mb σ4' S4) D, fun σ4 H4 q => ⟨k, Nat.lt_succ_self k, q⟩, ρ3, σ2', S3, st2.mono p3 l3, rp3, ?_⟩
        have h4 : PostS X.K Θ ρ3 H3 (match mb σ2' S3 with
          | .nx σ s => M.whileF k tc mb σ s
          | .ct σ s => M.whileF k tc mb σ s
          | .bk σ s => .nx σ s
          | r => r) D := h3
        revert h4
        cases mb σ2' S3 with
        | nx a s => exact fun h4 ρ4 H4 σ4 p4 l4 rp4 st4 => ⟨ρ4, a, s, st4, rp4, PostS.weak h4 p4 l4⟩
        | ct a s => exact fun h4 ρ4 H4 σ4 p4 l4 rp4 st4 => ⟨ρ4, a, s, st4, rp4, PostS.weak h4 p4 l4⟩
        | bk a s => exact fun h4 => h4
        | rt a s => exact fun h4 => h4
        | exc e a s => exact fun h4 => h4
        | no => exact fun h4 => h4
theorem w_ms_while {c : Expr} {body : List Stmt} {tc : M.TM} {mb : M.SM} (hp : PassesOwn (model X.prog X.w) X.A X.env X.xe) (hc : WT X Θ c tc) (hb : WSs X Θ body mb) : WS X Θ (.While c body [] pos) (M.sWhile tc mb) := by with_unfolding_all exact ms_while (c := c) (body := body) (tc := tc) (mb := mb) hp hc hb
theorem ms_for {tg iter : Expr} {body : List Stmt} {it : M.IM} {g : M.GM} {js : List Nat} {mb : M.SM} (hp : PassesOwn (model X.prog X.w) X.A X.env X.xe) (hc : X.calm = true) (hi : MI X Θ tg iter it) (hg : MG X Θ js tg g) (hb : MSs X Θ body mb)
    (hs : ∀ x, foldedSetIterable iter X.env x = pure x := by intro _; rfl) : MS X Θ (.For tg iter body [] pos) (M.sFor it g mb) :=
  (ps_for hp hc hi hg hb hs).imp fun D σ H ⟨ρ, σ', S, st, rp, h⟩ => ⟨ρ, σ', S, st, rp, by
    have h' : PostS X.K Θ ρ H ((it σ' S).stm σ' fun p s => if M.gdOk p.2 s = true then M.forL p.2 (M.forF g mb) p.1 σ' s else .no) D := h
    cases hit : it σ' S with
    | no => rw [hit] at h'; exact h'.elim
    | exc a s => rw [hit] at h'; exact h'.elim
    | ok p S1 =>
      rw [hit] at h'
      obtain ⟨xs, gd⟩ := p
      show Post X.K Θ _ ρ H (if M.gdOk gd S1 then M.R.ok (xs, gd) S1 else .no) _
      have h2 : PostS X.K Θ ρ H (if M.gdOk gd S1 = true then M.forL gd (M.forF g mb) xs σ' S1 else .no) D := h'
      by_cases hgd : M.gdOk gd S1 = true
      case neg => rw [if_neg hgd] at h2; exact h2.elim
      rw [if_pos hgd] at h2
      rw [if_pos hgd]
      intro ρ1 H1 J p1 l1 rp1 (itr : ItR X.K Θ ρ1 H1 J xs gd)
      refine ⟨fun i k σ2 H2 => ∃ ρ2 σ2' S2, ρ1 <+: ρ2 ∧ Le H1 H2 ∧ RelSt X.K ρ2 H2 σ2' σ2 ∧ RepS X.K Θ ρ2 S2 H2 ∧ M.gdOk gd S2 = true ∧ k = xs.length - i ∧ i ≤ xs.length ∧ PostS X.K Θ ρ2 H2 (M.forL gd (M.forF g mb) (xs.drop i) σ2' S2) D,
        ⟨xs.length, ρ1, σ', S1, List.prefix_refl _, Le.refl _, st.mono p1 l1, rp1, hgd, rfl, Nat.zero_le _, PostS.weak h2 p1 l1⟩, ?_⟩
      rintro i k σ2 H2 ⟨ρ2, σ2', S2, p2, l2, st2, rp2, g2, rfl, hi2, h3⟩
      by_cases hlt : i < xs.length
      · refine .inr ⟨itr.go i ρ2 S2 H2 p2 l2 rp2 g2 hlt, fun σ3 H3 => ∃ ρ3 σ3' S3, ρ1 <+: ρ3 ∧ Le H1 H3 ∧ RelSt X.K ρ3 H3 σ3' σ3 ∧ RepS X.K Θ ρ3 S3 H3 ∧ M.gdOk gd S3 = true ∧ PostS X.K Θ ρ3 H3 (M.forL gd (M.forF g mb) (xs.drop (i + 1)) σ3' S3) D,
          fun σ3 H3 ⟨ρ3, σ3', S3, a1, a2, a3, a4, a5, a6⟩ => ⟨xs.length - (i + 1), by omega, ρ3, σ3', S3, a1, a2, a3, a4, a5, rfl, hlt, a6⟩, fun x H' y => ?_⟩
        obtain ⟨d, ed, rd, ld, rpd⟩ := itr.yld i ρ2 S2 H2 x H' p2 l2 rp2 g2 hlt y
        have edr : xs.drop i = d :: xs.drop (i + 1) := by
          obtain ⟨_, e⟩ := List.getElem?_eq_some_iff.mp ed
          rw [List.drop_eq_getElem_cons hlt, e]
        rw [edr] at h3
        have h4 : PostS X.K Θ ρ2 H2 (match (match g d σ2' with | some σ' => mb σ' S2 | none => M.RS.no) with
          | .nx σ s => if M.gdOk gd s then M.forL gd (M.forF g mb) (xs.drop (i + 1)) σ s else .no
          | .ct σ s => if M.gdOk gd s then M.forL gd (M.forF g mb) (xs.drop (i + 1)) σ s else .no
          | .bk σ s => .nx σ s
          | r => r) D := h3
        cases hgq : g d σ2' with
        | none => rw [hgq] at h4; exact h4.elim
        | some σ1 =>
          rw [hgq] at h4
          refine ⟨ρ2, σ2', S2, d, st2.mono (List.prefix_refl _) ld, rpd, rd, σ1, hgq, fun H'' σ3 le3 rp3 st3 _ _ => ⟨ρ2, σ1, S2, st3, rp3, ?_⟩⟩
          have h5 := PostS.weak h4 (List.prefix_refl _) (ld.trans le3)
          have h6 : PostS X.K Θ ρ2 H'' (match mb σ1 S2 with
            | .nx σ s => if M.gdOk gd s then M.forL gd (M.forF g mb) (xs.drop (i + 1)) σ s else .no
            | .ct σ s => if M.gdOk gd s then M.forL gd (M.forF g mb) (xs.drop (i + 1)) σ s else .no
            | .bk σ s => .nx σ s
            | r => r) D := h5
          have more : ∀ (a : M.St) (s : M.S), PostS X.K Θ ρ2 H'' (if M.gdOk gd s then M.forL gd (M.forF g mb) (xs.drop (i + 1)) a s else .no) D → ∀ ρ4 H4 σ4, ρ2 <+: ρ4 → Le H'' H4 → RepS X.K Θ ρ4 s H4 → RelSt X.K ρ4 H4 a σ4 →
              ∃ ρ3 σ3' S3, ρ1 <+: ρ3 ∧ Le H1 H4 ∧ RelSt X.K ρ3 H4 σ3' σ4 ∧ RepS X.K Θ ρ3 S3 H4 ∧ M.gdOk gd S3 = true ∧ PostS X.K Θ ρ3 H4 (M.forL gd (M.forF g mb) (xs.drop (i + 1)) σ3' S3) D := fun a s h7 ρ4 H4 σ4 p4 l4 rp4 st4 => by
            by_cases hs : M.gdOk gd s = true
            · rw [if_pos hs] at h7
              exact ⟨ρ4, a, s, p2.trans p4, l2.trans (ld.trans (le3.trans l4)), st4, rp4, hs, PostS.weak h7 p4 l4⟩
            · rw [if_neg hs] at h7; exact h7.elim
          revert h6
          cases mb σ1 S2 with
          | nx a s => exact fun h6 => more a s h6
          | ct a s => exact fun h6 => more a s h6
          | bk a s => exact fun h6 => h6
          | rt a s => exact fun h6 => h6
          | exc e a s => exact fun h6 => h6
          | no => exact fun h6 => h6
      · have e : i = xs.length := by omega
        subst e
        rw [List.drop_length] at h3
        exact .inl ⟨itr.stop ρ2 S2 H2 p2 l2 rp2 g2, PostS.nx (σ := σ2) h3 rp2 st2⟩⟩
theorem w_ms_for {tg iter : Expr} {body : List Stmt} {it : M.IM} {g : M.GM} {js : List Nat} {mb : M.SM} (hp : PassesOwn (model X.prog X.w) X.A X.env X.xe) (hc : X.calm = true) (hi : WI X Θ tg iter it) (hg : WG X Θ js tg g) (hb : WSs X Θ body mb)
    (hs : ∀ x, foldedSetIterable iter X.env x = pure x := by intro _; rfl) : WS X Θ (.For tg iter body [] pos) (M.sFor it g mb) := by with_unfolding_all exact ms_for (tg := tg) (iter := iter) (body := body) (it := it) (g := g) (js := js) (mb := mb) hp hc hi hg hb hs
theorem comp_W {K : PySem.W.Frag} {n : Nat} {it : M.IM} {g : M.GM} {js : List Nat} {tc : M.TM} {me : M.EM} {σ : St} {σ' : M.St} {S : M.S} {ρ : List Addr} {H : Hp} {R : List V → Hp → Prop} (st : RelSt K ρ H σ' σ) (rp : RepS K Θ ρ S H) (hj : ∀ j ∈ js, σ.length ≤ j)
    (h : Post K Θ (RelDs K) ρ H (M.compE n it g tc me σ' S) R) :
    RdI K Θ it σ H fun J H1 => ∃ W : Nat → Nat → List V → Hp → Prop, (∃ m, W 0 m [] H1) ∧ ∀ i m ys H2, W i m ys H2 → ys.length ≤ sizeLine ∧
      ((J.stop i H2 ∧ R ys H2) ∨
       (J.go i H2 ∧ ∀ x H3, J.yld i H2 x H3 → RdG K Θ js g x (σ ++ List.replicate n none) H3 fun σ2 H4 => Wk (σ ++ List.replicate n none) σ2 ∧ RdT K Θ tc σ2 H4 fun b H5 =>
          if b = true then RdE K Θ me σ2 H5 fun y H6 => ∃ m', m' < m ∧ W (i + 1) m' (ys ++ [y]) H6 else ∃ m', m' < m ∧ W (i + 1) m' ys H5)) := by
  refine ⟨ρ, σ', S, st, rp, ?_⟩
  have h' : Post K Θ (RelDs K) ρ H ((it σ' S).bind fun p s => if p.1.length ≤ M.SZ ∧ M.gdOk p.2 s = true then M.compL p.2 (M.compF n g tc me σ') p.1 s else .no) R := h
  cases hit : it σ' S with
  | no => rw [hit] at h'; exact h'.elim
  | exc a s => rw [hit] at h'; exact h'.elim
  | ok p S1 =>
    rw [hit] at h'
    obtain ⟨xs, gd⟩ := p
    show Post K Θ _ ρ H (if M.gdOk gd S1 then M.R.ok (xs, gd) S1 else .no) _
    have h2 : Post K Θ (RelDs K) ρ H (if xs.length ≤ M.SZ ∧ M.gdOk gd S1 = true then M.compL gd (M.compF n g tc me σ') xs S1 else .no) R := h'
    by_cases hgd : xs.length ≤ M.SZ ∧ M.gdOk gd S1 = true
    case neg => rw [if_neg hgd] at h2; exact h2.elim
    rw [if_pos hgd] at h2
    rw [if_pos hgd.2]
    intro ρ1 H1 J p1 l1 rp1 (itr : ItR K Θ ρ1 H1 J xs gd)
    refine ⟨fun i k ys H2 => ∃ ρ2 S2 ds, ρ1 <+: ρ2 ∧ Le H1 H2 ∧ RepS K Θ ρ2 S2 H2 ∧ M.gdOk gd S2 = true ∧ RelDs K ρ2 H2 ds ys ∧ ds.length ≤ i ∧ k = xs.length - i ∧ i ≤ xs.length ∧ Post K Θ (RelDs K) ρ2 H2 ((M.compL gd (M.compF n g tc me σ') (xs.drop i) S2).bind fun es s => .ok (ds ++ es) s) R,
      ⟨xs.length, ρ1, S1, [], List.prefix_refl _, Le.refl _, rp1, hgd.2, rfl, Nat.le_refl _, rfl, Nat.zero_le _, ?_⟩, ?_⟩
    · have h3 := Post.weak h2 p1 l1
      revert h3
      show Post K Θ (RelDs K) ρ1 H1 (M.compL gd (M.compF n g tc me σ') xs S1) R → _
      rw [List.drop_zero]
      cases M.compL gd (M.compF n g tc me σ') xs S1 with
      | ok a s => exact fun h3 => h3
      | exc e s => exact fun h3 => h3
      | no => exact fun h3 => h3
    rintro i k ys H2 ⟨ρ2, S2, ds, p2, l2, rp2, g2, rds, hdl, rfl, hi2, h3⟩
    refine ⟨by rw [← rds.length, ← SZ_eq]; omega, ?_⟩
    by_cases hlt : i < xs.length
    · refine .inr ⟨itr.go i ρ2 S2 H2 p2 l2 rp2 g2 hlt, fun x H3 y => ?_⟩
      obtain ⟨d, ed, rd, ld, rpd⟩ := itr.yld i ρ2 S2 H2 x H3 p2 l2 rp2 g2 hlt y
      have edr : xs.drop i = d :: xs.drop (i + 1) := by
        obtain ⟨_, e⟩ := List.getElem?_eq_some_iff.mp ed
        rw [List.drop_eq_getElem_cons hlt, e]
      rw [edr] at h3
      have h4 : Post K Θ (RelDs K) ρ2 H2 (((match g d (σ' ++ List.replicate n none) with
          | none => M.R.no
          | some σ1 => (tc σ1 S2).bind fun b s => if b then (me σ1 s).bind fun d s => .ok (some d) s else .ok none s).bind fun o s =>
            if M.gdOk gd s then (M.compL gd (M.compF n g tc me σ') (xs.drop (i + 1)) s).bind fun ys s => .ok (match o with | some y => y :: ys | none => ys) s else .no).bind fun es s => .ok (ds ++ es) s) R := h3
      cases hgq : g d (σ' ++ List.replicate n none) with
      | none => rw [hgq] at h4; exact h4.elim
      | some σ1 =>
        rw [hgq] at h4
        refine ⟨ρ2, σ' ++ List.replicate n none, S2, d, ((st.mono (p1.trans p2) (l1.trans (l2.trans ld))).more n), rpd, rd, σ1, hgq, fun H4 σ2 le4 rp4 st4 hl4 hj4 => ⟨⟨hl4.symm, fun j v e => ?_⟩, ρ2, σ1, S2, st4, rp4, ?_⟩⟩
        · by_cases hjj : j ∈ js
          · rw [List.getElem?_append_right (hj j hjj), List.getElem?_replicate] at e
            split at e <;> cases e
          · rw [hj4 j hjj]; exact e
        · have h5 := Post.weak h4 (List.prefix_refl _) (ld.trans le4)
          dsimp only at h5
          cases htc : tc σ1 S2 with
          | no => rw [htc] at h5; exact h5.elim
          | exc a s => rw [htc] at h5; exact h5.elim
          | ok b S3 =>
            rw [htc] at h5
            intro ρ5 H5 b' p5 l5 rp5 eb
            cases eb
            have next : ∀ (o : Option M.D) (s : M.S) (ρ6 : List Addr) (H6 : Hp) (zs : List V), ρ2 <+: ρ6 → Le H4 H6 → RepS K Θ ρ6 s H6 → RelDs K ρ6 H6 (match o with | some y => ds ++ [y] | none => ds) zs →
                Post K Θ (RelDs K) ρ6 H6 ((if M.gdOk gd s then (M.compL gd (M.compF n g tc me σ') (xs.drop (i + 1)) s).bind fun ys s => .ok (match o with | some y => y :: ys | none => ys) s else .no).bind fun es s => .ok (ds ++ es) s) R →
                ∃ m', m' < xs.length - i ∧ ∃ ρ2 S2 es, ρ1 <+: ρ2 ∧ Le H1 H6 ∧ RepS K Θ ρ2 S2 H6 ∧ M.gdOk gd S2 = true ∧ RelDs K ρ2 H6 es zs ∧ es.length ≤ i + 1 ∧ m' = xs.length - (i + 1) ∧ i + 1 ≤ xs.length ∧
                  Post K Θ (RelDs K) ρ2 H6 ((M.compL gd (M.compF n g tc me σ') (xs.drop (i + 1)) S2).bind fun fs s => .ok (es ++ fs) s) R := fun o s ρ6 H6 zs p6 l6 rp6 rz h6 => by
              by_cases hs : M.gdOk gd s = true
              case neg => rw [if_neg hs] at h6; exact h6.elim
              rw [if_pos hs] at h6
              refine ⟨xs.length - (i + 1), by omega, ρ6, s, _, p2.trans p6, l2.trans (ld.trans (le4.trans l6)), rp6, hs, rz, ?_, rfl, hlt, ?_⟩
              · cases o <;> simp <;> omega
              · revert h6
                cases M.compL gd (M.compF n g tc me σ') (xs.drop (i + 1)) s with
                | ok a s2 =>
                  intro h6
                  cases o with
                  | none => exact h6
                  | some y =>
                    show Post K Θ (RelDs K) ρ6 H6 (.ok (ds ++ [y] ++ a) s2) R
                    rw [List.append_assoc]
                    exact h6
                | exc e s => exact fun h6 => h6
                | no => exact fun h6 => h6
            cases b with
            | false => exact iteF (next none S3 ρ5 H5 ys p5 l5 rp5 (rds.mono p5 (ld.trans (le4.trans l5))) (Post.weak h5 p5 l5))
            | true =>
              refine iteT ⟨ρ5, σ1, S3, st4.mono p5 l5, rp5, ?_⟩
              have h6 := Post.weak h5 p5 l5
              cases hme : me σ1 S3 with
              | no =>
                have h7 : Post K Θ (RelDs K) ρ5 H5 ((((me σ1 S3).bind fun d s => M.R.ok (some d) s).bind fun o s => if M.gdOk gd s then (M.compL gd (M.compF n g tc me σ') (xs.drop (i + 1)) s).bind fun ys s => .ok (match o with | some y => y :: ys | none => ys) s else .no).bind fun es s => .ok (ds ++ es) s) R := h6
                rw [hme] at h7; exact h7.elim
              | exc a s =>
                have h7 : Post K Θ (RelDs K) ρ5 H5 ((((me σ1 S3).bind fun d s => M.R.ok (some d) s).bind fun o s => if M.gdOk gd s then (M.compL gd (M.compF n g tc me σ') (xs.drop (i + 1)) s).bind fun ys s => .ok (match o with | some y => y :: ys | none => ys) s else .no).bind fun es s => .ok (ds ++ es) s) R := h6
                rw [hme] at h7; exact h7.elim
              | ok y S6 =>
                have h7 : Post K Θ (RelDs K) ρ5 H5 ((((me σ1 S3).bind fun d s => M.R.ok (some d) s).bind fun o s => if M.gdOk gd s then (M.compL gd (M.compF n g tc me σ') (xs.drop (i + 1)) s).bind fun ys s => .ok (match o with | some y => y :: ys | none => ys) s else .no).bind fun es s => .ok (ds ++ es) s) R := h6
                rw [hme] at h7
                intro ρ6 H6 v p6 l6 rp6 rv
                exact next (some y) S6 ρ6 H6 (ys ++ [v]) (p5.trans p6) (l5.trans l6) rp6 ((rds.mono (p5.trans p6) (ld.trans (le4.trans (l5.trans l6)))).app ⟨v, [], rfl, rv, rfl⟩) (Post.weak h7 p6 l6)
    · have e : i = xs.length := by omega
      subst e
      rw [List.drop_length] at h3
      refine .inl ⟨itr.stop ρ2 S2 H2 p2 l2 rp2 g2, ?_⟩
      have h4 : Post K Θ (RelDs K) ρ2 H2 (.ok (ds ++ []) S2) R := h3
      rw [List.append_nil] at h4
      exact h4.here rp2 rds
end
end L2
namespace L2
open PySem PySem.Spec PyProof.Rows
section
variable {X : Cx} {Θ : Tab} {pos : Pos} {vars : List Str} {scope : Scope} {cl : List (Str × Addr)} {tg elt iter : Expr} {ifs : List Expr} {it : M.IM} {g : M.GM} {js : List Nat} {tc : M.TM} {me : M.EM}
theorem comp_rd {pins : List (Addr × Obj)} {s : Shared} {σ : St} {H : Hp} (I : Inv X pins σ H s) (hj : ∀ j ∈ js, X.N.length ≤ j) {ρ : List Addr} {σ' : M.St} {S : M.S} (st : RelSt X.K ρ H σ' σ) (rp : RepS X.K Θ ρ S H) {Q : VK} {n : Nat}
    (h : Post X.K Θ (RelDs X.K) ρ H (M.compE n it g tc me σ' S) fun ys H2 => ∀ D, H2 D = none → Q (.ref D) (upd H2 D (.lst ys))) :
    tComp n (RdI X.K Θ it) (RdG X.K Θ js g) (RdT X.K Θ tc) (RdE X.K Θ me) σ H Q := comp_W st rp (fun j hjj => by rw [I.len]; exact hj j hjj) h
theorem me_comp (hc : X.calm = true) (C : CompScope X vars scope cl) (hi : MI X Θ tg iter it) (hg : ∀ C fp s₂ H₂, MG (compCx X vars scope cl C fp s₂ H₂) Θ js tg g) (ht : ∀ C fp s₂ H₂, PIfs (compCx X vars scope cl C fp s₂ H₂) ifs (RdT X.K Θ tc))
    (he : ∀ C fp s₂ H₂, ME (compCx X vars scope cl C fp s₂ H₂) Θ elt me) (hj' : (js.all fun j => decide (X.N.length ≤ j)) = true) (hs : ∀ x, foldedSetIterable iter X.env x = pure x := by intro _; rfl) : ME X Θ (.ListComp elt [⟨tg, iter, ifs, 0⟩] scope pos) (M.eComp vars.length it g tc me) := by
  intro pins s σ H Q I ⟨ρ, σ', S, st, rp, h⟩
  have hj : ∀ j ∈ js, X.N.length ≤ j := fun j hjj => of_decide_eq_true (List.all_eq_true.mp hj' j hjj)
  exact pe_comp hc C hi hg ht he hs pins s σ H Q I (comp_rd I hj st rp (Post.bind h fun ρ1 H1 ds ys S1 p1 l1 rp1 r1 h1 D hD => h1.alloc rp1 r1 hD))
theorem w_me_comp (hc : X.calm = true) (C : CompScope X vars scope cl) (hi : WI X Θ tg iter it) (hg : ∀ C fp s₂ H₂, WG (compCx X vars scope cl C fp s₂ H₂) Θ js tg g) (ht : ∀ C fp s₂ H₂, PIfs (compCx X vars scope cl C fp s₂ H₂) ifs (RdT X.K Θ tc))
    (he : ∀ C fp s₂ H₂, WE (compCx X vars scope cl C fp s₂ H₂) Θ elt me) (hj' : (js.all fun j => decide (X.N.length ≤ j)) = true) (hs : ∀ x, foldedSetIterable iter X.env x = pure x := by intro _; rfl) : WE X Θ (.ListComp elt [⟨tg, iter, ifs, 0⟩] scope pos) (M.eComp vars.length it g tc me) := by with_unfolding_all exact me_comp hc C hi hg ht he hj' hs
theorem ms_setcomp {i : Nat} {y : Str} {py spos : Pos} (hc : X.calm = true) (C : CompScope X vars scope cl) (hN : X.N.Nodup) (hiy : X.N[i]? = some y) (hy : Loc X.env.scope y) (hi : MI X Θ tg iter it) (hg : ∀ C fp s₂ H₂, MG (compCx X vars scope cl C fp s₂ H₂) Θ js tg g) (ht : ∀ C fp s₂ H₂, PIfs (compCx X vars scope cl C fp s₂ H₂) ifs (RdT X.K Θ tc))
    (he : ∀ C fp s₂ H₂, ME (compCx X vars scope cl C fp s₂ H₂) Θ elt me) (hj' : (js.all fun j => decide (X.N.length ≤ j)) = true) (hs : ∀ x, foldedSetIterable iter X.env x = pure x := by intro _; rfl)
    (hsw : swapsWith (.ListComp elt [⟨tg, iter, ifs, 0⟩] scope pos) (some (.Name y py)) spos.line X.env = pure true := by rfl)
    (hf : X.fn y = true ∨ X.env.scope.names.lookup y = some .local := by first | exact .inl rfl | exact .inr rfl | assumption) :
    MS X Θ (.Assign [.Name y py] (.ListComp elt [⟨tg, iter, ifs, 0⟩] scope pos) spos) (M.sSet i (M.eComp vars.length it g tc me)) := by
  intro pins s σ H D I ⟨ρ, σ', S, st, rp, h⟩
  have hj : ∀ j ∈ js, X.N.length ≤ j := fun j hjj => of_decide_eq_true (List.all_eq_true.mp hj' j hjj)
  refine ps_setcomp hc C hN hiy hy hi hg ht he hs hsw hf pins s σ H D I (comp_rd I hj st rp ?_)
  have h' : PostS X.K Θ ρ H (((M.compE vars.length it g tc me σ' S).bind fun ys s => M.alloc (.lst ys) s).stm σ' fun d s => .nx (σ'.set i (some d)) s) D := h
  cases hm : M.compE vars.length it g tc me σ' S with
  | no => rw [hm] at h'; exact h'.elim
  | exc a s => rw [hm] at h'; exact h'.elim
  | ok ds S1 =>
    rw [hm] at h'
    intro ρ1 H1 ys p1 l1 rp1 r1 E hE
    have h2 : PostS X.K Θ ρ H (.nx (σ'.set i (some (.ref S1.length))) (S1 ++ [.lst ds])) D := h'
    have rp2 : RepS X.K Θ (ρ1 ++ [E]) (S1 ++ [.lst ds]) (upd H1 E (.lst ys)) := rp1.alloc hE ⟨ys, upd_same, r1.mono (List.prefix_append _ _) (Le.new hE _)⟩
    exact h2 (ρ1 ++ [E]) _ _ (p1.trans (List.prefix_append _ _)) (l1.trans (Le.new hE _)) rp2 (((st.mono p1 l1).mono (List.prefix_append _ _) (Le.new hE _)).set (show RelD X.K (ρ1 ++ [E]) (upd H1 E (.lst ys)) (.ref S1.length) (.ref E) from ⟨E, rfl, by rw [← rp1.len]; simp⟩) i)
theorem w_ms_setcomp {i : Nat} {y : Str} {py spos : Pos} (hc : X.calm = true) (C : CompScope X vars scope cl) (hN : X.N.Nodup) (hiy : X.N[i]? = some y) (hy : Loc X.env.scope y) (hi : WI X Θ tg iter it) (hg : ∀ C fp s₂ H₂, WG (compCx X vars scope cl C fp s₂ H₂) Θ js tg g) (ht : ∀ C fp s₂ H₂, PIfs (compCx X vars scope cl C fp s₂ H₂) ifs (RdT X.K Θ tc))
    (he : ∀ C fp s₂ H₂, WE (compCx X vars scope cl C fp s₂ H₂) Θ elt me) (hj' : (js.all fun j => decide (X.N.length ≤ j)) = true) (hs : ∀ x, foldedSetIterable iter X.env x = pure x := by intro _; rfl)
    (hsw : swapsWith (.ListComp elt [⟨tg, iter, ifs, 0⟩] scope pos) (some (.Name y py)) spos.line X.env = pure true := by rfl)
    (hf : X.fn y = true ∨ X.env.scope.names.lookup y = some .local := by first | exact .inl rfl | exact .inr rfl | assumption) :
    WS X Θ (.Assign [.Name y py] (.ListComp elt [⟨tg, iter, ifs, 0⟩] scope pos) spos) (M.sSet i (M.eComp vars.length it g tc me)) := by with_unfolding_all exact ms_setcomp (i := i) (y := y) (py := py) (spos := spos) hc C hN hiy hy hi hg ht he hj' hs hsw hf
def AdK (K : PySem.W.Frag) (Θ : Tab) (k : List M.D → M.S → M.R M.D) (r : List V → Hp → VK → Prop) : Prop := ∀ ρ H S ds ys p Q, RepS K Θ ρ S H → RelDs K ρ H ds ys → SqL K H p ys → Post K Θ (RelD K) ρ H (k ds S) Q → r [.ref p] H Q
theorem me_callC {x : Str} {p : Pos} {id : String} {pos2 : Pos} {k : List M.D → M.S → M.R M.D} {r : List V → Hp → VK → Prop} (hcr : CallR X (.builtin id) r) (ad : AdK X.K Θ k r) (hgl : Gl X x) (hm : X.mg x = none) (hv : bootBuiltins x = some (.builtin id))
    (hc : X.calm = true) (C : CompScope X vars scope cl) (hi : MI X Θ tg iter it) (hg : ∀ C fp s₂ H₂, MG (compCx X vars scope cl C fp s₂ H₂) Θ js tg g) (ht : ∀ C fp s₂ H₂, PIfs (compCx X vars scope cl C fp s₂ H₂) ifs (RdT X.K Θ tc))
    (he : ∀ C fp s₂ H₂, ME (compCx X vars scope cl C fp s₂ H₂) Θ elt me) (hj' : (js.all fun j => decide (X.N.length ≤ j)) = true) (hs : ∀ x, foldedSetIterable iter X.env x = pure x := by intro _; rfl)
    (hn : x ≠ "__name__" := by decide) (hdb : (x == ("__debug__" : Str)) = false := by decide)
    :
    ME X Θ (.Call (.Name x p) [.ListComp elt [⟨tg, iter, ifs, 0⟩] scope pos] [] pos2) (M.eCompK k vars.length it g tc me) := by
  intro pins s σ H Q I ⟨ρ, σ', S, st, rp, h⟩
  have hj : ∀ j ∈ js, X.N.length ≤ j := fun j hjj => of_decide_eq_true (List.all_eq_true.mp hj' j hjj)
  refine pe_callB hcr hgl hm hv (pa_cons (pe_comp (g := RdG X.K Θ js g) (ti := RdT X.K Θ tc) (te := RdE X.K Θ me) hc C hi hg ht he hs) pa_nil (star_cons rfl)) hn hdb (star_cons rfl) rfl pins s σ H Q I ?_
  show tComp vars.length _ _ _ _ σ H (fun x H1 => r [x] H1 Q)
  refine comp_rd I hj st rp (Post.bind h fun ρ1 H1 ds ys S1 p1 l1 rp1 r1 h1 D hD => ?_)
  exact ad ρ1 _ S1 ds ys D Q (rp1.aside hD _) (r1.mono (List.prefix_refl _) (Le.new hD _)) (SqL.of upd_same) (Post.weak h1 (List.prefix_refl _) (Le.new hD _))
theorem w_me_callC {x : Str} {p : Pos} {id : String} {pos2 : Pos} {k : List M.D → M.S → M.R M.D} {r : List V → Hp → VK → Prop} (hcr : CallR X (.builtin id) r) (ad : AdK X.K Θ k r) (hgl : Gl X x) (hm : X.mg x = none) (hv : bootBuiltins x = some (.builtin id))
    (hc : X.calm = true) (C : CompScope X vars scope cl) (hi : WI X Θ tg iter it) (hg : ∀ C fp s₂ H₂, WG (compCx X vars scope cl C fp s₂ H₂) Θ js tg g) (ht : ∀ C fp s₂ H₂, PIfs (compCx X vars scope cl C fp s₂ H₂) ifs (RdT X.K Θ tc))
    (he : ∀ C fp s₂ H₂, WE (compCx X vars scope cl C fp s₂ H₂) Θ elt me) (hj' : (js.all fun j => decide (X.N.length ≤ j)) = true) (hs : ∀ x, foldedSetIterable iter X.env x = pure x := by intro _; rfl)
    (hn : x ≠ "__name__" := by decide) (hdb : (x == ("__debug__" : Str)) = false := by decide)
    :
    WE X Θ (.Call (.Name x p) [.ListComp elt [⟨tg, iter, ifs, 0⟩] scope pos] [] pos2) (M.eCompK k vars.length it g tc me) := by with_unfolding_all exact me_callC (x := x) (p := p) (id := id) (pos2 := pos2) (k := k) (r := r) hcr ad hgl hm hv hc C hi hg ht he hj' hs hn hdb
theorem me_joinC {y : M.T} {z : Str} {j : Nat} {p apos cpos : Pos} (hz : z = ofT y) (hc : X.calm = true) (C : CompScope X vars scope cl) (hi : MI X Θ tg iter it) (hg : ∀ C fp s₂ H₂, MG (compCx X vars scope cl C fp s₂ H₂) Θ js tg g) (ht : ∀ C fp s₂ H₂, PIfs (compCx X vars scope cl C fp s₂ H₂) ifs (RdT X.K Θ tc))
    (he : ∀ C fp s₂ H₂, ME (compCx X vars scope cl C fp s₂ H₂) Θ elt me) (hj' : (js.all fun j => decide (X.N.length ≤ j)) = true) (ad : ∀ ρ H S ds ys p Q, RepS X.K Θ ρ S H → RelDs X.K ρ H ds ys → SqL X.K H p ys → Post X.K Θ (RelD X.K) ρ H (M.kJoin y ds S) Q → rJoin X.K (.str (ofT y)) [.ref p] H Q) (hs : ∀ x, foldedSetIterable iter X.env x = pure x := by intro _; rfl)
    (hline : (apos.endLine == cpos.line) = true := by rfl)
    :
    ME X Θ (.Call (.Attribute (.Constant (.str z) j p) "join" apos) [.ListComp elt [⟨tg, iter, ifs, 0⟩] scope pos] [] cpos) (M.eCompK (M.kJoin y) vars.length it g tc me) := by
  intro pins s σ H Q I ⟨ρ, σ', S, st, rp, h⟩
  have hj : ∀ j ∈ js, X.N.length ≤ j := fun j hjj => of_decide_eq_true (List.all_eq_true.mp hj' j hjj)
  subst hz
  refine pe_bm PySem.F.plainAttrs_str PySem.F.slot_str_join PySem.F.type_str_join mt_join pe_str (pa_cons (pe_comp (g := RdG X.K Θ js g) (ti := RdT X.K Θ tc) (te := RdE X.K Θ me) hc C hi hg ht he hs) pa_nil (star_cons rfl)) rfl (star_few rfl (show 1 < 30 by decide)) hline (star_cons rfl) rfl pins s σ H Q I ?_
  refine ⟨rfl, comp_rd I hj st rp (Post.bind h fun ρ1 H1 ds ys S1 p1 l1 rp1 r1 h1 D hD => ?_)⟩
  exact ad ρ1 _ S1 ds ys D Q (rp1.aside hD _) (r1.mono (List.prefix_refl _) (Le.new hD _)) (SqL.of upd_same) (Post.weak h1 (List.prefix_refl _) (Le.new hD _))
theorem w_me_joinC {y : M.T} {z : Str} {j : Nat} {p apos cpos : Pos} (hz : z = ofT y) (hc : X.calm = true) (C : CompScope X vars scope cl) (hi : WI X Θ tg iter it) (hg : ∀ C fp s₂ H₂, WG (compCx X vars scope cl C fp s₂ H₂) Θ js tg g) (ht : ∀ C fp s₂ H₂, PIfs (compCx X vars scope cl C fp s₂ H₂) ifs (RdT X.K Θ tc))
    (he : ∀ C fp s₂ H₂, WE (compCx X vars scope cl C fp s₂ H₂) Θ elt me) (hj' : (js.all fun j => decide (X.N.length ≤ j)) = true) (ad : ∀ ρ H S ds ys p Q, RepS X.K Θ ρ S H → RelDs X.K ρ H ds ys → SqL X.K H p ys → Post X.K Θ (RelD X.K) ρ H (M.kJoin y ds S) Q → rJoin X.K (.str (ofT y)) [.ref p] H Q) (hs : ∀ x, foldedSetIterable iter X.env x = pure x := by intro _; rfl)
    (hline : (apos.endLine == cpos.line) = true := by rfl)
    :
    WE X Θ (.Call (.Attribute (.Constant (.str z) j p) "join" apos) [.ListComp elt [⟨tg, iter, ifs, 0⟩] scope pos] [] cpos) (M.eCompK (M.kJoin y) vars.length it g tc me) := by with_unfolding_all exact me_joinC (y := y) (z := z) (j := j) (p := p) (apos := apos) (cpos := cpos) hz hc C hi hg ht he hj' ad hs hline
end
def SpM (K : PySem.W.Frag) (Θ : Tab) (n : Nat) (f : M.F) : Sp := fun vs H Q _ => ∃ ρ ds S, ds.length = n ∧ RelDs K ρ H ds vs ∧ RepS K Θ ρ S H ∧ Post K Θ (RelD K) ρ H (f ds S) Q
def Arity (m : M.AM) (n : Nat) : Prop := ∀ σ s xs s', m σ s = .ok xs s' → xs.length = n
theorem ar_nil : Arity M.aNil 0 := fun σ s xs s' h => by cases h; rfl
theorem ar_cons {a : M.EM} {r : M.AM} {n : Nat} (h : Arity r n) : Arity (M.aCons a r) (n + 1) := fun σ s xs s' e => by
  have e' : ((a σ s).bind fun x s => (r σ s).bind fun xs s => M.R.ok (x :: xs) s) = .ok xs s' := e
  cases ha : a σ s with
  | no => rw [ha] at e'; cases e'
  | exc a s => rw [ha] at e'; cases e'
  | ok d S1 =>
    rw [ha] at e'
    have e2 : ((r σ S1).bind fun xs s => M.R.ok (d :: xs) s) = .ok xs s' := e'
    cases hr : r σ S1 with
    | no => rw [hr] at e2; cases e2
    | exc a s => rw [hr] at e2; cases e2
    | ok ds S2 =>
      rw [hr] at e2
      cases e2
      rw [List.length_cons, h _ _ _ _ hr]
section
variable {X : Cx} {Θ : Tab} {pos p : Pos} {x : Str} {ps : List Str} {e : Expr} {es : List Expr} {f : M.F} {m : M.AM} {k kk n : Nat}
theorem me_call (h : Has X.prog X.w X.K X.mg X.base x k ps (SpM X.K Θ n f)) (hr : Room kk X.A) (hk : k ≤ kk) (hg : Gl X x) (ha : MA X Θ (e :: es) m) (ar : Arity m n) (hx : Passes CX0 X E0 := by exact pass0) (hdb : (x == ("__debug__" : Str)) = false := by decide)
    (he : notStar e = true := by rfl) (hpl : es.all notStar = true := by rfl) : ME X Θ (.Call (.Name x p) (e :: es) [] pos) (M.eCall f m) :=
  (pe_callH h hr hk hg ha hx hdb (star_cons he) (star_any hpl)).imp fun σ H Q ⟨ρ, σ', S, st, rp, h⟩ => ⟨ρ, σ', S, st, rp, by
    have h' : Post X.K Θ (RelD X.K) ρ H ((m σ' S).bind fun xs s => f xs s) Q := h
    cases hm : m σ' S with
    | no => rw [hm] at h'; exact h'.elim
    | exc a s => rw [hm] at h'; exact h'.elim
    | ok ds S1 =>
      rw [hm] at h'
      intro ρ1 H1 vs p1 l1 rp1 r1
      rw [List.append_nil]
      exact ⟨ρ1, ds, S1, ar _ _ _ _ hm, r1, rp1, Post.weak h' p1 l1⟩⟩
theorem w_me_call (h : Has X.prog X.w X.K X.mg X.base x k ps (SpM X.K Θ n f)) (hr : Room kk X.A) (hk : k ≤ kk) (hg : Gl X x) (ha : WA X Θ (e :: es) m) (ar : Arity m n) (hx : Passes CX0 X E0 := by exact pass0) (hdb : (x == ("__debug__" : Str)) = false := by decide)
    (he : notStar e = true := by rfl) (hpl : es.all notStar = true := by rfl) : WE X Θ (.Call (.Name x p) (e :: es) [] pos) (M.eCall f m) := by with_unfolding_all exact me_call h hr hk hg ha ar hx hdb he hpl
theorem me_call0 (h : Has X.prog X.w X.K X.mg X.base x k ps (SpM X.K Θ 0 f)) (hr : Room kk X.A) (hk : k ≤ kk) (hg : Gl X x) (hx : Passes CX0 X E0 := by exact pass0) (hdb : (x == ("__debug__" : Str)) = false := by decide) :
    ME X Θ (.Call (.Name x p) [] [] pos) (M.eCall f M.aNil) :=
  (pe_callH0 h hr hk hg hx hdb).imp fun σ H Q ⟨ρ, σ', S, st, rp, h⟩ => ⟨ρ, [], S, rfl, rfl, rp, h⟩
theorem w_me_call0 (h : Has X.prog X.w X.K X.mg X.base x k ps (SpM X.K Θ 0 f)) (hr : Room kk X.A) (hk : k ≤ kk) (hg : Gl X x) (hx : Passes CX0 X E0 := by exact pass0) (hdb : (x == ("__debug__" : Str)) = false := by decide) :
    WE X Θ (.Call (.Name x p) [] [] pos) (M.eCall f M.aNil) := by with_unfolding_all exact me_call0 h hr hk hg hx hdb
end
section
variable {K : PySem.W.Frag} {Θ : Tab} {ρ ρ' : List Addr} {H : Hp} {e : List Nat}
mutual
theorem RelD.unren (hρ : ∀ (i j : Nat) a, e[i]? = some j → ρ[j]? = some a → ρ'[i]? = some a) : ∀ {d : M.D} {v : V}, M.D.cl e.length d = true → RelD K ρ H (M.D.ren e d) v → RelD K ρ' H d v
  | .non, _, _, h => h
  | .bl _, _, _, h => h
  | .int _, _, _, h => h
  | .str _, _, _, h => h
  | .ty _, _, _, h => h
  | .ref i, _, c, ⟨a, h1, h2⟩ => by
    have hi : i < e.length := of_decide_eq_true c
    refine ⟨a, h1, hρ i (e.getD i i) a ?_ h2⟩
    rw [List.getD_eq_getElem?_getD, List.getElem?_eq_getElem hi]; rfl
  | .tup _, _, c, ⟨a, xs, h1, h2, h3⟩ => ⟨a, xs, h1, h2, RelDs.unren hρ c h3⟩
  | .ro _, _, c, ⟨a, xs, h1, h2, h3⟩ => ⟨a, xs, h1, h2, RelDs.unren hρ c h3⟩
theorem RelDs.unren (hρ : ∀ (i j : Nat) a, e[i]? = some j → ρ[j]? = some a → ρ'[i]? = some a) : ∀ {ds : List M.D} {xs : List V}, M.D.cl.all e.length ds = true → RelDs K ρ H (M.D.ren.all e ds) xs → RelDs K ρ' H ds xs
  | [], _, _, h => h
  | d :: ds, _, c, ⟨y, ys, h1, h2, h3⟩ => by
    have c' : (M.D.cl e.length d && M.D.cl.all e.length ds) = true := c
    rw [Bool.and_eq_true] at c'
    exact ⟨y, ys, h1, RelD.unren hρ c'.1 h2, RelDs.unren hρ c'.2 h3⟩
end
theorem ObR.unren (hρ : ∀ (i j : Nat) a, e[i]? = some j → ρ[j]? = some a → ρ'[i]? = some a) {a : Addr} {o : M.O} (c : M.O.cl e.length o = true) (h : ObR K Θ ρ H a (M.O.ren e o)) : ObR K Θ ρ' H a o := by
  cases o with
  | lst ds => obtain ⟨xs, h1, h2⟩ := h; exact ⟨xs, h1, RelDs.unren hρ c h2⟩
  | dct kvs =>
    obtain ⟨ks, h1, h2⟩ := h
    refine ⟨ks, h1, ?_⟩
    have c' : ∀ p ∈ kvs, (M.D.cl e.length p.1 && M.D.cl e.length p.2) = true := List.all_eq_true.mp c
    clear h1
    revert h2 c'
    clear c
    induction kvs generalizing ks with
    | nil => intro h2 c'; cases h2; exact .nil
    | cons p kvs ih =>
      intro h2 c'
      rw [List.map_cons] at h2
      cases h2 with
      | cons r1 r2 =>
        have c1 := c' p List.mem_cons_self
        rw [Bool.and_eq_true] at c1
        refine .cons ⟨?_, RelD.unren hρ c1.2 r1.2⟩ (ih _ r2 (fun q hq => c' q (List.mem_cons_of_mem _ hq)))
        have hk := r1.1
        revert hk
        cases p.1 <;> exact fun hk => hk
  | ins cc fs =>
    obtain ⟨C, dx, gs, N, h1, h2, h3⟩ := h
    refine ⟨C, dx, gs, N, h1, h2, by rw [← h3.len]; simp, h3.nd, h3.within, fun i f d q1 q2 => ?_⟩
    obtain ⟨v, k1, k2⟩ := h3.get i f (M.D.ren e d) q1 (by rw [List.getElem?_map, q2]; rfl)
    refine ⟨v, k1, RelD.unren hρ ?_ k2⟩
    have := List.all_eq_true.mp c (some d) (List.mem_of_getElem? q2)
    exact this
theorem Post.gc {S S' S1 : M.S} {d : M.D} {Q : VK} (em : M.Emb S.length e S' S1) (cd : M.D.cl S'.length d = true) (rp : RepS K Θ ρ S H) (h : Post K Θ (RelD K) ρ H (.ok d S') Q) : Post K Θ (RelD K) ρ H (.ok (M.D.ren e d) S1) Q := by
  intro ρ1 H1 v p1 l1 rp1 r1
  have hlt : ∀ {i j : Nat}, e[i]? = some j → j < ρ1.length := fun {i j} q => by
    have hi : i < S'.length := by rw [← em.len]; exact (List.getElem?_eq_some_iff.mp q).1
    obtain ⟨j', q1, q2, _⟩ := em.obj i S'[i] (by simp [hi])
    rw [q] at q1; cases q1
    rw [rp1.len]; exact (List.getElem?_eq_some_iff.mp q2).1
  have hρ : ∀ (i j : Nat) a, e[i]? = some j → ρ1[j]? = some a → (e.map fun j => ρ1.getD j 0)[i]? = some a := fun i j a q1 q2 => by
    rw [List.getElem?_map, q1, Option.map_some, List.getD_eq_getElem?_getD, q2]; rfl
  refine h (e.map fun j => ρ1.getD j 0) H1 v ?_ l1 ⟨by rw [List.length_map, em.len], ?_, fun i o q => ?_⟩ (RelD.unren hρ (by rw [em.len]; exact cd) r1)
  · refine List.prefix_iff_getElem?.mpr fun i hi => ?_
    have hi' : i < S.length := rp.len ▸ hi
    exact hρ i i _ (em.old i hi') (pre_get p1 (List.getElem?_eq_getElem hi))
  · refine nodup_of fun i j x a b => ?_
    rw [List.getElem?_map] at a b
    cases ei : e[i]? with
    | none => rw [ei] at a; cases a
    | some k =>
      cases ej : e[j]? with
      | none => rw [ej] at b; cases b
      | some l =>
        rw [ei, Option.map_some, List.getD_eq_getElem?_getD, List.getElem?_eq_getElem (hlt ei)] at a
        rw [ej, Option.map_some, List.getD_eq_getElem?_getD, List.getElem?_eq_getElem (hlt ej)] at b
        have e1 : ρ1[k]'(hlt ei) = x := by simpa using a
        have e2 : ρ1[l]'(hlt ej) = x := by simpa using b
        have e3 := nodup_get rp1.nd (hlt ei) (hlt ej) (e1.trans e2.symm)
        subst e3
        exact nodup_at em.nd ei ej
  · obtain ⟨j, q1, q2, q3⟩ := em.obj i o q
    obtain ⟨a, q4, q5⟩ := rp1.obj j _ q2
    exact ⟨a, hρ i j a q1 q4, ObR.unren hρ (by rw [em.len]; exact q3) q5⟩
end
section
variable {K : PySem.W.Frag} {Θ : Tab} {ρ : List Addr} {H : Hp}
mutual
theorem RelD.cl : ∀ {d : M.D} {v : V}, RelD K ρ H d v → M.D.cl ρ.length d = true
  | .non, _, _ => rfl
  | .bl _, _, _ => rfl
  | .int _, _, _ => rfl
  | .str _, _, _ => rfl
  | .ty _, _, _ => rfl
  | .ref _, _, ⟨a, _, h2⟩ => decide_eq_true (List.getElem?_eq_some_iff.mp h2).1
  | .tup _, _, ⟨_, _, _, _, h⟩ => RelDs.cl h
  | .ro _, _, ⟨_, _, _, _, h⟩ => RelDs.cl h
theorem RelDs.cl : ∀ {ds : List M.D} {xs : List V}, RelDs K ρ H ds xs → M.D.cl.all ρ.length ds = true
  | [], _, _ => rfl
  | d :: ds, _, ⟨_, _, _, h1, h2⟩ => by
    show (M.D.cl ρ.length d && M.D.cl.all ρ.length ds) = true
    rw [RelD.cl h1, RelDs.cl h2]; rfl
end
theorem RepS.cl {S : M.S} (rp : RepS K Θ ρ S H) : M.clS S.length S = true := by
  refine List.all_eq_true.mpr fun o ho => ?_
  obtain ⟨i, hi, rfl⟩ := List.mem_iff_getElem.mp ho
  obtain ⟨a, h1, h2⟩ := rp.obj i S[i] (by simp [hi])
  rw [← rp.len]
  revert h2
  cases S[i] with
  | lst ds => exact fun ⟨xs, _, r⟩ => r.cl
  | dct kvs =>
    intro ⟨ks, _, r⟩
    refine List.all_eq_true.mpr fun p hp => ?_
    have : ∀ {kvs : List (M.D × M.D)} {ks : List (Key × V)}, Paired (fun (p : M.D × M.D) (q : Key × V) => KeyR p.1 q.1 ∧ RelD K ρ H p.2 q.2) kvs ks → p ∈ kvs → (M.D.cl ρ.length p.1 && M.D.cl ρ.length p.2) = true := by
      intro kvs ks r hp
      induction r with
      | nil => cases hp
      | cons r1 r2 ih =>
        rcases List.mem_cons.mp hp with rfl | hp
        · rw [r1.2.cl, Bool.and_true]
          have hk := r1.1
          revert hk
          cases p.1 <;> first | exact fun _ => rfl | exact fun hk => hk.elim
        · exact ih hp
    exact this r hp
  | ins c fs =>
    intro ⟨C, dx, gs, N, _, _, r⟩
    refine List.all_eq_true.mpr fun od hod => ?_
    cases od with
    | none => rfl
    | some d =>
      obtain ⟨j, hj, ej⟩ := List.mem_iff_getElem.mp hod
      have hN : j < N.length := r.len ▸ hj
      obtain ⟨v, _, rv⟩ := r.get j N[j] d (by simp [hN]) (by rw [List.getElem?_eq_getElem hj, ej])
      exact rv.cl
end
section
variable {P : Program} {w : World} {K : PySem.W.Frag} {mg : Str → Option Value} {base : Heap} {Θ : Tab}
theorem start_rel {ρ : List Addr} {H : Hp} {ds : List M.D} {vs : List V} (r : RelDs K ρ H ds vs) (N : List Str) : RelSt K ρ H (ds.map some ++ List.replicate (N.length - ds.length) none) (start N vs) := by
  have hl := r.length
  refine ⟨by simp [start, hl], fun i d q => ?_⟩
  unfold start
  by_cases hi : i < ds.length
  · rw [List.getElem?_append_left (by simpa using hi), List.getElem?_map] at q
    cases e : ds[i]? with
    | none => rw [e] at q; cases q
    | some d' =>
      rw [e] at q
      cases q
      obtain ⟨v, e1, rv⟩ := r.get e
      refine ⟨v, ?_, rv⟩
      rw [List.getElem?_append_left (by simp; omega), List.getElem?_map, e1]; rfl
  · rw [List.getElem?_append_right (by simp; omega), List.getElem?_replicate] at q
    split at q <;> cases q
theorem fun_M {x qual : Str} {st : Stmt} {f : Addr} {fd : FuncData} {N ps : List Str} {k : Nat} {b : M.SM} {q : M.F} (F : Fun K x qual st f fd) (Sc : FnScope N ps (defScope st)) (rf : M.Refines ps.length (M.fn N.length b) q)
    (hbody : ∀ (cdv : Value) (A : Around) (outer : List Env) (s : Shared) (H : Hp) (E : XK), Room k (A.deeper (envOfC qual (defScope st) s.heap.objs.size f cdv)) →
      MSs (cxOf CX0 P w K mg base N qual (defScope st) f cdv A outer s H E).nox Θ (defBody st) b) : FnOk P w K mg base CX0 (k + 1) f fd ps (SpM K Θ ps.length q) := by
  refine F.ok (k := k) Sc (fun vs H Q E h => ?_) (fun cdv A outer s H vs Q E hr h => ?_)
  · obtain ⟨ρ, ds, S, hl, r, _⟩ := h
    rw [← r.length, hl]
  · obtain ⟨ρ, ds, S, hl, r, rp, h⟩ := h
    refine ⟨_, hbody cdv A outer s H E hr, ρ, _, S, start_rel r N, rp, ?_⟩
    rcases rf ds S hl rp.cl (rp.len ▸ r.cl) with e | ⟨d, S', S1, em, e1, e2, emb, cd⟩
    · rw [e] at h; exact h.elim
    · rw [e1] at h
      have h2 := Post.gc emb cd rp h
      have e3 : (b (ds.map some ++ List.replicate (N.length - ds.length) none) S).out = .ok (M.D.ren em d) S1 := e2
      show PostS K Θ ρ H (b (ds.map some ++ List.replicate (N.length - ds.length) none) S) _
      revert e3
      cases b (ds.map some ++ List.replicate (N.length - ds.length) none) S with
      | rt a s => intro e3; cases e3; exact h2
      | nx a s =>
        intro e3
        have e4 : M.R.ok M.D.non s = .ok (M.D.ren em d) S1 := e3
        injection e4 with e5 e6
        subst e6
        rw [← e5] at h2
        exact fun ρ1 H1 σ1 p1 l1 rp1 _ => h2 ρ1 H1 .non p1 l1 rp1 rfl
      | bk a s => intro e3; cases e3
      | ct a s => intro e3; cases e3
      | exc e a s => intro e3; cases e3
      | no => intro e3; cases e3
theorem w_fun_M {x qual : Str} {st : Stmt} {f : Addr} {fd : FuncData} {N ps : List Str} {k : Nat} {b : M.SM} {q : M.F} (F : Fun K x qual st f fd) (Sc : FnScope N ps (defScope st)) (rf : M.Refines ps.length (M.fn N.length b) q)
    (hbody : ∀ (cdv : Value) (A : Around) (outer : List Env) (s : Shared) (H : Hp) (E : XK), Room k (A.deeper (envOfC qual (defScope st) s.heap.objs.size f cdv)) →
      WSs (cxOf CX0 P w K mg base N qual (defScope st) f cdv A outer s H E).nox Θ (defBody st) b) : FnOk P w K mg base CX0 (k + 1) f fd ps (SpM K Θ ps.length q) := by with_unfolding_all exact fun_M (x := x) (qual := qual) (st := st) (f := f) (fd := fd) (N := N) (ps := ps) (k := k) (b := b) (q := q) F Sc rf hbody
end
end L2
namespace L2
open PySem PySem.Spec PyProof.Rows
section
variable {K : PySem.W.Frag} {Θ : Tab}
theorem ad_sub : Ad2 K Θ M.opSub uSub := by
  intro ρ H S x y X Y Q rp rx ry h
  cases x with
  | int i =>
    cases y with
    | int j => cases rx; cases ry; exact Post.here (b := V.int (i - j)) h rp rfl
    | _ => exact h.elim
  | _ => exact h.elim
theorem small_is {i : Int} (h : M.small i = true) : -(2 ^ 64) < i ∧ i < 2 ^ 64 := by
  have h' : i.natAbs < 18446744073709551616 := of_decide_eq_true h
  exact ⟨by omega, by omega⟩
theorem ad_div : Ad2 K Θ M.opDiv uDiv := by
  intro ρ H S x y X Y Q rp rx ry h
  cases x with
  | int i =>
    cases y with
    | int j =>
      cases rx; cases ry
      have h' : Post K Θ (RelD K) ρ H (if 0 < j ∧ j.natAbs < 1073741824 then M.R.ok (M.D.int (i / j)) S else .no) Q := h
      by_cases hc : 0 < j ∧ j.natAbs < 1073741824
      · rw [if_pos hc] at h'; exact ⟨⟨hc.1, by omega⟩, Post.here (b := V.int (i / j)) h' rp rfl⟩
      · rw [if_neg hc] at h'; exact h'.elim
    | _ => exact h.elim
  | _ => exact h.elim
theorem ad_mod : Ad2 K Θ M.opMod uMod := by
  intro ρ H S x y X Y Q rp rx ry h
  cases x with
  | int i =>
    cases y with
    | int j =>
      cases rx; cases ry
      have h' : Post K Θ (RelD K) ρ H (if 0 < j then M.R.ok (M.D.int (i % j)) S else .no) Q := h
      by_cases hc : 0 < j
      · rw [if_pos hc] at h'; exact ⟨hc, Post.here (b := V.int (i % j)) h' rp rfl⟩
      · rw [if_neg hc] at h'; exact h'.elim
    | _ => exact h.elim
  | _ => exact h.elim
theorem lst_at {ρ : List Addr} {S : M.S} {H : Hp} (rp : RepS K Θ ρ S H) {i : Nat} {a : Addr} (ha : ρ[i]? = some a) {xs : List M.D} (q : S[i]? = some (.lst xs)) : ∃ zs, H a = some (.lst zs) ∧ RelDs K ρ H xs zs := by
  obtain ⟨b, e1, zs, e2, r⟩ := rp.obj i _ q
  rw [ha] at e1; cases e1
  exact ⟨zs, e2, r⟩
theorem ad_add : Ad2 K Θ M.opAdd (fun x y H Q => uAdd x y H Q ∨ rCatT K x y H Q) := by
  intro ρ H S x y X Y Q rp rx ry h
  cases x with
  | int i =>
    cases y with
    | int j => cases rx; cases ry; exact .inl (Post.here (b := V.int (i + j)) h rp rfl)
    | _ => exact h.elim
  | str a =>
    cases y with
    | str b =>
      obtain ⟨rfl, oka⟩ := rx
      obtain ⟨rfl, okb⟩ := ry
      have h' : Post K Θ (RelD K) ρ H (if a.length + b.length ≤ M.SZ then M.R.ok (M.D.str (a ++ b)) S else .no) Q := h
      by_cases hc : a.length + b.length ≤ M.SZ
      · rw [if_pos hc] at h'
        refine .inl ⟨by rw [ofT_len, ofT_len, ← SZ_eq]; exact hc, ?_⟩
        rw [ofT_app]
        exact Post.here (b := V.str (ofT (a ++ b))) h' rp ⟨rfl, okT_app oka okb⟩
      · rw [if_neg hc] at h'; exact h'.elim
    | _ => exact h.elim
  | tup a =>
    cases y with
    | tup b =>
      obtain ⟨l, xs, rfl, hq, r⟩ := rx
      obtain ⟨l', ys, rfl, hq', r'⟩ := ry
      have h' : Post K Θ (RelD K) ρ H (if a ≠ [] ∧ a.length + b.length ≤ M.SZ then M.R.ok (M.D.tup (a ++ b)) S else .no) Q := h
      by_cases hc : a ≠ [] ∧ a.length + b.length ≤ M.SZ
      · rw [if_pos hc] at h'
        refine .inr ⟨l, l', xs, ys, rfl, rfl, hq, hq', fun z => hc.1 ?_, by rw [← r.length, ← r'.length, ← SZ_eq]; exact hc.2, fun hy => ?_, fun hy p hp => ?_⟩
        · subst z
          have := r.length
          exact List.length_eq_zero_iff.mp this
        · subst hy
          have hb : b = [] := List.length_eq_zero_iff.mp r'.length
          subst hb
          rw [List.append_nil] at h'
          exact Post.here h' rp ⟨l, xs, rfl, hq, r⟩
        · exact h' ρ _ _ (List.prefix_refl _) (Le.new hp _) (rp.aside hp _) ⟨p, _, rfl, SqT.of upd_same, (r.app r').mono (List.prefix_refl _) (Le.new hp _)⟩
      · rw [if_neg hc] at h'; exact h'.elim
    | _ => exact h.elim
  | ref i =>
    cases y with
    | ref j =>
      obtain ⟨a, rfl, ea⟩ := rx
      obtain ⟨b, rfl, eb⟩ := ry
      have h' : Post K Θ (RelD K) ρ H (match S[i]?, S[j]? with
        | some (.lst xs), some (.lst ys) => if xs.length + ys.length ≤ M.SZ then M.alloc (.lst (xs ++ ys)) S else .no
        | _, _ => .no) Q := h
      split at h'
      · rename_i xs ys q1 q2
        obtain ⟨zs, e1, r1⟩ := lst_at rp ea q1
        obtain ⟨ws, e2, r2⟩ := lst_at rp eb q2
        by_cases hc : xs.length + ys.length ≤ M.SZ
        · rw [if_pos hc] at h'
          exact .inl ⟨zs, ws, e1, e2, by rw [← r1.length, ← r2.length, ← SZ_eq]; exact hc, fun p hp => h'.alloc rp (r1.app r2) hp⟩
        · rw [if_neg hc] at h'; exact h'.elim
      · exact h'.elim
    | _ => exact h.elim
  | _ => exact h.elim
theorem ad_neg : Ad1 K Θ M.unNeg (rU fun i => .int (-i)) := by
  intro ρ H S x X Q rp rx h
  cases x with
  | int i => cases rx; exact ⟨i, rfl, Post.here (b := V.int (-i)) h rp rfl⟩
  | _ => exact h.elim
theorem ad_lt : AdC K Θ M.cLt uLt := by
  intro ρ H S x y X Y Q rp rx ry h
  cases x with
  | int i =>
    cases y with
    | int j => cases rx; cases ry; exact Post.here (b := decide (i < j)) h rp rfl
    | _ => exact h.elim
  | str a =>
    cases y with
    | str b =>
      obtain ⟨rfl, _⟩ := rx
      obtain ⟨rfl, _⟩ := ry
      show Q (.bl (decide ((ofT a).cps.toList < (ofT b).cps.toList))) H
      rw [ofT_list, ofT_list]
      exact Post.here (b := decide (a < b)) h rp rfl
    | _ => exact h.elim
  | _ => exact h.elim
theorem ad_gt : AdC K Θ M.cGt uGt := by
  intro ρ H S x y X Y Q rp rx ry h
  cases x with
  | int i =>
    cases y with
    | int j => cases rx; cases ry; exact Post.here (b := decide (j < i)) h rp rfl
    | _ => exact h.elim
  | _ => exact h.elim
theorem atI_rel {ρ : List Addr} {H : Hp} {ds : List M.D} {xs : List V} {i : Int} {d : M.D} (r : RelDs K ρ H ds xs) (e : M.atI ds i = some d) : ∃ v, atI xs i = some v ∧ RelD K ρ H d v := by
  unfold M.atI at e
  cases q : M.ixN ds.length i with
  | none => rw [q] at e; cases e
  | some j =>
    rw [q] at e
    obtain ⟨v, e1, rv⟩ := r.get (i := j) e
    have q' : ixN xs.length i = some j := by rw [← r.length]; exact q
    exact ⟨v, by unfold atI; rw [q']; exact e1, rv⟩
end
end L2
namespace L2
open PySem PySem.Spec PyProof.Rows
section
variable {K : PySem.W.Frag} {Θ : Tab}
theorem mt_tru {X : Cx} {a : Expr} {ma : M.EM} (ha : ME X Θ a ma) (he : ∀ whole, isTrue a X.env whole = (do let v ← whole; standAt a.pos; holding [v] (truthy v)) := by intro _; rfl) : MT X Θ a (M.tTru ma) :=
  (pt_truth ha he).imp fun σ H Q ⟨ρ, σ', S, st, rp, h⟩ => ⟨ρ, σ', S, st, rp, Post.bind h fun ρ1 H1 x X1 S1 p1 l1 rp1 rx h1 => by
    cases x with
    | non => cases rx; exact ⟨false, rfl, Post.here (b := false) h1 rp1 rfl⟩
    | bl b => cases rx; exact ⟨b, rfl, Post.here (b := b) h1 rp1 rfl⟩
    | int i => cases rx; exact ⟨_, rfl, Post.here (b := (i != 0)) h1 rp1 (by show decide (i ≠ 0) = (i != 0); by_cases hi : i = 0 <;> simp [hi])⟩
    | str z =>
      obtain ⟨rfl, _⟩ := rx
      by_cases hz : z.length ≤ M.SZ
      · simp only [M.truth, if_pos hz] at h1
        refine ⟨_, ⟨by rw [ofT_len, ← SZ_eq]; exact hz, rfl⟩, Post.here (b := (((ofT z).length : Int) != 0)) h1 rp1 ?_⟩
        show (!z.isEmpty) = _
        rw [ofT_len]
        cases z <;> simp <;> omega
      · simp only [M.truth, if_neg hz] at h1; exact h1.elim
    | tup ds =>
      obtain ⟨l, xs, rfl, hq, r⟩ := rx
      refine ⟨_, .inr (.inl ⟨xs, hq, rfl⟩), Post.here (b := !xs.isEmpty) h1 rp1 ?_⟩
      show (!ds.isEmpty) = _
      have := r.length
      cases ds <;> cases xs <;> first | rfl | cases this
    | ro ds =>
      obtain ⟨l, xs, rfl, hq, r⟩ := rx
      refine ⟨_, .inl ⟨xs, hq.sq, rfl⟩, Post.here (b := !xs.isEmpty) h1 rp1 ?_⟩
      show (!ds.isEmpty) = _
      have := r.length
      cases ds <;> cases xs <;> first | rfl | cases this
    | ref p =>
      obtain ⟨a, rfl, ea⟩ := rx
      cases q : S1[p]? with
      | none => simp [M.truth, q] at h1; exact h1.elim
      | some o =>
        cases o with
        | lst xs =>
          simp only [M.truth, q] at h1
          obtain ⟨zs, e1, r⟩ := lst_at rp1 ea q
          refine ⟨_, .inl ⟨zs, SqL.of e1, rfl⟩, Post.here (b := !zs.isEmpty) h1 rp1 ?_⟩
          show (!xs.isEmpty) = _
          have := r.length
          cases xs <;> cases zs <;> first | rfl | cases this
        | dct kvs =>
          simp only [M.truth, q] at h1
          obtain ⟨b, e1, zs, e2, r⟩ := rp1.obj _ _ q
          rw [ea] at e1; cases e1
          refine ⟨_, .inr (.inr ⟨zs, e2, rfl⟩), Post.here (b := !zs.isEmpty) h1 rp1 ?_⟩
          cases r <;> rfl
        | ins c fs => simp [M.truth, q] at h1; exact h1.elim
    | ty n => exact h1.elim⟩
theorem w_mt_tru {X : Cx} {a : Expr} {ma : M.EM} (ha : WE X Θ a ma) (he : ∀ whole, isTrue a X.env whole = (do let v ← whole; standAt a.pos; holding [v] (truthy v)) := by intro _; rfl) : WT X Θ a (M.tTru ma) := by with_unfolding_all exact mt_tru (X := X) (a := a) (ma := ma) ha he
inductive TyM (K : PySem.W.Frag) (H : Hp) : V → String → Prop where
  | of {x : V} {A : String} (h : TyOf K H x (.type A)) : TyM K H x A
  | sqT {a : Addr} {xs : List V} (h : SqT K H a xs) : TyM K H (.ref a) "tuple"
  | sqL {a : Addr} {xs : List V} (h : SqL K H a xs) : TyM K H (.ref a) "list"
def rIsK (K : PySem.W.Frag) : List V → Hp → VK → Prop := fun xs H Q => ∃ x n A b, xs = [x, .ty n] ∧ TyM K H x A ∧ PySem.W.kitOne K (.type A) (.type n) = some b ∧ Q (.bl b) H
theorem call_isK {X : Cx} : CallR X (.builtin "isinstance") (rIsK X.K) := by
  intro pins s σ H xs us Q I r h
  obtain ⟨x, n, A, b, rfl, ty, e, q⟩ := h
  obtain ⟨u, w', rfl, ru, rc⟩ := vals2 r
  cases rc
  cases ty with
  | of h => exact wpAny_with_toks (n := 1) I.tk (isinst_ok I ru h e fun tk hk => ⟨.bl b, H, I.tok tk hk, rfl, q⟩)
  | sqT h =>
    cases ru
    obtain ⟨its, _, ⟨o, h1, h2, _⟩, _⟩ := I.tuple h
    exact wpAny_with_toks (n := 1) I.tk (PySem.W.kia_one PySem.W.kitx_tuple I.kIn ⟨o, h1, h2⟩ e (fun z => nomatch z) fun tk hk => ⟨.bl b, H, I.tok tk hk, rfl, q⟩)
  | sqL h =>
    cases ru
    obtain ⟨its, _, ⟨o, n, h1, h2, _⟩, _⟩ := I.list h
    exact wpAny_with_toks (n := 1) I.tk (PySem.W.kia_one PySem.W.kitx_list I.kIn ⟨o, h1, h2⟩ e (fun z => nomatch z) fun tk hk => ⟨.bl b, H, I.tok tk hk, rfl, q⟩)
theorem kit_all (n : M.Kd) : PySem.W.kitOne K (.type "NoneType") (.type (kdName n)) = some false ∧ PySem.W.kitOne K (.type "bool") (.type (kdName n)) = some (match n with | .bool => true | .int => true | _ => false) ∧
    PySem.W.kitOne K (.type "int") (.type (kdName n)) = some (match n with | .int => true | _ => false) ∧ PySem.W.kitOne K (.type "str") (.type (kdName n)) = some (match n with | .str => true | _ => false) ∧
    PySem.W.kitOne K (.type "tuple") (.type (kdName n)) = some (match n with | .tuple => true | _ => false) ∧ PySem.W.kitOne K (.type "list") (.type (kdName n)) = some (match n with | .list => true | _ => false) ∧
    PySem.W.kitOne K (.type "dict") (.type (kdName n)) = some (match n with | .dict => true | _ => false) := by
  cases n <;> exact ⟨kit_ty (by decide +kernel), kit_ty (by decide +kernel), kit_ty (by decide +kernel), kit_ty (by decide +kernel), kit_ty (by decide +kernel), kit_ty (by decide +kernel), kit_ty (by decide +kernel)⟩
theorem ad_isi : AdN K Θ M.fIsi (rIsK K) := by
  intro ρ H S xs Xs Q rp rx h
  match xs, rx, h with
  | [x, .ty n], rx, h =>
    obtain ⟨v, _, rfl, rv, _, _, rfl, rfl, rfl⟩ := rx
    obtain ⟨k1, k2, k3, k4, k5, k6, k7⟩ := kit_all (K := K) n
    have fin : ∀ {A : String} {b : Bool}, M.isKind n x S = .ok b S → TyM K H v A → PySem.W.kitOne K (.type A) (.type (kdName n)) = some b → rIsK K [v, .ty (kdName n)] H Q := fun {A b} e ty k => by
      have h' : Post K Θ (RelD K) ρ H ((M.isKind n x S).bind fun b s => .ok (.bl b) s) Q := h
      rw [e] at h'
      exact ⟨v, kdName n, A, b, rfl, ty, k, Post.here (b := V.bl b) h' rp rfl⟩
    cases x with
    | non => cases rv; exact fin rfl (.of .non) k1
    | bl b => cases rv; exact fin rfl (.of (.bl b)) k2
    | int i => cases rv; exact fin rfl (.of (.int i)) k3
    | str z => obtain ⟨rfl, _⟩ := rv; exact fin rfl (.of (.str _)) k4
    | tup ds => obtain ⟨l, ys, rfl, hq, r⟩ := rv; exact fin rfl (.sqT hq) k5
    | ro ds => obtain ⟨l, ys, rfl, hq, r⟩ := rv; exact fin rfl (.sqL hq.sq) k6
    | ty m => exact h.elim
    | ref p =>
      obtain ⟨a, rfl, ea⟩ := rv
      cases q : S[p]? with
      | none => simp [M.fIsi, M.isKind, q] at h; exact h.elim
      | some o =>
        cases o with
        | lst xs =>
          obtain ⟨zs, e1, r⟩ := lst_at rp ea q
          refine fin ?_ (.sqL (SqL.of e1)) k6
          simp only [M.isKind, q] <;> (cases n <;> rfl)
        | dct kvs =>
          obtain ⟨b, e1, zs, e2, r⟩ := rp.obj _ _ q
          rw [ea] at e1; cases e1
          refine fin ?_ (.of (.dK e2)) k7
          simp only [M.isKind, q] <;> (cases n <;> rfl)
        | ins c fs => simp [M.fIsi, M.isKind, q] at h; exact h.elim
  | [_, .non], _, h => exact h.elim
  | [_, .bl _], _, h => exact h.elim
  | [_, .int _], _, h => exact h.elim
  | [_, .str _], _, h => exact h.elim
  | [_, .tup _], _, h => exact h.elim
  | [_, .ro _], _, h => exact h.elim
  | [_, .ref _], _, h => exact h.elim
  | [], _, h => exact h.elim
  | [_], _, h => exact h.elim
  | _ :: b :: _ :: _, _, h => cases b <;> exact h.elim
def ofP : M.P → PyData
  | .non => .none
  | .bl b => .bool b
  | .int i => .int i
  | .str x => .str (ofT x)
  | .tup ps => .tuple (all ps)
  | .lst ps => .list (all ps)
where all : List M.P → List PyData
  | [] => []
  | p :: ps => ofP p :: all ps
theorem beq_ofT (x y : M.T) : (ofT x == ofT y) = (x == y) := by
  by_cases h : x = y
  · subst h; simp
  · rw [beq_eq_false_iff_ne.mpr h, beq_eq_false_iff_ne.mpr fun e => h (ofT_inj e)]
mutual
theorem eqv_ofP : ∀ p q : M.P, PyData.eqv (ofP p) (ofP q) = M.P.eqv p q
  | .non, .non => rfl
  | .non, .bl _ => rfl
  | .non, .int _ => rfl
  | .non, .str _ => rfl
  | .non, .tup _ => rfl
  | .non, .lst _ => rfl
  | .bl _, .non => rfl
  | .bl _, .bl _ => rfl
  | .bl _, .int _ => rfl
  | .bl _, .str _ => rfl
  | .bl _, .tup _ => rfl
  | .bl _, .lst _ => rfl
  | .int _, .non => rfl
  | .int _, .bl _ => rfl
  | .int _, .int _ => rfl
  | .int _, .str _ => rfl
  | .int _, .tup _ => rfl
  | .int _, .lst _ => rfl
  | .str _, .non => rfl
  | .str _, .bl _ => rfl
  | .str _, .int _ => rfl
  | .str x, .str y => beq_ofT x y
  | .str _, .tup _ => rfl
  | .str _, .lst _ => rfl
  | .tup _, .non => rfl
  | .tup _, .bl _ => rfl
  | .tup _, .int _ => rfl
  | .tup _, .str _ => rfl
  | .tup ps, .tup qs => eqvs_ofP ps qs
  | .tup _, .lst _ => rfl
  | .lst _, .non => rfl
  | .lst _, .bl _ => rfl
  | .lst _, .int _ => rfl
  | .lst _, .str _ => rfl
  | .lst _, .tup _ => rfl
  | .lst ps, .lst qs => eqvs_ofP ps qs
theorem eqvs_ofP : ∀ ps qs : List M.P, PyData.eqvAll (ofP.all ps) (ofP.all qs) = M.P.eqvs ps qs
  | [], [] => rfl
  | [], _ :: _ => rfl
  | _ :: _, [] => rfl
  | p :: ps, q :: qs => by
    show (PyData.eqv (ofP p) (ofP q) && PyData.eqvAll (ofP.all ps) (ofP.all qs)) = (M.P.eqv p q && M.P.eqvs ps qs)
    rw [eqv_ofP p q, eqvs_ofP ps qs]
end
mutual
theorem dep_ofP : ∀ p : M.P, PyData.depth (ofP p) = M.P.dep p
  | .non => rfl
  | .bl _ => rfl
  | .int _ => rfl
  | .str _ => rfl
  | .tup ps => by show PyData.depthAll (ofP.all ps) + 1 = M.P.deps ps + 1; rw [deps_ofP ps]
  | .lst ps => by show PyData.depthAll (ofP.all ps) + 1 = M.P.deps ps + 1; rw [deps_ofP ps]
theorem deps_ofP : ∀ ps : List M.P, PyData.depthAll (ofP.all ps) = M.P.deps ps
  | [] => rfl
  | p :: ps => by show max (PyData.depth (ofP p)) (PyData.depthAll (ofP.all ps)) = max (M.P.dep p) (M.P.deps ps); rw [dep_ofP p, deps_ofP ps]
end
section
variable {ρ : List Addr} {H : Hp}
mutual
theorem dat_g {g : Nat → Option M.P} (hg : ∀ i p v, g i = some p → RelD K ρ H (.ref i) v → DatIs K H v (ofP p) ∧ (ofP p).canLay0 = true) : ∀ {d : M.D} {p : M.P} {v : V}, M.toPg g d = some p → RelD K ρ H d v → DatIs K H v (ofP p) ∧ (ofP p).canLay0 = true
  | .non, _, _, e, r => by cases e; cases r; exact ⟨.non, rfl⟩
  | .bl _, _, _, e, r => by cases e; cases r; exact ⟨.bl _, rfl⟩
  | .int _, _, _, e, r => by cases e; cases r; exact ⟨.int _, rfl⟩
  | .str x, _, _, e, r => by
    cases e
    obtain ⟨rfl, ok⟩ := r
    refine ⟨.str _, ?_⟩
    show PyData.strOk (ofT x) = true
    unfold PyData.strOk ofT
    have ok' : x.all (fun c => decide (c < 1114112)) = true := ok
    simpa using ok'
  | .tup ds, _, _, e, r => by
    obtain ⟨l, xs, rfl, hq, rr⟩ := r
    have e' : (M.toPg.all g ds).map M.P.tup = some _ := e
    cases q : M.toPg.all g ds with
    | none => rw [q] at e'; cases e'
    | some ps =>
      rw [q] at e'
      cases e'
      obtain ⟨h1, h2⟩ := dats_g hg q rr
      exact ⟨.tup hq h1, h2⟩
  | .ro ds, _, _, e, r => by
    obtain ⟨l, xs, rfl, hq, rr⟩ := r
    have e' : (M.toPg.all g ds).map M.P.lst = some _ := e
    cases q : M.toPg.all g ds with
    | none => rw [q] at e'; cases e'
    | some ps =>
      rw [q] at e'
      cases e'
      obtain ⟨h1, h2⟩ := dats_g hg q rr
      exact ⟨.lst hq.sq h1, h2⟩
  | .ref i, _, _, e, r => hg i _ _ e r
  | .ty _, _, _, e, _ => by cases e
theorem dats_g {g : Nat → Option M.P} (hg : ∀ i p v, g i = some p → RelD K ρ H (.ref i) v → DatIs K H v (ofP p) ∧ (ofP p).canLay0 = true) : ∀ {ds : List M.D} {ps : List M.P} {xs : List V}, M.toPg.all g ds = some ps → RelDs K ρ H ds xs → DatAll K H xs (ofP.all ps) ∧ PyData.canLayAll0 (ofP.all ps) = true
  | [], _, _, e, r => by cases e; cases r; exact ⟨.nil, rfl⟩
  | d :: ds, _, _, e, r => by
    obtain ⟨y, ys, rfl, r1, r2⟩ := r
    have e' : (match M.toPg g d, M.toPg.all g ds with | some p, some ps => some (p :: ps) | _, _ => none) = some _ := e
    cases q1 : M.toPg g d with
    | none => rw [q1] at e'; cases e'
    | some p =>
      cases q2 : M.toPg.all g ds with
      | none => rw [q1, q2] at e'; cases e'
      | some ps =>
        rw [q1, q2] at e'
        cases e'
        obtain ⟨h1, h2⟩ := dat_g hg q1 r1
        obtain ⟨h3, h4⟩ := dats_g hg q2 r2
        refine ⟨.cons h1 h3, ?_⟩
        show (PyData.canLay0 (ofP p) && PyData.canLayAll0 (ofP.all ps)) = true
        rw [h2, h4]; rfl
end
theorem dat_of {S : M.S} (rp : RepS K Θ ρ S H) : ∀ (n : Nat) {d : M.D} {p : M.P} {v : V}, M.toP n S d = some p → RelD K ρ H d v → DatIs K H v (ofP p) ∧ (ofP p).canLay0 = true
  | 0, _, _, _, e, r => dat_g (fun i p v e _ => by cases e) e r
  | n + 1, _, _, _, e, r => dat_g (fun i p v e r => by
      obtain ⟨a, rfl, ea⟩ := r
      have e' : (match M.lstAt S i with | some xs => (M.toPg.all (fun j => M.toP n S (.ref j)) xs).map M.P.lst | none => none) = some p := e
      cases q : S[i]? with
      | none => simp [M.lstAt, q] at e'
      | some o =>
        cases o with
        | lst xs =>
          simp only [M.lstAt, q] at e'
          obtain ⟨zs, e1, rr⟩ := lst_at rp ea q
          cases q2 : M.toPg.all (fun j => M.toP n S (.ref j)) xs with
          | none => rw [q2] at e'; cases e'
          | some ps =>
            rw [q2] at e'
            cases e'
            obtain ⟨h1, h2⟩ := dats_g (fun j p v e r => dat_of rp n e r) q2 rr
            exact ⟨.lst (SqL.of e1) h1, h2⟩
        | dct kvs => simp [M.lstAt, q] at e'
        | ins c fs => simp [M.lstAt, q] at e') e r
end
abbrev DR (K : PySem.W.Frag) (ρ : List Addr) (H : Hp) : List (M.D × M.D) → List (Key × V) → Prop := Paired fun p q => KeyR p.1 q.1 ∧ RelD K ρ H p.2 q.2
theorem keyR_inj {d e : M.D} {a b : Key} (ha : KeyR d a) (hb : KeyR e b) : (a = b) = (d = e) := by
  cases d with
  | int i =>
    cases ha
    cases e with
    | int j => cases hb; exact propext ⟨fun z => by cases z; rfl, fun z => by cases z; rfl⟩
    | str y => obtain ⟨rfl, _⟩ := hb; exact propext ⟨fun z => (nomatch z), fun z => (nomatch z)⟩
    | _ => exact hb.elim
  | str x =>
    obtain ⟨rfl, _⟩ := ha
    cases e with
    | int j => cases hb; exact propext ⟨fun z => (nomatch z), fun z => (nomatch z)⟩
    | str y => obtain ⟨rfl, _⟩ := hb; exact propext ⟨fun z => by rw [ofT_inj (Sum.inr.inj z)], fun z => by cases z; rfl⟩
    | _ => exact hb.elim
  | _ => exact ha.elim
theorem keyR_of {ρ : List Addr} {H : Hp} {d : M.D} {v : V} (h : M.keyOk d = true) (r : RelD K ρ H d v) : ∃ k, KeyR d k ∧ v = kV k := by
  cases d with
  | int i => cases r; exact ⟨.inl i, rfl, rfl⟩
  | str x => obtain ⟨rfl, ok⟩ := r; exact ⟨.inr (ofT x), ⟨rfl, ok⟩, rfl⟩
  | _ => cases h
section
variable {ρ : List Addr} {H : Hp} {kvs : List (M.D × M.D)} {ks : List (Key × V)} {d : M.D} {k : Key}
theorem DR.val (r : DR K ρ H kvs ks) (hk : KeyR d k) : match M.dGet d kvs with | some e => ∃ v, valV ks k = some v ∧ RelD K ρ H e v | none => valV ks k = none := by
  induction r with
  | nil => exact rfl
  | @cons p q ps qs h t ih =>
    have e := keyR_inj h.1 hk
    by_cases hd : p.1 = d
    · have hq : q.1 = k := e.mpr hd
      rw [valV_pos hq, M.dGet, List.lookup_cons, beq_iff_eq.mpr hd.symm]
      exact ⟨_, rfl, h.2⟩
    · have hq : ¬ q.1 = k := fun z => hd (e.mp z)
      rw [valV_neg hq, M.dGet, List.lookup_cons, beq_eq_false_iff_ne.mpr (Ne.symm hd)]
      exact ih
theorem DR.any (r : DR K ρ H kvs ks) (hk : KeyR d k) : (ks.any fun kv => decide (kv.1 = k)) = kvs.any fun kv => decide (kv.1 = d) := by
  induction r with
  | nil => rfl
  | @cons p q ps qs h t ih =>
    rw [List.any_cons, List.any_cons, ih]
    congr 1
    exact decide_eq_decide.mpr (keyR_inj h.1 hk ▸ Iff.rfl)
theorem DR.put (r : DR K ρ H kvs ks) (hk : KeyR d k) {e : M.D} {v : V} (rv : RelD K ρ H e v) : DR K ρ H (M.dPut d e kvs) (putK ks k v) := by
  unfold M.dPut putK
  rw [r.any hk]
  by_cases ha : (kvs.any fun kv => decide (kv.1 = d)) = true
  · rw [if_pos ha, if_pos ha]
    clear ha
    induction r with
    | nil => exact .nil
    | @cons p q ps qs h t ih =>
      rw [List.map_cons, List.map_cons]
      refine .cons ?_ ih
      have eq := keyR_inj h.1 hk
      by_cases hd : p.1 = d
      · rw [if_pos hd, if_pos (eq.mpr hd)]; exact ⟨h.1, rv⟩
      · rw [if_neg hd, if_neg fun z => hd (eq.mp z)]; exact h
  · rw [if_neg ha, if_neg ha]
    exact Paired.snoc r ⟨hk, rv⟩
end
theorem dct_at {ρ : List Addr} {S : M.S} {H : Hp} (rp : RepS K Θ ρ S H) {i : Nat} {a : Addr} (ha : ρ[i]? = some a) {kvs : List (M.D × M.D)} (q : S[i]? = some (.dct kvs)) : ∃ ks, H a = some (.dK ks) ∧ DR K ρ H kvs ks := by
  obtain ⟨b, e1, zs, e2, r⟩ := rp.obj i _ q
  rw [ha] at e1; cases e1
  exact ⟨zs, e2, r⟩
inductive HitsV (K : PySem.W.Frag) (H : Hp) (kb : List (Key × V)) : List (Key × V) → Bool → Prop where
  | nil : HitsV K H kb [] true
  | miss {k : Key} {v : V} {r : List (Key × V)} (h : valV kb k = none) : HitsV K H kb ((k, v) :: r) false
  | hit {k : Key} {v y : V} {r : List (Key × V)} {d e : PyData} {b : Bool} (h : valV kb k = some y) (hd : DatIs K H v d) (he : DatIs K H y e) (sd : SeqAt.shaped d = true) (se : SeqAt.shaped e = true) (t : HitsV K H kb r b) : HitsV K H kb ((k, v) :: r) (PyData.eqv d e && b)
def rDEq (neg : Bool) (K : PySem.W.Frag) : R2 := fun x y H Q => ∃ a b ka kb r, x = .ref a ∧ y = .ref b ∧ H a = some (.dK ka) ∧ H b = some (.dK kb) ∧ (ka.length = kb.length → HitsV K H kb ka r) ∧ Q (.bl (if neg then !(ka.length == kb.length && r) else (ka.length == kb.length && r))) H
theorem hits_of {X : Cx} {pins : List (Addr × Obj)} {σ : St} {H : Hp} {s : Shared} {A : Around} (I : Inv X pins σ H s) (hu : A.units + 64 < cLine) {kb : List (Key × V)} {vb : List (Key × Value)} (rb : KV kb vb) : ∀ {ka : List (Key × V)} {va : List (Key × Value)} {r : Bool}, KV ka va → HitsV X.K H kb ka r → PySem.W.KeqHits A s vb va r
  | _, _, _, ra, .nil => by cases ra; exact .nil
  | _, _, _, ra, .miss h => by
    cases ra with
    | @cons p q ps qs h1 t =>
      obtain ⟨k, v⟩ := q
      have hk : _ = k := h1.1
      have hv := rb.val k
      rw [← hk, h] at hv
      refine .miss ?_
      rw [← hk]
      cases q2 : valueAt vb _ with
      | none => rfl
      | some w => rw [q2] at hv; exact hv.elim
  | _, _, _, ra, .hit h hd he sd se t => by
    cases ra with
    | @cons p q ps qs h1 t1 =>
      obtain ⟨k, v⟩ := q
      have hk : _ = k := h1.1
      have hv := rb.val k
      rw [← hk, h] at hv
      cases q2 : valueAt vb k with
      | none => rw [hk, q2] at hv; exact hv.elim
      | some w =>
        rw [hk, q2] at hv
        obtain ⟨as, r1⟩ := hd.reads I h1.2
        obtain ⟨bs, r2⟩ := he.reads I hv
        exact .hit q2 (SeqAt.eqAt_reads _ _ A s _ _ as bs r1 r2 (SeqAt.canLay_of_shaped sd) (SeqAt.canLay_of_shaped se) (SeqAt.room_of_shaped sd hu)) (hits_of I hu rb t1 t)
theorem op_dEq {X : Cx} {k : Nat} (hr : Room k X.A) : OpR X (compareOp .Eq) (rDEq false X.K) := by
  intro pins s σ H x y v u Q I rx ry h
  obtain ⟨a, b, ka, kb, r, rfl, rfl, ha, hb, hh, q⟩ := h
  cases rx; cases ry
  obtain ⟨za, la, va, ra, da⟩ := dk_of I.hok ha
  obtain ⟨zb, lb, vb, rb, db⟩ := dk_of I.hok hb
  refine PySem.W.keq_eq la lb da db hr.units0 (fun e => hits_of I (by show X.A.units + 1 + 64 < _; have := hr.un; omega) rb ra (hh (by rw [ra.length, rb.length]; exact e))) ⟨.bl _, H, I, rfl, ?_⟩
  rw [← ra.length, ← rb.length]
  exact q
theorem op_dNe {X : Cx} {k : Nat} (hr : Room k X.A) : OpR X (compareOp .NotEq) (rDEq true X.K) := by
  intro pins s σ H x y v u Q I rx ry h
  obtain ⟨a, b, ka, kb, r, rfl, rfl, ha, hb, hh, q⟩ := h
  cases rx; cases ry
  obtain ⟨za, la, va, ra, da⟩ := dk_of I.hok ha
  obtain ⟨zb, lb, vb, rb, db⟩ := dk_of I.hok hb
  refine PySem.W.keq_ne la lb da db hr.units0 (fun e => hits_of I (by show X.A.units + 1 + 64 < _; have := hr.un; omega) rb ra (hh (by rw [ra.length, rb.length]; exact e))) ⟨.bl _, H, I, rfl, ?_⟩
  rw [← ra.length, ← rb.length]
  exact q
theorem hits_dEq {ρ : List Addr} {H : Hp} {S : M.S} (rp : RepS K Θ ρ S H) {ws : List (M.D × M.D)} {kb : List (Key × V)} (rb : DR K ρ H ws kb) : ∀ {ks : List (M.D × M.D)} {ka : List (Key × V)} {b : Bool}, DR K ρ H ks ka → M.dEq S ws ks = some b → HitsV K H kb ka b
  | _, _, _, .nil, e => by cases e; exact .nil
  | (k, v) :: ks, (kk, vv) :: ka, b, .cons h t, e => by
    have hv := DR.val rb h.1
    unfold M.dEq at e
    cases q : M.dGet k ws with
    | none =>
      rw [q] at e hv
      cases e
      exact .miss hv
    | some w =>
      rw [q] at e hv
      obtain ⟨y, hy, ry⟩ := hv
      dsimp only at e
      cases q1 : M.toP 8 S v with
      | none => rw [q1] at e; cases e
      | some p1 =>
        cases q2 : M.toP 8 S w with
        | none => rw [q1, q2] at e; cases e
        | some p2 =>
          cases q3 : M.dEq S ws ks with
          | none => rw [q1, q2, q3] at e; cases e
          | some b' =>
            rw [q1, q2, q3] at e
            dsimp only at e
            by_cases hc : M.P.dep p1 ≤ 64 ∧ M.P.dep p2 ≤ 64
            · rw [if_pos hc] at e
              cases e
              obtain ⟨d1, c1⟩ := dat_of rp _ q1 h.2
              obtain ⟨d2, c2⟩ := dat_of rp _ q2 ry
              rw [← eqv_ofP]
              refine .hit hy d1 d2 ?_ ?_ (hits_dEq rp rb t q3)
              · unfold SeqAt.shaped; rw [c1, Bool.true_and, dep_ofP]; exact decide_eq_true hc.1
              · unfold SeqAt.shaped; rw [c2, Bool.true_and, dep_ofP]; exact decide_eq_true hc.2
            · rw [if_neg hc] at e; cases e
theorem eqDct_is {ρ : List Addr} {H : Hp} {S : M.S} {x y : M.D} {X1 Y : V} {Q' : Bool → Hp → Prop} (rp : RepS K Θ ρ S H) (rx : RelD K ρ H x X1) (ry : RelD K ρ H y Y) (h : Post K Θ rB ρ H (M.eqDct x y S) Q') :
    ∃ a b ka kb r, X1 = .ref a ∧ Y = .ref b ∧ H a = some (.dK ka) ∧ H b = some (.dK kb) ∧ (ka.length = kb.length → HitsV K H kb ka r) ∧ Q' (ka.length == kb.length && r) H := by
  unfold M.eqDct at h
  split at h
  · rename_i i j
    split at h
    · rename_i ks ws e1 e2
      obtain ⟨a, rfl, ha⟩ := rx
      obtain ⟨b, rfl, hb⟩ := ry
      obtain ⟨ka, h1, r1⟩ := dct_at rp ha e1
      obtain ⟨kb, h2, r2⟩ := dct_at rp hb e2
      have l1 := Paired.length r1
      have l2 := Paired.length r2
      split at h
      · rename_i hl
        split at h
        · rename_i bb q
          refine ⟨a, b, ka, kb, bb, rfl, rfl, h1, h2, fun _ => hits_dEq rp r2 r1 q, ?_⟩
          rw [show (ka.length == kb.length) = true by rw [beq_iff_eq]; omega, Bool.true_and]
          exact Post.here (b := bb) h rp rfl
        · exact h.elim
      · rename_i hl
        refine ⟨a, b, ka, kb, false, rfl, rfl, h1, h2, fun e => absurd (by omega) hl, ?_⟩
        rw [Bool.and_false]
        exact Post.here (b := false) h rp rfl
    · exact h.elim
  · exact h.elim
def rEqM (K : PySem.W.Frag) (neg : Bool) : R2 := fun x y H Q => (scal x y = true ∧ Q (.bl (if neg then !decide (x = y) else decide (x = y))) H) ∨ rEqD K neg x y H Q ∨ rDEq neg K x y H Q
theorem op_eqM {X : Cx} {k : Nat} (hr : Room k X.A) : OpR X (compareOp .Eq) (rEqM X.K false) := by
  intro pins s σ H x y v u Q I rx ry h
  rcases h with h | h | h
  · exact op_eq pins s σ H x y v u Q I rx ry h
  · exact op_eqD hr pins s σ H x y v u Q I rx ry h
  · exact op_dEq hr pins s σ H x y v u Q I rx ry h
theorem op_neM {X : Cx} {k : Nat} (hr : Room k X.A) : OpR X (compareOp .NotEq) (rEqM X.K true) := by
  intro pins s σ H x y v u Q I rx ry h
  rcases h with h | h | h
  · exact op_ne pins s σ H x y v u Q I rx ry h
  · exact op_neD hr pins s σ H x y v u Q I rx ry h
  · exact op_dNe hr pins s σ H x y v u Q I rx ry h
theorem eq_core {ρ : List Addr} {H : Hp} {S : M.S} {x y : M.D} {X1 Y : V} {Q' : Bool → Hp → Prop} (rp : RepS K Θ ρ S H) (rx : RelD K ρ H x X1) (ry : RelD K ρ H y Y) (h : Post K Θ rB ρ H (M.eqD x y S) Q') :
    (scal X1 Y = true ∧ Q' (decide (X1 = Y)) H) ∨ (∃ d e, DatIs K H X1 d ∧ DatIs K H Y e ∧ SeqAt.shaped d = true ∧ SeqAt.shaped e = true ∧ Q' (PyData.eqv d e) H) ∨ ∃ a b ka kb r, X1 = .ref a ∧ Y = .ref b ∧ H a = some (.dK ka) ∧ H b = some (.dK kb) ∧ (ka.length = kb.length → HitsV K H kb ka r) ∧ Q' (ka.length == kb.length && r) H := by
  have gen : ∀ {p q : M.P}, M.toP M.DEEP S x = some p → M.toP M.DEEP S y = some q → M.P.dep p ≤ 64 ∧ M.P.dep q ≤ 64 → Q' (M.P.eqv p q) H → ∃ d e, DatIs K H X1 d ∧ DatIs K H Y e ∧ SeqAt.shaped d = true ∧ SeqAt.shaped e = true ∧ Q' (PyData.eqv d e) H := fun {p q} e1 e2 hd hq => by
    obtain ⟨d1, c1⟩ := dat_of rp _ e1 rx
    obtain ⟨d2, c2⟩ := dat_of rp _ e2 ry
    refine ⟨_, _, d1, d2, ?_, ?_, by rw [eqv_ofP]; exact hq⟩
    · unfold SeqAt.shaped; rw [c1, Bool.true_and, dep_ofP]; exact decide_eq_true hd.1
    · unfold SeqAt.shaped; rw [c2, Bool.true_and, dep_ofP]; exact decide_eq_true hd.2
  have rest : Post K Θ rB ρ H (match M.toP M.DEEP S x, M.toP M.DEEP S y with
      | some p, some q => if M.P.dep p ≤ 64 ∧ M.P.dep q ≤ 64 then M.R.ok (M.P.eqv p q) S else .no
      | _, _ => M.eqDct x y S) Q' → (∃ d e, DatIs K H X1 d ∧ DatIs K H Y e ∧ SeqAt.shaped d = true ∧ SeqAt.shaped e = true ∧ Q' (PyData.eqv d e) H) ∨ ∃ a b ka kb r, X1 = .ref a ∧ Y = .ref b ∧ H a = some (.dK ka) ∧ H b = some (.dK kb) ∧ (ka.length = kb.length → HitsV K H kb ka r) ∧ Q' (ka.length == kb.length && r) H := fun h' => by
    cases e1 : M.toP M.DEEP S x with
    | none => rw [e1] at h'; exact .inr (eqDct_is rp rx ry h')
    | some p =>
      cases e2 : M.toP M.DEEP S y with
      | none => rw [e1, e2] at h'; exact .inr (eqDct_is rp rx ry h')
      | some q =>
        rw [e1, e2] at h'
        dsimp only at h'
        by_cases hc : M.P.dep p ≤ 64 ∧ M.P.dep q ≤ 64
        · rw [if_pos hc] at h'; exact .inl <| gen e1 e2 hc (Post.here (b := M.P.eqv p q) h' rp rfl)
        · rw [if_neg hc] at h'; exact h'.elim
  have sc : ∀ {b : Bool}, scal X1 Y = true → decide (X1 = Y) = b → M.eqD x y S = .ok b S → (scal X1 Y = true ∧ Q' (decide (X1 = Y)) H) := fun {b} h1 h2 h3 => by
    rw [h3] at h
    rw [h2]
    exact ⟨h1, Post.here (b := b) h rp rfl⟩
  cases x with
  | str a =>
    cases y with
    | str b =>
      obtain ⟨rfl, _⟩ := rx
      obtain ⟨rfl, _⟩ := ry
      refine .inl (sc rfl ?_ rfl)
      by_cases hab : a = b
      · subst hab; simp
      · rw [decide_eq_false hab, decide_eq_false fun e => hab (ofT_inj (V.str.inj e))]
    | _ => exact .inr (rest h)
  | int a =>
    cases y with
    | int b =>
      cases rx; cases ry
      refine .inl (sc rfl ?_ rfl)
      by_cases hab : a = b
      · subst hab; simp
      · rw [decide_eq_false hab, decide_eq_false fun e => hab (V.int.inj e)]
    | _ => exact .inr (rest h)
  | bl a =>
    cases y with
    | bl b =>
      cases rx; cases ry
      refine .inl (sc rfl ?_ rfl)
      by_cases hab : a = b
      · subst hab; simp
      · rw [decide_eq_false hab, decide_eq_false fun e => hab (V.bl.inj e)]
    | _ => exact .inr (rest h)
  | non =>
    cases y with
    | non => cases rx; cases ry; exact .inl (sc rfl rfl rfl)
    | _ => exact .inr (rest h)
  | _ => exact .inr (rest h)
theorem ad_eq : AdC K Θ M.cEq (rEqM K false) := by
  intro ρ H S x y X1 Y Q rp rx ry h
  rcases eq_core rp rx ry h with h | ⟨d, e, h1, h2, h3, h4, h5⟩ | ⟨a, b, ka, kb, r, h⟩
  · exact .inl h
  · exact .inr (.inl ⟨d, e, h1, h2, h3, h4, h5⟩)
  · exact .inr (.inr ⟨a, b, ka, kb, r, h⟩)
theorem ad_ne : AdC K Θ M.cNe (rEqM K true) := by
  intro ρ H S x y X1 Y Q rp rx ry h
  have h' : Post K Θ rB ρ H (M.eqD x y S) (fun b H' => Q (.bl (!b)) H') := Post.bind h fun ρ1 H1 b b' S1 p1 l1 rp1 e h1 => by cases e; exact Post.here (b := !b) h1 rp1 rfl
  rcases eq_core rp rx ry h' with h | ⟨d, e, h1, h2, h3, h4, h5⟩ | ⟨a, b, ka, kb, r, h⟩
  · exact .inl h
  · exact .inr (.inl ⟨d, e, h1, h2, h3, h4, h5⟩)
  · exact .inr (.inr ⟨a, b, ka, kb, r, h⟩)
end
end L2
namespace L2
open PySem PySem.Spec PyProof.Rows
section
variable {K : PySem.W.Frag} {Θ : Tab}
theorem sIx_eq (n d : Nat) (o : Option Int) : M.sIx n d o = HT.sIx n d o := by
  cases o with
  | none => rfl
  | some v =>
    have := HT.clip_eq v n d
    show (if v < 0 then max (v + (n : Int)) 0 else min v (n : Int)).toNat = _
    rw [this]; simp
theorem cut_mem {x : M.T} {lo hi : Option Int} : ∀ c ∈ M.cut x lo hi, c ∈ x := fun c hc => List.mem_of_mem_drop (List.mem_of_mem_take hc)
theorem cut_rel {ρ : List Addr} {H : Hp} {ds : List M.D} {xs : List V} (r : RelDs K ρ H ds xs) (lo hi : Option Int) : RelDs K ρ H (M.cut ds lo hi) (cutV xs lo hi) := by
  unfold M.cut cutV
  rw [sIx_eq, sIx_eq, r.length]
  exact (r.drop _).take _
theorem ad_sl : ∀ ρ H S x X1 l u Q, RepS K Θ ρ S H → RelD K ρ H x X1 → Post K Θ (RelD K) ρ H (M.slD x l u S) Q → uSl K X1 l u H Q := by
  intro ρ H S x X1 l u Q rp rx h
  cases x with
  | str z =>
    obtain ⟨rfl, ok⟩ := rx
    by_cases hz : z.length ≤ M.SZ
    · simp only [M.slD, if_pos hz] at h
      refine ⟨by rw [ofT_len, ← SZ_eq]; exact hz, Post.here h rp ⟨?_, okT_sub ok cut_mem⟩⟩
      show V.str (cutS (ofT z) l u) = V.str (ofT (M.cut z l u))
      unfold cutS M.cut ofT
      have e : (⟨z.toArray⟩ : Str).length = z.length := by simp [Str.length]
      rw [e, sIx_eq, sIx_eq]
    · simp only [M.slD, if_neg hz] at h; exact h.elim
  | tup ds =>
    obtain ⟨a, xs, rfl, hq, r⟩ := rx
    by_cases hc : M.sIx ds.length 0 l = 0 ∧ M.sIx ds.length ds.length u = ds.length
    · simp only [M.slD, if_pos hc] at h; exact h.elim
    · simp only [M.slD, if_neg hc] at h
      refine .inr ⟨xs, hq, ?_, fun p hp => h ρ _ _ (List.prefix_refl _) (Le.new hp _) (rp.aside hp _) ⟨p, _, rfl, SqT.of upd_same, (cut_rel r l u).mono (List.prefix_refl _) (Le.new hp _)⟩⟩
      rw [sIx_eq, sIx_eq, r.length] at hc
      exact hc
  | ro ds =>
    obtain ⟨a, xs, rfl, hq, r⟩ := rx
    exact .inl ⟨xs, hq.sq, fun p hp => Post.alloc h rp (cut_rel r l u) hp⟩
  | ref p =>
    obtain ⟨a, rfl, ea⟩ := rx
    cases q : S[p]? with
    | none => simp [M.slD, M.lstAt, q] at h; exact h.elim
    | some o =>
      cases o with
      | lst xs =>
        simp only [M.slD, M.lstAt, q] at h
        obtain ⟨zs, e1, r⟩ := lst_at rp ea q
        exact .inl ⟨zs, SqL.of e1, fun p hp => Post.alloc h rp (cut_rel r l u) hp⟩
      | dct kvs => simp [M.slD, M.lstAt, q] at h; exact h.elim
      | ins c fs => simp [M.slD, M.lstAt, q] at h; exact h.elim
  | _ => exact h.elim
theorem bools_rel {ρ : List Addr} {H : Hp} : ∀ {ds : List M.D} {ys : List V} {bs : List Bool}, M.bools ds = some bs → RelDs K ρ H ds ys → ys = bs.map V.bl
  | [], _, _, e, r => by cases e; cases r; rfl
  | .bl b :: ds, _, _, e, r => by
    obtain ⟨y, ys, rfl, r1, r2⟩ := r
    cases r1
    have e' : (M.bools ds).map (b :: ·) = some _ := e
    cases q : M.bools ds with
    | none => rw [q] at e'; cases e'
    | some cs => rw [q] at e'; cases e'; rw [bools_rel q r2]; rfl
  | .non :: _, _, _, e, _ => by cases e
  | .int _ :: _, _, _, e, _ => by cases e
  | .str _ :: _, _, _, e, _ => by cases e
  | .tup _ :: _, _, _, e, _ => by cases e
  | .ro _ :: _, _, _, e, _ => by cases e
  | .ref _ :: _, _, _, e, _ => by cases e
  | .ty _ :: _, _, _, e, _ => by cases e
theorem adk_any : AdK K Θ M.kAny (rAny K) := by
  intro ρ H S ds ys p Q rp r hq h
  cases e : M.bools ds with
  | none => simp only [M.kAny, e] at h; exact h.elim
  | some bs =>
    simp only [M.kAny, e] at h
    have := bools_rel e r
    subst this
    exact ⟨p, bs, rfl, hq, Post.here (b := V.bl (bs.any id)) h rp rfl⟩
theorem texts_rel {ρ : List Addr} {H : Hp} : ∀ {ds : List M.D} {ys : List V} {ts : List M.T}, M.texts ds = some ts → RelDs K ρ H ds ys → ys = (ts.map ofT).map V.str ∧ ∀ t ∈ ts, okT t
  | [], _, _, e, r => by cases e; cases r; exact ⟨rfl, fun t h => by cases h⟩
  | .str x :: ds, _, _, e, r => by
    obtain ⟨y, ys, rfl, r1, r2⟩ := r
    obtain ⟨rfl, ok⟩ := r1
    have e' : (M.texts ds).map (x :: ·) = some _ := e
    cases q : M.texts ds with
    | none => rw [q] at e'; cases e'
    | some cs =>
      rw [q] at e'
      cases e'
      obtain ⟨h1, h2⟩ := texts_rel q r2
      refine ⟨by rw [h1]; rfl, fun t ht => ?_⟩
      rcases List.mem_cons.mp ht with rfl | ht
      · exact ok
      · exact h2 t ht
  | .non :: _, _, _, e, _ => by cases e
  | .int _ :: _, _, _, e, _ => by cases e
  | .bl _ :: _, _, _, e, _ => by cases e
  | .tup _ :: _, _, _, e, _ => by cases e
  | .ro _ :: _, _, _, e, _ => by cases e
  | .ref _ :: _, _, _, e, _ => by cases e
  | .ty _ :: _, _, _, e, _ => by cases e
theorem join_fold (x : M.T) : ∀ (ys : List M.T) (acc : M.T), ((ys.map ofT).foldl (fun acc p => acc ++ (ofT x).cps ++ p.cps) acc.toArray) = (acc ++ (ys.map (x ++ ·)).flatten).toArray
  | [], acc => by simp
  | y :: ys, acc => by
    rw [List.map_cons, List.foldl_cons]
    have e : acc.toArray ++ (ofT x).cps ++ (ofT y).cps = (acc ++ x ++ y).toArray := by simp [ofT]
    rw [e, join_fold x ys]
    simp
theorem joinT_flat (x y : M.T) : ∀ ys : List M.T, M.joinT x (y :: ys) = y ++ (ys.map (x ++ ·)).flatten
  | [] => by simp [M.joinT]
  | z :: ys => by
    show y ++ x ++ M.joinT x (z :: ys) = _
    rw [joinT_flat x z ys]; simp
theorem join_eq (x : M.T) (ys : List M.T) : Txt.join (ofT x) (ys.map ofT) = ofT (M.joinT x ys) := by
  cases ys with
  | nil => rfl
  | cons y ys =>
    show (⟨(((y :: ys).map ofT).drop 1).foldl (fun acc p => acc ++ (ofT x).cps ++ p.cps) (((y :: ys).map ofT).headD Str.empty).cps⟩ : Str) = _
    rw [joinT_flat, List.map_cons, List.drop_one, List.tail_cons]
    have := join_fold x ys y
    show (⟨(ys.map ofT).foldl _ y.toArray⟩ : Str) = _
    rw [this]; rfl
theorem okT_join {x : M.T} (hx : okT x) : ∀ {ys : List M.T}, (∀ t ∈ ys, okT t) → okT (M.joinT x ys)
  | [], _ => rfl
  | [y], h => h y (by simp)
  | y :: z :: ys, h => okT_app (okT_app (h y (by simp)) hx) (okT_join hx fun t ht => h t (List.mem_cons_of_mem _ ht))
theorem len_sum (ts : List M.T) : ((ts.map ofT).map (·.length)).sum = (ts.map List.length).sum := by
  rw [List.map_map]
  exact congrArg List.sum (List.map_congr_left fun t _ => ofT_len t)
theorem adk_join {y : M.T} (hy : okT y) : ∀ ρ H S ds ys p Q, RepS K Θ ρ S H → RelDs K ρ H ds ys → (SqL K H p ys ∨ SqT K H p ys) → Post K Θ (RelD K) ρ H (M.kJoin y ds S) Q → rJoin K (.str (ofT y)) [.ref p] H Q := by
  intro ρ H S ds ys p Q rp r hq h
  cases e : M.texts ds with
  | none => simp only [M.kJoin, e] at h; exact h.elim
  | some ts =>
    obtain ⟨rfl, ok⟩ := texts_rel e r
    by_cases hz : (ts.map List.length).sum + ts.length * y.length ≤ M.SZ
    · simp only [M.kJoin, e, if_pos hz] at h
      refine ⟨ofT y, p, ts.map ofT, rfl, rfl, hq, ?_, ?_⟩
      · rw [len_sum, List.length_map, ofT_len]; exact hz
      · rw [join_eq]; exact Post.here h rp ⟨rfl, okT_join hy ok⟩
    · simp only [M.kJoin, e, if_neg hz] at h; exact h.elim
theorem ad_join : AdM K Θ M.mJoin (rJoin K) := by
  intro ρ H S x xs X1 Xs Q rp rx rxs h
  cases x with
  | str y =>
    obtain ⟨rfl, ok⟩ := rx
    match xs, rxs, h with
    | [.tup ds], rxs, h =>
      obtain ⟨_, _, rfl, ⟨l, ys, rfl, hq, r⟩, rfl⟩ := rxs
      exact adk_join ok ρ H S ds ys l Q rp r (.inr hq) h
    | [.ro ds], rxs, h =>
      obtain ⟨_, _, rfl, ⟨l, ys, rfl, hq, r⟩, rfl⟩ := rxs
      exact adk_join ok ρ H S ds ys l Q rp r (.inl hq.sq) h
    | [.ref p], rxs, h =>
      obtain ⟨_, _, rfl, ⟨a, rfl, ea⟩, rfl⟩ := rxs
      cases q : S[p]? with
      | none => simp [M.mJoin, M.fSeq, M.lstAt, q] at h; exact h.elim
      | some o =>
        cases o with
        | lst xs =>
          simp only [M.mJoin, M.fSeq, M.lstAt, q] at h
          obtain ⟨zs, e1, r⟩ := lst_at rp ea q
          exact adk_join ok ρ H S xs zs a Q rp r (.inl (SqL.of e1)) h
        | dct kvs => simp [M.mJoin, M.fSeq, M.lstAt, q] at h; exact h.elim
        | ins c fs => simp [M.mJoin, M.fSeq, M.lstAt, q] at h; exact h.elim
    | [.non], _, h => exact h.elim
    | [.bl _], _, h => exact h.elim
    | [.int _], _, h => exact h.elim
    | [.str _], _, h => exact h.elim
    | [.ty _], _, h => exact h.elim
    | [], _, h => exact h.elim
    | a :: _ :: _, _, h => cases a <;> exact h.elim
  | _ => exact h.elim
def flatV2 : List (V × V) → List V
  | [] => []
  | (a, b) :: r => a :: b :: flatV2 r
def MP (X : Cx) (Θ : Tab) (pos : Pos) (keys : List (Option Expr)) (values : List Expr) (m : M.AM) : Prop := ∃ trs, PPs X pos keys values trs ∧
  ∀ {σ : St} {H : Hp} {Q : List (V × V) → Hp → Prop} {ρ : List Addr} {σ' : M.St} {S : M.S}, RelSt X.K ρ H σ' σ → RepS X.K Θ ρ S H → Post X.K Θ (RelDs X.K) ρ H (m σ' S) (fun xs H' => ∀ ps, xs = flatV2 ps → Q ps H') → tPairs trs σ H Q
@[irreducible] def WP (X : Cx) (Θ : Tab) (pos : Pos) (keys : List (Option Expr)) (values : List Expr) (m : M.AM) : Prop := MP X Θ pos keys values m
theorem mp_nil {X : Cx} {pos : Pos} : MP X Θ pos [] [] M.aNil := ⟨[], pps_nil, fun st rp h => Post.here (b := []) h rp rfl [] rfl⟩
theorem w_mp_nil {X : Cx} {pos : Pos} : WP X Θ pos [] [] M.aNil := by with_unfolding_all exact mp_nil (X := X) (pos := pos)
theorem mp_cons {X : Cx} {pos : Pos} {k v : Expr} {ks : List (Option Expr)} {vs : List Expr} {mk mv : M.EM} {r : M.AM} (hk : ME X Θ k mk) (hv : ME X Θ v mv) (hr : MP X Θ pos ks vs r) : MP X Θ pos (some k :: ks) (v :: vs) (M.aCons mk (M.aCons mv r)) := by
  obtain ⟨trs, h1, h2⟩ := hr
  refine ⟨_, pps_cons hk hv h1, fun {σ H Q ρ σ' S} st rp h => ⟨ρ, σ', S, st, rp, ?_⟩⟩
  have h' : Post X.K Θ (RelDs X.K) ρ H ((mk σ' S).bind fun x s => (((mv σ' s).bind fun y s => (r σ' s).bind fun ys s => .ok (y :: ys) s)).bind fun xs s => .ok (x :: xs) s) _ := h
  cases e1 : mk σ' S with
  | no => rw [e1] at h'; exact h'.elim
  | exc a s => rw [e1] at h'; exact h'.elim
  | ok d S1 =>
    rw [e1, M.R.bind_ok] at h'
    intro ρ1 H1 x p1 l1 rp1 rx
    refine ⟨ρ1, σ', S1, st.mono p1 l1, rp1, ?_⟩
    have h'' := Post.weak h' p1 l1
    cases e2 : mv σ' S1 with
    | no => rw [e2] at h''; exact h''.elim
    | exc a s => rw [e2] at h''; exact h''.elim
    | ok d2 S2 =>
      rw [e2, M.R.bind_ok] at h''
      intro ρ2 H2 y p2 l2 rp2 ry
      refine h2 (st.mono (p1.trans p2) (l1.trans l2)) rp2 ?_
      have h3 := Post.weak h'' p2 l2
      cases e3 : r σ' S2 with
      | no => rw [e3] at h3; exact h3.elim
      | exc a s => rw [e3] at h3; exact h3.elim
      | ok ds S3 =>
        rw [e3] at h3
        intro ρ3 H3 xs p3 l3 rp3 rxs ps eps
        exact h3 ρ3 H3 (x :: y :: xs) p3 l3 rp3 ⟨x, _, rfl, rx.mono (p2.trans p3) (l2.trans l3), y, _, rfl, ry.mono p3 l3, rxs⟩ ((x, y) :: ps) (by rw [eps]; rfl)
theorem w_mp_cons {X : Cx} {pos : Pos} {k v : Expr} {ks : List (Option Expr)} {vs : List Expr} {mk mv : M.EM} {r : M.AM} (hk : WE X Θ k mk) (hv : WE X Θ v mv) (hr : WP X Θ pos ks vs r) : WP X Θ pos (some k :: ks) (v :: vs) (M.aCons mk (M.aCons mv r)) := by with_unfolding_all exact mp_cons (X := X) (pos := pos) (k := k) (v := v) (ks := ks) (vs := vs) (mk := mk) (mv := mv) (r := r) hk hv hr
theorem disp_pairs {ρ : List Addr} {H : Hp} : ∀ {xs : List M.D} {ps : List (V × V)} {acc kvs : List (M.D × M.D)} {ks : List (Key × V)}, M.pairsUp xs acc = some kvs → RelDs K ρ H xs (flatV2 ps) → DR K ρ H acc ks →
    ∃ ks' : List (Key × V), ps = ks'.map (fun kv => (kV kv.1, kv.2)) ∧ DR K ρ H kvs (mergeK ks ks') ∧ 2 * ks'.length = xs.length
  | [], ps, acc, kvs, ks, e, r, ra => by
    cases e
    cases ps with
    | nil => exact ⟨[], rfl, ra, rfl⟩
    | cons p ps => cases r
  | [_], _, _, _, _, e, _, _ => by cases e
  | k :: v :: xs, ps, acc, kvs, ks, e, r, ra => by
    cases ps with
    | nil => obtain ⟨_, _, z, _⟩ := r; cases z
    | cons p ps =>
      obtain ⟨y, ys, e1, r1, y2, ys2, e2, r2, r3⟩ := r
      have e1' : p.1 :: p.2 :: flatV2 ps = y :: ys := e1
      cases e1'
      cases e2
      have e' : (if M.keyOk k = true then M.pairsUp xs (M.dPut k v acc) else none) = some kvs := e
      by_cases hk : M.keyOk k = true
      case neg => rw [if_neg hk] at e'; cases e'
      rw [if_pos hk] at e'
      obtain ⟨kk, h1, h2⟩ := keyR_of hk r1
      obtain ⟨ks', g1, g2, g3⟩ := disp_pairs e' r3 (ra.put h1 r2)
      refine ⟨(kk, p.2) :: ks', ?_, g2, by simp only [List.length_cons]; omega⟩
      rw [List.map_cons, ← g1, ← h2]
theorem me_disp {X : Cx} {pos : Pos} {keys : List (Option Expr)} {values : List Expr} {m : M.AM} (h : MP X Θ pos keys values m) (hall : keys.all (·.isSome) = true := by rfl) (hl : keys.length = values.length := by rfl) (h0 : keys ≠ [] := by exact List.cons_ne_nil _ _)
    (h15 : keys.length ≤ 15 := by decide) : ME X Θ (.Dict keys values pos) (M.eDict m) := by
  obtain ⟨trs, h1, h2⟩ := h
  refine (pe_disp h1 hall hl h0 h15).imp fun σ H Q ⟨ρ, σ', S, st, rp, h⟩ p hp => ?_
  have rp1 : RepS X.K Θ (ρ ++ [p]) (S ++ [.dct []]) (upd H p (.dK [])) := rp.alloc hp ⟨[], upd_same, .nil⟩
  refine h2 (st.mono (List.prefix_append _ _) (Le.new hp _)) rp1 ?_
  have h' : Post X.K Θ (RelD X.K) ρ H ((m σ' (S ++ [.dct []])).bind fun xs s' => match s'[S.length]? with
    | some (.dct []) => (match M.pairsUp xs [] with
      | some kvs => if kvs.length ≤ 15 ∧ xs.length ≤ 30 then .ok (.ref S.length) (s'.set S.length (.dct kvs)) else .no
      | none => .no)
    | _ => .no) Q := h
  cases e1 : m σ' (S ++ [.dct []]) with
  | no => rw [e1] at h'; exact h'.elim
  | exc a s => rw [e1] at h'; exact h'.elim
  | ok xs S1 =>
    rw [e1, M.R.bind_ok] at h'
    intro ρ2 H2 ys p2 l2 rp2 rys ps eps
    subst eps
    have hpp : ρ2[S.length]? = some p := pre_get p2 (by rw [← rp.len]; simp)
    split at h'
    · rename_i hS
      split at h'
      · rename_i kvs hk
        by_cases hc : kvs.length ≤ 15 ∧ xs.length ≤ 30
        case neg => rw [if_neg hc] at h'; exact h'.elim
        rw [if_pos hc] at h'
        obtain ⟨ks0, e3, r0⟩ := dct_at rp2 hpp hS
        cases r0
        obtain ⟨ks', g1, g2, g3⟩ := disp_pairs hk rys .nil
        refine ⟨e3, ks', g1, by omega, ?_⟩
        have mu : Mut (H2 p) := by rw [e3]; trivial
        have le : Le H (upd H2 p (.dK (mergeK [] ks'))) := ((Le.new hp _).trans l2).trans (Le.put mu _)
        exact h' ρ2 _ _ ((List.prefix_append _ _).trans p2) le (rp2.put hpp mu ⟨_, upd_same, Paired.mapP g2 fun a b z => ⟨z.1, z.2.mono (List.prefix_refl _) (Le.put mu _)⟩⟩) ⟨p, rfl, hpp⟩
      · exact h'.elim
    · exact h'.elim
theorem w_me_disp {X : Cx} {pos : Pos} {keys : List (Option Expr)} {values : List Expr} {m : M.AM} (h : WP X Θ pos keys values m) (hall : keys.all (·.isSome) = true := by rfl) (hl : keys.length = values.length := by rfl) (h0 : keys ≠ [] := by exact List.cons_ne_nil _ _)
    (h15 : keys.length ≤ 15 := by decide) : WE X Θ (.Dict keys values pos) (M.eDict m) := by with_unfolding_all exact me_disp (X := X) (pos := pos) (keys := keys) (values := values) (m := m) h hall hl h0 h15
end
end L2
namespace L2
open PySem PySem.Spec PyProof.Rows
section
variable {K : PySem.W.Frag} {Θ : Tab}
theorem foldl_rep_cps (a : M.T) : ∀ (n : Nat) (acc : Array Nat), (List.replicate n a.toArray).foldl (· ++ ·) acc = acc ++ ((List.replicate n a).flatten).toArray
  | 0, acc => by simp
  | n + 1, acc => by
    rw [List.replicate_succ, List.foldl_cons, foldl_rep_cps a n, List.replicate_succ, List.flatten_cons]
    simp
theorem mul_rep (a : M.T) (n : Int) (h0 : 0 ≤ n) : Txt.mul (ofT a) n = ofT (List.replicate n.toNat a).flatten := by
  unfold Txt.mul
  by_cases h1 : n < 1
  · have e : n.toNat = 0 := by omega
    rw [if_pos h1, e]; rfl
  · rw [if_neg h1]
    by_cases h2 : (n == 1 || (ofT a).length == 0) = true
    · rw [if_pos h2]
      rw [Bool.or_eq_true] at h2
      rcases h2 with h2 | h2
      · have e : n = 1 := eq_of_beq h2
        subst e
        simp
      · have e : a.length = 0 := by rw [← ofT_len]; exact eq_of_beq h2
        have e2 : a = [] := List.length_eq_zero_iff.mp e
        subst e2
        simp [ofT]
    · rw [if_neg h2]
      have := foldl_rep_cps a n.toNat #[]
      show (⟨(List.replicate n.toNat a.toArray).foldl (· ++ ·) #[]⟩ : Str) = _
      rw [this]; simp [ofT]
theorem mul_ok (a : M.T) (n : Int) (h0 : 0 ≤ n) (h1 : n ≤ 1000000) (h2 : a.length * n.toNat ≤ 1000000) : MulOk (ofT a) n := by
  refine ⟨?_, fun h3 _ => ?_, fun h3 _ => ?_⟩
  · rw [Bool.or_eq_false_iff]
    exact ⟨decide_eq_false (by omega), decide_eq_false (by omega)⟩
  · rw [ofT_len]
    have hn : 1 ≤ n.toNat := by omega
    have ha : a.length ≤ 1000000 := Nat.le_trans (Nat.le_mul_of_pos_right _ (by omega)) h2
    have hd : (1000000 : Int) ≤ (2 ^ 63 - 1) / n := Int.le_ediv_of_mul_le (by omega) (by omega)
    omega
  · rw [ofT_len]
    unfold Builtin.Str.tooLong
    exact decide_eq_false (by rw [sizeLine_eq]; omega)
def rMulM : R2 := fun x y H Q => uMul x y H Q ∨ rRep x y H Q
theorem u_mulM {X : Cx} : OpR X (binaryOp .Mult) rMulM := OpR.or u_mul op_rep
theorem RelDs.flat {ρ : List Addr} {H : Hp} {ds : List M.D} {xs : List V} (h : RelDs K ρ H ds xs) : ∀ n : Nat, RelDs K ρ H (List.replicate n ds).flatten (List.replicate n xs).flatten
  | 0 => rfl
  | n + 1 => by
    rw [List.replicate_succ, List.replicate_succ, List.flatten_cons, List.flatten_cons]
    exact RelDs.app h (RelDs.flat h n)
theorem ad_mul : Ad2 K Θ M.opMul rMulM := by
  intro ρ H S x y X Y Q rp rx ry h
  cases x with
  | int i =>
    cases y with
    | int j =>
      cases rx; cases ry
      have h' : Post K Θ (RelD K) ρ H (if (M.small i || M.small j) = true then M.R.ok (M.D.int (i * j)) S else .no) Q := h
      by_cases hc : (M.small i || M.small j) = true
      · rw [if_pos hc] at h'
        refine .inl ⟨?_, Post.here (b := V.int (i * j)) h' rp rfl⟩
        rw [Bool.or_eq_true] at hc
        rcases hc with hc | hc
        · exact .inl (small_is hc)
        · exact .inr (small_is hc)
      · rw [if_neg hc] at h'; exact h'.elim
    | _ => exact h.elim
  | str a =>
    cases y with
    | int n =>
      obtain ⟨rfl, oka⟩ := rx
      cases ry
      have h' : Post K Θ (RelD K) ρ H (if 0 ≤ n ∧ n.natAbs ≤ 1000000 ∧ a.length * n.natAbs ≤ 1000000 then M.R.ok (M.D.str (List.replicate n.toNat a).flatten) S else .no) Q := h
      by_cases hc : 0 ≤ n ∧ n.natAbs ≤ 1000000 ∧ a.length * n.natAbs ≤ 1000000
      · rw [if_pos hc] at h'
        have hn : n.natAbs = n.toNat := by omega
        refine .inl ⟨mul_ok a n hc.1 (by omega) (by rw [← hn]; exact hc.2.2), ?_⟩
        show Q (.str (Txt.mul (ofT a) n)) H
        rw [mul_rep a n hc.1]
        refine Post.here h' rp ⟨rfl, okT_sub oka fun c hc => ?_⟩
        obtain ⟨l, hl, hcl⟩ := List.mem_flatten.mp hc
        rw [(List.mem_replicate.mp hl).2] at hcl
        exact hcl
      · rw [if_neg hc] at h'; exact h'.elim
    | _ => exact h.elim
  | ref p =>
    cases y with
    | int n =>
      cases ry
      have h' : Post K Θ (RelD K) ρ H (match M.lstAt S p with | some xs => if n.natAbs ≤ 1000 ∧ xs.length * n.natAbs ≤ 1000000 then M.alloc (.lst (List.replicate n.toNat xs).flatten) S else .no | none => .no) Q := h
      cases q : S[p]? with
      | none => simp only [M.lstAt, q] at h'; exact h'.elim
      | some o =>
        cases o with
        | lst ds =>
          simp only [M.lstAt, q] at h'
          obtain ⟨a, rfl, ea⟩ := rx
          obtain ⟨zs, e1, r⟩ := lst_at rp ea q
          by_cases hc : n.natAbs ≤ 1000 ∧ ds.length * n.natAbs ≤ 1000000
          · rw [if_pos hc] at h'
            have hn : n.toNat ≤ n.natAbs := by omega
            refine .inr ⟨a, n, zs, rfl, rfl, e1, by omega, by omega, ?_, fun p hp => Post.alloc h' rp (RelDs.flat r n.toNat) hp⟩
            have hm := Nat.mul_le_mul_left ds.length hn
            rw [← r.length, sizeLine_eq]
            omega
          · rw [if_neg hc] at h'; exact h'.elim
        | dct _ => simp only [M.lstAt, q] at h'; exact h'.elim
        | ins _ _ => simp only [M.lstAt, q] at h'; exact h'.elim
    | _ => exact h.elim
  | _ => exact h.elim
def rIxM (K : PySem.W.Frag) : R2 := fun x y H Q => uIx K x y H Q ∨ ∃ a v, x = .ref a ∧ DGet H a y (some v) ∧ Q v H
theorem ix_M {X : Cx} {k : Nat} (hr : Room k X.A) : IxR X (rIxM X.K) := by
  refine IxR.or u_ix ?_
  intro value slice pins s σ H x y v u Q I rx ry h hs
  obtain ⟨a, w', rfl, g, q⟩ := h
  cases rx
  exact tail_any (dict_typeIs I g) PySem.F.slot_dict_getitem.lookup (d_getItem (hu_of hr) I g ry fun w2 s3 I3 rw' => ⟨w', H, I3, rw', q⟩) hs
def rLenM (K : PySem.W.Frag) : List V → Hp → VK → Prop := fun xs H Q => uLen K xs H Q ∨ ∃ a kvs, xs = [V.ref a] ∧ H a = some (.dK kvs) ∧ Q (.int kvs.length) H
theorem call_lenM {X : Cx} : CallR X (.builtin "len") (rLenM X.K) := CallR.or u_len call_lenD
theorem ad_ix : Ad2 K Θ M.opIx (rIxM K) := by
  intro ρ H S x y X Y Q rp rx ry h
  cases x with
  | str a =>
    cases y with
    | int i =>
      obtain ⟨rfl, oka⟩ := rx
      cases ry
      have h' : Post K Θ (RelD K) ρ H (if a.length ≤ M.SZ then (match M.atI a i with | some c => M.R.ok (M.D.str [c]) S | none => .no) else .no) Q := h
      by_cases hc : a.length ≤ M.SZ
      · rw [if_pos hc] at h'
        cases q : M.atI a i with
        | none => rw [q] at h'; exact h'.elim
        | some c =>
          rw [q] at h'
          refine .inl ⟨c, by rw [ofT_len, ← SZ_eq]; exact hc, ?_, Post.here (b := V.str (ofT [c])) h' rp ⟨rfl, okT_sub oka fun d hd => by
            have e : d = c := by simpa using hd
            rw [e]
            unfold M.atI at q
            cases qi : M.ixN a.length i with
            | none => rw [qi] at q; cases q
            | some j => rw [qi] at q; exact List.mem_of_getElem? q⟩⟩
          rw [ofT_list]; exact q
      · rw [if_neg hc] at h'; exact h'.elim
    | _ => exact h.elim
  | tup ds =>
    cases y with
    | int i =>
      obtain ⟨l, xs, rfl, hq, r⟩ := rx
      cases ry
      have h' : Post K Θ (RelD K) ρ H (match M.atI ds i with | some d => M.R.ok d S | none => .no) Q := h
      cases q : M.atI ds i with
      | none => rw [q] at h'; exact h'.elim
      | some d =>
        rw [q] at h'
        obtain ⟨v, e1, rv⟩ := atI_rel r q
        exact .inl ⟨xs, v, .inr hq, e1, Post.here h' rp rv⟩
    | _ => exact h.elim
  | ro ds =>
    cases y with
    | int i =>
      obtain ⟨l, xs, rfl, hq, r⟩ := rx
      cases ry
      have h' : Post K Θ (RelD K) ρ H (match M.atI ds i with | some d => M.R.ok d S | none => .no) Q := h
      cases q : M.atI ds i with
      | none => rw [q] at h'; exact h'.elim
      | some d =>
        rw [q] at h'
        obtain ⟨v, e1, rv⟩ := atI_rel r q
        exact .inl ⟨xs, v, .inl hq.sq, e1, Post.here h' rp rv⟩
    | _ => exact h.elim
  | ref p =>
    obtain ⟨a, rfl, ea⟩ := rx
    cases q : S[p]? with
    | none => simp [M.opIx, q] at h; exact h.elim
    | some o =>
      cases o with
      | lst xs =>
        cases y with
        | int i =>
          cases ry
          obtain ⟨zs, e1, r⟩ := lst_at rp ea q
          cases q2 : M.atI xs i with
          | none => simp [M.opIx, q, q2] at h; exact h.elim
          | some d =>
            simp [M.opIx, q, q2] at h
            obtain ⟨v, e2, rv⟩ := atI_rel r q2
            exact .inl ⟨zs, v, .inl (SqL.of e1), e2, Post.here h rp rv⟩
        | _ => simp [M.opIx, q] at h; exact h.elim
      | dct kvs =>
        by_cases hk : M.keyOk y = true
        case neg => simp [M.opIx, q, hk] at h; exact h.elim
        obtain ⟨ks, e1, r⟩ := dct_at rp ea q
        obtain ⟨k, h1, rfl⟩ := keyR_of hk ry
        have hv := r.val h1
        cases q2 : M.dGet y kvs with
        | none => simp [M.opIx, q, hk, q2] at h; exact h.elim
        | some d =>
          simp [M.opIx, q, hk, q2] at h
          rw [q2] at hv
          obtain ⟨v, e2, rv⟩ := hv
          refine .inr ⟨a, v, rfl, ?_, Post.here h rp rv⟩
          rw [← e2]
          exact DGet.k e1
      | ins c fs => simp [M.opIx, q] at h; exact h.elim
  | _ => exact h.elim
theorem ad_len : AdN K Θ M.fLen (rLenM K) := by
  intro ρ H S xs Xs Q rp rx h
  match xs, rx, h with
  | [.str a], rx, h =>
    obtain ⟨_, _, rfl, ⟨rfl, _⟩, rfl⟩ := rx
    have h' : Post K Θ (RelD K) ρ H (if a.length ≤ M.SZ then M.R.ok (M.D.int a.length) S else .no) Q := h
    by_cases hc : a.length ≤ M.SZ
    · rw [if_pos hc] at h'
      refine .inl ⟨by rw [ofT_len, ← SZ_eq]; exact hc, ?_⟩
      rw [ofT_len]
      exact Post.here (b := V.int a.length) h' rp rfl
    · rw [if_neg hc] at h'; exact h'.elim
  | [.tup ds], rx, h =>
    obtain ⟨_, _, rfl, ⟨l, ys, rfl, hq, r⟩, rfl⟩ := rx
    exact .inl ⟨ys, .inr hq, by rw [← r.length]; exact Post.here (b := V.int ds.length) h rp rfl⟩
  | [.ro ds], rx, h =>
    obtain ⟨_, _, rfl, ⟨l, ys, rfl, hq, r⟩, rfl⟩ := rx
    exact .inl ⟨ys, .inl hq.sq, by rw [← r.length]; exact Post.here (b := V.int ds.length) h rp rfl⟩
  | [.ref p], rx, h =>
    obtain ⟨_, _, rfl, ⟨a, rfl, ea⟩, rfl⟩ := rx
    cases q : S[p]? with
    | none => simp [M.fLen, q] at h; exact h.elim
    | some o =>
      cases o with
      | lst xs =>
        simp [M.fLen, q] at h
        obtain ⟨zs, e1, r⟩ := lst_at rp ea q
        exact .inl ⟨zs, .inl (SqL.of e1), by rw [← r.length]; exact Post.here (b := V.int xs.length) h rp rfl⟩
      | dct kvs =>
        simp [M.fLen, q] at h
        obtain ⟨ks, e1, r⟩ := dct_at rp ea q
        exact .inr ⟨a, ks, rfl, e1, by rw [← Paired.length r]; exact Post.here (b := V.int kvs.length) h rp rfl⟩
      | ins c fs => simp [M.fLen, q] at h; exact h.elim
  | [.non], _, h => exact h.elim
  | [.bl _], _, h => exact h.elim
  | [.int _], _, h => exact h.elim
  | [.ty _], _, h => exact h.elim
  | [], _, h => exact h.elim
  | a :: _ :: _, _, h => cases a <;> exact h.elim
def rInM (K : PySem.W.Frag) (neg : Bool) : R2 := fun x y H Q => uIn K neg x y H Q ∨ ∃ a o, y = .ref a ∧ DGet H a x o ∧ Q (.bl (xor neg o.isSome)) H
theorem op_inM {X : Cx} {k : Nat} (hr : Room k X.A) : OpR X (compareOp .In) (rInM X.K false) := by
  refine OpR.or u_in ?_
  intro pins s σ H x y v u Q I rx ry h
  obtain ⟨a, o, rfl, g, q⟩ := h
  cases ry
  exact d_in (hu_of hr) I g rx fun s' I' => ⟨.bl o.isSome, H, I', rfl, by rw [Bool.false_xor] at q; exact q⟩
theorem flat_rel {ρ : List Addr} {H : Hp} {d : M.D} {v : V} (r : RelD K ρ H d v) : flatV v = M.flat d := by
  cases d with
  | non => cases r; rfl
  | bl _ => cases r; rfl
  | int _ => cases r; rfl
  | str _ => obtain ⟨rfl, _⟩ := r; rfl
  | ty _ => cases r; rfl
  | ref _ => obtain ⟨_, rfl, _⟩ := r; rfl
  | tup _ => obtain ⟨_, _, rfl, _⟩ := r; rfl
  | ro _ => obtain ⟨_, _, rfl, _⟩ := r; rfl
theorem eqF_rel {ρ : List Addr} {H : Hp} {d e : M.D} {v u : V} (r : RelD K ρ H d v) (q : RelD K ρ H e u) : eqV v u = M.eqF d e := by
  cases d with
  | non =>
    cases r
    cases e with
    | str _ => obtain ⟨rfl, _⟩ := q; rfl
    | ref _ => obtain ⟨_, rfl, _⟩ := q; rfl
    | tup _ => obtain ⟨_, _, rfl, _⟩ := q; rfl
    | ro _ => obtain ⟨_, _, rfl, _⟩ := q; rfl
    | _ => cases q; rfl
  | bl _ =>
    cases r
    cases e with
    | str _ => obtain ⟨rfl, _⟩ := q; rfl
    | ref _ => obtain ⟨_, rfl, _⟩ := q; rfl
    | tup _ => obtain ⟨_, _, rfl, _⟩ := q; rfl
    | ro _ => obtain ⟨_, _, rfl, _⟩ := q; rfl
    | _ => cases q; rfl
  | int _ =>
    cases r
    cases e with
    | str _ => obtain ⟨rfl, _⟩ := q; rfl
    | ref _ => obtain ⟨_, rfl, _⟩ := q; rfl
    | tup _ => obtain ⟨_, _, rfl, _⟩ := q; rfl
    | ro _ => obtain ⟨_, _, rfl, _⟩ := q; rfl
    | _ => cases q; rfl
  | str x =>
    obtain ⟨rfl, _⟩ := r
    cases e with
    | str y => obtain ⟨rfl, _⟩ := q; exact beq_ofT x y
    | ref _ => obtain ⟨_, rfl, _⟩ := q; rfl
    | tup _ => obtain ⟨_, _, rfl, _⟩ := q; rfl
    | ro _ => obtain ⟨_, _, rfl, _⟩ := q; rfl
    | _ => cases q; rfl
  | ty _ => cases r; rfl
  | ref _ => obtain ⟨_, rfl, _⟩ := r; rfl
  | tup _ => obtain ⟨_, _, rfl, _⟩ := r; rfl
  | ro _ => obtain ⟨_, _, rfl, _⟩ := r; rfl
theorem flats_rel {ρ : List Addr} {H : Hp} : ∀ {ds : List M.D} {xs : List V}, RelDs K ρ H ds xs → xs.all flatV = ds.all M.flat
  | [], _, r => by cases r; rfl
  | _ :: _, _, ⟨y, ys, e, r1, r2⟩ => by subst e; rw [List.all_cons, List.all_cons, flat_rel r1, flats_rel r2]
theorem memF_rel {ρ : List Addr} {H : Hp} {x : M.D} {v : V} (rx : RelD K ρ H x v) : ∀ {ds : List M.D} {xs : List V}, RelDs K ρ H ds xs → inV v xs = M.memF x ds
  | [], _, r => by cases r; rfl
  | _ :: _, _, ⟨y, ys, e, r1, r2⟩ => by
    subst e
    unfold inV M.memF
    rw [List.any_cons, List.any_cons, eqF_rel r1 rx]
    have := memF_rel rx r2
    unfold inV M.memF at this
    rw [this]
theorem subT_iff (a : M.T) : ∀ b : M.T, M.subT a b = true ↔ ∃ i, i + a.length ≤ b.length ∧ (b.drop i).take a.length = a
  | [] => by
    simp only [M.subT, List.isEmpty_iff]
    constructor
    · rintro rfl; exact ⟨0, by simp, by simp⟩
    · rintro ⟨i, h, e⟩
      simp at h
      exact h.2
  | c :: r => by
    simp only [M.subT, Bool.or_eq_true, subT_iff a r]
    constructor
    · rintro (h | ⟨i, h, e⟩)
      · have := List.isPrefixOf_iff_prefix.mp h
        exact ⟨0, by simpa using this.length_le, by simpa using (List.prefix_iff_eq_take.mp this).symm⟩
      · exact ⟨i + 1, by simp; omega, by simpa using e⟩
    · rintro ⟨i, h, e⟩
      cases i with
      | zero => left; exact List.isPrefixOf_iff_prefix.mpr (List.prefix_iff_eq_take.mpr (by simpa using e.symm))
      | succ i => right; exact ⟨i, by simp at h; omega, by simpa using e⟩
theorem at_iff (a b : M.T) (i : Nat) : StrLaws.At (ofT b) (ofT a) (ofT b).length i ↔ (i + a.length ≤ b.length ∧ (b.drop i).take a.length = a) := by
  unfold StrLaws.At Builtin.Str.subAt
  rw [ofT_len, ofT_len]
  refine and_congr_right fun _ => ?_
  rw [beq_iff_eq]
  constructor
  · intro h
    have := congrArg Array.toList h
    simpa [ofT, List.extract_eq_take_drop] using this
  · intro h
    apply Array.ext'
    simpa [ofT, List.extract_eq_take_drop] using h
theorem sub_occ (a b : M.T) : (!(Builtin.Str.occurrences (ofT b) (ofT a) 0 (ofT b).length 1).isEmpty) = M.subT a b := by
  rcases StrLaws.occ_head (ofT b) (ofT a) 1 (by decide) with ⟨e, h⟩ | ⟨i, r, e, h, _⟩
  · rw [e]
    have : ¬ M.subT a b = true := fun q => by
      obtain ⟨i, q⟩ := (subT_iff a b).mp q
      exact h i ((at_iff a b i).mpr q)
    simpa using this
  · rw [e]
    have := (subT_iff a b).mpr ⟨i, (at_iff a b i).mp h⟩
    simp [this]
theorem in_core {neg : Bool} {ρ : List Addr} {H : Hp} {S : M.S} {x y : M.D} {X1 Y : V} {Q : VK} (rp : RepS K Θ ρ S H) (rx : RelD K ρ H x X1) (ry : RelD K ρ H y Y) (h : Post K Θ rB ρ H (M.inD x y S) (fun b H' => Q (.bl (xor neg b)) H')) : rInM K neg X1 Y H Q := by
  have seq : ∀ {ds : List M.D} {xs : List V} {a : Addr}, (SqL K H a xs ∨ SqT K H a xs) → RelDs K ρ H ds xs → Post K Θ rB ρ H (if (M.flat x && ds.all M.flat) = true then M.R.ok (M.memF x ds) S else .no) (fun b H' => Q (.bl (xor neg b)) H') → uIn K neg X1 (.ref a) H Q := fun {ds xs a} hq r h' => by
    by_cases hc : (M.flat x && ds.all M.flat) = true
    · rw [if_pos hc] at h'
      rw [Bool.and_eq_true, ← flat_rel rx, ← flats_rel r] at hc
      have := Post.here (b := M.memF x ds) h' rp rfl
      rw [← memF_rel rx r] at this
      have g : ∃ xs, (SqL K H a xs ∨ SqT K H a xs) ∧ flatV X1 = true ∧ xs.all flatV = true ∧ Q (.bl (xor neg (inV X1 xs))) H := ⟨xs, hq, hc.1, hc.2, this⟩
      cases X1 <;> exact g
    · rw [if_neg hc] at h'; exact h'.elim
  cases y with
  | str b =>
    cases x with
    | str a =>
      obtain ⟨rfl, _⟩ := rx
      obtain ⟨rfl, _⟩ := ry
      refine .inl ?_
      show Q (.bl (xor neg (!(Builtin.Str.occurrences (ofT b) (ofT a) 0 (ofT b).length 1).isEmpty))) H
      rw [sub_occ]
      exact Post.here (b := M.subT a b) h rp rfl
    | _ => exact h.elim
  | tup ds =>
    obtain ⟨l, xs, rfl, hq, r⟩ := ry
    exact .inl (seq (.inr hq) r h)
  | ro ds =>
    obtain ⟨l, xs, rfl, hq, r⟩ := ry
    exact .inl (seq (.inl hq.sq) r h)
  | ref p =>
    obtain ⟨a, rfl, ea⟩ := ry
    cases q : S[p]? with
    | none => simp [M.inD, q] at h; exact h.elim
    | some o =>
      cases o with
      | lst ds =>
        obtain ⟨zs, e1, r⟩ := lst_at rp ea q
        refine .inl (seq (.inl (SqL.of e1)) r ?_)
        simp only [M.inD, q] at h
        exact h
      | dct kvs =>
        by_cases hk : M.keyOk x = true
        case neg => simp [M.inD, q, hk] at h; exact h.elim
        simp only [M.inD, q, if_pos hk] at h
        obtain ⟨ks, e1, r⟩ := dct_at rp ea q
        obtain ⟨k, h1, rfl⟩ := keyR_of hk rx
        have hv := r.val h1
        refine .inr ⟨a, valV ks k, rfl, DGet.k e1, ?_⟩
        have e2 : (valV ks k).isSome = (M.dGet x kvs).isSome := by
          cases q2 : M.dGet x kvs with
          | none => rw [q2] at hv; rw [hv]; rfl
          | some d => rw [q2] at hv; obtain ⟨v, e2, _⟩ := hv; rw [e2]; rfl
        rw [e2]
        exact Post.here (b := (M.dGet x kvs).isSome) h rp rfl
      | ins c fs => simp [M.inD, q] at h; exact h.elim
  | _ => exact h.elim
theorem ad_in : AdC K Θ M.cIn (rInM K false) := by
  intro ρ H S x y X1 Y Q rp rx ry h
  refine in_core rp rx ry ?_
  have h' : Post K Θ rB ρ H (M.inD x y S) (fun b H' => Q (.bl b) H') := h
  revert h'
  cases M.inD x y S with
  | ok b s => exact fun h' ρ1 H1 b' p l rp1 e => by cases e; rw [Bool.false_xor]; exact h' ρ1 H1 b p l rp1 rfl
  | exc e s => exact fun h' => h'
  | no => exact fun h' => h'
theorem mt_ofw {X : Cx} {e : Expr} {m : M.TM} (h : MW X Θ e m) : MT X Θ e m := PW.pt h
theorem w_mt_ofw {X : Cx} {e : Expr} {m : M.TM} (h : WW X Θ e m) : WT X Θ e m := by with_unfolding_all exact mt_ofw (X := X) (e := e) (m := m) h
theorem pifs_yes {X : Cx} : PIfs X [] (RdT X.K Θ M.tYes) := fun pins s σ H Q I ⟨ρ, σ', S, st, rp, h⟩ => pifs_nil pins s σ H Q I (Post.here (b := true) h rp rfl)
theorem len_2 {g1 g2 : M.GM} : ∀ ds σ σ1, (M.gCons g1 (M.gCons g2 M.gNil)) ds σ = some σ1 → ds.length = 2 := fun ds σ σ1 e => by
  match ds, e with
  | [], e => cases e
  | [a], e =>
    simp [M.gCons] at e
    split at e <;> cases e
  | [a, b], _ => rfl
  | a :: b :: c :: r, e =>
    simp [M.gCons, M.gNil] at e
    split at e
    · split at e <;> cases e
    · cases e
theorem ints_rel {ρ : List Addr} {H : Hp} : ∀ ns : List Int, RelDs K ρ H (ns.map .int) (ns.map V.int)
  | [] => rfl
  | n :: ns => ⟨_, _, rfl, rfl, ints_rel ns⟩
theorem law_sp {f : M.F} (ht : ∀ ns : List Int, ns.length ≤ 63 → ∃ s, f [.ro (ns.map .int)] [] = .ok (.bl true) s) {H : Hp} {a : Addr} {ns : List Int} {E : XK} (hl : ns.length ≤ 63) (hO : Only H) (hS : SqL K H a (ns.map V.int)) : SpM K Θ 1 f [.ref a] H (fun v _ => v = .bl true) E := by
  obtain ⟨s, e⟩ := ht ns hl
  refine ⟨[], [.ro (ns.map .int)], [], rfl, ⟨_, _, rfl, ⟨a, ns.map V.int, rfl, ?_, ints_rel ns⟩, rfl⟩, ⟨rfl, List.nodup_nil, fun i o q => by simp at q⟩, ?_⟩
  · rcases hS with (h | h) | h
    · rcases hO a with z | ⟨o, xs, z⟩
      · rw [h] at z; cases z
      · rw [h] at z; cases z
    · exact .inl h
    · exact .inr h
  · rw [e]
    exact fun ρ' H' b _ _ _ r => r
end
section
variable {P : Program} {w : World} {K : PySem.W.Frag} {mg : Str → Option Value} {base : Heap} {Θ : Tab}
theorem fun_M0 {x qual : Str} {st : Stmt} {f : Addr} {fd : FuncData} {N ps : List Str} {k : Nat} {b : M.SM} (F : Fun K x qual st f fd) (Sc : FnScope N ps (defScope st))
    (hbody : ∀ (cdv : Value) (A : Around) (outer : List Env) (s : Shared) (H : Hp) (E : XK), Room k (A.deeper (envOfC qual (defScope st) s.heap.objs.size f cdv)) →
      MSs (cxOf CX0 P w K mg base N qual (defScope st) f cdv A outer s H E).nox Θ (defBody st) b) : FnOk P w K mg base CX0 (k + 1) f fd ps (SpM K Θ ps.length (M.fn N.length b)) := by
  refine F.ok (k := k) Sc (fun vs H Q E h => ?_) (fun cdv A outer s H vs Q E hr h => ?_)
  · obtain ⟨ρ, ds, S, hl, r, _⟩ := h
    rw [← r.length, hl]
  · obtain ⟨ρ, ds, S, hl, r, rp, h⟩ := h
    refine ⟨_, hbody cdv A outer s H E hr, ρ, _, S, start_rel r N, rp, ?_⟩
    have h' : Post K Θ (RelD K) ρ H (b (ds.map some ++ List.replicate (N.length - ds.length) none) S).out Q := h
    show PostS K Θ ρ H (b (ds.map some ++ List.replicate (N.length - ds.length) none) S) _
    revert h'
    cases b (ds.map some ++ List.replicate (N.length - ds.length) none) S with
    | rt a s => exact fun h' => h'
    | nx a s => exact fun h' ρ1 H1 σ1 p1 l1 rp1 _ => h' ρ1 H1 .non p1 l1 rp1 rfl
    | bk a s => exact fun h' => h'.elim
    | ct a s => exact fun h' => h'.elim
    | exc e a s => exact fun h' => h'
    | no => exact fun h' => h'
theorem w_fun_M0 {x qual : Str} {st : Stmt} {f : Addr} {fd : FuncData} {N ps : List Str} {k : Nat} {b : M.SM} (F : Fun K x qual st f fd) (Sc : FnScope N ps (defScope st))
    (hbody : ∀ (cdv : Value) (A : Around) (outer : List Env) (s : Shared) (H : Hp) (E : XK), Room k (A.deeper (envOfC qual (defScope st) s.heap.objs.size f cdv)) →
      WSs (cxOf CX0 P w K mg base N qual (defScope st) f cdv A outer s H E).nox Θ (defBody st) b) : FnOk P w K mg base CX0 (k + 1) f fd ps (SpM K Θ ps.length (M.fn N.length b)) := by with_unfolding_all exact fun_M0 (x := x) (qual := qual) (st := st) (f := f) (fd := fd) (N := N) (ps := ps) (k := k) (b := b) F Sc hbody
end
theorem bt_max : bootBuiltins "max" = some (.builtin "max") := by decide +kernel
theorem bt_sum : bootBuiltins "sum" = some (.builtin "sum") := by decide +kernel
end L2
namespace L2
open PySem PySem.Spec PyProof.Rows PySem.Builtin.Str
section
variable {K : PySem.W.Frag} {Θ : Tab}
theorem splitT_eq (c : Nat) : ∀ l : M.T, M.splitT c l = TX.splitL c l
  | [] => rfl
  | d :: r => by
    unfold M.splitT TX.splitL
    rw [splitT_eq c r]
    rfl
theorem splitL_mem (c : Nat) : ∀ (l p : List Nat), p ∈ TX.splitL c l → ∀ x ∈ p, x ∈ l
  | [], p, hp, x, hx => by
    simp only [TX.splitL, List.mem_cons, List.not_mem_nil, or_false] at hp
    subst hp
    exact absurd hx (by simp)
  | d :: r, p, hp, x, hx => by
    have ih := splitL_mem c r
    unfold TX.splitL at hp
    split at hp
    · rcases List.mem_cons.mp hp with rfl | hp
      · cases hx
      · exact List.mem_cons_of_mem _ (ih p hp x hx)
    · cases q : TX.splitL c r with
      | nil => exact absurd q (TX.splitL_ne c r)
      | cons a as =>
        rw [q] at hp ih
        rcases List.mem_cons.mp hp with rfl | hp
        · rcases List.mem_cons.mp hx with rfl | hx
          · exact List.mem_cons_self
          · exact List.mem_cons_of_mem _ (ih a List.mem_cons_self x hx)
        · exact List.mem_cons_of_mem _ (ih p (List.mem_cons_of_mem _ hp) x hx)
theorem strs_rel {ρ : List Addr} {H : Hp} : ∀ (ts : List M.T), (∀ t ∈ ts, okT t) → RelDs K ρ H (ts.map .str) ((ts.map ofT).map V.str)
  | [], _ => rfl
  | t :: ts, h => ⟨_, _, rfl, ⟨rfl, h t List.mem_cons_self⟩, strs_rel ts fun x hx => h x (List.mem_cons_of_mem _ hx)⟩
theorem ad_split : AdM K Θ M.mSplit rSplit := by
  intro ρ H S x xs X Xs Q rp rx rxs h
  unfold M.mSplit at h
  split at h
  · rename_i z c
    obtain ⟨rfl, okz⟩ := rx
    obtain ⟨Y, r, rfl, ⟨rfl, okc⟩, rfl⟩ := rxs
    split at h
    · rename_i hl
      refine ⟨ofT z, ofT [c], rfl, rfl, rfl, by rw [ofT_len, ← SZ_eq]; exact hl, fun p hp => ?_⟩
      rw [show ofT [c] = ⟨#[c]⟩ from rfl, TX.split_eq, ofT_list, ← splitT_eq]
      refine h.alloc rp (strs_rel (M.splitT c z) fun t ht => okT_sub okz fun d hd => ?_) hp
      rw [splitT_eq] at ht
      exact splitL_mem c z t ht d hd
    · exact h.elim
  · exact h.elim
theorem ref_lst {ρ : List Addr} {H : Hp} {S : M.S} {p : Nat} {X : V} {ds : List M.D} (rp : RepS K Θ ρ S H) (rx : RelD K ρ H (.ref p) X) (e : S[p]? = some (.lst ds)) : ∃ a xs, X = .ref a ∧ ρ[p]? = some a ∧ H a = some (.lst xs) ∧ RelDs K ρ H ds xs := by
  obtain ⟨a, rfl, ha⟩ := rx
  obtain ⟨b, hb, xs, hx, r⟩ := rp.obj p _ e
  rw [ha] at hb; cases hb
  exact ⟨a, xs, rfl, ha, hx, r⟩
theorem mut_lst {H : Hp} {a : Addr} {xs : List V} (h : H a = some (.lst xs)) : Mut (H a) := by rw [h]; trivial
theorem ad_append : AdM K Θ M.mAppend rAppend := by
  intro ρ H S x xs X Xs Q rp rx rxs h
  unfold M.mAppend at h
  split at h
  · rename_i p y
    obtain ⟨Y, r, rfl, ry, rfl⟩ := rxs
    split at h
    · rename_i ds e
      obtain ⟨a, zs, rfl, ha, hx, rz⟩ := ref_lst rp rx e
      split at h
      · rename_i hl
        have le := Le.put (mut_lst hx) (.lst (zs ++ [Y]))
        refine ⟨a, zs, Y, rfl, rfl, hx, by rw [← SZ_eq, ← rz.length]; exact hl, ?_⟩
        exact h ρ _ _ (List.prefix_refl _) le (rp.put ha (mut_lst hx) ⟨_, upd_same, (rz.mono (List.prefix_refl _) le).app ⟨_, _, rfl, ry.mono (List.prefix_refl _) le, rfl⟩⟩) rfl
      · exact h.elim
    · exact h.elim
  · exact h.elim
theorem ad_extend : AdM K Θ M.mExtend rExtend := by
  intro ρ H S x xs X Xs Q rp rx rxs h
  unfold M.mExtend at h
  split at h
  · rename_i p q
    obtain ⟨Y, r, rfl, ry, rfl⟩ := rxs
    split at h
    · rename_i ds es e1 e2
      obtain ⟨a, zs, rfl, ha, hx, rz⟩ := ref_lst rp rx e1
      obtain ⟨b, us, rfl, hb, hy, ru⟩ := ref_lst rp ry e2
      split at h
      · rename_i hl
        have le := Le.put (mut_lst hx) (.lst (zs ++ us))
        refine ⟨a, b, zs, us, rfl, rfl, hx, hy, by rw [← SZ_eq, ← rz.length, ← ru.length]; exact hl.1, ?_⟩
        exact h ρ _ _ (List.prefix_refl _) le (rp.put ha (mut_lst hx) ⟨_, upd_same, (rz.mono (List.prefix_refl _) le).app (ru.mono (List.prefix_refl _) le)⟩) rfl
      · exact h.elim
    · exact h.elim
  · exact h.elim
theorem ad_pop : AdM K Θ M.mPop rPop := by
  intro ρ H S x xs X Xs Q rp rx rxs h
  unfold M.mPop at h
  split at h
  · rename_i p
    cases rxs
    split at h
    · rename_i ds e
      obtain ⟨a, zs, rfl, ha, hx, rz⟩ := ref_lst rp rx e
      split at h
      · rename_i y hy
        rw [List.getLast?_eq_getElem?] at hy
        obtain ⟨Y, hY, ry⟩ := rz.get hy
        have le := Le.put (mut_lst hx) (.lst zs.dropLast)
        exact ⟨a, zs, Y, rfl, rfl, hx, by rw [← rz.length]; exact hY, h ρ _ _ (List.prefix_refl _) le (rp.put ha (mut_lst hx) ⟨_, upd_same, rz.dropLast.mono (List.prefix_refl _) le⟩) (ry.mono (List.prefix_refl _) le)⟩
      · exact h.elim
    · exact h.elim
  · exact h.elim
end
end L2
namespace L2
open PySem PySem.Spec PyProof.Rows PySem.Builtin.Str
section
variable {K : PySem.W.Frag} {Θ : Tab}
theorem ad_int : AdN K Θ M.fInt (fun xs H Q => (∃ i, xs = [.int i] ∧ Q (.int i) H) ∨ ∃ k, xs = [.bl k] ∧ Q (.int (if k then 1 else 0)) H) := by
  intro ρ H S xs Xs Q rp rxs h
  unfold M.fInt at h
  split at h
  · obtain ⟨Y, r, rfl, ry, rfl⟩ := rxs
    cases ry
    exact .inl ⟨_, rfl, Post.here h rp rfl⟩
  · obtain ⟨Y, r, rfl, ry, rfl⟩ := rxs
    cases ry
    exact .inr ⟨_, rfl, Post.here h rp rfl⟩
  · exact h.elim
end
end L2
namespace L2
open PySem PySem.Spec PyProof.Rows
def Ite (K : PySem.W.Frag) (a : Addr) : It :=
  ⟨fun i H => ∃ xs x, SqL K H a xs ∧ xs[i]? = some x, fun i H v H' => ∃ p x, H p = none ∧ v = .ref p ∧ H' = upd H p (.tup [.int (i : Int), x]) ∧ ∀ xs, SqL K H a xs → xs[i]? = some x, fun i H => ∃ xs, SqL K H a xs ∧ xs.length ≤ i⟩
theorem Inv.turned2 {X : Cx} {pins : List (Addr × Obj)} {σ : St} {H : Hp} {s : Shared} {h' : Heap} {t' : Nat} {e it T : Addr} {o : HO} (I : Inv X pins σ H s) (fe : FpOk X pins H e) (fi : FpOk X pins H it) (hT : s.heap.objs.size ≤ T)
    (k : ∀ b q, b ≠ e → b ≠ it → s.heap.get? b = some q → h'.get? b = some q) (new : ObjOk X.prog X.w (upd H T o) h' T o) (ht : 0 < t') : Inv X pins σ (upd H T o) { s with heap := h', toks := t' } := by
  have hn : H T = none := I.hok.fresh hT
  have nT : ∀ {b : Addr} {q : Obj}, s.heap.get? b = some q → b ≠ T := fun e => Nat.ne_of_lt (Nat.lt_of_lt_of_le (Heap.lt_size e) hT)
  have nch : ∀ {b : Addr} {u : HO}, H b = some u → b ≠ e ∧ b ≠ it := fun q => ⟨(fun z => by rw [z, fe.1] at q; cases q), (fun z => by rw [z, fi.1] at q; cases q)⟩
  refine I.step (g' := s.gens) (d' := s.drawn) (ch := [e, it]) (fun b hb => ?_) (fun b q _ _ hc g _ => k b q (fun z => hc (by simp [z])) (fun z => hc (by simp [z])) g) (fun b q _ _ hc g _ => ⟨q.slots, k b q (fun z => hc (by simp [z])) (fun z => hc (by simp [z])) g⟩)
    (fun b q _ g n => by rw [upd_ne (nT g)]; exact n) (fun b q hc g => ⟨q, k b q (fun z => hc (by simp [z])) (fun z => hc (by simp [z])) g⟩)
    (fun b xs g => by rw [upd_ne (ne_of_none g hn)]; exact g) (fun b q u g => by rw [upd_ne (ne_of_none g hn)]; exact g) (fun b ps g => ⟨#[], by rw [upd_ne (ne_of_none g hn), g]; simp⟩) (fun m hm => ?_) (fun b u g => ?_) I.bare ht
  · rcases List.mem_cons.mp hb with rfl | hb
    · exact ⟨fe.2.2.2.1, fe.2.1, fe.2.2.2.2.1, fe.2.2.2.2.2⟩
    · have z : b = it := by simpa using hb
      subst z
      exact ⟨fi.2.2.2.1, fi.2.1, fi.2.2.2.2.1, fi.2.2.2.2.2⟩
  · obtain ⟨q, es, ep, ho, r⟩ := hm
    exact ⟨q, es, ep, k _ q (Ne.symm fe.2.1) (Ne.symm fi.2.1) ho, r⟩
  · by_cases hb : b = T
    · subst hb; rw [upd_same] at g; cases g; exact new
    · rw [upd_ne hb] at g
      refine (I.hok b u g).stay (fun c v hc q => ?_) (fun c q => by rw [upd_ne (ne_of_none q hn)]; exact q) fun c xs q => by rw [upd_ne (ne_of_none q hn)]; exact q
      rcases hc with z | z
      · rw [z] at q ⊢; exact k _ _ (nch g).1 (nch g).2 q
      · exact k _ _ (nch z).1 (nch z).2 q
theorem turn_enum {P : Program} {w : World} {K : PySem.W.Frag} {elts : List Expr} {kt : _} {tp : Pos} (a e it : Addr) (hne : e ≠ it) : Turn P w K (.Tuple elts kt tp) (Ite K a) [e, it] e (fun i h => (∃ old, IsEnum h e it (i : Int) old) ∧ h.IsListIter it a i) where
  mem := by simp
  obj := fun i h ⟨⟨old, he⟩, hi⟩ b hb => by
    rcases List.mem_cons.mp hb with rfl | hb
    · exact ⟨_, he, fun v z => by
        have z' : Data.fields _ = Data.cell v := z
        cases z'⟩
    · have z : b = it := by simpa using hb
      subst z
      obtain ⟨o, g, c, d⟩ := hi
      exact ⟨o, g, fun v z => by rw [d] at z; cases z⟩
  keep := fun i h h' ⟨⟨old, he⟩, hi⟩ k => ⟨⟨old, k e (by simp) _ he⟩, hi.at fun o g => k it (by simp) o g⟩
  item := by
    intro X hP hw hK hc i pins s σ H E I hf ⟨⟨old, he⟩, hi⟩ hg
    subst hP hw hK
    obtain ⟨xs, x, hq, hx⟩ := hg
    obtain ⟨its, rv, p, hz⟩ := I.list hq
    obtain ⟨u, hu, ru⟩ := rv.get hx
    have fe := hf e (by simp)
    have fi := hf it (by simp)
    refine wpAny_pyNext_enum_item he hi p.isList (x := u) (by simpa using hu) hne fun h' ho hi' hT hsz hk => ?_
    refine ⟨_, rfl, wpAny_letOwnedTupleGo_enum ho fun h'' he'' hs'' => ?_⟩
    have eT : s.heap.objs.size ≠ e := Nat.ne_of_gt (Heap.lt_size he)
    have iT : s.heap.objs.size ≠ it := by obtain ⟨o, g, _⟩ := hi; exact Nat.ne_of_gt (Heap.lt_size g)
    refine ⟨.ref s.heap.objs.size, upd H s.heap.objs.size (.tup [.int (i : Int), x]), ?_, rfl, ⟨s.heap.objs.size, x, I.hok.fresh (Nat.le_refl _), rfl, rfl, fun ys hy => by rw [I.list_inj hy hq]; exact hx⟩, ⟨⟨u, by simpa using he''⟩, hi'.at fun o g => (hs''.2 it (Ne.symm hne)).trans g⟩, fun b hb => ?_⟩
    · refine I.turned2 fe fi (Nat.le_refl _) (fun b q h1 h2 g => (hs''.2 b h1).trans (hk b q h1 h2 g)) ?_ (Nat.succ_pos _)
      exact ⟨by show 2 ≤ sizeLine; decide, [.int (i : Int) s.toks, u], .cons ⟨_, rfl⟩ (.cons ru .nil), _, (hs''.2 _ eT).trans hT, rfl, _, rfl⟩
    · rw [upd_ne]
      · exact (hf b hb).1
      · rcases List.mem_cons.mp hb with rfl | hb
        · exact Ne.symm eT
        · have z : b = it := by simpa using hb
          subst z
          exact Ne.symm iT
  done := by
    intro X hP hw hK hc i pins s σ H E I hf ⟨⟨old, he⟩, hi⟩ hg
    subst hP hw hK
    obtain ⟨xs, hq, hx⟩ := hg
    obtain ⟨its, rv, p, hz⟩ := I.list hq
    obtain ⟨f0, f1, f2, f3, f4, f5⟩ := hf it (by simp)
    have hl := rv.length
    exact wpAny_pyNext_enum_end (I.ok.hd hc) he hi p.isList (by simp; omega) fun h' eb => ⟨rfl, I.turned (t' := s.toks) (fun b o hb g => eb b o hb g) f0 f1 f3 f4 f5⟩
  self := fun _ _ _ _ _ ⟨⟨_, he⟩, _⟩ h => wpAny_pyIter_enum he h
def iEnm (K : PySem.W.Frag) (ta : TA) : TI := fun σ H R => ta σ H fun vs H1 => ∃ a xs, vs = [.ref a] ∧ SqL K H1 a xs ∧ R (Ite K a) H1
theorem pi_enum {X : Cx} {a : Expr} {ta : TA} {p pos : Pos} {elts : List Expr} {kt : _} {tp : Pos} (hg : Gl X "enumerate") (hm : X.mg "enumerate" = none) (ha : PA X [a] ta) (hs : starEach [a] X.env = [(false, eval a X.env)] := by rfl) : PI X (.Tuple elts kt tp) (.Call (.Name "enumerate" p) [a] [] pos) (iEnm X.K ta) := by
  intro pins s σ H R I h
  refine Call_ (ld_blt I hg hm (show bootBuiltins "enumerate" = some (.type "enumerate") by kernel_rfl) (PyProof.Rows.callWith_type1 (thn (ha pos pins s σ H _ I h) fun us s1 ⟨vs, H1, I1, r1, q1⟩ => ?_) hs rfl))
  obtain ⟨a', xs, e, hq, q⟩ := q1
  subst e
  obtain ⟨u, rfl, ru⟩ := vals1 r1
  cases ru
  obtain ⟨its, rv, pl, hz⟩ := I1.list hq
  refine call_enumerate_list pl.isList fun h' he hi hsz hk => ?_
  refine wpAny_pyIter_enum he ⟨s1.heap.objs.size + 1, [s1.heap.objs.size + 1, s1.heap.objs.size], _, _, H1, rfl, I1.kept (t' := s1.toks) hk, turn_enum a' _ _ (Nat.succ_ne_self _), ⟨⟨_, he⟩, hi⟩, fun b hb => ?_, q⟩
  rcases List.mem_cons.mp hb with rfl | hb
  · exact I1.fpOk (Nat.le_succ _) (I1.hok.fresh (Nat.le_succ _))
  · have z : b = s1.heap.objs.size := by simpa using hb
    subst z
    exact I1.fpOk (Nat.le_refl _) (I1.hok.fresh (Nat.le_refl _))
section
variable {Θ : Tab}
theorem enumL_len : ∀ (k : Int) (ds : List M.D), (M.enumL k ds).length = ds.length
  | _, [] => rfl
  | k, d :: ds => by rw [M.enumL, List.length_cons, List.length_cons, enumL_len]
theorem enumL_at : ∀ (k : Int) (ds : List M.D) (i : Nat), (M.enumL k ds)[i]? = ds[i]?.map fun d => .tup [.int (k + i), d]
  | _, [], _ => rfl
  | k, d :: ds, 0 => by simp [M.enumL]
  | k, d :: ds, i + 1 => by
    rw [M.enumL, List.getElem?_cons_succ, enumL_at (k + 1) ds i, List.getElem?_cons_succ]
    rw [show k + 1 + (i : Int) = k + ((i + 1 : Nat) : Int) by omega]
theorem itr_enum {K : PySem.W.Frag} {ρ : List Addr} {H : Hp} {a : Addr} {ds : List M.D} {g : M.Gd} (key : ∀ {ρ' : List Addr} {S' : M.S} {H' : Hp}, ρ <+: ρ' → Le H H' → RepS K Θ ρ' S' H' → M.gdOk g S' = true → ∃ zs, SqL K H' a zs ∧ RelDs K ρ' H' ds zs) : ItR K Θ ρ H (Ite K a) (M.enumL 0 ds) g := by
  refine ⟨fun j ρ' S' H' p l rp g hj => ?_, fun j ρ' S' H' v H2 p l rp g hj y => ?_, fun ρ' S' H' p l rp g => ?_⟩
  · rw [enumL_len] at hj
    obtain ⟨zs, e, r⟩ := key p l rp g
    obtain ⟨v, e1, _⟩ := r.get (i := j) (d := ds[j]) (by simp [hj])
    exact ⟨zs, v, e, e1⟩
  · rw [enumL_len] at hj
    obtain ⟨zs, e, r⟩ := key p l rp g
    obtain ⟨v', e1, rv⟩ := r.get (i := j) (d := ds[j]) (by simp [hj])
    obtain ⟨q, x, hn, rfl, rfl, y2⟩ := y
    have y3 := y2 zs e
    rw [e1] at y3; cases y3
    refine ⟨.tup [.int (j : Int), ds[j]], by rw [enumL_at]; simp [hj], ?_, Le.new hn _, rp.aside hn _⟩
    exact ⟨q, _, rfl, SqT.of upd_same, _, _, rfl, rfl, _, _, rfl, rv.mono (List.prefix_refl _) (Le.new hn _), rfl⟩
  · obtain ⟨zs, e, r⟩ := key p l rp g
    exact ⟨zs, e, by rw [enumL_len, r.length]; exact Nat.le_refl _⟩
theorem mi_enumerate {X : Cx} {e : Expr} {m : M.EM} {p pos tp : Pos} {elts : List Expr} {kt : _} (hg : Gl X "enumerate") (hm : X.mg "enumerate" = none) (he : ME X Θ e m) (hs : notStar e = true := by rfl) : MI X Θ (.Tuple elts kt tp) (.Call (.Name "enumerate" p) [e] [] pos) (M.iEnum 0 m) :=
  (pi_enum hg hm (ma_cons he ma_nil hs) (star_cons hs)).imp fun σ H R ⟨ρ, σ', S, st, rp, h⟩ => ⟨ρ, σ', S, st, rp, by
    have h' : Post X.K Θ _ ρ H (((m σ' S).bind fun x s => match x with
      | .ro ds => M.R.ok (M.enumL 0 ds, ([] : M.Gd)) s
      | .ref i => (match s[i]? with | some (.lst xs) => .ok (M.enumL 0 xs, [(i, .lst xs)]) s | _ => .no)
      | _ => .no).bind fun p s => if M.gdOk p.2 s then .ok p s else .no) R := h
    show Post X.K Θ _ ρ H ((m σ' S).bind fun x s => (M.R.ok [] s).bind fun xs s => .ok (x :: xs) s) _
    cases hm : m σ' S with
    | no => rw [hm] at h'; exact h'.elim
    | exc a s => rw [hm] at h'; exact h'.elim
    | ok d S1 =>
      rw [hm] at h'
      intro ρ1 H1 vs p l rp1 rv
      obtain ⟨v, ys, rfl, rv, hy⟩ := rv
      cases hy
      cases d with
      | ro ds =>
        obtain ⟨a, xs, rfl, hq, r⟩ := rv
        exact ⟨a, xs, rfl, hq.sq, h' ρ1 H1 _ p l rp1 (itr_enum fun p' l' _ _ => ⟨xs, (l'.rol hq).sq, r.mono p' l'⟩)⟩
      | ref i =>
        obtain ⟨a, rfl, e1⟩ := rv
        have h2 : Post X.K Θ _ ρ H ((match S1[i]? with
          | some (.lst xs) => M.R.ok (M.enumL 0 xs, [(i, M.O.lst xs)]) S1
          | _ => .no).bind fun p s => if M.gdOk p.2 s then .ok p s else .no) R := h'
        cases q : S1[i]? with
        | none => rw [q] at h2; exact h2.elim
        | some o =>
          rw [q] at h2
          cases o with
          | lst xs =>
            obtain ⟨b, e2, zs, e3, r⟩ := rp1.obj i _ q
            rw [e1] at e2; cases e2
            have hg : M.gdOk [(i, M.O.lst xs)] S1 = true := by simp [M.gdOk, q]
            have h3 : Post X.K Θ _ ρ H (if M.gdOk [(i, M.O.lst xs)] S1 then M.R.ok (M.enumL 0 xs, [(i, M.O.lst xs)]) S1 else .no) R := h2
            rw [if_pos hg] at h3
            refine ⟨a, zs, rfl, SqL.of e3, h3 ρ1 H1 _ p l rp1 (itr_enum fun {ρ' S' H'} p' _ rp' g' => ?_)⟩
            have g2 : S'[i]? = some (M.O.lst xs) := by simpa [M.gdOk] using g'
            obtain ⟨b2, f1, ws, f2, r2⟩ := rp'.obj i _ g2
            rw [pre_get p' e1] at f1; cases f1
            exact ⟨ws, SqL.of f2, r2⟩
          | dct kvs => exact h2.elim
          | ins c fs => exact h2.elim
      | _ => exact h'.elim⟩
theorem w_mi_enumerate {X : Cx} {e : Expr} {m : M.EM} {p pos tp : Pos} {elts : List Expr} {kt : _} (hg : Gl X "enumerate") (hm : X.mg "enumerate" = none) (he : WE X Θ e m) (hs : notStar e = true := by rfl) : WI X Θ (.Tuple elts kt tp) (.Call (.Name "enumerate" p) [e] [] pos) (M.iEnum 0 m) := by with_unfolding_all exact mi_enumerate (X := X) (e := e) (m := m) (p := p) (pos := pos) (tp := tp) (elts := elts) (kt := kt) hg hm he hs
end
end L2
namespace L2
open PySem PySem.Spec PyProof.Rows
section
variable {Θ : Tab}
theorem mg_tupM {X : Cx} {es : List Expr} {g : M.GMs} {js : List Nat} {k : Nat} {pos : Pos} {n : Nat} (hc : X.calm = true) (h : MGs X Θ js es g) (hl : ∀ ds σ σ1, g ds σ = some σ1 → ds.length = n) (hn : (assignEach es X.env).length = n := by rfl) (hst : (assignEach es X.env).findIdx? (·.1) = none := by rfl) : MG X Θ js (.Tuple es k pos) (M.gTup g) :=
  mg_tup (es := es) (pg_tup hc h hn hst) hl
theorem w_mg_tupM {X : Cx} {es : List Expr} {g : M.GMs} {js : List Nat} {k : Nat} {pos : Pos} {n : Nat} (hc : X.calm = true) (h : WGs X Θ js es g) (hl : ∀ ds σ σ1, g ds σ = some σ1 → ds.length = n) (hn : (assignEach es X.env).length = n := by rfl) (hst : (assignEach es X.env).findIdx? (·.1) = none := by rfl) : WG X Θ js (.Tuple es k pos) (M.gTup g) := by with_unfolding_all exact mg_tupM (X := X) (es := es) (g := g) (js := js) (k := k) (pos := pos) (n := n) hc h hl hn hst
end
end L2
namespace L2
open PySem PySem.Spec PyProof.Rows
section
variable {K : PySem.W.Frag} {Θ : Tab}
theorem vals_get : ∀ {xs : List V} {us : List Value}, xs.length = us.length → (∀ (j : Nat) u, us[j]? = some u → ∃ x, xs[j]? = some x ∧ RelV x u) → Vals xs us
  | [], [], _, _ => .nil
  | [], _ :: _, h, _ => by simp at h
  | _ :: _, [], h, _ => by simp at h
  | x :: xs, u :: us, h, k => by
    obtain ⟨y, e, r⟩ := k 0 u rfl
    cases e
    exact .cons r (vals_get (by simpa using h) fun j u hu => by
      obtain ⟨y, e, r⟩ := k (j + 1) u (by simpa using hu)
      exact ⟨y, by simpa using e, r⟩)
theorem kV_rel {P : Program} {w : World} {k : Key} {v : Value} (h : (mixKind P w).is k v = true) : RelV (kV k) v := by
  rcases keyIs_shape (k := k) (v := v) h with ⟨i, t, rfl, rfl⟩ | ⟨x, t, rfl, rfl⟩
  · exact ⟨t, rfl⟩
  · exact ⟨t, rfl⟩
def rListM (K : PySem.W.Frag) : List V → Hp → VK → Prop := fun xs H Q => (∃ p ys, xs = [.ref p] ∧ (SqL K H p ys ∨ SqT K H p ys) ∧ ∀ l, H l = none → Q (.ref l) (upd H l (.lst ys))) ∨
  ∃ p ks, xs = [.ref p] ∧ H p = some (.dK ks) ∧ ∀ l, H l = none → Q (.ref l) (upd H l (.lst (ks.map fun kv => kV kv.1)))
theorem call_listM {X : Cx} {k : Nat} (hr : Room k X.A) : CallR X (.type "list") (rListM X.K) := by
  intro pins s σ H xs us Q I r h
  rcases h with h | ⟨p, ks, rfl, hp, q⟩
  · exact call_list_of pins s σ H xs us Q I r h
  · obtain ⟨u, rfl, ru⟩ := vals1 r
    cases ru
    obtain ⟨z, lo, vs, rv, dd⟩ := dk_of I.hok hp
    obtain ⟨ep, da⟩ := dd.dictAt
    have hl := rv.length
    refine wpAny_with_toks (n := 1) I.tk (PySem.W.kdl_call (PySem.W.kdl_dict lo) hr.hd da (by omega) fun h' tk acc c' keep hS it htk => ?_)
    obtain ⟨hsz, hit⟩ := it
    refine ⟨.ref s.heap.objs.size, _, I.laid (t' := tk) (o := .lst (ks.map fun kv => kV kv.1)) keep (Nat.le_refl _) ⟨by rw [List.length_map]; exact z, acc.toList, c', vals_get (by simp; omega) fun j u hu => ?_, by simpa using hS⟩ htk, rfl, q _ (I.hok.fresh (Nat.le_refl _))⟩
    obtain ⟨k, x, e, hk⟩ := hit j u (by simpa using hu)
    have hj : j < ks.length := by have := (List.getElem?_eq_some_iff.mp e).1; omega
    have ek : (ks.map (·.1))[j]? = some k := by rw [rv.keys, List.getElem?_map, e]; rfl
    refine ⟨kV k, ?_, kV_rel hk⟩
    rw [List.getElem?_map] at ek ⊢
    cases q2 : ks[j]? with
    | none => rw [q2] at ek; cases ek
    | some kv => rw [q2] at ek; cases ek; rfl
theorem keys_rel {ρ : List Addr} {H : Hp} : ∀ {kvs : List (M.D × M.D)} {ks : List (Key × V)}, DR K ρ H kvs ks → RelDs K ρ H (kvs.map (·.1)) (ks.map fun kv => kV kv.1)
  | _, _, .nil => rfl
  | (d, _) :: _, (k, _) :: _, .cons h t => by
    refine ⟨_, _, rfl, ?_, keys_rel t⟩
    have h1 : KeyR d k := h.1
    cases d with
    | int i => cases h1; rfl
    | str x => obtain ⟨rfl, ok⟩ := h1; exact ⟨rfl, ok⟩
    | _ => exact h1.elim
theorem ad_list : AdN K Θ M.fList (rListM K) := by
  intro ρ H S xs Xs Q rp rxs h
  unfold M.fList at h
  split at h
  · obtain ⟨Y, r, rfl, ⟨a, zs, rfl, hq, rz⟩, rfl⟩ := rxs
    exact .inl ⟨a, zs, rfl, .inr hq, fun p hp => Post.alloc h rp rz hp⟩
  · obtain ⟨Y, r, rfl, ⟨a, zs, rfl, hq, rz⟩, rfl⟩ := rxs
    exact .inl ⟨a, zs, rfl, .inl hq.sq, fun p hp => Post.alloc h rp rz hp⟩
  · rename_i p
    obtain ⟨Y, r, rfl, ry, rfl⟩ := rxs
    split at h
    · rename_i ds e
      obtain ⟨a, zs, rfl, ha, hx, rz⟩ := ref_lst rp ry e
      exact .inl ⟨a, zs, rfl, .inl (SqL.of hx), fun p hp => Post.alloc h rp rz hp⟩
    · rename_i kvs e
      obtain ⟨a, rfl, ha⟩ := ry
      obtain ⟨ks, e2, r⟩ := dct_at rp ha e
      exact .inr ⟨a, ks, rfl, e2, fun p hp => Post.alloc h rp (keys_rel r) hp⟩
    · exact h.elim
  · exact h.elim
def bestS {α : Type} (c : α → α → Bool) (y : α) (ys : List α) : α := ys.foldl (fun b z => if c z b then z else b) y
theorem arg_best {α : Type} (c : α → α → Bool) (y : α) (ys : List α) : ∀ k, k ≤ ys.length → (y :: ys).getD (argBest (fun i j => c ((y :: ys).getD i y) ((y :: ys).getD j y)) k) y = bestS c y (ys.take k)
  | 0, _ => rfl
  | k + 1, h => by
    have ih := arg_best c y ys k (by omega)
    have e : ys.take (k + 1) = ys.take k ++ [(y :: ys).getD (k + 1) y] := by
      rw [List.take_succ, List.getElem?_eq_getElem (by omega)]
      simp [List.getD_eq_getElem?_getD, show k < ys.length by omega]
    rw [e]
    unfold bestS at ih ⊢
    rw [List.foldl_append, ← ih]
    show (y :: ys).getD (if c ((y :: ys).getD (k + 1) y) ((y :: ys).getD (argBest _ k) y) then k + 1 else argBest _ k) y = _
    split
    · rename_i hc; simp only [List.foldl_cons, List.foldl_nil]; rw [if_pos hc]
    · rename_i hc; simp only [List.foldl_cons, List.foldl_nil]; rw [if_neg hc]
theorem vals_at {ys : List Str} {its : List Value} (r : Vals (ys.map V.str) its) {i : Nat} {v : Value} (h : its[i]? = some v) (d : Str) : ∃ t, v = .str (ys.getD i d) t := by
  have hl := r.length
  have hi : i < its.length := (List.getElem?_eq_some_iff.mp h).1
  rw [List.length_map] at hl
  obtain ⟨u, hu, ru⟩ := r.get (i := i) (x := V.str (ys.getD i d)) (by rw [List.getElem?_map, List.getD_eq_getElem?_getD, List.getElem?_eq_getElem (by omega)]; rfl)
  rw [h] at hu
  cases hu
  exact ru
def rBest (K : PySem.W.Frag) (c : Str → Str → Bool) : List V → Hp → VK → Prop := fun xs H Q => ∃ p y ys, xs = [.ref p] ∧ SqL K H p ((y :: ys).map V.str) ∧ Q (.str (bestS c y ys)) H
def gtS (x y : Str) : Bool := decide (y.cps.toList < x.cps.toList)
theorem call_maxM {X : Cx} {k : Nat} (hr : Room k X.A) : CallR X (.builtin "max") (rBest X.K gtS) := by
  intro pins s σ H xs us Q I r h
  obtain ⟨p, y, ys, rfl, hq, q⟩ := h
  obtain ⟨u, rfl, ru⟩ := vals1 r
  cases ru
  obtain ⟨its, rv, pl, hz⟩ := I.list hq
  have hlen : its.length = ys.length + 1 := by have := rv.length; simp at this; omega
  obtain ⟨o, ho, ho2⟩ := pl.isList
  have hlt : p < s.heap.objs.size := Heap.lt_size ho
  refine wpAny_with_toks (n := 1) I.tk (call_max_walk (wpAny_pyIter_list pl.isList ?_))
  refine ⟨s.heap.objs.size, _, _, _, _, _, fun i j => gtS ((y :: ys).getD i y) ((y :: ys).getD j y), rfl, Walks.list (show X.A.in1.handled = none from hr.hd) s.heap.objs.size p (Nat.ne_of_lt hlt) its.toArray, ⟨⟨_, Heap.get?_push_size _ rfl, rfl, rfl⟩, pl.isList.push _⟩, ?_, by simp [hlen], ?_, fun v h' tk hP hk htk => ?_⟩
  · intro b hb
    rw [Heap.size_push]
    rcases List.mem_cons.mp hb with rfl | hb
    · exact Nat.lt_succ_self _
    · have : b = p := by simpa using hb
      rw [this]; exact Nat.lt_succ_of_lt hlt
  · intro i j vi vj s' Q' E' hi hj hQ
    obtain ⟨t, rfl⟩ := vals_at rv (v := vi) (by simpa using hi) y
    obtain ⟨t', rfl⟩ := vals_at rv (v := vj) (by simpa using hj) y
    exact P.gt_str hQ
  · have hk' : ∀ b o, s.heap.get? b = some o → h'.get? b = some o := fun b o e => hk b o (by simpa using Nat.ne_of_lt (Heap.lt_size e)) (Heap.get?_push_of_some _ e)
    obtain ⟨t, rfl⟩ := vals_at rv (v := v) (i := argBest (fun i j => gtS ((y :: ys).getD i y) ((y :: ys).getD j y)) (its.toArray.size - 1)) (by rw [← List.getElem?_toArray]; exact hP) y
    refine ⟨.str (bestS gtS y ys), H, I.kept hk' htk, ⟨t, ?_⟩, q⟩
    rw [show its.toArray.size - 1 = ys.length by simp [hlen], arg_best gtS y ys ys.length (Nat.le_refl _), List.take_length]
def gtI (x y : Int) : Bool := decide (y < x)
def rBestI (K : PySem.W.Frag) : List V → Hp → VK → Prop := fun xs H Q => ∃ p y ys, xs = [.ref p] ∧ SqL K H p ((y :: ys).map V.int) ∧ Q (.int (bestS gtI y ys)) H
theorem vals_atI {ys : List Int} {its : List Value} (r : Vals (ys.map V.int) its) {i : Nat} {v : Value} (h : its[i]? = some v) (d : Int) : ∃ t, v = .int (ys.getD i d) t := by
  have hl := r.length
  have hi : i < its.length := (List.getElem?_eq_some_iff.mp h).1
  rw [List.length_map] at hl
  obtain ⟨u, hu, ru⟩ := r.get (i := i) (x := V.int (ys.getD i d)) (by rw [List.getElem?_map, List.getD_eq_getElem?_getD, List.getElem?_eq_getElem (by omega)]; rfl)
  rw [h] at hu
  cases hu
  exact ru
theorem call_maxI {X : Cx} {k : Nat} (hr : Room k X.A) : CallR X (.builtin "max") (rBestI X.K) := by
  intro pins s σ H xs us Q I r h
  obtain ⟨p, y, ys, rfl, hq, q⟩ := h
  obtain ⟨u, rfl, ru⟩ := vals1 r
  cases ru
  obtain ⟨its, rv, pl, hz⟩ := I.list hq
  have hlen : its.length = ys.length + 1 := by have := rv.length; simp at this; omega
  obtain ⟨o, ho, ho2⟩ := pl.isList
  have hlt : p < s.heap.objs.size := Heap.lt_size ho
  refine wpAny_with_toks (n := 1) I.tk (call_max_walk (wpAny_pyIter_list pl.isList ?_))
  refine ⟨s.heap.objs.size, _, _, _, _, _, fun i j => gtI ((y :: ys).getD i y) ((y :: ys).getD j y), rfl, Walks.list (show X.A.in1.handled = none from hr.hd) s.heap.objs.size p (Nat.ne_of_lt hlt) its.toArray, ⟨⟨_, Heap.get?_push_size _ rfl, rfl, rfl⟩, pl.isList.push _⟩, ?_, by simp [hlen], ?_, fun v h' tk hP hk htk => ?_⟩
  · intro b hb
    rw [Heap.size_push]
    rcases List.mem_cons.mp hb with rfl | hb
    · exact Nat.lt_succ_self _
    · have : b = p := by simpa using hb
      rw [this]; exact Nat.lt_succ_of_lt hlt
  · intro i j vi vj s' Q' E' hi hj hQ
    obtain ⟨t, rfl⟩ := vals_atI rv (v := vi) (by simpa using hi) y
    obtain ⟨t', rfl⟩ := vals_atI rv (v := vj) (by simpa using hj) y
    exact gt_int hQ
  · have hk' : ∀ b o, s.heap.get? b = some o → h'.get? b = some o := fun b o e => hk b o (by simpa using Nat.ne_of_lt (Heap.lt_size e)) (Heap.get?_push_of_some _ e)
    obtain ⟨t, rfl⟩ := vals_atI rv (v := v) (i := argBest (fun i j => gtI ((y :: ys).getD i y) ((y :: ys).getD j y)) (its.toArray.size - 1)) (by rw [← List.getElem?_toArray]; exact hP) y
    refine ⟨.int (bestS gtI y ys), H, I.kept hk' htk, ⟨t, ?_⟩, q⟩
    rw [show its.toArray.size - 1 = ys.length by simp [hlen], arg_best gtI y ys ys.length (Nat.le_refl _), List.take_length]
theorem call_maxU {X : Cx} {k : Nat} (hr : Room k X.A) : CallR X (.builtin "max") (fun xs H Q => rBest X.K gtS xs H Q ∨ rBestI X.K xs H Q) := CallR.or (call_maxM hr) (call_maxI hr)
def rSum (K : PySem.W.Frag) : List V → Hp → VK → Prop := fun xs H Q => ∃ (p : Addr) (ys : List Int), xs = [.ref p] ∧ SqL K H p (ys.map V.int) ∧ Q (.int ys.sum) H
theorem pre_sum (ys : List Int) : ∀ k, k ≤ ys.length → preSum (fun i => ys.getD i 0) k = (ys.take k).sum
  | 0, _ => rfl
  | k + 1, h => by
    show preSum _ k + ys.getD k 0 = _
    rw [pre_sum ys k (by omega), List.take_succ, List.getElem?_eq_getElem (by omega), List.sum_append]
    simp [List.getD_eq_getElem?_getD, show k < ys.length by omega]
theorem call_sumM {X : Cx} {k : Nat} (hr : Room k X.A) : CallR X (.builtin "sum") (rSum X.K) := by
  intro pins s σ H xs us Q I r h
  obtain ⟨p, ys, rfl, hq, q⟩ := h
  obtain ⟨u, rfl, ru⟩ := vals1 r
  cases ru
  obtain ⟨its, rv, pl, hz⟩ := I.list hq
  have hlen : its.length = ys.length := by have := rv.length; simp at this; omega
  obtain ⟨o, ho, ho2⟩ := pl.isList
  have hlt : p < s.heap.objs.size := Heap.lt_size ho
  refine wpAny_with_toks (n := 1) I.tk (call_sum_walkG (wpAny_pyIter_list pl.isList ?_))
  refine ⟨s.heap.objs.size, _, _, _, _, _, fun i => ys.getD i 0, rfl, Walks.list (show X.A.in1.handled = none from hr.hd) s.heap.objs.size p (Nat.ne_of_lt hlt) its.toArray, ⟨⟨_, Heap.get?_push_size _ rfl, rfl, rfl⟩, pl.isList.push _⟩, ?_, ?_, fun h' tk t' hk htk => ?_⟩
  · intro b hb
    rw [Heap.size_push]
    rcases List.mem_cons.mp hb with rfl | hb
    · exact Nat.lt_succ_self _
    · have : b = p := by simpa using hb
      rw [this]; exact Nat.lt_succ_of_lt hlt
  · intro i v hP
    exact vals_atI rv (v := v) (by rw [← List.getElem?_toArray]; exact hP) 0
  · have hk' : ∀ b o, s.heap.get? b = some o → h'.get? b = some o := fun b o e => hk b o (by simpa using Nat.ne_of_lt (Heap.lt_size e)) (Heap.get?_push_of_some _ e)
    refine ⟨.int ys.sum, H, I.kept hk' htk, ⟨t', ?_⟩, q⟩
    rw [show its.toArray.size = ys.length by simp [hlen], pre_sum ys ys.length (Nat.le_refl _), List.take_length]
theorem ints_of {ρ : List Addr} {H : Hp} : ∀ {ds : List M.D} {ys : List V} {ns : List Int}, M.intsD ds = some ns → RelDs K ρ H ds ys → ys = ns.map V.int
  | [], _, _, e, r => by cases e; cases r; rfl
  | .int x :: ds, _, _, e, r => by
    obtain ⟨y, ys, rfl, r1, r2⟩ := r
    cases r1
    have e' : (M.intsD ds).map (x :: ·) = some _ := e
    cases q : M.intsD ds with
    | none => rw [q] at e'; cases e'
    | some cs =>
      rw [q] at e'
      cases e'
      rw [ints_of q r2]; rfl
  | .non :: _, _, _, e, _ => by cases e
  | .bl _ :: _, _, _, e, _ => by cases e
  | .str _ :: _, _, _, e, _ => by cases e
  | .tup _ :: _, _, _, e, _ => by cases e
  | .ro _ :: _, _, _, e, _ => by cases e
  | .ref _ :: _, _, _, e, _ => by cases e
  | .ty _ :: _, _, _, e, _ => by cases e
theorem best_int : ∀ (ys : List Int) (y : Int), bestS gtI y ys = ys.foldl (fun b y => if b < y then y else b) y
  | [], _ => rfl
  | z :: ys, y => by
    have ih := best_int ys
    unfold bestS at ih ⊢
    rw [List.foldl_cons, List.foldl_cons]
    have e : (if gtI z y = true then z else y) = if y < z then z else y := by unfold gtI; simp
    rw [e]
    exact ih _
theorem ad_sum : AdN K Θ M.fSum (rSum K) := by
  intro ρ H S xs Xs Q rp rxs h
  unfold M.fSum M.fLst at h
  split at h
  · rename_i p
    obtain ⟨Y, r, rfl, ry, rfl⟩ := rxs
    split at h
    · rename_i ds e
      have e' : S[p]? = some (.lst ds) := by
        unfold M.lstAt at e
        split at e
        · rename_i ds' e1; cases e; exact e1
        · cases e
      obtain ⟨a, zs, rfl, ha, hx, rz⟩ := ref_lst rp ry e'
      unfold M.kSum at h
      split at h
      · rename_i ts et
        have := ints_of et rz
        subst this
        exact ⟨a, ts, rfl, SqL.of hx, Post.here h rp rfl⟩
      · exact h.elim
    · exact h.elim
  · exact h.elim
theorem bestS_eq {c : Str → Str → Bool} {d : M.T → M.T → Bool} (h : ∀ x y, c (ofT x) (ofT y) = d x y) : ∀ (ys : List M.T) (y : M.T), bestS c (ofT y) (ys.map ofT) = ofT (ys.foldl (fun b z => if d z b then z else b) y)
  | [], y => rfl
  | z :: ys, y => by
    have ih := bestS_eq h ys
    unfold bestS at ih ⊢
    rw [List.map_cons, List.foldl_cons, List.foldl_cons, h]
    split
    · exact ih z
    · exact ih y
theorem ok_fold {f : M.T → M.T → Bool} : ∀ (ys : List M.T) (y : M.T), okT y → (∀ t ∈ ys, okT t) → okT (ys.foldl (fun b z => if f z b then z else b) y)
  | [], _, h, _ => h
  | z :: ys, y, h, k => by
    rw [List.foldl_cons]
    refine ok_fold ys _ ?_ fun t ht => k t (List.mem_cons_of_mem _ ht)
    split
    · exact k z List.mem_cons_self
    · exact h
theorem ad_max : AdN K Θ M.fMax1 (fun xs H Q => rBest K gtS xs H Q ∨ rBestI K xs H Q) := by
  intro ρ H S xs Xs Q rp rxs h
  unfold M.fMax1 M.fLst at h
  split at h
  · rename_i p
    obtain ⟨Y, r, rfl, ry, rfl⟩ := rxs
    split at h
    · rename_i ds e
      have e' : S[p]? = some (.lst ds) := by
        unfold M.lstAt at e
        split at e
        · rename_i ds' e1; cases e; exact e1
        · cases e
      obtain ⟨a, zs, rfl, ha, hx, rz⟩ := ref_lst rp ry e'
      unfold M.kMax at h
      split at h
      · rename_i ts et
        obtain ⟨rfl, hok⟩ := texts_rel et rz
        split at h
        · rename_i y ey
          cases ts with
          | nil => cases ey
          | cons t ts =>
            cases ey
            refine .inl ⟨a, ofT t, ts.map ofT, rfl, SqL.of hx, ?_⟩
            rw [bestS_eq (d := fun x y => decide (y < x)) (fun x y => by unfold gtS; rw [ofT_list, ofT_list])]
            have e3 : (ts.foldl (fun b z => if (fun x y => decide (y < x)) z b then z else b) t) = ts.foldl (fun b y => if b < y then y else b) t := by
              congr 1
              funext b z
              simp
            refine Post.here h rp ⟨by rw [e3], ?_⟩
            have := ok_fold (f := fun x y => decide (y < x)) ts t (hok t (by simp)) fun u hu => hok u (by simp [hu])
            rwa [e3] at this
        · exact h.elim
      · unfold M.kMaxI at h
        split at h
        · rename_i ts et
          have := ints_of et rz
          subst this
          split at h
          · rename_i y ey
            cases ts with
            | nil => cases ey
            | cons t ts =>
              cases ey
              refine .inr ⟨a, t, ts, rfl, SqL.of hx, ?_⟩
              rw [best_int]
              exact Post.here h rp rfl
          · exact h.elim
        · exact h.elim
    · exact h.elim
  · exact h.elim
end
end L2
namespace L2
open PySem PySem.Spec PyProof.Rows
section
variable {P : Program} {w : World} {A : Around} {E : Value → Shared → Prop} {s : Shared}
theorem tnext_item {it t : Addr} {i : Nat} {xs : Array Value} {x : Value} {Q : Value → Shared → Prop} (hi : s.heap.IsTupleIter it t i) (ht : s.heap.IsTuple t xs) (hx : xs[i]? = some x)
    (q : ∀ h', h'.IsTupleIter it t (i + 1) → Heap.SameBut it s.heap h' → Q x { s with heap := h' }) : wpAny (model P w) A (Builtin.SmallTypes.nextOf (.ref it)) Q E s := by
  obtain ⟨oi, gi, ci, di⟩ := id hi
  obtain ⟨ot, gt, _, nt, dt⟩ := ht
  unfold Builtin.SmallTypes.nextOf
  refine wpAny_bind (wpAny_callSpecial?_slot (name := Str.ofString "__next__") hi.typeIs PySem.F.slot_tuple_iterator_next (wpAny_call_entry PySem.F.slot_tuple_iterator_next hi.typeIs PySem.F.entry_tuple_iterator_next ?_ (PySem.F.args_tuple_iterator_next_1 _)))
  show wpAny (model P w) _ (field (.ref it) 0 >>= _) _ _ s
  refine wpAny_bind (wpAny_field gi di (x := .ref t) rfl ?_)
  rw [if_neg (show ¬ ((Value.ref t == Value.none) = true) from Bool.false_ne_true)]
  show wpAny (model P w) _ (field (.ref it) 1 >>= _) _ _ s
  refine wpAny_bind (wpAny_field gi di (x := .int i 0) rfl ?_)
  refine wpAny_bind (wpAny_seqItems gt dt ?_)
  simp only [Int.toNat_natCast, hx]
  refine wpAny_bind (wpAny_setField gi di (by simp) (wpAny_pure ⟨x, rfl, wpAny_pure (q _ ?_ (Heap.SameBut.update ..))⟩))
  refine ⟨_, Heap.get?_update_self _ gi (Obj.isFreed_of_fields (Obj.data_mapFields di _)), (Obj.cls_mapFields ..).trans ci, ?_⟩
  rw [Obj.data_mapFields di]; simp [rawInt]
theorem tnext_end {it t : Addr} {i : Nat} {xs : Array Value} {Q : Value → Shared → Prop} (hh : A.handled = none) (hi : s.heap.IsTupleIter it t i) (ht : s.heap.IsTuple t xs) (hx : xs[i]? = none)
    (q : ∀ h' e, Heap.ExtBut it s.heap h' → (∃ o, h'.get? e = some o ∧ o.cls = .type "StopIteration") → E (.ref e) { s with heap := h' }) : wpAny (model P w) A (Builtin.SmallTypes.nextOf (.ref it)) Q E s := by
  obtain ⟨oi, gi, ci, di⟩ := id hi
  obtain ⟨ot, gt, _, nt, dt⟩ := ht
  unfold Builtin.SmallTypes.nextOf
  refine wpAny_bind (wpAny_callSpecial?_slot (name := Str.ofString "__next__") hi.typeIs PySem.F.slot_tuple_iterator_next (wpAny_call_entry PySem.F.slot_tuple_iterator_next hi.typeIs PySem.F.entry_tuple_iterator_next ?_ (PySem.F.args_tuple_iterator_next_1 _)))
  show wpAny (model P w) _ (field (.ref it) 0 >>= _) _ _ s
  refine wpAny_bind (wpAny_field gi di (x := .ref t) rfl ?_)
  rw [if_neg (show ¬ ((Value.ref t == Value.none) = true) from Bool.false_ne_true)]
  show wpAny (model P w) _ (field (.ref it) 1 >>= _) _ _ s
  refine wpAny_bind (wpAny_field gi di (x := .int i 0) rfl ?_)
  refine wpAny_bind (wpAny_seqItems gt dt ?_)
  simp only [Int.toNat_natCast, hx]
  refine wpAny_bind (wpAny_rule (wpAny_bind (wpAny_setField gi di (by simp) ?_)))
  show wpAny (model P w) _ (newExc (.type "StopIteration") [] >>= _) _ _ _
  refine wpAny_bind ?_
  simp only [newExc, newTuple]
  refine wpAny_bind (wpAny_newObj_type ?_ (by size_fits))
  refine wpAny_bind (m := firstArgMember _ _) (wpAny_of_eq (a := Value.none) (by first | rfl | (simp only [firstArgMember]; rfl)) ?_)
  refine wpAny_newObj_type ?_ (by size_fits)
  simp only [raiseNew]
  refine wpAny_bind (wpAny_handled ?_)
  first | rw [show A.in1.handled = none from hh] | rw [hh]
  refine wpAny_bind (wpAny_pure (wpAny_throw ?_))
  exact q _ _ (((Heap.SameBut.update ..).extBut.push _).push _) ⟨_, Heap.get?_push_size _ rfl, rfl⟩
def ZipF (h : Heap) (z TI TO : Addr) (f0 : Value) (b : Bool) : Prop := h.get? z = some { cls := .type "zip", dict := none, data := .fields #[f0, .bool b, .bool false, .ref TI, .ref TO], slots := #[] }
structure ZSt (z TI TO i1 i2 l1 l2 : Addr) (xs ys : Array Value) (i : Nat) (h : Heap) : Prop where
  zp : ∃ f0 b, ZipF h z TI TO f0 b ∧ ((i = 0 ∧ f0 = .none) ∨ ∃ (T : Addr) (o : Obj), f0 = rawInt T ∧ h.get? T = some o)
  ti : IsPair h TI (.ref i1) (.ref i2)
  to : ∃ a b, IsPair h TO a b
  n1 : h.IsTupleIter i1 l1 i
  n2 : h.IsTupleIter i2 l2 i
  t1 : h.IsTuple l1 xs
  t2 : h.IsTuple l2 ys
theorem upd_pair {T : Addr} {a b x : Value} {k : Nat} {Q : Unit → Shared → Prop} (hT : IsPair s.heap T a b) (q : ∀ h', h'.get? T = some { cls := .type "tuple", data := .seq ((#[a, b] : Array Value).setIfInBounds k x) } → Heap.SameBut T s.heap h' → Q () { s with heap := h' }) :
    wpAny (model P w) A (updateSeq T (·.setIfInBounds k x)) Q E s := wpAny_updateSeq_pair hT q
structure ZLp (lo z TO i1 i2 S : Addr) (xs ys : List Value) (h0 h : Heap) (ps : List Addr) : Prop where
  its : ∀ (j : Nat) p, ps[j]? = some p → lo ≤ p ∧ ∃ x y, xs[j]? = some x ∧ ys[j]? = some y ∧ IsPair h p x y
  keep : ∀ b o, b ≠ S → b ≠ z → b ≠ TO → b ≠ i1 → b ≠ i2 → h0.get? b = some o → h.get? b = some o
  nd : ps.Nodup
theorem bt_zip : bootBuiltins "zip" = some (.type "zip") := by decide +kernel
end
end L2
namespace L2
open PySem PySem.Spec PyProof.Rows
inductive Lays : Hp → List (V × V) → List V → Hp → Prop
  | nil (H : Hp) : Lays H [] [] H
  | cons {H H' : Hp} {a : Addr} {x y : V} {r : List (V × V)} {zs : List V} (h : H a = none) (t : Lays (upd H a (.tup [x, y])) r zs H') : Lays H ((x, y) :: r) (.ref a :: zs) H'
end L2
namespace L2
open PySem PySem.Spec PyProof.Rows
section
variable {K : PySem.W.Frag} {Θ : Tab}
theorem ms_setG {X : Cx} {tg e : Expr} {g : M.GM} {js : List Nat} {m : M.EM} {pos : Pos} (hg : MG X Θ js tg g) (he : ME X Θ e m) (hs : swapsWithSole [tg] e pos.line X.env = pure false := by rfl) (hw : swappedStores [tg] e X.env = pure none := by rfl) (h1 : (assignEach [tg] X.env).map (·.2) = [assign tg X.env] := by rfl) : MS X Θ (.Assign [tg] e pos) (M.sSetG g m) :=
  (ps_asg he hg hs hw h1).imp fun D σ H ⟨ρ, σ', S, st, rp, h⟩ => ⟨ρ, σ', S, st, rp, PostS.stm h fun ρ1 H1 x X1 S1 p1 l1 rp1 rx h1 => by
    cases q : g x σ' with
    | none => rw [q] at h1; exact h1.elim
    | some σ1 =>
      rw [q] at h1
      exact ⟨ρ1, σ', S1, x, st.mono p1 l1, rp1, rx, σ1, q, fun H' σ2 le rp2 st2 _ _ => h1 ρ1 H' σ2 (List.prefix_refl _) le rp2 st2⟩⟩
theorem w_ms_setG {X : Cx} {tg e : Expr} {g : M.GM} {js : List Nat} {m : M.EM} {pos : Pos} (hg : WG X Θ js tg g) (he : WE X Θ e m) (hs : swapsWithSole [tg] e pos.line X.env = pure false := by rfl) (hw : swappedStores [tg] e X.env = pure none := by rfl) (h1 : (assignEach [tg] X.env).map (·.2) = [assign tg X.env] := by rfl) : WS X Θ (.Assign [tg] e pos) (M.sSetG g m) := by with_unfolding_all exact ms_setG (X := X) (tg := tg) (e := e) (g := g) (js := js) (m := m) (pos := pos) hg he hs hw h1
theorem gl_nil : ∀ (ds : List M.D) (σ σ1 : M.St), M.gNil ds σ = some σ1 → ds.length = 0 := fun ds σ σ1 e => by
  cases ds with
  | nil => rfl
  | cons _ _ => cases e
theorem gl_cons {g : M.GM} {r : M.GMs} {n : Nat} (h : ∀ (ds : List M.D) (σ σ1 : M.St), r ds σ = some σ1 → ds.length = n) : ∀ (ds : List M.D) (σ σ1 : M.St), M.gCons g r ds σ = some σ1 → ds.length = n + 1 := fun ds σ σ1 e => by
  cases ds with
  | nil => cases e
  | cons d ds =>
    have e' : (match g d σ with | some σ' => r ds σ' | none => none) = some σ1 := e
    cases q : g d σ with
    | none => rw [q] at e'; cases e'
    | some σ' => rw [q] at e'; rw [List.length_cons, h ds σ' σ1 e']
theorem len_4 {g1 g2 g3 g4 : M.GM} : ∀ ds σ σ1, (M.gCons g1 (M.gCons g2 (M.gCons g3 (M.gCons g4 M.gNil)))) ds σ = some σ1 → ds.length = 4 := gl_cons (gl_cons (gl_cons (gl_cons gl_nil)))
def rTupM (K : PySem.W.Frag) : List V → Hp → VK → Prop := fun xs H Q => ∃ p ys, xs = [.ref p] ∧ ((SqL K H p ys ∧ ∀ l, H l = none → Q (.ref l) (upd H l (.tup ys))) ∨ (SqT K H p ys ∧ Q (.ref p) H))
theorem call_tupleM {X : Cx} : CallR X (.type "tuple") (rTupM X.K) := call_tuple_of
theorem ad_tuple : AdN K Θ M.fTuple (rTupM K) := by
  intro ρ H S xs Xs Q rp rxs h
  unfold M.fTuple at h
  split at h
  · rename_i ds
    obtain ⟨Y, r, rfl, ry, rfl⟩ := rxs
    obtain ⟨a, zs, rfl, hq, rz⟩ := id ry
    exact ⟨a, zs, rfl, .inr ⟨hq, Post.here h rp ry⟩⟩
  · rename_i p
    obtain ⟨Y, r, rfl, ry, rfl⟩ := rxs
    split at h
    · rename_i ds e
      have e' : S[p]? = some (.lst ds) := by
        unfold M.lstAt at e
        split at e
        · rename_i ds' e1; cases e; exact e1
        · cases e
      obtain ⟨a, zs, rfl, ha, hx, rz⟩ := ref_lst rp ry e'
      exact ⟨a, zs, rfl, .inl ⟨SqL.of hx, fun l hl => h ρ _ _ (List.prefix_refl _) (Le.new hl _) (rp.aside hl _) ⟨l, zs, rfl, .inl (.inl upd_same), rz.mono (List.prefix_refl _) (Le.new hl _)⟩⟩⟩
    · exact h.elim
  · exact h.elim
end
end L2
namespace L2
open PySem PySem.Spec PyProof.Rows
structure ClsM (K : PySem.W.Frag) (Θ : Tab) (c : Nat) (C : Addr) (N : List Str) : Prop where
  tab : Θ c = some (C, N)
  cl : Cls K C
  no : ∀ f ∈ N, NoAttr K C f
  few : N.length < 999
  nd : N.Nodup
structure HasM (P : Program) (w : World) (K : PySem.W.Frag) (mg : Str → Option Value) (base : Heap) (C : Addr) (m : Str) (k : Nat) (ps : List Str) (sp : Sp) : Prop where
  ex : ∃ f fd, FnOk P w K mg base CX0 k f fd ps sp ∧ Binds K fd ps [] ∧ Meth K C m f
structure HasC (P : Program) (w : World) (K : PySem.W.Frag) (mg : Str → Option Value) (base : Heap) (C : Addr) (x : Str) (k : Nat) (ps : List Str) (sp : Sp) : Prop where
  ex : ∃ f fd, FnOk P w K mg base CX0 k f fd ps sp ∧ Binds K fd ps [] ∧ Mk K C f ∧ mg x = some (.ref C)
theorem fn_no {P : Program} {w : World} {K : PySem.W.Frag} {mg : Str → Option Value} {base : Heap} {Θ : Tab} {k n : Nat} {f : Addr} {fd : FuncData} {ps : List Str} {q : M.F} (h : ∀ ds s, q ds s = .no) : FnOk P w K mg base CX0 k f fd ps (SpM K Θ n q) :=
  ⟨fun vs H Q E ⟨ρ, ds, S, _, _, _, z⟩ => by rw [h] at z; exact z.elim, fun A outer s H args us vs Q E _ _ _ _ _ ⟨ρ, ds, S, _, _, _, z⟩ => by rw [h] at z; exact z.elim⟩
end L2
namespace L2
open PySem PySem.Spec PyProof.Rows
section
variable {P : Program} {w : World} {A : Around} {E : Value → Shared → Prop} {s : Shared}
theorem call_list_walk {I : Addr} {fp wr : List Addr} {n : Nat} {Pv : Nat → Value → Prop} {St : Nat → Heap → Prop} {T : String} {Q : Value → Shared → Prop} (W : Walks P w A.in1.in1 I fp wr n Pv St) (hn : n ≤ sizeLine) (hI : I ∈ fp) (hfp : ∀ b ∈ fp, b < s.heap.objs.size) (st : St 0 s.heap)
    (hT : ∀ h, St 0 h → ∃ o, h.get? I = some o ∧ o.cls = .type T) (t1 : (Value.type T == Value.type "list") = false) (t2 : (Value.type T == Value.type "tuple") = false)
    (hint : ∀ (s' : Shared) (R : Bool → Shared → Prop) (E' : Value → Shared → Prop), St 0 s'.heap → (∀ b tk, s'.toks ≤ tk → R b { s' with toks := tk }) → wpAny (model P w) A.in1.in1 (Builtin.List.listLengthHint (.ref I)) R E' s')
    (q : ∀ h' tk acc c, s.toks ≤ tk → (∀ b o, b ∉ wr → s.heap.get? b = some o → h'.get? b = some o) → h'.get? s.heap.objs.size = some { cls := .type "list", dict := none, data := .seq acc c, slots := #[] } → ItemsOf Pv acc n → Q (.ref s.heap.objs.size) { s with heap := h', toks := tk }) :
    wpAny (model P w) A (call (.type "list") [.ref I]) Q E s := by
  have hS : s.heap.objs.size ∉ fp := fun hm => Nat.lt_irrefl _ (hfp _ hm)
  have hSI : s.heap.objs.size ≠ I := fun e => hS (e ▸ hI)
  have lt : ∀ {c o}, s.heap.get? c = some o → c < s.heap.objs.size := fun e => Heap.lt_size e
  refine callType_codes (Q₁ := fun obj s₁ => obj = .ref s.heap.objs.size ∧ s₁ = { s with heap := s.heap.push { cls := .type "list", data := .seq #[] } }) PySem.F.called_list (PySem.F.typeCall_list_1 _) PySem.F.entry_list_init (code_list_new _ ⟨rfl, rfl⟩) fun obj s₁ h₁ => ?_
  obtain ⟨rfl, rfl⟩ := h₁
  have g0 : (s.heap.push { cls := .type "list", data := .seq #[] }).get? s.heap.objs.size = some { cls := .type "list", data := .seq #[] } := Heap.get?_push_size _ rfl
  refine ⟨⟨_, g0, rfl⟩, PySem.F.args_list_init_2 _ _, ?_⟩
  show wpAny (model P w) _ (do let old ← Builtin.List.listItems (.ref s.heap.objs.size); Builtin.List.listUpdate (.ref s.heap.objs.size) (fun _ => #[]); letGo old.toList.reverse; Builtin.List.listExtendWith (.ref s.heap.objs.size) (.ref I) .none) _ _ _
  refine wpAny_bind ?_
  unfold Builtin.List.listItems
  refine wpAny_bind (wpAny_seqItems g0 rfl (wpAny_pure ?_))
  show wpAny (model P w) _ (updateSeq s.heap.objs.size (fun _ => #[]) >>= fun _ => letGo (#[] : Array Value).toList.reverse >>= fun _ => Builtin.List.listExtendWith (.ref s.heap.objs.size) (.ref I) .none) _ _ _
  refine wpAny_bind (wpAny_updateSeq g0 rfl ?_)
  have g1 := Heap.get?_update_self (Obj.mapSeq (fun _ => (#[] : Array Value))) g0 rfl
  have k1 : ∀ c o, s.heap.get? c = some o → ((s.heap.push { cls := .type "list", data := .seq #[] }).update s.heap.objs.size (Obj.mapSeq (fun _ => (#[] : Array Value)))).get? c = some o :=
    fun c o e => (Heap.get?_update_other _ _ (Nat.ne_of_gt (lt e))).trans (Heap.get?_push_of_some _ e)
  generalize (s.heap.push { cls := .type "list", data := .seq #[] }).update s.heap.objs.size (Obj.mapSeq (fun _ => (#[] : Array Value))) = g at *
  refine wpAny_bind (wpAny_letGo ?_)
  have st1 : St 0 g := W.frame 0 _ _ st fun b _ o e => k1 b o e
  have fin : ∀ (R : Result → Shared → Prop) (h : Heap) (c tk : Nat), s.toks ≤ tk → (∀ c o, s.heap.get? c = some o → h.get? c = some o) → h.get? s.heap.objs.size = some { cls := .type "list", dict := none, data := .seq #[] c, slots := #[] } →
      (∀ h' tk, Q (.ref s.heap.objs.size) { s with heap := h', toks := tk } → R (.ok (.ret .none)) { s with heap := h', toks := tk }) → codeAny (model P w) A.in1 (.builtin "list.extend.loop" ⟨[.ref s.heap.objs.size, .ref I, .none], []⟩) R { s with heap := h, toks := tk } := fun R h c tk htk hk gS hR => by
    refine codeAny_extend_loopS W.toS hn s.heap.objs.size hS .none n 0 _ #[] c rfl (Nat.zero_le _) (W.frame 0 _ _ st fun b _ o e => hk b o e) gS (ItemsOf.nil _) fun s' acc' c' hm hS' hacc => ?_
    rw [Moved.eq_with hm]
    refine hR s'.heap s'.toks (q s'.heap s'.toks acc' c' (Nat.le_trans htk hm.toks) (fun b o hb e => hm.heap b o (fun hmem => ?_) (hk b o e)) hS' hacc)
    rcases List.mem_cons.mp hmem with e' | hmem
    · exact Nat.ne_of_lt (lt e) e'
    · exact hb hmem
  unfold Builtin.List.listExtendWith
  refine wpAny_bind (wpAny_typeOf (hT _ st1) ?_)
  have f1 : Builtin.List.listSameRef (.ref s.heap.objs.size) (.ref I) = false := by simp [Builtin.List.listSameRef, hSI]
  simp only [f1, t1, t2, Bool.or_false, Bool.false_eq_true, if_false]
  refine wpAny_bind (W.self 0 _ _ _ st1 ?_)
  refine wpAny_bind (wpAny_holding (hint _ _ _ st1 fun b tk htk => ?_))
  refine wpAny_ite_split (fun _ => ?_) (fun _ => wpAny_pure ⟨plainId_quiet PySem.F.plain_extend_loop _, fin _ _ _ _ htk (fun c o e => k1 c o e) g1 fun h' tk hq => ⟨rfl, hq⟩⟩)
  refine wpAny_bind (wpAny_rule ?_)
  refine wpAny_bind ?_
  show wpAny (model P w) _ (updateSeq s.heap.objs.size (·.push .none) >>= fun _ => updateSeq s.heap.objs.size (·.pop)) _ _ _
  refine wpAny_bind (wpAny_updateSeq g1 rfl ?_)
  have g2 := Heap.get?_update_self (Obj.mapSeq (·.push Value.none)) g1 rfl
  refine wpAny_updateSeq (hz := by seq_fits) g2 rfl ?_
  have g3 := Heap.get?_update_self (Obj.mapSeq (·.pop)) g2 rfl
  refine wpAny_pure ⟨plainId_quiet PySem.F.plain_extend_loop _, fin _ _ _ _ htk (fun c o e => ?_) g3 fun h' tk hq => ⟨rfl, hq⟩⟩
  have n : s.heap.objs.size ≠ c := Nat.ne_of_gt (lt e)
  exact (Heap.get?_update_other _ _ n).trans ((Heap.get?_update_other _ _ n).trans (k1 c o e))
theorem lri_no_len : typeLookup (.type "list_reverseiterator") "__len__" = pure none := by rw [typeLookup_type, builtinLookup_eq_fast]; kernel_rfl
theorem lri_hint : typeLookup (.type "list_reverseiterator") "__length_hint__" = pure (some (.builtin "list_reverseiterator.__length_hint__")) := by rw [typeLookup_type, builtinLookup_eq_fast]; kernel_rfl
theorem hint_rev {I l : Addr} {i : Int} {R : Bool → Shared → Prop} (h : s.heap.IsRevIter I l i) (q : R false s) : wpAny (model P w) A (Builtin.List.listLengthHint (.ref I)) R E s := by
  unfold Builtin.List.listLengthHint
  refine wpAny_bind (wpAny_specialOf h.typeIs lri_no_len ?_)
  show wpAny (model P w) _ (specialOf (Value.ref I) (Str.ofString "__length_hint__") >>= _) _ _ _
  refine wpAny_bind (wpAny_specialOf h.typeIs lri_hint ?_)
  generalize hid : ("list_reverseiterator.__length_hint__" : String) = id0
  wp_delta
  rw [show splitId id0 = some ("list_reverseiterator", "__length_hint__") from by subst hid; decide +kernel]
  subst hid
  refine wpAny_bind (wpAny_isInstance (T := "list_reverseiterator") (b := true) h.typeIs (by rw [isSubtype_type]; kernel_rfl) ?_)
  refine wpAny_ite_split (fun hab => absurd hab (by decide)) (fun _ => ?_)
  refine wpAny_ite_split (fun _ => ?_) (fun hab => absurd (by decide +kernel) hab)
  refine wpAny_ite_split (fun hab => absurd hab (by decide +kernel)) (fun _ => ?_)
  exact wpAny_pure q
end
theorem rvt_slot_init : PySem.Slot "reversed" "__init__" "object.__init__" :=
  .of (owner := "object") (n := "__init__") (by rw [typeLookup_type, builtinLookup_eq_fast]; kernel_rfl) (by decide +kernel) (by decide +kernel) (by decide +kernel)
    (by first | exact .inl (by decide +kernel) | exact .inr (by decide +kernel)) (by rw [isSubtype_type]; kernel_rfl)
theorem rvt_called : TypeCalled "reversed" "reversed.__new__" "object.__init__" :=
  ⟨by decide +kernel, by decide +kernel, ⟨_, _, PySem.F.mro_reversed⟩, PySem.F.made_reversed, by decide +kernel, PySem.F.sub_reversed_self, rvt_slot_init⟩
theorem rvt_slot_next : PySem.Slot "reversed" "__next__" "reversed.__next__" :=
  .of (owner := "reversed") (n := "__next__") (by rw [typeLookup_type, builtinLookup_eq_fast]; kernel_rfl) (by decide +kernel) (by decide +kernel) (by decide +kernel)
    (by first | exact .inl (by decide +kernel) | exact .inr (by decide +kernel)) (by rw [isSubtype_type]; kernel_rfl)
theorem rvt_slot_iter : PySem.Slot "reversed" "__iter__" "reversed.__iter__" :=
  .of (owner := "reversed") (n := "__iter__") (by rw [typeLookup_type, builtinLookup_eq_fast]; kernel_rfl) (by decide +kernel) (by decide +kernel) (by decide +kernel)
    (by first | exact .inl (by decide +kernel) | exact .inr (by decide +kernel)) (by rw [isSubtype_type]; kernel_rfl)
theorem rvt_slot_hint : PySem.Slot "reversed" "__length_hint__" "reversed.__length_hint__" :=
  .of (owner := "reversed") (n := "__length_hint__") (by rw [typeLookup_type, builtinLookup_eq_fast]; kernel_rfl) (by decide +kernel) (by decide +kernel) (by decide +kernel)
    (by first | exact .inl (by decide +kernel) | exact .inr (by decide +kernel)) (by rw [isSubtype_type]; kernel_rfl)
theorem rvt_owner : Manifest.owners.lookup (String.ofList ['d', 'e', 's', 'r', 'e', 'v', 'e', 'r'].reverse) = some Manifest.sig_reversed := by kernel_rfl
theorem rvt_args_next (a : Value) : argsOk "reversed.__next__" ⟨[a], []⟩ := by
  unfold argsOk; rw [signature?_of (id := "reversed.__next__") (n := ['_', '_', 't', 'x', 'e', 'n', '_', '_']) (o := ['d', 'e', 's', 'r', 'e', 'v', 'e', 'r']) (by kernel_rfl) rvt_owner]; kernel_rfl
theorem rvt_args_iter (a : Value) : argsOk "reversed.__iter__" ⟨[a], []⟩ := by
  unfold argsOk; rw [signature?_of (id := "reversed.__iter__") (n := ['_', '_', 'r', 'e', 't', 'i', '_', '_']) (o := ['d', 'e', 's', 'r', 'e', 'v', 'e', 'r']) (by kernel_rfl) rvt_owner]; kernel_rfl
theorem rvt_args_hint (a : Value) : argsOk "reversed.__length_hint__" ⟨[a], []⟩ := by
  unfold argsOk; rw [signature?_of (id := "reversed.__length_hint__") (n := ['_', '_', 't', 'n', 'i', 'h', '_', 'h', 't', 'g', 'n', 'e', 'l', '_', '_']) (o := ['d', 'e', 's', 'r', 'e', 'v', 'e', 'r']) (by kernel_rfl) rvt_owner]; kernel_rfl
theorem rvt_entry_next : entryFor table "reversed.__next__" = some Builtin.«reversed.__next__» := entryFor_of_tree (by kernel_rfl)
theorem rvt_entry_hint : entryFor table "reversed.__length_hint__" = some Builtin.«reversed.__length_hint__» := entryFor_of_tree (by kernel_rfl)
theorem rvt_entry_iter : entryFor table "reversed.__iter__" = some Builtin.«dict_keyiterator.__iter__» :=
  entryFor_alias (id' := "dict_keyiterator.__iter__") (by kernel_rfl) (by first | rfl | decide +kernel | (unfold String.splitOn; simp +decide [String.splitOnAux])) (by decide +kernel) (by kernel_rfl)
theorem tup_no_rev : typeLookup (.type "tuple") "__reversed__" = pure none := by rw [typeLookup_type, builtinLookup_eq_fast]; kernel_rfl
def IsRvT (h : Heap) (a t : Addr) (i : Int) : Prop := h.get? a = some { cls := .type "reversed", dict := none, data := .fields #[.ref t, rawInt i], slots := #[] }
section
variable {P : Program} {w : World} {A : Around} {E : Value → Shared → Prop} {s : Shared}
theorem IsRvT.typeIs {a t : Addr} {i : Int} (x : IsRvT s.heap a t i) : s.TypeIs (.ref a) "reversed" := ⟨_, x, rfl⟩
theorem meets_rvT (t : Addr) (xs : Array Value) : Meets (Builtin.«reversed.__new__» ⟨[.type "reversed", .ref t], []⟩) (fun _ R s => IsTup s.heap t xs ∧ (xs.size : Int) < 2 ^ 63 ∧ R (.ok (.ret (.ref s.heap.objs.size))) { s with heap := s.heap.push { cls := .type "reversed", data := .fields #[.ref t, rawInt ((xs.size : Int) - 1)] }, toks := s.toks + 1 + 1 }) :=
  .of_wp fun prog w A R s h => by
    obtain ⟨ht, hz, h⟩ := h
    unfold Builtin.«reversed.__new__»
    refine wpAny_bind (wpAny_of_eq (newClass_reversed _) ?_)
    try dsimp only
    refine wpAny_bind (wpAny_of_eq (a := ()) (by first | rfl | kernel_rfl) ?_)
    refine wpAny_bind (wpAny_of_eq (a := ()) (by first | rfl | kernel_rfl) ?_)
    try dsimp only
    refine wpAny_bind (wpAny_specialOf ht.typeIs tup_no_rev ?_)
    try dsimp only
    refine wpAny_bind (wpAny_bind (wpAny_isInstance (T := "tuple") (b := false) ht.typeIs (by rw [isSubtype_type]; kernel_rfl) ?_))
    refine wpAny_ite_split (fun hab => absurd hab (by decide)) (fun _ => ?_)
    refine wpAny_bind (wpAny_specialOf ht.typeIs PySem.F.slot_tuple_getitem.lookup ?_)
    refine wpAny_ite_split (fun _ => ?_) (fun hab => absurd (by decide +kernel) hab)
    refine wpAny_pure ?_
    refine wpAny_ite_split (fun hab => absurd hab (by decide)) (fun _ => ?_)
    refine wpAny_bind (len_tuple ht hz ?_)
    refine wpAny_bind (m := asInt? _) (wpAny_pure ?_)
    refine wpAny_bind (m := Builtin.SmallTypes.newRecord _ _) ?_
    show wpAny (model prog w) _ (newObj (.type "reversed") (.fields #[.ref t, rawInt ((xs.size : Int) - 1)])) _ _ _
    exact wpAny_newObj_type (wpAny_pure ⟨_, rfl, h⟩)
theorem call_reversed_tuple {t : Addr} {xs : Array Value} {Q : Value → Shared → Prop} (ht : IsTup s.heap t xs) (hz : (xs.size : Int) < 2 ^ 63)
    (q : Q (.ref s.heap.objs.size) { s with heap := s.heap.push { cls := .type "reversed", data := .fields #[.ref t, rawInt ((xs.size : Int) - 1)] }, toks := s.toks + 1 + 1 }) : wpAny (model P w) A (call (.type "reversed") [.ref t]) Q E s := by
  refine callType_new rvt_called (by decide) (PySem.F.typeCall_reversed_1 _) (PySem.F.newCall_reversed_1 _) (fun obj => PySem.F.args_object_init_2 obj _) PySem.F.entry_reversed_new (meets_rvT t xs) ⟨ht, hz, ?_⟩
  exact ⟨⟨_, Heap.get?_push_size _ rfl, rfl⟩, q⟩
theorem rvt_next {it t : Addr} {i : Nat} {xs : Array Value} {x : Value} {Q : Option Value → Shared → Prop} (hit : IsRvT s.heap it t (i : Int)) (ht : IsTup s.heap t xs) (hi : i < 2 ^ 62) (hx : xs[i]? = some x)
    (q : ∀ h', IsRvT h' it t ((i : Int) - 1) → Heap.SameBut it s.heap h' → Q (some x) { s with heap := h', toks := s.toks + 1 }) : wpAny (model P w) A (pyNext (.ref it)) Q E s := by
  unfold pyNext
  refine wpAny_bind (wpAny_attempt (wpAny_callSpecial?_slot (name := Str.ofString "__next__") hit.typeIs rvt_slot_next
    (wpAny_call_entry rvt_slot_next hit.typeIs rvt_entry_next ?_ (rvt_args_next _))))
  unfold Builtin.«reversed.__next__»
  refine wpAny_bind (wpAny_of_eq (a := (Value.ref it, [])) rfl ?_)
  try dsimp only
  refine wpAny_bind (wpAny_field hit rfl (x := .ref t) rfl ?_)
  refine wpAny_bind (wpAny_field hit rfl (x := rawInt (i : Int)) rfl ?_)
  show wpAny (model P w) _ (if (i : Int) < 0 then _ else _) _ _ s
  rw [if_neg (by omega)]
  refine wpAny_bind (wpAny_specialOf ht.typeIs PySem.F.slot_tuple_getitem.lookup ?_)
  refine wpAny_ite_split (fun hab => absurd hab (by decide)) (fun _ => ?_)
  refine wpAny_bind (wpAny_mkInt ?_)
  have lt : i < xs.size := by
    rcases Nat.lt_or_ge i xs.size with h | h
    · exact h
    · rw [Array.getElem?_eq_none h] at hx; cases hx
  refine wpAny_bind (wpAny_attempt (PyProof.Rows.getItem_tuple (s := { s with toks := s.toks + 1 }) ht (by omega) (by omega) (j := i) (by unfold seqIndex?; simp; omega) hx ?_))
  refine wpAny_bind (wpAny_field (s := { s with toks := s.toks + 1 }) hit rfl (x := rawInt (i : Int)) rfl ?_)
  refine wpAny_bind (wpAny_setField_rec (s := { s with toks := s.toks + 1 }) hit (by simp) fun h' hz' hs' => ?_)
  exact wpAny_pure ⟨x, rfl, wpAny_pure (q h' hz' hs')⟩
theorem rvt_end {it t : Addr} {Q : Option Value → Shared → Prop} (hh : A.handled = none) (hit : IsRvT s.heap it t (-1))
    (q : ∀ h', Heap.ExtBut it s.heap h' → Q none { s with heap := h' }) : wpAny (model P w) A (pyNext (.ref it)) Q E s := by
  unfold pyNext
  refine wpAny_bind (wpAny_attempt (wpAny_callSpecial?_slot (name := Str.ofString "__next__") hit.typeIs rvt_slot_next
    (wpAny_call_entry rvt_slot_next hit.typeIs rvt_entry_next ?_ (rvt_args_next _))))
  unfold Builtin.«reversed.__next__»
  refine wpAny_bind (wpAny_of_eq (a := (Value.ref it, [])) rfl ?_)
  try dsimp only
  refine wpAny_bind (wpAny_field hit rfl (x := .ref t) rfl ?_)
  refine wpAny_bind (wpAny_field hit rfl (x := rawInt (-1)) rfl ?_)
  show wpAny (model P w) _ (if (-1 : Int) < 0 then _ else _) _ _ s
  rw [if_pos (by decide)]
  refine wpAny_bind (wpAny_rule ?_)
  refine wpAny_bind ?_
  show wpAny (model P w) _ (setField (.ref it) 1 (rawInt (-1)) >>= fun _ => setField (.ref it) 0 .none) _ _ s
  refine wpAny_bind (wpAny_setField_rec hit (by simp) fun h1 z1 s1 => ?_)
  refine wpAny_setField_rec (s := { s with heap := h1 }) z1 (by simp) fun h2 z2 s2 => ?_
  first
  | show wpAny (model P w) _ (newExc (.type "StopIteration") [] >>= _) _ _ _
  | (refine wpAny_bind ?_; show wpAny (model P w) _ (newExc (.type "StopIteration") [] >>= _) _ _ _)
  refine wpAny_bind ?_
  simp only [newExc, newTuple]
  refine wpAny_bind (wpAny_newObj_type ?_ (by size_fits))
  refine wpAny_bind (m := firstArgMember _ _) (wpAny_of_eq (a := Value.none) (by first | rfl | (simp only [firstArgMember]; rfl)) ?_)
  refine wpAny_newObj_type ?_ (by size_fits)
  simp only [raiseNew]
  refine wpAny_bind (wpAny_handled ?_)
  first | rw [show A.in1.handled = none from hh] | rw [hh]
  refine wpAny_bind (wpAny_pure (wpAny_throw ?_))
  refine wpAny_bind (wpAny_isInstance (T := "StopIteration") (b := true) ⟨_, Heap.get?_push_size _ rfl, rfl⟩ isSubtype_stop ?_)
  exact wpAny_pure (q _ (((s1.extBut.trans s2.extBut).push _).push _))
theorem rvt_iter {it t : Addr} {i : Int} {Q : Value → Shared → Prop} (hit : IsRvT s.heap it t i) (h : Q (.ref it) s) : wpAny (model P w) A (pyIter (.ref it)) Q E s := by
  refine wpAny_pyIter_slot hit.typeIs rvt_slot_iter (wpAny_call_entry rvt_slot_iter hit.typeIs rvt_entry_iter ?_ (rvt_args_iter _))
  show wpAny (model P w) _ (ret (.ref it)) _ _ s
  exact wpAny_pure ⟨_, rfl, "reversed", _, hit.typeIs, rvt_slot_next.lookup, h⟩
theorem rvt_walks (hh : A.handled = none) (I t : Addr) (hne : t ≠ I) (xs : Array Value) (hz : xs.size < 2 ^ 62) :
    Walks P w A I [I, t] [I] xs.size (fun i v => xs[xs.size - 1 - i]? = some v) (fun i h => i ≤ xs.size ∧ IsRvT h I t ((xs.size : Int) - 1 - (i : Int)) ∧ IsTup h t xs) where
  sub := fun b hb => by simp at hb; simp [hb]
  frame := fun _ _ _ x hk => ⟨x.1, hk I (by simp) _ x.2.1, by obtain ⟨o, e, r⟩ := x.2.2; exact ⟨o, hk t (by simp) o e, r⟩⟩
  item := fun i s Q E hi x hQ => by
    have e : (xs.size : Int) - 1 - (i : Int) = ((xs.size - 1 - i : Nat) : Int) := by omega
    have hit := x.2.1
    rw [e] at hit
    have hx : xs[xs.size - 1 - i]? = some (xs[xs.size - 1 - i]'(by omega)) := Array.getElem?_eq_getElem (by omega)
    refine rvt_next hit x.2.2 (by omega) hx fun h' hit' hs' => ?_
    have e2 : ((xs.size - 1 - i : Nat) : Int) - 1 = (xs.size : Int) - 1 - ((i + 1 : Nat) : Int) := by omega
    rw [e2] at hit'
    exact hQ _ h' (s.toks + 1) hx ⟨hi, hit', x.2.2.extBut hs'.extBut hne⟩ fun b o hb eo => hs'.extBut b o (fun h => hb (by simp [h])) eo
  done := fun s Q E x hQ => by
    have e : (xs.size : Int) - 1 - (xs.size : Int) = -1 := by omega
    have hit := x.2.1
    rw [e] at hit
    exact rvt_end hh hit fun h' he' => hQ h' s.toks fun b o hb eo => he' b o (fun h => hb (by simp [h])) eo
  self := fun _ _ _ _ x hQ => rvt_iter x.2.1 hQ
theorem rvt_no_len : typeLookup (.type "reversed") "__len__" = pure none := by rw [typeLookup_type, builtinLookup_eq_fast]; kernel_rfl
theorem hint_rvT {I t : Addr} {xs : Array Value} {R : Bool → Shared → Prop} (h : IsRvT s.heap I t ((xs.size : Int) - 1)) (ht : IsTup s.heap t xs) (hz : xs.size ≤ sizeLine) (q : ∀ b tk, s.toks ≤ tk → R b { s with toks := tk }) : wpAny (model P w) A (Builtin.List.listLengthHint (.ref I)) R E s := by
  unfold Builtin.List.listLengthHint
  refine wpAny_bind (wpAny_specialOf h.typeIs rvt_no_len ?_)
  show wpAny (model P w) _ (specialOf (Value.ref I) (Str.ofString "__length_hint__") >>= _) _ _ _
  refine wpAny_bind (wpAny_specialOf h.typeIs rvt_slot_hint.lookup ?_)
  generalize hid : ("reversed.__length_hint__" : String) = id0
  wp_delta
  rw [show splitId id0 = some ("reversed", "__length_hint__") from by subst hid; decide +kernel]
  subst hid
  refine wpAny_bind (wpAny_isInstance (T := "reversed") (b := true) h.typeIs PySem.F.sub_reversed_self ?_)
  refine wpAny_ite_split (fun hab => absurd hab (by decide)) (fun _ => ?_)
  refine wpAny_ite_split (fun hab => absurd hab (by decide +kernel)) (fun _ => ?_)
  refine wpAny_bind (wpAny_rule ?_)
  refine wpAny_bind (wpAny_of_eq (rvt_slot_hint.bind _) ?_)
  have hz' : (xs.size : Int) < 2 ^ 63 := by rw [sizeLine_eq] at hz; omega
  refine wpAny_bind (wpAny_attempt (wpAny_call_entry rvt_slot_hint h.typeIs rvt_entry_hint ?_ (rvt_args_hint _)))
  unfold Builtin.«reversed.__length_hint__»
  refine wpAny_bind (wpAny_of_eq (a := Value.ref I) rfl ?_)
  refine wpAny_bind (wpAny_field h rfl (x := .ref t) rfl ?_)
  refine wpAny_ite_split (fun hab => absurd hab (show ¬ ((Value.ref t == Value.none) = true) from Bool.false_ne_true)) (fun _ => ?_)
  refine wpAny_bind (len_tuple ht hz' ?_)
  refine wpAny_bind (m := asInt? _) (wpAny_pure ?_)
  refine wpAny_bind (wpAny_field (s := { s with toks := s.toks + 1 + 1 }) h rfl (x := rawInt ((xs.size : Int) - 1)) rfl ?_)
  refine wpAny_ite_split (fun hab => absurd hab (by omega)) (fun _ => ?_)
  refine wpAny_bind (wpAny_mkInt (wpAny_pure ⟨_, rfl, ?_⟩))
  refine wpAny_bind (m := asInt? _) (wpAny_pure ?_)
  have e1 : ((xs.size : Int) - 1 + 1) = xs.size := by omega
  rw [e1]
  have hf : Builtin.List.listFitsIndex (xs.size : Int) = true := by unfold Builtin.List.listFitsIndex; rw [Bool.and_eq_true]; exact ⟨decide_eq_true (by omega), decide_eq_true hz'⟩
  have hl : Builtin.List.listTooLong (xs.size : Int).toNat = false := by unfold Builtin.List.listTooLong; exact decide_eq_false (by rw [Int.toNat_natCast]; omega)
  have hm : ¬ (xs.size : Int) < 0 := by omega
  simp only [hf, hl, hm, Bool.not_true, Bool.false_eq_true, if_false]
  exact wpAny_pure (q ((xs.size : Int) != 0) (s.toks + 1 + 1 + 1) (by omega))
end
def rRevL (K : PySem.W.Frag) : List V → Hp → VK → Prop := fun vs H Q => ∃ a zs, vs = [.ref a] ∧ (SqL K H a zs ∨ SqT K H a zs) ∧ ∀ l, H l = none → Q (.ref l) (upd H l (.lst zs.reverse))
theorem items_rev {xs : List Value} {acc : Array Value} (h : ItemsOf (fun i v => xs.toArray[xs.toArray.size - 1 - i]? = some v) acc xs.length) : acc = xs.reverse.toArray := by
  apply Array.toList_inj.mp
  apply List.ext_getElem?
  intro j
  rcases Nat.lt_or_ge j xs.length with hj | hj
  · have e : acc[j]? = some (acc[j]'(by rw [h.1]; exact hj)) := Array.getElem?_eq_getElem _
    have e2 := h.2 j _ e
    rw [Array.getElem?_toList, e, ← e2, List.getElem?_reverse hj]
    simp
  · rw [List.getElem?_eq_none (by rw [Array.length_toList, h.1]; exact hj), List.getElem?_eq_none (by simpa using hj)]
section
variable {X : Cx} {Θ : Tab} {xl xz : Str} {pl pz pos pos2 : Pos} {a b : Expr} {t : TA} {k : Nat}
theorem pe_listrev (hr : Room k X.A) (hgl : Gl X xl) (hml : X.mg xl = none) (hvl : bootBuiltins xl = some (.type "list")) (hgz : Gl X xz) (hmz : X.mg xz = none) (hvz : bootBuiltins xz = some (.type "reversed")) (ha : PA X [a] t)
    (hnl : xl ≠ "__name__" := by decide) (hdl : (xl == ("__debug__" : Str)) = false := by decide) (hnz : xz ≠ "__name__" := by decide) (hdz : (xz == ("__debug__" : Str)) = false := by decide) (hsa : notStar a = true := by rfl) :
    PE X (.Call (.Name xl pl) [.Call (.Name xz pz) [a] [] pos2] [] pos) (tCB (rRevL X.K) t) := by
  intro pins s σ H Q I h
  refine wpAny_Call_Name_kw (ld_blt I hgl hml hvl ?_ hnl hdl)
  refine PyProof.Rows.callWith_type1 ?_ (star_cons rfl) rfl
  rw [star_cons (e := .Call (.Name xz pz) [a] [] pos2) (es := []) rfl]
  refine Calls.spliced_cons ?_
  refine wpAny_Call_Name_kw (ld_blt I hgz hmz hvz ?_ hnz hdz)
  refine PyProof.Rows.callWith_type1 (thn (ha pos2 pins s σ H _ I h) fun us s1 ⟨vs, H1, I1, r1, q1⟩ => ?_) (star_cons hsa) (star_any (by simp))
  obtain ⟨p, zs, rfl, hp, qf⟩ := q1
  obtain ⟨u1, rfl, e1⟩ : ∃ u1, us = [u1] ∧ u1 = .ref p := by
    cases r1 with
    | cons c1 t1 => cases t1; exact ⟨_, rfl, c1⟩
  subst e1
  have fin : ∀ (its : List Value) (h1 h' : Heap) (tk : Nat) (acc : Array Value) (c : Nat), Vals zs its → zs.length ≤ sizeLine → s1.heap.objs.size ≤ h1.objs.size → 0 < tk → (∀ b o, s1.heap.get? b = some o → h'.get? b = some o) → h'.get? h1.objs.size = some { cls := .type "list", dict := none, data := .seq acc c, slots := #[] } → acc = its.reverse.toArray → ∃ v H', Inv X pins σ H' { s1 with heap := h', toks := tk } ∧ RelV v (.ref h1.objs.size) ∧ Q v H' := fun its h1 h' tk acc c rv hz le ht kk gS e => by
    subst e
    have o2 : ObjOk X.prog X.w (upd H1 h1.objs.size (.lst zs.reverse)) h' h1.objs.size (.lst zs.reverse) := ⟨by rw [List.length_reverse]; exact hz, its.reverse, c, rv.reverse, gS⟩
    exact ⟨.ref h1.objs.size, _, I1.laid kk le o2 ht, rfl, qf _ (I1.hok.fresh le)⟩
  have tk := I1.tk
  rcases hp with hp | hp
  · obtain ⟨its, rv, pl, hz⟩ := I1.list hp
    have hl := pl.isList
    have ez := rv.length
    have lp : p < s1.heap.objs.size := by obtain ⟨o, e, _⟩ := hl; exact Heap.lt_size e
    refine call_reversed_list hl ?_
    refine Calls.spliced_nil ?_
    have n1 : (s1.heap.push (revObj p ((its.toArray.size : Int) - 1))).objs.size = s1.heap.objs.size + 1 := Heap.size_push ..
    refine call_list_walk (A := X.A) (T := "list_reverseiterator") (Walks.listRev (A := X.A.in1.in1) hr.hd s1.heap.objs.size p (Nat.ne_of_lt lp) its.toArray) (by simp; omega) (by simp) (fun b hb => ?_) ⟨Nat.zero_le _, ⟨_, Heap.get?_push_size _ rfl, rfl, ?_⟩, hl.push _⟩ (fun h x => by obtain ⟨o, e, c, _⟩ := x.2.1; exact ⟨o, e, c⟩) (by decide) (by decide) (fun s' R E' x q => hint_rev x.2.1 (q false s'.toks (Nat.le_refl _))) fun h' tk' acc c ht kk gS hi => ?_
    · show b < (s1.heap.push _).objs.size
      rw [n1]
      rcases List.mem_cons.mp hb with rfl | hb
      · exact Nat.lt_succ_self _
      · have : b = p := by simpa using hb
        subst this; exact Nat.lt_succ_of_lt lp
    · simp [revObj]
    · have hi' : ItemsOf (fun i v => its.toArray[its.toArray.size - 1 - i]? = some v) acc its.length := by simpa using hi
      exact fin its _ h' tk' acc c rv hz (by show s1.heap.objs.size ≤ (s1.heap.push _).objs.size; rw [n1]; exact Nat.le_succ _) (Nat.lt_of_lt_of_le tk ht) (fun b o e => kk b o (fun hm => Nat.ne_of_lt (Heap.lt_size e) (by simpa using hm)) (Heap.get?_push_of_some _ e)) gS (items_rev hi')
  · obtain ⟨its, rv, hl, hz⟩ := I1.tuple hp
    have ez := rv.length
    have lp := hl.lt
    have hz2 := hz
    rw [sizeLine_eq] at hz2
    refine call_reversed_tuple hl (by simp; omega) ?_
    refine Calls.spliced_nil ?_
    have n1 : (s1.heap.push { cls := .type "reversed", data := .fields #[.ref p, rawInt ((its.toArray.size : Int) - 1)] }).objs.size = s1.heap.objs.size + 1 := Heap.size_push ..
    refine call_list_walk (A := X.A) (T := "reversed") (rvt_walks (A := X.A.in1.in1) hr.hd s1.heap.objs.size p (Nat.ne_of_lt lp) its.toArray (by simp; omega)) (by simp; omega) (by simp) (fun b hb => ?_) ⟨Nat.zero_le _, ?_, hl.push _⟩ (fun h x => ⟨_, x.2.1, rfl⟩) (by decide) (by decide) (fun s' R E' x q => hint_rvT (by simpa using x.2.1) x.2.2 (by simp; omega) q) fun h' tk' acc c ht kk gS hi => ?_
    · show b < (s1.heap.push _).objs.size
      rw [n1]
      rcases List.mem_cons.mp hb with rfl | hb
      · exact Nat.lt_succ_self _
      · have : b = p := by simpa using hb
        subst this; exact Nat.lt_succ_of_lt lp
    · show IsRvT _ _ _ _
      rw [show ((its.toArray.size : Int) - 1 - ((0 : Nat) : Int)) = (its.toArray.size : Int) - 1 by omega]
      exact Heap.get?_push_size _ rfl
    · have hi' : ItemsOf (fun i v => its.toArray[its.toArray.size - 1 - i]? = some v) acc its.length := by simpa using hi
      exact fin its _ h' tk' acc c rv hz (by show s1.heap.objs.size ≤ (s1.heap.push _).objs.size; rw [n1]; exact Nat.le_succ _) (Nat.lt_of_lt_of_le tk (Nat.le_trans (Nat.le_add_right _ 2) ht)) (fun b o e => kk b o (fun hm => Nat.ne_of_lt (Heap.lt_size e) (by simpa using hm)) (Heap.get?_push_of_some _ e)) gS (items_rev hi')
end
section
variable {Θ : Tab}
theorem bt_reversed : bootBuiltins "reversed" = some (.type "reversed") := by decide +kernel
theorem ad_listrev {K : PySem.W.Frag} : AdN K Θ M.fListRev (rRevL K) := by
  intro ρ H S xs Xs Q rp rxs h
  unfold M.fListRev at h
  split at h
  · rename_i ds
    obtain ⟨Y, r, rfl, ⟨a, zs, rfl, hq, rz⟩, rfl⟩ := rxs
    exact ⟨a, zs, rfl, .inr hq, fun l hl => Post.alloc h rp (RelDs.rev rz) hl⟩
  · rename_i p
    obtain ⟨Y, r, rfl, ry, rfl⟩ := rxs
    cases e : M.lstAt S p with
    | none => rw [e] at h; exact h.elim
    | some ds =>
      rw [e] at h
      have e' : S[p]? = some (.lst ds) := by
        unfold M.lstAt at e
        split at e
        · rename_i ds' e1; cases e; exact e1
        · cases e
      obtain ⟨a, zs, rfl, ha, hx, rz⟩ := ref_lst rp ry e'
      exact ⟨a, zs, rfl, .inl (SqL.of hx), fun l hl => Post.alloc h rp (RelDs.rev rz) hl⟩
  · exact h.elim
theorem me_listrev {X : Cx} {xl xz : Str} {pl pz pos pos2 : Pos} {a : Expr} {k : Nat} {m : M.AM} (hr : Room k X.A) (hgl : Gl X xl) (hml : X.mg xl = none) (hvl : bootBuiltins xl = some (.type "list")) (hgz : Gl X xz) (hmz : X.mg xz = none) (hvz : bootBuiltins xz = some (.type "reversed")) (ha : MA X Θ [a] m)
    (hnl : xl ≠ "__name__" := by decide) (hdl : (xl == ("__debug__" : Str)) = false := by decide) (hnz : xz ≠ "__name__" := by decide) (hdz : (xz == ("__debug__" : Str)) = false := by decide) (hsa : notStar a = true := by rfl) :
    ME X Θ (.Call (.Name xl pl) [.Call (.Name xz pz) [a] [] pos2] [] pos) (M.eCall M.fListRev m) :=
  (pe_listrev hr hgl hml hvl hgz hmz hvz ha hnl hdl hnz hdz hsa).imp fun σ H Q ⟨ρ, σ', S, st, rp, h⟩ => ⟨ρ, σ', S, st, rp, Post.bind h fun ρ1 H1 xs Xs S1 p1 l1 rp1 rx h1 => ad_listrev ρ1 H1 S1 xs Xs Q rp1 rx h1⟩
theorem w_me_listrev {X : Cx} {xl xz : Str} {pl pz pos pos2 : Pos} {a : Expr} {k : Nat} {m : M.AM} (hr : Room k X.A) (hgl : Gl X xl) (hml : X.mg xl = none) (hvl : bootBuiltins xl = some (.type "list")) (hgz : Gl X xz) (hmz : X.mg xz = none) (hvz : bootBuiltins xz = some (.type "reversed")) (ha : WA X Θ [a] m)
    (hnl : xl ≠ "__name__" := by decide) (hdl : (xl == ("__debug__" : Str)) = false := by decide) (hnz : xz ≠ "__name__" := by decide) (hdz : (xz == ("__debug__" : Str)) = false := by decide) (hsa : notStar a = true := by rfl) :
    WE X Θ (.Call (.Name xl pl) [.Call (.Name xz pz) [a] [] pos2] [] pos) (M.eCall M.fListRev m) := by with_unfolding_all exact me_listrev (X := X) (xl := xl) (xz := xz) (pl := pl) (pz := pz) (pos := pos) (pos2 := pos2) (a := a) (k := k) (m := m) hr hgl hml hvl hgz hmz hvz ha hnl hdl hnz hdz hsa
end
end L2
namespace L2
open PySem PySem.Spec PyProof.Rows
def SIt (b : Bool) (h : Heap) (it a : Addr) (i : Nat) : Prop := match b with | true => h.IsListIter it a i | false => h.IsTupleIter it a i
def SSq (b : Bool) (h : Heap) (a : Addr) (xs : Array Value) : Prop := match b with | true => h.IsList a xs | false => h.IsTuple a xs
theorem SIt.at {b : Bool} {h h' : Heap} {it a : Addr} {i : Nat} (x : SIt b h it a i) (e : ∀ o, h.get? it = some o → h'.get? it = some o) : SIt b h' it a i := match b, x with | true, x => Heap.IsListIter.at x e | false, x => Heap.IsTupleIter.at x e
theorem SIt.ex {b : Bool} {h h' : Heap} {it a c : Addr} {i : Nat} (x : SIt b h it a i) (e : Heap.SameBut c h h') (n : it ≠ c) : SIt b h' it a i := x.at fun o g => e.extBut _ _ n g
theorem SSq.at {b : Bool} {h h' : Heap} {a : Addr} {xs : Array Value} (x : SSq b h a xs) (e : ∀ o, h.get? a = some o → h'.get? a = some o) : SSq b h' a xs := match b, x with | true, ⟨o, g, r⟩ => ⟨o, e o g, r⟩ | false, ⟨o, g, r⟩ => ⟨o, e o g, r⟩
theorem SSq.ex {b : Bool} {h h' : Heap} {a c : Addr} {xs : Array Value} (x : SSq b h a xs) (e : Heap.SameBut c h h') (n : a ≠ c) : SSq b h' a xs := x.at fun o g => e.extBut _ _ n g
theorem SIt.ob {b : Bool} {h : Heap} {it a : Addr} {i : Nat} (x : SIt b h it a i) : ∃ o, h.get? it = some o ∧ ∀ v, o.data ≠ .cell v := match b, x with
  | true, ⟨o, g, c, d⟩ => ⟨o, g, fun v z => by rw [d] at z; cases z⟩
  | false, ⟨o, g, c, d⟩ => ⟨o, g, fun v z => by rw [d] at z; cases z⟩
section
variable {P : Program} {w : World} {A : Around} {E : Value → Shared → Prop} {s : Shared}
theorem snext_item {b : Bool} {it t : Addr} {i : Nat} {xs : Array Value} {x : Value} {Q : Value → Shared → Prop} (hi : SIt b s.heap it t i) (ht : SSq b s.heap t xs) (hx : xs[i]? = some x)
    (q : ∀ h', SIt b h' it t (i + 1) → Heap.SameBut it s.heap h' → Q x { s with heap := h' }) : wpAny (model P w) A (Builtin.SmallTypes.nextOf (.ref it)) Q E s :=
  match b, hi, ht, q with
  | true, hi, ht, q => wpAny_nextOf_list_item hi ht hx q
  | false, hi, ht, q => tnext_item hi ht hx q
theorem snext_end {b : Bool} {it t : Addr} {i : Nat} {xs : Array Value} {Q : Value → Shared → Prop} (hh : A.handled = none) (hi : SIt b s.heap it t i) (ht : SSq b s.heap t xs) (hx : xs[i]? = none)
    (q : ∀ h' e, Heap.ExtBut it s.heap h' → (∃ o, h'.get? e = some o ∧ o.cls = .type "StopIteration") → E (.ref e) { s with heap := h' }) : wpAny (model P w) A (Builtin.SmallTypes.nextOf (.ref it)) Q E s :=
  match b, hi, ht with
  | true, hi, ht => wpAny_nextOf_list_end hh hi ht hx q
  | false, hi, ht => tnext_end hh hi ht hx q
structure ZAt (b1 b2 : Bool) (z TI TO i1 i2 l1 l2 : Addr) (i : Nat) (h : Heap) : Prop where
  zp : IsZip h z TI TO .none
  ti : IsPair h TI (.ref i1) (.ref i2)
  to : ∃ a b, IsPair h TO a b
  n1 : SIt b1 h i1 l1 i
  n2 : SIt b2 h i2 l2 i
theorem zl_item {b1 b2 : Bool} {z TI TO i1 i2 l1 l2 : Addr} {i : Nat} {xs ys : Array Value} {x y : Value} {elts : List Expr} {kt : _} {tp : Pos} {Q : Value → Shared → Prop} (D : ZipApart z TI TO i1 i2 l1 l2) (st : ZAt b1 b2 z TI TO i1 i2 l1 l2 i s.heap) (t1 : SSq b1 s.heap l1 xs) (t2 : SSq b2 s.heap l2 ys) (hx : xs[i]? = some x) (hy : ys[i]? = some y)
    (q : ∀ h', ZAt b1 b2 z TI TO i1 i2 l1 l2 (i + 1) h' → IsPair h' s.heap.objs.size x y → (∀ c o, c ≠ z → c ≠ TO → c ≠ i1 → c ≠ i2 → s.heap.get? c = some o → h'.get? c = some o) → Q (.ref s.heap.objs.size) { s with heap := h' }) :
    wpAny (model P w) A (pyNext (.ref z)) (fun r s1 => ∃ u, r = some u ∧ wpAny (model P w) A (letOwnedTupleGo (.Tuple elts kt tp) (.ref z) u) (fun _ s2 => Q u s2) E s1) E s := by
  obtain ⟨hz, hTI, ⟨a0, b0, hTO⟩, h1, h2⟩ := st
  have hT : s.TypeIs (.ref z) "zip" := ⟨_, hz, rfl⟩
  unfold pyNext
  refine wpAny_bind (wpAny_attempt (wpAny_callSpecial?_slot (name := Str.ofString "__next__") hT PySem.F.slot_zip_next (wpAny_call_entry PySem.F.slot_zip_next hT PySem.F.entry_zip_next ?_ (PySem.F.args_zip_next_1 _))))
  show wpAny (model P w) _ (field (.ref z) 2 >>= _) _ _ _
  refine wpAny_bind (wpAny_field hz rfl (x := .bool false) rfl ?_)
  show wpAny (model P w) _ (field (.ref z) 3 >>= _) _ _ _
  refine wpAny_bind (wpAny_field hz rfl (x := .ref TI) rfl ?_)
  refine wpAny_bind (wpAny_seqItems hTI rfl ?_)
  show wpAny (model P w) _ (Builtin.SmallTypes.ownedTupleIsFree (.ref z) >>= _) _ _ _
  refine wpAny_bind ?_
  unfold Builtin.SmallTypes.ownedTupleIsFree
  refine wpAny_bind (wpAny_field hz rfl (x := .none) rfl (wpAny_pure ?_))
  simp only [if_true]
  refine wpAny_bind (wpAny_rule ?_)
  refine wpAny_bind (wpAny_field hz rfl (x := .ref TO) rfl ?_)
  refine wpAny_bind (wpAny_setField_rec hz (by simp) fun g1 z1 e1 => ?_)
  replace z1 : IsZip g1 z TI TO .ellipsis := z1
  refine wpAny_bind ?_
  simp only [List.zipIdx_cons, List.zipIdx_nil, List.forIn_cons, List.forIn_nil]
  refine wpAny_bind (wpAny_bind (wpAny_onRaise ?_))
  show wpAny (model P w) _ (Builtin.SmallTypes.nextOf (.ref i1) >>= _) _ _ _
  refine wpAny_bind (snext_item (h1.ex e1 D.i1z) (t1.ex e1 D.l1z) hx fun g2 n12 e2 => wpAny_pure ?_)
  have to2 : IsPair g2 TO a0 b0 := e2.extBut _ _ D.TOi1 (e1.extBut _ _ D.TOz hTO)
  refine wpAny_bind (wpAny_seqItems to2 rfl ?_)
  refine wpAny_bind (upd_pair to2 fun g3 to3 e3 => ?_)
  replace to3 : IsPair g3 TO x b0 := to3
  refine wpAny_bind (wpAny_letGo (wpAny_pure ?_))
  refine wpAny_bind (wpAny_bind (wpAny_onRaise ?_))
  show wpAny (model P w) _ (Builtin.SmallTypes.nextOf (.ref i2) >>= _) _ _ _
  refine wpAny_bind (snext_item (((h2.ex e1 D.i2z).ex e2 D.i12.symm).ex e3 D.TOi2.symm) (((t2.ex e1 D.l2z).ex e2 D.l2i1).ex e3 D.l2TO) hy fun g4 n24 e4 => wpAny_pure ?_)
  have to4 : IsPair g4 TO x b0 := e4.extBut _ _ D.TOi2 to3
  refine wpAny_bind (wpAny_seqItems to4 rfl ?_)
  refine wpAny_bind (upd_pair to4 fun g5 to5 e5 => ?_)
  replace to5 : IsPair g5 TO x y := to5
  refine wpAny_bind (wpAny_letGo (wpAny_pure (wpAny_pure ?_)))
  refine wpAny_bind (wpAny_seqItems to5 rfl ?_)
  refine wpAny_bind (wpAny_newTuple ?_)
  have sz : g5.objs.size = s.heap.objs.size := by rw [e5.1, e4.1, e3.1, e2.1, e1.1]
  have z5 : IsZip g5 z TI TO .ellipsis := e5.extBut _ _ D.TOz.symm (e4.extBut _ _ D.i2z.symm (e3.extBut _ _ D.TOz.symm (e2.extBut _ _ D.i1z.symm z1)))
  have k5 : ∀ c o, c ≠ z → c ≠ TO → c ≠ i1 → c ≠ i2 → s.heap.get? c = some o → g5.get? c = some o := fun c o c1 c2 c3 c4 e => e5.extBut _ _ c2 (e4.extBut _ _ c4 (e3.extBut _ _ c2 (e2.extBut _ _ c3 (e1.extBut _ _ c1 e))))
  have m1 : SIt b1 g5 i1 l1 (i + 1) := ((n12.ex e3 D.TOi1.symm).ex e4 D.i12).ex e5 D.TOi1.symm
  have m2 : SIt b2 g5 i2 l2 (i + 1) := n24.ex e5 D.TOi2.symm
  have zl : z < g5.objs.size := Heap.lt_size z5
  show wpAny (model P w) _ (Builtin.SmallTypes.ownedTupleHandOut (.ref z) (.ref g5.objs.size) >>= _) _ _ _
  refine wpAny_bind ?_
  unfold Builtin.SmallTypes.ownedTupleHandOut
  have z6 : IsZip (g5.push { cls := .type "tuple", data := .seq #[x, y] }) z TI TO .ellipsis := Heap.get?_push_of_some _ z5
  refine wpAny_bind (wpAny_setField_rec z6 (by simp) fun g7 z7 e7 => ?_)
  replace z7 : IsZip g7 z TI TO (rawInt g5.objs.size) := z7
  refine wpAny_setField_rec z7 (by simp) fun g8 z8 e8 => ?_
  replace z8 : IsZip g8 z TI TO (rawInt g5.objs.size) := z8
  have up : ∀ c o, c ≠ z → g5.get? c = some o → g8.get? c = some o := fun c o c1 e => e8.extBut _ _ c1 (e7.extBut _ _ c1 (Heap.get?_push_of_some _ e))
  have T8 : IsPair g8 g5.objs.size x y := e8.extBut _ _ (Nat.ne_of_gt zl) (e7.extBut _ _ (Nat.ne_of_gt zl) (Heap.get?_push_size _ rfl))
  refine wpAny_pure ⟨_, rfl, wpAny_pure ⟨_, rfl, ?_⟩⟩
  refine wpAny_letOwnedTupleGo_zip z8 fun g9 z9 e9 => ?_
  have up9 : ∀ c o, c ≠ z → g5.get? c = some o → g9.get? c = some o := fun c o c1 e => e9.extBut _ _ c1 (up c o c1 e)
  have T9 : IsPair g9 g5.objs.size x y := e9.extBut _ _ (Nat.ne_of_gt zl) T8
  rw [sz] at T9
  show Q (.ref g5.objs.size) _
  rw [sz]
  exact q g9 ⟨z9, up9 _ _ D.TIz (k5 _ _ D.TIz D.TITO D.TIi1 D.TIi2 hTI), ⟨_, _, up9 _ _ D.TOz to5⟩, m1.at fun o e => up9 _ o D.i1z e, m2.at fun o e => up9 _ o D.i2z e⟩ T9 fun c o c1 c2 c3 c4 e => up9 c o c1 (k5 c o c1 c2 c3 c4 e)
theorem zl_end {b1 b2 : Bool} {z TI TO i1 i2 l1 l2 : Addr} {i : Nat} {xs ys : Array Value} {Q : Option Value → Shared → Prop} (hh : A.handled = none) (D : ZipApart z TI TO i1 i2 l1 l2) (st : ZAt b1 b2 z TI TO i1 i2 l1 l2 i s.heap) (t1 : SSq b1 s.heap l1 xs) (t2 : SSq b2 s.heap l2 ys) (hend : xs[i]? = none ∨ ys[i]? = none)
    (q : ∀ h', (∀ c o, c ≠ z → c ≠ TO → c ≠ i1 → c ≠ i2 → s.heap.get? c = some o → h'.get? c = some o) → Q none { s with heap := h' }) : wpAny (model P w) A (pyNext (.ref z)) Q E s := by
  obtain ⟨hz, hTI, ⟨a0, b0, hTO⟩, h1, h2⟩ := st
  have hT : s.TypeIs (.ref z) "zip" := ⟨_, hz, rfl⟩
  unfold pyNext
  have fin : ∀ h' e, (∀ c o, c ≠ z → c ≠ TO → c ≠ i1 → c ≠ i2 → s.heap.get? c = some o → h'.get? c = some o) → (∃ o, h'.get? e = some o ∧ o.cls = .type "StopIteration") → wpAny (model P w) A (do if ← isInstance (.ref e) (.type "StopIteration") then return none else throw (.ref e)) Q E { s with heap := h' } := fun h' e hk ⟨o, ho, hc⟩ => by
    refine wpAny_bind (wpAny_isInstance (T := "StopIteration") (b := true) ⟨o, ho, hc⟩ isSubtype_stop ?_)
    exact wpAny_pure (q _ hk)
  refine wpAny_bind (wpAny_attempt (wpAny_callSpecial?_slot (name := Str.ofString "__next__") hT PySem.F.slot_zip_next (wpAny_call_entry PySem.F.slot_zip_next hT PySem.F.entry_zip_next ?_ (PySem.F.args_zip_next_1 _))))
  show wpAny (model P w) _ (field (.ref z) 2 >>= _) _ _ _
  refine wpAny_bind (wpAny_field hz rfl (x := .bool false) rfl ?_)
  show wpAny (model P w) _ (field (.ref z) 3 >>= _) _ _ _
  refine wpAny_bind (wpAny_field hz rfl (x := .ref TI) rfl ?_)
  refine wpAny_bind (wpAny_seqItems hTI rfl ?_)
  show wpAny (model P w) _ (Builtin.SmallTypes.ownedTupleIsFree (.ref z) >>= _) _ _ _
  refine wpAny_bind ?_
  unfold Builtin.SmallTypes.ownedTupleIsFree
  refine wpAny_bind (wpAny_field hz rfl (x := .none) rfl (wpAny_pure ?_))
  simp only [if_true]
  refine wpAny_bind (wpAny_rule ?_)
  refine wpAny_bind (wpAny_field hz rfl (x := .ref TO) rfl ?_)
  refine wpAny_bind (wpAny_setField_rec hz (by simp) fun g1 z1 e1 => ?_)
  replace z1 : IsZip g1 z TI TO .ellipsis := z1
  refine wpAny_bind ?_
  simp only [List.zipIdx_cons, List.zipIdx_nil, List.forIn_cons, List.forIn_nil]
  refine wpAny_bind (wpAny_bind (wpAny_onRaise ?_))
  show wpAny (model P w) _ (Builtin.SmallTypes.nextOf (.ref i1) >>= _) _ _ _
  cases hx : xs[i]? with
  | none =>
    refine wpAny_bind (snext_end hh (h1.ex e1 D.i1z) (t1.ex e1 D.l1z) hx fun g2 e e2 he => ?_)
    obtain ⟨oe, hoe, hce⟩ := he
    have z2 : IsZip g2 z TI TO .ellipsis := e2 _ _ D.i1z.symm z1
    have hez : e ≠ z := fun x => by subst x; rw [z2] at hoe; cases hoe; simp at hce
    refine wpAny_setField_rec z2 (by simp) fun g3 _ e3 => fin g3 e (fun c o c1 _ c3 _ x => e3.extBut _ _ c1 (e2 _ _ c3 (e1.extBut _ _ c1 x))) ⟨oe, e3.extBut _ _ hez hoe, hce⟩
  | some x =>
    have hy : ys[i]? = none := by rcases hend with h | h; rw [hx] at h; cases h; exact h
    refine wpAny_bind (snext_item (h1.ex e1 D.i1z) (t1.ex e1 D.l1z) hx fun g2 n12 e2 => wpAny_pure ?_)
    have to2 : IsPair g2 TO a0 b0 := e2.extBut _ _ D.TOi1 (e1.extBut _ _ D.TOz hTO)
    refine wpAny_bind (wpAny_seqItems to2 rfl ?_)
    refine wpAny_bind (upd_pair to2 fun g3 to3 e3 => ?_)
    refine wpAny_bind (wpAny_letGo (wpAny_pure ?_))
    refine wpAny_bind (wpAny_bind (wpAny_onRaise ?_))
    show wpAny (model P w) _ (Builtin.SmallTypes.nextOf (.ref i2) >>= _) _ _ _
    refine wpAny_bind (snext_end hh (((h2.ex e1 D.i2z).ex e2 D.i12.symm).ex e3 D.TOi2.symm) (((t2.ex e1 D.l2z).ex e2 D.l2i1).ex e3 D.l2TO) hy fun g4 e e4 he => ?_)
    obtain ⟨oe, hoe, hce⟩ := he
    have z4 : IsZip g4 z TI TO .ellipsis := e4 _ _ D.i2z.symm (e3.extBut _ _ D.TOz.symm (e2.extBut _ _ D.i1z.symm z1))
    have hez : e ≠ z := fun x => by subst x; rw [z4] at hoe; cases hoe; simp at hce
    refine wpAny_setField_rec z4 (by simp) fun g5 _ e5 => fin g5 e (fun c o c1 c2 c3 c4 x => e5.extBut _ _ c1 (e4 _ _ c4 (e3.extBut _ _ c2 (e2.extBut _ _ c3 (e1.extBut _ _ c1 x))))) ⟨oe, e5.extBut _ _ hez hoe, hce⟩
abbrev zu1 (h : Heap) (a : Addr) : Heap := h.push { cls := .type "list_iterator", data := .fields #[.ref a, .int 0 0] }
abbrev zu2 (h : Heap) (a b : Addr) : Heap := (zu1 h a).push { cls := .type "tuple_iterator", data := .fields #[.ref b, .int 0 0] }
abbrev zu3 (h : Heap) (a b : Addr) : Heap := (zu2 h a b).push { cls := .type "tuple", data := .seq #[.ref h.objs.size, .ref (zu1 h a).objs.size] }
abbrev zu4 (h : Heap) (a b : Addr) : Heap := (zu3 h a b).push { cls := .type "tuple", data := .seq #[.none, .none] }
abbrev zu5 (h : Heap) (a b : Addr) : Heap := (zu4 h a b).push { cls := .type "zip", data := .fields #[.none, .bool false, .bool false, .ref (zu2 h a b).objs.size, .ref (zu3 h a b).objs.size] }
theorem meets_zipU (l1 l2 : Addr) (xs ys : Array Value) :
    Meets (Builtin.«zip.__new__» ⟨[.type "zip", .ref l1, .ref l2], []⟩) (fun _ R s => s.heap.IsList l1 xs ∧ s.heap.IsTuple l2 ys ∧ R (.ok (.ret (.ref (zu4 s.heap l1 l2).objs.size))) { s with heap := zu5 s.heap l1 l2 }) :=
  .of_wp fun prog w A R s h => by
    obtain ⟨hp, g, d, tk, os⟩ := s; obtain ⟨t1, t2, h⟩ := h
    have hsub := sub_zip
    have T1 : Heap.IsList (Shared.heap ⟨hp, g, d, tk, os⟩) l1 xs := t1
    have T2 : Heap.IsTuple (Shared.heap ⟨hp.push { cls := .type "list_iterator", data := .fields #[.ref l1, .int 0 0] }, g, d, tk, os⟩) l2 ys := Heap.IsTuple.push t2 _
    wp_walk using wpAny_pyIter_list T1, wpAny_pyIter_tuple T2
    exact ⟨_, rfl, h⟩
theorem call_zipU {l1 l2 : Addr} {xs ys : Array Value} {Q : Value → Shared → Prop} (h1 : s.heap.IsList l1 xs) (h2 : s.heap.IsTuple l2 ys)
    (q : ∀ h', ZAt true false (s.heap.objs.size + 4) (s.heap.objs.size + 2) (s.heap.objs.size + 3) s.heap.objs.size (s.heap.objs.size + 1) l1 l2 0 h' → (∀ b o, s.heap.get? b = some o → h'.get? b = some o) → Q (.ref (s.heap.objs.size + 4)) { s with heap := h' }) :
    wpAny (model P w) A (call (.type "zip") [.ref l1, .ref l2]) Q E s := by
  refine callType_new PySem.F.called_zip (by decide) (PySem.F.typeCall_zip_2 _ _) (PySem.F.newCall_zip_2 _ _) (fun obj => PySem.F.args_object_init_3 obj _ _) PySem.F.entry_zip_new (meets_zipU l1 l2 xs ys) ⟨h1, h2, ?_⟩
  have n1 : (zu1 s.heap l1).objs.size = s.heap.objs.size + 1 := Heap.size_push ..
  have n2 : (zu2 s.heap l1 l2).objs.size = s.heap.objs.size + 2 := by rw [Heap.size_push, n1]
  have n3 : (zu3 s.heap l1 l2).objs.size = s.heap.objs.size + 3 := by rw [Heap.size_push, n2]
  have n4 : (zu4 s.heap l1 l2).objs.size = s.heap.objs.size + 4 := by rw [Heap.size_push, n3]
  have up : ∀ {h : Heap} {o p b}, h.get? b = some o → (h.push p).get? b = some o := fun e => Heap.get?_push_of_some _ e
  have g5 : (zu5 s.heap l1 l2).get? (zu4 s.heap l1 l2).objs.size = some _ := Heap.get?_push_size _ rfl
  have g4 : (zu5 s.heap l1 l2).get? (zu3 s.heap l1 l2).objs.size = some _ := up (Heap.get?_push_size _ rfl)
  have g3 : (zu5 s.heap l1 l2).get? (zu2 s.heap l1 l2).objs.size = some _ := up (up (Heap.get?_push_size _ rfl))
  have g2 : (zu5 s.heap l1 l2).get? (zu1 s.heap l1).objs.size = some _ := up (up (up (Heap.get?_push_size _ rfl)))
  have g1 : (zu5 s.heap l1 l2).get? s.heap.objs.size = some _ := up (up (up (up (Heap.get?_push_size _ rfl))))
  show _ ∧ _
  rw [n2, n3, n4] at g5
  rw [n1, n2] at g3
  rw [n3] at g4
  rw [n1] at g2
  rw [n4]
  exact ⟨⟨_, g5, rfl⟩, q _ ⟨g5, g3, ⟨_, _, g4⟩, ⟨_, g1, rfl, rfl⟩, ⟨_, g2, rfl, rfl⟩⟩ fun b o e => up (up (up (up (up e))))⟩
end
def Sqb (b : Bool) (K : PySem.W.Frag) (H : Hp) (a : Addr) (xs : List V) : Prop := match b with | true => SqL K H a xs | false => SqT K H a xs
theorem Inv.sqb {b : Bool} {X : Cx} {pins : List (Addr × Obj)} {σ : St} {H : Hp} {s : Shared} {a : Addr} {xs : List V} (I : Inv X pins σ H s) (h : Sqb b X.K H a xs) : ∃ its : List Value, Vals xs its ∧ SSq b s.heap a its.toArray := match b, h with
  | true, h => let ⟨its, r, p, _⟩ := I.list h; ⟨its, r, p.isList⟩
  | false, h => let ⟨its, r, p, _⟩ := I.tuple h; ⟨its, r, p⟩
theorem Inv.sqb_inj {b : Bool} {X : Cx} {pins : List (Addr × Obj)} {σ : St} {H : Hp} {s : Shared} {a : Addr} {xs ys : List V} (I : Inv X pins σ H s) (h : Sqb b X.K H a xs) (h' : Sqb b X.K H a ys) : xs = ys := match b, h, h' with
  | true, h, h' => I.list_inj h h'
  | false, h, h' => I.tuple_inj h h'
def Itz (K : PySem.W.Frag) (b1 b2 : Bool) (a b : Addr) : It :=
  ⟨fun i H => ∃ xs ys x y, Sqb b1 K H a xs ∧ Sqb b2 K H b ys ∧ xs[i]? = some x ∧ ys[i]? = some y, fun i H v H' => ∃ p x y, H p = none ∧ v = .ref p ∧ H' = upd H p (.tup [x, y]) ∧ ∀ xs ys, Sqb b1 K H a xs → Sqb b2 K H b ys → xs[i]? = some x ∧ ys[i]? = some y, fun i H => ∃ xs ys, Sqb b1 K H a xs ∧ Sqb b2 K H b ys ∧ (xs.length ≤ i ∨ ys.length ≤ i)⟩
theorem Inv.turnedL {X : Cx} {pins : List (Addr × Obj)} {σ : St} {H : Hp} {s : Shared} {h' : Heap} {t' : Nat} {ch : List Addr} (I : Inv X pins σ H s) (fp : ∀ b ∈ ch, FpOk X pins H b)
    (k : ∀ b q, b ∉ ch → s.heap.get? b = some q → h'.get? b = some q) (ht : 0 < t') : Inv X pins σ H { s with heap := h', toks := t' } := by
  have nch : ∀ {b : Addr} {u : HO}, H b = some u → b ∉ ch := fun q z => by rw [(fp _ z).1] at q; cases q
  refine I.step (g' := s.gens) (d' := s.drawn) (ch := ch) (fun b hb => ⟨(fp b hb).2.2.2.1, (fp b hb).2.1, (fp b hb).2.2.2.2.1, (fp b hb).2.2.2.2.2⟩) (fun b q _ _ hc g _ => k b q hc g) (fun b q _ _ hc g _ => ⟨q.slots, k b q hc g⟩)
    (fun _ _ _ _ n => n) (fun b q hc g => ⟨q, k b q hc g⟩) (fun _ _ g => g) (fun _ _ _ g => g) (fun b ps g => ⟨#[], by rw [g]; simp⟩) (fun m hm => ?_) (fun b u g => ?_) I.bare ht
  · obtain ⟨q, es, ep, ho, r⟩ := hm
    exact ⟨q, es, ep, k _ q (fun z => (fp _ z).2.1 rfl) ho, r⟩
  · refine (I.hok b u g).stay (fun c v hc q => ?_) (fun c q => q) fun c xs q => q
    rcases hc with z | z
    · rw [z] at q ⊢; exact k _ _ (nch g) q
    · exact k _ _ (nch z) q
theorem turn_zip {P : Program} {w : World} {K : PySem.W.Frag} {elts : List Expr} {kt : _} {tp : Pos} {b1 b2 : Bool} (a b z TI TO i1 i2 : Addr) (D : ZipApart z TI TO i1 i2 a b) : Turn P w K (.Tuple elts kt tp) (Itz K b1 b2 a b) [z, TI, TO, i1, i2] z (fun i h => ZAt b1 b2 z TI TO i1 i2 a b i h) where
  mem := by simp
  obj := fun i h st c hc => by
    obtain ⟨hz, hTI, ⟨a0, b0, hTO⟩, h1, h2⟩ := st
    simp only [List.mem_cons, List.not_mem_nil, or_false] at hc
    rcases hc with rfl | rfl | rfl | rfl | rfl
    · exact ⟨_, hz, fun v z => nomatch z⟩
    · exact ⟨_, hTI, fun v z => nomatch z⟩
    · exact ⟨_, hTO, fun v z => nomatch z⟩
    · exact h1.ob
    · exact h2.ob
  keep := fun i h h' ⟨hz, hTI, ⟨a0, b0, hTO⟩, h1, h2⟩ k => ⟨k z (by simp) _ hz, k TI (by simp) _ hTI, ⟨a0, b0, k TO (by simp) _ hTO⟩, h1.at fun o g => k i1 (by simp) o g, h2.at fun o g => k i2 (by simp) o g⟩
  item := by
    intro X hP hw hK hc i pins s σ H E I hf st hg
    subst hP hw hK
    obtain ⟨xs, ys, x, y, hq1, hq2, hx, hy⟩ := hg
    obtain ⟨itx, rx, px⟩ := I.sqb hq1
    obtain ⟨ity, ry, py⟩ := I.sqb hq2
    obtain ⟨u, hu, ru⟩ := rx.get hx
    obtain ⟨v, hv, rv⟩ := ry.get hy
    refine zl_item D st px py (x := u) (y := v) (by simpa using hu) (by simpa using hv) fun h' st' gT hk => ?_
    have lt : ∀ c ∈ [z, TI, TO, i1, i2], c < s.heap.objs.size := fun c hc => by
      obtain ⟨hz, hTI, ⟨a0, b0, hTO⟩, h1, h2⟩ := st
      simp only [List.mem_cons, List.not_mem_nil, or_false] at hc
      rcases hc with rfl | rfl | rfl | rfl | rfl
      · exact Heap.lt_size hz
      · exact Heap.lt_size hTI
      · exact Heap.lt_size hTO
      · obtain ⟨o, g, _⟩ := h1.ob; exact Heap.lt_size g
      · obtain ⟨o, g, _⟩ := h2.ob; exact Heap.lt_size g
    have I1 : Inv X pins σ H { s with heap := h', toks := s.toks } := I.turnedL (ch := [z, TI, TO, i1, i2]) hf (fun c o hc g => by
      simp only [List.mem_cons, List.not_mem_nil, or_false, not_or] at hc
      exact hk c o hc.1 hc.2.2.1 hc.2.2.2.1 hc.2.2.2.2 g) I.tk
    have hn : H s.heap.objs.size = none := I.hok.fresh (Nat.le_refl _)
    have I2 : Inv X pins σ (upd H s.heap.objs.size (.tup [x, y])) { s with heap := h' } := I1.track I.sz hn (Nat.ne_of_gt I.lt) (fun x c e => by obtain ⟨v, hv⟩ := I.cell x c e; exact Nat.ne_of_lt hv.lt) (fun p hp => Nat.ne_of_lt (Heap.lt_size (I.pin p hp).1))
      ⟨show 2 ≤ sizeLine by decide, [u, v], .cons ru (.cons rv .nil), ⟨_, gT, rfl, _, rfl⟩⟩
    refine ⟨.ref s.heap.objs.size, _, I2, rfl, ⟨_, x, y, hn, rfl, rfl, fun xs' ys' h1 h2 => by rw [I.sqb_inj h1 hq1, I.sqb_inj h2 hq2]; exact ⟨hx, hy⟩⟩, st', fun c hc => ?_⟩
    rw [upd_ne (Nat.ne_of_lt (lt c hc))]
    exact (hf c hc).1
  done := by
    intro X hP hw hK hc i pins s σ H E I hf st hg
    subst hP hw hK
    obtain ⟨xs, ys, hq1, hq2, hx⟩ := hg
    obtain ⟨itx, rx, px⟩ := I.sqb hq1
    obtain ⟨ity, ry, py⟩ := I.sqb hq2
    have e1 := rx.length
    have e2 := ry.length
    exact zl_end (I.ok.hd hc) D st px py (hx.imp (fun h => by simp; omega) fun h => by simp; omega) fun h' hk => ⟨rfl, I.turnedL (t' := s.toks) (ch := [z, TI, TO, i1, i2]) hf (fun c o hc g => by
      simp only [List.mem_cons, List.not_mem_nil, or_false, not_or] at hc
      exact hk c o hc.1 hc.2.2.1 hc.2.2.2.1 hc.2.2.2.2 g) I.tk⟩
  self := fun _ _ _ _ _ st h => wpAny_pyIter_zip st.zp h
def iZp (K : PySem.W.Frag) (ta : TA) : TI := fun σ H R => ta σ H fun vs H1 => ∃ a b xs ys, vs = [.ref a, .ref b] ∧ SqL K H1 a xs ∧ SqT K H1 b ys ∧ R (Itz K true false a b) H1
theorem pi_zip {X : Cx} {a b : Expr} {ta : TA} {p pos : Pos} {elts : List Expr} {kt : _} {tp : Pos} (hg : Gl X "zip") (hm : X.mg "zip" = none) (ha : PA X [a, b] ta) (hsa : notStar a = true) (hsb : notStar b = true) : PI X (.Tuple elts kt tp) (.Call (.Name "zip" p) [a, b] [] pos) (iZp X.K ta) := by
  intro pins s σ H R I h
  refine Call_ (ld_blt I hg hm bt_zip (PyProof.Rows.callWith_type1 (thn (ha pos pins s σ H _ I h) fun us s1 ⟨vs, H1, I1, r1, q1⟩ => ?_) (star_cons hsa) (star_any (by simp [hsb]))))
  obtain ⟨a', b', xs, ys, e, hq, hq2, q⟩ := q1
  subst e
  obtain ⟨u1, u2, rfl, e1, e2⟩ : ∃ u1 u2, us = [u1, u2] ∧ u1 = .ref a' ∧ u2 = .ref b' := by
    cases r1 with
    | cons c1 t1 =>
      cases t1 with
      | cons c2 t2 => cases t2; exact ⟨_, _, rfl, c1, c2⟩
  subst e1 e2
  obtain ⟨itx, rx, px, _⟩ := I1.list hq
  obtain ⟨ity, ry, py, _⟩ := I1.tuple hq2
  have la : a' < s1.heap.objs.size := by obtain ⟨o, e, _⟩ := px.isList; exact Heap.lt_size e
  have lb : b' < s1.heap.objs.size := py.lt
  refine call_zipU px.isList py fun h' st hk => ?_
  refine wpAny_pyIter_zip st.zp ⟨_, _, _, _, H1, rfl, I1.kept (t' := s1.toks) hk, turn_zip a' b' _ _ _ _ _ (PySem.W.ktu_apart _ _ _ la lb), st, fun c hc => ?_, q⟩
  have le : s1.heap.objs.size ≤ c := by
    simp only [List.mem_cons, List.not_mem_nil, or_false] at hc
    rcases hc with rfl | rfl | rfl | rfl | rfl
    · exact Nat.le_add_right _ _
    · exact Nat.le_add_right _ _
    · exact Nat.le_add_right _ _
    · exact Nat.le_refl _
    · exact Nat.le_add_right _ _
  exact I1.fpOk le (I1.hok.fresh le)
section
variable {Θ : Tab}
theorem zipL_at : ∀ (ds es : List M.D) (i : Nat), (M.zipL ds es)[i]? = match ds[i]?, es[i]? with | some d, some e => some (.tup [d, e]) | _, _ => none
  | [], _, i => by simp [M.zipL]
  | d :: ds, [], i => by
    have e : ([] : List M.D)[i]? = none := rfl
    have z : M.zipL (d :: ds) [] = [] := by simp [M.zipL]
    rw [z, e]
    cases (d :: ds)[i]? <;> rfl
  | d :: ds, e :: es, 0 => by simp [M.zipL]
  | d :: ds, e :: es, i + 1 => by
    rw [M.zipL, List.getElem?_cons_succ, List.getElem?_cons_succ, List.getElem?_cons_succ]
    exact zipL_at ds es i
theorem zipL_len : ∀ (ds es : List M.D), (M.zipL ds es).length = min ds.length es.length
  | [], _ => by simp [M.zipL]
  | _ :: _, [] => by simp [M.zipL]
  | d :: ds, e :: es => by rw [M.zipL, List.length_cons, zipL_len, List.length_cons, List.length_cons]; omega
theorem itr_zip {K : PySem.W.Frag} {ρ : List Addr} {H : Hp} {a b : Addr} {b1 b2 : Bool} {ds es : List M.D} {g : M.Gd} (key : ∀ {ρ' : List Addr} {S' : M.S} {H' : Hp}, ρ <+: ρ' → Le H H' → RepS K Θ ρ' S' H' → M.gdOk g S' = true → ∃ zs ws, Sqb b1 K H' a zs ∧ Sqb b2 K H' b ws ∧ RelDs K ρ' H' ds zs ∧ RelDs K ρ' H' es ws) : ItR K Θ ρ H (Itz K b1 b2 a b) (M.zipL ds es) g := by
  refine ⟨fun j ρ' S' H' p l rp g hj => ?_, fun j ρ' S' H' v H2 p l rp g hj y => ?_, fun ρ' S' H' p l rp g => ?_⟩
  · rw [zipL_len] at hj
    obtain ⟨zs, ws, q1, q2, r1, r2⟩ := key p l rp g
    obtain ⟨v, e1, _⟩ := r1.get (i := j) (d := ds[j]) (by simp)
    obtain ⟨v2, e2, _⟩ := r2.get (i := j) (d := es[j]) (by simp)
    exact ⟨zs, ws, v, v2, q1, q2, e1, e2⟩
  · rw [zipL_len] at hj
    obtain ⟨zs, ws, q1, q2, r1, r2⟩ := key p l rp g
    obtain ⟨v1, e1, rv1⟩ := r1.get (i := j) (d := ds[j]) (by simp)
    obtain ⟨v2, e2, rv2⟩ := r2.get (i := j) (d := es[j]) (by simp)
    obtain ⟨q, x, x2, hn, rfl, rfl, y2⟩ := y
    obtain ⟨y3, y4⟩ := y2 zs ws q1 q2
    rw [e1] at y3; cases y3
    rw [e2] at y4; cases y4
    have f1 : ds[j]? = some ds[j] := List.getElem?_eq_getElem _
    have f2 : es[j]? = some es[j] := List.getElem?_eq_getElem _
    refine ⟨.tup [ds[j], es[j]], by rw [zipL_at, f1, f2], ?_, Le.new hn _, rp.aside hn _⟩
    exact ⟨q, _, rfl, SqT.of upd_same, _, _, rfl, rv1.mono (List.prefix_refl _) (Le.new hn _), _, _, rfl, rv2.mono (List.prefix_refl _) (Le.new hn _), rfl⟩
  · obtain ⟨zs, ws, q1, q2, r1, r2⟩ := key p l rp g
    exact ⟨zs, ws, q1, q2, by rw [zipL_len, ← r1.length, ← r2.length]; omega⟩
theorem mi_zip {X : Cx} {e e' : Expr} {m m' : M.EM} {p pos tp : Pos} {elts : List Expr} {kt : _} (hg : Gl X "zip") (hm : X.mg "zip" = none) (he : ME X Θ e m) (he' : ME X Θ e' m') (hs : notStar e = true := by rfl) (hs' : notStar e' = true := by rfl) : MI X Θ (.Tuple elts kt tp) (.Call (.Name "zip" p) [e, e'] [] pos) (M.iZip m m') :=
  (pi_zip hg hm (ma_cons he (ma_cons he' ma_nil hs') hs) hs hs').imp fun σ H R ⟨ρ, σ', S, st, rp, h⟩ => ⟨ρ, σ', S, st, rp, by
    have h' : Post X.K Θ _ ρ H (((M.aCons m (M.aCons m' M.aNil) σ' S).bind M.zipP).bind fun p s => if M.gdOk p.2 s then .ok p s else .no) R := h
    cases hm : M.aCons m (M.aCons m' M.aNil) σ' S with
    | no => rw [hm] at h'; exact h'.elim
    | exc a s => rw [hm] at h'; exact h'.elim
    | ok ds S1 =>
      rw [hm] at h'
      intro ρ1 H1 vs p l rp1 rv
      have h2 : Post X.K Θ _ ρ H ((M.zipP ds S1).bind fun p s => if M.gdOk p.2 s then .ok p s else .no) R := h'
      unfold M.zipP at h2
      split at h2
      · rename_i i es
        obtain ⟨v, ys, rfl, ⟨a, rfl, e1⟩, v2, ys2, rfl, ⟨b, ws, rfl, hq, rz⟩, rfl⟩ := rv
        cases q : S1[i]? with
        | none => rw [q] at h2; exact h2.elim
        | some o =>
          rw [q] at h2
          cases o with
          | lst xs =>
            obtain ⟨b', e2, zs, e3, r⟩ := rp1.obj i _ q
            rw [e1] at e2; cases e2
            have hg : M.gdOk [(i, M.O.lst xs)] S1 = true := by simp [M.gdOk, q]
            have h3 : Post X.K Θ _ ρ H (if M.gdOk [(i, M.O.lst xs)] S1 then M.R.ok (M.zipL xs es, [(i, M.O.lst xs)]) S1 else .no) R := h2
            rw [if_pos hg] at h3
            refine ⟨a, b, zs, ws, rfl, SqL.of e3, hq, h3 ρ1 H1 _ p l rp1 (itr_zip fun {ρ' S' H'} p' l' rp' g' => ?_)⟩
            have g2 : S'[i]? = some (M.O.lst xs) := by simpa [M.gdOk] using g'
            obtain ⟨b2, f1, us, f2, r2⟩ := rp'.obj i _ g2
            rw [pre_get p' e1] at f1; cases f1
            exact ⟨us, ws, SqL.of f2, l'.sqT hq, r2, rz.mono p' l'⟩
          | dct kvs => exact h2.elim
          | ins c fs => exact h2.elim
      · exact h2.elim⟩
theorem w_mi_zip {X : Cx} {e e' : Expr} {m m' : M.EM} {p pos tp : Pos} {elts : List Expr} {kt : _} (hg : Gl X "zip") (hm : X.mg "zip" = none) (he : WE X Θ e m) (he' : WE X Θ e' m') (hs : notStar e = true := by rfl) (hs' : notStar e' = true := by rfl) : WI X Θ (.Tuple elts kt tp) (.Call (.Name "zip" p) [e, e'] [] pos) (M.iZip m m') := by with_unfolding_all exact mi_zip (X := X) (e := e) (e' := e') (m := m) (m' := m') (p := p) (pos := pos) (tp := tp) (elts := elts) (kt := kt) hg hm he he' hs hs'
end
end L2
set_option maxHeartbeats 4000000
namespace M
noncomputable section
def b__law_mixed : SM :=
    (sSeq (sSet 2 (eOp opMod (eOp opMul (eOp opAdd (eVar 0) (eOp opMul (eC (.int 7919)) (eVar 1))) (eC (.int 48271))) (eC (.int 2147483647))))
    (sRet (eOp opMod (eOp opMul (eVar 2) (eOp opAdd (eOp opAdd (eVar 2) (eOp opMul (eC (.int 2)) (eVar 1))) (eC (.int 1)))) (eC (.int 2147483629)))))
def m__law_mixed : F := fn 3 b__law_mixed
def mixed (c k : Int) : Int := (c + 7919 * k) * 48271 % 2147483647 * ((c + 7919 * k) * 48271 % 2147483647 + 2 * k + 1) % 2147483629
theorem mixed_nonneg (c k : Int) : 0 ≤ mixed c k := Int.emod_nonneg _ (by decide)
def q__law_mixed : F
  | [.int c, .int k], s => .ok (.int (mixed c k)) s
  | _, _ => .no
theorem rf__law_mixed : Refines 2 m__law_mixed q__law_mixed := Refines.pure fun ds S hl c ca => by
  match ds, hl with
  | [.int c, .int k], _ =>
    have h1 : small 7919 = true := by decide
    have h2 : small 48271 = true := by decide
    have h3 : small 2 = true := by decide
    have h4 : small ((c + 7919 * k) * 48271 % 2147483647) = true := by
      have a := Int.emod_nonneg ((c + 7919 * k) * 48271) (show (2147483647 : Int) ≠ 0 by decide)
      have b := Int.emod_lt_of_pos ((c + 7919 * k) * 48271) (show (0 : Int) < 2147483647 by decide)
      exact decide_eq_true (by omega)
    exact .inr ⟨_, [], rfl, by simp [m__law_mixed, b__law_mixed, h1, h2, h3, h4, mixed], rfl⟩
  | [.str _, _], _ => exact .inl rfl
  | [.non, _], _ => exact .inl rfl
  | [.bl _, _], _ => exact .inl rfl
  | [.ref _, _], _ => exact .inl rfl
  | [.ty _, _], _ => exact .inl rfl
  | [.tup _, _], _ => exact .inl rfl
  | [.ro _, _], _ => exact .inl rfl
  | [.int _, .str _], _ => exact .inl rfl
  | [.int _, .non], _ => exact .inl rfl
  | [.int _, .bl _], _ => exact .inl rfl
  | [.int _, .ref _], _ => exact .inl rfl
  | [.int _, .ty _], _ => exact .inl rfl
  | [.int _, .tup _], _ => exact .inl rfl
  | [.int _, .ro _], _ => exact .inl rfl
def b__law_signs : SM :=
    (sSeq (sSet 0 (eC (.str [32, 33, 35, 36, 38, 39, 40, 41, 42, 43, 44, 45, 46, 47, 48, 49, 50, 51, 52, 53, 54, 55, 56, 57, 58, 59, 60, 61, 62, 63, 64, 65, 66, 67, 68, 69, 70, 71, 72, 73, 74, 75, 76, 77, 78, 79, 80, 81, 82, 83, 84, 85, 86, 87, 88, 89, 90, 91, 92, 93, 94, 95, 96])))
    (sRet (eOp opAdd (eVar 0) (eC (.str [97, 98, 99, 100, 101, 102, 103, 104, 105, 106, 107, 108, 109, 110, 111, 112, 113, 114, 115, 116, 117, 118, 119, 120, 121, 122, 123, 124, 125, 126])))))
def m__law_signs : F := fn 1 b__law_signs
def signs93 : T := [32, 33, 35, 36] ++ (List.range 89).map (· + 38)
def q__law_signs : F
  | [], s => .ok (.str signs93) s
  | _, _ => .no
theorem rf__law_signs : Refines 0 m__law_signs q__law_signs := Refines.pure fun ds S hl c ca => by
  match ds, hl with
  | [], _ => exact .inr ⟨_, [], rfl, by simp [m__law_signs, b__law_signs, SZ]; rfl, rfl⟩
def b__law_kept : SM :=
    (sRet (eM .str mSplit (eC (.str [111, 102, 32, 105, 102, 32, 105, 115, 32, 116, 104, 101, 110, 32, 101, 108, 115, 101, 32, 101, 97, 99, 104, 32, 100, 111, 32, 105, 116, 32, 98, 97, 99, 107, 32, 102, 105, 114, 115, 116, 32, 114, 101, 115, 116, 32, 99, 111, 117, 110, 116, 32, 115, 111, 114, 116, 101, 100, 32, 102, 97, 105, 108, 32, 108, 105, 110, 101, 32, 109, 111, 114, 101])) (aCons (eC (.str [32])) aNil)))
def m__law_kept : F := fn 0 b__law_kept
def q__law_kept : F
  | [], s => alloc (.lst (keptT.map .str)) s
  | _, _ => .no
theorem rf__law_kept : Refines 0 m__law_kept q__law_kept := Refines.new fun ds S hl c ca => by
  match ds, hl with
  | [], _ => exact .inr ⟨.lst (keptT.map .str), S.length, [.lst (keptT.map .str)], rfl, by simp [m__law_kept, b__law_kept, SZ]; rfl, by simp, Nat.le_refl _, cl_strs _ _⟩
def p__law_plain_1 : SM :=
    (sSet 1 (eC (.str [97, 98, 99, 100, 101, 102, 103, 104, 105, 106, 107, 108, 109, 110, 111, 112, 113, 114, 115, 116, 117, 118, 119, 120, 121, 122])))
def p__law_plain_2 : SM :=
    (sSet 2 (eCall q__law_mixed (aCons (eVar 0) (aCons (eC (.int 3)) aNil))))
def p__law_plain_3 : SM :=
    (sSet 3 (eCompK (kJoin []) 1 (iRange1 (eOp opAdd (eC (.int 1)) (eOp opMod (eVar 2) (eC (.int 8))))) (gName 4) tYes (eOp opIx (eVar 1) (eOp opMod (eOp opDiv (eCall q__law_mixed (aCons (eVar 0) (aCons (eVar 4) aNil))) (eC (.int 7))) (eC (.int 26))))))
def p__law_plain_4 : SM :=
    (sIf (tCmp cEq (eOp opMod (eOp opDiv (eVar 2) (eC (.int 8))) (eC (.int 6))) (eC (.int 1)))
    (sSet 3 (eOp opIx (eCall q__law_kept aNil) (eOp opMod (eOp opDiv (eVar 2) (eC (.int 48))) (eC (.int 16)))))
    sNil)
def p__law_plain_5 : SM :=
    (sIf (tCmp cIn (eVar 3) (eCall q__law_kept aNil))
    (sRet (eOp opAdd (eVar 3) (eC (.str [120]))))
    sNil)
def p__law_plain_6 : SM :=
    (sRet (eVar 3))
def b__law_plain : SM := (sSeq p__law_plain_1 (sSeq p__law_plain_2 (sSeq p__law_plain_3 (sSeq p__law_plain_4 (sSeq p__law_plain_5 p__law_plain_6)))))
def m__law_plain : F := fn 4 b__law_plain
def chV (m : F) (P : List D → D → Prop) : F := fun ds s => @dite (R D) (∃ d, P ds d ∧ ∀ S, ∃ g, m ds S = .ok d (S ++ g)) (Classical.propDecidable _) (fun h => .ok h.choose s) (fun _ => .no)
theorem chV_rf {n : Nat} {m : F} {P : List D → D → Prop} (hc : ∀ ds d k, P ds d → D.cl k d = true) : Refines n m (chV m P) := Refines.pure fun ds S hl c ca => by
  unfold chV
  by_cases h : ∃ d, P ds d ∧ ∀ S, ∃ g, m ds S = .ok d (S ++ g)
  · obtain ⟨g, e⟩ := h.choose_spec.2 S
    exact .inr ⟨h.choose, g, by rw [dif_pos h], e, hc _ _ _ h.choose_spec.1⟩
  · exact .inl (by rw [dif_neg h])
theorem chV_ok {m : F} {P : List D → D → Prop} {ds : List D} (h : ∃ d, P ds d ∧ ∀ S, ∃ g, m ds S = .ok d (S ++ g)) : ∃ d, P ds d ∧ ∀ s, chV m P ds s = .ok d s :=
  ⟨h.choose, h.choose_spec.1, fun s => by unfold chV; rw [dif_pos h]⟩
def letters26 : T := [97, 98, 99, 100, 101, 102, 103, 104, 105, 106, 107, 108, 109, 110, 111, 112, 113, 114, 115, 116, 117, 118, 119, 120, 121, 122]
def rowSign (x : T) : Bool := (!decide (x < [32]) && !decide ([36] < x)) || (!decide (x < [38]) && !decide ([126] < x))
def textSign (c : Nat) : Bool := decide (c = 10) || rowSign [c]
def isText (x : T) : Bool := decide (x.length ≤ 900) && x.all textSign
def nameT (x : T) : Bool := decide ((splitT 46 x).length ≤ 2) && (splitT 46 x).all plainT
theorem letter_of {c : Nat} (h : 97 ≤ c) (k : c ≤ 122) : letterT [c] = true := by
  unfold letterT
  simp [List.cons_lt_cons_iff]
  omega
theorem of_letter {c : Nat} (h : letterT [c] = true) : 97 ≤ c ∧ c ≤ 122 := by
  unfold letterT at h
  simp [List.cons_lt_cons_iff] at h
  omega
def ShortT (d : D) : Prop := ∃ t : T, d = .str t ∧ plainT t = true
def q__law_plain : F := chV m__law_plain fun _ d => ShortT d
theorem short_cl {d : D} (h : ShortT d) (k : Nat) : D.cl k d = true := by obtain ⟨t, rfl, _⟩ := h; rfl
theorem rf__law_plain : Refines 1 m__law_plain q__law_plain := chV_rf fun _ _ k h => short_cl h k
def pl0 (c : Int) : T := (List.range (1 + mixed c 3 % 8).toNat).map fun (j : Nat) => letters26.getD (mixed c j / 7 % 26).toNat 97
theorem pl_join (c : Int) (v : Option D) (S : M.S) (r : SM) : (p__law_plain_3 [some (.int c), some (.str letters26), some (.int (mixed c 3)), v] S).then r = r [some (.int c), some (.str letters26), some (.int (mixed c 3)), some (.str (pl0 c))] S := by
  have hm := mixed_nonneg c 3
  have hn : 0 ≤ mixed c 3 % 8 ∧ mixed c 3 % 8 < 8 := ⟨Int.emod_nonneg _ (by decide), Int.emod_lt_of_pos _ (by decide)⟩
  have ha : (1 + mixed c 3 % 8).natAbs < 4611686018427387904 := by omega
  have hl : ((1 + mixed c 3 % 8) - 0).toNat ≤ SZ := by unfold SZ; omega
  have h26 : letters26.length ≤ SZ := by decide
  have hc := comp_range (n := 1) (it := iRange1 (eOp opAdd (eC (.int 1)) (eOp opMod (eVar 2) (eC (.int 8))))) (tg := gName 4) (e := eOp opIx (eVar 1) (eOp opMod (eOp opDiv (eCall q__law_mixed (aCons (eVar 0) (aCons (eVar 4) aNil))) (eC (.int 7))) (eC (.int 26)))) (σ := [some (.int c), some (.str letters26), some (.int (mixed c 3)), v]) (s := S) (lo := 0) (hi := 1 + mixed c 3 % 8) (fun (j : Nat) => .str [letters26.getD (mixed c j / 7 % 26).toNat 97]) (by simp [ha]) hl fun j hj => by
    have a := Int.emod_nonneg (mixed c j / 7) (show (26 : Int) ≠ 0 by decide)
    have b := Int.emod_lt_of_pos (mixed c j / 7) (show (0 : Int) < 26 by decide)
    have ea := atI_pos (xs := letters26) a (by show _ < ((26 : Nat) : Int); exact b) 97
    simp [q__law_mixed, h26, ea]
  have hj := join_ones (fun (j : Nat) => letters26.getD (mixed c j / 7 % 26).toNat 97) (List.range ((1 + mixed c 3 % 8) - 0).toNat) S (by rw [List.length_range]; exact hl)
  rw [Int.sub_zero] at hc hj
  simp [-List.getD_eq_getElem?_getD, p__law_plain_3, hc, hj, pl0]
theorem in_lst {s : M.S} {p : Nat} {ts : List T} (e : s[p]? = some (.lst (ts.map .str))) (x : T) : inD (.str x) (.ref p) s = .ok (ts.contains x) s := by
  simp only [inD, e]
  rw [if_pos (by rw [flat_strs]; rfl), mem_strs]
def pl1 (c : Int) : T := if mixed c 3 / 8 % 6 = 1 then keptT.getD (mixed c 3 / 48 % 16).toNat [] else pl0 c
theorem kept_len : ∀ n : Nat, (keptT.getD n []).length ≤ 19 := fun n => by
  by_cases h : n < 16
  · have : ∀ n : Nat, n < 16 → (keptT.getD n []).length ≤ 19 := by decide
    exact this n h
  · rw [List.getD_eq_getElem?_getD, List.getElem?_eq_none (by show 16 ≤ n; omega)]; decide
theorem pl1_len (c : Int) : (pl1 c).length ≤ 19 := by
  unfold pl1
  split
  · exact kept_len _
  · have hn : 0 ≤ mixed c 3 % 8 ∧ mixed c 3 % 8 < 8 := ⟨Int.emod_nonneg _ (by decide), Int.emod_lt_of_pos _ (by decide)⟩
    simp [pl0]; omega
theorem pl_4 (c : Int) (S : M.S) : ∃ g, ∀ r : SM, (p__law_plain_4 [some (.int c), some (.str letters26), some (.int (mixed c 3)), some (.str (pl0 c))] S).then r = r [some (.int c), some (.str letters26), some (.int (mixed c 3)), some (.str (pl1 c))] (S ++ g) := by
  have a := Int.emod_nonneg (mixed c 3 / 48) (show (16 : Int) ≠ 0 by decide)
  have b := Int.emod_lt_of_pos (mixed c 3 / 48) (show (0 : Int) < 16 by decide)
  have ea : atI (keptT.map D.str) (mixed c 3 / 48 % 16) = some (.str (keptT.getD (mixed c 3 / 48 % 16).toNat [])) := by
    rw [atI_pos a (by show _ < ((16 : Nat) : Int); exact b) (.str [])]
    rw [List.getD_eq_getElem?_getD, List.getElem?_map, List.getD_eq_getElem?_getD]
    cases keptT[(mixed c 3 / 48 % 16).toNat]? <;> rfl
  unfold pl1
  by_cases h : mixed c 3 / 8 % 6 = 1
  · exact ⟨[.lst (keptT.map .str)], fun r => by simp [p__law_plain_4, h, q__law_kept, ea]⟩
  · exact ⟨[], fun r => by simp [p__law_plain_4, h]⟩
theorem letters_ok : ∀ n : Nat, 97 ≤ letters26.getD n 97 ∧ letters26.getD n 97 ≤ 122 := fun n => by
  by_cases h : n < 26
  · have : ∀ n : Nat, n < 26 → 97 ≤ letters26.getD n 97 ∧ letters26.getD n 97 ≤ 122 := by decide
    exact this n h
  · rw [List.getD_eq_getElem?_getD, List.getElem?_eq_none (by show 26 ≤ n; omega)]; decide
theorem kept_x : ∀ w ∈ keptT, plainT (w ++ [120]) = true := by decide
theorem pl1_plain (c : Int) (hk : ¬ keptT.contains (pl1 c) = true) : plainT (pl1 c) = true := by
  unfold pl1 at hk ⊢
  split
  · rename_i h
    rw [if_pos h] at hk
    exfalso
    apply hk
    have hn : (mixed c 3 / 48 % 16).toNat < 16 := by omega
    have : ∀ n : Nat, n < 16 → keptT.contains (keptT.getD n []) = true := by decide
    exact this _ hn
  · rename_i h
    rw [if_neg h] at hk
    have hn : 0 ≤ mixed c 3 % 8 ∧ mixed c 3 % 8 < 8 := ⟨Int.emod_nonneg _ (by decide), Int.emod_lt_of_pos _ (by decide)⟩
    have hl : (pl0 c).length = (1 + mixed c 3 % 8).toNat := by simp [pl0]
    have ha : ((pl0 c).all fun c => letterT [c]) = true := List.all_eq_true.mpr fun d hd => by
      obtain ⟨j, _, rfl⟩ := List.mem_map.mp hd
      have := letters_ok (mixed c j / 7 % 26).toNat
      exact letter_of this.1 this.2
    unfold plainT
    rw [ha, hl, decide_eq_true (by omega), decide_eq_true (by omega)]
    simpa using hk
theorem plain_len {t : T} (h : plainT t = true) : 1 ≤ t.length ∧ t.length ≤ 8 := by
  unfold plainT at h
  simp only [Bool.and_eq_true, decide_eq_true_eq] at h
  exact ⟨h.1.1.1, h.1.1.2⟩
theorem plain_lets {t : T} (h : plainT t = true) : ∀ c ∈ t, 97 ≤ c ∧ c ≤ 122 := by
  unfold plainT at h
  simp only [Bool.and_eq_true] at h
  exact fun c hc => of_letter (List.all_eq_true.mp h.2 c hc)
theorem plain_run (c : Int) : ∃ d, ShortT d ∧ ∀ S, ∃ g, m__law_plain [.int c] S = .ok d (S ++ g) := by
  have hl := pl1_len c
  have z : (pl1 c).length + 1 ≤ SZ := by unfold SZ; omega
  by_cases hk : keptT.contains (pl1 c) = true
  · refine ⟨.str (pl1 c ++ [120]), ⟨_, rfl, kept_x _ (by simpa using hk)⟩, fun S => ?_⟩
    obtain ⟨g, e4⟩ := pl_4 c S
    refine ⟨g ++ [.lst (keptT.map .str)], ?_⟩
    show ((p__law_plain_1 [some (.int c), none, none, none] S).then (sSeq p__law_plain_2 (sSeq p__law_plain_3 (sSeq p__law_plain_4 (sSeq p__law_plain_5 p__law_plain_6))))).out = _
    have e12 : ∀ r : SM, (p__law_plain_1 [some (.int c), none, none, none] S).then (sSeq p__law_plain_2 r) = r [some (.int c), some (.str letters26), some (.int (mixed c 3)), none] S := fun r => by simp [p__law_plain_1, p__law_plain_2, q__law_mixed, letters26]
    rw [e12]
    show ((p__law_plain_3 _ _).then _).out = _
    rw [pl_join]
    show ((p__law_plain_4 _ _).then _).out = _
    rw [e4]
    have i1 := in_lst (s := S ++ g ++ [.lst (keptT.map .str)]) (p := (S ++ g).length) (ts := keptT) (by simp) (pl1 c)
    rw [List.append_assoc, List.length_append] at i1
    simp [-inD, -List.contains_eq_mem, p__law_plain_5, q__law_kept, i1, hk, z]
  · refine ⟨.str (pl1 c), ⟨_, rfl, pl1_plain c hk⟩, fun S => ?_⟩
    obtain ⟨g, e4⟩ := pl_4 c S
    refine ⟨g ++ [.lst (keptT.map .str)], ?_⟩
    show ((p__law_plain_1 [some (.int c), none, none, none] S).then (sSeq p__law_plain_2 (sSeq p__law_plain_3 (sSeq p__law_plain_4 (sSeq p__law_plain_5 p__law_plain_6))))).out = _
    have e12 : ∀ r : SM, (p__law_plain_1 [some (.int c), none, none, none] S).then (sSeq p__law_plain_2 r) = r [some (.int c), some (.str letters26), some (.int (mixed c 3)), none] S := fun r => by simp [p__law_plain_1, p__law_plain_2, q__law_mixed, letters26]
    rw [e12]
    show ((p__law_plain_3 _ _).then _).out = _
    rw [pl_join]
    show ((p__law_plain_4 _ _).then _).out = _
    rw [e4]
    have i1 := in_lst (s := S ++ g ++ [.lst (keptT.map .str)]) (p := (S ++ g).length) (ts := keptT) (by simp) (pl1 c)
    rw [List.append_assoc, List.length_append] at i1
    simp [-inD, -List.contains_eq_mem, p__law_plain_5, p__law_plain_6, q__law_kept, i1, hk]
theorem plain_ok (c : Int) : ∃ t : T, plainT t = true ∧ ∀ s, q__law_plain [.int c] s = .ok (.str t) s := by
  obtain ⟨d, ⟨t, rfl, h⟩, e⟩ := chV_ok (P := fun _ d => ShortT d) (plain_run c)
  exact ⟨t, h, e⟩
def b__law_name : SM :=
    (sSeq (sIf (tCmp cEq (eOp opMod (eCall q__law_mixed (aCons (eVar 0) (aCons (eC (.int 5)) aNil))) (eC (.int 3))) (eC (.int 1)))
    (sRet (eOp opAdd (eOp opAdd (eCall q__law_plain (aCons (eVar 0) aNil)) (eC (.str [46]))) (eCall q__law_plain (aCons (eCall q__law_mixed (aCons (eVar 0) (aCons (eC (.int 6)) aNil))) aNil))))
    sNil)
    (sRet (eCall q__law_plain (aCons (eVar 0) aNil))))
def m__law_name : F := fn 1 b__law_name
theorem split_no {t : T} (h : 46 ∉ t) : splitT 46 t = [t] := by
  induction t with
  | nil => rfl
  | cons d r ih =>
    rw [List.mem_cons, not_or] at h
    unfold splitT
    rw [if_neg (fun e => h.1 e.symm), ih h.2]
theorem split_dot {t u : T} (h : 46 ∉ t) : splitT 46 (t ++ 46 :: u) = t :: splitT 46 u := by
  induction t with
  | nil => simp [splitT]
  | cons d r ih =>
    rw [List.mem_cons, not_or] at h
    rw [List.cons_append]
    conv => lhs; unfold splitT
    rw [if_neg (fun e => h.1 e.symm), ih h.2]
theorem plain_nodot {t : T} (h : plainT t = true) : 46 ∉ t := fun m => by have := plain_lets h 46 m; omega
theorem name_plain {t : T} (h : plainT t = true) : nameT t = true := by
  unfold nameT
  rw [split_no (plain_nodot h)]
  simp [h]
theorem name_dot {t u : T} (h : plainT t = true) (k : plainT u = true) : nameT (t ++ [46] ++ u) = true := by
  unfold nameT
  rw [List.append_assoc]
  show (decide ((splitT 46 (t ++ 46 :: u)).length ≤ 2) && (splitT 46 (t ++ 46 :: u)).all plainT) = true
  rw [split_dot (plain_nodot h), split_no (plain_nodot k)]
  simp [h, k]
def NameT (d : D) : Prop := ∃ t : T, d = .str t ∧ nameT t = true ∧ t.length ≤ 41
def q__law_name : F := chV m__law_name fun _ d => NameT d
theorem name_cl {d : D} (h : NameT d) (k : Nat) : D.cl k d = true := by obtain ⟨t, rfl, _⟩ := h; rfl
theorem rf__law_name : Refines 1 m__law_name q__law_name := chV_rf fun _ _ k h => name_cl h k
theorem name_run (c : Int) : ∃ d, NameT d ∧ ∀ S, ∃ g, m__law_name [.int c] S = .ok d (S ++ g) := by
  obtain ⟨t, ht, e⟩ := plain_ok c
  obtain ⟨u, hu, e2⟩ := plain_ok (mixed c 6)
  have lt := plain_len ht
  have lu := plain_len hu
  by_cases h : mixed c 5 % 3 = 1
  · have z1 : t.length + 1 ≤ SZ := by unfold SZ; omega
    have z2 : t.length + (1 + u.length) ≤ SZ := by unfold SZ; omega
    have z3 : t.length + (u.length + 1) ≤ SZ := by unfold SZ; omega
    have z4 : t.length + 1 + u.length ≤ SZ := by unfold SZ; omega
    exact ⟨.str (t ++ [46] ++ u), ⟨_, rfl, name_dot ht hu, by simp; omega⟩, fun S => ⟨[], by simp [m__law_name, b__law_name, q__law_mixed, h, e, e2, z1, z2, z3, z4]⟩⟩
  · exact ⟨.str t, ⟨_, rfl, name_plain ht, by omega⟩, fun S => ⟨[], by simp [m__law_name, b__law_name, q__law_mixed, h, e]⟩⟩
theorem name_ok (c : Int) : ∃ t : T, nameT t = true ∧ t.length ≤ 41 ∧ ∀ s, q__law_name [.int c] s = .ok (.str t) s := by
  obtain ⟨d, ⟨t, rfl, h, hl⟩, e⟩ := chV_ok (P := fun _ d => NameT d) (name_run c)
  exact ⟨t, h, hl, e⟩
def p__law_leaf_1 : SM :=
    (sSet 2 (eCall q__law_mixed (aCons (eVar 0) (aCons (eC (.int 4)) aNil))))
def p__law_leaf_2 : SM :=
    (sIf (tCmp cEq (eOp opMod (eVar 2) (eC (.int 5))) (eC (.int 0)))
    (sSeq (sSet 3 (eCall q__law_signs aNil))
    (sSeq (sSet 4 (eOp opMod (eOp opDiv (eVar 2) (eC (.int 5))) (eC (.int 4))))
    (sSeq (sIf (tCmp cEq (eOp opMod (eOp opDiv (eVar 2) (eC (.int 20))) (eC (.int 7))) (eC (.int 1)))
    (sSet 4 (eOp opMod (eOp opDiv (eVar 2) (eC (.int 140))) (eC (.int 61))))
    sNil)
    (sSeq (sSet 5 (eComp 1 (iRange1 (eVar 4)) (gName 6) tYes (eOp opIx (eVar 3) (eOp opMod (eOp opAdd (eOp opDiv (eVar 2) (eC (.int 7))) (eOp opMul (eVar 6) (eOp opAdd (eC (.int 1)) (eOp opMod (eVar 2) (eC (.int 3)))))) (eC (.int 93))))))
    (sRet (eTup (aCons (eTup (aCons (eC (.str [116, 101, 120, 116])) (aCons (eM .str mJoin (eC (.str [])) (aCons (eVar 5) aNil)) aNil))) (aCons (eC (.int 1)) (aCons (eC (.int 1)) (aCons (eC (.bl false)) aNil))))))))))
    sNil)
def p__law_leaf_3 : SM :=
    (sIf (tCmp cEq (eOp opMod (eVar 2) (eC (.int 5))) (eC (.int 1)))
    (sRet (eTup (aCons (eTup (aCons (eC (.str [108, 105, 110, 101])) aNil)) (aCons (eC (.int 1)) (aCons (eC (.int 1)) (aCons (eC (.bl false)) aNil))))))
    sNil)
def p__law_leaf_4 : SM :=
    (sIf (tCmp cEq (eOp opMod (eVar 2) (eC (.int 5))) (eC (.int 2)))
    (sRet (eTup (aCons (eTup (aCons (eC (.str [105, 116])) aNil)) (aCons (eC (.int 1)) (aCons (eC (.int 1)) (aCons (eC (.bl true)) aNil))))))
    sNil)
def p__law_leaf_5 : SM :=
    (sIf (tAnd (tCmp cEq (eOp opMod (eVar 2) (eC (.int 5))) (eC (.int 3))) (tTru (eVar 1)))
    (sRet (eTup (aCons (eOp opIx (eLst (aCons (eTup (aCons (eC (.str [115, 116, 101, 109])) aNil)) (aCons (eTup (aCons (eC (.str [107, 105, 110])) (aCons (eCall q__law_plain (aCons (eOp opDiv (eVar 2) (eC (.int 5))) aNil)) aNil))) aNil))) (eOp opMod (eOp opDiv (eVar 2) (eC (.int 5))) (eC (.int 2)))) (aCons (eC (.int 1)) (aCons (eC (.int 1)) (aCons (eC (.bl false)) aNil))))))
    sNil)
def p__law_leaf_6 : SM :=
    (sRet (eTup (aCons (eTup (aCons (eC (.str [116, 104, 105, 110, 103])) (aCons (eCall q__law_name (aCons (eOp opDiv (eVar 2) (eC (.int 5))) aNil)) aNil))) (aCons (eC (.int 1)) (aCons (eC (.int 1)) (aCons (eC (.bl false)) aNil))))))
def b__law_leaf : SM := (sSeq p__law_leaf_1 (sSeq p__law_leaf_2 (sSeq p__law_leaf_3 (sSeq p__law_leaf_4 (sSeq p__law_leaf_5 p__law_leaf_6)))))
def m__law_leaf : F := fn 6 b__law_leaf
def innW : List T := [[106, 111, 105, 110], [111, 102], [105, 102], [101, 97, 99, 104], [98, 97, 99, 107], [102, 105, 114, 115, 116], [114, 101, 115, 116], [99, 111, 117, 110, 116], [115, 111, 114, 116, 101, 100], [102, 97, 105, 108]]
def inn : D → Bool
  | .str w => innW.contains w
  | _ => false
def shStr : D → Bool
  | .str t => decide (t.length ≤ 9000)
  | _ => false
def kidsT : List D → List D
  | [] => []
  | d :: ds => if inn d then ds else []
def kids : D → List D
  | .tup ds => kidsT ds
  | _ => []
mutual
def ht : D → Nat
  | .tup ds => htT ds
  | _ => 1
def htT : List D → Nat
  | [] => 1
  | d :: ds => if inn d then hts ds + 1 else 1
def hts : List D → Nat
  | [] => 0
  | d :: ds => max (ht d) (hts ds)
end
mutual
def sz : D → Nat
  | .tup ds => szT ds
  | _ => 1
def szT : List D → Nat
  | [] => 1
  | d :: ds => if inn d then szs ds + 1 else 1
def szs : List D → Nat
  | [] => 0
  | d :: ds => sz d + szs ds
end
mutual
def ok : D → Bool
  | .tup ds => okL ds
  | _ => false
def okL : List D → Bool
  | [] => false
  | d :: ds => shStr d && (if inn d then oks ds else ds.all shStr)
def oks : List D → Bool
  | [] => true
  | d :: ds => ok d && oks ds
end
theorem ht_kids (d : D) : ht d = hts (kids d) + 1 := by
  cases d with
  | tup ds =>
    cases ds with
    | nil => simp [ht, htT, kids, kidsT, hts]
    | cons d ds =>
      simp only [ht, htT, kids, kidsT]
      split <;> simp [hts]
  | _ => simp [ht, kids, hts]
theorem sz_kids (d : D) : sz d = szs (kids d) + 1 := by
  cases d with
  | tup ds =>
    cases ds with
    | nil => simp [sz, szT, kids, kidsT, szs]
    | cons d ds =>
      simp only [sz, szT, kids, kidsT]
      split <;> simp [szs]
  | _ => simp [sz, kids, szs]
theorem szs_app : ∀ a b : List D, szs (a ++ b) = szs a + szs b
  | [], b => by simp [szs]
  | d :: a, b => by simp only [List.cons_append, szs, szs_app a b]; omega
def lev (L : List D) : List D := L.flatMap kids
theorem lev_cons (d : D) (L : List D) : lev (d :: L) = kids d ++ lev L := by simp [lev]
theorem szs_lev : ∀ L : List D, szs L = L.length + szs (lev L)
  | [] => by simp [szs, lev]
  | d :: L => by
    have ih := szs_lev L
    rw [lev_cons, szs_app]
    simp only [szs, sz_kids d, List.length_cons]
    omega
theorem strs_cl (n : Nat) : ∀ ds : List D, ds.all shStr = true → D.cl.all n ds = true
  | [], _ => rfl
  | d :: ds, h => by
    rw [List.all_cons, Bool.and_eq_true] at h
    show (D.cl n d && D.cl.all n ds) = true
    rw [strs_cl n ds h.2]
    cases d with
    | str _ => rfl
    | _ => simp [shStr] at h
mutual
theorem ok_cl (n : Nat) : ∀ d : D, ok d = true → D.cl n d = true
  | .tup ds, h => okL_cl n ds (by simpa [ok] using h)
  | .non, h => by simp [ok] at h
  | .bl _, h => by simp [ok] at h
  | .int _, h => by simp [ok] at h
  | .str _, h => by simp [ok] at h
  | .ro _, h => by simp [ok] at h
  | .ref _, h => by simp [ok] at h
  | .ty _, h => by simp [ok] at h
theorem okL_cl (n : Nat) : ∀ ds : List D, okL ds = true → D.cl.all n ds = true
  | [], h => by simp [okL] at h
  | d :: ds, h => by
    simp only [okL, Bool.and_eq_true] at h
    have h1 : D.cl n d = true := by
      have := h.1
      cases d with
      | str _ => rfl
      | _ => simp [shStr] at this
    show (D.cl n d && D.cl.all n ds) = true
    rw [h1, Bool.true_and]
    by_cases hi : inn d = true
    · have := h.2; rw [if_pos hi] at this; exact oks_cl n ds this
    · have := h.2; rw [if_neg hi] at this; exact strs_cl n ds this
theorem oks_cl (n : Nat) : ∀ ds : List D, oks ds = true → D.cl.all n ds = true
  | [], _ => rfl
  | d :: ds, h => by
    simp only [oks, Bool.and_eq_true] at h
    show (D.cl n d && D.cl.all n ds) = true
    rw [ok_cl n d h.1, oks_cl n ds h.2]
    rfl
end
def wEach : T := [101, 97, 99, 104]
def PW : List (T × Int) := [([111, 102], 1), ([105, 102], 4), ([101, 97, 99, 104], 2), ([98, 97, 99, 107], 1), ([102, 105, 114, 115, 116], 1), ([114, 101, 115, 116], 1), ([99, 111, 117, 110, 116], 1), ([115, 111, 114, 116, 101, 100], 1), ([102, 97, 105, 108], 1)]
def quotB : D → Bool
  | .str t => isText t && !t.contains 34 && !t.contains 10
  | _ => false
def nameB : D → Bool
  | .str t => nameT t
  | _ => false
def plainB : D → Bool
  | .str t => plainT t
  | _ => false
def bareB (fam w : Bool) (k : T) : Bool := if k = [105, 116] then w else if k = [115, 116, 101, 109] then fam else decide (k = [108, 105, 110, 101])
def namedB (fam : Bool) (k : T) (x : D) : Bool := if k = [116, 101, 120, 116] then quotB x else if k = [116, 104, 105, 110, 103] then nameB x else decide (k = [107, 105, 110]) && fam && plainB x
def restB (fam w : Bool) (k : T) : List D → Bool
  | [] => bareB fam w k
  | [x] => namedB fam k x
  | _ => false
def partL (fam w : Bool) : List D → Bool
  | .str k :: ds => if k = [106, 111, 105, 110] then decide (2 ≤ ds.length) else match gAt k PW with
    | some n => decide ((ds.length : Int) = n)
    | none => restB fam w k ds
  | _ => false
mutual
def tOk (fam : Bool) : D → Bool → Bool
  | .tup ds, w => partL fam w ds && tOkL fam ds w
  | _, _ => false
def tOkL (fam : Bool) : List D → Bool → Bool
  | [], _ => true
  | d :: ds, w => if inn d then (if d = .str wEach then tOkE fam ds w else tOks fam ds w) else true
def tOkE (fam : Bool) : List D → Bool → Bool
  | [], _ => true
  | d :: ds, w => tOk fam d w && tOks fam ds true
def tOks (fam : Bool) : List D → Bool → Bool
  | [], _ => true
  | d :: ds, w => tOk fam d w && tOks fam ds w
end
mutual
def hasSK : D → Bool
  | .tup ds => hasL ds
  | _ => false
def hasL : List D → Bool
  | [] => false
  | d :: ds => if d = .str [115, 116, 101, 109] ∨ d = .str [107, 105, 110] then true else if d = .str [116, 101, 120, 116] ∨ d = .str [116, 104, 105, 110, 103] then false else hass ds
def hass : List D → Bool
  | [] => false
  | d :: ds => hasSK d || hass ds
end
structure Good (x : D × Bool) : Prop where
  yes : tOk true x.1 true = true
  fre : tOk true x.1 false = !x.2
  fam : ∀ w, tOk false x.1 w = (tOk true x.1 w && !hasSK x.1)
def Gx (B : Nat) (x : D × Bool) : Prop := ok x.1 = true ∧ sz x.1 ≤ B ∧ ht x.1 ≤ 12 ∧ Good x
def En (B : Nat) (d : D) : Prop := ∃ x : D × Bool, d = .tup [x.1, .int (ht x.1), .int (sz x.1), .bl x.2] ∧ Gx B x
theorem en_cl {B : Nat} {d : D} (h : En B d) (k : Nat) : D.cl k d = true := by
  obtain ⟨x, rfl, h1, _⟩ := h
  show (D.cl k x.1 && true) = true
  rw [ok_cl k x.1 h1]; rfl
theorem leaf_tok {fam w : Bool} {k : T} {ds : List D} (hk : innW.contains k = false) : tOk fam (.tup (.str k :: ds)) w = partL fam w (.str k :: ds) := by
  have i : inn (.str k) = false := hk
  simp [tOk, tOkL, i]
theorem en_leaf (k : T) (ds : List D) (f : Bool) (hw : innW.contains k = false) (hkl : k.length ≤ 9000) (hd : ds.all shStr = true) (h1 : partL true true (.str k :: ds) = true) (h2 : partL true false (.str k :: ds) = !f) (h3 : ∀ w, partL false w (.str k :: ds) = (partL true w (.str k :: ds) && !hasSK (.tup (.str k :: ds)))) : En 1 (.tup [.tup (.str k :: ds), .int 1, .int 1, .bl f]) := by
  have i : inn (.str k) = false := hw
  refine ⟨(.tup (.str k :: ds), f), by simp [ht, htT, sz, szT, i], by simp only [ok, okL, i, shStr, hd, decide_eq_true hkl]; rfl, by simp [sz, szT, i], by simp [ht, htT, i], ⟨?_, ?_, fun w => ?_⟩⟩
  · rw [leaf_tok hw]; exact h1
  · rw [leaf_tok hw]; exact h2
  · rw [leaf_tok hw, leaf_tok hw]; exact h3 w
theorem Gx.mono {A B : Nat} {x : D × Bool} (h : Gx A x) (k : A ≤ B) : Gx B x := ⟨h.1, Nat.le_trans h.2.1 k, h.2.2⟩
def q__law_leaf : F := chV m__law_leaf fun _ d => En 1 d
theorem rf__law_leaf : Refines 2 m__law_leaf q__law_leaf := chV_rf fun _ _ k h => en_cl h k
def leafN (l : Int) : Int := if l / 20 % 7 = 1 then l / 140 % 61 else l / 5 % 4
def leafX (l : Int) : T := (List.range (leafN l).toNat).map fun (j : Nat) => signs93.getD ((l / 7 + j * (1 + l % 3)) % 93).toNat 32
theorem leafN_ok (l : Int) : 0 ≤ leafN l ∧ leafN l ≤ 61 := by
  unfold leafN
  split <;> omega
theorem signs_len : signs93.length = 93 := by decide
theorem signs_txt : ∀ c ∈ signs93, textSign c = true ∧ c ≠ 34 ∧ c ≠ 10 := by decide
theorem signs_get (n : Nat) : signs93.getD n 32 ∈ signs93 := by
  by_cases h : n < 93
  · rw [List.getD_eq_getElem?_getD, List.getElem?_eq_getElem (by rw [signs_len]; exact h)]; exact List.getElem_mem _
  · rw [List.getD_eq_getElem?_getD, List.getElem?_eq_none (by rw [signs_len]; omega)]; decide
theorem leafX_quot (l : Int) : quotB (.str (leafX l)) = true := by
  have hn := leafN_ok l
  have hm : ∀ c ∈ leafX l, textSign c = true ∧ c ≠ 34 ∧ c ≠ 10 := fun c hc => by
    obtain ⟨j, _, rfl⟩ := List.mem_map.mp hc
    exact signs_txt _ (signs_get _)
  have hl : (leafX l).length ≤ 900 := by simp [leafX]; omega
  have h1 : (leafX l).all textSign = true := List.all_eq_true.mpr fun c hc => (hm c hc).1
  have h2 : (leafX l).contains 34 = false := by simp; exact fun hc => (hm 34 hc).2.1 rfl
  have h3 : (leafX l).contains 10 = false := by simp; exact fun hc => (hm 10 hc).2.2 rfl
  show (isText (leafX l) && !(leafX l).contains 34 && !(leafX l).contains 10) = true
  unfold isText
  rw [h1, h2, h3, decide_eq_true hl]
  rfl
theorem leaf_run (c : Int) (f : Bool) : ∃ d, En 1 d ∧ ∀ S, ∃ g, m__law_leaf [.int c, .bl f] S = .ok d (S ++ g) := by
  have hl := mixed_nonneg c 4
  have e1 : ∀ (S : M.S) (r : SM), (p__law_leaf_1 [some (.int c), some (.bl f), none, none, none, none] S).then r = r [some (.int c), some (.bl f), some (.int (mixed c 4)), none, none, none] S := fun S r => by simp [p__law_leaf_1, q__law_mixed]
  have z1 : (1 : Nat) ≤ SZ := by decide
  have z2 : (2 : Nat) ≤ SZ := by decide
  have z4 : (4 : Nat) ≤ SZ := by decide
  obtain ⟨pt, hpt, ept⟩ := plain_ok (mixed c 4 / 5)
  obtain ⟨nt, hnt, hnl, ent⟩ := name_ok (mixed c 4 / 5)
  suffices h : ∃ d, En 1 d ∧ ∀ S, ∃ g, (sSeq p__law_leaf_2 (sSeq p__law_leaf_3 (sSeq p__law_leaf_4 (sSeq p__law_leaf_5 p__law_leaf_6))) [some (.int c), some (.bl f), some (.int (mixed c 4)), none, none, none] S).out = .ok d (S ++ g) by
    obtain ⟨d, hd, h⟩ := h
    refine ⟨d, hd, fun S => ?_⟩
    obtain ⟨g, e⟩ := h S
    refine ⟨g, ?_⟩
    show ((p__law_leaf_1 [some (.int c), some (.bl f), none, none, none, none] S).then (sSeq p__law_leaf_2 (sSeq p__law_leaf_3 (sSeq p__law_leaf_4 (sSeq p__law_leaf_5 p__law_leaf_6))))).out = _
    rw [e1]
    exact e
  generalize mixed c 4 = l at *
  by_cases c0 : l % 5 = 0
  · obtain ⟨n1, n2⟩ := leafN_ok l
    have s3 : small (1 + l % 3) = true := decide_eq_true (by omega)
    have z93 : signs93.length ≤ SZ := by decide
    refine ⟨_, en_leaf [116, 101, 120, 116] [.str (leafX l)] false (by decide) (by decide) (by simp [shStr, leafX]; omega) (leafX_quot l) (leafX_quot l) (fun w => by show quotB (.str (leafX l)) = (quotB (.str (leafX l)) && true); rw [Bool.and_true]), fun S => ⟨[.lst ((List.range (leafN l).toNat).map fun (j : Nat) => .str [signs93.getD ((l / 7 + j * (1 + l % 3)) % 93).toNat 32])], ?_⟩⟩
    have hc := comp_range (n := 1) (it := iRange1 (eVar 4)) (tg := gName 6) (e := eOp opIx (eVar 3) (eOp opMod (eOp opAdd (eOp opDiv (eVar 2) (eC (.int 7))) (eOp opMul (eVar 6) (eOp opAdd (eC (.int 1)) (eOp opMod (eVar 2) (eC (.int 3)))))) (eC (.int 93)))) (σ := [some (.int c), some (.bl f), some (.int l), some (.str signs93), some (.int (leafN l)), none]) (s := S) (lo := 0) (hi := leafN l) (fun (j : Nat) => .str [signs93.getD ((l / 7 + j * (1 + l % 3)) % 93).toNat 32]) (by simp; omega) (by unfold SZ; omega) fun j hj => by
      have a := Int.emod_nonneg (l / 7 + j * (1 + l % 3)) (show (93 : Int) ≠ 0 by decide)
      have b := Int.emod_lt_of_pos (l / 7 + j * (1 + l % 3)) (show (0 : Int) < 93 by decide)
      have ea := atI_pos (xs := signs93) a (by rw [signs_len]; exact b) 32
      simp [-List.getD_eq_getElem?_getD, s3, z93, ea]
    have hj := join_ones (fun (j : Nat) => signs93.getD ((l / 7 + j * (1 + l % 3)) % 93).toNat 32) (List.range (leafN l).toNat) (S ++ [.lst ((List.range (leafN l).toNat).map fun (j : Nat) => .str [signs93.getD ((l / 7 + j * (1 + l % 3)) % 93).toNat 32])]) (by rw [List.length_range]; unfold SZ; omega)
    rw [Int.sub_zero] at hc
    by_cases c1 : l / 20 % 7 = 1
    · have en : leafN l = l / 140 % 61 := by unfold leafN; rw [if_pos c1]
      rw [en] at hc hj ⊢
      simp [-List.getD_eq_getElem?_getD, p__law_leaf_2, c0, q__law_signs, c1, hc, hj, z1, z2, z4, leafX, en]
    · have en : leafN l = l / 5 % 4 := by unfold leafN; rw [if_neg c1]
      rw [en] at hc hj ⊢
      simp [-List.getD_eq_getElem?_getD, p__law_leaf_2, c0, q__law_signs, c1, hc, hj, z1, z2, z4, leafX, en]
  by_cases c1 : l % 5 = 1
  · exact ⟨_, en_leaf [108, 105, 110, 101] [] false (by decide) (by decide) rfl rfl rfl (fun w => rfl), fun S => ⟨[], by simp [p__law_leaf_2, p__law_leaf_3, c1, z1, z4]⟩⟩
  by_cases c2 : l % 5 = 2
  · exact ⟨_, en_leaf [105, 116] [] true (by decide) (by decide) rfl rfl rfl (fun w => by cases w <;> rfl), fun S => ⟨[], by simp [p__law_leaf_2, p__law_leaf_3, p__law_leaf_4, c2, z1, z4]⟩⟩
  by_cases c3 : l % 5 = 3 ∧ f = true
  · obtain ⟨c3, rfl⟩ := c3
    have hm : l / 5 % 2 = 0 ∨ l / 5 % 2 = 1 := by omega
    have a0 : ∀ x y : D, atI [x, y] 0 = some x := fun _ _ => rfl
    have a1 : ∀ x y : D, atI [x, y] 1 = some y := fun _ _ => rfl
    rcases hm with hm | hm
    · exact ⟨_, en_leaf [115, 116, 101, 109] [] false (by decide) (by decide) rfl rfl rfl (fun w => by cases w <;> rfl), fun S => ⟨[.lst [.tup [.str [115, 116, 101, 109]], .tup [.str [107, 105, 110], .str pt]]], by simp [p__law_leaf_2, p__law_leaf_3, p__law_leaf_4, p__law_leaf_5, c3, z1, z2, z4, ept, hm, a0]⟩⟩
    · exact ⟨_, en_leaf [107, 105, 110] [.str pt] false (by decide) (by decide) (by have := plain_len hpt; simp [shStr]; omega) hpt hpt (fun w => by show false = (plainT pt && false); rw [Bool.and_false]), fun S => ⟨[.lst [.tup [.str [115, 116, 101, 109]], .tup [.str [107, 105, 110], .str pt]]], by simp [p__law_leaf_2, p__law_leaf_3, p__law_leaf_4, p__law_leaf_5, c3, z1, z2, z4, ept, hm, a1]⟩⟩
  · refine ⟨_, en_leaf [116, 104, 105, 110, 103] [.str nt] false (by decide) (by decide) (by simp [shStr]; omega) hnt hnt (fun w => by show nameT nt = (nameT nt && true); rw [Bool.and_true]), fun S => ⟨[], ?_⟩⟩
    by_cases c4 : l % 5 = 3
    · have hf : f = false := by cases f with | false => rfl | true => exact absurd ⟨c4, rfl⟩ c3
      subst hf
      simp [p__law_leaf_2, p__law_leaf_3, p__law_leaf_4, p__law_leaf_5, p__law_leaf_6, c4, z1, z2, z4, ent]
    · simp [p__law_leaf_2, p__law_leaf_3, p__law_leaf_4, p__law_leaf_5, p__law_leaf_6, c0, c1, c2, c4, z1, z2, z4, ent]
theorem leaf_ok (c : Int) (f : Bool) : ∃ d, En 1 d ∧ ∀ s, q__law_leaf [.int c, .bl f] s = .ok d s := chV_ok (P := fun _ d => En 1 d) (leaf_run c f)
def p__law_above_1 : SM :=
    (sSet 2 (eOp opAdd (eC (.int 1)) (eCall fMax1 (aCons (eComp 1 (iE (eVar 1)) (gName 5) tYes (eOp opIx (eVar 5) (eC (.int 1)))) aNil))))
def p__law_above_2 : SM :=
    (sSet 3 (eOp opAdd (eC (.int 1)) (eCall fSum (aCons (eComp 1 (iE (eVar 1)) (gName 5) tYes (eOp opIx (eVar 5) (eC (.int 2)))) aNil))))
def p__law_above_3 : SM :=
    (sSet 4 (eCompK kAny 1 (iE (eVar 1)) (gName 5) tYes (eOp opIx (eVar 5) (eC (.int 3)))))
def p__law_above_4 : SM :=
    (sIf (tCmp cEq (eVar 0) (eC (.str [101, 97, 99, 104])))
    (sSet 4 (eOp opIx (eOp opIx (eVar 1) (eC (.int 0))) (eC (.int 3))))
    sNil)
def p__law_above_5 : SM :=
    (sRet (eTup (aCons (eCall fTuple (aCons (eOp opAdd (eLst (aCons (eVar 0) aNil)) (eComp 1 (iE (eVar 1)) (gName 5) tYes (eOp opIx (eVar 5) (eC (.int 0))))) aNil)) (aCons (eVar 2) (aCons (eVar 3) (aCons (eVar 4) aNil))))))
def b__law_above : SM := (sSeq p__law_above_1 (sSeq p__law_above_2 (sSeq p__law_above_3 (sSeq p__law_above_4 p__law_above_5))))
def m__law_above : F := fn 5 b__law_above
def enD (x : D × Bool) : D := .tup [x.1, .int (ht x.1), .int (sz x.1), .bl x.2]
def unEn : D → D × Bool
  | .tup [t, _, _, .bl f] => (t, f)
  | _ => (.non, false)
theorem un_en (x : D × Bool) : unEn (enD x) = x := rfl
theorem un_ens (xs : List (D × Bool)) : (xs.map enD).map unEn = xs := by
  rw [List.map_map]
  exact (List.map_congr_left fun x _ => un_en x).trans (List.map_id xs)
theorem en_iff {B : Nat} {d : D} : En B d ↔ ∃ x, d = enD x ∧ Gx B x := Iff.rfl
theorem enD_cl {x : D × Bool} (h : ok x.1 = true) (k : Nat) : D.cl k (enD x) = true := by
  show (D.cl k x.1 && true) = true
  rw [ok_cl k x.1 h]; rfl
def freeW (w : T) (xs : List (D × Bool)) : Bool := if w = [101, 97, 99, 104] then (xs.headD (.non, false)).2 else xs.any (·.2)
def aboveX (w : T) (xs : List (D × Bool)) : D × Bool := (.tup (.str w :: xs.map (·.1)), freeW w xs)
theorem above_ht (w : T) (xs : List (D × Bool)) (hw : innW.contains w = true) : ht (aboveX w xs).1 = hts (xs.map (·.1)) + 1 := by
  have i : inn (.str w) = true := hw
  simp [aboveX, ht, htT, i]
theorem above_sz (w : T) (xs : List (D × Bool)) (hw : innW.contains w = true) : sz (aboveX w xs).1 = szs (xs.map (·.1)) + 1 := by
  have i : inn (.str w) = true := hw
  simp [aboveX, sz, szT, i]
theorem above_ok (w : T) (xs : List (D × Bool)) (hw : innW.contains w = true) (h : oks (xs.map (·.1)) = true) : ok (aboveX w xs).1 = true := by
  have i : inn (.str w) = true := hw
  have hl : w.length ≤ 9000 := by
    have : ∀ k ∈ innW, k.length ≤ 9000 := by decide
    exact this w (by simpa using hw)
  simp only [aboveX, ok, okL, i, shStr, decide_eq_true hl, Bool.true_and, if_true]
  exact h
def abOk (w : T) (es : List D) : Prop := es = (es.map unEn).map enD ∧ es ≠ [] ∧ es.length ≤ 1000 ∧ oks ((es.map unEn).map (·.1)) = true ∧ innW.contains w = true
instance (w : T) (es : List D) : Decidable (abOk w es) := by unfold abOk; infer_instance
def q__law_above : F
  | [.str w, .ref p], s => match s[p]? with
    | some (.lst es) => if abOk w es then .ok (enD (aboveX w (es.map unEn))) s else .no
    | _ => .no
  | _, _ => .no
theorem ints_mapf {α : Type} (f : α → Int) : ∀ xs : List α, intsD (xs.map fun x => .int (f x)) = some (xs.map f)
  | [] => rfl
  | x :: xs => by show (intsD (xs.map fun x => .int (f x))).map _ = _; rw [ints_mapf f xs]; rfl
theorem fold_ht : ∀ (xs : List (D × Bool)) (b : Nat), (xs.map fun x => (ht x.1 : Int)).foldl (fun b y => if b < y then y else b) (b : Int) = ((max b (hts (xs.map (·.1))) : Nat) : Int)
  | [], b => by simp [hts]
  | x :: xs, b => by
    simp only [List.map_cons, List.foldl_cons, hts]
    by_cases h : (b : Int) < (ht x.1 : Int)
    · rw [if_pos h, fold_ht xs (ht x.1)]; congr 1; omega
    · rw [if_neg h, fold_ht xs b]; congr 1; omega
theorem max_ht (xs : List (D × Bool)) (hx : xs ≠ []) (s : M.S) : kMax (xs.map fun x => .int (ht x.1)) s = .ok (.int (hts (xs.map (·.1)) : Nat)) s := by
  cases xs with
  | nil => exact absurd rfl hx
  | cons x xs =>
    have e : texts ((x :: xs).map fun x => D.int (ht x.1)) = none := rfl
    have e2 := ints_mapf (fun x : D × Bool => (ht x.1 : Int)) (x :: xs)
    unfold kMax
    rw [e]
    show kMaxI _ _ = _
    unfold kMaxI
    rw [e2]
    show (match some ((xs.map fun x => (ht x.1 : Int)).foldl (fun b y => if b < y then y else b) (ht x.1 : Int)) with | some y => R.ok (D.int y) s | none => .no) = _
    rw [fold_ht]
    rfl
theorem sum_sz : ∀ xs : List (D × Bool), (xs.map fun x => (sz x.1 : Int)).sum = ((szs (xs.map (·.1)) : Nat) : Int)
  | [] => by simp [szs]
  | x :: xs => by
    simp only [List.map_cons, List.sum_cons, szs, sum_sz xs]
    omega
theorem sum_szs (xs : List (D × Bool)) (s : M.S) : kSum (xs.map fun x => .int (sz x.1)) s = .ok (.int (szs (xs.map (·.1)) : Nat)) s := by
  have e2 := ints_mapf (fun x : D × Bool => (sz x.1 : Int)) xs
  unfold kSum
  rw [e2]
  show R.ok (D.int _) s = _
  rw [sum_sz]
theorem pick {i n : Nat} {k : Int} (h : D × Bool → D) (hk : ∀ x : D × Bool, atI [x.1, D.int (ht x.1), D.int (sz x.1), D.bl x.2] k = some (h x)) {σ : St} {p : Nat} {xs : List (D × Bool)} {s : M.S} (hz : xs.length ≤ 1000) (hσ : σ[i]? = some (some (.ref p))) (hn : σ.length = n) (e : s[p]? = some (.lst (xs.map enD))) :
    compE 1 (iE (eVar i)) (gName n) tYes (eOp opIx (eVar n) (eC (.int k))) σ s = .ok (xs.map h) s := by
  have := comp_mapS (n := 1) (it := iE (eVar i)) (tg := gName n) (e := eOp opIx (eVar n) (eC (.int k))) (σ := σ) (s := s) (s1 := s) (xs := xs.map enD) (g := [(p, .lst (xs.map enD))]) (fun d => h (unEn d)) (by simp [hσ, e]) (by rw [List.length_map]; unfold SZ; omega) (by simp [gdOk, e]) fun d hd => by
    obtain ⟨x, _, rfl⟩ := List.mem_map.mp hd
    have h2 := hk x
    rw [un_en]
    simp [enD, h2, hn]
  rw [this, List.map_map]
  congr 1
abbrev abS (w : T) (p : Nat) (a b c : Option D) : St := [some (.str w), some (.ref p), a, b, c]
theorem ab_1 {w : T} {p : Nat} {xs : List (D × Bool)} {S : M.S} (hx : xs ≠ []) (hz : xs.length ≤ 1000) (e : S[p]? = some (.lst (xs.map enD))) (r : SM) : (p__law_above_1 (abS w p none none none) S).then r = r (abS w p (some (.int (1 + (hts (xs.map (·.1)) : Nat)))) none none) (S ++ [.lst (xs.map fun x => .int (ht x.1))]) := by
  have hc := pick (i := 1) (n := 5) (k := 1) (σ := abS w p none none none) (fun x => .int (ht x.1)) (fun x => rfl) hz rfl rfl e
  have hm := max_ht xs hx (S ++ [.lst (xs.map fun x => .int (ht x.1))])
  simp [p__law_above_1, hc, hm]
theorem ab_2 {w : T} {p : Nat} {xs : List (D × Bool)} {S : M.S} {a : Option D} (hz : xs.length ≤ 1000) (e : S[p]? = some (.lst (xs.map enD))) (r : SM) : (p__law_above_2 (abS w p a none none) S).then r = r (abS w p a (some (.int (1 + (szs (xs.map (·.1)) : Nat)))) none) (S ++ [.lst (xs.map fun x => .int (sz x.1))]) := by
  have hc := pick (i := 1) (n := 5) (k := 2) (σ := abS w p a none none) (fun x => .int (sz x.1)) (fun x => rfl) hz rfl rfl e
  have hm := sum_szs xs (S ++ [.lst (xs.map fun x => .int (sz x.1))])
  simp [p__law_above_2, hc, hm]
theorem ab_34 {w : T} {p : Nat} {xs : List (D × Bool)} {S : M.S} {a b : Option D} (hx : xs ≠ []) (hz : xs.length ≤ 1000) (e : S[p]? = some (.lst (xs.map enD))) (r : SM) : sSeq p__law_above_3 (sSeq p__law_above_4 r) (abS w p a b none) S = r (abS w p a b (some (.bl (freeW w xs)))) S := by
  have hc := pick (i := 1) (n := 5) (k := 3) (σ := abS w p a b none) (fun x => .bl x.2) (fun x => rfl) hz rfl rfl e
  have hm := any_map (fun x : D × Bool => x.2) xs S
  have e3 : ∀ r : SM, (p__law_above_3 (abS w p a b none) S).then r = r (abS w p a b (some (.bl (xs.any (·.2))))) S := fun r => by
    simp [p__law_above_3, hc, hm]
  show (p__law_above_3 (abS w p a b none) S).then _ = _
  rw [e3]
  show (p__law_above_4 (abS w p a b (some (.bl (xs.any (·.2))))) S).then r = _
  cases xs with
  | nil => exact absurd rfl hx
  | cons x xs =>
    unfold freeW
    have i0 : ∀ (a : D) (l : List D), atI (a :: l) 0 = some a := fun a l => by
      unfold atI ixN
      have : (0 : Int) < ((a :: l).length : Int) := by rw [List.length_cons]; omega
      rw [if_pos (by decide), if_pos this]; rfl
    have i3 : atI [x.1, D.int (ht x.1), D.int (sz x.1), D.bl x.2] 3 = some (D.bl x.2) := rfl
    by_cases hw : w = [101, 97, 99, 104]
    · simp [p__law_above_4, hw, e, i0, enD, i3]
    · simp [p__law_above_4, hw]
theorem ab_5 {w : T} {p : Nat} {xs : List (D × Bool)} {S : M.S} {a b c : D} (hz : xs.length ≤ 1000) (e : S[p]? = some (.lst (xs.map enD))) : (p__law_above_5 (abS w p (some a) (some b) (some c)) S).out = .ok (.tup [.tup (.str w :: xs.map (·.1)), a, b, c]) (S ++ [.lst [.str w], .lst (xs.map (·.1)), .lst (.str w :: xs.map (·.1))]) := by
  have e' := app_get e [.lst [.str w]]
  have hc := pick (i := 1) (n := 5) (k := 0) (σ := abS w p (some a) (some b) (some c)) (fun x => x.1) (fun x => rfl) hz rfl rfl e'
  have z1 : (1 : Nat) ≤ SZ := by decide
  have z4 : (4 : Nat) ≤ SZ := by decide
  have zz : 1 + xs.length ≤ SZ := by unfold SZ; omega
  simp [p__law_above_5, hc, z1, z4, zz]
theorem above_run {w : T} {p : Nat} {xs : List (D × Bool)} {S : M.S} (hx : xs ≠ []) (hz : xs.length ≤ 1000) (hw : innW.contains w = true) (e : S[p]? = some (.lst (xs.map enD))) : ∃ g, m__law_above [.str w, .ref p] S = .ok (enD (aboveX w xs)) (S ++ g) := by
  refine ⟨[.lst (xs.map fun x => .int (ht x.1)), .lst (xs.map fun x => .int (sz x.1)), .lst [.str w], .lst (xs.map (·.1)), .lst (.str w :: xs.map (·.1))], ?_⟩
  show ((p__law_above_1 (abS w p none none none) S).then (sSeq p__law_above_2 (sSeq p__law_above_3 (sSeq p__law_above_4 p__law_above_5)))).out = _
  rw [ab_1 hx hz e]
  have e1 := app_get e [.lst (xs.map fun x => .int (ht x.1))]
  show ((p__law_above_2 _ _).then _).out = _
  rw [ab_2 hz e1]
  have e2 := app_get e1 [.lst (xs.map fun x => .int (sz x.1))]
  rw [ab_34 hx hz e2, ab_5 hz e2]
  have h1 := above_ht w xs hw
  have h2 := above_sz w xs hw
  unfold enD
  rw [h1, h2]
  simp only [List.append_assoc, List.cons_append, List.nil_append]
  unfold aboveX
  congr 5
  · simp; omega
  · simp; omega
theorem rf__law_above : Refines 2 m__law_above q__law_above := Refines.pure fun ds S hl c ca => by
  match ds, hl with
  | [a, b], _ =>
    cases a with
    | str w =>
      cases b with
      | ref p =>
        cases q : S[p]? with
        | none => exact .inl (by simp [q__law_above, q])
        | some o =>
          cases o with
          | lst es =>
            by_cases h : abOk w es
            · obtain ⟨h1, h2, h3, h4, h5⟩ := id h
              obtain ⟨g, e⟩ := above_run (w := w) (p := p) (xs := es.map unEn) (S := S) (by simpa using h2) (by simpa using h3) h5 (by rw [q, ← h1])
              refine .inr ⟨_, g, by simp only [q__law_above, q]; rw [if_pos h], e, ?_⟩
              exact enD_cl (above_ok w _ h5 h4) _
            · exact .inl (by simp only [q__law_above, q]; rw [if_neg h])
          | dct _ => exact .inl (by simp [q__law_above, q])
          | ins _ _ => exact .inl (by simp [q__law_above, q])
      | _ => exact .inl rfl
    | _ => exact .inl rfl
theorem above_at {w : T} {p : Nat} {xs : List (D × Bool)} {s : M.S} (hx : xs ≠ []) (hz : xs.length ≤ 1000) (hw : innW.contains w = true) (ho : oks (xs.map (·.1)) = true) (e : s[p]? = some (.lst (xs.map enD))) : q__law_above [.str w, .ref p] s = .ok (enD (aboveX w xs)) s := by
  have hk : abOk w (xs.map enD) := by
    unfold abOk
    rw [un_ens]
    exact ⟨rfl, by simpa using hx, by simpa using hz, ho, hw⟩
  simp only [q__law_above, e]
  rw [if_pos hk, un_ens]
def arB (k : T) (n : Nat) : Bool := if k = [106, 111, 105, 110] then decide (2 ≤ n) else match gAt k PW with
  | some m => decide ((n : Int) = m)
  | none => false
theorem inn_cases {k : T} (h : innW.contains k = true) : k ∈ innW := by simpa using h
theorem inn_all {Pr : T → Prop} (h : ∀ k ∈ innW, Pr k) {k : T} (hk : innW.contains k = true) : Pr k := h k (inn_cases hk)
theorem part_inner {fam w : Bool} {k : T} {ds : List D} (hk : innW.contains k = true) : partL fam w (.str k :: ds) = arB k ds.length := by
  have h := inn_cases hk
  simp only [innW, List.mem_cons, List.not_mem_nil, or_false] at h
  rcases h with rfl | rfl | rfl | rfl | rfl | rfl | rfl | rfl | rfl | rfl <;> rfl
theorem has_inner {k : T} {ds : List D} (hk : innW.contains k = true) : hasSK (.tup (.str k :: ds)) = hass ds := by
  have h := inn_cases hk
  simp only [innW, List.mem_cons, List.not_mem_nil, or_false] at h
  rcases h with rfl | rfl | rfl | rfl | rfl | rfl | rfl | rfl | rfl | rfl <;> simp [hasSK, hasL]
theorem tok_inner {fam w : Bool} {k : T} {ds : List D} (hk : innW.contains k = true) : tOk fam (.tup (.str k :: ds)) w = (arB k ds.length && if k = wEach then tOkE fam ds w else tOks fam ds w) := by
  have i : inn (.str k) = true := hk
  simp only [tOk, tOkL, part_inner hk, i, if_true, D.str.injEq]
theorem toks_yes : ∀ {xs : List (D × Bool)}, (∀ x ∈ xs, Good x) → tOks true (xs.map (·.1)) true = true
  | [], _ => rfl
  | x :: xs, h => by simp only [List.map_cons, tOks, (h x List.mem_cons_self).yes, toks_yes fun y hy => h y (List.mem_cons_of_mem _ hy)]; rfl
theorem toks_fre : ∀ {xs : List (D × Bool)}, (∀ x ∈ xs, Good x) → tOks true (xs.map (·.1)) false = !xs.any (·.2)
  | [], _ => rfl
  | x :: xs, h => by simp only [List.map_cons, tOks, (h x List.mem_cons_self).fre, toks_fre fun y hy => h y (List.mem_cons_of_mem _ hy), List.any_cons, Bool.not_or]
theorem toks_fam (w : Bool) : ∀ {xs : List (D × Bool)}, (∀ x ∈ xs, Good x) → tOks false (xs.map (·.1)) w = (tOks true (xs.map (·.1)) w && !hass (xs.map (·.1)))
  | [], _ => rfl
  | x :: xs, h => by
    simp only [List.map_cons, tOks, hass, (h x List.mem_cons_self).fam, toks_fam w fun y hy => h y (List.mem_cons_of_mem _ hy), Bool.not_or]
    generalize tOk true x.1 w = a
    generalize hasSK x.1 = b
    generalize tOks true (xs.map (·.1)) w = c
    generalize hass (xs.map (·.1)) = d
    cases a <;> cases b <;> cases c <;> cases d <;> rfl
theorem above_good {k : T} {xs : List (D × Bool)} (hk : innW.contains k = true) (ha : arB k xs.length = true) (h : ∀ x ∈ xs, Good x) : Good (aboveX k xs) := by
  have hl : (xs.map (·.1)).length = xs.length := List.length_map _
  by_cases he : k = wEach
  · subst he
    have h2 : xs.length = 2 := by
      have h3 : decide ((xs.length : Int) = 2) = true := ha
      have := of_decide_eq_true h3
      omega
    obtain ⟨x0, x1, rfl⟩ : ∃ x0 x1, xs = [x0, x1] := by
      match xs, h2 with
      | [x0, x1], _ => exact ⟨x0, x1, rfl⟩
    · have g0 := h x0 List.mem_cons_self
      have g1 := h x1 (List.mem_cons_of_mem _ List.mem_cons_self)
      have ar : ∀ a b : D, arB wEach [a, b].length = true := fun _ _ => rfl
      refine ⟨?_, ?_, fun w => ?_⟩
      · show tOk true (.tup [.str wEach, x0.1, x1.1]) true = true
        rw [tok_inner hk, ar, if_pos rfl]
        simp [tOkE, tOks, g0.yes, g1.yes]
      · show tOk true (.tup [.str wEach, x0.1, x1.1]) false = !x0.2
        rw [tok_inner hk, ar, if_pos rfl]
        simp [tOkE, tOks, g0.fre, g1.yes]
      · show tOk false (.tup [.str wEach, x0.1, x1.1]) w = (tOk true (.tup [.str wEach, x0.1, x1.1]) w && !hasSK (.tup [.str wEach, x0.1, x1.1]))
        rw [tok_inner hk, tok_inner hk, ar, if_pos rfl, if_pos rfl, has_inner hk]
        simp only [tOkE, tOks, hass, g0.fam, g1.fam, g1.yes]
        generalize tOk true x0.1 w = a
        generalize hasSK x0.1 = b
        generalize hasSK x1.1 = c
        cases a <;> cases b <;> cases c <;> rfl
  · have hf : (aboveX k xs).2 = xs.any (·.2) := by
      show freeW k xs = _
      unfold freeW
      exact if_neg he
    refine ⟨?_, ?_, fun w => ?_⟩
    · show tOk true (.tup (.str k :: xs.map (·.1))) true = true
      rw [tok_inner hk, if_neg he, hl, ha, toks_yes h]
      rfl
    · rw [hf]
      show tOk true (.tup (.str k :: xs.map (·.1))) false = _
      rw [tok_inner hk, if_neg he, hl, ha, toks_fre h, Bool.true_and]
    · show tOk false (.tup (.str k :: xs.map (·.1))) w = (tOk true (.tup (.str k :: xs.map (·.1))) w && !hasSK (.tup (.str k :: xs.map (·.1))))
      rw [tok_inner hk, tok_inner hk, if_neg he, if_neg he, has_inner hk, hl, ha, Bool.true_and, Bool.true_and]
      exact toks_fam w h
def p__law_grown_1 : SM :=
    (sSet 3 (eCall q__law_mixed (aCons (eVar 1) (aCons (eC (.int 1)) aNil))))
def p__law_grown_2 : SM :=
    (sSet 4 (eLst (aCons (eC (.str [111, 102])) (aCons (eC (.str [98, 97, 99, 107])) (aCons (eC (.str [102, 105, 114, 115, 116])) (aCons (eC (.str [114, 101, 115, 116])) (aCons (eC (.str [99, 111, 117, 110, 116])) (aCons (eC (.str [115, 111, 114, 116, 101, 100])) (aCons (eC (.str [102, 97, 105, 108])) (aCons (eC (.str [101, 97, 99, 104])) (aCons (eC (.str [101, 97, 99, 104])) (aCons (eC (.str [105, 102])) (aCons (eC (.str [106, 111, 105, 110])) (aCons (eC (.str [106, 111, 105, 110])) aNil))))))))))))))
def p__law_grown_3 : SM :=
    (sSet 5 (eOp opIx (eVar 4) (eOp opMod (eVar 3) (eC (.int 12)))))
def p__law_grown_4 : SM :=
    (sSet 6 (eOp opIx (eLst (aCons (eC (.int 1)) (aCons (eC (.int 1)) (aCons (eC (.int 1)) (aCons (eC (.int 1)) (aCons (eC (.int 1)) (aCons (eC (.int 1)) (aCons (eC (.int 1)) (aCons (eC (.int 2)) (aCons (eC (.int 2)) (aCons (eC (.int 4)) (aCons (eOp opAdd (eC (.int 2)) (eOp opMod (eOp opDiv (eVar 3) (eC (.int 12))) (eC (.int 2)))) (aCons (eOp opAdd (eC (.int 2)) (eOp opMod (eOp opDiv (eVar 3) (eC (.int 12))) (eC (.int 3)))) aNil))))))))))))) (eOp opMod (eVar 3) (eC (.int 12)))))
def p__law_grown_5 : SM :=
    (sIf (tOr (tCmp cEq (eOp opMod (eOp opDiv (eVar 3) (eC (.int 60))) (eC (.int 2))) (eC (.int 0))) (tCmp cLt (eCall fLen (aCons (eVar 0) aNil)) (eVar 6)))
    (sRet (eOp opAdd (eVar 0) (eLst (aCons (eCall q__law_leaf (aCons (eVar 1) (aCons (eVar 2) aNil))) aNil))))
    sNil)
def p__law_grown_6 : SM :=
    (sSet 7 (eCall q__law_above (aCons (eVar 5) (aCons (eSl (eVar 0) (oSome (eOp opSub (eCall fLen (aCons (eVar 0) aNil)) (eVar 6))) oNone) aNil))))
def p__law_grown_7 : SM :=
    (sIf (tOr (tCmp cGt (eOp opIx (eVar 7) (eC (.int 1))) (eC (.int 12))) (tCmp cGt (eOp opIx (eVar 7) (eC (.int 2))) (eC (.int 98))))
    (sRet (eOp opAdd (eVar 0) (eLst (aCons (eCall q__law_leaf (aCons (eVar 1) (aCons (eVar 2) aNil))) aNil))))
    sNil)
def p__law_grown_8 : SM :=
    (sRet (eOp opAdd (eSl (eVar 0) oNone (oSome (eOp opSub (eCall fLen (aCons (eVar 0) aNil)) (eVar 6)))) (eLst (aCons (eVar 7) aNil))))
def b__law_grown : SM := (sSeq p__law_grown_1 (sSeq p__law_grown_2 (sSeq p__law_grown_3 (sSeq p__law_grown_4 (sSeq p__law_grown_5 (sSeq p__law_grown_6 (sSeq p__law_grown_7 p__law_grown_8)))))))
def m__law_grown : F := fn 8 b__law_grown
def PileOk (B : Nat) (xs : List (D × Bool)) : Prop := ∀ x ∈ xs, Gx B x
theorem pile_oks {B : Nat} : ∀ {xs : List (D × Bool)}, PileOk B xs → oks (xs.map (·.1)) = true
  | [], _ => rfl
  | x :: xs, h => by
    simp only [List.map_cons, oks, (h x List.mem_cons_self).1, pile_oks (fun y hy => h y (List.mem_cons_of_mem _ hy)), Bool.and_self]
theorem pile_cl {B : Nat} (k : Nat) : ∀ {xs : List (D × Bool)}, PileOk B xs → D.cl.all k (xs.map enD) = true
  | [], _ => rfl
  | x :: xs, h => by
    show (D.cl k (enD x) && D.cl.all k (xs.map enD)) = true
    rw [pile_cl k (fun y hy => h y (List.mem_cons_of_mem _ hy)), enD_cl (h x List.mem_cons_self).1 k]
    rfl
theorem pile_app {B : Nat} {xs ys : List (D × Bool)} (h : PileOk B xs) (k : PileOk B ys) : PileOk B (xs ++ ys) := fun x hx => (List.mem_append.mp hx).elim (h x) (k x)
theorem pile_sub {B : Nat} {xs ys : List (D × Bool)} (h : PileOk B xs) (k : ∀ y ∈ ys, y ∈ xs) : PileOk B ys := fun y hy => h y (k y hy)
def GrP (m : F) (es : List D) (c : Int) (f : Bool) (ys : List (D × Bool)) : Prop := PileOk 98 ys ∧ ys.length ≤ es.length + 1 ∧ ys ≠ [] ∧ ∀ (S : M.S) (q : Nat), S[q]? = some (.lst es) → ∃ j g, m [.ref q, .int c, .bl f] S = .ok (.ref j) (S ++ g) ∧ (S ++ g)[j]? = some (.lst (ys.map enD)) ∧ S.length ≤ j
def q__law_grown : F := fun ds s => match ds with
  | [.ref p, .int c, .bl f] => match s[p]? with
    | some (.lst es) => @dite (R D) (∃ ys, GrP m__law_grown es c f ys) (Classical.propDecidable _) (fun h => alloc (.lst (h.choose.map enD)) s) (fun _ => .no)
    | _ => .no
  | _ => .no
theorem rf__law_grown : Refines 3 m__law_grown q__law_grown := Refines.new fun ds S hl c ca => by
  match ds, hl with
  | [x, y, z], _ =>
    cases x with
    | ref p =>
      cases y with
      | int c =>
        cases z with
        | bl f =>
          cases q : S[p]? with
          | none => exact .inl (by simp [q__law_grown, q])
          | some o =>
            cases o with
            | lst es =>
              by_cases h : ∃ ys, GrP m__law_grown es c f ys
              · obtain ⟨h1, h2, h3, h4⟩ := h.choose_spec
                obtain ⟨j, g, e1, e2, e3⟩ := h4 S p q
                refine .inr ⟨.lst (h.choose.map enD), j, g, ?_, e1, e2, e3, pile_cl _ h1⟩
                simp only [q__law_grown, q]
                rw [dif_pos h]
              · refine .inl ?_
                simp only [q__law_grown, q]
                rw [dif_neg h]
            | dct _ => exact .inl (by simp [q__law_grown, q])
            | ins _ _ => exact .inl (by simp [q__law_grown, q])
        | _ => exact .inl rfl
      | _ => exact .inl rfl
    | _ => exact .inl rfl
def growW : List T := [[111, 102], [98, 97, 99, 107], [102, 105, 114, 115, 116], [114, 101, 115, 116], [99, 111, 117, 110, 116], [115, 111, 114, 116, 101, 100], [102, 97, 105, 108], [101, 97, 99, 104], [101, 97, 99, 104], [105, 102], [106, 111, 105, 110], [106, 111, 105, 110]]
def wordOf (l : Int) : T := growW.getD (l % 12).toNat [111, 102]
theorem word_in (l : Int) : innW.contains (wordOf l) = true := by
  have h : (l % 12).toNat < 12 := by omega
  have : ∀ n : Nat, n < 12 → innW.contains (growW.getD n [111, 102]) = true := by decide
  exact this _ h
def manysL (l : Int) : List Int := [1, 1, 1, 1, 1, 1, 1, 2, 2, 4, 2 + l / 12 % 2, 2 + l / 12 % 3]
def manyOf (l : Int) : Int := (manysL l).getD (l % 12).toNat 1
theorem getD_map {α β : Type} (f : α → β) (xs : List α) (n : Nat) (d : α) : (xs.map f).getD n (f d) = f (xs.getD n d) := by
  rw [List.getD_eq_getElem?_getD, List.getD_eq_getElem?_getD, List.getElem?_map]
  cases xs[n]? <;> rfl
theorem many_ok (l : Int) : 1 ≤ manyOf l ∧ manyOf l ≤ 4 := by
  have h : ∀ m ∈ manysL l, 1 ≤ m ∧ m ≤ 4 := by
    intro m hm
    simp only [manysL, List.mem_cons, List.not_mem_nil, or_false] at hm
    omega
  unfold manyOf
  rw [List.getD_eq_getElem?_getD]
  cases q : (manysL l)[(l % 12).toNat]? with
  | none => exact ⟨by decide, by decide⟩
  | some m => exact h m (List.mem_of_getElem? q)
theorem word_many (l : Int) : arB (wordOf l) (manyOf l).toNat = true := by
  unfold wordOf manyOf
  generalize hn : (l % 12).toNat = n
  have h : n < 12 := by omega
  have c : n = 0 ∨ n = 1 ∨ n = 2 ∨ n = 3 ∨ n = 4 ∨ n = 5 ∨ n = 6 ∨ n = 7 ∨ n = 8 ∨ n = 9 ∨ n = 10 ∨ n = 11 := by omega
  rcases c with rfl | rfl | rfl | rfl | rfl | rfl | rfl | rfl | rfl | rfl | rfl | rfl
  all_goals first | rfl | skip
  · show decide (2 ≤ (2 + l / 12 % 2).toNat) = true
    exact decide_eq_true (by omega)
  · show decide (2 ≤ (2 + l / 12 % 3).toNat) = true
    exact decide_eq_true (by omega)
abbrev grS (p : Nat) (c : Int) (f : Bool) (l : Int) (j : Nat) (made : Option D) : St := [some (.ref p), some (.int c), some (.bl f), some (.int l), some (.ref j), some (.str (wordOf l)), some (.int (manyOf l)), made]
abbrev gr14 (r : SM) : SM := sSeq p__law_grown_1 (sSeq p__law_grown_2 (sSeq p__law_grown_3 (sSeq p__law_grown_4 r)))
theorem gr_14 (p : Nat) (c : Int) (f : Bool) (S : M.S) (r : SM) : gr14 r [some (.ref p), some (.int c), some (.bl f), none, none, none, none, none] S = r (grS p c f (mixed c 1) S.length none) (S ++ [.lst (growW.map .str), .lst ((manysL (mixed c 1)).map .int)]) := by
  have z12 : (12 : Nat) ≤ SZ := by decide
  have a := Int.emod_nonneg (mixed c 1) (show (12 : Int) ≠ 0 by decide)
  have b := Int.emod_lt_of_pos (mixed c 1) (show (0 : Int) < 12 by decide)
  have e1 : atI (growW.map D.str) (mixed c 1 % 12) = some (.str (wordOf (mixed c 1))) := by
    rw [atI_pos a (by show _ < ((12 : Nat) : Int); exact b) (.str [111, 102]), getD_map]; rfl
  have e2 : atI ((manysL (mixed c 1)).map D.int) (mixed c 1 % 12) = some (.int (manyOf (mixed c 1))) := by
    rw [atI_pos a (by show _ < ((12 : Nat) : Int); exact b) (.int 1), getD_map]; rfl
  have w1 : ∀ r : SM, (p__law_grown_1 [some (.ref p), some (.int c), some (.bl f), none, none, none, none, none] S).then r = r [some (.ref p), some (.int c), some (.bl f), some (.int (mixed c 1)), none, none, none, none] S := fun r => by simp [p__law_grown_1, q__law_mixed]
  have w2 : ∀ r : SM, (p__law_grown_2 [some (.ref p), some (.int c), some (.bl f), some (.int (mixed c 1)), none, none, none, none] S).then r = r [some (.ref p), some (.int c), some (.bl f), some (.int (mixed c 1)), some (.ref S.length), none, none, none] (S ++ [.lst (growW.map .str)]) := fun r => by simp [p__law_grown_2, z12, growW]
  have w3 : ∀ r : SM, (p__law_grown_3 [some (.ref p), some (.int c), some (.bl f), some (.int (mixed c 1)), some (.ref S.length), none, none, none] (S ++ [.lst (growW.map .str)])).then r = r [some (.ref p), some (.int c), some (.bl f), some (.int (mixed c 1)), some (.ref S.length), some (.str (wordOf (mixed c 1))), none, none] (S ++ [.lst (growW.map .str)]) := fun r => by simp [p__law_grown_3, e1]
  have w4 : ∀ r : SM, (p__law_grown_4 [some (.ref p), some (.int c), some (.bl f), some (.int (mixed c 1)), some (.ref S.length), some (.str (wordOf (mixed c 1))), none, none] (S ++ [.lst (growW.map .str)])).then r = r (grS p c f (mixed c 1) S.length none) (S ++ [.lst (growW.map .str)] ++ [.lst ((manysL (mixed c 1)).map .int)]) := fun r => by
    have e2' : atI ([.int 1, .int 1, .int 1, .int 1, .int 1, .int 1, .int 1, .int 2, .int 2, .int 4, .int (2 + mixed c 1 / 12 % 2), .int (2 + mixed c 1 / 12 % 3)] : List D) (mixed c 1 % 12) = some (.int (manyOf (mixed c 1))) := e2
    simp [p__law_grown_4, z12, e2', manysL]
  show (p__law_grown_1 _ _).then _ = _
  rw [w1]
  show (p__law_grown_2 _ _).then _ = _
  rw [w2]
  show (p__law_grown_3 _ _).then _ = _
  rw [w3]
  show (p__law_grown_4 _ _).then _ = _
  rw [w4, List.append_assoc]
  rfl
abbrev retLeaf : SM := sRet (eOp opAdd (eVar 0) (eLst (aCons (eCall q__law_leaf (aCons (eVar 1) (aCons (eVar 2) aNil))) aNil)))
theorem gr_leaf {p : Nat} {c : Int} {f : Bool} {x : D × Bool} {xs : List (D × Bool)} {r : List (Option D)} {s : M.S} (hz : xs.length ≤ 1000) (e : s[p]? = some (.lst (xs.map enD))) (el : ∀ s, q__law_leaf [.int c, .bl f] s = .ok (enD x) s) : retLeaf (some (.ref p) :: some (.int c) :: some (.bl f) :: r) s = .rt (.ref (s.length + 1)) (s ++ [.lst [enD x], .lst ((xs ++ [x]).map enD)]) := by
  have z1 : (1 : Nat) ≤ SZ := by decide
  have zz : xs.length + 1 ≤ SZ := by unfold SZ; omega
  have e' := app_get e [.lst [enD x]]
  simp [el, z1, e', zz]
theorem grown_run {xs : List (D × Bool)} (hp : PileOk 98 xs) (hz : xs.length ≤ 900) (c : Int) (f : Bool) : ∃ ys, GrP m__law_grown (xs.map enD) c f ys := by
  obtain ⟨d, hd, el⟩ := leaf_ok c f
  obtain ⟨x, rfl, hx⟩ := en_iff.mp hd
  have pl : PileOk 98 [x] := fun y hy => by rw [List.mem_singleton.mp hy]; exact hx.mono (by decide)
  have start : ∀ (S : M.S) (p : Nat) (o : R D), (gr14 (sSeq p__law_grown_5 (sSeq p__law_grown_6 (sSeq p__law_grown_7 p__law_grown_8))) [some (.ref p), some (.int c), some (.bl f), none, none, none, none, none] S).out = o → m__law_grown [.ref p, .int c, .bl f] S = o := fun S p o h => h
  have hl0 := many_ok (mixed c 1)
  have hw := word_in (mixed c 1)
  have lf : PileOk 98 (xs ++ [x]) ∧ (xs ++ [x]).length ≤ (xs.map enD).length + 1 ∧ xs ++ [x] ≠ [] := ⟨pile_app hp pl, by simp, by simp⟩
  have at1 : ∀ {S : M.S} {A B : O}, (S ++ [A, B])[S.length + 1]? = some B := fun {S A B} => by simp
  by_cases c5 : mixed c 1 / 60 % 2 = 0 ∨ (xs.length : Int) < manyOf (mixed c 1)
  · refine ⟨xs ++ [x], lf.1, lf.2.1, lf.2.2, fun S q e => ⟨S.length + 3, [.lst (growW.map .str), .lst ((manysL (mixed c 1)).map .int), .lst [enD x], .lst ((xs ++ [x]).map enD)], start S q _ ?_, by simp, by omega⟩⟩
    rw [gr_14]
    have e2 := app_get e [.lst (growW.map .str), .lst ((manysL (mixed c 1)).map .int)]
    have g5 := gr_leaf (r := [some (.int (mixed c 1)), some (.ref S.length), some (.str (wordOf (mixed c 1))), some (.int (manyOf (mixed c 1))), none]) (by omega) e2 el
    have t5 : p__law_grown_5 (grS q c f (mixed c 1) S.length none) (S ++ [.lst (growW.map .str), .lst ((manysL (mixed c 1)).map .int)]) = retLeaf (grS q c f (mixed c 1) S.length none) (S ++ [.lst (growW.map .str), .lst ((manysL (mixed c 1)).map .int)]) := by
      show sIf (tOr (tCmp cEq (eOp opMod (eOp opDiv (eVar 3) (eC (.int 60))) (eC (.int 2))) (eC (.int 0))) (tCmp cLt (eCall fLen (aCons (eVar 0) aNil)) (eVar 6))) retLeaf sNil _ _ = _
      generalize retLeaf = R0
      rcases c5 with c5 | c5
      · simp [c5]
      · by_cases c6 : mixed c 1 / 60 % 2 = 0
        · simp [c6]
        · simp [c6, e2, c5]
    show ((p__law_grown_5 _ _).then _).out = _
    rw [t5, g5]
    simp
  · have c5a : ¬ mixed c 1 / 60 % 2 = 0 := fun h => c5 (.inl h)
    have c5b : ¬ (xs.length : Int) < manyOf (mixed c 1) := fun h => c5 (.inr h)
    generalize hm : manyOf (mixed c 1) = m at *
    have hmn : (m.toNat : Int) = m := by omega
    let top := xs.drop (xs.length - m.toNat)
    have htop : top.length = m.toNat := by show (xs.drop _).length = _; rw [List.length_drop]; omega
    have hne : top ≠ [] := fun h => by rw [h] at htop; simp at htop; omega
    have ptop : PileOk 98 top := pile_sub hp fun y hy => List.mem_of_mem_drop hy
    have hcut : cut (xs.map enD) (some ((xs.length : Int) - m)) none = top.map enD := by
      rw [cut_lo _ (by omega)]
      rw [← List.map_drop]
      congr 2
      omega
    have hcut2 : cut (xs.map enD) none (some ((xs.length : Int) - m)) = (xs.take (xs.length - m.toNat)).map enD := by
      rw [cut_hi _ (by omega)]
      rw [← List.map_take]
      congr 2
      omega
    have t56 : ∀ (S : M.S) (q : Nat) (r : SM), S[q]? = some (.lst (xs.map enD)) → sSeq p__law_grown_5 (sSeq p__law_grown_6 r) (grS q c f (mixed c 1) S.length none) (S ++ [.lst (growW.map .str), .lst ((manysL (mixed c 1)).map .int)]) = r (grS q c f (mixed c 1) S.length (some (enD (aboveX (wordOf (mixed c 1)) top)))) (S ++ [.lst (growW.map .str), .lst ((manysL (mixed c 1)).map .int), .lst (top.map enD)]) := fun S q r e => by
      have e2 := app_get e [.lst (growW.map .str), .lst ((manysL (mixed c 1)).map .int)]
      have t5 : p__law_grown_5 (grS q c f (mixed c 1) S.length none) (S ++ [.lst (growW.map .str), .lst ((manysL (mixed c 1)).map .int)]) = .nx (grS q c f (mixed c 1) S.length none) (S ++ [.lst (growW.map .str), .lst ((manysL (mixed c 1)).map .int)]) := by
        show sIf (tOr (tCmp cEq (eOp opMod (eOp opDiv (eVar 3) (eC (.int 60))) (eC (.int 2))) (eC (.int 0))) (tCmp cLt (eCall fLen (aCons (eVar 0) aNil)) (eVar 6))) retLeaf sNil _ _ = _
        generalize retLeaf = R0
        simp [c5a, e2, c5b, hm]
      show (p__law_grown_5 _ _).then _ = _
      rw [t5]
      have ea := above_at (w := wordOf (mixed c 1)) (p := S.length + 2) (xs := top) (s := S ++ [.lst (growW.map .str), .lst ((manysL (mixed c 1)).map .int), .lst (top.map enD)]) hne (by rw [htop]; omega) hw (pile_oks ptop) (by simp)
      show (p__law_grown_6 _ _).then r = _
      simp [p__law_grown_6, e2, hm, hcut, ea, grS]
    let T1 := aboveX (wordOf (mixed c 1)) top
    have i1 : atI [T1.1, D.int (ht T1.1), D.int (sz T1.1), D.bl T1.2] 1 = some (D.int (ht T1.1)) := rfl
    have i2 : atI [T1.1, D.int (ht T1.1), D.int (sz T1.1), D.bl T1.2] 2 = some (D.int (sz T1.1)) := rfl
    have okT1 : ok T1.1 = true := above_ok _ _ hw (pile_oks ptop)
    have gT1 : Good T1 := above_good hw (by rw [htop, ← hm]; exact word_many (mixed c 1)) fun x hx => (ptop x hx).2.2.2
    by_cases c7 : (12 : Int) < (ht T1.1 : Int) ∨ (98 : Int) < (sz T1.1 : Int)
    · refine ⟨xs ++ [x], lf.1, lf.2.1, lf.2.2, fun S q e => ⟨S.length + 4, [.lst (growW.map .str), .lst ((manysL (mixed c 1)).map .int), .lst (top.map enD), .lst [enD x], .lst ((xs ++ [x]).map enD)], start S q _ ?_, by simp, by omega⟩⟩
      rw [gr_14, t56 S q _ e]
      have e3 := app_get e [.lst (growW.map .str), .lst ((manysL (mixed c 1)).map .int), .lst (top.map enD)]
      have g7 := gr_leaf (r := [some (.int (mixed c 1)), some (.ref S.length), some (.str (wordOf (mixed c 1))), some (.int (manyOf (mixed c 1))), some (enD T1)]) (by omega) e3 el
      have t7 : p__law_grown_7 (grS q c f (mixed c 1) S.length (some (enD T1))) (S ++ [.lst (growW.map .str), .lst ((manysL (mixed c 1)).map .int), .lst (top.map enD)]) = retLeaf (grS q c f (mixed c 1) S.length (some (enD T1))) (S ++ [.lst (growW.map .str), .lst ((manysL (mixed c 1)).map .int), .lst (top.map enD)]) := by
        show sIf (tOr (tCmp cGt (eOp opIx (eVar 7) (eC (.int 1))) (eC (.int 12))) (tCmp cGt (eOp opIx (eVar 7) (eC (.int 2))) (eC (.int 98)))) retLeaf sNil _ _ = _
        generalize retLeaf = R0
        rcases c7 with c7 | c7
        · simp [enD, i1, i2, c7]
        · by_cases c8 : (12 : Int) < (ht T1.1 : Int)
          · simp [enD, i1, i2, c8]
          · simp [enD, i1, i2, c8, c7]
      show ((p__law_grown_7 _ _).then _).out = _
      rw [t7, g7]
      simp
    · have c7a : ¬ (12 : Int) < (ht T1.1 : Int) := fun h => c7 (.inl h)
      have c7b : ¬ (98 : Int) < (sz T1.1 : Int) := fun h => c7 (.inr h)
      refine ⟨xs.take (xs.length - m.toNat) ++ [T1], pile_app (pile_sub hp fun y hy => List.mem_of_mem_take hy) (fun y hy => by rw [List.mem_singleton.mp hy]; exact ⟨okT1, by omega, by omega, gT1⟩), by simp only [List.length_append, List.length_take, List.length_map, List.length_singleton]; omega, by simp, fun S q e => ⟨S.length + 5, [.lst (growW.map .str), .lst ((manysL (mixed c 1)).map .int), .lst (top.map enD), .lst ((xs.take (xs.length - m.toNat)).map enD), .lst [enD T1], .lst ((xs.take (xs.length - m.toNat) ++ [T1]).map enD)], start S q _ ?_, by simp, by omega⟩⟩
      rw [gr_14, t56 S q _ e]
      have e3 := app_get e [.lst (growW.map .str), .lst ((manysL (mixed c 1)).map .int), .lst (top.map enD)]
      have t7 : p__law_grown_7 (grS q c f (mixed c 1) S.length (some (enD T1))) (S ++ [.lst (growW.map .str), .lst ((manysL (mixed c 1)).map .int), .lst (top.map enD)]) = .nx (grS q c f (mixed c 1) S.length (some (enD T1))) (S ++ [.lst (growW.map .str), .lst ((manysL (mixed c 1)).map .int), .lst (top.map enD)]) := by
        show sIf (tOr (tCmp cGt (eOp opIx (eVar 7) (eC (.int 1))) (eC (.int 12))) (tCmp cGt (eOp opIx (eVar 7) (eC (.int 2))) (eC (.int 98)))) retLeaf sNil _ _ = _
        generalize retLeaf = R0
        simp [enD, i1, i2, c7a, c7b]
      show ((p__law_grown_7 _ _).then _).out = _
      rw [t7]
      have z1 : (1 : Nat) ≤ SZ := by decide
      have zz : min (xs.length - m.toNat) xs.length + 1 ≤ SZ := by unfold SZ; omega
      have zz2 : xs.length - m.toNat + 1 ≤ SZ := by unfold SZ; omega
      show (p__law_grown_8 _ _).out = _
      simp [p__law_grown_8, e3, hm, hcut2, z1, zz, zz2]
theorem grown_ok {xs : List (D × Bool)} (hp : PileOk 98 xs) (hz : xs.length ≤ 900) (c : Int) (f : Bool) : ∃ ys, PileOk 98 ys ∧ ys.length ≤ xs.length + 1 ∧ ys ≠ [] ∧ ∀ (s : M.S) (p : Nat), s[p]? = some (.lst (xs.map enD)) → q__law_grown [.ref p, .int c, .bl f] s = alloc (.lst (ys.map enD)) s := by
  have h := grown_run hp hz c f
  obtain ⟨h1, h2, h3, _⟩ := h.choose_spec
  refine ⟨h.choose, h1, by simpa using h2, h3, fun s p e => ?_⟩
  simp only [q__law_grown, e]
  rw [dif_pos h]
def p__law_tree_1 : SM :=
    (sSet 2 (eLst (aCons (eCall q__law_leaf (aCons (eCall fLen (aCons (eVar 0) aNil)) (aCons (eVar 1) aNil))) aNil)))
def p__law_tree_2 : SM :=
    (sFor (iEnum 0 (eVar 0)) (gTup (gCons (gName 3) (gCons (gName 4) gNil)))
    (sSet 2 (eCall q__law_grown (aCons (eSl (eVar 2) (oSome (eUn unNeg (eC (.int 20)))) oNone) (aCons (eOp opAdd (eVar 4) (eOp opMul (eC (.int 7919)) (eVar 3))) (aCons (eVar 1) aNil))))))
def p__law_tree_3 : SM :=
    (sSet 5 (eOp opIx (eVar 2) (eUn unNeg (eC (.int 1)))))
def p__law_tree_4 : SM :=
    (sIf (tAnd (tCmp cGt (eCall fLen (aCons (eVar 2) aNil)) (eC (.int 1))) (tAnd (tCmp cLt (eCall fSum (aCons (eComp 1 (iE (eVar 2)) (gName 6) tYes (eOp opIx (eVar 6) (eC (.int 2)))) aNil)) (eC (.int 98))) (tCmp cLt (eCall fMax1 (aCons (eComp 1 (iE (eVar 2)) (gName 6) tYes (eOp opIx (eVar 6) (eC (.int 1)))) aNil)) (eC (.int 12)))))
    (sSet 5 (eCall q__law_above (aCons (eC (.str [106, 111, 105, 110])) (aCons (eVar 2) aNil))))
    sNil)
def p__law_tree_5 : SM :=
    (sIf (tAnd (tTru (eOp opIx (eVar 5) (eC (.int 3)))) (tCmp cLt (eOp opIx (eVar 5) (eC (.int 1))) (eC (.int 12))))
    (sSet 5 (eCall q__law_above (aCons (eC (.str [101, 97, 99, 104])) (aCons (eLst (aCons (eTup (aCons (eTup (aCons (eC (.str [108, 105, 110, 101])) aNil)) (aCons (eC (.int 1)) (aCons (eC (.int 1)) (aCons (eC (.bl false)) aNil))))) (aCons (eVar 5) aNil))) aNil))))
    sNil)
def p__law_tree_6 : SM :=
    (sIf (tTru (eOp opIx (eVar 5) (eC (.int 3))))
    (sRet (eTup (aCons (eTup (aCons (eC (.str [108, 105, 110, 101])) aNil)) (aCons (eC (.int 1)) (aCons (eC (.int 1)) (aCons (eC (.bl false)) aNil))))))
    sNil)
def p__law_tree_7 : SM :=
    (sRet (eVar 5))
def b__law_tree : SM := (sSeq p__law_tree_1 (sSeq p__law_tree_2 (sSeq p__law_tree_3 (sSeq p__law_tree_4 (sSeq p__law_tree_5 (sSeq p__law_tree_6 p__law_tree_7))))))
def m__law_tree : F := fn 6 b__law_tree
def TrP (m : F) (es : List D) (f : Bool) (d : D) : Prop := (∃ x, d = enD x ∧ Gx 100 x ∧ x.2 = false) ∧ ∀ (S : M.S) (q : Nat), S[q]? = some (.lst es) → ∃ g, m [.ref q, .bl f] S = .ok d (S ++ g)
def q__law_tree : F := fun ds s => match ds with
  | [.ref p, .bl f] => match s[p]? with
    | some (.lst es) => @dite (R D) (∃ d, TrP m__law_tree es f d) (Classical.propDecidable _) (fun h => .ok h.choose s) (fun _ => .no)
    | _ => .no
  | _ => .no
theorem rf__law_tree : Refines 2 m__law_tree q__law_tree := Refines.pure fun ds S hl c ca => by
  match ds, hl with
  | [x, z], _ =>
    cases x with
    | ref p =>
      cases z with
      | bl f =>
        cases q : S[p]? with
        | none => exact .inl (by simp [q__law_tree, q])
        | some o =>
          cases o with
          | lst es =>
            by_cases h : ∃ d, TrP m__law_tree es f d
            · obtain ⟨h1, h4⟩ := h.choose_spec
              obtain ⟨g, e1⟩ := h4 S p q
              refine .inr ⟨h.choose, g, ?_, e1, by obtain ⟨x, e, gx, _⟩ := h1; rw [e]; exact enD_cl gx.1 _⟩
              simp only [q__law_tree, q]
              rw [dif_pos h]
            · refine .inl ?_
              simp only [q__law_tree, q]
              rw [dif_neg h]
          | dct _ => exact .inl (by simp [q__law_tree, q])
          | ins _ _ => exact .inl (by simp [q__law_tree, q])
      | _ => exact .inl rfl
    | _ => exact .inl rfl
abbrev trBody : SM := sSet 2 (eCall q__law_grown (aCons (eSl (eVar 2) (oSome (eUn unNeg (eC (.int 20)))) oNone) (aCons (eOp opAdd (eVar 4) (eOp opMul (eC (.int 7919)) (eVar 3))) (aCons (eVar 1) aNil))))
abbrev trTg : GM := gTup (gCons (gName 3) (gCons (gName 4) gNil))
theorem tr_eq : p__law_tree_2 = sFor (iEnum 0 (eVar 0)) trTg trBody := rfl
abbrev trS (q : Nat) (f : Bool) (j : Nat) (a b c : Option D) : St := [some (.ref q), some (.bl f), some (.ref j), a, b, c]
theorem tr_loop (f : Bool) : ∀ (cells : List Int) (k : Int) (xs : List (D × Bool)), PileOk 98 xs → xs ≠ [] → xs.length ≤ 200 → ∃ ys, PileOk 98 ys ∧ ys ≠ [] ∧ ys.length ≤ 200 ∧
    ∀ (S t : M.S) (q j : Nat) (g : Gd) (a b : Option D), gdOk g S = true → (S ++ t)[j]? = some (.lst (xs.map enD)) → ∃ t' j' a' b', forL g (forF trTg trBody) (enumL k (cells.map .int)) (trS q f j a b none) (S ++ t) = .nx (trS q f j' a' b' none) (S ++ t') ∧ (S ++ t')[j']? = some (.lst (ys.map enD))
  | [], k, xs, h1, h2, h3 => ⟨xs, h1, h2, h3, fun S t q j g a b hg e => ⟨t, j, a, b, rfl, e⟩⟩
  | c :: cells, k, xs, h1, h2, h3 => by
    let top := (cut xs (some (-20)) none)
    have htl : top.length ≤ 20 := by
      show (cut xs (some (-20)) none).length ≤ 20
      unfold cut sIx
      simp only [List.length_take, List.length_drop]
      omega
    have hcm : cut (xs.map enD) (some (-20)) none = top.map enD := by
      show _ = (cut xs (some (-20)) none).map enD
      unfold cut
      rw [List.length_map, List.map_take, List.map_drop]
    have ptop : PileOk 98 top := pile_sub h1 fun y hy => by
      have hy' : y ∈ cut xs (some (-20)) none := hy
      unfold cut at hy'
      exact List.mem_of_mem_drop (List.mem_of_mem_take hy')
    obtain ⟨ys, p1, p2, p3, eg⟩ := grown_ok ptop (by omega) (c + 7919 * k) f
    obtain ⟨zs, r1, r2, r3, er⟩ := tr_loop f cells (k + 1) ys p1 p3 (by omega)
    refine ⟨zs, r1, r2, r3, fun S t q j g a b hg e => ?_⟩
    have s1 : small 7919 = true := by decide
    have eg' := eg (S ++ (t ++ [.lst (top.map enD)])) (S.length + t.length) (by rw [← List.append_assoc, ← List.length_append]; simp)
    have step : forF trTg trBody (.tup [.int k, .int c]) (trS q f j a b none) (S ++ t) = .nx (trS q f (S.length + (t.length + 1)) (some (.int k)) (some (.int c)) none) (S ++ (t ++ [.lst (top.map enD), .lst (ys.map enD)])) := by
      simp [e, s1, hcm, eg', trS]
    obtain ⟨t', j', a', b', e1, e2⟩ := er S (t ++ [.lst (top.map enD), .lst (ys.map enD)]) q (S.length + (t.length + 1)) g (some (.int k)) (some (.int c)) hg (by
      rw [List.getElem?_append_right (by omega), List.getElem?_append_right (by omega)]
      simp [show S.length + (t.length + 1) - S.length - t.length = 1 by omega])
    refine ⟨t', j', a', b', ?_, e2⟩
    show forL g (forF trTg trBody) (.tup [.int k, .int c] :: enumL (k + 1) (cells.map .int)) _ _ = _
    unfold forL
    rw [step]
    show (if gdOk g (S ++ (t ++ [.lst (top.map enD), .lst (ys.map enD)])) = true then _ else _) = _
    rw [if_pos (gdOk_app hg)]
    exact e1
theorem at_last {xs : List (D × Bool)} (h : xs ≠ []) : ∃ x ∈ xs, atI (xs.map enD) (-1) = some (enD x) := by
  have hl : 0 < xs.length := List.length_pos_iff.mpr h
  refine ⟨xs[xs.length - 1], List.getElem_mem _, ?_⟩
  unfold atI ixN
  rw [if_neg (by decide), List.length_map, if_pos (by omega)]
  have e : (-1 + (xs.length : Int)).toNat = xs.length - 1 := by omega
  show (xs.map enD)[(-1 + (xs.length : Int)).toNat]? = _
  rw [e, List.getElem?_map, List.getElem?_eq_getElem (by omega)]
  rfl
theorem tr_4 {xs : List (D × Bool)} (h1 : PileOk 98 xs) (h2 : xs ≠ []) (h3 : xs.length ≤ 200) {x0 : D × Bool} (hx : x0 ∈ xs) : ∃ x1, Gx 98 x1 ∧
    ∀ (S : M.S) (q j : Nat) (f : Bool) (a b : Option D), S[j]? = some (.lst (xs.map enD)) → ∃ g, ∀ r : SM, (p__law_tree_4 (trS q f j a b (some (enD x0))) S).then r = r (trS q f j a b (some (enD x1))) (S ++ g) := by
  by_cases c1 : 1 < xs.length
  · have c1' : (1 : Int) < (xs.length : Int) := by omega
    have sumS : ∀ (S : M.S) (q j : Nat) (f : Bool) (a b c : Option D), S[j]? = some (.lst (xs.map enD)) → eCall fSum (aCons (eComp 1 (iE (eVar 2)) (gName 6) tYes (eOp opIx (eVar 6) (eC (.int 2)))) aNil) (trS q f j a b c) S = .ok (.int (szs (xs.map (·.1)) : Nat)) (S ++ [.lst (xs.map fun x => .int (sz x.1))]) := fun S q j f a b c e => by
      have hc := pick (i := 2) (n := 6) (k := 2) (σ := trS q f j a b c) (fun x => .int (sz x.1)) (fun x => rfl) (by omega) rfl rfl e
      have hm := sum_szs xs (S ++ [.lst (xs.map fun x => .int (sz x.1))])
      simp [hc, hm]
    have maxS : ∀ (S : M.S) (q j : Nat) (f : Bool) (a b c : Option D), S[j]? = some (.lst (xs.map enD)) → eCall fMax1 (aCons (eComp 1 (iE (eVar 2)) (gName 6) tYes (eOp opIx (eVar 6) (eC (.int 1)))) aNil) (trS q f j a b c) S = .ok (.int (hts (xs.map (·.1)) : Nat)) (S ++ [.lst (xs.map fun x => .int (ht x.1))]) := fun S q j f a b c e => by
      have hc := pick (i := 2) (n := 6) (k := 1) (σ := trS q f j a b c) (fun x => .int (ht x.1)) (fun x => rfl) (by omega) rfl rfl e
      have hm := max_ht xs h2 (S ++ [.lst (xs.map fun x => .int (ht x.1))])
      simp [hc, hm]
    have e4 : p__law_tree_4 = sIf (tAnd (tCmp cGt (eCall fLen (aCons (eVar 2) aNil)) (eC (.int 1))) (tAnd (tCmp cLt (eCall fSum (aCons (eComp 1 (iE (eVar 2)) (gName 6) tYes (eOp opIx (eVar 6) (eC (.int 2)))) aNil)) (eC (.int 98))) (tCmp cLt (eCall fMax1 (aCons (eComp 1 (iE (eVar 2)) (gName 6) tYes (eOp opIx (eVar 6) (eC (.int 1)))) aNil)) (eC (.int 12)))))
      (sSet 5 (eCall q__law_above (aCons (eC (.str [106, 111, 105, 110])) (aCons (eVar 2) aNil)))) sNil := rfl
    rw [e4]
    generalize eCall fSum (aCons (eComp 1 (iE (eVar 2)) (gName 6) tYes (eOp opIx (eVar 6) (eC (.int 2)))) aNil) = ES at sumS ⊢
    generalize eCall fMax1 (aCons (eComp 1 (iE (eVar 2)) (gName 6) tYes (eOp opIx (eVar 6) (eC (.int 1)))) aNil) = EX at maxS ⊢
    by_cases c2 : ((szs (xs.map (·.1)) : Nat) : Int) < 98
    · by_cases c3 : ((hts (xs.map (·.1)) : Nat) : Int) < 12
      · have hw : innW.contains [106, 111, 105, 110] = true := by decide
        refine ⟨aboveX [106, 111, 105, 110] xs, ⟨above_ok _ _ hw (pile_oks h1), by rw [above_sz _ _ hw]; omega, by rw [above_ht _ _ hw]; omega, above_good hw (decide_eq_true (by omega)) fun x hx => (h1 x hx).2.2.2⟩, fun S q j f a b e => ⟨[.lst (xs.map fun x => .int (sz x.1)), .lst (xs.map fun x => .int (ht x.1))], fun r => ?_⟩⟩
        have e1 := app_get e [.lst (xs.map fun x => .int (sz x.1))]
        have e2 := app_get e1 [.lst (xs.map fun x => .int (ht x.1))]
        have ea := above_at h2 (by omega) hw (pile_oks h1) e2
        have q1 := sumS S q j f a b (some (enD x0)) e
        have q2 := maxS _ q j f a b (some (enD x0)) e1
        simp only [List.append_assoc, List.cons_append, List.nil_append] at ea q2
        simp [e, c1', q1, q2, c2, c3, ea, trS]
      · refine ⟨x0, h1 x0 hx, fun S q j f a b e => ⟨[.lst (xs.map fun x => .int (sz x.1)), .lst (xs.map fun x => .int (ht x.1))], fun r => ?_⟩⟩
        have e1 := app_get e [.lst (xs.map fun x => .int (sz x.1))]
        have q1 := sumS S q j f a b (some (enD x0)) e
        have q2 := maxS _ q j f a b (some (enD x0)) e1
        simp only [List.append_assoc, List.cons_append, List.nil_append] at q2
        simp [e, c1', q1, q2, c2, c3]
    · refine ⟨x0, h1 x0 hx, fun S q j f a b e => ⟨[.lst (xs.map fun x => .int (sz x.1))], fun r => ?_⟩⟩
      have q1 := sumS S q j f a b (some (enD x0)) e
      simp [e, c1', q1, c2]
  · have c1' : ¬ (1 : Int) < (xs.length : Int) := by omega
    exact ⟨x0, h1 x0 hx, fun S q j f a b e => ⟨[], fun r => by simp [p__law_tree_4, e, c1']⟩⟩
def lineX : D × Bool := (.tup [.str [108, 105, 110, 101]], false)
theorem line_en : enD lineX = .tup [.tup [.str [108, 105, 110, 101]], .int 1, .int 1, .bl false] := by
  have i : inn (.str [108, 105, 110, 101]) = false := by decide
  simp [enD, lineX, ht, htT, sz, szT, i]
theorem line_ok : ok lineX.1 = true ∧ sz lineX.1 = 1 := by
  have i : inn (.str [108, 105, 110, 101]) = false := by decide
  simp [lineX, ok, okL, sz, szT, i, shStr]
theorem line_ht : ht lineX.1 = 1 := by
  have i : inn (.str [108, 105, 110, 101]) = false := by decide
  simp [lineX, ht, htT, i]
theorem line_good : Good lineX := ⟨by rw [show lineX.1 = .tup [.str [108, 105, 110, 101]] from rfl, leaf_tok (by decide)]; rfl, by rw [show lineX.1 = .tup [.str [108, 105, 110, 101]] from rfl, leaf_tok (by decide)]; rfl, fun w => by rw [show lineX.1 = .tup [.str [108, 105, 110, 101]] from rfl, leaf_tok (by decide), leaf_tok (by decide)]; rfl⟩
theorem line_gx : Gx 100 lineX := ⟨line_ok.1, by rw [line_ok.2]; decide, by rw [line_ht]; decide, line_good⟩
theorem ix1 (x : D × Bool) (s : M.S) : opIx (enD x) (.int 1) s = .ok (.int (ht x.1)) s := rfl
theorem ix3 (x : D × Bool) (s : M.S) : opIx (enD x) (.int 3) s = .ok (.bl x.2) s := rfl
theorem tr_5 {x1 : D × Bool} (g1 : Gx 98 x1) : ∃ x2, Gx 100 x2 ∧
    ∀ (S : M.S) (q j : Nat) (f : Bool) (a b : Option D), ∃ g, ∀ r : SM, (p__law_tree_5 (trS q f j a b (some (enD x1))) S).then r = r (trS q f j a b (some (enD x2))) (S ++ g) := by
  obtain ⟨h1, h2, h3, h4⟩ := id g1
  by_cases c1 : x1.2 = true ∧ (ht x1.1 : Int) < 12
  · have hw : innW.contains [101, 97, 99, 104] = true := by decide
    have po : oks ([lineX, x1].map (·.1)) = true := by simp [oks, line_ok.1, h1]
    refine ⟨aboveX [101, 97, 99, 104] [lineX, x1], ⟨above_ok _ _ hw po, by rw [above_sz _ _ hw]; simp [szs, line_ok.2]; omega, by rw [above_ht _ _ hw]; simp [hts, line_ht]; omega, above_good hw rfl fun x hx => by
      rcases List.mem_cons.mp hx with rfl | hx
      · exact line_good
      · rw [List.mem_singleton.mp hx]; exact h4⟩, fun S q j f a b => ⟨[.lst ([lineX, x1].map enD)], fun r => ?_⟩⟩
    have ea := above_at (w := [101, 97, 99, 104]) (p := S.length) (xs := [lineX, x1]) (s := S ++ [.lst ([lineX, x1].map enD)]) (by simp) (by simp) hw po (by simp)
    have z1 : (1 : Nat) ≤ SZ := by decide
    have z2 : (2 : Nat) ≤ SZ := by decide
    have z4 : (4 : Nat) ≤ SZ := by decide
    have le := line_en
    simp only [List.map_cons, List.map_nil, le] at ea ⊢
    simp [-opIx, p__law_tree_5, ix1, ix3, c1.1, c1.2, z1, z2, z4, ea, trS]
  · refine ⟨x1, g1.mono (by decide), fun S q j f a b => ⟨[], fun r => ?_⟩⟩
    by_cases c2 : x1.2 = true
    · have c3 : ¬ (ht x1.1 : Int) < 12 := fun h => c1 ⟨c2, h⟩
      simp [-opIx, p__law_tree_5, ix1, ix3, c2, c3]
    · simp [-opIx, p__law_tree_5, ix1, ix3, c2]
theorem tree_run (ns : List Int) (hn : ns.length ≤ 63) (f : Bool) : ∃ d, TrP m__law_tree (ns.map .int) f d := by
  obtain ⟨d0, hd0, el⟩ := leaf_ok ns.length f
  obtain ⟨x, rfl, hx⟩ := en_iff.mp hd0
  have pl : PileOk 98 [x] := fun y hy => by rw [List.mem_singleton.mp hy]; exact hx.mono (by decide)
  obtain ⟨ys, p1, p2, p3, eloop⟩ := tr_loop f ns 0 [x] pl (by simp) (by simp)
  obtain ⟨x0, hx0, e0⟩ := at_last p2
  obtain ⟨x1, g1, e4⟩ := tr_4 p1 p2 p3 hx0
  obtain ⟨x2, g2, e5⟩ := tr_5 g1
  have z1 : (1 : Nat) ≤ SZ := by decide
  have z4 : (4 : Nat) ≤ SZ := by decide
  have hrun : ∀ (S : M.S) (q : Nat), S[q]? = some (.lst (ns.map .int)) → ∃ g j a b, ∀ o, (sSeq p__law_tree_6 p__law_tree_7 (trS q f j a b (some (enD x2))) (S ++ g)).out = o → m__law_tree [.ref q, .bl f] S = o := fun S q e => by
    have e1 : ∀ r : SM, (p__law_tree_1 [some (.ref q), some (.bl f), none, none, none, none] S).then r = r (trS q f S.length none none none) (S ++ [.lst [enD x]]) := fun r => by simp [p__law_tree_1, e, el, z1]
    obtain ⟨t', j', a', b', l1, l2⟩ := eloop S [.lst [enD x]] q S.length [(q, .lst (ns.map .int))] none none (by simp [gdOk, e]) (by simp)
    have e2 : ∀ r : SM, (p__law_tree_2 (trS q f S.length none none none) (S ++ [.lst [enD x]])).then r = r (trS q f j' a' b' none) (S ++ t') := fun r => by
      rw [tr_eq]
      have ee := app_get e [.lst [enD x]]
      have hg : gdOk [(q, .lst (ns.map .int))] (S ++ [.lst [enD x]]) = true := by simp [gdOk, ee]
      have hi : iEnum 0 (eVar 0) (trS q f S.length none none none) (S ++ [.lst [enD x]]) = .ok (enumL 0 (ns.map .int), [(q, .lst (ns.map .int))]) (S ++ [.lst [enD x]]) := by simp [ee]
      show ((sFor _ _ _ _ _).then r) = _
      unfold sFor
      rw [hi, R.stm_ok, if_pos hg, l1, RS.then_nx]
    have e3 : ∀ r : SM, (p__law_tree_3 (trS q f j' a' b' none) (S ++ t')).then r = r (trS q f j' a' b' (some (enD x0))) (S ++ t') := fun r => by
      have n1 : (-1 : Int) = -1 := rfl
      simp [p__law_tree_3, l2, e0, trS]
    obtain ⟨g4, e4'⟩ := e4 (S ++ t') q j' f a' b' l2
    obtain ⟨g5, e5'⟩ := e5 (S ++ t' ++ g4) q j' f a' b'
    refine ⟨t' ++ (g4 ++ g5), j', a', b', fun o h => ?_⟩
    show ((p__law_tree_1 [some (.ref q), some (.bl f), none, none, none, none] S).then (sSeq p__law_tree_2 (sSeq p__law_tree_3 (sSeq p__law_tree_4 (sSeq p__law_tree_5 (sSeq p__law_tree_6 p__law_tree_7)))))).out = o
    rw [e1]
    show ((p__law_tree_2 _ _).then _).out = o
    rw [e2]
    show ((p__law_tree_3 _ _).then _).out = o
    rw [e3]
    show ((p__law_tree_4 _ _).then _).out = o
    rw [e4']
    show ((p__law_tree_5 _ _).then _).out = o
    rw [e5']
    simp only [List.append_assoc]
    exact h
  by_cases c6 : x2.2 = true
  · refine ⟨enD lineX, ⟨lineX, rfl, line_gx, rfl⟩, fun S q e => ?_⟩
    obtain ⟨g, j, a, b, h⟩ := hrun S q e
    refine ⟨g, h _ ?_⟩
    rw [line_en]
    simp [-opIx, p__law_tree_6, ix3, c6, z1, z4]
  · refine ⟨enD x2, ⟨x2, rfl, g2, by simpa using c6⟩, fun S q e => ?_⟩
    obtain ⟨g, j, a, b, h⟩ := hrun S q e
    refine ⟨g, h _ ?_⟩
    simp [-opIx, p__law_tree_6, p__law_tree_7, ix3, c6]
theorem tree_ok (ns : List Int) (hn : ns.length ≤ 63) (f : Bool) : ∃ x, Gx 100 x ∧ x.2 = false ∧ ∀ (s : M.S) (p : Nat), s[p]? = some (.lst (ns.map .int)) → q__law_tree [.ref p, .bl f] s = .ok (enD x) s := by
  have h := tree_run ns hn f
  obtain ⟨⟨x, e, o, z⟩, _⟩ := h.choose_spec
  refine ⟨x, o, z, fun s p ep => ?_⟩
  simp only [q__law_tree, ep]
  rw [dif_pos h]
  exact congrArg (fun d => R.ok d s) e
def p_bare_told_1 : SM :=
    (sIf (tCmp cEq (eOp opIx (eVar 0) (eC (.int 0))) (eC (.str [116, 101, 120, 116])))
    (sRet (eOp opAdd (eOp opAdd (eC (.str [34])) (eOp opIx (eVar 0) (eC (.int 1)))) (eC (.str [34]))))
    sNil)
def p_bare_told_2 : SM :=
    (sIf (tCmp cEq (eOp opIx (eVar 0) (eC (.int 0))) (eC (.str [115, 116, 101, 109])))
    (sRet (eC (.str [42])))
    sNil)
def p_bare_told_3 : SM :=
    (sIf (tCmp cEq (eOp opIx (eVar 0) (eC (.int 0))) (eC (.str [116, 104, 105, 110, 103])))
    (sRet (eOp opIx (eVar 0) (eC (.int 1))))
    sNil)
def p_bare_told_4 : SM :=
    (sIf (tCmp cEq (eOp opIx (eVar 0) (eC (.int 0))) (eC (.str [107, 105, 110])))
    (sRet (eOp opAdd (eOp opIx (eVar 0) (eC (.int 1))) (eC (.str [46, 42]))))
    sNil)
def p_bare_told_5 : SM :=
    (sRet (eOp opIx (eVar 0) (eC (.int 0))))
def b_bare_told : SM := (sSeq p_bare_told_1 (sSeq p_bare_told_2 (sSeq p_bare_told_3 (sSeq p_bare_told_4 p_bare_told_5))))
def m_bare_told : F := fn 1 b_bare_told
def wText : T := [116, 101, 120, 116]
def wLine : T := [108, 105, 110, 101]
def wIt : T := [105, 116]
def wStem : T := [115, 116, 101, 109]
def wThing : T := [116, 104, 105, 110, 103]
def wKin : T := [107, 105, 110]
def wJoin : T := [106, 111, 105, 110]
def wIf : T := [105, 102]
def strOf : List D → T
  | [.str t] => t
  | _ => []
def bareT (k : T) (ds : List D) : T := if k = wText then 34 :: (strOf ds ++ [34]) else if k = wStem then [42] else if k = wThing then strOf ds else if k = wKin then strOf ds ++ [46, 42] else k
theorem gat_in : ∀ {ks : List (T × Int)} {k : T}, (gAt k ks).isSome = (ks.map (·.1)).contains k
  | [], k => rfl
  | p :: ks, k => by
    unfold gAt
    by_cases h : p.1 = k
    · simp [h]
    · have h' : ¬ k = p.1 := fun z => h z.symm
      simp [h, h', gat_in (ks := ks)]
theorem leaf_cases {k : T} {ds : List D} (hk : innW.contains k = false) (h : tOk true (.tup (.str k :: ds)) true = true) : (ds = [] ∧ (k = wIt ∨ k = wStem ∨ k = wLine)) ∨ ∃ t, ds = [.str t] ∧ (k = wText ∨ (k = wThing ∧ nameT t = true) ∨ k = wKin) := by
  rw [leaf_tok hk] at h
  simp only [partL] at h
  split at h
  · rename_i e; subst e; cases hk
  · split at h
    · rename_i n e
      have hg := gat_in (ks := PW) (k := k)
      rw [e] at hg
      have hkw : innW.contains k = true := by
        have e2 : innW = [106, 111, 105, 110] :: PW.map (·.1) := rfl
        rw [e2, List.contains_cons, ← hg]
        simp
      rw [hkw] at hk; cases hk
    · cases ds with
      | nil =>
        refine .inl ⟨rfl, ?_⟩
        have h' : bareB true true k = true := h
        unfold bareB at h'
        split at h'
        · exact .inl (by assumption)
        · split at h'
          · exact .inr (.inl (by assumption))
          · exact .inr (.inr (of_decide_eq_true h'))
      | cons x ds =>
        cases ds with
        | nil =>
          have h' : namedB true k x = true := h
          unfold namedB at h'
          split at h'
          · cases x with
            | str t => exact .inr ⟨t, rfl, .inl (by assumption)⟩
            | _ => cases h'
          · split at h'
            · cases x with
              | str t => exact .inr ⟨t, rfl, .inr (.inl ⟨by assumption, h'⟩)⟩
              | _ => cases h'
            · simp only [Bool.and_eq_true, decide_eq_true_eq] at h'
              cases x with
              | str t => exact .inr ⟨t, rfl, .inr (.inr h'.1.1)⟩
              | _ => simp [plainB] at h'
        | cons y ds => cases h
def lfOk (k : T) (ds : List D) : Prop := innW.contains k = false ∧ tOk true (.tup (.str k :: ds)) true = true ∧ ok (.tup (.str k :: ds)) = true
instance (k : T) (ds : List D) : Decidable (lfOk k ds) := by unfold lfOk; infer_instance
theorem lf_len {k t : T} (h : lfOk k [.str t]) : t.length ≤ 9000 := by
  obtain ⟨h1, _, h3⟩ := h
  have i : inn (.str k) = false := h1
  simp only [ok, okL, i, Bool.and_eq_true, Bool.false_eq_true, if_false, List.all_cons, shStr, decide_eq_true_eq] at h3
  exact h3.2.1
def q_bare_told : F
  | [.tup (.str k :: ds)], s => if lfOk k ds then .ok (.str (bareT k ds)) s else .no
  | _, _ => .no
theorem at0 (a : D) (ds : List D) : atI (a :: ds) 0 = some a := by
  unfold atI ixN
  have : (0 : Int) < ((a :: ds).length : Int) := by rw [List.length_cons]; omega
  rw [if_pos (by decide), if_pos this]; rfl
theorem bare_run {k : T} {ds : List D} {S : M.S} (h : lfOk k ds) : m_bare_told [.tup (.str k :: ds)] S = .ok (.str (bareT k ds)) S := by
  have i0 := at0
  rcases leaf_cases h.1 h.2.1 with ⟨rfl, e⟩ | ⟨t, rfl, e⟩
  · rcases e with rfl | rfl | rfl <;> simp [m_bare_told, b_bare_told, p_bare_told_1, p_bare_told_2, p_bare_told_3, p_bare_told_4, p_bare_told_5, i0, wIt, wStem, wLine, bareT, wText, wThing, wKin]
  · have hl := lf_len h
    have i1 : ∀ a b : D, atI [a, b] 1 = some b := fun _ _ => rfl
    have z1 : 1 + t.length ≤ SZ := by unfold SZ; omega
    have z2 : 1 + t.length + 1 ≤ SZ := by unfold SZ; omega
    have z3 : t.length + 1 + 1 ≤ SZ := by unfold SZ; omega
    have z4 : t.length + 2 ≤ SZ := by unfold SZ; omega
    rcases e with rfl | ⟨rfl, _⟩ | rfl <;> simp [m_bare_told, b_bare_told, p_bare_told_1, p_bare_told_2, p_bare_told_3, p_bare_told_4, p_bare_told_5, i0, i1, wIt, wStem, wLine, bareT, wText, wThing, wKin, strOf, z1, z2, z3, z4]
theorem rf_bare_told : Refines 1 m_bare_told q_bare_told := Refines.pure fun ds S hl c ca => by
  match ds, hl with
  | [a], _ =>
    cases a with
    | tup es =>
      cases es with
      | nil => exact .inl rfl
      | cons b ds =>
        cases b with
        | str k =>
          by_cases h : lfOk k ds
          · exact .inr ⟨_, [], by simp only [q_bare_told]; rw [if_pos h], by rw [List.append_nil]; exact bare_run h, rfl⟩
          · exact .inl (by simp only [q_bare_told]; rw [if_neg h])
        | _ => exact .inl rfl
    | _ => exact .inl rfl
def p_told_steps_1 : SM :=
    (sSet 1 (eOp opIx (eVar 0) (eC (.int 0))))
def p_told_steps_2 : SM :=
    (sIf (tCmp cIn (eVar 1) (eTup (aCons (eC (.str [116, 101, 120, 116])) (aCons (eC (.str [108, 105, 110, 101])) (aCons (eC (.str [105, 116])) (aCons (eC (.str [115, 116, 101, 109])) (aCons (eC (.str [116, 104, 105, 110, 103])) (aCons (eC (.str [107, 105, 110])) aNil))))))))
    (sRet (eLst (aCons (eCall q_bare_told (aCons (eVar 0) aNil)) aNil)))
    sNil)
def p_told_steps_3 : SM :=
    (sIf (tCmp cEq (eVar 1) (eC (.str [106, 111, 105, 110])))
    (sRet (eOp opAdd (eOp opAdd (eLst (aCons (eC (.str [40])) aNil)) (eCall fList (aCons (eSl (eVar 0) (oSome (eC (.int 1))) oNone) aNil))) (eLst (aCons (eC (.str [41])) aNil))))
    sNil)
def p_told_steps_4 : SM :=
    (sIf (tCmp cEq (eVar 1) (eC (.str [105, 102])))
    (sRet (eLst (aCons (eC (.str [105, 102])) (aCons (eOp opIx (eVar 0) (eC (.int 1))) (aCons (eC (.str [105, 115])) (aCons (eOp opIx (eVar 0) (eC (.int 2))) (aCons (eC (.str [116, 104, 101, 110])) (aCons (eOp opIx (eVar 0) (eC (.int 3))) (aCons (eC (.str [101, 108, 115, 101])) (aCons (eOp opIx (eVar 0) (eC (.int 4))) aNil))))))))))
    sNil)
def p_told_steps_5 : SM :=
    (sIf (tCmp cEq (eVar 1) (eC (.str [101, 97, 99, 104])))
    (sRet (eLst (aCons (eC (.str [101, 97, 99, 104])) (aCons (eOp opIx (eVar 0) (eC (.int 1))) (aCons (eC (.str [100, 111])) (aCons (eOp opIx (eVar 0) (eC (.int 2))) aNil))))))
    sNil)
def p_told_steps_6 : SM :=
    (sRet (eLst (aCons (eVar 1) (aCons (eOp opIx (eVar 0) (eC (.int 1))) aNil))))
def b_told_steps : SM := (sSeq p_told_steps_1 (sSeq p_told_steps_2 (sSeq p_told_steps_3 (sSeq p_told_steps_4 (sSeq p_told_steps_5 p_told_steps_6)))))
def m_told_steps : F := fn 2 b_told_steps
def stepsL (k : T) (ds : List D) : List D :=
  if innW.contains k = false then [.str (bareT k ds)] else if k = wJoin then .str [40] :: (ds ++ [.str [41]]) else
  match ds with
  | [a, b, c, d] => [.str wIf, a, .str [105, 115], b, .str [116, 104, 101, 110], c, .str [101, 108, 115, 101], d]
  | [a, b] => [.str wEach, a, .str [100, 111], b]
  | [a] => [.str k, a]
  | _ => []
def trOk (d : D) : Prop := tOk true d true = true ∧ ok d = true ∧ sz d ≤ 200
instance (d : D) : Decidable (trOk d) := by unfold trOk; infer_instance
theorem tok_shape {d : D} {w : Bool} (h : tOk true d w = true) : ∃ k ds, d = .tup (.str k :: ds) := by
  cases d with
  | tup es =>
    cases es with
    | nil => cases h
    | cons a ds =>
      cases a with
      | str k => exact ⟨k, ds, rfl⟩
      | _ => simp [tOk, partL] at h
  | _ => cases h
theorem toks_mem {w : Bool} : ∀ {ds : List D}, tOks true ds w = true → ∀ d ∈ ds, tOk true d w = true
  | [], _, d, h => by cases h
  | x :: ds, h, d, hd => by
    simp only [tOks, Bool.and_eq_true] at h
    rcases List.mem_cons.mp hd with rfl | hd
    · exact h.1
    · exact toks_mem h.2 d hd
theorem oks_mem : ∀ {ds : List D}, oks ds = true → ∀ d ∈ ds, ok d = true
  | [], _, d, h => by cases h
  | x :: ds, h, d, hd => by
    simp only [oks, Bool.and_eq_true] at h
    rcases List.mem_cons.mp hd with rfl | hd
    · exact h.1
    · exact oks_mem h.2 d hd
theorem toks_E {ds : List D} : tOkE true ds true = tOks true ds true := by
  cases ds with
  | nil => simp [tOkE, tOks]
  | cons d ds => simp [tOkE, tOks]
theorem tok_kids {k : T} {ds : List D} (hk : innW.contains k = true) (h : tOk true (.tup (.str k :: ds)) true = true) : arB k ds.length = true ∧ tOks true ds true = true := by
  rw [tok_inner hk] at h
  simp only [Bool.and_eq_true] at h
  have h2 := h.2
  refine ⟨h.1, ?_⟩
  split at h2
  · rw [toks_E] at h2; exact h2
  · exact h2
theorem sz_mem : ∀ {ds : List D} {d : D}, d ∈ ds → sz d ≤ szs ds
  | x :: ds, d, h => by
    simp only [szs]
    rcases List.mem_cons.mp h with rfl | h
    · omega
    · have := sz_mem h; omega
theorem sz_node {k : T} {ds : List D} (hk : innW.contains k = true) : sz (.tup (.str k :: ds)) = szs ds + 1 := by
  have i : inn (.str k) = true := hk
  simp [sz, szT, i]
theorem tr_kids {k : T} {ds : List D} (hk : innW.contains k = true) (h : trOk (.tup (.str k :: ds))) : arB k ds.length = true ∧ ds.length ≤ 200 ∧ ∀ d ∈ ds, trOk d := by
  obtain ⟨h1, h2, h3⟩ := h
  obtain ⟨a, b⟩ := tok_kids hk h1
  have i : inn (.str k) = true := hk
  have o : oks ds = true := by
    simp only [ok, okL, i, if_true, Bool.and_eq_true] at h2
    exact h2.2
  rw [sz_node hk] at h3
  have := szs_lev ds
  exact ⟨a, by omega, fun d hd => ⟨toks_mem b d hd, oks_mem o d hd, by have := sz_mem hd; omega⟩⟩
theorem inn_split {k : T} {ds : List D} (hk : innW.contains k = true) (h : trOk (.tup (.str k :: ds))) : (k = wJoin ∧ 2 ≤ ds.length) ∨ (k = wIf ∧ ∃ a b c d, ds = [a, b, c, d]) ∨ (k = wEach ∧ ∃ a b, ds = [a, b]) ∨ (k ≠ wJoin ∧ k ≠ wIf ∧ k ≠ wEach ∧ ∃ a, ds = [a]) := by
  have ha := (tr_kids hk h).1
  have h1 : ∀ {n : Nat}, decide ((ds.length : Int) = (n : Int)) = true → ds.length = n := fun e => by have := of_decide_eq_true e; omega
  have e1 : ds.length = 1 → ∃ a, ds = [a] := fun e => by
    match ds, e with
    | [a], _ => exact ⟨a, rfl⟩
  have hm := inn_cases hk
  simp only [innW, List.mem_cons, List.not_mem_nil, or_false] at hm
  rcases hm with rfl | rfl | rfl | rfl | rfl | rfl | rfl | rfl | rfl | rfl
  · exact .inl ⟨rfl, of_decide_eq_true ha⟩
  · exact .inr (.inr (.inr ⟨by decide, by decide, by decide, e1 (h1 (n := 1) ha)⟩))
  · refine .inr (.inl ⟨rfl, ?_⟩)
    have e := h1 (n := 4) ha
    match ds, e with
    | [a, b, c, d], _ => exact ⟨a, b, c, d, rfl⟩
  · refine .inr (.inr (.inl ⟨rfl, ?_⟩))
    have e := h1 (n := 2) ha
    match ds, e with
    | [a, b], _ => exact ⟨a, b, rfl⟩
  · exact .inr (.inr (.inr ⟨by decide, by decide, by decide, e1 (h1 (n := 1) ha)⟩))
  · exact .inr (.inr (.inr ⟨by decide, by decide, by decide, e1 (h1 (n := 1) ha)⟩))
  · exact .inr (.inr (.inr ⟨by decide, by decide, by decide, e1 (h1 (n := 1) ha)⟩))
  · exact .inr (.inr (.inr ⟨by decide, by decide, by decide, e1 (h1 (n := 1) ha)⟩))
  · exact .inr (.inr (.inr ⟨by decide, by decide, by decide, e1 (h1 (n := 1) ha)⟩))
  · exact .inr (.inr (.inr ⟨by decide, by decide, by decide, e1 (h1 (n := 1) ha)⟩))
def q_told_steps : F
  | [.tup (.str k :: ds)], s => if trOk (.tup (.str k :: ds)) then alloc (.lst (stepsL k ds)) s else .no
  | _, _ => .no
theorem cut1 (a : D) (ds : List D) (s : M.S) : slD (.tup (a :: ds)) (some 1) none s = .ok (.tup ds) s := by
  have hs : ¬ (sIx (ds.length + 1) 0 (some 1) = 0 ∧ sIx (ds.length + 1) (ds.length + 1) none = ds.length + 1) := fun h => by
    have := h.1
    unfold sIx at this
    simp only at this
    split at this <;> omega
  have hc : cut (a :: ds) (some 1) none = ds := by rw [cut_lo _ (by decide)]; rfl
  simp [hs, hc]
theorem lf_of {k : T} {ds : List D} (hk : innW.contains k = false) (h : trOk (.tup (.str k :: ds))) : lfOk k ds := ⟨hk, h.1, h.2.1⟩
theorem steps_run {k : T} {ds : List D} {S : M.S} (h : trOk (.tup (.str k :: ds))) : ∃ g, m_told_steps [.tup (.str k :: ds)] S = .ok (.ref (S ++ g).length) (S ++ g ++ [.lst (stepsL k ds)]) := by
  have i0 := at0
  have z1 : (1 : Nat) ≤ SZ := by decide
  have z6 : (6 : Nat) ≤ SZ := by decide
  have z8 : (8 : Nat) ≤ SZ := by decide
  have z4 : (4 : Nat) ≤ SZ := by decide
  have z2 : (2 : Nat) ≤ SZ := by decide
  by_cases hk : innW.contains k = false
  · have lf := lf_of hk h
    have hq : q_bare_told [.tup (.str k :: ds)] S = .ok (.str (bareT k ds)) S := by simp only [q_bare_told]; rw [if_pos lf]
    have es : stepsL k ds = [.str (bareT k ds)] := by unfold stepsL; rw [if_pos hk]
    refine ⟨[], ?_⟩
    rw [es]
    have hm : k = wText ∨ k = wLine ∨ k = wIt ∨ k = wStem ∨ k = wThing ∨ k = wKin := by
      rcases leaf_cases hk h.1 with ⟨_, e⟩ | ⟨t, _, e⟩
      · rcases e with e | e | e <;> simp [e]
      · rcases e with e | ⟨e, _⟩ | e <;> simp [e]
    generalize bareT k ds = bt at *
    rcases hm with rfl | rfl | rfl | rfl | rfl | rfl <;> simp only [wText, wLine, wIt, wStem, wThing, wKin] at hq <;> simp [m_told_steps, b_told_steps, p_told_steps_1, p_told_steps_2, i0, wText, wLine, wIt, wStem, wThing, wKin, flat, memF, eqF, z1, z6, hq]
  · have hk' : innW.contains k = true := by simpa using hk
    have es : stepsL k ds = if k = wJoin then .str [40] :: (ds ++ [.str [41]]) else match ds with
      | [a, b, c, d] => [.str wIf, a, .str [105, 115], b, .str [116, 104, 101, 110], c, .str [101, 108, 115, 101], d]
      | [a, b] => [.str wEach, a, .str [100, 111], b]
      | [a] => [.str k, a]
      | _ => [] := by unfold stepsL; rw [if_neg hk]
    have hl := (tr_kids hk' h).2.1
    have nl : ∀ w : T, innW.contains w = false → ¬ w = k := fun w hw e => by rw [e, hk'] at hw; cases hw
    have n1 := nl [116, 101, 120, 116] (by decide)
    have n2 := nl [108, 105, 110, 101] (by decide)
    have n3 := nl [105, 116] (by decide)
    have n4 := nl [115, 116, 101, 109] (by decide)
    have n5 := nl [116, 104, 105, 110, 103] (by decide)
    have n6 := nl [107, 105, 110] (by decide)
    rw [es]
    rcases inn_split hk' h with ⟨rfl, _⟩ | ⟨rfl, a, b, c, d, rfl⟩ | ⟨rfl, a, b, rfl⟩ | ⟨m1, m2, m3, a, rfl⟩
    · have zz : 1 + ds.length ≤ SZ := by unfold SZ; omega
      have zz2 : 1 + ds.length + 1 ≤ SZ := by unfold SZ; omega
      have zz3 : ds.length + 1 + 1 ≤ SZ := by unfold SZ; omega
      have zz4 : ds.length + 1 ≤ SZ := by unfold SZ; omega
      have c1 := cut1
      refine ⟨[.lst [.str [40]], .lst ds, .lst (.str [40] :: ds), .lst [.str [41]]], ?_⟩
      simp [-slD, m_told_steps, b_told_steps, p_told_steps_1, p_told_steps_2, p_told_steps_3, i0, wJoin, flat, memF, eqF, z1, z6, c1, zz, zz2, zz3, zz4]
    · have i1 : ∀ a b c d e : D, atI [a, b, c, d, e] 1 = some b := fun _ _ _ _ _ => rfl
      have i2 : ∀ a b c d e : D, atI [a, b, c, d, e] 2 = some c := fun _ _ _ _ _ => rfl
      have i3 : ∀ a b c d e : D, atI [a, b, c, d, e] 3 = some d := fun _ _ _ _ _ => rfl
      have i4 : ∀ a b c d e : D, atI [a, b, c, d, e] 4 = some e := fun _ _ _ _ _ => rfl
      refine ⟨[], ?_⟩
      simp [m_told_steps, b_told_steps, p_told_steps_1, p_told_steps_2, p_told_steps_3, p_told_steps_4, i0, i1, i2, i3, i4, wIf, wJoin, flat, memF, eqF, z1, z6, z8]
    · have i1 : ∀ a b c : D, atI [a, b, c] 1 = some b := fun _ _ _ => rfl
      have i2 : ∀ a b c : D, atI [a, b, c] 2 = some c := fun _ _ _ => rfl
      refine ⟨[], ?_⟩
      simp [m_told_steps, b_told_steps, p_told_steps_1, p_told_steps_2, p_told_steps_3, p_told_steps_4, p_told_steps_5, i0, i1, i2, wIf, wJoin, wEach, flat, memF, eqF, z1, z6, z4]
    · have i1 : ∀ a b : D, atI [a, b] 1 = some b := fun _ _ => rfl
      have m1' : ¬ k = [106, 111, 105, 110] := m1
      have m2' : ¬ k = [105, 102] := m2
      have m3' : ¬ k = [101, 97, 99, 104] := m3
      refine ⟨[], ?_⟩
      simp [m_told_steps, b_told_steps, p_told_steps_1, p_told_steps_2, p_told_steps_3, p_told_steps_4, p_told_steps_5, p_told_steps_6, i0, i1, flat, memF, eqF, z1, z6, z2, n1, n2, n3, n4, n5, n6, m1, m1', m2', m3']
theorem steps_cl {k : T} {ds : List D} (h : trOk (.tup (.str k :: ds))) (n : Nat) : D.cl.all n (stepsL k ds) = true := by
  have al : ∀ l : List D, (∀ d ∈ l, D.cl n d = true) → D.cl.all n l = true := fun l => by
    induction l with
    | nil => intro _; rfl
    | cons d l ih => intro h; show (D.cl n d && D.cl.all n l) = true; rw [h d List.mem_cons_self, ih fun x hx => h x (List.mem_cons_of_mem _ hx)]; rfl
  apply al
  by_cases hk : innW.contains k = false
  · unfold stepsL
    rw [if_pos hk]
    intro d hd
    rw [List.mem_singleton.mp hd]; rfl
  · have hk' : innW.contains k = true := by simpa using hk
    have kd : ∀ d ∈ ds, D.cl n d = true := fun d hd => ok_cl n d ((tr_kids hk' h).2.2 d hd).2.1
    unfold stepsL
    rw [if_neg hk]
    rcases inn_split hk' h with ⟨rfl, _⟩ | ⟨rfl, a, b, c, d, rfl⟩ | ⟨rfl, a, b, rfl⟩ | ⟨m1, m2, m3, a, rfl⟩
    · rw [if_pos rfl]
      intro d hd
      rcases List.mem_cons.mp hd with rfl | hd
      · rfl
      · rcases List.mem_append.mp hd with hd | hd
        · exact kd d hd
        · rw [List.mem_singleton.mp hd]; rfl
    · rw [if_neg (by decide)]
      simp at kd ⊢
      exact ⟨rfl, kd.1, rfl, kd.2.1, rfl, kd.2.2.1, rfl, kd.2.2.2⟩
    · rw [if_neg (by decide)]
      simp at kd ⊢
      exact ⟨rfl, kd.1, rfl, kd.2⟩
    · rw [if_neg m1]
      simp at kd ⊢
      exact ⟨rfl, kd⟩
theorem rf_told_steps : Refines 1 m_told_steps q_told_steps := Refines.new fun ds S hl c ca => by
  match ds, hl with
  | [a], _ =>
    cases a with
    | tup es =>
      cases es with
      | nil => exact .inl rfl
      | cons b ds =>
        cases b with
        | str k =>
          by_cases h : trOk (.tup (.str k :: ds))
          · obtain ⟨g, e⟩ := steps_run (S := S) h
            refine .inr ⟨.lst (stepsL k ds), (S ++ g).length, g ++ [.lst (stepsL k ds)], by simp only [q_told_steps]; rw [if_pos h], by rw [e, List.append_assoc], by rw [← List.append_assoc]; simp, by simp, steps_cl h _⟩
          · exact .inl (by simp only [q_told_steps]; rw [if_neg h])
        | _ => exact .inl rfl
    | _ => exact .inl rfl
def p_told_tokens_1 : SM :=
    (sSet 1 (eIf (tCmp cEq (eOp opIx (eVar 0) (eC (.int 0))) (eC (.str [106, 111, 105, 110]))) (eCall fListRev (aCons (eSl (eVar 0) (oSome (eC (.int 1))) oNone) aNil)) (eLst (aCons (eVar 0) aNil))))
def p_told_tokens_2 : SM :=
    (sSet 2 (eLst aNil))
def p_told_tokens_3 : SM :=
    (sWhile (tCmp cGt (eCall fLen (aCons (eVar 1) aNil)) (eC (.int 0)))
    (sSeq (sSet 3 (eM .list mPop (eVar 1) aNil))
    (sIf (tTru (eCall fIsi (aCons (eVar 3) (aCons (eC (.ty .str)) aNil))))
    (sExpr (eM .list mAppend (eVar 2) (aCons (eVar 3) aNil)))
    (sExpr (eM .list mExtend (eVar 1) (aCons (eCall fListRev (aCons (eCall q_told_steps (aCons (eVar 3) aNil)) aNil)) aNil))))))
def p_told_tokens_4 : SM :=
    (sRet (eVar 2))
def b_told_tokens : SM := (sSeq p_told_tokens_1 (sSeq p_told_tokens_2 (sSeq p_told_tokens_3 p_told_tokens_4)))
def m_told_tokens : F := fn 4 b_told_tokens
def kwT (k : T) : List T := if k = wIf then [wIf, [105, 115], [116, 104, 101, 110], [101, 108, 115, 101]] else if k = wEach then [wEach, [100, 111]] else [k]
def wd (w : T) : List T := if w = [] then [] else [w]
mutual
def tk : D → List T
  | .str t => [t]
  | .tup ds => tkL ds
  | _ => []
def tkL : List D → List T
  | .str k :: ds => if innW.contains k = false then [bareT k ds] else if k = wJoin then [40] :: (tkz ds [] ++ [[41]]) else tkz ds (kwT k)
  | _ => []
def tkz : List D → List T → List T
  | [], _ => []
  | d :: ds, ws => wd (ws.headD []) ++ (tk d ++ tkz ds ws.tail)
end
theorem tkz_flat : ∀ ds : List D, tkz ds [] = ds.flatMap tk
  | [] => by simp [tkz]
  | d :: ds => by
    rw [tkz, List.flatMap_cons]
    show wd [] ++ (tk d ++ tkz ds []) = _
    rw [tkz_flat ds]
    rfl
theorem tk_node {k : T} {ds : List D} : tk (.tup (.str k :: ds)) = if innW.contains k = false then [bareT k ds] else if k = wJoin then [40] :: (tkz ds [] ++ [[41]]) else tkz ds (kwT k) := by simp only [tk, tkL]
theorem inn_wd {k : T} (hk : innW.contains k = true) : wd k = [k] := by
  unfold wd
  rw [if_neg]
  intro e
  rw [e] at hk
  revert hk
  decide
theorem steps_tk {k : T} {ds : List D} (h : trOk (.tup (.str k :: ds))) : (stepsL k ds).flatMap tk = tk (.tup (.str k :: ds)) := by
  rw [tk_node]
  unfold stepsL
  by_cases hk : innW.contains k = false
  · rw [if_pos hk, if_pos hk]; simp [tk]
  · rw [if_neg hk, if_neg hk]
    have hk' : innW.contains k = true := by simpa using hk
    rcases inn_split hk' h with ⟨rfl, _⟩ | ⟨rfl, a, b, c, d, rfl⟩ | ⟨rfl, a, b, rfl⟩ | ⟨m1, m2, m3, a, rfl⟩
    · rw [if_pos rfl, if_pos rfl, tkz_flat, List.flatMap_cons, List.flatMap_append]
      simp [tk]
    · rw [if_neg (by decide), if_neg (by decide)]
      simp [tk, tkz, kwT, wd, wIf]
    · rw [if_neg (by decide), if_neg (by decide)]
      simp [tk, tkz, kwT, wd, wIf, wEach]
    · rw [if_neg m1, if_neg m1]
      have e : kwT k = [k] := by unfold kwT; rw [if_neg m2, if_neg m3]
      rw [e]
      simp [tk, tkz, inn_wd hk']
def pt : D → Nat
  | .str _ => 1
  | d => 5 * sz d
def pts : List D → Nat
  | [] => 0
  | d :: ds => pt d + pts ds
theorem pts_app : ∀ a b : List D, pts (a ++ b) = pts a + pts b
  | [], b => by simp [pts]
  | d :: a, b => by simp only [List.cons_append, pts, pts_app a b]; omega
theorem pt_tr {d : D} (h : trOk d) : pt d = 5 * sz d := by
  obtain ⟨k, ds, rfl⟩ := tok_shape h.1
  rfl
theorem pts_tr : ∀ {ds : List D}, (∀ d ∈ ds, trOk d) → pts ds = 5 * szs ds
  | [], _ => by simp [pts, szs]
  | d :: ds, h => by
    rw [pts, szs, pt_tr (h d List.mem_cons_self), pts_tr fun x hx => h x (List.mem_cons_of_mem _ hx)]
    omega
theorem steps_pt {k : T} {ds : List D} (h : trOk (.tup (.str k :: ds))) : pts (stepsL k ds) + 1 ≤ 5 * sz (.tup (.str k :: ds)) := by
  unfold stepsL
  by_cases hk : innW.contains k = false
  · rw [if_pos hk]
    have := sz_kids (.tup (.str k :: ds))
    simp only [pts, pt]
    omega
  · rw [if_neg hk]
    have hk' : innW.contains k = true := by simpa using hk
    have hp := pts_tr (tr_kids hk' h).2.2
    rw [sz_node hk']
    rcases inn_split hk' h with ⟨rfl, _⟩ | ⟨rfl, a, b, c, d, rfl⟩ | ⟨rfl, a, b, rfl⟩ | ⟨m1, m2, m3, a, rfl⟩
    · rw [if_pos rfl]
      simp only [pts, pts_app, pt]
      omega
    · rw [if_neg (by decide)]
      simp only [pts] at hp ⊢
      have p : ∀ t : T, pt (.str t) = 1 := fun _ => rfl
      simp only [p]
      omega
    · rw [if_neg (by decide)]
      simp only [pts] at hp ⊢
      have p : ∀ t : T, pt (.str t) = 1 := fun _ => rfl
      simp only [p]
      omega
    · rw [if_neg m1]
      simp only [pts] at hp ⊢
      have p : ∀ t : T, pt (.str t) = 1 := fun _ => rfl
      simp only [p]
      omega
def tkG (t : T) : Prop := t ≠ [] ∧ t.length ≤ 9002 ∧ (t.getLast? = some 40 → t = [40])
instance (t : T) : Decidable (tkG t) := by unfold tkG; infer_instance
theorem split_mem : ∀ (x : T) (c : Nat), c ∈ x → c = 46 ∨ ∃ u ∈ splitT 46 x, c ∈ u
  | [], c, h => by cases h
  | d :: r, c, h => by
    unfold splitT
    by_cases hd : d = 46
    · rw [if_pos hd]
      rcases List.mem_cons.mp h with e | h
      · exact .inl (e.trans hd)
      · rcases split_mem r c h with e | ⟨u, hu, hc⟩
        · exact .inl e
        · exact .inr ⟨u, List.mem_cons_of_mem _ hu, hc⟩
    · rw [if_neg hd]
      rcases List.mem_cons.mp h with e | h
      · refine .inr ?_
        cases splitT 46 r with
        | nil => exact ⟨[d], List.mem_singleton.mpr rfl, List.mem_singleton.mpr e⟩
        | cons p ps => exact ⟨d :: p, List.mem_cons_self, by rw [e]; exact List.mem_cons_self⟩
      · rcases split_mem r c h with e | ⟨u, hu, hc⟩
        · exact .inl e
        · refine .inr ?_
          cases q : splitT 46 r with
          | nil => rw [q] at hu; cases hu
          | cons p ps =>
            rw [q] at hu
            rcases List.mem_cons.mp hu with e | hu
            · exact ⟨d :: p, List.mem_cons_self, List.mem_cons_of_mem _ (e ▸ hc)⟩
            · exact ⟨u, List.mem_cons_of_mem _ hu, hc⟩
theorem name_tk {t : T} (h : nameT t = true) (hl : t.length ≤ 9000) : tkG t := by
  unfold nameT at h
  rw [Bool.and_eq_true] at h
  have ha := List.all_eq_true.mp h.2
  refine ⟨fun e => ?_, by omega, fun e => ?_⟩
  · subst e
    have := ha [] (by simp [splitT])
    revert this
    decide
  · exfalso
    have hm : (40 : Nat) ∈ t := List.mem_of_getLast? e
    rcases split_mem t 40 hm with e | ⟨u, hu, hc⟩
    · cases e
    · have := plain_lets (ha u hu) 40 hc
      omega
theorem last_app {x : T} {c : Nat} : (x ++ [c]).getLast? = some c := by simp
theorem bare_tk {k : T} {ds : List D} (h : lfOk k ds) : tkG (bareT k ds) := by
  rcases leaf_cases h.1 h.2.1 with ⟨rfl, e⟩ | ⟨t, rfl, e⟩
  · rcases e with rfl | rfl | rfl <;> decide
  · have hl := lf_len h
    rcases e with rfl | ⟨rfl, e⟩ | rfl
    · have eb : bareT wText [.str t] = (34 :: t) ++ [34] := rfl
      rw [eb]
      exact ⟨by simp, by simp; omega, fun e => by rw [last_app] at e; cases e⟩
    · exact name_tk e hl
    · have eb : bareT wKin [.str t] = (t ++ [46]) ++ [42] := by
        have : bareT wKin [.str t] = t ++ [46, 42] := rfl
        rw [this]; simp
      rw [eb]
      exact ⟨by simp, by simp; omega, fun e => by rw [last_app] at e; cases e⟩
def elOk : D → Prop
  | .str t => tkG t
  | d => trOk d
theorem el_tr {d : D} (h : trOk d) : elOk d := by
  obtain ⟨k, ds, rfl⟩ := tok_shape h.1
  exact h
theorem steps_el {k : T} {ds : List D} (h : trOk (.tup (.str k :: ds))) : ∀ d ∈ stepsL k ds, elOk d := by
  unfold stepsL
  by_cases hk : innW.contains k = false
  · rw [if_pos hk]
    intro d hd
    rw [List.mem_singleton.mp hd]
    exact bare_tk (lf_of hk h)
  · rw [if_neg hk]
    have hk' : innW.contains k = true := by simpa using hk
    have kd : ∀ d ∈ ds, elOk d := fun d hd => el_tr ((tr_kids hk' h).2.2 d hd)
    have w : ∀ t : T, tkG t → elOk (.str t) := fun _ h => h
    rcases inn_split hk' h with ⟨rfl, _⟩ | ⟨rfl, a, b, c, d, rfl⟩ | ⟨rfl, a, b, rfl⟩ | ⟨m1, m2, m3, a, rfl⟩
    · rw [if_pos rfl]
      intro d hd
      rcases List.mem_cons.mp hd with rfl | hd
      · exact w _ (by decide)
      · rcases List.mem_append.mp hd with hd | hd
        · exact kd d hd
        · rw [List.mem_singleton.mp hd]; exact w _ (by decide)
    · rw [if_neg (by decide)]
      simp only [List.forall_mem_cons, List.not_mem_nil, false_imp_iff, implies_true, and_true] at kd ⊢
      exact ⟨w _ (by decide), kd.1, w _ (by decide), kd.2.1, w _ (by decide), kd.2.2.1, w _ (by decide), kd.2.2.2⟩
    · rw [if_neg (by decide)]
      simp only [List.forall_mem_cons, List.not_mem_nil, false_imp_iff, implies_true, and_true] at kd ⊢
      exact ⟨w _ (by decide), kd.1, w _ (by decide), kd.2⟩
    · rw [if_neg m1]
      simp only [List.forall_mem_cons, List.not_mem_nil, false_imp_iff, implies_true, and_true] at kd ⊢
      exact ⟨w _ (inn_all (Pr := tkG) (by decide) hk'), kd⟩
abbrev ttTest : TM := tCmp cGt (eCall fLen (aCons (eVar 1) aNil)) (eC (.int 0))
abbrev ttBody : SM := sSeq (sSet 3 (eM .list mPop (eVar 1) aNil))
    (sIf (tTru (eCall fIsi (aCons (eVar 3) (aCons (eC (.ty .str)) aNil))))
    (sExpr (eM .list mAppend (eVar 2) (aCons (eVar 3) aNil)))
    (sExpr (eM .list mExtend (eVar 1) (aCons (eCall fListRev (aCons (eCall q_told_steps (aCons (eVar 3) aNil)) aNil)) aNil))))
theorem tt_eq : p_told_tokens_3 = sWhile ttTest ttBody := rfl
theorem pre_set {S s : M.S} {j : Nat} {o : O} (h : S <+: s) (hj : S.length ≤ j) : S <+: s.set j o := by
  obtain ⟨t, rfl⟩ := h
  rw [List.set_append, if_neg (by omega)]
  exact List.prefix_append _ _
theorem tt_test {s : M.S} {v0 v3 : Option D} {i j : Nat} {L : List D} (e : s[j]? = some (.lst L)) : ttTest [v0, some (.ref j), some (.ref i), v3] s = .ok (decide (0 < L.length)) s := by
  simp [e]
theorem tt_loop {S : M.S} {v0 : Option D} : ∀ (n : Nat) (L : List D) (acc : List T) (s : M.S) (i j N : Nat) (v3 : Option D), pts L ≤ n → n < N → acc.length + n ≤ 2000 → (∀ d ∈ L, elOk d) → S <+: s → S.length ≤ i → S.length ≤ j → i ≠ j → s[j]? = some (.lst L.reverse) → s[i]? = some (.lst (acc.map .str)) →
    ∃ s' v3', whileF N ttTest ttBody [v0, some (.ref j), some (.ref i), v3] s = .nx [v0, some (.ref j), some (.ref i), v3'] s' ∧ S <+: s' ∧ s'[i]? = some (.lst ((acc ++ L.flatMap tk).map .str)) := by
  intro n
  induction n with
  | zero =>
    intro L acc s i j N v3 hp hN ha ho hS hi hj hij ej ei
    obtain ⟨N', rfl⟩ : ∃ N', N = N' + 1 := ⟨N - 1, by omega⟩
    have hL : L = [] := by
      cases L with
      | nil => rfl
      | cons d L =>
        have := ho d List.mem_cons_self
        have : 1 ≤ pt d := by
          cases d with
          | str t => exact Nat.le_refl _
          | tup ds => have := sz_kids (.tup ds); show 1 ≤ 5 * sz (.tup ds); omega
          | _ => cases this.1
        simp only [pts] at hp
        omega
    subst hL
    refine ⟨s, v3, ?_, hS, by simpa using ei⟩
    rw [whileF, tt_test ej]
    simp
  | succ n ih =>
    intro L acc s i j N v3 hp hN ha ho hS hi hj hij ej ei
    obtain ⟨N', rfl⟩ : ∃ N', N = N' + 1 := ⟨N - 1, by omega⟩
    cases L with
    | nil =>
      refine ⟨s, v3, ?_, hS, by simpa using ei⟩
      rw [whileF, tt_test ej]
      simp
    | cons d L =>
      rw [List.reverse_cons] at ej
      have hjl : j < s.length := by
        rcases Nat.lt_or_ge j s.length with h | h
        · exact h
        · rw [List.getElem?_eq_none h] at ej; cases ej
      have hil : i < s.length := by
        rcases Nat.lt_or_ge i s.length with h | h
        · exact h
        · rw [List.getElem?_eq_none h] at ei; cases ei
      have et := tt_test (v0 := v0) (v3 := v3) (i := i) ej
      have hpos : decide (0 < (L.reverse ++ [d]).length) = true := by simp
      rw [hpos] at et
      have hd := ho d List.mem_cons_self
      have ho' : ∀ x ∈ L, elOk x := fun x hx => ho x (List.mem_cons_of_mem _ hx)
      have hji : ¬ j = i := fun e => hij e.symm
      rw [whileF, et, R.stm_ok, if_pos rfl]
      simp only [pts] at hp
      have e1 : ∀ r : SM, sSeq (sSet 3 (eM .list mPop (eVar 1) aNil)) r [v0, some (.ref j), some (.ref i), v3] s = r [v0, some (.ref j), some (.ref i), some d] (s.set j (.lst L.reverse)) := fun r => by
        simp [ej]
      have gi : (s.set j (.lst L.reverse))[i]? = some (.lst (acc.map .str)) := by rw [List.getElem?_set_ne hji]; exact ei
      have gj : (s.set j (.lst L.reverse))[j]? = some (.lst L.reverse) := by rw [List.getElem?_set_self hjl]
      have hl1 : (s.set j (.lst L.reverse)).length = s.length := List.length_set
      have hS1 := pre_set (o := .lst L.reverse) hS hj
      generalize s.set j (.lst L.reverse) = s1 at *
      rw [ttBody, e1]
      cases d with
      | str t =>
        have zz : acc.length < SZ := by unfold SZ; omega
        have e2 : sIf (tTru (eCall fIsi (aCons (eVar 3) (aCons (eC (.ty .str)) aNil)))) (sExpr (eM .list mAppend (eVar 2) (aCons (eVar 3) aNil))) (sExpr (eM .list mExtend (eVar 1) (aCons (eCall fListRev (aCons (eCall q_told_steps (aCons (eVar 3) aNil)) aNil)) aNil))) [v0, some (.ref j), some (.ref i), some (.str t)] s1 = .nx [v0, some (.ref j), some (.ref i), some (.str t)] (s1.set i (.lst (acc.map .str ++ [.str t]))) := by
          simp [gi, isKind, zz]
        rw [e2]
        obtain ⟨s', v3', h1, h2, h3⟩ := ih L (acc ++ [t]) (s1.set i (.lst (acc.map .str ++ [.str t]))) i j N' (some (.str t)) (by simp only [pt] at hp; omega) (by omega) (by simp; omega) ho' (pre_set hS1 hi) hi hj hij (by rw [List.getElem?_set_ne hij]; exact gj) (by rw [List.getElem?_set_self (by omega)]; simp)
        refine ⟨s', v3', h1, h2, ?_⟩
        rw [h3]
        simp [tk]
      | tup es =>
        have hd' : trOk (.tup es) := hd
        obtain ⟨k, ds, ee⟩ := tok_shape hd'.1
        cases ee
        have hq : ∀ s : M.S, q_told_steps [.tup (.str k :: ds)] s = .ok (.ref s.length) (s ++ [.lst (stepsL k ds)]) := fun s => by simp only [q_told_steps]; rw [if_pos hd']; rfl
        have hsp := steps_pt hd'
        have hpt : pt (.tup (.str k :: ds)) = 5 * sz (.tup (.str k :: ds)) := rfl
        have hlen : ∀ l : List D, (∀ x ∈ l, elOk x) → l.length ≤ pts l := fun l => by
          induction l with
          | nil => intro _; exact Nat.zero_le _
          | cons x l ihl =>
            intro h
            have hx := h x List.mem_cons_self
            have : 1 ≤ pt x := by
              cases x with
              | str t => exact Nat.le_refl _
              | tup ds => have := sz_kids (.tup ds); show 1 ≤ 5 * sz (.tup ds); omega
              | _ => cases hx.1
            have := ihl fun y hy => h y (List.mem_cons_of_mem _ hy)
            simp only [pts, List.length_cons]
            omega
        have l1 := hlen _ (steps_el hd')
        have l2 := hlen _ ho'
        have zz : L.length + (stepsL k ds).length ≤ SZ := by unfold SZ; omega
        have jn : ¬ j = s1.length + 1 := by omega
        have gj2 : ∀ g : M.S, (s1 ++ g)[j]? = some (.lst L.reverse) := fun g => app_get gj g
        have gk : (s1 ++ [O.lst (stepsL k ds), O.lst (stepsL k ds).reverse])[s1.length + 1]? = some (.lst (stepsL k ds).reverse) := by
          rw [List.getElem?_append_right (by omega)]; simp
        have e2 : sIf (tTru (eCall fIsi (aCons (eVar 3) (aCons (eC (.ty .str)) aNil)))) (sExpr (eM .list mAppend (eVar 2) (aCons (eVar 3) aNil))) (sExpr (eM .list mExtend (eVar 1) (aCons (eCall fListRev (aCons (eCall q_told_steps (aCons (eVar 3) aNil)) aNil)) aNil))) [v0, some (.ref j), some (.ref i), some (.tup (.str k :: ds))] s1 = .nx [v0, some (.ref j), some (.ref i), some (.tup (.str k :: ds))] ((s1 ++ [O.lst (stepsL k ds), O.lst (stepsL k ds).reverse]).set j (.lst (L.reverse ++ (stepsL k ds).reverse))) := by
          simp [gj, gj2, gk, isKind, zz, hq, jn]
        rw [e2]
        obtain ⟨s', v3', h1, h2, h3⟩ := ih (stepsL k ds ++ L) acc ((s1 ++ [O.lst (stepsL k ds), O.lst (stepsL k ds).reverse]).set j (.lst (L.reverse ++ (stepsL k ds).reverse))) i j N' (some (.tup (.str k :: ds))) (by rw [pts_app]; omega) (by omega) (by omega) (fun x hx => by
            rcases List.mem_append.mp hx with hx | hx
            · exact steps_el hd' x hx
            · exact ho' x hx) (pre_set (hS1.trans (List.prefix_append _ _)) hj) hi hj hij (by rw [List.getElem?_set_self (by simp; omega)]; simp) (by rw [List.getElem?_set_ne hji]; exact app_get gi _)
        refine ⟨s', v3', h1, h2, ?_⟩
        rw [h3, List.flatMap_append, steps_tk hd', List.flatMap_cons]
      | _ => cases hd.1
def topT (k : T) (ds : List D) : List T := if k = wJoin then tkz ds [] else tk (.tup (.str k :: ds))
def q_told_tokens : F
  | [.tup (.str k :: ds)], s => if trOk (.tup (.str k :: ds)) then alloc (.lst ((topT k ds).map .str)) s else .no
  | _, _ => .no
theorem tokens_run {k : T} {ds : List D} {S : M.S} (h : trOk (.tup (.str k :: ds))) : ∃ i g, m_told_tokens [.tup (.str k :: ds)] S = .ok (.ref i) (S ++ g) ∧ (S ++ g)[i]? = some (.lst ((topT k ds).map .str)) ∧ S.length ≤ i := by
  have i0 := at0
  have z1 : (1 : Nat) ≤ SZ := by decide
  have z0 : (0 : Nat) ≤ SZ := by decide
  have c1 := cut1
  obtain ⟨L, hL, hT, e1⟩ : ∃ L : List D, (pts L ≤ 1000 ∧ ∀ d ∈ L, elOk d) ∧ L.flatMap tk = topT k ds ∧ ∀ r : SM, (p_told_tokens_1 [some (.tup (.str k :: ds)), none, none, none] S).then r = r [some (.tup (.str k :: ds)), some (.ref S.length), none, none] (S ++ [.lst L.reverse]) := by
    have h3 := h.2.2
    by_cases hj : k = wJoin
    · subst hj
      have hk : innW.contains wJoin = true := by decide
      have kd := (tr_kids hk h).2.2
      refine ⟨ds, ⟨by rw [pts_tr kd]; rw [sz_node hk] at h3; omega, fun d hd => el_tr (kd d hd)⟩, by unfold topT; rw [if_pos rfl, tkz_flat], fun r => ?_⟩
      simp [-slD, p_told_tokens_1, i0, c1, wJoin]
    · refine ⟨[.tup (.str k :: ds)], ⟨by simp only [pts, pt_tr h]; omega, fun d hd => by rw [List.mem_singleton.mp hd]; exact el_tr h⟩, by unfold topT; rw [if_neg hj]; simp, fun r => ?_⟩
      have hj' : ¬ k = [106, 111, 105, 110] := hj
      simp [-slD, p_told_tokens_1, i0, hj', z1]
  have e2 : ∀ r : SM, (p_told_tokens_2 [some (.tup (.str k :: ds)), some (.ref S.length), none, none] (S ++ [.lst L.reverse])).then r = r [some (.tup (.str k :: ds)), some (.ref S.length), some (.ref (S.length + 1)), none] (S ++ [.lst L.reverse, .lst []]) := fun r => by
    simp [p_told_tokens_2, z0]
  obtain ⟨s', v3, h1, h2, h3⟩ := tt_loop (S := S) (v0 := some (.tup (.str k :: ds))) 1000 L [] (S ++ [.lst L.reverse, .lst []]) (S.length + 1) S.length FUEL none hL.1 (by decide) (by simp) hL.2 (List.prefix_append _ _) (Nat.le_succ _) (Nat.le_refl _) (by omega) (by simp) (by rw [List.getElem?_append_right (by omega)]; simp)
  obtain ⟨g, rfl⟩ := h2
  refine ⟨S.length + 1, g, ?_, by rw [h3, hT]; simp, Nat.le_succ _⟩
  show ((p_told_tokens_1 [some (.tup (.str k :: ds)), none, none, none] S).then (sSeq p_told_tokens_2 (sSeq p_told_tokens_3 p_told_tokens_4))).out = _
  rw [e1]
  show ((p_told_tokens_2 _ _).then _).out = _
  rw [e2]
  show ((p_told_tokens_3 _ _).then _).out = _
  rw [tt_eq]
  show ((whileF FUEL ttTest ttBody _ _).then _).out = _
  rw [h1]
  rfl
theorem cl_strs' (n : Nat) (ts : List T) : D.cl.all n (ts.map .str) = true := cl_strs n ts
theorem rf_told_tokens : Refines 1 m_told_tokens q_told_tokens := Refines.new fun ds S hl c ca => by
  match ds, hl with
  | [a], _ =>
    cases a with
    | tup es =>
      cases es with
      | nil => exact .inl rfl
      | cons b ds =>
        cases b with
        | str k =>
          by_cases h : trOk (.tup (.str k :: ds))
          · obtain ⟨i, g, e1, e2, e3⟩ := tokens_run (S := S) h
            exact .inr ⟨.lst ((topT k ds).map .str), i, g, by simp only [q_told_tokens]; rw [if_pos h], e1, e2, e3, cl_strs' _ _⟩
          · exact .inl (by simp only [q_told_tokens]; rw [if_neg h])
        | _ => exact .inl rfl
    | _ => exact .inl rfl
def p_told_recipe_1 : SM :=
    (sSet 1 (eLst aNil))
def p_told_recipe_2 : SM :=
    (sSet 2 (eC (.str [40])))
def p_told_recipe_3 : SM :=
    (sFor (iE (eCall q_told_tokens (aCons (eVar 0) aNil))) (gName 3)
    (sSeq (sIf (tAnd (tCmp cNe (eVar 2) (eC (.str [40]))) (tCmp cNe (eVar 3) (eC (.str [41]))))
    (sExpr (eM .list mAppend (eVar 1) (aCons (eC (.str [32])) aNil)))
    sNil)
    (sSeq (sExpr (eM .list mAppend (eVar 1) (aCons (eVar 3) aNil)))
    (sSet 2 (eVar 3)))))
def p_told_recipe_4 : SM :=
    (sRet (eM .str mJoin (eC (.str [])) (aCons (eVar 1) aNil)))
def b_told_recipe : SM := (sSeq p_told_recipe_1 (sSeq p_told_recipe_2 (sSeq p_told_recipe_3 p_told_recipe_4)))
def m_told_recipe : F := fn 4 b_told_recipe
def lay : T → List T → List T
  | _, [] => []
  | b, t :: ts => if b ≠ [40] ∧ t ≠ [41] then [32] :: t :: lay t ts else t :: lay t ts
theorem lay_sum : ∀ (ts : List T) (b : T), (∀ t ∈ ts, tkG t) → ((lay b ts).map List.length).sum ≤ 9003 * ts.length
  | [], _, _ => by simp [lay]
  | t :: ts, b, h => by
    have h1 := lay_sum ts t fun x hx => h x (List.mem_cons_of_mem _ hx)
    have h2 := (h t List.mem_cons_self).2.1
    unfold lay
    split <;> simp <;> omega
theorem el_pt {d : D} (h : elOk d) : 1 ≤ pt d := by
  cases d with
  | str t => exact Nat.le_refl _
  | tup ds => have := sz_kids (.tup ds); show 1 ≤ 5 * sz (.tup ds); omega
  | _ => cases h.1
theorem all_tk : ∀ (n : Nat) (L : List D), pts L ≤ n → (∀ d ∈ L, elOk d) → (L.flatMap tk).length ≤ n ∧ ∀ t ∈ L.flatMap tk, tkG t := by
  intro n
  induction n with
  | zero =>
    intro L hp ho
    cases L with
    | nil => simp
    | cons d L =>
      have := el_pt (ho d List.mem_cons_self)
      simp only [pts] at hp
      omega
  | succ n ih =>
    intro L hp ho
    cases L with
    | nil => simp
    | cons d L =>
      have hd := ho d List.mem_cons_self
      have ho' : ∀ x ∈ L, elOk x := fun x hx => ho x (List.mem_cons_of_mem _ hx)
      simp only [pts] at hp
      cases d with
      | str t =>
        obtain ⟨a, b⟩ := ih L (by simp only [pt] at hp; omega) ho'
        rw [List.flatMap_cons]
        refine ⟨by simp only [tk, List.length_append, List.length_cons, List.length_nil]; omega, fun x hx => ?_⟩
        rcases List.mem_append.mp hx with hx | hx
        · rw [List.mem_singleton.mp (by simpa [tk] using hx : x ∈ [t])]; exact hd
        · exact b x hx
      | tup es =>
        have hd' : trOk (.tup es) := hd
        obtain ⟨k, ds, ee⟩ := tok_shape hd'.1
        cases ee
        have hsp := steps_pt hd'
        have hpt : pt (.tup (.str k :: ds)) = 5 * sz (.tup (.str k :: ds)) := rfl
        obtain ⟨a, b⟩ := ih (stepsL k ds ++ L) (by rw [pts_app]; omega) (fun x hx => by
            rcases List.mem_append.mp hx with hx | hx
            · exact steps_el hd' x hx
            · exact ho' x hx)
        rw [List.flatMap_append, steps_tk hd'] at a b
        rw [List.flatMap_cons]
        exact ⟨by omega, b⟩
      | _ => cases hd.1
theorem top_ok {k : T} {ds : List D} (h : trOk (.tup (.str k :: ds))) : (topT k ds).length ≤ 1000 ∧ ∀ t ∈ topT k ds, tkG t := by
  have h3 := h.2.2
  by_cases hj : k = wJoin
  · subst hj
    have hk : innW.contains wJoin = true := by decide
    have kd := (tr_kids hk h).2.2
    have := all_tk 1000 ds (by rw [pts_tr kd]; rw [sz_node hk] at h3; omega) fun d hd => el_tr (kd d hd)
    unfold topT
    rw [if_pos rfl, tkz_flat]
    exact this
  · have := all_tk 1000 [.tup (.str k :: ds)] (by simp only [pts, pt_tr h]; omega) fun d hd => by rw [List.mem_singleton.mp hd]; exact el_tr h
    unfold topT
    rw [if_neg hj]
    simpa using this
abbrev treBody : SM := sSeq (sIf (tAnd (tCmp cNe (eVar 2) (eC (.str [40]))) (tCmp cNe (eVar 3) (eC (.str [41]))))
    (sExpr (eM .list mAppend (eVar 1) (aCons (eC (.str [32])) aNil)))
    sNil)
    (sSeq (sExpr (eM .list mAppend (eVar 1) (aCons (eVar 3) aNil)))
    (sSet 2 (eVar 3)))
theorem tre_eq : p_told_recipe_3 = sFor (iE (eCall q_told_tokens (aCons (eVar 0) aNil))) (gName 3) treBody := rfl
theorem tre_step {s : M.S} {v0 v3 : Option D} {i : Nat} {acc : List T} {b t : T} (ei : s[i]? = some (.lst (acc.map .str))) (ha : acc.length ≤ 4000) :
    forF (gName 3) treBody (.str t) [v0, some (.ref i), some (.str b), v3] s = .nx [v0, some (.ref i), some (.str t), some (.str t)] (s.set i (.lst ((acc ++ (if b ≠ [40] ∧ t ≠ [41] then [[32], t] else [t])).map .str))) := by
  have hil : i < s.length := by
    rcases Nat.lt_or_ge i s.length with h | h
    · exact h
    · rw [List.getElem?_eq_none h] at ei; cases ei
  have z1 : acc.length < SZ := by unfold SZ; omega
  have z2 : acc.length + 1 < SZ := by unfold SZ; omega
  by_cases h1 : b = [40]
  · simp [h1, ei, z1]
  · by_cases h2 : t = [41]
    · simp [h1, h2, ei, z1]
    · have gs : ∀ x : O, (s.set i x)[i]? = some x := fun x => List.getElem?_set_self hil
      clear hil
      simp [h1, h2, ei, z1, z2, gs, -List.getElem?_set_self']
theorem tre_loop {S : M.S} {v0 : Option D} {p i : Nat} {o : O} (hpi : p ≠ i) (hi : S.length ≤ i) : ∀ (ts : List T) (acc : List T) (b : T) (s : M.S) (v3 : Option D), acc.length + 2 * ts.length ≤ 4000 → S <+: s → s[p]? = some o → s[i]? = some (.lst (acc.map .str)) →
    ∃ s' v2' v3', forL [(p, o)] (forF (gName 3) treBody) (ts.map .str) [v0, some (.ref i), some (.str b), v3] s = .nx [v0, some (.ref i), v2', v3'] s' ∧ S <+: s' ∧ s'[i]? = some (.lst ((acc ++ lay b ts).map .str))
  | [], acc, b, s, v3, _, hS, _, ei => ⟨s, _, v3, rfl, hS, by simpa [lay] using ei⟩
  | t :: ts, acc, b, s, v3, hz, hS, ep, ei => by
    have hil : i < s.length := by
      rcases Nat.lt_or_ge i s.length with h | h
      · exact h
      · rw [List.getElem?_eq_none h] at ei; cases ei
    simp only [List.length_cons] at hz
    have e1 := tre_step (v0 := v0) (v3 := v3) (b := b) (t := t) ei (by omega)
    have hip : i ≠ p := fun e => hpi e.symm
    have ep' : (s.set i (.lst ((acc ++ (if b ≠ [40] ∧ t ≠ [41] then [[32], t] else [t])).map .str)))[p]? = some o := by rw [List.getElem?_set_ne hip]; exact ep
    have hl : (acc ++ (if b ≠ [40] ∧ t ≠ [41] then [[32], t] else [t])).length + 2 * ts.length ≤ 4000 := by
      rw [List.length_append]
      split <;> simp <;> omega
    obtain ⟨s', v2', v3', h1, h2, h3⟩ := tre_loop hpi hi ts (acc ++ (if b ≠ [40] ∧ t ≠ [41] then [[32], t] else [t])) t _ (some (.str t)) hl (pre_set hS hi) ep' (by rw [List.getElem?_set_self hil])
    refine ⟨s', v2', v3', ?_, h2, ?_⟩
    · rw [List.map_cons, forL, e1]
      show (if gdOk [(p, o)] _ then _ else _) = _
      rw [if_pos (by simp only [gdOk, List.all_cons, List.all_nil, Bool.and_true]; exact decide_eq_true ep'), h1]
    · rw [h3]
      congr 2
      rw [lay]
      split <;> simp
def recT (k : T) (ds : List D) : T := (lay [40] (topT k ds)).flatten
def q_told_recipe : F
  | [.tup (.str k :: ds)], s => if trOk (.tup (.str k :: ds)) then .ok (.str (recT k ds)) s else .no
  | _, _ => .no
theorem recipe_run {k : T} {ds : List D} {S : M.S} (h : trOk (.tup (.str k :: ds))) : ∃ g, m_told_recipe [.tup (.str k :: ds)] S = .ok (.str (recT k ds)) (S ++ g) := by
  have z0 : (0 : Nat) ≤ SZ := by decide
  obtain ⟨t1, t2⟩ := top_ok h
  have e1 : ∀ r : SM, (p_told_recipe_1 [some (.tup (.str k :: ds)), none, none, none] S).then r = r [some (.tup (.str k :: ds)), some (.ref S.length), none, none] (S ++ [.lst []]) := fun r => by simp [p_told_recipe_1, z0]
  have e2 : ∀ (s : M.S) (r : SM), (p_told_recipe_2 [some (.tup (.str k :: ds)), some (.ref S.length), none, none] s).then r = r [some (.tup (.str k :: ds)), some (.ref S.length), some (.str [40]), none] s := fun s r => by simp [p_told_recipe_2]
  have hq : ∀ s : M.S, q_told_tokens [.tup (.str k :: ds)] s = .ok (.ref s.length) (s ++ [.lst ((topT k ds).map .str)]) := fun s => by simp only [q_told_tokens]; rw [if_pos h]; rfl
  have gp : (S ++ [.lst []] ++ [O.lst ((topT k ds).map .str)])[(S ++ [O.lst []]).length]? = some (.lst ((topT k ds).map .str)) := by simp
  obtain ⟨s', v2, v3, h1, h2, h3⟩ := tre_loop (S := S) (v0 := some (.tup (.str k :: ds))) (p := (S ++ [O.lst []]).length) (i := S.length) (o := .lst ((topT k ds).map .str)) (by simp) (Nat.le_refl _) (topT k ds) [] [40] (S ++ [.lst []] ++ [.lst ((topT k ds).map .str)]) none (by simp; omega) ((List.prefix_append _ _).trans (List.prefix_append _ _)) gp (by rw [List.append_assoc]; simp)
  obtain ⟨g, rfl⟩ := h2
  refine ⟨g, ?_⟩
  show ((p_told_recipe_1 [some (.tup (.str k :: ds)), none, none, none] S).then (sSeq p_told_recipe_2 (sSeq p_told_recipe_3 p_told_recipe_4))).out = _
  rw [e1]
  show ((p_told_recipe_2 _ _).then _).out = _
  rw [e2]
  show ((p_told_recipe_3 _ _).then _).out = _
  have hi : iE (eCall q_told_tokens (aCons (eVar 0) aNil)) [some (.tup (.str k :: ds)), some (.ref S.length), some (.str [40]), none] (S ++ [.lst []]) = .ok ((topT k ds).map .str, [((S ++ [O.lst []]).length, .lst ((topT k ds).map .str))]) (S ++ [.lst []] ++ [.lst ((topT k ds).map .str)]) := by
    have hq' := hq (S ++ [.lst []])
    simp only [iE, eCall, aCons, eVar, aNil, List.getElem?_cons_zero, R.bind_ok, hq', itD, gp]
  rw [tre_eq]
  unfold sFor
  rw [hi, R.stm_ok, if_pos (by simp only [gdOk, List.all_cons, List.all_nil, Bool.and_true]; exact decide_eq_true gp), h1]
  have hs := lay_sum (topT k ds) [40] t2
  have hj : kJoin [] ((lay [40] (topT k ds)).map .str) (S ++ g) = .ok (.str (recT k ds)) (S ++ g) := by
    unfold kJoin
    rw [texts_str]
    show (if _ then _ else _) = _
    rw [if_pos (by simp only [List.length_nil, Nat.mul_zero, Nat.add_zero]; unfold SZ; omega), joinT_flatten]
    rfl
  rw [List.nil_append] at h3
  simp [p_told_recipe_4, h3, hj]
theorem rf_told_recipe : Refines 1 m_told_recipe q_told_recipe := Refines.pure fun ds S hl c ca => by
  match ds, hl with
  | [a], _ =>
    cases a with
    | tup es =>
      cases es with
      | nil => exact .inl rfl
      | cons b ds =>
        cases b with
        | str k =>
          by_cases h : trOk (.tup (.str k :: ds))
          · obtain ⟨g, e⟩ := recipe_run (S := S) h
            exact .inr ⟨_, g, by simp only [q_told_recipe]; rw [if_pos h], e, rfl⟩
          · exact .inl (by simp only [q_told_recipe]; rw [if_neg h])
        | _ => exact .inl rfl
    | _ => exact .inl rfl
def b__law_set_out : SM :=
    (sSeq (sSet 1 (eC (.str [])))
    (sSeq (sFor (iE (eVar 0)) (gName 2)
    (sSeq (sIf (tAnd (tCmp cNe (eVar 1) (eC (.str []))) (tAnd (tCmp cNe (eOp opIx (eVar 1) (eUn unNeg (eC (.int 1)))) (eC (.str [40]))) (tCmp cNe (eVar 2) (eC (.str [41])))))
    (sSet 1 (eOp opAdd (eVar 1) (eC (.str [32]))))
    sNil)
    (sSet 1 (eOp opAdd (eVar 1) (eVar 2)))))
    (sRet (eVar 1))))
def m__law_set_out : F := fn 3 b__law_set_out
def outT : T → List T → T
  | f, [] => f
  | f, t :: ts => outT (if f ≠ [] ∧ f.getLast? ≠ some 40 ∧ t ≠ [41] then f ++ [32] ++ t else f ++ t) ts
theorem out_lay : ∀ (ts : List T) (f b : T), (∀ t ∈ ts, tkG t) → ((f = [] ∧ b = [40]) ∨ (f ≠ [] ∧ (f.getLast? = some 40 ↔ b = [40]))) → outT f ts = f ++ (lay b ts).flatten
  | [], f, b, _, _ => by simp [outT, lay]
  | t :: ts, f, b, h, hc => by
    have ht := h t List.mem_cons_self
    have h' : ∀ x ∈ ts, tkG x := fun x hx => h x (List.mem_cons_of_mem _ hx)
    have la : ∀ g : T, (g ++ t) ≠ [] ∧ ((g ++ t).getLast? = some 40 ↔ t = [40]) := fun g => by
      refine ⟨by simp [ht.1], ?_⟩
      have e : (g ++ t).getLast? = t.getLast? := by
        rw [List.getLast?_append]
        cases q : t.getLast? with
        | none => exact absurd (List.getLast?_eq_none_iff.mp q) ht.1
        | some c => rfl
      rw [e]
      exact ⟨ht.2.2, fun e => by rw [e]; rfl⟩
    rw [outT, lay]
    by_cases hb : b ≠ [40] ∧ t ≠ [41]
    · have hf : f ≠ [] ∧ f.getLast? ≠ some 40 ∧ t ≠ [41] := by
        rcases hc with ⟨_, e⟩ | ⟨e1, e2⟩
        · exact absurd e hb.1
        · exact ⟨e1, fun e => hb.1 (e2.mp e), hb.2⟩
      rw [if_pos hf, if_pos hb, out_lay ts _ t h' (.inr (la _))]
      simp
    · have hf : ¬ (f ≠ [] ∧ f.getLast? ≠ some 40 ∧ t ≠ [41]) := fun hf => hb ⟨fun e => by
        rcases hc with ⟨e0, _⟩ | ⟨_, e2⟩
        · exact hf.1 e0
        · exact hf.2.1 (e2.mpr e), hf.2.2⟩
      rw [if_neg hf, if_neg hb, out_lay ts _ t h' (.inr (la _))]
      simp
abbrev soIf : SM := sIf (tAnd (tCmp cNe (eVar 1) (eC (.str []))) (tAnd (tCmp cNe (eOp opIx (eVar 1) (eUn unNeg (eC (.int 1)))) (eC (.str [40]))) (tCmp cNe (eVar 2) (eC (.str [41])))))
    (sSet 1 (eOp opAdd (eVar 1) (eC (.str [32]))))
    sNil
abbrev soBody : SM := sSeq soIf (sSet 1 (eOp opAdd (eVar 1) (eVar 2)))
theorem so_eq : b__law_set_out = sSeq (sSet 1 (eC (.str []))) (sSeq (sFor (iE (eVar 0)) (gName 2) soBody) (sRet (eVar 1))) := rfl
theorem at_end {f : T} {c : Nat} (h : f.getLast? = some c) : atI f (-1) = some c := by
  cases f with
  | nil => cases h
  | cons a r =>
    have h' := h
    rw [List.getLast?_eq_getElem?] at h'
    unfold atI ixN
    have l : ((a :: r).length : Int) = (r.length : Int) + 1 := by simp
    rw [if_neg (by decide), l, if_pos (by omega)]
    have e : ((-1 : Int) + ((r.length : Int) + 1)).toNat = (a :: r).length - 1 := by simp; omega
    simp only [Option.bind_some]
    rw [e]
    exact h'
theorem so_step {s : M.S} {v0 v2 : Option D} {f t : T} (hf : f.length + 1 + t.length ≤ SZ) :
    forF (gName 2) soBody (.str t) [v0, some (.str f), v2] s = .nx [v0, some (.str (if f ≠ [] ∧ f.getLast? ≠ some 40 ∧ t ≠ [41] then f ++ [32] ++ t else f ++ t)), some (.str t)] s := by
  have z1 : f.length + t.length ≤ SZ := by omega
  have z2 : f.length + 1 ≤ SZ := by omega
  have z3 : f.length ≤ SZ := by omega
  have z4 : f.length + (t.length + 1) ≤ SZ := by omega
  by_cases h1 : f = []
  · subst h1
    have z5 : t.length ≤ SZ := by omega
    simp [z5]
  · obtain ⟨c, hc⟩ : ∃ c, f.getLast? = some c := by
      cases q : f.getLast? with
      | none => exact absurd (List.getLast?_eq_none_iff.mp q) h1
      | some c => exact ⟨c, rfl⟩
    have ea := at_end hc
    rw [hc]
    by_cases h2 : c = 40
    · simp [h1, h2, ea, z1, z3]
    · by_cases h3 : t = [41]
      · subst h3
        simp [h1, h2, ea, z1, z2, z3]
      · simp [h1, h2, h3, ea, hf, z1, z2, z3, z4]
theorem so_loop {v0 : Option D} {g : Gd} {s : M.S} (hg : gdOk g s = true) : ∀ (ts : List T) (f : T) (v2 : Option D), (∀ t ∈ ts, tkG t) → f.length + 9003 * ts.length ≤ SZ → ∃ v2', forL g (forF (gName 2) soBody) (ts.map .str) [v0, some (.str f), v2] s = .nx [v0, some (.str (outT f ts)), v2'] s
  | [], f, v2, _, _ => ⟨v2, rfl⟩
  | t :: ts, f, v2, h, hz => by
    have ht := h t List.mem_cons_self
    have h2 := ht.2.1
    simp only [List.length_cons] at hz
    have e1 := so_step (s := s) (v0 := v0) (v2 := v2) (f := f) (t := t) (by omega)
    have hl : (if f ≠ [] ∧ f.getLast? ≠ some 40 ∧ t ≠ [41] then f ++ [32] ++ t else f ++ t).length + 9003 * ts.length ≤ SZ := by
      split <;> simp <;> omega
    obtain ⟨v2', h3⟩ := so_loop hg ts _ (some (.str t)) (fun x hx => h x (List.mem_cons_of_mem _ hx)) hl
    refine ⟨v2', ?_⟩
    rw [List.map_cons, forL, e1]
    show (if gdOk g s then _ else _) = _
    rw [if_pos hg, h3, outT]
def soOk (ts : List T) : Prop := ts.length ≤ 1000 ∧ ∀ t ∈ ts, tkG t
instance (ts : List T) : Decidable (soOk ts) := by unfold soOk; infer_instance
def q__law_set_out : F
  | [.ref p], s => match s[p]? with
    | some (.lst xs) => match texts xs with
      | some ts => if soOk ts then .ok (.str (outT [] ts)) s else .no
      | none => .no
    | _ => .no
  | _, _ => .no
theorem texts_inv : ∀ {xs : List D} {ts : List T}, texts xs = some ts → xs = ts.map .str
  | [], ts, h => by cases h; rfl
  | x :: xs, ts, h => by
    cases x with
    | str t =>
      have h' : (texts xs).map (t :: ·) = some ts := h
      cases q : texts xs with
      | none => rw [q] at h'; cases h'
      | some us => rw [q] at h'; cases h'; rw [texts_inv q]; rfl
    | _ => cases h
theorem rf__law_set_out : Refines 1 m__law_set_out q__law_set_out := Refines.pure fun ds S hl c ca => by
  match ds, hl with
  | [a], _ =>
    cases a with
    | ref p =>
      cases q : S[p]? with
      | none => exact .inl (by simp [q__law_set_out, q])
      | some o =>
        cases o with
        | lst xs =>
          cases qt : texts xs with
          | none => exact .inl (by simp [q__law_set_out, q, qt])
          | some ts =>
            by_cases h : soOk ts
            · have ex := texts_inv qt
              subst ex
              have hg : gdOk [(p, O.lst (ts.map .str))] S = true := by simp [gdOk, q]
              obtain ⟨v2, e⟩ := so_loop (v0 := some (.ref p)) hg ts [] none h.2 (by have := h.1; unfold SZ; simp; omega)
              refine .inr ⟨.str (outT [] ts), [], by simp only [q__law_set_out, q, qt]; rw [if_pos h], ?_, rfl⟩
              rw [List.append_nil]
              show (b__law_set_out [some (.ref p), none, none] S).out = _
              rw [so_eq]
              have e1 : ∀ r : SM, sSeq (sSet 1 (eC (.str []))) r [some (.ref p), none, none] S = r [some (.ref p), some (.str []), none] S := fun r => by simp
              rw [e1]
              show ((sFor (iE (eVar 0)) (gName 2) soBody _ _).then _).out = _
              have hi : iE (eVar 0) [some (.ref p), some (.str []), none] S = .ok (ts.map .str, [(p, .lst (ts.map .str))]) S := by simp [q]
              unfold sFor
              rw [hi, R.stm_ok, if_pos hg, e]
              simp
            · exact .inl (by simp only [q__law_set_out, q, qt]; rw [if_neg h])
        | dct _ => exact .inl (by simp [q__law_set_out, q])
        | ins _ _ => exact .inl (by simp [q__law_set_out, q])
    | _ => exact .inl rfl
def p__law_pieces_1 (r__law_pieces : F) : SM :=
    (sSet 2 (eOp opIx (eVar 0) (eC (.int 0))))
def p__law_pieces_2 (r__law_pieces : F) : SM :=
    (sIf (tCmp cIn (eVar 2) (eTup (aCons (eC (.str [116, 101, 120, 116])) (aCons (eC (.str [116, 104, 105, 110, 103])) (aCons (eC (.str [107, 105, 110])) aNil)))))
    (sRet (eLst (aCons (eOp opIx (eDict (aCons (eC (.str [116, 101, 120, 116])) (aCons (eOp opAdd (eOp opAdd (eC (.str [34])) (eOp opIx (eVar 0) (eC (.int 1)))) (eC (.str [34]))) (aCons (eC (.str [116, 104, 105, 110, 103])) (aCons (eOp opIx (eVar 0) (eC (.int 1))) (aCons (eC (.str [107, 105, 110])) (aCons (eOp opAdd (eOp opIx (eVar 0) (eC (.int 1))) (eC (.str [46, 42]))) aNil))))))) (eVar 2)) aNil)))
    sNil)
def p__law_pieces_3 (r__law_pieces : F) : SM :=
    (sIf (tCmp cEq (eVar 2) (eC (.str [115, 116, 101, 109])))
    (sRet (eLst (aCons (eC (.str [42])) aNil)))
    sNil)
def p__law_pieces_4 (r__law_pieces : F) : SM :=
    (sSet 3 (eLst (aCons (eVar 2) (aCons (eC (.str [])) (aCons (eC (.str [])) (aCons (eC (.str [])) aNil))))))
def p__law_pieces_5 (r__law_pieces : F) : SM :=
    (sIf (tCmp cEq (eVar 2) (eC (.str [105, 102])))
    (sSet 3 (eLst (aCons (eC (.str [105, 102])) (aCons (eC (.str [105, 115])) (aCons (eC (.str [116, 104, 101, 110])) (aCons (eC (.str [101, 108, 115, 101])) aNil))))))
    sNil)
def p__law_pieces_6 (r__law_pieces : F) : SM :=
    (sIf (tCmp cEq (eVar 2) (eC (.str [101, 97, 99, 104])))
    (sSet 3 (eLst (aCons (eC (.str [101, 97, 99, 104])) (aCons (eC (.str [100, 111])) aNil))))
    sNil)
def p__law_pieces_7 (r__law_pieces : F) : SM :=
    (sSet 4 (eLst aNil))
def p__law_pieces_8 (r__law_pieces : F) : SM :=
    (sIf (tCmp cEq (eVar 2) (eC (.str [106, 111, 105, 110])))
    (sSeq (sSet 3 (eOp opMul (eLst (aCons (eC (.str [])) aNil)) (eCall fLen (aCons (eVar 0) aNil))))
    (sSet 4 (eOp opMul (eLst (aCons (eC (.str [40])) aNil)) (eOp opSub (eC (.int 1)) (eCall fInt (aCons (eVar 1) aNil))))))
    sNil)
def p__law_pieces_9 (r__law_pieces : F) : SM :=
    (sIf (tCmp cEq (eCall fLen (aCons (eVar 0) aNil)) (eC (.int 1)))
    (sRet (eLst (aCons (eVar 2) aNil)))
    sNil)
def p__law_pieces_10 (r__law_pieces : F) : SM :=
    (sFor (iZip (eVar 3) (eSl (eVar 0) (oSome (eC (.int 1))) oNone)) (gTup (gCons (gName 5) (gCons (gName 6) gNil)))
    (sSet 4 (eOp opAdd (eOp opAdd (eVar 4) (eOp opMul (eLst (aCons (eVar 5) aNil)) (eCall fInt (aCons (eCmp cNe (eVar 5) (eC (.str []))) aNil)))) (eCall r__law_pieces (aCons (eVar 6) (aCons (eC (.bl false)) aNil))))))
def p__law_pieces_11 (r__law_pieces : F) : SM :=
    (sRet (eOp opAdd (eVar 4) (eOp opMul (eLst (aCons (eC (.str [41])) aNil)) (eCall fInt (aCons (eAnd (eCmp cEq (eVar 2) (eC (.str [106, 111, 105, 110]))) (eNot (eVar 1))) aNil)))))
def b__law_pieces (r__law_pieces : F) : SM := (sSeq (p__law_pieces_1 r__law_pieces) (sSeq (p__law_pieces_2 r__law_pieces) (sSeq (p__law_pieces_3 r__law_pieces) (sSeq (p__law_pieces_4 r__law_pieces) (sSeq (p__law_pieces_5 r__law_pieces) (sSeq (p__law_pieces_6 r__law_pieces) (sSeq (p__law_pieces_7 r__law_pieces) (sSeq (p__law_pieces_8 r__law_pieces) (sSeq (p__law_pieces_9 r__law_pieces) (sSeq (p__law_pieces_10 r__law_pieces) (p__law_pieces_11 r__law_pieces)))))))))))
def m__law_pieces (r__law_pieces : F) : F := fn 7 (b__law_pieces r__law_pieces)
theorem ht_mem : ∀ {ds : List D} {d : D}, d ∈ ds → ht d ≤ hts ds
  | x :: ds, d, h => by
    simp only [hts]
    rcases List.mem_cons.mp h with rfl | h
    · omega
    · have := ht_mem h; omega
theorem ht_node {k : T} {ds : List D} (hk : innW.contains k = true) : ht (.tup (.str k :: ds)) = hts ds + 1 := by
  have i : inn (.str k) = true := hk
  simp [ht, htT, i]
def pcT (k : T) (ds : List D) (w : Bool) : List T := if w then topT k ds else tk (.tup (.str k :: ds))
def qd__law_pieces (n : Nat) : F := fun xs s => match xs with
  | [.tup (.str k :: ds), .bl w] => if trOk (.tup (.str k :: ds)) ∧ ht (.tup (.str k :: ds)) ≤ n then alloc (.lst ((pcT k ds w).map .str)) s else .no
  | _ => .no
theorem qd0__law_pieces (ds : List D) (s : M.S) : qd__law_pieces 0 ds s = .no := by
  unfold qd__law_pieces
  split
  · rename_i k ds w
    refine if_neg fun h => ?_
    have := ht_kids (.tup (.str k :: ds))
    omega
  · rfl
abbrev q__law_pieces : F := qd__law_pieces 20
theorem tkz_rep : ∀ (ds : List D) (m : Nat), tkz ds (List.replicate m []) = tkz ds []
  | [], _ => by simp [tkz]
  | d :: ds, 0 => rfl
  | d :: ds, m + 1 => by
    rw [List.replicate_succ, tkz, tkz]
    show wd [] ++ (tk d ++ tkz ds (List.replicate m [])) = wd [] ++ (tk d ++ tkz ds [])
    rw [tkz_rep ds m]
theorem tk_len {d : D} (h : trOk d) : (tk d).length ≤ 1000 := by
  have h3 := h.2.2
  have := all_tk 1000 [d] (by simp only [pts, pt_tr h]; omega) fun x hx => by rw [List.mem_singleton.mp hx]; exact el_tr h
  simpa using this.1
abbrev pcTg : GM := gTup (gCons (gName 5) (gCons (gName 6) gNil))
abbrev pcBody (r : F) : SM := sSet 4 (eOp opAdd (eOp opAdd (eVar 4) (eOp opMul (eLst (aCons (eVar 5) aNil)) (eCall fInt (aCons (eCmp cNe (eVar 5) (eC (.str []))) aNil)))) (eCall r (aCons (eVar 6) (aCons (eC (.bl false)) aNil))))
theorem pc_eq (r : F) : p__law_pieces_10 r = sFor (iZip (eVar 3) (eSl (eVar 0) (oSome (eC (.int 1))) oNone)) pcTg (pcBody r) := rfl
abbrev pcS (v0 v1 v2 v3 : Option D) (f : Nat) (v5 v6 : Option D) : St := [v0, v1, v2, v3, some (.ref f), v5, v6]
theorem pc_step {n : Nat} {s : M.S} {v0 v1 v2 v3 v5 v6 : Option D} {f : Nat} {acc : List T} {w : T} {d : D} (hd : trOk d ∧ ht d ≤ n) (ef : s[f]? = some (.lst (acc.map .str))) (hz : acc.length ≤ 300000) :
    ∃ g f', forF pcTg (pcBody (qd__law_pieces n)) (.tup [.str w, d]) (pcS v0 v1 v2 v3 f v5 v6) s = .nx (pcS v0 v1 v2 v3 f' (some (.str w)) (some d)) (s ++ g) ∧ (s ++ g)[f']? = some (.lst ((acc ++ (wd w ++ tk d)).map .str)) := by
  obtain ⟨k, ds, rfl⟩ := tok_shape hd.1.1
  have hl := tk_len hd.1
  have hq : ∀ s : M.S, qd__law_pieces n [.tup (.str k :: ds), .bl false] s = .ok (.ref s.length) (s ++ [.lst ((tk (.tup (.str k :: ds))).map .str)]) := fun s => by
    show (if _ then _ else _) = _
    rw [if_pos hd]
    rfl
  generalize tk (.tup (.str k :: ds)) = ts at *
  have z1 : (1 : Nat) ≤ SZ := by decide
  have g0 : ∀ g : M.S, (s ++ g)[f]? = some (.lst (acc.map .str)) := fun g => app_get ef g
  have l1 : ∀ (a b : O) (g : M.S), (s ++ a :: b :: g)[s.length + 1]? = some b := fun a b g => by rw [List.getElem?_append_right (by omega)]; simp
  have l2 : ∀ (a b c : O) (g : M.S), (s ++ a :: b :: c :: g)[s.length + 2]? = some c := fun a b c g => by rw [List.getElem?_append_right (by omega)]; simp
  have l3 : ∀ (a b c d : O) (g : M.S), (s ++ a :: b :: c :: d :: g)[s.length + 3]? = some d := fun a b c d g => by rw [List.getElem?_append_right (by omega)]; simp
  have l4 : ∀ (a b c d e : O) (g : M.S), (s ++ a :: b :: c :: d :: e :: g)[s.length + 4]? = some e := fun a b c d e g => by rw [List.getElem?_append_right (by omega)]; simp
  have l0 : ∀ (a : O) (g : M.S), (s ++ a :: g)[s.length]? = some a := fun a g => by rw [List.getElem?_append_right (by omega)]; simp
  refine ⟨[.lst [.str w], .lst ((wd w).map .str), .lst ((acc ++ wd w).map .str), .lst (ts.map .str), .lst ((acc ++ (wd w ++ ts)).map .str)], s.length + 4, ?_, l4 _ _ _ _ _ _⟩
  by_cases hw : w = []
  · subst hw
    have zz : acc.length ≤ SZ := by unfold SZ; omega
    have zz2 : acc.length + ts.length ≤ SZ := by unfold SZ; omega
    simp [wd, g0, l0, l1, l2, l3, z1, zz, zz2, hq]
  · have zz : acc.length + 1 ≤ SZ := by unfold SZ; omega
    have zz2 : acc.length + 1 + ts.length ≤ SZ := by unfold SZ; omega
    have zz3 : acc.length + (ts.length + 1) ≤ SZ := by unfold SZ; omega
    simp [wd, hw, g0, l0, l1, l2, l3, z1, zz, zz2, zz3, hq]
theorem pc_loop {n : Nat} {v0 v1 v2 v3 : Option D} {g0 : Gd} : ∀ (ds : List D) (ws acc : List T) (s : M.S) (f : Nat) (v5 v6 : Option D), (∀ d ∈ ds, trOk d ∧ ht d ≤ n) → ds.length ≤ ws.length → gdOk g0 s = true → s[f]? = some (.lst (acc.map .str)) → acc.length + 1001 * ds.length ≤ 300000 →
    ∃ g f' v5' v6', forL g0 (forF pcTg (pcBody (qd__law_pieces n))) (zipL (ws.map .str) ds) (pcS v0 v1 v2 v3 f v5 v6) s = .nx (pcS v0 v1 v2 v3 f' v5' v6') (s ++ g) ∧ (s ++ g)[f']? = some (.lst ((acc ++ tkz ds ws).map .str)) ∧ (acc ++ tkz ds ws).length ≤ 400000
  | [], ws, acc, s, f, v5, v6, _, _, _, ef, hz => by
    refine ⟨[], f, v5, v6, ?_, ?_, ?_⟩
    · rw [List.append_nil]
      cases ws <;> rfl
    · rw [List.append_nil, ef]; simp [tkz]
    · simp [tkz] at hz ⊢; omega
  | d :: ds, [], _, _, _, _, _, _, h, _, _, _ => by simp at h
  | d :: ds, w :: ws, acc, s, f, v5, v6, hd, hl, hg, ef, hz => by
    simp only [List.length_cons] at hz hl
    have h0 := hd d List.mem_cons_self
    obtain ⟨g1, f1, e1, e2⟩ := pc_step (v0 := v0) (v1 := v1) (v2 := v2) (v3 := v3) (v5 := v5) (v6 := v6) (w := w) h0 ef (by omega)
    have hw : (wd w).length ≤ 1 := by unfold wd; split <;> simp
    have ht := tk_len h0.1
    obtain ⟨g2, f2, v5', v6', h1, h2, h3⟩ := pc_loop ds ws (acc ++ (wd w ++ tk d)) (s ++ g1) f1 (some (.str w)) (some d) (fun x hx => hd x (List.mem_cons_of_mem _ hx)) (by omega) (gdOk_app hg) e2 (by simp; omega)
    have ez : tkz (d :: ds) (w :: ws) = wd w ++ (tk d ++ tkz ds ws) := by rw [tkz]; rfl
    refine ⟨g1 ++ g2, f2, v5', v6', ?_, ?_, ?_⟩
    · rw [List.map_cons, zipL, forL, e1]
      show (if gdOk g0 _ then _ else _) = _
      rw [if_pos (gdOk_app hg), h1, List.append_assoc]
    · rw [← List.append_assoc, h2, ez]; simp
    · rw [ez]; simp at h3 ⊢; omega
theorem pc_leaf {k : T} {ds : List D} {w : Bool} (hk : innW.contains k = false) : pcT k ds w = [bareT k ds] := by
  have hj : ¬ k = wJoin := fun e => by subst e; cases hk
  have e : tk (.tup (.str k :: ds)) = [bareT k ds] := by rw [tk_node, if_pos hk]
  unfold pcT topT
  rw [if_neg hj, e]
  cases w <;> rfl
theorem pieces_leaf {k : T} {ds : List D} {w : Bool} {r : F} {S : M.S} (lf : lfOk k ds) : ∃ i g, m__law_pieces r [.tup (.str k :: ds), .bl w] S = .ok (.ref i) (S ++ g) ∧ (S ++ g)[i]? = some (.lst [.str (bareT k ds)]) ∧ S.length ≤ i := by
  have i0 := at0
  have z1 : (1 : Nat) ≤ SZ := by decide
  have z3 : (3 : Nat) ≤ SZ := by decide
  have z4 : (4 : Nat) ≤ SZ := by decide
  have z0 : (0 : Nat) ≤ SZ := by decide
  rcases leaf_cases lf.1 lf.2.1 with ⟨rfl, e⟩ | ⟨t, rfl, e⟩
  · rcases e with rfl | rfl | rfl
    · refine ⟨S.length + 2, [.lst [.str wIt, .str [], .str [], .str []], .lst [], .lst [.str wIt]], ?_, by rw [List.getElem?_append_right (by omega)]; simp; rfl, by omega⟩
      simp [m__law_pieces, b__law_pieces, p__law_pieces_1, p__law_pieces_2, p__law_pieces_3, p__law_pieces_4, p__law_pieces_5, p__law_pieces_6, p__law_pieces_7, p__law_pieces_8, p__law_pieces_9, i0, wIt, flat, memF, eqF, z0, z1, z3, z4]
    · refine ⟨S.length, [.lst [.str [42]]], ?_, by simp; rfl, Nat.le_refl _⟩
      simp [m__law_pieces, b__law_pieces, p__law_pieces_1, p__law_pieces_2, p__law_pieces_3, i0, wStem, flat, memF, eqF, z0, z1, z3, z4]
    · refine ⟨S.length + 2, [.lst [.str wLine, .str [], .str [], .str []], .lst [], .lst [.str wLine]], ?_, by rw [List.getElem?_append_right (by omega)]; simp; rfl, by omega⟩
      simp [m__law_pieces, b__law_pieces, p__law_pieces_1, p__law_pieces_2, p__law_pieces_3, p__law_pieces_4, p__law_pieces_5, p__law_pieces_6, p__law_pieces_7, p__law_pieces_8, p__law_pieces_9, i0, wLine, flat, memF, eqF, z0, z1, z3, z4]
  · have hl := lf_len lf
    have i1 : ∀ a b : D, atI [a, b] 1 = some b := fun _ _ => rfl
    have y1 : 1 + t.length ≤ SZ := by unfold SZ; omega
    have y2 : 1 + t.length + 1 ≤ SZ := by unfold SZ; omega
    have y3 : t.length + 1 + 1 ≤ SZ := by unfold SZ; omega
    have y4 : t.length + 2 ≤ SZ := by unfold SZ; omega
    have y5 : t.length + 1 ≤ SZ := by unfold SZ; omega
    have sl : ∀ (a b : O), (S ++ [a]).set S.length b = S ++ [b] := fun a b => by rw [List.set_append, if_neg (by omega)]; simp
    refine ⟨S.length + 1, [.dct [(.str wText, .str (34 :: (t ++ [34]))), (.str wThing, .str t), (.str wKin, .str (t ++ [46, 42]))], .lst [.str (bareT k [.str t])]], ?_, by rw [List.getElem?_append_right (by omega)]; simp, by omega⟩
    have k1 : (D.str [116, 104, 105, 110, 103] == D.str [116, 101, 120, 116]) = false := by decide
    have k2 : (D.str [107, 105, 110] == D.str [116, 101, 120, 116]) = false := by decide
    have k3 : (D.str [107, 105, 110] == D.str [116, 104, 105, 110, 103]) = false := by decide
    rcases e with rfl | ⟨rfl, _⟩ | rfl
    · simp [m__law_pieces, b__law_pieces, p__law_pieces_1, p__law_pieces_2, i0, i1, wText, wThing, wKin, wStem, bareT, strOf, flat, memF, eqF, z0, z1, z3, y1, y2, y3, y4, y5, pairsUp, dPut, sl, keyOk, dGet, List.lookup, k1, k2, k3]
    · simp [m__law_pieces, b__law_pieces, p__law_pieces_1, p__law_pieces_2, i0, i1, wText, wThing, wKin, wStem, bareT, strOf, flat, memF, eqF, z0, z1, z3, y1, y2, y3, y4, y5, pairsUp, dPut, sl, keyOk, dGet, List.lookup, k1, k2, k3]
    · simp [m__law_pieces, b__law_pieces, p__law_pieces_1, p__law_pieces_2, i0, i1, wText, wThing, wKin, wStem, bareT, strOf, flat, memF, eqF, z0, z1, z3, y1, y2, y3, y4, y5, pairsUp, dPut, sl, keyOk, dGet, List.lookup, k1, k2, k3]
def pcA (k : T) (w : Bool) : List T := if k = wJoin ∧ w = false then [[40]] else []
def pcZ (k : T) (w : Bool) : List T := if k = wJoin ∧ w = false then [[41]] else []
theorem pc_pre {k : T} {ds : List D} {w : Bool} {r : F} {S : M.S} (hk : innW.contains k = true) (h : trOk (.tup (.str k :: ds))) : ∃ (ws : List T) (g : M.S) (j f : Nat), ds.length ≤ ws.length ∧ pcA k w ++ tkz ds ws ++ pcZ k w = pcT k ds w ∧ (S ++ g)[j]? = some (.lst (ws.map .str)) ∧ (S ++ g)[f]? = some (.lst ((pcA k w).map .str)) ∧
    ∀ q : SM, sSeq (p__law_pieces_1 r) (sSeq (p__law_pieces_2 r) (sSeq (p__law_pieces_3 r) (sSeq (p__law_pieces_4 r) (sSeq (p__law_pieces_5 r) (sSeq (p__law_pieces_6 r) (sSeq (p__law_pieces_7 r) (sSeq (p__law_pieces_8 r) (sSeq (p__law_pieces_9 r) q)))))))) [some (.tup (.str k :: ds)), some (.bl w), none, none, none, none, none] S = q (pcS (some (.tup (.str k :: ds))) (some (.bl w)) (some (.str k)) (some (.ref j)) f none none) (S ++ g) := by
  have i0 := at0
  have z1 : (1 : Nat) ≤ SZ := by decide
  have z2 : (2 : Nat) ≤ SZ := by decide
  have z3 : (3 : Nat) ≤ SZ := by decide
  have z4 : (4 : Nat) ≤ SZ := by decide
  have z0 : (0 : Nat) ≤ SZ := by decide
  have hl := (tr_kids hk h).2.1
  have nl : ∀ w : T, innW.contains w = false → ¬ w = k := fun w hw e => by rw [e, hk] at hw; cases hw
  have n1 := nl [116, 101, 120, 116] (by decide)
  have n4' : ¬ k = [115, 116, 101, 109] := fun e => nl [115, 116, 101, 109] (by decide) e.symm
  have n5 := nl [116, 104, 105, 110, 103] (by decide)
  have n6 := nl [107, 105, 110] (by decide)
  have l0 : ∀ (a : O) (g : M.S), (S ++ a :: g)[S.length]? = some a := fun a g => by rw [List.getElem?_append_right (by omega)]; simp
  have l1 : ∀ (a b : O) (g : M.S), (S ++ a :: b :: g)[S.length + 1]? = some b := fun a b g => by rw [List.getElem?_append_right (by omega)]; simp
  have l2 : ∀ (a b c : O) (g : M.S), (S ++ a :: b :: c :: g)[S.length + 2]? = some c := fun a b c g => by rw [List.getElem?_append_right (by omega)]; simp
  have l3 : ∀ (a b c d : O) (g : M.S), (S ++ a :: b :: c :: d :: g)[S.length + 3]? = some d := fun a b c d g => by rw [List.getElem?_append_right (by omega)]; simp
  have l4 : ∀ (a b c d e : O) (g : M.S), (S ++ a :: b :: c :: d :: e :: g)[S.length + 4]? = some e := fun a b c d e g => by rw [List.getElem?_append_right (by omega)]; simp
  have l5 : ∀ (a b c d e f : O) (g : M.S), (S ++ a :: b :: c :: d :: e :: f :: g)[S.length + 5]? = some f := fun a b c d e f g => by rw [List.getElem?_append_right (by omega)]; simp
  have etk : ¬ k = wJoin → pcT k ds w = tkz ds (kwT k) := fun hj => by
    have hk0 : ¬ innW.contains k = false := by rw [hk]; decide
    have e : tk (.tup (.str k :: ds)) = tkz ds (kwT k) := by rw [tk_node, if_neg hk0, if_neg hj]
    unfold pcT topT
    rw [if_neg hj, e]
    cases w <;> rfl
  have ea : ¬ k = wJoin → pcA k w = [] ∧ pcZ k w = [] := fun hj => by
    unfold pcA pcZ
    rw [if_neg (fun e => hj e.1), if_neg (fun e => hj e.1)]
    exact ⟨rfl, rfl⟩
  rcases inn_split hk h with ⟨rfl, h2⟩ | ⟨rfl, a, b, c, d, rfl⟩ | ⟨rfl, a, b, rfl⟩ | ⟨m1, m2, m3, a, rfl⟩
  · have hf : (List.replicate (ds.length + 1) [D.str []]).flatten = (List.replicate (ds.length + 1) ([] : T)).map .str := by
      generalize ds.length + 1 = m
      induction m with
      | zero => rfl
      | succ m ih => rw [List.replicate_succ, List.flatten_cons, ih, List.replicate_succ]; rfl
    have b1 : ds.length + 1 ≤ 1000 := by omega
    have b2 : ds.length + 1 ≤ 1000000 := by omega
    have t1 : ((ds.length : Int) + 1).toNat = ds.length + 1 := by omega
    have t2 : ((ds.length : Int) + 1).natAbs = ds.length + 1 := by omega
    have t3 : ¬ (ds.length : Int) + 1 = 1 := by omega
    refine ⟨List.replicate (ds.length + 1) [], [.lst [.str wJoin, .str [], .str [], .str []], .lst [], .lst [.str []], .lst ((List.replicate (ds.length + 1) ([] : T)).map .str), .lst [.str [40]], .lst ((pcA wJoin w).map .str)], S.length + 3, S.length + 5, by simp, ?_, l3 _ _ _ _ _, l5 _ _ _ _ _ _ _, fun q => ?_⟩
    · have e : tk (.tup (.str wJoin :: ds)) = [40] :: (tkz ds [] ++ [[41]]) := by rw [tk_node, if_neg (by decide), if_pos rfl]
      rw [tkz_rep]
      cases w with
      | true =>
        have e1 : pcA wJoin true = [] := by decide
        have e2 : pcZ wJoin true = [] := by decide
        rw [e1, e2]
        show _ = topT wJoin ds
        unfold topT
        rw [if_pos rfl]
        simp
      | false =>
        have e1 : pcA wJoin false = [[40]] := by decide
        have e2 : pcZ wJoin false = [[41]] := by decide
        rw [e1, e2]
        show _ = tk _
        rw [e]
        simp
    · cases w with
      | true => simp [-List.flatten_replicate_singleton, p__law_pieces_1, p__law_pieces_2, p__law_pieces_3, p__law_pieces_4, p__law_pieces_5, p__law_pieces_6, p__law_pieces_7, p__law_pieces_8, p__law_pieces_9, i0, wJoin, flat, memF, eqF, z0, z1, z2, z3, z4, l0, l1, l2, l3, l4, t1, t2, t3, b1, b2, hf, pcA]
      | false => simp [-List.flatten_replicate_singleton, p__law_pieces_1, p__law_pieces_2, p__law_pieces_3, p__law_pieces_4, p__law_pieces_5, p__law_pieces_6, p__law_pieces_7, p__law_pieces_8, p__law_pieces_9, i0, wJoin, flat, memF, eqF, z0, z1, z2, z3, z4, l0, l1, l2, l3, l4, t1, t2, t3, b1, b2, hf, pcA]
  · obtain ⟨a1, a2⟩ := ea (by decide)
    rw [etk (by decide), a1, a2]
    refine ⟨kwT wIf, [.lst [.str wIf, .str [], .str [], .str []], .lst ((kwT wIf).map .str), .lst []], S.length + 1, S.length + 2, by show 4 ≤ (kwT wIf).length; decide, by simp, l1 _ _ _, l2 _ _ _ _, fun q => ?_⟩
    simp [p__law_pieces_1, p__law_pieces_2, p__law_pieces_3, p__law_pieces_4, p__law_pieces_5, p__law_pieces_6, p__law_pieces_7, p__law_pieces_8, p__law_pieces_9, i0, wIf, kwT, flat, memF, eqF, z0, z1, z2, z3, z4, l0, l1, l2]
  · obtain ⟨a1, a2⟩ := ea (by decide)
    rw [etk (by decide), a1, a2]
    refine ⟨kwT wEach, [.lst [.str wEach, .str [], .str [], .str []], .lst ((kwT wEach).map .str), .lst []], S.length + 1, S.length + 2, by show 2 ≤ (kwT wEach).length; decide, by simp, l1 _ _ _, l2 _ _ _ _, fun q => ?_⟩
    simp [p__law_pieces_1, p__law_pieces_2, p__law_pieces_3, p__law_pieces_4, p__law_pieces_5, p__law_pieces_6, p__law_pieces_7, p__law_pieces_8, p__law_pieces_9, i0, wIf, wEach, kwT, flat, memF, eqF, z0, z1, z2, z3, z4, l0, l1, l2]
  · obtain ⟨a1, a2⟩ := ea m1
    rw [etk m1, a1, a2]
    have ek : kwT k = [k] := by unfold kwT; rw [if_neg m2, if_neg m3]
    have m1' : ¬ k = [106, 111, 105, 110] := m1
    have m2' : ¬ k = [105, 102] := m2
    have m3' : ¬ k = [101, 97, 99, 104] := m3
    refine ⟨[k, [], [], []], [.lst [.str k, .str [], .str [], .str []], .lst []], S.length, S.length + 1, by simp, by rw [ek]; simp [tkz], l0 _ _, l1 _ _ _, fun q => ?_⟩
    simp [p__law_pieces_1, p__law_pieces_2, p__law_pieces_3, p__law_pieces_4, p__law_pieces_5, p__law_pieces_6, p__law_pieces_7, p__law_pieces_8, p__law_pieces_9, i0, flat, memF, eqF, z0, z1, z2, z3, z4, l0, l1, l2, n1, n4', n5, n6, m1', m2', m3']
theorem pc_last {k : T} {w : Bool} {r : F} {s : M.S} {v0 v3 v5 v6 : Option D} {f : Nat} {acc : List T} (ef : s[f]? = some (.lst (acc.map .str))) (hz : acc.length ≤ 400000) : ∃ i g, (p__law_pieces_11 r (pcS v0 (some (.bl w)) (some (.str k)) v3 f v5 v6) s).out = .ok (.ref i) (s ++ g) ∧ (s ++ g)[i]? = some (.lst ((acc ++ pcZ k w).map .str)) ∧ s.length ≤ i := by
  have z1 : (1 : Nat) ≤ SZ := by decide
  have zz : acc.length ≤ SZ := by unfold SZ; omega
  have zz1 : acc.length + 1 ≤ SZ := by unfold SZ; omega
  have g0 : ∀ g : M.S, (s ++ g)[f]? = some (.lst (acc.map .str)) := fun g => app_get ef g
  have l0 : ∀ (a : O) (g : M.S), (s ++ a :: g)[s.length]? = some a := fun a g => by rw [List.getElem?_append_right (by omega)]; simp
  have l1 : ∀ (a b : O) (g : M.S), (s ++ a :: b :: g)[s.length + 1]? = some b := fun a b g => by rw [List.getElem?_append_right (by omega)]; simp
  have l2 : ∀ (a b c : O) (g : M.S), (s ++ a :: b :: c :: g)[s.length + 2]? = some c := fun a b c g => by rw [List.getElem?_append_right (by omega)]; simp
  refine ⟨s.length + 2, [.lst [.str [41]], .lst ((pcZ k w).map .str), .lst ((acc ++ pcZ k w).map .str)], ?_, l2 _ _ _ _, by omega⟩
  by_cases hk : k = [106, 111, 105, 110]
  · cases w with
    | true => simp [p__law_pieces_11, hk, g0, l0, l1, z1, zz, zz1, pcZ, wJoin, asB]
    | false => simp [p__law_pieces_11, hk, g0, l0, l1, z1, zz, zz1, pcZ, wJoin, asB]
  · simp [p__law_pieces_11, hk, g0, l0, l1, z1, zz, zz1, pcZ, wJoin, asB]
theorem pieces_run {k : T} {ds : List D} {w : Bool} {n : Nat} {S : M.S} (h : trOk (.tup (.str k :: ds))) (hh : ht (.tup (.str k :: ds)) ≤ n + 1) : ∃ i g, m__law_pieces (qd__law_pieces n) [.tup (.str k :: ds), .bl w] S = .ok (.ref i) (S ++ g) ∧ (S ++ g)[i]? = some (.lst ((pcT k ds w).map .str)) ∧ S.length ≤ i := by
  by_cases hk : innW.contains k = false
  · rw [pc_leaf hk]
    exact pieces_leaf (lf_of hk h)
  · have hk' : innW.contains k = true := by simpa using hk
    obtain ⟨ws, g1, j, f, hl, hT, ej, ef, e1⟩ := pc_pre (w := w) (r := qd__law_pieces n) (S := S) hk' h
    have kd := tr_kids hk' h
    rw [ht_node hk'] at hh
    have hA : (pcA k w).length ≤ 1 := by unfold pcA; split <;> simp
    have hds := kd.2.1
    have hg : gdOk [(j, O.lst (ws.map .str))] (S ++ g1) = true := by simp only [gdOk, List.all_cons, List.all_nil, Bool.and_true]; exact decide_eq_true ej
    obtain ⟨g2, f2, v5, v6, h1, h2, h3⟩ := pc_loop (n := n) (v0 := some (.tup (.str k :: ds))) (v1 := some (.bl w)) (v2 := some (.str k)) (v3 := some (.ref j)) (g0 := [(j, O.lst (ws.map .str))]) ds ws (pcA k w) (S ++ g1) f none none (fun d hd => ⟨kd.2.2 d hd, by have := ht_mem hd; omega⟩) hl hg ef (by omega)
    obtain ⟨i, g3, q1, q2, q3⟩ := pc_last (k := k) (w := w) (r := qd__law_pieces n) (v0 := some (.tup (.str k :: ds))) (v3 := some (.ref j)) (v5 := v5) (v6 := v6) h2 h3
    have c1 := cut1
    have hi : iZip (eVar 3) (eSl (eVar 0) (oSome (eC (.int 1))) oNone) (pcS (some (.tup (.str k :: ds))) (some (.bl w)) (some (.str k)) (some (.ref j)) f none none) (S ++ g1) = .ok (zipL (ws.map .str) ds, [(j, .lst (ws.map .str))]) (S ++ g1) := by
      simp only [iZip, aCons, aNil, eVar, eSl, oSome, oNone, eC, pcS, List.getElem?_cons_zero, List.getElem?_cons_succ, R.bind_ok, c1, zipP, ej]
    refine ⟨i, g1 ++ g2 ++ g3, ?_, ?_, ?_⟩
    · show (sSeq (p__law_pieces_1 _) (sSeq (p__law_pieces_2 _) (sSeq (p__law_pieces_3 _) (sSeq (p__law_pieces_4 _) (sSeq (p__law_pieces_5 _) (sSeq (p__law_pieces_6 _) (sSeq (p__law_pieces_7 _) (sSeq (p__law_pieces_8 _) (sSeq (p__law_pieces_9 _) (sSeq (p__law_pieces_10 (qd__law_pieces n)) (p__law_pieces_11 (qd__law_pieces n))))))))))) [some (.tup (.str k :: ds)), some (.bl w), none, none, none, none, none] S).out = _
      rw [e1]
      show ((p__law_pieces_10 _ _ _).then _).out = _
      rw [pc_eq]
      unfold sFor
      rw [hi, R.stm_ok, if_pos hg, h1, RS.then_nx, q1]
      simp only [List.append_assoc]
    · have e : S ++ (g1 ++ g2 ++ g3) = S ++ g1 ++ g2 ++ g3 := by simp only [List.append_assoc]
      rw [e, q2, hT]
    · simp only [List.length_append] at q3
      omega
theorem rf__law_pieces (n : Nat) : Refines 2 (m__law_pieces (qd__law_pieces n)) (qd__law_pieces (n + 1)) := Refines.new fun xs S hl c ca => by
  match xs, hl with
  | [a, b], _ =>
    cases a with
    | tup es =>
      cases es with
      | nil => exact .inl rfl
      | cons h ds =>
        cases h with
        | str k =>
          cases b with
          | bl w =>
            by_cases h : trOk (.tup (.str k :: ds)) ∧ ht (.tup (.str k :: ds)) ≤ n + 1
            · obtain ⟨i, g, e1, e2, e3⟩ := pieces_run (w := w) (S := S) h.1 h.2
              exact .inr ⟨.lst ((pcT k ds w).map .str), i, g, if_pos h, e1, e2, e3, cl_strs' _ _⟩
            · exact .inl (if_neg h)
          | _ => exact .inl rfl
        | _ => exact .inl rfl
    | _ => exact .inl rfl
def b__law_cell : SM :=
    (sSeq (sIf (tCmp cLt (eVar 1) (eCall fLen (aCons (eVar 0) aNil)))
    (sRet (eOp opIx (eVar 0) (eVar 1)))
    sNil)
    (sRet (eC (.int 0))))
def m__law_cell : F := fn 2 b__law_cell
def cellD (xs : List D) (k : Int) : D := xs.getD k.toNat (.int 0)
def q__law_cell : F
  | [.ro xs, .int k], s => if 0 ≤ k then .ok (cellD xs k) s else .no
  | _, _ => .no
theorem atI_in {α : Type} {xs : List α} {k : Int} (h0 : 0 ≤ k) (h : k < xs.length) (d : α) : atI xs k = some (xs.getD k.toNat d) := by
  unfold atI ixN
  rw [if_pos h0, if_pos h]
  have hk : k.toNat < xs.length := by omega
  simp [List.getD_eq_getElem?_getD, hk]
theorem cl_getD {n : Nat} {xs : List D} (h : D.cl.all n xs = true) (k : Nat) (d : D) (hd : D.cl n d = true) : D.cl n (xs.getD k d) = true := by
  induction xs generalizing k with
  | nil => exact hd
  | cons x xs ih =>
    have h' : (D.cl n x && D.cl.all n xs) = true := h
    rw [Bool.and_eq_true] at h'
    cases k with
    | zero => exact h'.1
    | succ k => exact ih h'.2 k
theorem rf__law_cell : Refines 2 m__law_cell q__law_cell := Refines.pure fun ds S hl c ca => by
  match ds, hl with
  | [a, b], _ =>
    cases a with
    | ro xs =>
      cases b with
      | int k =>
        by_cases h0 : 0 ≤ k
        · refine .inr ⟨cellD xs k, [], by simp [q__law_cell, h0], ?_, ?_⟩
          · by_cases h : k < (xs.length : Int)
            · simp [m__law_cell, b__law_cell, h, atI_in h0 h (.int 0), cellD]
            · have h2 : cellD xs k = .int 0 := by unfold cellD; rw [List.getD_eq_getElem?_getD, List.getElem?_eq_none (by omega)]; rfl
              simp [m__law_cell, b__law_cell, h, h2]
          · have ca' : (D.cl.all S.length xs && true) = true := ca
            rw [Bool.and_true] at ca'
            exact cl_getD ca' _ _ rfl
        · exact .inl (by simp [q__law_cell, h0])
      | _ => exact .inl rfl
    | _ => exact .inl rfl
def p_law_1 : SM :=
    (sSetG (gTup (gCons (gName 1) (gCons (gName 2) (gCons (gName 3) (gCons (gName 4) gNil))))) (eCall q__law_tree (aCons (eSl (eVar 0) (oSome (eC (.int 1))) oNone) (aCons (eCmp cEq (eOp opMod (eCall q__law_cell (aCons (eVar 0) (aCons (eC (.int 0)) aNil))) (eC (.int 2))) (eC (.int 1))) aNil))))
def p_law_2 : SM :=
    (sFor (iRange1 (eC (.int 2))) (gName 5)
    (sSeq (sSet 6 (eCall q_told_recipe (aCons (eVar 1) aNil)))
    (sIf (tOr (tNot (tTru (eCall fIsi (aCons (eVar 6) (aCons (eC (.ty .str)) aNil))))) (tCmp cNe (eVar 6) (eCall q__law_set_out (aCons (eCall q__law_pieces (aCons (eVar 1) (aCons (eC (.bl true)) aNil))) aNil))))
    (sRet (eC (.bl false)))
    sNil)))
def p_law_3 : SM :=
    (sIf (tOr (tCmp cGt (eVar 3) (eC (.int 49))) (tCmp cGt (eVar 2) (eC (.int 11))))
    (sRet (eC (.bl true)))
    sNil)
def p_law_4 : SM :=
    (sSet 7 (eTup (aCons (eC (.str [106, 111, 105, 110])) (aCons (eVar 1) (aCons (eVar 1) aNil)))))
def p_law_5 : SM :=
    (sRet (eCmp cEq (eCall q_told_recipe (aCons (eVar 7) aNil)) (eCall q__law_set_out (aCons (eCall q__law_pieces (aCons (eVar 7) (aCons (eC (.bl true)) aNil))) aNil))))
def b_law : SM := (sSeq p_law_1 (sSeq p_law_2 (sSeq p_law_3 (sSeq p_law_4 p_law_5))))
def m_law : F := fn 8 b_law
theorem rec_out {k : T} {ds : List D} (h : trOk (.tup (.str k :: ds))) : outT [] (topT k ds) = recT k ds := by
  have := out_lay (topT k ds) [] [40] (top_ok h).2 (.inl ⟨rfl, rfl⟩)
  rw [List.nil_append] at this
  exact this
theorem cell_int (ns : List Int) (k : Int) : cellD (ns.map .int) k = .int (ns.getD k.toNat 0) := by
  unfold cellD
  rw [List.getD_eq_getElem?_getD, List.getD_eq_getElem?_getD, List.getElem?_map]
  cases ns[k.toNat]? <;> rfl
theorem both_ok {k : T} {ds : List D} (h : trOk (.tup (.str k :: ds))) (hh : ht (.tup (.str k :: ds)) ≤ 19) (s : M.S) : q_told_recipe [.tup (.str k :: ds)] s = .ok (.str (recT k ds)) s ∧ q__law_pieces [.tup (.str k :: ds), .bl true] s = .ok (.ref s.length) (s ++ [.lst ((topT k ds).map .str)]) ∧ q__law_set_out [.ref s.length] (s ++ [.lst ((topT k ds).map .str)]) = .ok (.str (recT k ds)) (s ++ [.lst ((topT k ds).map .str)]) := by
  refine ⟨?_, ?_, ?_⟩
  · simp only [q_told_recipe]; rw [if_pos h]
  · show (if _ then _ else _) = _
    rw [if_pos ⟨h, by omega⟩]
    rfl
  · have e : (s ++ [O.lst ((topT k ds).map .str)])[s.length]? = some (.lst ((topT k ds).map .str)) := by simp
    simp only [q__law_set_out, e, texts_str]
    rw [if_pos (show soOk (topT k ds) from top_ok h), rec_out h]
abbrev lwS (ns : List Int) (t : D) (a b : Nat) (f : Bool) (v5 v6 v7 : Option D) : St := [some (.ro (ns.map .int)), some t, some (.int a), some (.int b), some (.bl f), v5, v6, v7]
abbrev l2Body : SM := sSeq (sSet 6 (eCall q_told_recipe (aCons (eVar 1) aNil)))
    (sIf (tOr (tNot (tTru (eCall fIsi (aCons (eVar 6) (aCons (eC (.ty .str)) aNil))))) (tCmp cNe (eVar 6) (eCall q__law_set_out (aCons (eCall q__law_pieces (aCons (eVar 1) (aCons (eC (.bl true)) aNil))) aNil))))
    (sRet (eC (.bl false)))
    sNil)
theorem p2_eq : p_law_2 = sFor (iRange1 (eC (.int 2))) (gName 5) l2Body := rfl
theorem l2_step (ns : List Int) {k : T} {ds : List D} {a b : Nat} {f : Bool} {j : Int} {v5 v6 v7 : Option D} {s : M.S} (h : trOk (.tup (.str k :: ds))) (hh : ht (.tup (.str k :: ds)) ≤ 19) : forF (gName 5) l2Body (.int j) (lwS ns (.tup (.str k :: ds)) a b f v5 v6 v7) s = .nx (lwS ns (.tup (.str k :: ds)) a b f (some (.int j)) (some (.str (recT k ds))) v7) (s ++ [.lst ((topT k ds).map .str)]) := by
  obtain ⟨q1, q2, q3⟩ := both_ok h hh s
  simp [q1, q2, q3, isKind]
theorem law_true (ns : List Int) (hn : ns.length ≤ 63) : ∃ s, m_law [.ro (ns.map .int)] [] = .ok (.bl true) s := by
  have ec0 : ∀ s, q__law_cell [.ro (ns.map .int), .int 0] s = .ok (.int (ns.getD 0 0)) s := fun s => by
    have := cell_int ns 0
    simp only [q__law_cell]
    rw [if_pos (by decide)]
    exact congrArg (fun d => R.ok d s) this
  obtain ⟨x, o, z, et⟩ := tree_ok (ns.drop 1) (by simp; omega) (decide (ns.getD 0 0 % 2 = 1))
  have hc : cut (ns.map D.int) (some 1) none = (ns.drop 1).map .int := by rw [cut_lo _ (by decide), ← List.map_drop]; rfl
  have et' := et [.lst ((ns.drop 1).map .int)] 0 rfl
  have e1 : ∀ r : SM, (p_law_1 [some (.ro (ns.map .int)), none, none, none, none, none, none, none] []).then r = r (lwS ns x.1 (ht x.1) (sz x.1) x.2 none none none) [.lst ((ns.drop 1).map .int)] := fun r => by
    simp [-List.getD_eq_getElem?_getD, -List.map_drop, -List.drop_one, p_law_1, hc, ec0, et', enD, lwS]
  obtain ⟨o1, o2, o3, o4⟩ := id o
  have tr : trOk x.1 := ⟨o4.yes, o1, by omega⟩
  obtain ⟨x1, f⟩ := x
  simp only at *
  obtain ⟨k, ds, ex⟩ := tok_shape tr.1
  subst ex
  generalize [O.lst ((ns.drop 1).map .int)] = s0 at *
  have q0 := l2_step ns (a := ht (.tup (.str k :: ds))) (b := sz (.tup (.str k :: ds))) (f := f) (j := 0) (v5 := none) (v6 := none) (v7 := none) (s := s0) tr (by omega)
  have q1 := l2_step ns (a := ht (.tup (.str k :: ds))) (b := sz (.tup (.str k :: ds))) (f := f) (j := 1) (v5 := some (.int 0)) (v6 := some (.str (recT k ds))) (v7 := none) (s := s0 ++ [.lst ((topT k ds).map .str)]) tr (by omega)
  have hr : rangeD 0 2 = [.int 0, .int 1] := rfl
  have hg : ∀ s, gdOk [] s = true := fun _ => rfl
  have e2 : p_law_2 (lwS ns (.tup (.str k :: ds)) (ht (.tup (.str k :: ds))) (sz (.tup (.str k :: ds))) f none none none) s0 = .nx (lwS ns (.tup (.str k :: ds)) (ht (.tup (.str k :: ds))) (sz (.tup (.str k :: ds))) f (some (.int 1)) (some (.str (recT k ds))) none) (s0 ++ [.lst ((topT k ds).map .str)] ++ [.lst ((topT k ds).map .str)]) := by
    rw [p2_eq]
    have ei : iRange1 (eC (.int 2)) (lwS ns (.tup (.str k :: ds)) (ht (.tup (.str k :: ds))) (sz (.tup (.str k :: ds))) f none none none) s0 = .ok ([.int 0, .int 1], []) s0 := by simp [hr]
    unfold sFor
    rw [ei, R.stm_ok, if_pos (hg _)]
    unfold forL
    rw [q0]
    simp only [hg, if_true]
    unfold forL
    rw [q1]
    simp only [hg, if_true]
    rfl
  show ∃ s, ((p_law_1 [some (.ro (ns.map .int)), none, none, none, none, none, none, none] []).then (sSeq p_law_2 (sSeq p_law_3 (sSeq p_law_4 p_law_5)))).out = .ok (.bl true) s
  rw [e1]
  show ∃ s, ((p_law_2 _ _).then _).out = .ok (.bl true) s
  rw [e2, RS.then_nx]
  generalize s0 ++ [.lst ((topT k ds).map .str)] ++ [.lst ((topT k ds).map .str)] = s1
  by_cases c3 : (49 : Int) < sz (.tup (.str k :: ds)) ∨ (11 : Int) < ht (.tup (.str k :: ds))
  · refine ⟨s1, ?_⟩
    have e3 : p_law_3 (lwS ns (.tup (.str k :: ds)) (ht (.tup (.str k :: ds))) (sz (.tup (.str k :: ds))) f (some (.int 1)) (some (.str (recT k ds))) none) s1 = .rt (.bl true) s1 := by
      rcases c3 with c3 | c3
      · simp [p_law_3, c3]
      · by_cases c4 : (49 : Int) < sz (.tup (.str k :: ds))
        · simp [p_law_3, c4]
        · simp [p_law_3, c3, c4]
    show ((p_law_3 _ _).then _).out = _
    rw [e3]
    rfl
  · have n1 : ¬ (49 : Int) < sz (.tup (.str k :: ds)) := fun h => c3 (.inl h)
    have n2 : ¬ (11 : Int) < ht (.tup (.str k :: ds)) := fun h => c3 (.inr h)
    have hw : innW.contains wJoin = true := by decide
    have gd : ∀ y ∈ [((.tup (.str k :: ds) : D), f), (.tup (.str k :: ds), f)], Good y := fun y hy => by
      simp only [List.mem_cons, List.not_mem_nil, or_false, or_self] at hy
      rw [hy]; exact o4
    have hgd := above_good (k := wJoin) (xs := [((.tup (.str k :: ds) : D), f), (.tup (.str k :: ds), f)]) hw rfl gd
    have hok := above_ok wJoin [((.tup (.str k :: ds) : D), f), (.tup (.str k :: ds), f)] hw (by simp [oks, o1])
    have hsz := above_sz wJoin [((.tup (.str k :: ds) : D), f), (.tup (.str k :: ds), f)] hw
    have hht := above_ht wJoin [((.tup (.str k :: ds) : D), f), (.tup (.str k :: ds), f)] hw
    have tb : trOk (.tup (.str wJoin :: [.tup (.str k :: ds), .tup (.str k :: ds)])) := ⟨hgd.yes, hok, by
      have : sz (.tup (.str wJoin :: [.tup (.str k :: ds), .tup (.str k :: ds)])) = _ := hsz
      rw [this]
      simp only [List.map_cons, List.map_nil, szs]
      omega⟩
    have hb : ht (.tup (.str wJoin :: [.tup (.str k :: ds), .tup (.str k :: ds)])) ≤ 19 := by
      have : ht (.tup (.str wJoin :: [.tup (.str k :: ds), .tup (.str k :: ds)])) = _ := hht
      rw [this]
      simp only [List.map_cons, List.map_nil, hts]
      omega
    have z3 : (3 : Nat) ≤ SZ := by decide
    have e3 : ∀ r : SM, (p_law_3 (lwS ns (.tup (.str k :: ds)) (ht (.tup (.str k :: ds))) (sz (.tup (.str k :: ds))) f (some (.int 1)) (some (.str (recT k ds))) none) s1).then r = r (lwS ns (.tup (.str k :: ds)) (ht (.tup (.str k :: ds))) (sz (.tup (.str k :: ds))) f (some (.int 1)) (some (.str (recT k ds))) none) s1 := fun r => by
      simp [p_law_3, n1, n2]
    have e4 : ∀ r : SM, (p_law_4 (lwS ns (.tup (.str k :: ds)) (ht (.tup (.str k :: ds))) (sz (.tup (.str k :: ds))) f (some (.int 1)) (some (.str (recT k ds))) none) s1).then r = r (lwS ns (.tup (.str k :: ds)) (ht (.tup (.str k :: ds))) (sz (.tup (.str k :: ds))) f (some (.int 1)) (some (.str (recT k ds))) (some (.tup (.str wJoin :: [.tup (.str k :: ds), .tup (.str k :: ds)])))) s1 := fun r => by
      simp [p_law_4, z3, wJoin]
    obtain ⟨b1, b2, b3⟩ := both_ok tb hb s1
    refine ⟨s1 ++ [.lst ((topT wJoin [.tup (.str k :: ds), .tup (.str k :: ds)]).map .str)], ?_⟩
    show ((p_law_3 _ _).then _).out = _
    rw [e3]
    show ((p_law_4 _ _).then _).out = _
    rw [e4]
    generalize hrr : recT wJoin [.tup (.str k :: ds), .tup (.str k :: ds)] = rr at *
    generalize topT wJoin [.tup (.str k :: ds), .tup (.str k :: ds)] = tt at *
    generalize D.tup (.str wJoin :: [.tup (.str k :: ds), .tup (.str k :: ds)]) = bb at *
    simp only [p_law_5]
    generalize q__law_pieces = qp at *
    simp [b1, b2, b3]
end
end M
namespace My
open PySem L2 PyProof.Rows
def top (i : Nat) : Stmt := PySem.Challenge.pw_thingyard_k23_recipes_told.main.body.getD i (.Pass ⟨0, 0, 0, 0⟩)
abbrev Θ0 : Tab := fun _ => none
theorem vv {X : Cx} {Θ : Tab} {pos : Pos} {x : Str} (i : Nat) (h1 : X.N[i]? = some x := by rfl) (h2 : Vis X.env.scope x := by exact Or.inl (by kernel_rfl)) (h3 : (x == ("__debug__" : Str)) = false := by kernel_rfl) (h4 : (x == ("__classdict__" : Str)) = false := by kernel_rfl) : WE X Θ (.Name x pos) (M.eVar i) := w_me_var i h1 h2 h3 h4
theorem vc {X : Cx} {Θ : Tab} {pos : Pos} {x : Str} (i : Nat) (h1 : X.N[i]? = some x := by rfl) (h2 : Vis X.env.scope x := by exact Or.inr (Or.inl (by kernel_rfl))) (h3 : (x == ("__debug__" : Str)) = false := by kernel_rfl) (h4 : (x == ("__classdict__" : Str)) = false := by kernel_rfl) : WE X Θ (.Name x pos) (M.eVar i) := w_me_var i h1 h2 h3 h4
theorem zz {X : Cx} {Θ : Tab} {pos : Pos} {y : M.T} {x : Str} {j : Nat} (h : x = ofT y := by decide +kernel) (ok : okT y := by decide +kernel) : WE X Θ (.Constant (.str x) j pos) (M.eC (.str y)) := w_me_str h ok
theorem gk {X : Cx} {x : Str} (h : X.env.kindOf x = some .globalImplicit := by kernel_rfl) : Gl X x := h
abbrev cX (P : Program) (w : World) (K : PySem.W.Frag) (mg : Str → Option Value) (base : Heap) (N : List Str) (n : Str) (st : Stmt) (f : Addr) (cdv : Value) (A : Around) (outer : List Env) (s : Shared) (H : Hp) (E : XK) : Cx := (cxOf CX0 P w K mg base N n (defScope st) f cdv A outer s H E).nox
abbrev RM (k : Nat) (n : Str) (st : Stmt) (A : Around) (s : Shared) (f : Addr) (cdv : Value) : Prop := Room k (A.deeper (envOfC n (defScope st) s.heap.objs.size f cdv))
abbrev bd (st : Stmt) (j : Nat) : Stmt := (defBody st).getD j (.Pass ⟨0, 0, 0, 0⟩)
section
variable (P : Program) (w : World) (K : PySem.W.Frag) (mg : Str → Option Value) (base : Heap)
abbrev T__law_mixed : Prop := Has P w K mg base "_law_mixed" 1 ["_law_cell_here", "_law_k"] (SpM K Θ0 2 M.q__law_mixed)
abbrev T__law_signs : Prop := Has P w K mg base "_law_signs" 1 [] (SpM K Θ0 0 M.q__law_signs)
abbrev T__law_kept : Prop := Has P w K mg base "_law_kept" 1 [] (SpM K Θ0 0 M.q__law_kept)
abbrev T__law_plain : Prop := Has P w K mg base "_law_plain" 2 ["_law_cell_here"] (SpM K Θ0 1 M.q__law_plain)
abbrev T__law_name : Prop := Has P w K mg base "_law_name" 3 ["_law_cell_here"] (SpM K Θ0 1 M.q__law_name)
abbrev T__law_leaf : Prop := Has P w K mg base "_law_leaf" 4 ["_law_cell_here", "_law_family"] (SpM K Θ0 2 M.q__law_leaf)
abbrev T__law_above : Prop := Has P w K mg base "_law_above" 1 ["_law_word", "_law_under"] (SpM K Θ0 2 M.q__law_above)
abbrev T__law_grown : Prop := Has P w K mg base "_law_grown" 5 ["_law_stack", "_law_cell_here", "_law_family"] (SpM K Θ0 3 M.q__law_grown)
abbrev T__law_tree : Prop := Has P w K mg base "_law_tree" 6 ["_law_cells", "_law_family"] (SpM K Θ0 2 M.q__law_tree)
abbrev T_bare_told : Prop := Has P w K mg base "bare_told" 1 ["part"] (SpM K Θ0 1 M.q_bare_told)
abbrev T_told_steps : Prop := Has P w K mg base "told_steps" 2 ["part"] (SpM K Θ0 1 M.q_told_steps)
abbrev T_told_tokens : Prop := Has P w K mg base "told_tokens" 3 ["tree"] (SpM K Θ0 1 M.q_told_tokens)
abbrev T_told_recipe : Prop := Has P w K mg base "told_recipe" 4 ["tree"] (SpM K Θ0 1 M.q_told_recipe)
abbrev T__law_set_out : Prop := Has P w K mg base "_law_set_out" 1 ["_law_pieces_here"] (SpM K Θ0 1 M.q__law_set_out)
abbrev T__law_pieces : Prop := Has P w K mg base "_law_pieces" 20 ["_law_tree_here", "_law_whole"] (SpM K Θ0 2 M.q__law_pieces)
abbrev T__law_cell : Prop := Has P w K mg base "_law_cell" 1 ["_law_script", "_law_k"] (SpM K Θ0 2 M.q__law_cell)
end
variable {P : Program} {w : World} {K : PySem.W.Frag} {mg : Str → Option Value} {base : Heap} {f : Addr} {fd : FuncData} {cdv : Value} {A : Around} {outer : List Env} {s : Shared} {H : Hp} {E : XK}
abbrev s__law_mixed : Stmt := top 7
abbrev N__law_mixed : List Str := ["_law_cell_here", "_law_k", "_law_number"]
theorem sc__law_mixed : FnScope N__law_mixed ["_law_cell_here", "_law_k"] (defScope s__law_mixed) := ⟨rfl, rfl, rfl, by decide +kernel, rfl, by decide +kernel, by decide +kernel⟩
theorem ok__law_mixed (F : Fun K "_law_mixed" "_law_mixed" s__law_mixed f fd) :
    FnOk P w K mg base CX0 1 f fd ["_law_cell_here", "_law_k"] (SpM K Θ0 2 M.q__law_mixed) := by
  refine w_fun_M (b := M.b__law_mixed) F sc__law_mixed M.rf__law_mixed fun cdv A outer s H E hr => ?_
  unfold M.b__law_mixed
  exact (w_mss_cons (w_ms_set (i := 2) sc__law_mixed.nd rfl (Or.inl (by kernel_rfl)) (w_me_op u_mod ad_mod (w_me_op u_mulM ad_mul (w_me_op (OpR.or u_add op_catT) ad_add (vv 0) (w_me_op u_mulM ad_mul w_me_int (vv 1))) w_me_int) w_me_int))
    (w_mss_one (w_ms_ret (w_me_op u_mod ad_mod (w_me_op u_mulM ad_mul (vv 2) (w_me_op (OpR.or u_add op_catT) ad_add (w_me_op (OpR.or u_add op_catT) ad_add (vv 2) (w_me_op u_mulM ad_mul w_me_int (vv 1))) w_me_int)) w_me_int))))
abbrev s__law_signs : Stmt := top 11
abbrev N__law_signs : List Str := ["_law_some"]
theorem sc__law_signs : FnScope N__law_signs [] (defScope s__law_signs) := ⟨rfl, rfl, rfl, by decide +kernel, rfl, by decide +kernel, by decide +kernel⟩
theorem ok__law_signs (F : Fun K "_law_signs" "_law_signs" s__law_signs f fd) :
    FnOk P w K mg base CX0 1 f fd [] (SpM K Θ0 0 M.q__law_signs) := by
  refine w_fun_M (b := M.b__law_signs) F sc__law_signs M.rf__law_signs fun cdv A outer s H E hr => ?_
  unfold M.b__law_signs
  exact (w_mss_cons (w_ms_set (i := 0) sc__law_signs.nd rfl (Or.inl (by kernel_rfl)) zz)
    (w_mss_one (w_ms_ret (w_me_op (OpR.or u_add op_catT) ad_add (vv 0) zz))))
abbrev s__law_kept : Stmt := top 8
abbrev N__law_kept : List Str := []
theorem sc__law_kept : FnScope N__law_kept [] (defScope s__law_kept) := ⟨rfl, rfl, rfl, by decide +kernel, rfl, by decide +kernel, by decide +kernel⟩
theorem ok__law_kept (F : Fun K "_law_kept" "_law_kept" s__law_kept f fd) :
    FnOk P w K mg base CX0 1 f fd [] (SpM K Θ0 0 M.q__law_kept) := by
  refine w_fun_M (b := M.b__law_kept) F sc__law_kept M.rf__law_kept fun cdv A outer s H E hr => ?_
  unfold M.b__law_kept
  exact (w_mss_one (w_ms_ret (w_me_m PySem.F.plainAttrs_str PySem.F.slot_str_split PySem.F.type_str_split mt_split ad_split rfl zz (w_ma_cons zz w_ma_nil))))
abbrev s__law_plain : Stmt := top 9
abbrev N__law_plain : List Str := ["_law_cell_here", "_law_letters", "_law_left", "_law_found"]
theorem sc__law_plain : FnScope N__law_plain ["_law_cell_here"] (defScope s__law_plain) := ⟨rfl, rfl, rfl, by decide +kernel, rfl, by decide +kernel, by decide +kernel⟩
theorem nd__law_plain_1 : (["_law_cell_here", "_law_letters", "_law_left", "_law_found", "_law_j"] : List Str).Nodup := by decide +kernel
theorem ps__law_plain_1 (hr : RM 1 "_law_plain" s__law_plain A s f cdv) : WS (cX P w K mg base N__law_plain "_law_plain" s__law_plain f cdv A outer s H E) Θ0 (bd s__law_plain 0) M.p__law_plain_1 := by
  unfold M.p__law_plain_1
  exact (w_ms_set (i := 1) sc__law_plain.nd rfl (Or.inr (by kernel_rfl)) zz)
theorem ps__law_plain_2 (h__law_mixed : T__law_mixed P w K mg base) (hr : RM 1 "_law_plain" s__law_plain A s f cdv) : WS (cX P w K mg base N__law_plain "_law_plain" s__law_plain f cdv A outer s H E) Θ0 (bd s__law_plain 1) M.p__law_plain_2 := by
  unfold M.p__law_plain_2
  exact (w_ms_set (i := 2) sc__law_plain.nd rfl (Or.inl (by kernel_rfl)) (w_me_call h__law_mixed hr (by decide) gk (w_ma_cons (vc 0) (w_ma_cons w_me_int w_ma_nil)) (ar_cons (ar_cons ar_nil))))
theorem ps__law_plain_3 (h__law_mixed : T__law_mixed P w K mg base) (b_range : mg "range" = none) (hr : RM 1 "_law_plain" s__law_plain A s f cdv) : WS (cX P w K mg base N__law_plain "_law_plain" s__law_plain f cdv A outer s H E) Θ0 (bd s__law_plain 2) M.p__law_plain_3 := by
  unfold M.p__law_plain_3
  exact (w_ms_set (i := 3) sc__law_plain.nd rfl (Or.inl (by kernel_rfl)) (w_me_joinC (by decide +kernel) (vars := ["_law_j"]) rfl ⟨rfl, rfl, (by kernel_rfl), (by kernel_rfl), (by decide +kernel), ⟨(by kernel_rfl), (by kernel_rfl), trivial⟩, (by kernel_rfl)⟩ (w_mi_range1 gk b_range (w_me_op (OpR.or u_add op_catT) ad_add w_me_int (w_me_op u_mod ad_mod (vv 2) w_me_int))) (fun _ _ _ _ => (w_mg_name (i := 4) nd__law_plain_1 rfl (Or.inl (by kernel_rfl)) (.inr (by kernel_rfl)))) (fun _ _ _ _ => pifs_yes) (fun _ _ _ _ => (w_me_ix (ix_M hr) ad_ix (vc 1) (w_me_op u_mod ad_mod (w_me_op u_div ad_div (w_me_call h__law_mixed hr (by decide) gk (w_ma_cons (vc 0) (w_ma_cons (vv 4) w_ma_nil)) (ar_cons (ar_cons ar_nil))) w_me_int) w_me_int))) (by kernel_rfl) (fun ρ H S ds ys p Q rp r hq h => adk_join (by decide +kernel) ρ H S ds ys p Q rp r (.inl hq) h)))
theorem ps__law_plain_4 (h__law_kept : T__law_kept P w K mg base) (hr : RM 1 "_law_plain" s__law_plain A s f cdv) : WS (cX P w K mg base N__law_plain "_law_plain" s__law_plain f cdv A outer s H E) Θ0 (bd s__law_plain 3) M.p__law_plain_4 := by
  unfold M.p__law_plain_4
  exact (w_ms_if (w_mt_cmp (op_eqM hr) ad_eq (w_me_op u_mod ad_mod (w_me_op u_div ad_div (vv 2) w_me_int) w_me_int) w_me_int (nomark _))
    (w_mss_one (w_ms_set (i := 3) sc__law_plain.nd rfl (Or.inl (by kernel_rfl)) (w_me_ix (ix_M hr) ad_ix (w_me_call0 h__law_kept hr (by decide) gk) (w_me_op u_mod ad_mod (w_me_op u_div ad_div (vv 2) w_me_int) w_me_int))))
    w_mss_nil)
theorem ps__law_plain_5 (h__law_kept : T__law_kept P w K mg base) (hr : RM 1 "_law_plain" s__law_plain A s f cdv) : WS (cX P w K mg base N__law_plain "_law_plain" s__law_plain f cdv A outer s H E) Θ0 (bd s__law_plain 4) M.p__law_plain_5 := by
  unfold M.p__law_plain_5
  exact (w_ms_if (w_mt_cmp (op_inM hr) ad_in (vv 3) (w_me_call0 h__law_kept hr (by decide) gk) (by rfl))
    (w_mss_one (w_ms_ret (w_me_op (OpR.or u_add op_catT) ad_add (vv 3) zz)))
    w_mss_nil)
theorem ps__law_plain_6 (hr : RM 1 "_law_plain" s__law_plain A s f cdv) : WS (cX P w K mg base N__law_plain "_law_plain" s__law_plain f cdv A outer s H E) Θ0 (bd s__law_plain 5) M.p__law_plain_6 := by
  unfold M.p__law_plain_6
  exact (w_ms_ret (vv 3))
theorem ok__law_plain (F : Fun K "_law_plain" "_law_plain" s__law_plain f fd) (h__law_mixed : T__law_mixed P w K mg base) (h__law_kept : T__law_kept P w K mg base) (b_range : mg "range" = none) :
    FnOk P w K mg base CX0 2 f fd ["_law_cell_here"] (SpM K Θ0 1 M.q__law_plain) := by
  refine w_fun_M (b := M.b__law_plain) F sc__law_plain M.rf__law_plain fun cdv A outer s H E hr => ?_
  unfold M.b__law_plain
  exact (w_mss_cons (ps__law_plain_1 hr) (w_mss_cons (ps__law_plain_2 h__law_mixed hr) (w_mss_cons (ps__law_plain_3 h__law_mixed b_range hr) (w_mss_cons (ps__law_plain_4 h__law_kept hr) (w_mss_cons (ps__law_plain_5 h__law_kept hr) (w_mss_one (ps__law_plain_6 hr)))))))
abbrev s__law_name : Stmt := top 10
abbrev N__law_name : List Str := ["_law_cell_here"]
theorem sc__law_name : FnScope N__law_name ["_law_cell_here"] (defScope s__law_name) := ⟨rfl, rfl, rfl, by decide +kernel, rfl, by decide +kernel, by decide +kernel⟩
theorem ok__law_name (F : Fun K "_law_name" "_law_name" s__law_name f fd) (h__law_plain : T__law_plain P w K mg base) (h__law_mixed : T__law_mixed P w K mg base) :
    FnOk P w K mg base CX0 3 f fd ["_law_cell_here"] (SpM K Θ0 1 M.q__law_name) := by
  refine w_fun_M (b := M.b__law_name) F sc__law_name M.rf__law_name fun cdv A outer s H E hr => ?_
  unfold M.b__law_name
  exact (w_mss_cons (w_ms_if (w_mt_cmp (op_eqM hr) ad_eq (w_me_op u_mod ad_mod (w_me_call h__law_mixed hr (by decide) gk (w_ma_cons (vv 0) (w_ma_cons w_me_int w_ma_nil)) (ar_cons (ar_cons ar_nil))) w_me_int) w_me_int (nomark _))
    (w_mss_one (w_ms_ret (w_me_op (OpR.or u_add op_catT) ad_add (w_me_op (OpR.or u_add op_catT) ad_add (w_me_call h__law_plain hr (by decide) gk (w_ma_cons (vv 0) w_ma_nil) (ar_cons ar_nil)) zz) (w_me_call h__law_plain hr (by decide) gk (w_ma_cons (w_me_call h__law_mixed hr (by decide) gk (w_ma_cons (vv 0) (w_ma_cons w_me_int w_ma_nil)) (ar_cons (ar_cons ar_nil))) w_ma_nil) (ar_cons ar_nil)))))
    w_mss_nil)
    (w_mss_one (w_ms_ret (w_me_call h__law_plain hr (by decide) gk (w_ma_cons (vv 0) w_ma_nil) (ar_cons ar_nil)))))
abbrev s__law_leaf : Stmt := top 12
abbrev N__law_leaf : List Str := ["_law_cell_here", "_law_family", "_law_left", "_law_some", "_law_size", "_law_inner"]
theorem sc__law_leaf : FnScope N__law_leaf ["_law_cell_here", "_law_family"] (defScope s__law_leaf) := ⟨rfl, rfl, rfl, by decide +kernel, rfl, by decide +kernel, by decide +kernel⟩
theorem nd__law_leaf_1 : (["_law_cell_here", "_law_family", "_law_left", "_law_some", "_law_size", "_law_inner", "_law_j"] : List Str).Nodup := by decide +kernel
theorem ps__law_leaf_1 (h__law_mixed : T__law_mixed P w K mg base) (hr : RM 3 "_law_leaf" s__law_leaf A s f cdv) : WS (cX P w K mg base N__law_leaf "_law_leaf" s__law_leaf f cdv A outer s H E) Θ0 (bd s__law_leaf 0) M.p__law_leaf_1 := by
  unfold M.p__law_leaf_1
  exact (w_ms_set (i := 2) sc__law_leaf.nd rfl (Or.inr (by kernel_rfl)) (w_me_call h__law_mixed hr (by decide) gk (w_ma_cons (vv 0) (w_ma_cons w_me_int w_ma_nil)) (ar_cons (ar_cons ar_nil))))
theorem ps__law_leaf_2 (h__law_signs : T__law_signs P w K mg base) (b_range : mg "range" = none) (hr : RM 3 "_law_leaf" s__law_leaf A s f cdv) : WS (cX P w K mg base N__law_leaf "_law_leaf" s__law_leaf f cdv A outer s H E) Θ0 (bd s__law_leaf 1) M.p__law_leaf_2 := by
  unfold M.p__law_leaf_2
  exact (w_ms_if (w_mt_cmp (op_eqM hr) ad_eq (w_me_op u_mod ad_mod (vc 2) w_me_int) w_me_int (nomark _))
    (w_mss_cons (w_ms_set (i := 3) sc__law_leaf.nd rfl (Or.inr (by kernel_rfl)) (w_me_call0 h__law_signs hr (by decide) gk))
    (w_mss_cons (w_ms_set (i := 4) sc__law_leaf.nd rfl (Or.inl (by kernel_rfl)) (w_me_op u_mod ad_mod (w_me_op u_div ad_div (vc 2) w_me_int) w_me_int))
    (w_mss_cons (w_ms_if (w_mt_cmp (op_eqM hr) ad_eq (w_me_op u_mod ad_mod (w_me_op u_div ad_div (vc 2) w_me_int) w_me_int) w_me_int (nomark _))
    (w_mss_one (w_ms_set (i := 4) sc__law_leaf.nd rfl (Or.inl (by kernel_rfl)) (w_me_op u_mod ad_mod (w_me_op u_div ad_div (vc 2) w_me_int) w_me_int)))
    w_mss_nil)
    (w_mss_cons (w_ms_setcomp (vars := ["_law_j"]) (i := 5) rfl ⟨rfl, rfl, (by kernel_rfl), (by kernel_rfl), (by decide +kernel), ⟨(by kernel_rfl), (by kernel_rfl), trivial⟩, (by kernel_rfl)⟩ sc__law_leaf.nd rfl (Or.inl (by kernel_rfl)) (w_mi_range1 gk b_range (vv 4)) (fun _ _ _ _ => (w_mg_name (i := 6) nd__law_leaf_1 rfl (Or.inl (by kernel_rfl)) (.inr (by kernel_rfl)))) (fun _ _ _ _ => pifs_yes) (fun _ _ _ _ => (w_me_ix (ix_M hr) ad_ix (vc 3) (w_me_op u_mod ad_mod (w_me_op (OpR.or u_add op_catT) ad_add (w_me_op u_div ad_div (vc 2) w_me_int) (w_me_op u_mulM ad_mul (vv 6) (w_me_op (OpR.or u_add op_catT) ad_add w_me_int (w_me_op u_mod ad_mod (vc 2) w_me_int)))) w_me_int))) (by kernel_rfl))
    (w_mss_one (w_ms_ret (w_me_tup (w_ma_cons (w_me_tup (w_ma_cons zz (w_ma_cons (w_me_m PySem.F.plainAttrs_str PySem.F.slot_str_join PySem.F.type_str_join mt_join ad_join rfl zz (w_ma_cons (vv 5) w_ma_nil)) w_ma_nil))) (w_ma_cons w_me_int (w_ma_cons w_me_int (w_ma_cons w_me_bl w_ma_nil)))))))))))
    w_mss_nil)
theorem ps__law_leaf_3 (hr : RM 3 "_law_leaf" s__law_leaf A s f cdv) : WS (cX P w K mg base N__law_leaf "_law_leaf" s__law_leaf f cdv A outer s H E) Θ0 (bd s__law_leaf 2) M.p__law_leaf_3 := by
  unfold M.p__law_leaf_3
  exact (w_ms_if (w_mt_cmp (op_eqM hr) ad_eq (w_me_op u_mod ad_mod (vc 2) w_me_int) w_me_int (nomark _))
    (w_mss_one (w_ms_ret (w_me_tup (w_ma_cons (w_me_tup (w_ma_cons zz w_ma_nil)) (w_ma_cons w_me_int (w_ma_cons w_me_int (w_ma_cons w_me_bl w_ma_nil)))))))
    w_mss_nil)
theorem ps__law_leaf_4 (hr : RM 3 "_law_leaf" s__law_leaf A s f cdv) : WS (cX P w K mg base N__law_leaf "_law_leaf" s__law_leaf f cdv A outer s H E) Θ0 (bd s__law_leaf 3) M.p__law_leaf_4 := by
  unfold M.p__law_leaf_4
  exact (w_ms_if (w_mt_cmp (op_eqM hr) ad_eq (w_me_op u_mod ad_mod (vc 2) w_me_int) w_me_int (nomark _))
    (w_mss_one (w_ms_ret (w_me_tup (w_ma_cons (w_me_tup (w_ma_cons zz w_ma_nil)) (w_ma_cons w_me_int (w_ma_cons w_me_int (w_ma_cons w_me_bl w_ma_nil)))))))
    w_mss_nil)
theorem ps__law_leaf_5 (h__law_plain : T__law_plain P w K mg base) (hr : RM 3 "_law_leaf" s__law_leaf A s f cdv) : WS (cX P w K mg base N__law_leaf "_law_leaf" s__law_leaf f cdv A outer s H E) Θ0 (bd s__law_leaf 4) M.p__law_leaf_5 := by
  unfold M.p__law_leaf_5
  exact (w_ms_if (w_mt_ofw (w_mw_and (w_mt_cmp (op_eqM hr) ad_eq (w_me_op u_mod ad_mod (vc 2) w_me_int) w_me_int (nomark _)) (w_mw_one_and (w_mt_tru (vv 1)))))
    (w_mss_one (w_ms_ret (w_me_tup (w_ma_cons (w_me_ix (ix_M hr) ad_ix (w_me_lst (w_ma_cons (w_me_tup (w_ma_cons zz w_ma_nil)) (w_ma_cons (w_me_tup (w_ma_cons zz (w_ma_cons (w_me_call h__law_plain hr (by decide) gk (w_ma_cons (w_me_op u_div ad_div (vc 2) w_me_int) w_ma_nil) (ar_cons ar_nil)) w_ma_nil))) w_ma_nil))) (w_me_op u_mod ad_mod (w_me_op u_div ad_div (vc 2) w_me_int) w_me_int)) (w_ma_cons w_me_int (w_ma_cons w_me_int (w_ma_cons w_me_bl w_ma_nil)))))))
    w_mss_nil)
theorem ps__law_leaf_6 (h__law_name : T__law_name P w K mg base) (hr : RM 3 "_law_leaf" s__law_leaf A s f cdv) : WS (cX P w K mg base N__law_leaf "_law_leaf" s__law_leaf f cdv A outer s H E) Θ0 (bd s__law_leaf 5) M.p__law_leaf_6 := by
  unfold M.p__law_leaf_6
  exact (w_ms_ret (w_me_tup (w_ma_cons (w_me_tup (w_ma_cons zz (w_ma_cons (w_me_call h__law_name hr (by decide) gk (w_ma_cons (w_me_op u_div ad_div (vc 2) w_me_int) w_ma_nil) (ar_cons ar_nil)) w_ma_nil))) (w_ma_cons w_me_int (w_ma_cons w_me_int (w_ma_cons w_me_bl w_ma_nil))))))
theorem ok__law_leaf (F : Fun K "_law_leaf" "_law_leaf" s__law_leaf f fd) (h__law_mixed : T__law_mixed P w K mg base) (h__law_signs : T__law_signs P w K mg base) (h__law_name : T__law_name P w K mg base) (h__law_plain : T__law_plain P w K mg base) (b_range : mg "range" = none) :
    FnOk P w K mg base CX0 4 f fd ["_law_cell_here", "_law_family"] (SpM K Θ0 2 M.q__law_leaf) := by
  refine w_fun_M (b := M.b__law_leaf) F sc__law_leaf M.rf__law_leaf fun cdv A outer s H E hr => ?_
  unfold M.b__law_leaf
  exact (w_mss_cons (ps__law_leaf_1 h__law_mixed hr) (w_mss_cons (ps__law_leaf_2 h__law_signs b_range hr) (w_mss_cons (ps__law_leaf_3 hr) (w_mss_cons (ps__law_leaf_4 hr) (w_mss_cons (ps__law_leaf_5 h__law_plain hr) (w_mss_one (ps__law_leaf_6 h__law_name hr)))))))
abbrev s__law_above : Stmt := top 13
abbrev N__law_above : List Str := ["_law_word", "_law_under", "_law_high", "_law_many", "_law_free"]
theorem sc__law_above : FnScope N__law_above ["_law_word", "_law_under"] (defScope s__law_above) := ⟨rfl, rfl, rfl, by decide +kernel, rfl, by decide +kernel, by decide +kernel⟩
theorem nd__law_above_1 : (["_law_word", "_law_under", "_law_high", "_law_many", "_law_free", "_law_one"] : List Str).Nodup := by decide +kernel
theorem nd__law_above_2 : (["_law_word", "_law_under", "_law_high", "_law_many", "_law_free", "_law_one"] : List Str).Nodup := by decide +kernel
theorem nd__law_above_3 : (["_law_word", "_law_under", "_law_high", "_law_many", "_law_free", "_law_one"] : List Str).Nodup := by decide +kernel
theorem nd__law_above_4 : (["_law_word", "_law_under", "_law_high", "_law_many", "_law_free", "_law_one"] : List Str).Nodup := by decide +kernel
theorem ps__law_above_1 (b_max : mg "max" = none) (hr : RM 0 "_law_above" s__law_above A s f cdv) : WS (cX P w K mg base N__law_above "_law_above" s__law_above f cdv A outer s H E) Θ0 (bd s__law_above 0) M.p__law_above_1 := by
  unfold M.p__law_above_1
  exact (w_ms_set (i := 2) sc__law_above.nd rfl (Or.inl (by kernel_rfl)) (w_me_op (OpR.or u_add op_catT) ad_add w_me_int (w_me_callB (call_maxU hr) ad_max gk b_max bt_max (w_ma_cons (w_me_comp (vars := ["_law_one"]) rfl ⟨rfl, rfl, (by kernel_rfl), (by kernel_rfl), (by decide +kernel), trivial, (by kernel_rfl)⟩ (w_mi_e (vv 1)) (fun _ _ _ _ => (w_mg_name (i := 5) nd__law_above_1 rfl (Or.inl (by kernel_rfl)) (.inr (by kernel_rfl)))) (fun _ _ _ _ => pifs_yes) (fun _ _ _ _ => (w_me_ix (ix_M hr) ad_ix (vv 5) w_me_int)) (by kernel_rfl)) w_ma_nil))))
theorem ps__law_above_2 (b_sum : mg "sum" = none) (hr : RM 0 "_law_above" s__law_above A s f cdv) : WS (cX P w K mg base N__law_above "_law_above" s__law_above f cdv A outer s H E) Θ0 (bd s__law_above 1) M.p__law_above_2 := by
  unfold M.p__law_above_2
  exact (w_ms_set (i := 3) sc__law_above.nd rfl (Or.inl (by kernel_rfl)) (w_me_op (OpR.or u_add op_catT) ad_add w_me_int (w_me_callB (call_sumM hr) ad_sum gk b_sum bt_sum (w_ma_cons (w_me_comp (vars := ["_law_one"]) rfl ⟨rfl, rfl, (by kernel_rfl), (by kernel_rfl), (by decide +kernel), trivial, (by kernel_rfl)⟩ (w_mi_e (vv 1)) (fun _ _ _ _ => (w_mg_name (i := 5) nd__law_above_2 rfl (Or.inl (by kernel_rfl)) (.inr (by kernel_rfl)))) (fun _ _ _ _ => pifs_yes) (fun _ _ _ _ => (w_me_ix (ix_M hr) ad_ix (vv 5) w_me_int)) (by kernel_rfl)) w_ma_nil))))
theorem ps__law_above_3 (b_any : mg "any" = none) (hr : RM 0 "_law_above" s__law_above A s f cdv) : WS (cX P w K mg base N__law_above "_law_above" s__law_above f cdv A outer s H E) Θ0 (bd s__law_above 2) M.p__law_above_3 := by
  unfold M.p__law_above_3
  exact (w_ms_set (i := 4) sc__law_above.nd rfl (Or.inl (by kernel_rfl)) (w_me_callC (call_any rfl) adk_any gk b_any bt_any (vars := ["_law_one"]) rfl ⟨rfl, rfl, (by kernel_rfl), (by kernel_rfl), (by decide +kernel), trivial, (by kernel_rfl)⟩ (w_mi_e (vv 1)) (fun _ _ _ _ => (w_mg_name (i := 5) nd__law_above_3 rfl (Or.inl (by kernel_rfl)) (.inr (by kernel_rfl)))) (fun _ _ _ _ => pifs_yes) (fun _ _ _ _ => (w_me_ix (ix_M hr) ad_ix (vv 5) w_me_int)) (by kernel_rfl)))
theorem ps__law_above_4 (hr : RM 0 "_law_above" s__law_above A s f cdv) : WS (cX P w K mg base N__law_above "_law_above" s__law_above f cdv A outer s H E) Θ0 (bd s__law_above 3) M.p__law_above_4 := by
  unfold M.p__law_above_4
  exact (w_ms_if (w_mt_cmp (op_eqM hr) ad_eq (vv 0) zz (nomark _))
    (w_mss_one (w_ms_set (i := 4) sc__law_above.nd rfl (Or.inl (by kernel_rfl)) (w_me_ix (ix_M hr) ad_ix (w_me_ix (ix_M hr) ad_ix (vv 1) w_me_int) w_me_int)))
    w_mss_nil)
theorem ps__law_above_5 (b_tuple : mg "tuple" = none) (hr : RM 0 "_law_above" s__law_above A s f cdv) : WS (cX P w K mg base N__law_above "_law_above" s__law_above f cdv A outer s H E) Θ0 (bd s__law_above 4) M.p__law_above_5 := by
  unfold M.p__law_above_5
  exact (w_ms_ret (w_me_tup (w_ma_cons (w_me_callTy call_tupleM ad_tuple gk b_tuple bt_tuple (w_ma_cons (w_me_op (OpR.or u_add op_catT) ad_add (w_me_lst (w_ma_cons (vv 0) w_ma_nil)) (w_me_comp (vars := ["_law_one"]) rfl ⟨rfl, rfl, (by kernel_rfl), (by kernel_rfl), (by decide +kernel), trivial, (by kernel_rfl)⟩ (w_mi_e (vv 1)) (fun _ _ _ _ => (w_mg_name (i := 5) nd__law_above_4 rfl (Or.inl (by kernel_rfl)) (.inr (by kernel_rfl)))) (fun _ _ _ _ => pifs_yes) (fun _ _ _ _ => (w_me_ix (ix_M hr) ad_ix (vv 5) w_me_int)) (by kernel_rfl))) w_ma_nil)) (w_ma_cons (vv 2) (w_ma_cons (vv 3) (w_ma_cons (vv 4) w_ma_nil))))))
theorem ok__law_above (F : Fun K "_law_above" "_law_above" s__law_above f fd) (b_any : mg "any" = none) (b_max : mg "max" = none) (b_sum : mg "sum" = none) (b_tuple : mg "tuple" = none) :
    FnOk P w K mg base CX0 1 f fd ["_law_word", "_law_under"] (SpM K Θ0 2 M.q__law_above) := by
  refine w_fun_M (b := M.b__law_above) F sc__law_above M.rf__law_above fun cdv A outer s H E hr => ?_
  unfold M.b__law_above
  exact (w_mss_cons (ps__law_above_1 b_max hr) (w_mss_cons (ps__law_above_2 b_sum hr) (w_mss_cons (ps__law_above_3 b_any hr) (w_mss_cons (ps__law_above_4 hr) (w_mss_one (ps__law_above_5 b_tuple hr))))))
abbrev s__law_grown : Stmt := top 14
abbrev N__law_grown : List Str := ["_law_stack", "_law_cell_here", "_law_family", "_law_left", "_law_words", "_law_word", "_law_many", "_law_made"]
theorem sc__law_grown : FnScope N__law_grown ["_law_stack", "_law_cell_here", "_law_family"] (defScope s__law_grown) := ⟨rfl, rfl, rfl, by decide +kernel, rfl, by decide +kernel, by decide +kernel⟩
theorem ps__law_grown_1 (h__law_mixed : T__law_mixed P w K mg base) (hr : RM 4 "_law_grown" s__law_grown A s f cdv) : WS (cX P w K mg base N__law_grown "_law_grown" s__law_grown f cdv A outer s H E) Θ0 (bd s__law_grown 0) M.p__law_grown_1 := by
  unfold M.p__law_grown_1
  exact (w_ms_set (i := 3) sc__law_grown.nd rfl (Or.inl (by kernel_rfl)) (w_me_call h__law_mixed hr (by decide) gk (w_ma_cons (vv 1) (w_ma_cons w_me_int w_ma_nil)) (ar_cons (ar_cons ar_nil))))
theorem ps__law_grown_2 (hr : RM 4 "_law_grown" s__law_grown A s f cdv) : WS (cX P w K mg base N__law_grown "_law_grown" s__law_grown f cdv A outer s H E) Θ0 (bd s__law_grown 1) M.p__law_grown_2 := by
  unfold M.p__law_grown_2
  exact (w_ms_set (i := 4) sc__law_grown.nd rfl (Or.inl (by kernel_rfl)) (w_me_lst (w_ma_cons zz (w_ma_cons zz (w_ma_cons zz (w_ma_cons zz (w_ma_cons zz (w_ma_cons zz (w_ma_cons zz (w_ma_cons zz (w_ma_cons zz (w_ma_cons zz (w_ma_cons zz (w_ma_cons zz w_ma_nil))))))))))))))
theorem ps__law_grown_3 (hr : RM 4 "_law_grown" s__law_grown A s f cdv) : WS (cX P w K mg base N__law_grown "_law_grown" s__law_grown f cdv A outer s H E) Θ0 (bd s__law_grown 2) M.p__law_grown_3 := by
  unfold M.p__law_grown_3
  exact (w_ms_set (i := 5) sc__law_grown.nd rfl (Or.inl (by kernel_rfl)) (w_me_ix (ix_M hr) ad_ix (vv 4) (w_me_op u_mod ad_mod (vv 3) w_me_int)))
theorem ps__law_grown_4 (hr : RM 4 "_law_grown" s__law_grown A s f cdv) : WS (cX P w K mg base N__law_grown "_law_grown" s__law_grown f cdv A outer s H E) Θ0 (bd s__law_grown 3) M.p__law_grown_4 := by
  unfold M.p__law_grown_4
  exact (w_ms_set (i := 6) sc__law_grown.nd rfl (Or.inl (by kernel_rfl)) (w_me_ix (ix_M hr) ad_ix (w_me_lst (w_ma_cons w_me_int (w_ma_cons w_me_int (w_ma_cons w_me_int (w_ma_cons w_me_int (w_ma_cons w_me_int (w_ma_cons w_me_int (w_ma_cons w_me_int (w_ma_cons w_me_int (w_ma_cons w_me_int (w_ma_cons w_me_int (w_ma_cons (w_me_op (OpR.or u_add op_catT) ad_add w_me_int (w_me_op u_mod ad_mod (w_me_op u_div ad_div (vv 3) w_me_int) w_me_int)) (w_ma_cons (w_me_op (OpR.or u_add op_catT) ad_add w_me_int (w_me_op u_mod ad_mod (w_me_op u_div ad_div (vv 3) w_me_int) w_me_int)) w_ma_nil))))))))))))) (w_me_op u_mod ad_mod (vv 3) w_me_int)))
theorem ps__law_grown_5 (h__law_leaf : T__law_leaf P w K mg base) (b_len : mg "len" = none) (hr : RM 4 "_law_grown" s__law_grown A s f cdv) : WS (cX P w K mg base N__law_grown "_law_grown" s__law_grown f cdv A outer s H E) Θ0 (bd s__law_grown 4) M.p__law_grown_5 := by
  unfold M.p__law_grown_5
  exact (w_ms_if (w_mt_ofw (w_mw_or (w_mt_cmp (op_eqM hr) ad_eq (w_me_op u_mod ad_mod (w_me_op u_div ad_div (vv 3) w_me_int) w_me_int) w_me_int (nomark _)) (w_mw_one_or (w_mt_cmp u_lt ad_lt (w_me_callB call_lenM ad_len gk b_len bt_len (w_ma_cons (vv 0) w_ma_nil)) (vv 6) (nomark _)))))
    (w_mss_one (w_ms_ret (w_me_op (OpR.or u_add op_catT) ad_add (vv 0) (w_me_lst (w_ma_cons (w_me_call h__law_leaf hr (by decide) gk (w_ma_cons (vv 1) (w_ma_cons (vv 2) w_ma_nil)) (ar_cons (ar_cons ar_nil))) w_ma_nil)))))
    w_mss_nil)
theorem ps__law_grown_6 (h__law_above : T__law_above P w K mg base) (b_len : mg "len" = none) (hr : RM 4 "_law_grown" s__law_grown A s f cdv) : WS (cX P w K mg base N__law_grown "_law_grown" s__law_grown f cdv A outer s H E) Θ0 (bd s__law_grown 5) M.p__law_grown_6 := by
  unfold M.p__law_grown_6
  exact (w_ms_set (i := 7) sc__law_grown.nd rfl (Or.inl (by kernel_rfl)) (w_me_call h__law_above hr (by decide) gk (w_ma_cons (vv 5) (w_ma_cons (w_me_sl u_sl ad_sl (vv 0) (w_mo_some (w_me_op u_sub ad_sub (w_me_callB call_lenM ad_len gk b_len bt_len (w_ma_cons (vv 0) w_ma_nil)) (vv 6))) w_mo_none) w_ma_nil)) (ar_cons (ar_cons ar_nil))))
theorem ps__law_grown_7 (h__law_leaf : T__law_leaf P w K mg base) (hr : RM 4 "_law_grown" s__law_grown A s f cdv) : WS (cX P w K mg base N__law_grown "_law_grown" s__law_grown f cdv A outer s H E) Θ0 (bd s__law_grown 6) M.p__law_grown_7 := by
  unfold M.p__law_grown_7
  exact (w_ms_if (w_mt_ofw (w_mw_or (w_mt_cmp u_gt ad_gt (w_me_ix (ix_M hr) ad_ix (vv 7) w_me_int) w_me_int (nomark _)) (w_mw_one_or (w_mt_cmp u_gt ad_gt (w_me_ix (ix_M hr) ad_ix (vv 7) w_me_int) w_me_int (nomark _)))))
    (w_mss_one (w_ms_ret (w_me_op (OpR.or u_add op_catT) ad_add (vv 0) (w_me_lst (w_ma_cons (w_me_call h__law_leaf hr (by decide) gk (w_ma_cons (vv 1) (w_ma_cons (vv 2) w_ma_nil)) (ar_cons (ar_cons ar_nil))) w_ma_nil)))))
    w_mss_nil)
theorem ps__law_grown_8 (b_len : mg "len" = none) (hr : RM 4 "_law_grown" s__law_grown A s f cdv) : WS (cX P w K mg base N__law_grown "_law_grown" s__law_grown f cdv A outer s H E) Θ0 (bd s__law_grown 7) M.p__law_grown_8 := by
  unfold M.p__law_grown_8
  exact (w_ms_ret (w_me_op (OpR.or u_add op_catT) ad_add (w_me_sl u_sl ad_sl (vv 0) w_mo_none (w_mo_some (w_me_op u_sub ad_sub (w_me_callB call_lenM ad_len gk b_len bt_len (w_ma_cons (vv 0) w_ma_nil)) (vv 6)))) (w_me_lst (w_ma_cons (vv 7) w_ma_nil))))
theorem ok__law_grown (F : Fun K "_law_grown" "_law_grown" s__law_grown f fd) (h__law_mixed : T__law_mixed P w K mg base) (h__law_above : T__law_above P w K mg base) (h__law_leaf : T__law_leaf P w K mg base) (b_len : mg "len" = none) :
    FnOk P w K mg base CX0 5 f fd ["_law_stack", "_law_cell_here", "_law_family"] (SpM K Θ0 3 M.q__law_grown) := by
  refine w_fun_M (b := M.b__law_grown) F sc__law_grown M.rf__law_grown fun cdv A outer s H E hr => ?_
  unfold M.b__law_grown
  exact (w_mss_cons (ps__law_grown_1 h__law_mixed hr) (w_mss_cons (ps__law_grown_2 hr) (w_mss_cons (ps__law_grown_3 hr) (w_mss_cons (ps__law_grown_4 hr) (w_mss_cons (ps__law_grown_5 h__law_leaf b_len hr) (w_mss_cons (ps__law_grown_6 h__law_above b_len hr) (w_mss_cons (ps__law_grown_7 h__law_leaf hr) (w_mss_one (ps__law_grown_8 b_len hr)))))))))
abbrev s__law_tree : Stmt := top 15
abbrev N__law_tree : List Str := ["_law_cells", "_law_family", "_law_stack", "_law_k", "_law_cell_here", "_law_made"]
theorem sc__law_tree : FnScope N__law_tree ["_law_cells", "_law_family"] (defScope s__law_tree) := ⟨rfl, rfl, rfl, by decide +kernel, rfl, by decide +kernel, by decide +kernel⟩
theorem nd__law_tree_1 : (["_law_cells", "_law_family", "_law_stack", "_law_k", "_law_cell_here", "_law_made", "_law_one"] : List Str).Nodup := by decide +kernel
theorem nd__law_tree_2 : (["_law_cells", "_law_family", "_law_stack", "_law_k", "_law_cell_here", "_law_made", "_law_one"] : List Str).Nodup := by decide +kernel
theorem ps__law_tree_1 (h__law_leaf : T__law_leaf P w K mg base) (b_len : mg "len" = none) (hr : RM 5 "_law_tree" s__law_tree A s f cdv) : WS (cX P w K mg base N__law_tree "_law_tree" s__law_tree f cdv A outer s H E) Θ0 (bd s__law_tree 0) M.p__law_tree_1 := by
  unfold M.p__law_tree_1
  exact (w_ms_set (i := 2) sc__law_tree.nd rfl (Or.inl (by kernel_rfl)) (w_me_lst (w_ma_cons (w_me_call h__law_leaf hr (by decide) gk (w_ma_cons (w_me_callB call_lenM ad_len gk b_len bt_len (w_ma_cons (vv 0) w_ma_nil)) (w_ma_cons (vv 1) w_ma_nil)) (ar_cons (ar_cons ar_nil))) w_ma_nil)))
theorem ps__law_tree_2 (h__law_grown : T__law_grown P w K mg base) (b_enumerate : mg "enumerate" = none) (hr : RM 5 "_law_tree" s__law_tree A s f cdv) : WS (cX P w K mg base N__law_tree "_law_tree" s__law_tree f cdv A outer s H E) Θ0 (bd s__law_tree 1) M.p__law_tree_2 := by
  unfold M.p__law_tree_2
  exact (w_ms_for PassesOwn.never rfl (w_mi_enumerate gk b_enumerate (vv 0)) (w_mg_tupM (n := 2) rfl (w_mgs_cons (w_mg_name (i := 3) sc__law_tree.nd rfl (Or.inl (by kernel_rfl)) (.inl rfl)) (w_mgs_cons (w_mg_name (i := 4) sc__law_tree.nd rfl (Or.inl (by kernel_rfl)) (.inl rfl)) w_mgs_nil (fun a b => pgs_cons a b)) (fun a b => pgs_cons a b)) (len_2))
    (w_mss_one (w_ms_set (i := 2) sc__law_tree.nd rfl (Or.inl (by kernel_rfl)) (w_me_call h__law_grown hr (by decide) gk (w_ma_cons (w_me_sl u_sl ad_sl (vv 2) (w_mo_some (w_me_un un_neg ad_neg w_me_int)) w_mo_none) (w_ma_cons (w_me_op (OpR.or u_add op_catT) ad_add (vv 4) (w_me_op u_mulM ad_mul w_me_int (vv 3))) (w_ma_cons (vv 1) w_ma_nil))) (ar_cons (ar_cons (ar_cons ar_nil)))))))
theorem ps__law_tree_3 (hr : RM 5 "_law_tree" s__law_tree A s f cdv) : WS (cX P w K mg base N__law_tree "_law_tree" s__law_tree f cdv A outer s H E) Θ0 (bd s__law_tree 2) M.p__law_tree_3 := by
  unfold M.p__law_tree_3
  exact (w_ms_set (i := 5) sc__law_tree.nd rfl (Or.inl (by kernel_rfl)) (w_me_ix (ix_M hr) ad_ix (vv 2) (w_me_un un_neg ad_neg w_me_int)))
theorem ps__law_tree_4 (h__law_above : T__law_above P w K mg base) (b_len : mg "len" = none) (b_sum : mg "sum" = none) (b_max : mg "max" = none) (hr : RM 5 "_law_tree" s__law_tree A s f cdv) : WS (cX P w K mg base N__law_tree "_law_tree" s__law_tree f cdv A outer s H E) Θ0 (bd s__law_tree 3) M.p__law_tree_4 := by
  unfold M.p__law_tree_4
  exact (w_ms_if (w_mt_ofw (w_mw_and (w_mt_cmp u_gt ad_gt (w_me_callB call_lenM ad_len gk b_len bt_len (w_ma_cons (vv 2) w_ma_nil)) w_me_int (nomark _)) (w_mw_and (w_mt_cmp u_lt ad_lt (w_me_callB (call_sumM hr) ad_sum gk b_sum bt_sum (w_ma_cons (w_me_comp (vars := ["_law_one"]) rfl ⟨rfl, rfl, (by kernel_rfl), (by kernel_rfl), (by decide +kernel), trivial, (by kernel_rfl)⟩ (w_mi_e (vv 2)) (fun _ _ _ _ => (w_mg_name (i := 6) nd__law_tree_2 rfl (Or.inl (by kernel_rfl)) (.inr (by kernel_rfl)))) (fun _ _ _ _ => pifs_yes) (fun _ _ _ _ => (w_me_ix (ix_M hr) ad_ix (vv 6) w_me_int)) (by kernel_rfl)) w_ma_nil)) w_me_int (nomark _)) (w_mw_one_and (w_mt_cmp u_lt ad_lt (w_me_callB (call_maxU hr) ad_max gk b_max bt_max (w_ma_cons (w_me_comp (vars := ["_law_one"]) rfl ⟨rfl, rfl, (by kernel_rfl), (by kernel_rfl), (by decide +kernel), trivial, (by kernel_rfl)⟩ (w_mi_e (vv 2)) (fun _ _ _ _ => (w_mg_name (i := 6) nd__law_tree_1 rfl (Or.inl (by kernel_rfl)) (.inr (by kernel_rfl)))) (fun _ _ _ _ => pifs_yes) (fun _ _ _ _ => (w_me_ix (ix_M hr) ad_ix (vv 6) w_me_int)) (by kernel_rfl)) w_ma_nil)) w_me_int (nomark _))))))
    (w_mss_one (w_ms_set (i := 5) sc__law_tree.nd rfl (Or.inl (by kernel_rfl)) (w_me_call h__law_above hr (by decide) gk (w_ma_cons zz (w_ma_cons (vv 2) w_ma_nil)) (ar_cons (ar_cons ar_nil)))))
    w_mss_nil)
theorem ps__law_tree_5 (h__law_above : T__law_above P w K mg base) (hr : RM 5 "_law_tree" s__law_tree A s f cdv) : WS (cX P w K mg base N__law_tree "_law_tree" s__law_tree f cdv A outer s H E) Θ0 (bd s__law_tree 4) M.p__law_tree_5 := by
  unfold M.p__law_tree_5
  exact (w_ms_if (w_mt_ofw (w_mw_and (w_mt_tru (w_me_ix (ix_M hr) ad_ix (vv 5) w_me_int)) (w_mw_one_and (w_mt_cmp u_lt ad_lt (w_me_ix (ix_M hr) ad_ix (vv 5) w_me_int) w_me_int (nomark _)))))
    (w_mss_one (w_ms_set (i := 5) sc__law_tree.nd rfl (Or.inl (by kernel_rfl)) (w_me_call h__law_above hr (by decide) gk (w_ma_cons zz (w_ma_cons (w_me_lst (w_ma_cons (w_me_tup (w_ma_cons (w_me_tup (w_ma_cons zz w_ma_nil)) (w_ma_cons w_me_int (w_ma_cons w_me_int (w_ma_cons w_me_bl w_ma_nil))))) (w_ma_cons (vv 5) w_ma_nil))) w_ma_nil)) (ar_cons (ar_cons ar_nil)))))
    w_mss_nil)
theorem ps__law_tree_6 (hr : RM 5 "_law_tree" s__law_tree A s f cdv) : WS (cX P w K mg base N__law_tree "_law_tree" s__law_tree f cdv A outer s H E) Θ0 (bd s__law_tree 5) M.p__law_tree_6 := by
  unfold M.p__law_tree_6
  exact (w_ms_if (w_mt_tru (w_me_ix (ix_M hr) ad_ix (vv 5) w_me_int))
    (w_mss_one (w_ms_ret (w_me_tup (w_ma_cons (w_me_tup (w_ma_cons zz w_ma_nil)) (w_ma_cons w_me_int (w_ma_cons w_me_int (w_ma_cons w_me_bl w_ma_nil)))))))
    w_mss_nil)
theorem ps__law_tree_7 (hr : RM 5 "_law_tree" s__law_tree A s f cdv) : WS (cX P w K mg base N__law_tree "_law_tree" s__law_tree f cdv A outer s H E) Θ0 (bd s__law_tree 6) M.p__law_tree_7 := by
  unfold M.p__law_tree_7
  exact (w_ms_ret (vv 5))
theorem ok__law_tree (F : Fun K "_law_tree" "_law_tree" s__law_tree f fd) (h__law_leaf : T__law_leaf P w K mg base) (h__law_grown : T__law_grown P w K mg base) (h__law_above : T__law_above P w K mg base) (b_enumerate : mg "enumerate" = none) (b_len : mg "len" = none) (b_sum : mg "sum" = none) (b_max : mg "max" = none) :
    FnOk P w K mg base CX0 6 f fd ["_law_cells", "_law_family"] (SpM K Θ0 2 M.q__law_tree) := by
  refine w_fun_M (b := M.b__law_tree) F sc__law_tree M.rf__law_tree fun cdv A outer s H E hr => ?_
  unfold M.b__law_tree
  exact (w_mss_cons (ps__law_tree_1 h__law_leaf b_len hr) (w_mss_cons (ps__law_tree_2 h__law_grown b_enumerate hr) (w_mss_cons (ps__law_tree_3 hr) (w_mss_cons (ps__law_tree_4 h__law_above b_len b_sum b_max hr) (w_mss_cons (ps__law_tree_5 h__law_above hr) (w_mss_cons (ps__law_tree_6 hr) (w_mss_one (ps__law_tree_7 hr))))))))
abbrev s_bare_told : Stmt := top 1
abbrev N_bare_told : List Str := ["part"]
theorem sc_bare_told : FnScope N_bare_told ["part"] (defScope s_bare_told) := ⟨rfl, rfl, rfl, by decide +kernel, rfl, by decide +kernel, by decide +kernel⟩
theorem ps_bare_told_1 (hr : RM 0 "bare_told" s_bare_told A s f cdv) : WS (cX P w K mg base N_bare_told "bare_told" s_bare_told f cdv A outer s H E) Θ0 (bd s_bare_told 0) M.p_bare_told_1 := by
  unfold M.p_bare_told_1
  exact (w_ms_if (w_mt_cmp (op_eqM hr) ad_eq (w_me_ix (ix_M hr) ad_ix (vv 0) w_me_int) zz (nomark _))
    (w_mss_one (w_ms_ret (w_me_op (OpR.or u_add op_catT) ad_add (w_me_op (OpR.or u_add op_catT) ad_add zz (w_me_ix (ix_M hr) ad_ix (vv 0) w_me_int)) zz)))
    w_mss_nil)
theorem ps_bare_told_2 (hr : RM 0 "bare_told" s_bare_told A s f cdv) : WS (cX P w K mg base N_bare_told "bare_told" s_bare_told f cdv A outer s H E) Θ0 (bd s_bare_told 1) M.p_bare_told_2 := by
  unfold M.p_bare_told_2
  exact (w_ms_if (w_mt_cmp (op_eqM hr) ad_eq (w_me_ix (ix_M hr) ad_ix (vv 0) w_me_int) zz (nomark _))
    (w_mss_one (w_ms_ret zz))
    w_mss_nil)
theorem ps_bare_told_3 (hr : RM 0 "bare_told" s_bare_told A s f cdv) : WS (cX P w K mg base N_bare_told "bare_told" s_bare_told f cdv A outer s H E) Θ0 (bd s_bare_told 2) M.p_bare_told_3 := by
  unfold M.p_bare_told_3
  exact (w_ms_if (w_mt_cmp (op_eqM hr) ad_eq (w_me_ix (ix_M hr) ad_ix (vv 0) w_me_int) zz (nomark _))
    (w_mss_one (w_ms_ret (w_me_ix (ix_M hr) ad_ix (vv 0) w_me_int)))
    w_mss_nil)
theorem ps_bare_told_4 (hr : RM 0 "bare_told" s_bare_told A s f cdv) : WS (cX P w K mg base N_bare_told "bare_told" s_bare_told f cdv A outer s H E) Θ0 (bd s_bare_told 3) M.p_bare_told_4 := by
  unfold M.p_bare_told_4
  exact (w_ms_if (w_mt_cmp (op_eqM hr) ad_eq (w_me_ix (ix_M hr) ad_ix (vv 0) w_me_int) zz (nomark _))
    (w_mss_one (w_ms_ret (w_me_op (OpR.or u_add op_catT) ad_add (w_me_ix (ix_M hr) ad_ix (vv 0) w_me_int) zz)))
    w_mss_nil)
theorem ps_bare_told_5 (hr : RM 0 "bare_told" s_bare_told A s f cdv) : WS (cX P w K mg base N_bare_told "bare_told" s_bare_told f cdv A outer s H E) Θ0 (bd s_bare_told 4) M.p_bare_told_5 := by
  unfold M.p_bare_told_5
  exact (w_ms_ret (w_me_ix (ix_M hr) ad_ix (vv 0) w_me_int))
theorem ok_bare_told (F : Fun K "bare_told" "bare_told" s_bare_told f fd) :
    FnOk P w K mg base CX0 1 f fd ["part"] (SpM K Θ0 1 M.q_bare_told) := by
  refine w_fun_M (b := M.b_bare_told) F sc_bare_told M.rf_bare_told fun cdv A outer s H E hr => ?_
  unfold M.b_bare_told
  exact (w_mss_cons (ps_bare_told_1 hr) (w_mss_cons (ps_bare_told_2 hr) (w_mss_cons (ps_bare_told_3 hr) (w_mss_cons (ps_bare_told_4 hr) (w_mss_one (ps_bare_told_5 hr))))))
abbrev s_told_steps : Stmt := top 2
abbrev N_told_steps : List Str := ["part", "kind"]
theorem sc_told_steps : FnScope N_told_steps ["part"] (defScope s_told_steps) := ⟨rfl, rfl, rfl, by decide +kernel, rfl, by decide +kernel, by decide +kernel⟩
theorem ps_told_steps_1 (hr : RM 1 "told_steps" s_told_steps A s f cdv) : WS (cX P w K mg base N_told_steps "told_steps" s_told_steps f cdv A outer s H E) Θ0 (bd s_told_steps 0) M.p_told_steps_1 := by
  unfold M.p_told_steps_1
  exact (w_ms_set (i := 1) sc_told_steps.nd rfl (Or.inl (by kernel_rfl)) (w_me_ix (ix_M hr) ad_ix (vv 0) w_me_int))
theorem ps_told_steps_2 (h_bare_told : T_bare_told P w K mg base) (hr : RM 1 "told_steps" s_told_steps A s f cdv) : WS (cX P w K mg base N_told_steps "told_steps" s_told_steps f cdv A outer s H E) Θ0 (bd s_told_steps 1) M.p_told_steps_2 := by
  unfold M.p_told_steps_2
  exact (w_ms_if (w_mt_cmp (op_inM hr) ad_in (vv 1) (w_me_tup (w_ma_cons zz (w_ma_cons zz (w_ma_cons zz (w_ma_cons zz (w_ma_cons zz (w_ma_cons zz w_ma_nil))))))) (by rfl))
    (w_mss_one (w_ms_ret (w_me_lst (w_ma_cons (w_me_call h_bare_told hr (by decide) gk (w_ma_cons (vv 0) w_ma_nil) (ar_cons ar_nil)) w_ma_nil))))
    w_mss_nil)
theorem ps_told_steps_3 (b_list : mg "list" = none) (hr : RM 1 "told_steps" s_told_steps A s f cdv) : WS (cX P w K mg base N_told_steps "told_steps" s_told_steps f cdv A outer s H E) Θ0 (bd s_told_steps 2) M.p_told_steps_3 := by
  unfold M.p_told_steps_3
  exact (w_ms_if (w_mt_cmp (op_eqM hr) ad_eq (vv 1) zz (nomark _))
    (w_mss_one (w_ms_ret (w_me_op (OpR.or u_add op_catT) ad_add (w_me_op (OpR.or u_add op_catT) ad_add (w_me_lst (w_ma_cons zz w_ma_nil)) (w_me_callTy (call_listM hr) ad_list gk b_list bt_list (w_ma_cons (w_me_sl u_sl ad_sl (vv 0) (w_mo_some w_me_int) w_mo_none) w_ma_nil))) (w_me_lst (w_ma_cons zz w_ma_nil)))))
    w_mss_nil)
theorem ps_told_steps_4 (hr : RM 1 "told_steps" s_told_steps A s f cdv) : WS (cX P w K mg base N_told_steps "told_steps" s_told_steps f cdv A outer s H E) Θ0 (bd s_told_steps 3) M.p_told_steps_4 := by
  unfold M.p_told_steps_4
  exact (w_ms_if (w_mt_cmp (op_eqM hr) ad_eq (vv 1) zz (nomark _))
    (w_mss_one (w_ms_ret (w_me_lst (w_ma_cons zz (w_ma_cons (w_me_ix (ix_M hr) ad_ix (vv 0) w_me_int) (w_ma_cons zz (w_ma_cons (w_me_ix (ix_M hr) ad_ix (vv 0) w_me_int) (w_ma_cons zz (w_ma_cons (w_me_ix (ix_M hr) ad_ix (vv 0) w_me_int) (w_ma_cons zz (w_ma_cons (w_me_ix (ix_M hr) ad_ix (vv 0) w_me_int) w_ma_nil)))))))))))
    w_mss_nil)
theorem ps_told_steps_5 (hr : RM 1 "told_steps" s_told_steps A s f cdv) : WS (cX P w K mg base N_told_steps "told_steps" s_told_steps f cdv A outer s H E) Θ0 (bd s_told_steps 4) M.p_told_steps_5 := by
  unfold M.p_told_steps_5
  exact (w_ms_if (w_mt_cmp (op_eqM hr) ad_eq (vv 1) zz (nomark _))
    (w_mss_one (w_ms_ret (w_me_lst (w_ma_cons zz (w_ma_cons (w_me_ix (ix_M hr) ad_ix (vv 0) w_me_int) (w_ma_cons zz (w_ma_cons (w_me_ix (ix_M hr) ad_ix (vv 0) w_me_int) w_ma_nil)))))))
    w_mss_nil)
theorem ps_told_steps_6 (hr : RM 1 "told_steps" s_told_steps A s f cdv) : WS (cX P w K mg base N_told_steps "told_steps" s_told_steps f cdv A outer s H E) Θ0 (bd s_told_steps 5) M.p_told_steps_6 := by
  unfold M.p_told_steps_6
  exact (w_ms_ret (w_me_lst (w_ma_cons (vv 1) (w_ma_cons (w_me_ix (ix_M hr) ad_ix (vv 0) w_me_int) w_ma_nil))))
theorem ok_told_steps (F : Fun K "told_steps" "told_steps" s_told_steps f fd) (h_bare_told : T_bare_told P w K mg base) (b_list : mg "list" = none) :
    FnOk P w K mg base CX0 2 f fd ["part"] (SpM K Θ0 1 M.q_told_steps) := by
  refine w_fun_M (b := M.b_told_steps) F sc_told_steps M.rf_told_steps fun cdv A outer s H E hr => ?_
  unfold M.b_told_steps
  exact (w_mss_cons (ps_told_steps_1 hr) (w_mss_cons (ps_told_steps_2 h_bare_told hr) (w_mss_cons (ps_told_steps_3 b_list hr) (w_mss_cons (ps_told_steps_4 hr) (w_mss_cons (ps_told_steps_5 hr) (w_mss_one (ps_told_steps_6 hr)))))))
abbrev s_told_tokens : Stmt := top 3
abbrev N_told_tokens : List Str := ["tree", "todo", "tokens", "step"]
theorem sc_told_tokens : FnScope N_told_tokens ["tree"] (defScope s_told_tokens) := ⟨rfl, rfl, rfl, by decide +kernel, rfl, by decide +kernel, by decide +kernel⟩
theorem ps_told_tokens_1 (b_list : mg "list" = none) (b_reversed : mg "reversed" = none) (hr : RM 2 "told_tokens" s_told_tokens A s f cdv) : WS (cX P w K mg base N_told_tokens "told_tokens" s_told_tokens f cdv A outer s H E) Θ0 (bd s_told_tokens 0) M.p_told_tokens_1 := by
  unfold M.p_told_tokens_1
  exact (w_ms_set (i := 1) sc_told_tokens.nd rfl (Or.inl (by kernel_rfl)) (w_me_ifExp (w_mt_cmp (op_eqM hr) ad_eq (w_me_ix (ix_M hr) ad_ix (vv 0) w_me_int) zz (nomark _)) (w_me_listrev hr gk b_list bt_list gk b_reversed bt_reversed (w_ma_cons (w_me_sl u_sl ad_sl (vv 0) (w_mo_some w_me_int) w_mo_none) w_ma_nil)) (w_me_lst (w_ma_cons (vv 0) w_ma_nil))))
theorem ps_told_tokens_2 (hr : RM 2 "told_tokens" s_told_tokens A s f cdv) : WS (cX P w K mg base N_told_tokens "told_tokens" s_told_tokens f cdv A outer s H E) Θ0 (bd s_told_tokens 1) M.p_told_tokens_2 := by
  unfold M.p_told_tokens_2
  exact (w_ms_set (i := 2) sc_told_tokens.nd rfl (Or.inl (by kernel_rfl)) (w_me_lst w_ma_nil))
theorem ps_told_tokens_3 (h_told_steps : T_told_steps P w K mg base) (b_list : mg "list" = none) (b_len : mg "len" = none) (b_isinstance : mg "isinstance" = none) (b_str : mg "str" = none) (b_reversed : mg "reversed" = none) (hr : RM 2 "told_tokens" s_told_tokens A s f cdv) : WS (cX P w K mg base N_told_tokens "told_tokens" s_told_tokens f cdv A outer s H E) Θ0 (bd s_told_tokens 2) M.p_told_tokens_3 := by
  unfold M.p_told_tokens_3
  exact (w_ms_while PassesOwn.never (w_mt_cmp u_gt ad_gt (w_me_callB call_lenM ad_len gk b_len bt_len (w_ma_cons (vv 1) w_ma_nil)) w_me_int (nomark _))
    (w_mss_cons (w_ms_set (i := 3) sc_told_tokens.nd rfl (Or.inl (by kernel_rfl)) (w_me_m0 PySem.F.plainAttrs_list PySem.F.slot_list_pop PySem.F.type_list_pop mt_pop ad_pop rfl (vv 1)))
    (w_mss_one (w_ms_if (w_mt_tru (w_me_callB call_isK ad_isi gk b_isinstance bt_isinstance (w_ma_cons (vv 3) (w_ma_cons (w_me_ty .str gk b_str bt_str) w_ma_nil))))
    (w_mss_one (w_ms_expr (w_me_m PySem.F.plainAttrs_list PySem.F.slot_list_append PySem.F.type_list_append mt_append ad_append rfl (vv 2) (w_ma_cons (vv 3) w_ma_nil))))
    (w_mss_one (w_ms_expr (w_me_m PySem.F.plainAttrs_list PySem.F.slot_list_extend PySem.F.type_list_extend mt_extend ad_extend rfl (vv 1) (w_ma_cons (w_me_listrev hr gk b_list bt_list gk b_reversed bt_reversed (w_ma_cons (w_me_call h_told_steps hr (by decide) gk (w_ma_cons (vv 3) w_ma_nil) (ar_cons ar_nil)) w_ma_nil)) w_ma_nil))))))))
theorem ps_told_tokens_4 (hr : RM 2 "told_tokens" s_told_tokens A s f cdv) : WS (cX P w K mg base N_told_tokens "told_tokens" s_told_tokens f cdv A outer s H E) Θ0 (bd s_told_tokens 3) M.p_told_tokens_4 := by
  unfold M.p_told_tokens_4
  exact (w_ms_ret (vv 2))
theorem ok_told_tokens (F : Fun K "told_tokens" "told_tokens" s_told_tokens f fd) (h_told_steps : T_told_steps P w K mg base) (b_list : mg "list" = none) (b_len : mg "len" = none) (b_isinstance : mg "isinstance" = none) (b_str : mg "str" = none) (b_reversed : mg "reversed" = none) :
    FnOk P w K mg base CX0 3 f fd ["tree"] (SpM K Θ0 1 M.q_told_tokens) := by
  refine w_fun_M (b := M.b_told_tokens) F sc_told_tokens M.rf_told_tokens fun cdv A outer s H E hr => ?_
  unfold M.b_told_tokens
  exact (w_mss_cons (ps_told_tokens_1 b_list b_reversed hr) (w_mss_cons (ps_told_tokens_2 hr) (w_mss_cons (ps_told_tokens_3 h_told_steps b_list b_len b_isinstance b_str b_reversed hr) (w_mss_one (ps_told_tokens_4 hr)))))
abbrev s_told_recipe : Stmt := top 4
abbrev N_told_recipe : List Str := ["tree", "pieces", "behind", "token"]
theorem sc_told_recipe : FnScope N_told_recipe ["tree"] (defScope s_told_recipe) := ⟨rfl, rfl, rfl, by decide +kernel, rfl, by decide +kernel, by decide +kernel⟩
theorem ps_told_recipe_1 (hr : RM 3 "told_recipe" s_told_recipe A s f cdv) : WS (cX P w K mg base N_told_recipe "told_recipe" s_told_recipe f cdv A outer s H E) Θ0 (bd s_told_recipe 0) M.p_told_recipe_1 := by
  unfold M.p_told_recipe_1
  exact (w_ms_set (i := 1) sc_told_recipe.nd rfl (Or.inl (by kernel_rfl)) (w_me_lst w_ma_nil))
theorem ps_told_recipe_2 (hr : RM 3 "told_recipe" s_told_recipe A s f cdv) : WS (cX P w K mg base N_told_recipe "told_recipe" s_told_recipe f cdv A outer s H E) Θ0 (bd s_told_recipe 1) M.p_told_recipe_2 := by
  unfold M.p_told_recipe_2
  exact (w_ms_set (i := 2) sc_told_recipe.nd rfl (Or.inl (by kernel_rfl)) zz)
theorem ps_told_recipe_3 (h_told_tokens : T_told_tokens P w K mg base) (hr : RM 3 "told_recipe" s_told_recipe A s f cdv) : WS (cX P w K mg base N_told_recipe "told_recipe" s_told_recipe f cdv A outer s H E) Θ0 (bd s_told_recipe 2) M.p_told_recipe_3 := by
  unfold M.p_told_recipe_3
  exact (w_ms_for PassesOwn.never rfl (w_mi_e (w_me_call h_told_tokens hr (by decide) gk (w_ma_cons (vv 0) w_ma_nil) (ar_cons ar_nil))) (w_mg_name (i := 3) sc_told_recipe.nd rfl (Or.inl (by kernel_rfl)) (.inl rfl))
    (w_mss_cons (w_ms_if (w_mt_ofw (w_mw_and (w_mt_cmp (op_neM hr) ad_ne (vv 2) zz (nomark _)) (w_mw_one_and (w_mt_cmp (op_neM hr) ad_ne (vv 3) zz (nomark _)))))
    (w_mss_one (w_ms_expr (w_me_m PySem.F.plainAttrs_list PySem.F.slot_list_append PySem.F.type_list_append mt_append ad_append rfl (vv 1) (w_ma_cons zz w_ma_nil))))
    w_mss_nil)
    (w_mss_cons (w_ms_expr (w_me_m PySem.F.plainAttrs_list PySem.F.slot_list_append PySem.F.type_list_append mt_append ad_append rfl (vv 1) (w_ma_cons (vv 3) w_ma_nil)))
    (w_mss_one (w_ms_set (i := 2) sc_told_recipe.nd rfl (Or.inl (by kernel_rfl)) (vv 3))))))
theorem ps_told_recipe_4 (hr : RM 3 "told_recipe" s_told_recipe A s f cdv) : WS (cX P w K mg base N_told_recipe "told_recipe" s_told_recipe f cdv A outer s H E) Θ0 (bd s_told_recipe 3) M.p_told_recipe_4 := by
  unfold M.p_told_recipe_4
  exact (w_ms_ret (w_me_m PySem.F.plainAttrs_str PySem.F.slot_str_join PySem.F.type_str_join mt_join ad_join rfl zz (w_ma_cons (vv 1) w_ma_nil)))
theorem ok_told_recipe (F : Fun K "told_recipe" "told_recipe" s_told_recipe f fd) (h_told_tokens : T_told_tokens P w K mg base) :
    FnOk P w K mg base CX0 4 f fd ["tree"] (SpM K Θ0 1 M.q_told_recipe) := by
  refine w_fun_M (b := M.b_told_recipe) F sc_told_recipe M.rf_told_recipe fun cdv A outer s H E hr => ?_
  unfold M.b_told_recipe
  exact (w_mss_cons (ps_told_recipe_1 hr) (w_mss_cons (ps_told_recipe_2 hr) (w_mss_cons (ps_told_recipe_3 h_told_tokens hr) (w_mss_one (ps_told_recipe_4 hr)))))
abbrev s__law_set_out : Stmt := top 17
abbrev N__law_set_out : List Str := ["_law_pieces_here", "_law_found", "_law_piece"]
theorem sc__law_set_out : FnScope N__law_set_out ["_law_pieces_here"] (defScope s__law_set_out) := ⟨rfl, rfl, rfl, by decide +kernel, rfl, by decide +kernel, by decide +kernel⟩
theorem ok__law_set_out (F : Fun K "_law_set_out" "_law_set_out" s__law_set_out f fd) :
    FnOk P w K mg base CX0 1 f fd ["_law_pieces_here"] (SpM K Θ0 1 M.q__law_set_out) := by
  refine w_fun_M (b := M.b__law_set_out) F sc__law_set_out M.rf__law_set_out fun cdv A outer s H E hr => ?_
  unfold M.b__law_set_out
  exact (w_mss_cons (w_ms_set (i := 1) sc__law_set_out.nd rfl (Or.inl (by kernel_rfl)) zz)
    (w_mss_cons (w_ms_for PassesOwn.never rfl (w_mi_e (vv 0)) (w_mg_name (i := 2) sc__law_set_out.nd rfl (Or.inl (by kernel_rfl)) (.inl rfl))
    (w_mss_cons (w_ms_if (w_mt_ofw (w_mw_and (w_mt_cmp (op_neM hr) ad_ne (vv 1) zz (nomark _)) (w_mw_and (w_mt_cmp (op_neM hr) ad_ne (w_me_ix (ix_M hr) ad_ix (vv 1) (w_me_un un_neg ad_neg w_me_int)) zz (nomark _)) (w_mw_one_and (w_mt_cmp (op_neM hr) ad_ne (vv 2) zz (nomark _))))))
    (w_mss_one (w_ms_set (i := 1) sc__law_set_out.nd rfl (Or.inl (by kernel_rfl)) (w_me_op (OpR.or u_add op_catT) ad_add (vv 1) zz)))
    w_mss_nil)
    (w_mss_one (w_ms_set (i := 1) sc__law_set_out.nd rfl (Or.inl (by kernel_rfl)) (w_me_op (OpR.or u_add op_catT) ad_add (vv 1) (vv 2))))))
    (w_mss_one (w_ms_ret (vv 1)))))
abbrev s__law_pieces : Stmt := top 16
abbrev N__law_pieces : List Str := ["_law_tree_here", "_law_whole", "_law_kind", "_law_words", "_law_found", "_law_word", "_law_part"]
theorem sc__law_pieces : FnScope N__law_pieces ["_law_tree_here", "_law_whole"] (defScope s__law_pieces) := ⟨rfl, rfl, rfl, by decide +kernel, rfl, by decide +kernel, by decide +kernel⟩
theorem ps__law_pieces_1 {kr : Nat} (h__law_pieces : Has P w K mg base "_law_pieces" (0 + kr) ["_law_tree_here", "_law_whole"] (SpM K Θ0 2 (M.qd__law_pieces kr))) (b_zip : mg "zip" = none) (b_len : mg "len" = none) (b_int : mg "int" = none) (hr : RM (0 + kr) "_law_pieces" s__law_pieces A s f cdv) : WS (cX P w K mg base N__law_pieces "_law_pieces" s__law_pieces f cdv A outer s H E) Θ0 (bd s__law_pieces 0) (M.p__law_pieces_1 (M.qd__law_pieces kr)) := by
  unfold M.p__law_pieces_1
  exact (w_ms_set (i := 2) sc__law_pieces.nd rfl (Or.inl (by kernel_rfl)) (w_me_ix (ix_M hr) ad_ix (vv 0) w_me_int))
theorem ps__law_pieces_2 {kr : Nat} (h__law_pieces : Has P w K mg base "_law_pieces" (0 + kr) ["_law_tree_here", "_law_whole"] (SpM K Θ0 2 (M.qd__law_pieces kr))) (b_zip : mg "zip" = none) (b_len : mg "len" = none) (b_int : mg "int" = none) (hr : RM (0 + kr) "_law_pieces" s__law_pieces A s f cdv) : WS (cX P w K mg base N__law_pieces "_law_pieces" s__law_pieces f cdv A outer s H E) Θ0 (bd s__law_pieces 1) (M.p__law_pieces_2 (M.qd__law_pieces kr)) := by
  unfold M.p__law_pieces_2
  exact (w_ms_if (w_mt_cmp (op_inM hr) ad_in (vv 2) (w_me_tup (w_ma_cons zz (w_ma_cons zz (w_ma_cons zz w_ma_nil)))) (by rfl))
    (w_mss_one (w_ms_ret (w_me_lst (w_ma_cons (w_me_ix (ix_M hr) ad_ix (w_me_disp (w_mp_cons zz (w_me_op (OpR.or u_add op_catT) ad_add (w_me_op (OpR.or u_add op_catT) ad_add zz (w_me_ix (ix_M hr) ad_ix (vv 0) w_me_int)) zz) (w_mp_cons zz (w_me_ix (ix_M hr) ad_ix (vv 0) w_me_int) (w_mp_cons zz (w_me_op (OpR.or u_add op_catT) ad_add (w_me_ix (ix_M hr) ad_ix (vv 0) w_me_int) zz) w_mp_nil)))) (vv 2)) w_ma_nil))))
    w_mss_nil)
theorem ps__law_pieces_3 {kr : Nat} (h__law_pieces : Has P w K mg base "_law_pieces" (0 + kr) ["_law_tree_here", "_law_whole"] (SpM K Θ0 2 (M.qd__law_pieces kr))) (b_zip : mg "zip" = none) (b_len : mg "len" = none) (b_int : mg "int" = none) (hr : RM (0 + kr) "_law_pieces" s__law_pieces A s f cdv) : WS (cX P w K mg base N__law_pieces "_law_pieces" s__law_pieces f cdv A outer s H E) Θ0 (bd s__law_pieces 2) (M.p__law_pieces_3 (M.qd__law_pieces kr)) := by
  unfold M.p__law_pieces_3
  exact (w_ms_if (w_mt_cmp (op_eqM hr) ad_eq (vv 2) zz (nomark _))
    (w_mss_one (w_ms_ret (w_me_lst (w_ma_cons zz w_ma_nil))))
    w_mss_nil)
theorem ps__law_pieces_4 {kr : Nat} (h__law_pieces : Has P w K mg base "_law_pieces" (0 + kr) ["_law_tree_here", "_law_whole"] (SpM K Θ0 2 (M.qd__law_pieces kr))) (b_zip : mg "zip" = none) (b_len : mg "len" = none) (b_int : mg "int" = none) (hr : RM (0 + kr) "_law_pieces" s__law_pieces A s f cdv) : WS (cX P w K mg base N__law_pieces "_law_pieces" s__law_pieces f cdv A outer s H E) Θ0 (bd s__law_pieces 3) (M.p__law_pieces_4 (M.qd__law_pieces kr)) := by
  unfold M.p__law_pieces_4
  exact (w_ms_set (i := 3) sc__law_pieces.nd rfl (Or.inl (by kernel_rfl)) (w_me_lst (w_ma_cons (vv 2) (w_ma_cons zz (w_ma_cons zz (w_ma_cons zz w_ma_nil))))))
theorem ps__law_pieces_5 {kr : Nat} (h__law_pieces : Has P w K mg base "_law_pieces" (0 + kr) ["_law_tree_here", "_law_whole"] (SpM K Θ0 2 (M.qd__law_pieces kr))) (b_zip : mg "zip" = none) (b_len : mg "len" = none) (b_int : mg "int" = none) (hr : RM (0 + kr) "_law_pieces" s__law_pieces A s f cdv) : WS (cX P w K mg base N__law_pieces "_law_pieces" s__law_pieces f cdv A outer s H E) Θ0 (bd s__law_pieces 4) (M.p__law_pieces_5 (M.qd__law_pieces kr)) := by
  unfold M.p__law_pieces_5
  exact (w_ms_if (w_mt_cmp (op_eqM hr) ad_eq (vv 2) zz (nomark _))
    (w_mss_one (w_ms_set (i := 3) sc__law_pieces.nd rfl (Or.inl (by kernel_rfl)) (w_me_lst (w_ma_cons zz (w_ma_cons zz (w_ma_cons zz (w_ma_cons zz w_ma_nil)))))))
    w_mss_nil)
theorem ps__law_pieces_6 {kr : Nat} (h__law_pieces : Has P w K mg base "_law_pieces" (0 + kr) ["_law_tree_here", "_law_whole"] (SpM K Θ0 2 (M.qd__law_pieces kr))) (b_zip : mg "zip" = none) (b_len : mg "len" = none) (b_int : mg "int" = none) (hr : RM (0 + kr) "_law_pieces" s__law_pieces A s f cdv) : WS (cX P w K mg base N__law_pieces "_law_pieces" s__law_pieces f cdv A outer s H E) Θ0 (bd s__law_pieces 5) (M.p__law_pieces_6 (M.qd__law_pieces kr)) := by
  unfold M.p__law_pieces_6
  exact (w_ms_if (w_mt_cmp (op_eqM hr) ad_eq (vv 2) zz (nomark _))
    (w_mss_one (w_ms_set (i := 3) sc__law_pieces.nd rfl (Or.inl (by kernel_rfl)) (w_me_lst (w_ma_cons zz (w_ma_cons zz w_ma_nil)))))
    w_mss_nil)
theorem ps__law_pieces_7 {kr : Nat} (h__law_pieces : Has P w K mg base "_law_pieces" (0 + kr) ["_law_tree_here", "_law_whole"] (SpM K Θ0 2 (M.qd__law_pieces kr))) (b_zip : mg "zip" = none) (b_len : mg "len" = none) (b_int : mg "int" = none) (hr : RM (0 + kr) "_law_pieces" s__law_pieces A s f cdv) : WS (cX P w K mg base N__law_pieces "_law_pieces" s__law_pieces f cdv A outer s H E) Θ0 (bd s__law_pieces 6) (M.p__law_pieces_7 (M.qd__law_pieces kr)) := by
  unfold M.p__law_pieces_7
  exact (w_ms_set (i := 4) sc__law_pieces.nd rfl (Or.inl (by kernel_rfl)) (w_me_lst w_ma_nil))
theorem ps__law_pieces_8 {kr : Nat} (h__law_pieces : Has P w K mg base "_law_pieces" (0 + kr) ["_law_tree_here", "_law_whole"] (SpM K Θ0 2 (M.qd__law_pieces kr))) (b_zip : mg "zip" = none) (b_len : mg "len" = none) (b_int : mg "int" = none) (hr : RM (0 + kr) "_law_pieces" s__law_pieces A s f cdv) : WS (cX P w K mg base N__law_pieces "_law_pieces" s__law_pieces f cdv A outer s H E) Θ0 (bd s__law_pieces 7) (M.p__law_pieces_8 (M.qd__law_pieces kr)) := by
  unfold M.p__law_pieces_8
  exact (w_ms_if (w_mt_cmp (op_eqM hr) ad_eq (vv 2) zz (nomark _))
    (w_mss_cons (w_ms_set (i := 3) sc__law_pieces.nd rfl (Or.inl (by kernel_rfl)) (w_me_op u_mulM ad_mul (w_me_lst (w_ma_cons zz w_ma_nil)) (w_me_callB call_lenM ad_len gk b_len bt_len (w_ma_cons (vv 0) w_ma_nil))))
    (w_mss_one (w_ms_set (i := 4) sc__law_pieces.nd rfl (Or.inl (by kernel_rfl)) (w_me_op u_mulM ad_mul (w_me_lst (w_ma_cons zz w_ma_nil)) (w_me_op u_sub ad_sub w_me_int (w_me_callTy call_int1 ad_int gk b_int bt_int (w_ma_cons (vv 1) w_ma_nil)))))))
    w_mss_nil)
theorem ps__law_pieces_9 {kr : Nat} (h__law_pieces : Has P w K mg base "_law_pieces" (0 + kr) ["_law_tree_here", "_law_whole"] (SpM K Θ0 2 (M.qd__law_pieces kr))) (b_zip : mg "zip" = none) (b_len : mg "len" = none) (b_int : mg "int" = none) (hr : RM (0 + kr) "_law_pieces" s__law_pieces A s f cdv) : WS (cX P w K mg base N__law_pieces "_law_pieces" s__law_pieces f cdv A outer s H E) Θ0 (bd s__law_pieces 8) (M.p__law_pieces_9 (M.qd__law_pieces kr)) := by
  unfold M.p__law_pieces_9
  exact (w_ms_if (w_mt_cmp (op_eqM hr) ad_eq (w_me_callB call_lenM ad_len gk b_len bt_len (w_ma_cons (vv 0) w_ma_nil)) w_me_int (nomark _))
    (w_mss_one (w_ms_ret (w_me_lst (w_ma_cons (vv 2) w_ma_nil))))
    w_mss_nil)
theorem ps__law_pieces_10 {kr : Nat} (h__law_pieces : Has P w K mg base "_law_pieces" (0 + kr) ["_law_tree_here", "_law_whole"] (SpM K Θ0 2 (M.qd__law_pieces kr))) (b_zip : mg "zip" = none) (b_len : mg "len" = none) (b_int : mg "int" = none) (hr : RM (0 + kr) "_law_pieces" s__law_pieces A s f cdv) : WS (cX P w K mg base N__law_pieces "_law_pieces" s__law_pieces f cdv A outer s H E) Θ0 (bd s__law_pieces 9) (M.p__law_pieces_10 (M.qd__law_pieces kr)) := by
  unfold M.p__law_pieces_10
  exact (w_ms_for PassesOwn.never rfl (w_mi_zip gk b_zip (vv 3) (w_me_sl u_sl ad_sl (vv 0) (w_mo_some w_me_int) w_mo_none)) (w_mg_tupM (n := 2) rfl (w_mgs_cons (w_mg_name (i := 5) sc__law_pieces.nd rfl (Or.inl (by kernel_rfl)) (.inl rfl)) (w_mgs_cons (w_mg_name (i := 6) sc__law_pieces.nd rfl (Or.inl (by kernel_rfl)) (.inl rfl)) w_mgs_nil (fun a b => pgs_cons a b)) (fun a b => pgs_cons a b)) (len_2))
    (w_mss_one (w_ms_set (i := 4) sc__law_pieces.nd rfl (Or.inl (by kernel_rfl)) (w_me_op (OpR.or u_add op_catT) ad_add (w_me_op (OpR.or u_add op_catT) ad_add (vv 4) (w_me_op u_mulM ad_mul (w_me_lst (w_ma_cons (vv 5) w_ma_nil)) (w_me_callTy call_int1 ad_int gk b_int bt_int (w_ma_cons (w_me_cmp (op_neM hr) ad_ne (vv 5) zz (nomark _)) w_ma_nil)))) (w_me_call h__law_pieces hr (by omega) gk (w_ma_cons (vv 6) (w_ma_cons w_me_bl w_ma_nil)) (ar_cons (ar_cons ar_nil)))))))
theorem ps__law_pieces_11 {kr : Nat} (h__law_pieces : Has P w K mg base "_law_pieces" (0 + kr) ["_law_tree_here", "_law_whole"] (SpM K Θ0 2 (M.qd__law_pieces kr))) (b_zip : mg "zip" = none) (b_len : mg "len" = none) (b_int : mg "int" = none) (hr : RM (0 + kr) "_law_pieces" s__law_pieces A s f cdv) : WS (cX P w K mg base N__law_pieces "_law_pieces" s__law_pieces f cdv A outer s H E) Θ0 (bd s__law_pieces 10) (M.p__law_pieces_11 (M.qd__law_pieces kr)) := by
  unfold M.p__law_pieces_11
  exact (w_ms_ret (w_me_op (OpR.or u_add op_catT) ad_add (vv 4) (w_me_op u_mulM ad_mul (w_me_lst (w_ma_cons zz w_ma_nil)) (w_me_callTy call_int1 ad_int gk b_int bt_int (w_ma_cons (w_me_and (w_me_cmp (op_eqM hr) ad_eq (vv 2) zz (nomark _)) (w_me_one (w_me_not (vv 1)))) w_ma_nil)))))
theorem ok__law_pieces (F : Fun K "_law_pieces" "_law_pieces" s__law_pieces f fd) (Bf : Binds K fd ["_law_tree_here", "_law_whole"] []) (kf : PySem.W.keepIn K (.ref f) = true) (mf : mg "_law_pieces" = some (.ref f)) (b_zip : mg "zip" = none) (b_len : mg "len" = none) (b_int : mg "int" = none) :
    ∀ kr, FnOk P w K mg base CX0 (0 + kr) f fd ["_law_tree_here", "_law_whole"] (SpM K Θ0 2 (M.qd__law_pieces kr))
  | 0 => fn_no M.qd0__law_pieces
  | kr + 1 => by
    have h__law_pieces : Has P w K mg base "_law_pieces" (0 + kr) ["_law_tree_here", "_law_whole"] (SpM K Θ0 2 (M.qd__law_pieces kr)) := ⟨⟨_, _, ok__law_pieces F Bf kf mf b_zip b_len b_int kr, Bf, kf, mf⟩⟩
    refine w_fun_M (k := (0 + kr)) (b := M.b__law_pieces (M.qd__law_pieces kr)) F sc__law_pieces (M.rf__law_pieces kr) fun cdv A outer s H E hr => ?_
    unfold M.b__law_pieces
    exact (w_mss_cons (ps__law_pieces_1 h__law_pieces b_zip b_len b_int hr) (w_mss_cons (ps__law_pieces_2 h__law_pieces b_zip b_len b_int hr) (w_mss_cons (ps__law_pieces_3 h__law_pieces b_zip b_len b_int hr) (w_mss_cons (ps__law_pieces_4 h__law_pieces b_zip b_len b_int hr) (w_mss_cons (ps__law_pieces_5 h__law_pieces b_zip b_len b_int hr) (w_mss_cons (ps__law_pieces_6 h__law_pieces b_zip b_len b_int hr) (w_mss_cons (ps__law_pieces_7 h__law_pieces b_zip b_len b_int hr) (w_mss_cons (ps__law_pieces_8 h__law_pieces b_zip b_len b_int hr) (w_mss_cons (ps__law_pieces_9 h__law_pieces b_zip b_len b_int hr) (w_mss_cons (ps__law_pieces_10 h__law_pieces b_zip b_len b_int hr) (w_mss_one (ps__law_pieces_11 h__law_pieces b_zip b_len b_int hr))))))))))))
abbrev s__law_cell : Stmt := top 6
abbrev N__law_cell : List Str := ["_law_script", "_law_k"]
theorem sc__law_cell : FnScope N__law_cell ["_law_script", "_law_k"] (defScope s__law_cell) := ⟨rfl, rfl, rfl, by decide +kernel, rfl, by decide +kernel, by decide +kernel⟩
theorem ok__law_cell (F : Fun K "_law_cell" "_law_cell" s__law_cell f fd) (b_len : mg "len" = none) :
    FnOk P w K mg base CX0 1 f fd ["_law_script", "_law_k"] (SpM K Θ0 2 M.q__law_cell) := by
  refine w_fun_M (b := M.b__law_cell) F sc__law_cell M.rf__law_cell fun cdv A outer s H E hr => ?_
  unfold M.b__law_cell
  exact (w_mss_cons (w_ms_if (w_mt_cmp u_lt ad_lt (vv 1) (w_me_callB call_lenM ad_len gk b_len bt_len (w_ma_cons (vv 0) w_ma_nil)) (nomark _))
    (w_mss_one (w_ms_ret (w_me_ix (ix_M hr) ad_ix (vv 0) (vv 1))))
    w_mss_nil)
    (w_mss_one (w_ms_ret w_me_int)))
abbrev s_law : Stmt := top 18
abbrev N_law : List Str := ["_law_script", "_law_tree_here", "_law_high", "_law_many", "_law_free", "_law_turn", "_law_found", "_law_both"]
theorem sc_law : FnScope N_law ["_law_script"] (defScope s_law) := ⟨rfl, rfl, rfl, by decide +kernel, rfl, by decide +kernel, by decide +kernel⟩
theorem ps_law_1 (h__law_tree : T__law_tree P w K mg base) (h__law_cell : T__law_cell P w K mg base) (hr : RM 20 "law" s_law A s f cdv) : WS (cX P w K mg base N_law "law" s_law f cdv A outer s H E) Θ0 (bd s_law 0) M.p_law_1 := by
  unfold M.p_law_1
  exact (w_ms_setG (w_mg_tupM (n := 4) rfl (w_mgs_cons (w_mg_name (i := 1) sc_law.nd rfl (Or.inl (by kernel_rfl)) (.inl rfl)) (w_mgs_cons (w_mg_name (i := 2) sc_law.nd rfl (Or.inl (by kernel_rfl)) (.inl rfl)) (w_mgs_cons (w_mg_name (i := 3) sc_law.nd rfl (Or.inl (by kernel_rfl)) (.inl rfl)) (w_mgs_cons (w_mg_name (i := 4) sc_law.nd rfl (Or.inl (by kernel_rfl)) (.inl rfl)) w_mgs_nil (fun a b => pgs_cons a b)) (fun a b => pgs_cons a b)) (fun a b => pgs_cons a b)) (fun a b => pgs_cons a b)) (len_4)) (w_me_call h__law_tree hr (by decide) gk (w_ma_cons (w_me_sl u_sl ad_sl (vv 0) (w_mo_some w_me_int) w_mo_none) (w_ma_cons (w_me_cmp (op_eqM hr) ad_eq (w_me_op u_mod ad_mod (w_me_call h__law_cell hr (by decide) gk (w_ma_cons (vv 0) (w_ma_cons w_me_int w_ma_nil)) (ar_cons (ar_cons ar_nil))) w_me_int) w_me_int (nomark _)) w_ma_nil)) (ar_cons (ar_cons ar_nil))))
theorem ps_law_2 (h_told_recipe : T_told_recipe P w K mg base) (h__law_set_out : T__law_set_out P w K mg base) (h__law_pieces : T__law_pieces P w K mg base) (b_range : mg "range" = none) (b_isinstance : mg "isinstance" = none) (b_str : mg "str" = none) (hr : RM 20 "law" s_law A s f cdv) : WS (cX P w K mg base N_law "law" s_law f cdv A outer s H E) Θ0 (bd s_law 1) M.p_law_2 := by
  unfold M.p_law_2
  exact (w_ms_for PassesOwn.never rfl (w_mi_range1 gk b_range w_me_int) (w_mg_name (i := 5) sc_law.nd rfl (Or.inl (by kernel_rfl)) (.inl rfl))
    (w_mss_cons (w_ms_set (i := 6) sc_law.nd rfl (Or.inl (by kernel_rfl)) (w_me_call h_told_recipe hr (by decide) gk (w_ma_cons (vv 1) w_ma_nil) (ar_cons ar_nil)))
    (w_mss_one (w_ms_if (w_mt_ofw (w_mw_or (w_mt_not (w_mt_tru (w_me_callB call_isK ad_isi gk b_isinstance bt_isinstance (w_ma_cons (vv 6) (w_ma_cons (w_me_ty .str gk b_str bt_str) w_ma_nil))))) (w_mw_one_or (w_mt_cmp (op_neM hr) ad_ne (vv 6) (w_me_call h__law_set_out hr (by decide) gk (w_ma_cons (w_me_call h__law_pieces hr (by decide) gk (w_ma_cons (vv 1) (w_ma_cons w_me_bl w_ma_nil)) (ar_cons (ar_cons ar_nil))) w_ma_nil) (ar_cons ar_nil)) (nomark _)))))
    (w_mss_one (w_ms_ret w_me_bl))
    w_mss_nil))))
theorem ps_law_3 (hr : RM 20 "law" s_law A s f cdv) : WS (cX P w K mg base N_law "law" s_law f cdv A outer s H E) Θ0 (bd s_law 2) M.p_law_3 := by
  unfold M.p_law_3
  exact (w_ms_if (w_mt_ofw (w_mw_or (w_mt_cmp u_gt ad_gt (vv 3) w_me_int (nomark _)) (w_mw_one_or (w_mt_cmp u_gt ad_gt (vv 2) w_me_int (nomark _)))))
    (w_mss_one (w_ms_ret w_me_bl))
    w_mss_nil)
theorem ps_law_4 (hr : RM 20 "law" s_law A s f cdv) : WS (cX P w K mg base N_law "law" s_law f cdv A outer s H E) Θ0 (bd s_law 3) M.p_law_4 := by
  unfold M.p_law_4
  exact (w_ms_set (i := 7) sc_law.nd rfl (Or.inl (by kernel_rfl)) (w_me_tup (w_ma_cons zz (w_ma_cons (vv 1) (w_ma_cons (vv 1) w_ma_nil)))))
theorem ps_law_5 (h_told_recipe : T_told_recipe P w K mg base) (h__law_set_out : T__law_set_out P w K mg base) (h__law_pieces : T__law_pieces P w K mg base) (hr : RM 20 "law" s_law A s f cdv) : WS (cX P w K mg base N_law "law" s_law f cdv A outer s H E) Θ0 (bd s_law 4) M.p_law_5 := by
  unfold M.p_law_5
  exact (w_ms_ret (w_me_cmp (op_eqM hr) ad_eq (w_me_call h_told_recipe hr (by decide) gk (w_ma_cons (vv 7) w_ma_nil) (ar_cons ar_nil)) (w_me_call h__law_set_out hr (by decide) gk (w_ma_cons (w_me_call h__law_pieces hr (by decide) gk (w_ma_cons (vv 7) (w_ma_cons w_me_bl w_ma_nil)) (ar_cons (ar_cons ar_nil))) w_ma_nil) (ar_cons ar_nil)) (nomark _)))
theorem ok_law (F : Fun K "law" "law" s_law f fd) (h__law_tree : T__law_tree P w K mg base) (h_told_recipe : T_told_recipe P w K mg base) (h__law_set_out : T__law_set_out P w K mg base) (h__law_pieces : T__law_pieces P w K mg base) (h__law_cell : T__law_cell P w K mg base) (b_range : mg "range" = none) (b_isinstance : mg "isinstance" = none) (b_str : mg "str" = none) :
    FnOk P w K mg base CX0 21 f fd ["_law_script"] (SpM K Θ0 1 M.m_law) := by
  refine w_fun_M0 (N := N_law) (b := M.b_law) F sc_law fun cdv A outer s H E hr => ?_
  unfold M.b_law
  exact (w_mss_cons (ps_law_1 h__law_tree h__law_cell hr) (w_mss_cons (ps_law_2 h_told_recipe h__law_set_out h__law_pieces b_range b_isinstance b_str hr) (w_mss_cons (ps_law_3 hr) (w_mss_cons (ps_law_4 hr) (w_mss_one (ps_law_5 h_told_recipe h__law_set_out h__law_pieces hr))))))
theorem all_mk {l : PySem.W.OpenLaw} {w : World} {K : PySem.W.Frag} {h : Heap} {mg : Str → Option Value} {fa f1 f2 f3 f4 f5 f6 f7 f8 f9 f10 f11 f12 f13 f14 f15 f16 f17 : Addr} (X : K.In h) (G : h.Ns mainGlobals mg) (hfa : mg "law" = some (.ref fa))
    {od1 an1 od2 an2 od3 an3 od4 an4 od5 an5 od6 an6 od7 an7 od8 an8 od9 an9 od10 an10 od11 an11 od12 an12 od13 an13 od14 an14 od15 an15 od16 an16 od17 an17 : Option Addr} {sl1 sl2 sl3 sl4 sl5 sl6 sl7 sl8 sl9 sl10 sl11 sl12 sl13 sl14 sl15 sl16 sl17 : Array (Option Value)} {oc1 kV1 dc1 pm1 cd1 ct1 oc2 kV2 dc2 pm2 cd2 ct2 oc3 kV3 dc3 pm3 cd3 ct3 oc4 kV4 dc4 pm4 cd4 ct4 oc5 kV5 dc5 pm5 cd5 ct5 oc6 kV6 dc6 pm6 cd6 ct6 oc7 kV7 dc7 pm7 cd7 ct7 oc8 kV8 dc8 pm8 cd8 ct8 oc9 kV9 dc9 pm9 cd9 ct9 oc10 kV10 dc10 pm10 cd10 ct10 oc11 kV11 dc11 pm11 cd11 ct11 oc12 kV12 dc12 pm12 cd12 ct12 oc13 kV13 dc13 pm13 cd13 ct13 oc14 kV14 dc14 pm14 cd14 ct14 oc15 kV15 dc15 pm15 cd15 ct15 oc16 kV16 dc16 pm16 cd16 ct16 oc17 kV17 dc17 pm17 cd17 ct17 : Value}
    (a1 : PySem.W.nsIn K mainGlobals "_law_mixed" = some (some (.ref f1))) (l1 : K.lookup f1 = some ⟨oc1, od1, .func (PySem.W.fnOf "_law_mixed" "_law_mixed" (defArgs s__law_mixed) (defBody s__law_mixed) (defScope s__law_mixed) .none kV1 dc1 pm1 an1 cd1 ct1), sl1⟩) (c1 : PySem.W.codeIn K cd1 "_law_mixed" = true) (k1 : PySem.W.keepIn K (.ref f1) = true)
    (a2 : PySem.W.nsIn K mainGlobals "_law_signs" = some (some (.ref f2))) (l2 : K.lookup f2 = some ⟨oc2, od2, .func (PySem.W.fnOf "_law_signs" "_law_signs" (defArgs s__law_signs) (defBody s__law_signs) (defScope s__law_signs) .none kV2 dc2 pm2 an2 cd2 ct2), sl2⟩) (c2 : PySem.W.codeIn K cd2 "_law_signs" = true) (k2 : PySem.W.keepIn K (.ref f2) = true)
    (a3 : PySem.W.nsIn K mainGlobals "_law_kept" = some (some (.ref f3))) (l3 : K.lookup f3 = some ⟨oc3, od3, .func (PySem.W.fnOf "_law_kept" "_law_kept" (defArgs s__law_kept) (defBody s__law_kept) (defScope s__law_kept) .none kV3 dc3 pm3 an3 cd3 ct3), sl3⟩) (c3 : PySem.W.codeIn K cd3 "_law_kept" = true) (k3 : PySem.W.keepIn K (.ref f3) = true)
    (a4 : PySem.W.nsIn K mainGlobals "_law_plain" = some (some (.ref f4))) (l4 : K.lookup f4 = some ⟨oc4, od4, .func (PySem.W.fnOf "_law_plain" "_law_plain" (defArgs s__law_plain) (defBody s__law_plain) (defScope s__law_plain) .none kV4 dc4 pm4 an4 cd4 ct4), sl4⟩) (c4 : PySem.W.codeIn K cd4 "_law_plain" = true) (k4 : PySem.W.keepIn K (.ref f4) = true)
    (a5 : PySem.W.nsIn K mainGlobals "_law_name" = some (some (.ref f5))) (l5 : K.lookup f5 = some ⟨oc5, od5, .func (PySem.W.fnOf "_law_name" "_law_name" (defArgs s__law_name) (defBody s__law_name) (defScope s__law_name) .none kV5 dc5 pm5 an5 cd5 ct5), sl5⟩) (c5 : PySem.W.codeIn K cd5 "_law_name" = true) (k5 : PySem.W.keepIn K (.ref f5) = true)
    (a6 : PySem.W.nsIn K mainGlobals "_law_leaf" = some (some (.ref f6))) (l6 : K.lookup f6 = some ⟨oc6, od6, .func (PySem.W.fnOf "_law_leaf" "_law_leaf" (defArgs s__law_leaf) (defBody s__law_leaf) (defScope s__law_leaf) .none kV6 dc6 pm6 an6 cd6 ct6), sl6⟩) (c6 : PySem.W.codeIn K cd6 "_law_leaf" = true) (k6 : PySem.W.keepIn K (.ref f6) = true)
    (a7 : PySem.W.nsIn K mainGlobals "_law_above" = some (some (.ref f7))) (l7 : K.lookup f7 = some ⟨oc7, od7, .func (PySem.W.fnOf "_law_above" "_law_above" (defArgs s__law_above) (defBody s__law_above) (defScope s__law_above) .none kV7 dc7 pm7 an7 cd7 ct7), sl7⟩) (c7 : PySem.W.codeIn K cd7 "_law_above" = true) (k7 : PySem.W.keepIn K (.ref f7) = true)
    (a8 : PySem.W.nsIn K mainGlobals "_law_grown" = some (some (.ref f8))) (l8 : K.lookup f8 = some ⟨oc8, od8, .func (PySem.W.fnOf "_law_grown" "_law_grown" (defArgs s__law_grown) (defBody s__law_grown) (defScope s__law_grown) .none kV8 dc8 pm8 an8 cd8 ct8), sl8⟩) (c8 : PySem.W.codeIn K cd8 "_law_grown" = true) (k8 : PySem.W.keepIn K (.ref f8) = true)
    (a9 : PySem.W.nsIn K mainGlobals "_law_tree" = some (some (.ref f9))) (l9 : K.lookup f9 = some ⟨oc9, od9, .func (PySem.W.fnOf "_law_tree" "_law_tree" (defArgs s__law_tree) (defBody s__law_tree) (defScope s__law_tree) .none kV9 dc9 pm9 an9 cd9 ct9), sl9⟩) (c9 : PySem.W.codeIn K cd9 "_law_tree" = true) (k9 : PySem.W.keepIn K (.ref f9) = true)
    (a10 : PySem.W.nsIn K mainGlobals "bare_told" = some (some (.ref f10))) (l10 : K.lookup f10 = some ⟨oc10, od10, .func (PySem.W.fnOf "bare_told" "bare_told" (defArgs s_bare_told) (defBody s_bare_told) (defScope s_bare_told) .none kV10 dc10 pm10 an10 cd10 ct10), sl10⟩) (c10 : PySem.W.codeIn K cd10 "bare_told" = true) (k10 : PySem.W.keepIn K (.ref f10) = true)
    (a11 : PySem.W.nsIn K mainGlobals "told_steps" = some (some (.ref f11))) (l11 : K.lookup f11 = some ⟨oc11, od11, .func (PySem.W.fnOf "told_steps" "told_steps" (defArgs s_told_steps) (defBody s_told_steps) (defScope s_told_steps) .none kV11 dc11 pm11 an11 cd11 ct11), sl11⟩) (c11 : PySem.W.codeIn K cd11 "told_steps" = true) (k11 : PySem.W.keepIn K (.ref f11) = true)
    (a12 : PySem.W.nsIn K mainGlobals "told_tokens" = some (some (.ref f12))) (l12 : K.lookup f12 = some ⟨oc12, od12, .func (PySem.W.fnOf "told_tokens" "told_tokens" (defArgs s_told_tokens) (defBody s_told_tokens) (defScope s_told_tokens) .none kV12 dc12 pm12 an12 cd12 ct12), sl12⟩) (c12 : PySem.W.codeIn K cd12 "told_tokens" = true) (k12 : PySem.W.keepIn K (.ref f12) = true)
    (a13 : PySem.W.nsIn K mainGlobals "told_recipe" = some (some (.ref f13))) (l13 : K.lookup f13 = some ⟨oc13, od13, .func (PySem.W.fnOf "told_recipe" "told_recipe" (defArgs s_told_recipe) (defBody s_told_recipe) (defScope s_told_recipe) .none kV13 dc13 pm13 an13 cd13 ct13), sl13⟩) (c13 : PySem.W.codeIn K cd13 "told_recipe" = true) (k13 : PySem.W.keepIn K (.ref f13) = true)
    (a14 : PySem.W.nsIn K mainGlobals "_law_set_out" = some (some (.ref f14))) (l14 : K.lookup f14 = some ⟨oc14, od14, .func (PySem.W.fnOf "_law_set_out" "_law_set_out" (defArgs s__law_set_out) (defBody s__law_set_out) (defScope s__law_set_out) .none kV14 dc14 pm14 an14 cd14 ct14), sl14⟩) (c14 : PySem.W.codeIn K cd14 "_law_set_out" = true) (k14 : PySem.W.keepIn K (.ref f14) = true)
    (a15 : PySem.W.nsIn K mainGlobals "_law_pieces" = some (some (.ref f15))) (l15 : K.lookup f15 = some ⟨oc15, od15, .func (PySem.W.fnOf "_law_pieces" "_law_pieces" (defArgs s__law_pieces) (defBody s__law_pieces) (defScope s__law_pieces) .none kV15 dc15 pm15 an15 cd15 ct15), sl15⟩) (c15 : PySem.W.codeIn K cd15 "_law_pieces" = true) (k15 : PySem.W.keepIn K (.ref f15) = true)
    (a16 : PySem.W.nsIn K mainGlobals "_law_cell" = some (some (.ref f16))) (l16 : K.lookup f16 = some ⟨oc16, od16, .func (PySem.W.fnOf "_law_cell" "_law_cell" (defArgs s__law_cell) (defBody s__law_cell) (defScope s__law_cell) .none kV16 dc16 pm16 an16 cd16 ct16), sl16⟩) (c16 : PySem.W.codeIn K cd16 "_law_cell" = true) (k16 : PySem.W.keepIn K (.ref f16) = true)
    (a17 : PySem.W.nsIn K mainGlobals "law" = some (some (.ref f17))) (l17 : K.lookup f17 = some ⟨oc17, od17, .func (PySem.W.fnOf "law" "law" (defArgs s_law) (defBody s_law) (defScope s_law) .none kV17 dc17 pm17 an17 cd17 ct17), sl17⟩) (c17 : PySem.W.codeIn K cd17 "law" = true) (k17 : PySem.W.keepIn K (.ref f17) = true)
    (z_range : PySem.W.nsIn K mainGlobals "range" = some none)
    (z_any : PySem.W.nsIn K mainGlobals "any" = some none)
    (z_max : PySem.W.nsIn K mainGlobals "max" = some none)
    (z_sum : PySem.W.nsIn K mainGlobals "sum" = some none)
    (z_tuple : PySem.W.nsIn K mainGlobals "tuple" = some none)
    (z_len : PySem.W.nsIn K mainGlobals "len" = some none)
    (z_enumerate : PySem.W.nsIn K mainGlobals "enumerate" = some none)
    (z_list : PySem.W.nsIn K mainGlobals "list" = some none)
    (z_isinstance : PySem.W.nsIn K mainGlobals "isinstance" = some none)
    (z_str : PySem.W.nsIn K mainGlobals "str" = some none)
    (z_reversed : PySem.W.nsIn K mainGlobals "reversed" = some none)
    (z_zip : PySem.W.nsIn K mainGlobals "zip" = some none)
    (z_int : PySem.W.nsIn K mainGlobals "int" = some none)
    : ∃ fd : FuncData, (∀ (s : Shared) (v : Value), BindsTo s fd ⟨[v], []⟩ [("_law_script", v)]) ∧ fd.scope.names.lookup ("_law_script" : Str) = some .local ∧ ∀ base : Heap, K.In base → base.Ns mainGlobals mg → FnOk l.prog w K mg base CX0 21 fa fd ["_law_script"] (SpM K Θ0 1 M.m_law) := by
  have e := hfa.symm.trans (PySem.W.mg_of X G a17)
  cases e
  have F1 := fun_mk (x := "_law_mixed") (qual := "_law_mixed") (st := s__law_mixed) l1 c1 k1
  have B1 := F1.binds (ps := ["_law_cell_here", "_law_k"]) fun _ _ _ _ _ _ us hl => match us, hl with | [_, _], _ => rfl
  have F2 := fun_mk (x := "_law_signs") (qual := "_law_signs") (st := s__law_signs) l2 c2 k2
  have B2 := F2.binds (ps := []) fun _ _ _ _ _ _ us hl => match us, hl with | [], _ => rfl
  have F3 := fun_mk (x := "_law_kept") (qual := "_law_kept") (st := s__law_kept) l3 c3 k3
  have B3 := F3.binds (ps := []) fun _ _ _ _ _ _ us hl => match us, hl with | [], _ => rfl
  have F4 := fun_mk (x := "_law_plain") (qual := "_law_plain") (st := s__law_plain) l4 c4 k4
  have B4 := F4.binds (ps := ["_law_cell_here"]) fun _ _ _ _ _ _ us hl => match us, hl with | [_], _ => rfl
  have F5 := fun_mk (x := "_law_name") (qual := "_law_name") (st := s__law_name) l5 c5 k5
  have B5 := F5.binds (ps := ["_law_cell_here"]) fun _ _ _ _ _ _ us hl => match us, hl with | [_], _ => rfl
  have F6 := fun_mk (x := "_law_leaf") (qual := "_law_leaf") (st := s__law_leaf) l6 c6 k6
  have B6 := F6.binds (ps := ["_law_cell_here", "_law_family"]) fun _ _ _ _ _ _ us hl => match us, hl with | [_, _], _ => rfl
  have F7 := fun_mk (x := "_law_above") (qual := "_law_above") (st := s__law_above) l7 c7 k7
  have B7 := F7.binds (ps := ["_law_word", "_law_under"]) fun _ _ _ _ _ _ us hl => match us, hl with | [_, _], _ => rfl
  have F8 := fun_mk (x := "_law_grown") (qual := "_law_grown") (st := s__law_grown) l8 c8 k8
  have B8 := F8.binds (ps := ["_law_stack", "_law_cell_here", "_law_family"]) fun _ _ _ _ _ _ us hl => match us, hl with | [_, _, _], _ => rfl
  have F9 := fun_mk (x := "_law_tree") (qual := "_law_tree") (st := s__law_tree) l9 c9 k9
  have B9 := F9.binds (ps := ["_law_cells", "_law_family"]) fun _ _ _ _ _ _ us hl => match us, hl with | [_, _], _ => rfl
  have F10 := fun_mk (x := "bare_told") (qual := "bare_told") (st := s_bare_told) l10 c10 k10
  have B10 := F10.binds (ps := ["part"]) fun _ _ _ _ _ _ us hl => match us, hl with | [_], _ => rfl
  have F11 := fun_mk (x := "told_steps") (qual := "told_steps") (st := s_told_steps) l11 c11 k11
  have B11 := F11.binds (ps := ["part"]) fun _ _ _ _ _ _ us hl => match us, hl with | [_], _ => rfl
  have F12 := fun_mk (x := "told_tokens") (qual := "told_tokens") (st := s_told_tokens) l12 c12 k12
  have B12 := F12.binds (ps := ["tree"]) fun _ _ _ _ _ _ us hl => match us, hl with | [_], _ => rfl
  have F13 := fun_mk (x := "told_recipe") (qual := "told_recipe") (st := s_told_recipe) l13 c13 k13
  have B13 := F13.binds (ps := ["tree"]) fun _ _ _ _ _ _ us hl => match us, hl with | [_], _ => rfl
  have F14 := fun_mk (x := "_law_set_out") (qual := "_law_set_out") (st := s__law_set_out) l14 c14 k14
  have B14 := F14.binds (ps := ["_law_pieces_here"]) fun _ _ _ _ _ _ us hl => match us, hl with | [_], _ => rfl
  have F15 := fun_mk (x := "_law_pieces") (qual := "_law_pieces") (st := s__law_pieces) l15 c15 k15
  have B15 := F15.binds (ps := ["_law_tree_here", "_law_whole"]) fun _ _ _ _ _ _ us hl => match us, hl with | [_, _], _ => rfl
  have F16 := fun_mk (x := "_law_cell") (qual := "_law_cell") (st := s__law_cell) l16 c16 k16
  have B16 := F16.binds (ps := ["_law_script", "_law_k"]) fun _ _ _ _ _ _ us hl => match us, hl with | [_, _], _ => rfl
  have F17 := fun_mk (x := "law") (qual := "law") (st := s_law) l17 c17 k17
  have b_range := PySem.W.mg_none_of X G z_range
  have b_any := PySem.W.mg_none_of X G z_any
  have b_max := PySem.W.mg_none_of X G z_max
  have b_sum := PySem.W.mg_none_of X G z_sum
  have b_tuple := PySem.W.mg_none_of X G z_tuple
  have b_len := PySem.W.mg_none_of X G z_len
  have b_enumerate := PySem.W.mg_none_of X G z_enumerate
  have b_list := PySem.W.mg_none_of X G z_list
  have b_isinstance := PySem.W.mg_none_of X G z_isinstance
  have b_str := PySem.W.mg_none_of X G z_str
  have b_reversed := PySem.W.mg_none_of X G z_reversed
  have b_zip := PySem.W.mg_none_of X G z_zip
  have b_int := PySem.W.mg_none_of X G z_int
  refine ⟨PySem.W.fnOf "law" "law" (defArgs s_law) (defBody s_law) (defScope s_law) .none kV17 dc17 pm17 an17 cd17 ct17, fun s v => .of_eq rfl, by kernel_rfl, fun base _ _ => ?_⟩
  have h__law_mixed : T__law_mixed l.prog w K mg base := ⟨⟨_, _, ok__law_mixed F1, B1, k1, PySem.W.mg_of X G a1⟩⟩
  have h__law_signs : T__law_signs l.prog w K mg base := ⟨⟨_, _, ok__law_signs F2, B2, k2, PySem.W.mg_of X G a2⟩⟩
  have h__law_kept : T__law_kept l.prog w K mg base := ⟨⟨_, _, ok__law_kept F3, B3, k3, PySem.W.mg_of X G a3⟩⟩
  have h__law_plain : T__law_plain l.prog w K mg base := ⟨⟨_, _, ok__law_plain F4 h__law_mixed h__law_kept b_range, B4, k4, PySem.W.mg_of X G a4⟩⟩
  have h__law_name : T__law_name l.prog w K mg base := ⟨⟨_, _, ok__law_name F5 h__law_plain h__law_mixed, B5, k5, PySem.W.mg_of X G a5⟩⟩
  have h__law_leaf : T__law_leaf l.prog w K mg base := ⟨⟨_, _, ok__law_leaf F6 h__law_mixed h__law_signs h__law_name h__law_plain b_range, B6, k6, PySem.W.mg_of X G a6⟩⟩
  have h__law_above : T__law_above l.prog w K mg base := ⟨⟨_, _, ok__law_above F7 b_any b_max b_sum b_tuple, B7, k7, PySem.W.mg_of X G a7⟩⟩
  have h__law_grown : T__law_grown l.prog w K mg base := ⟨⟨_, _, ok__law_grown F8 h__law_mixed h__law_above h__law_leaf b_len, B8, k8, PySem.W.mg_of X G a8⟩⟩
  have h__law_tree : T__law_tree l.prog w K mg base := ⟨⟨_, _, ok__law_tree F9 h__law_leaf h__law_grown h__law_above b_enumerate b_len b_sum b_max, B9, k9, PySem.W.mg_of X G a9⟩⟩
  have h_bare_told : T_bare_told l.prog w K mg base := ⟨⟨_, _, ok_bare_told F10, B10, k10, PySem.W.mg_of X G a10⟩⟩
  have h_told_steps : T_told_steps l.prog w K mg base := ⟨⟨_, _, ok_told_steps F11 h_bare_told b_list, B11, k11, PySem.W.mg_of X G a11⟩⟩
  have h_told_tokens : T_told_tokens l.prog w K mg base := ⟨⟨_, _, ok_told_tokens F12 h_told_steps b_list b_len b_isinstance b_str b_reversed, B12, k12, PySem.W.mg_of X G a12⟩⟩
  have h_told_recipe : T_told_recipe l.prog w K mg base := ⟨⟨_, _, ok_told_recipe F13 h_told_tokens, B13, k13, PySem.W.mg_of X G a13⟩⟩
  have h__law_set_out : T__law_set_out l.prog w K mg base := ⟨⟨_, _, ok__law_set_out F14, B14, k14, PySem.W.mg_of X G a14⟩⟩
  have h__law_pieces : T__law_pieces l.prog w K mg base := ⟨⟨_, _, ok__law_pieces F15 B15 k15 (PySem.W.mg_of X G a15) b_zip b_len b_int 20, B15, k15, PySem.W.mg_of X G a15⟩⟩
  have h__law_cell : T__law_cell l.prog w K mg base := ⟨⟨_, _, ok__law_cell F16 b_len, B16, k16, PySem.W.mg_of X G a16⟩⟩
  exact ok_law F17 h__law_tree h_told_recipe h__law_set_out h__law_pieces h__law_cell b_range b_isinstance b_str
theorem walk {l : PySem.W.OpenLaw} {q : Program} {loose : List Str} {XP : (Str → Option Value) → Heap → Prop} {YP : World → Heap → Prop} {d : DefRec} {K : Params → PySem.W.Frag} (hn : l.most = some 63) (hdf : d.params.defaults = [])
    (hY : ∀ (w : World) (h : Heap), YP w h → (K w.params).In h)
    (F : ∀ (w : World) (mg : Str → Option Value) (fa : Addr) (h : Heap), (K w.params).In h → h.Ns mainGlobals mg → mg d.name = some (.ref fa) →
      ∃ fd : FuncData, (∀ (s : Shared) (u : Value), BindsTo s fd ⟨[u], []⟩ [("_law_script", u)]) ∧ fd.scope.names.lookup ("_law_script" : Str) = some .local ∧ ∀ base : Heap, (K w.params).In base → base.Ns mainGlobals mg → FnOk l.prog w (K w.params) mg base CX0 21 fa fd ["_law_script"] (SpM (K w.params) Θ0 1 M.m_law)) :
    PySem.W.WalkO q loose XP YP l.row.toRowW d [] (fun f vs => PySem.call f vs) :=
  L2.walk_of (n := 63) (k := 21) (x := "_law_script") (CX := fun _ => CX0) (sp := fun w => SpM (K w.params) Θ0 1 M.m_law) hn (by decide) hdf ⟨rfl, by decide, by decide⟩ hY F (fun _ _ _ _ hl hO hS => law_sp M.law_true hl hO hS) fun _ _ _ _ _ z => z
end My
open PySem PySem.W PyProof.Rows
set_option maxRecDepth 100000 in
set_option maxHeartbeats 0 in
theorem PySem.Challenge.cw_thingyard_k23_recipes_told_holds : PySem.Challenge.rw_thingyard_k23_recipes_told.Holds := by
  w_on; o_law; k_head; (case hw => w_witness2)
  k_fill
  refine My.walk (l := PySem.Challenge.rw_thingyard_k23_recipes_told) rfl rfl (fun w h Y => PySem.W.kIn_of Y) ?F
  case F =>
    intro w mg fa h KX G hmg
    refine' My.all_mk KX G hmg ?a1 ?l1 ?c1 ?k1 ?a2 ?l2 ?c2 ?k2 ?a3 ?l3 ?c3 ?k3 ?a4 ?l4 ?c4 ?k4 ?a5 ?l5 ?c5 ?k5 ?a6 ?l6 ?c6 ?k6 ?a7 ?l7 ?c7 ?k7 ?a8 ?l8 ?c8 ?k8 ?a9 ?l9 ?c9 ?k9 ?a10 ?l10 ?c10 ?k10 ?a11 ?l11 ?c11 ?k11 ?a12 ?l12 ?c12 ?k12 ?a13 ?l13 ?c13 ?k13 ?a14 ?l14 ?c14 ?k14 ?a15 ?l15 ?c15 ?k15 ?a16 ?l16 ?c16 ?k16 ?a17 ?l17 ?c17 ?k17 ?z_range ?z_any ?z_max ?z_sum ?z_tuple ?z_len ?z_enumerate ?z_list ?z_isinstance ?z_str ?z_reversed ?z_zip ?z_int
    (case a1 => k_is)
    (case l1 => k_is)
    (case c1 => k_is)
    (case k1 => k_is)
    (case a2 => k_is)
    (case l2 => k_is)
    (case c2 => k_is)
    (case k2 => k_is)
    (case a3 => k_is)
    (case l3 => k_is)
    (case c3 => k_is)
    (case k3 => k_is)
    (case a4 => k_is)
    (case l4 => k_is)
    (case c4 => k_is)
    (case k4 => k_is)
    (case a5 => k_is)
    (case l5 => k_is)
    (case c5 => k_is)
    (case k5 => k_is)
    (case a6 => k_is)
    (case l6 => k_is)
    (case c6 => k_is)
    (case k6 => k_is)
    (case a7 => k_is)
    (case l7 => k_is)
    (case c7 => k_is)
    (case k7 => k_is)
    (case a8 => k_is)
    (case l8 => k_is)
    (case c8 => k_is)
    (case k8 => k_is)
    (case a9 => k_is)
    (case l9 => k_is)
    (case c9 => k_is)
    (case k9 => k_is)
    (case a10 => k_is)
    (case l10 => k_is)
    (case c10 => k_is)
    (case k10 => k_is)
    (case a11 => k_is)
    (case l11 => k_is)
    (case c11 => k_is)
    (case k11 => k_is)
    (case a12 => k_is)
    (case l12 => k_is)
    (case c12 => k_is)
    (case k12 => k_is)
    (case a13 => k_is)
    (case l13 => k_is)
    (case c13 => k_is)
    (case k13 => k_is)
    (case a14 => k_is)
    (case l14 => k_is)
    (case c14 => k_is)
    (case k14 => k_is)
    (case a15 => k_is)
    (case l15 => k_is)
    (case c15 => k_is)
    (case k15 => k_is)
    (case a16 => k_is)
    (case l16 => k_is)
    (case c16 => k_is)
    (case k16 => k_is)
    (case a17 => k_is)
    (case l17 => k_is)
    (case c17 => k_is)
    (case k17 => k_is)
    (case z_range => k_is)
    (case z_any => k_is)
    (case z_max => k_is)
    (case z_sum => k_is)
    (case z_tuple => k_is)
    (case z_len => k_is)
    (case z_enumerate => k_is)
    (case z_list => k_is)
    (case z_isinstance => k_is)
    (case z_str => k_is)
    (case z_reversed => k_is)
    (case z_zip => k_is)
    (case z_int => k_is)