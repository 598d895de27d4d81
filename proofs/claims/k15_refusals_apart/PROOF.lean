import PyProof.Rows.All
import Wide.All
import OpenK.AllK
import Wide.FinOn
import Lean
import PyProof.EqAt
import PyProof.EqKinds
import PyProof.TupleCall
import PyProof.ExcClass2
import PyProof.InstSpecial
import PyProof.InstStore
import PyProof.InstStoreFacts
import PyProof.StationsW
import PyProof.ExcArgsOwn
import PyProof.ExcAttrAll.ValueError
import PySem.Challenge.RW_thingyard_k15_refusals_apart
set_option Elab.async false
set_option linter.all false
set_option maxRecDepth 100000
set_option compiler.extract_closed false
noncomputable section
namespace L2
open PySem PySem.Spec PyProof.Rows
abbrev Key := Sum Int Str
noncomputable def keyIs : Key → Value → Bool
  | .inl k, v => Value.isInt k v
  | .inr x, v => Value.isStrOf x v
noncomputable def keyH (w : World) : Key → Int
  | .inl k => hashInt k
  | .inr x => hashStr w x
theorem keyIs_shape : ∀ {k : Key} {v : Value}, keyIs k v = true → (∃ i t, k = Sum.inl i ∧ v = Value.int i t) ∨ (∃ x t, k = Sum.inr x ∧ v = Value.str x t)
  | .inl i, v, h => by
    obtain ⟨t, e⟩ := Value.isInt_shape (k := i) (v := v) h
    exact .inl ⟨i, t, rfl, e⟩
  | .inr x, v, h => by
    obtain ⟨t, e⟩ := Value.isStrOf_shape (x := x) (v := v) h
    exact .inr ⟨x, t, rfl, e⟩
theorem keyIs_int (i : Int) (t : Tok) : keyIs (.inl i) (.int i t) = true := by simp [keyIs, Value.isInt]
theorem keyIs_str (x : Str) (t : Tok) : keyIs (.inr x) (.str x t) = true := by simp [keyIs, Value.isStrOf]
theorem key_ll (a b : Int) : decide ((Sum.inl a : Key) = Sum.inl b) = (a == b) := by
  by_cases e : a = b
  · subst e; simp
  · have h : ¬ (Sum.inl a : Key) = Sum.inl b := fun q => e (Sum.inl.inj q)
    rw [decide_eq_false h]
    exact (beq_eq_false_iff_ne.mpr e).symm
theorem key_rr (a b : Str) : decide ((Sum.inr a : Key) = Sum.inr b) = decide (a = b) := by
  by_cases e : a = b
  · subst e; simp
  · have h : ¬ (Sum.inr a : Key) = Sum.inr b := fun q => e (Sum.inr.inj q)
    rw [decide_eq_false h, decide_eq_false e]
theorem key_lr (a : Int) (b : Str) : decide ((Sum.inl a : Key) = Sum.inr b) = false := decide_eq_false (fun q => nomatch q)
theorem key_rl (a : Str) (b : Int) : decide ((Sum.inr a : Key) = Sum.inl b) = false := decide_eq_false (fun q => nomatch q)
def mixKind (prog : Program) (w : World) : PySem.KeyKind prog w Key where
  is := keyIs
  hash := keyH w
  inj := fun v a b ha hb => by
    rcases keyIs_shape ha with ⟨i, t, rfl, rfl⟩ | ⟨x, t, rfl, rfl⟩
    · rcases keyIs_shape hb with ⟨j, u, rfl, e⟩ | ⟨y, u, rfl, e⟩
      · injection e with e1 _; rw [e1]
      · exact nomatch e
    · rcases keyIs_shape hb with ⟨j, u, rfl, e⟩ | ⟨y, u, rfl, e⟩
      · exact nomatch e
      · injection e with e1 _; rw [e1]
  byValue := fun k v h => by
    rcases keyIs_shape h with ⟨i, t, rfl, rfl⟩ | ⟨x, t, rfl, rfl⟩ <;> rfl
  pyHash := fun hv h => by
    rcases keyIs_shape hv with ⟨i, t, rfl, rfl⟩ | ⟨x, t, rfl, rfl⟩
    · exact wpAny_pyHash_int h
    · exact wpAny_pyHash_str h
  eqBool := fun hu hv h => by
    rcases keyIs_shape hu with ⟨i, t, rfl, rfl⟩ | ⟨x, t, rfl, rfl⟩
    · rcases keyIs_shape hv with ⟨j, u, rfl, rfl⟩ | ⟨y, u, rfl, rfl⟩
      · rw [key_ll] at h; exact wpAny_eqBool_int h
      · rw [key_lr] at h; exact SeqAt.EqAt.int_str i t y u _ _ _ _ h
    · rcases keyIs_shape hv with ⟨j, u, rfl, rfl⟩ | ⟨y, u, rfl, rfl⟩
      · rw [key_rl] at h; exact SeqAt.EqAt.str_int x t j u _ _ _ _ h
      · rw [key_rr] at h; exact wpAny_eqBool_str h
  «strs» := fun k x t v h => by
    rcases keyIs_shape h with ⟨i, u, rfl, e⟩ | ⟨y, u, rfl, e⟩
    · exact nomatch e
    · injection e with e1 _
      subst e1
      cases v <;> rfl
theorem mixKind_int (prog : Program) (w : World) (i : Int) (t : Tok) : (mixKind prog w).is (.inl i) (.int i t) = true := keyIs_int i t
theorem mixKind_str (prog : Program) (w : World) (x : Str) (t : Tok) : (mixKind prog w).is (.inr x) (.str x t) = true := keyIs_str x t
end L2
namespace L2
open PySem PySem.Spec PyProof.Rows
inductive V where
  | non | bl (b : Bool) | int (i : Int) | str (x : Str) | byt (b : Array UInt8) | flt (b : UInt64) | ref (a : Addr) | ty (n : String)
  deriving DecidableEq
noncomputable def RelV : V → Value → Prop
  | .non, u => u = Value.none
  | .bl b, u => u = Value.bool b
  | .int i, u => ∃ t, u = Value.int i t
  | .str x, u => ∃ t, u = Value.str x t
  | .byt b, u => ∃ t, u = Value.bytes b t
  | .flt b, u => ∃ t, u = Value.float b t
  | .ref a, u => u = Value.ref a
  | .ty n, u => u = Value.type n
abbrev Vals : List V → List Value → Prop := Paired RelV
theorem Vals.length {xs : List V} {us : List Value} (r : Vals xs us) : xs.length = us.length := Paired.length r
theorem Vals.get : ∀ {xs : List V} {us : List Value} {i : Nat} {x : V}, Vals xs us → xs[i]? = some x → ∃ u, us[i]? = some u ∧ RelV x u
  | _, _, _, _, .nil, e => by simp at e
  | _, _, 0, _, .cons r _, e => by simp at e; subst e; exact ⟨_, rfl, r⟩
  | _, _, i + 1, x, .cons _ t, e => by
    obtain ⟨u, h1, h2⟩ := Vals.get (i := i) (x := x) t (by simpa using e)
    exact ⟨u, by simpa using h1, h2⟩
theorem Vals.append : ∀ {xs ys : List V} {us ws : List Value}, Vals xs us → Vals ys ws → Vals (xs ++ ys) (us ++ ws)
  | _, _, _, _, .nil, s => s
  | _, _, _, _, .cons r t, s => .cons r (Vals.append t s)
def RelO : Option V → Option Value → Prop
  | some v, some u => RelV v u
  | none, none => True
  | _, _ => False
def KV {κ : Type} : List (κ × V) → List (κ × Value) → Prop := Paired fun (p : κ × V) (q : κ × Value) => p.1 = q.1 ∧ RelV p.2 q.2
noncomputable def kV : Key → V
  | .inl i => .int i
  | .inr x => .str x
inductive HO where
  | lst (xs : List V)
  | tup (xs : List V)
  | dK (kvs : List (Key × V)) | dT (kvs : List (List Key × V))
  | set (S : Int → Bool) (n : Nat)
  | ins (C dx : Addr) (fs : List (Str × V))
  | own (x : Addr)
  | xd (fs : List (Str × V))
  | met (f x : Addr)
  | rng (lo hi : Int)
  | frz (o : Obj) (u : HO)
  | tbl (ps : Array Value)
  | ext (φ : Heap → Prop)
abbrev Hp := Addr → Option HO
noncomputable def upd (H : Hp) (a : Addr) (o : HO) : Hp := fun b => if b = a then some o else H b
theorem upd_same {H : Hp} {a : Addr} {o : HO} : upd H a o a = some o := by unfold upd; rw [if_pos rfl]
theorem upd_ne {H : Hp} {a b : Addr} {o : HO} (h : b ≠ a) : upd H a o b = H b := by unfold upd; rw [if_neg h]
theorem ne_of_none {H : Hp} {a b : Addr} {o : HO} (h : H a = some o) (h' : H b = none) : a ≠ b := by
  intro e; subst e; rw [h] at h'; cases h'
section
variable (P : Program) (w : World)
def ObjOk (H : Hp) (h : Heap) (a : Addr) : HO → Prop
  | .lst xs => xs.length ≤ sizeLine ∧ ∃ (its : List Value) (n : Nat), Vals xs its ∧ h.get? a = some { cls := .type "list", data := .seq its.toArray n }
  | .tup xs => xs.length ≤ sizeLine ∧ ∃ its : List Value, Vals xs its ∧ IsTup h a its.toArray
  | .dK kvs => kvs.length ≤ sizeLine ∧ (a == sysModules) = false ∧ ∃ vs, KV kvs vs ∧ h.DictOf (mixKind P w) a vs
  | .dT kvs => kvs.length ≤ sizeLine ∧ (a == sysModules) = false ∧ ∃ xs : List (List Key × Addr × Value),
      Paired (fun (p : List Key × V) (q : List Key × Addr × Value) => p.1 = q.1 ∧ H q.2.1 = some (.tup (p.1.map kV)) ∧ RelV p.2 q.2.2) kvs xs ∧
      ∃ o es ep, h.get? a = some o ∧ o.ExactDict ∧ o.data = .dict es ep ∧ es.toList = xs.map (entryOfKey (tupleKind (mixKind P w))) ∧ (xs.map (·.1)).Nodup
  | .set S n => h.SetOf (intKind P w) a S n
  | .ins C dx fs => H dx = some (.own a) ∧ fs.length ≤ 1000 ∧ dx ≠ a ∧ h.get? a = some (PySem.W.instObj C dx) ∧
      ∃ mA, h.Ns1 dx mA ∧ (∀ f, RelO (fs.lookup f) (mA f)) ∧ PySem.Within mA (fs.map (·.1))
  | .own _ => ∃ o, h.get? a = some o
  | .xd fs => ∃ mA, h.Ns1 a mA ∧ ∀ f, RelO (fs.lookup f) (mA f)
  | .rng lo hi => ∃ t u v, h.get? a = some { cls := .type "range", data := .fields #[.int lo t, .int hi u, .int 1 v] }
  | .frz o u => h.get? a = some o ∧ ObjOk H h a u
  | .tbl ps => h.get? a = some { cls := .none, data := .fields ps }
  | .met f x => h.get? a = some (PySem.W.methodObj (.ref f) (.ref x))
  | .ext φ => φ h ∧ (∃ o, h.get? a = some o) ∧ ∀ h1 h2 : Heap, φ h1 → (∀ o, h1.get? a = some o → h2.get? a = some o) → φ h2
def HOk (H : Hp) (h : Heap) : Prop := ∀ a o, H a = some o → ObjOk P w H h a o
end
section
variable {P : Program} {w : World} {H H' : Hp} {h h' : Heap} {a : Addr} {o : HO}
theorem ObjOk.lt (x : ObjOk P w H h a o) : a < h.objs.size := by
  cases o with
  | lst xs => obtain ⟨_, _, _, _, e⟩ := x; exact Heap.lt_size e
  | tup xs => obtain ⟨_, _, _, p⟩ := x; exact p.lt
  | dK kvs => obtain ⟨_, _, _, _, o, _, _, e, _⟩ := x; exact Heap.lt_size e
  | dT kvs => obtain ⟨_, _, _, _, o, _, _, e, _⟩ := x; exact Heap.lt_size e
  | set S n => obtain ⟨o, _, _, _, e, _⟩ := x; exact Heap.lt_size e
  | ins C dx fs => obtain ⟨_, _, _, e, _⟩ := x; exact Heap.lt_size e
  | own y => obtain ⟨_, e⟩ := x; exact Heap.lt_size e
  | xd fs => obtain ⟨_, ⟨_, _, _, e, _⟩, _⟩ := x; exact Heap.lt_size e
  | rng lo hi => obtain ⟨_, _, _, e⟩ := x; exact Heap.lt_size e
  | frz ob u => obtain ⟨e, _⟩ := x; exact Heap.lt_size e
  | tbl ps => exact Heap.lt_size (show h.get? a = some _ from x)
  | met f y => exact Heap.lt_size (show h.get? a = some _ from x)
  | ext φ => obtain ⟨_, ⟨_, e⟩, _⟩ := x; exact Heap.lt_size e
theorem Paired.mapP {α β : Type} {F G : α → β → Prop} : ∀ {l₁ : List α} {l₂ : List β}, Paired F l₁ l₂ → (∀ a b, F a b → G a b) → Paired G l₁ l₂
  | _, _, .nil, _ => .nil
  | _, _, .cons r t, f => .cons (f _ _ r) (Paired.mapP t f)
theorem ObjOk.stay (x : ObjOk P w H h a o) (k : ∀ b u, (b = a ∨ H b = some (.own a)) → h.get? b = some u → h'.get? b = some u)
    (ho : ∀ b, H b = some (.own a) → H' b = some (.own a)) (ht : ∀ b xs, H b = some (.tup xs) → H' b = some (.tup xs)) : ObjOk P w H' h' a o := by
  induction o with
  | lst xs => obtain ⟨z, its, n, r, e⟩ := x; exact ⟨z, its, n, r, k _ _ (.inl rfl) e⟩
  | tup xs => obtain ⟨z, its, r, ob, e, c⟩ := x; exact ⟨z, its, r, ob, k _ _ (.inl rfl) e, c⟩
  | dK kvs => obtain ⟨z, y, vs, r, ob, es, ep, e, c⟩ := x; exact ⟨z, y, vs, r, ob, es, ep, k _ _ (.inl rfl) e, c⟩
  | dT kvs =>
    obtain ⟨z, y, xs, r, ob, es, ep, e, c⟩ := x
    exact ⟨z, y, xs, Paired.mapP r fun p q z => ⟨z.1, ht _ _ z.2.1, z.2.2⟩, ob, es, ep, k _ _ (.inl rfl) e, c⟩
  | set S n => obtain ⟨ob, es, ep, t, e, c⟩ := x; exact ⟨ob, es, ep, t, k _ _ (.inl rfl) e, c⟩
  | ins C dx fs =>
    obtain ⟨d, z, ne, e, mA, ⟨od, es, ep, e2, c⟩, r⟩ := x
    exact ⟨ho _ d, z, ne, k _ _ (.inl rfl) e, mA, ⟨od, es, ep, k _ _ (.inr d) e2, c⟩, r⟩
  | own y => obtain ⟨ob, e⟩ := x; exact ⟨ob, k _ _ (.inl rfl) e⟩
  | xd fs => obtain ⟨mA, ⟨od, es, ep, e, c⟩, r⟩ := x; exact ⟨mA, ⟨od, es, ep, k _ _ (.inl rfl) e, c⟩, r⟩
  | rng lo hi => obtain ⟨t, u, v, e⟩ := x; exact ⟨t, u, v, k _ _ (.inl rfl) e⟩
  | frz ob u ih => obtain ⟨e, q⟩ := x; exact ⟨k _ _ (.inl rfl) e, ih q⟩
  | tbl ps =>
    have e : h.get? a = some { cls := .none, data := .fields ps } := x
    show h'.get? a = some { cls := .none, data := .fields ps }
    exact k a _ (.inl rfl) e
  | met f y =>
    have e : h.get? a = some (PySem.W.methodObj (.ref f) (.ref y)) := x
    show h'.get? a = some (PySem.W.methodObj (.ref f) (.ref y))
    exact k a _ (.inl rfl) e
  | ext φ => obtain ⟨p, ⟨o, e⟩, st⟩ := x; exact ⟨st _ _ p fun o q => k _ _ (.inl rfl) q, ⟨o, k _ _ (.inl rfl) e⟩, st⟩
theorem HOk.lt (x : HOk P w H h) (e : H a = some o) : a < h.objs.size := (x a o e).lt
theorem HOk.fresh (x : HOk P w H h) (e : h.objs.size ≤ a) : H a = none := by
  cases q : H a with
  | none => rfl
  | some u => exact absurd (Nat.lt_of_lt_of_le (x.lt q) e) (Nat.lt_irrefl _)
theorem HOk.kept (x : HOk P w H h) (k : ∀ b u, h.get? b = some u → h'.get? b = some u) : HOk P w H h' := fun a o e =>
  (x a o e).stay (fun b u _ q => k b u q) (fun _ q => q) fun _ _ q => q
theorem HOk.laid (x : HOk P w H h) (k : ∀ b u, h.get? b = some u → h'.get? b = some u) (hp : h.objs.size ≤ a) (new : ObjOk P w (upd H a o) h' a o) : HOk P w (upd H a o) h' := fun b u e => by
  have hn := x.fresh hp
  by_cases hb : b = a
  · subst hb; rw [upd_same] at e; cases e; exact new
  · rw [upd_ne hb] at e
    exact (x b u e).stay (fun c v _ q => k c v q) (fun c q => by rw [upd_ne (ne_of_none q hn)]; exact q) fun c xs q => by rw [upd_ne (ne_of_none q hn)]; exact q
end
def Rd (H : Hp) (a : Addr) (u : HO) : Prop := H a = some u ∨ ∃ o, H a = some (.frz o u)
theorem Rd.ok {P : Program} {w : World} {H : Hp} {h : Heap} {a : Addr} {u : HO} (r : Rd H a u) (x : HOk P w H h) : ObjOk P w H h a u := by
  rcases r with r | ⟨o, r⟩
  · exact x a u r
  · obtain ⟨_, q⟩ := x a _ r
    exact q
noncomputable def Mut : Option HO → Prop
  | some (.lst _) => True
  | some (.dK _) => True
  | some (.dT _) => True
  | some (.set _ _) => True
  | some (.ins _ _ _) => True
  | some (.ext _) => True
  | _ => False
section
variable {P : Program} {w : World} {H : Hp} {h h' : Heap} {x e : Addr} {o' : HO}
theorem HOk.write (ok : HOk P w H h) (mu : Mut (H x)) (he : e = x ∨ H e = some (.own x)) (k : ∀ b u, b ≠ e → h.get? b = some u → h'.get? b = some u) (heo : ∃ u, h'.get? e = some u)
    (new : ObjOk P w (upd H x o') h' x o') : HOk P w (upd H x o') h' := fun b u q => by
  have nown : ∀ c y, H c = some (.own y) → c ≠ x := fun c y r z => by subst z; rw [r] at mu; exact mu
  have ntup : ∀ c xs, H c = some (.tup xs) → c ≠ x := fun c xs r z => by subst z; rw [r] at mu; exact mu
  by_cases hb : b = x
  · subst hb; rw [upd_same] at q; cases q; exact new
  · rw [upd_ne hb] at q
    by_cases hbe : b = e
    · have q' : H b = some (.own x) := by
        rcases he with z | z
        · exact absurd (hbe.trans z) hb
        · rw [hbe]; exact z
      rw [q] at q'; cases q'
      obtain ⟨v, hv⟩ := heo
      exact ⟨v, by rw [hbe]; exact hv⟩
    · refine (ok b u q).stay (fun c v hc r => k c v ?_ r) (fun c r => by rw [upd_ne (nown c b r)]; exact r) fun c xs r => by rw [upd_ne (ntup c xs r)]; exact r
      rcases hc with rfl | hc
      · exact hbe
      · rintro rfl
        rcases he with z | z
        · exact nown c b hc z
        · rw [hc] at z; cases z; exact hb rfl
end
structure Un (fs ex : List Addr) (H H' : Hp) (h h' : Heap) : Prop where
  keep : ∀ b o, h.get? b = some o → H b = none → b ∉ fs → b ∉ ex → h'.get? b = some o
  slot : ∀ b o, h.get? b = some o → H b = none → b ∈ fs → b ∉ ex → ∃ sl, h'.get? b = some { o with slots := sl }
  free : ∀ b o, h.get? b = some o → H b = none → b ∉ ex → H' b = none
  there : ∀ b o, h.get? b = some o → b ∉ ex → ∃ o', h'.get? b = some o'
  tups : ∀ b xs, H b = some (.tup xs) → H' b = some (.tup xs)
  frzs : ∀ b o u, H b = some (.frz o u) → H' b = some (.frz o u)
  tbls : ∀ b ps, H b = some (.tbl ps) → ∃ more, H' b = some (.tbl (ps ++ more))
section
variable {fs fs' ex ex' : List Addr} {H H1 H2 : Hp} {h h1 h2 h' : Heap} {a x e : Addr} {o : HO}
theorem Un.any (u : Un fs ex H H1 h h1) {b : Addr} {ob : Obj} (q : h.get? b = some ob) (n : H b = none) (hx : b ∉ ex) : ∃ sl, h1.get? b = some { ob with slots := sl } := by
  by_cases hb : b ∈ fs
  · exact u.slot b ob q n hb hx
  · exact ⟨ob.slots, u.keep b ob q n hb hx⟩
theorem Un.kept (k : ∀ b u, h.get? b = some u → h'.get? b = some u) : Un fs ex H H h h' :=
  ⟨fun b ob q _ _ _ => k b ob q, fun b ob q _ _ _ => ⟨ob.slots, k b ob q⟩, fun _ _ _ n _ => n, fun b ob q _ => ⟨ob, k b ob q⟩, fun _ _ q => q, fun _ _ _ q => q, fun _ ps q => ⟨#[], by rw [q]; simp⟩⟩
theorem Un.refl : Un fs ex H H h h := Un.kept fun _ _ q => q
theorem Un.laid (k : ∀ b u, h.get? b = some u → h'.get? b = some u) (hp : h.objs.size ≤ a) (hn : H a = none) : Un fs ex H (upd H a o) h h' where
  keep := fun b u q _ _ _ => k b u q
  slot := fun b u q _ _ _ => ⟨u.slots, k b u q⟩
  free := fun b u q n _ => by rw [upd_ne (Nat.ne_of_lt (Nat.lt_of_lt_of_le (Heap.lt_size q) hp))]; exact n
  there := fun b u q _ => ⟨u, k b u q⟩
  tups := fun b xs q => by rw [upd_ne (ne_of_none q hn)]; exact q
  frzs := fun b u xs q => by rw [upd_ne (ne_of_none q hn)]; exact q
  tbls := fun b ps q => ⟨#[], by rw [upd_ne (ne_of_none q hn), q]; simp⟩
theorem Un.write (mu : Mut (H x)) (he : e = x ∨ H e = some (.own x)) (k : ∀ b u, b ≠ e → h.get? b = some u → h'.get? b = some u) (heo : ∃ u, h'.get? e = some u) : Un fs ex H (upd H x o) h h' := by
  have hx : ∀ b, H b = none → b ≠ x := fun b n z => by subst z; rw [n] at mu; exact mu
  have hb : ∀ b, H b = none → b ≠ e := fun b n z => by
    subst z
    rcases he with r | r
    · exact hx b n r
    · rw [n] at r; cases r
  have hm : ∀ b u, H b = some u → ¬ Mut (some u) → b ≠ x := fun b u q nm z => by subst z; rw [q] at mu; exact nm mu
  refine ⟨fun b u q n _ _ => k b u (hb b n) q, fun b u q n _ _ => ⟨u.slots, k b u (hb b n) q⟩, fun b u q n _ => by rw [upd_ne (hx b n)]; exact n, fun b u q _ => ?_,
    fun b xs q => by rw [upd_ne (hm b _ q fun z => z)]; exact q, fun b u xs q => by rw [upd_ne (hm b _ q fun z => z)]; exact q, fun b ps q => ⟨#[], by rw [upd_ne (hm b _ q fun z => z), q]; simp⟩⟩
  by_cases hbe : b = e
  · subst hbe; exact heo
  · exact ⟨u, k b u hbe q⟩
end
noncomputable def trk (h : Heap) (H : Hp) : List Addr := (List.range h.objs.size).filter fun a => (H a).isSome
def hidT (h : Heap) (H : Hp) : Heap := PySem.W.hideAll h (trk h H)
theorem hidT_size (h : Heap) (H : Hp) : (hidT h H).objs.size = h.objs.size := PySem.W.hideAll_size _ _
theorem hidT_get {h : Heap} {H : Hp} {b : Addr} {o : Obj} (e : h.get? b = some o) (n : H b = none) : (hidT h H).get? b = some o :=
  PySem.W.hideAll_get _ e fun hm => by
    have q : (H b).isSome = true := (List.mem_filter.mp hm).2
    rw [n] at q; simp at q
theorem of_hidT {h : Heap} {H : Hp} {b : Addr} {o : Obj} (e : (hidT h H).get? b = some o) : h.get? b = some o ∧ H b = none := by
  have e' : h.get? b = some o := PySem.W.of_hideAll (trk h H) e
  refine ⟨e', ?_⟩
  cases q : H b with
  | none => rfl
  | some x =>
    have hm : b ∈ trk h H := List.mem_filter.mpr ⟨List.mem_range.mpr (Heap.lt_size e'), by simp [q]⟩
    have z : (hidT h H).get? b = none := PySem.W.hideAll_none (trk h H) hm
    rw [z] at e; cases e
noncomputable def allNews (g h : Heap) (L : Addr) : List (Addr × Obj) := (List.range h.objs.size).filterMap fun a => if a = L ∨ (g.get? a).isSome = true then none else (h.get? a).map fun o => (a, o)
def rest (g h : Heap) (L d : Addr) : List (Addr × Obj) := (allNews g h L).filter fun p => decide (p.1 ≠ d)
end L2
namespace L2
open PySem PySem.Spec PyProof.Rows
structure Mod (K : PySem.W.Frag) (mg : Str → Option Value) (base : Heap) : Prop where
  kin : K.In base
  glob : base.Ns mainGlobals mg
  blt : ∃ mb, base.Ns builtinsNs mb ∧ ∀ x : Str, x ≠ "__name__" → mb x = bootBuiltins x
  nolimit : base.NoLimit
structure Cx where
  prog : Program
  w : World
  K : PySem.W.Frag
  mg : Str → Option Value
  base : Heap
  A : Around
  N : List Str
  s₀ : Shared
  H₀ : Hp
  env : Env
  outer : List Env
  stack : List Env
  ex : List Addr
  fn : Str → Bool
  calm : Bool
  pn : List (Addr × Obj)
  xe : Value → Shared → Prop
noncomputable def frs (l : List Env) : List Addr := l.filterMap (·.frame)
abbrev Cx.fs (X : Cx) : List Addr := frs X.outer
def Vis (sc : Scope) (x : Str) : Prop := sc.names.lookup x = some .local ∨ sc.names.lookup x = some .cell ∨ sc.names.lookup x = some .free
def Loc (sc : Scope) (x : Str) : Prop := sc.names.lookup x = some .local ∨ sc.names.lookup x = some .cell
def Look (env : Env) (h : Heap) (m : Str → Option Value) (x : Str) (u : Value) : Prop :=
  (env.kindOf x = some .local ∧ m x = some u) ∨ ((env.kindOf x = some .cell ∨ env.kindOf x = some .free) ∧ ∃ c, env.cells.lookup x = some c ∧ h.IsCell c (some u))
structure Cx.Ok (X : Cx) : Prop where
  mod : Mod X.K X.mg X.base
  kind : X.env.scope.kind = .function
  glob : X.env.globals = mainGlobals
  blt : X.env.builtins = builtinsNs
  above : X.s₀.heap.objs.size ≤ X.env.locals
  inj : ∀ x y c, X.env.cells.lookup x = some c → X.env.cells.lookup y = some c → x = y
  has : ∀ x, (X.env.kindOf x = some .cell ∨ X.env.kindOf x = some .free) → ∃ c, X.env.cells.lookup x = some c
  cab : ∀ x c, X.fn x = true → X.env.cells.lookup x = some c → X.s₀.heap.objs.size ≤ c
  hd : X.calm = true → X.A.handled = none
  frames : X.A.frames = some X.stack
  stk : X.stack = X.outer ∨ (X.stack = X.env :: X.outer ∧ X.env.frame = some X.env.locals)
  exf : ∀ b ∈ X.ex, b ≠ X.env.locals ∧ ∀ x c, X.env.cells.lookup x = some c → c ≠ b
  bs : ∀ b o, X.base.get? b = some o → X.s₀.heap.get? b = some o ∧ X.H₀ b = none
  bsz : X.base.objs.size ≤ X.s₀.heap.objs.size
  noex : ∀ b o, X.base.get? b = some o → b ∉ X.ex
  exfs : ∀ b ∈ X.ex, b ∉ X.fs
  funs : X.s₀.heap.FunFrames X.base X.outer
  frf : ∀ b ∈ X.fs, X.H₀ b = none
structure Inv (X : Cx) (pins : List (Addr × Obj)) (σ : List (Option V)) (H : Hp) (s : Shared) : Prop where
  ok : X.Ok
  os : s.os = X.s₀.os
  bare : AllBare s.gens
  base : Un X.fs X.ex X.H₀ H X.s₀.heap s.heap
  loc : ∃ m, s.heap.Ns X.env.locals m ∧ ∀ (i : Nat) (x : Str) (v : V), X.N[i]? = some x → σ[i]? = some (some v) → Vis X.env.scope x → ∃ u, RelV v u ∧ Look X.env s.heap m x u
  cell : ∀ x c, X.env.cells.lookup x = some c → ∃ v, s.heap.IsCell c v
  free : H X.env.locals = none
  freeC : ∀ x c, X.env.cells.lookup x = some c → H c = none
  pin : ∀ p ∈ X.pn ++ pins, s.heap.get? p.1 = some p.2 ∧ H p.1 = none ∧ p.1 ≠ X.env.locals ∧ p.1 ∉ X.fs ∧ ∀ v, p.2.data ≠ .cell v
  hok : HOk X.prog X.w H s.heap
  len : σ.length = X.N.length
  tk : 0 < s.toks
section
variable {X : Cx} {pins : List (Addr × Obj)} {σ : List (Option V)} {H H' : Hp} {s : Shared} {h' : Heap}
theorem Cx.Ok.nofr (ok : X.Ok) {b : Addr} {o : Obj} (e : X.base.get? b = some o) : b ∉ X.fs := fun hb => by
  have := (ok.funs.mem hb).1
  rw [e] at this; cases this
theorem Inv.bs (I : Inv X pins σ H s) : ∀ b o, X.base.get? b = some o → s.heap.get? b = some o ∧ H b = none := fun b o e =>
  ⟨I.base.keep b o (I.ok.bs b o e).1 (I.ok.bs b o e).2 (I.ok.nofr e) (I.ok.noex b o e), I.base.free b o (I.ok.bs b o e).1 (I.ok.bs b o e).2 (I.ok.noex b o e)⟩
theorem Inv.bk (I : Inv X pins σ H s) : ∀ b o, X.base.get? b = some o → s.heap.get? b = some o := fun b o e => (I.bs b o e).1
theorem Inv.mod (I : Inv X pins σ H s) : Mod X.K X.mg X.base := I.ok.mod
theorem Inv.kIn (I : Inv X pins σ H s) : X.K.In s.heap := I.ok.mod.kin.keeps I.bk
theorem Inv.lt (I : Inv X pins σ H s) : X.env.locals < s.heap.objs.size := let ⟨_, hn, _⟩ := I.loc; hn.lt
theorem Inv.sz (I : Inv X pins σ H s) : X.s₀.heap.objs.size ≤ s.heap.objs.size := Nat.le_trans I.ok.above (Nat.le_of_lt I.lt)
theorem Inv.nofs (I : Inv X pins σ H s) {a : Addr} (h : s.heap.objs.size ≤ a) : a ∉ X.fs := fun hb => by
  obtain ⟨_, o, ho, _⟩ := I.ok.funs.mem hb
  exact absurd (Nat.lt_of_lt_of_le (Heap.lt_size ho) (Nat.le_trans I.sz h)) (Nat.lt_irrefl _)
theorem Inv.cne (I : Inv X pins σ H s) : ∀ x c, X.env.cells.lookup x = some c → c ≠ X.env.locals := fun x c e z => by
  obtain ⟨v, o, ho, hd⟩ := I.cell x c e
  obtain ⟨m, ⟨o', es, ep, ho', hd', _⟩, _⟩ := I.loc
  rw [z, ho'] at ho; cases ho; rw [hd'] at hd; cases hd
theorem Inv.funs (I : Inv X pins σ H s) : s.heap.FunFrames X.base X.outer := by
  have all : ∀ (l : List Env), (∀ b ∈ frs l, b ∈ X.fs) → X.s₀.heap.FunFrames X.base l → s.heap.FunFrames X.base l := by
    intro l
    induction l with
    | nil => intro _ _; trivial
    | cons env r ih =>
      intro hs hl
      obtain ⟨hk, ⟨L, o, hf, hn, ho, hd⟩, hr⟩ := hl
      have hL : L ∈ X.fs := hs L (by unfold frs; rw [List.filterMap_cons, hf]; exact List.mem_cons_self)
      obtain ⟨sl, e⟩ := I.base.slot L o ho (I.ok.frf L hL) hL fun z => I.ok.exfs L z hL
      exact ⟨hk, ⟨L, _, hf, hn, e, hd⟩, ih (fun b hb => hs b (by unfold frs; rw [List.filterMap_cons, hf]; exact List.mem_cons_of_mem _ hb)) hr⟩
  exact all X.outer (fun _ hb => hb) I.ok.funs
theorem Inv.stack (I : Inv X pins σ H s) : s.heap.FunFrames X.base X.stack := by
  rcases I.ok.stk with e | ⟨e, hf⟩
  · rw [e]; exact I.funs
  · rw [e]
    obtain ⟨m, hn, _⟩ := I.loc
    refine .cons (by rw [I.ok.kind]; decide) hf hn ?_ I.funs
    exact Heap.get?_none_of_le (Nat.le_trans I.ok.bsz I.ok.above)
theorem Inv.stkSub (I : Inv X pins σ H s) : ∀ b ∈ frs X.stack, b ∈ X.env.locals :: X.fs := fun b hb => by
  rcases I.ok.stk with e | ⟨e, hf⟩
  · rw [e] at hb; exact List.mem_cons_of_mem _ hb
  · rw [e] at hb
    unfold frs at hb
    rw [List.filterMap_cons, hf] at hb
    exact hb
theorem Inv.stkFree (I : Inv X pins σ H s) : ∀ b ∈ frs X.stack, H b = none := fun b hb => by
  rcases List.mem_cons.mp (I.stkSub b hb) with e | hb
  · rw [e]; exact I.free
  · obtain ⟨_, o, ho, _⟩ := I.ok.funs.mem hb
    exact I.base.free b o ho (I.ok.frf b hb) fun z => I.ok.exfs b z hb
theorem Inv.step {g' : Array GenState} {t' : Nat} {d' : Drawn} {ch : List Addr} (I : Inv X pins σ H s)
    (hch : ∀ b ∈ ch, (b ∈ X.ex ∨ X.s₀.heap.objs.size ≤ b) ∧ b ≠ X.env.locals ∧ (∀ x c, X.env.cells.lookup x = some c → c ≠ b) ∧ ∀ p ∈ X.pn ++ pins, p.1 ≠ b)
    (keep : ∀ b o, b ≠ X.env.locals → b ∉ X.fs → b ∉ ch → s.heap.get? b = some o → H b = none → h'.get? b = some o)
    (slot : ∀ b o, b ≠ X.env.locals → b ∈ X.fs → b ∉ ch → s.heap.get? b = some o → H b = none → ∃ sl, h'.get? b = some { o with slots := sl }) (free : ∀ b o, b ∉ ch → s.heap.get? b = some o → H b = none → H' b = none)
    (there : ∀ b o, b ∉ ch → s.heap.get? b = some o → ∃ o', h'.get? b = some o')
    (tups : ∀ b xs, H b = some (.tup xs) → H' b = some (.tup xs)) (frzs : ∀ b o u, H b = some (.frz o u) → H' b = some (.frz o u)) (tbls : ∀ b ps, H b = some (.tbl ps) → ∃ more, H' b = some (.tbl (ps ++ more)))
    (ns : ∀ m, s.heap.Ns X.env.locals m → h'.Ns X.env.locals m) (hok : HOk X.prog X.w H' h') (hg : AllBare g') (ht : 0 < t' := by first | exact Nat.succ_pos _ | assumption | exact Inv.tk (by assumption) | lia) :
    Inv X pins σ H' { s with heap := h', gens := g', drawn := d', toks := t' } := by
  have neL : ∀ b o, X.s₀.heap.get? b = some o → b ≠ X.env.locals := fun b o e => Nat.ne_of_lt (Nat.lt_of_lt_of_le (Heap.lt_size e) I.ok.above)
  have neC : ∀ b o, X.s₀.heap.get? b = some o → b ∉ X.ex → b ∉ ch := fun b o e hx hb => by
    rcases (hch b hb).1 with z | z
    · exact hx z
    · exact absurd (Nat.lt_of_lt_of_le (Heap.lt_size e) z) (Nat.lt_irrefl _)
  have cellK : ∀ x c, X.env.cells.lookup x = some c → ∀ v, s.heap.IsCell c v → h'.IsCell c v := fun x c e v ⟨o, ho, hd⟩ => by
    have nch : c ∉ ch := fun z => (hch c z).2.2.1 x c e rfl
    by_cases hc : c ∈ X.fs
    · obtain ⟨sl, q⟩ := slot c o (I.cne x c e) hc nch ho (I.freeC x c e)
      exact ⟨_, q, hd⟩
    · exact ⟨o, keep c o (I.cne x c e) hc nch ho (I.freeC x c e), hd⟩
  refine ⟨I.ok, I.os, hg, ⟨fun b o e n hb hx => ?_, fun b o e n hb hx => ?_, fun b o e n hx => ?_, fun b o e hx => ?_, fun b xs e => tups b xs (I.base.tups b xs e), fun b o xs e => frzs b o xs (I.base.frzs b o xs e), fun b ps e => ?_⟩, ?_, fun x c e => ?_, ?_, fun x c e => ?_, fun p hp => ?_, hok, I.len, ht⟩
  · exact keep b o (neL b o e) hb (neC b o e hx) (I.base.keep b o e n hb hx) (I.base.free b o e n hx)
  · obtain ⟨sl, e1⟩ := I.base.slot b o e n hb hx
    obtain ⟨sl', e2⟩ := slot b _ (neL b o e) hb (neC b o e hx) e1 (I.base.free b o e n hx)
    exact ⟨sl', e2⟩
  · obtain ⟨o', e1⟩ := I.base.there b o e hx
    exact free b o' (neC b o e hx) e1 (I.base.free b o e n hx)
  · obtain ⟨o', e1⟩ := I.base.there b o e hx
    exact there b o' (neC b o e hx) e1
  · obtain ⟨m1, e1⟩ := I.base.tbls b ps e
    obtain ⟨m2, e2⟩ := tbls b _ e1
    exact ⟨m1 ++ m2, by rw [e2, Array.append_assoc]⟩
  · obtain ⟨m, hn, hl⟩ := I.loc
    refine ⟨m, ns m hn, fun i x v e1 e2 e3 => ?_⟩
    obtain ⟨u, r, l⟩ := hl i x v e1 e2 e3
    refine ⟨u, r, ?_⟩
    rcases l with l | ⟨k, c, e, z⟩
    · exact .inl l
    · exact .inr ⟨k, c, e, cellK x c e _ z⟩
  · obtain ⟨v, z⟩ := I.cell x c e
    exact ⟨v, cellK x c e v z⟩
  · obtain ⟨m, ⟨o, _, _, ho, _⟩, _⟩ := I.loc
    exact free _ o (fun z => (hch _ z).2.1 rfl) ho I.free
  · obtain ⟨v, o, ho, hd⟩ := I.cell x c e
    exact free c o (fun z => (hch c z).2.2.1 x c e rfl) ho (I.freeC x c e)
  · obtain ⟨e, n, ne, nf, d⟩ := I.pin p hp
    have nch : p.1 ∉ ch := fun z => (hch p.1 z).2.2.2 p hp rfl
    exact ⟨keep p.1 p.2 ne nf nch e n, free p.1 p.2 nch e n, ne, nf, d⟩
theorem Inv.un {t' : Nat} (I : Inv X pins σ H s) (u : Un X.fs [] H H' s.heap h') (hok : HOk X.prog X.w H' h') (ht : 0 < t' := by first | exact Nat.succ_pos _ | assumption | exact Inv.tk (by assumption) | lia) : Inv X pins σ H' { s with heap := h', toks := t' } := by
  obtain ⟨m, ⟨o, es, ep, ho, r⟩, _⟩ := id I.loc
  obtain ⟨sl, hL⟩ := u.any ho I.free (by simp)
  exact I.step (g' := s.gens) (d' := s.drawn) (ch := []) (fun _ z => nomatch z) (fun b o _ hb _ e n => u.keep b o e n hb (by simp)) (fun b o _ hb _ e n => u.slot b o e n hb (by simp)) (fun b o _ e n => u.free b o e n (by simp)) (fun b o _ e => u.there b o e (by simp)) u.tups u.frzs u.tbls (fun m' hm => by
    obtain ⟨o', es', ep', ho', r'⟩ := hm
    rw [ho] at ho'; cases ho'
    exact ⟨_, es', ep', hL, r'⟩) hok I.bare ht
theorem Inv.call {g' : Array GenState} {t' : Nat} {d' : Drawn} {ch : List Addr} (I : Inv X pins σ H s) (u : Un (frs X.stack) ch H H' s.heap h') (hok : HOk X.prog X.w H' h') (hg : AllBare g')
    (hch : ∀ b ∈ ch, (b ∈ X.ex ∨ X.s₀.heap.objs.size ≤ b) ∧ b ≠ X.env.locals ∧ (∀ x c, X.env.cells.lookup x = some c → c ≠ b) ∧ ∀ p ∈ X.pn ++ pins, p.1 ≠ b) (ht : 0 < t' := by first | exact Nat.succ_pos _ | assumption | exact Inv.tk (by assumption) | lia) :
    Inv X pins σ H' { s with heap := h', gens := g', drawn := d', toks := t' } := by
  obtain ⟨m, ⟨o, es, ep, ho, r⟩, _⟩ := id I.loc
  obtain ⟨sl, hL⟩ := u.any ho I.free fun z => (hch _ z).2.1 rfl
  exact I.step (ch := ch) hch (fun b o hL hb hc e n => u.keep b o e n (fun z => (List.mem_cons.mp (I.stkSub b z)).elim hL hb) hc) (fun b o _ _ hc e n => u.any e n hc) (fun b o hc e n => u.free b o e n hc) (fun b o hc e => u.there b o e hc) u.tups u.frzs u.tbls (fun m' hm => by
    obtain ⟨o', es', ep', ho', r'⟩ := hm
    rw [ho] at ho'; cases ho'
    exact ⟨_, es', ep', hL, r'⟩) hok hg ht
theorem Inv.turned {t' : Nat} {it : Addr} (I : Inv X pins σ H s) (k : ∀ b o, b ≠ it → s.heap.get? b = some o → h'.get? b = some o) (hn : H it = none) (hL : it ≠ X.env.locals)
    (h1 : it ∈ X.ex ∨ X.s₀.heap.objs.size ≤ it) (h2 : ∀ x c, X.env.cells.lookup x = some c → c ≠ it) (h3 : ∀ p ∈ X.pn ++ pins, p.1 ≠ it) (ht : 0 < t' := by first | exact Nat.succ_pos _ | assumption | exact Inv.tk (by assumption) | lia) : Inv X pins σ H { s with heap := h', toks := t' } := by
  have nit : ∀ b u, H b = some u → b ≠ it := fun b u e z => by rw [z, hn] at e; cases e
  refine I.step (g' := s.gens) (d' := s.drawn) (ch := [it]) (fun b hb => ?_) (fun b o _ _ hc e _ => k b o (fun z => hc (by simp [z])) e) (fun b o _ _ hc e _ => ⟨o.slots, k b o (fun z => hc (by simp [z])) e⟩) (fun _ _ _ _ n => n)
    (fun b o hc e => ⟨o, k b o (fun z => hc (by simp [z])) e⟩) (fun _ _ e => e) (fun _ _ _ e => e) (fun b ps e => ⟨#[], by rw [e]; simp⟩) (fun m hm => ?_) (fun b u e => ?_) I.bare ht
  · have e : b = it := by simpa using hb
    subst e
    exact ⟨h1, hL, h2, h3⟩
  · obtain ⟨o, es, ep, ho, r⟩ := hm
    exact ⟨o, es, ep, k _ o (Ne.symm hL) ho, r⟩
  · refine (I.hok b u e).stay (fun c v hc q => k c v ?_ q) (fun _ q => q) fun _ _ q => q
    rcases hc with z | z
    · rw [z]; exact nit b u e
    · exact nit c _ z
theorem Inv.tok (I : Inv X pins σ H s) (t : Nat) (ht : 0 < t := by first | exact Nat.succ_pos _ | assumption | exact Inv.tk (by assumption) | lia) : Inv X pins σ H { s with toks := t } := I.un (h' := s.heap) (t' := t) Un.refl I.hok ht
theorem Inv.kept {t' : Nat} (I : Inv X pins σ H s) (k : ∀ b u, s.heap.get? b = some u → h'.get? b = some u) (ht : 0 < t' := by first | exact Nat.succ_pos _ | assumption | exact Inv.tk (by assumption) | lia) : Inv X pins σ H { s with heap := h', toks := t' } := I.un (Un.kept k) (I.hok.kept k) ht
theorem Inv.laid {a : Addr} {o : HO} {t' : Nat} (I : Inv X pins σ H s) (k : ∀ b u, s.heap.get? b = some u → h'.get? b = some u) (hp : s.heap.objs.size ≤ a) (new : ObjOk X.prog X.w (upd H a o) h' a o) (ht : 0 < t' := by first | exact Nat.succ_pos _ | assumption | exact Inv.tk (by assumption) | lia) :
    Inv X pins σ (upd H a o) { s with heap := h', toks := t' } := I.un (Un.laid k hp (I.hok.fresh hp)) (I.hok.laid k hp new) ht
theorem Inv.write {x e : Addr} {o : HO} {t' : Nat} (I : Inv X pins σ H s) (mu : Mut (H x)) (he : e = x ∨ H e = some (.own x)) (k : ∀ b u, b ≠ e → s.heap.get? b = some u → h'.get? b = some u) (heo : ∃ u, h'.get? e = some u)
    (new : ObjOk X.prog X.w (upd H x o) h' x o) (ht : 0 < t' := by first | exact Nat.succ_pos _ | assumption | exact Inv.tk (by assumption) | lia) : Inv X pins σ (upd H x o) { s with heap := h', toks := t' } := I.un (Un.write mu he k heo) (I.hok.write mu he k heo new) ht
theorem Inv.weak {σ' : List (Option V)} (I : Inv X pins σ H s) (hl : σ'.length = σ.length) (w : ∀ (i : Nat) v, σ'[i]? = some (some v) → σ[i]? = some (some v)) : Inv X pins σ' H s :=
  ⟨I.ok, I.os, I.bare, I.base, let ⟨m, hn, hl'⟩ := I.loc; ⟨m, hn, fun i x v e1 e2 e3 => hl' i x v e1 (w i v e2) e3⟩, I.cell, I.free, I.freeC, I.pin, I.hok, hl.trans I.len, I.tk⟩
theorem Inv.pins_of {pins' : List (Addr × Obj)} (I : Inv X pins σ H s) (h : ∀ p ∈ pins', s.heap.get? p.1 = some p.2 ∧ H p.1 = none ∧ p.1 ≠ X.env.locals ∧ p.1 ∉ X.fs ∧ ∀ v, p.2.data ≠ .cell v) : Inv X pins' σ H s :=
  ⟨I.ok, I.os, I.bare, I.base, I.loc, I.cell, I.free, I.freeC, fun p hp => (List.mem_append.mp hp).elim (fun z => I.pin p (List.mem_append_left _ z)) (h p), I.hok, I.len, I.tk⟩
theorem nodup_ix {N : List Str} (hN : N.Nodup) {i j : Nat} {x : Str} (a : N[i]? = some x) (b : N[j]? = some x) : i = j := by
  obtain ⟨h1, e1⟩ := List.getElem?_eq_some_iff.mp a
  obtain ⟨h2, e2⟩ := List.getElem?_eq_some_iff.mp b
  exact (List.getElem_inj hN).mp (e1.trans e2.symm)
theorem store_ok2 {M : Model} {A : Around} {E : Value → Shared → Prop} {i : Nat} {x : Str} {v : V} {u : Value} {Q : Unit → Shared → Prop} (I : Inv X pins σ H s) (hN : X.N.Nodup) (hi : X.N[i]? = some x) (hx : Loc X.env.scope x) (r : RelV v u)
    (h : ∀ s', Inv X pins (σ.set i (some v)) H s' → (∃ a, Heap.SameBut a s.heap s'.heap ∧ (a = X.env.locals ∨ X.env.cells.lookup x = some a)) → Q () s') (hf : X.fn x = true ∨ X.env.scope.names.lookup x = some .local := by first | exact .inl rfl | exact .inr rfl | assumption) : wpAny M A (storeName X.env x u) Q E s := by
  obtain ⟨m, hn, hl⟩ := id I.loc
  have hcls : (X.env.scope.kind == .class || (X.env.scope.kind == .module && X.env.locals != X.env.globals)) = false := by rw [I.ok.kind]; rfl
  have hiσ : i < σ.length := by rw [I.len]; exact (List.getElem?_eq_some_iff.mp hi).1
  have cne := I.cne
  have tracked : ∀ {a : Addr} {h' : Heap}, (∃ o, s.heap.get? a = some o ∧ H a = none) → Heap.SameBut a s.heap h' → HOk X.prog X.w H h' := fun {a h'} ha hs b ob e => by
    obtain ⟨_, _, hfree⟩ := ha
    refine (I.hok b ob e).stay (fun c w' hc q => (hs.2 c ?_).trans q) (fun _ q => q) fun _ _ q => q
    rintro rfl
    rcases hc with rfl | hc
    · rw [hfree] at e; cases e
    · rw [hfree] at hc; cases hc
  rcases hx with hk | hk
  · refine wpAny_storeName_local hk hn (fun h' hn' hs => ?_) hcls
    obtain ⟨oL, _, _, hoL, _⟩ := id hn
    refine h _ ⟨I.ok, I.os, I.bare, ⟨fun b o e n hb hx => ?_, fun b o e n hb hx => ?_, I.base.free, fun b o e hx => ?_, I.base.tups, I.base.frzs, I.base.tbls⟩, ⟨_, hn', fun j y v' e1 e2 e3 => ?_⟩, fun y c e => ?_, I.free, I.freeC, fun p hp => ?_, tracked ⟨oL, hoL, I.free⟩ hs, by simpa using I.len, Nat.succ_pos _⟩ ⟨_, hs, .inl rfl⟩
    · exact (hs.2 b (Nat.ne_of_lt (Nat.lt_of_lt_of_le (Heap.lt_size e) I.ok.above))).trans (I.base.keep b o e n hb hx)
    · obtain ⟨sl, e1⟩ := I.base.slot b o e n hb hx
      exact ⟨sl, (hs.2 b (Nat.ne_of_lt (Nat.lt_of_lt_of_le (Heap.lt_size e) I.ok.above))).trans e1⟩
    · obtain ⟨o', e1⟩ := I.base.there b o e hx
      exact ⟨o', (hs.2 b (Nat.ne_of_lt (Nat.lt_of_lt_of_le (Heap.lt_size e) I.ok.above))).trans e1⟩
    · by_cases hj : j = i
      · subst hj
        rw [hi] at e1; cases e1
        rw [List.getElem?_set_self hiσ] at e2
        cases e2
        exact ⟨u, r, .inl ⟨hk, by simp⟩⟩
      · rw [List.getElem?_set_ne (Ne.symm hj)] at e2
        obtain ⟨u', r', q⟩ := hl j y v' e1 e2 e3
        refine ⟨u', r', ?_⟩
        rcases q with ⟨k, e⟩ | ⟨k, c, e, z⟩
        · refine .inl ⟨k, ?_⟩
          have : y ≠ x := fun e => hj (nodup_ix hN e1 (e ▸ hi))
          simp [this, e]
        · exact .inr ⟨k, c, e, z.sameBut hs (cne y c e)⟩
    · obtain ⟨w', z⟩ := I.cell y c e
      exact ⟨w', z.sameBut hs (cne y c e)⟩
    · obtain ⟨e, n, ne, nf, d⟩ := I.pin p hp
      exact ⟨(hs.2 p.1 ne).trans e, n, ne, nf, d⟩
  · have hfn : X.fn x = true := by
      rcases hf with z | z
      · exact z
      · rw [z] at hk; cases hk
    obtain ⟨c, hc⟩ := I.ok.has x (.inl hk)
    obtain ⟨w', z⟩ := I.cell x c hc
    refine wpAny_storeName_cell I.ok.kind hk hc z (fun h' hc' hs => ?_)
    obtain ⟨oc, hoc, hocd⟩ := id z
    refine h { s with heap := h' } ⟨I.ok, I.os, I.bare, ⟨fun b o e n hb hx => ?_, fun b o e n hb hx => ?_, I.base.free, fun b o e hx => ?_, I.base.tups, I.base.frzs, I.base.tbls⟩, ⟨m, hn.sameBut hs (Ne.symm (cne x c hc)), fun j y v' e1 e2 e3 => ?_⟩, fun y c' e => ?_, I.free, I.freeC, fun p hp => ?_, tracked ⟨oc, hoc, I.freeC x c hc⟩ hs, by simpa using I.len, I.tk⟩ ⟨c, hs, .inr hc⟩
    · exact (hs.2 b (Nat.ne_of_lt (Nat.lt_of_lt_of_le (Heap.lt_size e) (I.ok.cab x c hfn hc)))).trans (I.base.keep b o e n hb hx)
    · obtain ⟨sl, e1⟩ := I.base.slot b o e n hb hx
      exact ⟨sl, (hs.2 b (Nat.ne_of_lt (Nat.lt_of_lt_of_le (Heap.lt_size e) (I.ok.cab x c hfn hc)))).trans e1⟩
    · obtain ⟨o', e1⟩ := I.base.there b o e hx
      exact ⟨o', (hs.2 b (Nat.ne_of_lt (Nat.lt_of_lt_of_le (Heap.lt_size e) (I.ok.cab x c hfn hc)))).trans e1⟩
    · by_cases hj : j = i
      · subst hj
        rw [hi] at e1; cases e1
        rw [List.getElem?_set_self hiσ] at e2
        cases e2
        exact ⟨u, r, .inr ⟨.inl hk, c, hc, hc'⟩⟩
      · rw [List.getElem?_set_ne (Ne.symm hj)] at e2
        obtain ⟨u', r', q⟩ := hl j y v' e1 e2 e3
        refine ⟨u', r', ?_⟩
        rcases q with q | ⟨k, c', e, z'⟩
        · exact .inl q
        · refine .inr ⟨k, c', e, z'.sameBut hs ?_⟩
          rintro rfl
          exact hj (nodup_ix hN e1 (I.ok.inj _ _ _ e hc ▸ hi))
    · by_cases hcc : c' = c
      · subst hcc; exact ⟨_, hc'⟩
      · obtain ⟨w2, z2⟩ := I.cell y c' e
        exact ⟨w2, z2.sameBut hs hcc⟩
    · obtain ⟨e, n, ne, nf, d⟩ := I.pin p hp
      refine ⟨(hs.2 p.1 ?_).trans e, n, ne, nf, d⟩
      intro q
      rw [q, hoc] at e
      have q' : oc = p.2 := Option.some.inj e
      exact d w' (by rw [← q']; exact hocd)
theorem store_ok {M : Model} {A : Around} {E : Value → Shared → Prop} {i : Nat} {x : Str} {v : V} {u : Value} {Q : Unit → Shared → Prop} (I : Inv X pins σ H s) (hN : X.N.Nodup) (hi : X.N[i]? = some x) (hx : Loc X.env.scope x) (r : RelV v u)
    (h : ∀ s', Inv X pins (σ.set i (some v)) H s' → Q () s') (hf : X.fn x = true ∨ X.env.scope.names.lookup x = some .local := by first | exact .inl rfl | exact .inr rfl | assumption) : wpAny M A (storeName X.env x u) Q E s :=
  store_ok2 I hN hi hx r (fun s' I' _ => h s' I') hf
theorem Inv.call' {s' : Shared} {ch : List Addr} (I : Inv X pins σ H s) (ho : s'.os = s.os) (u : Un (frs X.stack) ch H H' s.heap s'.heap) (hok : HOk X.prog X.w H' s'.heap) (hg : AllBare s'.gens)
    (hch : ∀ b ∈ ch, (b ∈ X.ex ∨ X.s₀.heap.objs.size ≤ b) ∧ b ≠ X.env.locals ∧ (∀ x c, X.env.cells.lookup x = some c → c ≠ b) ∧ ∀ p ∈ X.pn ++ pins, p.1 ≠ b) (ht : 0 < s'.toks) : Inv X pins σ H' s' := by
  obtain ⟨h', g', d', t', o'⟩ := s'
  have e : o' = s.os := ho
  subst e
  exact I.call (g' := g') (t' := t') (d' := d') u hok hg hch ht
end
abbrev XK := Value → Option Addr → Hp → Prop
abbrev St := List (Option V)
abbrev VK := V → Hp → Prop
abbrev TE := St → Hp → VK → Prop
abbrev TT := St → Hp → (Bool → Hp → Prop) → Prop
abbrev TA := St → Hp → (List V → Hp → Prop) → Prop
structure Ends where
  nx : St → Hp → Prop
  rt : VK
  bk : St → Hp → Prop := fun _ _ => False
  ct : St → Hp → Prop := fun _ _ => False
abbrev TS := Ends → St → Hp → Prop
def EP (X : Cx) (pins : List (Addr × Obj)) (σ : St) (Q : VK) (u : Value) (s' : Shared) : Prop := ∃ v H', Inv X pins σ H' s' ∧ RelV v u ∧ Q v H'
def TP (X : Cx) (pins : List (Addr × Obj)) (σ : St) (Q : Bool → Hp → Prop) (b : Bool) (s' : Shared) : Prop := ∃ H', Inv X pins σ H' s' ∧ Q b H'
def AP (X : Cx) (pins : List (Addr × Obj)) (σ : St) (Q : List V → Hp → Prop) (us : List Value) (s' : Shared) : Prop := ∃ vs H', Inv X pins σ H' s' ∧ Vals vs us ∧ Q vs H'
def SP (X : Cx) (pins : List (Addr × Obj)) (D : Ends) (f : Flow) (s' : Shared) : Prop :=
  match f with
  | .next => ∃ σ' H', Inv X pins σ' H' s' ∧ D.nx σ' H'
  | .brk => ∃ σ' H', Inv X pins σ' H' s' ∧ D.bk σ' H'
  | .cont => ∃ σ' H', Inv X pins σ' H' s' ∧ D.ct σ' H'
  | .ret u => ∃ v σ' H', Inv X pins σ' H' s' ∧ RelV v u ∧ D.rt v H'
def PE (X : Cx) (e : Expr) (t : TE) : Prop :=
  ∀ (pins : List (Addr × Obj)) (s : Shared) (σ : St) (H : Hp) (Q : VK), Inv X pins σ H s → t σ H Q → wpAny (model X.prog X.w) X.A (eval e X.env) (EP X pins σ Q) X.xe s
def PT (X : Cx) (e : Expr) (t : TT) : Prop :=
  ∀ (pins : List (Addr × Obj)) (s : Shared) (σ : St) (H : Hp) (Q : Bool → Hp → Prop), Inv X pins σ H s → t σ H Q → wpAny (model X.prog X.w) X.A (isTrue e X.env (eval e X.env)) (TP X pins σ Q) X.xe s
def PA (X : Cx) (es : List Expr) (t : TA) : Prop :=
  ∀ (pos : Pos) (pins : List (Addr × Obj)) (s : Shared) (σ : St) (H : Hp) (Q : List V → Hp → Prop), Inv X pins σ H s → t σ H Q → wpAny (model X.prog X.w) X.A (spliced (backTo pos (starEach es X.env))) (AP X pins σ Q) X.xe s
def PS (X : Cx) (st : Stmt) (t : TS) : Prop :=
  ∀ (pins : List (Addr × Obj)) (s : Shared) (σ : St) (H : Hp) (D : Ends), Inv X pins σ H s → t D σ H → wpAny (model X.prog X.w) X.A (exec st X.env) (SP X pins D) X.xe s
def PSs (X : Cx) (st : List Stmt) (t : TS) : Prop :=
  ∀ (pins : List (Addr × Obj)) (s : Shared) (σ : St) (H : Hp) (D : Ends), Inv X pins σ H s → t D σ H → wpAny (model X.prog X.w) X.A (execs st X.env) (SP X pins D) X.xe s
theorem thn {α : Type} {t : Sem α} {Q Q' : α → Shared → Prop} {M : Model} {A : Around} {E : Value → Shared → Prop} {s : Shared} (h : wpAny M A t Q E s) (hQ : ∀ a s, Q a s → Q' a s) : wpAny M A t Q' E s := wpAny_mono h hQ fun _ _ x => x
theorem thn5 {α β γ : Type} {t : Sem α} {a b c : α → Shared → β → γ → Prop} {Q : α → Shared → Prop} {M : Model} {A : Around} {E : Value → Shared → Prop} {s : Shared} (h : wpAny M A t (fun v s => ∃ x y, a v s x y ∧ b v s x y ∧ c v s x y) E s) (q : ∀ v s x y, a v s x y → b v s x y → c v s x y → Q v s) : wpAny M A t Q E s := thn h fun v s z => by
  obtain ⟨x, y, i, j, k⟩ := z
  exact q v s x y i j k
end L2
namespace L2
open PySem PySem.Spec PyProof.Rows
section
variable {X : Cx}
def tVar (i : Nat) : TE := fun σ H Q => ∃ v, σ[i]? = some (some v) ∧ Q v H
def tC (v : V) : TE := fun _ H Q => Q v H
theorem pe_var {i : Nat} {x : Str} {pos : Pos} (hN : X.N[i]? = some x) (hv : Vis X.env.scope x) (hd : (x == ("__debug__" : Str)) = false := by decide) (hcd : (x == ("__classdict__" : Str)) = false := by decide) : PE X (.Name x pos) (tVar i) := by
  intro pins s σ H Q I h
  obtain ⟨v, e, h⟩ := h
  obtain ⟨m, hn, hl⟩ := I.loc
  obtain ⟨u, r, l⟩ := hl i x v hN e hv
  have fin : EP X pins σ Q u s := ⟨v, H, I, r, h⟩
  rcases l with ⟨hk, hm⟩ | ⟨hk, c, hc, hcell⟩
  · exact wpAny_Name (wpAny_loadName_local I.ok.kind hk hn hm fin) hd
  · rcases hk with hk | hk
    · exact wpAny_Name (wpAny_loadName_cell I.ok.kind hk hc hcell fin) hd
    · exact wpAny_Name (wpAny_loadName_free I.ok.kind hk hc hcell fin hcd) hd
theorem pe_int {i j pos} : PE X (.Constant (.int i) j pos) (tC (.int i)) := fun _ _ _ H _ I h => wpAny_Constant_int ⟨.int i, H, I.tok _, ⟨_, rfl⟩, h⟩
theorem pe_bl {b j pos} : PE X (.Constant (.bool b) j pos) (tC (.bl b)) := fun _ _ _ H _ I h => Constant_bool ⟨.bl b, H, I, rfl, h⟩
theorem pe_str {x j pos} : PE X (.Constant (.str x) j pos) (tC (.str x)) := fun _ _ _ H _ I h => Calls.Constant_str ⟨.str x, H, I.tok _, ⟨_, rfl⟩, h⟩
def Gl (X : Cx) (x : Str) : Prop := X.env.kindOf x = some .globalImplicit
theorem ld_glob {E : Value → Shared → Prop} {pins : List (Addr × Obj)} {s : Shared} {σ : St} {H : Hp} {x : Str} {u : Value} {pos : Pos} {Q : Value → Shared → Prop} (I : Inv X pins σ H s) (hg : Gl X x) (hm : X.mg x = some u) (h : Q u s)
    (hd : (x == ("__debug__" : Str)) = false := by decide) : wpAny (model X.prog X.w) X.A (eval (.Name x pos) X.env) Q E s :=
  Calls.Name_function_global I.ok.kind hg (Calls.loadGlobal_global (by rw [I.ok.glob]; exact I.mod.glob.keeps I.bk) hm h) hd
theorem ld_blt {E : Value → Shared → Prop} {pins : List (Addr × Obj)} {s : Shared} {σ : St} {H : Hp} {x : Str} {u : Value} {pos : Pos} {Q : Value → Shared → Prop} (I : Inv X pins σ H s) (hg : Gl X x) (hm : X.mg x = none) (hv : bootBuiltins x = some u) (h : Q u s)
    (hn : x ≠ "__name__" := by decide) (hd : (x == ("__debug__" : Str)) = false := by decide) : wpAny (model X.prog X.w) X.A (eval (.Name x pos) X.env) Q E s := by
  obtain ⟨mb, h1, h2⟩ := I.mod.blt
  exact Calls.Name_function_global I.ok.kind hg (Calls.loadGlobal_builtin (by rw [I.ok.glob]; exact I.mod.glob.keeps I.bk) hm (by rw [I.ok.blt]; exact h1.keeps I.bk) ((h2 x hn).trans hv) h) hd
theorem pe_glob {x : Str} {v : V} {u : Value} {pos : Pos} (hg : Gl X x) (hm : X.mg x = some u) (r : RelV v u) (hd : (x == ("__debug__" : Str)) = false := by decide) : PE X (.Name x pos) (tC v) :=
  fun _ _ _ H _ I h => ld_glob I hg hm ⟨v, H, I, r, h⟩ hd
theorem pe_bltn {x : Str} {v : V} {u : Value} {pos : Pos} (hg : Gl X x) (hm : X.mg x = none) (hv : bootBuiltins x = some u) (r : RelV v u) (hn : x ≠ "__name__" := by decide) (hd : (x == ("__debug__" : Str)) = false := by decide) : PE X (.Name x pos) (tC v) :=
  fun _ _ _ H _ I h => ld_blt I hg hm hv ⟨v, H, I, r, h⟩ hn hd
variable {a b : Expr} {ta tb : TE} {pos : Pos}
def PC (X : Cx) (op : CmpOp) (a b : Expr) (t : TE) : Prop :=
  ∀ (pins : List (Addr × Obj)) (s : Shared) (σ : St) (H : Hp) (Q : VK), Inv X pins σ H s → t σ H Q →
    wpAny (model X.prog X.w) X.A (eval a X.env) (fun v s₁ => wpAny (model X.prog X.w) X.A (eval b X.env) (fun u s₂ => wpAny (model X.prog X.w) X.A (compareOp op v u) (EP X pins σ Q) X.xe s₂) X.xe s₁) X.xe s
variable {tA tB' : TT} {rest : List Expr}
end
end L2
namespace L2
open PySem PySem.Spec PyProof.Rows
def SqL (K : PySem.W.Frag) (H : Hp) (a : Addr) (xs : List V) : Prop :=
  Rd H a (.lst xs) ∨
    ∃ (o : Obj) (its : Array Value) (n : Nat), K.lookup a = some o ∧ o.cls = .type "list" ∧ o.dict = none ∧ o.data = .seq its n ∧ its.size ≤ sizeLine ∧ Vals xs its.toList
def SqT (K : PySem.W.Frag) (H : Hp) (a : Addr) (xs : List V) : Prop :=
  Rd H a (.tup xs) ∨
    ∃ (o : Obj) (its : Array Value) (n : Nat), K.lookup a = some o ∧ o.cls = .type "tuple" ∧ o.data = .seq its n ∧ its.size ≤ sizeLine ∧ Vals xs its.toList
section
variable {X : Cx} {pins : List (Addr × Obj)} {σ : St} {H : Hp} {s : Shared} {a : Addr} {xs ys : List V}
theorem SqL.of {K : PySem.W.Frag} (h : H a = some (.lst xs)) : SqL K H a xs := .inl (.inl h)
theorem SqT.of {K : PySem.W.Frag} (h : H a = some (.tup xs)) : SqT K H a xs := .inl (.inl h)
theorem Inv.list (I : Inv X pins σ H s) (h : SqL X.K H a xs) : ∃ its : List Value, Vals xs its ∧ PlainL s.heap a its.toArray ∧ xs.length ≤ sizeLine := by
  rcases h with h | ⟨o, its, n, hk, hc, hd, hs, hz, r⟩
  · obtain ⟨z, its, n, r, e⟩ := h.ok I.hok
    exact ⟨its, r, ⟨_, n, e, rfl, rfl, rfl⟩, z⟩
  · refine ⟨its.toList, r, ⟨o, n, I.kIn a o hk, hc, hd, by simpa using hs⟩, ?_⟩
    have e := r.length
    simp only [Array.length_toList] at e
    lia
theorem Inv.tuple (I : Inv X pins σ H s) (h : SqT X.K H a xs) : ∃ its : List Value, Vals xs its ∧ IsTup s.heap a its.toArray ∧ xs.length ≤ sizeLine := by
  rcases h with h | ⟨o, its, n, hk, hc, hs, hz, r⟩
  · obtain ⟨z, its, r, p⟩ := h.ok I.hok
    exact ⟨its, r, p, z⟩
  · refine ⟨its.toList, r, ⟨o, I.kIn a o hk, hc, n, by simpa using hs⟩, ?_⟩
    have e := r.length
    simp only [Array.length_toList] at e
    lia
end
noncomputable abbrev Cx.wish (X : Cx) (E : Value → Shared → Prop) : Cx := { X with xe := E }
abbrev Cx.nox (X : Cx) : Cx := X.wish fun _ _ => False
theorem Cx.Ok.wish {X : Cx} (ok : X.Ok) (E : Value → Shared → Prop) : (X.wish E).Ok :=
  ⟨ok.mod, ok.kind, ok.glob, ok.blt, ok.above, ok.inj, ok.has, ok.cab, ok.hd, ok.frames, ok.stk, ok.exf, ok.bs, ok.bsz, ok.noex, ok.exfs, ok.funs, ok.frf⟩
theorem Cx.Ok.unwish {X : Cx} {E : Value → Shared → Prop} (ok : (X.wish E).Ok) : X.Ok :=
  ⟨ok.mod, ok.kind, ok.glob, ok.blt, ok.above, ok.inj, ok.has, ok.cab, ok.hd, ok.frames, ok.stk, ok.exf, ok.bs, ok.bsz, ok.noex, ok.exfs, ok.funs, ok.frf⟩
section
variable {X : Cx} {pins : List (Addr × Obj)} {σ : St} {H : Hp} {s : Shared} {E : Value → Shared → Prop}
theorem Inv.wish (I : Inv X pins σ H s) (E : Value → Shared → Prop) : Inv (X.wish E) pins σ H s := ⟨I.ok.wish E, I.os, I.bare, I.base, I.loc, I.cell, I.free, I.freeC, I.pin, I.hok, I.len, I.tk⟩
theorem Inv.unwish (I : Inv (X.wish E) pins σ H s) : Inv X pins σ H s := ⟨I.ok.unwish, I.os, I.bare, I.base, I.loc, I.cell, I.free, I.freeC, I.pin, I.hok, I.len, I.tk⟩
theorem SP.unwish {D : Ends} {f : Flow} {s' : Shared} (h : SP (X.wish E) pins D f s') : SP X pins D f s' := by
  cases f with
  | next => obtain ⟨σ', H', I, q⟩ := h; exact ⟨σ', H', I.unwish, q⟩
  | brk => obtain ⟨σ', H', I, q⟩ := h; exact ⟨σ', H', I.unwish, q⟩
  | cont => obtain ⟨σ', H', I, q⟩ := h; exact ⟨σ', H', I.unwish, q⟩
  | ret u => obtain ⟨v, σ', H', I, r, q⟩ := h; exact ⟨v, σ', H', I.unwish, r, q⟩
theorem PSs.nox {st : List Stmt} {t : TS} (h : PSs X.nox st t) : PSs X st t := fun pins s σ H D I hw =>
  wpAny_mono (h pins s σ H D (I.wish _) hw) (fun _ _ q => q.unwish) fun _ _ z => False.elim z
end
section
variable {X : Cx} {st : Stmt} {rest : List Stmt} {t u : TS} {e : Expr} {te : TE} {pos : Pos}
def tNext : TS := fun D σ H => D.nx σ H
def tSeq (t u : TS) : TS := fun D σ H => t { D with nx := u D } σ H
theorem pss_nil : PSs X [] tNext := fun _ _ σ H _ I h => wpAny_execs_nil ⟨σ, H, I, h⟩
theorem pss_cons (h1 : PS X st t) (h2 : PSs X rest u) : PSs X (st :: rest) (tSeq t u) := by
  intro pins s σ H D I h
  refine wpAny_execs_cons (thn (h1 pins s σ H { D with nx := u D } I h) fun f s1 q => ?_)
  cases f with
  | next =>
    obtain ⟨σ', H', I', q⟩ := q
    exact h2 pins s1 σ' H' D I' q
  | ret v => exact q
  | brk => exact q
  | cont => exact q
theorem pss_one (h1 : PS X st t) : PSs X [st] t := by
  intro pins s σ H D I h
  refine wpAny_execs_cons (thn (h1 pins s σ H D I h) fun f s1 q => ?_)
  cases f with
  | next => exact wpAny_execs_nil q
  | ret v => exact q
  | brk => exact q
  | cont => exact q
def tRet (te : TE) : TS := fun D σ H => te σ H D.rt
theorem ps_ret (he : PE X e te) : PS X (.Return (some e) pos) (tRet te) := by
  intro pins s σ H D I h
  exact wpAny_Return_some (thn5 (he pins s σ H _ I h) fun v s1 x H1 I1 r1 q1 => ⟨x, σ, H1, I1, r1, q1⟩)
def tIfS (c : TT) (t u : TS) : TS := fun D σ H => c σ H fun b H1 => if b = true then t D σ H1 else u D σ H1
theorem ps_if {c : Expr} {a b : List Stmt} {tc : TT} (hc : PT X c tc) (ha : PSs X a t) (hb : PSs X b u) : PS X (.If c a b pos) (tIfS tc t u) := by
  intro pins s σ H D I h
  refine wpAny_If (thn (hc pins s σ H _ I h) fun d s1 ⟨H1, I1, q1⟩ => ?_)
  cases d with
  | true => exact ha pins s1 σ H1 D I1 q1
  | false => exact hb pins s1 σ H1 D I1 q1
end
abbrev TG := V → St → Hp → (St → Hp → Prop) → Prop
def PG (X : Cx) (target : Expr) (t : TG) : Prop :=
  ∀ (pins : List (Addr × Obj)) (s : Shared) (σ : St) (H : Hp) (v : V) (u : Value) (Q : St → Hp → Prop), Inv X pins σ H s → RelV v u → t v σ H Q →
    wpAny (model X.prog X.w) X.A (assign target X.env u) (fun _ s' => ∃ σ' H', Inv X pins σ' H' s' ∧ Q σ' H') X.xe s
section
variable {X : Cx} {pos : Pos}
def gName (i : Nat) : TG := fun v σ H Q => Q (σ.set i (some v)) H
theorem pg_name {i : Nat} {x : Str} (hN : X.N.Nodup) (hi : X.N[i]? = some x) (hx : Loc X.env.scope x) (hf : X.fn x = true ∨ X.env.scope.names.lookup x = some .local := by first | exact .inl rfl | exact .inr rfl | assumption) : PG X (.Name x pos) (gName i) := by
  intro pins s σ H v u Q I r h
  exact wpAny_assign_Name (store_ok I hN hi hx r (fun s' I' => ⟨_, H, I', h⟩) hf)
def tAsg (te : TE) (g : TG) : TS := fun D σ H => te σ H fun x H1 => g x σ H1 D.nx
theorem ps_set {i : Nat} {x : Str} {e : Expr} {te : TE} {pos' : Pos} (hN : X.N.Nodup) (hi : X.N[i]? = some x) (hx : Loc X.env.scope x) (he : PE X e te) (hs : swapsWith e (some (.Name x pos')) pos.line X.env = pure false := by rfl) (hf : X.fn x = true ∨ X.env.scope.names.lookup x = some .local := by first | exact .inl rfl | exact .inr rfl | assumption) :
    PS X (.Assign [.Name x pos'] e pos) (tAsg te (gName i)) := by
  intro pins s σ H D I h
  refine wpAny_Assign_Name (thn5 (he pins s σ H _ I h) fun v s1 y H1 I1 r1 q1 => ?_) hs
  exact store_ok I1 hN hi hx r1 (fun s2 I2 => ⟨_, H1, I2, q1⟩) hf
def tPar (i j : Nat) (ta : TA) : TS := fun D σ H => ta σ H fun vs H1 => ∃ v w, vs = [v, w] ∧ D.nx ((σ.set i (some v)).set j (some w)) H1
theorem ps_par {i j : Nat} {x y : Str} {a b : Expr} {ta : TA} {px py pt : Pos} {kt k2 pt2} (hc : X.calm = true) (hN : X.N.Nodup) (hi : X.N[i]? = some x) (hj : X.N[j]? = some y) (hij : i ≠ j)
    (hx : X.env.scope.names.lookup x = some .local) (hy : X.env.scope.names.lookup y = some .local) (ha : PA X [a, b] ta)
    (hw : swappedStores [.Tuple [.Name x px, .Name y py] kt pt] (.Tuple [a, b] k2 pt2) X.env = pure (some [x, y]))
    (hs : swapsWithSole [.Tuple [.Name x px, .Name y py] kt pt] (.Tuple [a, b] k2 pt2) pos.line X.env = pure false := by rfl) :
    PS X (.Assign [.Tuple [.Name x px, .Name y py] kt pt] (.Tuple [a, b] k2 pt2) pos) (tPar i j ta) := by
  intro pins s σ H D I h
  rw [exec_Assign_arm]
  refine wpAny_bind (wpAny_standAt ?_)
  rw [hs]
  refine wpAny_bind (wpAny_pure ?_)
  rw [if_neg (by decide)]
  refine wpAny_bind (Tuple_ (thn5 (ha _ pins s σ H _ I h) fun us s1 vs H1 I1 r1 q1 => ?_))
  obtain ⟨v, w, e1, q1⟩ := q1
  subst e1
  obtain ⟨u1, u2, rfl, rv, rw'⟩ : ∃ u1 u2, us = [u1, u2] ∧ RelV v u1 ∧ RelV w u2 := by
    cases r1 with
    | cons p q =>
      cases q with
      | cons p' q' =>
        cases q'
        exact ⟨_, _, rfl, p, p'⟩
  refine wpAny_newObj_type ?_ (by show 2 ≤ sizeLine; decide)
  have I2 : Inv X pins σ H1 { s1 with heap := s1.heap.push { cls := .type "tuple", data := .seq [u1, u2].toArray } } := I1.kept (t' := s1.toks) fun b o e => Heap.get?_push_of_some _ e
  rw [hw]
  refine wpAny_bind (wpAny_pure ?_)
  show wpAny (model X.prog X.w) X.A (do rule "assign.swapped-stores"; let items ← unpackItems (.ref s1.heap.objs.size) 2 none; assignInOrder [fun v => bindName X.env y v, fun v => bindName X.env x v] items.reverse; pure Flow.next) _ _ _
  refine wpAny_bind (wpAny_rule (wpAny_bind (unpackItems_tuple (items := #[u1, u2]) (I.ok.hd hc) (IsTup.new s1.heap _) fun h' hx' => ?_)))
  have I3 := I2.kept (h' := h') (t' := s1.toks) fun b o e => hx' b o (Nat.ne_of_lt (Heap.lt_size e)) e
  show wpAny _ _ (assignInOrder [fun v => bindName X.env y v, fun v => bindName X.env x v] [u2, u1] >>= fun _ => pure Flow.next) _ _ _
  refine wpAny_bind (assignInOrder_cons (wpAny_bindName (store_ok I3 hN hj (.inl hy) rw' (fun s2 I4 => ?_) (.inr hy))))
  refine assignInOrder_cons (wpAny_bindName (store_ok I4 hN hi (.inl hx) rv (fun s3 I5 => assignInOrder_nil (wpAny_pure ?_)) (.inr hx)))
  rw [List.set_comm _ _ (Ne.symm hij)] at I5
  exact ⟨_, H1, I5, q1⟩
end
structure It where
  go : Nat → Hp → Prop
  yld : Nat → Hp → V → Hp → Prop
  stop : Nat → Hp → Prop
def FpOk (X : Cx) (pins : List (Addr × Obj)) (H : Hp) (b : Addr) : Prop :=
  H b = none ∧ b ≠ X.env.locals ∧ b ∉ X.fs ∧ (b ∈ X.ex ∨ X.s₀.heap.objs.size ≤ b) ∧ (∀ x c, X.env.cells.lookup x = some c → c ≠ b) ∧ ∀ p ∈ X.pn ++ pins, p.1 ≠ b
theorem Inv.fpOk {X : Cx} {pins : List (Addr × Obj)} {σ : St} {H H' : Hp} {s : Shared} {b : Addr} (I : Inv X pins σ H s) (hb : s.heap.objs.size ≤ b) (hn : H' b = none) : FpOk X pins H' b := by
  refine ⟨hn, Nat.ne_of_gt (Nat.lt_of_lt_of_le I.lt hb), I.nofs hb, .inr (Nat.le_trans I.sz hb), fun x c e z => ?_, fun p hp z => ?_⟩
  · obtain ⟨v, q⟩ := I.cell x c e
    exact absurd (Nat.lt_of_lt_of_le q.lt (by rw [z]; exact hb)) (Nat.lt_irrefl _)
  · exact absurd (Nat.lt_of_lt_of_le (Heap.lt_size (I.pin p hp).1) (by rw [z]; exact hb)) (Nat.lt_irrefl _)
structure Turn (P : Program) (w : World) (K : PySem.W.Frag) (tg : Expr) (J : It) (fp : List Addr) (it : Addr) (tn : Nat → Heap → Prop) : Prop where
  mem : it ∈ fp
  obj : ∀ i h, tn i h → ∀ b ∈ fp, ∃ o, h.get? b = some o ∧ ∀ v, o.data ≠ .cell v
  keep : ∀ i h h', tn i h → (∀ b ∈ fp, ∀ o, h.get? b = some o → h'.get? b = some o) → tn i h'
  item : ∀ (X : Cx), X.prog = P → X.w = w → X.K = K → X.calm = true → ∀ (i : Nat) (pins : List (Addr × Obj)) (s : Shared) (σ : St) (H : Hp) (E : Value → Shared → Prop), Inv X pins σ H s → (∀ b ∈ fp, FpOk X pins H b) → tn i s.heap → J.go i H →
    wpAny (model P w) X.A (pyNext (.ref it)) (fun r s1 => ∃ u, r = some u ∧
      wpAny (model P w) X.A (letOwnedTupleGo tg (.ref it) u) (fun _ s2 => ∃ x H', Inv X pins σ H' s2 ∧ RelV x u ∧ J.yld i H x H' ∧ tn (i + 1) s2.heap ∧ ∀ b ∈ fp, H' b = none) E s1) E s
  done : ∀ (X : Cx), X.prog = P → X.w = w → X.K = K → X.calm = true → ∀ (i : Nat) (pins : List (Addr × Obj)) (s : Shared) (σ : St) (H : Hp) (E : Value → Shared → Prop), Inv X pins σ H s → (∀ b ∈ fp, FpOk X pins H b) → tn i s.heap → J.stop i H →
    wpAny (model P w) X.A (pyNext (.ref it)) (fun r s1 => r = none ∧ Inv X pins σ H s1) E s
  self : ∀ (A : Around) (i : Nat) (s : Shared) (Q : Value → Shared → Prop) (E : Value → Shared → Prop), tn i s.heap → Q (.ref it) s → wpAny (model P w) A (pyIter (.ref it)) Q E s
abbrev TI := St → Hp → (It → Hp → Prop) → Prop
def PIE (X : Cx) (pins : List (Addr × Obj)) (σ : St) (tg : Expr) (R : It → Hp → Prop) (itv : Value) (s2 : Shared) : Prop :=
  ∃ (it : Addr) (fp : List Addr) (tn : Nat → Heap → Prop) (J : It) (H' : Hp), itv = .ref it ∧ Inv X pins σ H' s2 ∧ Turn X.prog X.w X.K tg J fp it tn ∧ tn 0 s2.heap ∧ (∀ b ∈ fp, FpOk X pins H' b) ∧ R J H'
def PI (X : Cx) (tg iter : Expr) (wi : TI) : Prop :=
  ∀ (pins : List (Addr × Obj)) (s : Shared) (σ : St) (H : Hp) (R : It → Hp → Prop), Inv X pins σ H s → wi σ H R →
    wpAny (model X.prog X.w) X.A (eval iter X.env) (fun v s1 => wpAny (model X.prog X.w) X.A (pyIter v) (PIE X pins σ tg R) X.xe s1) X.xe s
theorem go_of {M : Model} {A : Around} {E : Value → Shared → Prop} {s : Shared} {tg : Expr} {it : Addr} {u : Value} {o : Obj} {n : String} {vs : Array Value} {Q : Unit → Shared → Prop} (ho : s.heap.get? it = some o) (hc : o.cls = .type n) (hd : o.data = .fields vs)
    (hn : ["enumerate", "zip", "dict_itemiterator", "dict_reverseitemiterator", "odict_iterator", "itertools.zip_longest", "itertools.pairwise"].contains n = false) (hQ : Q () s) : wpAny M A (letOwnedTupleGo tg (.ref it) u) Q E s := by
  unfold letOwnedTupleGo
  cases tg <;> first
    | exact wpAny_pure hQ
    | (cases u <;> first
        | exact wpAny_pure hQ
        | (refine wpAny_bind (wpAny_load ho ?_)
           rw [hc, hd]
           show wpAny M A (if (["enumerate", "zip", "dict_itemiterator", "dict_reverseitemiterator", "odict_iterator", "itertools.zip_longest", "itertools.pairwise"].contains n && vs[0]? == some (rawInt _)) = true then _ else _) Q E s
           rw [if_neg (by intro h; rw [hn, Bool.false_and] at h; cases h)]
           exact wpAny_pure hQ))
noncomputable def Itr (lo : Int) (n : Nat) : It := ⟨fun i _ => i < n, fun i H x H' => H' = H ∧ x = .int (lo + i), fun i _ => n ≤ i⟩
theorem turn_range {P : Program} {w : World} {K : PySem.W.Frag} {tg : Expr} (it : Addr) (lo : Int) (n : Nat) : Turn P w K tg (Itr lo n) [it] it (fun i h => IsRangeIter h it (lo + (i : Nat) * 1) ((n : Int) - (i : Nat)) 1) where
  mem := by simp
  obj := fun i h st b hb => by
    have e : b = it := by simpa using hb
    subst e
    exact ⟨_, st, fun v z => by
      have z' : Data.fields _ = Data.cell v := z
      cases z'⟩
  keep := fun i h h' st k => k it (by simp) _ st
  item := by
    intro X hP hw hK hc i pins s σ H E I hf st hg
    subst hP hw hK
    obtain ⟨f0, f1, f2, f3, f4, f5⟩ := hf it (by simp)
    have W := Walks.range (prog := X.prog) (w := X.w) (I.ok.hd hc) it lo 1 n
    refine wpAny_with_toks (n := 1) I.tk (W.item i s _ _ hg st fun v h' tk hv st' kk htk => ?_)
    obtain ⟨t, rfl⟩ := hv
    have I1 : Inv X pins σ H { s with heap := h', toks := tk } := I.turned (fun b o hb e => kk b o (by simpa using hb) e) f0 f1 f3 f4 f5
    refine ⟨_, rfl, go_of (s := { s with heap := h', toks := tk }) (n := "range_iterator") st' rfl rfl (by decide) ⟨.int (lo + i), H, I1, ⟨t, ?_⟩, ⟨rfl, rfl⟩, st', fun b hb => (hf b hb).1⟩⟩
    rw [Int.mul_one]
  done := by
    intro X hP hw hK hc i pins s σ H E I hf st hg
    subst hP hw hK
    obtain ⟨f0, f1, f2, f3, f4, f5⟩ := hf it (by simp)
    exact wpAny_pyNext_range_end (I.ok.hd hc) st (by have : n ≤ i := hg; lia) fun h' eb => ⟨rfl, I.turned (t' := s.toks) (fun b o hb e => eb b o hb e) f0 f1 f3 f4 f5⟩
  self := fun _ _ _ _ _ st h => wpAny_pyIter_rangeiter st h
end L2
namespace L2
open PySem PySem.Spec PyProof.Rows
section
variable {X : Cx} {tg : Expr}
theorem range_it {pins : List (Addr × Obj)} {σ : St} {H : Hp} {s : Shared} {R : It → Hp → Prop} {E : Value → Shared → Prop} {lo hi : Int} {t u v : Tok} {tk : Nat} (I : Inv X pins σ H s) (h1 : -(2 ^ 62) ≤ lo) (h2 : lo < 2 ^ 62) (h3 : -(2 ^ 62) ≤ hi) (h4 : hi < 2 ^ 62)
    (q : R (Itr lo (hi - lo).toNat) H) (htk : 0 < tk := by first | exact Nat.succ_pos _ | assumption | exact Inv.tk (by assumption) | lia) : wpAny (model X.prog X.w) X.A (pyIter (.ref s.heap.objs.size)) (PIE X pins σ tg R) E { s with heap := s.heap.push { cls := .type "range", data := .fields #[.int lo t, .int hi u, .int 1 v] }, toks := tk } := by
  refine wpAny_pyIter_range (IsRange.new ..) (small_one h1 h2 h3 h4) ?_
  have I1 : Inv X pins σ H { s with heap := s.heap.push { cls := .type "range", data := .fields #[.int lo t, .int hi u, .int 1 v] }, toks := tk } := I.kept fun b o e => Heap.get?_push_of_some _ e
  refine ⟨(s.heap.push { cls := .type "range", data := .fields #[.int lo t, .int hi u, .int 1 v] }).objs.size, [(s.heap.push { cls := .type "range", data := .fields #[.int lo t, .int hi u, .int 1 v] }).objs.size], _, _, H, rfl,
    I1.kept (t' := tk) fun b o e => Heap.get?_push_of_some _ e, turn_range _ lo (hi - lo).toNat, ?_, fun b hb => ?_, q⟩
  · have e1 : lo + ((0 : Nat) : Int) * 1 = lo := by simp
    have e2 : (((hi - lo).toNat : Nat) : Int) - ((0 : Nat) : Int) = Builtin.Range.rangeSize lo hi 1 := by rw [rangeSize_one]; split <;> lia
    show IsRangeIter _ _ (lo + ((0 : Nat) : Int) * 1) ((((hi - lo).toNat : Nat) : Int) - ((0 : Nat) : Int)) 1
    rw [e1, e2]
    exact Heap.get?_push_size _ rfl
  · have e : b = (s.heap.push { cls := .type "range", data := .fields #[.int lo t, .int hi u, .int 1 v] }).objs.size := by simpa using hb
    subst e
    exact I1.fpOk (Nat.le_refl _) (I1.hok.fresh (Nat.le_refl _))
def iRng1 (ta : TA) : TI := fun σ H R => ta σ H fun vs H1 => ∃ j : Int, vs = [.int j] ∧ -(2 ^ 62) ≤ j ∧ j < 2 ^ 62 ∧ R (Itr 0 j.toNat) H1
theorem pi_range1 {a : Expr} {ta : TA} {p pos : Pos} (hg : Gl X "range") (hm : X.mg "range" = none) (ha : PA X [a] ta) (hs : starEach [a] X.env = [(false, eval a X.env)] := by rfl) : PI X tg (.Call (.Name "range" p) [a] [] pos) (iRng1 ta) := by
  intro pins s σ H R I h
  refine Call_ (ld_blt I hg hm boot_range (PyProof.Rows.callWith_type1 (thn5 (ha pos pins s σ H _ I h) fun us s1 vs H1 I1 r1 q1 => ?_) hs rfl))
  obtain ⟨j, e, q1, q2, q⟩ := q1
  subst e
  cases r1 with
  | cons r rr =>
    cases rr
    obtain ⟨t, rfl⟩ := r
    exact call_range_1 (range_it I1 (by lia) (by lia) q1 q2 (by simpa using q))
def tFor (wi : TI) (g : TG) (tb : TS) : TS := fun D σ H => wi σ H fun J H1 => ∃ W : Nat → Nat → St → Hp → Prop, (∃ m, W 0 m σ H1) ∧ ∀ i m σ H, W i m σ H →
  (J.stop i H ∧ D.nx σ H) ∨ (J.go i H ∧ ∃ N : St → Hp → Prop, (∀ σ' H', N σ' H' → ∃ m', m' < m ∧ W (i + 1) m' σ' H') ∧ ∀ x H', J.yld i H x H' → g x σ H' fun σ2 H2 => tb { D with nx := N, ct := N, bk := D.nx } σ2 H2)
noncomputable def pinsAt (fp : List Addr) (h : Heap) : List (Addr × Obj) := fp.filterMap fun b => (h.get? b).map fun o => (b, o)
theorem mem_pinsAt {fp : List Addr} {h : Heap} {b : Addr} {o : Obj} (hb : b ∈ fp) (e : h.get? b = some o) : (b, o) ∈ pinsAt fp h := List.mem_filterMap.mpr ⟨b, hb, by rw [e]; rfl⟩
theorem of_pinsAt {fp : List Addr} {h : Heap} {p : Addr × Obj} (hp : p ∈ pinsAt fp h) : p.1 ∈ fp ∧ h.get? p.1 = some p.2 := by
  obtain ⟨b, hb, e⟩ := List.mem_filterMap.mp hp
  cases q : h.get? b with
  | none => rw [q] at e; cases e
  | some o =>
    rw [q] at e
    have e' : (b, o) = p := Option.some.inj e
    subst e'
    exact ⟨hb, q⟩
theorem Inv.pinned {pins : List (Addr × Obj)} {σ : St} {H : Hp} {s : Shared} {fp : List Addr} (I : Inv X pins σ H s) (hf : ∀ b ∈ fp, FpOk X pins H b) (ho : ∀ b ∈ fp, ∃ o, s.heap.get? b = some o ∧ ∀ v, o.data ≠ .cell v) : Inv X (pins ++ pinsAt fp s.heap) σ H s :=
  I.pins_of fun p hp => (List.mem_append.mp hp).elim (fun z => I.pin p (List.mem_append_right _ z)) fun z => by
    obtain ⟨hb, e⟩ := of_pinsAt z
    obtain ⟨f0, f1, f2, _⟩ := hf p.1 hb
    obtain ⟨o, e', d⟩ := ho p.1 hb
    rw [e] at e'; cases e'
    exact ⟨e, f0, f1, f2, d⟩
theorem Inv.unpinned {pins pl : List (Addr × Obj)} {σ : St} {H : Hp} {s : Shared} (I : Inv X (pins ++ pl) σ H s) : Inv X pins σ H s := I.pins_of fun p hp => I.pin p (List.mem_append_right _ (List.mem_append_left _ hp))
theorem ps_for {iter : Expr} {body : List Stmt} {wi : TI} {g : TG} {tb : TS} {pos : Pos} (hp : PassesOwn (model X.prog X.w) X.A X.env X.xe) (hc : X.calm = true) (hi : PI X tg iter wi) (hg : PG X tg g) (hb : PSs X body tb)
    (hs : ∀ x, foldedSetIterable iter X.env x = pure x := by intro _; rfl) : PS X (.For tg iter body [] pos) (tFor wi g tb) := by
  intro pins s σ H D I h
  refine wpAny_For (thn (hi pins s σ H _ I h) fun v s1 h1 => thn h1 fun itv s2 h2 => ?_) hs
  obtain ⟨it, fp, tn, J, H2, e, I2, T, st2, f2, W, ⟨m0, w0⟩, turn⟩ := h2
  subst e
  have stat : ∀ {H' : Hp}, (∀ b ∈ fp, H' b = none) → ∀ b ∈ fp, FpOk X pins H' b := fun hn b hb => ⟨hn b hb, (f2 b hb).2⟩
  refine codeAny_forLoop_any (fun n s' => ∃ i σ' H', Inv X pins σ' H' s' ∧ tn i s'.heap ∧ (∀ b ∈ fp, H' b = none) ∧ W i n σ' H') ?_ m0 ⟨0, σ, H2, I2, st2, fun b hb => (f2 b hb).1, w0⟩
  rintro n s3 ⟨i, σ3, H3, I3, st3, fr3, w3⟩
  rcases turn i n σ3 H3 w3 with ⟨stop, qn⟩ | ⟨go, N, hN, step⟩
  · refine wpAny_passesOwn hp (thn (T.done X rfl rfl rfl hc i pins s3 σ3 H3 X.xe I3 (stat fr3) st3 stop) fun r s4 ⟨hr, I4⟩ => ?_)
    subst hr
    exact wpAny_execs_nil ⟨σ3, H3, I4, qn⟩
  · refine wpAny_passesOwn hp (thn (T.item X rfl rfl rfl hc i pins s3 σ3 H3 X.xe I3 (stat fr3) st3 go) fun r s4 ⟨u, hr, h4⟩ => ?_)
    subst hr
    refine wpAny_passesOwn hp (thn h4 fun _ s5 ⟨x, H5, I5, r5, y5, st5, fr5⟩ => ?_)
    have I5' := I5.pinned (stat fr5) (T.obj _ _ st5)
    refine wpAny_passesOwn hp (thn (hg _ s5 σ3 H5 x u _ I5' r5 (step x H5 y5)) fun _ s6 ⟨σ6, H6, I6, q6⟩ => ?_)
    refine wpAny_passesOwn hp (thn (hb _ s6 σ6 H6 _ I6 q6) fun f s7 q7 => ?_)
    have again : ∀ {σ7 : St} {H7 : Hp}, Inv X (pins ++ pinsAt fp s5.heap) σ7 H7 s7 → N σ7 H7 → ∃ m, m < n ∧ ∃ i σ' H', Inv X pins σ' H' s7 ∧ tn i s7.heap ∧ (∀ b ∈ fp, H' b = none) ∧ W i m σ' H' := fun {σ7 H7} I7 n7 => by
      obtain ⟨m', hm, w7⟩ := hN σ7 H7 n7
      refine ⟨m', hm, i + 1, σ7, H7, I7.unpinned, T.keep _ _ _ st5 fun b hb o e => (I7.pin (b, o) (List.mem_append_right _ (List.mem_append_right _ (mem_pinsAt hb e)))).1, fun b hb => ?_, w7⟩
      obtain ⟨o, e, d⟩ := T.obj _ _ st5 b hb
      exact (I7.pin (b, o) (List.mem_append_right _ (List.mem_append_right _ (mem_pinsAt hb e)))).2.1
    cases f with
    | next => obtain ⟨σ7, H7, I7, n7⟩ := q7; exact again I7 n7
    | cont => obtain ⟨σ7, H7, I7, n7⟩ := q7; exact again I7 n7
    | brk => obtain ⟨σ7, H7, I7, q7⟩ := q7; exact ⟨σ7, H7, I7.unpinned, q7⟩
    | ret v => obtain ⟨x7, σ7, H7, I7, r7, q7⟩ := q7; exact ⟨x7, σ7, H7, I7.unpinned, r7, q7⟩
end
end L2
namespace L2
open PySem PySem.Spec PyProof.Rows
abbrev R2 := V → V → Hp → VK → Prop
def OpR (X : Cx) (f : Value → Value → Sem Value) (r : R2) : Prop :=
  ∀ (pins : List (Addr × Obj)) (s : Shared) (σ : St) (H : Hp) (x y : V) (v u : Value) (Q : VK), Inv X pins σ H s → RelV x v → RelV y u → r x y H Q →
    wpAny (model X.prog X.w) X.A (f v u) (EP X pins σ Q) X.xe s
def CallR (X : Cx) (f : Value) (r : List V → Hp → VK → Prop) : Prop :=
  ∀ (pins : List (Addr × Obj)) (s : Shared) (σ : St) (H : Hp) (xs : List V) (us : List Value) (Q : VK), Inv X pins σ H s → Vals xs us → r xs H Q →
    wpAny (model X.prog X.w) X.A (call f us) (EP X pins σ Q) X.xe s
def tOp (r : R2) (ta tb : TE) : TE := fun σ H Q => ta σ H fun x H1 => tb σ H1 fun y H2 => r x y H2 Q
def rI (C : Int → Int → Prop) (g : Int → Int → V) : R2 := fun x y H Q => ∃ i j, x = .int i ∧ y = .int j ∧ C i j ∧ Q (g i j) H
def rI0 (g : Int → Int → V) : R2 := fun x y H Q => ∃ i j, x = .int i ∧ y = .int j ∧ Q (g i j) H
section
variable {X : Cx} {a b c : Expr} {ta tb tc : TE} {pos : Pos}
theorem binT (ha : PE X a ta) (hb : PE X b tb) {pins : List (Addr × Obj)} {s : Shared} {σ : St} {H : Hp} {R : V → V → Hp → Prop} (I : Inv X pins σ H s)
    (h : ta σ H fun x H1 => tb σ H1 fun y H2 => R x y H2) {Q : Value → Shared → Prop} {f : Value → Value → Sem Value}
    (hf : ∀ v u s2 x y H2, Inv X pins σ H2 s2 → RelV x v → RelV y u → R x y H2 → wpAny (model X.prog X.w) X.A (f v u) Q X.xe s2) :
    wpAny (model X.prog X.w) X.A (eval a X.env) (fun v s₁ => wpAny (model X.prog X.w) X.A (eval b X.env) (fun u s₂ => wpAny (model X.prog X.w) X.A (f v u) Q X.xe s₂) X.xe s₁) X.xe s := by
  refine thn5 (ha pins s σ H _ I h) fun v s1 x H1 I1 r1 q1 => ?_
  refine thn5 (hb pins s1 σ H1 _ I1 q1) fun u s2 y H2 I2 r2 q2 => ?_
  exact hf v u s2 x y H2 I2 r1 r2 q2
theorem pe_op {op : Operator} {r : R2} (ho : OpR X (binaryOp op) r) (ha : PE X a ta) (hb : PE X b tb) : PE X (.BinOp a op b pos) (tOp r ta tb) := by
  intro pins s σ H Q I h
  exact wpAny_BinOp (binT ha hb I h fun v u s2 x y H2 I2 rx ry q => ho pins s2 σ H2 x y v u Q I2 rx ry q)
theorem opI {f : Value → Value → Sem Value} {C : Int → Int → Prop} {g : Int → Int → Int}
    (rule : ∀ (i j : Int) (t u : Tok) (s : Shared) (Q : Value → Shared → Prop) (E : Value → Shared → Prop), C i j → Q (.int (g i j) s.toks) { s with toks := s.toks + 1 } → wpAny (model X.prog X.w) X.A (f (.int i t) (.int j u)) Q E s) :
    OpR X f (rI C fun i j => .int (g i j)) := by
  intro pins s σ H x y v u Q I rx ry h
  obtain ⟨i, j, rfl, rfl, hc, q⟩ := h
  obtain ⟨t, rfl⟩ := rx
  obtain ⟨t', rfl⟩ := ry
  exact rule i j t t' s _ _ hc ⟨.int (g i j), H, I.tok _, ⟨_, rfl⟩, q⟩
theorem opI0 {f : Value → Value → Sem Value} {g : Int → Int → Int}
    (rule : ∀ (i j : Int) (t u : Tok) (s : Shared) (Q : Value → Shared → Prop) (E : Value → Shared → Prop), Q (.int (g i j) s.toks) { s with toks := s.toks + 1 } → wpAny (model X.prog X.w) X.A (f (.int i t) (.int j u)) Q E s) :
    OpR X f (rI0 fun i j => .int (g i j)) := by
  intro pins s σ H x y v u Q I rx ry h
  obtain ⟨i, j, rfl, rfl, q⟩ := h
  obtain ⟨t, rfl⟩ := rx
  obtain ⟨t', rfl⟩ := ry
  exact rule i j t t' s _ _ ⟨.int (g i j), H, I.tok _, ⟨_, rfl⟩, q⟩
theorem opB0 {f : Value → Value → Sem Value} {g : Int → Int → Bool}
    (rule : ∀ (i j : Int) (t u : Tok) (s : Shared) (Q : Value → Shared → Prop) (E : Value → Shared → Prop), Q (.bool (g i j)) s → wpAny (model X.prog X.w) X.A (f (.int i t) (.int j u)) Q E s) :
    OpR X f (rI0 fun i j => .bl (g i j)) := by
  intro pins s σ H x y v u Q I rx ry h
  obtain ⟨i, j, rfl, rfl, q⟩ := h
  obtain ⟨t, rfl⟩ := rx
  obtain ⟨t', rfl⟩ := ry
  exact rule i j t t' s _ _ ⟨.bl (g i j), H, I, rfl, q⟩
def CMul (i j : Int) : Prop := (-(2 ^ 64) < i ∧ i < 2 ^ 64) ∨ (-(2 ^ 64) < j ∧ j < 2 ^ 64)
theorem CMul.ok {i j : Int} (h : CMul i j) : IntMulOk i j := by
  rcases h with ⟨h1, h2⟩ | ⟨h1, h2⟩
  · exact .of_left (intBits_le_64 h1 h2)
  · exact .of_right (intBits_le_64 h1 h2)
theorem op_add : OpR X (binaryOp .Add) (rI0 fun i j => .int (i + j)) := opI0 fun _ _ _ _ _ _ _ q => add_int q
theorem op_mul : OpR X (binaryOp .Mult) (rI CMul fun i j => .int (i * j)) := opI fun _ _ _ _ _ _ _ hc q => mul_int q hc.ok
theorem op_mod : OpR X (binaryOp .Mod) (rI (fun _ j => 0 < j) fun i j => .int (i % j)) := opI fun i j _ _ _ _ _ hc q => by
  have h1 : (0 : Int) < j := hc
  exact mod_int' (by lia) (by rw [Int.fmod_eq_emod_of_nonneg i (by lia)]; exact q)
end
noncomputable def scal : V → V → Bool
  | .non, .non => true | .non, .int _ => true | .int _, .non => true | .non, .bl _ => true | .bl _, .non => true | .non, .str _ => true | .str _, .non => true
  | .int _, .int _ => true | .bl _, .bl _ => true | .str _, .str _ => true | .byt _, .byt _ => true
  | .int _, .str _ => true | .str _, .int _ => true | .bl _, .str _ => true | .str _, .bl _ => true
  | _, _ => false
def rEq : R2 := fun x y H Q => scal x y = true ∧ Q (.bl (decide (x = y))) H
def rNe : R2 := fun x y H Q => scal x y = true ∧ Q (.bl (!decide (x = y))) H
theorem dec_int {i j : Int} : decide (V.int i = V.int j) = (i == j) := by
  rw [Bool.eq_iff_iff]
  simp
theorem dec_bl {i j : Bool} : decide (V.bl i = V.bl j) = (i == j) := by
  rw [Bool.eq_iff_iff]
  simp
theorem dec_str {i j : Str} : decide (V.str i = V.str j) = (i == j) := by
  rw [Bool.eq_iff_iff]
  simp
theorem dec_byt {i j : Array UInt8} : decide (V.byt i = V.byt j) = (i.toList == j.toList) := by
  rw [Bool.eq_iff_iff]
  cases i
  cases j
  simp
section
variable {X : Cx} {a b c : Expr} {ta tb tc : TE} {pos : Pos}
theorem fin_bl {pins : List (Addr × Obj)} {σ : St} {H : Hp} {s : Shared} {Q : VK} {k k' : Bool} (I : Inv X pins σ H s) (q : Q (.bl k) H) (e : k = k') : EP X pins σ Q (.bool k') s := by
  subst e
  exact ⟨.bl k, H, I, rfl, q⟩
theorem op_eq : OpR X (compareOp .Eq) rEq := by
  intro pins s σ H x y v u Q I rx ry h
  obtain ⟨hs, q⟩ := h
  cases x with
  | non =>
    cases rx
    cases y with
    | non => cases ry; exact PySem.EqNone.eq_none_none (fin_bl I q (by simp))
    | bl j => cases ry; exact PySem.EqNone.eq_none_bool (fin_bl I q (by simp))
    | int j => obtain ⟨t', rfl⟩ := ry; exact PySem.EqNone.eq_none_int (fin_bl I q (by simp))
    | str j => obtain ⟨t', rfl⟩ := ry; exact PySem.EqNone.eq_none_str (fin_bl I q (by simp))
    | _ => exact absurd (show false = true from hs) Bool.false_ne_true
  | bl i =>
    cases rx
    cases y with
    | non => cases ry; exact PySem.EqNone.eq_bool_none (fin_bl I q (by simp))
    | bl j => cases ry; exact eq_bool (fin_bl I q dec_bl)
    | str j => obtain ⟨t', rfl⟩ := ry; exact PySem.EqMixed.eq_bool_str (fin_bl I q (by simp))
    | _ => exact absurd (show false = true from hs) Bool.false_ne_true
  | int i =>
    obtain ⟨t, rfl⟩ := rx
    cases y with
    | non => cases ry; exact PySem.EqNone.eq_int_none (fin_bl I q (by simp))
    | int j => obtain ⟨t', rfl⟩ := ry; exact eq_int (fin_bl I q dec_int)
    | str j => obtain ⟨t', rfl⟩ := ry; exact PySem.EqMixed.eq_int_str (fin_bl I q (by simp))
    | _ => exact absurd (show false = true from hs) Bool.false_ne_true
  | str i =>
    obtain ⟨t, rfl⟩ := rx
    cases y with
    | non => cases ry; exact PySem.EqNone.eq_str_none (fin_bl I q (by simp))
    | bl j => cases ry; exact PySem.EqMixed.eq_str_bool (fin_bl I q (by simp))
    | int j => obtain ⟨t', rfl⟩ := ry; exact PySem.EqMixed.eq_str_int (fin_bl I q (by simp))
    | str j => obtain ⟨t', rfl⟩ := ry; exact eq_str (fin_bl I q dec_str)
    | _ => exact absurd (show false = true from hs) Bool.false_ne_true
  | byt i =>
    obtain ⟨t, rfl⟩ := rx
    cases y with
    | byt j => obtain ⟨t', rfl⟩ := ry; exact PySem.W.eq_bytes (fin_bl I q dec_byt)
    | _ => exact absurd (show false = true from hs) Bool.false_ne_true
  | _ => cases y <;> exact absurd (show false = true from hs) Bool.false_ne_true
theorem op_ne : OpR X (compareOp .NotEq) rNe := by
  intro pins s σ H x y v u Q I rx ry h
  obtain ⟨hs, q⟩ := h
  cases x with
  | non =>
    cases rx
    cases y with
    | non => cases ry; exact PySem.EqNone.ne_none_none (fin_bl I q (by simp))
    | bl j => cases ry; exact PySem.EqNone.ne_none_bool (fin_bl I q (by simp))
    | int j => obtain ⟨t', rfl⟩ := ry; exact PySem.EqNone.ne_none_int (fin_bl I q (by simp))
    | str j => obtain ⟨t', rfl⟩ := ry; exact PySem.EqNone.ne_none_str (fin_bl I q (by simp))
    | _ => exact absurd (show false = true from hs) Bool.false_ne_true
  | bl i =>
    cases rx
    cases y with
    | non => cases ry; exact PySem.EqNone.ne_bool_none (fin_bl I q (by simp))
    | bl j => cases ry; exact ne_bool (fin_bl I q (congrArg not dec_bl))
    | str j => obtain ⟨t', rfl⟩ := ry; exact PySem.EqMixed.ne_bool_str (fin_bl I q (by simp))
    | _ => exact absurd (show false = true from hs) Bool.false_ne_true
  | int i =>
    obtain ⟨t, rfl⟩ := rx
    cases y with
    | non => cases ry; exact PySem.EqNone.ne_int_none (fin_bl I q (by simp))
    | int j => obtain ⟨t', rfl⟩ := ry; exact ne_int (fin_bl I q (congrArg not dec_int))
    | str j => obtain ⟨t', rfl⟩ := ry; exact PySem.EqMixed.ne_int_str (fin_bl I q (by simp))
    | _ => exact absurd (show false = true from hs) Bool.false_ne_true
  | str i =>
    obtain ⟨t, rfl⟩ := rx
    cases y with
    | non => cases ry; exact PySem.EqNone.ne_str_none (fin_bl I q (by simp))
    | bl j => cases ry; exact PySem.EqMixed.ne_str_bool (fin_bl I q (by simp))
    | int j => obtain ⟨t', rfl⟩ := ry; exact PySem.EqMixed.ne_str_int (fin_bl I q (by simp))
    | str j => obtain ⟨t', rfl⟩ := ry; exact ne_str (fin_bl I q (congrArg not dec_str))
    | _ => exact absurd (show false = true from hs) Bool.false_ne_true
  | byt i =>
    obtain ⟨t, rfl⟩ := rx
    cases y with
    | byt j => obtain ⟨t', rfl⟩ := ry; exact PySem.W.ne_bytes (fin_bl I q (congrArg not dec_byt))
    | _ => exact absurd (show false = true from hs) Bool.false_ne_true
  | _ => cases y <;> exact absurd (show false = true from hs) Bool.false_ne_true
theorem op_lt : OpR X (compareOp .Lt) (rI0 fun i j => .bl (decide (i < j))) := opB0 fun _ _ _ _ _ _ _ q => lt_int q
theorem op_lt_str : OpR X (compareOp .Lt) (fun x y H Q => ∃ i j, x = .str i ∧ y = .str j ∧ Q (.bl (decide (i.cps.toList < j.cps.toList))) H) := by
  intro pins s σ H x y v u Q I rx ry h
  obtain ⟨i, j, rfl, rfl, q⟩ := h
  obtain ⟨t, rfl⟩ := rx
  obtain ⟨t', rfl⟩ := ry
  exact lt_str (fin_bl I q rfl)
theorem OpR.or {f : Value → Value → Sem Value} {r r' : R2} (h : OpR X f r) (h' : OpR X f r') : OpR X f (fun x y H Q => r x y H Q ∨ r' x y H Q) := by
  intro pins s σ H x y v u Q I rx ry q
  rcases q with q | q
  · exact h pins s σ H x y v u Q I rx ry q
  · exact h' pins s σ H x y v u Q I rx ry q
theorem nomark (b : Expr) {op : CmpOp} (h : op ≠ .In := by decide) (h2 : op ≠ .NotIn := by decide) : behindInMarks op b = false := by
  have e1 : (op == CmpOp.In) = false := by cases op <;> first | rfl | exact absurd rfl h
  have e2 : (op == CmpOp.NotIn) = false := by cases op <;> first | rfl | exact absurd rfl h2
  cases b <;> simp [behindInMarks, e1, e2]
theorem pe_cmpR {op : CmpOp} {r : R2} (ho : OpR X (compareOp op) r) (ha : PE X a ta) (hb : PE X b tb) (hm : behindInMarks op b = false) : PE X (.Compare a [op] [b] pos) (tOp r ta tb) := by
  intro pins s σ H Q I h
  exact wpAny_Compare1 (binT ha hb I h fun v u s2 x y H2 I2 rx ry q => ho pins s2 σ H2 x y v u Q I2 rx ry q) hm
def tTest (t : TE) : TT := fun σ H Q => t σ H fun x H' => ∃ k, x = .bl k ∧ Q k H'
theorem pt_cmpR {op : CmpOp} {r : R2} (ho : OpR X (compareOp op) r) (ha : PE X a ta) (hb : PE X b tb) (hm : behindInMarks op b = false) : PT X (.Compare a [op] [b] pos) (tTest (tOp r ta tb)) := by
  intro pins s σ H Q I h
  refine wpAny_isTrue_Compare1 (thn5 (ha pins s σ H _ I h) fun v s1 x H1 I1 r1 q1 => thn5 (hb pins s1 σ H1 _ I1 q1) fun u s2 y H2 I2 r2 q2 =>
    thn5 (ho pins s2 σ H2 x y v u _ I2 r1 r2 q2) fun c s3 z H3 I3 r3 ⟨k, e, q3⟩ => ?_) hm
  subst e
  cases r3
  exact wpAny_truthy_bool ⟨H3, I3, q3⟩
theorem line63 : (sizeLine : Nat) < 2 ^ 63 := by rw [sizeLine_eq]; decide
theorem op_add_str : OpR X (binaryOp .Add) (fun x y H Q => ∃ i j, x = .str i ∧ y = .str j ∧ i.length + j.length ≤ sizeLine ∧ Q (.str (i ++ j)) H) := by
  intro pins s σ H x y v u Q I rx ry h
  obtain ⟨i, j, rfl, rfl, hz, q⟩ := h
  obtain ⟨t, rfl⟩ := rx
  obtain ⟨t', rfl⟩ := ry
  exact wpAny_with_toks (n := 1) I.tk (add_str (fun t' tk htk => ⟨.str (i ++ j), H, I.tok _ htk, ⟨_, rfl⟩, q⟩) hz)
theorem vals1 {x : V} {us : List Value} (r : Vals [x] us) : ∃ u, us = [u] ∧ RelV x u := by
  cases r with
  | cons r1 r2 => cases r2; exact ⟨_, rfl, r1⟩
theorem vals2 {x y : V} {us : List Value} (r : Vals [x, y] us) : ∃ u w', us = [u, w'] ∧ RelV x u ∧ RelV y w' := by
  cases r with
  | cons r1 r2 =>
    cases r2 with
    | cons r3 r4 => cases r4; exact ⟨_, _, rfl, r1, r3⟩
end
end L2
namespace L2
open PySem PySem.Spec PyProof.Rows
theorem RelO.some_of {v : V} {o : Option Value} (r : RelO (some v) o) : ∃ u, o = some u ∧ RelV v u := by
  cases o with
  | none => exact (show False from r).elim
  | some u => exact ⟨u, rfl, r⟩
theorem handed_of {v : V} {u : Value} (r : RelV v u) : PySem.W.handedIn u = true := by
  cases v with
  | non => cases (show u = Value.none from r); rfl
  | bl b => cases (show u = Value.bool b from r); rfl
  | int i => obtain ⟨t, e⟩ := (show ∃ t, u = Value.int i t from r); cases e; rfl
  | str x => obtain ⟨t, e⟩ := (show ∃ t, u = Value.str x t from r); cases e; rfl
  | byt b => obtain ⟨t, e⟩ := (show ∃ t, u = Value.bytes b t from r); cases e; rfl
  | flt b => obtain ⟨t, e⟩ := (show ∃ t, u = Value.float b t from r); cases e; rfl
  | ref a => cases (show u = Value.ref a from r); rfl
  | ty n => cases (show u = Value.type n from r); rfl
section
variable {X : Cx} {pins : List (Addr × Obj)} {σ : St} {H : Hp} {s : Shared} {a C dx : Addr} {fs : List (Str × V)} {f : Str} {v : V} {A : Around} {E : Value → Shared → Prop}
theorem attr_of {prog : Program} {w : World} {env : Env} {e : Expr} {f : Str} {pos : Pos} {s : Shared} {Q : Value → Shared → Prop} (hb : attributeBase e f env (eval e env) = eval e env)
    (h : wpAny (model prog w) A (eval e env) (fun o s₁ => wpAny (model prog w) A (getAttr o f true) Q E s₁) E s) : wpAny (model prog w) A (eval (.Attribute e f pos) env) Q E s :=
  Attribute_any_ h (by rw [arm_eval_Attribute, hb])
end
end L2
namespace L2
open PySem PySem.Spec PyProof.Rows
structure Room (k : Nat) (A : Around) : Prop where
  hd : A.handled = none
  dp : A.depth + 3 * k + 5 < recursionLimit
  un : A.units + 16 * k + 200 < cLine
theorem Room.mono {j k : Nat} {A : Around} (r : Room k A) (h : j ≤ k) : Room j A := ⟨r.hd, by have := r.dp; lia, by have := r.un; lia⟩
theorem Room.deeper {k : Nat} {A : Around} (r : Room (k + 1) A) (env : Env) : Room k (A.deeper env) :=
  ⟨r.hd, by have := r.dp; show A.depth + 1 + 3 * k + 5 < _; lia, by have := r.un; show A.units + 3 + 16 * k + 200 < _; lia⟩
theorem make_depth {A : Around} {C : Addr} {us : List Value} {kw : List (Str × Value)} : (A.under (.builtin "type.__call__" ⟨.ref C :: us, kw⟩)).depth = A.depth + 1 := by
  first | rfl | simp [Around.under, Code.weight, Code.isCreation, Code.isGuard, Code.isCaller, Code.frames, Code.isFrame, guardIds]
theorem make_units {A : Around} {C : Addr} {us : List Value} {kw : List (Str × Value)} : (A.under (.builtin "type.__call__" ⟨.ref C :: us, kw⟩)).units = A.units + 1 := by
  first | rfl | simp [Around.under, Code.cUnits, Code.frames, Code.isFrame]
theorem Room.make {k : Nat} {A : Around} (r : Room (k + 1) A) (C : Addr) (us : List Value) (kw : List (Str × Value)) : Room k (A.under (.builtin "type.__call__" ⟨.ref C :: us, kw⟩)) :=
  ⟨r.hd, by have := r.dp; rw [make_depth]; lia, by have := r.un; rw [make_units]; lia⟩
theorem Room.depth {k : Nat} {A : Around} (r : Room k A) : A.depth < recursionLimit := by have := r.dp; lia
theorem Room.units {k : Nat} {A : Around} (r : Room k A) : A.units + 64 < cLine := by have := r.un; lia
theorem Room.units0 {k : Nat} {A : Around} (r : Room k A) : A.units < cLine := by have := r.un; lia
def tNil : TA := fun _ H Q => Q [] H
def tCons (ta : TE) (tr : TA) : TA := fun σ H Q => ta σ H fun x H1 => tr σ H1 fun xs H2 => Q (x :: xs) H2
section
variable {X : Cx} {e : Expr} {es : List Expr} {te : TE} {t : TA} {pos : Pos}
theorem pa_nil : PA X [] tNil := fun _ _ _ _ H Q I h => Calls.spliced_nil ⟨[], H, I, .nil, h⟩
theorem pa_cons (ha : PE X e te) (hr : PA X es t) (hs : starEach (e :: es) X.env = (false, eval e X.env) :: starEach es X.env := by rfl) : PA X (e :: es) (tCons te t) := by
  intro pos pins s σ H Q I h
  rw [hs]
  show wpAny _ _ (spliced ((false, eval e X.env) :: backTo pos (starEach es X.env))) _ _ s
  refine Calls.spliced_cons (thn5 (ha pins s σ H _ I h) fun u s1 x H1 I1 r1 q1 => ?_)
  exact thn5 (hr pos pins s1 σ H1 _ I1 q1) fun us s2 xs H2 I2 r2 q2 => ⟨x :: xs, H2, I2, .cons r1 r2, q2⟩
def tTup (t : TA) : TE := fun σ H Q => t σ H fun xs H1 => xs.length ≤ sizeLine ∧ ∀ p, H1 p = none → Q (.ref p) (upd H1 p (.tup xs))
def tLst (t : TA) : TE := fun σ H Q => t σ H fun xs H1 => xs.length ≤ sizeLine ∧ ∀ p, H1 p = none → Q (.ref p) (upd H1 p (.lst xs))
theorem pe_tup {x1} (h : PA X es t) : PE X (.Tuple es x1 pos) (tTup t) := by
  intro pins s σ H Q I hq
  refine wpAny_Tuple_spliced (thn5 (h pos pins s σ H _ I hq) fun us s1 xs H1 I1 r ⟨z, q⟩ => ⟨by rw [← r.length]; exact z, ?_⟩)
  have hf : H1 s1.heap.objs.size = none := I1.hok.fresh (Nat.le_refl _)
  refine ⟨.ref s1.heap.objs.size, upd H1 s1.heap.objs.size (.tup xs), I1.laid (t' := s1.toks) (fun b u e => Heap.get?_push_of_some _ e) (Nat.le_refl _) ?_, rfl, q _ hf⟩
  exact ⟨z, us, r, ⟨_, Heap.get?_push_size _ rfl, rfl, _, rfl⟩⟩
theorem pe_lst (h : PA X es t) : PE X (.List es pos) (tLst t) := by
  intro pins s σ H Q I hq
  refine wpAny_List_spliced (thn5 (h pos pins s σ H _ I hq) fun us s1 xs H1 I1 r ⟨z, q⟩ => ⟨by rw [← r.length]; exact z, ?_⟩)
  have hf : H1 s1.heap.objs.size = none := I1.hok.fresh (Nat.le_refl _)
  refine ⟨.ref s1.heap.objs.size, upd H1 s1.heap.objs.size (.lst xs), I1.laid (t' := s1.toks) (fun b u e => Heap.get?_push_of_some _ e) (Nat.le_refl _) ?_, rfl, q _ hf⟩
  exact ⟨z, us, 0, r, Heap.get?_push_size _ rfl⟩
end
abbrev Sp := List V → Hp → VK → XK → Prop
abbrev CXT := List Env → Hp → Shared → XK → Value → Shared → Prop
structure Env0 (P : Program) (w : World) (K : PySem.W.Frag) (mg : Str → Option Value) (base : Heap) (A : Around) (outer : List Env) (s : Shared) (H : Hp) : Prop where
  frames : A.frames = some outer
  mod : Mod K mg base
  bs : ∀ b o, base.get? b = some o → s.heap.get? b = some o ∧ H b = none
  bsz : base.objs.size ≤ s.heap.objs.size
  funs : s.heap.FunFrames base outer
  frf : ∀ b ∈ frs outer, H b = none
  hok : HOk P w H s.heap
  bare : AllBare s.gens
def CE (outer : List Env) (P : Program) (w : World) (H : Hp) (s : Shared) (Q : VK) (u : Value) (s' : Shared) : Prop :=
  ∃ v H', s'.os = s.os ∧ AllBare s'.gens ∧ Un (frs outer) [] H H' s.heap s'.heap ∧ HOk P w H' s'.heap ∧ RelV v u ∧ Q v H'
def CR (CX : CXT) (outer : List Env) (P : Program) (w : World) (H : Hp) (s : Shared) (Q : VK) (E : XK) (r : Result) (s' : Shared) : Prop :=
  match r with
  | .ok (.ret u) => CE outer P w H s Q u s'
  | .ok _ => False
  | .error e => CX outer H s E e s'
structure FnOk (P : Program) (w : World) (K : PySem.W.Frag) (mg : Str → Option Value) (base : Heap) (CX : CXT) (k : Nat) (f : Addr) (fd : FuncData) (ps : List Str) (sp : Sp) : Prop where
  len : ∀ vs H Q E, sp vs H Q E → vs.length = ps.length
  run : ∀ (A : Around) (outer : List Env) (s : Shared) (H : Hp) (args : Args) (us : List Value) (vs : List V) (Q : VK) (E : XK), Room k A → Env0 P w K mg base A outer s H → (0 < s.toks ∨ ∃ p ∈ ps, fd.scope.names.lookup p = some .local) → BindsTo s fd args (ps.zip us) → Vals vs us → sp vs H Q E →
    codeAny (model P w) A (.call (.ref f) args) (CR CX outer P w H s Q E) s
theorem FnOk.imp {P : Program} {w : World} {K : PySem.W.Frag} {mg : Str → Option Value} {base : Heap} {CX : CXT} {k : Nat} {f : Addr} {fd : FuncData} {ps : List Str} {sp sp' : Sp} (F : FnOk P w K mg base CX k f fd ps sp)
    (h : ∀ vs H Q E, sp' vs H Q E → sp vs H Q E) : FnOk P w K mg base CX k f fd ps sp' :=
  ⟨fun vs H Q E q => F.len vs H Q E (h _ _ _ _ q), fun A outer s H args us vs Q E hr he ht hb hv hs => F.run A outer s H args us vs Q E hr he ht hb hv (h _ _ _ _ hs)⟩
theorem Env0.make {P : Program} {w : World} {K : PySem.W.Frag} {mg : Str → Option Value} {base : Heap} {A : Around} {outer : List Env} {s : Shared} {H : Hp} (e : Env0 P w K mg base A outer s H) (C : Addr) (us : List Value) (kw : List (Str × Value)) :
    Env0 P w K mg base (A.under (.builtin "type.__call__" ⟨.ref C :: us, kw⟩)) outer s H := ⟨by first | exact e.frames | (simpa [Around.under, Code.envs, Code.isFrame, pushEnvs] using e.frames), e.mod, e.bs, e.bsz, e.funs, e.frf, e.hok, e.bare⟩
section
variable {X : Cx} {pins : List (Addr × Obj)} {σ : St} {H : Hp} {s s' : Shared}
theorem Inv.env0 (I : Inv X pins σ H s) : Env0 X.prog X.w X.K X.mg X.base X.A X.stack s H :=
  ⟨I.ok.frames, I.ok.mod, I.bs, Nat.le_trans I.ok.bsz I.sz, I.stack, I.stkFree, I.hok, I.bare⟩
theorem Inv.after {Q : VK} {u : Value} (I : Inv X pins σ H s) (h : CE X.stack X.prog X.w H s Q u s') (ht : 0 < s'.toks) : EP X pins σ Q u s' := by
  obtain ⟨v, H', os, bare, un, hok, r, q⟩ := h
  obtain ⟨hh, g, d, t, os'⟩ := s'
  obtain rfl : os' = s.os := os
  exact ⟨v, H', I.call (h' := hh) (g' := g) (d' := d) (t' := t) (ch := []) un hok bare (fun b z => absurd z (by simp)) ht, r, q⟩
end
def tCall (sp : Sp) (dvs : List V) (E : XK) (t : TA) : TE := fun σ H Q => t σ H fun vs H1 => sp (vs ++ dvs) H1 Q E
def Binds (K : PySem.W.Frag) (fd : FuncData) (ps : List Str) (ds : List Value) : Prop :=
  ∀ (s : Shared) (us : List Value), K.In s.heap → (us ++ ds).length = ps.length → BindsTo s fd ⟨us, []⟩ (ps.zip (us ++ ds))
theorem Binds.all {K : PySem.W.Frag} {fd : FuncData} {ps : List Str} (h : ∀ us : List Value, us.length = ps.length → bindArgs fd ⟨us, []⟩ = pure (ps.zip us)) : Binds K fd ps [] := fun s us _ hl => by
  rw [List.append_nil] at hl ⊢
  exact .of_eq (h us hl)
def Passes (CX : CXT) (X : Cx) (E : XK) : Prop := ∀ (pins : List (Addr × Obj)) (σ : St) (H : Hp) (s : Shared) (e : Value) (s' : Shared), Inv X pins σ H s → CX X.stack H s E e s' → X.xe e s'
section
variable {X : Cx} {CX : CXT} {k : Nat} {f C : Addr} {fd : FuncData} {ps : List Str} {sp : Sp} {dvs : List V} {ds : List Value} {E : XK} {x m : Str} {p pos apos : Pos} {e o : Expr} {es : List Expr} {ta : TE} {t : TA}
theorem run_fn {pins : List (Addr × Obj)} {σ : St} {H : Hp} {s : Shared} {Q : VK} {us : List Value} {vs : List V} (F : FnOk X.prog X.w X.K X.mg X.base CX k f fd ps sp) (hr : Room k X.A) (hb : Binds X.K fd ps ds) (hd : Vals dvs ds) (hx : Passes CX X E)
    (I : Inv X pins σ H s) (r : Vals vs us) (h : sp (vs ++ dvs) H Q E) : wpAny (model X.prog X.w) X.A (call (.ref f) us) (EP X pins σ Q) X.xe s := by
  have r2 : Vals (vs ++ dvs) (us ++ ds) := r.append hd
  have hl : (us ++ ds).length = ps.length := by rw [← r2.length]; exact F.len _ _ _ _ h
  refine wpAny_call (codeAny_mono (codeAny_toks_of (n := 1) I.tk (F.run X.A X.stack s H ⟨us, []⟩ (us ++ ds) (vs ++ dvs) Q E hr I.env0 (.inl I.tk) (hb s us I.kIn hl) r2 h)) fun r s' ⟨htk, hq⟩ => ?_)
  cases r with
  | error e => exact hx pins σ H s e s' I hq
  | ok fl =>
    cases fl with
    | ret u => exact I.after hq htk
    | next => exact False.elim hq
    | brk => exact False.elim hq
    | cont => exact False.elim hq
theorem pe_call (F : FnOk X.prog X.w X.K X.mg X.base CX k f fd ps sp) (hr : Room k X.A) (hg : Gl X x) (hm : X.mg x = some (.ref f)) (hk : PySem.W.keepIn X.K (.ref f) = true) (hb : Binds X.K fd ps ds) (hd : Vals dvs ds) (hx : Passes CX X E)
    (ha : PA X (e :: es) t) (hdb : (x == ("__debug__" : Str)) = false := by decide) (he : starEach (e :: es) X.env = (false, eval e X.env) :: starEach es X.env := by rfl) (hpl : (backTo pos (starEach es X.env)).any (·.1) = false := by rfl) :
    PE X (.Call (.Name x p) (e :: es) [] pos) (tCall sp dvs E t) := by
  intro pins s σ H Q I h
  refine wpAny_Call_Name_kw (ld_glob I hg hm ?_ hdb)
  refine PySem.W.callWith_K (h₀ := X.base) I.ok.mod.kin hk (thn5 (ha pos pins s σ H _ I h) fun us s1 vs H1 I1 r q => ⟨I1.kIn, ?_⟩) he hpl
  exact run_fn F hr hb hd hx I1 r q
end
structure FnScope (N P : List Str) (sc : Scope) : Prop where
  kind : sc.kind = .function
  co : sc.isCoroutine = false
  gen : sc.isGenerator = false
  nd : N.Nodup
  pre : N.take P.length = P
  par : ∀ x ∈ P, sc.names.lookup x = some .local ∨ sc.names.lookup x = some .cell
  nofree : ∀ y ∈ sc.names, y.2 ≠ .free
theorem bindL_out {kindOf : Str → Option NameKind} {x : Str} : ∀ {binds : List (Str × Value)} {m : Str → Option Value}, (∀ v, (x, v) ∉ binds) → bindL kindOf binds m x = m x
  | [], _, _ => rfl
  | (n, v) :: r, m, h => by
    unfold bindL
    rw [bindL_out fun w hw => h w (List.mem_cons_of_mem _ hw)]
    split
    · have : x ≠ n := by rintro rfl; exact h v List.mem_cons_self
      simp [this]
    · rfl
theorem bindC_out {kindOf : Str → Option NameKind} {x : Str} : ∀ {binds : List (Str × Value)} {m : Str → Option Value}, (∀ v, (x, v) ∉ binds) → bindC kindOf binds m x = m x
  | [], _, _ => rfl
  | (n, v) :: r, m, h => by
    unfold bindC
    rw [bindC_out fun w hw => h w (List.mem_cons_of_mem _ hw)]
    split
    · rfl
    · have : x ≠ n := by rintro rfl; exact h v List.mem_cons_self
      simp [this]
theorem bindL_get {kindOf : Str → Option NameKind} {x : Str} {v : Value} : ∀ {P : List Str} {vs : List Value} {i : Nat} {m : Str → Option Value}, P.Nodup → P[i]? = some x → vs[i]? = some v → kindOf x = some .local →
    bindL kindOf (P.zip vs) m x = some v
  | [], _, _, _, _, h, _, _ => by simp at h
  | _ :: _, [], _, _, _, _, h, _ => by simp at h
  | p :: P, w :: vs, 0, m, nd, h1, h2, hk => by
    simp at h1 h2; subst h1; subst h2
    show bindL kindOf ((p, w) :: P.zip vs) m p = _
    unfold bindL
    rw [bindL_out fun v hv => (List.nodup_cons.mp nd).1 (List.of_mem_zip hv).1, if_pos hk]
    simp
  | p :: P, w :: vs, i + 1, m, nd, h1, h2, hk => by
    show bindL kindOf ((p, w) :: P.zip vs) m x = _
    unfold bindL
    exact bindL_get (i := i) (List.nodup_cons.mp nd).2 (by simpa using h1) (by simpa using h2) hk
theorem bindC_get {kindOf : Str → Option NameKind} {x : Str} {v : Value} : ∀ {P : List Str} {vs : List Value} {i : Nat} {m : Str → Option Value}, P.Nodup → P[i]? = some x → vs[i]? = some v → kindOf x ≠ some .local →
    bindC kindOf (P.zip vs) m x = some v
  | [], _, _, _, _, h, _, _ => by simp at h
  | _ :: _, [], _, _, _, _, h, _ => by simp at h
  | p :: P, w :: vs, 0, m, nd, h1, h2, hk => by
    simp at h1 h2; subst h1; subst h2
    show bindC kindOf ((p, w) :: P.zip vs) m p = _
    unfold bindC
    rw [bindC_out fun v hv => (List.nodup_cons.mp nd).1 (List.of_mem_zip hv).1, if_neg hk]
    simp
  | p :: P, w :: vs, i + 1, m, nd, h1, h2, hk => by
    show bindC kindOf ((p, w) :: P.zip vs) m x = _
    unfold bindC
    exact bindC_get (i := i) (List.nodup_cons.mp nd).2 (by simpa using h1) (by simpa using h2) hk
noncomputable def start (N : List Str) (vs : List V) : St := vs.map some ++ List.replicate (N.length - vs.length) none
noncomputable def cxOf (CX : CXT) (P : Program) (w : World) (K : PySem.W.Frag) (mg : Str → Option Value) (base : Heap) (N : List Str) (qual : Str) (scope : Scope) (f : Addr) (cd : Value) (A : Around) (outer : List Env) (s : Shared) (H : Hp) (E : XK) : Cx where
  prog := P
  w := w
  K := K
  mg := mg
  base := base
  A := A.deeper (envOfC qual scope s.heap.objs.size f cd)
  N := N
  s₀ := s
  H₀ := H
  env := envOfC qual scope s.heap.objs.size f cd
  outer := outer
  stack := envOfC qual scope s.heap.objs.size f cd :: outer
  ex := []
  calm := true
  fn := fun _ => true
  pn := []
  xe := fun e s' => wpAny (model P w) (A.deeper (envOfC qual scope s.heap.objs.size f cd)) (leaving (envOfC qual scope s.heap.objs.size f cd) e) (fun _ s'' => CX outer H s E e s'') (fun e' s'' => CX outer H s E e' s'') s'
theorem cell_has {sc : Scope} {n : Nat} {x : Str} (h : sc.names.lookup x = some .cell) : ∃ c, (cellsFrom n sc.names []).lookup x = some c := by
  have q := PySem.W.cellsFrom_some sc.names n [] (.inl h)
  exact Option.isSome_iff_exists.mp q
theorem bindParamsT {M : Model} {A : Around} {E : Value → Shared → Prop} {s₀ : Shared} {env : Env} (f : Str × Value → PUnit → Sem (ForInStep PUnit)) (hf : ∀ n v u, f (n, v) u = (do storeName env n v; pure (.yield ⟨⟩))) (hk : env.scope.kind = .function) :
    ∀ (binds : List (Str × Value)) (m cm : Str → Option Value) (s : Shared) (Q : PUnit → Shared → Prop), InCallC s₀ env.locals m env.cells cm s →
      (∀ x ∈ binds, env.kindOf x.1 = some .local ∨ (env.kindOf x.1 = some .cell ∧ (env.cells.lookup x.1).isSome = true)) →
      (∀ s', InCallC s₀ env.locals (bindL env.kindOf binds m) env.cells (bindC env.kindOf binds cm) s' → ((0 < s.toks ∨ ∃ b ∈ binds, env.kindOf b.1 = some .local) → 0 < s'.toks) → Q ⟨⟩ s') → wpAny M A (forIn binds ⟨⟩ f) Q E s
  | [], m, cm, s, Q, x, _, h => by
    rw [List.forIn_nil]
    exact wpAny_pure (h s x fun z => z.elim id fun ⟨b, hb, _⟩ => absurd hb (by simp))
  | (n, v) :: r, m, cm, s, Q, x, hkind, h => by
    rw [List.forIn_cons, hf]
    have hr : ∀ y ∈ r, env.kindOf y.1 = some .local ∨ (env.kindOf y.1 = some .cell ∧ (env.cells.lookup y.1).isSome = true) := fun y hy => hkind y (List.mem_cons_of_mem _ hy)
    rcases hkind (n, v) List.mem_cons_self with hl | ⟨hl, hc⟩
    · refine wpAny_bind (wpAny_bind (wpAny_storeName_local hl x.toInCall.ns (fun h' hn' hs' => wpAny_pure (bindParamsT f hf hk r (fun y => if y = n then some v else m y) cm _ Q ⟨⟨?_, hn', fun b o e => ?_, x.toInCall.fresh⟩, fun k c hc => ?_, x.apart, x.above⟩ hr fun s'' x'' ht => h s'' ?_ fun _ => ht (.inl (Nat.succ_pos _)))) (by rw [hk]; rfl)))
      · obtain ⟨h₁, tk, rfl⟩ := x.toInCall.same
        exact ⟨h', _, rfl⟩
      · exact hs'.extBut b o (Nat.ne_of_lt (Nat.lt_of_lt_of_le (Heap.lt_size e) x.toInCall.fresh)) (x.toInCall.keep b o e)
      · exact (x.cell k c hc).sameBut hs' (Nat.ne_of_gt (x.above k c (PySem.mem_of_lookup hc)))
      · unfold bindL bindC; rw [if_pos hl, if_pos hl]; exact x''
    · obtain ⟨c, hc⟩ := Option.isSome_iff_exists.mp hc
      have hnl : ¬ env.kindOf n = some .local := by rw [hl]; decide
      refine wpAny_bind (wpAny_bind (wpAny_with_toks (n := s.toks) (Nat.le_refl _) (stCC x hk hl hc fun s' x' hle => wpAny_pure (bindParamsT f hf hk r m _ s' Q x' hr fun s'' x'' ht => h s'' ?_ fun z => ht ?_))))
      · unfold bindL bindC; rw [if_neg hnl, if_neg hnl]; exact x''
      · rcases z with z | ⟨b, hb, hbl⟩
        · exact .inl (Nat.lt_of_lt_of_le z hle)
        · rcases List.mem_cons.mp hb with rfl | hb
          · exact absurd hbl hnl
          · exact .inr ⟨b, hb, hbl⟩
theorem newEnvT {M : Model} {A : Around} {E : Value → Shared → Prop} {s : Shared} {scope : Scope} {globals : Addr} {binds : List (Str × Value)} {qual : Str} {func : Option Addr} {code : Value} {builtins : Addr} {Q : Env → Shared → Prop}
    (hk : scope.kind = .function)
    (hkind : ∀ x ∈ binds, scope.names.lookup x.1 = some .local ∨ (scope.names.lookup x.1 = some .cell ∧ ((cellsFrom (s.heap.objs.size + 1) scope.names []).lookup x.1).isSome = true))
    (hQ : ∀ env, env = newEnv scope s.heap.objs.size globals (cellsFrom (s.heap.objs.size + 1) scope.names []) qual func code none builtins →
      ∀ s', InCallC s env.locals (bindL env.kindOf binds fun _ => none) env.cells (bindC env.kindOf binds fun _ => none) s' → ((0 < s.toks ∨ ∃ b ∈ binds, scope.names.lookup b.1 = some .local) → 0 < s'.toks) → Q env s') :
    wpAny M A (newFunctionEnv scope globals [] binds qual func code none builtins) Q E s := by
  simp only [newFunctionEnv, Option.isSome_none, Bool.false_eq_true, if_false]
  refine wpAny_bind (wpAny_alloc ?_)
  refine wpAny_bind (wpAny_layCells _ (fun name kind cells => by cases hkc : kind == NameKind.cell <;> simp [hkc]) _ _ _ _ ?_)
  have ok := cellsFrom_ok scope.names (s.heap.push { cls := .type "frame", data := .dict #[] }) (s.heap.objs.size + 1) [] ⟨fun _ _ hm => (nomatch hm), List.Pairwise.nil⟩ (by rw [Heap.size_push]; exact Nat.le_refl _)
  rw [Heap.size_push] at ok
  rw [show ({ s with heap := s.heap.push { cls := .type "frame", data := .dict #[] } } : Shared).heap.objs.size = s.heap.objs.size + 1 from Heap.size_push ..]
  refine wpAny_bind (bindParamsT (s₀ := s) (env := newEnv scope s.heap.objs.size globals (cellsFrom (s.heap.objs.size + 1) scope.names []) qual func code none builtins)
    _ (fun _ _ _ => rfl) hk binds (fun _ => none) (fun _ => none) _ _
    ⟨⟨⟨_, _, rfl⟩, (Heap.Ns.new s.heap (.type "frame")).keeps (pushCells_keeps _ _), fun b o e => pushCells_keeps _ _ b o (Heap.get?_push_of_some _ e), Nat.le_refl _⟩,
      fun n c hc => (ok.empty n c (PySem.mem_of_lookup hc)).1, ok.apart, fun n c hm => (ok.empty n c hm).2⟩
    hkind fun s' x ht => wpAny_pure (hQ _ rfl s' x ht))
theorem inv_start {CX : CXT} {P : Program} {w : World} {K : PySem.W.Frag} {mg : Str → Option Value} {base : Heap} {N ps : List Str} {qual : Str} {scope : Scope} {f : Addr} {cd : Value} {A : Around} {outer : List Env} {s s1 : Shared} {H : Hp} {E : XK} {us : List Value} {vs : List V}
    (S : FnScope N ps scope) (hd : A.handled = none) (e0 : Env0 P w K mg base A outer s H) (hl : vs.length = ps.length) (r : Vals vs us)
    (x : InCallC s s.heap.objs.size (bindL (envOfC qual scope s.heap.objs.size f cd).kindOf (ps.zip us) fun _ => none) (cellsFrom (s.heap.objs.size + 1) scope.names []) (bindC (envOfC qual scope s.heap.objs.size f cd).kindOf (ps.zip us) fun _ => none) s1) (ht : 0 < s1.toks) :
    Inv (cxOf CX P w K mg base N qual scope f cd A outer s H E) [] (start N vs) H s1 := by
  have hpl : ps.length ≤ N.length := by have := congrArg List.length S.pre; rw [List.length_take] at this; lia
  obtain ⟨h1, tk, rfl, hk⟩ := x.done
  have noA : ∀ b : Addr, b ∉ (cxOf CX P w K mg base N qual scope f cd A outer s H E).ex := fun b z => absurd (show b ∈ ([] : List Addr) from z) (by simp)
  refine ⟨⟨e0.mod, S.kind, rfl, rfl, Nat.le_refl _, fun y z c h1 h2 => ?_, fun y hy => ?_, fun y c _ h => ?_, fun _ => hd, Around.frames_deeper e0.frames, .inr ⟨rfl, rfl⟩, fun b z => absurd z (noA b), e0.bs, e0.bsz, fun b _ _ => noA b, fun b z => absurd z (noA b), e0.funs, e0.frf⟩,
    rfl, e0.bare, Un.kept hk, ⟨_, x.toInCall.ns, fun i y v h1 h2 h3 => ?_⟩, fun y c h => ⟨_, x.cell y c h⟩, e0.hok.fresh (Nat.le_refl _), fun y c h => ?_, fun p hp => absurd (show p ∈ ([] : List (Addr × Obj)) from hp) (by simp), e0.hok.kept hk, ?_, ht⟩
  · exact name_of_addr x.apart (PySem.mem_of_lookup h1) (PySem.mem_of_lookup h2)
  · have hy : scope.names.lookup y = some .cell ∨ scope.names.lookup y = some .free := hy
    rcases hy with hy | hy
    · exact cell_has hy
    · exact absurd rfl (S.nofree _ (PySem.mem_of_lookup hy))
  · exact Nat.le_of_lt (x.above y c (PySem.mem_of_lookup h))
  · have hi : i < vs.length := by
      unfold start at h2
      by_cases hi : i < vs.length
      · exact hi
      · rw [List.getElem?_append_right (by simpa using hi)] at h2
        rw [List.getElem?_replicate] at h2
        split at h2 <;> cases h2
    have ha : vs[i]? = some v := by
      unfold start at h2
      rw [List.getElem?_append_left (by simpa using hi), List.getElem?_map] at h2
      cases e : vs[i]? with
      | none => rw [e] at h2; cases h2
      | some a => rw [e] at h2; cases h2; rfl
    obtain ⟨u, hu, rv⟩ := r.get ha
    have hp : ps[i]? = some y := by
      rw [← S.pre, List.getElem?_take_of_lt (by lia)]; exact h1
    have ndP : ps.Nodup := by rw [← S.pre]; exact S.nd.sublist (List.take_sublist _ _)
    refine ⟨u, rv, ?_⟩
    rcases S.par y (List.mem_of_getElem? hp) with k | k
    · exact .inl ⟨k, bindL_get ndP hp hu k⟩
    · obtain ⟨c, e⟩ := cell_has (n := s.heap.objs.size + 1) k
      refine .inr ⟨.inl k, c, e, ?_⟩
      have q := x.cell y c e
      rw [bindC_get ndP hp hu (by show scope.names.lookup y ≠ _; rw [k]; decide)] at q
      exact q
  · exact e0.hok.fresh (Nat.le_of_lt (x.above y c (PySem.mem_of_lookup h)))
  · unfold start
    show _ = N.length
    rw [List.length_append, List.length_map, List.length_replicate]
    lia
theorem fn_of {CX : CXT} {P : Program} {w : World} {K : PySem.W.Frag} {mg : Str → Option Value} {base : Heap} {k : Nat} {f : Addr} {name qual : Str} {params : Arguments} {body : List Stmt} {scope : Scope} {dV kV doc pm cdv ct oc : Value} {an od : Option Addr}
    {osl : Array (Option Value)} {N ps : List Str} {sp : Sp} (lk : K.lookup f = some ⟨oc, od, .func (PySem.W.fnOf name qual params body scope dV kV doc pm an cdv ct), osl⟩) (hcd : PySem.W.codeIn K cdv qual = true) (S : FnScope N ps scope)
    (len : ∀ vs H Q E, sp vs H Q E → vs.length = ps.length)
    (hbody : ∀ (A : Around) (outer : List Env) (s : Shared) (H : Hp) (vs : List V) (Q : VK) (E : XK), Room k (A.deeper (envOfC qual scope s.heap.objs.size f cdv)) → sp vs H Q E →
      ∃ t, PSs (cxOf CX P w K mg base N qual scope f cdv A outer s H E) body t ∧ t { nx := fun _ H' => Q .non H', rt := Q } (start N vs) H) :
    FnOk P w K mg base CX (k + 1) f (PySem.W.fnOf name qual params body scope dV kV doc pm an cdv ct) ps sp := by
  refine ⟨len, fun A outer s H args us vs Q E hr e0 htk hb r hsp => ?_⟩
  have hl := len _ _ _ _ hsp
  have KX : K.In s.heap := e0.mod.kin.keeps fun b o e => (e0.bs b o e).1
  have lim : s.heap.NoLimit := e0.mod.nolimit.keeps fun b o e => (e0.bs b o e).1
  have hkind : ∀ y ∈ ps.zip us, scope.names.lookup y.1 = some .local ∨ (scope.names.lookup y.1 = some .cell ∧ ((cellsFrom (s.heap.objs.size + 1) scope.names []).lookup y.1).isSome = true) := fun ⟨n, v⟩ hy => by
    rcases S.par n (List.of_mem_zip hy).1 with q | q
    · exact .inl q
    · exact .inr ⟨q, PySem.W.cellsFrom_some _ _ _ (.inl q)⟩
  refine codeAny_call_function hr.depth (KX _ _ lk) rfl S.co S.gen rfl (PySem.W.codeRec_of KX hcd) (hb _ _ _ _ ?_)
  refine newEnvT S.kind hkind fun env he s1 x htk1 => ?_
  subst he
  refine ⟨lim.keeps x.toInCall.keep, codeAny_func ?_⟩
  obtain ⟨t, ht, hq⟩ := hbody A outer s H vs Q E (hr.deeper _) hsp
  have I : Inv (cxOf CX P w K mg base N qual scope f cdv A outer s H E) [] (start N vs) H s1 := inv_start S hr.hd e0 hl r x (htk1 (htk.imp id fun ⟨p, hp, hpl⟩ => by
    obtain ⟨i, hi, e⟩ := List.mem_iff_getElem.mp hp
    have hu : i < us.length := by rw [← r.length, hl]; exact hi
    exact ⟨(p, us[i]), List.mem_iff_getElem.mpr ⟨i, by rw [List.length_zip]; lia, by rw [List.getElem_zip, e]⟩, hpl⟩))
  refine wpAny_mono (ht [] s1 (start N vs) H _ I hq) (fun fl s' hs => ?_) fun e s' hs => hs
  have fin : ∀ {σ' : St} {H' : Hp} {v : V} {u : Value}, Inv (cxOf CX P w K mg base N qual scope f cdv A outer s H E) [] σ' H' s' → RelV v u → Q v H' → CE outer P w H s Q u s' :=
    fun {σ' H' v u} J rv q => ⟨v, H', J.os, J.bare, J.base, J.hok, rv, q⟩
  cases fl with
  | ret u =>
    obtain ⟨v, σ', H', J, rv, q⟩ := hs
    exact fin J rv q
  | next =>
    obtain ⟨σ', H', J, q⟩ := hs
    exact fin (v := V.non) (u := Value.none) J rfl q
  | brk =>
    obtain ⟨_, _, _, q⟩ := hs
    exact False.elim q
  | cont =>
    obtain ⟨_, _, _, q⟩ := hs
    exact False.elim q
end L2
namespace L2
open PySem PySem.Spec PyProof.Rows
section
variable {X : Cx} {x : Str} {p pos : Pos} {e : Expr} {es : List Expr} {t : TA} {id T : String} {r : List V → Hp → VK → Prop}
def tCB (r : List V → Hp → VK → Prop) (t : TA) : TE := fun σ H Q => t σ H fun vs H1 => r vs H1 Q
theorem pe_callB (hc : CallR X (.builtin id) r) (hg : Gl X x) (hm : X.mg x = none) (hv : bootBuiltins x = some (.builtin id)) (ha : PA X (e :: es) t) (hn : x ≠ "__name__" := by decide) (hdb : (x == ("__debug__" : Str)) = false := by decide)
    (he : starEach (e :: es) X.env = (false, eval e X.env) :: starEach es X.env := by rfl) (hpl : (backTo pos (starEach es X.env)).any (·.1) = false := by rfl) : PE X (.Call (.Name x p) (e :: es) [] pos) (tCB r t) := by
  intro pins s σ H Q I h
  refine wpAny_Call_Name_kw (ld_blt I hg hm hv ?_ hn hdb)
  exact PyProof.Rows.callWith_builtin1 (thn5 (ha pos pins s σ H _ I h) fun us s1 vs H1 I1 r1 q1 => hc pins s1 σ H1 vs us Q I1 r1 q1) he hpl
end
end L2
namespace L2
open PySem PySem.Spec PyProof.Rows
abbrev TO := St → Hp → (Option Int → Hp → Prop) → Prop
end L2
namespace L2
open PySem PySem.Spec PyProof.Rows
noncomputable def ixN (n : Nat) (i : Int) : Option Nat := if 0 ≤ i then (if i < n then some i.toNat else none) else if -(n : Int) ≤ i then some (i + n).toNat else none
def atI {α : Type} (xs : List α) (i : Int) : Option α := (ixN xs.length i).bind fun j => xs[j]?
theorem ixN_seq {n : Nat} {i : Int} {j : Nat} (h : ixN n i = some j) : seqIndex? i n = some j ∧ j < n ∧ -(n : Int) ≤ i ∧ i < n := by
  unfold ixN at h
  by_cases h0 : 0 ≤ i
  · rw [if_pos h0] at h
    by_cases h1 : i < n
    · rw [if_pos h1] at h
      have e : i.toNat = j := Option.some.inj h
      exact ⟨by rw [seqIndex_of h0 h1, e], by lia, by lia, h1⟩
    · rw [if_neg h1] at h; cases h
  · rw [if_neg h0] at h
    by_cases h1 : -(n : Int) ≤ i
    · rw [if_pos h1] at h
      have e : (i + n).toNat = j := Option.some.inj h
      exact ⟨by rw [seqIndex_neg (by lia) h1, e], by lia, h1, by lia⟩
    · rw [if_neg h1] at h; cases h
theorem atI_get {α : Type} {xs : List α} {i : Int} {v : α} (h : atI xs i = some v) : ∃ j, seqIndex? i xs.length = some j ∧ xs[j]? = some v ∧ j < xs.length ∧ -(xs.length : Int) ≤ i ∧ i < xs.length := by
  unfold atI at h
  cases e : ixN xs.length i with
  | none => rw [e] at h; cases h
  | some j =>
    rw [e] at h
    obtain ⟨h1, h2, h3, h4⟩ := ixN_seq e
    exact ⟨j, h1, h, h2, h3, h4⟩
def PlainIx (b : Expr) : Prop := ∀ o i, subscripted b false o i = operate [o, i] (getItem o i)
def IxR (X : Cx) (r : R2) : Prop :=
  ∀ (value slice : Expr) (pins : List (Addr × Obj)) (s : Shared) (σ : St) (H : Hp) (x y : V) (v u : Value) (Q : VK), Inv X pins σ H s → RelV x v → RelV y u → r x y H Q →
    subscripted slice false v u = operate [v, u] (getItem v u) → wpAny (model X.prog X.w) X.A (subscriptTail value slice v u) (EP X pins σ Q) X.xe s
section
variable {X : Cx} {a b : Expr} {ta tb : TE} {pos : Pos}
theorem IxR.or {r r' : R2} (h : IxR X r) (h' : IxR X r') : IxR X (fun x y H Q => r x y H Q ∨ r' x y H Q) := by
  intro value slice pins s σ H x y v u Q I rx ry q hs
  rcases q with q | q
  · exact h value slice pins s σ H x y v u Q I rx ry q hs
  · exact h' value slice pins s σ H x y v u Q I rx ry q hs
theorem pe_ix {r : R2} (hr : IxR X r) (ha : PE X a ta) (hb : PE X b tb) (hs : PlainIx b) : PE X (.Subscript a b pos) (tOp r ta tb) := by
  intro pins s σ H Q I h
  exact Subscript_ (binT ha hb I h fun v u s2 x y H2 I2 rx ry q => hr a b pins s2 σ H2 x y v u Q I2 rx ry q (hs _ _))
def rIxL (K : PySem.W.Frag) : R2 := fun x y H Q => ∃ p xs i v, x = .ref p ∧ y = .int i ∧ SqL K H p xs ∧ atI xs i = some v ∧ Q v H
def rIxT (K : PySem.W.Frag) : R2 := fun x y H Q => ∃ p xs i v, x = .ref p ∧ y = .int i ∧ SqT K H p xs ∧ atI xs i = some v ∧ Q v H
def rIxS : R2 := fun x y H Q => ∃ z i c, x = .str z ∧ y = .int i ∧ z.length ≤ sizeLine ∧ atI z.cps.toList i = some c ∧ Q (.str ⟨#[c]⟩) H
theorem ix_list : IxR X (rIxL X.K) := by
  intro value slice pins s σ H x y v u Q I rx ry h hs
  obtain ⟨p, xs, i, z, rfl, rfl, hq, he, q⟩ := h
  cases rx
  obtain ⟨t, rfl⟩ := ry
  obtain ⟨its, r, pl, hz⟩ := I.list hq
  obtain ⟨j, h1, h2, h3, h4, h5⟩ := atI_get he
  obtain ⟨w, ew, rw'⟩ := r.get h2
  have hl := r.length
  have hn := line63
  have fin : EP X pins σ Q w s := ⟨z, H, I, rw', q⟩
  by_cases h0 : 0 ≤ i
  · have hj : i.toNat = j := by
      rw [seqIndex_of h0 h5] at h1
      exact Option.some.inj h1
    exact item_listR pl.isList h0 (by lia) (by rw [hj]; simpa using ew) fin hs
  · have hj : (i + (its.toArray.size : Int)).toNat = j := by
      rw [seqIndex_neg (by lia) h4] at h1
      rw [List.size_toArray, ← hl]
      exact Option.some.inj h1
    exact subscriptTail_builtinR (x := w) pl.isList.typeIs slot_list_getitem.lookup
      (wpAny_getItem_list_neg (Q := fun r s' => r = w ∧ EP X pins σ Q r s') pl.isList (by lia) (by rw [List.size_toArray] <;> lia) (by lia) (by rw [hj]; simpa using ew) ⟨rfl, fin⟩) hs
theorem ix_tup : IxR X (rIxT X.K) := by
  intro value slice pins s σ H x y v u Q I rx ry h hs
  obtain ⟨p, xs, i, z, rfl, rfl, hq, he, q⟩ := h
  cases rx
  obtain ⟨t, rfl⟩ := ry
  obtain ⟨its, r, pl, hz⟩ := I.tuple hq
  obtain ⟨j, h1, h2, h3, h4, h5⟩ := atI_get he
  obtain ⟨w, ew, rw'⟩ := r.get h2
  have hl := r.length
  have hn := line63
  have fin : EP X pins σ Q w s := ⟨z, H, I, rw', q⟩
  exact subscriptTail_builtinR (x := w) pl.typeIs slot_tuple_getitem.lookup
    (getItem_tuple (j := j) (Q := fun r s' => r = w ∧ EP X pins σ Q r s') pl (by lia) (by lia) (by rw [List.size_toArray, ← hl]; exact h1) (by simpa using ew) ⟨rfl, fin⟩) hs
theorem ix_str : IxR X rIxS := by
  intro value slice pins s σ H x y v u Q I rx ry h hs
  obtain ⟨z, i, c, rfl, rfl, hz, he, q⟩ := h
  obtain ⟨t, rfl⟩ := rx
  obtain ⟨t', rfl⟩ := ry
  obtain ⟨j, h1, h2, h3, h4, h5⟩ := atI_get he
  have hl : z.cps.toList.length = z.length := by simp [Str.length]
  rw [hl] at h1 h4 h5
  have hn := line63
  exact tail_any (typeIs_str s z t) slot_str_getitem.lookup (getItem_str (c := c) (by
    have e1 : decide (i < -(2 ^ 63 : Int)) = false := decide_eq_false (by lia)
    have e2 : decide (i ≥ 2 ^ 63) = false := decide_eq_false (by lia)
    rw [e1, e2, Bool.or_false]) (by rw [h1]; simpa using h2) ⟨.str ⟨#[c]⟩, H, I.tok _, ⟨_, rfl⟩, q⟩) hs
theorem call_len_seq : CallR X (.builtin "len") (fun xs H Q => ∃ p ys, xs = [.ref p] ∧ (SqL X.K H p ys ∨ SqT X.K H p ys) ∧ Q (.int ys.length) H) := by
  intro pins s σ H xs us Q I r h
  obtain ⟨p, ys, rfl, hq, q⟩ := h
  obtain ⟨u, rfl, rx⟩ := vals1 r
  cases rx
  have hn := line63
  rcases hq with hq | hq
  · obtain ⟨its, r', pl, hz⟩ := I.list hq
    have hlen := r'.length
    exact Calls.call_len_list pl.isList (by simp only [List.size_toArray] <;> lia) ⟨.int ys.length, H, I.tok _, ⟨s.toks + 1, by rw [List.size_toArray, hlen]⟩, q⟩
  · obtain ⟨its, r', pl, hz⟩ := I.tuple hq
    have hlen := r'.length
    exact len_tuple pl (by simp only [List.size_toArray] <;> lia) ⟨.int ys.length, H, I.tok _, ⟨s.toks + 1, by rw [List.size_toArray, hlen]⟩, q⟩
theorem call_len_str : CallR X (.builtin "len") (fun xs H Q => ∃ z, xs = [.str z] ∧ z.length ≤ sizeLine ∧ Q (.int z.length) H) := by
  intro pins s σ H xs us Q I r h
  obtain ⟨z, rfl, hz, q⟩ := h
  obtain ⟨u, rfl, t, rfl⟩ := vals1 r
  have hn := line63
  exact len_str (by lia) ⟨.int z.length, H, I.tok _, ⟨_, rfl⟩, q⟩
theorem CallR.or {f : Value} {r r' : List V → Hp → VK → Prop} (h : CallR X f r) (h' : CallR X f r') : CallR X f (fun xs H Q => r xs H Q ∨ r' xs H Q) := by
  intro pins s σ H xs us Q I rs q
  rcases q with q | q
  · exact h pins s σ H xs us Q I rs q
  · exact h' pins s σ H xs us Q I rs q
variable {o e : Expr} {es : List Expr} {to : TE} {t : TA} {name : Str} {apos cpos : Pos} {T id : String} {r : V → List V → Hp → VK → Prop}
end
end L2
namespace L2
open PySem PySem.Spec PyProof.Rows
theorem Vals.rep {xs : List V} {us : List Value} (h : Vals xs us) : ∀ k : Nat, Vals (List.replicate k xs).flatten (List.replicate k us).flatten
  | 0 => .nil
  | k + 1 => by
    rw [List.replicate_succ, List.replicate_succ, List.flatten_cons, List.flatten_cons]
    exact Vals.append h (Vals.rep h k)
theorem foldl_rep (its : List Value) : ∀ (k : Nat) (acc : List Value),
    List.foldl (fun x1 x2 => x1 ++ x2) acc.toArray (List.replicate k its.toArray) = (acc ++ (List.replicate k its).flatten).toArray
  | 0, acc => by simp
  | k + 1, acc => by
    have e : acc.toArray ++ its.toArray = (acc ++ its).toArray := by simp
    have e2 : (acc ++ its) ++ (List.replicate k its).flatten = acc ++ (List.replicate (k + 1) its).flatten := by
      rw [List.replicate_succ, List.flatten_cons, List.append_assoc]
    rw [← e2, ← foldl_rep its k (acc ++ its), ← e, List.replicate_succ, List.foldl_cons]
section
variable {X : Cx} {pins : List (Addr × Obj)} {σ : St} {H : Hp} {s : Shared} {l b : Addr} {xs ys zs : List V}
theorem Inv.lnew {its : List Value} {t' : Nat} (I : Inv X pins σ H s) (hv : Vals ys its) (hz : ys.length ≤ sizeLine) (ht : 0 < t' := by first | exact Nat.succ_pos _ | assumption | exact Inv.tk (by assumption) | lia) :
    Inv X pins σ (upd H s.heap.objs.size (.lst ys)) { s with heap := s.heap.push { cls := .type "list", data := .seq its.toArray }, toks := t' } :=
  I.laid (fun _ _ q => Heap.get?_push_of_some _ q) (Nat.le_refl _) ⟨hz, its, 0, hv, Heap.get?_push_size _ rfl⟩
theorem Inv.fresh (I : Inv X pins σ H s) : H s.heap.objs.size = none := I.hok.fresh (Nat.le_refl _)
theorem Inv.lstM (I : Inv X pins σ H s) (hH : H l = some (.lst xs)) : xs.length ≤ sizeLine ∧ ∃ (its : List Value) (n : Nat), Vals xs its ∧ xs.length = its.length ∧ s.heap.get? l = some { cls := .type "list", data := .seq its.toArray n } := by
  obtain ⟨z, its, n, r, e⟩ := I.hok l _ hH
  exact ⟨z, its, n, r, r.length, e⟩
theorem notLongL {n : Nat} (h : n ≤ sizeLine) : Builtin.List.listTooLong n = false := by
  unfold Builtin.List.listTooLong
  exact decide_eq_false (by lia)
end
section
variable {X : Cx}
def rCat : R2 := fun x y H Q => ∃ l b xs zs, x = .ref l ∧ y = .ref b ∧ H l = some (.lst xs) ∧ H b = some (.lst zs) ∧ xs.length + zs.length ≤ sizeLine ∧ ∀ p, H p = none → Q (.ref p) (upd H p (.lst (xs ++ zs)))
theorem op_cat : OpR X (binaryOp .Add) rCat := by
  intro pins s σ H x y v u Q I rx ry h
  obtain ⟨l, b, xs, zs, rfl, rfl, hH, hB, hz, q⟩ := h
  cases rx
  cases ry
  obtain ⟨z, its, n, r, hl, e⟩ := I.lstM hH
  obtain ⟨z2, its2, n2, r2, hl2, e2⟩ := I.lstM hB
  refine PySem.P.add_list e e2 ?_ (by rw [List.size_toArray, List.size_toArray]; lia)
  have ea : its.toArray ++ its2.toArray = (its ++ its2).toArray := by simp
  rw [ea]
  exact ⟨.ref _, _, I.lnew (t' := s.toks) (r.append r2) (by rw [List.length_append]; lia), rfl, q _ I.fresh⟩
def rRep : R2 := fun x y H Q => ∃ l k xs, x = .ref l ∧ y = .int k ∧ H l = some (.lst xs) ∧ -(2 ^ 63) ≤ k ∧ k < 2 ^ 63 ∧ xs.length * k.toNat ≤ sizeLine ∧
  ∀ p, H p = none → Q (.ref p) (upd H p (.lst (List.replicate k.toNat xs).flatten))
theorem len_rep {α : Type} (xs : List α) (k : Nat) : (List.replicate k xs).flatten.length = k * xs.length := by
  induction k with
  | zero => simp
  | succ k ih => rw [List.replicate_succ, List.flatten_cons, List.length_append, ih, Nat.succ_mul, Nat.add_comm]
theorem op_rep : OpR X (binaryOp .Mult) rRep := by
  intro pins s σ H x y v u Q I rx ry h
  obtain ⟨l, k, xs, rfl, rfl, hH, h1, h2, hz, q⟩ := h
  cases rx
  obtain ⟨t, rfl⟩ := ry
  obtain ⟨z, its, n, r, hl, e⟩ := I.lstM hH
  have hlen : its.toArray.size * k.toNat ≤ sizeLine := by rw [List.size_toArray, ← hl]; exact hz
  have hcap : ¬ its.toArray.size * k.toNat > (2 ^ 63 - 1) / 8 := by
    have : (sizeLine : Nat) ≤ (2 ^ 63 - 1) / 8 := by decide
    lia
  have hfit : ¬ (!Builtin.List.listFitsIndex k) = true := by
    rw [fitsIndex_both h1 h2]
    exact Bool.false_ne_true
  have hlong : ¬ Builtin.List.listTooLong (its.toArray.size * k.toNat) = true := by
    rw [notLongL hlen]
    exact Bool.false_ne_true
  have hnew : List.foldl (fun x1 x2 => x1 ++ x2) #[] (List.replicate (if its.toArray.isEmpty = true then 0 else k.toNat) its.toArray) = (List.replicate k.toNat its).flatten.toArray := by
    have f0 : ∀ m : Nat, List.foldl (fun x1 x2 => x1 ++ x2) #[] (List.replicate m its.toArray) = (List.replicate m its).flatten.toArray := fun m => by
      have := foldl_rep its m []
      rw [List.nil_append] at this
      exact this
    rw [f0]
    cases its with
    | nil => simp
    | cons a r' => rw [if_neg (by simp)]
  refine wpAny_binaryOp_repeat_ref (T := "list") (U := "int") (by decide) ⟨_, e, rfl⟩ (fun s' => typeIs_int s' k t) noFill_list_mul F.fills_int_mul F.slot_int_rmul repeat_list F.slot_int_index.lookup
    (call_meets F.slot_int_rmul (typeIs_int s k t) F.entry_int_rmul (F.args_int_rmul_2 _ _) (int___rmul___int_list k t l its.toArray n)
      ⟨e, rfl, ⟨_, e, rfl⟩, call_meets F.slot_list_mul ⟨_, e, rfl⟩ F.entry_list_mul (F.args_list_mul_2 _ _) (AutoListH.list___mul___list_int_3 l its.toArray n k t hfit hcap hlong) ⟨e, ?_⟩⟩)
  rw [hnew]
  exact ⟨.ref _, _, I.lnew (t' := s.toks) (r.rep k.toNat) (by rw [len_rep, Nat.mul_comm]; exact hz), rfl, q _ I.fresh⟩
end
section
variable {prog : Program} {w : World} {A : Around} {E : Value → Shared → Prop} {s : Shared}
set_option maxRecDepth 100000 in
end
end L2
namespace L2
open PySem PySem.Spec PyProof.Rows
section
variable {κ : Type} [DecidableEq κ]
noncomputable def valV (kvs : List (κ × V)) (k : κ) : Option V := (kvs.find? fun kv => decide (kv.1 = k)).map (·.2)
theorem valV_pos {p : κ × V} {r : List (κ × V)} {k : κ} (e : p.1 = k) : valV (p :: r) k = some p.2 := by simp [valV, List.find?_cons, e]
theorem valV_neg {p : κ × V} {r : List (κ × V)} {k : κ} (e : ¬ p.1 = k) : valV (p :: r) k = valV r k := by simp [valV, List.find?_cons, e]
theorem KV.val {kvs : List (κ × V)} {vs : List (κ × Value)} (r : KV kvs vs) (k : κ) : RelO (valV kvs k) (valueAt vs k) := by
  unfold KV at r
  induction r with
  | nil => exact True.intro
  | @cons p q ps qs h t ih =>
    obtain ⟨h1, h2⟩ := h
    by_cases e : p.1 = k
    · have e' : q.1 = k := h1.symm.trans e
      have b : valueAt (q :: qs) k = some q.2 := by simp [valueAt, List.find?_cons, e']
      rw [valV_pos e, b]; exact h2
    · have e' : ¬ q.1 = k := fun z => e (h1.trans z)
      have b : valueAt (q :: qs) k = valueAt qs k := by simp [valueAt, List.find?_cons, e']
      rw [valV_neg e, b]; exact ih
theorem KV.length {kvs : List (κ × V)} {vs : List (κ × Value)} (r : KV kvs vs) : kvs.length = vs.length := Paired.length r
end
theorem kV_is {P : Program} {w : World} {k : Key} {u : Value} (r : RelV (kV k) u) : (mixKind P w).is k u = true := by
  cases k with
  | inl i => obtain ⟨t, e⟩ := (show ∃ t, u = Value.int i t from r); subst e; exact mixKind_int P w i t
  | inr x => obtain ⟨t, e⟩ := (show ∃ t, u = Value.str x t from r); subst e; exact mixKind_str P w x t
theorem items_are {P : Program} {w : World} : ∀ {ks : List Key} {us : List Value}, Vals (ks.map kV) us → ItemsAre (mixKind P w) ks us
  | [], _, r => by rw [List.map_nil] at r; cases r; exact .nil
  | k :: ks, _, r => by
    rw [List.map_cons] at r
    cases r with
    | cons h t => exact .cons (kV_is h) (items_are t)
abbrev KT (H : Hp) : List (List Key × V) → List (List Key × Addr × Value) → Prop := Paired fun p q => p.1 = q.1 ∧ H q.2.1 = some (.tup (p.1.map kV)) ∧ RelV p.2 q.2.2
theorem KT.val {H : Hp} {kvs : List (List Key × V)} {xs : List (List Key × Addr × Value)} (r : KT H kvs xs) (k : List Key) : RelO (valV kvs k) ((atKey xs k).map (·.2)) := by
  induction r with
  | nil => exact True.intro
  | @cons p q ps qs h t ih =>
    obtain ⟨h1, _, h2⟩ := h
    by_cases e : p.1 = k
    · have e' : q.1 = k := h1.symm.trans e
      have b : atKey (q :: qs) k = some q.2 := by simp [atKey, List.find?_cons, e']
      rw [valV_pos e, b]; exact h2
    · have e' : ¬ q.1 = k := fun z => e (h1.trans z)
      have b : atKey (q :: qs) k = atKey qs k := by simp [atKey, List.find?_cons, e']
      rw [valV_neg e, b]; exact ih
section
variable {P : Program} {w : World} {H : Hp} {h : Heap} {a : Addr}
theorem rd_of {u : HO} (ok : HOk P w H h) (e : Rd H a u) : ObjOk P w H h a u := e.ok ok
theorem dk_rd {kvs : List (Key × V)} (ok : HOk P w H h) (e : Rd H a (.dK kvs)) : kvs.length ≤ sizeLine ∧ (a == sysModules) = false ∧ ∃ vs, KV kvs vs ∧ h.DictOf (mixKind P w) a vs :=
  show ObjOk P w H h a (.dK kvs) from rd_of ok e
theorem dk_of {kvs : List (Key × V)} (ok : HOk P w H h) (e : H a = some (.dK kvs)) : kvs.length ≤ sizeLine ∧ (a == sysModules) = false ∧ ∃ vs, KV kvs vs ∧ h.DictOf (mixKind P w) a vs := dk_rd ok (.inl e)
theorem key_of {ks : List Key} (ok : HOk P w H h) (e : H a = some (.tup (ks.map kV))) : (tupleKind (mixKind P w)).is h ks a := by
  obtain ⟨_, its, r, o, h1, h2, n, h3⟩ := (show ObjOk P w H h a (.tup (ks.map kV)) from ok a _ e)
  exact ⟨o, its.toArray, n, h1, h2, h3, by simpa using items_are r⟩
theorem dt_rd {kvs : List (List Key × V)} (ok : HOk P w H h) (e : Rd H a (.dT kvs)) : kvs.length ≤ sizeLine ∧ (a == sysModules) = false ∧
    ∃ xs, KT H kvs xs ∧ h.DictOfH (tupleKind (mixKind P w)) a xs := by
  obtain ⟨z, y, xs, r, o, es, ep, h1, h2, h3, h4, h5⟩ := (show ObjOk P w H h a (.dT kvs) from rd_of ok e)
  refine ⟨z, y, xs, r, o, es, ep, h1, h2, h3, h4, fun x hx => ?_, h5⟩
  have all : ∀ {l : List (List Key × V)} {m : List (List Key × Addr × Value)}, KT H l m → ∀ x ∈ m, (tupleKind (mixKind P w)).is h x.1 x.2.1 := by
    intro l m q
    induction q with
    | nil => intro x hx; exact nomatch hx
    | @cons p q ps qs hq t ih =>
      intro x hx
      rcases List.mem_cons.mp hx with e | hx
      · subst e
        exact key_of ok (by rw [← hq.1]; exact hq.2.1)
      · exact ih x hx
  exact all r x hx
end
def DGet (H : Hp) (a : Addr) (y : V) (r : Option V) : Prop :=
  (∃ kvs k, Rd H a (.dK kvs) ∧ y = kV k ∧ r = valV kvs k) ∨ ∃ kvs k b, Rd H a (.dT kvs) ∧ y = .ref b ∧ H b = some (.tup (k.map kV)) ∧ r = valV kvs k
theorem DGet.k {H : Hp} {a : Addr} {kvs : List (Key × V)} {k : Key} (e : H a = some (.dK kvs)) : DGet H a (kV k) (valV kvs k) := .inl ⟨kvs, k, .inl e, rfl, rfl⟩
section
variable {X : Cx} {pins : List (Addr × Obj)} {σ : St} {H : Hp} {s : Shared} {a : Addr} {y v : V} {u r : Value} {o : Option V} {A : Around} {E : Value → Shared → Prop}
theorem d_getItem {Q : Value → Shared → Prop} (hu : A.units + 1 < cLine) (I : Inv X pins σ H s) (g : DGet H a y (some v)) (ry : RelV y u) (h : ∀ w' s', Inv X pins σ H s' → RelV v w' → Q w' s') :
    wpAny (model X.prog X.w) A (getItem (.ref a) u) Q E s := by
  rcases g with ⟨kvs, k, e, ey, l⟩ | ⟨kvs, k, b, e, ey, eb, l⟩
  · subst ey
    obtain ⟨z, hd, vs, rel, dd⟩ := dk_rd I.hok e
    obtain ⟨w', hw, rw'⟩ := RelO.some_of (v := v) (o := valueAt vs k) (by rw [l]; exact rel.val k)
    exact wpAny_getItem_of (kV_is ry) dd.mapOf hw (h w' _ (I.tok _) rw')
  · subst ey
    cases (show u = Value.ref b from ry)
    obtain ⟨z, hd, xs, rel, dd⟩ := dt_rd I.hok e
    obtain ⟨w', hw, rw'⟩ := RelO.some_of (v := v) (o := (atKey xs k).map (·.2)) (by rw [l]; exact rel.val k)
    obtain ⟨p, hp, hp2⟩ := Option.map_eq_some_iff.mp hw
    refine wpAny_getItem_heap (tupleKind_room_in1 hu) (key_of I.hok eb) dd hp ?_
    rw [hp2]
    exact h w' _ (I.tok _) rw'
end
section
variable {X : Cx} {pins : List (Addr × Obj)} {σ : St} {H : Hp} {s : Shared} {a : Addr} {kvs : List (Key × V)} {k : Key} {u : Value} {A : Around} {E : Value → Shared → Prop}
theorem d_len {Q : Value → Shared → Prop} (I : Inv X pins σ H s) (e : Rd H a (.dK kvs)) (h : ∀ t s', Inv X pins σ H s' → Q (.int kvs.length t) s') : wpAny (model X.prog X.w) A (call (.builtin "len") [.ref a]) Q E s := by
  obtain ⟨z, hd, vs, rel, dd⟩ := dk_rd I.hok e
  refine call_len_dict hd dd (by rw [← rel.length]; rw [sizeLine_eq] at z; lia) ?_
  rw [← rel.length]
  exact h _ _ (I.tok _)
end
theorem dict_typeIs {X : Cx} {pins : List (Addr × Obj)} {σ : St} {H : Hp} {s : Shared} {a : Addr} {y : V} {o : Option V} (I : Inv X pins σ H s) (g : DGet H a y o) : s.TypeIs (.ref a) "dict" := by
  rcases g with ⟨kvs, k, e, _, _⟩ | ⟨kvs, k, b, e, _, _, _⟩
  · obtain ⟨_, _, vs, _, dd⟩ := dk_rd I.hok e
    exact dd.typeIs
  · obtain ⟨_, _, xs, _, dd⟩ := dt_rd I.hok e
    exact dd.typeIs
end L2
namespace Att
open PySem PySem.W PySem.Calls PyProof.Rows
theorem ints_of_wellAll {P : Params} {h : Heap} : ∀ (ns : List Int) (vs : List Value), WellAll P h vs (ns.map WData.int) → IntsAre vs ns := by
  intro ns
  induction ns with
  | nil =>
    intro vs w
    rw [List.map_nil] at w
    cases w
    exact .nil
  | cons n ns ih =>
    intro vs w
    rw [List.map_cons] at w
    cases w with
    | cons a b =>
      cases a
      exact .cons _ _ (ih _ b)
theorem script_of {l : OpenLaw} {n : Nat} (hn : l.most = some n) {P : Params} {h : Heap} {args : List WData} {vals : List Value}
    (hpre : l.row.toRowW.claim.pre args = true) (hwl : WellAll P h vals args) :
    ∃ a vs ns, vals = [Value.ref a] ∧ args = [WData.list (ns.map WData.int)] ∧ h.get? a = some { cls := .type "list", data := .seq vs.toArray } ∧ IntsAre vs ns ∧ ns.length ≤ n := by
  have hsh : WShape.hasAll [] args [.list .int] = true := (pre_splitW hpre).1
  have hc : l.pre.holds [] { args := args } = true := (pre_splitW hpre).2
  obtain ⟨d, r, rfl, h1, h2⟩ := hasAllW_cons hsh
  obtain rfl := hasAllW_nil h2
  obtain ⟨xs, rfl, h3⟩ := hasW_list h1
  obtain ⟨ns, rfl⟩ := items_int h3
  have hlen : ns.length ≤ n := by
    unfold OpenLaw.pre at hc
    have h4 : (WTm.not (.lt (.lit (.int (n : Int))) (.len (.arg 0)))).holds [] { args := [.list (ns.map .int)] } = true := by
      have h4 := (holds_andW hc).1
      rw [hn] at h4
      exact h4
    have h5 := condW_of h4 (w_not (w_lt w_lit (w_len_list (w_arg rfl))))
    rw [List.length_map] at h5
    refine Nat.le_of_not_lt fun q => ?_
    have q' : (n : Int) < ((ns.length : Nat) : Int) := by lia
    first
      | (rw [decide_eq_true q'] at h5; exact absurd h5 (by decide))
      | (simp at h5; lia)
  cases hwl with
  | cons w1 w2 =>
    cases w2
    cases w1 with
    | list ho hall => exact ⟨_, _, ns, rfl, rfl, ho, ints_of_wellAll ns _ hall, hlen⟩
theorem post_true (l : OpenLaw) (args : List WData) : l.row.toRowW.claim.post args (.bool true) args = true :=
  postW_of (r := l.row.toRowW) (X := (true == true))
    (show WShape.has [] (.bool true) .bool = true by first | rfl | decide | simp [WShape.has, WShape.arms, WShape.armsAll])
    (show (WTm.eq .res (.lit (.bool true))).value [] { args := args, res := some (.bool true), after := args } = some (.bool (true == true)) from w_eq_bool (w_res rfl) w_lit) rfl
theorem attach_call {l : OpenLaw} {n : Nat} {q : Program} {loose : List Str} {XP : (Str → Option Value) → Heap → Prop} {YP : World → Heap → Prop} {d : DefRec}
    (hn : l.most = some n) (hdf : d.params.defaults = [])
    (call : ∀ (w : World) (s₀ s₁ : Shared) (mg mb : Str → Option Value) (fa : Addr) (o : Obj) (pm cd doc : Value) (a : Addr) (vs : List Value) (ns : List Int),
      Ground q loose [] XP w s₀ mg mb s₁.heap → YP w s₁.heap →
      s₁.heap.get? fa = some o → o.data = .func (docDef d.name d.params d.body d.scope pm cd doc) → s₁.heap.CodeRec cd d.name → mg d.name = some (.ref fa) →
      s₁.heap.get? a = some { cls := .type "list", data := .seq vs.toArray } → IntsAre vs ns → ns.length ≤ n → s₁.gens = #[] →
      codeAny (model l.prog w) callerA (.call (.ref fa) ⟨[.ref a], []⟩) (fun r s' => r = .ok (.ret (.bool true)) ∧ OldK s₁.heap s'.heap ∧ s'.os = s₁.os ∧ AllBare s'.gens) s₁) :
    WalkO q loose XP YP l.row.toRowW d [] (fun f vs => PySem.call f vs) := by
  intro w s₀ s₁ mg mb G Y fa o pm cd doc dV kV ho hd hcd hD hmg hg args vals as hpre hlay hrd hwl hlo
  obtain rfl : dV = .none := Dflts.none hD hdf
  obtain rfl : kV = .none := Dflts.noKw hD
  obtain ⟨a, vs, ns, rfl, rfl, hobj, hints, hlen⟩ := script_of hn hpre hwl
  refine enter_call (codeAny_mono (call w s₀ s₁ mg mb fa o pm cd doc a vs ns G Y ho (fd_plain hd) hcd hmg hobj hints hlen hg) fun r s' hq => ?_)
  obtain ⟨rfl, h2, h3, h4⟩ := hq
  exact ⟨.inl ⟨.bool true, .bool true, [], rfl, fun _ => rfl, .bool true, post_true l _, fun _ => ⟨List.Pairwise.nil, fun _ hm => (nomatch hm)⟩⟩, h2, h3, h4⟩
end Att
namespace L2
open PySem PySem.Spec PyProof.Rows
theorem vals_ints : ∀ {vs : List Value} {ns : List Int}, IntsAre vs ns → Vals (ns.map V.int) vs
  | _, _, .nil => .nil
  | _, _, .cons n t h => .cons ⟨t, rfl⟩ (vals_ints h)
def Only (H : Hp) : Prop := ∀ b, H b = none ∨ ∃ o xs, H b = some (.frz o (.lst xs))
theorem law_call {P : Program} {w : World} {K : PySem.W.Frag} {mg mb : Str → Option Value} {CX : CXT} {k : Nat} {fa a : Addr} {fd : FuncData} {x : Str} {sp : Sp} {s₁ : Shared} {vs : List Value} {ns : List Int}
    (KX : K.In s₁.heap) (hns : s₁.heap.Ns mainGlobals mg) (hb : s₁.heap.Ns builtinsNs mb) (hbb : ∀ x : Str, x ≠ "__name__" → mb x = bootBuiltins x) (hlim : s₁.heap.NoLimit) (hg : s₁.gens = #[])
    (ha : s₁.heap.get? a = some { cls := .type "list", data := .seq vs.toArray }) (hi : IntsAre vs ns) (hl : ns.length ≤ sizeLine) (hr : Room k callerA)
    (F : ∀ base : Heap, K.In base → base.Ns mainGlobals mg → FnOk P w K mg base CX k fa fd [x] sp) (hT : fd.scope.names.lookup x = some .local) (hbind : ∀ (s : Shared) (u : Value), BindsTo s fd ⟨[u], []⟩ [(x, u)])
    (hsp : ∀ H : Hp, Only H → SqL K H a (ns.map V.int) → sp [.ref a] H (fun v _ => v = .bl true) fun _ _ _ => False)
    (hCX : ∀ H e s', CX [] H s₁ (fun _ _ _ => False) e s' → False) :
    codeAny (model P w) callerA (.call (.ref fa) ⟨[.ref a], []⟩) (fun r s' => r = .ok (.ret (.bool true)) ∧ OldK s₁.heap s'.heap ∧ s'.os = s₁.os ∧ AllBare s'.gens) s₁ := by
  have rv := vals_ints hi
  have lenV := hi.length
  have core : ∀ H : Hp, Only H → SqL K H a (ns.map V.int) → HOk P w H s₁.heap → (∀ b, H b ≠ none → b = a) → (H a ≠ none → K.lookup a = none) →
      codeAny (model P w) callerA (.call (.ref fa) ⟨[.ref a], []⟩) (fun r s' => r = .ok (.ret (.bool true)) ∧ OldK s₁.heap s'.heap ∧ s'.os = s₁.os ∧ AllBare s'.gens) s₁ := by
    intro H hO hS hok hA hK
    have base_of : ∀ {b : Addr} {o : Obj}, s₁.heap.get? b = some o → H b = none → (hidT s₁.heap H).get? b = some o := fun e n => hidT_get e n
    have noA : ∀ {b : Addr} {o : Obj} {es : Array DictEntry} {ep : Nat}, s₁.heap.get? b = some o → o.data = .dict es ep → H b = none := fun {b o es ep} e d => by
      cases q : H b with
      | none => rfl
      | some u =>
        have e' : b = a := hA b (by rw [q]; simp)
        subst e'
        rw [ha] at e; cases e
        have d' : Data.seq vs.toArray _ = Data.dict es ep := d
        cases d'
    have nsK : ∀ {b : Addr} {m : Str → Option Value}, s₁.heap.Ns b m → (hidT s₁.heap H).Ns b m := fun {b m} ⟨o, es, ep, e, d, r⟩ => ⟨o, es, ep, base_of e (noA e d), d, r⟩
    have hKb : K.In (hidT s₁.heap H) := fun b o e => base_of (KX b o e) (by
      cases q : H b with
      | none => rfl
      | some u =>
        have e' : b = a := hA b (by rw [q]; simp)
        subst e'
        rw [hK (by rw [q]; simp)] at e; cases e)
    have hM : Mod K mg (hidT s₁.heap H) := ⟨hKb, nsK hns, ⟨mb, nsK hb, hbb⟩, let ⟨mc, h1, h2⟩ := hlim; ⟨mc, nsK h1, h2⟩⟩
    have e0 : Env0 P w K mg (hidT s₁.heap H) callerA [] s₁ H := ⟨rfl, hM, fun b o e => of_hidT e, Nat.le_of_eq (hidT_size _ _), trivial, fun b hb => absurd (show b ∈ ([] : List Addr) from hb) (by simp), hok, .of_eq hg⟩
    refine codeAny_mono ((F _ hKb (nsK hns)).run callerA [] s₁ H ⟨[.ref a], []⟩ [.ref a] [.ref a] _ _ hr e0 (.inr ⟨x, List.mem_singleton.mpr rfl, hT⟩) (hbind s₁ (.ref a)) (.cons rfl .nil) (hsp H hO hS)) fun r s' h => ?_
    cases r with
    | error e => exact (hCX H e s' h).elim
    | ok fl =>
      cases fl with
      | next => exact False.elim h
      | brk => exact False.elim h
      | cont => exact False.elim h
      | ret u =>
        obtain ⟨v, H', os, bare, un, hok', r', q⟩ := h
        have q' : v = .bl true := q
        subst q'
        obtain rfl : u = Value.bool true := r'
        refine ⟨rfl, OldK.of_keep fun b o e => ?_, os, bare⟩
        cases q : H b with
        | none => exact un.keep b o e q (by intro z; exact absurd (show b ∈ ([] : List Addr) from z) (by simp)) (by simp)
        | some u =>
          rcases hO b with z | ⟨ob, xs, z⟩
          · rw [q] at z; cases z
          · have z2 := un.frzs b ob _ z
            obtain ⟨e1, _⟩ := hok b _ z
            obtain ⟨e2, _⟩ := hok' b _ z2
            rw [e] at e1; cases e1
            exact e2
  cases hk : K.lookup a with
  | some o =>
    have e := KX a o hk
    rw [ha] at e
    cases e
    refine core (fun _ => none) (fun _ => .inl rfl) (.inr ⟨_, vs.toArray, _, hk, rfl, rfl, rfl, by rw [List.size_toArray, lenV]; exact hl, by simpa using rv⟩) (fun b u z => by have z' : (none : Option HO) = some u := z; cases z') (fun b z => absurd rfl z) fun z => absurd rfl z
  | none =>
    refine core (fun b => if b = a then some (.frz { cls := .type "list", data := .seq vs.toArray } (.lst (ns.map V.int))) else none) (fun b => ?_) (.inl (.inr ⟨{ cls := .type "list", data := .seq vs.toArray }, if_pos rfl⟩)) (fun b u z => ?_) (fun b z => ?_) fun _ => hk
    · by_cases hb : b = a
      · exact .inr ⟨_, _, if_pos hb⟩
      · exact .inl (if_neg hb)
    · by_cases hb : b = a
      · have z' := (if_pos hb).symm.trans z
        cases z'
        subst hb
        exact ⟨ha, by rw [List.length_map]; exact hl, vs, _, rv, ha⟩
      · have z' := (if_neg hb).symm.trans z
        cases z'
    · by_cases hb : b = a
      · exact hb
      · exact absurd (if_neg hb) z
end L2
namespace L2
open PySem PySem.Spec PyProof.Rows
theorem walk_of {l : PySem.W.OpenLaw} {n k : Nat} {q : Program} {loose : List Str} {XP : (Str → Option Value) → Heap → Prop} {YP : World → Heap → Prop} {d : DefRec} {K : Params → PySem.W.Frag} {CX : World → CXT} {sp : World → Sp} {x : Str}
    (hn : l.most = some n) (hn2 : n ≤ sizeLine) (hdf : d.params.defaults = []) (hr : Room k callerA)
    (hY : ∀ (w : World) (h : Heap), YP w h → (K w.params).In h)
    (F : ∀ (w : World) (mg : Str → Option Value) (fa : Addr) (h : Heap), (K w.params).In h → h.Ns mainGlobals mg → mg d.name = some (.ref fa) →
      ∃ fd : FuncData, (∀ (s : Shared) (u : Value), BindsTo s fd ⟨[u], []⟩ [(x, u)]) ∧ fd.scope.names.lookup x = some .local ∧
        ∀ base : Heap, (K w.params).In base → base.Ns mainGlobals mg → FnOk l.prog w (K w.params) mg base (CX w) k fa fd [x] (sp w))
    (hsp : ∀ (w : World) (H : Hp) (a : Addr) (ns : List Int), ns.length ≤ n → Only H → SqL (K w.params) H a (ns.map V.int) → sp w [.ref a] H (fun v _ => v = .bl true) fun _ _ _ => False)
    (hCX : ∀ (w : World) (H : Hp) (s : Shared) (e : Value) (s' : Shared), CX w [] H s (fun _ _ _ => False) e s' → False) :
    PySem.W.WalkO q loose XP YP l.row.toRowW d [] (fun f vs => PySem.call f vs) := by
  refine Att.attach_call hn hdf fun w s₀ s₁ mg mb fa o pm cd doc a vs ns G Y ho hd hcd hmg hobj hints hlen hg => ?_
  have KX := hY w _ Y
  obtain ⟨fd, hb, hT, hF⟩ := F w mg fa _ KX G.T.g hmg
  exact law_call KX G.T.g G.T.b G.T.builtins G.T.nolimit hg hobj hints (Nat.le_trans hlen hn2) hr hF hT hb (fun H hO hS => hsp w H a ns hlen hO hS) fun H e s' => hCX w H s₁ e s'
end L2
namespace L2
open PySem PySem.Spec PyProof.Rows
noncomputable def inClass (s : Stmt) (j : Nat) : Stmt := match s with
  | .ClassDef _ _ _ body _ _ _ _ _ _ _ => body.getD j (.Pass ⟨0, 0, 0, 0⟩)
  | _ => .Pass ⟨0, 0, 0, 0⟩
noncomputable def defArgs (s : Stmt) : Arguments := match s with
  | .FunctionDef _ a _ _ _ _ _ _ _ _ => a
  | _ => { posonlyargs := [], args := [], vararg := none, kwonlyargs := [], kw_defaults := [], kwarg := none, defaults := [] }
noncomputable def defBody (s : Stmt) : List Stmt := match s with
  | .FunctionDef _ _ b _ _ _ _ _ _ _ => b
  | _ => []
noncomputable def defScope (s : Stmt) : Scope := match s with
  | .FunctionDef _ _ _ _ _ _ sc _ _ _ => sc
  | _ => { kind := .function, names := [], isGenerator := false, isCoroutine := false }
abbrev CX0 : CXT := fun _ _ _ _ _ _ => False
abbrev E0 : XK := fun _ _ _ => False
theorem pass0 {X : Cx} : Passes CX0 X E0 := fun _ _ _ _ _ _ _ h => h.elim
structure Fun (K : PySem.W.Frag) (x qual : Str) (st : Stmt) (f : Addr) (fd : FuncData) : Prop where
  ex : ∃ (oc : Value) (od : Option Addr) (kV doc pm : Value) (an : Option Addr) (cdv ct : Value) (osl : Array (Option Value)),
    fd = PySem.W.fnOf x qual (defArgs st) (defBody st) (defScope st) .none kV doc pm an cdv ct ∧ K.lookup f = some ⟨oc, od, .func fd, osl⟩ ∧ PySem.W.codeIn K cdv qual = true
  kp : PySem.W.keepIn K (.ref f) = true
section
variable {P : Program} {w : World} {K : PySem.W.Frag} {mg : Str → Option Value} {base : Heap}
theorem Fun.ok {x qual : Str} {st : Stmt} {f : Addr} {fd : FuncData} {N ps : List Str} {k : Nat} {sp : Sp} (F : Fun K x qual st f fd) (S : FnScope N ps (defScope st)) (len : ∀ vs H Q E, sp vs H Q E → vs.length = ps.length)
    (hbody : ∀ (cdv : Value) (A : Around) (outer : List Env) (s : Shared) (H : Hp) (vs : List V) (Q : VK) (E : XK), Room k (A.deeper (envOfC qual (defScope st) s.heap.objs.size f cdv)) → sp vs H Q E →
      ∃ t, PSs (cxOf CX0 P w K mg base N qual (defScope st) f cdv A outer s H E).nox (defBody st) t ∧ t { nx := fun _ H' => Q .non H', rt := Q } (start N vs) H) : FnOk P w K mg base CX0 (k + 1) f fd ps sp := by
  obtain ⟨oc, od, kV, doc, pm, an, cdv, ct, osl, rfl, lk, hcd⟩ := F.ex
  refine fn_of lk hcd S len fun A outer s H vs Q E hr hsp => ?_
  obtain ⟨t, h, q⟩ := hbody cdv A outer s H vs Q E hr hsp
  exact ⟨t, h.nox, q⟩
theorem Fun.binds {x qual : Str} {st : Stmt} {f : Addr} {fd : FuncData} {ps : List Str} (F : Fun K x qual st f fd)
    (h : ∀ (kV doc pm : Value) (an : Option Addr) (cdv ct : Value) (us : List Value), us.length = ps.length → bindArgs (PySem.W.fnOf x qual (defArgs st) (defBody st) (defScope st) .none kV doc pm an cdv ct) ⟨us, []⟩ = pure (ps.zip us)) : Binds K fd ps [] := by
  obtain ⟨oc, od, kV, doc, pm, an, cdv, ct, osl, rfl, lk, hcd⟩ := F.ex
  exact .all (h kV doc pm an cdv ct)
theorem fun_mk {x qual : Str} {st : Stmt} {f : Addr} {oc : Value} {od an : Option Addr} {osl : Array (Option Value)} {kV doc pm cdv ct : Value} (l : K.lookup f = some ⟨oc, od, .func (PySem.W.fnOf x qual (defArgs st) (defBody st) (defScope st) .none kV doc pm an cdv ct), osl⟩)
    (c : PySem.W.codeIn K cdv qual = true) (k : PySem.W.keepIn K (.ref f) = true) : Fun K x qual st f (PySem.W.fnOf x qual (defArgs st) (defBody st) (defScope st) .none kV doc pm an cdv ct) := ⟨⟨oc, od, kV, doc, pm, an, cdv, ct, osl, rfl, l, c⟩, k⟩
end
theorem hu_of {A : Around} {k : Nat} (hr : Room k A) : A.units + 1 < cLine := Nat.lt_of_le_of_lt (Nat.add_le_add_left (by decide : 1 ≤ 64) _) hr.units
theorem iteF {A B : Prop} (h : B) : if false = true then A else B := by
  rw [if_neg Bool.false_ne_true]
  exact h
theorem iteT {A B : Prop} (h : A) : if true = true then A else B := by
  rw [if_pos rfl]
  exact h
end L2
namespace L2
open PySem PySem.Spec PyProof.Rows
section
variable {X : Cx}
theorem call_lenD : CallR X (.builtin "len") (fun xs H Q => ∃ a kvs, xs = [V.ref a] ∧ H a = some (.dK kvs) ∧ Q (.int kvs.length) H) := by
  intro pins s σ H xs us Q I r h
  obtain ⟨a, kvs, rfl, ha, q⟩ := h
  obtain ⟨u, rfl, ru⟩ := vals1 r
  cases ru
  exact d_len I (.inl ha) fun t s' I' => ⟨.int kvs.length, H, I', ⟨t, rfl⟩, q⟩
end
end L2
set_option maxHeartbeats 4000000
namespace L2
open PySem PySem.Spec PyProof.Rows
noncomputable abbrev compCx (X : Cx) (vars : List Str) (scope : Scope) (cl : List (Str × Addr)) (C : Addr) (fp : List Addr) (s₂ : Shared) (H₂ : Hp) : Cx where
  prog := X.prog
  w := X.w
  K := X.K
  mg := X.mg
  base := X.base
  A := X.A
  N := X.N ++ vars
  s₀ := s₂
  H₀ := H₂
  env := compEnvC scope cl C X.env
  outer := X.stack
  stack := X.stack
  ex := fp
  fn := fun _ => false
  calm := X.calm
  pn := []
  xe := fun _ _ => False
noncomputable def CellsIn (cells : List (Str × Addr)) : List (Str × Addr) → Prop
  | [] => True
  | p :: r => cells.lookup p.1 = some p.2 ∧ CellsIn cells r
theorem CellsIn.get {cells : List (Str × Addr)} : ∀ {cl : List (Str × Addr)} {x : Str} {c : Addr}, CellsIn cells cl → cl.lookup x = some c → cells.lookup x = some c
  | [], _, _, _, e => by simp at e
  | (y, d) :: r, x, c, h, e => by
    cases hx : x == y with
    | true =>
      simp only [List.lookup_cons, hx] at e
      have e1 : x = y := eq_of_beq hx
      subst e1
      rw [← e]
      exact h.1
    | false =>
      simp only [List.lookup_cons, hx] at e
      exact CellsIn.get h.2 e
noncomputable def okK (on : List (Str × NameKind)) (vars : List Str) (cl : List (Str × Addr)) (x : Str) : NameKind → Bool
  | .local => x == (".0" : Str) || vars.contains x
  | .cell => false
  | .free => (cl.lookup x).isSome && (on.lookup x == some .cell || on.lookup x == some .free)
  | _ => true
structure CompScope (X : Cx) (vars : List Str) (scope : Scope) (cl : List (Str × Addr)) : Prop where
  kind : scope.kind = .function
  clos : closureFor scope X.env = pure cl
  dis : (vars.all fun x => !X.N.contains x) = true
  zero : X.N.contains (".0" : Str) = false
  names : ∀ y ∈ scope.names, y.2 = .local → scope.names.lookup y.1 = some .local
  cells : CellsIn X.env.cells cl
  ok : (scope.names.all fun p => okK X.env.scope.names vars cl p.1 p.2) = true
theorem lookup_relabel {env : Env} {x : Str} : ∀ {names : List (Str × NameKind)},
    (names.map fun (n, k) => if (k == NameKind.free && env.scope.kind == .function && env.kindOf n == some .cell) then (n, NameKind.cell) else (n, k)).lookup x =
      (names.lookup x).map fun k => if (k == NameKind.free && env.scope.kind == .function && env.kindOf x == some .cell) then NameKind.cell else k
  | [] => rfl
  | (n, k) :: r => by
    have ih := @lookup_relabel env x r
    show List.lookup x ((if (k == NameKind.free && env.scope.kind == .function && env.kindOf n == some .cell) = true then (n, NameKind.cell) else (n, k)) :: _) = _
    cases hx : x == n with
    | true =>
      have e : x = n := eq_of_beq hx
      subst e
      by_cases hc : (k == NameKind.free && env.scope.kind == .function && env.kindOf x == some .cell) = true
      · rw [if_pos hc]; simp only [List.lookup_cons, hx, Option.map_some, if_pos hc]
      · rw [if_neg hc]; simp only [List.lookup_cons, hx, Option.map_some, if_neg hc]
    | false =>
      by_cases hc : (k == NameKind.free && env.scope.kind == .function && env.kindOf n == some .cell) = true
      · rw [if_pos hc]; simp only [List.lookup_cons, hx]; exact ih
      · rw [if_neg hc]; simp only [List.lookup_cons, hx]; exact ih
section
variable {X : Cx} {vars : List Str} {scope : Scope} {cl : List (Str × Addr)} {C D : Addr} {fp : List Addr} {s₂ : Shared} {H : Hp} {pins : List (Addr × Obj)} {σ : St}
theorem CompScope.okAt (S : CompScope X vars scope cl) {x : Str} {k : NameKind} (h : scope.names.lookup x = some k) : okK X.env.scope.names vars cl x k = true := by
  have := List.all_eq_true.mp S.ok (x, k) (PySem.mem_of_lookup h)
  exact this
theorem CompScope.noCell (S : CompScope X vars scope cl) : ∀ y ∈ scope.names, y.2 ≠ .cell := fun y hy e => by
  have h := List.all_eq_true.mp S.ok y hy
  rw [e] at h
  exact absurd (show false = true from h) Bool.false_ne_true
theorem CompScope.freeOf (S : CompScope X vars scope cl) {x : Str} (h : (compEnvC scope cl C X.env).kindOf x = some .cell ∨ (compEnvC scope cl C X.env).kindOf x = some .free) : scope.names.lookup x = some .free := by
  have e : (compEnvC scope cl C X.env).kindOf x = (scope.names.lookup x).map fun k => if (k == NameKind.free && X.env.scope.kind == .function && X.env.kindOf x == some .cell) then NameKind.cell else k := lookup_relabel
  rw [e] at h
  cases q : scope.names.lookup x with
  | none => rw [q] at h; simp at h
  | some k =>
    rw [q] at h
    by_cases hk : k = .free
    · rw [hk]
    · have hb : (k == NameKind.free) = false := by simpa using hk
      simp only [Option.map_some, hb, Bool.false_and, Bool.false_eq_true, if_false, Option.some.injEq] at h
      rcases h with h | h
      · subst h
        exact absurd rfl (S.noCell (x, .cell) (PySem.mem_of_lookup q))
      · exact absurd h hk
theorem CompScope.localOf (S : CompScope X vars scope cl) {x : Str} (h : (compEnvC scope cl C X.env).kindOf x = some .local) : scope.names.lookup x = some .local := by
  have e : (compEnvC scope cl C X.env).kindOf x = (scope.names.lookup x).map fun k => if (k == NameKind.free && X.env.scope.kind == .function && X.env.kindOf x == some .cell) then NameKind.cell else k := lookup_relabel
  rw [e] at h
  cases q : scope.names.lookup x with
  | none => rw [q] at h; simp at h
  | some k =>
    rw [q] at h
    simp only [Option.map_some, Option.some.injEq] at h
    split at h
    · cases h
    · rw [h]
theorem comp_start (I : Inv X pins σ H s₂) (S : CompScope X vars scope cl) (hf : ∀ b ∈ fp, FpOk X pins H b) (hob : ∀ b ∈ fp, ∃ o, s₂.heap.get? b = some o)
    {h₁ : Heap} {tk : Nat} (hD : s₂.heap.objs.size ≤ D) (hC : s₂.heap.objs.size ≤ C) (hDC : D ≠ C) {oD : Obj} (eD : h₁.get? D = some oD) (cD : ∀ v, oD.data ≠ .cell v) {m : Str → Option Value} (hn : h₁.Ns C m)
    (old : ∀ b o, s₂.heap.get? b = some o → h₁.get? b = some o) (ht : 0 < tk := by first | exact Nat.succ_pos _ | assumption | exact Inv.tk (by assumption) | lia) :
    Inv (compCx X vars scope cl C fp s₂ H) [(D, oD)] (σ ++ List.replicate vars.length none) H { s₂ with heap := h₁, toks := tk } := by
  have fpst : ∀ b ∈ fp, b ∉ frs X.stack := fun b hb z => by
    rcases List.mem_cons.mp (I.stkSub b z) with e | e
    · exact (hf b hb).2.1 e
    · exact (hf b hb).2.2.1 e
  have cget : ∀ x c, cl.lookup x = some c → X.env.cells.lookup x = some c := fun x c e => S.cells.get e
  have fpl : ∀ b ∈ fp, b < s₂.heap.objs.size := fun b hb => by
    obtain ⟨o, e⟩ := hob b hb
    exact Heap.lt_size e
  have ok : (compCx X vars scope cl C fp s₂ H).Ok := by
    refine ⟨I.ok.mod, S.kind, I.ok.glob, I.ok.blt, hC, fun x y c h1 h2 => I.ok.inj x y c (cget x c h1) (cget y c h2), fun x hx => ?_, fun x c h _ => absurd (show false = true from h) Bool.false_ne_true, I.ok.hd, I.ok.frames, .inl rfl,
      fun b hb => ⟨Nat.ne_of_lt (Nat.lt_of_lt_of_le (fpl b hb) hC), fun x c e z => (hf b hb).2.2.2.2.1 x c (cget x c e) z⟩, I.bs, Nat.le_trans I.ok.bsz I.sz, fun b o e hb => ?_, fpst, I.stack, I.stkFree⟩
    · have q := S.okAt (S.freeOf (C := C) hx)
      have q1 : ((cl.lookup x).isSome && (X.env.scope.names.lookup x == some .cell || X.env.scope.names.lookup x == some .free)) = true := q
      rw [Bool.and_eq_true] at q1
      exact Option.isSome_iff_exists.mp q1.1
    · rcases (hf b hb).2.2.2.1 with z | z
      · exact I.ok.noex b o e z
      · exact absurd (Nat.lt_of_lt_of_le (Heap.lt_size e) (Nat.le_trans I.ok.bsz z)) (Nat.lt_irrefl _)
  have nst : D ∉ frs X.stack := fun z => by
    rcases List.mem_cons.mp (I.stkSub D z) with e | e
    · exact absurd (Nat.lt_of_lt_of_le (e ▸ I.lt) hD) (Nat.lt_irrefl _)
    · exact I.nofs hD e
  refine ⟨ok, rfl, I.bare, Un.kept old, ⟨m, hn, fun i x v h1 h2 h3 => ?_⟩, fun x c e => ?_, I.hok.fresh hC, fun x c e => I.freeC x c (cget x c e), fun p hp => ?_, I.hok.kept old, ?_, ht⟩
  · have hlen := I.len
    have h1' : (X.N ++ vars)[i]? = some x := h1
    by_cases hi : i < σ.length
    · rw [List.getElem?_append_left (by lia)] at h1'
      rw [List.getElem?_append_left hi] at h2
      have inN : X.N.contains x = true := by
        rw [List.contains_iff_exists_mem_beq]
        exact ⟨x, List.mem_of_getElem? h1', by simp⟩
      have hk : (compEnvC scope cl C X.env).kindOf x = some .cell ∨ (compEnvC scope cl C X.env).kindOf x = some .free := by
        rcases h3 with h3 | h3
        · have q := S.okAt (S.localOf (C := C) h3)
          have q1 : (x == (".0" : Str) || vars.contains x) = true := q
          rw [Bool.or_eq_true] at q1
          rcases q1 with q1 | q1
          · have e0 : x = (".0" : Str) := eq_of_beq q1
            rw [e0, S.zero] at inN
            cases inN
          · have q2 := List.all_eq_true.mp S.dis x (by simpa using q1)
            rw [inN] at q2
            cases q2
        · exact h3
      have q := S.okAt (S.freeOf (C := C) hk)
      have q1 : ((cl.lookup x).isSome && (X.env.scope.names.lookup x == some .cell || X.env.scope.names.lookup x == some .free)) = true := q
      rw [Bool.and_eq_true, Bool.or_eq_true] at q1
      obtain ⟨c, hc⟩ := Option.isSome_iff_exists.mp q1.1
      have ho : X.env.scope.names.lookup x = some .cell ∨ X.env.scope.names.lookup x = some .free := by
        rcases q1.2 with z | z
        · exact .inl (eq_of_beq z)
        · exact .inr (eq_of_beq z)
      obtain ⟨m0, _, hl⟩ := I.loc
      obtain ⟨u, r, l⟩ := hl i x v h1' h2 (.inr ho)
      refine ⟨u, r, .inr ⟨hk, c, hc, ?_⟩⟩
      rcases l with ⟨l1, _⟩ | ⟨_, c', e', o, eo, ed⟩
      · have l2 : X.env.scope.names.lookup x = some .local := l1
        rcases ho with z | z
        · rw [l2] at z; cases z
        · rw [l2] at z; cases z
      · rw [cget x c hc] at e'
        cases e'
        exact ⟨o, old _ _ eo, ed⟩
    · rw [List.getElem?_append_right (by lia), List.getElem?_replicate] at h2
      split at h2 <;> cases h2
  · obtain ⟨v, o, eo, ed⟩ := I.cell x c (cget x c e)
    exact ⟨v, o, old _ _ eo, ed⟩
  · have e : p = (D, oD) := by simpa using hp
    subst e
    exact ⟨eD, I.hok.fresh hD, hDC, nst, cD⟩
  · show (σ ++ List.replicate vars.length none).length = (X.N ++ vars).length
    rw [List.length_append, List.length_append, List.length_replicate, I.len]
end
def PIfs (X : Cx) (ifs : List Expr) (t : TT) : Prop :=
  ∀ (pins : List (Addr × Obj)) (s : Shared) (σ : St) (H : Hp) (Q : Bool → Hp → Prop), Inv X pins σ H s → t σ H Q →
    wpAny (model X.prog X.w) X.A (forIn ifs true fun c r => if r = true then do let ok ← isTrue c X.env (eval c X.env); pure (ForInStep.yield ok) else pure (ForInStep.yield r)) (TP X pins σ Q) X.xe s
def tYes : TT := fun _ H Q => Q true H
theorem pifs_nil {X : Cx} : PIfs X [] tYes := fun _ _ _ H _ I h => wpAny_tests_nil ⟨H, I, h⟩
def Wk (σ σ' : St) : Prop := σ.length = σ'.length ∧ ∀ (i : Nat) v, σ[i]? = some (some v) → σ'[i]? = some (some v)
def tComp (n : Nat) (wi : TI) (g : TG) (ti : TT) (te : TE) : TE := fun σ H Q => wi σ H fun J H1 => ∃ W : Nat → Nat → List V → Hp → Prop, (∃ m, W 0 m [] H1) ∧ ∀ i m ys H2, W i m ys H2 → ys.length ≤ sizeLine ∧
  ((J.stop i H2 ∧ ∀ D, H2 D = none → Q (.ref D) (upd H2 D (.lst ys))) ∨
   (J.go i H2 ∧ ∀ x H3, J.yld i H2 x H3 → g x (σ ++ List.replicate n none) H3 fun σ2 H4 => Wk (σ ++ List.replicate n none) σ2 ∧ ti σ2 H4 fun b H5 =>
      if b = true then te σ2 H5 fun y H6 => ∃ m', m' < m ∧ W (i + 1) m' (ys ++ [y]) H6 else ∃ m', m' < m ∧ W (i + 1) m' ys H5))
theorem Inv.track {X : Cx} {pins : List (Addr × Obj)} {σ : St} {H : Hp} {s : Shared} {D : Addr} {o : HO} (I : Inv X pins σ H s) (hD : X.s₀.heap.objs.size ≤ D) (hn : H D = none) (hL : D ≠ X.env.locals)
    (hcl : ∀ x c, X.env.cells.lookup x = some c → c ≠ D) (hp : ∀ p ∈ X.pn ++ pins, p.1 ≠ D) (new : ObjOk X.prog X.w (upd H D o) s.heap D o) : Inv X pins σ (upd H D o) s := by
  have ne : ∀ {b u}, H b = some u → b ≠ D := fun e z => by rw [z, hn] at e; cases e
  refine ⟨I.ok, I.os, I.bare, ⟨I.base.keep, I.base.slot, fun b ob e n hx => ?_, I.base.there, fun b xs e => ?_, fun b ob u e => ?_, fun b ps e => ?_⟩, I.loc, I.cell, ?_, fun x c e => ?_, fun p hp' => ?_, fun b u e => ?_, I.len, I.tk⟩
  · rw [upd_ne (Nat.ne_of_lt (Nat.lt_of_lt_of_le (Heap.lt_size e) hD))]
    exact I.base.free b ob e n hx
  · have q := I.base.tups b xs e
    rw [upd_ne (ne q)]; exact q
  · have q := I.base.frzs b ob u e
    rw [upd_ne (ne q)]; exact q
  · obtain ⟨mo, q⟩ := I.base.tbls b ps e
    exact ⟨mo, by rw [upd_ne (ne q)]; exact q⟩
  · rw [upd_ne (Ne.symm hL)]; exact I.free
  · rw [upd_ne (hcl x c e)]; exact I.freeC x c e
  · obtain ⟨e1, e2, e3, e4, e5⟩ := I.pin p hp'
    exact ⟨e1, by rw [upd_ne (hp p hp')]; exact e2, e3, e4, e5⟩
  · by_cases hb : b = D
    · subst hb; rw [upd_same] at e; cases e; exact new
    · rw [upd_ne hb] at e
      exact (I.hok b u e).stay (fun _ _ _ q => q) (fun c q => by rw [upd_ne (ne q)]; exact q) fun c xs q => by rw [upd_ne (ne q)]; exact q
noncomputable abbrev lobj (us : List Value) (n : Nat) : Obj := { cls := .type "list", data := .seq us.toArray n }
section
variable {X : Cx} {vars : List Str} {scope : Scope} {cl : List (Str × Addr)} {C D it : Addr} {fp : List Addr} {s₂ : Shared} {H₂ : Hp} {tg elt iter : Expr} {ifs : List Expr} {pos : Pos} {J : It} {tn : Nat → Heap → Prop}
  {g : TG} {ti : TT} {te : TE} {R : Result → Shared → Prop}
theorem comp_loop (hc : X.calm = true) (T : Turn X.prog X.w X.K tg J fp it tn) (hg : PG (compCx X vars scope cl C fp s₂ H₂) tg g) (hi : PIfs (compCx X vars scope cl C fp s₂ H₂) ifs ti) (he : PE (compCx X vars scope cl C fp s₂ H₂) elt te)
    {σ0 : St} (W : Nat → Nat → List V → Hp → Prop) {F : List V → Hp → Prop} (hD0 : s₂.heap.objs.size ≤ D) (hDC : D ≠ C) (hDs : D ∉ frs X.stack) (hDc : ∀ x c, cl.lookup x = some c → c ≠ D)
    (hS : ∀ b ∈ fp, b ≠ C ∧ b ∉ frs X.stack ∧ (∀ x c, cl.lookup x = some c → c ≠ b) ∧ D ≠ b)
    (turn : ∀ i m ys H2, W i m ys H2 → ys.length ≤ sizeLine ∧ ((J.stop i H2 ∧ F ys H2) ∨
      (J.go i H2 ∧ ∀ x H3, J.yld i H2 x H3 → g x σ0 H3 fun σ2 H4 => Wk σ0 σ2 ∧ ti σ2 H4 fun b H5 =>
        if b = true then te σ2 H5 fun y H6 => ∃ m', m' < m ∧ W (i + 1) m' (ys ++ [y]) H6 else ∃ m', m' < m ∧ W (i + 1) m' ys H5)))
    (hR : ∀ s' ys us n H2, Inv (compCx X vars scope cl C fp s₂ H₂) [(D, lobj us n)] σ0 H2 s' → Vals ys us → ys.length ≤ sizeLine → F ys H2 → R (.ok .next) s')
    {s : Shared} {m0 : Nat} {n0 : Nat} {H0 : Hp} (I0 : Inv (compCx X vars scope cl C fp s₂ H₂) [(D, lobj [] n0)] σ0 H0 s) (st0 : tn 0 s.heap) (f0 : ∀ b ∈ fp, H0 b = none) (w0 : W 0 m0 [] H0) :
    codeAny (model X.prog X.w) X.A (.compLoop (.ListComp elt [⟨tg, iter, ifs, 0⟩] scope pos) 0 (.ref it) (.ref D) (compEnvC scope cl C X.env)) R s := by
  have stat : ∀ {H' : Hp} {o : Obj}, (∀ b ∈ fp, H' b = none) → ∀ b ∈ fp, FpOk (compCx X vars scope cl C fp s₂ H₂) [(D, o)] H' b := fun {H' o} hn b hb =>
    ⟨hn b hb, (hS b hb).1, (hS b hb).2.1, .inl hb, (hS b hb).2.2.1, fun p hp => by
      have e : p = (D, o) := by simpa using hp
      subst e
      exact (hS b hb).2.2.2⟩
  refine codeAny_loop rfl (fun n s => ∃ i ys us nn H', Inv (compCx X vars scope cl C fp s₂ H₂) [(D, lobj us nn)] σ0 H' s ∧ Vals ys us ∧ tn i s.heap ∧ (∀ b ∈ fp, H' b = none) ∧ W i n ys H') (fun n s hI => ?_) m0 ⟨0, [], [], n0, H0, I0, .nil, st0, f0, w0⟩
  show wpAny _ X.A ((compTurn (.ListComp elt [⟨tg, iter, ifs, 0⟩] scope pos) 0 (.ref it) (.ref D) (compEnvC scope cl C X.env)).onRaise (fun x => do noteFrame x (compEnvC scope cl C X.env); theTreesLotGoes x)) _ _ s
  refine wpAny_noted ?_
  rw [compTurn_list]
  obtain ⟨i, ys, us, nn, H', I, rv, st, fr, w⟩ := hI
  obtain ⟨hz, tt⟩ := turn i n ys H' w
  refine wpAny_bind (wpAny_standAt (wpAny_bind ?_))
  rcases tt with ⟨stop, q⟩ | ⟨go, q⟩
  · refine wpAny_mono (T.done (compCx X vars scope cl C fp s₂ H₂) rfl rfl rfl hc i _ s σ0 H' _ I (stat fr) st stop) (fun r s1 ⟨hr, I1⟩ => ?_) (fun _ _ e => e)
    subst hr
    exact wpAny_pure (hR s1 ys us nn H' I1 rv hz q)
  · refine wpAny_mono (T.item (compCx X vars scope cl C fp s₂ H₂) rfl rfl rfl hc i _ s σ0 H' _ I (stat fr) st go) (fun r s1 ⟨u, hr, h1⟩ => ?_) (fun _ _ e => e)
    subst hr
    refine wpAny_bind (wpAny_mono h1 (fun _ s2 ⟨x, H3, I3, r3, y3, st3, fr3⟩ => ?_) (fun _ _ e => e))
    have I3' := I3.pinned (stat fr3) (T.obj _ _ st3)
    refine wpAny_bind (wpAny_mono (hg _ s2 σ0 H3 x u _ I3' r3 (q x H3 y3)) (fun _ s3 ⟨σ4, H4, I4, wk, q4⟩ => ?_) (fun _ _ f => False.elim f))
    refine wpAny_bind (wpAny_mono (hi _ s3 σ4 H4 _ I4 q4) (fun b s4 ⟨H5, I5, q5⟩ => ?_) (fun _ _ f => False.elim f))
    have back : ∀ {s7 : Shared} {H7 : Hp} {o : Obj}, Inv (compCx X vars scope cl C fp s₂ H₂) ((D, o) :: pinsAt fp s2.heap) σ4 H7 s7 → tn (i + 1) s7.heap ∧ ∀ b ∈ fp, H7 b = none := fun {s7 H7 o} I7 => by
      refine ⟨T.keep _ _ _ st3 fun b hb ob e => (I7.pin (b, ob) (List.mem_append_right _ (List.mem_cons_of_mem _ (mem_pinsAt hb e)))).1, fun b hb => ?_⟩
      obtain ⟨ob, e, d⟩ := T.obj _ _ st3 b hb
      exact (I7.pin (b, ob) (List.mem_append_right _ (List.mem_cons_of_mem _ (mem_pinsAt hb e)))).2.1
    have one : ∀ {s7 : Shared} {H7 : Hp} {o : Obj}, Inv (compCx X vars scope cl C fp s₂ H₂) ((D, o) :: pinsAt fp s2.heap) σ4 H7 s7 → Inv (compCx X vars scope cl C fp s₂ H₂) [(D, o)] σ0 H7 s7 := fun {s7 H7 o} I7 =>
      (I7.pins_of (pins' := [(D, o)]) fun p hp => by
        have e : p = (D, o) := by simpa using hp
        subst e
        exact I7.pin (D, o) (List.mem_append_right _ List.mem_cons_self)).weak wk.1 wk.2
    cases b with
    | false =>
      obtain ⟨m', hm, w'⟩ := q5
      obtain ⟨b1, b2⟩ := back I5
      exact wpAny_pure ⟨rfl, m', hm, i + 1, ys, us, nn, H5, one I5, rv, b1, b2, w'⟩
    | true =>
      refine wpAny_bind (wpAny_bind (wpAny_mono (he _ s4 σ4 H5 _ I5 q5) (fun v s5 ⟨y, H6, I6, r6, q6⟩ => ?_) (fun _ _ f => False.elim f)))
      obtain ⟨m', hm, w'⟩ := q6
      obtain ⟨eD, nD, _, _, _⟩ := I6.pin (D, lobj us nn) (List.mem_append_right _ List.mem_cons_self)
      have hul : us.toArray.size ≤ sizeLine := by rw [List.size_toArray, ← rv.length]; exact hz
      refine wpAny_bind (wpAny_list_append_plain (hsz := hul) ⟨nn, eD⟩ fun h' hp hs => wpAny_pure (wpAny_pure ⟨rfl, ?_⟩))
      obtain ⟨n', hp⟩ := hp
      have hp' : h'.get? D = some (lobj (us ++ [v]) n') := by rw [hp]; simp
      have I7 : Inv (compCx X vars scope cl C fp s₂ H₂) (pinsAt fp s2.heap) σ4 H6 { s5 with heap := h', toks := s5.toks } := by
        refine Inv.turned (it := D) (I6.pins_of (pins' := pinsAt fp s2.heap) fun p hp => I6.pin p (List.mem_append_right _ (List.mem_cons_of_mem _ hp))) (fun b o hb e => (hs.2 b hb).trans e) nD hDC (.inr hD0) (fun x c e => hDc x c e) fun p hp => ?_
        have hp2 : p ∈ pinsAt fp s2.heap := by simpa using hp
        exact Ne.symm (hS p.1 (of_pinsAt hp2).1).2.2.2
      have I8 : Inv (compCx X vars scope cl C fp s₂ H₂) ((D, lobj (us ++ [v]) n') :: pinsAt fp s2.heap) σ4 H6 { s5 with heap := h', toks := s5.toks } := I7.pins_of fun p hp => by
        rcases List.mem_cons.mp hp with rfl | hp
        · exact ⟨hp', nD, hDC, hDs, fun v z => by cases z⟩
        · exact I7.pin p (List.mem_append_right _ hp)
      obtain ⟨b1, b2⟩ := back I8
      exact ⟨m', hm, i + 1, ys ++ [y], us ++ [v], n', H6, one I8, rv.append (.cons r6 .nil), b1, b2, w'⟩
end
section
variable {X : Cx} {vars : List Str} {scope : Scope} {cl : List (Str × Addr)} {tg elt iter : Expr} {ifs : List Expr} {pos : Pos} {wi : TI} {g : TG} {ti : TT} {te : TE}
theorem comp_block (hc : X.calm = true) (S : CompScope X vars scope cl) (hg : ∀ C fp s₂ H₂, PG (compCx X vars scope cl C fp s₂ H₂) tg g) (ht : ∀ C fp s₂ H₂, PIfs (compCx X vars scope cl C fp s₂ H₂) ifs ti)
    (he : ∀ C fp s₂ H₂, PE (compCx X vars scope cl C fp s₂ H₂) elt te) {pins : List (Addr × Obj)} {σ : St} {s2 : Shared} {E : Value → Shared → Prop} {F : Addr → Hp → Prop} {RR : Value → Addr → Result → Shared → Prop} {itv : Value}
    (h2 : PIE X pins σ tg (fun J H1 => ∃ W : Nat → Nat → List V → Hp → Prop, (∃ m, W 0 m [] H1) ∧ ∀ i m ys H2, W i m ys H2 → ys.length ≤ sizeLine ∧
      ((J.stop i H2 ∧ ∀ D, H2 D = none → F D (upd H2 D (.lst ys))) ∨
       (J.go i H2 ∧ ∀ x H3, J.yld i H2 x H3 → g x (σ ++ List.replicate vars.length none) H3 fun σ2 H4 => Wk (σ ++ List.replicate vars.length none) σ2 ∧ ti σ2 H4 fun b H5 =>
          if b = true then te σ2 H5 fun y H6 => ∃ m', m' < m ∧ W (i + 1) m' (ys ++ [y]) H6 else ∃ m', m' < m ∧ W (i + 1) m' ys H5))) itv s2)
    (hRR : ∀ D C s' H', (∃ m, s'.heap.Ns C m) → C ≠ X.env.locals → (∀ x c, X.env.cells.lookup x = some c → c ≠ C) → Inv X pins σ H' s' → (∀ (h' : Heap), Heap.SameBut C s'.heap h' → ∀ (s'' : Shared), s'' = { s' with heap := h' } → Inv X pins σ H' s'') →
      (∀ (σ' : St) (s3 : Shared), Inv X pins σ' H' s3 → (∃ a, Heap.SameBut a s'.heap s3.heap ∧ (a = X.env.locals ∨ ∃ x, X.env.cells.lookup x = some a)) → ∀ (h' : Heap), Heap.SameBut C s3.heap h' → Inv X pins σ' H' { s3 with heap := h' }) →
      F D H' → RR (.ref D) C (.ok .next) s') :
    wpAny (model X.prog X.w) X.A (newList []) (fun acc s₃ => wpAny (model X.prog X.w) X.A (newFunctionEnv scope X.env.globals cl [] X.env.qual none .none (some X.env)) (fun cenv s₄ =>
      codeAny (model X.prog X.w) X.A (.compStart (.ListComp elt [⟨tg, iter, ifs, 0⟩] scope pos) 0 itv acc { cenv with scope := relabel scope X.env }) (RR acc cenv.locals) s₄) E s₃) E s2 := by
  obtain ⟨it, fp, tn, J, H2, e, I2, T, st2, f2, W, ⟨m0, w0⟩, turn⟩ := h2
  subst e
  refine wpAny_newObj_type (wpAny_newFunctionEnv S.noCell (by intro y hy; simp at hy) (fun h₁ hns₁ hsb₁ => ?_) S.kind)
  dsimp only at hns₁ hsb₁ ⊢
  generalize hH2 : s2.heap.push { cls := .type "list", dict := none, data := .seq ([] : List Value).toArray } = P2 at hns₁ hsb₁ ⊢
  have hC : P2.objs.size = s2.heap.objs.size + 1 := by rw [← hH2, Heap.size_push]
  have hDC : s2.heap.objs.size ≠ P2.objs.size := by rw [hC]; exact Nat.ne_of_lt (Nat.lt_succ_self _)
  have hCle : s2.heap.objs.size ≤ P2.objs.size := by rw [hC]; exact Nat.le_succ _
  have below : ∀ b, b < s2.heap.objs.size → b ≠ P2.objs.size ∧ b ≠ s2.heap.objs.size := fun b hb => ⟨by rw [hC]; exact Nat.ne_of_lt (Nat.lt_succ_of_lt hb), Nat.ne_of_lt hb⟩
  have old : ∀ b o, s2.heap.get? b = some o → h₁.get? b = some o := fun b o e => hsb₁.extBut b o (below b (Heap.lt_size e)).1 (Heap.get?_push_of_some _ (hH2 ▸ Heap.get?_push_of_some _ e))
  have hacc : h₁.get? s2.heap.objs.size = some (lobj [] 0) := hsb₁.extBut _ _ hDC (Heap.get?_push_of_some _ (hH2 ▸ Heap.get?_push_size _ rfl))
  have hst₁ : tn 0 h₁ := T.keep _ _ _ st2 fun b _ o e => old b o e
  have hob : ∀ b ∈ fp, ∃ o, s2.heap.get? b = some o := fun b hb => by
    obtain ⟨o, e, _⟩ := T.obj _ _ st2 b hb
    exact ⟨o, e⟩
  have fpl : ∀ b ∈ fp, b < s2.heap.objs.size := fun b hb => by
    obtain ⟨o, e⟩ := hob b hb
    exact Heap.lt_size e
  have cget : ∀ x c, cl.lookup x = some c → X.env.cells.lookup x = some c := fun x c e => S.cells.get e
  have celt : ∀ x c, X.env.cells.lookup x = some c → c < s2.heap.objs.size := fun x c e => by
    obtain ⟨v, q⟩ := I2.cell x c e
    exact q.lt
  have pint : ∀ p ∈ X.pn ++ pins, p.1 < s2.heap.objs.size := fun p hp => Heap.lt_size (I2.pin p hp).1
  have fpst : ∀ b ∈ fp, b ∉ frs X.stack := fun b hb z => by
    rcases List.mem_cons.mp (I2.stkSub b z) with e | e
    · exact (f2 b hb).2.1 e
    · exact (f2 b hb).2.2.1 e
  have nst : s2.heap.objs.size ∉ frs X.stack := fun z => by
    rcases List.mem_cons.mp (I2.stkSub _ z) with e | e
    · exact absurd (e ▸ I2.lt) (Nat.lt_irrefl _)
    · exact I2.nofs (Nat.le_refl _) e
  have CL : P2.objs.size ≠ X.env.locals := fun z => absurd (Nat.lt_of_lt_of_le (z ▸ I2.lt) hCle) (Nat.lt_irrefl _)
  have CC : ∀ x c, X.env.cells.lookup x = some c → c ≠ P2.objs.size := fun x c e => Nat.ne_of_lt (Nat.lt_of_lt_of_le (celt x c e) hCle)
  have CP : ∀ p ∈ X.pn ++ pins, p.1 ≠ P2.objs.size := fun p hp => Nat.ne_of_lt (Nat.lt_of_lt_of_le (pint p hp) hCle)
  have loop : ∀ s₃ : Shared, s₃ = { s2 with heap := h₁, toks := s2.toks + ([] : List (Str × Value)).length } →
      codeAny (model X.prog X.w) X.A (.compLoop (.ListComp elt [⟨tg, iter, ifs, 0⟩] scope pos) 0 (.ref it) (.ref s2.heap.objs.size) (compEnvC scope cl P2.objs.size X.env)) (RR (.ref s2.heap.objs.size) P2.objs.size) s₃ := by
    rintro s₃ rfl
    have I0 : Inv (compCx X vars scope cl P2.objs.size fp s2 H2) [(s2.heap.objs.size, lobj [] 0)] (σ ++ List.replicate vars.length none) H2 { s2 with heap := h₁, toks := s2.toks + ([] : List (Str × Value)).length } :=
      comp_start I2 S f2 hob (Nat.le_refl _) hCle hDC hacc (fun v z => by cases z) hns₁ old
    refine comp_loop hc T (hg _ _ _ _) (ht _ _ _ _) (he _ _ _ _) (D := s2.heap.objs.size) W (F := fun ys H' => ∀ D, H' D = none → F D (upd H' D (.lst ys))) (Nat.le_refl _) hDC nst (fun x c e => Nat.ne_of_lt (celt x c (cget x c e)))
      (fun b hb => ⟨(below b (fpl b hb)).1, fpst b hb, fun x c e z => (f2 b hb).2.2.2.2.1 x c (cget x c e) z, Nat.ne_of_gt (fpl b hb)⟩) turn ?_ I0 hst₁ (fun b hb => (f2 b hb).1) w0
    intro s' ys us n H' I' rv hz q
    obtain ⟨eD, nD, _, _, _⟩ := I'.pin (s2.heap.objs.size, lobj us n) (List.mem_append_right _ List.mem_cons_self)
    have J1 : Inv X pins σ H' s' := I2.call' I'.os I'.base I'.hok I'.bare (fun b hb => ⟨(f2 b hb).2.2.2.1, (f2 b hb).2.1, (f2 b hb).2.2.2.2.1, (f2 b hb).2.2.2.2.2⟩) I'.tk
    have J2 : Inv X pins σ (upd H' s2.heap.objs.size (.lst ys)) s' := J1.track I2.sz nD (fun z => absurd (z ▸ I2.lt) (Nat.lt_irrefl _)) (fun x c e => Nat.ne_of_lt (celt x c e)) (fun p hp => Nat.ne_of_lt (pint p hp)) ⟨hz, us, n, rv, eD⟩
    have nC : upd H' s2.heap.objs.size (.lst ys) P2.objs.size = none := by
      rw [upd_ne (Ne.symm hDC)]
      exact I'.free
    refine hRR _ _ s' _ ?_ CL CC J2 (fun h' hs s'' e => ?_) (fun σ' s3 I3 _ h' hs => ?_) (q _ nD)
    · obtain ⟨m, hn, _⟩ := I'.loc
      exact ⟨m, hn⟩
    · subst e
      exact J2.turned (t' := s'.toks) (it := P2.objs.size) (fun b o hb e => (hs.2 b hb).trans e) nC CL (.inr (Nat.le_trans I2.sz hCle)) CC CP
    · exact I3.turned (t' := s3.toks) (it := P2.objs.size) (fun b o hb e => (hs.2 b hb).trans e) nC CL (.inr (Nat.le_trans I2.sz hCle)) CC CP
  exact codeAny_compStart_list (loop _ rfl) (T.self _ 0 _ _ _ hst₁ (loop _ rfl))
theorem pe_comp (hc : X.calm = true) (S : CompScope X vars scope cl) (hi : PI X tg iter wi) (hg : ∀ C fp s₂ H₂, PG (compCx X vars scope cl C fp s₂ H₂) tg g) (ht : ∀ C fp s₂ H₂, PIfs (compCx X vars scope cl C fp s₂ H₂) ifs ti)
    (he : ∀ C fp s₂ H₂, PE (compCx X vars scope cl C fp s₂ H₂) elt te) (hs : ∀ x, foldedSetIterable iter X.env x = pure x := by intro _; rfl) : PE X (.ListComp elt [⟨tg, iter, ifs, 0⟩] scope pos) (tComp vars.length wi g ti te) := by
  intro pins s σ H Q I h
  rw [eval_ListComp]
  refine wpAny_comprehension_free (use := none) rfl hs S.clos S.kind S.names (thn (hi pins s σ H _ I h) fun v s1 h1 => thn h1 fun itv s2 h2 => ?_)
  refine comp_block hc S hg ht he (F := fun D H' => Q (.ref D) H') h2 fun D C s' H' hn hCL hCC J2 J3 _ q => ?_
  obtain ⟨m, hn⟩ := hn
  exact ⟨m, hn, fun h' hs' => ⟨.ref D, H', J3 h' hs' _ rfl, rfl, q⟩⟩
end
end L2
namespace L2
open PySem PySem.Spec PyProof.Rows PySem.Builtin.Str
section
variable {X : Cx}
theorem op_mul_str : OpR X (binaryOp .Mult) (fun x y H Q => ∃ z n, x = .str z ∧ y = .int n ∧ MulOk z n ∧ Q (.str (Txt.mul z n)) H) := by
  intro pins s σ H x y v u Q I rx ry h
  obtain ⟨z, n, rfl, rfl, hm, q⟩ := h
  obtain ⟨t, rfl⟩ := rx
  obtain ⟨t', rfl⟩ := ry
  exact wpAny_with_toks (n := 1) I.tk (SB.mul hm fun t' k hk => ⟨.str _, H, I.tok k hk, ⟨_, rfl⟩, q⟩)
end
mutual
inductive DatIs (K : PySem.W.Frag) (H : Hp) : V → PyData → Prop
  | non : DatIs K H .non .none
  | bl (b : Bool) : DatIs K H (.bl b) (.bool b)
  | int (i : Int) : DatIs K H (.int i) (.int i)
  | str (x : Str) : DatIs K H (.str x) (.str x)
  | lst {p : Addr} {xs : List V} {ds : List PyData} : SqL K H p xs → DatAll K H xs ds → DatIs K H (.ref p) (.list ds)
  | tup {p : Addr} {xs : List V} {ds : List PyData} : SqT K H p xs → DatAll K H xs ds → DatIs K H (.ref p) (.tuple ds)
inductive DatAll (K : PySem.W.Frag) (H : Hp) : List V → List PyData → Prop
  | nil : DatAll K H [] []
  | cons {v : V} {d : PyData} {vs : List V} {ds : List PyData} : DatIs K H v d → DatAll K H vs ds → DatAll K H (v :: vs) (d :: ds)
end
section
variable {X : Cx} {pins : List (Addr × Obj)} {σ : St} {H : Hp} {s : Shared}
mutual
theorem DatIs.reads (I : Inv X pins σ H s) : ∀ {v : V} {d : PyData} {u : Value}, DatIs X.K H v d → RelV v u → ∃ as, Reads s.heap u d as
  | _, _, _, .non, r => by cases r; exact ⟨_, .none⟩
  | _, _, _, .bl b, r => by cases r; exact ⟨_, .bool b⟩
  | _, _, _, .int i, r => by obtain ⟨t, rfl⟩ := r; exact ⟨_, .int i t⟩
  | _, _, _, .str x, r => by obtain ⟨t, rfl⟩ := r; exact ⟨_, .str x t⟩
  | _, _, _, .lst hq ha, r => by
    cases r
    obtain ⟨its, rv, ⟨o, n, e, hc, hd, hs⟩, _⟩ := I.list hq
    obtain ⟨as, ra⟩ := DatAll.reads I ha rv
    exact ⟨_, .list e hc hs (by simpa using ra)⟩
  | _, _, _, .tup hq ha, r => by
    cases r
    obtain ⟨its, rv, ⟨o, e, hc, n, hs⟩, _⟩ := I.tuple hq
    obtain ⟨as, ra⟩ := DatAll.reads I ha rv
    exact ⟨_, .tuple e hc hs (by simpa using ra)⟩
theorem DatAll.reads (I : Inv X pins σ H s) : ∀ {vs : List V} {ds : List PyData} {us : List Value}, DatAll X.K H vs ds → Vals vs us → ∃ as, ReadsAll s.heap us ds as
  | _, _, _, .nil, r => by cases r; exact ⟨_, .nil⟩
  | _, _, _, .cons h t, r => by
    cases r with
    | cons r1 r2 =>
      obtain ⟨as, ra⟩ := DatIs.reads I h r1
      obtain ⟨bs, rb⟩ := DatAll.reads I t r2
      exact ⟨_, .cons ra rb⟩
end
end
section
variable {X : Cx}
def rEqD (K : PySem.W.Frag) (neg : Bool) : R2 := fun x y H Q => ∃ d e, DatIs K H x d ∧ DatIs K H y e ∧ SeqAt.shaped d = true ∧ SeqAt.shaped e = true ∧ Q (.bl (if neg then !PyData.eqv d e else PyData.eqv d e)) H
theorem op_eqD {k : Nat} (hr : Room k X.A) : OpR X (compareOp .Eq) (rEqD X.K false) := by
  intro pins s σ H x y v u Q I rx ry h
  obtain ⟨d, e, hd, he, sd, se, q⟩ := h
  obtain ⟨as, ra⟩ := hd.reads I rx
  obtain ⟨bs, rb⟩ := he.reads I ry
  exact eq_dataH ra rb sd se hr.units ⟨.bl _, H, I, rfl, q⟩
theorem op_neD {k : Nat} (hr : Room k X.A) : OpR X (compareOp .NotEq) (rEqD X.K true) := by
  intro pins s σ H x y v u Q I rx ry h
  obtain ⟨d, e, hd, he, sd, se, q⟩ := h
  obtain ⟨as, ra⟩ := hd.reads I rx
  obtain ⟨bs, rb⟩ := he.reads I ry
  exact ne_dataH ra rb sd se hr.units ⟨.bl _, H, I, rfl, q⟩
end
end L2
namespace L2
open PySem PySem.Spec PyProof.Rows
section
variable {X : Cx}
def uAdd : R2 := fun x y H Q => match x, y with
  | .int i, .int j => Q (.int (i + j)) H
  | .str a, .str b => a.length + b.length ≤ sizeLine ∧ Q (.str (a ++ b)) H
  | .ref l, .ref b => ∃ xs zs, H l = some (.lst xs) ∧ H b = some (.lst zs) ∧ xs.length + zs.length ≤ sizeLine ∧ ∀ p, H p = none → Q (.ref p) (upd H p (.lst (xs ++ zs)))
  | _, _ => False
theorem u_add : OpR X (binaryOp .Add) uAdd := by
  intro pins s σ H x y v u Q I rx ry h
  cases x with
  | int i =>
    cases y with
    | int j => exact op_add pins s σ H _ _ v u Q I rx ry ⟨i, j, rfl, rfl, h⟩
    | _ => exact False.elim h
  | str a =>
    cases y with
    | str b => exact op_add_str pins s σ H _ _ v u Q I rx ry ⟨a, b, rfl, rfl, h⟩
    | _ => exact False.elim h
  | ref l =>
    cases y with
    | ref b =>
      obtain ⟨xs, zs, h1, h2, h3, h4⟩ := h
      exact op_cat pins s σ H _ _ v u Q I rx ry ⟨l, b, xs, zs, rfl, rfl, h1, h2, h3, h4⟩
    | _ => exact False.elim h
  | _ => exact False.elim h
def uMul : R2 := fun x y H Q => match x, y with
  | .int i, .int j => CMul i j ∧ Q (.int (i * j)) H
  | .str z, .int n => MulOk z n ∧ Q (.str (Txt.mul z n)) H
  | _, _ => False
theorem u_mul : OpR X (binaryOp .Mult) uMul := by
  intro pins s σ H x y v u Q I rx ry h
  cases x with
  | int i =>
    cases y with
    | int j => exact op_mul pins s σ H _ _ v u Q I rx ry ⟨i, j, rfl, rfl, h⟩
    | _ => exact False.elim h
  | str z =>
    cases y with
    | int n => exact op_mul_str pins s σ H _ _ v u Q I rx ry ⟨z, n, rfl, rfl, h⟩
    | _ => exact False.elim h
  | _ => exact False.elim h
def uMod : R2 := fun x y H Q => match x, y with
  | .int i, .int j => 0 < j ∧ Q (.int (i % j)) H
  | _, _ => False
theorem u_mod : OpR X (binaryOp .Mod) uMod := by
  intro pins s σ H x y v u Q I rx ry h
  cases x with
  | int i =>
    cases y with
    | int j => exact op_mod pins s σ H _ _ v u Q I rx ry ⟨i, j, rfl, rfl, h⟩
    | _ => exact False.elim h
  | _ => exact False.elim h
def uLt : R2 := fun x y H Q => match x, y with
  | .int i, .int j => Q (.bl (decide (i < j))) H
  | .str i, .str j => Q (.bl (decide (i.cps.toList < j.cps.toList))) H
  | _, _ => False
theorem u_lt : OpR X (compareOp .Lt) uLt := by
  intro pins s σ H x y v u Q I rx ry h
  cases x with
  | int i =>
    cases y with
    | int j => exact op_lt pins s σ H _ _ v u Q I rx ry ⟨i, j, rfl, rfl, h⟩
    | _ => exact False.elim h
  | str i =>
    cases y with
    | str j => exact op_lt_str pins s σ H _ _ v u Q I rx ry ⟨i, j, rfl, rfl, h⟩
    | _ => exact False.elim h
  | _ => exact False.elim h
def uIx (K : PySem.W.Frag) : R2 := fun x y H Q => match x, y with
  | .str z, .int i => ∃ c, z.length ≤ sizeLine ∧ atI z.cps.toList i = some c ∧ Q (.str ⟨#[c]⟩) H
  | .ref p, .int i => ∃ xs v, (SqL K H p xs ∨ SqT K H p xs) ∧ atI xs i = some v ∧ Q v H
  | _, _ => False
theorem u_ix : IxR X (uIx X.K) := by
  intro value slice pins s σ H x y v u Q I rx ry h hs
  cases x with
  | str z =>
    cases y with
    | int i =>
      obtain ⟨c, h1, h2, h3⟩ := h
      exact ix_str value slice pins s σ H _ _ v u Q I rx ry ⟨z, i, c, rfl, rfl, h1, h2, h3⟩ hs
    | _ => exact False.elim h
  | ref p =>
    cases y with
    | int i =>
      obtain ⟨xs, c, h1 | h1, h2, h3⟩ := h
      · exact ix_list value slice pins s σ H _ _ v u Q I rx ry ⟨p, xs, i, c, rfl, rfl, h1, h2, h3⟩ hs
      · exact ix_tup value slice pins s σ H _ _ v u Q I rx ry ⟨p, xs, i, c, rfl, rfl, h1, h2, h3⟩ hs
    | _ => exact False.elim h
  | _ => exact False.elim h
noncomputable def uLen (K : PySem.W.Frag) : List V → Hp → VK → Prop := fun xs H Q => match xs with
  | [.str z] => z.length ≤ sizeLine ∧ Q (.int z.length) H
  | [.ref p] => ∃ ys, (SqL K H p ys ∨ SqT K H p ys) ∧ Q (.int ys.length) H
  | _ => False
theorem u_len : CallR X (.builtin "len") (uLen X.K) := by
  intro pins s σ H xs us Q I r h
  cases xs with
  | nil => exact False.elim h
  | cons x xs =>
    cases xs with
    | cons _ _ => cases x <;> exact False.elim h
    | nil =>
      cases x with
      | str z => exact call_len_str pins s σ H _ us Q I r ⟨z, rfl, h⟩
      | ref p =>
        obtain ⟨ys, h1, h2⟩ := h
        exact call_len_seq pins s σ H _ us Q I r ⟨p, ys, rfl, h1, h2⟩
      | _ => exact False.elim h
end
theorem bt_len : bootBuiltins "len" = some (.builtin "len") := by decide +kernel
theorem bt_isinstance : bootBuiltins "isinstance" = some (.builtin "isinstance") := by decide +kernel
structure Has (P : Program) (w : World) (K : PySem.W.Frag) (mg : Str → Option Value) (base : Heap) (x : Str) (k : Nat) (ps : List Str) (sp : Sp) : Prop where
  ex : ∃ f fd, FnOk P w K mg base CX0 k f fd ps sp ∧ Binds K fd ps [] ∧ PySem.W.keepIn K (.ref f) = true ∧ mg x = some (.ref f)
section
variable {X : Cx} {k kk : Nat} {x : Str} {ps : List Str} {sp : Sp} {e : Expr} {es : List Expr} {t : TA} {p pos : Pos}
theorem pe_callH (h : Has X.prog X.w X.K X.mg X.base x k ps sp) (hr : Room kk X.A) (hk : k ≤ kk) (hg : Gl X x) (ha : PA X (e :: es) t) (hx : Passes CX0 X E0 := by exact pass0) (hdb : (x == ("__debug__" : Str)) = false := by decide)
    (he : starEach (e :: es) X.env = (false, eval e X.env) :: starEach es X.env := by rfl) (hpl : (backTo pos (starEach es X.env)).any (·.1) = false := by rfl) :
    PE X (.Call (.Name x p) (e :: es) [] pos) (tCall sp [] E0 t) := by
  obtain ⟨f, fd, F, b, kp, m⟩ := h.ex
  exact pe_call F (hr.mono hk) hg m kp b .nil hx ha hdb he hpl
end
end L2
namespace TX
open PySem
noncomputable def sp (y : Nat) : Nat := if y = 10 then 32 else y
end TX
namespace TS
open PySem PyProof.Rows
variable {prog : Program} {w : World} {A : Around} {E : Value → Shared → Prop} {s : Shared} {a₀ : Array Keyed} {κ : KeyKind}
abbrev H5 := Option (Array Keyed) × Nat × Nat × Array Keyed × Nat
end TS
namespace M
abbrev T := List Nat
inductive Kd where
  | str | int | bool | list | tuple | dict
  deriving DecidableEq
inductive D where
  | non | bl (b : Bool) | int (i : Int) | str (x : T) | tup (ds : List D) | ro (ds : List D) | ref (i : Nat) | ty (n : Kd)
mutual
noncomputable def D.decEq : (a b : D) → Decidable (a = b)
  | .non, .non => isTrue rfl
  | .bl a, .bl b => if h : a = b then isTrue (by rw [h]) else isFalse (fun e => h (D.bl.inj e))
  | .int a, .int b => if h : a = b then isTrue (by rw [h]) else isFalse (fun e => h (D.int.inj e))
  | .str a, .str b => if h : a = b then isTrue (by rw [h]) else isFalse (fun e => h (D.str.inj e))
  | .ref a, .ref b => if h : a = b then isTrue (by rw [h]) else isFalse (fun e => h (D.ref.inj e))
  | .ty a, .ty b => if h : a = b then isTrue (by rw [h]) else isFalse (fun e => h (D.ty.inj e))
  | .tup a, .tup b => match D.decEqs a b with
    | isTrue h => isTrue (by rw [h])
    | isFalse h => isFalse (fun e => h (D.tup.inj e))
  | .ro a, .ro b => match D.decEqs a b with
    | isTrue h => isTrue (by rw [h])
    | isFalse h => isFalse (fun e => h (D.ro.inj e))
  | .non, .bl _ | .non, .int _ | .non, .str _ | .non, .tup _ | .non, .ro _ | .non, .ref _ | .non, .ty _ => isFalse (fun e => nomatch e)
  | .bl _, .non | .bl _, .int _ | .bl _, .str _ | .bl _, .tup _ | .bl _, .ro _ | .bl _, .ref _ | .bl _, .ty _ => isFalse (fun e => nomatch e)
  | .int _, .non | .int _, .bl _ | .int _, .str _ | .int _, .tup _ | .int _, .ro _ | .int _, .ref _ | .int _, .ty _ => isFalse (fun e => nomatch e)
  | .str _, .non | .str _, .bl _ | .str _, .int _ | .str _, .tup _ | .str _, .ro _ | .str _, .ref _ | .str _, .ty _ => isFalse (fun e => nomatch e)
  | .tup _, .non | .tup _, .bl _ | .tup _, .int _ | .tup _, .str _ | .tup _, .ro _ | .tup _, .ref _ | .tup _, .ty _ => isFalse (fun e => nomatch e)
  | .ro _, .non | .ro _, .bl _ | .ro _, .int _ | .ro _, .str _ | .ro _, .tup _ | .ro _, .ref _ | .ro _, .ty _ => isFalse (fun e => nomatch e)
  | .ref _, .non | .ref _, .bl _ | .ref _, .int _ | .ref _, .str _ | .ref _, .tup _ | .ref _, .ro _ | .ref _, .ty _ => isFalse (fun e => nomatch e)
  | .ty _, .non | .ty _, .bl _ | .ty _, .int _ | .ty _, .str _ | .ty _, .tup _ | .ty _, .ro _ | .ty _, .ref _ => isFalse (fun e => nomatch e)
noncomputable def D.decEqs : (a b : List D) → Decidable (a = b)
  | [], [] => isTrue rfl
  | [], _ :: _ => isFalse (fun e => nomatch e)
  | _ :: _, [] => isFalse (fun e => nomatch e)
  | a :: r, b :: t => match D.decEq a b, D.decEqs r t with
    | isTrue h, isTrue k => isTrue (by rw [h, k])
    | isFalse h, _ => isFalse (fun e => h (List.cons.inj e).1)
    | _, isFalse k => isFalse (fun e => k (List.cons.inj e).2)
end
instance : DecidableEq D := D.decEq
inductive O where
  | lst (xs : List D) | dct (kvs : List (D × D)) | fdc (kvs : List (D × D)) | dtt (kvs : List (D × D)) | ftt (kvs : List (D × D)) | ins (c : Nat) (fs : List (Option D))
  deriving DecidableEq
abbrev S := List O
abbrev St := List (Option D)
inductive R (α : Type) where
  | ok (a : α) (s : S) | exc (e : D) (s : S) | no
noncomputable def R.bind {α β : Type} : R α → (α → S → R β) → R β
  | .ok a s, f => f a s
  | .exc e s, _ => .exc e s
  | .no, _ => .no
@[simp] theorem R.bind_ok {α β : Type} (a : α) (s : S) (f : α → S → R β) : (R.ok a s).bind f = f a s := rfl
@[simp] theorem R.bind_no {α β : Type} (f : α → S → R β) : (R.no : R α).bind f = .no := rfl
@[simp] theorem R.bind_exc {α β : Type} (e : D) (s : S) (f : α → S → R β) : (R.exc e s : R α).bind f = .exc e s := rfl
section
variable {α β : Type} {c : Prop} [Decidable c]
@[simp] theorem R.bind_ite (a b : R α) (f : α → S → R β) : (if c then a else b).bind f = if c then a.bind f else b.bind f := by split <;> rfl
@[simp] theorem R.ite_ok (a b : α) (s : S) : (if c then R.ok a s else R.ok b s) = R.ok (if c then a else b) s := by split <;> rfl
@[simp] theorem D.ite_bl (a b : Bool) : (if c then D.bl a else D.bl b) = D.bl (if c then a else b) := by split <;> rfl
@[simp] theorem D.ite_int (a b : Int) : (if c then D.int a else D.int b) = D.int (if c then a else b) := by split <;> rfl
@[simp] theorem D.ite_str (a b : T) : (if c then D.str a else D.str b) = D.str (if c then a else b) := by split <;> rfl
@[simp] theorem D.ite_tup (a b : List D) : (if c then D.tup a else D.tup b) = D.tup (if c then a else b) := by split <;> rfl
@[simp] theorem St.ite_some (a b : D) : (if c then some a else some b) = some (if c then a else b) := by split <;> rfl
@[simp] theorem St.ite_cons (a b : Option D) (r t : St) : (if c then a :: r else b :: t) = (if c then a else b) :: (if c then r else t) := by split <;> rfl
end
abbrev EM := St → S → R D
abbrev TM := St → S → R Bool
abbrev AM := St → S → R (List D)
noncomputable def SZ : Nat := 16777216
@[simp] noncomputable def eVar (i : Nat) : EM := fun σ s => match σ[i]? with
  | some (some d) => .ok d s
  | _ => .no
@[simp] noncomputable def eC (d : D) : EM := fun _ s => .ok d s
@[simp] def eOp (f : D → D → S → R D) (a b : EM) : EM := fun σ s => (a σ s).bind fun x s => (b σ s).bind fun y s => f x y s
@[simp] noncomputable def aNil : AM := fun _ s => .ok [] s
@[simp] def aCons (a : EM) (r : AM) : AM := fun σ s => (a σ s).bind fun x s => (r σ s).bind fun xs s => .ok (x :: xs) s
@[simp] def eTup (a : AM) : EM := fun σ s => (a σ s).bind fun xs s => if xs.length ≤ SZ then .ok (.tup xs) s else .no
@[simp] noncomputable def alloc (o : O) (s : S) : R D := .ok (.ref s.length) (s ++ [o])
@[simp] def eLst (a : AM) : EM := fun σ s => (a σ s).bind fun xs s => if xs.length ≤ SZ then alloc (.lst xs) s else .no
@[simp] noncomputable def lstAt (s : S) (i : Nat) : Option (List D) := match s[i]? with
  | some (.lst xs) => some xs
  | _ => none
noncomputable def small (i : Int) : Bool := decide (i.natAbs < 18446744073709551616)
@[simp] def opMul : D → D → S → R D
  | .int i, .int j, s => if small i || small j then .ok (.int (i * j)) s else .no
  | .str a, .int n, s => if 0 ≤ n ∧ n.natAbs ≤ 1000000 ∧ a.length * n.natAbs ≤ 1000000 then .ok (.str (List.replicate n.toNat a).flatten) s else .no
  | .ref p, .int n, s => match lstAt s p with
    | some xs => if n.natAbs ≤ 1000 ∧ xs.length * n.natAbs ≤ 1000000 then alloc (.lst (List.replicate n.toNat xs).flatten) s else .no
    | none => .no
  | _, _, _ => .no
@[simp] noncomputable def opMod : D → D → S → R D
  | .int i, .int j, s => if 0 < j then .ok (.int (i % j)) s else .no
  | _, _, _ => .no
abbrev CM := D → D → S → R Bool
@[simp] noncomputable def cLt : CM
  | .int i, .int j, s => .ok (decide (i < j)) s
  | .str a, .str b, s => .ok (decide (a < b)) s
  | _, _, _ => .no
inductive P where
  | non | bl (b : Bool) | int (i : Int) | str (x : T) | tup (ps : List P) | lst (ps : List P)
mutual
noncomputable def P.eqv : P → P → Bool
  | .non, .non => true
  | .bl a, .bl b => a == b
  | .int a, .int b => a == b
  | .bl a, .int b => (if a then 1 else 0) == b
  | .int a, .bl b => a == (if b then 1 else 0)
  | .str a, .str b => a == b
  | .tup a, .tup b => P.eqvs a b
  | .lst a, .lst b => P.eqvs a b
  | _, _ => false
noncomputable def P.eqvs : List P → List P → Bool
  | [], [] => true
  | a :: r, b :: t => P.eqv a b && P.eqvs r t
  | _, _ => false
end
mutual
noncomputable def P.dep : P → Nat
  | .tup ps => P.deps ps + 1
  | .lst ps => P.deps ps + 1
  | _ => 0
noncomputable def P.deps : List P → Nat
  | [] => 0
  | p :: ps => max (P.dep p) (P.deps ps)
end
noncomputable def toPg (g : Nat → Option P) : D → Option P
  | .non => some .non
  | .bl b => some (.bl b)
  | .int i => some (.int i)
  | .str x => some (.str x)
  | .tup ds => (all ds).map .tup
  | .ro ds => (all ds).map .lst
  | .ref i => g i
  | .ty _ => none
where all : List D → Option (List P)
  | [] => some []
  | d :: ds => match toPg g d, all ds with
    | some p, some ps => some (p :: ps)
    | _, _ => none
def toP : Nat → S → D → Option P
  | 0, _ => toPg fun _ => none
  | n + 1, s => toPg fun i => match lstAt s i with
    | some xs => (toPg.all (fun j => toP n s (.ref j)) xs).map .lst
    | none => none
noncomputable def DEEP : Nat := 9
noncomputable def dGet (k : D) (kvs : List (D × D)) : Option D := kvs.lookup k
def dEq (s : S) (ws : List (D × D)) : List (D × D) → Option Bool
  | [] => some true
  | (k, v) :: r => match dGet k ws with
    | none => some false
    | some w => match toP 8 s v, toP 8 s w, dEq s ws r with
      | some p, some q, some b => if P.dep p ≤ 64 ∧ P.dep q ≤ 64 then some (P.eqv p q && b) else none
      | _, _, _ => none
def eqDct (x y : D) (s : S) : R Bool := match x, y with
  | .ref i, .ref j => match s[i]?, s[j]? with
    | some (.dct ks), some (.dct ws) => if ks.length = ws.length then (match dEq s ws ks with | some b => .ok b s | none => .no) else .ok false s
    | _, _ => .no
  | _, _ => .no
@[simp] def eqD (x y : D) (s : S) : R Bool := match x, y with
  | .str a, .str b => .ok (decide (a = b)) s
  | .int a, .int b => .ok (decide (a = b)) s
  | .bl a, .bl b => .ok (decide (a = b)) s
  | .non, .non => .ok true s
  | x, y => match toP DEEP s x, toP DEEP s y with
    | some p, some q => if P.dep p ≤ 64 ∧ P.dep q ≤ 64 then .ok (P.eqv p q) s else .no
    | _, _ => eqDct x y s
@[simp] def cEq : CM := fun x y s => eqD x y s
@[simp] def cNe : CM := fun x y s => (eqD x y s).bind fun b s => .ok (!b) s
noncomputable def keyOk : D → Bool
  | .int _ => true
  | .str _ => true
  | _ => false
@[simp] def eCmp (c : CM) (a b : EM) : EM := fun σ s => (a σ s).bind fun x s => (b σ s).bind fun y s => (c x y s).bind fun k s => .ok (.bl k) s
@[simp] def tCmp (c : CM) (a b : EM) : TM := fun σ s => (a σ s).bind fun x s => (b σ s).bind fun y s => c x y s
noncomputable def ixN (n : Nat) (i : Int) : Option Nat := if 0 ≤ i then (if i < n then some i.toNat else none) else if -(n : Int) ≤ i then some (i + n).toNat else none
def atI {α : Type} (xs : List α) (i : Int) : Option α := (ixN xs.length i).bind fun j => xs[j]?
@[simp] def opIx : D → D → S → R D
  | .str x, .int i, s => if x.length ≤ SZ then (match atI x i with | some c => .ok (.str [c]) s | none => .no) else .no
  | .tup xs, .int i, s => match atI xs i with | some d => .ok d s | none => .no
  | .ro xs, .int i, s => match atI xs i with | some d => .ok d s | none => .no
  | .ref p, k, s => match s[p]? with
    | some (.lst xs) => (match k with | .int i => (match atI xs i with | some d => .ok d s | none => .no) | _ => .no)
    | some (.dct kvs) => if keyOk k then (match dGet k kvs with | some d => .ok d s | none => .no) else .no
    | some (.fdc kvs) => if keyOk k then (match dGet k kvs with | some d => .ok d s | none => .no) else .no
    | _ => .no
  | _, _, _ => .no
abbrev F := List D → S → R D
@[simp] def eCall (f : F) (a : AM) : EM := fun σ s => (a σ s).bind fun xs s => f xs s
@[simp] def fLen : F
  | [.str x], s => if x.length ≤ SZ then .ok (.int x.length) s else .no
  | [.tup xs], s => .ok (.int xs.length) s
  | [.ro xs], s => .ok (.int xs.length) s
  | [.ref p], s => match s[p]? with
    | some (.lst xs) => .ok (.int xs.length) s
    | some (.dct kvs) => .ok (.int kvs.length) s
    | _ => .no
  | _, _ => .no
abbrev Gd := List (Nat × O)
noncomputable def gdOk (g : Gd) (s : S) : Bool := g.all fun p => decide (s[p.1]? = some p.2)
abbrev IM := St → S → R (List D × Gd)
noncomputable def rangeD (lo hi : Int) : List D := (List.range (hi - lo).toNat).map fun (k : Nat) => .int (lo + k)
@[simp] def iRange1 (a : EM) : IM := fun σ s => (a σ s).bind fun x s => match x with
  | .int j => if j.natAbs < 4611686018427387904 then .ok (rangeD 0 j, []) s else .no
  | _ => .no
abbrev GM := D → St → Option St
@[simp] noncomputable def gName (i : Nat) : GM := fun d σ => some (σ.set i (some d))
def compL (g : Gd) (f : D → S → R (Option D)) : List D → S → R (List D)
  | [], s => .ok [] s
  | x :: xs, s => (f x s).bind fun o s => if gdOk g s then (compL g f xs s).bind fun ys s => .ok (match o with | some y => y :: ys | none => ys) s else .no
@[simp] noncomputable def tYes : TM := fun _ s => .ok true s
@[simp] def compF (n : Nat) (tg : GM) (c : TM) (e : EM) (σ : St) : D → S → R (Option D) := fun x s => match tg x (σ ++ List.replicate n none) with
  | none => .no
  | some σ' => (c σ' s).bind fun b s => if b then (e σ' s).bind fun d s => .ok (some d) s else .ok none s
def compE (n : Nat) (it : IM) (tg : GM) (c : TM) (e : EM) : AM := fun σ s => (it σ s).bind fun p s => if p.1.length ≤ SZ ∧ gdOk p.2 s = true then compL p.2 (compF n tg c e σ) p.1 s else .no
@[simp] def eComp (n : Nat) (it : IM) (tg : GM) (c : TM) (e : EM) : EM := fun σ s => (compE n it tg c e σ s).bind fun ys s => alloc (.lst ys) s
inductive RS where
  | nx (σ : St) (s : S) | rt (d : D) (s : S) | bk (σ : St) (s : S) | ct (σ : St) (s : S) | exc (e : D) (σ : St) (s : S) | no
abbrev SM := St → S → RS
noncomputable def R.stm {α : Type} (r : R α) (σ : St) (f : α → S → RS) : RS := match r with
  | .ok a s => f a s
  | .exc e s => .exc e σ s
  | .no => .no
@[simp] theorem R.stm_ok {α : Type} (a : α) (s : S) (σ : St) (f : α → S → RS) : (R.ok a s).stm σ f = f a s := rfl
@[simp] theorem R.stm_no {α : Type} (σ : St) (f : α → S → RS) : (R.no : R α).stm σ f = .no := rfl
noncomputable def RS.then (r : RS) (f : SM) : RS := match r with
  | .nx σ s => f σ s
  | r => r
@[simp] theorem RS.then_nx (σ : St) (s : S) (f : SM) : (RS.nx σ s).then f = f σ s := rfl
@[simp] theorem RS.then_rt (d : D) (s : S) (f : SM) : (RS.rt d s).then f = .rt d s := rfl
@[simp] theorem RS.then_no (f : SM) : RS.no.then f = .no := rfl
@[simp] theorem RS.then_bk (σ : St) (s : S) (f : SM) : (RS.bk σ s).then f = .bk σ s := rfl
section
variable {α : Type} {c : Prop} [Decidable c]
@[simp] theorem R.stm_ite (a b : R α) (σ : St) (f : α → S → RS) : (if c then a else b).stm σ f = if c then a.stm σ f else b.stm σ f := by split <;> rfl
@[simp] theorem RS.ite_nx (a b : St) (s : S) : (if c then RS.nx a s else RS.nx b s) = RS.nx (if c then a else b) s := by split <;> rfl
@[simp] theorem RS.ite_rt (a b : D) (s : S) : (if c then RS.rt a s else RS.rt b s) = RS.rt (if c then a else b) s := by split <;> rfl
@[simp] theorem RS.then_ite (a b : RS) (f : SM) : (if c then a else b).then f = if c then a.then f else b.then f := by split <;> rfl
end
@[simp] theorem RS.then_exc (e : D) (σ : St) (s : S) (f : SM) : (RS.exc e σ s).then f = .exc e σ s := rfl
@[simp] theorem R.stm_exc {α : Type} (e : D) (s : S) (σ : St) (f : α → S → RS) : (R.exc e s : R α).stm σ f = .exc e σ s := rfl
@[simp] theorem RS.then_ct (σ : St) (s : S) (f : SM) : (RS.ct σ s).then f = .ct σ s := rfl
@[simp] noncomputable def sNil : SM := fun σ s => .nx σ s
@[simp] def sSeq (a b : SM) : SM := fun σ s => (a σ s).then b
@[simp] def sRet (e : EM) : SM := fun σ s => (e σ s).stm σ fun d s => .rt d s
@[simp] def sSet (i : Nat) (e : EM) : SM := fun σ s => (e σ s).stm σ fun d s => .nx (σ.set i (some d)) s
@[simp] def sIf (c : TM) (a b : SM) : SM := fun σ s => (c σ s).stm σ fun k s => if k then a σ s else b σ s
def forL (g : Gd) (f : D → SM) : List D → SM
  | [], σ, s => .nx σ s
  | x :: xs, σ, s => match f x σ s with
    | .nx σ s => if gdOk g s then forL g f xs σ s else .no
    | .ct σ s => if gdOk g s then forL g f xs σ s else .no
    | .bk σ s => .nx σ s
    | r => r
@[simp] noncomputable def forF (tg : GM) (b : SM) : D → SM := fun x σ s => match tg x σ with
  | some σ' => b σ' s
  | none => .no
@[simp] def sFor (it : IM) (tg : GM) (b : SM) : SM := fun σ s => (it σ s).stm σ fun p s => if gdOk p.2 s = true then forL p.2 (forF tg b) p.1 σ s else .no
noncomputable def RS.out (r : RS) : R D := match r with
  | .rt d s => .ok d s
  | .nx _ s => .ok .non s
  | .exc e _ s => .exc e s
  | _ => .no
@[simp] theorem RS.out_rt (d : D) (s : S) : (RS.rt d s).out = .ok d s := rfl
@[simp] theorem RS.out_nx (σ : St) (s : S) : (RS.nx σ s).out = .ok .non s := rfl
@[simp] theorem RS.out_no : RS.no.out = .no := rfl
@[simp] theorem RS.out_exc (e : D) (σ : St) (s : S) : (RS.exc e σ s).out = .exc e s := rfl
@[simp] theorem RS.out_ite {c : Prop} [Decidable c] (a b : RS) : (if c then a else b).out = if c then a.out else b.out := by split <;> rfl
@[simp] def fn (n : Nat) (b : SM) : F := fun xs s => (b (xs.map some ++ List.replicate (n - xs.length) none) s).out
noncomputable def D.cl (n : Nat) : D → Bool
  | .ref i => decide (i < n)
  | .tup ds => all ds
  | .ro ds => all ds
  | _ => true
where all : List D → Bool
  | [] => true
  | d :: ds => D.cl n d && all ds
noncomputable def kyD : Nat → D → Bool
  | _, .non => true
  | _, .int _ => true
  | _, .str _ => true
  | n + 1, .tup ds => ds.all (kyD n)
  | _, _ => false
def O.cl (n : Nat) : O → Bool
  | .lst xs => D.cl.all n xs
  | .dct kvs => kvs.all fun p => D.cl n p.1 && D.cl n p.2
  | .fdc kvs => kvs.all fun p => D.cl n p.1 && D.cl n p.2
  | .dtt kvs => kvs.all fun p => D.cl n p.1 && D.cl n p.2
  | .ftt kvs => kvs.all fun p => D.cl n p.1 && D.cl n p.2
  | .ins _ fs => fs.all fun o => match o with | some d => D.cl n d | none => true
def clS (n : Nat) (s : S) : Bool := s.all (O.cl n)
noncomputable def D.ren (e : List Nat) : D → D
  | .ref i => .ref (e.getD i i)
  | .tup ds => .tup (all ds)
  | .ro ds => .ro (all ds)
  | d => d
where all : List D → List D
  | [] => []
  | d :: ds => D.ren e d :: all ds
def O.ren (e : List Nat) : O → O
  | .lst xs => .lst (D.ren.all e xs)
  | .dct kvs => .dct (kvs.map fun p => (D.ren e p.1, D.ren e p.2))
  | .fdc kvs => .fdc (kvs.map fun p => (D.ren e p.1, D.ren e p.2))
  | .dtt kvs => .dtt (kvs.map fun p => (D.ren e p.1, D.ren e p.2))
  | .ftt kvs => .ftt (kvs.map fun p => (D.ren e p.1, D.ren e p.2))
  | .ins c fs => .ins c (fs.map (Option.map (D.ren e)))
end M
namespace M
structure Emb (n : Nat) (e : List Nat) (S' S1 : S) : Prop where
  len : e.length = S'.length
  nd : e.Nodup
  le : n ≤ S'.length
  old : ∀ i, i < n → e[i]? = some i
  obj : ∀ (i : Nat) o, S'[i]? = some o → ∃ j, e[i]? = some j ∧ S1[j]? = some (O.ren e o) ∧ O.cl S'.length o = true
def Refines (n : Nat) (f q : F) : Prop := ∀ ds S, ds.length = n → clS S.length S = true → D.cl.all S.length ds = true →
  q ds S = .no ∨ ∃ d S' S1 e, q ds S = .ok d S' ∧ f ds S = .ok (D.ren e d) S1 ∧ Emb S.length e S' S1 ∧ D.cl S'.length d = true
section
variable {e : List Nat}
mutual
theorem D.ren_id (h : ∀ i, e.getD i i = i) : ∀ d : D, D.ren e d = d
  | .non => rfl
  | .bl _ => rfl
  | .int _ => rfl
  | .str _ => rfl
  | .ty _ => rfl
  | .ref i => by show D.ref (e.getD i i) = _; rw [h]
  | .tup ds => by show D.tup (D.ren.all e ds) = _; rw [D.rens_id h]
  | .ro ds => by show D.ro (D.ren.all e ds) = _; rw [D.rens_id h]
theorem D.rens_id (h : ∀ i, e.getD i i = i) : ∀ ds : List D, D.ren.all e ds = ds
  | [] => rfl
  | d :: ds => by show D.ren e d :: D.ren.all e ds = _; rw [D.ren_id h, D.rens_id h]
end
theorem O.ren_id (h : ∀ i, e.getD i i = i) (o : O) : O.ren e o = o := by
  cases o with
  | lst xs => show O.lst _ = _; rw [D.rens_id h]
  | dct kvs =>
    show O.dct (kvs.map fun p => (D.ren e p.1, D.ren e p.2)) = _
    have : (fun p : D × D => (D.ren e p.1, D.ren e p.2)) = id := by funext p; rw [D.ren_id h, D.ren_id h]; rfl
    rw [this, List.map_id]
  | fdc kvs =>
    show O.fdc (kvs.map fun p => (D.ren e p.1, D.ren e p.2)) = _
    have : (fun p : D × D => (D.ren e p.1, D.ren e p.2)) = id := by funext p; rw [D.ren_id h, D.ren_id h]; rfl
    rw [this, List.map_id]
  | dtt kvs =>
    show O.dtt (kvs.map fun p => (D.ren e p.1, D.ren e p.2)) = _
    have : (fun p : D × D => (D.ren e p.1, D.ren e p.2)) = id := by funext p; rw [D.ren_id h, D.ren_id h]; rfl
    rw [this, List.map_id]
  | ftt kvs =>
    show O.ftt (kvs.map fun p => (D.ren e p.1, D.ren e p.2)) = _
    have : (fun p : D × D => (D.ren e p.1, D.ren e p.2)) = id := by funext p; rw [D.ren_id h, D.ren_id h]; rfl
    rw [this, List.map_id]
  | ins c fs =>
    show O.ins c (fs.map (Option.map (D.ren e))) = _
    have : Option.map (D.ren e) = id := by funext o; cases o with | none => rfl | some d => show some _ = _; rw [D.ren_id h]; rfl
    rw [this, List.map_id]
theorem range_getD (n i : Nat) : (List.range n).getD i i = i := by
  rw [List.getD_eq_getElem?_getD]
  by_cases h : i < n
  · rw [List.getElem?_range h]; rfl
  · rw [List.getElem?_eq_none (by simp; lia)]; rfl
end
section
variable {e : List Nat} {n : Nat}
theorem clS_get {S : M.S} (h : clS n S = true) {i : Nat} {o : O} (e : S[i]? = some o) : O.cl n o = true := List.all_eq_true.mp h o (List.mem_of_getElem? e)
end
theorem emb_drop {S S' g : M.S} (hn : S.length ≤ S'.length) (c : clS S'.length S' = true) : Emb S.length (List.range S'.length) S' (S' ++ g) :=
  ⟨by simp, List.nodup_range, hn, fun i hi => by rw [List.getElem?_range (by lia)], fun i o q => by
    have hi : i < S'.length := (List.getElem?_eq_some_iff.mp q).1
    exact ⟨i, by rw [List.getElem?_range hi], by rw [List.getElem?_append_left hi, O.ren_id (range_getD _), q], clS_get c q⟩⟩
theorem Refines.pure {n : Nat} {f q : F} (h : ∀ ds S, ds.length = n → clS S.length S = true → D.cl.all S.length ds = true → q ds S = .no ∨ ∃ d g, q ds S = .ok d S ∧ f ds S = .ok d (S ++ g) ∧ D.cl S.length d = true) : Refines n f q := fun ds S hl c ca => by
  rcases h ds S hl c ca with e | ⟨d, g, e1, e2, e3⟩
  · exact .inl e
  · exact .inr ⟨d, S, S ++ g, List.range S.length, e1, by rw [D.ren_id (range_getD _)]; exact e2, emb_drop (Nat.le_refl _) c, e3⟩
end M
namespace M
@[simp] def sRaise (c : Nat) (a : AM) : SM := fun σ s => (a σ s).stm σ fun xs s => .exc (.tup (.int c :: xs)) σ s
def sTryC (c iy je iz : Nat) (e : EM) : SM := fun σ s => match e σ s with
  | .ok d s => .nx (σ.set iy (some d)) s
  | .exc (.tup [.int k, d]) s => if k = c then .nx ((σ.set je none).set iz (some d)) s else .no
  | _ => .no
@[simp] theorem sTryC_ok {c iy je iz : Nat} {e : EM} {σ : St} {s s' : S} {d : D} (h : e σ s = .ok d s') : sTryC c iy je iz e σ s = .nx (σ.set iy (some d)) s' := by unfold sTryC; rw [h]
@[simp] theorem sTryC_exc {c iy je iz : Nat} {e : EM} {σ : St} {s s' : S} {d : D} (h : e σ s = .exc (.tup [.int c, d]) s') : sTryC c iy je iz e σ s = .nx ((σ.set je none).set iz (some d)) s' := by unfold sTryC; rw [h]; simp
def sTryC2 (c iy je iz : Nat) (e : EM) : SM := fun σ s => match e σ s with
  | .ok d s => .nx (σ.set iy (some d)) s
  | .exc (.tup [.int k, d, d']) s => if k = c then .nx ((σ.set je none).set iz (some (.tup [d, d']))) s else .no
  | _ => .no
@[simp] theorem sTryC2_ok {c iy je iz : Nat} {e : EM} {σ : St} {s s' : S} {d : D} (h : e σ s = .ok d s') : sTryC2 c iy je iz e σ s = .nx (σ.set iy (some d)) s' := by unfold sTryC2; rw [h]
@[simp] theorem sTryC2_exc {c iy je iz : Nat} {e : EM} {σ : St} {s s' : S} {d d' : D} (h : e σ s = .exc (.tup [.int c, d, d']) s') : sTryC2 c iy je iz e σ s = .nx ((σ.set je none).set iz (some (.tup [d, d']))) s' := by unfold sTryC2; rw [h]; simp
def sTryP (c : Nat) (e : EM) : SM := fun σ s => match e σ s with
  | .ok d s => .rt d s
  | .exc (.tup [.int k, d]) s => if k = c then .rt (.tup [.non, d]) s else .no
  | _ => .no
@[simp] theorem sTryP_ok {c : Nat} {e : EM} {σ : St} {s s' : S} {d : D} (h : e σ s = .ok d s') : sTryP c e σ s = .rt d s' := by unfold sTryP; rw [h]
@[simp] theorem sTryP_exc {c : Nat} {e : EM} {σ : St} {s s' : S} {d : D} (h : e σ s = .exc (.tup [.int c, d]) s') : sTryP c e σ s = .rt (.tup [.non, d]) s' := by unfold sTryP; rw [h]; simp
end M
namespace M
@[simp] def sRaise0 (c : Nat) (a : AM) : SM := fun σ s => (a σ s).stm σ fun _ s => .exc (.tup [.int c]) σ s
@[simp] def sTryY (m : SM) (kb : Nat → List Bool) : SM := fun σ s => match m σ s with
  | .exc (.tup (.int c :: _)) _ s => if 21 ≤ c ∧ c ≤ 26 then .rt (.tup [.ref s.length, .bl true]) (s ++ [.lst ((kb c.toNat).map .bl)]) else .no
  | .rt d s => .rt d s
  | .nx σ s => .nx σ s
  | _ => .no
noncomputable def kb15 (c : Nat) : List Bool := [c == 23, c == 24, c == 21, c == 22, c == 25, c == 26]
@[simp] def sTail15 (i j : Nat) : SM := fun σ s => match σ[i]?, σ[j]? with
  | some (some (.int _)), some (some (.int _)) => if σ.length = 9 then .rt (.bl true) s else .no
  | _, _ => .no
end M
namespace L2
open PySem PySem.Spec PyProof.Rows
noncomputable def ofT (x : M.T) : Str := ⟨x.toArray⟩
theorem ofT_len (x : M.T) : (ofT x).length = x.length := by simp [ofT, Str.length]
theorem ofT_list (x : M.T) : (ofT x).cps.toList = x := by simp [ofT]
theorem ofT_inj {x y : M.T} (h : ofT x = ofT y) : x = y := by rw [← ofT_list x, h, ofT_list]
abbrev okT (x : M.T) : Prop := x.all (fun c => decide (c < 1114112)) = true
theorem okT_sub {x y : M.T} (h : okT x) (k : ∀ c ∈ y, c ∈ x) : okT y := List.all_eq_true.mpr fun c hc => List.all_eq_true.mp h c (k c hc)
theorem SZ_eq : M.SZ = sizeLine := by rw [sizeLine_eq]; rfl
def RolL (K : PySem.W.Frag) (H : Hp) (a : Addr) (xs : List V) : Prop :=
  (∃ o, H a = some (.frz o (.lst xs))) ∨
    ∃ (o : Obj) (its : Array Value) (n : Nat), K.lookup a = some o ∧ o.cls = .type "list" ∧ o.dict = none ∧ o.data = .seq its n ∧ its.size ≤ sizeLine ∧ Vals xs its.toList
theorem RolL.sq {K : PySem.W.Frag} {H : Hp} {a : Addr} {xs : List V} (h : RolL K H a xs) : SqL K H a xs := by
  rcases h with ⟨o, h⟩ | h
  · exact .inl (.inr ⟨o, h⟩)
  · exact .inr h
structure Le (H H' : Hp) : Prop where
  tups : ∀ b xs, H b = some (.tup xs) → H' b = some (.tup xs)
  frzs : ∀ b o u, H b = some (.frz o u) → H' b = some (.frz o u)
theorem Le.refl (H : Hp) : Le H H := ⟨fun _ _ h => h, fun _ _ _ h => h⟩
theorem Le.trans {H H1 H2 : Hp} (a : Le H H1) (b : Le H1 H2) : Le H H2 := ⟨fun c xs h => b.tups c xs (a.tups c xs h), fun c o u h => b.frzs c o u (a.frzs c o u h)⟩
theorem Le.new {H : Hp} {p : Addr} (h : H p = none) (o : HO) : Le H (upd H p o) :=
  ⟨fun b xs q => by rw [upd_ne (ne_of_none q h)]; exact q, fun b o u q => by rw [upd_ne (ne_of_none q h)]; exact q⟩
theorem Le.rol {K : PySem.W.Frag} {H H' : Hp} {a : Addr} {xs : List V} (e : Le H H') (h : RolL K H a xs) : RolL K H' a xs := by
  rcases h with ⟨o, h⟩ | h
  · exact .inl ⟨o, e.frzs _ _ _ h⟩
  · exact .inr h
theorem Le.sqT {K : PySem.W.Frag} {H H' : Hp} {a : Addr} {xs : List V} (e : Le H H') (h : SqT K H a xs) : SqT K H' a xs := by
  rcases h with (h | ⟨o, h⟩) | h
  · exact .inl (.inl (e.tups _ _ h))
  · exact .inl (.inr ⟨o, e.frzs _ _ _ h⟩)
  · exact .inr h
noncomputable def kdName : M.Kd → String
  | .str => "str" | .int => "int" | .bool => "bool" | .list => "list" | .tuple => "tuple" | .dict => "dict"
def RelD (K : PySem.W.Frag) (ρ : List Addr) (H : Hp) : M.D → V → Prop
  | .non, v => v = .non
  | .bl b, v => v = .bl b
  | .int i, v => v = .int i
  | .str x, v => v = .str (ofT x) ∧ okT x
  | .ty n, v => v = .ty (kdName n)
  | .ref i, v => ∃ a, v = .ref a ∧ ρ[i]? = some a
  | .tup ds, v => ∃ a xs, v = .ref a ∧ SqT K H a xs ∧ all ds xs
  | .ro ds, v => ∃ a xs, v = .ref a ∧ RolL K H a xs ∧ all ds xs
where all : List M.D → List V → Prop
  | [], xs => xs = []
  | d :: ds, xs => ∃ y ys, xs = y :: ys ∧ RelD K ρ H d y ∧ all ds ys
abbrev RelDs (K : PySem.W.Frag) (ρ : List Addr) (H : Hp) : List M.D → List V → Prop := RelD.all K ρ H
theorem pre_get {ρ ρ' : List Addr} (h : ρ <+: ρ') {i : Nat} {a : Addr} (e : ρ[i]? = some a) : ρ'[i]? = some a := by
  obtain ⟨t, rfl⟩ := h
  rw [List.getElem?_append_left (List.getElem?_eq_some_iff.mp e).1]
  exact e
section
variable {K : PySem.W.Frag} {ρ ρ' : List Addr} {H H' : Hp}
mutual
theorem RelD.mono (hρ : ρ <+: ρ') (le : Le H H') : ∀ {d : M.D} {v : V}, RelD K ρ H d v → RelD K ρ' H' d v
  | .non, _, h => h
  | .bl _, _, h => h
  | .int _, _, h => h
  | .str _, _, h => h
  | .ty _, _, h => h
  | .ref _, _, ⟨a, e, h⟩ => ⟨a, e, pre_get hρ h⟩
  | .tup _, _, ⟨a, xs, e, h, r⟩ => ⟨a, xs, e, le.sqT h, RelDs.mono hρ le r⟩
  | .ro _, _, ⟨a, xs, e, h, r⟩ => ⟨a, xs, e, le.rol h, RelDs.mono hρ le r⟩
theorem RelDs.mono (hρ : ρ <+: ρ') (le : Le H H') : ∀ {ds : List M.D} {xs : List V}, RelDs K ρ H ds xs → RelDs K ρ' H' ds xs
  | [], _, h => h
  | _ :: _, _, ⟨y, ys, e, h, r⟩ => ⟨y, ys, e, RelD.mono hρ le h, RelDs.mono hρ le r⟩
end
theorem RelDs.length : ∀ {ds : List M.D} {xs : List V}, RelDs K ρ H ds xs → ds.length = xs.length
  | [], _, h => by cases h; rfl
  | _ :: _, _, ⟨_, _, e, _, r⟩ => by subst e; rw [List.length_cons, List.length_cons, RelDs.length r]
theorem RelDs.get : ∀ {ds : List M.D} {xs : List V} {i : Nat} {d : M.D}, RelDs K ρ H ds xs → ds[i]? = some d → ∃ v, xs[i]? = some v ∧ RelD K ρ H d v
  | [], _, _, _, _, e => by simp at e
  | _ :: _, _, 0, _, ⟨y, _, e1, h, _⟩, e => by subst e1; simp at e; subst e; exact ⟨y, rfl, h⟩
  | _ :: _, _, i + 1, d, ⟨_, ys, e1, _, r⟩, e => by
    subst e1
    obtain ⟨v, h1, h2⟩ := RelDs.get (i := i) (d := d) r (by simpa using e)
    exact ⟨v, by simpa using h1, h2⟩
theorem RelDs.app : ∀ {ds es : List M.D} {xs ys : List V}, RelDs K ρ H ds xs → RelDs K ρ H es ys → RelDs K ρ H (ds ++ es) (xs ++ ys)
  | [], _, _, _, h, k => by cases h; exact k
  | _ :: _, _, _, _, ⟨y, ys, e, h, r⟩, k => by subst e; exact ⟨y, _, rfl, h, RelDs.app r k⟩
end
section
variable {K : PySem.W.Frag} {ρ ρ' : List Addr} {H H' : Hp} {ds es : List M.D} {xs ys : List V}
theorem RelD.all.length (h : RelD.all K ρ H ds xs) : ds.length = xs.length := RelDs.length h
end
def KeyR : M.D → Key → Prop
  | .int i, k => k = .inl i
  | .str x, k => k = .inr (ofT x) ∧ okT x
  | _, _ => False
structure Tab where
  tab : Nat → Option (Addr × List Str)
  ha : M.D → Int := fun _ => 0
  x : XK := fun _ _ _ => False
instance : CoeFun Tab fun _ => Nat → Option (Addr × List Str) := ⟨Tab.tab⟩
def TD (ha : M.D → Int) (a : Addr) (xs : List (M.D × Addr × Value)) (h : Heap) : Prop := xs.length ≤ sizeLine ∧ (a == sysModules) = false ∧ (xs.map (·.1)).Nodup ∧
  ∃ o es ep, h.get? a = some o ∧ o.ExactDict ∧ o.data = .dict es ep ∧ es.toList = xs.map fun x => ⟨ha x.1, .ref x.2.1, x.2.2⟩
def TDr (K : PySem.W.Frag) (ρ : List Addr) (H : Hp) (p : M.D × M.D) (q : M.D × Addr × Value) : Prop := q.1 = p.1 ∧ M.kyD 7 p.1 = true ∧ RelD K ρ H p.1 (.ref q.2.1) ∧ ∃ v, RelD K ρ H p.2 v ∧ RelV v q.2.2
theorem TDr.mono {K : PySem.W.Frag} {ρ ρ' : List Addr} {H H' : Hp} (hρ : ρ <+: ρ') (le : Le H H') {p : M.D × M.D} {q : M.D × Addr × Value} (h : TDr K ρ H p q) : TDr K ρ' H' p q :=
  ⟨h.1, h.2.1, h.2.2.1.mono hρ le, let ⟨v, a, b⟩ := h.2.2.2; ⟨v, a.mono hρ le, b⟩⟩
structure InsR (K : PySem.W.Frag) (ρ : List Addr) (H : Hp) (N : List Str) (fs : List (Option M.D)) (gs : List (Str × V)) : Prop where
  len : fs.length = N.length
  nd : (gs.map (·.1)).Nodup
  within : ∀ f ∈ gs.map (·.1), f ∈ N
  get : ∀ (i : Nat) (f : Str) (d : M.D), N[i]? = some f → fs[i]? = some (some d) → ∃ v, gs.lookup f = some v ∧ RelD K ρ H d v
def ObR (K : PySem.W.Frag) (Θ : Tab) (ρ : List Addr) (H : Hp) (a : Addr) : M.O → Prop
  | .lst ds => ∃ xs, H a = some (.lst xs) ∧ RelDs K ρ H ds xs
  | .dct kvs => ∃ ks, H a = some (.dK ks) ∧ Paired (fun (p : M.D × M.D) (q : Key × V) => KeyR p.1 q.1 ∧ RelD K ρ H p.2 q.2) kvs ks
  | .fdc kvs => ∃ o ks, H a = some (.frz o (.dK ks)) ∧ Paired (fun (p : M.D × M.D) (q : Key × V) => KeyR p.1 q.1 ∧ RelD K ρ H p.2 q.2) kvs ks
  | .dtt kvs => ∃ xs, H a = some (.ext (TD Θ.ha a xs)) ∧ Paired (TDr K ρ H) kvs xs
  | .ftt kvs => ∃ o xs, H a = some (.frz o (.ext (TD Θ.ha a xs))) ∧ Paired (TDr K ρ H) kvs xs
  | .ins c fs => ∃ C dx gs N, H a = some (.ins C dx gs) ∧ Θ c = some (C, N) ∧ InsR K ρ H N fs gs
structure RepS (K : PySem.W.Frag) (Θ : Tab) (ρ : List Addr) (S : M.S) (H : Hp) : Prop where
  len : ρ.length = S.length
  nd : ρ.Nodup
  obj : ∀ (i : Nat) (o : M.O), S[i]? = some o → ∃ a, ρ[i]? = some a ∧ ObR K Θ ρ H a o
structure RelSt (K : PySem.W.Frag) (ρ : List Addr) (H : Hp) (σ' : M.St) (σ : St) : Prop where
  len : σ'.length = σ.length
  get : ∀ (i : Nat) (d : M.D), σ'[i]? = some (some d) → ∃ v, σ[i]? = some (some v) ∧ RelD K ρ H d v
section
variable {K : PySem.W.Frag} {Θ : Tab} {ρ ρ' : List Addr} {H H' : Hp} {S : M.S}
theorem RelSt.mono {σ' : M.St} {σ : St} (h : RelSt K ρ H σ' σ) (hρ : ρ <+: ρ') (le : Le H H') : RelSt K ρ' H' σ' σ :=
  ⟨h.len, fun i d e => let ⟨v, h1, h2⟩ := h.get i d e; ⟨v, h1, h2.mono hρ le⟩⟩
theorem RelSt.set {σ' : M.St} {σ : St} {d : M.D} {v : V} (h : RelSt K ρ H σ' σ) (hd : RelD K ρ H d v) (i : Nat) : RelSt K ρ H (σ'.set i (some d)) (σ.set i (some v)) := by
  refine ⟨by rw [List.length_set, List.length_set, h.len], fun j e q => ?_⟩
  by_cases hj : i = j
  · subst hj
    by_cases hl : i < σ'.length
    · rw [List.getElem?_set_self hl] at q
      cases q
      exact ⟨v, by rw [List.getElem?_set_self (h.len ▸ hl)], hd⟩
    · rw [List.getElem?_eq_none (by rw [List.length_set]; lia)] at q
      cases q
  · rw [List.getElem?_set_ne hj] at q
    rw [List.getElem?_set_ne hj]
    exact h.get j e q
theorem RelSt.more {σ' : M.St} {σ : St} (h : RelSt K ρ H σ' σ) (n : Nat) : RelSt K ρ H (σ' ++ List.replicate n none) (σ ++ List.replicate n none) := by
  refine ⟨by simp [h.len], fun i d q => ?_⟩
  by_cases hl : i < σ'.length
  · rw [List.getElem?_append_left hl] at q
    rw [List.getElem?_append_left (h.len ▸ hl)]
    exact h.get i d q
  · rw [List.getElem?_append_right (by lia), List.getElem?_replicate] at q
    split at q <;> cases q
theorem RepS.tracked (h : RepS K Θ ρ S H) {a : Addr} (m : a ∈ ρ) : ∃ o, H a = some o := by
  obtain ⟨i, hi, e⟩ := List.mem_iff_getElem.mp m
  have hl : i < S.length := h.len ▸ hi
  obtain ⟨a', e1, r⟩ := h.obj i S[i] (by simp [hl])
  rw [List.getElem?_eq_getElem hi, e] at e1
  cases e1
  cases q : S[i] with
  | lst ds => rw [q] at r; obtain ⟨xs, e2, _⟩ := r; exact ⟨_, e2⟩
  | dct kvs => rw [q] at r; obtain ⟨xs, e2, _⟩ := r; exact ⟨_, e2⟩
  | fdc kvs => rw [q] at r; obtain ⟨o, xs, e2, _⟩ := r; exact ⟨_, e2⟩
  | dtt kvs => rw [q] at r; obtain ⟨xs, e2, _⟩ := r; exact ⟨_, e2⟩
  | ftt kvs => rw [q] at r; obtain ⟨o, xs, e2, _⟩ := r; exact ⟨_, e2⟩
  | ins c fs => rw [q] at r; obtain ⟨_, _, _, _, e2, _⟩ := r; exact ⟨_, e2⟩
theorem RepS.fresh (h : RepS K Θ ρ S H) {p : Addr} (hp : H p = none) : p ∉ ρ := fun m => by
  obtain ⟨o, e⟩ := h.tracked m
  rw [hp] at e; cases e
theorem ObR.stay {a : Addr} {o : M.O} (h : ObR K Θ ρ H a o) (hρ : ρ <+: ρ') (le : Le H H') (e : H' a = H a) : ObR K Θ ρ' H' a o := by
  cases o with
  | lst ds => obtain ⟨xs, e1, r⟩ := h; exact ⟨xs, e.trans e1, r.mono hρ le⟩
  | dct kvs => obtain ⟨ks, e1, r⟩ := h; exact ⟨ks, e.trans e1, Paired.mapP r fun p q z => ⟨z.1, z.2.mono hρ le⟩⟩
  | fdc kvs => obtain ⟨o, ks, e1, r⟩ := h; exact ⟨o, ks, e.trans e1, Paired.mapP r fun p q z => ⟨z.1, z.2.mono hρ le⟩⟩
  | dtt kvs => obtain ⟨xs, e1, r⟩ := h; exact ⟨xs, e.trans e1, Paired.mapP r fun p q z => z.mono hρ le⟩
  | ftt kvs => obtain ⟨o, xs, e1, r⟩ := h; exact ⟨o, xs, e.trans e1, Paired.mapP r fun p q z => z.mono hρ le⟩
  | ins c fs =>
    obtain ⟨C, dx, gs, N, e1, e2, r⟩ := h
    exact ⟨C, dx, gs, N, e.trans e1, e2, r.len, r.nd, r.within, fun i f d h1 h2 => let ⟨v, k1, k2⟩ := r.get i f d h1 h2; ⟨v, k1, k2.mono hρ le⟩⟩
theorem RepS.stay (h : RepS K Θ ρ S H) (le : Le H H') (e : ∀ a ∈ ρ, H' a = H a) : RepS K Θ ρ S H' :=
  ⟨h.len, h.nd, fun i o q => let ⟨a, h1, h2⟩ := h.obj i o q; ⟨a, h1, h2.stay (List.prefix_refl _) le (e a (List.mem_of_getElem? h1))⟩⟩
theorem RepS.aside (h : RepS K Θ ρ S H) {p : Addr} (hp : H p = none) (o : HO) : RepS K Θ ρ S (upd H p o) :=
  h.stay (Le.new hp o) fun a m => upd_ne (fun z => h.fresh hp (z ▸ m))
theorem RepS.alloc (h : RepS K Θ ρ S H) {p : Addr} (hp : H p = none) {o : M.O} {u : HO} (r : ObR K Θ (ρ ++ [p]) (upd H p u) p o) : RepS K Θ (ρ ++ [p]) (S ++ [o]) (upd H p u) := by
  refine ⟨by simp [h.len], ?_, fun i ob q => ?_⟩
  · rw [List.nodup_append]
    refine ⟨h.nd, by simp, fun a ha b hb => ?_⟩
    have hb' : b = p := by simpa using hb
    rw [hb']
    exact fun z => h.fresh hp (z ▸ ha)
  · by_cases hl : i < S.length
    · rw [List.getElem?_append_left hl] at q
      obtain ⟨a, h1, h2⟩ := h.obj i ob q
      refine ⟨a, pre_get (List.prefix_append _ _) h1, h2.stay (List.prefix_append _ _) (Le.new hp u) (upd_ne fun z => h.fresh hp (z ▸ List.mem_of_getElem? h1))⟩
    · rw [List.getElem?_append_right (by lia)] at q
      have hi : i - S.length = 0 := by
        cases hz : i - S.length with
        | zero => rfl
        | succ k => rw [hz] at q; simp at q
      rw [hi] at q
      simp at q
      subst q
      refine ⟨p, ?_, r⟩
      rw [List.getElem?_append_right (by rw [h.len]; lia), h.len, hi]
      rfl
theorem nodup_at {α : Type} {ρ : List α} (hN : ρ.Nodup) {i j : Nat} {x : α} (a : ρ[i]? = some x) (b : ρ[j]? = some x) : i = j := by
  induction ρ generalizing i j with
  | nil => simp at a
  | cons y r ih =>
    rw [List.nodup_cons] at hN
    cases i with
    | zero =>
      cases j with
      | zero => rfl
      | succ j =>
        simp at a b
        subst a
        exact absurd (List.mem_of_getElem? b) hN.1
    | succ i =>
      cases j with
      | zero =>
        simp at a b
        subst b
        exact absurd (List.mem_of_getElem? a) hN.1
      | succ j =>
        simp at a b
        rw [ih hN.2 a b]
theorem nodup_of {α : Type} {l : List α} (h : ∀ (i j : Nat) x, l[i]? = some x → l[j]? = some x → i = j) : l.Nodup := by
  induction l with
  | nil => exact List.nodup_nil
  | cons y r ih =>
    refine List.nodup_cons.mpr ⟨fun m => ?_, ih fun i j x a b => ?_⟩
    · obtain ⟨j, hj, e⟩ := List.mem_iff_getElem.mp m
      have := h 0 (j + 1) y (by simp) (by simp [e, hj])
      lia
    · have := h (i + 1) (j + 1) x (by simpa using a) (by simpa using b)
      lia
theorem nodup_get {α : Type} {l : List α} (hN : l.Nodup) {i j : Nat} (hi : i < l.length) (hj : j < l.length) (e : l[i] = l[j]) : i = j :=
  nodup_at hN (x := l[i]) (by simp [hi]) (by rw [e]; simp [hj])
end
def XR (K : PySem.W.Frag) (Θ : Tab) (ρ : List Addr) (H : Hp) (d : M.D) (C : Addr) (od : Option Addr) : Prop := ∃ (c : Nat) (ds : List M.D) (N : List Str), d = .tup (.int c :: ds) ∧ Θ c = some (C, N) ∧ ((ds = [] ∧ N = [] ∧ od = none) ∨ ∃ dx vs, od = some dx ∧ H dx = some (.xd (N.zip vs)) ∧ N.length = vs.length ∧ RelDs K ρ H ds vs)
def PostX (K : PySem.W.Frag) (Θ : Tab) (ρ : List Addr) (H : Hp) (d : M.D) (S : M.S) : Prop := ∀ ρ' H' C od, ρ <+: ρ' → Le H H' → RepS K Θ ρ' S H' → XR K Θ ρ' H' d C od → Θ.x (.ref C) od H'
theorem PostX.weak {K : PySem.W.Frag} {Θ : Tab} {ρ ρ' : List Addr} {H H' : Hp} {d : M.D} {S : M.S} (h : PostX K Θ ρ H d S) (hρ : ρ <+: ρ') (le : Le H H') : PostX K Θ ρ' H' d S := fun ρ2 H2 C od p l => h ρ2 H2 C od (hρ.trans p) (le.trans l)
noncomputable def Post {α β : Type} (K : PySem.W.Frag) (Θ : Tab) (Rl : List Addr → Hp → α → β → Prop) (ρ : List Addr) (H : Hp) : M.R α → (β → Hp → Prop) → Prop
  | .ok a S', Q => ∀ ρ' H' b, ρ <+: ρ' → Le H H' → RepS K Θ ρ' S' H' → Rl ρ' H' a b → Q b H'
  | .exc d S', _ => PostX K Θ ρ H d S'
  | .no, _ => False
noncomputable abbrev rB : List Addr → Hp → Bool → Bool → Prop := fun _ _ a b => a = b
section
variable {K : PySem.W.Frag} {Θ : Tab} {ρ ρ' : List Addr} {H H' : Hp} {S : M.S} {α β γ δ : Type} {Rl : List Addr → Hp → α → β → Prop} {Rk : List Addr → Hp → γ → δ → Prop} {Q : β → Hp → Prop} {Q' : δ → Hp → Prop}
theorem Post.weak {r : M.R α} (h : Post K Θ Rl ρ H r Q) (hρ : ρ <+: ρ') (le : Le H H') : Post K Θ Rl ρ' H' r Q := by
  cases r with
  | ok a s => exact fun ρ2 H2 b p l => h ρ2 H2 b (hρ.trans p) (le.trans l)
  | exc e s => exact PostX.weak h hρ le
  | no => exact h
theorem Post.bind {r : M.R α} {f : α → M.S → M.R γ} (h : Post K Θ Rk ρ H (r.bind f) Q')
    (k : ∀ ρ' H' a b S', ρ <+: ρ' → Le H H' → RepS K Θ ρ' S' H' → Rl ρ' H' a b → Post K Θ Rk ρ' H' (f a S') Q' → Q b H') : Post K Θ Rl ρ H r Q := by
  cases r with
  | ok a s => exact fun ρ2 H2 b p l rp rl => k ρ2 H2 a b s p l rp rl (Post.weak h p l)
  | exc e s => exact h
  | no => exact h
theorem Post.here {a : α} {b : β} (h : Post K Θ Rl ρ H (.ok a S) Q) (rp : RepS K Θ ρ S H) (rl : Rl ρ H a b) : Q b H := h ρ H b (List.prefix_refl _) (Le.refl _) rp rl
end
def RdE (K : PySem.W.Frag) (Θ : Tab) (m : M.EM) : TE := fun σ H Q => ∃ ρ σ' S, RelSt K ρ H σ' σ ∧ RepS K Θ ρ S H ∧ Post K Θ (RelD K) ρ H (m σ' S) Q
def RdT (K : PySem.W.Frag) (Θ : Tab) (m : M.TM) : TT := fun σ H Q => ∃ ρ σ' S, RelSt K ρ H σ' σ ∧ RepS K Θ ρ S H ∧ Post K Θ rB ρ H (m σ' S) Q
def RdA (K : PySem.W.Frag) (Θ : Tab) (m : M.AM) : TA := fun σ H Q => ∃ ρ σ' S, RelSt K ρ H σ' σ ∧ RepS K Θ ρ S H ∧ Post K Θ (RelDs K) ρ H (m σ' S) Q
abbrev ME (X : Cx) (Θ : Tab) (e : Expr) (m : M.EM) : Prop := PE X e (RdE X.K Θ m)
@[irreducible] def WE (X : Cx) (Θ : Tab) (e : Expr) (m : M.EM) : Prop := ME X Θ e m
abbrev MT (X : Cx) (Θ : Tab) (e : Expr) (m : M.TM) : Prop := PT X e (RdT X.K Θ m)
@[irreducible] def WT (X : Cx) (Θ : Tab) (e : Expr) (m : M.TM) : Prop := MT X Θ e m
abbrev MA (X : Cx) (Θ : Tab) (es : List Expr) (m : M.AM) : Prop := PA X es (RdA X.K Θ m)
@[irreducible] def WA (X : Cx) (Θ : Tab) (es : List Expr) (m : M.AM) : Prop := MA X Θ es m
theorem PE.imp {X : Cx} {e : Expr} {t t' : TE} (h : PE X e t) (i : ∀ σ H Q, t' σ H Q → t σ H Q) : PE X e t' := fun pins s σ H Q I q => h pins s σ H Q I (i σ H Q q)
theorem PT.imp {X : Cx} {e : Expr} {t t' : TT} (h : PT X e t) (i : ∀ σ H Q, t' σ H Q → t σ H Q) : PT X e t' := fun pins s σ H Q I q => h pins s σ H Q I (i σ H Q q)
theorem PA.imp {X : Cx} {es : List Expr} {t t' : TA} (h : PA X es t) (i : ∀ σ H Q, t' σ H Q → t σ H Q) : PA X es t' := fun pos pins s σ H Q I q => h pos pins s σ H Q I (i σ H Q q)
theorem PE.up {X : Cx} {Θ : Tab} {e : Expr} {t : TE} {m : M.EM} (h : PE X e t) (i : ∀ σ H Q ρ σ' S, RelSt X.K ρ H σ' σ → RepS X.K Θ ρ S H → Post X.K Θ (RelD X.K) ρ H (m σ' S) Q → t σ H Q) : PE X e (RdE X.K Θ m) := h.imp fun σ H Q ⟨ρ, σ', S, a, b, c⟩ => i σ H Q ρ σ' S a b c
theorem PT.up {X : Cx} {Θ : Tab} {e : Expr} {t : TT} {m : M.TM} (h : PT X e t) (i : ∀ σ H Q ρ σ' S, RelSt X.K ρ H σ' σ → RepS X.K Θ ρ S H → Post X.K Θ rB ρ H (m σ' S) Q → t σ H Q) : PT X e (RdT X.K Θ m) := h.imp fun σ H Q ⟨ρ, σ', S, a, b, c⟩ => i σ H Q ρ σ' S a b c
theorem PA.up {X : Cx} {Θ : Tab} {es : List Expr} {t : TA} {m : M.AM} (h : PA X es t) (i : ∀ σ H Q ρ σ' S, RelSt X.K ρ H σ' σ → RepS X.K Θ ρ S H → Post X.K Θ (RelDs X.K) ρ H (m σ' S) Q → t σ H Q) : PA X es (RdA X.K Θ m) := h.imp fun σ H Q ⟨ρ, σ', S, a, b, c⟩ => i σ H Q ρ σ' S a b c
noncomputable def notStar : Expr → Bool
  | .Starred _ _ => false
  | _ => true
theorem star_cons {e : Expr} {es : List Expr} {env : Env} (h : notStar e = true) : starEach (e :: es) env = (false, eval e env) :: starEach es env := by
  cases e <;> first | rfl | cases h
theorem star_any {env : Env} {pos : Pos} : ∀ {es : List Expr}, es.all notStar = true → (backTo pos (starEach es env)).any (·.1) = false
  | [], _ => rfl
  | e :: es, h => by
    rw [List.all_cons, Bool.and_eq_true] at h
    rw [star_cons h.1]
    show (false || (backTo pos (starEach es env)).any (·.1)) = false
    rw [star_any h.2]; rfl
section
variable {X : Cx} {Θ : Tab} {a b c : Expr} {pos : Pos} {ma mb mc : M.EM} {ta tb : M.TM} {rest : List Expr}
theorem w_me_var (i : Nat) {x : Str} (hN : X.N[i]? = some x := by rfl) (hv : Vis X.env.scope x := by first | exact Or.inl rfl | exact Or.inr (Or.inl rfl) | exact Or.inr (Or.inr rfl)) (hd : (x == ("__debug__" : Str)) = false := by decide)
    (hcd : (x == ("__classdict__" : Str)) = false := by decide) : WE X Θ (.Name x pos) (M.eVar i) := by
  delta WE at ⊢
  exact (pe_var hN hv hd hcd).up fun σ H Q ρ σ' S st rp h => by
    unfold M.eVar at h
    split at h
    · rename_i d e
      obtain ⟨v, e1, r⟩ := st.get i d e
      exact ⟨v, e1, h.here rp r⟩
    · exact h.elim
theorem me_of {e : Expr} {v : V} {d : M.D} (h : PE X e (tC v)) (r : ∀ ρ H, RelD X.K ρ H d v) : ME X Θ e (M.eC d) := h.up fun σ H Q ρ σ' S st rp h => h.here rp (r ρ H)
theorem w_me_int {i : Int} {j : Nat} : WE X Θ (.Constant (.int i) j pos) (M.eC (.int i)) := by
  delta WE at ⊢
  exact me_of pe_int fun _ _ => rfl
theorem w_me_bl {k : Bool} {j : Nat} : WE X Θ (.Constant (.bool k) j pos) (M.eC (.bl k)) := by
  delta WE at ⊢
  exact me_of pe_bl fun _ _ => rfl
theorem w_me_str {y : M.T} {x : Str} {j : Nat} (h : x = ofT y) (ok : okT y) : WE X Θ (.Constant (.str x) j pos) (M.eC (.str y)) := by
  delta WE at ⊢
  exact me_of pe_str fun _ _ => by rw [h]; exact ⟨rfl, ok⟩
def Ad2 (K : PySem.W.Frag) (Θ : Tab) (f : M.D → M.D → M.S → M.R M.D) (r : R2) : Prop := ∀ ρ H S x y X Y Q, RepS K Θ ρ S H → RelD K ρ H x X → RelD K ρ H y Y → Post K Θ (RelD K) ρ H (f x y S) Q → r X Y H Q
def AdC (K : PySem.W.Frag) (Θ : Tab) (f : M.CM) (r : R2) : Prop := ∀ ρ H S x y X Y (Q : VK), RepS K Θ ρ S H → RelD K ρ H x X → RelD K ρ H y Y → Post K Θ rB ρ H (f x y S) (fun b H' => Q (.bl b) H') → r X Y H Q
def AdN (K : PySem.W.Frag) (Θ : Tab) (f : M.F) (r : List V → Hp → VK → Prop) : Prop := ∀ ρ H S xs Xs Q, RepS K Θ ρ S H → RelDs K ρ H xs Xs → Post K Θ (RelD K) ρ H (f xs S) Q → r Xs H Q
theorem w_me_op {op : Operator} {f : M.D → M.D → M.S → M.R M.D} {r : R2} (ho : OpR X (binaryOp op) r) (ad : Ad2 X.K Θ f r) (ha : WE X Θ a ma) (hb : WE X Θ b mb) : WE X Θ (.BinOp a op b pos) (M.eOp f ma mb) := by
  delta WE at ha hb ⊢
  exact (pe_op ho ha hb).up fun σ H Q ρ σ' S st rp h => ⟨ρ, σ', S, st, rp, Post.bind h fun ρ1 H1 x X1 S1 p1 l1 rp1 rx h1 => ⟨ρ1, σ', S1, st.mono p1 l1, rp1,
      Post.bind h1 fun ρ2 H2 y Y S2 p2 l2 rp2 ry h2 => ad ρ2 H2 S2 x y X1 Y Q rp2 (rx.mono p2 l2) ry h2⟩⟩
noncomputable def plainB : Expr → Bool
  | .Slice _ _ _ _ => false
  | .Tuple _ _ _ => false
  | _ => true
theorem plain_of {b : Expr} (h : plainB b = true) : PlainIx b := fun o i => by
  cases b <;> first | rfl | cases h
theorem w_me_ix {f : M.D → M.D → M.S → M.R M.D} {r : R2} (ho : IxR X r) (ad : Ad2 X.K Θ f r) (ha : WE X Θ a ma) (hb : WE X Θ b mb) (hs : plainB b = true := by rfl) : WE X Θ (.Subscript a b pos) (M.eOp f ma mb) := by
  delta WE at ha hb ⊢
  exact (pe_ix ho ha hb (plain_of hs)).up fun σ H Q ρ σ' S st rp h => ⟨ρ, σ', S, st, rp, Post.bind h fun ρ1 H1 x X1 S1 p1 l1 rp1 rx h1 => ⟨ρ1, σ', S1, st.mono p1 l1, rp1,
      Post.bind h1 fun ρ2 H2 y Y S2 p2 l2 rp2 ry h2 => ad ρ2 H2 S2 x y X1 Y Q rp2 (rx.mono p2 l2) ry h2⟩⟩
theorem w_me_cmp {op : CmpOp} {f : M.CM} {r : R2} (ho : OpR X (compareOp op) r) (ad : AdC X.K Θ f r) (ha : WE X Θ a ma) (hb : WE X Θ b mb) (hm : behindInMarks op b = false) : WE X Θ (.Compare a [op] [b] pos) (M.eCmp f ma mb) := by
  delta WE at ha hb ⊢
  exact (pe_cmpR ho ha hb hm).up fun σ H Q ρ σ' S st rp h => ⟨ρ, σ', S, st, rp, Post.bind h fun ρ1 H1 x X1 S1 p1 l1 rp1 rx h1 => ⟨ρ1, σ', S1, st.mono p1 l1, rp1,
      Post.bind h1 fun ρ2 H2 y Y S2 p2 l2 rp2 ry h2 => ad ρ2 H2 S2 x y X1 Y Q rp2 (rx.mono p2 l2) ry (Post.bind h2 fun ρ3 H3 k k' S3 p3 l3 rp3 e h3 => by cases e; exact h3.here rp3 rfl)⟩⟩
theorem w_mt_cmp {op : CmpOp} {f : M.CM} {r : R2} (ho : OpR X (compareOp op) r) (ad : AdC X.K Θ f r) (ha : WE X Θ a ma) (hb : WE X Θ b mb) (hm : behindInMarks op b = false) : WT X Θ (.Compare a [op] [b] pos) (M.tCmp f ma mb) := by
  delta WE WT at ha hb ⊢
  exact (pt_cmpR ho ha hb hm).up fun σ H Q ρ σ' S st rp h => ⟨ρ, σ', S, st, rp, Post.bind h fun ρ1 H1 x X1 S1 p1 l1 rp1 rx h1 => ⟨ρ1, σ', S1, st.mono p1 l1, rp1,
      Post.bind h1 fun ρ2 H2 y Y S2 p2 l2 rp2 ry h2 => ad ρ2 H2 S2 x y X1 Y _ rp2 (rx.mono p2 l2) ry (by
        revert h2
        cases f x y S2 with
        | ok k s => exact fun h2 ρ3 H3 k' p3 l3 rp3 e => ⟨k', rfl, h2 ρ3 H3 k' p3 l3 rp3 e⟩
        | exc e s => exact fun h2 => h2
        | no => exact fun h2 => h2)⟩⟩
theorem ma_nil : MA X Θ [] M.aNil := pa_nil.up fun σ H Q ρ σ' S st rp h => Post.here (b := []) h rp rfl
theorem w_ma_nil : WA X Θ [] M.aNil := by with_unfolding_all exact ma_nil
theorem ma_cons {e : Expr} {es : List Expr} {r : M.AM} (ha : ME X Θ e ma) (hr : MA X Θ es r) (hs : notStar e = true := by rfl) : MA X Θ (e :: es) (M.aCons ma r) :=
  (pa_cons ha hr (star_cons hs)).up fun σ H Q ρ σ' S st rp h => ⟨ρ, σ', S, st, rp, Post.bind h fun ρ1 H1 x X1 S1 p1 l1 rp1 rx h1 => ⟨ρ1, σ', S1, st.mono p1 l1, rp1,
    Post.bind h1 fun ρ2 H2 ys Ys S2 p2 l2 rp2 ry h2 => h2.here rp2 ⟨X1, Ys, rfl, rx.mono p2 l2, ry⟩⟩⟩
theorem w_ma_cons {e : Expr} {es : List Expr} {r : M.AM} (ha : WE X Θ e ma) (hr : WA X Θ es r) (hs : notStar e = true := by rfl) : WA X Θ (e :: es) (M.aCons ma r) := by with_unfolding_all exact ma_cons (e := e) (es := es) (r := r) ha hr hs
theorem w_me_tup {es : List Expr} {r : M.AM} {x1} (hr : WA X Θ es r) : WE X Θ (.Tuple es x1 pos) (M.eTup r) := by
  delta WA WE at hr ⊢
  exact (pe_tup hr).up fun σ H Q ρ σ' S st rp h => ⟨ρ, σ', S, st, rp, Post.bind h fun ρ1 H1 xs Xs S1 p1 l1 rp1 rx h1 => by
    by_cases hl : xs.length ≤ M.SZ
    · rw [if_pos hl] at h1
      rw [SZ_eq, rx.length] at hl
      exact ⟨hl, fun p hp => h1 ρ1 _ _ (List.prefix_refl _) (Le.new hp _) (rp1.aside hp _) ⟨p, Xs, rfl, SqT.of upd_same, rx.mono (List.prefix_refl _) (Le.new hp _)⟩⟩
    · rw [if_neg hl] at h1
      exact h1.elim⟩
theorem Post.alloc {K : PySem.W.Frag} {ρ : List Addr} {H : Hp} {S : M.S} {ds : List M.D} {xs : List V} {Q : VK} (h : Post K Θ (RelD K) ρ H (M.alloc (.lst ds) S) Q) (rp : RepS K Θ ρ S H) (r : RelDs K ρ H ds xs) {p : Addr} (hp : H p = none) : Q (.ref p) (upd H p (.lst xs)) :=
  h (ρ ++ [p]) _ _ (List.prefix_append _ _) (Le.new hp _) (rp.alloc hp ⟨xs, upd_same, r.mono (List.prefix_append _ _) (Le.new hp _)⟩) ⟨p, rfl, by rw [← rp.len]; simp⟩
theorem w_me_lst {es : List Expr} {r : M.AM} (hr : WA X Θ es r) : WE X Θ (.List es pos) (M.eLst r) := by
  delta WA WE at hr ⊢
  exact (pe_lst hr).up fun σ H Q ρ σ' S st rp h => ⟨ρ, σ', S, st, rp, Post.bind h fun ρ1 H1 xs Xs S1 p1 l1 rp1 rx h1 => by
    by_cases hl : xs.length ≤ M.SZ
    · rw [if_pos hl] at h1
      rw [SZ_eq, rx.length] at hl
      exact ⟨hl, fun p hp => h1.alloc rp1 rx hp⟩
    · rw [if_neg hl] at h1
      exact h1.elim⟩
theorem w_me_callB {x : Str} {p : Pos} {id : String} {e : Expr} {es : List Expr} {f : M.F} {r : List V → Hp → VK → Prop} {m : M.AM} (hc : CallR X (.builtin id) r) (ad : AdN X.K Θ f r) (hg : Gl X x) (hm : X.mg x = none) (hv : bootBuiltins x = some (.builtin id)) (ha : WA X Θ (e :: es) m)
    (hn : x ≠ "__name__" := by decide) (hdb : (x == ("__debug__" : Str)) = false := by decide) (he : notStar e = true := by rfl) (hpl : es.all notStar = true := by rfl) :
    WE X Θ (.Call (.Name x p) (e :: es) [] pos) (M.eCall f m) := by
  delta WA WE at ha ⊢
  exact (pe_callB hc hg hm hv ha hn hdb (star_cons he) (star_any hpl)).up fun σ H Q ρ σ' S st rp h => ⟨ρ, σ', S, st, rp, Post.bind h fun ρ1 H1 xs Xs S1 p1 l1 rp1 rx h1 => ad ρ1 H1 S1 xs Xs Q rp1 rx h1⟩
end
end L2
namespace L2
open PySem PySem.Spec PyProof.Rows
def PostS (K : PySem.W.Frag) (Θ : Tab) (ρ : List Addr) (H : Hp) : M.RS → Ends → Prop
  | .nx σ1 S1, D => ∀ ρ' H' σ, ρ <+: ρ' → Le H H' → RepS K Θ ρ' S1 H' → RelSt K ρ' H' σ1 σ → D.nx σ H'
  | .rt d S1, D => ∀ ρ' H' v, ρ <+: ρ' → Le H H' → RepS K Θ ρ' S1 H' → RelD K ρ' H' d v → D.rt v H'
  | .bk σ1 S1, D => ∀ ρ' H' σ, ρ <+: ρ' → Le H H' → RepS K Θ ρ' S1 H' → RelSt K ρ' H' σ1 σ → D.bk σ H'
  | .ct σ1 S1, D => ∀ ρ' H' σ, ρ <+: ρ' → Le H H' → RepS K Θ ρ' S1 H' → RelSt K ρ' H' σ1 σ → D.ct σ H'
  | .exc d _ S', _ => PostX K Θ ρ H d S'
  | .no, _ => False
def RdS (K : PySem.W.Frag) (Θ : Tab) (m : M.SM) : TS := fun D σ H => ∃ ρ σ' S, RelSt K ρ H σ' σ ∧ RepS K Θ ρ S H ∧ PostS K Θ ρ H (m σ' S) D
abbrev MS (X : Cx) (Θ : Tab) (st : Stmt) (m : M.SM) : Prop := PS X st (RdS X.K Θ m)
@[irreducible] def WS (X : Cx) (Θ : Tab) (st : Stmt) (m : M.SM) : Prop := MS X Θ st m
abbrev MSs (X : Cx) (Θ : Tab) (st : List Stmt) (m : M.SM) : Prop := PSs X st (RdS X.K Θ m)
@[irreducible] def WSs (X : Cx) (Θ : Tab) (st : List Stmt) (m : M.SM) : Prop := MSs X Θ st m
theorem PS.imp {X : Cx} {e : Stmt} {t t' : TS} (h : PS X e t) (i : ∀ D σ H, t' D σ H → t D σ H) : PS X e t' := fun pins s σ H D I q => h pins s σ H D I (i D σ H q)
theorem PSs.imp {X : Cx} {e : List Stmt} {t t' : TS} (h : PSs X e t) (i : ∀ D σ H, t' D σ H → t D σ H) : PSs X e t' := fun pins s σ H D I q => h pins s σ H D I (i D σ H q)
theorem PS.up {X : Cx} {Θ : Tab} {e : Stmt} {t : TS} {m : M.SM} (h : PS X e t) (i : ∀ D σ H ρ σ' S, RelSt X.K ρ H σ' σ → RepS X.K Θ ρ S H → PostS X.K Θ ρ H (m σ' S) D → t D σ H) : PS X e (RdS X.K Θ m) := h.imp fun D σ H ⟨ρ, σ', S, a, b, c⟩ => i D σ H ρ σ' S a b c
theorem PSs.up {X : Cx} {Θ : Tab} {e : List Stmt} {t : TS} {m : M.SM} (h : PSs X e t) (i : ∀ D σ H ρ σ' S, RelSt X.K ρ H σ' σ → RepS X.K Θ ρ S H → PostS X.K Θ ρ H (m σ' S) D → t D σ H) : PSs X e (RdS X.K Θ m) := h.imp fun D σ H ⟨ρ, σ', S, a, b, c⟩ => i D σ H ρ σ' S a b c
section
variable {K : PySem.W.Frag} {Θ : Tab} {ρ ρ' : List Addr} {H H' : Hp} {S : M.S} {α β : Type} {Rl : List Addr → Hp → α → β → Prop} {Q : β → Hp → Prop} {D D' : Ends}
theorem PostS.weak {r : M.RS} (h : PostS K Θ ρ H r D) (hρ : ρ <+: ρ') (le : Le H H') : PostS K Θ ρ' H' r D := by
  cases r with
  | nx a s => exact fun ρ2 H2 b p l => h ρ2 H2 b (hρ.trans p) (le.trans l)
  | rt a s => exact fun ρ2 H2 b p l => h ρ2 H2 b (hρ.trans p) (le.trans l)
  | bk a s => exact fun ρ2 H2 b p l => h ρ2 H2 b (hρ.trans p) (le.trans l)
  | ct a s => exact fun ρ2 H2 b p l => h ρ2 H2 b (hρ.trans p) (le.trans l)
  | exc e a s => exact PostX.weak h hρ le
  | no => exact h
theorem PostS.stm {r : M.R α} {σ : M.St} {f : α → M.S → M.RS} (h : PostS K Θ ρ H (r.stm σ f) D)
    (k : ∀ ρ' H' a b S', ρ <+: ρ' → Le H H' → RepS K Θ ρ' S' H' → Rl ρ' H' a b → PostS K Θ ρ' H' (f a S') D → Q b H') : Post K Θ Rl ρ H r Q := by
  cases r with
  | ok a s => exact fun ρ2 H2 b p l rp rl => k ρ2 H2 a b s p l rp rl (PostS.weak h p l)
  | exc e s => exact h
  | no => exact h
theorem PostS.nx {σ1 : M.St} {σ : St} (h : PostS K Θ ρ H (.nx σ1 S) D) (rp : RepS K Θ ρ S H) (st : RelSt K ρ H σ1 σ) : D.nx σ H := h ρ H σ (List.prefix_refl _) (Le.refl _) rp st
theorem PostS.rt {d : M.D} {v : V} (h : PostS K Θ ρ H (.rt d S) D) (rp : RepS K Θ ρ S H) (r : RelD K ρ H d v) : D.rt v H := h ρ H v (List.prefix_refl _) (Le.refl _) rp r
end
section
variable {X : Cx} {Θ : Tab} {e : Expr} {pos : Pos} {m : M.EM} {st : Stmt} {rest : List Stmt} {ms mr : M.SM}
theorem w_mss_nil : WSs X Θ [] M.sNil := by
  delta WSs at ⊢
  exact pss_nil.up fun D σ H ρ σ' S st rp h => h.nx rp st
theorem w_mss_one (h : WS X Θ st ms) : WSs X Θ [st] ms := by
  delta WS WSs at h ⊢
  exact pss_one h
theorem w_mss_cons (h1 : WS X Θ st ms) (h2 : WSs X Θ rest mr) : WSs X Θ (st :: rest) (M.sSeq ms mr) := by
  delta WS WSs at h1 h2 ⊢
  exact (pss_cons h1 h2).up fun D σ H ρ σ' S st rp h => ⟨ρ, σ', S, st, rp, by
    have h' : PostS X.K Θ ρ H ((ms σ' S).then mr) D := h
    revert h'
    cases ms σ' S with
    | nx a s => exact fun h' ρ2 H2 σ2 p l rp2 st2 => ⟨ρ2, a, s, st2, rp2, PostS.weak h' p l⟩
    | rt a s => exact fun h' => h'
    | bk a s => exact fun h' => h'
    | ct a s => exact fun h' => h'
    | exc e a s => exact fun h' => h'
    | no => exact fun h' => h'⟩
theorem w_ms_ret (he : WE X Θ e m) : WS X Θ (.Return (some e) pos) (M.sRet m) := by
  delta WE WS at he ⊢
  exact (ps_ret he).up fun D σ H ρ σ' S st rp h => ⟨ρ, σ', S, st, rp, PostS.stm h fun ρ1 H1 x X1 S1 p1 l1 rp1 rx h1 => h1.rt rp1 rx⟩
theorem w_ms_set {i : Nat} {x : Str} {pos' : Pos} (hN : X.N.Nodup) (hi : X.N[i]? = some x) (hx : Loc X.env.scope x) (he : WE X Θ e m) (hs : swapsWith e (some (.Name x pos')) pos.line X.env = pure false := by kernel_rfl) (hf : X.fn x = true ∨ X.env.scope.names.lookup x = some .local := by first | exact .inl rfl | exact .inr rfl | assumption) :
    WS X Θ (.Assign [.Name x pos'] e pos) (M.sSet i m) := by
  delta WE WS at he ⊢
  exact (ps_set hN hi hx he hs hf).up fun D σ H ρ σ' S st rp h => ⟨ρ, σ', S, st, rp, PostS.stm h fun ρ1 H1 x X1 S1 p1 l1 rp1 rx h1 => h1.nx rp1 ((st.mono p1 l1).set rx i)⟩
theorem w_ms_if {c : Expr} {a b : List Stmt} {tc : M.TM} {ma mb : M.SM} (hc : WT X Θ c tc) (ha : WSs X Θ a ma) (hb : WSs X Θ b mb) : WS X Θ (.If c a b pos) (M.sIf tc ma mb) := by
  delta WS WSs WT at hc ha hb ⊢
  exact (ps_if hc ha hb).up fun D σ H ρ σ' S st rp h => ⟨ρ, σ', S, st, rp, PostS.stm h fun ρ1 H1 k k' S1 p1 l1 rp1 ek h1 => by
    cases ek
    cases k with
    | true => exact iteT ⟨ρ1, σ', S1, st.mono p1 l1, rp1, h1⟩
    | false => exact iteF ⟨ρ1, σ', S1, st.mono p1 l1, rp1, h1⟩⟩
end
def RdG (K : PySem.W.Frag) (Θ : Tab) (js : List Nat) (g : M.GM) : TG := fun v σ H Q => ∃ ρ σ' S d, RelSt K ρ H σ' σ ∧ RepS K Θ ρ S H ∧ RelD K ρ H d v ∧ ∃ σ1, g d σ' = some σ1 ∧
  ∀ H' σ2, Le H H' → RepS K Θ ρ S H' → RelSt K ρ H' σ1 σ2 → σ2.length = σ.length → (∀ j, j ∉ js → σ2[j]? = σ[j]?) → Q σ2 H'
abbrev MG (X : Cx) (Θ : Tab) (js : List Nat) (tg : Expr) (g : M.GM) : Prop := PG X tg (RdG X.K Θ js g)
@[irreducible] def WG (X : Cx) (Θ : Tab) (js : List Nat) (tg : Expr) (g : M.GM) : Prop := MG X Θ js tg g
theorem PG.imp {X : Cx} {e : Expr} {t t' : TG} (h : PG X e t) (i : ∀ v σ H Q, t' v σ H Q → t v σ H Q) : PG X e t' := fun pins s σ H v u Q I r q => h pins s σ H v u Q I r (i v σ H Q q)
theorem w_mg_name {X : Cx} {Θ : Tab} {pos : Pos} {i : Nat} {x : Str} (hN : X.N.Nodup) (hi : X.N[i]? = some x) (hx : Loc X.env.scope x) (hf : X.fn x = true ∨ X.env.scope.names.lookup x = some .local := by first | exact .inl rfl | exact .inr rfl | assumption) :
    WG X Θ [i] (.Name x pos) (M.gName i) := by
  delta WG at ⊢
  exact (pg_name hN hi hx hf).imp fun v σ H Q zq => by
    obtain ⟨ρ, σ', S, d, st, rp, rv, σ1, e, h⟩ := zq
    cases e
    exact h H _ (Le.refl _) rp (st.set rv i) (by rw [List.length_set]) fun j hj => List.getElem?_set_ne (fun z => hj (by rw [z]; simp))
structure ItR (K : PySem.W.Frag) (Θ : Tab) (ρ : List Addr) (H : Hp) (J : It) (xs : List M.D) (g : M.Gd) : Prop where
  go : ∀ (i : Nat) ρ' S' H', ρ <+: ρ' → Le H H' → RepS K Θ ρ' S' H' → M.gdOk g S' = true → i < xs.length → J.go i H'
  yld : ∀ (i : Nat) ρ' S' H' v H2, ρ <+: ρ' → Le H H' → RepS K Θ ρ' S' H' → M.gdOk g S' = true → i < xs.length → J.yld i H' v H2 → ∃ d, xs[i]? = some d ∧ RelD K ρ' H2 d v ∧ Le H' H2 ∧ RepS K Θ ρ' S' H2
  stop : ∀ ρ' S' H', ρ <+: ρ' → Le H H' → RepS K Θ ρ' S' H' → M.gdOk g S' = true → J.stop xs.length H'
def RdI (K : PySem.W.Frag) (Θ : Tab) (m : M.IM) : TI := fun σ H R => ∃ ρ σ' S, RelSt K ρ H σ' σ ∧ RepS K Θ ρ S H ∧
  Post K Θ (fun ρ' H' (p : List M.D × M.Gd) (J : It) => ItR K Θ ρ' H' J p.1 p.2) ρ H ((m σ' S).bind fun p s => if M.gdOk p.2 s then .ok p s else .no) R
abbrev MI (X : Cx) (Θ : Tab) (tg iter : Expr) (m : M.IM) : Prop := PI X tg iter (RdI X.K Θ m)
@[irreducible] def WI (X : Cx) (Θ : Tab) (tg iter : Expr) (m : M.IM) : Prop := MI X Θ tg iter m
theorem PI.imp {X : Cx} {tg e : Expr} {t t' : TI} (h : PI X tg e t) (i : ∀ σ H R, t' σ H R → t σ H R) : PI X tg e t' := fun pins s σ H R I q => h pins s σ H R I (i σ H R q)
section
variable {X : Cx} {Θ : Tab} {tg e : Expr} {m : M.EM}
theorem itr_range {K : PySem.W.Frag} {ρ : List Addr} {H : Hp} {lo hi : Int} : ItR K Θ ρ H (Itr lo (hi - lo).toNat) (M.rangeD lo hi) [] := by
  refine ⟨fun j ρ' S' H' p l rp g hj => ?_, fun j ρ' S' H' v H2 p l rp g hj y => ?_, fun ρ' S' H' p l rp g => ?_⟩
  · show j < _
    simpa [M.rangeD] using hj
  · obtain ⟨rfl, rfl⟩ := y
    have hj' : j < (hi - lo).toNat := by simpa [M.rangeD] using hj
    exact ⟨.int (lo + j), by unfold M.rangeD; rw [List.getElem?_map, List.getElem?_range hj']; rfl, rfl, Le.refl _, rp⟩
  · show _ ≤ _
    simp [M.rangeD]
theorem w_mi_range1 {p pos : Pos} (hg : Gl X "range") (hm : X.mg "range" = none) (he : WE X Θ e m) (hs : notStar e = true := by rfl) : WI X Θ tg (.Call (.Name "range" p) [e] [] pos) (M.iRange1 m) := by
  delta WE WI at he ⊢
  exact (pi_range1 hg hm (ma_cons he ma_nil hs) (star_cons hs)).imp fun σ H R ⟨ρ, σ', S, st, rp, h⟩ => ⟨ρ, σ', S, st, rp, by
      have h' : Post X.K Θ _ ρ H (((m σ' S).bind fun x s => match x with
        | .int j => if j.natAbs < 4611686018427387904 then M.R.ok (M.rangeD 0 j, ([] : M.Gd)) s else .no
        | _ => .no).bind fun p s => if M.gdOk p.2 s then .ok p s else .no) R := h
      show Post X.K Θ _ ρ H ((m σ' S).bind fun x s => (M.R.ok [] s).bind fun xs s => .ok (x :: xs) s) _
      cases hm : m σ' S with
      | no => rw [hm] at h'; exact h'.elim
      | exc a s => rw [hm] at h'; exact h'
      | ok d S1 =>
        rw [hm] at h'
        intro ρ1 H1 vs p l rp1 rv
        obtain ⟨v, ys, rfl, rv, hy⟩ := rv
        cases hy
        cases d with
        | int j =>
          cases rv
          have h2 : Post X.K Θ _ ρ H ((if j.natAbs < 4611686018427387904 then M.R.ok (M.rangeD 0 j, ([] : M.Gd)) S1 else .no).bind fun p s => if M.gdOk p.2 s then .ok p s else .no) R := h'
          by_cases hj : j.natAbs < 4611686018427387904
          · rw [if_pos hj] at h2
            refine ⟨j, rfl, by lia, by lia, ?_⟩
            have := h2 ρ1 H1 _ p l rp1 (itr_range (lo := 0) (hi := j))
            rw [Int.sub_zero] at this
            exact this
          · rw [if_neg hj] at h2
            exact h2.elim
        | _ => exact h'.elim⟩
end
section
variable {X : Cx} {Θ : Tab} {pos : Pos}
theorem for_W {K : PySem.W.Frag} {g : M.GM} {js : List Nat} {mb : M.SM} {xs : List M.D} {gd : M.Gd} {J : It} {ρ1 : List Addr} {H1 : Hp} {σ : St} {σ' : M.St} {S1 : M.S} {D : Ends} (itr : ItR K Θ ρ1 H1 J xs gd) (st : RelSt K ρ1 H1 σ' σ) (rp1 : RepS K Θ ρ1 S1 H1) (hgd : M.gdOk gd S1 = true) (h2 : PostS K Θ ρ1 H1 (M.forL gd (M.forF g mb) xs σ' S1) D) :
    ∃ W : Nat → Nat → St → Hp → Prop, (∃ m, W 0 m σ H1) ∧ ∀ i m σ H, W i m σ H →
      (J.stop i H ∧ D.nx σ H) ∨ (J.go i H ∧ ∃ N : St → Hp → Prop, (∀ σ' H', N σ' H' → ∃ m', m' < m ∧ W (i + 1) m' σ' H') ∧ ∀ x H', J.yld i H x H' → RdG K Θ js g x σ H' fun σ2 H2 => RdS K Θ mb { D with nx := N, ct := N, bk := D.nx } σ2 H2) := by
  refine ⟨fun i k σ2 H2 => ∃ ρ2 σ2' S2, ρ1 <+: ρ2 ∧ Le H1 H2 ∧ RelSt K ρ2 H2 σ2' σ2 ∧ RepS K Θ ρ2 S2 H2 ∧ M.gdOk gd S2 = true ∧ k = xs.length - i ∧ i ≤ xs.length ∧ PostS K Θ ρ2 H2 (M.forL gd (M.forF g mb) (xs.drop i) σ2' S2) D,
    ⟨xs.length, ρ1, σ', S1, List.prefix_refl _, Le.refl _, st, rp1, hgd, rfl, Nat.zero_le _, h2⟩, ?_⟩
  rintro i k σ2 H2 ⟨ρ2, σ2', S2, p2, l2, st2, rp2, g2, rfl, hi2, h3⟩
  by_cases hlt : i < xs.length
  · refine .inr ⟨itr.go i ρ2 S2 H2 p2 l2 rp2 g2 hlt, fun σ3 H3 => ∃ ρ3 σ3' S3, ρ1 <+: ρ3 ∧ Le H1 H3 ∧ RelSt K ρ3 H3 σ3' σ3 ∧ RepS K Θ ρ3 S3 H3 ∧ M.gdOk gd S3 = true ∧ PostS K Θ ρ3 H3 (M.forL gd (M.forF g mb) (xs.drop (i + 1)) σ3' S3) D,
      fun σ3 H3 ⟨ρ3, σ3', S3, a1, a2, a3, a4, a5, a6⟩ => ⟨xs.length - (i + 1), by lia, ρ3, σ3', S3, a1, a2, a3, a4, a5, rfl, hlt, a6⟩, fun x H' y => ?_⟩
    obtain ⟨d, ed, rd, ld, rpd⟩ := itr.yld i ρ2 S2 H2 x H' p2 l2 rp2 g2 hlt y
    have edr : xs.drop i = d :: xs.drop (i + 1) := by
      obtain ⟨_, e⟩ := List.getElem?_eq_some_iff.mp ed
      rw [List.drop_eq_getElem_cons hlt, e]
    rw [edr] at h3
    have h4 : PostS K Θ ρ2 H2 (match (match g d σ2' with | some σ' => mb σ' S2 | none => M.RS.no) with
      | .nx σ s => if M.gdOk gd s then M.forL gd (M.forF g mb) (xs.drop (i + 1)) σ s else .no
      | .ct σ s => if M.gdOk gd s then M.forL gd (M.forF g mb) (xs.drop (i + 1)) σ s else .no
      | .bk σ s => .nx σ s
      | r => r) D := h3
    cases hgq : g d σ2' with
    | none => rw [hgq] at h4; exact h4.elim
    | some σ1 =>
      rw [hgq] at h4
      refine ⟨ρ2, σ2', S2, d, st2.mono (List.prefix_refl _) ld, rpd, rd, σ1, hgq, fun H'' σ3 le3 rp3 st3 _ _ => ⟨ρ2, σ1, S2, st3, rp3, ?_⟩⟩
      have h5 := PostS.weak h4 (List.prefix_refl _) (ld.trans le3)
      have h6 : PostS K Θ ρ2 H'' (match mb σ1 S2 with
        | .nx σ s => if M.gdOk gd s then M.forL gd (M.forF g mb) (xs.drop (i + 1)) σ s else .no
        | .ct σ s => if M.gdOk gd s then M.forL gd (M.forF g mb) (xs.drop (i + 1)) σ s else .no
        | .bk σ s => .nx σ s
        | r => r) D := h5
      have more : ∀ (a : M.St) (s : M.S), PostS K Θ ρ2 H'' (if M.gdOk gd s then M.forL gd (M.forF g mb) (xs.drop (i + 1)) a s else .no) D → ∀ ρ4 H4 σ4, ρ2 <+: ρ4 → Le H'' H4 → RepS K Θ ρ4 s H4 → RelSt K ρ4 H4 a σ4 →
          ∃ ρ3 σ3' S3, ρ1 <+: ρ3 ∧ Le H1 H4 ∧ RelSt K ρ3 H4 σ3' σ4 ∧ RepS K Θ ρ3 S3 H4 ∧ M.gdOk gd S3 = true ∧ PostS K Θ ρ3 H4 (M.forL gd (M.forF g mb) (xs.drop (i + 1)) σ3' S3) D := fun a s h7 ρ4 H4 σ4 p4 l4 rp4 st4 => by
        by_cases hs : M.gdOk gd s = true
        · rw [if_pos hs] at h7
          exact ⟨ρ4, a, s, p2.trans p4, l2.trans (ld.trans (le3.trans l4)), st4, rp4, hs, PostS.weak h7 p4 l4⟩
        · rw [if_neg hs] at h7; exact h7.elim
      revert h6
      cases mb σ1 S2 with
      | nx a s => exact fun h6 => more a s h6
      | ct a s => exact fun h6 => more a s h6
      | bk a s => exact fun h6 => h6
      | rt a s => exact fun h6 => h6
      | exc e a s => exact fun h6 => h6
      | no => exact fun h6 => h6
  · have e : i = xs.length := by lia
    subst e
    rw [List.drop_length] at h3
    exact .inl ⟨itr.stop ρ2 S2 H2 p2 l2 rp2 g2, PostS.nx (σ := σ2) h3 rp2 st2⟩
theorem w_ms_for {tg iter : Expr} {body : List Stmt} {it : M.IM} {g : M.GM} {js : List Nat} {mb : M.SM} (hp : PassesOwn (model X.prog X.w) X.A X.env X.xe) (hc : X.calm = true) (hi : WI X Θ tg iter it) (hg : WG X Θ js tg g) (hb : WSs X Θ body mb)
    (hs : ∀ x, foldedSetIterable iter X.env x = pure x := by intro _; rfl) : WS X Θ (.For tg iter body [] pos) (M.sFor it g mb) := by
  delta WG WI WS WSs at hi hg hb ⊢
  exact (ps_for hp hc hi hg hb hs).up fun D σ H ρ σ' S st rp h => ⟨ρ, σ', S, st, rp, by
      have h' : PostS X.K Θ ρ H ((it σ' S).stm σ' fun p s => if M.gdOk p.2 s = true then M.forL p.2 (M.forF g mb) p.1 σ' s else .no) D := h
      cases hit : it σ' S with
      | no => rw [hit] at h'; exact h'.elim
      | exc a s => rw [hit] at h'; exact h'
      | ok p S1 =>
        rw [hit] at h'
        obtain ⟨xs, gd⟩ := p
        show Post X.K Θ _ ρ H (if M.gdOk gd S1 then M.R.ok (xs, gd) S1 else .no) _
        have h2 : PostS X.K Θ ρ H (if M.gdOk gd S1 = true then M.forL gd (M.forF g mb) xs σ' S1 else .no) D := h'
        by_cases hgd : M.gdOk gd S1 = true
        case neg => rw [if_neg hgd] at h2; exact h2.elim
        rw [if_pos hgd] at h2
        rw [if_pos hgd]
        intro ρ1 H1 J p1 l1 rp1 (itr : ItR X.K Θ ρ1 H1 J xs gd)
        exact for_W itr (st.mono p1 l1) rp1 hgd (PostS.weak h2 p1 l1)⟩
theorem comp_W {K : PySem.W.Frag} {n : Nat} {it : M.IM} {g : M.GM} {js : List Nat} {tc : M.TM} {me : M.EM} {σ : St} {σ' : M.St} {S : M.S} {ρ : List Addr} {H : Hp} {R : List V → Hp → Prop} (st : RelSt K ρ H σ' σ) (rp : RepS K Θ ρ S H) (hj : ∀ j ∈ js, σ.length ≤ j)
    (h : Post K Θ (RelDs K) ρ H (M.compE n it g tc me σ' S) R) :
    RdI K Θ it σ H fun J H1 => ∃ W : Nat → Nat → List V → Hp → Prop, (∃ m, W 0 m [] H1) ∧ ∀ i m ys H2, W i m ys H2 → ys.length ≤ sizeLine ∧
      ((J.stop i H2 ∧ R ys H2) ∨
       (J.go i H2 ∧ ∀ x H3, J.yld i H2 x H3 → RdG K Θ js g x (σ ++ List.replicate n none) H3 fun σ2 H4 => Wk (σ ++ List.replicate n none) σ2 ∧ RdT K Θ tc σ2 H4 fun b H5 =>
          if b = true then RdE K Θ me σ2 H5 fun y H6 => ∃ m', m' < m ∧ W (i + 1) m' (ys ++ [y]) H6 else ∃ m', m' < m ∧ W (i + 1) m' ys H5)) := by
  refine ⟨ρ, σ', S, st, rp, ?_⟩
  have h' : Post K Θ (RelDs K) ρ H ((it σ' S).bind fun p s => if p.1.length ≤ M.SZ ∧ M.gdOk p.2 s = true then M.compL p.2 (M.compF n g tc me σ') p.1 s else .no) R := h
  cases hit : it σ' S with
  | no => rw [hit] at h'; exact h'.elim
  | exc a s => rw [hit] at h'; exact h'
  | ok p S1 =>
    rw [hit] at h'
    obtain ⟨xs, gd⟩ := p
    show Post K Θ _ ρ H (if M.gdOk gd S1 then M.R.ok (xs, gd) S1 else .no) _
    have h2 : Post K Θ (RelDs K) ρ H (if xs.length ≤ M.SZ ∧ M.gdOk gd S1 = true then M.compL gd (M.compF n g tc me σ') xs S1 else .no) R := h'
    by_cases hgd : xs.length ≤ M.SZ ∧ M.gdOk gd S1 = true
    case neg => rw [if_neg hgd] at h2; exact h2.elim
    rw [if_pos hgd] at h2
    rw [if_pos hgd.2]
    intro ρ1 H1 J p1 l1 rp1 (itr : ItR K Θ ρ1 H1 J xs gd)
    refine ⟨fun i k ys H2 => ∃ ρ2 S2 ds, ρ1 <+: ρ2 ∧ Le H1 H2 ∧ RepS K Θ ρ2 S2 H2 ∧ M.gdOk gd S2 = true ∧ RelDs K ρ2 H2 ds ys ∧ ds.length ≤ i ∧ k = xs.length - i ∧ i ≤ xs.length ∧ Post K Θ (RelDs K) ρ2 H2 ((M.compL gd (M.compF n g tc me σ') (xs.drop i) S2).bind fun es s => .ok (ds ++ es) s) R,
      ⟨xs.length, ρ1, S1, [], List.prefix_refl _, Le.refl _, rp1, hgd.2, rfl, Nat.le_refl _, rfl, Nat.zero_le _, ?_⟩, ?_⟩
    · have h3 := Post.weak h2 p1 l1
      revert h3
      show Post K Θ (RelDs K) ρ1 H1 (M.compL gd (M.compF n g tc me σ') xs S1) R → _
      rw [List.drop_zero]
      cases M.compL gd (M.compF n g tc me σ') xs S1 with
      | ok a s => exact fun h3 => h3
      | exc e s => exact fun h3 => h3
      | no => exact fun h3 => h3
    rintro i k ys H2 ⟨ρ2, S2, ds, p2, l2, rp2, g2, rds, hdl, rfl, hi2, h3⟩
    refine ⟨by rw [← rds.length, ← SZ_eq]; lia, ?_⟩
    by_cases hlt : i < xs.length
    · refine .inr ⟨itr.go i ρ2 S2 H2 p2 l2 rp2 g2 hlt, fun x H3 y => ?_⟩
      obtain ⟨d, ed, rd, ld, rpd⟩ := itr.yld i ρ2 S2 H2 x H3 p2 l2 rp2 g2 hlt y
      have edr : xs.drop i = d :: xs.drop (i + 1) := by
        obtain ⟨_, e⟩ := List.getElem?_eq_some_iff.mp ed
        rw [List.drop_eq_getElem_cons hlt, e]
      rw [edr] at h3
      have h4 : Post K Θ (RelDs K) ρ2 H2 (((match g d (σ' ++ List.replicate n none) with
          | none => M.R.no
          | some σ1 => (tc σ1 S2).bind fun b s => if b then (me σ1 s).bind fun d s => .ok (some d) s else .ok none s).bind fun o s =>
            if M.gdOk gd s then (M.compL gd (M.compF n g tc me σ') (xs.drop (i + 1)) s).bind fun ys s => .ok (match o with | some y => y :: ys | none => ys) s else .no).bind fun es s => .ok (ds ++ es) s) R := h3
      cases hgq : g d (σ' ++ List.replicate n none) with
      | none => rw [hgq] at h4; exact h4.elim
      | some σ1 =>
        rw [hgq] at h4
        refine ⟨ρ2, σ' ++ List.replicate n none, S2, d, ((st.mono (p1.trans p2) (l1.trans (l2.trans ld))).more n), rpd, rd, σ1, hgq, fun H4 σ2 le4 rp4 st4 hl4 hj4 => ⟨⟨hl4.symm, fun j v e => ?_⟩, ρ2, σ1, S2, st4, rp4, ?_⟩⟩
        · by_cases hjj : j ∈ js
          · rw [List.getElem?_append_right (hj j hjj), List.getElem?_replicate] at e
            split at e <;> cases e
          · rw [hj4 j hjj]; exact e
        · have h5 := Post.weak h4 (List.prefix_refl _) (ld.trans le4)
          dsimp only at h5
          cases htc : tc σ1 S2 with
          | no => rw [htc] at h5; exact h5.elim
          | exc a s => rw [htc] at h5; exact h5
          | ok b S3 =>
            rw [htc] at h5
            intro ρ5 H5 b' p5 l5 rp5 eb
            cases eb
            have next : ∀ (o : Option M.D) (s : M.S) (ρ6 : List Addr) (H6 : Hp) (zs : List V), ρ2 <+: ρ6 → Le H4 H6 → RepS K Θ ρ6 s H6 → RelDs K ρ6 H6 (match o with | some y => ds ++ [y] | none => ds) zs →
                Post K Θ (RelDs K) ρ6 H6 ((if M.gdOk gd s then (M.compL gd (M.compF n g tc me σ') (xs.drop (i + 1)) s).bind fun ys s => .ok (match o with | some y => y :: ys | none => ys) s else .no).bind fun es s => .ok (ds ++ es) s) R →
                ∃ m', m' < xs.length - i ∧ ∃ ρ2 S2 es, ρ1 <+: ρ2 ∧ Le H1 H6 ∧ RepS K Θ ρ2 S2 H6 ∧ M.gdOk gd S2 = true ∧ RelDs K ρ2 H6 es zs ∧ es.length ≤ i + 1 ∧ m' = xs.length - (i + 1) ∧ i + 1 ≤ xs.length ∧
                  Post K Θ (RelDs K) ρ2 H6 ((M.compL gd (M.compF n g tc me σ') (xs.drop (i + 1)) S2).bind fun fs s => .ok (es ++ fs) s) R := fun o s ρ6 H6 zs p6 l6 rp6 rz h6 => by
              by_cases hs : M.gdOk gd s = true
              case neg => rw [if_neg hs] at h6; exact h6.elim
              rw [if_pos hs] at h6
              refine ⟨xs.length - (i + 1), by lia, ρ6, s, _, p2.trans p6, l2.trans (ld.trans (le4.trans l6)), rp6, hs, rz, ?_, rfl, hlt, ?_⟩
              · cases o <;> simp <;> lia
              · revert h6
                cases M.compL gd (M.compF n g tc me σ') (xs.drop (i + 1)) s with
                | ok a s2 =>
                  intro h6
                  cases o with
                  | none => exact h6
                  | some y =>
                    show Post K Θ (RelDs K) ρ6 H6 (.ok (ds ++ [y] ++ a) s2) R
                    rw [List.append_assoc]
                    exact h6
                | exc e s => exact fun h6 => h6
                | no => exact fun h6 => h6
            cases b with
            | false => exact iteF (next none S3 ρ5 H5 ys p5 l5 rp5 (rds.mono p5 (ld.trans (le4.trans l5))) (Post.weak h5 p5 l5))
            | true =>
              refine iteT ⟨ρ5, σ1, S3, st4.mono p5 l5, rp5, ?_⟩
              have h6 := Post.weak h5 p5 l5
              cases hme : me σ1 S3 with
              | no =>
                have h7 : Post K Θ (RelDs K) ρ5 H5 ((((me σ1 S3).bind fun d s => M.R.ok (some d) s).bind fun o s => if M.gdOk gd s then (M.compL gd (M.compF n g tc me σ') (xs.drop (i + 1)) s).bind fun ys s => .ok (match o with | some y => y :: ys | none => ys) s else .no).bind fun es s => .ok (ds ++ es) s) R := h6
                rw [hme] at h7; exact h7.elim
              | exc a s =>
                have h7 : Post K Θ (RelDs K) ρ5 H5 ((((me σ1 S3).bind fun d s => M.R.ok (some d) s).bind fun o s => if M.gdOk gd s then (M.compL gd (M.compF n g tc me σ') (xs.drop (i + 1)) s).bind fun ys s => .ok (match o with | some y => y :: ys | none => ys) s else .no).bind fun es s => .ok (ds ++ es) s) R := h6
                rw [hme] at h7; exact h7
              | ok y S6 =>
                have h7 : Post K Θ (RelDs K) ρ5 H5 ((((me σ1 S3).bind fun d s => M.R.ok (some d) s).bind fun o s => if M.gdOk gd s then (M.compL gd (M.compF n g tc me σ') (xs.drop (i + 1)) s).bind fun ys s => .ok (match o with | some y => y :: ys | none => ys) s else .no).bind fun es s => .ok (ds ++ es) s) R := h6
                rw [hme] at h7
                intro ρ6 H6 v p6 l6 rp6 rv
                exact next (some y) S6 ρ6 H6 (ys ++ [v]) (p5.trans p6) (l5.trans l6) rp6 ((rds.mono (p5.trans p6) (ld.trans (le4.trans (l5.trans l6)))).app ⟨v, [], rfl, rv, rfl⟩) (Post.weak h7 p6 l6)
    · have e : i = xs.length := by lia
      subst e
      rw [List.drop_length] at h3
      refine .inl ⟨itr.stop ρ2 S2 H2 p2 l2 rp2 g2, ?_⟩
      have h4 : Post K Θ (RelDs K) ρ2 H2 (.ok (ds ++ []) S2) R := h3
      rw [List.append_nil] at h4
      exact h4.here rp2 rds
end
end L2
namespace L2
open PySem PySem.Spec PyProof.Rows
section
variable {X : Cx} {Θ : Tab} {pos : Pos} {vars : List Str} {scope : Scope} {cl : List (Str × Addr)} {tg elt iter : Expr} {ifs : List Expr} {it : M.IM} {g : M.GM} {js : List Nat} {tc : M.TM} {me : M.EM}
theorem comp_rd {pins : List (Addr × Obj)} {s : Shared} {σ : St} {H : Hp} (I : Inv X pins σ H s) (hj : ∀ j ∈ js, X.N.length ≤ j) {ρ : List Addr} {σ' : M.St} {S : M.S} (st : RelSt X.K ρ H σ' σ) (rp : RepS X.K Θ ρ S H) {Q : VK} {n : Nat}
    (h : Post X.K Θ (RelDs X.K) ρ H (M.compE n it g tc me σ' S) fun ys H2 => ∀ D, H2 D = none → Q (.ref D) (upd H2 D (.lst ys))) :
    tComp n (RdI X.K Θ it) (RdG X.K Θ js g) (RdT X.K Θ tc) (RdE X.K Θ me) σ H Q := comp_W st rp (fun j hjj => by rw [I.len]; exact hj j hjj) h
theorem w_me_comp (hc : X.calm = true) (C : CompScope X vars scope cl) (hi : WI X Θ tg iter it) (hg : ∀ C fp s₂ H₂, WG (compCx X vars scope cl C fp s₂ H₂) Θ js tg g) (ht : ∀ C fp s₂ H₂, PIfs (compCx X vars scope cl C fp s₂ H₂) ifs (RdT X.K Θ tc))
    (he : ∀ C fp s₂ H₂, WE (compCx X vars scope cl C fp s₂ H₂) Θ elt me) (hj' : (js.all fun j => decide (X.N.length ≤ j)) = true) (hs : ∀ x, foldedSetIterable iter X.env x = pure x := by intro _; rfl) : WE X Θ (.ListComp elt [⟨tg, iter, ifs, 0⟩] scope pos) (M.eComp vars.length it g tc me) := by
  delta WE WG WI at hi hg he ⊢
  intro pins s σ H Q I ⟨ρ, σ', S, st, rp, h⟩
  have hj : ∀ j ∈ js, X.N.length ≤ j := fun j hjj => of_decide_eq_true (List.all_eq_true.mp hj' j hjj)
  exact pe_comp hc C hi hg ht he hs pins s σ H Q I (comp_rd I hj st rp (Post.bind h fun ρ1 H1 ds ys S1 p1 l1 rp1 r1 h1 D hD => h1.alloc rp1 r1 hD))
end
def SpM (K : PySem.W.Frag) (Θ : Tab) (n : Nat) (f : M.F) : Sp := fun vs H Q _ => ∃ ρ ds S, ds.length = n ∧ RelDs K ρ H ds vs ∧ RepS K Θ ρ S H ∧ Post K Θ (RelD K) ρ H (f ds S) Q
def Arity (m : M.AM) (n : Nat) : Prop := ∀ σ s xs s', m σ s = .ok xs s' → xs.length = n
theorem ar_nil : Arity M.aNil 0 := fun σ s xs s' h => by cases h; rfl
theorem ar_cons {a : M.EM} {r : M.AM} {n : Nat} (h : Arity r n) : Arity (M.aCons a r) (n + 1) := fun σ s xs s' e => by
  have e' : ((a σ s).bind fun x s => (r σ s).bind fun xs s => M.R.ok (x :: xs) s) = .ok xs s' := e
  cases ha : a σ s with
  | no => rw [ha] at e'; cases e'
  | exc a s => rw [ha] at e'; cases e'
  | ok d S1 =>
    rw [ha] at e'
    have e2 : ((r σ S1).bind fun xs s => M.R.ok (d :: xs) s) = .ok xs s' := e'
    cases hr : r σ S1 with
    | no => rw [hr] at e2; cases e2
    | exc a s => rw [hr] at e2; cases e2
    | ok ds S2 =>
      rw [hr] at e2
      cases e2
      rw [List.length_cons, h _ _ _ _ hr]
section
variable {X : Cx} {Θ : Tab} {pos p : Pos} {x : Str} {ps : List Str} {e : Expr} {es : List Expr} {f : M.F} {m : M.AM} {k kk n : Nat}
theorem w_me_call (h : Has X.prog X.w X.K X.mg X.base x k ps (SpM X.K Θ n f)) (hr : Room kk X.A) (hk : k ≤ kk) (hg : Gl X x) (ha : WA X Θ (e :: es) m) (ar : Arity m n) (hx : Passes CX0 X E0 := by exact pass0) (hdb : (x == ("__debug__" : Str)) = false := by decide)
    (he : notStar e = true := by rfl) (hpl : es.all notStar = true := by rfl) : WE X Θ (.Call (.Name x p) (e :: es) [] pos) (M.eCall f m) := by
  delta WA WE at ha ⊢
  exact (pe_callH h hr hk hg ha hx hdb (star_cons he) (star_any hpl)).up fun σ H Q ρ σ' S st rp h => ⟨ρ, σ', S, st, rp, by
      have h' : Post X.K Θ (RelD X.K) ρ H ((m σ' S).bind fun xs s => f xs s) Q := h
      cases hm : m σ' S with
      | no => rw [hm] at h'; exact h'.elim
      | exc a s => rw [hm] at h'; exact h'
      | ok ds S1 =>
        rw [hm] at h'
        intro ρ1 H1 vs p1 l1 rp1 r1
        rw [List.append_nil]
        exact ⟨ρ1, ds, S1, ar _ _ _ _ hm, r1, rp1, Post.weak h' p1 l1⟩⟩
end
theorem ren_ky {e : List Nat} : ∀ {n : Nat} {d : M.D}, M.kyD n (M.D.ren e d) = true → M.D.ren e d = d := by
  intro n
  induction n with
  | zero => intro d h; cases d <;> first | rfl | cases h
  | succ n ih =>
    intro d h
    cases d with
    | tup ds =>
      show M.D.tup (M.D.ren.all e ds) = _
      have h' : (M.D.ren.all e ds).all (M.kyD n) = true := h
      have : ∀ ds : List M.D, (M.D.ren.all e ds).all (M.kyD n) = true → M.D.ren.all e ds = ds := by
        intro ds
        induction ds with
        | nil => intro _; rfl
        | cons d ds ih2 =>
          intro h
          have h2 : (M.kyD n (M.D.ren e d) && (M.D.ren.all e ds).all (M.kyD n)) = true := h
          rw [Bool.and_eq_true] at h2
          show M.D.ren e d :: M.D.ren.all e ds = _
          rw [ih h2.1, ih2 h2.2]
      rw [this ds h']
    | _ => first | rfl | cases h
section
variable {K : PySem.W.Frag} {Θ : Tab} {ρ ρ' : List Addr} {H : Hp} {e : List Nat}
mutual
theorem RelD.unren (hρ : ∀ (i j : Nat) a, e[i]? = some j → ρ[j]? = some a → ρ'[i]? = some a) : ∀ {d : M.D} {v : V}, M.D.cl e.length d = true → RelD K ρ H (M.D.ren e d) v → RelD K ρ' H d v
  | .non, _, _, h => h
  | .bl _, _, _, h => h
  | .int _, _, _, h => h
  | .str _, _, _, h => h
  | .ty _, _, _, h => h
  | .ref i, _, c, ⟨a, h1, h2⟩ => by
    have hi : i < e.length := of_decide_eq_true c
    refine ⟨a, h1, hρ i (e.getD i i) a ?_ h2⟩
    rw [List.getD_eq_getElem?_getD, List.getElem?_eq_getElem hi]; rfl
  | .tup _, _, c, ⟨a, xs, h1, h2, h3⟩ => ⟨a, xs, h1, h2, RelDs.unren hρ c h3⟩
  | .ro _, _, c, ⟨a, xs, h1, h2, h3⟩ => ⟨a, xs, h1, h2, RelDs.unren hρ c h3⟩
theorem RelDs.unren (hρ : ∀ (i j : Nat) a, e[i]? = some j → ρ[j]? = some a → ρ'[i]? = some a) : ∀ {ds : List M.D} {xs : List V}, M.D.cl.all e.length ds = true → RelDs K ρ H (M.D.ren.all e ds) xs → RelDs K ρ' H ds xs
  | [], _, _, h => h
  | d :: ds, _, c, ⟨y, ys, h1, h2, h3⟩ => by
    have c' : (M.D.cl e.length d && M.D.cl.all e.length ds) = true := c
    rw [Bool.and_eq_true] at c'
    exact ⟨y, ys, h1, RelD.unren hρ c'.1 h2, RelDs.unren hρ c'.2 h3⟩
end
theorem ObR.unren (hρ : ∀ (i j : Nat) a, e[i]? = some j → ρ[j]? = some a → ρ'[i]? = some a) {a : Addr} {o : M.O} (c : M.O.cl e.length o = true) (h : ObR K Θ ρ H a (M.O.ren e o)) : ObR K Θ ρ' H a o := by
  cases o with
  | lst ds => obtain ⟨xs, h1, h2⟩ := h; exact ⟨xs, h1, RelDs.unren hρ c h2⟩
  | dct kvs =>
    obtain ⟨ks, h1, h2⟩ := h
    refine ⟨ks, h1, ?_⟩
    have c' : ∀ p ∈ kvs, (M.D.cl e.length p.1 && M.D.cl e.length p.2) = true := List.all_eq_true.mp c
    clear h1
    revert h2 c'
    clear c
    induction kvs generalizing ks with
    | nil => intro h2 c'; cases h2; exact .nil
    | cons p kvs ih =>
      intro h2 c'
      rw [List.map_cons] at h2
      cases h2 with
      | cons r1 r2 =>
        have c1 := c' p List.mem_cons_self
        rw [Bool.and_eq_true] at c1
        refine .cons ⟨?_, RelD.unren hρ c1.2 r1.2⟩ (ih _ r2 (fun q hq => c' q (List.mem_cons_of_mem _ hq)))
        have hk := r1.1
        revert hk
        cases p.1 <;> exact fun hk => hk
  | fdc kvs =>
    obtain ⟨o, ks, h1, h2⟩ := h
    refine ⟨o, ks, h1, ?_⟩
    have c' : ∀ p ∈ kvs, (M.D.cl e.length p.1 && M.D.cl e.length p.2) = true := List.all_eq_true.mp c
    clear h1
    revert h2 c'
    clear c
    induction kvs generalizing ks with
    | nil => intro h2 c'; cases h2; exact .nil
    | cons p kvs ih =>
      intro h2 c'
      rw [List.map_cons] at h2
      cases h2 with
      | cons r1 r2 =>
        have c1 := c' p List.mem_cons_self
        rw [Bool.and_eq_true] at c1
        refine .cons ⟨?_, RelD.unren hρ c1.2 r1.2⟩ (ih _ r2 (fun q hq => c' q (List.mem_cons_of_mem _ hq)))
        have hk := r1.1
        revert hk
        cases p.1 <;> exact fun hk => hk
  | dtt kvs =>
    obtain ⟨xs, h1, h2⟩ := h
    refine ⟨xs, h1, ?_⟩
    have c' : ∀ p ∈ kvs, (M.D.cl e.length p.1 && M.D.cl e.length p.2) = true := List.all_eq_true.mp c
    clear h1
    revert h2 c'
    clear c
    induction kvs generalizing xs with
    | nil => intro h2 c'; cases h2; exact .nil
    | cons p kvs ih =>
      intro h2 c'
      rw [List.map_cons] at h2
      cases h2 with
      | cons r1 r2 =>
        have c1 := c' p List.mem_cons_self
        rw [Bool.and_eq_true] at c1
        obtain ⟨a1, a2, a3, v, a4, a5⟩ := r1
        have e1 := ren_ky a2
        rw [e1] at a1 a2
        exact .cons ⟨a1, a2, RelD.unren hρ c1.1 a3, v, RelD.unren hρ c1.2 a4, a5⟩ (ih _ r2 (fun q hq => c' q (List.mem_cons_of_mem _ hq)))
  | ftt kvs =>
    obtain ⟨o, xs, h1, h2⟩ := h
    refine ⟨o, xs, h1, ?_⟩
    have c' : ∀ p ∈ kvs, (M.D.cl e.length p.1 && M.D.cl e.length p.2) = true := List.all_eq_true.mp c
    clear h1
    revert h2 c'
    clear c
    induction kvs generalizing xs with
    | nil => intro h2 c'; cases h2; exact .nil
    | cons p kvs ih =>
      intro h2 c'
      rw [List.map_cons] at h2
      cases h2 with
      | cons r1 r2 =>
        have c1 := c' p List.mem_cons_self
        rw [Bool.and_eq_true] at c1
        obtain ⟨a1, a2, a3, v, a4, a5⟩ := r1
        have e1 := ren_ky a2
        rw [e1] at a1 a2
        exact .cons ⟨a1, a2, RelD.unren hρ c1.1 a3, v, RelD.unren hρ c1.2 a4, a5⟩ (ih _ r2 (fun q hq => c' q (List.mem_cons_of_mem _ hq)))
  | ins cc fs =>
    obtain ⟨C, dx, gs, N, h1, h2, h3⟩ := h
    refine ⟨C, dx, gs, N, h1, h2, by rw [← h3.len]; simp, h3.nd, h3.within, fun i f d q1 q2 => ?_⟩
    obtain ⟨v, k1, k2⟩ := h3.get i f (M.D.ren e d) q1 (by rw [List.getElem?_map, q2]; rfl)
    refine ⟨v, k1, RelD.unren hρ ?_ k2⟩
    have := List.all_eq_true.mp c (some d) (List.mem_of_getElem? q2)
    exact this
theorem Post.gc {S S' S1 : M.S} {d : M.D} {Q : VK} (em : M.Emb S.length e S' S1) (cd : M.D.cl S'.length d = true) (rp : RepS K Θ ρ S H) (h : Post K Θ (RelD K) ρ H (.ok d S') Q) : Post K Θ (RelD K) ρ H (.ok (M.D.ren e d) S1) Q := by
  intro ρ1 H1 v p1 l1 rp1 r1
  have hlt : ∀ {i j : Nat}, e[i]? = some j → j < ρ1.length := fun {i j} q => by
    have hi : i < S'.length := by rw [← em.len]; exact (List.getElem?_eq_some_iff.mp q).1
    obtain ⟨j', q1, q2, _⟩ := em.obj i S'[i] (by simp [hi])
    rw [q] at q1; cases q1
    rw [rp1.len]; exact (List.getElem?_eq_some_iff.mp q2).1
  have hρ : ∀ (i j : Nat) a, e[i]? = some j → ρ1[j]? = some a → (e.map fun j => ρ1.getD j 0)[i]? = some a := fun i j a q1 q2 => by
    rw [List.getElem?_map, q1, Option.map_some, List.getD_eq_getElem?_getD, q2]; rfl
  refine h (e.map fun j => ρ1.getD j 0) H1 v ?_ l1 ⟨by rw [List.length_map, em.len], ?_, fun i o q => ?_⟩ (RelD.unren hρ (by rw [em.len]; exact cd) r1)
  · refine List.prefix_iff_getElem?.mpr fun i hi => ?_
    have hi' : i < S.length := rp.len ▸ hi
    exact hρ i i _ (em.old i hi') (pre_get p1 (List.getElem?_eq_getElem hi))
  · refine nodup_of fun i j x a b => ?_
    rw [List.getElem?_map] at a b
    cases ei : e[i]? with
    | none => rw [ei] at a; cases a
    | some k =>
      cases ej : e[j]? with
      | none => rw [ej] at b; cases b
      | some l =>
        rw [ei, Option.map_some, List.getD_eq_getElem?_getD, List.getElem?_eq_getElem (hlt ei)] at a
        rw [ej, Option.map_some, List.getD_eq_getElem?_getD, List.getElem?_eq_getElem (hlt ej)] at b
        have e1 : ρ1[k]'(hlt ei) = x := by simpa using a
        have e2 : ρ1[l]'(hlt ej) = x := by simpa using b
        have e3 := nodup_get rp1.nd (hlt ei) (hlt ej) (e1.trans e2.symm)
        subst e3
        exact nodup_at em.nd ei ej
  · obtain ⟨j, q1, q2, q3⟩ := em.obj i o q
    obtain ⟨a, q4, q5⟩ := rp1.obj j _ q2
    exact ⟨a, hρ i j a q1 q4, ObR.unren hρ (by rw [em.len]; exact q3) q5⟩
end
section
variable {K : PySem.W.Frag} {Θ : Tab} {ρ : List Addr} {H : Hp}
mutual
theorem RelD.cl : ∀ {d : M.D} {v : V}, RelD K ρ H d v → M.D.cl ρ.length d = true
  | .non, _, _ => rfl
  | .bl _, _, _ => rfl
  | .int _, _, _ => rfl
  | .str _, _, _ => rfl
  | .ty _, _, _ => rfl
  | .ref _, _, ⟨a, _, h2⟩ => decide_eq_true (List.getElem?_eq_some_iff.mp h2).1
  | .tup _, _, ⟨_, _, _, _, h⟩ => RelDs.cl h
  | .ro _, _, ⟨_, _, _, _, h⟩ => RelDs.cl h
theorem RelDs.cl : ∀ {ds : List M.D} {xs : List V}, RelDs K ρ H ds xs → M.D.cl.all ρ.length ds = true
  | [], _, _ => rfl
  | d :: ds, _, ⟨_, _, _, h1, h2⟩ => by
    show (M.D.cl ρ.length d && M.D.cl.all ρ.length ds) = true
    rw [RelD.cl h1, RelDs.cl h2]; rfl
end
theorem RepS.cl {S : M.S} (rp : RepS K Θ ρ S H) : M.clS S.length S = true := by
  refine List.all_eq_true.mpr fun o ho => ?_
  obtain ⟨i, hi, rfl⟩ := List.mem_iff_getElem.mp ho
  obtain ⟨a, h1, h2⟩ := rp.obj i S[i] (by simp [hi])
  rw [← rp.len]
  revert h2
  cases S[i] with
  | lst ds => exact fun ⟨xs, _, r⟩ => r.cl
  | dct kvs =>
    intro ⟨ks, _, r⟩
    refine List.all_eq_true.mpr fun p hp => ?_
    have : ∀ {kvs : List (M.D × M.D)} {ks : List (Key × V)}, Paired (fun (p : M.D × M.D) (q : Key × V) => KeyR p.1 q.1 ∧ RelD K ρ H p.2 q.2) kvs ks → p ∈ kvs → (M.D.cl ρ.length p.1 && M.D.cl ρ.length p.2) = true := by
      intro kvs ks r hp
      induction r with
      | nil => cases hp
      | cons r1 r2 ih =>
        rcases List.mem_cons.mp hp with rfl | hp
        · rw [r1.2.cl, Bool.and_true]
          have hk := r1.1
          revert hk
          cases p.1 <;> first | exact fun _ => rfl | exact fun hk => hk.elim
        · exact ih hp
    exact this r hp
  | fdc kvs =>
    intro ⟨_, ks, _, r⟩
    refine List.all_eq_true.mpr fun p hp => ?_
    have : ∀ {kvs : List (M.D × M.D)} {ks : List (Key × V)}, Paired (fun (p : M.D × M.D) (q : Key × V) => KeyR p.1 q.1 ∧ RelD K ρ H p.2 q.2) kvs ks → p ∈ kvs → (M.D.cl ρ.length p.1 && M.D.cl ρ.length p.2) = true := by
      intro kvs ks r hp
      induction r with
      | nil => cases hp
      | cons r1 r2 ih =>
        rcases List.mem_cons.mp hp with rfl | hp
        · rw [r1.2.cl, Bool.and_true]
          have hk := r1.1
          revert hk
          cases p.1 <;> first | exact fun _ => rfl | exact fun hk => hk.elim
        · exact ih hp
    exact this r hp
  | dtt kvs =>
    intro ⟨xs, _, r⟩
    refine List.all_eq_true.mpr fun p hp => ?_
    have : ∀ {kvs : List (M.D × M.D)} {xs : List (M.D × Addr × Value)}, Paired (TDr K ρ H) kvs xs → p ∈ kvs → (M.D.cl ρ.length p.1 && M.D.cl ρ.length p.2) = true := by
      intro kvs xs r hp
      induction r with
      | nil => cases hp
      | cons r1 r2 ih =>
        rcases List.mem_cons.mp hp with rfl | hp
        · obtain ⟨_, _, a3, v, a4, _⟩ := r1
          rw [a3.cl, a4.cl]; rfl
        · exact ih hp
    exact this r hp
  | ftt kvs =>
    intro ⟨o, xs, _, r⟩
    refine List.all_eq_true.mpr fun p hp => ?_
    have : ∀ {kvs : List (M.D × M.D)} {xs : List (M.D × Addr × Value)}, Paired (TDr K ρ H) kvs xs → p ∈ kvs → (M.D.cl ρ.length p.1 && M.D.cl ρ.length p.2) = true := by
      intro kvs xs r hp
      induction r with
      | nil => cases hp
      | cons r1 r2 ih =>
        rcases List.mem_cons.mp hp with rfl | hp
        · obtain ⟨_, _, a3, v, a4, _⟩ := r1
          rw [a3.cl, a4.cl]; rfl
        · exact ih hp
    exact this r hp
  | ins c fs =>
    intro ⟨C, dx, gs, N, _, _, r⟩
    refine List.all_eq_true.mpr fun od hod => ?_
    cases od with
    | none => rfl
    | some d =>
      obtain ⟨j, hj, ej⟩ := List.mem_iff_getElem.mp hod
      have hN : j < N.length := r.len ▸ hj
      obtain ⟨v, _, rv⟩ := r.get j N[j] d (by simp [hN]) (by rw [List.getElem?_eq_getElem hj, ej])
      exact rv.cl
end
section
variable {P : Program} {w : World} {K : PySem.W.Frag} {mg : Str → Option Value} {base : Heap} {Θ : Tab}
theorem start_rel {ρ : List Addr} {H : Hp} {ds : List M.D} {vs : List V} (r : RelDs K ρ H ds vs) (N : List Str) : RelSt K ρ H (ds.map some ++ List.replicate (N.length - ds.length) none) (start N vs) := by
  have hl := r.length
  refine ⟨by simp [start, hl], fun i d q => ?_⟩
  unfold start
  by_cases hi : i < ds.length
  · rw [List.getElem?_append_left (by simpa using hi), List.getElem?_map] at q
    cases e : ds[i]? with
    | none => rw [e] at q; cases q
    | some d' =>
      rw [e] at q
      cases q
      obtain ⟨v, e1, rv⟩ := r.get e
      refine ⟨v, ?_, rv⟩
      rw [List.getElem?_append_left (by simp; lia), List.getElem?_map, e1]; rfl
  · rw [List.getElem?_append_right (by simp; lia), List.getElem?_replicate] at q
    split at q <;> cases q
theorem fun_M {x qual : Str} {st : Stmt} {f : Addr} {fd : FuncData} {N ps : List Str} {k : Nat} {b : M.SM} {q : M.F} (F : Fun K x qual st f fd) (Sc : FnScope N ps (defScope st)) (rf : M.Refines ps.length (M.fn N.length b) q)
    (hbody : ∀ (cdv : Value) (A : Around) (outer : List Env) (s : Shared) (H : Hp) (E : XK), Room k (A.deeper (envOfC qual (defScope st) s.heap.objs.size f cdv)) →
      MSs (cxOf CX0 P w K mg base N qual (defScope st) f cdv A outer s H E).nox Θ (defBody st) b) : FnOk P w K mg base CX0 (k + 1) f fd ps (SpM K Θ ps.length q) := by
  refine F.ok (k := k) Sc (fun vs H Q E h => ?_) (fun cdv A outer s H vs Q E hr h => ?_)
  · obtain ⟨ρ, ds, S, hl, r, _⟩ := h
    rw [← r.length, hl]
  · obtain ⟨ρ, ds, S, hl, r, rp, h⟩ := h
    refine ⟨_, hbody cdv A outer s H E hr, ρ, _, S, start_rel r N, rp, ?_⟩
    rcases rf ds S hl rp.cl (rp.len ▸ r.cl) with e | ⟨d, S', S1, em, e1, e2, emb, cd⟩
    · rw [e] at h; exact h.elim
    · rw [e1] at h
      have h2 := Post.gc emb cd rp h
      have e3 : (b (ds.map some ++ List.replicate (N.length - ds.length) none) S).out = .ok (M.D.ren em d) S1 := e2
      show PostS K Θ ρ H (b (ds.map some ++ List.replicate (N.length - ds.length) none) S) _
      revert e3
      cases b (ds.map some ++ List.replicate (N.length - ds.length) none) S with
      | rt a s => intro e3; cases e3; exact h2
      | nx a s =>
        intro e3
        have e4 : M.R.ok M.D.non s = .ok (M.D.ren em d) S1 := e3
        injection e4 with e5 e6
        subst e6
        rw [← e5] at h2
        exact fun ρ1 H1 σ1 p1 l1 rp1 _ => h2 ρ1 H1 .non p1 l1 rp1 rfl
      | bk a s => intro e3; cases e3
      | ct a s => intro e3; cases e3
      | exc e a s => intro e3; cases e3
      | no => intro e3; cases e3
theorem w_fun_M {x qual : Str} {st : Stmt} {f : Addr} {fd : FuncData} {N ps : List Str} {k : Nat} {b : M.SM} {q : M.F} (F : Fun K x qual st f fd) (Sc : FnScope N ps (defScope st)) (rf : M.Refines ps.length (M.fn N.length b) q)
    (hbody : ∀ (cdv : Value) (A : Around) (outer : List Env) (s : Shared) (H : Hp) (E : XK), Room k (A.deeper (envOfC qual (defScope st) s.heap.objs.size f cdv)) →
      WSs (cxOf CX0 P w K mg base N qual (defScope st) f cdv A outer s H E).nox Θ (defBody st) b) : FnOk P w K mg base CX0 (k + 1) f fd ps (SpM K Θ ps.length q) := by with_unfolding_all exact fun_M (x := x) (qual := qual) (st := st) (f := f) (fd := fd) (N := N) (ps := ps) (k := k) (b := b) (q := q) F Sc rf hbody
end
end L2
namespace L2
open PySem PySem.Spec PyProof.Rows
section
variable {K : PySem.W.Frag} {Θ : Tab}
theorem small_is {i : Int} (h : M.small i = true) : -(2 ^ 64) < i ∧ i < 2 ^ 64 := by
  have h' : i.natAbs < 18446744073709551616 := of_decide_eq_true h
  exact ⟨by lia, by lia⟩
theorem ad_mod : Ad2 K Θ M.opMod uMod := by
  intro ρ H S x y X Y Q rp rx ry h
  cases x with
  | int i =>
    cases y with
    | int j =>
      cases rx; cases ry
      have h' : Post K Θ (RelD K) ρ H (if 0 < j then M.R.ok (M.D.int (i % j)) S else .no) Q := h
      by_cases hc : 0 < j
      · rw [if_pos hc] at h'; exact ⟨hc, Post.here (b := V.int (i % j)) h' rp rfl⟩
      · rw [if_neg hc] at h'; exact h'.elim
    | _ => exact h.elim
  | _ => exact h.elim
theorem lst_at {ρ : List Addr} {S : M.S} {H : Hp} (rp : RepS K Θ ρ S H) {i : Nat} {a : Addr} (ha : ρ[i]? = some a) {xs : List M.D} (q : S[i]? = some (.lst xs)) : ∃ zs, H a = some (.lst zs) ∧ RelDs K ρ H xs zs := by
  obtain ⟨b, e1, zs, e2, r⟩ := rp.obj i _ q
  rw [ha] at e1; cases e1
  exact ⟨zs, e2, r⟩
theorem ad_lt : AdC K Θ M.cLt uLt := by
  intro ρ H S x y X Y Q rp rx ry h
  cases x with
  | int i =>
    cases y with
    | int j => cases rx; cases ry; exact Post.here (b := decide (i < j)) h rp rfl
    | _ => exact h.elim
  | str a =>
    cases y with
    | str b =>
      obtain ⟨rfl, _⟩ := rx
      obtain ⟨rfl, _⟩ := ry
      show Q (.bl (decide ((ofT a).cps.toList < (ofT b).cps.toList))) H
      rw [ofT_list, ofT_list]
      exact Post.here (b := decide (a < b)) h rp rfl
    | _ => exact h.elim
  | _ => exact h.elim
theorem atI_rel {ρ : List Addr} {H : Hp} {ds : List M.D} {xs : List V} {i : Int} {d : M.D} (r : RelDs K ρ H ds xs) (e : M.atI ds i = some d) : ∃ v, atI xs i = some v ∧ RelD K ρ H d v := by
  unfold M.atI at e
  cases q : M.ixN ds.length i with
  | none => rw [q] at e; cases e
  | some j =>
    rw [q] at e
    obtain ⟨v, e1, rv⟩ := r.get (i := j) e
    have q' : ixN xs.length i = some j := by rw [← r.length]; exact q
    exact ⟨v, by unfold atI; rw [q']; exact e1, rv⟩
end
end L2
namespace L2
open PySem PySem.Spec PyProof.Rows
section
variable {K : PySem.W.Frag} {Θ : Tab}
def ofP : M.P → PyData
  | .non => .none
  | .bl b => .bool b
  | .int i => .int i
  | .str x => .str (ofT x)
  | .tup ps => .tuple (all ps)
  | .lst ps => .list (all ps)
where all : List M.P → List PyData
  | [] => []
  | p :: ps => ofP p :: all ps
theorem beq_ofT (x y : M.T) : (ofT x == ofT y) = (x == y) := by
  by_cases h : x = y
  · subst h; simp
  · rw [beq_eq_false_iff_ne.mpr h, beq_eq_false_iff_ne.mpr fun e => h (ofT_inj e)]
mutual
theorem eqv_ofP : ∀ p q : M.P, PyData.eqv (ofP p) (ofP q) = M.P.eqv p q
  | .non, .non => rfl
  | .non, .bl _ => rfl
  | .non, .int _ => rfl
  | .non, .str _ => rfl
  | .non, .tup _ => rfl
  | .non, .lst _ => rfl
  | .bl _, .non => rfl
  | .bl _, .bl _ => rfl
  | .bl _, .int _ => rfl
  | .bl _, .str _ => rfl
  | .bl _, .tup _ => rfl
  | .bl _, .lst _ => rfl
  | .int _, .non => rfl
  | .int _, .bl _ => rfl
  | .int _, .int _ => rfl
  | .int _, .str _ => rfl
  | .int _, .tup _ => rfl
  | .int _, .lst _ => rfl
  | .str _, .non => rfl
  | .str _, .bl _ => rfl
  | .str _, .int _ => rfl
  | .str x, .str y => beq_ofT x y
  | .str _, .tup _ => rfl
  | .str _, .lst _ => rfl
  | .tup _, .non => rfl
  | .tup _, .bl _ => rfl
  | .tup _, .int _ => rfl
  | .tup _, .str _ => rfl
  | .tup ps, .tup qs => eqvs_ofP ps qs
  | .tup _, .lst _ => rfl
  | .lst _, .non => rfl
  | .lst _, .bl _ => rfl
  | .lst _, .int _ => rfl
  | .lst _, .str _ => rfl
  | .lst _, .tup _ => rfl
  | .lst ps, .lst qs => eqvs_ofP ps qs
theorem eqvs_ofP : ∀ ps qs : List M.P, PyData.eqvAll (ofP.all ps) (ofP.all qs) = M.P.eqvs ps qs
  | [], [] => rfl
  | [], _ :: _ => rfl
  | _ :: _, [] => rfl
  | p :: ps, q :: qs => by
    show (PyData.eqv (ofP p) (ofP q) && PyData.eqvAll (ofP.all ps) (ofP.all qs)) = (M.P.eqv p q && M.P.eqvs ps qs)
    rw [eqv_ofP p q, eqvs_ofP ps qs]
end
mutual
theorem dep_ofP : ∀ p : M.P, PyData.depth (ofP p) = M.P.dep p
  | .non => rfl
  | .bl _ => rfl
  | .int _ => rfl
  | .str _ => rfl
  | .tup ps => by show PyData.depthAll (ofP.all ps) + 1 = M.P.deps ps + 1; rw [deps_ofP ps]
  | .lst ps => by show PyData.depthAll (ofP.all ps) + 1 = M.P.deps ps + 1; rw [deps_ofP ps]
theorem deps_ofP : ∀ ps : List M.P, PyData.depthAll (ofP.all ps) = M.P.deps ps
  | [] => rfl
  | p :: ps => by show max (PyData.depth (ofP p)) (PyData.depthAll (ofP.all ps)) = max (M.P.dep p) (M.P.deps ps); rw [dep_ofP p, deps_ofP ps]
end
section
variable {ρ : List Addr} {H : Hp}
mutual
theorem dat_g {g : Nat → Option M.P} (hg : ∀ i p v, g i = some p → RelD K ρ H (.ref i) v → DatIs K H v (ofP p) ∧ (ofP p).canLay0 = true) : ∀ {d : M.D} {p : M.P} {v : V}, M.toPg g d = some p → RelD K ρ H d v → DatIs K H v (ofP p) ∧ (ofP p).canLay0 = true
  | .non, _, _, e, r => by cases e; cases r; exact ⟨.non, rfl⟩
  | .bl _, _, _, e, r => by cases e; cases r; exact ⟨.bl _, rfl⟩
  | .int _, _, _, e, r => by cases e; cases r; exact ⟨.int _, rfl⟩
  | .str x, _, _, e, r => by
    cases e
    obtain ⟨rfl, ok⟩ := r
    refine ⟨.str _, ?_⟩
    show PyData.strOk (ofT x) = true
    unfold PyData.strOk ofT
    have ok' : x.all (fun c => decide (c < 1114112)) = true := ok
    simpa using ok'
  | .tup ds, _, _, e, r => by
    obtain ⟨l, xs, rfl, hq, rr⟩ := r
    have e' : (M.toPg.all g ds).map M.P.tup = some _ := e
    cases q : M.toPg.all g ds with
    | none => rw [q] at e'; cases e'
    | some ps =>
      rw [q] at e'
      cases e'
      obtain ⟨h1, h2⟩ := dats_g hg q rr
      exact ⟨.tup hq h1, h2⟩
  | .ro ds, _, _, e, r => by
    obtain ⟨l, xs, rfl, hq, rr⟩ := r
    have e' : (M.toPg.all g ds).map M.P.lst = some _ := e
    cases q : M.toPg.all g ds with
    | none => rw [q] at e'; cases e'
    | some ps =>
      rw [q] at e'
      cases e'
      obtain ⟨h1, h2⟩ := dats_g hg q rr
      exact ⟨.lst hq.sq h1, h2⟩
  | .ref i, _, _, e, r => hg i _ _ e r
  | .ty _, _, _, e, _ => by cases e
theorem dats_g {g : Nat → Option M.P} (hg : ∀ i p v, g i = some p → RelD K ρ H (.ref i) v → DatIs K H v (ofP p) ∧ (ofP p).canLay0 = true) : ∀ {ds : List M.D} {ps : List M.P} {xs : List V}, M.toPg.all g ds = some ps → RelDs K ρ H ds xs → DatAll K H xs (ofP.all ps) ∧ PyData.canLayAll0 (ofP.all ps) = true
  | [], _, _, e, r => by cases e; cases r; exact ⟨.nil, rfl⟩
  | d :: ds, _, _, e, r => by
    obtain ⟨y, ys, rfl, r1, r2⟩ := r
    have e' : (match M.toPg g d, M.toPg.all g ds with | some p, some ps => some (p :: ps) | _, _ => none) = some _ := e
    cases q1 : M.toPg g d with
    | none => rw [q1] at e'; cases e'
    | some p =>
      cases q2 : M.toPg.all g ds with
      | none => rw [q1, q2] at e'; cases e'
      | some ps =>
        rw [q1, q2] at e'
        cases e'
        obtain ⟨h1, h2⟩ := dat_g hg q1 r1
        obtain ⟨h3, h4⟩ := dats_g hg q2 r2
        refine ⟨.cons h1 h3, ?_⟩
        show (PyData.canLay0 (ofP p) && PyData.canLayAll0 (ofP.all ps)) = true
        rw [h2, h4]; rfl
end
theorem dat_of {S : M.S} (rp : RepS K Θ ρ S H) : ∀ (n : Nat) {d : M.D} {p : M.P} {v : V}, M.toP n S d = some p → RelD K ρ H d v → DatIs K H v (ofP p) ∧ (ofP p).canLay0 = true
  | 0, _, _, _, e, r => dat_g (fun i p v e _ => by cases e) e r
  | n + 1, _, _, _, e, r => dat_g (fun i p v e r => by
      obtain ⟨a, rfl, ea⟩ := r
      have e' : (match M.lstAt S i with | some xs => (M.toPg.all (fun j => M.toP n S (.ref j)) xs).map M.P.lst | none => none) = some p := e
      cases q : S[i]? with
      | none => simp [M.lstAt, q] at e'
      | some o =>
        cases o with
        | lst xs =>
          simp only [M.lstAt, q] at e'
          obtain ⟨zs, e1, rr⟩ := lst_at rp ea q
          cases q2 : M.toPg.all (fun j => M.toP n S (.ref j)) xs with
          | none => rw [q2] at e'; cases e'
          | some ps =>
            rw [q2] at e'
            cases e'
            obtain ⟨h1, h2⟩ := dats_g (fun j p v e r => dat_of rp n e r) q2 rr
            exact ⟨.lst (SqL.of e1) h1, h2⟩
        | dct kvs => simp [M.lstAt, q] at e'
        | fdc _ => simp [M.lstAt, q] at e'
        | dtt _ => simp [M.lstAt, q] at e'
        | ftt _ => simp [M.lstAt, q] at e'
        | ins c fs => simp [M.lstAt, q] at e') e r
end
abbrev DR (K : PySem.W.Frag) (ρ : List Addr) (H : Hp) : List (M.D × M.D) → List (Key × V) → Prop := Paired fun p q => KeyR p.1 q.1 ∧ RelD K ρ H p.2 q.2
theorem keyR_inj {d e : M.D} {a b : Key} (ha : KeyR d a) (hb : KeyR e b) : (a = b) = (d = e) := by
  cases d with
  | int i =>
    cases ha
    cases e with
    | int j => cases hb; exact propext ⟨fun z => by cases z; rfl, fun z => by cases z; rfl⟩
    | str y => obtain ⟨rfl, _⟩ := hb; exact propext ⟨fun z => (nomatch z), fun z => (nomatch z)⟩
    | _ => exact hb.elim
  | str x =>
    obtain ⟨rfl, _⟩ := ha
    cases e with
    | int j => cases hb; exact propext ⟨fun z => (nomatch z), fun z => (nomatch z)⟩
    | str y => obtain ⟨rfl, _⟩ := hb; exact propext ⟨fun z => by rw [ofT_inj (Sum.inr.inj z)], fun z => by cases z; rfl⟩
    | _ => exact hb.elim
  | _ => exact ha.elim
theorem keyR_of {ρ : List Addr} {H : Hp} {d : M.D} {v : V} (h : M.keyOk d = true) (r : RelD K ρ H d v) : ∃ k, KeyR d k ∧ v = kV k := by
  cases d with
  | int i => cases r; exact ⟨.inl i, rfl, rfl⟩
  | str x => obtain ⟨rfl, ok⟩ := r; exact ⟨.inr (ofT x), ⟨rfl, ok⟩, rfl⟩
  | _ => cases h
section
variable {ρ : List Addr} {H : Hp} {kvs : List (M.D × M.D)} {ks : List (Key × V)} {d : M.D} {k : Key}
theorem DR.val (r : DR K ρ H kvs ks) (hk : KeyR d k) : match M.dGet d kvs with | some e => ∃ v, valV ks k = some v ∧ RelD K ρ H e v | none => valV ks k = none := by
  induction r with
  | nil => exact rfl
  | @cons p q ps qs h t ih =>
    have e := keyR_inj h.1 hk
    by_cases hd : p.1 = d
    · have hq : q.1 = k := e.mpr hd
      rw [valV_pos hq, M.dGet, List.lookup_cons, beq_iff_eq.mpr hd.symm]
      exact ⟨_, rfl, h.2⟩
    · have hq : ¬ q.1 = k := fun z => hd (e.mp z)
      rw [valV_neg hq, M.dGet, List.lookup_cons, beq_eq_false_iff_ne.mpr (Ne.symm hd)]
      exact ih
end
theorem dct_at {ρ : List Addr} {S : M.S} {H : Hp} (rp : RepS K Θ ρ S H) {i : Nat} {a : Addr} (ha : ρ[i]? = some a) {kvs : List (M.D × M.D)} (q : S[i]? = some (.dct kvs)) : ∃ ks, H a = some (.dK ks) ∧ DR K ρ H kvs ks := by
  obtain ⟨b, e1, zs, e2, r⟩ := rp.obj i _ q
  rw [ha] at e1; cases e1
  exact ⟨zs, e2, r⟩
theorem fdc_at {ρ : List Addr} {S : M.S} {H : Hp} (rp : RepS K Θ ρ S H) {i : Nat} {a : Addr} (ha : ρ[i]? = some a) {kvs : List (M.D × M.D)} (q : S[i]? = some (.fdc kvs)) : ∃ o ks, H a = some (.frz o (.dK ks)) ∧ DR K ρ H kvs ks := by
  obtain ⟨b, e1, o, zs, e2, r⟩ := rp.obj i _ q
  rw [ha] at e1; cases e1
  exact ⟨o, zs, e2, r⟩
inductive HitsV (K : PySem.W.Frag) (H : Hp) (kb : List (Key × V)) : List (Key × V) → Bool → Prop where
  | nil : HitsV K H kb [] true
  | miss {k : Key} {v : V} {r : List (Key × V)} (h : valV kb k = none) : HitsV K H kb ((k, v) :: r) false
  | hit {k : Key} {v y : V} {r : List (Key × V)} {d e : PyData} {b : Bool} (h : valV kb k = some y) (hd : DatIs K H v d) (he : DatIs K H y e) (sd : SeqAt.shaped d = true) (se : SeqAt.shaped e = true) (t : HitsV K H kb r b) : HitsV K H kb ((k, v) :: r) (PyData.eqv d e && b)
def rDEq (neg : Bool) (K : PySem.W.Frag) : R2 := fun x y H Q => ∃ a b ka kb r, x = .ref a ∧ y = .ref b ∧ H a = some (.dK ka) ∧ H b = some (.dK kb) ∧ (ka.length = kb.length → HitsV K H kb ka r) ∧ Q (.bl (if neg then !(ka.length == kb.length && r) else (ka.length == kb.length && r))) H
theorem hits_of {X : Cx} {pins : List (Addr × Obj)} {σ : St} {H : Hp} {s : Shared} {A : Around} (I : Inv X pins σ H s) (hu : A.units + 64 < cLine) {kb : List (Key × V)} {vb : List (Key × Value)} (rb : KV kb vb) : ∀ {ka : List (Key × V)} {va : List (Key × Value)} {r : Bool}, KV ka va → HitsV X.K H kb ka r → PySem.W.KeqHits A s vb va r
  | _, _, _, ra, .nil => by cases ra; exact .nil
  | _, _, _, ra, .miss h => by
    cases ra with
    | @cons p q ps qs h1 t =>
      obtain ⟨k, v⟩ := q
      have hk : _ = k := h1.1
      have hv := rb.val k
      rw [← hk, h] at hv
      refine .miss ?_
      rw [← hk]
      cases q2 : valueAt vb _ with
      | none => rfl
      | some w => rw [q2] at hv; exact hv.elim
  | _, _, _, ra, .hit h hd he sd se t => by
    cases ra with
    | @cons p q ps qs h1 t1 =>
      obtain ⟨k, v⟩ := q
      have hk : _ = k := h1.1
      have hv := rb.val k
      rw [← hk, h] at hv
      cases q2 : valueAt vb k with
      | none => rw [hk, q2] at hv; exact hv.elim
      | some w =>
        rw [hk, q2] at hv
        obtain ⟨as, r1⟩ := hd.reads I h1.2
        obtain ⟨bs, r2⟩ := he.reads I hv
        exact .hit q2 (SeqAt.eqAt_reads _ _ A s _ _ as bs r1 r2 (SeqAt.canLay_of_shaped sd) (SeqAt.canLay_of_shaped se) (SeqAt.room_of_shaped sd hu)) (hits_of I hu rb t1 t)
theorem op_dEq {X : Cx} {k : Nat} (hr : Room k X.A) : OpR X (compareOp .Eq) (rDEq false X.K) := by
  intro pins s σ H x y v u Q I rx ry h
  obtain ⟨a, b, ka, kb, r, rfl, rfl, ha, hb, hh, q⟩ := h
  cases rx; cases ry
  obtain ⟨za, la, va, ra, da⟩ := dk_of I.hok ha
  obtain ⟨zb, lb, vb, rb, db⟩ := dk_of I.hok hb
  refine PySem.W.keq_eq la lb da db hr.units0 (fun e => hits_of I (by show X.A.units + 1 + 64 < _; have := hr.un; lia) rb ra (hh (by rw [ra.length, rb.length]; exact e))) ⟨.bl _, H, I, rfl, ?_⟩
  rw [← ra.length, ← rb.length]
  exact q
theorem op_dNe {X : Cx} {k : Nat} (hr : Room k X.A) : OpR X (compareOp .NotEq) (rDEq true X.K) := by
  intro pins s σ H x y v u Q I rx ry h
  obtain ⟨a, b, ka, kb, r, rfl, rfl, ha, hb, hh, q⟩ := h
  cases rx; cases ry
  obtain ⟨za, la, va, ra, da⟩ := dk_of I.hok ha
  obtain ⟨zb, lb, vb, rb, db⟩ := dk_of I.hok hb
  refine PySem.W.keq_ne la lb da db hr.units0 (fun e => hits_of I (by show X.A.units + 1 + 64 < _; have := hr.un; lia) rb ra (hh (by rw [ra.length, rb.length]; exact e))) ⟨.bl _, H, I, rfl, ?_⟩
  rw [← ra.length, ← rb.length]
  exact q
theorem hits_dEq {ρ : List Addr} {H : Hp} {S : M.S} (rp : RepS K Θ ρ S H) {ws : List (M.D × M.D)} {kb : List (Key × V)} (rb : DR K ρ H ws kb) : ∀ {ks : List (M.D × M.D)} {ka : List (Key × V)} {b : Bool}, DR K ρ H ks ka → M.dEq S ws ks = some b → HitsV K H kb ka b
  | _, _, _, .nil, e => by cases e; exact .nil
  | (k, v) :: ks, (kk, vv) :: ka, b, .cons h t, e => by
    have hv := DR.val rb h.1
    unfold M.dEq at e
    cases q : M.dGet k ws with
    | none =>
      rw [q] at e hv
      cases e
      exact .miss hv
    | some w =>
      rw [q] at e hv
      obtain ⟨y, hy, ry⟩ := hv
      dsimp only at e
      cases q1 : M.toP 8 S v with
      | none => rw [q1] at e; cases e
      | some p1 =>
        cases q2 : M.toP 8 S w with
        | none => rw [q1, q2] at e; cases e
        | some p2 =>
          cases q3 : M.dEq S ws ks with
          | none => rw [q1, q2, q3] at e; cases e
          | some b' =>
            rw [q1, q2, q3] at e
            dsimp only at e
            by_cases hc : M.P.dep p1 ≤ 64 ∧ M.P.dep p2 ≤ 64
            · rw [if_pos hc] at e
              cases e
              obtain ⟨d1, c1⟩ := dat_of rp _ q1 h.2
              obtain ⟨d2, c2⟩ := dat_of rp _ q2 ry
              rw [← eqv_ofP]
              refine .hit hy d1 d2 ?_ ?_ (hits_dEq rp rb t q3)
              · unfold SeqAt.shaped; rw [c1, Bool.true_and, dep_ofP]; exact decide_eq_true hc.1
              · unfold SeqAt.shaped; rw [c2, Bool.true_and, dep_ofP]; exact decide_eq_true hc.2
            · rw [if_neg hc] at e; cases e
theorem eqDct_is {ρ : List Addr} {H : Hp} {S : M.S} {x y : M.D} {X1 Y : V} {Q' : Bool → Hp → Prop} (rp : RepS K Θ ρ S H) (rx : RelD K ρ H x X1) (ry : RelD K ρ H y Y) (h : Post K Θ rB ρ H (M.eqDct x y S) Q') :
    ∃ a b ka kb r, X1 = .ref a ∧ Y = .ref b ∧ H a = some (.dK ka) ∧ H b = some (.dK kb) ∧ (ka.length = kb.length → HitsV K H kb ka r) ∧ Q' (ka.length == kb.length && r) H := by
  unfold M.eqDct at h
  split at h
  · rename_i i j
    split at h
    · rename_i ks ws e1 e2
      obtain ⟨a, rfl, ha⟩ := rx
      obtain ⟨b, rfl, hb⟩ := ry
      obtain ⟨ka, h1, r1⟩ := dct_at rp ha e1
      obtain ⟨kb, h2, r2⟩ := dct_at rp hb e2
      have l1 := Paired.length r1
      have l2 := Paired.length r2
      split at h
      · rename_i hl
        split at h
        · rename_i bb q
          refine ⟨a, b, ka, kb, bb, rfl, rfl, h1, h2, fun _ => hits_dEq rp r2 r1 q, ?_⟩
          rw [show (ka.length == kb.length) = true by rw [beq_iff_eq]; lia, Bool.true_and]
          exact Post.here (b := bb) h rp rfl
        · exact h.elim
      · rename_i hl
        refine ⟨a, b, ka, kb, false, rfl, rfl, h1, h2, fun e => absurd (by lia) hl, ?_⟩
        rw [Bool.and_false]
        exact Post.here (b := false) h rp rfl
    · exact h.elim
  · exact h.elim
def rEqM (K : PySem.W.Frag) (neg : Bool) : R2 := fun x y H Q => (scal x y = true ∧ Q (.bl (if neg then !decide (x = y) else decide (x = y))) H) ∨ rEqD K neg x y H Q ∨ rDEq neg K x y H Q
theorem op_eqM {X : Cx} {k : Nat} (hr : Room k X.A) : OpR X (compareOp .Eq) (rEqM X.K false) := by
  intro pins s σ H x y v u Q I rx ry h
  rcases h with h | h | h
  · exact op_eq pins s σ H x y v u Q I rx ry h
  · exact op_eqD hr pins s σ H x y v u Q I rx ry h
  · exact op_dEq hr pins s σ H x y v u Q I rx ry h
theorem op_neM {X : Cx} {k : Nat} (hr : Room k X.A) : OpR X (compareOp .NotEq) (rEqM X.K true) := by
  intro pins s σ H x y v u Q I rx ry h
  rcases h with h | h | h
  · exact op_ne pins s σ H x y v u Q I rx ry h
  · exact op_neD hr pins s σ H x y v u Q I rx ry h
  · exact op_dNe hr pins s σ H x y v u Q I rx ry h
theorem eq_core {ρ : List Addr} {H : Hp} {S : M.S} {x y : M.D} {X1 Y : V} {Q' : Bool → Hp → Prop} (rp : RepS K Θ ρ S H) (rx : RelD K ρ H x X1) (ry : RelD K ρ H y Y) (h : Post K Θ rB ρ H (M.eqD x y S) Q') :
    (scal X1 Y = true ∧ Q' (decide (X1 = Y)) H) ∨ (∃ d e, DatIs K H X1 d ∧ DatIs K H Y e ∧ SeqAt.shaped d = true ∧ SeqAt.shaped e = true ∧ Q' (PyData.eqv d e) H) ∨ ∃ a b ka kb r, X1 = .ref a ∧ Y = .ref b ∧ H a = some (.dK ka) ∧ H b = some (.dK kb) ∧ (ka.length = kb.length → HitsV K H kb ka r) ∧ Q' (ka.length == kb.length && r) H := by
  have gen : ∀ {p q : M.P}, M.toP M.DEEP S x = some p → M.toP M.DEEP S y = some q → M.P.dep p ≤ 64 ∧ M.P.dep q ≤ 64 → Q' (M.P.eqv p q) H → ∃ d e, DatIs K H X1 d ∧ DatIs K H Y e ∧ SeqAt.shaped d = true ∧ SeqAt.shaped e = true ∧ Q' (PyData.eqv d e) H := fun {p q} e1 e2 hd hq => by
    obtain ⟨d1, c1⟩ := dat_of rp _ e1 rx
    obtain ⟨d2, c2⟩ := dat_of rp _ e2 ry
    refine ⟨_, _, d1, d2, ?_, ?_, by rw [eqv_ofP]; exact hq⟩
    · unfold SeqAt.shaped; rw [c1, Bool.true_and, dep_ofP]; exact decide_eq_true hd.1
    · unfold SeqAt.shaped; rw [c2, Bool.true_and, dep_ofP]; exact decide_eq_true hd.2
  have rest : Post K Θ rB ρ H (match M.toP M.DEEP S x, M.toP M.DEEP S y with
      | some p, some q => if M.P.dep p ≤ 64 ∧ M.P.dep q ≤ 64 then M.R.ok (M.P.eqv p q) S else .no
      | _, _ => M.eqDct x y S) Q' → (∃ d e, DatIs K H X1 d ∧ DatIs K H Y e ∧ SeqAt.shaped d = true ∧ SeqAt.shaped e = true ∧ Q' (PyData.eqv d e) H) ∨ ∃ a b ka kb r, X1 = .ref a ∧ Y = .ref b ∧ H a = some (.dK ka) ∧ H b = some (.dK kb) ∧ (ka.length = kb.length → HitsV K H kb ka r) ∧ Q' (ka.length == kb.length && r) H := fun h' => by
    cases e1 : M.toP M.DEEP S x with
    | none => rw [e1] at h'; exact .inr (eqDct_is rp rx ry h')
    | some p =>
      cases e2 : M.toP M.DEEP S y with
      | none => rw [e1, e2] at h'; exact .inr (eqDct_is rp rx ry h')
      | some q =>
        rw [e1, e2] at h'
        dsimp only at h'
        by_cases hc : M.P.dep p ≤ 64 ∧ M.P.dep q ≤ 64
        · rw [if_pos hc] at h'; exact .inl <| gen e1 e2 hc (Post.here (b := M.P.eqv p q) h' rp rfl)
        · rw [if_neg hc] at h'; exact h'.elim
  have sc : ∀ {b : Bool}, scal X1 Y = true → decide (X1 = Y) = b → M.eqD x y S = .ok b S → (scal X1 Y = true ∧ Q' (decide (X1 = Y)) H) := fun {b} h1 h2 h3 => by
    rw [h3] at h
    rw [h2]
    exact ⟨h1, Post.here (b := b) h rp rfl⟩
  cases x with
  | str a =>
    cases y with
    | str b =>
      obtain ⟨rfl, _⟩ := rx
      obtain ⟨rfl, _⟩ := ry
      refine .inl (sc rfl ?_ rfl)
      by_cases hab : a = b
      · subst hab; simp
      · rw [decide_eq_false hab, decide_eq_false fun e => hab (ofT_inj (V.str.inj e))]
    | _ => exact .inr (rest h)
  | int a =>
    cases y with
    | int b =>
      cases rx; cases ry
      refine .inl (sc rfl ?_ rfl)
      by_cases hab : a = b
      · subst hab; simp
      · rw [decide_eq_false hab, decide_eq_false fun e => hab (V.int.inj e)]
    | _ => exact .inr (rest h)
  | bl a =>
    cases y with
    | bl b =>
      cases rx; cases ry
      refine .inl (sc rfl ?_ rfl)
      by_cases hab : a = b
      · subst hab; simp
      · rw [decide_eq_false hab, decide_eq_false fun e => hab (V.bl.inj e)]
    | _ => exact .inr (rest h)
  | non =>
    cases y with
    | non => cases rx; cases ry; exact .inl (sc rfl rfl rfl)
    | _ => exact .inr (rest h)
  | _ => exact .inr (rest h)
theorem ad_eq : AdC K Θ M.cEq (rEqM K false) := by
  intro ρ H S x y X1 Y Q rp rx ry h
  rcases eq_core rp rx ry h with h | ⟨d, e, h1, h2, h3, h4, h5⟩ | ⟨a, b, ka, kb, r, h⟩
  · exact .inl h
  · exact .inr (.inl ⟨d, e, h1, h2, h3, h4, h5⟩)
  · exact .inr (.inr ⟨a, b, ka, kb, r, h⟩)
theorem ad_ne : AdC K Θ M.cNe (rEqM K true) := by
  intro ρ H S x y X1 Y Q rp rx ry h
  have h' : Post K Θ rB ρ H (M.eqD x y S) (fun b H' => Q (.bl (!b)) H') := Post.bind h fun ρ1 H1 b b' S1 p1 l1 rp1 e h1 => by cases e; exact Post.here (b := !b) h1 rp1 rfl
  rcases eq_core rp rx ry h' with h | ⟨d, e, h1, h2, h3, h4, h5⟩ | ⟨a, b, ka, kb, r, h⟩
  · exact .inl h
  · exact .inr (.inl ⟨d, e, h1, h2, h3, h4, h5⟩)
  · exact .inr (.inr ⟨a, b, ka, kb, r, h⟩)
end
end L2
namespace L2
open PySem PySem.Spec PyProof.Rows
section
variable {K : PySem.W.Frag} {Θ : Tab}
theorem foldl_rep_cps (a : M.T) : ∀ (n : Nat) (acc : Array Nat), (List.replicate n a.toArray).foldl (· ++ ·) acc = acc ++ ((List.replicate n a).flatten).toArray
  | 0, acc => by simp
  | n + 1, acc => by
    rw [List.replicate_succ, List.foldl_cons, foldl_rep_cps a n, List.replicate_succ, List.flatten_cons]
    simp
theorem mul_rep (a : M.T) (n : Int) (h0 : 0 ≤ n) : Txt.mul (ofT a) n = ofT (List.replicate n.toNat a).flatten := by
  unfold Txt.mul
  by_cases h1 : n < 1
  · have e : n.toNat = 0 := by lia
    rw [if_pos h1, e]; rfl
  · rw [if_neg h1]
    by_cases h2 : (n == 1 || (ofT a).length == 0) = true
    · rw [if_pos h2]
      rw [Bool.or_eq_true] at h2
      rcases h2 with h2 | h2
      · have e : n = 1 := eq_of_beq h2
        subst e
        simp
      · have e : a.length = 0 := by rw [← ofT_len]; exact eq_of_beq h2
        have e2 : a = [] := List.length_eq_zero_iff.mp e
        subst e2
        simp [ofT]
    · rw [if_neg h2]
      have := foldl_rep_cps a n.toNat #[]
      show (⟨(List.replicate n.toNat a.toArray).foldl (· ++ ·) #[]⟩ : Str) = _
      rw [this]; simp [ofT]
theorem mul_ok (a : M.T) (n : Int) (h0 : 0 ≤ n) (h1 : n ≤ 1000000) (h2 : a.length * n.toNat ≤ 1000000) : MulOk (ofT a) n := by
  refine ⟨?_, fun h3 _ => ?_, fun h3 _ => ?_⟩
  · rw [Bool.or_eq_false_iff]
    exact ⟨decide_eq_false (by lia), decide_eq_false (by lia)⟩
  · rw [ofT_len]
    have hn : 1 ≤ n.toNat := by lia
    have ha : a.length ≤ 1000000 := Nat.le_trans (Nat.le_mul_of_pos_right _ (by lia)) h2
    have hd : (1000000 : Int) ≤ (2 ^ 63 - 1) / n := Int.le_ediv_of_mul_le (by lia) (by lia)
    lia
  · rw [ofT_len]
    unfold Builtin.Str.tooLong
    exact decide_eq_false (by rw [sizeLine_eq]; lia)
def rMulM : R2 := fun x y H Q => uMul x y H Q ∨ rRep x y H Q
theorem u_mulM {X : Cx} : OpR X (binaryOp .Mult) rMulM := OpR.or u_mul op_rep
theorem RelDs.flat {ρ : List Addr} {H : Hp} {ds : List M.D} {xs : List V} (h : RelDs K ρ H ds xs) : ∀ n : Nat, RelDs K ρ H (List.replicate n ds).flatten (List.replicate n xs).flatten
  | 0 => rfl
  | n + 1 => by
    rw [List.replicate_succ, List.replicate_succ, List.flatten_cons, List.flatten_cons]
    exact RelDs.app h (RelDs.flat h n)
theorem ad_mul : Ad2 K Θ M.opMul rMulM := by
  intro ρ H S x y X Y Q rp rx ry h
  cases x with
  | int i =>
    cases y with
    | int j =>
      cases rx; cases ry
      have h' : Post K Θ (RelD K) ρ H (if (M.small i || M.small j) = true then M.R.ok (M.D.int (i * j)) S else .no) Q := h
      by_cases hc : (M.small i || M.small j) = true
      · rw [if_pos hc] at h'
        refine .inl ⟨?_, Post.here (b := V.int (i * j)) h' rp rfl⟩
        rw [Bool.or_eq_true] at hc
        rcases hc with hc | hc
        · exact .inl (small_is hc)
        · exact .inr (small_is hc)
      · rw [if_neg hc] at h'; exact h'.elim
    | _ => exact h.elim
  | str a =>
    cases y with
    | int n =>
      obtain ⟨rfl, oka⟩ := rx
      cases ry
      have h' : Post K Θ (RelD K) ρ H (if 0 ≤ n ∧ n.natAbs ≤ 1000000 ∧ a.length * n.natAbs ≤ 1000000 then M.R.ok (M.D.str (List.replicate n.toNat a).flatten) S else .no) Q := h
      by_cases hc : 0 ≤ n ∧ n.natAbs ≤ 1000000 ∧ a.length * n.natAbs ≤ 1000000
      · rw [if_pos hc] at h'
        have hn : n.natAbs = n.toNat := by lia
        refine .inl ⟨mul_ok a n hc.1 (by lia) (by rw [← hn]; exact hc.2.2), ?_⟩
        show Q (.str (Txt.mul (ofT a) n)) H
        rw [mul_rep a n hc.1]
        refine Post.here h' rp ⟨rfl, okT_sub oka fun c hc => ?_⟩
        obtain ⟨l, hl, hcl⟩ := List.mem_flatten.mp hc
        rw [(List.mem_replicate.mp hl).2] at hcl
        exact hcl
      · rw [if_neg hc] at h'; exact h'.elim
    | _ => exact h.elim
  | ref p =>
    cases y with
    | int n =>
      cases ry
      have h' : Post K Θ (RelD K) ρ H (match M.lstAt S p with | some xs => if n.natAbs ≤ 1000 ∧ xs.length * n.natAbs ≤ 1000000 then M.alloc (.lst (List.replicate n.toNat xs).flatten) S else .no | none => .no) Q := h
      cases q : S[p]? with
      | none => simp only [M.lstAt, q] at h'; exact h'.elim
      | some o =>
        cases o with
        | lst ds =>
          simp only [M.lstAt, q] at h'
          obtain ⟨a, rfl, ea⟩ := rx
          obtain ⟨zs, e1, r⟩ := lst_at rp ea q
          by_cases hc : n.natAbs ≤ 1000 ∧ ds.length * n.natAbs ≤ 1000000
          · rw [if_pos hc] at h'
            have hn : n.toNat ≤ n.natAbs := by lia
            refine .inr ⟨a, n, zs, rfl, rfl, e1, by lia, by lia, ?_, fun p hp => Post.alloc h' rp (RelDs.flat r n.toNat) hp⟩
            have hm := Nat.mul_le_mul_left ds.length hn
            rw [← r.length, sizeLine_eq]
            lia
          · rw [if_neg hc] at h'; exact h'.elim
        | dct _ => simp only [M.lstAt, q] at h'; exact h'.elim
        | fdc _ => simp only [M.lstAt, q] at h'; exact h'.elim
        | dtt _ => simp only [M.lstAt, q] at h'; exact h'.elim
        | ftt _ => simp only [M.lstAt, q] at h'; exact h'.elim
        | ins _ _ => simp only [M.lstAt, q] at h'; exact h'.elim
    | _ => exact h.elim
  | _ => exact h.elim
def rIxM (K : PySem.W.Frag) : R2 := fun x y H Q => uIx K x y H Q ∨ ∃ a v, x = .ref a ∧ DGet H a y (some v) ∧ Q v H
theorem ix_M {X : Cx} {k : Nat} (hr : Room k X.A) : IxR X (rIxM X.K) := by
  refine IxR.or u_ix ?_
  intro value slice pins s σ H x y v u Q I rx ry h hs
  obtain ⟨a, w', rfl, g, q⟩ := h
  cases rx
  exact tail_any (dict_typeIs I g) PySem.F.slot_dict_getitem.lookup (d_getItem (hu_of hr) I g ry fun w2 s3 I3 rw' => ⟨w', H, I3, rw', q⟩) hs
def rLenM (K : PySem.W.Frag) : List V → Hp → VK → Prop := fun xs H Q => uLen K xs H Q ∨ ∃ a kvs, xs = [V.ref a] ∧ H a = some (.dK kvs) ∧ Q (.int kvs.length) H
theorem call_lenM {X : Cx} : CallR X (.builtin "len") (rLenM X.K) := CallR.or u_len call_lenD
theorem ad_ix : Ad2 K Θ M.opIx (rIxM K) := by
  intro ρ H S x y X Y Q rp rx ry h
  cases x with
  | str a =>
    cases y with
    | int i =>
      obtain ⟨rfl, oka⟩ := rx
      cases ry
      have h' : Post K Θ (RelD K) ρ H (if a.length ≤ M.SZ then (match M.atI a i with | some c => M.R.ok (M.D.str [c]) S | none => .no) else .no) Q := h
      by_cases hc : a.length ≤ M.SZ
      · rw [if_pos hc] at h'
        cases q : M.atI a i with
        | none => rw [q] at h'; exact h'.elim
        | some c =>
          rw [q] at h'
          refine .inl ⟨c, by rw [ofT_len, ← SZ_eq]; exact hc, ?_, Post.here (b := V.str (ofT [c])) h' rp ⟨rfl, okT_sub oka fun d hd => by
            have e : d = c := by simpa using hd
            rw [e]
            unfold M.atI at q
            cases qi : M.ixN a.length i with
            | none => rw [qi] at q; cases q
            | some j => rw [qi] at q; exact List.mem_of_getElem? q⟩⟩
          rw [ofT_list]; exact q
      · rw [if_neg hc] at h'; exact h'.elim
    | _ => exact h.elim
  | tup ds =>
    cases y with
    | int i =>
      obtain ⟨l, xs, rfl, hq, r⟩ := rx
      cases ry
      have h' : Post K Θ (RelD K) ρ H (match M.atI ds i with | some d => M.R.ok d S | none => .no) Q := h
      cases q : M.atI ds i with
      | none => rw [q] at h'; exact h'.elim
      | some d =>
        rw [q] at h'
        obtain ⟨v, e1, rv⟩ := atI_rel r q
        exact .inl ⟨xs, v, .inr hq, e1, Post.here h' rp rv⟩
    | _ => exact h.elim
  | ro ds =>
    cases y with
    | int i =>
      obtain ⟨l, xs, rfl, hq, r⟩ := rx
      cases ry
      have h' : Post K Θ (RelD K) ρ H (match M.atI ds i with | some d => M.R.ok d S | none => .no) Q := h
      cases q : M.atI ds i with
      | none => rw [q] at h'; exact h'.elim
      | some d =>
        rw [q] at h'
        obtain ⟨v, e1, rv⟩ := atI_rel r q
        exact .inl ⟨xs, v, .inl hq.sq, e1, Post.here h' rp rv⟩
    | _ => exact h.elim
  | ref p =>
    obtain ⟨a, rfl, ea⟩ := rx
    cases q : S[p]? with
    | none => simp [M.opIx, q] at h; exact h.elim
    | some o =>
      cases o with
      | lst xs =>
        cases y with
        | int i =>
          cases ry
          obtain ⟨zs, e1, r⟩ := lst_at rp ea q
          cases q2 : M.atI xs i with
          | none => simp [M.opIx, q, q2] at h; exact h.elim
          | some d =>
            simp [M.opIx, q, q2] at h
            obtain ⟨v, e2, rv⟩ := atI_rel r q2
            exact .inl ⟨zs, v, .inl (SqL.of e1), e2, Post.here h rp rv⟩
        | _ => simp [M.opIx, q] at h; exact h.elim
      | dct kvs =>
        by_cases hk : M.keyOk y = true
        case neg => simp [M.opIx, q, hk] at h; exact h.elim
        obtain ⟨ks, e1, r⟩ := dct_at rp ea q
        obtain ⟨k, h1, rfl⟩ := keyR_of hk ry
        have hv := r.val h1
        cases q2 : M.dGet y kvs with
        | none => simp [M.opIx, q, hk, q2] at h; exact h.elim
        | some d =>
          simp [M.opIx, q, hk, q2] at h
          rw [q2] at hv
          obtain ⟨v, e2, rv⟩ := hv
          refine .inr ⟨a, v, rfl, ?_, Post.here h rp rv⟩
          rw [← e2]
          exact DGet.k e1
      | dtt _ => simp [M.opIx, q] at h; exact h.elim
      | ftt _ => simp [M.opIx, q] at h; exact h.elim
      | fdc kvs =>
        by_cases hk : M.keyOk y = true
        case neg => simp [M.opIx, q, hk] at h; exact h.elim
        obtain ⟨fo, ks, e1, r⟩ := fdc_at rp ea q
        obtain ⟨k, h1, rfl⟩ := keyR_of hk ry
        have hv := r.val h1
        cases q2 : M.dGet y kvs with
        | none => simp [M.opIx, q, hk, q2] at h; exact h.elim
        | some d =>
          simp [M.opIx, q, hk, q2] at h
          rw [q2] at hv
          obtain ⟨v, e2, rv⟩ := hv
          refine .inr ⟨a, v, rfl, ?_, Post.here h rp rv⟩
          rw [← e2]
          exact (.inl ⟨ks, k, .inr ⟨fo, e1⟩, rfl, rfl⟩)
      | ins c fs => simp [M.opIx, q] at h; exact h.elim
  | _ => exact h.elim
theorem ad_len : AdN K Θ M.fLen (rLenM K) := by
  intro ρ H S xs Xs Q rp rx h
  match xs, rx, h with
  | [.str a], rx, h =>
    obtain ⟨_, _, rfl, ⟨rfl, _⟩, rfl⟩ := rx
    have h' : Post K Θ (RelD K) ρ H (if a.length ≤ M.SZ then M.R.ok (M.D.int a.length) S else .no) Q := h
    by_cases hc : a.length ≤ M.SZ
    · rw [if_pos hc] at h'
      refine .inl ⟨by rw [ofT_len, ← SZ_eq]; exact hc, ?_⟩
      rw [ofT_len]
      exact Post.here (b := V.int a.length) h' rp rfl
    · rw [if_neg hc] at h'; exact h'.elim
  | [.tup ds], rx, h =>
    obtain ⟨_, _, rfl, ⟨l, ys, rfl, hq, r⟩, rfl⟩ := rx
    exact .inl ⟨ys, .inr hq, by rw [← r.length]; exact Post.here (b := V.int ds.length) h rp rfl⟩
  | [.ro ds], rx, h =>
    obtain ⟨_, _, rfl, ⟨l, ys, rfl, hq, r⟩, rfl⟩ := rx
    exact .inl ⟨ys, .inl hq.sq, by rw [← r.length]; exact Post.here (b := V.int ds.length) h rp rfl⟩
  | [.ref p], rx, h =>
    obtain ⟨_, _, rfl, ⟨a, rfl, ea⟩, rfl⟩ := rx
    cases q : S[p]? with
    | none => simp [M.fLen, q] at h; exact h.elim
    | some o =>
      cases o with
      | lst xs =>
        simp [M.fLen, q] at h
        obtain ⟨zs, e1, r⟩ := lst_at rp ea q
        exact .inl ⟨zs, .inl (SqL.of e1), by rw [← r.length]; exact Post.here (b := V.int xs.length) h rp rfl⟩
      | dct kvs =>
        simp [M.fLen, q] at h
        obtain ⟨ks, e1, r⟩ := dct_at rp ea q
        exact .inr ⟨a, ks, rfl, e1, by rw [← Paired.length r]; exact Post.here (b := V.int kvs.length) h rp rfl⟩
      | fdc _ => simp [M.fLen, q] at h; exact h.elim
      | dtt _ => simp [M.fLen, q] at h; exact h.elim
      | ftt _ => simp [M.fLen, q] at h; exact h.elim
      | ins c fs => simp [M.fLen, q] at h; exact h.elim
  | [.non], _, h => exact h.elim
  | [.bl _], _, h => exact h.elim
  | [.int _], _, h => exact h.elim
  | [.ty _], _, h => exact h.elim
  | [], _, h => exact h.elim
  | a :: _ :: _, _, h => cases a <;> exact h.elim
theorem pifs_yes {X : Cx} : PIfs X [] (RdT X.K Θ M.tYes) := fun pins s σ H Q I ⟨ρ, σ', S, st, rp, h⟩ => pifs_nil pins s σ H Q I (Post.here (b := true) h rp rfl)
theorem ints_rel {ρ : List Addr} {H : Hp} : ∀ ns : List Int, RelDs K ρ H (ns.map .int) (ns.map V.int)
  | [] => rfl
  | n :: ns => ⟨_, _, rfl, rfl, ints_rel ns⟩
theorem law_sp {f : M.F} (ht : ∀ ns : List Int, ns.length ≤ 63 → ∃ s, f [.ro (ns.map .int)] [] = .ok (.bl true) s) {H : Hp} {a : Addr} {ns : List Int} {E : XK} (hl : ns.length ≤ 63) (hO : Only H) (hS : SqL K H a (ns.map V.int)) : SpM K Θ 1 f [.ref a] H (fun v _ => v = .bl true) E := by
  obtain ⟨s, e⟩ := ht ns hl
  refine ⟨[], [.ro (ns.map .int)], [], rfl, ⟨_, _, rfl, ⟨a, ns.map V.int, rfl, ?_, ints_rel ns⟩, rfl⟩, ⟨rfl, List.nodup_nil, fun i o q => by simp at q⟩, ?_⟩
  · rcases hS with (h | h) | h
    · rcases hO a with z | ⟨o, xs, z⟩
      · rw [h] at z; cases z
      · rw [h] at z; cases z
    · exact .inl h
    · exact .inr h
  · rw [e]
    exact fun ρ' H' b _ _ _ r => r
end
section
variable {P : Program} {w : World} {K : PySem.W.Frag} {mg : Str → Option Value} {base : Heap} {Θ : Tab}
theorem fun_M0 {x qual : Str} {st : Stmt} {f : Addr} {fd : FuncData} {N ps : List Str} {k : Nat} {b : M.SM} (F : Fun K x qual st f fd) (Sc : FnScope N ps (defScope st))
    (hbody : ∀ (cdv : Value) (A : Around) (outer : List Env) (s : Shared) (H : Hp) (E : XK), Room k (A.deeper (envOfC qual (defScope st) s.heap.objs.size f cdv)) →
      MSs (cxOf CX0 P w K mg base N qual (defScope st) f cdv A outer s H E).nox Θ (defBody st) b) : FnOk P w K mg base CX0 (k + 1) f fd ps (SpM K Θ ps.length (M.fn N.length b)) := by
  refine F.ok (k := k) Sc (fun vs H Q E h => ?_) (fun cdv A outer s H vs Q E hr h => ?_)
  · obtain ⟨ρ, ds, S, hl, r, _⟩ := h
    rw [← r.length, hl]
  · obtain ⟨ρ, ds, S, hl, r, rp, h⟩ := h
    refine ⟨_, hbody cdv A outer s H E hr, ρ, _, S, start_rel r N, rp, ?_⟩
    have h' : Post K Θ (RelD K) ρ H (b (ds.map some ++ List.replicate (N.length - ds.length) none) S).out Q := h
    show PostS K Θ ρ H (b (ds.map some ++ List.replicate (N.length - ds.length) none) S) _
    revert h'
    cases b (ds.map some ++ List.replicate (N.length - ds.length) none) S with
    | rt a s => exact fun h' => h'
    | nx a s => exact fun h' ρ1 H1 σ1 p1 l1 rp1 _ => h' ρ1 H1 .non p1 l1 rp1 rfl
    | bk a s => exact fun h' => h'.elim
    | ct a s => exact fun h' => h'.elim
    | exc e a s => exact fun h' => h'
    | no => exact fun h' => h'
theorem w_fun_M0 {x qual : Str} {st : Stmt} {f : Addr} {fd : FuncData} {N ps : List Str} {k : Nat} {b : M.SM} (F : Fun K x qual st f fd) (Sc : FnScope N ps (defScope st))
    (hbody : ∀ (cdv : Value) (A : Around) (outer : List Env) (s : Shared) (H : Hp) (E : XK), Room k (A.deeper (envOfC qual (defScope st) s.heap.objs.size f cdv)) →
      WSs (cxOf CX0 P w K mg base N qual (defScope st) f cdv A outer s H E).nox Θ (defBody st) b) : FnOk P w K mg base CX0 (k + 1) f fd ps (SpM K Θ ps.length (M.fn N.length b)) := by with_unfolding_all exact fun_M0 (x := x) (qual := qual) (st := st) (f := f) (fd := fd) (N := N) (ps := ps) (k := k) (b := b) F Sc hbody
end
end L2
namespace L2
open PySem PySem.Spec PyProof.Rows
section
variable {P : Program} {w : World} {A : Around} {E : Value → Shared → Prop} {s : Shared}
set_option maxHeartbeats 4000000 in
end
end L2
namespace L2
open PySem PySem.Spec PyProof.Rows
noncomputable def wk : HO → Bool
  | .dK _ => true
  | .ext _ => true
  | _ => false
section
variable {K : PySem.W.Frag} {Θ : Tab} {ρ : List Addr} {H H' : Hp}
section
variable {a : Addr} {o : Obj} {u : HO} (hu : wk u = true) (ha : H a = some (.frz o u))
include hu ha
end
end
end L2
namespace L2
open PySem PySem.Spec PyProof.Rows PySem.SeqAt
mutual
inductive IsV (h : Heap) : Nat → M.D → Value → Prop
  | non {n : Nat} : IsV h n .non .none
  | int {n : Nat} {i : Int} {t : Tok} : IsV h n (.int i) (.int i t)
  | str {n : Nat} {x : M.T} {t : Tok} : IsV h n (.str x) (.str (ofT x) t)
  | tup {n : Nat} {ds : List M.D} {a : Addr} {us : List Value} : h.IsTuple a us.toArray → IsVs h n ds us → IsV h (n + 1) (.tup ds) (.ref a)
inductive IsVs (h : Heap) : Nat → List M.D → List Value → Prop
  | nil {n : Nat} : IsVs h n [] []
  | cons {n : Nat} {d : M.D} {ds : List M.D} {u : Value} {us : List Value} : IsV h n d u → IsVs h n ds us → IsVs h n (d :: ds) (u :: us)
end
section
variable {X : Cx} {pins : List (Addr × Obj)} {σ : St} {H : Hp} {s : Shared} {Θ : Tab} {K : PySem.W.Frag} {ρ : List Addr} {S : M.S}
theorem mut_ext {a : Addr} {φ : Heap → Prop} (h : H a = some (.ext φ)) : Mut (H a) := by rw [h]; trivial
end
end L2
namespace TE
open PySem
noncomputable abbrev bare (C p : Addr) : Obj := { cls := .ref C, data := .fields #[.ref p, .none, .none, .none, .bool false, .none] }
def laid (m : Heap) (C : Addr) (us : List Value) : Heap := (m.push { cls := .type "tuple", data := .seq us.toArray }).push (bare C m.objs.size)
theorem laid_old {m : Heap} {C b : Addr} {us : List Value} {o : Obj} (e : m.get? b = some o) : (laid m C us).get? b = some o :=
  Heap.get?_push_of_some _ (Heap.get?_push_of_some _ e)
theorem laid_new {m : Heap} {C : Addr} {us : List Value} : (laid m C us).get? (m.objs.size + 1) = some (bare C m.objs.size) := by
  unfold laid bare
  heap_get
theorem laid_ns {m : Heap} {C n : Addr} {us : List Value} {f : Str → Option Value} (e : m.Ns n f) : (laid m C us).Ns n f := by
  obtain ⟨a, b, c, e, r⟩ := e
  exact ⟨a, b, c, laid_old e, r⟩
structure Cl (m : Heap) (C fi : Addr) (B nw ini : String) (tl : List Value) : Prop where
  ex : ∃ nm q N bs tl' hd sn sub ab col dd k0 k1 k2 k3 k5 mN of, m.get? C = some (excClassObj nm q C N bs tl' hd sn sub ab col dd k0 k1 k2 k3 k5 nw) ∧ m.Ns N mN ∧ mN "__init__" = some (.ref fi) ∧ OwnTail m tl tl' ∧ m.get? fi = some of ∧ of.cls = .type "function"
section
variable {pg : Program} {wo : World} {Ar : Around} {Er : Value → Shared → Prop} {m : Heap} {gs : Array GenState} {dr : Drawn} {k : Nat} {sy : OsState} {C fi : Addr} {B nw ini : String} {tl us : List Value}
theorem made_in {Q : PySem.Fin → Shared → Prop} (F : ExcBaseFacts B nw ini tl) (c : Cl m C fi B nw ini tl) (z : us.length ≤ sizeLine)
    (q : wpAny (model pg wo) Ar (call (.ref fi) (.ref (m.objs.size + 1) :: us)) (fun r s => r = .none ∧ Q (.done (.ret (.ref (m.objs.size + 1)))) s) Er ⟨laid m C us, gs, dr, k, sy⟩) :
    wpAny (model pg wo) Ar (Builtin.«type.__call__» ⟨.ref C :: us, []⟩) Q Er ⟨m, gs, dr, k, sy⟩ := by
  obtain ⟨nm, qn, N, bs, tl', hd, sn, sub, ab, col, dd, k0, k1, k2, k3, k5, mN, of, cl, ns, ni, ot, ff, fc⟩ := c.ex
  have mine : (Value.ref C :: tl').contains (.ref C) = true := by simp
  have cl' := laid_old (C := C) (us := us) cl
  repeat first
    | (with_reducible refine wpAny_madeBy_exc cl ?_)
    | (with_reducible refine wpAny_loadPart_at cl ?_)
    | wp_step
  apply codeAny_call_builtin_code (Code.quiet_builtin _ F.quiet)
  apply wpAny_check_new_subT F ot cl
  refine codeAny_exc_new_subT F ot cl ?_ z
  change wpAny _ _ _ _ _ ⟨laid m C us, gs, dr, k, sy⟩
  unfold isInstance
  repeat first
    | (with_reducible refine wpAny_loadPart_at laid_new ?_)
    | (with_reducible refine wpAny_isSubtype_exc cl' ?_; rw [mine])
    | wp_step
  change wpAny _ _ (typeLookup (.ref C) _) _ _ _
  apply wpAny_typeLookup_tail cl' (laid_ns ns) (ot.keeps fun _ _ => laid_old) F.mroIs F.init.lookup
  rw [ni]
  apply wpAny_holding
  apply wpAny_bind
  apply wpAny_bindSpecial_def (laid_old ff) fc
  apply wpAny_bind
  refine wpAny_mono q (fun r s hr => ?_) fun _ _ e => e
  rw [hr.1]
  wp_walk
  exact hr.2
theorem made {Q : Value → Shared → Prop} (F : ExcBaseFacts B nw ini tl) (c : Cl m C fi B nw ini tl) (z : us.length ≤ sizeLine)
    (q : wpAny (model pg wo) (Ar.under (.builtin "type.__call__" ⟨.ref C :: us, []⟩)) (call (.ref fi) (.ref (m.objs.size + 1) :: us)) (fun r s => r = .none ∧ Q (.ref (m.objs.size + 1)) s) Er ⟨laid m C us, gs, dr, k, sy⟩) :
    wpAny (model pg wo) Ar (call (.ref C) us) Q Er ⟨m, gs, dr, k, sy⟩ := by
  obtain ⟨nm, qn, N, bs, tl', hd, sn, sub, ab, col, dd, k0, k1, k2, k3, k5, mN, of, cl, _⟩ := c.ex
  have l1 := tc_lookup
  have l2 := tc_bind (.ref C)
  have ty : Shared.TypeIs ⟨m, gs, dr, k, sy⟩ (.ref C) "type" := ⟨_, cl, rfl⟩
  apply wpAny_call
  apply codeAny_of_tree
  change wpAny _ _ (callAny (.ref C) _) _ _ _
  repeat any_goals first
    | assumption
    | (with_reducible refine wpAny_loadPart_at cl ?_)
    | wp_step
  constructor
  · rfl
  · exact codeAny_call_builtin_at (Code.quiet_builtin _ (by decide +kernel)) entry_typeCall (wpAny_check_type_call_sub cl (made_in F c z q))
end
def IsX (m : Heap) (C : Addr) : Prop := ∃ nm q N bs tl hd sn sub ab col dd k0 k1 k2 k3 k5 nw, m.get? C = some (excClassObj nm q C N bs tl hd sn sub ab col dd k0 k1 k2 k3 k5 nw) ∧ tl.contains (.type "BaseException") = true
def NotYet (m : Heap) (C e : Addr) : Prop := ∃ od sl p, m.get? e = some { cls := .ref C, dict := od, data := .fields #[.ref p, .none, .none, .none, .bool false, .none], slots := sl }
theorem raised {mo : Model} {Ar : Around} {Er : Value → Shared → Prop} {en : Env} {s : Shared} {x : Sem Value} {Q : Flow → Shared → Prop} {C : Addr} (nh : Ar.handled = none)
    (hx : wpAny mo Ar x (fun v s' => ∃ e, v = .ref e ∧ IsX s'.heap C ∧ NotYet s'.heap C e ∧ Er v s') Er s) : wpAny mo Ar (raiseStmt en (some x) none) Q Er s := by
  unfold raiseStmt
  apply wpAny_bind
  refine wpAny_mono hx (fun v s' hv => ?_) fun _ _ z => z
  obtain ⟨e, rfl, ⟨nm, q, N, bs, tl, hd, sn, sub, ab, col, dd, k0, k1, k2, k3, k5, nw, cl, ba⟩, ⟨od, sl, p, at'⟩, ok⟩ := hv
  have sb : (Value.ref C :: tl).contains (.type "BaseException") = true := by
    rw [List.contains_cons, ba]
    exact Bool.or_true _
  obtain ⟨m, gs, dr, k, sy⟩ := s'
  repeat first
    | (with_reducible refine wpAny_loadPart_at at' ?_)
    | (with_reducible refine wpAny_loadPart_at cl ?_)
    | (with_reducible refine wpAny_isSubtype_exc cl ?_; rw [sb])
    | wp_step
  exact wpAny_raiseNew_none nh ok
section
variable {pg : Program} {wo : World} {Ar : Around} {Er : Value → Shared → Prop} {s : Shared} {en : Env} {C fi : Addr} {B nw ini : String} {tl : List Value}
theorem raise_call {x : Str} {np cp pos : Pos} {es : List Expr} {Q : Flow → Shared → Prop} (F : ExcBaseFacts B nw ini tl) (nh : Ar.handled = none) (pl : (backTo cp (starEach es en)).any (·.1) = false)
    (hx : wpAny (model pg wo) Ar (eval (.Name x np) en) (fun v s1 => v = .ref C ∧ wpAny (model pg wo) Ar (evalArgs (.ref C) true (backTo cp (starEach es en)) []) (fun a s2 => a.kw = [] ∧ a.pos.length ≤ sizeLine ∧ Cl s2.heap C fi B nw ini tl ∧
      wpAny (model pg wo) (Ar.under (.builtin "type.__call__" ⟨.ref C :: a.pos, []⟩)) (call (.ref fi) (.ref (s2.heap.objs.size + 1) :: a.pos)) (fun r s3 => r = .none ∧ IsX s3.heap C ∧ NotYet s3.heap C (s2.heap.objs.size + 1) ∧ Er (.ref (s2.heap.objs.size + 1)) s3) Er { s2 with heap := laid s2.heap C a.pos }) Er s1) Er s) :
    wpAny (model pg wo) Ar (exec (.Raise (some (.Call (.Name x np) es [] cp)) none pos) en) Q Er s := by
  rw [arm_exec_Raise]
  simp only [evalOpt, Option.map]
  apply wpAny_bind
  apply wpAny_standAt
  apply raised (C := C) nh
  apply wpAny_bind
  refine wpAny_mono (wpAny_Call_ofName (wpAny_mono hx (fun v s1 h1 => ?_) fun _ _ z => z)) (fun v s3 h3 => wpAny_bind (wpAny_standAt (wpAny_pure h3))) fun _ _ z => z
  rw [h1.1]
  unfold callWith
  apply wpAny_bind
  apply wpAny_holding
  refine wpAny_mono h1.2 (fun a s2 h2 => wpAny_bind (wpAny_standAt ?_)) fun _ _ z => z
  obtain ⟨ps, kw⟩ := a
  obtain ⟨rfl, z, c, h3⟩ := h2
  obtain ⟨m, gs, dr, k, sy⟩ := s2
  obtain ⟨nm, qn, N, bs, tl', hd, sn, sub, ab, col, dd, k0, k1, k2, k3, k5, mN, of, cl, _⟩ := id c.ex
  simp only [pl]
  apply wpAny_bind
  apply wpAny_keeperOf_exc cl
  apply wpAny_bind
  refine made F c z (wpAny_mono h3 (fun r s3 h4 => ⟨h4.1, ?_⟩) fun _ _ z => z)
  apply wpAny_bind
  apply wpAny_holding
  apply wpAny_point
  exact wpAny_pure ⟨_, rfl, h4.2.1, h4.2.2.1, h4.2.2.2⟩
end
end TE
namespace TE
open PySem PySem.Builtin PySem.Builtin.ObjectAttr
structure Two (m : Heap) (C Y : Addr) (B : String) (tl : List Value) (mC mY : Str → Option Value) : Prop where
  up : mroOf (.type B) = pure tl
  lo : ∃ nm q N bs sn sub ab col dd k0 k1 k2 k3 k5 nw, m.get? C = some (excClassObj nm q C N bs (.ref Y :: tl) true sn sub ab col dd k0 k1 k2 k3 k5 nw) ∧ m.Ns N mC
  hi : ∃ c dd cd sl, m.get? Y = some { cls := c, dict := dd, data := .cls cd, slots := sl } ∧ m.Ns cd.ns mY
section
variable {mo : Model} {Ar : Around} {Er : Value → Shared → Prop} {m : Heap} {gs : Array GenState} {dr : Drawn} {k : Nat} {sy : OsState} {C Y : Addr} {B : String} {tl : List Value} {mC mY : Str → Option Value}
theorem Two.look {n : Str} {o : Option Value} {Q : Option Value → Shared → Prop} (T : Two m C Y B tl mC mY) (n1 : mC n = none) (n2 : mY n = none) (n3 : typeLookup (.type B) n = pure o) (q : Q o ⟨m, gs, dr, k, sy⟩) : wpAny mo Ar (typeLookup (.ref C) n) Q Er ⟨m, gs, dr, k, sy⟩ := by
  obtain ⟨nm, qn, N, bs, sn, sub, ab, col, dd, k0, k1, k2, k3, k5, nw, cl, ns⟩ := T.lo
  obtain ⟨c, dY, cd, sl, cy, ny⟩ := T.hi
  rw [typeLookup_eq, T.up] at n3
  rw [typeLookup_eq]
  apply wpAny_bind
  apply wpAny_mroOf_exc cl
  rw [lookupAlong_cons]
  apply wpAny_bind
  apply wpAny_classOwn_exc cl ns
  rw [n1]
  change wpAny mo Ar (lookupAlong (.ref Y :: tl) n) _ _ _
  rw [lookupAlong_cons]
  apply wpAny_bind
  apply wpAny_classOwn_cls cy ny
  rw [n2]
  exact wpAny_of_eq n3 q
end
theorem put_in {mo : Model} {Ar : Around} {Er : Value → Shared → Prop} {m : Heap} {gs : Array GenState} {dr : Drawn} {k : Nat} {sy : OsState} {p : Addr} {f : Str → Option Value} {n : Str} {tk : Tok} {v : Value} {Q : PySem.Fin → Shared → Prop} {ks : List Str} (e : m.Ns1 p f) (wi : Within f ks) (z : ks.length ≤ 100)
    (q : ∀ m' k', m'.Ns1 p (fun y => if y = n then some v else f y) → (∀ b, b ≠ p → m'.get? b = m.get? b) → Q (.done (.ret .none)) ⟨m', gs, dr, k', sy⟩) : wpAny mo Ar (storeInDict p (.str n tk) n v) Q Er ⟨m, gs, dr, k, sy⟩ := by
  unfold storeInDict newKeyGuard
  apply wpAny_bind
  apply wpAny_pure
  apply wpAny_bind
  refine wpAny_nsSet1 e fun m' e' sb => ?_
  obtain ⟨od, es, ep, h1, h2, h3⟩ := e'.count (Within.cons n v wi)
  apply wpAny_bind
  refine wpAny_lookBehind h1 ?_ ?_
  · rw [h2]
    exact pastItsLine_dict (Nat.le_trans h3 (by rw [List.length_cons, sizeLine_eq]; lia))
  · wp_walk
    exact q m' _ e' fun b hb => sb.2 b hb
section
variable {pg : Program} {wo : World} {Ar : Around} {Er : Value → Shared → Prop} {m : Heap} {gs : Array GenState} {dr : Drawn} {k : Nat} {sy : OsState} {C Y x : Addr} {B sa ow : String} {tl : List Value} {mC mY : Str → Option Value} {n : Str} {v : Value} {o : Obj}
theorem set_new {tk : Tok} {Q : PySem.Fin → Shared → Prop} (T : Two m C Y B tl mC mY) (S : StoreFacts B tl sa ow) (n1 : mC n = none) (n2 : mY n = none) (n3 : typeLookup (.type B) n = pure none)
    (hx : m.get? x = some o) (hc : o.cls = .ref C) (nc : ∀ c, o.data ≠ .cls c) (nd : o.dict = none)
    (q : ∀ m' k', m'.get? x = some { o with dict := some m.objs.size } → m'.Ns1 m.objs.size (fun y => if y = n then some v else none) → (∀ b u, b ≠ x → m.get? b = some u → m'.get? b = some u) → Q (.done (.ret .none)) ⟨m', gs, dr, k', sy⟩) :
    wpAny (model pg wo) Ar (Builtin.«object.__setattr__» ⟨[.ref x, .str n tk, v], []⟩) Q Er ⟨m, gs, dr, k, sy⟩ := by
  obtain ⟨nm, qn, N, bs, sn, sub, ab, col, dd, k0, k1, k2, k3, k5, nw, cl, ns⟩ := T.lo
  have ps := S.passes (.ref x)
  have xl : x < m.objs.size := Heap.lt_size hx
  unfold Builtin.«object.__setattr__»
  repeat first
    | rw [refuse_eq]
    | (rw [refuseLoop_ref, refuseLoop_ref, ps])
    | (with_reducible refine wpAny_loadPart_at hx ?_; rw [hc])
    | (with_reducible refine wpAny_mroOf_exc cl ?_)
    | (with_reducible refine T.look n1 n2 n3 ?_)
    | wp_step
  rw [nd]
  dsimp only
  rw [if_neg (show ¬ (!true || !typeHasDict (.ref C)) = true by simp [typeHasDict])]
  split
  · rename_i c e
    exact absurd e (nc c)
  · apply wpAny_bind
    apply wpAny_alloc'
    apply wpAny_bind
    have h1 : (m.push { cls := .type "dict", data := .dict #[] }).get? x = some o := Heap.get?_push_of_some _ hx
    apply wpAny_update' h1
    apply wpAny_pure
    generalize hm1 : (m.push { cls := .type "dict", data := .dict #[] }).update x (fun o => { cls := o.cls, dict := some m.objs.size, data := o.data, slots := o.slots }) = m1
    have far : ∀ b, b ≠ x → m1.get? b = (m.push { cls := .type "dict", data := .dict #[] }).get? b := fun b hb => by
      rw [← hm1]
      exact Heap.get?_update_ne _ _ _ _ hb
    have dn : m1.get? m.objs.size = some { cls := .type "dict", data := .dict #[] } := by
      rw [far _ (Nat.ne_of_gt xl)]
      exact Heap.get?_push_at rfl rfl
    have hx1 : m1.get? x = some { o with dict := some m.objs.size } := by
      rw [← hm1]
      refine Heap.get?_update_self _ h1 ?_
      have fr := (Heap.get?_some_iff.mp hx).2
      obtain ⟨a, b, c, e⟩ := o
      cases c <;> first | rfl | exact fr
    have e0 : m1.Ns1 m.objs.size (fun _ => none) := Heap.Ns1.of_empty ⟨_, #[], _, dn, rfl, fun y hy => absurd hy (by simp), fun _ => rfl⟩
    refine put_in e0 Within.nil (by simp) fun m' k' e' st => ?_
    refine q m' k' ?_ e' fun b u hb hu => ?_
    · rw [st x (Nat.ne_of_lt xl)]
      exact hx1
    · have := Heap.lt_size hu
      rw [st b (Nat.ne_of_lt this), far b hb]
      exact Heap.get?_push_of_some _ hu
theorem set_old {tk : Tok} {Q : PySem.Fin → Shared → Prop} {p : Addr} {f : Str → Option Value} {ks : List Str} (T : Two m C Y B tl mC mY) (S : StoreFacts B tl sa ow) (n1 : mC n = none) (n2 : mY n = none) (n3 : typeLookup (.type B) n = pure none)
    (hx : m.get? x = some o) (hc : o.cls = .ref C) (hd : o.dict = some p) (px : p ≠ x) (e : m.Ns1 p f) (wi : Within f ks) (z : ks.length ≤ 100)
    (q : ∀ m' k', m'.Ns1 p (fun y => if y = n then some v else f y) → (∀ b, b ≠ p → m'.get? b = m.get? b) → Q (.done (.ret .none)) ⟨m', gs, dr, k', sy⟩) :
    wpAny (model pg wo) Ar (Builtin.«object.__setattr__» ⟨[.ref x, .str n tk, v], []⟩) Q Er ⟨m, gs, dr, k, sy⟩ := by
  obtain ⟨nm, qn, N, bs, sn, sub, ab, col, dd, k0, k1, k2, k3, k5, nw, cl, ns⟩ := T.lo
  have ps := S.passes (.ref x)
  unfold Builtin.«object.__setattr__»
  repeat first
    | rw [refuse_eq]
    | (rw [refuseLoop_ref, refuseLoop_ref, ps])
    | (with_reducible refine wpAny_loadPart_at hx ?_; rw [hc])
    | (with_reducible refine wpAny_mroOf_exc cl ?_)
    | (with_reducible refine T.look n1 n2 n3 ?_)
    | wp_step
  rw [hd]
  apply wpAny_pure
  exact put_in e wi z q
theorem set_ready {w1 : Value} {Q : Unit → Shared → Prop} (T : Two m C Y B tl mC mY) (S : StoreFacts B tl sa ow) (hx : m.get? x = some o) (hc : o.cls = .ref C) (q : Q () ⟨m, gs, dr, k, sy⟩) : wpAny (model pg wo) Ar (checkBuiltinCall sa ⟨[.ref x, w1, v], []⟩) Q Er ⟨m, gs, dr, k, sy⟩ := by
  obtain ⟨nm, qn, N, bs, sn, sub, ab, col, dd, k0, k1, k2, k3, k5, nw, cl, ns⟩ := T.lo
  have sb : (Value.ref C :: .ref Y :: tl).contains (.type ow) = true := by
    rw [List.contains_cons, List.contains_cons, S.hasOwner, Bool.or_true, Bool.or_true]
  have ar := S.args (.ref x) w1 v
  simp only [checkBuiltinCall, S.kind, S.split]
  apply wpAny_bind
  unfold isInstance
  repeat first
    | (with_reducible refine wpAny_loadPart_at hx ?_; rw [hc])
    | (with_reducible refine wpAny_isSubtype_exc cl ?_; rw [sb])
    | wp_step
  cases sg : Manifest.signature? sa with
  | none => exact wpAny_pure q
  | some g =>
    simp only [argsOk, sg] at ar
    change wpAny _ _ (Bind.checkArgs sa g _) _ _ _
    exact wpAny_of_eq ar q
theorem set_field_new {Q : Unit → Shared → Prop} (T : Two m C Y B tl mC mY) (S : StoreFacts B tl sa ow) (s1 : mC "__setattr__" = none) (s2 : mY "__setattr__" = none) (n1 : mC n = none) (n2 : mY n = none) (n3 : typeLookup (.type B) n = pure none)
    (hx : m.get? x = some o) (hc : o.cls = .ref C) (nc : ∀ c, o.data ≠ .cls c) (nd : o.dict = none)
    (q : ∀ m' k', m'.get? x = some { o with dict := some m.objs.size } → m'.Ns1 m.objs.size (fun y => if y = n then some v else none) → (∀ b u, b ≠ x → m.get? b = some u → m'.get? b = some u) → Q () ⟨m', gs, dr, k', sy⟩) :
    wpAny (model pg wo) Ar (setAttr (.ref x) n v) Q Er ⟨m, gs, dr, k, sy⟩ := by
  have bd := S.slot.bind (.ref x)
  unfold setAttr callSpecial? specialOf
  repeat any_goals first
    | assumption
    | (with_reducible refine wpAny_loadPart_at hx ?_; rw [hc])
    | (with_reducible refine T.look s1 s2 S.slot.lookup ?_)
    | wp_step
  apply codeAny_call_builtin S.slot.plain S.entry
  apply set_ready T S hx hc
  refine set_new T S n1 n2 n3 hx hc nc nd fun m' k' e1 e2 e3 => ?_
  repeat any_goals first
    | assumption
    | wp_step
  exact q m' k' e1 e2 e3
end
end TE
namespace TE
open PySem
noncomputable def Tr (m : Heap) (e : Addr) (oe : Obj) : Option Addr → Prop
  | none => ∃ vs, m.get? e = some oe ∧ oe.data = .fields vs ∧ vs[1]? = some .none
  | some T => ∃ vs ot ts, m.get? e = some oe ∧ oe.data = .fields vs ∧ vs[1]? = some (.ref T) ∧ T ≠ e ∧ m.get? T = some ot ∧ ot.data = .fields ts ∧ ts[3]? = some .none
theorem Tr.at {m : Heap} {e : Addr} {oe : Obj} {t : Option Addr} (h : Tr m e oe t) : ∃ vs, m.get? e = some oe ∧ oe.data = .fields vs ∧ 1 < vs.size := by
  cases t with
  | none => obtain ⟨vs, a, b, c⟩ := h; exact ⟨vs, a, b, (Array.getElem?_eq_some_iff.mp c).1⟩
  | some T => obtain ⟨vs, _, _, a, b, c, _⟩ := h; exact ⟨vs, a, b, (Array.getElem?_eq_some_iff.mp c).1⟩
structure Gone (l : List Env) (e : Addr) (t : Option Addr) (oe : Obj) (m m' : Heap) : Prop where
  size : m.objs.size ≤ m'.objs.size
  far : ∀ b o, m.get? b = some o → b ≠ e → t ≠ some b → b ∉ l.filterMap (·.frame) → m'.get? b = some o
  fra : ∀ b o, m.get? b = some o → b ≠ e → t ≠ some b → b ∈ l.filterMap (·.frame) → ∃ sl, m'.get? b = some { o with slots := sl }
  exc : ∃ oe' T, oe'.cls = oe.cls ∧ oe'.dict = oe.dict ∧ Tr m' e oe' (some T) ∧ m.objs.size ≤ T
  old : ∀ b, t = some b → ∃ o, m'.get? b = some o
section
variable {M : Model} {A : Around} {E : Value → Shared → Prop} {s : Shared} {base : Heap} {env : Env} {outer : List Env} {L e : Addr} {oe : Obj}
theorem entry_on {head : Value} {had : Bool} {vs : Array Value} {Q : Unit → Shared → Prop} (hfr : A.frames = some (env :: outer)) (hl : s.heap.FunFrames base (env :: outer)) (hf : env.frame = some L) (he : s.heap.get? e = some oe) (hd : oe.data = .fields vs) (hz : 1 < vs.size)
    (q : ∀ m', Gone (env :: outer) e none oe s.heap m' → Q () { s with heap := m' }) :
    wpAny M A (do let a ← frameOf env; let pl ← entryPlaceOf L had; let b ← EntryCells.newEntry head a .none (rawInt L) .none pl; setField (.ref e) 1 b) (fun _ s' => wpAny M A (setFlight (.ref e) none) Q E s') E s := by
  have ne : e ∉ (env :: outer).filterMap (·.frame) := fun hm => by
    obtain ⟨_, o, ho, nf⟩ := hl.mem hm
    rw [he] at ho
    cases ho
    exact nf vs hd
  apply wpAny_bind
  refine wpAny_frameOf_fun hfr hl hf fun m1 s1 => ?_
  apply wpAny_bind
  refine wpAny_entryPlaceOf fun pl hp => ?_
  unfold EntryCells.newEntry newFields
  apply wpAny_bind
  refine wpAny_newObj_type ?_ (hp.sizeOk5 _ _ _ _ _)
  obtain ⟨ot, hot⟩ : ∃ ot : Obj, ot = { cls := .type "traceback", dict := none, data := .fields ([head, .ref L, .none, rawInt L, .none] ++ (if pl.isEmpty then List.replicate 6 Value.none else pl)).toArray } := ⟨_, rfl⟩
  rw [← hot]
  have otd : ot.data = .fields ([head, .ref L, .none, rawInt L, .none] ++ (if pl.isEmpty then List.replicate 6 Value.none else pl)).toArray := by rw [hot]
  have e1 : m1.get? e = some oe := (s1.2.1 e ne).trans he
  have e2 : (m1.push ot).get? e = some oe := Heap.get?_push_of_some _ e1
  have fr : ot.isFreed = false := by rw [hot]; rfl
  have t2 : (m1.push ot).get? m1.objs.size = some ot := Heap.get?_push_size _ fr
  have te : m1.objs.size ≠ e := Nat.ne_of_gt (Heap.lt_size e1)
  refine wpAny_setField e2 hd hz ?_
  have d3 := Obj.data_mapFields hd (·.setIfInBounds 1 (Value.ref m1.objs.size))
  obtain ⟨m3, h3⟩ : ∃ m3, m3 = (m1.push ot).update e (Obj.mapFields (·.setIfInBounds 1 (Value.ref m1.objs.size))) := ⟨_, rfl⟩
  have e3 : m3.get? e = some (Obj.mapFields (·.setIfInBounds 1 (Value.ref m1.objs.size)) oe) := by rw [h3]; exact Heap.get?_update_self _ e2 (Obj.isFreed_of_fields d3)
  have t3 : m3.get? m1.objs.size = some ot := by rw [h3, Heap.get?_update_other _ _ te.symm]; exact t2
  change wpAny _ _ (setFlight (.ref e) none) _ _ { s with heap := (m1.push ot).update e _ }
  rw [← h3]
  unfold setFlight
  apply wpAny_bind
  refine wpAny_field e3 d3 (x := .ref m1.objs.size) (by simp [hz]) ?_
  rw [if_pos (show (Value.ref m1.objs.size != Value.none) = true by simp)]
  have z3 : 3 < ([head, .ref L, .none, rawInt L, .none] ++ (if pl.isEmpty then List.replicate 6 Value.none else pl)).toArray.size := by
    simp only [List.size_toArray, List.length_append, List.length_cons, List.length_nil]
    lia
  refine wpAny_setField t3 otd z3 (q _ ?_)
  have sz : m1.objs.size = s.heap.objs.size := s1.1
  have keep : ∀ b o, b ≠ e → m1.get? b = some o → (m3.update m1.objs.size (Obj.mapFields (·.setIfInBounds 3 ((none : Option Addr).elim Value.none fun f => rawInt f)))).get? b = some o := fun b o be hb => by
    have nb : m1.objs.size ≠ b := Nat.ne_of_gt (Heap.lt_size hb)
    rw [Heap.get?_update_other _ _ nb, h3, Heap.get?_update_other _ _ be.symm]
    exact Heap.get?_push_of_some _ hb
  have d4 := Obj.data_mapFields otd (·.setIfInBounds 3 ((none : Option Addr).elim Value.none fun f => rawInt f))
  refine ⟨?_, fun b o hb be _ nf => keep b o be ((s1.2.1 b nf).trans hb), fun b o hb be _ _ => ?_, ?_, fun b hb => by cases hb⟩
  · have : (m3.update m1.objs.size (Obj.mapFields (·.setIfInBounds 3 ((none : Option Addr).elim Value.none fun f => rawInt f)))).objs.size = m1.objs.size + 1 := by
      rw [Heap.size_after_update, h3, Heap.size_after_update, Heap.size_push]
    show s.heap.objs.size ≤ (m3.update m1.objs.size (Obj.mapFields (·.setIfInBounds 3 ((none : Option Addr).elim Value.none fun f => rawInt f)))).objs.size
    lia
  · obtain ⟨sl, hs⟩ := s1.2.2 b o hb
    exact ⟨sl, keep b _ be hs⟩
  · refine ⟨Obj.mapFields (·.setIfInBounds 1 (Value.ref m1.objs.size)) oe, m1.objs.size, Obj.cls_mapFields _ _, ?_, ⟨_, _, _, ?_, d3, by simp [hz], te, Heap.get?_update_self _ t3 (Obj.isFreed_of_fields d4), d4, by simp⟩, by lia⟩
    · obtain ⟨c, dd, dt, sl⟩ := oe
      cases dt <;> rfl
    · rw [Heap.get?_update_other _ _ te]
      exact e3
theorem left_n {t : Option Addr} {Q : Unit → Shared → Prop} (hfr : A.frames = some (env :: outer)) (hl : s.heap.FunFrames base (env :: outer)) (hf : env.frame = some L) (h : Tr s.heap e oe t)
    (q : ∀ m', Gone (env :: outer) e t oe s.heap m' → Q () { s with heap := m' }) : wpAny M A (noteFrame (.ref e) env) (fun _ s' => wpAny M A (setFlight (.ref e) none) Q E s') E s := by
  unfold noteFrame
  simp only [hf]
  cases t with
  | none =>
    obtain ⟨vs, he, hd, h1⟩ := h
    apply wpAny_bind
    refine wpAny_field he hd h1 ?_
    rw [if_neg (by decide)]
    exact entry_on hfr hl hf he hd (Array.getElem?_eq_some_iff.mp h1).1 q
  | some T =>
    obtain ⟨vs, ot, ts, he, hd, h1, nT, hT, hdT, h3⟩ := h
    apply wpAny_bind
    refine wpAny_field he hd h1 ?_
    rw [if_pos (show (Value.ref T != Value.none) = true by simp)]
    apply wpAny_bind
    refine wpAny_field hT hdT h3 ?_
    rw [if_neg (show ¬ (Value.none == rawInt L) = true by simp [rawInt])]
    apply wpAny_bind
    have z3 := (Array.getElem?_eq_some_iff.mp h3).1
    refine wpAny_setField hT hdT z3 ?_
    obtain ⟨m1, hm⟩ : ∃ m1, m1 = s.heap.update T (Obj.mapFields (·.setIfInBounds 3 Value.none)) := ⟨_, rfl⟩
    change wpAny _ _ _ _ _ { s with heap := s.heap.update T _ }
    rw [← hm]
    have oth : ∀ b, b ≠ T → m1.get? b = s.heap.get? b := fun b hb => by rw [hm]; exact Heap.get?_update_other _ _ hb.symm
    have dT := Obj.data_mapFields hdT (·.setIfInBounds 3 Value.none)
    have T1 : m1.get? T = some (Obj.mapFields (·.setIfInBounds 3 Value.none) ot) := by rw [hm]; exact Heap.get?_update_self _ hT (Obj.isFreed_of_fields dT)
    have nTf : T ∉ (env :: outer).filterMap (·.frame) := fun hm' => by
      obtain ⟨_, o, ho, nf⟩ := hl.mem hm'
      rw [hT] at ho
      cases ho
      exact nf ts hdT
    have hl1 : m1.FunFrames base (env :: outer) := hl.of_keeps fun b o hb nf => ⟨o, (oth b fun z => by rw [z, hT] at hb; cases hb; exact nf ts hdT).trans hb, rfl⟩
    refine entry_on (s := { s with heap := m1 }) hfr hl1 hf ((oth e nT.symm).trans he) hd (Array.getElem?_eq_some_iff.mp h1).1 fun m' g => q m' ?_
    have sz : m1.objs.size = s.heap.objs.size := by rw [hm, Heap.size_after_update]
    have gs : m1.objs.size ≤ m'.objs.size := g.size
    refine ⟨by lia, fun b o hb be bt nf => g.far b o ((oth b fun z => bt (by rw [z])).trans hb) be (by simp) nf, fun b o hb be bt nf => g.fra b o ((oth b fun z => bt (by rw [z])).trans hb) be (by simp) nf, ?_, fun b hb => ?_⟩
    · obtain ⟨oe', T', a1, a2, a3, a4⟩ := g.exc
      have a4' : m1.objs.size ≤ T' := a4
      exact ⟨oe', T', a1, a2, a3, by lia⟩
    · cases hb
      exact ⟨_, g.far T _ T1 nT (by simp) nTf⟩
theorem anewX {T : Addr} {Q : Unit → Shared → Prop} (h : Tr s.heap e oe (some T))
    (q : ∀ m', (∀ b o, s.heap.get? b = some o → b ≠ T → m'.get? b = some o) → Tr m' e oe (some T) → Q () { s with heap := m' }) : wpAny M A (setFlight (.ref e) none) Q E s := by
  obtain ⟨vs, ot, ts, he, hd, h1, nT, hT, hdT, h3⟩ := h
  unfold setFlight
  apply wpAny_bind
  refine wpAny_field he hd h1 ?_
  rw [if_pos (show (Value.ref T != Value.none) = true by simp)]
  have z3 := (Array.getElem?_eq_some_iff.mp h3).1
  have d4 := Obj.data_mapFields hdT (·.setIfInBounds 3 ((none : Option Addr).elim Value.none fun f => rawInt f))
  have oth : ∀ b o, s.heap.get? b = some o → b ≠ T → (s.heap.update T (Obj.mapFields (·.setIfInBounds 3 ((none : Option Addr).elim Value.none fun f => rawInt f)))).get? b = some o := fun b o hb nb => by
    rw [Heap.get?_update_other _ _ nb.symm]
    exact hb
  exact wpAny_setField hT hdT z3 (q _ oth ⟨vs, _, _, oth e _ he nT.symm, hd, h1, nT, Heap.get?_update_self _ hT (Obj.isFreed_of_fields d4), d4, by simp [z3]⟩)
end
end TE
namespace TE
open PySem PySem.Builtin
section
variable {pg : Program} {wo : World} {Ar : Around} {Er : Value → Shared → Prop} {m : Heap} {gs : Array GenState} {dr : Drawn} {k : Nat} {sy : OsState} {C Y x p : Addr} {tl : List Value} {mC mY f : Str → Option Value} {n : Str} {v : Value} {o : Obj}
theorem get_in {tk : Tok} {Q : PySem.Fin → Shared → Prop} (T : Two m C Y "ValueError" tl mC mY) (n1 : mC n = none) (n2 : mY n = none) (n3 : typeLookup (.type "ValueError") n = pure none) (hx : m.get? x = some o) (hc : o.cls = .ref C) (nc : ∀ c, o.data ≠ .cls c) (hd : o.dict = some p) (e : m.Ns1 p f) (hv : f n = some v)
    (q : Q (.done (.ret v)) ⟨m, gs, dr, k, sy⟩) : wpAny (model pg wo) Ar (Builtin.«object.__getattribute__» ⟨[.ref x, .str n tk], []⟩) Q Er ⟨m, gs, dr, k, sy⟩ := by
  obtain ⟨nm, qn, N, bs, sn, sub, ab, col, dd, k0, k1, k2, k3, k5, nw, cl, ns⟩ := T.lo
  unfold Builtin.«object.__getattribute__»
  repeat any_goals first
    | assumption
    | (with_reducible refine wpAny_loadPart_at hx ?_; rw [hc])
    | (with_reducible refine T.look n1 n2 n3 ?_)
    | wp_step
  split
  · rename_i c z
    exact absurd z (nc c)
  · unfold instanceDict
    repeat any_goals first
      | assumption
      | (with_reducible refine wpAny_loadPart_at hx ?_; first | rw [hd] | rw [hc])
      | (with_reducible refine wpAny_isSubtype_exc cl ?_)
      | wp_step
    rw [hc]
    repeat any_goals first
      | assumption
      | (with_reducible refine wpAny_loadPart_at cl ?_)
      | (change wpAny _ _ (nsGet p n) _ _ _; refine wpAny_nsGet e.ns ?_; rw [hv])
      | wp_step
    all_goals exact q
theorem get_ready {w1 : Value} {Q : Unit → Shared → Prop} (T : Two m C Y "ValueError" tl mC mY) (hb : tl.contains (.type "BaseException") = true) (hx : m.get? x = some o) (hc : o.cls = .ref C) (q : Q () ⟨m, gs, dr, k, sy⟩) : wpAny (model pg wo) Ar (checkBuiltinCall "BaseException.__getattribute__" ⟨[.ref x, w1], []⟩) Q Er ⟨m, gs, dr, k, sy⟩ := by
  obtain ⟨nm, qn, N, bs, sn, sub, ab, col, dd, k0, k1, k2, k3, k5, nw, cl, ns⟩ := T.lo
  have sb : (Value.ref C :: .ref Y :: tl).contains (.type "BaseException") = true := by
    rw [List.contains_cons, List.contains_cons, hb, Bool.or_true, Bool.or_true]
  have k1' : builtinKind "BaseException.__getattribute__" = some .slot := by decide +kernel
  have k2' : splitId "BaseException.__getattribute__" = some ("BaseException", "__getattribute__") := by decide +kernel
  have ar := F.args_bexc_ga (.ref x) w1
  simp only [checkBuiltinCall, k1', k2']
  apply wpAny_bind
  unfold isInstance
  repeat first
    | (with_reducible refine wpAny_loadPart_at hx ?_; rw [hc])
    | (with_reducible refine wpAny_isSubtype_exc cl ?_; rw [sb])
    | wp_step
  exact q
theorem get_field {ex : Bool} {Q : Value → Shared → Prop} (T : Two m C Y "ValueError" tl mC mY) (hb : tl.contains (.type "BaseException") = true) (g1 : mC "__getattribute__" = none) (g2 : mY "__getattribute__" = none) (h1 : mC "__getattr__" = none) (h2 : mY "__getattr__" = none) (hh : handedOut v = pure v) (n1 : mC n = none) (n2 : mY n = none) (n3 : typeLookup (.type "ValueError") n = pure none) (hx : m.get? x = some o) (hc : o.cls = .ref C) (nc : ∀ c, o.data ≠ .cls c) (hd : o.dict = some p) (e : m.Ns1 p f) (hv : f n = some v)
    (q : Q v ⟨m, gs, dr, k + 1, sy⟩) : wpAny (model pg wo) Ar (getAttr (.ref x) n ex) Q Er ⟨m, gs, dr, k, sy⟩ := by
  have fa := F.attr_ValueError
  have bd := fa.ga.bind (.ref x)
  have x0 : (ex && onTheHeap (Value.builtin "BaseException.__getattribute__")) = false := by cases ex <;> rfl
  have x2 : (Value.builtin "BaseException.__getattribute__" == Value.builtin "object.__getattribute__") = false := by decide +kernel
  have x1 : (onTheHeap (Value.ref C) && Value.builtin "BaseException.__getattribute__" == Value.builtin "object.__getattribute__") = false := by rw [x2]; rfl
  unfold getAttr
  repeat any_goals first
    | assumption
    | (with_reducible refine wpAny_loadPart_at hx ?_; rw [hc])
    | (with_reducible refine T.look g1 g2 fa.ga.lookup ?_)
    | (with_reducible refine T.look h1 h2 F.attrBase_ValueError.noGetattr ?_)
    | wp_step
  refine codeAny_call_builtin fa.ga.plain F.entry_bexc_ga (get_ready T hb hx hc (get_in T n1 n2 n3 hx hc nc hd e hv ?_))
  repeat any_goals first
    | assumption
    | wp_step
  try (rw [hh]; exact wpAny_pure q)
end
end TE
namespace L2
open PySem PySem.Spec PyProof.Rows
def XAt (n : Nat) (H : Hp) (h : Heap) (x C : Addr) (od : Option Addr) : Prop := ∃ oe t, TE.Tr h x oe t ∧ oe.cls = .ref C ∧ oe.dict = od ∧ n ≤ x ∧ H x = none ∧ ∀ T, t = some T → n ≤ T ∧ H T = none
def Leaves (X : Cx) (E : XK) : Prop := ∀ {pins : List (Addr × Obj)} {σ : St} {H : Hp} {s : Shared} {x C : Addr} {od : Option Addr} {N : Nat}, Inv X pins σ H s → X.s₀.heap.objs.size ≤ N → (∀ p ∈ X.pn ++ pins, p.1 < N) → XAt N H s.heap x C od → E (.ref C) od H → X.xe (.ref x) s
end L2
namespace L2
open PySem PySem.Spec PyProof.Rows
noncomputable abbrev Tab.w (Θ : Tab) (E : XK) : Tab := { Θ with x := E }
end L2
namespace L2
open PySem PySem.Spec PyProof.Rows
noncomputable abbrev tlV : List Value := [.type "ValueError", .type "Exception", .type "BaseException", .type "object"]
def BareX (C x p : Addr) (h : Heap) : Prop := h.get? x = some (TE.bare C p)
def DictX (C x p dx : Addr) (h : Heap) : Prop := h.get? x = some { TE.bare C p with dict := some dx }
structure XCls (K : PySem.W.Frag) (C Y fi : Addr) (mC mY : Str → Option Value) : Prop where
  two : ∀ h : Heap, K.In h → TE.Two h C Y "ValueError" tlV mC mY
  cl : ∀ h : Heap, K.In h → TE.Cl h C fi "ValueError" "ValueError.__new__" "ValueError.__init__" tlV
  s1 : mC "__setattr__" = none
  s2 : mY "__setattr__" = none
section
variable {X : Cx} {pins : List (Addr × Obj)} {σ : St} {H : Hp} {s : Shared}
def dn (H : Hp) (x : Addr) : Hp := fun b => if b = x then none else H b
theorem dn_at (H : Hp) (x : Addr) : dn H x x = none := if_pos rfl
theorem dn_ne {H : Hp} {x b : Addr} (h : b ≠ x) : dn H x b = H b := if_neg h
theorem dn_none {H : Hp} {x b : Addr} (h : H b = none) : dn H x b = none := by
  unfold dn
  split
  · rfl
  · exact h
theorem Inv.drop {x : Addr} {φ : Heap → Prop} (I : Inv X pins σ H s) (e : H x = some (.ext φ)) : Inv X pins σ (dn H x) s := by
  have ne : ∀ {b u}, H b = some u → (∀ φ, u ≠ .ext φ) → b ≠ x := fun {b u} q n z => by
    rw [z, e] at q
    cases q
    exact n _ rfl
  refine ⟨I.ok, I.os, I.bare, ⟨I.base.keep, I.base.slot, fun b ob q n hx => dn_none (I.base.free b ob q n hx), I.base.there, fun b xs q => ?_, fun b ob u q => ?_, fun b ps q => ?_⟩, I.loc, I.cell, dn_none I.free, fun y c q => dn_none (I.freeC y c q), fun p hp => ?_, fun b u q => ?_, I.len, I.tk⟩
  · have z := I.base.tups b xs q
    rw [dn_ne (ne z fun _ => nofun)]; exact z
  · have z := I.base.frzs b ob u q
    rw [dn_ne (ne z fun _ => nofun)]; exact z
  · obtain ⟨mo, z⟩ := I.base.tbls b ps q
    exact ⟨mo, by rw [dn_ne (ne z fun _ => nofun)]; exact z⟩
  · obtain ⟨a1, a2, a3⟩ := I.pin p hp
    exact ⟨a1, dn_none a2, a3⟩
  · have nb : b ≠ x := fun z => by rw [z, dn_at] at q; cases q
    rw [dn_ne nb] at q
    exact (I.hok b u q).stay (fun _ _ _ z => z) (fun c z => by rw [dn_ne (ne z fun _ => nofun)]; exact z) fun c xs z => by rw [dn_ne (ne z fun _ => nofun)]; exact z
end
section
variable {X : Cx} {C Y fi : Addr} {mC mY : Str → Option Value} {f : Str} {o value : Expr} {pos pos' : Pos} {ta tv : TE}
def sXset (C : Addr) (f : Str) (ta tv : TE) : TS := fun D σ H => tv σ H fun y H1 => ta σ H1 fun x H2 => ∃ a p, x = .ref a ∧ H2 a = some (.ext (BareX C a p)) ∧ ∀ dx, H2 dx = none → dx ≠ a → D.nx σ (upd (upd H2 a (.ext (DictX C a p dx))) dx (.xd [(f, y)]))
theorem ps_xset (xc : XCls X.K C Y fi mC mY) (n1 : mC f = none) (n2 : mY f = none) (n3 : typeLookup (.type "ValueError") f = pure none) (ha : PE X o ta) (hv : PE X value tv) (hs : swapsWith value (some (.Attribute o f pos')) pos.line X.env = pure false) :
    PS X (.Assign [.Attribute o f pos'] value pos) (sXset C f ta tv) := by
  intro pins s σ H D I h
  refine plainObj_wpAny_Assign_Attribute (thn5 (hv pins s σ H _ I h) fun u s1 y H1 I1 ry q1 => thn5 (ha pins s1 σ H1 _ I1 q1) fun ov s2 x H2 I2 rx ⟨a, p, ex, ea, q2⟩ => ?_) hs
  subst ex
  obtain rfl : ov = Value.ref a := rx
  have hb : BareX C a p s2.heap := (I2.hok a _ ea).1
  have t0 := I2.tk
  refine wpAny_with_toks (n := s2.toks) (Nat.le_refl _) ?_
  obtain ⟨m, gs, dr, k, sy⟩ := s2
  have lt : a < m.objs.size := Heap.lt_size hb
  have hn : H2 m.objs.size = none := I2.hok.fresh (Nat.le_refl _)
  refine TE.set_field_new (xc.two m I2.kIn) PySem.F.store_ValueError xc.s1 xc.s2 n1 n2 n3 hb rfl (fun c z => by cases z) rfl fun m' k' e1 e2 e3 tk => ?_
  have nd : m.objs.size ≠ a := Nat.ne_of_gt lt
  have Ia : Inv X pins σ (upd H2 a (.ext (DictX C a p m.objs.size))) { (⟨m, gs, dr, k, sy⟩ : Shared) with heap := m', toks := k' } := I2.write (mut_ext ea) (.inl rfl) e3 ⟨_, e1⟩ ⟨e1, ⟨_, e1⟩, fun h1 h2 z1 z2 => z2 _ z1⟩ (Nat.lt_of_lt_of_le t0 tk)
  have hn' : upd H2 a (.ext (DictX C a p m.objs.size)) m.objs.size = none := by rw [upd_ne nd]; exact hn
  have Ib : Inv X pins σ (upd (upd H2 a (.ext (DictX C a p m.objs.size))) m.objs.size (.xd [(f, y)])) { (⟨m, gs, dr, k, sy⟩ : Shared) with heap := m', toks := k' } :=
    Ia.track I2.sz hn' (fun z => by
      have := I2.lt
      rw [← z] at this
      exact Nat.lt_irrefl _ this) (fun y c e => by obtain ⟨v, hv⟩ := I2.cell y c e; exact Nat.ne_of_lt hv.lt) (fun q hq => Nat.ne_of_lt (Heap.lt_size (I2.pin q hq).1))
      ⟨_, e2, fun g => by
        by_cases z : g = f
        · subst z
          rw [if_pos rfl, show ([(g, y)] : List (Str × V)).lookup g = some y by simp]
          exact ry
        · rw [if_neg z, show ([(f, y)] : List (Str × V)).lookup g = none by simp [List.lookup_cons, beq_eq_false_iff_ne.mpr z]]
          trivial⟩
  exact ⟨σ, _, Ib, q2 _ hn nd⟩
end
end L2
namespace L2
open PySem PySem.Spec PyProof.Rows
def spI (C : Addr) (f : Str) : Sp := fun vs H Q _ => ∃ x p y, vs = [.ref x, y] ∧ H x = some (.ext (BareX C x p)) ∧ ∀ dx, H dx = none → dx ≠ x → Q .non (upd (upd H x (.ext (DictX C x p dx))) dx (.xd [(f, y)]))
theorem init_ok {P : Program} {w : World} {K : PySem.W.Frag} {mg : Str → Option Value} {base : Heap} {qual : Str} {st : Stmt} {f fi : Addr} {fd : FuncData} {a b n : Str} {C Y : Addr} {mC mY : Str → Option Value} {p1 p2 pos pos' : Pos} (F : Fun K "__init__" qual st f fd) (Sc : FnScope [a, b] [a, b] (defScope st))
    (hb : defBody st = [.Assign [.Attribute (.Name a p1) n pos'] (.Name b p2) pos]) (xc : XCls K C Y fi mC mY) (n1 : mC n = none) (n2 : mY n = none) (n3 : typeLookup (.type "ValueError") n = pure none)
    (v1 : Vis (defScope st) a) (v2 : Vis (defScope st) b) (d1 : (a == ("__debug__" : Str)) = false) (d2 : (b == ("__debug__" : Str)) = false) (c1 : (a == ("__classdict__" : Str)) = false) (c2 : (b == ("__classdict__" : Str)) = false)
    (hs : ∀ (cdv : Value) (loc : Addr), swapsWith (.Name b p2) (some (.Attribute (.Name a p1) n pos')) pos.line (envOfC qual (defScope st) loc f cdv) = pure false) : FnOk P w K mg base CX0 1 f fd [a, b] (spI C n) := by
  refine F.ok (k := 0) Sc (fun vs H Q E h => ?_) (fun cdv A outer s H vs Q E hr h => ?_)
  · obtain ⟨x, p, y, rfl, _⟩ := h
    rfl
  · obtain ⟨x, p, y, rfl, e, q⟩ := h
    rw [hb]
    refine ⟨sXset C n (tVar 0) (tVar 1), pss_one (ps_xset xc n1 n2 n3 (pe_var rfl v1 d1 c1) (pe_var rfl v2 d2 c2) (hs cdv _)), ?_⟩
    exact ⟨y, rfl, .ref x, rfl, x, p, rfl, e, q⟩
end L2
namespace L2
open PySem PySem.Spec PyProof.Rows
def tRaise (C : Addr) (n : Str) (E : XK) (t : TA) : TS := fun _ σ H => t σ H fun vs H1 => ∃ y, vs = [y] ∧ ∀ dx, H1 dx = none → E (.ref C) (some dx) (upd H1 dx (.xd [(n, y)]))
theorem ps_raise {X : Cx} {E : XK} {C Y fi : Addr} {mC mY : Str → Option Value} {n x : Str} {k : Nat} {fd : FuncData} {ps : List Str} {e : Expr} {es : List Expr} {t : TA} {np cp pos : Pos} (W : Leaves X E) (hc : X.calm = true) (xc : XCls X.K C Y fi mC mY) (F : FnOk X.prog X.w X.K X.mg X.base CX0 k fi fd ps (spI C n)) (hr : Room (k + 1) X.A) (hb : Binds X.K fd ps []) (hg : Gl X x) (hm : X.mg x = some (.ref C)) (ha : PA X (e :: es) t) (hdb : (x == ("__debug__" : Str)) = false := by decide)
    (he : starEach (e :: es) X.env = (false, eval e X.env) :: starEach es X.env := by rfl) (hpl : (backTo cp (starEach (e :: es) X.env)).any (·.1) = false := by rfl) : PS X (.Raise (some (.Call (.Name x np) (e :: es) [] cp)) none pos) (tRaise C n E t) := by
  intro pins s σ H D I h
  refine TE.raise_call (fi := fi) PySem.F.excBase_ValueError (I.ok.hd hc) hpl (ld_glob I hg hm ⟨rfl, ?_⟩ hdb)
  have ha' := ha cp pins s σ H _ I h
  rw [he] at ha' ⊢
  refine Calls.evalArgs_plain (thn ha' fun us s1 ⟨vs, H1, I1, r, y, hv, q⟩ => ?_)
  subst hv
  obtain ⟨u, rfl, ru⟩ := vals1 r
  refine ⟨rfl, by rw [sizeLine_eq]; simp, xc.cl s1.heap I1.kIn, ?_⟩
  have xn : H1 (s1.heap.objs.size + 1) = none := I1.hok.fresh (Nat.le_succ _)
  have hl := TE.laid_new (m := s1.heap) (C := C) (us := [u])
  have I2 : Inv X pins σ (upd H1 (s1.heap.objs.size + 1) (.ext (BareX C (s1.heap.objs.size + 1) s1.heap.objs.size))) { s1 with heap := TE.laid s1.heap C [u], toks := s1.toks } :=
    I1.laid (fun b ob q => TE.laid_old q) (Nat.le_succ _) ⟨hl, ⟨_, hl⟩, fun h1 h2 z1 z2 => z2 _ z1⟩
  obtain ⟨xa, hxa⟩ : ∃ xa, xa = s1.heap.objs.size + 1 := ⟨_, rfl⟩
  rw [← hxa] at I2 xn hl ⊢
  have hlen : ([.ref xa, u] : List Value).length = ps.length := by
    have := F.len [.ref xa, y] (upd H1 xa (.ext (BareX C xa s1.heap.objs.size))) (fun _ _ => True) E0 ⟨xa, s1.heap.objs.size, y, rfl, upd_same, fun _ _ _ => trivial⟩
    rw [← this]; rfl
  have run := F.run (X.A.under (.builtin "type.__call__" ⟨.ref C :: [u], []⟩)) X.stack _ _ ⟨[.ref xa, u], []⟩ [.ref xa, u] [.ref xa, y] (fun v H3 => v = .non ∧ ∃ dx, H1 dx = none ∧ dx ≠ xa ∧ H3 = upd (upd (upd H1 xa (.ext (BareX C xa s1.heap.objs.size))) xa (.ext (DictX C xa s1.heap.objs.size dx))) dx (.xd [(n, y)])) E0 (hr.make C [u] []) (I2.env0.make C [u] []) (.inl I2.tk)
    (by have := hb { s1 with heap := TE.laid s1.heap C [u], toks := s1.toks } [.ref xa, u] I2.kIn (by rw [List.append_nil]; exact hlen); rwa [List.append_nil] at this) (.cons rfl (.cons ru .nil))
    ⟨xa, s1.heap.objs.size, y, rfl, upd_same, fun dx h0 hne => ⟨rfl, dx, by rwa [upd_ne hne] at h0, hne, rfl⟩⟩
  refine wpAny_call (codeAny_mono (codeAny_toks_of (n := 1) I2.tk run) fun res s' ⟨htk, hq⟩ => ?_)
  cases res with
  | error e => exact False.elim hq
  | ok fl =>
    cases fl with
    | ret v =>
      obtain ⟨v', H3, I3, rv, hv', dx, h0, hne, hH⟩ := I2.after hq htk
      subst hv'
      have e3 : H3 xa = some (.ext (DictX C xa s1.heap.objs.size dx)) := by rw [hH, upd_ne hne.symm, upd_same]
      have ob : DictX C xa s1.heap.objs.size dx s'.heap := (I3.hok xa _ e3).1
      have hdn : dn H3 xa = upd H1 dx (.xd [(n, y)]) := by
        funext b
        by_cases z : b = xa
        · rw [z, dn_at, upd_ne hne.symm, xn]
        · rw [dn_ne z, hH]
          by_cases z2 : b = dx
          · rw [z2, upd_same, upd_same]
          · rw [upd_ne z2, upd_ne z2, upd_ne z, upd_ne z]
      refine ⟨rv, ?_, ⟨some dx, #[], s1.heap.objs.size, ob⟩, ?_⟩
      · obtain ⟨nm, q, N, bs, sn, sub, ab, col, dd, k0, k1, k2, k3, k5, nw, cl, _⟩ := (xc.two s'.heap I3.kIn).lo
        exact ⟨nm, q, N, bs, _, true, sn, sub, ab, col, dd, k0, k1, k2, k3, k5, nw, cl, by simp⟩
      · have I4 := I3.drop e3
        rw [hdn] at I4
        refine W I4 I1.sz (fun p hp => Heap.lt_size (I1.pin p hp).1) ⟨_, none, ⟨_, ob, rfl, rfl⟩, rfl, rfl, ?_, ?_, fun T z => by cases z⟩ (q dx h0)
        · rw [hxa]; exact Nat.le_succ _
        · rw [upd_ne hne.symm]; exact xn
    | next => exact False.elim hq
    | brk => exact False.elim hq
    | cont => exact False.elim hq
end L2
namespace L2
open PySem PySem.Spec PyProof.Rows
section
variable {X : Cx} {Θ : Tab} {E : XK}
theorem ms_raise {C Y fi : Addr} {mC mY : Str → Option Value} {n x : Str} {k c : Nat} {fd : FuncData} {ps : List Str} {e : Expr} {es : List Expr} {m : M.AM} {np cp pos : Pos} (W : Leaves X E) (hc : X.calm = true) (xc : XCls X.K C Y fi mC mY) (F : FnOk X.prog X.w X.K X.mg X.base CX0 k fi fd ps (spI C n)) (hΘ : Θ c = some (C, [n])) (hr : Room (k + 1) X.A) (hb : Binds X.K fd ps []) (hg : Gl X x) (hm : X.mg x = some (.ref C)) (ha : MA X (Θ.w E) (e :: es) m) (ar : Arity m 1) (hdb : (x == ("__debug__" : Str)) = false := by decide)
    (he : notStar e = true := by rfl) (hpl : (backTo cp (starEach (e :: es) X.env)).any (·.1) = false := by rfl) : MS X (Θ.w E) (.Raise (some (.Call (.Name x np) (e :: es) [] cp)) none pos) (M.sRaise c m) :=
  (ps_raise W hc xc F hr hb hg hm ha hdb (star_cons he) hpl).up fun D σ H ρ σ' S st rp h => ⟨ρ, σ', S, st, rp, by
    have h' : PostS X.K (Θ.w E) ρ H ((m σ' S).stm σ' fun xs s => .exc (.tup (.int c :: xs)) σ' s) D := h
    cases hm : m σ' S with
    | no => rw [hm] at h'; exact h'.elim
    | exc a s => rw [hm] at h'; exact (show PostX X.K (Θ.w E) ρ H a s from h')
    | ok ds S1 =>
      rw [hm] at h'
      have h2 : PostX X.K (Θ.w E) ρ H (.tup (.int c :: ds)) S1 := h'
      intro ρ1 H1 vs p1 l1 rp1 r1
      have l := ar _ _ _ _ hm
      have l2 := r1.length
      obtain ⟨d, rfl⟩ := List.length_eq_one_iff.mp l
      obtain ⟨y, rfl⟩ := List.length_eq_one_iff.mp l2.symm
      refine ⟨y, rfl, fun dx h0 => ?_⟩
      have le := Le.new h0 (.xd [(n, y)])
      exact h2 ρ1 _ C (some dx) p1 (l1.trans le) (rp1.aside h0 _) ⟨c, [d], [n], rfl, hΘ, .inr ⟨dx, [y], rfl, upd_same, rfl, r1.mono (List.prefix_refl _) le⟩⟩⟩
end
section
variable {X : Cx} {pins : List (Addr × Obj)} {σ : St} {H : Hp} {s : Shared} {x : Addr} {oe : Obj} {t : Option Addr}
theorem Inv.gone0 {m' : Heap} (I : Inv X pins σ H s) (st : X.stack = X.env :: X.outer) (fr : X.env.frame = some X.env.locals) (tr : TE.Tr s.heap x oe t) (h0 : X.s₀.heap.objs.size ≤ x) (hx : H x = none) (ht : ∀ T, t = some T → X.s₀.heap.objs.size ≤ T ∧ H T = none)
    (px : ∀ p ∈ X.pn ++ pins, p.1 ≠ x ∧ t ≠ some p.1)
    (far : ∀ b o, s.heap.get? b = some o → b ≠ x → t ≠ some b → b ∉ frs (X.env :: X.outer) → m'.get? b = some o) (fra0 : ∀ b o, s.heap.get? b = some o → b ≠ x → t ≠ some b → b ∈ frs (X.env :: X.outer) → ∃ sl, m'.get? b = some { o with slots := sl }) : Inv X pins σ H { s with heap := m' } := by
  have fre := I.stkFree
  rw [st] at fre
  obtain ⟨ve, ge, de, _⟩ := tr.at
  have isF : ∀ b o, s.heap.get? b = some o → (∀ vs, o.data ≠ .fields vs) → b ≠ x ∧ t ≠ some b := fun b o hb nf => by
    refine ⟨fun z => ?_, fun z => ?_⟩
    · rw [z, ge] at hb; cases hb; exact nf ve de
    · rw [z] at tr
      obtain ⟨_, ot, ts, _, _, _, _, gT, dT, _⟩ := tr
      rw [gT] at hb; cases hb; exact nf ts dT
  have fra : ∀ b o, s.heap.get? b = some o → b ≠ x → t ≠ some b → ∃ sl, m'.get? b = some { o with slots := sl } := fun b o hb n1 n2 => by
    by_cases hf : b ∈ frs (X.env :: X.outer)
    · exact fra0 b o hb n1 n2 hf
    · exact ⟨o.slots, far b o hb n1 n2 hf⟩
  have L0 : X.s₀.heap.objs.size ≤ X.env.locals := I.ok.above
  have frm : ∀ b, b ∈ frs (X.env :: X.outer) → b = X.env.locals ∨ b ∈ frs X.outer := fun b hb => by
    unfold frs at hb
    rw [List.filterMap_cons, fr] at hb
    exact List.mem_cons.mp hb
  have young : ∀ b o, X.s₀.heap.get? b = some o → b ≠ x ∧ t ≠ some b ∧ b ≠ X.env.locals := fun b o hb => by
    have := Heap.lt_size hb
    exact ⟨Nat.ne_of_lt (Nat.lt_of_lt_of_le this h0), fun z => Nat.lt_irrefl _ (Nat.lt_of_lt_of_le this (ht b z).1), Nat.ne_of_lt (Nat.lt_of_lt_of_le this L0)⟩
  have tracked : ∀ b u, H b = some u → ∀ o, s.heap.get? b = some o → m'.get? b = some o := fun b u e o hb => far b o hb (fun z => by rw [z, hx] at e; cases e) (fun z => by rw [(ht b z).2] at e; cases e) fun z => by rw [fre b z] at e; cases e
  have cellK : ∀ c v, s.heap.IsCell c v → m'.IsCell c v := fun c v zq => by
    obtain ⟨o, ho, hd⟩ := zq
    obtain ⟨n1, n2⟩ := isF c o ho fun vs z => by rw [hd] at z; cases z
    obtain ⟨sl, e⟩ := fra c o ho n1 n2
    exact ⟨_, e, hd⟩
  refine ⟨I.ok, I.os, I.bare, ⟨?_, ?_, I.base.free, ?_, I.base.tups, I.base.frzs, I.base.tbls⟩, ?_, ?_, I.free, I.freeC, fun p hp => ?_, fun b u e => ?_, I.len, I.tk⟩
  · intro b o hb n nf hxx
    obtain ⟨y1, y2, y3⟩ := young b o hb
    exact far b o (I.base.keep b o hb n nf hxx) y1 y2 fun z => (frm b z).elim y3 nf
  · intro b o hb n hf hxx
    obtain ⟨y1, y2, y3⟩ := young b o hb
    obtain ⟨sl, e1⟩ := I.base.slot b o hb n hf hxx
    obtain ⟨sl', e2⟩ := fra b _ e1 y1 y2
    exact ⟨sl', e2⟩
  · intro b o hb hxx
    obtain ⟨y1, y2, y3⟩ := young b o hb
    obtain ⟨o', e1⟩ := I.base.there b o hb hxx
    obtain ⟨sl, e2⟩ := fra b o' e1 y1 y2
    exact ⟨_, e2⟩
  · obtain ⟨m, ⟨o, es, ep, ho, hd, r⟩, lk⟩ := I.loc
    obtain ⟨n1, n2⟩ := isF _ o ho fun vs z => by rw [hd] at z; cases z
    obtain ⟨sl, e2⟩ := fra _ o ho n1 n2
    refine ⟨m, ⟨_, es, ep, e2, hd, r⟩, fun i y v a1 a2 a3 => ?_⟩
    obtain ⟨u, b1, b2⟩ := lk i y v a1 a2 a3
    refine ⟨u, b1, ?_⟩
    rcases b2 with b2 | ⟨b2, c, b3, b4⟩
    · exact .inl b2
    · exact .inr ⟨b2, c, b3, cellK c _ b4⟩
  · intro y c e
    obtain ⟨v, hv⟩ := I.cell y c e
    exact ⟨v, cellK c v hv⟩
  · obtain ⟨a1, a2, a3, a4, a5⟩ := I.pin p hp
    obtain ⟨n1, n2⟩ := px p hp
    refine ⟨far p.1 p.2 a1 n1 n2 fun z => (frm p.1 z).elim a3 a4, a2, a3, a4, a5⟩
  · refine (I.hok b u e).stay (fun c v hc hv => ?_) (fun _ z => z) fun _ _ z => z
    rcases hc with rfl | hc
    · exact tracked _ u e v hv
    · exact tracked c _ hc v hv
theorem Inv.gone {m' : Heap} (I : Inv X pins σ H s) (st : X.stack = X.env :: X.outer) (fr : X.env.frame = some X.env.locals) (tr : TE.Tr s.heap x oe t) (h0 : X.s₀.heap.objs.size ≤ x) (hx : H x = none) (ht : ∀ T, t = some T → X.s₀.heap.objs.size ≤ T ∧ H T = none)
    (px : ∀ p ∈ X.pn ++ pins, p.1 ≠ x ∧ t ≠ some p.1) (g : TE.Gone (X.env :: X.outer) x t oe s.heap m') : Inv X pins σ H { s with heap := m' } := I.gone0 st fr tr h0 hx ht px g.far g.fra
end
end L2
namespace L2
open PySem PySem.Spec PyProof.Rows
section
variable {X : Cx} {pins : List (Addr × Obj)} {σ : St} {H : Hp} {s : Shared} {xe : Value → Shared → Prop}
theorem goes_ok {M : Model} {A : Around} {E : Value → Shared → Prop} {j : Nat} {x : Str} {pos : Pos} {Q : Unit → Shared → Prop} (I : Inv X pins σ H s) (hN : X.N.Nodup) (hi : X.N[j]? = some x) (hk : X.env.scope.names.lookup x = some .local)
    (h : ∀ s', Inv X pins (σ.set j none) H s' → Q () s') : wpAny M A (do bindName X.env x .none; unbindBehindTheSuite X.env x pos) Q E s := by
  obtain ⟨m, hn, hl⟩ := id I.loc
  have hcls : (X.env.scope.kind == .class || (X.env.scope.kind == .module && X.env.locals != X.env.globals)) = false := by rw [I.ok.kind]; rfl
  have hjσ : j < σ.length := by rw [I.len]; exact (List.getElem?_eq_some_iff.mp hi).1
  have cne := I.cne
  refine wpAny_nameGoes_keeps hk hn hcls fun h' v hn' hs => ?_
  refine h _ ⟨I.ok, I.os, I.bare, ⟨fun b o e n hb hx => ?_, fun b o e n hb hx => ?_, I.base.free, fun b o e hx => ?_, I.base.tups, I.base.frzs, I.base.tbls⟩, ⟨_, hn', fun i y v' e1 e2 e3 => ?_⟩, fun y c e => ?_, I.free, I.freeC, fun p hp => ?_, fun b ob e => ?_, by simpa using I.len, Nat.succ_pos _⟩
  · exact (hs.2 b (Nat.ne_of_lt (Nat.lt_of_lt_of_le (Heap.lt_size e) I.ok.above))).trans (I.base.keep b o e n hb hx)
  · obtain ⟨sl, e1⟩ := I.base.slot b o e n hb hx
    exact ⟨sl, (hs.2 b (Nat.ne_of_lt (Nat.lt_of_lt_of_le (Heap.lt_size e) I.ok.above))).trans e1⟩
  · obtain ⟨o', e1⟩ := I.base.there b o e hx
    exact ⟨o', (hs.2 b (Nat.ne_of_lt (Nat.lt_of_lt_of_le (Heap.lt_size e) I.ok.above))).trans e1⟩
  · by_cases hj : i = j
    · subst hj
      rw [List.getElem?_set_self hjσ] at e2
      cases e2
    · rw [List.getElem?_set_ne (Ne.symm hj)] at e2
      obtain ⟨u', r', q⟩ := hl i y v' e1 e2 e3
      refine ⟨u', r', ?_⟩
      rcases q with ⟨k, e⟩ | ⟨k, c, e, z⟩
      · refine .inl ⟨k, ?_⟩
        have : y ≠ x := fun e => hj (nodup_ix hN e1 (e ▸ hi))
        simp [this, e]
      · exact .inr ⟨k, c, e, z.sameBut hs (cne y c e)⟩
  · obtain ⟨w', z⟩ := I.cell y c e
    exact ⟨w', z.sameBut hs (cne y c e)⟩
  · obtain ⟨e, n, ne, nf, d⟩ := I.pin p hp
    exact ⟨(hs.2 p.1 ne).trans e, n, ne, nf, d⟩
  · refine (I.hok b ob e).stay (fun c w' hc q => (hs.2 c ?_).trans q) (fun _ q => q) fun _ _ q => q
    rintro rfl
    have fr := I.free
    rcases hc with z | hc
    · rw [← z, fr] at e; cases e
    · rw [fr] at hc; cases hc
end
theorem handed_pure {v : V} {u : Value} (r : RelV v u) : handedOut u = pure u := by
  have h := handed_of r
  cases u <;> first | rfl | (unfold PySem.W.handedIn at h; simp_all [handedOut])
end L2
namespace L2
open PySem PySem.Spec PyProof.Rows
theorem ObR.w {K : PySem.W.Frag} {Θ : Tab} {E : XK} {ρ : List Addr} {H : Hp} {a : Addr} {o : M.O} : ObR K (Θ.w E) ρ H a o ↔ ObR K Θ ρ H a o := by cases o <;> exact Iff.rfl
theorem RepS.w {K : PySem.W.Frag} {Θ : Tab} {E : XK} {ρ : List Addr} {S : M.S} {H : Hp} (h : RepS K Θ ρ S H) : RepS K (Θ.w E) ρ S H := ⟨h.len, h.nd, fun i o e => let ⟨a, x, y⟩ := h.obj i o e; ⟨a, x, ObR.w.mpr y⟩⟩
theorem RepS.unw {K : PySem.W.Frag} {Θ : Tab} {E : XK} {ρ : List Addr} {S : M.S} {H : Hp} (h : RepS K (Θ.w E) ρ S H) : RepS K Θ ρ S H := ⟨h.len, h.nd, fun i o e => let ⟨a, x, y⟩ := h.obj i o e; ⟨a, x, ObR.w.mp y⟩⟩
end L2
namespace L2
open PySem PySem.Spec PyProof.Rows
noncomputable def isS : Value → Bool
  | .str _ _ => true
  | _ => false
def xStrs (K : PySem.W.Frag) (N : Addr) : Bool := match K.lookup N with
  | some ⟨_, _, .dict es _, _⟩ => es.toList.all fun e => isS e.key
  | _ => false
noncomputable def xNo (K : PySem.W.Frag) (N : Addr) (n : Str) : Bool := match PySem.W.nsIn K N n with
  | some none => true
  | _ => false
noncomputable def xNames (f : Str) : List Str := ["__setattr__", "__getattribute__", "__getattr__", f]
def xIn (K : PySem.W.Frag) (C Y fi : Addr) (f : Str) : Bool := match K.lookup C, K.lookup Y with
  | some ⟨cl, _, .cls cd, sl⟩, some ⟨_, _, .cls cy, _⟩ => cl == .type "type" && cd.mro == .ref C :: .ref Y :: tlV && sl == #[sl.getD 0 none, sl.getD 1 none, sl.getD 2 none, sl.getD 3 none, some (.builtin "ValueError.__new__"), sl.getD 5 none] &&
    !cd.hasDel && cd.hasDict && xStrs K cd.ns && xStrs K cy.ns && (xNames f).all (xNo K cd.ns) && (xNames f).all (xNo K cy.ns) && xNo K cy.ns "__init__" && PySem.W.nsIn K cd.ns "__init__" == some (some (.ref fi)) && (K.lookup fi).any fun o => o.cls == .type "function"
  | _, _ => false
theorem ns_K {K : PySem.W.Frag} {N : Addr} (q : xStrs K N = true) : ∃ m, (∀ h : Heap, K.In h → h.Ns N m) ∧ ∀ n r, PySem.W.nsIn K N n = some r → m n = r := by
  unfold xStrs at q
  split at q
  · rename_i c d es ep sl ho
    refine ⟨nsFind es, fun h X => ⟨_, es, ep, X _ _ ho, rfl, fun e he => ?_, fun _ => rfl⟩, fun n r e => ?_⟩
    · have := List.all_eq_true.mp q e (Array.mem_toList_iff.mpr he)
      cases hk : e.key <;> rw [hk] at this <;> first | exact ⟨_, _, rfl⟩ | cases this
    · obtain ⟨l⟩ := es
      unfold PySem.W.nsIn at e
      rw [ho] at e
      dsimp only at e
      unfold nsFind findBy
      rw [List.find?_toArray]
      split at e
      · rename_i e' h'; rw [h']; exact Option.some.inj e
      · rename_i h'
        rw [h']
        split at e
        · cases e
        · exact Option.some.inj e
  · cases q
theorem xNo_is {K : PySem.W.Frag} {N : Addr} {n : Str} (q : xNo K N n = true) : PySem.W.nsIn K N n = some none := by
  unfold xNo at q
  split at q
  · assumption
  · cases q
structure XAll (K : PySem.W.Frag) (C Y fi : Addr) (mC mY : Str → Option Value) (f : Str) : Prop extends XCls K C Y fi mC mY where
  g1 : mC "__getattribute__" = none
  g2 : mY "__getattribute__" = none
  a1 : mC "__getattr__" = none
  a2 : mY "__getattr__" = none
  n1 : mC f = none
  n2 : mY f = none
theorem xall_of {K : PySem.W.Frag} {C Y fi : Addr} {f : Str} (q : xIn K C Y fi f = true) : ∃ mC mY, XAll K C Y fi mC mY f := by
  unfold xIn at q
  split at q
  · rename_i cl dd cd sl cY dY cy slY ho hY
    simp only [Bool.and_eq_true, Bool.not_eq_true'] at q
    obtain ⟨⟨⟨⟨⟨⟨⟨⟨⟨⟨⟨q1, q2⟩, q3⟩, hdel⟩, hdict⟩, sC⟩, sY⟩, noC⟩, noY⟩, iY⟩, iC⟩, hfi⟩ := q
    cases eq_of_beq q1
    have hm := eq_of_beq q2
    have hs := eq_of_beq q3
    obtain ⟨mC, nC, vC⟩ := ns_K sC
    obtain ⟨mY, nY, vY⟩ := ns_K sY
    have oC : ∀ n ∈ xNames f, mC n = none := fun n hn => vC n none (xNo_is (List.all_eq_true.mp noC n hn))
    have oY : ∀ n ∈ xNames f, mY n = none := fun n hn => vY n none (xNo_is (List.all_eq_true.mp noY n hn))
    have jY : mY "__init__" = none := vY _ none (xNo_is iY)
    have jC : mC "__init__" = some (.ref fi) := vC _ _ (eq_of_beq iC)
    obtain ⟨of, hf, cf⟩ := PySem.W.any_some hfi
    obtain ⟨nm, bs, mro, ns, qn, hd, sn, sub, ab, col, del⟩ := cd
    cases hm
    cases hdel
    cases hdict
    rw [hs] at ho
    have m1 : ("__setattr__" : Str) ∈ xNames f := .head _
    have m2 : ("__getattribute__" : Str) ∈ xNames f := .tail _ (.head _)
    have m3 : ("__getattr__" : Str) ∈ xNames f := .tail _ (.tail _ (.head _))
    have m4 : f ∈ xNames f := .tail _ (.tail _ (.tail _ (.head _)))
    exact ⟨mC, mY, ⟨⟨fun h X => ⟨PySem.F.excBase_ValueError.mroIs, ⟨nm, qn, ns, bs, sn, sub, ab, col, dd, _, _, _, _, _, _, X _ _ ho, nC h X⟩, ⟨cY, dY, cy, slY, X _ _ hY, nY h X⟩⟩, fun h X => ⟨⟨nm, qn, ns, bs, _, true, sn, sub, ab, col, dd, _, _, _, _, _, mC, _, X _ _ ho, nC h X, jC, .own (X _ _ hY) (nY h X) jY .base, X _ _ hf, eq_of_beq cf⟩⟩, oC _ m1, oY _ m1⟩, oC _ m2, oY _ m2, oC _ m3, oY _ m3, oC _ m4, oY _ m4⟩⟩
  · cases q
structure HasE (P : Program) (w : World) (K : PySem.W.Frag) (mg : Str → Option Value) (base : Heap) (C : Addr) (x : Str) (k : Nat) (ps : List Str) (f : Str) : Prop where
  ex : ∃ Y fi fd mC mY, XAll K C Y fi mC mY f ∧ FnOk P w K mg base CX0 k fi fd ps (spI C f) ∧ Binds K fd ps [] ∧ mg x = some (.ref C) ∧ typeLookup (.type "ValueError") f = pure none
section
variable {X : Cx} {Θ : Tab} {E : XK} {C : Addr}
theorem w_ms_raiseE {n x : Str} {k kk c : Nat} {ps : List Str} {e : Expr} {es : List Expr} {m : M.AM} {np cp pos : Pos} (h : HasE X.prog X.w X.K X.mg X.base C x k ps n) (W : Leaves X E) (hc : X.calm = true) (hΘ : Θ c = some (C, [n])) (hr : Room kk X.A) (hk : k + 1 ≤ kk) (hg : Gl X x) (ha : WA X (Θ.w E) (e :: es) m) (ar : Arity m 1) (hdb : (x == ("__debug__" : Str)) = false := by decide)
    (he : notStar e = true := by rfl) (hpl : (backTo cp (starEach (e :: es) X.env)).any (·.1) = false := by rfl) : WS X (Θ.w E) (.Raise (some (.Call (.Name x np) (e :: es) [] cp)) none pos) (M.sRaise c m) := by
  delta WA WS at ha ⊢
  obtain ⟨Y, fi, fd, mC, mY, xa, F, hb, hm, _⟩ := h.ex
  exact ms_raise W hc xa.toXCls F hΘ (hr.mono hk) hb hg hm ha ar hdb he hpl
end
end L2
namespace TE
open PySem PySem.Builtin PySem.Builtin.ObjectAttr
section
variable {pg : Program} {wo : World} {Ar : Around} {Er : Value → Shared → Prop} {m : Heap} {gs : Array GenState} {dr : Drawn} {k : Nat} {sy : OsState} {C Y x : Addr} {B sa ow : String} {tl : List Value} {mC mY : Str → Option Value} {n : Str} {v : Value} {o : Obj}
theorem set_field_old {Q : Unit → Shared → Prop} {p : Addr} {f : Str → Option Value} {ks : List Str} (T : Two m C Y B tl mC mY) (S : StoreFacts B tl sa ow) (s1 : mC "__setattr__" = none) (s2 : mY "__setattr__" = none) (n1 : mC n = none) (n2 : mY n = none) (n3 : typeLookup (.type B) n = pure none)
    (hx : m.get? x = some o) (hc : o.cls = .ref C) (hd : o.dict = some p) (px : p ≠ x) (e : m.Ns1 p f) (wi : Within f ks) (z : ks.length ≤ 100)
    (q : ∀ m' k', m'.Ns1 p (fun y => if y = n then some v else f y) → (∀ b, b ≠ p → m'.get? b = m.get? b) → Q () ⟨m', gs, dr, k', sy⟩) :
    wpAny (model pg wo) Ar (setAttr (.ref x) n v) Q Er ⟨m, gs, dr, k, sy⟩ := by
  have bd := S.slot.bind (.ref x)
  unfold setAttr callSpecial? specialOf
  repeat any_goals first
    | assumption
    | (with_reducible refine wpAny_loadPart_at hx ?_; rw [hc])
    | (with_reducible refine T.look s1 s2 S.slot.lookup ?_)
    | wp_step
  apply codeAny_call_builtin S.slot.plain S.entry
  apply set_ready T S hx hc
  refine set_old T S n1 n2 n3 hx hc hd px e wi z fun m' k' e1 e2 => ?_
  repeat any_goals first
    | assumption
    | wp_step
  exact q m' k' e1 e2
end
end TE
namespace L2
open PySem PySem.Spec PyProof.Rows
def ExD (a : Addr) (f : Str) (y : V) (h : Heap) : Prop := ∃ u, h.Ns1 a (fun k => if k = f then some u else none) ∧ RelV y u
section
variable {X : Cx} {C Y fi : Addr} {mC mY : Str → Option Value} {f g : Str} {o value : Expr} {pos pos' : Pos} {ta tv : TE}
def sXsetA (C : Addr) (f : Str) (ta tv : TE) : TS := fun D σ H => tv σ H fun y H1 => ta σ H1 fun x H2 => ∃ a p, x = .ref a ∧ H2 a = some (.ext (BareX C a p)) ∧ ∀ dx, H2 dx = none → dx ≠ a → D.nx σ (upd (upd H2 a (.ext (DictX C a p dx))) dx (.ext (ExD dx f y)))
theorem ps_xsetA (xc : XCls X.K C Y fi mC mY) (n1 : mC f = none) (n2 : mY f = none) (n3 : typeLookup (.type "ValueError") f = pure none) (ha : PE X o ta) (hv : PE X value tv) (hs : swapsWith value (some (.Attribute o f pos')) pos.line X.env = pure false) :
    PS X (.Assign [.Attribute o f pos'] value pos) (sXsetA C f ta tv) := by
  intro pins s σ H D I h
  refine plainObj_wpAny_Assign_Attribute (thn5 (hv pins s σ H _ I h) fun u s1 y H1 I1 ry q1 => thn5 (ha pins s1 σ H1 _ I1 q1) fun ov s2 x H2 I2 rx ⟨a, p, ex, ea, q2⟩ => ?_) hs
  subst ex
  obtain rfl : ov = Value.ref a := rx
  have hb : BareX C a p s2.heap := (I2.hok a _ ea).1
  have t0 := I2.tk
  refine wpAny_with_toks (n := s2.toks) (Nat.le_refl _) ?_
  obtain ⟨m, gs, dr, k, sy⟩ := s2
  have lt : a < m.objs.size := Heap.lt_size hb
  have hn : H2 m.objs.size = none := I2.hok.fresh (Nat.le_refl _)
  refine TE.set_field_new (xc.two m I2.kIn) PySem.F.store_ValueError xc.s1 xc.s2 n1 n2 n3 hb rfl (fun c z => by cases z) rfl fun m' k' e1 e2 e3 tk => ?_
  have nd : m.objs.size ≠ a := Nat.ne_of_gt lt
  have Ia : Inv X pins σ (upd H2 a (.ext (DictX C a p m.objs.size))) { (⟨m, gs, dr, k, sy⟩ : Shared) with heap := m', toks := k' } := I2.write (mut_ext ea) (.inl rfl) e3 ⟨_, e1⟩ ⟨e1, ⟨_, e1⟩, fun h1 h2 z1 z2 => z2 _ z1⟩ (Nat.lt_of_lt_of_le t0 tk)
  have hn' : upd H2 a (.ext (DictX C a p m.objs.size)) m.objs.size = none := by rw [upd_ne nd]; exact hn
  obtain ⟨od, es, ep, ge, re⟩ := id e2
  have Ib : Inv X pins σ (upd (upd H2 a (.ext (DictX C a p m.objs.size))) m.objs.size (.ext (ExD m.objs.size f y))) { (⟨m, gs, dr, k, sy⟩ : Shared) with heap := m', toks := k' } :=
    Ia.track I2.sz hn' (fun z => by
      have := I2.lt
      rw [← z] at this
      exact Nat.lt_irrefl _ this) (fun y c e => by obtain ⟨v, hv⟩ := I2.cell y c e; exact Nat.ne_of_lt hv.lt) (fun q hq => Nat.ne_of_lt (Heap.lt_size (I2.pin q hq).1))
      ⟨⟨u, e2, ry⟩, ⟨_, ge⟩, fun h1 h2 ⟨u', ⟨od', es', ep', ge', re'⟩, r'⟩ z2 => ⟨u', ⟨od', es', ep', z2 _ ge', re'⟩, r'⟩⟩
  exact ⟨σ, _, Ib, q2 _ hn nd⟩
def sXsetB (C : Addr) (g f : Str) (ta tv : TE) : TS := fun D σ H => tv σ H fun y H1 => ta σ H1 fun x H2 => ∃ a p dx y0, x = .ref a ∧ H2 a = some (.ext (DictX C a p dx)) ∧ H2 dx = some (.ext (ExD dx g y0)) ∧ dx ≠ a ∧ D.nx σ (upd H2 dx (.xd [(g, y0), (f, y)]))
theorem ps_xsetB (xc : XCls X.K C Y fi mC mY) (n1 : mC f = none) (n2 : mY f = none) (n3 : typeLookup (.type "ValueError") f = pure none) (hfg : f ≠ g) (ha : PE X o ta) (hv : PE X value tv) (hs : swapsWith value (some (.Attribute o f pos')) pos.line X.env = pure false) :
    PS X (.Assign [.Attribute o f pos'] value pos) (sXsetB C g f ta tv) := by
  intro pins s σ H D I h
  refine plainObj_wpAny_Assign_Attribute (thn5 (hv pins s σ H _ I h) fun u s1 y H1 I1 ry q1 => thn5 (ha pins s1 σ H1 _ I1 q1) fun ov s2 x H2 I2 rx ⟨a, p, dx, y0, ex, ea, ed, ne, q2⟩ => ?_) hs
  subst ex
  obtain rfl : ov = Value.ref a := rx
  have hb : DictX C a p dx s2.heap := (I2.hok a _ ea).1
  obtain ⟨u0, hn, r0⟩ : ExD dx g y0 s2.heap := (I2.hok dx _ ed).1
  have t0 := I2.tk
  refine wpAny_with_toks (n := s2.toks) (Nat.le_refl _) ?_
  obtain ⟨m, gs, dr, k, sy⟩ := s2
  refine TE.set_field_old (xc.two m I2.kIn) PySem.F.store_ValueError xc.s1 xc.s2 n1 n2 n3 hb rfl rfl ne hn (Within.cons g u0 Within.nil) (by simp) fun m' k' e1 e2 tk => ?_
  obtain ⟨od, es, ep, ge, re⟩ := id e1
  have Ia : Inv X pins σ (upd H2 dx (.xd [(g, y0), (f, y)])) { (⟨m, gs, dr, k, sy⟩ : Shared) with heap := m', toks := k' } := I2.write (mut_ext ed) (.inl rfl) (fun b w hb hw => (e2 b hb).trans hw) ⟨_, ge⟩ ⟨_, e1, fun k => by
    by_cases z : k = f
    · subst z
      rw [if_pos rfl, show ([(g, y0), (k, y)] : List (Str × V)).lookup k = some y by simp [List.lookup_cons, beq_eq_false_iff_ne.mpr hfg]]
      exact ry
    · by_cases z2 : k = g
      · subst z2
        rw [if_neg z, if_pos rfl, show ([(k, y0), (f, y)] : List (Str × V)).lookup k = some y0 by simp]
        exact r0
      · rw [if_neg z, if_neg z2, show ([(g, y0), (f, y)] : List (Str × V)).lookup k = none by simp [List.lookup_cons, beq_eq_false_iff_ne.mpr z, beq_eq_false_iff_ne.mpr z2]]
        trivial⟩ (Nat.lt_of_lt_of_le t0 tk)
  exact ⟨σ, _, Ia, q2⟩
end
def spI2 (C : Addr) (f g : Str) : Sp := fun vs H Q _ => ∃ x p y z, vs = [.ref x, y, z] ∧ H x = some (.ext (BareX C x p)) ∧ ∀ dx, H dx = none → dx ≠ x → Q .non (upd (upd H x (.ext (DictX C x p dx))) dx (.xd [(f, y), (g, z)]))
theorem init_ok2 {P : Program} {w : World} {K : PySem.W.Frag} {mg : Str → Option Value} {base : Heap} {qual : Str} {st : Stmt} {f fi : Addr} {fd : FuncData} {a b c n n' : Str} {C Y : Addr} {mC mY : Str → Option Value} {p1 p2 p3 p4 pos pos' qos qos' : Pos} (F : Fun K "__init__" qual st f fd) (Sc : FnScope [a, b, c] [a, b, c] (defScope st))
    (hb : defBody st = [.Assign [.Attribute (.Name a p1) n pos'] (.Name b p2) pos, .Assign [.Attribute (.Name a p3) n' qos'] (.Name c p4) qos]) (xc : XCls K C Y fi mC mY) (n1 : mC n = none) (n2 : mY n = none) (n3 : typeLookup (.type "ValueError") n = pure none) (m1 : mC n' = none) (m2 : mY n' = none) (m3 : typeLookup (.type "ValueError") n' = pure none) (hnn : n' ≠ n)
    (v1 : Vis (defScope st) a) (v2 : Vis (defScope st) b) (v3 : Vis (defScope st) c) (d1 : (a == ("__debug__" : Str)) = false) (d2 : (b == ("__debug__" : Str)) = false) (d3 : (c == ("__debug__" : Str)) = false) (c1 : (a == ("__classdict__" : Str)) = false) (c2 : (b == ("__classdict__" : Str)) = false) (c3 : (c == ("__classdict__" : Str)) = false)
    (hs : ∀ (cdv : Value) (loc : Addr), swapsWith (.Name b p2) (some (.Attribute (.Name a p1) n pos')) pos.line (envOfC qual (defScope st) loc f cdv) = pure false) (hs' : ∀ (cdv : Value) (loc : Addr), swapsWith (.Name c p4) (some (.Attribute (.Name a p3) n' qos')) qos.line (envOfC qual (defScope st) loc f cdv) = pure false) : FnOk P w K mg base CX0 1 f fd [a, b, c] (spI2 C n n') := by
  refine F.ok (k := 0) Sc (fun vs H Q E h => ?_) (fun cdv A outer s H vs Q E hr h => ?_)
  · obtain ⟨x, p, y, z, rfl, _⟩ := h
    rfl
  · obtain ⟨x, p, y, z, rfl, e, q⟩ := h
    rw [hb]
    refine ⟨_, pss_cons (ps_xsetA (C := C) xc n1 n2 n3 (pe_var (i := 0) rfl v1 d1 c1) (pe_var (i := 1) rfl v2 d2 c2) (hs cdv _)) (pss_one (ps_xsetB (C := C) xc m1 m2 m3 hnn (pe_var (i := 0) rfl v1 d1 c1) (pe_var (i := 2) rfl v3 d3 c3) (hs' cdv _))), ?_⟩
    refine ⟨y, rfl, .ref x, rfl, x, p, rfl, e, fun dx h0 hne => ⟨z, rfl, .ref x, rfl, x, p, dx, y, rfl, by rw [upd_ne hne.symm, upd_same], upd_same, hne, ?_⟩⟩
    have := q dx h0 hne
    rw [show upd (upd (upd H x (.ext (DictX C x p dx))) dx (.ext (ExD dx n y))) dx (.xd [(n, y), (n', z)]) = upd (upd H x (.ext (DictX C x p dx))) dx (.xd [(n, y), (n', z)]) by
      funext b
      by_cases hb : b = dx
      · rw [hb, upd_same, upd_same]
      · rw [upd_ne hb, upd_ne hb, upd_ne hb]]
    exact this
def tRaise2 (C : Addr) (n n' : Str) (E : XK) (t : TA) : TS := fun _ σ H => t σ H fun vs H1 => ∃ y z, vs = [y, z] ∧ ∀ dx, H1 dx = none → E (.ref C) (some dx) (upd H1 dx (.xd [(n, y), (n', z)]))
theorem ps_raise2 {X : Cx} {E : XK} {C Y fi : Addr} {mC mY : Str → Option Value} {n n' x : Str} {k : Nat} {fd : FuncData} {ps : List Str} {e : Expr} {es : List Expr} {t : TA} {np cp pos : Pos} (W : Leaves X E) (hc : X.calm = true) (xc : XCls X.K C Y fi mC mY) (F : FnOk X.prog X.w X.K X.mg X.base CX0 k fi fd ps (spI2 C n n')) (hr : Room (k + 1) X.A) (hb : Binds X.K fd ps []) (hg : Gl X x) (hm : X.mg x = some (.ref C)) (ha : PA X (e :: es) t) (hdb : (x == ("__debug__" : Str)) = false := by decide)
    (he : starEach (e :: es) X.env = (false, eval e X.env) :: starEach es X.env := by rfl) (hpl : (backTo cp (starEach (e :: es) X.env)).any (·.1) = false := by rfl) : PS X (.Raise (some (.Call (.Name x np) (e :: es) [] cp)) none pos) (tRaise2 C n n' E t) := by
  intro pins s σ H D I h
  refine TE.raise_call (fi := fi) PySem.F.excBase_ValueError (I.ok.hd hc) hpl (ld_glob I hg hm ⟨rfl, ?_⟩ hdb)
  have ha' := ha cp pins s σ H _ I h
  rw [he] at ha' ⊢
  refine Calls.evalArgs_plain (thn ha' fun us s1 ⟨vs, H1, I1, r, y, z, hv, q⟩ => ?_)
  subst hv
  obtain ⟨u, u', rfl, ru, ru'⟩ := vals2 r
  refine ⟨rfl, by rw [sizeLine_eq]; simp, xc.cl s1.heap I1.kIn, ?_⟩
  have xn : H1 (s1.heap.objs.size + 1) = none := I1.hok.fresh (Nat.le_succ _)
  have hl := TE.laid_new (m := s1.heap) (C := C) (us := [u, u'])
  have I2 : Inv X pins σ (upd H1 (s1.heap.objs.size + 1) (.ext (BareX C (s1.heap.objs.size + 1) s1.heap.objs.size))) { s1 with heap := TE.laid s1.heap C [u, u'], toks := s1.toks } :=
    I1.laid (fun b ob q => TE.laid_old q) (Nat.le_succ _) ⟨hl, ⟨_, hl⟩, fun h1 h2 z1 z2 => z2 _ z1⟩
  obtain ⟨xa, hxa⟩ : ∃ xa, xa = s1.heap.objs.size + 1 := ⟨_, rfl⟩
  rw [← hxa] at I2 xn hl ⊢
  have hlen : ([.ref xa, u, u'] : List Value).length = ps.length := by
    have := F.len [.ref xa, y, z] (upd H1 xa (.ext (BareX C xa s1.heap.objs.size))) (fun _ _ => True) E0 ⟨xa, s1.heap.objs.size, y, z, rfl, upd_same, fun _ _ _ => trivial⟩
    rw [← this]; rfl
  have run := F.run (X.A.under (.builtin "type.__call__" ⟨.ref C :: [u, u'], []⟩)) X.stack _ _ ⟨[.ref xa, u, u'], []⟩ [.ref xa, u, u'] [.ref xa, y, z] (fun v H3 => v = .non ∧ ∃ dx, H1 dx = none ∧ dx ≠ xa ∧ H3 = upd (upd (upd H1 xa (.ext (BareX C xa s1.heap.objs.size))) xa (.ext (DictX C xa s1.heap.objs.size dx))) dx (.xd [(n, y), (n', z)])) E0 (hr.make C [u, u'] []) (I2.env0.make C [u, u'] []) (.inl I2.tk)
    (by have := hb { s1 with heap := TE.laid s1.heap C [u, u'], toks := s1.toks } [.ref xa, u, u'] I2.kIn (by rw [List.append_nil]; exact hlen); rwa [List.append_nil] at this) (.cons rfl (.cons ru (.cons ru' .nil)))
    ⟨xa, s1.heap.objs.size, y, z, rfl, upd_same, fun dx h0 hne => ⟨rfl, dx, by rwa [upd_ne hne] at h0, hne, rfl⟩⟩
  refine wpAny_call (codeAny_mono (codeAny_toks_of (n := 1) I2.tk run) fun res s' ⟨htk, hq⟩ => ?_)
  cases res with
  | error e => exact False.elim hq
  | ok fl =>
    cases fl with
    | ret v =>
      obtain ⟨v', H3, I3, rv, hv', dx, h0, hne, hH⟩ := I2.after hq htk
      subst hv'
      have e3 : H3 xa = some (.ext (DictX C xa s1.heap.objs.size dx)) := by rw [hH, upd_ne hne.symm, upd_same]
      have ob : DictX C xa s1.heap.objs.size dx s'.heap := (I3.hok xa _ e3).1
      have hdn : dn H3 xa = upd H1 dx (.xd [(n, y), (n', z)]) := by
        funext b
        by_cases zb : b = xa
        · rw [zb, dn_at, upd_ne hne.symm, xn]
        · rw [dn_ne zb, hH]
          by_cases z2 : b = dx
          · rw [z2, upd_same, upd_same]
          · rw [upd_ne z2, upd_ne z2, upd_ne zb, upd_ne zb]
      refine ⟨rv, ?_, ⟨some dx, #[], s1.heap.objs.size, ob⟩, ?_⟩
      · obtain ⟨nm, q, N, bs, sn, sub, ab, col, dd, k0, k1, k2, k3, k5, nw, cl, _⟩ := (xc.two s'.heap I3.kIn).lo
        exact ⟨nm, q, N, bs, _, true, sn, sub, ab, col, dd, k0, k1, k2, k3, k5, nw, cl, by simp⟩
      · have I4 := I3.drop e3
        rw [hdn] at I4
        refine W I4 I1.sz (fun p hp => Heap.lt_size (I1.pin p hp).1) ⟨_, none, ⟨_, ob, rfl, rfl⟩, rfl, rfl, ?_, ?_, fun T z => by cases z⟩ (q dx h0)
        · rw [hxa]; exact Nat.le_succ _
        · rw [upd_ne hne.symm]; exact xn
    | next => exact False.elim hq
    | brk => exact False.elim hq
    | cont => exact False.elim hq
section
variable {X : Cx} {Θ : Tab} {E : XK}
theorem ms_raise2 {C Y fi : Addr} {mC mY : Str → Option Value} {n n' x : Str} {k c : Nat} {fd : FuncData} {ps : List Str} {e : Expr} {es : List Expr} {m : M.AM} {np cp pos : Pos} (W : Leaves X E) (hc : X.calm = true) (xc : XCls X.K C Y fi mC mY) (F : FnOk X.prog X.w X.K X.mg X.base CX0 k fi fd ps (spI2 C n n')) (hΘ : Θ c = some (C, [n, n'])) (hr : Room (k + 1) X.A) (hb : Binds X.K fd ps []) (hg : Gl X x) (hm : X.mg x = some (.ref C)) (ha : MA X (Θ.w E) (e :: es) m) (ar : Arity m 2) (hdb : (x == ("__debug__" : Str)) = false := by decide)
    (he : notStar e = true := by rfl) (hpl : (backTo cp (starEach (e :: es) X.env)).any (·.1) = false := by rfl) : MS X (Θ.w E) (.Raise (some (.Call (.Name x np) (e :: es) [] cp)) none pos) (M.sRaise c m) :=
  (ps_raise2 W hc xc F hr hb hg hm ha hdb (star_cons he) hpl).up fun D σ H ρ σ' S st rp h => ⟨ρ, σ', S, st, rp, by
    have h' : PostS X.K (Θ.w E) ρ H ((m σ' S).stm σ' fun xs s => .exc (.tup (.int c :: xs)) σ' s) D := h
    cases hm : m σ' S with
    | no => rw [hm] at h'; exact h'.elim
    | exc a s => rw [hm] at h'; exact (show PostX X.K (Θ.w E) ρ H a s from h')
    | ok ds S1 =>
      rw [hm] at h'
      have h2 : PostX X.K (Θ.w E) ρ H (.tup (.int c :: ds)) S1 := h'
      intro ρ1 H1 vs p1 l1 rp1 r1
      have l := ar _ _ _ _ hm
      have l2 := r1.length
      match ds, vs, l, l2, r1, h2 with
      | [d, d'], [y, z], _, _, r1, h2 =>
        refine ⟨y, z, rfl, fun dx h0 => ?_⟩
        have le := Le.new h0 (.xd [(n, y), (n', z)])
        exact h2 ρ1 _ C (some dx) p1 (l1.trans le) (rp1.aside h0 _) ⟨c, [d, d'], [n, n'], rfl, hΘ, .inr ⟨dx, [y, z], rfl, upd_same, rfl, r1.mono (List.prefix_refl _) le⟩⟩⟩
end
end L2
namespace L2
open PySem PySem.Spec PyProof.Rows
noncomputable abbrev Cx.hx (X : Cx) (A : Around) : Cx := { X with A := A, calm := false, xe := fun _ _ => False }
section
variable {X : Cx} {pins : List (Addr × Obj)} {σ : St} {H : Hp} {s : Shared} {A : Around}
theorem Inv.hx (I : Inv X pins σ H s) (hf : A.frames = X.A.frames) : Inv (X.hx A) pins σ H s :=
  have o := I.ok
  ⟨⟨o.mod, o.kind, o.glob, o.blt, o.above, o.inj, o.has, o.cab, (fun z => by cases z), hf.trans o.frames, o.stk, o.exf, o.bs, o.bsz, o.noex, o.exfs, o.funs, o.frf⟩, I.os, I.bare, I.base, I.loc, I.cell, I.free, I.freeC, I.pin, I.hok, I.len, I.tk⟩
theorem Inv.unhx (o : X.Ok) (I : Inv (X.hx A) pins σ H s) : Inv X pins σ H s := ⟨o, I.os, I.bare, I.base, I.loc, I.cell, I.free, I.freeC, I.pin, I.hok, I.len, I.tk⟩
end
end L2
namespace L2
open PySem PySem.Spec PyProof.Rows
noncomputable def xNames2 (f g : Str) : List Str := ["__setattr__", "__getattribute__", "__getattr__", f, g]
def xIn2 (K : PySem.W.Frag) (C Y fi : Addr) (f g : Str) : Bool := match K.lookup C, K.lookup Y with
  | some ⟨t, _, .cls cd, sl⟩, some ⟨_, _, .cls cy, _⟩ => t == .type "type" && (cd.mro == [.ref C, .ref Y, .type "ValueError", .type "Exception", .type "BaseException", .type "object"] && (sl.toList[4]? == some (some (.builtin "ValueError.__new__")) && (sl.toList.length == 6 && (!cd.hasDel && (cd.hasDict && (xStrs K cd.ns && (xStrs K cy.ns && ((xNames2 f g).all (xNo K cd.ns) && ((xNames2 f g).all (xNo K cy.ns) && (xNo K cy.ns "__init__" && (PySem.W.nsIn K cd.ns "__init__" == some (some (.ref fi)) &&
      (match K.lookup fi with | some o => o.cls == .type "function" | none => false))))))))))))
  | _, _ => false
structure XAll2 (K : PySem.W.Frag) (C Y fi : Addr) (mC mY : Str → Option Value) (f g : Str) : Prop extends XCls K C Y fi mC mY where
  g1 : mC "__getattribute__" = none
  g2 : mY "__getattribute__" = none
  a1 : mC "__getattr__" = none
  a2 : mY "__getattr__" = none
  n1 : mC f = none
  n2 : mY f = none
  m1 : mC g = none
  m2 : mY g = none
theorem xall_of2 {K : PySem.W.Frag} {C Y fi : Addr} {f g : Str} (q : xIn2 K C Y fi f g = true) : ∃ mC mY, XAll2 K C Y fi mC mY f g := by
  unfold xIn2 at q
  split at q
  · rename_i t dd cd sl cY dY cy slY ho hY
    simp only [Bool.and_eq_true, beq_iff_eq, Bool.not_eq_true'] at q
    obtain ⟨rfl, hm, h4, h6, hdel, hdict, sC, sY, noC, noY, iY, iC, hfi⟩ := q
    obtain ⟨mC, nC, vC⟩ := ns_K sC
    obtain ⟨mY, nY, vY⟩ := ns_K sY
    have oC : ∀ n ∈ xNames2 f g, mC n = none := fun n hn => vC n none (xNo_is (List.all_eq_true.mp noC n hn))
    have oY : ∀ n ∈ xNames2 f g, mY n = none := fun n hn => vY n none (xNo_is (List.all_eq_true.mp noY n hn))
    have jY : mY "__init__" = none := vY _ none (xNo_is iY)
    have jC : mC "__init__" = some (.ref fi) := vC _ _ iC
    obtain ⟨nm, bs, mro, ns, qn, hd, sn, sub, ab, col, del⟩ := cd
    dsimp only at hm hdel hdict nC
    subst hm hdel hdict
    obtain ⟨k0, k1, k2, k3, k5, hsl⟩ : ∃ k0 k1 k2 k3 k5, sl = #[k0, k1, k2, k3, some (.builtin "ValueError.__new__"), k5] := by
      obtain ⟨l⟩ := sl
      match l, h6, h4 with
      | [k0, k1, k2, k3, k4, k5], _, h4 =>
        have h4 : k4 = some (.builtin "ValueError.__new__") := by simpa using h4
        exact ⟨k0, k1, k2, k3, k5, by rw [h4]⟩
    subst hsl
    refine ⟨mC, mY, ⟨⟨fun h X => ⟨PySem.F.excBase_ValueError.mroIs, ⟨nm, qn, ns, bs, sn, sub, ab, col, dd, k0, k1, k2, k3, k5, _, X _ _ ho, nC h X⟩, ⟨cY, dY, cy, slY, X _ _ hY, nY h X⟩⟩, fun h X => ?_, oC _ (by simp [xNames2]), oY _ (by simp [xNames2])⟩, oC _ (by simp [xNames2]), oY _ (by simp [xNames2]), oC _ (by simp [xNames2]), oY _ (by simp [xNames2]), oC _ (by simp [xNames2]), oY _ (by simp [xNames2]), oC _ (by simp [xNames2]), oY _ (by simp [xNames2])⟩⟩
    split at hfi
    · rename_i of hf
      have hfi : of.cls = .type "function" := by simpa using hfi
      obtain ⟨oc, x1, x2, x3⟩ := of
      cases hfi
      exact ⟨⟨nm, qn, ns, bs, _, true, sn, sub, ab, col, dd, k0, k1, k2, k3, k5, mC, _, X _ _ ho, nC h X, jC, .own (X _ _ hY) (nY h X) jY .base, X _ _ hf, rfl⟩⟩
    · cases hfi
  · cases q
structure HasE2 (P : Program) (w : World) (K : PySem.W.Frag) (mg : Str → Option Value) (base : Heap) (C : Addr) (x : Str) (k : Nat) (ps : List Str) (f g : Str) : Prop where
  ex : ∃ Y fi fd mC mY, XAll2 K C Y fi mC mY f g ∧ FnOk P w K mg base CX0 k fi fd ps (spI2 C f g) ∧ Binds K fd ps [] ∧ mg x = some (.ref C) ∧ typeLookup (.type "ValueError") f = pure none ∧ typeLookup (.type "ValueError") g = pure none
section
variable {X : Cx} {Θ : Tab} {E : XK} {C : Addr}
theorem w_ms_raiseE2 {n n' x : Str} {k kk c : Nat} {ps : List Str} {e : Expr} {es : List Expr} {m : M.AM} {np cp pos : Pos} (h : HasE2 X.prog X.w X.K X.mg X.base C x k ps n n') (W : Leaves X E) (hc : X.calm = true) (hΘ : Θ c = some (C, [n, n'])) (hr : Room kk X.A) (hk : k + 1 ≤ kk) (hg : Gl X x) (ha : WA X (Θ.w E) (e :: es) m) (ar : Arity m 2) (hdb : (x == ("__debug__" : Str)) = false := by decide)
    (he : notStar e = true := by rfl) (hpl : (backTo cp (starEach (e :: es) X.env)).any (·.1) = false := by rfl) : WS X (Θ.w E) (.Raise (some (.Call (.Name x np) (e :: es) [] cp)) none pos) (M.sRaise c m) := by
  delta WA WS at ha ⊢
  obtain ⟨Y, fi, fd, mC, mY, xa, F, hb, hm, _⟩ := h.ex
  exact ms_raise2 W hc xa.toXCls F hΘ (hr.mono hk) hb hg hm ha ar hdb he hpl
end
end L2
namespace L2
open PySem PySem.Spec PyProof.Rows
structure RoomH (k : Nat) (A : Around) : Prop where
  dp : A.depth + 3 * k + 5 < recursionLimit
  un : A.units + 16 * k + 200 < cLine
theorem RoomH.mono {j k : Nat} {A : Around} (r : RoomH k A) (h : j ≤ k) : RoomH j A := ⟨by have := r.dp; lia, by have := r.un; lia⟩
theorem RoomH.deeper {k : Nat} {A : Around} (r : RoomH (k + 1) A) (env : Env) : RoomH k (A.deeper env) :=
  ⟨by have := r.dp; show A.depth + 1 + 3 * k + 5 < _; lia, by have := r.un; show A.units + 3 + 16 * k + 200 < _; lia⟩
theorem RoomH.depth {k : Nat} {A : Around} (r : RoomH k A) : A.depth < recursionLimit := by have := r.dp; lia
noncomputable abbrev nhA (A : Around) : Around := { A with handled := none }
structure FnOkH (P : Program) (w : World) (K : PySem.W.Frag) (mg : Str → Option Value) (base : Heap) (CX : CXT) (k : Nat) (f : Addr) (fd : FuncData) (ps : List Str) (sp : Sp) : Prop where
  len : ∀ vs H Q E, sp vs H Q E → vs.length = ps.length
  run : ∀ (A : Around) (outer : List Env) (s : Shared) (H : Hp) (args : Args) (us : List Value) (vs : List V) (Q : VK) (E : XK), RoomH k A → Env0 P w K mg base A outer s H → (0 < s.toks ∨ ∃ p ∈ ps, fd.scope.names.lookup p = some .local) → BindsTo s fd args (ps.zip us) → Vals vs us → sp vs H Q E →
    codeAny (model P w) A (.call (.ref f) args) (CR CX outer P w H s Q E) s
abbrev cxH (CX : CXT) (P : Program) (w : World) (K : PySem.W.Frag) (mg : Str → Option Value) (base : Heap) (N : List Str) (qual : Str) (scope : Scope) (f : Addr) (cd : Value) (A : Around) (outer : List Env) (s : Shared) (H : Hp) (E : XK) : Cx :=
  { cxOf CX P w K mg base N qual scope f cd A outer s H E with calm := false }
theorem Env0.nh {P : Program} {w : World} {K : PySem.W.Frag} {mg : Str → Option Value} {base : Heap} {A : Around} {outer : List Env} {s : Shared} {H : Hp} (e : Env0 P w K mg base A outer s H) : Env0 P w K mg base (nhA A) outer s H := ⟨e.frames, e.mod, e.bs, e.bsz, e.funs, e.frf, e.hok, e.bare⟩
theorem fnH_of {CX : CXT} {P : Program} {w : World} {K : PySem.W.Frag} {mg : Str → Option Value} {base : Heap} {k : Nat} {f : Addr} {name qual : Str} {params : Arguments} {body : List Stmt} {scope : Scope} {dV kV doc pm cdv ct oc : Value} {an od : Option Addr}
    {osl : Array (Option Value)} {N ps : List Str} {sp : Sp} (lk : K.lookup f = some ⟨oc, od, .func (PySem.W.fnOf name qual params body scope dV kV doc pm an cdv ct), osl⟩) (hcd : PySem.W.codeIn K cdv qual = true) (S : FnScope N ps scope)
    (len : ∀ vs H Q E, sp vs H Q E → vs.length = ps.length)
    (hbody : ∀ (A : Around) (outer : List Env) (s : Shared) (H : Hp) (vs : List V) (Q : VK) (E : XK), RoomH k (A.deeper (envOfC qual scope s.heap.objs.size f cdv)) → sp vs H Q E →
      ∃ t, PSs (cxH CX P w K mg base N qual scope f cdv A outer s H E) body t ∧ t { nx := fun _ H' => Q .non H', rt := Q } (start N vs) H) :
    FnOkH P w K mg base CX (k + 1) f (PySem.W.fnOf name qual params body scope dV kV doc pm an cdv ct) ps sp := by
  refine ⟨len, fun A outer s H args us vs Q E hr e0 htk hb r hsp => ?_⟩
  have hl := len _ _ _ _ hsp
  have KX : K.In s.heap := e0.mod.kin.keeps fun b o e => (e0.bs b o e).1
  have lim : s.heap.NoLimit := e0.mod.nolimit.keeps fun b o e => (e0.bs b o e).1
  have hkind : ∀ y ∈ ps.zip us, scope.names.lookup y.1 = some .local ∨ (scope.names.lookup y.1 = some .cell ∧ ((cellsFrom (s.heap.objs.size + 1) scope.names []).lookup y.1).isSome = true) := fun ⟨n, v⟩ hy => by
    rcases S.par n (List.of_mem_zip hy).1 with q | q
    · exact .inl q
    · exact .inr ⟨q, PySem.W.cellsFrom_some _ _ _ (.inl q)⟩
  refine codeAny_call_function hr.depth (KX _ _ lk) rfl S.co S.gen rfl (PySem.W.codeRec_of KX hcd) (hb _ _ _ _ ?_)
  refine newEnvT S.kind hkind fun env he s1 x htk1 => ?_
  subst he
  refine ⟨lim.keeps x.toInCall.keep, codeAny_func ?_⟩
  obtain ⟨t, ht, hq⟩ := hbody A outer s H vs Q E (hr.deeper _) hsp
  have I0 := inv_start (CX := CX) (qual := qual) (f := f) (cd := cdv) (E := E) S rfl e0.nh hl r x (htk1 (htk.imp id fun ⟨p, hp, hpl⟩ => by
    obtain ⟨i, hi, e⟩ := List.mem_iff_getElem.mp hp
    have hu : i < us.length := by rw [← r.length, hl]; exact hi
    exact ⟨(p, us[i]), List.mem_iff_getElem.mpr ⟨i, by rw [List.length_zip]; lia, by rw [List.getElem_zip, e]⟩, hpl⟩))
  have I : Inv (cxH CX P w K mg base N qual scope f cdv A outer s H E) [] (start N vs) H s1 :=
    have o := I0.ok
    ⟨⟨o.mod, o.kind, o.glob, o.blt, o.above, o.inj, o.has, o.cab, (fun z => by cases z), Around.frames_deeper e0.frames, o.stk, o.exf, o.bs, o.bsz, o.noex, o.exfs, o.funs, o.frf⟩, I0.os, I0.bare, I0.base, I0.loc, I0.cell, I0.free, I0.freeC, I0.pin, I0.hok, I0.len, I0.tk⟩
  refine wpAny_mono (ht [] s1 (start N vs) H _ I hq) (fun fl s' hs => ?_) fun e s' hs => hs
  have fin : ∀ {σ' : St} {H' : Hp} {v : V} {u : Value}, Inv (cxH CX P w K mg base N qual scope f cdv A outer s H E) [] σ' H' s' → RelV v u → Q v H' → CE outer P w H s Q u s' :=
    fun {σ' H' v u} J rv q => ⟨v, H', J.os, J.bare, J.base, J.hok, rv, q⟩
  cases fl with
  | ret u =>
    obtain ⟨v, σ', H', J, rv, q⟩ := hs
    exact fin J rv q
  | next =>
    obtain ⟨σ', H', J, q⟩ := hs
    exact fin (v := V.non) (u := Value.none) J rfl q
  | brk =>
    obtain ⟨_, _, _, q⟩ := hs
    exact False.elim q
  | cont =>
    obtain ⟨_, _, _, q⟩ := hs
    exact False.elim q
section
variable {X : Cx} {CX : CXT} {k : Nat} {f : Addr} {fd : FuncData} {ps : List Str} {sp : Sp} {dvs : List V} {ds : List Value} {E : XK} {x : Str} {p pos : Pos} {e : Expr} {es : List Expr} {t : TA}
theorem run_fnH {pins : List (Addr × Obj)} {σ : St} {H : Hp} {s : Shared} {Q : VK} {us : List Value} {vs : List V} (F : FnOkH X.prog X.w X.K X.mg X.base CX k f fd ps sp) (hr : RoomH k X.A) (hb : Binds X.K fd ps ds) (hd : Vals dvs ds) (hx : Passes CX X E)
    (I : Inv X pins σ H s) (r : Vals vs us) (h : sp (vs ++ dvs) H Q E) : wpAny (model X.prog X.w) X.A (call (.ref f) us) (EP X pins σ Q) X.xe s := by
  have r2 : Vals (vs ++ dvs) (us ++ ds) := r.append hd
  have hl : (us ++ ds).length = ps.length := by rw [← r2.length]; exact F.len _ _ _ _ h
  refine wpAny_call (codeAny_mono (codeAny_toks_of (n := 1) I.tk (F.run X.A X.stack s H ⟨us, []⟩ (us ++ ds) (vs ++ dvs) Q E hr I.env0 (.inl I.tk) (hb s us I.kIn hl) r2 h)) fun r s' ⟨htk, hq⟩ => ?_)
  cases r with
  | error e => exact hx pins σ H s e s' I hq
  | ok fl =>
    cases fl with
    | ret u => exact I.after hq htk
    | next => exact False.elim hq
    | brk => exact False.elim hq
    | cont => exact False.elim hq
theorem pe_callIn (F : FnOkH X.prog X.w X.K X.mg X.base CX k f fd ps sp) (hr : RoomH k X.A) (hg : Gl X x) (hm : X.mg x = some (.ref f)) (hk : PySem.W.keepIn X.K (.ref f) = true) (hb : Binds X.K fd ps ds) (hd : Vals dvs ds) (hx : Passes CX X E)
    (ha : PA X (e :: es) t) (hdb : (x == ("__debug__" : Str)) = false := by decide) (he : starEach (e :: es) X.env = (false, eval e X.env) :: starEach es X.env := by rfl) (hpl : (backTo pos (starEach es X.env)).any (·.1) = false := by rfl) :
    PE X (.Call (.Name x p) (e :: es) [] pos) (tCall sp dvs E t) := by
  intro pins s σ H Q I h
  refine wpAny_Call_Name_kw (ld_glob I hg hm ?_ hdb)
  refine PySem.W.callWith_K (h₀ := X.base) I.ok.mod.kin hk (thn5 (ha pos pins s σ H _ I h) fun us s1 vs H1 I1 r q => ⟨I1.kIn, ?_⟩) he hpl
  exact run_fnH F hr hb hd hx I1 r q
end
end L2
namespace TE
open PySem PySem.Builtin
section
variable {pg : Program} {wo : World} {Ar : Around} {Er : Value → Shared → Prop} {m : Heap} {gs : Array GenState} {dr : Drawn} {k : Nat} {sy : OsState} {C Y x p : Addr} {tl : List Value} {mC mY f : Str → Option Value} {n : Str} {v : Value} {o : Obj} {K : W.Frag} {od : Option Obj}
theorem look_fast {T : String} {n : Str} {r : Option Value} (h : fastLookup T n = some r) : typeLookup (.type T) n = pure r := by
  rw [typeLookup_type, builtinLookup_eq_fast, h]
theorem cls_look : typeLookup (.type "ValueError") "__class__" = pure (some (.builtin "object.__class__")) := look_fast (by decide +kernel)
theorem cls_in {tk : Tok} {Q : PySem.Fin → Shared → Prop} (T : Two m C Y "ValueError" tl mC mY) (X : K.In m) (I : W.InstAt m x o C od) (hm : W.mroIn K C (.type "object") = some true) (n1 : mC "__class__" = none) (n2 : mY "__class__" = none)
    (q : Q (.done (.ret (.ref C))) ⟨m, gs, dr, k, sy⟩) : wpAny (model pg wo) Ar (Builtin.«object.__getattribute__» ⟨[.ref x, .str "__class__" tk], []⟩) Q Er ⟨m, gs, dr, k, sy⟩ := by
  obtain ⟨nm, qn, N, bs, sn, sub, ab, col, dd, k0, k1, k2, k3, k5, nw, cl, ns⟩ := T.lo
  have hx := I.at_
  have hc := I.cls
  have f5 := F.typeOf_object_class
  have f6 := F.slot_gs_get.lookup
  have f7 := F.slot_gs_set.lookup
  unfold Builtin.«object.__getattribute__»
  repeat any_goals first
    | assumption
    | (with_reducible refine wpAny_loadPart_at hx ?_; rw [hc])
    | (with_reducible refine T.look n1 n2 cls_look ?_)
    | wp_step
  refine W.class_get (s := ⟨m, gs, dr, k, sy⟩) X I hm ?_
  repeat any_goals first
    | assumption
    | wp_step
theorem cls_get {Q : Option Value → Shared → Prop} (T : Two m C Y "ValueError" tl mC mY) (X : K.In m) (I : W.InstAt m x o C od) (hm : W.mroIn K C (.type "object") = some true) (hb : tl.contains (.type "BaseException") = true) (g1 : mC "__getattribute__" = none) (g2 : mY "__getattribute__" = none) (h1 : mC "__getattr__" = none) (h2 : mY "__getattr__" = none) (n1 : mC "__class__" = none) (n2 : mY "__class__" = none)
    (q : Q (some (.ref C)) ⟨m, gs, dr, k + 1, sy⟩) : wpAny (model pg wo) Ar (getAttr? (.ref x) "__class__") Q Er ⟨m, gs, dr, k, sy⟩ := by
  have hx := I.at_
  have hc := I.cls
  have fa := F.attr_ValueError
  have bd := fa.ga.bind (.ref x)
  have x2 : (Value.builtin "BaseException.__getattribute__" == Value.builtin "object.__getattribute__") = false := by decide +kernel
  have x1 : (onTheHeap (Value.ref C) && Value.builtin "BaseException.__getattribute__" == Value.builtin "object.__getattribute__") = false := by rw [x2]; rfl
  unfold getAttr? getAttrBy?
  refine wpAny_bind (wpAny_mkText (wpAny_bind (wpAny_attempt ?_)))
  repeat any_goals first
    | assumption
    | (with_reducible refine wpAny_loadPart_at hx ?_; rw [hc])
    | (with_reducible refine T.look g1 g2 fa.ga.lookup ?_)
    | (with_reducible refine T.look h1 h2 F.attrBase_ValueError.noGetattr ?_)
    | wp_step
  refine codeAny_call_builtin fa.ga.plain F.entry_bexc_ga (get_ready T hb hx hc (cls_in T X I hm n1 n2 ?_))
  repeat any_goals first
    | assumption
    | wp_step
end
end TE
namespace L2
open PySem PySem.Spec PyProof.Rows
structure XC0 (K : PySem.W.Frag) (C Y : Addr) (mC mY : Str → Option Value) : Prop where
  two : ∀ h : Heap, K.In h → TE.Two h C Y "ValueError" tlV mC mY
  g1 : mC "__getattribute__" = none
  g2 : mY "__getattribute__" = none
  a1 : mC "__getattr__" = none
  a2 : mY "__getattr__" = none
  n1 : mC "__class__" = none
  n2 : mY "__class__" = none
  hm : PySem.W.mroIn K C (.type "object") = some true
def LiesC (C x : Addr) (od : Option Addr) (h : Heap) : Prop := ∃ oe, h.get? x = some oe ∧ oe.cls = .ref C ∧ oe.dict = od ∧ ∀ c, oe.data ≠ .cls c
def LiesK (C x : Addr) (od : Option Addr) (h : Heap) : Prop := LiesC C x od h ∧ ∀ dx, od = some dx → ∃ o, h.get? dx = some o
theorem LiesK.inst {C x : Addr} {od : Option Addr} {h : Heap} (l : LiesK C x od h) : ∃ ox od, PySem.W.InstAt h x ox C od := by
  obtain ⟨⟨oe, e, c, hd, n⟩, d⟩ := l
  have hn : PySem.W.notCls oe = true := by
    unfold PySem.W.notCls
    split
    · rename_i z; exact absurd z (n _)
    · rfl
  cases od with
  | none => exact ⟨oe, none, e, c, hn, by rw [hd]; trivial⟩
  | some dx =>
    obtain ⟨od, ho⟩ := d dx rfl
    exact ⟨oe, some od, e, c, hn, by rw [hd]; exact ho⟩
theorem kitx_exc {K : PySem.W.Frag} {C Y x : Addr} {od : Option Addr} {mC mY : Str → Option Value} (xc : XC0 K C Y mC mY) : PySem.W.KitX K (.ref x) (.ref C) (LiesK C x od) := by
  refine ⟨fun M h X l => ?_, fun M h X l => ?_, fun h tp dd its n sl X e => ?_, fun {prog w A E Q s} X l q => ?_⟩
  · obtain ⟨ox, od, I⟩ := l.inst
    exact I.type
  · obtain ⟨nm, qn, N, bs, sn, sub, ab, col, dd, k0, k1, k2, k3, k5, nw, cl, ns⟩ := (xc.two h X).lo
    intro A' Q' E' s' k q
    unfold isType loadHead
    exact wpAny_bind (wpAny_loadPart (k _ _ cl) (wpAny_pure q))
  · obtain ⟨nm, qn, N, bs, sn, sub, ab, col, dd, k0, k1, k2, k3, k5, nw, cl, ns⟩ := (xc.two h X).lo
    cases hb : (Value.ref C == Value.ref tp) with
    | false => rfl
    | true =>
      have := eq_of_beq hb
      cases this
      rw [e] at cl
      exact absurd (show Value.type "tuple" = Value.type "type" from congrArg Obj.cls (Option.some.inj cl)) (by decide)
  · obtain ⟨ox, od, I⟩ := l.inst
    exact TE.cls_get (xc.two _ X) X I xc.hm (by decide) xc.g1 xc.g2 xc.a1 xc.a2 xc.n1 xc.n2 q
def XTr (C : Addr) (x : Addr) (H : Hp) : Prop := ∃ od, H x = some (.ext (LiesC C x od)) ∧ ∀ dx, od = some dx → ∃ fs, H dx = some (.xd fs)
theorem XTr.lies {X : Cx} {pins : List (Addr × Obj)} {σ : St} {H : Hp} {s : Shared} {C x : Addr} (I : Inv X pins σ H s) (h : XTr C x H) : ∃ od, LiesK C x od s.heap := by
  obtain ⟨od, hx, hd⟩ := h
  refine ⟨od, (I.hok x _ hx).1, fun dx e => ?_⟩
  obtain ⟨fs, hf⟩ := hd dx e
  obtain ⟨mA, ⟨ob, es, ep, ho, _⟩, _⟩ := I.hok dx _ hf
  exact ⟨ob, ho⟩
noncomputable def rIsX (C : Addr) (c : V) (b : Bool) : List V → Hp → VK → Prop := fun xs H Q => ∃ x, xs = [.ref x, c] ∧ XTr C x H ∧ Q (.bl b) H
theorem call_isX {X : Cx} {C Y : Addr} {mC mY : Str → Option Value} {c : V} {u : Value} {b : Bool} (xc : XC0 X.K C Y mC mY) (hc : ∀ w, RelV c w → w = u) (e : PySem.W.kitOne X.K (.ref C) u = some b) : CallR X (.builtin "isinstance") (rIsX C c b) := by
  intro pins s σ H xs us Q I r h
  obtain ⟨x, rfl, hx, q⟩ := h
  obtain ⟨v, w, rfl, rv, rc⟩ := vals2 r
  cases rv
  rw [hc w rc]
  obtain ⟨od, l⟩ := hx.lies I
  exact wpAny_with_toks (n := 1) I.tk (PySem.W.kia_one (kitx_exc xc) I.kIn l e (fun z => nomatch z) fun tk hk => ⟨.bl b, H, I.tok tk hk, rfl, q⟩)
end L2
namespace TE
open PySem PySem.Builtin
def Made0 (m m' : Heap) (C : Addr) : Prop := (∀ b o, m.get? b = some o → m'.get? b = some o) ∧ ∃ t, m'.get? (m.objs.size + 1) = some { cls := .ref C, data := .fields #[.ref t, .none, .none, .none, .bool false, .none] }
section
variable {pg : Program} {wo : World} {Ar : Around} {Er : Value → Shared → Prop} {s : Shared} {en : Env} {C : Addr} {B nw ini : String} {tl : List Value}
def Plain0 (m : Heap) (C : Addr) (tl : List Value) (nw : String) : Prop := ∃ nm q N bs bm hd sn sub ab col dd k0 k1 k2 k3 k5 mN, m.get? C = some (excClassObj nm q C N bs bm hd sn sub ab col dd k0 k1 k2 k3 k5 nw) ∧ OwnTail m tl bm ∧ m.Ns N mN ∧ mN "__init__" = none
theorem made_in0 {m : Heap} {gs : Array GenState} {dr : Drawn} {k : Nat} {sy : OsState} {us : List Value} {Q : PySem.Fin → Shared → Prop} (F : ExcBaseFacts B nw ini tl) (c : Plain0 m C tl nw) (z : us.length ≤ sizeLine)
    (q : ∀ m', Made0 m m' C → Q (.done (.ret (.ref (m.objs.size + 1)))) ⟨m', gs, dr, k, sy⟩) : wpAny (model pg wo) Ar (Builtin.«type.__call__» ⟨.ref C :: us, []⟩) Q Er ⟨m, gs, dr, k, sy⟩ := by
  obtain ⟨nm, qn, N, bs, tl', hd, sn, sub, ab, col, dd, k0, k1, k2, k3, k5, mN, cl, ot, ns, ni⟩ := c
  have mine : (Value.ref C :: tl').contains (.ref C) = true := by simp
  have cl' := laid_old (C := C) (us := us) cl
  repeat first
    | (with_reducible refine wpAny_madeBy_exc cl ?_)
    | (with_reducible refine wpAny_loadPart_at cl ?_)
    | wp_step
  apply codeAny_call_builtin_code (Code.quiet_builtin _ F.quiet)
  apply wpAny_check_new_subT F ot cl
  refine codeAny_exc_new_subT F ot cl ?_ z
  change wpAny _ _ _ _ _ ⟨laid m C us, gs, dr, k, sy⟩
  unfold isInstance
  repeat first
    | (with_reducible refine wpAny_loadPart_at laid_new ?_)
    | (with_reducible refine wpAny_isSubtype_exc cl' ?_; rw [mine])
    | wp_step
  have ot' := ot.keeps (h' := laid m C us) fun _ _ => laid_old
  change wpAny _ _ (typeLookup (.ref C) _) _ _ _
  apply wpAny_typeLookup_tail cl' (laid_ns ns) ot' F.mroIs F.init.lookup
  rw [ni]
  apply wpAny_holding
  apply wpAny_bind
  apply wpAny_of_eq (F.init.bind _)
  apply wpAny_bind
  refine wpAny_call (codeAny_call_builtin F.init.plain F.initEntry (wpAny_check_init_subT F ot' cl' laid_new rfl ?_))
  have hget := laid_new (m := m) (C := C) (us := us)
  unfold laid bare at hget ⊢
  wp_walk
  refine q _ ⟨fun b o hb => ?_, m.objs.size + 2, ?_⟩
  · rw [Heap.get?_update_other _ _ (Nat.ne_of_gt (Nat.lt_succ_of_lt (Heap.lt_size hb)))]
    exact Heap.get?_push_of_some _ (laid_old hb)
  · rw [Heap.get?_update_self _ (Heap.get?_push_of_some _ hget) rfl]
    simp only [Heap.size_push]
    rfl
theorem made0 {m : Heap} {gs : Array GenState} {dr : Drawn} {k : Nat} {sy : OsState} {us : List Value} {Q : Value → Shared → Prop} (F : ExcBaseFacts B nw ini tl) (c : Plain0 m C tl nw) (z : us.length ≤ sizeLine)
    (q : ∀ m', Made0 m m' C → Q (.ref (m.objs.size + 1)) ⟨m', gs, dr, k, sy⟩) : wpAny (model pg wo) Ar (call (.ref C) us) Q Er ⟨m, gs, dr, k, sy⟩ := by
  obtain ⟨nm, qn, N, bs, tl', hd, sn, sub, ab, col, dd, k0, k1, k2, k3, k5, mN, cl, _⟩ := id c
  have l1 := tc_lookup
  have l2 := tc_bind (.ref C)
  have ty : Shared.TypeIs ⟨m, gs, dr, k, sy⟩ (.ref C) "type" := ⟨_, cl, rfl⟩
  apply wpAny_call
  apply codeAny_of_tree
  change wpAny _ _ (callAny (.ref C) _) _ _ _
  repeat any_goals first
    | assumption
    | (with_reducible refine wpAny_loadPart_at cl ?_)
    | wp_step
  constructor
  · rfl
  · exact codeAny_call_builtin_at (Code.quiet_builtin _ (by decide +kernel)) entry_typeCall (wpAny_check_type_call_sub cl (made_in0 F c z q))
theorem raise_call0 {x : Str} {np cp pos : Pos} {es : List Expr} {Q : Flow → Shared → Prop} (F : ExcBaseFacts B nw ini tl) (nh : Ar.handled = none) (pl : (backTo cp (starEach es en)).any (·.1) = false)
    (hx : wpAny (model pg wo) Ar (eval (.Name x np) en) (fun v s1 => v = .ref C ∧ wpAny (model pg wo) Ar (evalArgs (.ref C) true (backTo cp (starEach es en)) []) (fun a s2 => a.kw = [] ∧ a.pos.length ≤ sizeLine ∧ Plain0 s2.heap C tl nw ∧
      ∀ h', Made0 s2.heap h' C → IsX h' C ∧ Er (.ref (s2.heap.objs.size + 1)) { s2 with heap := h' }) Er s1) Er s) :
    wpAny (model pg wo) Ar (exec (.Raise (some (.Call (.Name x np) es [] cp)) none pos) en) Q Er s := by
  rw [arm_exec_Raise]
  simp only [evalOpt, Option.map]
  apply wpAny_bind
  apply wpAny_standAt
  apply raised (C := C) nh
  apply wpAny_bind
  refine wpAny_mono (wpAny_Call_ofName (wpAny_mono hx (fun v s1 h1 => ?_) fun _ _ z => z)) (fun v s3 h3 => wpAny_bind (wpAny_standAt (wpAny_pure h3))) fun _ _ z => z
  rw [h1.1]
  unfold callWith
  apply wpAny_bind
  apply wpAny_holding
  refine wpAny_mono h1.2 (fun a s2 h2 => wpAny_bind (wpAny_standAt ?_)) fun _ _ z => z
  obtain ⟨ps, kw⟩ := a
  obtain ⟨rfl, z, c, h3⟩ := h2
  obtain ⟨m, gs, dr, k, sy⟩ := s2
  obtain ⟨nm, qn, N, bs, bm, hd, sn, sub, ab, col, dd, k0, k1, k2, k3, k5, mN, cl, ot, ns, hi⟩ := c
  simp only [pl]
  apply wpAny_bind
  apply wpAny_keeperOf_exc cl
  apply wpAny_bind
  refine made0 F ⟨nm, qn, N, bs, bm, hd, sn, sub, ab, col, dd, k0, k1, k2, k3, k5, mN, cl, ot, ns, hi⟩ z fun h' me => ?_
  obtain ⟨ix, er⟩ := h3 h' me
  obtain ⟨_, t, at'⟩ := me
  apply wpAny_bind
  apply wpAny_holding
  apply wpAny_point
  exact wpAny_pure ⟨_, rfl, ix, ⟨none, _, t, at'⟩, er⟩
end
end TE
namespace L2
open PySem PySem.Spec PyProof.Rows
def xBase (K : PySem.W.Frag) (C Y : Addr) (ns : List Str) : Bool := match K.lookup C, K.lookup Y with
  | some ⟨cl, _, .cls cd, sl⟩, some ⟨_, _, .cls cy, _⟩ => cl == .type "type" && cd.mro == .ref C :: .ref Y :: tlV && sl == #[sl.getD 0 none, sl.getD 1 none, sl.getD 2 none, sl.getD 3 none, some (.builtin "ValueError.__new__"), sl.getD 5 none] &&
    !cd.hasDel && cd.hasDict && xStrs K cd.ns && xStrs K cy.ns && ns.all (xNo K cd.ns) && ns.all (xNo K cy.ns) && PySem.W.mroIn K C (.type "object") == some true
  | _, _ => false
theorem xbase_of {K : PySem.W.Frag} {C Y : Addr} {ns : List Str} (q : xBase K C Y ns = true) : ∃ mC mY, (∀ h : Heap, K.In h → TE.Two h C Y "ValueError" tlV mC mY) ∧ (∀ h : Heap, K.In h → ("__init__" : Str) ∈ ns → TE.Plain0 h C tlV "ValueError.__new__") ∧ (∀ n ∈ ns, mC n = none ∧ mY n = none) ∧ PySem.W.mroIn K C (.type "object") = some true := by
  unfold xBase at q
  split at q
  · rename_i cl dd cd sl cY dY cy slY ho hY
    simp only [Bool.and_eq_true, Bool.not_eq_true'] at q
    obtain ⟨⟨⟨⟨⟨⟨⟨⟨⟨q1, q2⟩, q3⟩, hdel⟩, hdict⟩, sC⟩, sY⟩, noC⟩, noY⟩, hm⟩ := q
    cases eq_of_beq q1
    have hs := eq_of_beq q3
    have hr := eq_of_beq q2
    obtain ⟨mC, nC, vC⟩ := ns_K sC
    obtain ⟨mY, nY, vY⟩ := ns_K sY
    have oC : ∀ n ∈ ns, mC n = none := fun n hn => vC n none (xNo_is (List.all_eq_true.mp noC n hn))
    have oY : ∀ n ∈ ns, mY n = none := fun n hn => vY n none (xNo_is (List.all_eq_true.mp noY n hn))
    obtain ⟨nm, bs, mro, nsA, qn, hd, sn, sub, ab, col, del⟩ := cd
    cases hr
    cases hdel
    cases hdict
    rw [hs] at ho
    exact ⟨mC, mY, fun h X => ⟨PySem.F.excBase_ValueError.mroIs, ⟨nm, qn, nsA, bs, sn, sub, ab, col, dd, _, _, _, _, _, _, X _ _ ho, nC h X⟩, ⟨cY, dY, cy, slY, X _ _ hY, nY h X⟩⟩,
      fun h X hi => ⟨nm, qn, nsA, bs, _, true, sn, sub, ab, col, dd, _, _, _, _, _, mC, X _ _ ho, .own (X _ _ hY) (nY h X) (oY _ hi) .base, nC h X, oC _ hi⟩, fun n hn => ⟨oC n hn, oY n hn⟩, eq_of_beq hm⟩
  · cases q
noncomputable abbrev xnC : List Str := ["__getattribute__", "__getattr__", "__class__"]
theorem xc0_of {K : PySem.W.Frag} {C Y : Addr} (q : xBase K C Y xnC = true) : ∃ mC mY, XC0 K C Y mC mY := by
  obtain ⟨mC, mY, t, _, n, hm⟩ := xbase_of q
  have m1 := n "__getattribute__" (.head _)
  have m2 := n "__getattr__" (.tail _ (.head _))
  have m3 := n "__class__" (.tail _ (.tail _ (.head _)))
  exact ⟨mC, mY, t, m1.1, m1.2, m2.1, m2.2, m3.1, m3.2, hm⟩
def tRaise0 (C : Addr) (E : XK) (t : TA) : TS := fun _ σ H => t σ H fun vs H1 => vs.length ≤ sizeLine ∧ E (.ref C) none H1
theorem ps_raise0 {X : Cx} {E : XK} {C : Addr} {x : Str} {e : Expr} {es : List Expr} {t : TA} {np cp pos : Pos} (W : Leaves X E) (hc : X.calm = true) (pc : ∀ h : Heap, X.K.In h → TE.Plain0 h C tlV "ValueError.__new__") (ix : ∀ h : Heap, X.K.In h → TE.IsX h C) (hg : Gl X x) (hm : X.mg x = some (.ref C)) (ha : PA X (e :: es) t) (hdb : (x == ("__debug__" : Str)) = false := by decide)
    (he : starEach (e :: es) X.env = (false, eval e X.env) :: starEach es X.env := by rfl) (hpl : (backTo cp (starEach (e :: es) X.env)).any (·.1) = false := by rfl) : PS X (.Raise (some (.Call (.Name x np) (e :: es) [] cp)) none pos) (tRaise0 C E t) := by
  intro pins s σ H D I h
  refine TE.raise_call0 PySem.F.excBase_ValueError (I.ok.hd hc) hpl (ld_glob I hg hm ⟨rfl, ?_⟩ hdb)
  have ha' := ha cp pins s σ H _ I h
  rw [he] at ha' ⊢
  refine Calls.evalArgs_plain (thn5 ha' fun us s1 vs H1 I1 r hq => ?_)
  obtain ⟨hz, q⟩ := hq
  refine ⟨rfl, by rw [← r.length]; exact hz, pc _ I1.kIn, fun h' me => ?_⟩
  have I2 : Inv X pins σ H1 { s1 with heap := h', toks := s1.toks } := I1.kept me.1
  obtain ⟨_, t', a1⟩ := me
  exact ⟨ix _ I2.kIn, W I2 I1.sz (fun p hp => Heap.lt_size (I1.pin p hp).1) ⟨_, none, ⟨_, a1, rfl, rfl⟩, rfl, rfl, Nat.le_succ _, I1.hok.fresh (Nat.le_succ _), fun T z => by cases z⟩ q⟩
end L2
namespace L2
open PySem PySem.Spec PyProof.Rows
theorem ms_raise0 {X : Cx} {Θ : Tab} {E : XK} {C : Addr} {x : Str} {c : Nat} {e : Expr} {es : List Expr} {m : M.AM} {np cp pos : Pos} (W : Leaves X E) (hc : X.calm = true) (pc : ∀ h : Heap, X.K.In h → TE.Plain0 h C tlV "ValueError.__new__") (ix : ∀ h : Heap, X.K.In h → TE.IsX h C) (hΘ : Θ c = some (C, [])) (hg : Gl X x) (hm : X.mg x = some (.ref C)) (ha : MA X (Θ.w E) (e :: es) m) (ar : Arity m 1) (hdb : (x == ("__debug__" : Str)) = false := by decide)
    (he : notStar e = true := by rfl) (hpl : (backTo cp (starEach (e :: es) X.env)).any (·.1) = false := by rfl) : MS X (Θ.w E) (.Raise (some (.Call (.Name x np) (e :: es) [] cp)) none pos) (M.sRaise0 c m) :=
  (ps_raise0 W hc pc ix hg hm ha hdb (star_cons he) hpl).up fun D σ H ρ σ' S st rp h => ⟨ρ, σ', S, st, rp, by
    have h' : PostS X.K (Θ.w E) ρ H ((m σ' S).stm σ' fun _ s => .exc (.tup [.int c]) σ' s) D := h
    cases hm : m σ' S with
    | no => rw [hm] at h'; exact h'.elim
    | exc a s => rw [hm] at h'; exact (show PostX X.K (Θ.w E) ρ H a s from h')
    | ok ds S1 =>
      rw [hm] at h'
      have h2 : PostX X.K (Θ.w E) ρ H (.tup [.int c]) S1 := h'
      intro ρ1 H1 vs p1 l1 rp1 r1
      refine ⟨?_, h2 ρ1 H1 C none p1 l1 rp1 ⟨c, [], [], rfl, hΘ, .inl ⟨rfl, rfl, rfl⟩⟩⟩
      rw [← r1.length, ar _ _ _ _ hm, sizeLine_eq]
      decide⟩
end L2
namespace TE
open PySem PySem.Builtin
section
variable {mo : Model} {Ar : Around} {Er : Value → Shared → Prop} {m : Heap} {gs : Array GenState} {dr : Drawn} {k : Nat} {sy : OsState} {C Y x : Addr} {o : Obj}
def High (m : Heap) (Y : Addr) (tl : List Value) : Prop := ∃ nm q N bs hd sn sub ab col dd k0 k1 k2 k3 k5 nw, m.get? Y = some (excClassObj nm q Y N bs tl hd sn sub ab col dd k0 k1 k2 k3 k5 nw)
theorem hit_up {tl : List Value} {mC mY : Str → Option Value} {Q : Bool → Shared → Prop} (T : Two m C Y "ValueError" tl mC mY) (hy : High m Y tl) (hb : tl.contains (.type "BaseException") = true) (hx : m.get? x = some o) (hc : o.cls = .ref C) (q : Q true ⟨m, gs, dr, k, sy⟩) : wpAny mo Ar (excMatches (.ref x) (.ref Y)) Q Er ⟨m, gs, dr, k, sy⟩ := by
  obtain ⟨nm, qn, N, bs, sn, sub, ab, col, dd, k0, k1, k2, k3, k5, nw, cl, ns⟩ := T.lo
  obtain ⟨_, _, _, _, _, _, _, _, _, _, _, _, _, _, _, _, cy⟩ := hy
  have nt := tc_notTuple
  have u1 : (Value.ref C :: Value.ref Y :: tl).contains (.ref Y) = true := by simp
  have u2 : (Value.ref Y :: tl).contains (.type "BaseException") = true := by rw [List.contains_cons, hb, Bool.or_true]
  unfold excMatches
  repeat first
    | (with_reducible refine wpAny_loadPart_at hx ?_; rw [hc])
    | (with_reducible refine wpAny_loadPart_at cl ?_)
    | (with_reducible refine wpAny_loadPart_at cy ?_)
    | (with_reducible refine wpAny_isSubtype_exc cl ?_; rw [u1])
    | (with_reducible refine wpAny_isSubtype_exc cy ?_; rw [u2])
    | wp_step
  exact q
end
end TE
namespace L2
open PySem PySem.Spec PyProof.Rows
def yIn (K : PySem.W.Frag) (Y : Addr) : Bool := match K.lookup Y with
  | some ⟨cl, _, .cls cd, sl⟩ => cl == .type "type" && cd.mro == .ref Y :: tlV && sl == #[sl.getD 0 none, sl.getD 1 none, sl.getD 2 none, sl.getD 3 none, some (.builtin "ValueError.__new__"), sl.getD 5 none] && !cd.hasDel
  | _ => false
theorem high_of {K : PySem.W.Frag} {Y : Addr} (q : yIn K Y = true) (h : Heap) (X : K.In h) : TE.High h Y tlV := by
  unfold yIn at q
  split at q
  · rename_i cl dd cd sl ho
    simp only [Bool.and_eq_true, Bool.not_eq_true'] at q
    obtain ⟨⟨⟨q1, q2⟩, q3⟩, hdel⟩ := q
    cases eq_of_beq q1
    have hs := eq_of_beq q3
    have hr := eq_of_beq q2
    obtain ⟨nm, bs, mro, nsA, qn, hd, sn, sub, ab, col, del⟩ := cd
    cases hr
    cases hdel
    rw [hs] at ho
    exact ⟨nm, qn, nsA, bs, hd, sn, sub, ab, col, dd, _, _, _, _, _, _, X _ _ ho⟩
  · cases q
def endsK (C x : Addr) (od : Option Addr) (je : Nat) (D : Ends) : Ends where
  nx := fun σ H => (H x = some (.ext (LiesC C x od)) ∧ D.nx (σ.set je none) (dn H x)) ∨ D.nx (σ.set je none) H
  rt := fun v H => (H x = some (.ext (LiesC C x od)) ∧ D.rt v (dn H x)) ∨ D.rt v H
  bk := fun σ H => (H x = some (.ext (LiesC C x od)) ∧ D.bk (σ.set je none) (dn H x)) ∨ D.bk (σ.set je none) H
  ct := fun σ H => (H x = some (.ext (LiesC C x od)) ∧ D.ct (σ.set je none) (dn H x)) ∨ D.ct (σ.set je none) H
end L2
namespace L2
open PySem PySem.Spec PyProof.Rows
structure HasH (P : Program) (w : World) (K : PySem.W.Frag) (mg : Str → Option Value) (base : Heap) (x : Str) (k : Nat) (ps : List Str) (sp : Sp) : Prop where
  ex : ∃ f fd, FnOkH P w K mg base CX0 k f fd ps sp ∧ Binds K fd ps [] ∧ PySem.W.keepIn K (.ref f) = true ∧ mg x = some (.ref f)
section
variable {P : Program} {w : World} {K : PySem.W.Frag} {mg : Str → Option Value} {base : Heap} {Θ : Tab}
theorem Fun.okH {x qual : Str} {st : Stmt} {f : Addr} {fd : FuncData} {N ps : List Str} {k : Nat} {sp : Sp} (F : Fun K x qual st f fd) (S : FnScope N ps (defScope st)) (len : ∀ vs H Q E, sp vs H Q E → vs.length = ps.length)
    (hbody : ∀ (cdv : Value) (A : Around) (outer : List Env) (s : Shared) (H : Hp) (vs : List V) (Q : VK) (E : XK), RoomH k (A.deeper (envOfC qual (defScope st) s.heap.objs.size f cdv)) → sp vs H Q E →
      ∃ t, PSs (cxH CX0 P w K mg base N qual (defScope st) f cdv A outer s H E).nox (defBody st) t ∧ t { nx := fun _ H' => Q .non H', rt := Q } (start N vs) H) : FnOkH P w K mg base CX0 (k + 1) f fd ps sp := by
  obtain ⟨oc, od, kV, doc, pm, an, cdv, ct, osl, rfl, lk, hcd⟩ := F.ex
  refine fnH_of lk hcd S len fun A outer s H vs Q E hr hsp => ?_
  obtain ⟨t, h, q⟩ := hbody cdv A outer s H vs Q E hr hsp
  exact ⟨t, h.nox, q⟩
end
section
variable {X : Cx} {Θ : Tab} {pos p : Pos} {x : Str} {ps : List Str} {e : Expr} {es : List Expr} {f : M.F} {m : M.AM} {k kk n : Nat} {sp : Sp} {t : TA}
theorem pe_callI (h : HasH X.prog X.w X.K X.mg X.base x k ps sp) (hr : RoomH kk X.A) (hk : k ≤ kk) (hg : Gl X x) (ha : PA X (e :: es) t) (hx : Passes CX0 X E0 := by exact pass0) (hdb : (x == ("__debug__" : Str)) = false := by decide)
    (he : starEach (e :: es) X.env = (false, eval e X.env) :: starEach es X.env := by rfl) (hpl : (backTo pos (starEach es X.env)).any (·.1) = false := by rfl) :
    PE X (.Call (.Name x p) (e :: es) [] pos) (tCall sp [] E0 t) := by
  obtain ⟨f, fd, F, b, kp, m⟩ := h.ex
  exact pe_callIn F (hr.mono hk) hg m kp b .nil hx ha hdb he hpl
end
end L2
namespace L2
open PySem PySem.Spec PyProof.Rows
def tDrp (t : TE) : TE := fun σ H Q => t σ H fun v H1 => ∃ x φ, H1 x = some (.ext φ) ∧ Q v (dn H1 x)
theorem pe_drp {X : Cx} {e : Expr} {t : TE} (h : PE X e t) : PE X e (tDrp t) := fun pins s σ H Q I hw =>
  thn5 (h pins s σ H _ I hw) fun u s1 v H1 I1 r q => by
    obtain ⟨x, φ, e, q⟩ := q
    exact ⟨v, dn H1 x, I1.drop e, r, q⟩
end L2
namespace L2
open PySem PySem.Spec PyProof.Rows
def IsG (K : PySem.W.Frag) (n : Str) (st : Stmt) : Prop := ∃ f, PySem.W.nsIn K mainGlobals n = some (some (.ref f)) ∧ ∃ fd, Fun K n n st f fd
def IsM (K : PySem.W.Frag) (C : Addr) (n q : Str) (st : Stmt) : Prop := ∃ f, PySem.W.findIn K (.ref C) n = some (some (.ref f)) ∧ PySem.W.isFn K (.ref f) = true ∧ ∃ fd, Fun K n q st f fd
section
variable {K : PySem.W.Frag} {h : Heap} {mg : Str → Option Value} {n q x : Str} {st : Stmt} {f C : Addr} {P : Program} {w : World} {base : Heap} {k : Nat} {ps : List Str} {sp : Sp}
theorem isM {oc kV doc pm cdv ct : Value} {od an : Option Addr} {osl : Array (Option Value)} (a : PySem.W.findIn K (.ref C) n = some (some (.ref f))) (i : PySem.W.isFn K (.ref f) = true) (l : K.lookup f = some ⟨oc, od, .func (PySem.W.fnOf n q (defArgs st) (defBody st) (defScope st) .none kV doc pm an cdv ct), osl⟩) (c : PySem.W.codeIn K cdv q = true) (kp : PySem.W.keepIn K (.ref f) = true) : IsM K C n q st := ⟨f, a, i, _, fun_mk l c kp⟩
theorem isG {oc kV doc pm cdv ct : Value} {od an : Option Addr} {osl : Array (Option Value)} (a : PySem.W.nsIn K mainGlobals n = some (some (.ref f))) (l : K.lookup f = some ⟨oc, od, .func (PySem.W.fnOf n n (defArgs st) (defBody st) (defScope st) .none kV doc pm an cdv ct), osl⟩) (c : PySem.W.codeIn K cdv n = true) (kp : PySem.W.keepIn K (.ref f) = true) : IsG K n st := ⟨f, a, _, fun_mk l c kp⟩
def BA (x q : Str) (st : Stmt) (ps : List Str) (us : List Value) : Prop := ∀ (kV doc pm : Value) (an : Option Addr) (cdv ct : Value), bindArgs (PySem.W.fnOf x q (defArgs st) (defBody st) (defScope st) .none kV doc pm an cdv ct) ⟨us, []⟩ = pure (ps.zip us)
def Bnd (x q : Str) (st : Stmt) (ps : List Str) : Prop := ∀ (kV doc pm : Value) (an : Option Addr) (cdv ct : Value) (us : List Value), us.length = ps.length → bindArgs (PySem.W.fnOf x q (defArgs st) (defBody st) (defScope st) .none kV doc pm an cdv ct) ⟨us, []⟩ = pure (ps.zip us)
noncomputable def AllV : Nat → (List Value → Prop) → Prop
  | 0, p => p []
  | n + 1, p => ∀ a, AllV n fun us => p (a :: us)
theorem allV : ∀ (n : Nat) (p : List Value → Prop), AllV n p → ∀ us : List Value, us.length = n → p us
  | 0, p, h, us, e => by
    cases us with
    | nil => exact h
    | cons a us => cases e
  | n + 1, p, h, us, e => by
    cases us with
    | nil => cases e
    | cons a us => exact allV n _ (h a) us (Nat.succ.inj e)
theorem bnd {x q : Str} {st : Stmt} {ps : List Str} (h : AllV ps.length (BA x q st ps)) : Bnd x q st ps := fun kV doc pm an cdv ct us e => allV _ _ h us e kV doc pm an cdv ct
theorem getG (i : IsG K n st) (X : K.In h) (G : h.Ns mainGlobals mg) (b : Bnd n n st ps) : ∃ f fd, Fun K n n st f fd ∧ Binds K fd ps [] ∧ PySem.W.keepIn K (.ref f) = true ∧ mg n = some (.ref f) := by
  obtain ⟨f, a, fd, F⟩ := i
  exact ⟨f, fd, F, F.binds b, F.kp, PySem.W.mg_of X G a⟩
theorem hasG (i : IsG K n st) (X : K.In h) (G : h.Ns mainGlobals mg) (o : ∀ f fd, Fun K n n st f fd → Binds K fd ps [] → PySem.W.keepIn K (.ref f) = true → mg n = some (.ref f) → FnOk P w K mg base CX0 k f fd ps sp) (b : Bnd n n st ps := by exact bnd (by (repeat intro _); rfl)) : Has P w K mg base n k ps sp := by
  obtain ⟨f, fd, F, B, kp, m⟩ := getG i X G b
  exact ⟨f, fd, o f fd F B kp m, B, kp, m⟩
end
end L2
namespace L2
open PySem PySem.Spec PyProof.Rows
structure HasE0 (K : PySem.W.Frag) (mg : Str → Option Value) (C : Addr) (x y : Str) : Prop where
  ex : ∃ Y mC mY, XC0 K C Y mC mY ∧ (∀ h : Heap, K.In h → TE.Plain0 h C tlV "ValueError.__new__") ∧ (∀ h : Heap, K.In h → TE.High h Y tlV) ∧ mg x = some (.ref C) ∧ mg y = some (.ref Y)
noncomputable abbrev xn0 : List Str := ["__getattribute__", "__getattr__", "__class__", "__init__"]
theorem hasE0 {K : PySem.W.Frag} {h : Heap} {mg : Str → Option Value} {C Y : Addr} {x y : Str} (X : K.In h) (G : h.Ns mainGlobals mg) (a : PySem.W.nsIn K mainGlobals x = some (some (.ref C))) (b : PySem.W.nsIn K mainGlobals y = some (some (.ref Y))) (q : xBase K C Y xn0 = true) (r : yIn K Y = true) : HasE0 K mg C x y := by
  obtain ⟨mC, mY, t, p, n, hm⟩ := xbase_of q
  have m1 := n "__getattribute__" (.head _)
  have m2 := n "__getattr__" (.tail _ (.head _))
  have m3 := n "__class__" (.tail _ (.tail _ (.head _)))
  exact ⟨Y, mC, mY, ⟨t, m1.1, m1.2, m2.1, m2.2, m3.1, m3.2, hm⟩, fun h X => p h X (.tail _ (.tail _ (.tail _ (.head _)))), high_of r, PySem.W.mg_of X G a, PySem.W.mg_of X G b⟩
theorem w_ms_raiseZ {X : Cx} {Θ : Tab} {E : XK} {C : Addr} {x y : Str} {c : Nat} {e : Expr} {es : List Expr} {m : M.AM} {np cp pos : Pos} (h : HasE0 X.K X.mg C x y) (W : Leaves X E) (hc : X.calm = true) (hΘ : Θ c = some (C, [])) (hg : Gl X x) (ha : WA X (Θ.w E) (e :: es) m) (ar : Arity m 1) (hdb : (x == ("__debug__" : Str)) = false := by decide)
    (he : notStar e = true := by rfl) (hpl : (backTo cp (starEach (e :: es) X.env)).any (·.1) = false := by rfl) : WS X (Θ.w E) (.Raise (some (.Call (.Name x np) (e :: es) [] cp)) none pos) (M.sRaise0 c m) := by
  delta WA WS at ha ⊢
  obtain ⟨Y, mC, mY, xc, pc, hy, hm, _⟩ := h.ex
  refine ms_raise0 W hc pc (fun h X => ?_) hΘ hg hm ha ar hdb he hpl
  obtain ⟨nm, q, N, bs, sn, sub, ab, col, dd, k0, k1, k2, k3, k5, nw, cl, _⟩ := (xc.two h X).lo
  exact ⟨nm, q, N, bs, _, true, sn, sub, ab, col, dd, k0, k1, k2, k3, k5, nw, cl, by simp⟩
section
variable {K : PySem.W.Frag} {h : Heap} {mg : Str → Option Value} {n q x : Str} {st : Stmt} {C : Addr} {P : Program} {w : World} {base : Heap} {k : Nat} {ps : List Str} {sp : Sp}
theorem hasGH (i : IsG K n st) (X : K.In h) (G : h.Ns mainGlobals mg) (o : ∀ f fd, Fun K n n st f fd → FnOkH P w K mg base CX0 k f fd ps sp) (b : Bnd n n st ps := by exact bnd (by (repeat intro _); rfl)) : HasH P w K mg base n k ps sp := by
  obtain ⟨f, fd, F, B, kp, m⟩ := getG i X G b
  exact ⟨f, fd, o f fd F, B, kp, m⟩
end
end L2
namespace L2
open PySem PySem.Spec PyProof.Rows
noncomputable abbrev Cx.pw (X : Cx) (xe : Value → Shared → Prop) (pn : List (Addr × Obj)) : Cx := { X with xe := xe, pn := pn }
section
variable {X : Cx} {pins pins' : List (Addr × Obj)} {σ : St} {H : Hp} {s : Shared} {xe : Value → Shared → Prop}
theorem Inv.pw (I : Inv X pins σ H s) : Inv (X.pw xe (X.pn ++ pins)) [] σ H s :=
  have o := I.ok
  ⟨⟨o.mod, o.kind, o.glob, o.blt, o.above, o.inj, o.has, o.cab, o.hd, o.frames, o.stk, o.exf, o.bs, o.bsz, o.noex, o.exfs, o.funs, o.frf⟩, I.os, I.bare, I.base, I.loc, I.cell, I.free, I.freeC, fun p hp => I.pin p (by rwa [List.append_nil] at hp), I.hok, I.len, I.tk⟩
theorem Inv.unpw (o : X.Ok) (I : Inv (X.pw xe (X.pn ++ pins)) pins' σ H s) : Inv X pins σ H s :=
  ⟨o, I.os, I.bare, I.base, I.loc, I.cell, I.free, I.freeC, fun p hp => I.pin p (List.mem_append_left _ hp), I.hok, I.len, I.tk⟩
end
def sTryS (PC : Nat → Addr → Prop) (je : Nat) (tb : XK → TS) (th : Nat → Addr → TS) : TS := fun D σ H =>
  tb (fun cls od H1 => ∃ i C, cls = .ref C ∧ PC i C ∧ (∀ dx, od = some dx → ∃ fs, H1 dx = some (.xd fs)) ∧ ∀ (x : Addr) (σ1 : St), H1 x = none → je < σ1.length → th i C (endsK C x od je D) (σ1.set je (some (.ref x))) (upd H1 x (.ext (LiesC C x od)))) D σ H
section
variable {X : Cx} {Y : Addr} {PC : Nat → Addr → Prop} {c n : Str} {je : Nat} {tb : XK → TS} {th : Nat → Addr → TS} {b0 : Stmt} {hb body : List Stmt} {cp hp pos : Pos}
theorem ps_tryS (st : X.stack = X.env :: X.outer) (fr : X.env.frame = some X.env.locals) (hbd : ∀ xe pn E, Leaves (X.pw xe pn) E → PSs (X.pw xe pn) body (tb E)) (hh : ∀ i C, PC i C → ∀ A, A.depth = X.A.depth → A.units = X.A.units → PSs (X.hx A) (b0 :: hb) (th i C)) (hy0 : ∀ h : Heap, X.K.In h → TE.High h Y tlV) (xc : ∀ i C, PC i C → ∃ mC mY, ∀ h : Heap, X.K.In h → TE.Two h C Y "ValueError" tlV mC mY) (hg : Gl X c) (hm : X.mg c = some (.ref Y)) (hN : X.N.Nodup)
    (hn : X.N[je]? = some n) (ln : X.env.scope.names.lookup n = some .local) (hdb : (c == ("__debug__" : Str)) = false) :
    PS X (.Try body [.ExceptHandler (some (.Name c cp)) (some n) (b0 :: hb) hp] [] [] pos) (sTryS PC je tb th) := by
  intro pins s σ H D I h
  refine wpAny_Try_except (wpAny_mono (hbd _ (X.pn ++ pins) _ (fun {pins'} {σ1} {H'} {s'} {x} {C0} {od} {N} I' hN0 hpn xa q => ?_) [] s σ H D I.pw h) (fun fl s1 z => ?_) fun _ _ z => z)
  · obtain ⟨oe, t, tr, a2, a3, a4, a5, a6⟩ := xa
    obtain ⟨i, C, hC, pc, hdx, q⟩ := q
    cases hC
    obtain ⟨mC, mY, tw⟩ := xc i C0 pc
    have I2 : Inv X pins σ1 H' s' := I'.unpw I.ok
    have hfr := I2.ok.frames
    have hl := I2.stack
    rw [st] at hfr hl
    have L0 : X.s₀.heap.objs.size ≤ N := hN0
    have pl : ∀ p ∈ X.pn ++ pins, p.1 < N := fun p hp => hpn p (List.mem_append_left _ hp)
    refine TE.left_n hfr hl fr tr fun m' g => ?_
    have I3 : Inv X pins σ1 H' { s' with heap := m' } := I2.gone st fr tr (Nat.le_trans L0 a4) a5 (fun T z => ⟨Nat.le_trans L0 (a6 T z).1, (a6 T z).2⟩) (fun p hp => ⟨Nat.ne_of_lt (Nat.lt_of_lt_of_le (pl p hp) a4), fun z => Nat.lt_irrefl _ (Nat.lt_of_lt_of_le (pl p hp) (a6 _ z).1)⟩) g
    obtain ⟨oe3, T, b1, b2, tr3, b4⟩ := g.exc
    have b4' : s'.heap.objs.size ≤ T := b4
    have hT : H' T = none := I2.hok.fresh b4'
    obtain ⟨ve, ge, de, _⟩ := tr3.at
    refine wpAny_handleBy_cons (codeAny_handlers_test (Calls.Name_function_global I3.ok.kind hg (Calls.loadGlobal_global (by rw [I3.ok.glob]; exact I3.mod.glob.keeps I3.bk) hm ?_) hdb)) (by intro q; cases q)
    refine TE.hit_up (tw _ I3.kIn) (hy0 _ I3.kIn) (by decide) ge (b1.trans a2) (codeAny_handlers_suite_as ?_)
    refine TE.anewX tr3 fun m4 k4 tr4 => ?_
    have I4 : Inv X pins σ1 H' { s' with heap := m4 } := Inv.gone0 (s := { s' with heap := m' }) I3 st fr tr3 (Nat.le_trans L0 a4) a5 (fun T' z => by cases z; exact ⟨Nat.le_trans I2.sz b4', hT⟩)
      (fun p hp => ⟨Nat.ne_of_lt (Nat.lt_of_lt_of_le (pl p hp) a4), fun z => by cases z; exact Nat.lt_irrefl _ (Nat.lt_of_lt_of_le (Heap.lt_size (I2.pin p hp).1) b4')⟩)
      (fun b o hb _ nT _ => k4 b o hb fun z => nT (by rw [z])) (fun b o hb _ nT _ => ⟨o.slots, k4 b o hb fun z => nT (by rw [z])⟩)
    obtain ⟨v4, ge4, de4, _⟩ := tr4.at
    have nl : x ≠ X.env.locals := fun z => by
      obtain ⟨m, ⟨o, es, ep, ho, hd, _⟩, _⟩ := I4.loc
      rw [← z] at ho
      have := ho.symm.trans ge4
      cases this
      rw [hd] at de4
      cases de4
    have nc : ∀ w a, X.env.cells.lookup w = some a → a ≠ x := fun w a z e => by
      obtain ⟨u, o, ho, hd⟩ := I4.cell w a z
      rw [e] at ho
      have := ho.symm.trans ge4
      cases this
      rw [hd] at de4
      cases de4
    have I5 : Inv X pins σ1 (upd H' x (.ext (LiesC C0 x od))) { s' with heap := m4 } := I4.track (Nat.le_trans L0 a4) a5 nl nc (fun p hp => Nat.ne_of_lt (Nat.lt_of_lt_of_le (pl p hp) a4))
      ⟨⟨oe3, ge4, b1.trans a2, b2.trans a3, fun c z => by rw [de4] at z; cases z⟩, ⟨_, ge4⟩, fun h1 h2 ⟨o', g', r'⟩ z2 => ⟨o', z2 _ g', r'⟩⟩
    refine store_ok (v := .ref x) I5 hN hn (.inl ln) rfl (fun s6 I6 => ?_) (.inr ln)
    refine wpAny_mono (hh i C0 pc (X.A.mark (some (.ref x))) rfl rfl pins s6 _ _ (endsK C0 x od je D) (I6.hx (by rfl)) (q x σ1 a5 (by rw [I2.len]; exact (List.getElem?_eq_some_iff.mp hn).1))) (fun fl s7 z => ?_) fun _ _ z => z.elim
    cases fl with
    | next =>
      obtain ⟨σ7, H7, I7, z⟩ := z
      exact goes_ok (I7.unhx I.ok) hN hn ln fun s8 I8 => z.elim (fun z => ⟨_, _, I8.drop z.1, z.2⟩) fun z => ⟨_, _, I8, z⟩
    | brk =>
      obtain ⟨σ7, H7, I7, z⟩ := z
      exact goes_ok (I7.unhx I.ok) hN hn ln fun s8 I8 => z.elim (fun z => ⟨_, _, I8.drop z.1, z.2⟩) fun z => ⟨_, _, I8, z⟩
    | cont =>
      obtain ⟨σ7, H7, I7, z⟩ := z
      exact goes_ok (I7.unhx I.ok) hN hn ln fun s8 I8 => z.elim (fun z => ⟨_, _, I8.drop z.1, z.2⟩) fun z => ⟨_, _, I8, z⟩
    | ret u =>
      obtain ⟨v, σ7, H7, I7, r7, z⟩ := z
      exact goes_ok (I7.unhx I.ok) hN hn ln fun s8 I8 => z.elim (fun z => ⟨v, _, _, I8.drop z.1, r7, z.2⟩) fun z => ⟨v, _, _, I8, r7, z⟩
  · cases fl with
    | next =>
      obtain ⟨σ', H', I', d⟩ := z
      exact wpAny_execs_nil ⟨σ', H', I'.unpw I.ok, d⟩
    | brk =>
      obtain ⟨σ', H', I', d⟩ := z
      exact ⟨σ', H', I'.unpw I.ok, d⟩
    | cont =>
      obtain ⟨σ', H', I', d⟩ := z
      exact ⟨σ', H', I'.unpw I.ok, d⟩
    | ret u =>
      obtain ⟨v, σ', H', I', r, d⟩ := z
      exact ⟨v, σ', H', I'.unpw I.ok, r, d⟩
end
end L2
namespace L2
open PySem PySem.Spec PyProof.Rows
def spL (C : Addr) (bs : List Bool) : Sp := fun vs H Q _ => ∃ x, vs = [.ref x] ∧ XTr C x H ∧ ∀ H' p, H p = none → H' p = some (.lst (bs.map .bl)) → (∀ y, H y ≠ none → H' y = H y) → Q (.ref p) H'
theorem rel_bls {K : PySem.W.Frag} {ρ : List Addr} {H : Hp} : ∀ (bs : List Bool), RelDs K ρ H (bs.map .bl) (bs.map .bl)
  | [] => rfl
  | b :: bs => ⟨_, _, rfl, rfl, rel_bls bs⟩
section
variable {X : Cx} {Θ : Tab} {Y : Addr} {c n al : Str} {je k kk : Nat} {ps : List Str} {kb : Nat → List Bool} {body : List Stmt} {mb : M.SM} {cp np np' lp hp pos rp' cp' ip ip' vp tp : Pos} {kt : _}
theorem w_ms_tryY (st : X.stack = X.env :: X.outer) (fr : X.env.frame = some X.env.locals) (hbd : ∀ xe pn E, Leaves (X.pw xe pn) E → WSs (X.pw xe pn) (Θ.w E) body mb) (hy0 : ∀ h : Heap, X.K.In h → TE.High h Y tlV) (hr : Room kk X.A) (hk : k ≤ kk)
    (hx : ∀ i C N, 21 ≤ i → i ≤ 26 → Θ i = some (C, N) → ∃ mC mY, XC0 X.K C Y mC mY ∧ PySem.W.kitOne X.K (.ref C) (.type "ValueError") = some true ∧ HasH X.prog X.w X.K X.mg X.base al k ps (spL C (kb i)))
    (hg : Gl X c) (hm : X.mg c = some (.ref Y)) (hga : Gl X al) (hgi : Gl X "isinstance") (hgv : Gl X "ValueError") (bi : X.mg "isinstance" = none) (bv : X.mg "ValueError" = none) (hN : X.N.Nodup) (hn : X.N[je]? = some n) (ln : X.env.scope.names.lookup n = some .local)
    (hdb : (c == ("__debug__" : Str)) = false := by decide) (hdn : (n == ("__debug__" : Str)) = false := by decide) (hcd : (n == ("__classdict__" : Str)) = false := by decide) (hda : (al == ("__debug__" : Str)) = false := by decide) :
    WS X Θ (.Try body [.ExceptHandler (some (.Name c cp)) (some n) [.Return (some (.Tuple [.Call (.Name al lp) [.Name n np] [] cp', .Call (.Name "isinstance" ip) [.Name n np', .Name "ValueError" vp] [] ip'] kt tp)) rp'] hp] [] [] pos) (M.sTryY mb kb) := by
  delta WS WSs at hbd ⊢
  have hh : ∀ i C, (21 ≤ i ∧ i ≤ 26 ∧ ∃ N, Θ i = some (C, N)) → ∀ A, A.depth = X.A.depth → A.units = X.A.units → PSs (X.hx A) [.Return (some (.Tuple [.Call (.Name al lp) [.Name n np] [] cp', .Call (.Name "isinstance" ip) [.Name n np', .Name "ValueError" vp] [] ip'] kt tp)) rp'] (tRet (tTup (tCons (tCall (spL C (kb i)) [] E0 (tCons (tVar je) tNil)) (tCons (tDrp (tCB (rIsX C (.ty "ValueError") true) (tCons (tVar je) (tCons (tC (.ty "ValueError")) tNil)))) tNil)))) := fun i C ⟨h1, h2, N, h3⟩ A ed eu => by
    obtain ⟨mC, mY, xc, kv, hal⟩ := hx i C N h1 h2 h3
    have ra : RoomH kk A := ⟨by rw [ed]; exact hr.dp, by rw [eu]; exact hr.un⟩
    exact pss_one (ps_ret (pe_tup (pa_cons (pe_callI (X := X.hx A) hal ra hk hga (pa_cons (pe_var (X := X.hx A) hn (.inl ln) hdn hcd) pa_nil) pass0 hda rfl rfl) (pa_cons (pe_drp (pe_callB (X := X.hx A) (call_isX (X := X.hx A) xc (c := .ty "ValueError") (fun w h => h) kv) hgi bi rfl (pa_cons (pe_var (X := X.hx A) hn (.inl ln) hdn hcd) (pa_cons (pe_bltn (X := X.hx A) (v := .ty "ValueError") (u := .type "ValueError") hgv bv rfl rfl) pa_nil)))) pa_nil))))
  refine (ps_tryS (PC := fun i C => 21 ≤ i ∧ i ≤ 26 ∧ ∃ N, Θ i = some (C, N)) (tb := fun E => RdS X.K (Θ.w E) mb) st fr hbd hh hy0 (fun i C z => by
    obtain ⟨h1, h2, N, h3⟩ := z
    obtain ⟨mC, mY, xc, _⟩ := hx i C N h1 h2 h3
    exact ⟨mC, mY, xc.two⟩) hg hm hN hn ln hdb).imp fun D σ H ⟨ρ, σ', S, sr, rp, h⟩ => ⟨ρ, σ', S, sr, rp.w, ?_⟩
  unfold M.sTryY at h
  cases hq : mb σ' S with
  | no => rw [hq] at h; exact h.elim
  | bk a s => rw [hq] at h; exact h.elim
  | ct a s => rw [hq] at h; exact h.elim
  | nx a S1 =>
    rw [hq] at h
    exact fun ρ' H' v p l r rd => h ρ' H' v p l r.unw rd
  | rt d S1 =>
    rw [hq] at h
    exact fun ρ' H' v p l r rd => h ρ' H' v p l r.unw rd
  | exc a σ1 S1 =>
    rw [hq] at h
    show PostX X.K _ ρ H a S1
    intro ρ' H' C od p l r ⟨kc, ds, N, ea, ek, alt⟩
    subst ea
    have hod : ∀ dx, od = some dx → ∃ fs, H' dx = some (.xd fs) := by
      rcases alt with ⟨_, _, z⟩ | ⟨dx, vs, z, hdx, _⟩
      · intro dx q; rw [z] at q; cases q
      · intro dx' q; rw [z] at q; cases q; exact ⟨_, hdx⟩
    have h9 : PostS X.K Θ ρ H (if 21 ≤ (kc : Int) ∧ (kc : Int) ≤ 26 then .rt (.tup [.ref S1.length, .bl true]) (S1 ++ [.lst ((kb (kc : Int).toNat).map .bl)]) else .no) D := h
    by_cases z : 21 ≤ (kc : Int) ∧ (kc : Int) ≤ 26
    · rw [if_pos z, Int.toNat_natCast] at h9
      refine ⟨kc, C, rfl, ⟨by lia, by lia, N, ek⟩, hod, fun x σ2 hx0 lj => ?_⟩
      have nx : ∀ {a : Addr} {o : HO}, H' a = some o → a ≠ x := fun q z => by rw [z, hx0] at q; cases q
      have xt : XTr C x (upd H' x (.ext (LiesC C x od))) := ⟨od, upd_same, fun dx q => (hod dx q).imp fun fs w => by rw [upd_ne (nx w)]; exact w⟩
      refine ⟨.ref x, List.getElem?_set_self lj, x, rfl, xt, fun H2 b hb0 hb keep => ⟨.ref x, List.getElem?_set_self lj, x, rfl, ?_, ?_⟩⟩
      · obtain ⟨od', e1, e2⟩ := xt
        exact ⟨od', by rw [keep x (by rw [e1]; exact fun z => by cases z)]; exact e1, fun dx q => (e2 dx q).imp fun fs w => by rw [keep dx (by rw [w]; exact fun z => by cases z)]; exact w⟩
      have kx : H2 x = some (.ext (LiesC C x od)) := (keep x (by rw [upd_same]; exact fun z => by cases z)).trans upd_same
      refine ⟨x, _, kx, by rw [sizeLine_eq]; simp, fun q hq0 => .inr ?_⟩
      have bx : b ≠ x := fun z => by rw [z, upd_same] at hb0; cases hb0
      have hb1 : H' b = none := by rwa [upd_ne bx] at hb0
      have qb : b ≠ q := fun z => by rw [← z, dn_ne bx, hb] at hq0; cases hq0
      have ke : ∀ a o, upd H' b (.lst ((kb kc).map .bl)) a = some o → upd (dn H2 x) q (.tup [.ref b, .bl true]) a = some o := fun a o w => by
        by_cases z1 : a = b
        · subst z1
          rw [upd_same] at w
          rw [upd_ne qb, dn_ne bx, hb, w]
        · rw [upd_ne z1] at w
          have ax := nx w
          have a2 : dn H2 x a = some o := by rw [dn_ne ax, keep a (by rw [upd_ne ax, w]; exact fun z => by cases z), upd_ne ax, w]
          rw [upd_ne fun z => by rw [z, hq0] at a2; cases a2]
          exact a2
      have l1 : Le H' (upd H' b (.lst ((kb kc).map .bl))) := Le.new hb1 _
      have le : Le (upd H' b (.lst ((kb kc).map .bl))) (upd (dn H2 x) q (.tup [.ref b, .bl true])) := ⟨fun a xs w => ke a _ w, fun a o u w => ke a _ w⟩
      have r1 : RepS X.K Θ (ρ' ++ [b]) (S1 ++ [.lst ((kb kc).map .bl)]) (upd H' b (.lst ((kb kc).map .bl))) := r.unw.alloc hb1 ⟨_, upd_same, rel_bls _⟩
      have r2 := r1.stay le fun a ha => by
        obtain ⟨o, w⟩ := r1.tracked ha
        rw [ke a o w, w]
      have hl : (ρ' ++ [b])[S1.length]? = some b := by rw [← r.unw.len]; simp
      exact h9 (ρ' ++ [b]) _ (.ref q) (p.trans (List.prefix_append _ _)) ((l.trans l1).trans le) r2 ⟨q, _, rfl, SqT.of upd_same, _, _, rfl, ⟨b, rfl, hl⟩, _, _, rfl, rfl, rfl⟩
    · rw [if_neg z] at h9; exact h9.elim
end
end L2
namespace TE
open PySem PySem.Builtin
section
variable {pg : Program} {wo : World} {Ar : Around} {Er : Value → Shared → Prop} {s : Shared} {en : Env} {C fi : Addr} {B nw ini : String} {tl : List Value}
theorem make_call {x : Str} {np cp : Pos} {es : List Expr} {Q : Value → Shared → Prop} (F : ExcBaseFacts B nw ini tl) (pl : (backTo cp (starEach es en)).any (·.1) = false)
    (hx : wpAny (model pg wo) Ar (eval (.Name x np) en) (fun v s1 => v = .ref C ∧ wpAny (model pg wo) Ar (evalArgs (.ref C) true (backTo cp (starEach es en)) []) (fun a s2 => a.kw = [] ∧ a.pos.length ≤ sizeLine ∧ Cl s2.heap C fi B nw ini tl ∧
      wpAny (model pg wo) (Ar.under (.builtin "type.__call__" ⟨.ref C :: a.pos, []⟩)) (call (.ref fi) (.ref (s2.heap.objs.size + 1) :: a.pos)) (fun r s3 => r = .none ∧ Q (.ref (s2.heap.objs.size + 1)) s3) Er { s2 with heap := laid s2.heap C a.pos }) Er s1) Er s) :
    wpAny (model pg wo) Ar (eval (.Call (.Name x np) es [] cp) en) Q Er s := by
  refine wpAny_Call_ofName (wpAny_mono hx (fun v s1 h1 => ?_) fun _ _ z => z)
  rw [h1.1]
  unfold callWith
  apply wpAny_bind
  apply wpAny_holding
  refine wpAny_mono h1.2 (fun a s2 h2 => wpAny_bind (wpAny_standAt ?_)) fun _ _ z => z
  obtain ⟨ps, kw⟩ := a
  obtain ⟨rfl, z, c, h3⟩ := h2
  obtain ⟨m, gs, dr, k, sy⟩ := s2
  obtain ⟨nm, qn, N, bs, tl', hd, sn, sub, ab, col, dd, k0, k1, k2, k3, k5, mN, of, cl, _⟩ := id c.ex
  simp only [pl]
  apply wpAny_bind
  apply wpAny_keeperOf_exc cl
  apply wpAny_bind
  refine made F c z (wpAny_mono h3 (fun r s3 h4 => ⟨h4.1, ?_⟩) fun _ _ z => z)
  apply wpAny_bind
  apply wpAny_holding
  apply wpAny_point
  exact wpAny_pure h4.2
end
end TE
namespace L2
open PySem PySem.Spec PyProof.Rows
def tMk1 (C : Addr) (n : Str) (t : TA) : TE := fun σ H Q => t σ H fun vs H1 => ∃ y, vs = [y] ∧ ∀ x p dx, H1 x = none → H1 dx = none → dx ≠ x → Q (.ref x) (upd (upd H1 x (.ext (DictX C x p dx))) dx (.xd [(n, y)]))
def tMk2 (C : Addr) (n n' : Str) (t : TA) : TE := fun σ H Q => t σ H fun vs H1 => ∃ y z, vs = [y, z] ∧ ∀ x p dx, H1 x = none → H1 dx = none → dx ≠ x → Q (.ref x) (upd (upd H1 x (.ext (DictX C x p dx))) dx (.xd [(n, y), (n', z)]))
theorem upd3 {H : Hp} {x dx : Addr} {a b c : HO} : upd (upd (upd H x a) x b) dx c = upd (upd H x b) dx c := by
  funext q
  by_cases z : q = dx
  · rw [z, upd_same, upd_same]
  · rw [upd_ne z, upd_ne z]
    by_cases z2 : q = x
    · rw [z2, upd_same, upd_same]
    · rw [upd_ne z2, upd_ne z2, upd_ne z2]
section
variable {X : Cx} {C Y fi : Addr} {mC mY : Str → Option Value} {n n' x : Str} {k : Nat} {fd : FuncData} {ps : List Str} {e : Expr} {es : List Expr} {t : TA} {np cp : Pos}
theorem pe_mk1 (xc : XCls X.K C Y fi mC mY) (F : FnOk X.prog X.w X.K X.mg X.base CX0 k fi fd ps (spI C n)) (hr : Room (k + 1) X.A) (hb : Binds X.K fd ps []) (hg : Gl X x) (hm : X.mg x = some (.ref C)) (ha : PA X (e :: es) t) (hdb : (x == ("__debug__" : Str)) = false := by decide)
    (he : starEach (e :: es) X.env = (false, eval e X.env) :: starEach es X.env := by rfl) (hpl : (backTo cp (starEach (e :: es) X.env)).any (·.1) = false := by rfl) : PE X (.Call (.Name x np) (e :: es) [] cp) (tMk1 C n t) := by
  intro pins s σ H Q I h
  refine TE.make_call (fi := fi) PySem.F.excBase_ValueError hpl (ld_glob I hg hm ⟨rfl, ?_⟩ hdb)
  have ha' := ha cp pins s σ H _ I h
  rw [he] at ha' ⊢
  refine Calls.evalArgs_plain (thn ha' fun us s1 ⟨vs, H1, I1, r, y, hv, q⟩ => ?_)
  subst hv
  obtain ⟨u, rfl, ru⟩ := vals1 r
  refine ⟨rfl, by rw [sizeLine_eq]; simp, xc.cl s1.heap I1.kIn, ?_⟩
  have xn : H1 (s1.heap.objs.size + 1) = none := I1.hok.fresh (Nat.le_succ _)
  have hl := TE.laid_new (m := s1.heap) (C := C) (us := [u])
  have I2 : Inv X pins σ (upd H1 (s1.heap.objs.size + 1) (.ext (BareX C (s1.heap.objs.size + 1) s1.heap.objs.size))) { s1 with heap := TE.laid s1.heap C [u], toks := s1.toks } :=
    I1.laid (fun b ob q => TE.laid_old q) (Nat.le_succ _) ⟨hl, ⟨_, hl⟩, fun h1 h2 z1 z2 => z2 _ z1⟩
  obtain ⟨xa, hxa⟩ : ∃ xa, xa = s1.heap.objs.size + 1 := ⟨_, rfl⟩
  rw [← hxa] at I2 xn hl ⊢
  have hlen : ([.ref xa, u] : List Value).length = ps.length := by
    have := F.len [.ref xa, y] (upd H1 xa (.ext (BareX C xa s1.heap.objs.size))) (fun _ _ => True) E0 ⟨xa, s1.heap.objs.size, y, rfl, upd_same, fun _ _ _ => trivial⟩
    rw [← this]; rfl
  have run := F.run (X.A.under (.builtin "type.__call__" ⟨.ref C :: [u], []⟩)) X.stack _ _ ⟨[.ref xa, u], []⟩ [.ref xa, u] [.ref xa, y] (fun v H3 => v = .non ∧ ∃ dx, H1 dx = none ∧ dx ≠ xa ∧ H3 = upd (upd (upd H1 xa (.ext (BareX C xa s1.heap.objs.size))) xa (.ext (DictX C xa s1.heap.objs.size dx))) dx (.xd [(n, y)])) E0 (hr.make C [u] []) (I2.env0.make C [u] []) (.inl I2.tk)
    (by have := hb { s1 with heap := TE.laid s1.heap C [u], toks := s1.toks } [.ref xa, u] I2.kIn (by rw [List.append_nil]; exact hlen); rwa [List.append_nil] at this) (.cons rfl (.cons ru .nil))
    ⟨xa, s1.heap.objs.size, y, rfl, upd_same, fun dx h0 hne => ⟨rfl, dx, by rwa [upd_ne hne] at h0, hne, rfl⟩⟩
  refine wpAny_call (codeAny_mono (codeAny_toks_of (n := 1) I2.tk run) fun res s' ⟨htk, hq⟩ => ?_)
  cases res with
  | error e => exact False.elim hq
  | ok fl =>
    cases fl with
    | ret v =>
      obtain ⟨v', H3, I3, rv, hv', dx, h0, hne, hH⟩ := I2.after hq htk
      subst hv'
      rw [upd3] at hH
      subst hH
      exact ⟨rv, .ref xa, _, I3, rfl, q xa _ dx xn h0 hne⟩
    | next => exact False.elim hq
    | brk => exact False.elim hq
    | cont => exact False.elim hq
theorem pe_mk2 (xc : XCls X.K C Y fi mC mY) (F : FnOk X.prog X.w X.K X.mg X.base CX0 k fi fd ps (spI2 C n n')) (hr : Room (k + 1) X.A) (hb : Binds X.K fd ps []) (hg : Gl X x) (hm : X.mg x = some (.ref C)) (ha : PA X (e :: es) t) (hdb : (x == ("__debug__" : Str)) = false := by decide)
    (he : starEach (e :: es) X.env = (false, eval e X.env) :: starEach es X.env := by rfl) (hpl : (backTo cp (starEach (e :: es) X.env)).any (·.1) = false := by rfl) : PE X (.Call (.Name x np) (e :: es) [] cp) (tMk2 C n n' t) := by
  intro pins s σ H Q I h
  refine TE.make_call (fi := fi) PySem.F.excBase_ValueError hpl (ld_glob I hg hm ⟨rfl, ?_⟩ hdb)
  have ha' := ha cp pins s σ H _ I h
  rw [he] at ha' ⊢
  refine Calls.evalArgs_plain (thn ha' fun us s1 ⟨vs, H1, I1, r, y, z, hv, q⟩ => ?_)
  subst hv
  obtain ⟨u, u', rfl, ru, ru'⟩ := vals2 r
  refine ⟨rfl, by rw [sizeLine_eq]; simp, xc.cl s1.heap I1.kIn, ?_⟩
  have xn : H1 (s1.heap.objs.size + 1) = none := I1.hok.fresh (Nat.le_succ _)
  have hl := TE.laid_new (m := s1.heap) (C := C) (us := [u, u'])
  have I2 : Inv X pins σ (upd H1 (s1.heap.objs.size + 1) (.ext (BareX C (s1.heap.objs.size + 1) s1.heap.objs.size))) { s1 with heap := TE.laid s1.heap C [u, u'], toks := s1.toks } :=
    I1.laid (fun b ob q => TE.laid_old q) (Nat.le_succ _) ⟨hl, ⟨_, hl⟩, fun h1 h2 z1 z2 => z2 _ z1⟩
  obtain ⟨xa, hxa⟩ : ∃ xa, xa = s1.heap.objs.size + 1 := ⟨_, rfl⟩
  rw [← hxa] at I2 xn hl ⊢
  have hlen : ([.ref xa, u, u'] : List Value).length = ps.length := by
    have := F.len [.ref xa, y, z] (upd H1 xa (.ext (BareX C xa s1.heap.objs.size))) (fun _ _ => True) E0 ⟨xa, s1.heap.objs.size, y, z, rfl, upd_same, fun _ _ _ => trivial⟩
    rw [← this]; rfl
  have run := F.run (X.A.under (.builtin "type.__call__" ⟨.ref C :: [u, u'], []⟩)) X.stack _ _ ⟨[.ref xa, u, u'], []⟩ [.ref xa, u, u'] [.ref xa, y, z] (fun v H3 => v = .non ∧ ∃ dx, H1 dx = none ∧ dx ≠ xa ∧ H3 = upd (upd (upd H1 xa (.ext (BareX C xa s1.heap.objs.size))) xa (.ext (DictX C xa s1.heap.objs.size dx))) dx (.xd [(n, y), (n', z)])) E0 (hr.make C [u, u'] []) (I2.env0.make C [u, u'] []) (.inl I2.tk)
    (by have := hb { s1 with heap := TE.laid s1.heap C [u, u'], toks := s1.toks } [.ref xa, u, u'] I2.kIn (by rw [List.append_nil]; exact hlen); rwa [List.append_nil] at this) (.cons rfl (.cons ru (.cons ru' .nil)))
    ⟨xa, s1.heap.objs.size, y, z, rfl, upd_same, fun dx h0 hne => ⟨rfl, dx, by rwa [upd_ne hne] at h0, hne, rfl⟩⟩
  refine wpAny_call (codeAny_mono (codeAny_toks_of (n := 1) I2.tk run) fun res s' ⟨htk, hq⟩ => ?_)
  cases res with
  | error e => exact False.elim hq
  | ok fl =>
    cases fl with
    | ret v =>
      obtain ⟨v', H3, I3, rv, hv', dx, h0, hne, hH⟩ := I2.after hq htk
      subst hv'
      rw [upd3] at hH
      subst hH
      exact ⟨rv, .ref xa, _, I3, rfl, q xa _ dx xn h0 hne⟩
    | next => exact False.elim hq
    | brk => exact False.elim hq
    | cont => exact False.elim hq
end
def tXfldD (C : Addr) (je : Nat) (f : Str) : TE := fun σ H Q => ∃ x p dx fs v, σ[je]? = some (some (.ref x)) ∧ H x = some (.ext (DictX C x p dx)) ∧ H dx = some (.xd fs) ∧ fs.lookup f = some v ∧ Q v H
theorem pe_xfldD {X : Cx} {C Y fi : Addr} {mC mY : Str → Option Value} {f n : Str} {je : Nat} {np fp : Pos} (xc : XCls X.K C Y fi mC mY) (hn : X.N[je]? = some n) (ln : X.env.scope.names.lookup n = some .local)
    (g1 : mC "__getattribute__" = none) (g2 : mY "__getattribute__" = none) (h1 : mC "__getattr__" = none) (h2 : mY "__getattr__" = none) (n1 : mC f = none) (n2 : mY f = none) (n3 : typeLookup (.type "ValueError") f = pure none)
    (hdn : (n == ("__debug__" : Str)) = false) (hab : attributeBase (.Name n np) f X.env (eval (.Name n np) X.env) = eval (.Name n np) X.env) : PE X (.Attribute (.Name n np) f fp) (tXfldD C je f) := by
  intro pins s σ H Q I ⟨x, p, dx, fs, v, hs, hx, hd, hl, q⟩
  have ge : s.heap.get? x = some { TE.bare C p with dict := some dx } := (I.hok x _ hx).1
  obtain ⟨m5, hn5, hl5⟩ := I.loc
  obtain ⟨u, ru, lk⟩ := hl5 je n (.ref x) hn hs (.inl ln)
  obtain rfl : u = Value.ref x := ru
  obtain ⟨mA, ns1, ro⟩ := I.hok dx _ hd
  obtain ⟨u', hu, ru'⟩ := RelO.some_of (v := v) (o := mA f) (by have := ro f; rwa [hl] at this)
  have hk : X.env.kindOf n = some .local ∧ m5 n = some (.ref x) := by
    rcases lk with z | ⟨z | z, _⟩
    · exact z
    · have := z.symm.trans ln
      cases this
    · have := z.symm.trans ln
      cases this
  refine attr_of hab (wpAny_Name (wpAny_loadName_local I.ok.kind hk.1 hn5 hk.2 ?_) hdn)
  refine TE.get_field (xc.two _ I.kIn) (by decide) g1 g2 h1 h2 (handed_pure ru') n1 n2 n3 ge rfl (fun c z => by cases z) rfl ns1 hu ?_
  exact ⟨v, H, I.tok _, ru', q⟩
end L2
set_option maxHeartbeats 4000000
namespace M
noncomputable section
def b__law_cell : SM :=
    (sSeq (sIf (tCmp cLt (eVar 1) (eCall fLen (aCons (eVar 0) aNil)))
    (sRet (eOp opIx (eVar 0) (eVar 1)))
    sNil)
    (sRet (eC (.int 0))))
def m__law_cell : F := fn 2 b__law_cell
noncomputable def cellD (xs : List D) (k : Int) : D := xs.getD k.toNat (.int 0)
def q__law_cell : F
  | [.ro xs, .int k], s => if 0 ≤ k then .ok (cellD xs k) s else .no
  | _, _ => .no
theorem atI_in {α : Type} {xs : List α} {k : Int} (h0 : 0 ≤ k) (h : k < xs.length) (d : α) : atI xs k = some (xs.getD k.toNat d) := by
  unfold atI ixN
  rw [if_pos h0, if_pos h]
  have hk : k.toNat < xs.length := by lia
  simp [List.getD_eq_getElem?_getD, hk]
theorem cl_getD {n : Nat} {xs : List D} (h : D.cl.all n xs = true) (k : Nat) (d : D) (hd : D.cl n d = true) : D.cl n (xs.getD k d) = true := by
  induction xs generalizing k with
  | nil => exact hd
  | cons x xs ih =>
    have h' : (D.cl n x && D.cl.all n xs) = true := h
    rw [Bool.and_eq_true] at h'
    cases k with
    | zero => exact h'.1
    | succ k => exact ih h'.2 k
theorem rf__law_cell : Refines 2 m__law_cell q__law_cell := Refines.pure fun ds S hl c ca => by
  match ds, hl with
  | [a, b], _ =>
    cases a with
    | ro xs =>
      cases b with
      | int k =>
        by_cases h0 : 0 ≤ k
        · refine .inr ⟨cellD xs k, [], by simp [q__law_cell, h0], ?_, ?_⟩
          · by_cases h : k < (xs.length : Int)
            · simp [m__law_cell, b__law_cell, h, atI_in h0 h (.int 0), cellD]
            · have h2 : cellD xs k = .int 0 := by unfold cellD; rw [List.getD_eq_getElem?_getD, List.getElem?_eq_none (by lia)]; rfl
              simp [m__law_cell, b__law_cell, h, h2]
          · have ca' : (D.cl.all S.length xs && true) = true := ca
            rw [Bool.and_true] at ca'
            exact cl_getD ca' _ _ rfl
        · exact .inl (by simp [q__law_cell, h0])
      | _ => exact .inl rfl
    | _ => exact .inl rfl
def b__law_raised : SM :=
    (sTryY (sSeq (sIf (tCmp cEq (eVar 0) (eC (.int 0)))
    (sRaise0 23 (aCons (eVar 1) aNil))
    sNil)
    (sSeq (sIf (tCmp cEq (eVar 0) (eC (.int 1)))
    (sRaise0 24 (aCons (eVar 1) aNil))
    sNil)
    (sSeq (sIf (tCmp cEq (eVar 0) (eC (.int 2)))
    (sRaise 21 (aCons (eVar 3) aNil))
    sNil)
    (sSeq (sIf (tCmp cEq (eVar 0) (eC (.int 3)))
    (sRaise 22 (aCons (eVar 2) (aCons (eVar 3) aNil)))
    sNil)
    (sSeq (sIf (tCmp cEq (eVar 0) (eC (.int 4)))
    (sRaise0 25 (aCons (eVar 1) aNil))
    sNil)
    (sRaise0 26 (aCons (eVar 1) aNil))))))) kb15)
def m__law_raised : F := fn 5 b__law_raised
abbrev q__law_raised : F := m__law_raised
noncomputable def bsI (i : Nat) : List D := [.bl (i == 0), .bl (i == 1), .bl (i == 2), .bl (i == 3), .bl (i == 4), .bl (i == 5)]
theorem raised_at {i : Nat} (hi : i < 6) (x : T) (r p : Int) (S : M.S) : m__law_raised [.int i, .str x, .int r, .int p] S = .ok (.tup [.ref S.length, .bl true]) (S ++ [.lst (bsI i)]) := by
  match i, hi with
  | 0, _ => rfl
  | 1, _ => rfl
  | 2, _ => rfl
  | 3, _ => rfl
  | 4, _ => rfl
  | 5, _ => rfl
def p_law_1 : SM :=
    (sSet 1 (eOp opMod (eCall q__law_cell (aCons (eVar 0) (aCons (eC (.int 0)) aNil))) (eC (.int 1000000001))))
def p_law_2 : SM :=
    (sSet 2 (eOp opMod (eCall q__law_cell (aCons (eVar 0) (aCons (eC (.int 1)) aNil))) (eC (.int 1000000001))))
def p_law_3 : SM :=
    (sSet 3 (eOp opIx (eLst (aCons (eC (.str [])) (aCons (eC (.str [97])) (aCons (eC (.str [110, 111, 32, 116, 101, 120, 116])) (aCons (eOp opMul (eC (.str [120])) (eC (.int 99))) aNil))))) (eOp opMod (eCall q__law_cell (aCons (eVar 0) (aCons (eC (.int 2)) aNil))) (eC (.int 4)))))
def p_law_4 : SM :=
    (sFor (iRange1 (eC (.int 6))) (gName 4)
    (sIf (tCmp cNe (eCall q__law_raised (aCons (eVar 4) (aCons (eVar 3) (aCons (eVar 1) (aCons (eVar 2) aNil))))) (eTup (aCons (eComp 1 (iRange1 (eC (.int 6))) (gName 9) tYes (eCmp cEq (eVar 9) (eVar 4))) (aCons (eC (.bl true)) aNil))))
    (sRet (eC (.bl false)))
    sNil))
def p_law_5 : SM :=
    (sTail15 1 2)
def b_law : SM := (sSeq p_law_1 (sSeq p_law_2 (sSeq p_law_3 (sSeq p_law_4 p_law_5))))
def m_law : F := fn 9 b_law
theorem seq_at {a b : SM} {σ : St} {s : S} {r : RS} (h : a σ s = r) : sSeq a b σ s = r.then b := by
  unfold sSeq
  rw [h]
abbrev lwIf : SM := sIf (tCmp cNe (eCall q__law_raised (aCons (eVar 4) (aCons (eVar 3) (aCons (eVar 1) (aCons (eVar 2) aNil))))) (eTup (aCons (eComp 1 (iRange1 (eC (.int 6))) (gName 9) tYes (eCmp cEq (eVar 9) (eVar 4))) (aCons (eC (.bl true)) aNil))))
    (sRet (eC (.bl false)))
    sNil
theorem p4_eq : p_law_4 = sFor (iRange1 (eC (.int 6))) (gName 4) lwIf := rfl
theorem eq15 {S : M.S} {a b i : Nat} (hi : i < 6) (ha : S[a]? = some (.lst (bsI i))) (hb : S[b]? = some (.lst (bsI i))) : eqD (.tup [.ref a, .bl true]) (.tup [.ref b, .bl true]) S = .ok true S := by
  have tp : ∀ c, S[c]? = some (.lst (bsI i)) → toP DEEP S (.tup [.ref c, .bl true]) = some (.tup [.lst [.bl (i == 0), .bl (i == 1), .bl (i == 2), .bl (i == 3), .bl (i == 4), .bl (i == 5)], .bl true]) := fun c h => by
    have h' : lstAt S c = some (bsI i) := by simp only [lstAt, h]
    have g1 : toP DEEP S (.ref c) = some (.lst [.bl (i == 0), .bl (i == 1), .bl (i == 2), .bl (i == 3), .bl (i == 4), .bl (i == 5)]) := by
      show (match lstAt S c with | some xs => (toPg.all (fun j => toP 8 S (.ref j)) xs).map P.lst | none => none) = _
      rw [h']
      rfl
    show (match toP DEEP S (.ref c), some [P.bl true] with | some p, some ps => some (p :: ps) | _, _ => none).map P.tup = _
    rw [g1]
    rfl
  simp only [eqD, tp a ha, tp b hb]
  rw [if_pos (by constructor <;> exact Nat.le_of_ble_eq_true rfl)]
  match i, hi with
  | 0, _ => rfl
  | 1, _ => rfl
  | 2, _ => rfl
  | 3, _ => rfl
  | 4, _ => rfl
  | 5, _ => rfl
theorem step15 {v0 v5 v6 v7 v8 : Option D} {i : Nat} (hi : i < 6) {x : T} {r p : Int} {v4 : Option D} {S : M.S} : forF (gName 4) lwIf (.int i) [v0, some (.int r), some (.int p), some (.str x), v4, v5, v6, v7, v8] S = .nx [v0, some (.int r), some (.int p), some (.str x), some (.int i), v5, v6, v7, v8] (S ++ [.lst (bsI i), .lst (bsI i)]) := by
  show lwIf [v0, some (.int r), some (.int p), some (.str x), some (.int i), v5, v6, v7, v8] S = _
  have e1 : (eCall q__law_raised (aCons (eVar 4) (aCons (eVar 3) (aCons (eVar 1) (aCons (eVar 2) aNil))))) [v0, some (.int r), some (.int p), some (.str x), some (.int i), v5, v6, v7, v8] S = .ok (.tup [.ref S.length, .bl true]) (S ++ [.lst (bsI i)]) := raised_at hi x r p S
  have e2 : (eTup (aCons (eComp 1 (iRange1 (eC (.int 6))) (gName 9) tYes (eCmp cEq (eVar 9) (eVar 4))) (aCons (eC (.bl true)) aNil))) [v0, some (.int r), some (.int p), some (.str x), some (.int i), v5, v6, v7, v8] (S ++ [.lst (bsI i)]) = .ok (.tup [.ref (S ++ [O.lst (bsI i)]).length, .bl true]) (S ++ [.lst (bsI i)] ++ [.lst (bsI i)]) := by
    match i, hi with
    | 0, _ => rfl
    | 1, _ => rfl
    | 2, _ => rfl
    | 3, _ => rfl
    | 4, _ => rfl
    | 5, _ => rfl
  have eq := eq15 (S := S ++ [.lst (bsI i)] ++ [.lst (bsI i)]) (a := S.length) (b := (S ++ [O.lst (bsI i)]).length) hi (by simp) (by simp)
  unfold lwIf sIf tCmp
  rw [e1, R.bind_ok, e2, R.bind_ok, cNe, eq, List.append_assoc]
  rfl
noncomputable def four : List D := [.str [], .str [97], .str [110, 111, 32, 116, 101, 120, 116], .str (List.replicate 99 [120]).flatten]
theorem op_at {f : D → D → M.S → R D} {a b : EM} {σ : St} {s s1 s2 : M.S} {x y : D} (ha : a σ s = .ok x s1) (hb : b σ s1 = .ok y s2) : eOp f a b σ s = f x y s2 := by
  rw [eOp, ha, R.bind_ok, hb, R.bind_ok]
theorem law_true (ns : List Int) (hl : ns.length ≤ 63) : ∃ s, m_law [.ro (ns.map .int)] [] = .ok (.bl true) s := by
  have hc : ∀ k : Nat, ∃ c, cellD (ns.map .int) k = .int c := fun k => by
    unfold cellD
    rw [List.getD_eq_getElem?_getD, List.getElem?_map]
    cases ns[(k : Int).toNat]? with
    | none => exact ⟨0, rfl⟩
    | some a => exact ⟨a, rfl⟩
  obtain ⟨a, ha⟩ := hc 0
  obtain ⟨b, hb⟩ := hc 1
  obtain ⟨c, hcc⟩ := hc 2
  have ha : cellD (ns.map .int) 0 = .int a := ha
  have hb : cellD (ns.map .int) 1 = .int b := hb
  have hcc : cellD (ns.map .int) 2 = .int c := hcc
  have z4 : (4 : Nat) ≤ SZ := by decide
  show ∃ s, (b_law [some (.ro (ns.map .int)), none, none, none, none, none, none, none, none] []).out = _
  have e1 : p_law_1 [some (.ro (ns.map .int)), none, none, none, none, none, none, none, none] [] = .nx [some (.ro (ns.map .int)), some (.int (a % 1000000001)), none, none, none, none, none, none, none] [] := by
    simp [p_law_1, q__law_cell, ha]
  have e2 : p_law_2 [some (.ro (ns.map .int)), some (.int (a % 1000000001)), none, none, none, none, none, none, none] [] = .nx [some (.ro (ns.map .int)), some (.int (a % 1000000001)), some (.int (b % 1000000001)), none, none, none, none, none, none] [] := by
    simp [p_law_2, q__law_cell, hb]
  obtain ⟨x, hx⟩ : ∃ x, atI four (c % 4) = some (.str x) := by
    rcases (by lia : c % 4 = 0 ∨ c % 4 = 1 ∨ c % 4 = 2 ∨ c % 4 = 3) with h | h | h | h <;> rw [h] <;> exact ⟨_, rfl⟩
  have e3 : p_law_3 [some (.ro (ns.map .int)), some (.int (a % 1000000001)), some (.int (b % 1000000001)), none, none, none, none, none, none] [] = .nx [some (.ro (ns.map .int)), some (.int (a % 1000000001)), some (.int (b % 1000000001)), some (.str x), none, none, none, none, none] [.lst four] := by
    have eL : (eLst (aCons (eC (.str [])) (aCons (eC (.str [97])) (aCons (eC (.str [110, 111, 32, 116, 101, 120, 116])) (aCons (eOp opMul (eC (.str [120])) (eC (.int 99))) aNil))))) [some (.ro (ns.map .int)), some (.int (a % 1000000001)), some (.int (b % 1000000001)), none, none, none, none, none, none] [] = .ok (.ref 0) [.lst four] := by
      simp [z4, four]
    have eI : (eOp opMod (eCall q__law_cell (aCons (eVar 0) (aCons (eC (.int 2)) aNil))) (eC (.int 4))) [some (.ro (ns.map .int)), some (.int (a % 1000000001)), some (.int (b % 1000000001)), none, none, none, none, none, none] [.lst four] = .ok (.int (c % 4)) [.lst four] := by
      simp [q__law_cell, hcc]
    have eX : opIx (.ref 0) (.int (c % 4)) [.lst four] = .ok (.str x) [.lst four] := by
      simp [hx]
    rw [p_law_3, sSet, op_at eL eI, eX]
    rfl
  have e4 : ∃ S, p_law_4 [some (.ro (ns.map .int)), some (.int (a % 1000000001)), some (.int (b % 1000000001)), some (.str x), none, none, none, none, none] [.lst four] = .nx [some (.ro (ns.map .int)), some (.int (a % 1000000001)), some (.int (b % 1000000001)), some (.str x), some (.int 5), none, none, none, none] S := by
    rw [p4_eq]
    have hr : iRange1 (eC (.int 6)) [some (.ro (ns.map .int)), some (.int (a % 1000000001)), some (.int (b % 1000000001)), some (.str x), none, none, none, none, none] [.lst four] = .ok ([.int (0 : Nat), .int (1 : Nat), .int (2 : Nat), .int (3 : Nat), .int (4 : Nat), .int (5 : Nat)], []) [.lst four] := rfl
    unfold sFor
    rw [hr, R.stm_ok]
    dsimp only []
    rw [if_pos (show gdOk _ _ = true from rfl)]
    have gd : ∀ S : M.S, gdOk [] S = true := fun _ => rfl
    have st : ∀ {i : Nat} {v : Option D} {xs : List D} {S : M.S}, i < 6 → forL [] (forF (gName 4) lwIf) (.int i :: xs) [some (.ro (ns.map .int)), some (.int (a % 1000000001)), some (.int (b % 1000000001)), some (.str x), v, none, none, none, none] S = forL [] (forF (gName 4) lwIf) xs [some (.ro (ns.map .int)), some (.int (a % 1000000001)), some (.int (b % 1000000001)), some (.str x), some (.int i), none, none, none, none] (S ++ [.lst (bsI i), .lst (bsI i)]) := fun hi => by
      rw [forL, step15 hi]
      rfl
    rw [st (by decide), st (by decide), st (by decide), st (by decide), st (by decide), st (by decide)]
    exact ⟨_, rfl⟩
  obtain ⟨S, e4⟩ := e4
  refine ⟨S, ?_⟩
  unfold b_law
  rw [seq_at e1, RS.then_nx, seq_at e2, RS.then_nx, seq_at e3, RS.then_nx, seq_at e4, RS.then_nx]
  rfl
end
end M
namespace My
open PySem L2 PyProof.Rows
noncomputable def top (i : Nat) : Stmt := PySem.Challenge.pw_thingyard_k15_refusals_apart.main.body.getD i (.Pass ⟨0, 0, 0, 0⟩)
theorem vv {X : Cx} {Θ : Tab} {pos : Pos} {x : Str} (i : Nat) (h1 : X.N[i]? = some x := by rfl) (h2 : Vis X.env.scope x := by exact Or.inl (by kernel_rfl)) (h3 : (x == ("__debug__" : Str)) = false := by kernel_rfl) (h4 : (x == ("__classdict__" : Str)) = false := by kernel_rfl) : WE X Θ (.Name x pos) (M.eVar i) := w_me_var i h1 h2 h3 h4
theorem vc {X : Cx} {Θ : Tab} {pos : Pos} {x : Str} (i : Nat) (h1 : X.N[i]? = some x := by rfl) (h2 : Vis X.env.scope x := by exact Or.inr (Or.inl (by kernel_rfl))) (h3 : (x == ("__debug__" : Str)) = false := by kernel_rfl) (h4 : (x == ("__classdict__" : Str)) = false := by kernel_rfl) : WE X Θ (.Name x pos) (M.eVar i) := w_me_var i h1 h2 h3 h4
theorem zz {X : Cx} {Θ : Tab} {pos : Pos} {y : M.T} {x : Str} {j : Nat} (h : x = ofT y := by decide +kernel) (ok : okT y := by decide +kernel) : WE X Θ (.Constant (.str x) j pos) (M.eC (.str y)) := w_me_str h ok
theorem gk {X : Cx} {x : Str} (h : X.env.kindOf x = some .globalImplicit := by kernel_rfl) : Gl X x := h
abbrev cX (P : Program) (w : World) (K : PySem.W.Frag) (mg : Str → Option Value) (base : Heap) (N : List Str) (n : Str) (st : Stmt) (f : Addr) (cdv : Value) (A : Around) (outer : List Env) (s : Shared) (H : Hp) (E : XK) : Cx := (cxOf CX0 P w K mg base N n (defScope st) f cdv A outer s H E).nox
abbrev RM (k : Nat) (n : Str) (st : Stmt) (A : Around) (s : Shared) (f : Addr) (cdv : Value) : Prop := Room k (A.deeper (envOfC n (defScope st) s.heap.objs.size f cdv))
abbrev bd (st : Stmt) (j : Nat) : Stmt := (defBody st).getD j (.Pass ⟨0, 0, 0, 0⟩)
def lawSp (K : PySem.W.Frag) : Sp := fun vs H Q E => ∀ Θ : Tab, SpM K Θ 1 M.m_law vs H Q E
theorem lawSp_in {K : PySem.W.Frag} {H : Hp} {a : Addr} {ns : List Int} {E : XK} (hl : ns.length ≤ 63) (hO : Only H) (hS : SqL K H a (ns.map V.int)) : lawSp K [.ref a] H (fun v _ => v = .bl true) E := fun _ => law_sp M.law_true hl hO hS
def Θ1 (C_BadBook C_BadBound C_BadName C_BadRecipe C_BadText C_NoThing : Addr) : Tab := ⟨fun c => if c = 22 then some (C_BadBook, ["row", "place"]) else if c = 25 then some (C_BadBound, []) else if c = 24 then some (C_BadName, []) else if c = 21 then some (C_BadRecipe, ["place"]) else if c = 23 then some (C_BadText, []) else if c = 26 then some (C_NoThing, []) else none, fun _ => 0, fun _ _ _ => False⟩
section
variable (P : Program) (w : World) (K : PySem.W.Frag) (mg : Str → Option Value) (base : Heap) (C_BadBook C_BadBound C_BadName C_BadRecipe C_BadText C_NoThing : Addr)
abbrev T__law_cell : Prop := Has P w K mg base "_law_cell" 1 ["_law_script", "_law_k"] (SpM K (Θ1 C_BadBook C_BadBound C_BadName C_BadRecipe C_BadText C_NoThing) 2 M.q__law_cell)
abbrev T__law_raised : Prop := Has P w K mg base "_law_raised" 3 ["_law_way", "_law_word", "_law_row", "_law_place"] (SpM K (Θ1 C_BadBook C_BadBound C_BadName C_BadRecipe C_BadText C_NoThing) 4 M.q__law_raised)
end
variable {P : Program} {w : World} {K : PySem.W.Frag} {mg : Str → Option Value} {base : Heap} {f : Addr} {fd : FuncData} {cdv : Value} {A : Around} {outer : List Env} {s : Shared} {H : Hp} {E : XK} {C_BadBook C_BadBound C_BadName C_BadRecipe C_BadText C_NoThing : Addr}
abbrev TE_BadBook (P : Program) (w : World) (K : PySem.W.Frag) (mg : Str → Option Value) (base : Heap) (C_BadBook : Addr) : Prop := HasE2 P w K mg base C_BadBook "BadBook" 1 ["self", "row", "place"] "row" "place"
abbrev TE_BadBound (P : Program) (w : World) (K : PySem.W.Frag) (mg : Str → Option Value) (base : Heap) (C_BadBound : Addr) : Prop := HasE0 K mg C_BadBound "BadBound" "YardError"
abbrev TE_BadName (P : Program) (w : World) (K : PySem.W.Frag) (mg : Str → Option Value) (base : Heap) (C_BadName : Addr) : Prop := HasE0 K mg C_BadName "BadName" "YardError"
abbrev TE_BadRecipe (P : Program) (w : World) (K : PySem.W.Frag) (mg : Str → Option Value) (base : Heap) (C_BadRecipe : Addr) : Prop := HasE P w K mg base C_BadRecipe "BadRecipe" 1 ["self", "place"] "place"
abbrev TE_BadText (P : Program) (w : World) (K : PySem.W.Frag) (mg : Str → Option Value) (base : Heap) (C_BadText : Addr) : Prop := HasE0 K mg C_BadText "BadText" "YardError"
abbrev TE_NoThing (P : Program) (w : World) (K : PySem.W.Frag) (mg : Str → Option Value) (base : Heap) (C_NoThing : Addr) : Prop := HasE0 K mg C_NoThing "NoThing" "YardError"
abbrev s__law_cell : Stmt := top 9
noncomputable abbrev N__law_cell : List Str := ["_law_script", "_law_k"]
theorem sc__law_cell : FnScope N__law_cell ["_law_script", "_law_k"] (defScope s__law_cell) := ⟨rfl, rfl, rfl, by decide +kernel, rfl, by decide +kernel, by decide +kernel⟩
theorem ok__law_cell (F : Fun K "_law_cell" "_law_cell" s__law_cell f fd) (b_len : mg "len" = none) :
    FnOk P w K mg base CX0 1 f fd ["_law_script", "_law_k"] (SpM K (Θ1 C_BadBook C_BadBound C_BadName C_BadRecipe C_BadText C_NoThing) 2 M.q__law_cell) := by
  refine w_fun_M (b := M.b__law_cell) F sc__law_cell M.rf__law_cell fun cdv A outer s H E hr => ?_
  unfold M.b__law_cell
  exact (w_mss_cons (w_ms_if (w_mt_cmp u_lt ad_lt (vv 1) (w_me_callB call_lenM ad_len gk b_len bt_len (w_ma_cons (vv 0) w_ma_nil)) (nomark _))
    (w_mss_one (w_ms_ret (w_me_ix (ix_M hr) ad_ix (vv 0) (vv 1))))
    w_mss_nil)
    (w_mss_one (w_ms_ret w_me_int)))
abbrev s__law_kinds : Stmt := top 10
theorem sc__law_kinds : FnScope ["_law_e", "_law_some"] ["_law_e"] (defScope s__law_kinds) := ⟨rfl, rfl, rfl, by decide +kernel, rfl, by decide +kernel, by decide +kernel⟩
theorem unupd {H : Hp} {p q : Addr} {o : HO} (h : upd H p o q = none) : q ≠ p ∧ H q = none := by
  by_cases z : q = p
  · rw [z, upd_same] at h; cases h
  · rw [upd_ne z] at h; exact ⟨z, h⟩
theorem xt_up {C x p : Addr} {H : Hp} {o : HO} (hx : XTr C x H) (hp : H p = none) : XTr C x (upd H p o) := by
  obtain ⟨od, h1, h2⟩ := hx
  exact ⟨od, by rw [upd_ne (ne_of_none h1 hp)]; exact h1, fun dx z => (h2 dx z).imp fun fs w => by rw [upd_ne (ne_of_none w hp)]; exact w⟩
theorem ok__law_kinds {C Y A1 A2 A3 A4 A5 A6 : Addr} {mC mY : Str → Option Value} {b1 b2 b3 b4 b5 b6 : Bool} (F : Fun K "_law_kinds" "_law_kinds" s__law_kinds f fd) (xc : XC0 K C Y mC mY) (b_isinstance : mg "isinstance" = none) (m1 : mg "BadText" = some (.ref A1)) (m2 : mg "BadName" = some (.ref A2)) (m3 : mg "BadRecipe" = some (.ref A3)) (m4 : mg "BadBook" = some (.ref A4)) (m5 : mg "BadBound" = some (.ref A5)) (m6 : mg "NoThing" = some (.ref A6))
    (k1 : PySem.W.kitOne K (.ref C) (.ref A1) = some b1) (k2 : PySem.W.kitOne K (.ref C) (.ref A2) = some b2) (k3 : PySem.W.kitOne K (.ref C) (.ref A3) = some b3) (k4 : PySem.W.kitOne K (.ref C) (.ref A4) = some b4) (k5 : PySem.W.kitOne K (.ref C) (.ref A5) = some b5) (k6 : PySem.W.kitOne K (.ref C) (.ref A6) = some b6) : FnOkH P w K mg base CX0 1 f fd ["_law_e"] (spL C [b1, b2, b3, b4, b5, b6]) := by
  refine F.okH (k := 0) (N := ["_law_e", "_law_some"]) sc__law_kinds (fun vs H Q E ⟨x, e, _⟩ => by rw [e]; rfl) fun cdv A outer s H vs Q E hr ⟨x, e, hx, q⟩ => ?_
  let X : Cx := (cxH CX0 P w K mg base ["_law_e", "_law_some"] "_law_kinds" (defScope s__law_kinds) f cdv A outer s H E).nox
  have gi : Gl X "isinstance" := (show X.env.kindOf "isinstance" = some .globalImplicit by kernel_rfl)
  have isx : ∀ {z : Str} {a : Addr} {b : Bool} {ip np zp cp : Pos}, X.env.kindOf z = some .globalImplicit → mg z = some (.ref a) → (z == ("__debug__" : Str)) = false → PySem.W.kitOne K (.ref C) (.ref a) = some b → PE X (.Call (.Name "isinstance" ip) [.Name "_law_e" np, .Name z zp] [] cp) (tCB (rIsX C (.ref a) b) (tCons (tVar 0) (tCons (tC (.ref a)) tNil))) := fun hg hm hd hk =>
    pe_callB (X := X) (call_isX xc (c := .ref _) (fun w h => h) hk) gi b_isinstance bt_isinstance (pa_cons (pe_var (X := X) rfl (.inl (by kernel_rfl)) (by kernel_rfl) (by kernel_rfl)) (pa_cons (pe_glob (X := X) hg hm rfl hd) pa_nil))
  refine ⟨_, pss_cons (ps_set (X := X) (i := 1) sc__law_kinds.nd rfl (.inl (by kernel_rfl)) (pe_lst (pa_cons (isx (by kernel_rfl) m1 (by kernel_rfl) k1) (pa_cons (isx (by kernel_rfl) m2 (by kernel_rfl) k2) (pa_cons (isx (by kernel_rfl) m3 (by kernel_rfl) k3) (pa_cons (isx (by kernel_rfl) m4 (by kernel_rfl) k4) pa_nil))))) rfl (.inl rfl))
    (pss_one (ps_ret (pe_op op_cat (pe_var (X := X) (i := 1) rfl (.inl (by kernel_rfl)) (by kernel_rfl) (by kernel_rfl)) (pe_lst (pa_cons (isx (by kernel_rfl) m5 (by kernel_rfl) k5) (pa_cons (isx (by kernel_rfl) m6 (by kernel_rfl) k6) pa_nil)))))), ?_⟩
  subst e
  refine ⟨.ref x, rfl, x, rfl, hx, .ref x, rfl, x, rfl, hx, .ref x, rfl, x, rfl, hx, .ref x, rfl, x, rfl, hx, by rw [sizeLine_eq]; simp, fun p hp => ?_⟩
  have x1 := xt_up (o := .lst [.bl b1, .bl b2, .bl b3, .bl b4]) hx hp
  refine ⟨.ref p, rfl, .ref x, rfl, x, rfl, x1, .ref x, rfl, x, rfl, x1, by rw [sizeLine_eq]; simp, fun p2 hp2 => ⟨p, p2, _, _, rfl, rfl, (upd_ne (unupd hp2).1.symm).trans upd_same, upd_same, by rw [sizeLine_eq]; simp, fun p3 hp3 => ?_⟩⟩
  have n3 := (unupd hp3).2
  have n0 := (unupd n3).2
  refine q _ p3 n0 upd_same fun y hy => ?_
  rw [upd_ne fun z => hy (by rw [z]; exact n0), upd_ne fun z => hy (by rw [z]; exact (unupd hp2).2), upd_ne fun z => hy (by rw [z]; exact hp)]
structure T15 (P : Program) (w : World) (K : PySem.W.Frag) (mg : Str → Option Value) (base : Heap) (Y C : Addr) (i : Nat) : Prop where
  ex : ∃ mC mY, XC0 K C Y mC mY ∧ PySem.W.kitOne K (.ref C) (.type "ValueError") = some true ∧ HasH P w K mg base "_law_kinds" 1 ["_law_e"] (spL C (M.kb15 i))
theorem x15 {Y : Addr} (h1 : T15 P w K mg base Y C_BadRecipe 21) (h2 : T15 P w K mg base Y C_BadBook 22) (h3 : T15 P w K mg base Y C_BadText 23) (h4 : T15 P w K mg base Y C_BadName 24) (h5 : T15 P w K mg base Y C_BadBound 25) (h6 : T15 P w K mg base Y C_NoThing 26) (i : Nat) (C : Addr) (N : List Str) (a : 21 ≤ i) (b : i ≤ 26) (h : Θ1 C_BadBook C_BadBound C_BadName C_BadRecipe C_BadText C_NoThing i = some (C, N)) : ∃ mC mY, XC0 K C Y mC mY ∧ PySem.W.kitOne K (.ref C) (.type "ValueError") = some true ∧ HasH P w K mg base "_law_kinds" 1 ["_law_e"] (spL C (M.kb15 i)) := by
  obtain rfl | rfl | rfl | rfl | rfl | rfl : i = 21 ∨ i = 22 ∨ i = 23 ∨ i = 24 ∨ i = 25 ∨ i = 26 := by omega
  · have h : some (C_BadRecipe, ([("place" : Str)] : List Str)) = some (C, N) := h
    cases h; exact h1.ex
  · have h : some (C_BadBook, ([("row" : Str), ("place" : Str)] : List Str)) = some (C, N) := h
    cases h; exact h2.ex
  · have h : some (C_BadText, []) = some (C, N) := h
    cases h; exact h3.ex
  · have h : some (C_BadName, []) = some (C, N) := h
    cases h; exact h4.ex
  · have h : some (C_BadBound, []) = some (C, N) := h
    cases h; exact h5.ex
  · have h : some (C_NoThing, []) = some (C, N) := h
    cases h; exact h6.ex
abbrev s__law_raised : Stmt := top 11
noncomputable abbrev N__law_raised : List Str := ["_law_way", "_law_word", "_law_row", "_law_place", "_law_e"]
theorem sc__law_raised : FnScope N__law_raised ["_law_way", "_law_word", "_law_row", "_law_place"] (defScope s__law_raised) := ⟨rfl, rfl, rfl, by decide +kernel, rfl, by decide +kernel, by decide +kernel⟩
theorem ok__law_raised {Y : Addr} (y_YardError : mg "YardError" = some (.ref Y) ∧ ∀ h : Heap, K.In h → TE.High h Y tlV) (t1 : T15 P w K mg base Y C_BadRecipe 21) (t2 : T15 P w K mg base Y C_BadBook 22) (t3 : T15 P w K mg base Y C_BadText 23) (t4 : T15 P w K mg base Y C_BadName 24) (t5 : T15 P w K mg base Y C_BadBound 25) (t6 : T15 P w K mg base Y C_NoThing 26) (b_ValueError : mg "ValueError" = none) (F : Fun K "_law_raised" "_law_raised" s__law_raised f fd) (e_BadBook : TE_BadBook P w K mg base C_BadBook) (e_BadBound : TE_BadBound P w K mg base C_BadBound) (e_BadName : TE_BadName P w K mg base C_BadName) (e_BadRecipe : TE_BadRecipe P w K mg base C_BadRecipe) (e_BadText : TE_BadText P w K mg base C_BadText) (e_NoThing : TE_NoThing P w K mg base C_NoThing) (b_isinstance : mg "isinstance" = none) :
    FnOk P w K mg base CX0 3 f fd ["_law_way", "_law_word", "_law_row", "_law_place"] (SpM K (Θ1 C_BadBook C_BadBound C_BadName C_BadRecipe C_BadText C_NoThing) 4 M.q__law_raised) := by
  refine w_fun_M0 (N := N__law_raised) (b := M.b__law_raised) F sc__law_raised fun cdv A outer s H E hr => ?_
  unfold M.b__law_raised
  exact (w_mss_one (w_ms_tryY (je := 4) rfl rfl (fun xe pn E W => (w_mss_cons (w_ms_if (w_mt_cmp (op_eqM hr) ad_eq (vv 0) w_me_int (nomark _))
    (w_mss_one (w_ms_raiseZ e_BadText W rfl rfl gk (w_ma_cons (vv 1) w_ma_nil) (ar_cons ar_nil)))
    w_mss_nil)
    (w_mss_cons (w_ms_if (w_mt_cmp (op_eqM hr) ad_eq (vv 0) w_me_int (nomark _))
    (w_mss_one (w_ms_raiseZ e_BadName W rfl rfl gk (w_ma_cons (vv 1) w_ma_nil) (ar_cons ar_nil)))
    w_mss_nil)
    (w_mss_cons (w_ms_if (w_mt_cmp (op_eqM hr) ad_eq (vv 0) w_me_int (nomark _))
    (w_mss_one (w_ms_raiseE e_BadRecipe W rfl rfl hr (by decide) gk (w_ma_cons (vv 3) w_ma_nil) (ar_cons ar_nil)))
    w_mss_nil)
    (w_mss_cons (w_ms_if (w_mt_cmp (op_eqM hr) ad_eq (vv 0) w_me_int (nomark _))
    (w_mss_one (w_ms_raiseE2 e_BadBook W rfl rfl hr (by decide) gk (w_ma_cons (vv 2) (w_ma_cons (vv 3) w_ma_nil)) (ar_cons (ar_cons ar_nil))))
    w_mss_nil)
    (w_mss_cons (w_ms_if (w_mt_cmp (op_eqM hr) ad_eq (vv 0) w_me_int (nomark _))
    (w_mss_one (w_ms_raiseZ e_BadBound W rfl rfl gk (w_ma_cons (vv 1) w_ma_nil) (ar_cons ar_nil)))
    w_mss_nil)
    (w_mss_one (w_ms_raiseZ e_NoThing W rfl rfl gk (w_ma_cons (vv 1) w_ma_nil) (ar_cons ar_nil))))))))) y_YardError.2 hr (by decide) (x15 t1 t2 t3 t4 t5 t6) gk y_YardError.1 gk gk gk b_isinstance b_ValueError sc__law_raised.nd rfl (by kernel_rfl)))
abbrev s_law : Stmt := top 12
noncomputable abbrev N_law : List Str := ["_law_script", "_law_row", "_law_place", "_law_word", "_law_way", "_law_one", "_law_other", "_law_first", "_law_second"]
theorem sc_law : FnScope N_law ["_law_script"] (defScope s_law) := ⟨rfl, rfl, rfl, by decide +kernel, rfl, by decide +kernel, by decide +kernel⟩
theorem nd_law_1 : (["_law_script", "_law_row", "_law_place", "_law_word", "_law_way", "_law_one", "_law_other", "_law_first", "_law_second", "_law_k"] : List Str).Nodup := by decide +kernel
theorem ps_law_1 (h__law_cell : T__law_cell P w K mg base C_BadBook C_BadBound C_BadName C_BadRecipe C_BadText C_NoThing) (hr : RM 3 "law" s_law A s f cdv) : WS (cX P w K mg base N_law "law" s_law f cdv A outer s H E) (Θ1 C_BadBook C_BadBound C_BadName C_BadRecipe C_BadText C_NoThing) (bd s_law 0) M.p_law_1 := by
  unfold M.p_law_1
  exact (w_ms_set (i := 1) sc_law.nd rfl (Or.inl (by kernel_rfl)) (w_me_op u_mod ad_mod (w_me_call h__law_cell hr (by decide) gk (w_ma_cons (vv 0) (w_ma_cons w_me_int w_ma_nil)) (ar_cons (ar_cons ar_nil))) w_me_int))
theorem ps_law_2 (h__law_cell : T__law_cell P w K mg base C_BadBook C_BadBound C_BadName C_BadRecipe C_BadText C_NoThing) (hr : RM 3 "law" s_law A s f cdv) : WS (cX P w K mg base N_law "law" s_law f cdv A outer s H E) (Θ1 C_BadBook C_BadBound C_BadName C_BadRecipe C_BadText C_NoThing) (bd s_law 1) M.p_law_2 := by
  unfold M.p_law_2
  exact (w_ms_set (i := 2) sc_law.nd rfl (Or.inl (by kernel_rfl)) (w_me_op u_mod ad_mod (w_me_call h__law_cell hr (by decide) gk (w_ma_cons (vv 0) (w_ma_cons w_me_int w_ma_nil)) (ar_cons (ar_cons ar_nil))) w_me_int))
theorem ps_law_3 (h__law_cell : T__law_cell P w K mg base C_BadBook C_BadBound C_BadName C_BadRecipe C_BadText C_NoThing) (hr : RM 3 "law" s_law A s f cdv) : WS (cX P w K mg base N_law "law" s_law f cdv A outer s H E) (Θ1 C_BadBook C_BadBound C_BadName C_BadRecipe C_BadText C_NoThing) (bd s_law 2) M.p_law_3 := by
  unfold M.p_law_3
  exact (w_ms_set (i := 3) sc_law.nd rfl (Or.inl (by kernel_rfl)) (w_me_ix (ix_M hr) ad_ix (w_me_lst (w_ma_cons zz (w_ma_cons zz (w_ma_cons zz (w_ma_cons (w_me_op u_mulM ad_mul zz w_me_int) w_ma_nil))))) (w_me_op u_mod ad_mod (w_me_call h__law_cell hr (by decide) gk (w_ma_cons (vv 0) (w_ma_cons w_me_int w_ma_nil)) (ar_cons (ar_cons ar_nil))) w_me_int)))
theorem ps_law_4 (h__law_raised : T__law_raised P w K mg base C_BadBook C_BadBound C_BadName C_BadRecipe C_BadText C_NoThing) (b_range : mg "range" = none) (hr : RM 3 "law" s_law A s f cdv) : WS (cX P w K mg base N_law "law" s_law f cdv A outer s H E) (Θ1 C_BadBook C_BadBound C_BadName C_BadRecipe C_BadText C_NoThing) (bd s_law 3) M.p_law_4 := by
  unfold M.p_law_4
  exact (w_ms_for PassesOwn.never rfl (w_mi_range1 gk b_range w_me_int) (w_mg_name (i := 4) sc_law.nd rfl (Or.inr (by kernel_rfl)) (.inl rfl))
    (w_mss_one (w_ms_if (w_mt_cmp (op_neM hr) ad_ne (w_me_call h__law_raised hr (by decide) gk (w_ma_cons (vc 4) (w_ma_cons (vv 3) (w_ma_cons (vv 1) (w_ma_cons (vv 2) w_ma_nil)))) (ar_cons (ar_cons (ar_cons (ar_cons ar_nil))))) (w_me_tup (w_ma_cons (w_me_comp (vars := ["_law_k"]) rfl ⟨rfl, rfl, (by kernel_rfl), (by kernel_rfl), (by decide +kernel), ⟨(by kernel_rfl), trivial⟩, (by kernel_rfl)⟩ (w_mi_range1 gk b_range w_me_int) (fun _ _ _ _ => (w_mg_name (i := 9) nd_law_1 rfl (Or.inl (by kernel_rfl)) (.inr (by kernel_rfl)))) (fun _ _ _ _ => pifs_yes) (fun _ _ _ _ => (w_me_cmp (op_eqM hr) ad_eq (vv 9) (vc 4) (nomark _))) (by kernel_rfl)) (w_ma_cons w_me_bl w_ma_nil))) (nomark _))
    (w_mss_one (w_ms_ret w_me_bl))
    w_mss_nil)))
def Kp (H H' : Hp) : Prop := ∀ a o, H a = some o → H' a = some o
theorem kp_new {H : Hp} {p : Addr} {o : HO} (h : H p = none) : Kp H (upd H p o) := fun a o' w => by rw [upd_ne fun z => by rw [z, h] at w; cases w]; exact w
theorem kp2 {H : Hp} {x d : Addr} {a b : HO} (hx : H x = none) (hd : H d = none) (n : d ≠ x) : Kp H (upd (upd H x a) d b) ∧ upd (upd H x a) d b x = some a ∧ upd (upd H x a) d b d = some b :=
  ⟨fun c o w => kp_new (by rw [upd_ne n]; exact hd) c o (kp_new hx c o w), by rw [upd_ne n.symm, upd_same], upd_same⟩
theorem Kp.le {H H' : Hp} (k : Kp H H') : Le H H' := ⟨fun a xs w => k a _ w, fun a o u w => k a _ w⟩
theorem ev4 (r p : Int) : PyData.eqv (.tuple [.int r, .int p, .int p, .int (r + 1)]) (.tuple [.int r, .int p, .int p, .int (r + 1)]) = true := by
  simp [PyData.eqv, PyData.eqvAll]
theorem ev2 (r p : Int) : PyData.eqv (.tuple [.int p, .int r]) (.tuple [.int p, .int r]) = true := by
  simp [PyData.eqv, PyData.eqvAll]
theorem tail_law (e_BadBook : TE_BadBook P w K mg base C_BadBook) (e_BadRecipe : TE_BadRecipe P w K mg base C_BadRecipe) (hr : RM 3 "law" s_law A s f cdv) : WSs (cX P w K mg base N_law "law" s_law f cdv A outer s H E) (Θ1 C_BadBook C_BadBound C_BadName C_BadRecipe C_BadText C_NoThing) [bd s_law 4, bd s_law 5, bd s_law 6, bd s_law 7] (M.sTail15 1 2) := by
  delta WSs
  obtain ⟨Y, fi, fd1, mC, mY, xa, F, hb, hm, t1, t2⟩ := e_BadBook.ex
  obtain ⟨Y', fi', fd', mC', mY', xa', F', hb', hm', t'⟩ := e_BadRecipe.ex
  let X : Cx := cX P w K mg base N_law "law" s_law f cdv A outer s H E
  have v1 : ∀ {p : Pos}, PE X (.Name "_law_row" p) (tVar 1) := pe_var (X := X) rfl (.inl (by kernel_rfl)) (by kernel_rfl) (by kernel_rfl)
  have v2 : ∀ {p : Pos}, PE X (.Name "_law_place" p) (tVar 2) := pe_var (X := X) rfl (.inl (by kernel_rfl)) (by kernel_rfl) (by kernel_rfl)
  have va : ∀ {p q : Pos} {j : Nat} {o : Pos}, PE X (.BinOp (.Name "_law_row" p) .Add (.Constant (.int 1) j q) o) (tOp uAdd (tVar 1) (tC (.int 1))) := pe_op u_add v1 pe_int
  have f5r : ∀ {p q : Pos}, PE X (.Attribute (.Name "_law_one" p) "row" q) (tXfldD C_BadBook 5 "row") := pe_xfldD (X := X) xa.toXCls rfl (by kernel_rfl) xa.g1 xa.g2 xa.a1 xa.a2 xa.n1 xa.n2 t1 (by kernel_rfl) (by kernel_rfl)
  have f5p : ∀ {p q : Pos}, PE X (.Attribute (.Name "_law_one" p) "place" q) (tXfldD C_BadBook 5 "place") := pe_xfldD (X := X) xa.toXCls rfl (by kernel_rfl) xa.g1 xa.g2 xa.a1 xa.a2 xa.m1 xa.m2 t2 (by kernel_rfl) (by kernel_rfl)
  have f6r : ∀ {p q : Pos}, PE X (.Attribute (.Name "_law_other" p) "row" q) (tXfldD C_BadBook 6 "row") := pe_xfldD (X := X) xa.toXCls rfl (by kernel_rfl) xa.g1 xa.g2 xa.a1 xa.a2 xa.n1 xa.n2 t1 (by kernel_rfl) (by kernel_rfl)
  have f6p : ∀ {p q : Pos}, PE X (.Attribute (.Name "_law_other" p) "place" q) (tXfldD C_BadBook 6 "place") := pe_xfldD (X := X) xa.toXCls rfl (by kernel_rfl) xa.g1 xa.g2 xa.a1 xa.a2 xa.m1 xa.m2 t2 (by kernel_rfl) (by kernel_rfl)
  have f7 : ∀ {p q : Pos}, PE X (.Attribute (.Name "_law_first" p) "place" q) (tXfldD C_BadRecipe 7 "place") := pe_xfldD (X := X) xa'.toXCls rfl (by kernel_rfl) xa'.g1 xa'.g2 xa'.a1 xa'.a2 xa'.n1 xa'.n2 t' (by kernel_rfl) (by kernel_rfl)
  have f8 : ∀ {p q : Pos}, PE X (.Attribute (.Name "_law_second" p) "place" q) (tXfldD C_BadRecipe 8 "place") := pe_xfldD (X := X) xa'.toXCls rfl (by kernel_rfl) xa'.g1 xa'.g2 xa'.a1 xa'.a2 xa'.n1 xa'.n2 t' (by kernel_rfl) (by kernel_rfl)
  have gB : Gl X "BadBook" := (show X.env.kindOf "BadBook" = some .globalImplicit by kernel_rfl)
  have gR : Gl X "BadRecipe" := (show X.env.kindOf "BadRecipe" = some .globalImplicit by kernel_rfl)
  have r2 : Room (1 + 1) X.A := hr.mono (by decide)
  refine PSs.up (X := X) (pss_cons (ps_par (X := X) (i := 5) (j := 6) rfl sc_law.nd rfl rfl (by decide) (by kernel_rfl) (by kernel_rfl) (pa_cons (pe_mk2 (X := X) xa.toXCls F r2 hb gB hm (pa_cons v1 (pa_cons v2 pa_nil))) (pa_cons (pe_mk2 (X := X) xa.toXCls F r2 hb gB hm (pa_cons v2 (pa_cons va pa_nil))) pa_nil)) (by kernel_rfl) (by kernel_rfl))
    (pss_cons (ps_par (X := X) (i := 7) (j := 8) rfl sc_law.nd rfl rfl (by decide) (by kernel_rfl) (by kernel_rfl) (pa_cons (pe_mk1 (X := X) xa'.toXCls F' r2 hb' gR hm' (pa_cons v2 pa_nil)) (pa_cons (pe_mk1 (X := X) xa'.toXCls F' r2 hb' gR hm' (pa_cons v1 pa_nil)) pa_nil)) (by kernel_rfl) (by kernel_rfl))
    (pss_cons (ps_if (pt_cmpR (op_neM hr) (pe_tup (pa_cons f5r (pa_cons f5p (pa_cons f6r (pa_cons f6p pa_nil))))) (pe_tup (pa_cons v1 (pa_cons v2 (pa_cons v2 (pa_cons va pa_nil))))) (nomark _)) (pss_one (ps_ret pe_bl)) pss_nil)
    (pss_one (ps_ret (pe_cmpR (op_eqM hr) (pe_tup (pa_cons f7 (pa_cons f8 pa_nil))) (pe_tup (pa_cons v2 (pa_cons v1 pa_nil))) (nomark _))))))) fun D σ H ρ σ' S st rp h => ?_
  have h' : ∃ r p, σ'[1]? = some (some (.int r)) ∧ σ'[2]? = some (some (.int p)) ∧ σ'.length = 9 ∧ PostS K (Θ1 C_BadBook C_BadBound C_BadName C_BadRecipe C_BadText C_NoThing) ρ H (.rt (.bl true) S) D := by
    unfold M.sTail15 at h
    split at h
    · rename_i r p e1 e2
      by_cases l : σ'.length = 9
      · rw [if_pos l] at h; exact ⟨r, p, e1, e2, l, h⟩
      · rw [if_neg l] at h; exact h.elim
    · exact h.elim
  obtain ⟨r, p, g1, g2, gl, h⟩ := h'
  obtain ⟨u1, s1, q1⟩ := st.get _ _ g1
  obtain ⟨u2, s2, q2⟩ := st.get _ _ g2
  have q1 : u1 = .int r := q1
  have q2 : u2 = .int p := q2
  subst q1 q2
  have l9 : σ.length = 9 := st.len.symm.trans gl
  clear st g1 g2 gl
  have lk1 : ∀ y z : V, List.lookup ("row" : Str) [(("row" : Str), y), (("place" : Str), z)] = some y := fun _ _ => by kernel_rfl
  have lk2 : ∀ y z : V, List.lookup ("place" : Str) [(("row" : Str), y), (("place" : Str), z)] = some z := fun _ _ => by kernel_rfl
  have lk3 : ∀ y : V, List.lookup ("place" : Str) [(("place" : Str), y)] = some y := fun _ => by kernel_rfl
  refine ⟨_, s1, _, s2, _, _, rfl, fun x1 p1 d1 hx1 hd1 n1 => ⟨_, s2, _, s1, _, _, rfl, fun x2 p2 d2 hx2 hd2 n2 => ⟨_, _, rfl, ?_⟩⟩⟩
  obtain ⟨c1, a1, b1⟩ := kp2 (a := .ext (DictX C_BadBook x1 p1 d1)) (b := .xd [("row", .int r), ("place", .int p)]) hx1 hd1 n1
  obtain ⟨c2, a2, b2⟩ := kp2 (a := .ext (DictX C_BadBook x2 p2 d2)) (b := .xd [("row", .int p), ("place", .int (r + 1))]) hx2 hd2 n2
  replace a1 := c2 _ _ a1
  replace b1 := c2 _ _ b1
  replace c2 : Kp H _ := fun a o w => c2 a o (c1 a o w)
  clear c1 hx1 hd1 hx2 hd2
  refine ⟨_, (by simpa using s2), _, rfl, fun x3 p3 d3 hx3 hd3 n3 => ⟨_, (by simpa using s1), _, rfl, fun x4 p4 d4 hx4 hd4 n4 => ⟨_, _, rfl, ?_⟩⟩⟩
  obtain ⟨c3, a3, b3⟩ := kp2 (a := .ext (DictX C_BadRecipe x3 p3 d3)) (b := .xd [("place", .int p)]) hx3 hd3 n3
  obtain ⟨c4, a4, b4⟩ := kp2 (a := .ext (DictX C_BadRecipe x4 p4 d4)) (b := .xd [("place", .int r)]) hx4 hd4 n4
  replace a1 := c4 _ _ (c3 _ _ a1)
  replace b1 := c4 _ _ (c3 _ _ b1)
  replace a2 := c4 _ _ (c3 _ _ a2)
  replace b2 := c4 _ _ (c3 _ _ b2)
  replace a3 := c4 _ _ a3
  replace b3 := c4 _ _ b3
  replace c4 : Kp H _ := fun a o w => c4 a o (c3 a o (c2 a o w))
  clear c2 c3 hx3 hd3 hx4 hd4
  revert a1 b1 a2 b2 a3 b3 a4 b4 c4
  generalize upd (upd (upd (upd (upd (upd (upd (upd H x1 _) d1 _) x2 _) d2 _) x3 _) d3 _) x4 _) d4 _ = H4
  intro a4 b4 a1 b1 a2 b2 a3 b3 c4
  have z1 : ((((σ.set 5 (some (.ref x1))).set 6 (some (.ref x2))).set 7 (some (.ref x3))).set 8 (some (.ref x4)))[1]? = some (some (.int r)) := by simpa using s1
  have z2 : ((((σ.set 5 (some (.ref x1))).set 6 (some (.ref x2))).set 7 (some (.ref x3))).set 8 (some (.ref x4)))[2]? = some (some (.int p)) := by simpa using s2
  have z5 : ((((σ.set 5 (some (.ref x1))).set 6 (some (.ref x2))).set 7 (some (.ref x3))).set 8 (some (.ref x4)))[5]? = some (some (.ref x1)) := by simp [l9]
  have z6 : ((((σ.set 5 (some (.ref x1))).set 6 (some (.ref x2))).set 7 (some (.ref x3))).set 8 (some (.ref x4)))[6]? = some (some (.ref x2)) := by simp [l9]
  have z7 : ((((σ.set 5 (some (.ref x1))).set 6 (some (.ref x2))).set 7 (some (.ref x3))).set 8 (some (.ref x4)))[7]? = some (some (.ref x3)) := by simp [l9]
  have z8 : ((((σ.set 5 (some (.ref x1))).set 6 (some (.ref x2))).set 7 (some (.ref x3))).set 8 (some (.ref x4)))[8]? = some (some (.ref x4)) := by simp [l9]
  revert z1 z2 z5 z6 z7 z8
  generalize (((σ.set 5 (some (V.ref x1))).set 6 (some (V.ref x2))).set 7 (some (V.ref x3))).set 8 (some (V.ref x4)) = τ
  intro z1 z2 z5 z6 z7 z8
  refine ⟨x1, p1, d1, _, _, z5, a1, b1, lk1 _ _, x1, p1, d1, _, _, z5, a1, b1, lk2 _ _, x2, p2, d2, _, _, z6, a2, b2, lk1 _ _, x2, p2, d2, _, _, z6, a2, b2, lk2 _ _, by rw [sizeLine_eq]; simp, fun t hq => ⟨_, z1, _, z2, _, z2, _, z1, by rw [sizeLine_eq]; simp, fun t2 hq2 => ?_⟩⟩
  refine .inr (.inl ⟨.tuple [.int r, .int p, .int p, .int (r + 1)], .tuple [.int r, .int p, .int p, .int (r + 1)], .tup (SqT.of (kp_new hq2 _ _ upd_same)) (.cons (.int _) (.cons (.int _) (.cons (.int _) (.cons (.int _) .nil)))), .tup (SqT.of upd_same) (.cons (.int _) (.cons (.int _) (.cons (.int _) (.cons (.int _) .nil)))), rfl, rfl, false, by rw [ev4]; rfl, ?_⟩)
  show tRet (tOp (rEqM K false) (tTup (tCons (tXfldD C_BadRecipe 7 "place") (tCons (tXfldD C_BadRecipe 8 "place") tNil))) (tTup (tCons (tVar 2) (tCons (tVar 1) tNil)))) D τ _
  have c5 : ∀ a o, H4 a = some o → upd (upd H4 t (.tup [.int r, .int p, .int p, .int (r + 1)])) t2 (.tup [.int r, .int p, .int p, .int (r + 1)]) a = some o := fun a o w => kp_new hq2 a o (kp_new hq a o w)
  revert c5
  generalize upd (upd H4 t _) t2 _ = H5
  intro c5
  refine ⟨x3, p3, d3, _, _, z7, c5 _ _ a3, c5 _ _ b3, lk3 _, x4, p4, d4, _, _, z8, c5 _ _ a4, c5 _ _ b4, lk3 _, by rw [sizeLine_eq]; simp, fun t3 hq3 => ⟨_, z2, _, z1, by rw [sizeLine_eq]; simp, fun t4 hq4 => ?_⟩⟩
  refine .inr (.inl ⟨.tuple [.int p, .int r], .tuple [.int p, .int r], .tup (SqT.of (kp_new hq4 _ _ upd_same)) (.cons (.int _) (.cons (.int _) .nil)), .tup (SqT.of upd_same) (.cons (.int _) (.cons (.int _) .nil)), rfl, rfl, ?_⟩)
  rw [ev2]
  have c6 : Kp H (upd (upd H5 t3 (.tup [.int p, .int r])) t4 (.tup [.int p, .int r])) := fun a o w => kp_new hq4 a o (kp_new hq3 a o (c5 a o (c4 a o w)))
  exact h ρ _ _ (List.prefix_refl _) c6.le (rp.stay c6.le fun a ha => by
    obtain ⟨o, w⟩ := rp.tracked ha
    rw [c6 a o w, w]) rfl
theorem ok_law (F : Fun K "law" "law" s_law f fd) (e_BadBook : TE_BadBook P w K mg base C_BadBook) (e_BadRecipe : TE_BadRecipe P w K mg base C_BadRecipe) (h__law_cell : T__law_cell P w K mg base C_BadBook C_BadBound C_BadName C_BadRecipe C_BadText C_NoThing) (h__law_raised : T__law_raised P w K mg base C_BadBook C_BadBound C_BadName C_BadRecipe C_BadText C_NoThing) (b_range : mg "range" = none) :
    FnOk P w K mg base CX0 4 f fd ["_law_script"] (SpM K (Θ1 C_BadBook C_BadBound C_BadName C_BadRecipe C_BadText C_NoThing) 1 M.m_law) := by
  refine w_fun_M0 (N := N_law) (b := M.b_law) F sc_law fun cdv A outer s H E hr => ?_
  unfold M.b_law
  exact (w_mss_cons (ps_law_1 h__law_cell hr) (w_mss_cons (ps_law_2 h__law_cell hr) (w_mss_cons (ps_law_3 h__law_cell hr) (w_mss_cons (ps_law_4 h__law_raised b_range hr) (tail_law e_BadBook e_BadRecipe hr)))))
abbrev s_BadBook___init__ : Stmt := inClass (top 5) 0
theorem sc_BadBook___init__ : FnScope ["self", "row", "place"] ["self", "row", "place"] (defScope s_BadBook___init__) := ⟨rfl, rfl, rfl, by decide +kernel, rfl, by decide +kernel, by decide +kernel⟩
abbrev s_BadRecipe___init__ : Stmt := inClass (top 4) 0
theorem sc_BadRecipe___init__ : FnScope ["self", "place"] ["self", "place"] (defScope s_BadRecipe___init__) := ⟨rfl, rfl, rfl, by decide +kernel, rfl, by decide +kernel, by decide +kernel⟩
noncomputable def kit15 (K : PySem.W.Frag) (l : List (Addr × Nat)) : Bool := l.all fun c => (PySem.W.kitOne K (.ref c.1) (.type "ValueError") == some true) && l.all fun d => PySem.W.kitOne K (.ref c.1) (.ref d.1) == some (c.2 == d.2)
def xb15 (K : PySem.W.Frag) (Y : Addr) (l : List (Addr × Nat)) : Bool := l.all fun c => xBase K c.1 Y xnC
theorem kit15_of {K : PySem.W.Frag} {l : List (Addr × Nat)} (h : kit15 K l = true) (c : Addr × Nat) (m : c ∈ l) : PySem.W.kitOne K (.ref c.1) (.type "ValueError") = some true ∧ ∀ d ∈ l, PySem.W.kitOne K (.ref c.1) (.ref d.1) = some (c.2 == d.2) := by
  have h1 := List.all_eq_true.1 h c m
  rw [Bool.and_eq_true] at h1
  exact ⟨eq_of_beq h1.1, fun d md => eq_of_beq (List.all_eq_true.1 h1.2 d md)⟩
theorem t15_of {Y : Addr} {h : Heap} {c : Addr × Nat} (X : K.In h) (G : h.Ns mainGlobals mg) (ak : IsG K "_law_kinds" s__law_kinds) (kt : kit15 K [(C_BadText, 23), (C_BadName, 24), (C_BadRecipe, 21), (C_BadBook, 22), (C_BadBound, 25), (C_NoThing, 26)] = true) (xb : xb15 K Y [(C_BadText, 23), (C_BadName, 24), (C_BadRecipe, 21), (C_BadBook, 22), (C_BadBound, 25), (C_NoThing, 26)] = true) (m : c ∈ [(C_BadText, 23), (C_BadName, 24), (C_BadRecipe, 21), (C_BadBook, 22), (C_BadBound, 25), (C_NoThing, 26)]) (b_isinstance : mg "isinstance" = none) (m1 : mg "BadText" = some (.ref C_BadText)) (m2 : mg "BadName" = some (.ref C_BadName)) (m3 : mg "BadRecipe" = some (.ref C_BadRecipe)) (m4 : mg "BadBook" = some (.ref C_BadBook)) (m5 : mg "BadBound" = some (.ref C_BadBound)) (m6 : mg "NoThing" = some (.ref C_NoThing)) : T15 P w K mg base Y c.1 c.2 := by
  obtain ⟨mC, mY, xc⟩ := xc0_of (List.all_eq_true.1 xb c m)
  obtain ⟨kv, kk⟩ := kit15_of kt c m
  refine ⟨mC, mY, xc, kv, hasGH ak X G fun _ _ F => ?_⟩
  have e : ∀ i : Nat, M.kb15 i = [i == 23, i == 24, i == 21, i == 22, i == 25, i == 26] := fun _ => rfl
  rw [e]
  exact ok__law_kinds F xc b_isinstance m1 m2 m3 m4 m5 m6 (kk (C_BadText, 23) (by simp)) (kk (C_BadName, 24) (by simp)) (kk (C_BadRecipe, 21) (by simp)) (kk (C_BadBook, 22) (by simp)) (kk (C_BadBound, 25) (by simp)) (kk (C_NoThing, 26) (by simp))
theorem all_mk {l : PySem.W.OpenLaw} {w : World} {K : PySem.W.Frag} {h : Heap} {mg : Str → Option Value} {fa f3 : Addr} {C_BadBook C_BadBound C_BadName C_BadRecipe C_BadText C_NoThing : Addr} (X : K.In h) (G : h.Ns mainGlobals mg) (hfa : mg "law" = some (.ref fa))
    {od3 an3 : Option Addr} {sl3 : Array (Option Value)} {oc3 kV3 dc3 pm3 cd3 ct3 : Value}
    {Y_BadBook fi_BadBook : Addr} {od_BadBook an_BadBook : Option Addr} {sl_BadBook : Array (Option Value)} {oc_BadBook kV_BadBook dc_BadBook pm_BadBook cd_BadBook ct_BadBook : Value} (aC_BadBook : PySem.W.nsIn K mainGlobals "BadBook" = some (some (.ref C_BadBook))) (aY_BadBook : PySem.W.nsIn K mainGlobals "YardError" = some (some (.ref Y_BadBook))) (a_BadBook : PySem.W.findIn K (.ref C_BadBook) "__init__" = some (some (.ref fi_BadBook))) (l_BadBook : K.lookup fi_BadBook = some ⟨oc_BadBook, od_BadBook, .func (PySem.W.fnOf "__init__" "BadBook.__init__" (defArgs s_BadBook___init__) (defBody s_BadBook___init__) (defScope s_BadBook___init__) .none kV_BadBook dc_BadBook pm_BadBook an_BadBook cd_BadBook ct_BadBook), sl_BadBook⟩) (c_BadBook : PySem.W.codeIn K cd_BadBook "BadBook.__init__" = true) (k_BadBook : PySem.W.keepIn K (.ref fi_BadBook) = true) (x_BadBook : xIn2 K C_BadBook Y_BadBook fi_BadBook "row" "place" = true)
    {Y_BadBound : Addr} (aC_BadBound : PySem.W.nsIn K mainGlobals "BadBound" = some (some (.ref C_BadBound))) (aY_BadBound : PySem.W.nsIn K mainGlobals "YardError" = some (some (.ref Y_BadBound))) (x_BadBound : xBase K C_BadBound Y_BadBound xn0 = true) (y_BadBound : yIn K Y_BadBound = true)
    {Y_BadName : Addr} (aC_BadName : PySem.W.nsIn K mainGlobals "BadName" = some (some (.ref C_BadName))) (aY_BadName : PySem.W.nsIn K mainGlobals "YardError" = some (some (.ref Y_BadName))) (x_BadName : xBase K C_BadName Y_BadName xn0 = true) (y_BadName : yIn K Y_BadName = true)
    {Y_BadRecipe fi_BadRecipe : Addr} {od_BadRecipe an_BadRecipe : Option Addr} {sl_BadRecipe : Array (Option Value)} {oc_BadRecipe kV_BadRecipe dc_BadRecipe pm_BadRecipe cd_BadRecipe ct_BadRecipe : Value} (aC_BadRecipe : PySem.W.nsIn K mainGlobals "BadRecipe" = some (some (.ref C_BadRecipe))) (aY_BadRecipe : PySem.W.nsIn K mainGlobals "YardError" = some (some (.ref Y_BadRecipe))) (a_BadRecipe : PySem.W.findIn K (.ref C_BadRecipe) "__init__" = some (some (.ref fi_BadRecipe))) (l_BadRecipe : K.lookup fi_BadRecipe = some ⟨oc_BadRecipe, od_BadRecipe, .func (PySem.W.fnOf "__init__" "BadRecipe.__init__" (defArgs s_BadRecipe___init__) (defBody s_BadRecipe___init__) (defScope s_BadRecipe___init__) .none kV_BadRecipe dc_BadRecipe pm_BadRecipe an_BadRecipe cd_BadRecipe ct_BadRecipe), sl_BadRecipe⟩) (c_BadRecipe : PySem.W.codeIn K cd_BadRecipe "BadRecipe.__init__" = true) (k_BadRecipe : PySem.W.keepIn K (.ref fi_BadRecipe) = true) (x_BadRecipe : xIn K C_BadRecipe Y_BadRecipe fi_BadRecipe "place" = true)
    {Y_BadText : Addr} (aC_BadText : PySem.W.nsIn K mainGlobals "BadText" = some (some (.ref C_BadText))) (aY_BadText : PySem.W.nsIn K mainGlobals "YardError" = some (some (.ref Y_BadText))) (x_BadText : xBase K C_BadText Y_BadText xn0 = true) (y_BadText : yIn K Y_BadText = true)
    {Y_NoThing : Addr} (aC_NoThing : PySem.W.nsIn K mainGlobals "NoThing" = some (some (.ref C_NoThing))) (aY_NoThing : PySem.W.nsIn K mainGlobals "YardError" = some (some (.ref Y_NoThing))) (x_NoThing : xBase K C_NoThing Y_NoThing xn0 = true) (y_NoThing : yIn K Y_NoThing = true)
    (a1 : IsG K "_law_cell" s__law_cell)
    (a2 : IsG K "_law_raised" s__law_raised)
    (a3 : PySem.W.nsIn K mainGlobals "law" = some (some (.ref f3))) (l3 : K.lookup f3 = some ⟨oc3, od3, .func (PySem.W.fnOf "law" "law" (defArgs s_law) (defBody s_law) (defScope s_law) .none kV3 dc3 pm3 an3 cd3 ct3), sl3⟩) (c3 : PySem.W.codeIn K cd3 "law" = true) (k3 : PySem.W.keepIn K (.ref f3) = true)
    (z_len : PySem.W.nsIn K mainGlobals "len" = some none)
    (z_isinstance : PySem.W.nsIn K mainGlobals "isinstance" = some none)
    (z_range : PySem.W.nsIn K mainGlobals "range" = some none)
    (ak : IsG K "_law_kinds" s__law_kinds) (z_ValueError : PySem.W.nsIn K mainGlobals "ValueError" = some none) {Y : Addr} (aY : PySem.W.nsIn K mainGlobals "YardError" = some (some (.ref Y))) (yY : yIn K Y = true) (kt : kit15 K [(C_BadText, 23), (C_BadName, 24), (C_BadRecipe, 21), (C_BadBook, 22), (C_BadBound, 25), (C_NoThing, 26)] = true) (xb : xb15 K Y [(C_BadText, 23), (C_BadName, 24), (C_BadRecipe, 21), (C_BadBook, 22), (C_BadBound, 25), (C_NoThing, 26)] = true)
    : ∃ fd : FuncData, (∀ (s : Shared) (v : Value), BindsTo s fd ⟨[v], []⟩ [("_law_script", v)]) ∧ fd.scope.names.lookup ("_law_script" : Str) = some .local ∧ ∀ base : Heap, K.In base → base.Ns mainGlobals mg → FnOk l.prog w K mg base CX0 4 fa fd ["_law_script"] (lawSp K) := by
  have e := hfa.symm.trans (PySem.W.mg_of X G a3)
  cases e
  have F3 := fun_mk (x := "law") (qual := "law") (st := s_law) l3 c3 k3
  have b_len := PySem.W.mg_none_of X G z_len
  have b_isinstance := PySem.W.mg_none_of X G z_isinstance
  have b_range := PySem.W.mg_none_of X G z_range
  have FE_BadBook := fun_mk (x := "__init__") (qual := "BadBook.__init__") (st := s_BadBook___init__) l_BadBook c_BadBook k_BadBook
  have BE_BadBook := FE_BadBook.binds (ps := ["self", "row", "place"]) fun _ _ _ _ _ _ us hl => match us, hl with | [_, _, _], _ => rfl
  obtain ⟨mC_BadBook, mY_BadBook, xa_BadBook⟩ := xall_of2 x_BadBook
  have FE_BadRecipe := fun_mk (x := "__init__") (qual := "BadRecipe.__init__") (st := s_BadRecipe___init__) l_BadRecipe c_BadRecipe k_BadRecipe
  have BE_BadRecipe := FE_BadRecipe.binds (ps := ["self", "place"]) fun _ _ _ _ _ _ us hl => match us, hl with | [_, _], _ => rfl
  obtain ⟨mC_BadRecipe, mY_BadRecipe, xa_BadRecipe⟩ := xall_of x_BadRecipe
  refine ⟨(PySem.W.fnOf "law" "law" (defArgs s_law) (defBody s_law) (defScope s_law) .none kV3 dc3 pm3 an3 cd3 ct3), fun s v => .of_eq rfl, by kernel_rfl, fun base _ _ => ?_⟩
  have e_BadBook : TE_BadBook l.prog w K mg base C_BadBook := ⟨⟨_, _, _, _, _, xa_BadBook, init_ok2 FE_BadBook sc_BadBook___init__ rfl xa_BadBook.toXCls xa_BadBook.n1 xa_BadBook.n2 rfl xa_BadBook.m1 xa_BadBook.m2 rfl (by decide) (Or.inl (by kernel_rfl)) (Or.inl (by kernel_rfl)) (Or.inl (by kernel_rfl)) (by kernel_rfl) (by kernel_rfl) (by kernel_rfl) (by kernel_rfl) (by kernel_rfl) (by kernel_rfl) (fun _ _ => rfl) (fun _ _ => rfl), BE_BadBook, PySem.W.mg_of X G aC_BadBook, rfl, rfl⟩⟩
  have e_BadBound : TE_BadBound l.prog w K mg base C_BadBound := hasE0 X G aC_BadBound aY_BadBound x_BadBound y_BadBound
  have e_BadName : TE_BadName l.prog w K mg base C_BadName := hasE0 X G aC_BadName aY_BadName x_BadName y_BadName
  have e_BadRecipe : TE_BadRecipe l.prog w K mg base C_BadRecipe := ⟨⟨_, _, _, _, _, xa_BadRecipe, init_ok FE_BadRecipe sc_BadRecipe___init__ rfl xa_BadRecipe.toXCls xa_BadRecipe.n1 xa_BadRecipe.n2 rfl (Or.inl (by kernel_rfl)) (Or.inl (by kernel_rfl)) (by kernel_rfl) (by kernel_rfl) (by kernel_rfl) (by kernel_rfl) (fun _ _ => rfl), BE_BadRecipe, PySem.W.mg_of X G aC_BadRecipe, rfl⟩⟩
  have e_BadText : TE_BadText l.prog w K mg base C_BadText := hasE0 X G aC_BadText aY_BadText x_BadText y_BadText
  have e_NoThing : TE_NoThing l.prog w K mg base C_NoThing := hasE0 X G aC_NoThing aY_NoThing x_NoThing y_NoThing
  have h__law_cell : T__law_cell l.prog w K mg base C_BadBook C_BadBound C_BadName C_BadRecipe C_BadText C_NoThing := hasG a1 X G fun _ _ F _ _ _ => ok__law_cell F b_len
  have tt := fun (c : Addr × Nat) (m : c ∈ [(C_BadText, 23), (C_BadName, 24), (C_BadRecipe, 21), (C_BadBook, 22), (C_BadBound, 25), (C_NoThing, 26)]) => t15_of (P := l.prog) (w := w) (base := base) (c := c) X G ak kt xb m b_isinstance (PySem.W.mg_of X G aC_BadText) (PySem.W.mg_of X G aC_BadName) (PySem.W.mg_of X G aC_BadRecipe) (PySem.W.mg_of X G aC_BadBook) (PySem.W.mg_of X G aC_BadBound) (PySem.W.mg_of X G aC_NoThing)
  have h__law_raised : T__law_raised l.prog w K mg base C_BadBook C_BadBound C_BadName C_BadRecipe C_BadText C_NoThing := hasG a2 X G fun _ _ F _ _ _ => ok__law_raised ⟨PySem.W.mg_of X G aY, high_of yY⟩ (tt (C_BadRecipe, 21) (by simp)) (tt (C_BadBook, 22) (by simp)) (tt (C_BadText, 23) (by simp)) (tt (C_BadName, 24) (by simp)) (tt (C_BadBound, 25) (by simp)) (tt (C_NoThing, 26) (by simp)) (PySem.W.mg_none_of X G z_ValueError) F e_BadBook e_BadBound e_BadName e_BadRecipe e_BadText e_NoThing b_isinstance
  exact (ok_law F3 e_BadBook e_BadRecipe h__law_cell h__law_raised b_range).imp fun _ _ _ _ h => h _
theorem walk {l : PySem.W.OpenLaw} {q : Program} {loose : List Str} {XP : (Str → Option Value) → Heap → Prop} {YP : World → Heap → Prop} {d : DefRec} {K : Params → PySem.W.Frag} (hn : l.most = some 63) (hdf : d.params.defaults = [])
    (hY : ∀ (w : World) (h : Heap), YP w h → (K w.params).In h)
    (F : ∀ (w : World) (mg : Str → Option Value) (fa : Addr) (h : Heap), (K w.params).In h → h.Ns mainGlobals mg → mg d.name = some (.ref fa) →
      ∃ fd : FuncData, (∀ (s : Shared) (u : Value), BindsTo s fd ⟨[u], []⟩ [("_law_script", u)]) ∧ fd.scope.names.lookup ("_law_script" : Str) = some .local ∧ ∀ base : Heap, (K w.params).In base → base.Ns mainGlobals mg → FnOk l.prog w (K w.params) mg base CX0 4 fa fd ["_law_script"] (lawSp (K w.params))) :
    PySem.W.WalkO q loose XP YP l.row.toRowW d [] (fun f vs => PySem.call f vs) :=
  L2.walk_of (n := 63) (k := 4) (x := "_law_script") (CX := fun _ => CX0) (sp := fun w => lawSp (K w.params)) hn (by decide) hdf ⟨rfl, by decide, by decide⟩ hY F (fun _ _ _ _ hl hO hS => lawSp_in hl hO hS) fun _ _ _ _ _ z => z
end My
open PySem PySem.W PyProof.Rows
set_option maxRecDepth 100000 in
set_option maxHeartbeats 0 in
theorem PySem.Challenge.cw_thingyard_k15_refusals_apart_holds : PySem.Challenge.rw_thingyard_k15_refusals_apart.Holds := by
  w_on; o_law; k_head; (case hw => w_witness2)
  k_fill
  refine My.walk (l := PySem.Challenge.rw_thingyard_k15_refusals_apart) rfl rfl (fun w h Y => PySem.W.kIn_of Y) ?F
  case F =>
    intro w mg fa h KX G hmg
    refine' My.all_mk KX G hmg ?_ ?_ ?_ ?_ ?_ ?_ ?x_BadBook ?_ ?_ ?x_BadBound ?y_BadBound ?_ ?_ ?x_BadName ?y_BadName ?_ ?_ ?_ ?_ ?_ ?_ ?x_BadRecipe ?_ ?_ ?x_BadText ?y_BadText ?_ ?_ ?x_NoThing ?y_NoThing ?_ ?_ ?_ ?_ ?_ ?_ ?_ ?_ ?_ ?_ ?_ ?_ ?yY ?kt ?xb
    all_goals first | k_is | (refine' L2.isG ?a ?l ?c ?k; (case a => k_is); (case l => k_is); (case c => k_is); (case k => k_is)) | (refine' L2.isM ?a ?i ?l ?c ?k; (case a => k_is); (case i => k_is); (case l => k_is); (case c => k_is); (case k => k_is)) | skip
    (case x_BadBook => first | rfl | kernel_rfl)
    (case x_BadBound => first | rfl | kernel_rfl)
    (case y_BadBound => first | rfl | kernel_rfl)
    (case x_BadName => first | rfl | kernel_rfl)
    (case y_BadName => first | rfl | kernel_rfl)
    (case x_BadRecipe => first | rfl | kernel_rfl)
    (case x_BadText => first | rfl | kernel_rfl)
    (case y_BadText => first | rfl | kernel_rfl)
    (case x_NoThing => first | rfl | kernel_rfl)
    (case y_NoThing => first | rfl | kernel_rfl)
    (case yY => first | rfl | kernel_rfl)
    (case kt => first | rfl | kernel_rfl)
    (case xb => first | rfl | kernel_rfl)